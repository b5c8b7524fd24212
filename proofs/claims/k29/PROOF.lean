import PyProof.Rows.All
import Wide.All
import OpenK.AllK
import Wide.FinOn
import Lean
import PyProof.EqAt
import PyProof.EqKinds
import PyProof.TupleCall
import KE.KSortTup
import PyProof.FString
import PyProof.StrBlock
import KE.KRevSl
import PyProof.StrLawsReplace
import PyProof.StrCalls6
import PyProof.MinMaxWalk
import PyProof.WalkInts
import PyProof.NeKinds
import KE.KEqDict
import PyProof.Rows.SumAny
import KE.KMinKey
import PyProof.Rows.CallKwBuiltin
import KE.KIntText
import KE.KDictList
import PySem.Challenge.RW_shortglue_k29_prices_of
set_option Elab.async false
set_option linter.all false
set_option maxRecDepth 100000
set_option bootstrap.genMatcherCode false
set_option compiler.extract_closed false
open List (all_cons all_eq_true all_map any_cons any_eq_false any_eq_true any_map append_assoc append_eq_append_iff append_nil append_of_mem append_toArray cons_append cons_lt_cons_iff contains_iff_mem countP_cons dropLast_concat dropLast_concat_getLast dropLast_eq_take dropLast_sublist drop_drop drop_eq_getElem_cons drop_eq_nil_of_le drop_take drop_zero eq_of_mem_replicate eraseIdxIfInBounds_toArray eraseIdx_cons_succ ext_getElem ext_getElem? extract_eq_take_drop extract_toArray filterMap_append filterMap_cons filterMap_eq_map filterMap_map filter_append filter_congr filter_cons filter_eq_nil_iff filter_map find?_cons find?_cons_of_neg find?_cons_of_pos find?_eq_none find?_eq_some_iff_append find?_map flatMap_append flatMap_cons flatMap_nil flatten_cons foldl_append foldl_cons forIn_cons forIn_nil getD_eq_getElem?_getD getElem?_append_left getElem?_append_right getElem?_cons_succ getElem?_drop getElem?_eq_getElem getElem?_eq_none getElem?_map getElem?_range getElem?_replicate getElem?_reverse getElem?_set getElem?_set_ne getElem?_set_self getElem?_take getElem?_take_of_lt getElem?_toArray getElem?_zip_eq_some getElem_idxOf getElem_inj getElem_map getElem_mem getElem_of_mem getElem_range getElem_toArray getLast?_append getLastD_eq_getLast? getLast_mem idxOf_lt_length_of_mem length_append length_cons length_drop length_dropLast length_eq_zero_iff length_erase_of_mem length_filter_le length_flatten length_map length_nil length_pos_iff length_pos_of_mem length_range length_replicate length_reverse length_set length_singleton length_take lookup_append lookup_cons map_append map_congr_left map_cons map_drop map_eq_nil_iff map_map map_nil map_replicate map_reverse map_set map_take mem_append mem_append_left mem_append_right mem_cons mem_cons_of_mem mem_cons_self mem_erase_of_ne mem_filter mem_filterMap mem_flatMap mem_flatten mem_iff_getElem mem_iff_getElem? mem_map mem_map_of_mem mem_of_getElem? mem_of_mem_drop mem_of_mem_erase mem_of_mem_take mem_range mem_range'_1 mem_replicate mem_reverse mem_singleton ne_nil_of_length_pos nil_append nil_suffix nodup_append nodup_cons nodup_nil nodup_range not_mem_nil of_mem_zip pairwise_append pairwise_cons pairwise_lt_range pairwise_map perm_cons_erase perm_middle push_toArray range_succ range_succ_eq_map replicate_succ reverse_cons set_comm set_cons_succ set_cons_zero singleton_append singleton_inj size_toArray suffix_iff_eq_drop sum_append sum_cons sum_nil sum_replicate_nat tail_cons take_add_one take_append_drop take_length take_nil take_of_length_le take_sublist take_succ_cons take_take take_zero zip_cons_cons zip_nil_left zip_nil_right)
open Nat (add_comm add_le_add_left add_mul add_sub_cancel_left eq_zero_or_pos le_add_right le_of_ble_eq_true le_of_eq le_of_not_lt le_of_succ_le le_succ le_trans log2_lt lt_of_le_of_lt lt_or_ge lt_succ_of_lt lt_succ_self max_le min_eq_left min_eq_right min_le_right mul_le_mul_left mul_le_mul_right mul_pos mul_succ ne_of_gt ne_of_lt not_lt not_lt_zero not_succ_le_self one_mul pow_le_pow_left pow_le_pow_right sub_self succ_mul succ_ne_self succ_pos zero_le)
open Int (add_zero ediv_nonneg ediv_one emod_lt_of_pos emod_nonneg fdiv_eq_ediv_of_nonneg fmod_eq_emod_of_nonneg le_ediv_of_mul_le le_total lt_ediv_add_one_mul_self max_eq_left max_eq_right mul_assoc mul_le_mul_of_nonneg_left mul_le_mul_of_nonneg_right mul_nonneg mul_one mul_zero natCast_nonneg natCast_pow natCast_zero neg_neg not_le pow_pos toNat_natCast)
open Bool (and_eq_false_imp and_eq_true and_eq_true_iff beq_eq_decide_eq false_eq_true not_eq_true or_eq_true)
local macro_rules | `(tactic| walk_at "o")=>`(tactic| first | exact Or.inl rfl | exact Or.inr rfl | exact Or.inr (Or.inl rfl) | exact Or.inr (Or.inr rfl))
set_option maxHeartbeats 4000000
noncomputable section
open And renaming intro→we
open Array renaming getElem?_toList→MT,length_toList→z_,mk→MW,toList→MC
open Bool renaming and_false→M8,eq_iff_iff→K7,false_and→L_,false_ne_true→j_,false_or→Mu,not_eq_true'→Mt
open Classical renaming byContradiction→Km,choose_spec→MV
open False renaming elim→J7
open ForInStep renaming yield→JP
open Int renaming emod_lt_of_pos→Ki,emod_nonneg→Kv,le_of_lt→Nh,le_refl→Kf,natCast_nonneg→M9,sub_zero→Ng,toNat→Kg
open List renaming Nodup→u_,all_eq_true→KJ,any_eq_false→ME,append_assoc→KU,append_nil→JY,contains_iff_mem→JZ,countP_cons→M7,drop_eq_nil_of_le→Lw,ext_getElem?→KW,extract_eq_take_drop→KI,filterMap_cons→Ll,filterMap_map→LK,find?_cons→Kz,foldl→Nb,getD_eq_getElem?_getD→e_,getElem?_append_left→KG,getElem?_append_right→Kj,getElem?_cons_succ→Lf,getElem?_eq_getElem→cx,getElem?_eq_none→x_,getElem?_eq_some_iff→i_,getElem?_map→gV,getElem?_range→Jv,getElem?_set_ne→k_,getElem?_set_self→p_,getElem?_take_of_lt→L1,getElem_mem→Ku,getElem_of_mem→LB,length_eq_zero_iff→JQ,length_filter_le→JR,length_reverse→M4,length_set→JE,length→Mp,lookup_cons→JV,lookup→KF,map_congr_left→Me,mem_append_left→FX,mem_append_right→oe,mem_append→Jw,mem_cons_of_mem→n_,mem_filterMap→Kp,mem_filter→JC,mem_map_of_mem→M6,mem_map→JA,mem_of_getElem?→B_,mem_range'_1→L6,mem_range→JB,mem_singleton→r_,nodup_append→LD,nodup_cons→Lc,range'→Li,range_succ→KP,range→c_,replicate→v_,reverse_cons→ML,suffix_iff_eq_drop→Mg,take_length→KO,take_of_length_le→J3
open List.Pairwise renaming imp_of_mem→Mv
open Nat renaming ble→L3,le_of_ble_eq_true→KE,le_of_eq→LQ,le_of_lt→Nd,le_of_succ_le→LL,le_refl→f_,le_trans→F_,lt_irrefl→E_,lt_of_lt_of_le→t_,lt_succ_of_lt→K4,lt_succ_self→JH,mul_le_mul_right→LJ,mul_le_mul→Ml,ne_of_gt→Mw,ne_of_lt→I_,not_lt_zero→Ke,pow_le_pow_left→MS,pow_le_pow_right→MA,sub_zero→Nf,zero_add→MN,zero_le→Lo
open Ne renaming symm→J_
open Option renaming isSome_iff_exists→Kq,isSome_map→Mr,map_eq_some_iff→Lk
open Option.some renaming inj→vx
open Or renaming inl→M3
open Prod renaming fst→tj,snd→G_
open PyProof renaming noPylong_small→MD
open PyProof.Rows renaming AllBare→Mn,IntsAre→Lr,assignInOrder_cons→K_,boot_all→MB,boot_isinstance→J8,boot_list→My,boot_sum→LR,boot_tuple→J9,callWith_type1→D_,slot_tuple_getitem→Jz
open PySem renaming Around→y_,BindsTo→MF,Builtin→M_,FuncData→JS,IsPart→MI,IsRangeIter→MY,NameKind→JT,Program→s_,PyData→Ld,Shared→cy,Within→Nc,boot_len→m_,call_meets→Md,codeAny_builtin→LZ,codeAny_mono→MG,concat_meets→MH,intItems_at→Ms,mem_of_lookup→Kt,noFill_tuple_add→Mx,numAt_eq→Mi,nums_intItems→LN,plainId_quiet→K6,pushCells_keeps→LW,seqIndex_neg→MK,seqIndex_of→M2,sizeLine_eq→LP,tupleKind_room_in1→Mh,wpAny_Call_Name_kw→Lb,wpAny_bind→cn,wpAny_callSpecial?_slot→J1,wpAny_call_entry→KS,wpAny_execs_nil→LV,wpAny_field→KH,wpAny_holding→JF,wpAny_letGo→Mq,wpAny_mono→H_,wpAny_newObj_type→JI,wpAny_of_eq→KM,wpAny_passesOwn→Kn,wpAny_pure→h_,wpAny_pyIter_list→Ko,wpAny_pyIter_rangeiter→Kw,wpAny_pyIter_tuple→Le,wpAny_rule→MM,wpAny_seqItems→KL,wpAny_specialOf→K8,wpAny_standAt→Kc,wpAny_truthy_bool→JG,wpAny_tryCatch→Mj,wpAny_typeOf→MJ,wpAny_updateSeq→LX
open PySem.Around renaming under_plainId→KN
open PySem.AutoSeq1 renaming wpAny_loadPart'→Ks
open PySem.Builtin.Builtins renaming bindParams→L8
open PySem.Builtin.List renaming listExtendWith→Kb,listLengthHint→L5,listTooLong→K3
open PySem.Builtin.Range renaming rangeFitsLong→g_,rangeSize→q_,small→KZ
open PySem.Builtin.Slice renaming sliceAdjust→KY,sliceApplied→Mb,slicePlaces→Kl
open PySem.Builtin.SmallTypes renaming nextOf→JL
open PySem.Builtin.Str renaming occurrences→Lj,strSliceIndices→Ka,subAt→Lx
open PySem.Builtin.Tuple renaming tupleExact→Kr,tupleItemsOf→Mc
open PySem.Calls renaming Name_function_global→L9,callWith_builtin→Lv,spliced_cons→Kx,spliced_nil→KC
open PySem.F renaming args_tuple_add_2→K0,entry_tuple_add→Lh,plainAttrs_list→C0,plainAttrs_str→MO,slot_dict_pop→MU,slot_list_append→Jx,slot_tuple_add→Ls,type_list_append→Jy
open PySem.Heap renaming ExtBut→M5,SameBut→KQ,get?_push_of_some→d_,get?_push_size→kx,get?_update_other→JD,get?_update_self→Kk,lt_size→l_,size_push→JO
open PySem.IsRange renaming new→MZ
open PySem.NameKind renaming cell→KB,free→K5
open PySem.Obj renaming mapSeq→LH
open PySem.PassesOwn renaming never→tf
open PySem.PyData renaming canLay0→Lz,canLayAll0→Ly,depthAll→K9,depth→L7,eqv→Mf,weightAll→Mz
open PySem.SeqAt renaming shaped→JU
open PySem.Str renaming ofString→Lu
open PySem.StrLaws renaming occBody→LY
open PySem.Value renaming bool→J4,float→MX,int→Lg,none→JX,ref→so,str→LF,type→J5
open PySem.W renaming Frag→b_,OpenLaw→MR,boot_heap→JW,cellsFrom_some→Ky,codeIn→JJ,emptyDict→JN,findIn→o_,fnOf→Eo,hasDictIn→Ln,instObj→J6,isFn→L4,keepIn→C_,kia_one→JK,kitAny→LA,kitOne→Kh,kitx_dict→Lq,kitx_list→Lp,lookIn→Ma,makesIn→MQ,methodObj→Mm,mg_none_of→A_,mg_of→KA,nsIn→w_,plainGet_of→L0,plainGet→KR,plainOver→Mo,takerIn→MP,typeIn→M0
open Sum renaming inl→J0,inr→Na
open True renaming intro→JM
namespace L2
open PySem PySem.W
noncomputable def oA(tb:String->Option M_)(p:s_)(w:World)(n₀:Nat)(ann:Option Value):Nat->SharedT->Thread->Option SharedT
 | 0,_,_=>none
 | n+1,s,t=>match through t with
  | true=>some s
  | false=>match stepOk n₀ ann t with
   | false=>none
   | true=>match stepT (denote tb) p w s t with
    | some (s',t')=>oA tb p w n₀ ann n s' t'
    | none=>none
variable {w:World}
theorem p3{tb:String->Option M_}{p:s_}{n₀:Nat}{ann:Option Value}:∀{n:Nat}{s s':SharedT}{t:Thread},oA tb p w n₀ ann n s t=some s'->topRun tb p w n₀ ann n s.abs t=some s'.abs
 | 0,_,_,_,h=>by cases h
 | n+1,s,s',t,h=>by
  unfold oA at h;unfold topRun
  cases he:through t with
  | true=>rw [he] at h;cases h;rfl
  | false =>
   rw [he] at h
   cases hk:stepOk n₀ ann t with
   | false=>rw [hk] at h;cases h
   | true =>
    rw [hk] at h
    cases hs:stepT (denote tb) p w s t with
    | none=>rw [hs] at h;cases h
    | some r=>obtain⟨s₂,t₂⟩:=r;rw [hs] at h;rw [stepT_spec hs];exact p3 h
noncomputable def AH:List Obj->Nat->BT->BT
 | [],_,t=>t
 | o::r,i,t=>AH r (i+1) (t.ins i o)
noncomputable def BC(P:Params):BT:=AH (JW P).objs.toList 0 .nil
theorem yP:∀P,absHeap (BC P) (JW P).objs.size (JW P).life=JW P:=λP=>by kernel_rfl
variable {α:Type}
theorem DB{p q:s_}{loose:List Str}{Xt:cy->Bool}{Yf:cy->α}{Ya:World->α}{N:Nat}{g0:Bool}{m₀:Nat}{ann:Option Value}(e:opening p=plainProg p.main.scope.names)(hN:L3 600 N=true)(f:∀s,fenceModules? p s=some s)(size:∀w:World,((JW w.params).isNs mainGlobals && (MW []:Array GenState).size == 0,(JW w.params).objs.size,(JW w.params).nsMap mainGlobals "__annotations__")=(true,m₀,ann))(run:∀(w:World) (os:OsState),(oA treeTable p w m₀ ann N ⟨BC w.params,m₀,(JW w.params).life,MW [],boot_drawn,boot_toks,os⟩ (topStub p)).map (λsT=>((staticsOk (importedModules p.main.body) (JW w.params) sT.abs.heap && namesBound p sT.abs.heap && gensDone sT.abs && laidKept (JW w.params) sT.abs.heap),openSeen q loose (importedModules p.main.body) Xt g0 sT.abs,Yf sT.abs))=some (true,openGood q loose,Ya w)):LeftO p q loose Xt Yf Ya N g0:=λw=>by
 obtain⟨⟨h,gs,d,k,os⟩,e,e'⟩:=Lk.mp (boot_open e hN f w);obtain⟨rfl,rfl,rfl,rfl⟩:h=JW w.params/\gs=MW []/\d=boot_drawn/\k=boot_toks:=by simpa using e'
 obtain⟨z1,z2,z3⟩:_/\_/\_:=by simpa only [Prod.mk.injEq] using size w
 obtain⟨sT,r,l⟩:=Lk.mp (run w os);obtain⟨l1,l2,l3⟩:_/\_/\_:=by simpa only [Prod.mk.injEq] using l
 have r:=p3 r
 rw [show SharedT.abs ⟨BC w.params,m₀,(JW w.params).life,MW [],boot_drawn,boot_toks,os⟩=⟨JW w.params,MW [],boot_drawn,boot_toks,os⟩ by
  unfold SharedT.abs;dsimp only;rw [<- z2,yP]] at r
 have t:topFrom treeTable p w N ⟨JW w.params,MW [],boot_drawn,boot_toks,os⟩=some sT.abs:=by
  unfold topFrom;dsimp only;rw [z1,z2,z3,r];show (match staticsOk (importedModules p.main.body) (JW w.params) sT.abs.heap && namesBound p sT.abs.heap && gensDone sT.abs && laidKept (JW w.params) sT.abs.heap with|true=>_|false=>_)=_;rw [l1]
 unfold openEnds;rw [e];show (topFrom treeTable p w N _).map _=_;rw [t];exact congrArg some (Prod.ext l2 l3)
end L2
section
open PySem PySem.W PyProof.Rows
noncomputable def BD:s_:=PySem.W.view PySem.Challenge.pw_shortglue_k29_prices_of [1,2,3,4,5,7,8,9,10,12,13,14,16,17,19,20,21,22,23,24,26,27,28,29,31,32,34,35,36,37,38,40,41,42,43,44,45,46,47,48,49,50,51,52,53,54,55,56,57,58,59]
local macro_rules | `(tactic| o_head $H)=>`(tactic| (refine holds_open (q:=BD) (loose:=[PySem.Str.ofString "is_text"]) (Xt:=fun s=>xlAt BD [] s && recOk (RowW.records (OpenRow.toRowW (OpenLaw.row PySem.Challenge.rw_shortglue_k29_prices_of))) s) (XP:=XL BD []) (Yf:=Hook.obs $H) (Ya:=Hook.val $H) (YP:=Hook.says $H) (N:=5096) ?hl (Hook.of $H) (Hook.keeps $H) (fun s e=>xl_of s (and_eq_true_iff.mp e).1) XL.keeps (by rfl) (by rfl) (by rfl) (fun s e=>recFacts_of (and_eq_true_iff.mp e).2) (by rfl) (by first | assumption | decide +kernel) (by decide +kernel) ⟨rfl,rfl,rfl,rfl,rfl,by decide +kernel⟩ ?hw ?hc;(case hl=>(refine L2.DB (m₀:=11) (ann:=some (.ref 6)) (by kernel_rfl) (by rfl) (fun s=>by kernel_rfl) (fun w=>by kernel_rfl) ?_;intro w os;kernel_rfl))))
set_option maxRecDepth 100000 in
set_option maxHeartbeats 0 in
open_top topHd for PySem.Challenge.rw_shortglue_k29_prices_of
end
-- CHANGE: your row's module here,as the last of these rows
namespace L2
open PySem PySem.Spec PyProof.Rows
abbrev Key:=Sum Int Str
noncomputable def uN:Key->Value->Bool
 | .inl k,v=>Value.isInt k v
 | .inr x,v=>Value.isStrOf x v
noncomputable def IX(w:World):Key->Int
 | .inl k=>hashInt k
 | .inr x=>hashStr w x
theorem bx:∀{k:Key}{v:Value},uN k v=true->(∃i t,k=J0 i/\v=Lg i t)\/(∃x t,k=Na x/\v=LF x t)
 | .inl i,v,h=>by
  obtain⟨t,e⟩:=Value.isInt_shape (k:=i) (v:=v) h;exact .inl ⟨i,t,rfl,e⟩
 | .inr x,v,h=>by
  obtain⟨t,e⟩:=Value.isStrOf_shape (x:=x) (v:=v) h;exact .inr ⟨x,t,rfl,e⟩
def vX(i:Int)(t:Tok):uN (.inl i) (.int i t)=true:=by simp [uN,Value.isInt]
def vY(x:Str)(t:Tok):uN (.inr x) (.str x t)=true:=by simp [uN,Value.isStrOf]
def DC(a b:Int):decide ((J0 a:Key)=J0 b)=(a == b):=by
 by_cases e:a=b
 .subst e;simp
 .have h:¬ (J0 a:Key)=J0 b:=λq=>e (Sum.inl.inj q);rw [decide_eq_false h];exact (beq_eq_false_iff_ne.mpr e).symm
def DD(a b:Str):decide ((Na a:Key)=Na b)=decide (a=b):=by
 by_cases e:a=b
 .subst e;simp
 .have h:¬ (Na a:Key)=Na b:=λq=>e (Sum.inr.inj q);rw [decide_eq_false h,decide_eq_false e]
def DE(a:Int)(b:Str):decide ((J0 a:Key)=Na b)=false:=decide_eq_false (λq=>nomatch q)
def DF(a:Str)(b:Int):decide ((Na a:Key)=J0 b)=false:=decide_eq_false (λq=>nomatch q)
noncomputable def bV(prog:s_)(w:World):PySem.KeyKind prog w Key where
 is:=uN
 hash:=IX w
 inj:=λv a b ha hb=>by
  rcases bx ha with ⟨i,t,rfl,rfl⟩|⟨x,t,rfl,rfl⟩
  .rcases bx hb with ⟨j,u,rfl,e⟩|⟨y,u,rfl,e⟩
   .injection e with e1 _;rw [e1]
   .exact nomatch e
  .rcases bx hb with ⟨j,u,rfl,e⟩|⟨y,u,rfl,e⟩
   .exact nomatch e
   .injection e with e1 _;rw [e1]
 byValue:=λk v h=>by
  rcases bx h with ⟨i,t,rfl,rfl⟩|⟨x,t,rfl,rfl⟩ <;> rfl
 pyHash:=λhv h=>by
  rcases bx hv with ⟨i,t,rfl,rfl⟩|⟨x,t,rfl,rfl⟩
  .exact wpAny_pyHash_int h
  .exact wpAny_pyHash_str h
 eqBool:=λhu hv h=>by
  rcases bx hu with ⟨i,t,rfl,rfl⟩|⟨x,t,rfl,rfl⟩
  .rcases bx hv with ⟨j,u,rfl,rfl⟩|⟨y,u,rfl,rfl⟩
   .rw [DC] at h;exact wpAny_eqBool_int h
   .rw [DE] at h;exact SeqAt.EqAt.int_str i t y u _ _ _ _ h
  .rcases bx hv with ⟨j,u,rfl,rfl⟩|⟨y,u,rfl,rfl⟩
   .rw [DF] at h;exact SeqAt.EqAt.str_int x t j u _ _ _ _ h
   .rw [DD] at h;exact wpAny_eqBool_str h
 «strs»:=λk x t v h=>by
  rcases bx h with ⟨i,u,rfl,e⟩|⟨y,u,rfl,e⟩
  .exact nomatch e
  .injection e with e1 _;subst e1;cases v <;> rfl
def rN(prog:s_)(w:World)(i:Int)(t:Tok):(bV prog w).is (.inl i) (.int i t)=true:=vX i t
def rO(prog:s_)(w:World)(x:Str)(t:Tok):(bV prog w).is (.inr x) (.str x t)=true:=vY x t
inductive V where
 | non|bl (b:Bool)|int (i:Int)|str (x:Str)|byt (b:Array UInt8)|flt (b:UInt64)|ref (a:Addr)|ty (n:String)
 deriving DecidableEq
noncomputable def bW:V->Value->Prop
 | .non,u=>u=JX
 | .bl b,u=>u=J4 b
 | .int i,u=>∃t,u=Lg i t
 | .str x,u=>∃t,u=LF x t
 | .byt b,u=>∃t,u=Value.bytes b t
 | .flt b,u=>∃t,u=MX b t
 | .ref a,u=>u=so a
 | .ty n,u=>u=J5 n
abbrev bD:List V->List Value->Prop:=Paired bW
variable {xs:List V}{us:List Value}
def bD.length(r:bD xs us):xs.length=us.length:=Paired.length r
theorem bD.get:∀{xs:List V}{us:List Value}{i:Nat}{x:V},bD xs us->xs[i]?=some x->∃u,us[i]?=some u/\bW x u
 | _,_,_,_,.nil,e=>by simp at e
 | _,_,0,_,.cons r _,e=>by simp at e;subst e;exact⟨_,rfl,r⟩
 | _,_,i+1,x,.cons _ t,e=>by
  obtain⟨u,h1,h2⟩:=bD.get (i:=i) (x:=x) t (by simpa using e);exact⟨u,by simpa using h1,h2⟩
variable {u:Value}
theorem bD.set{x:V}(r:bW x u):∀{xs:List V}{us:List Value} (i:Nat),bD xs us->bD (xs.set i x) (us.set i u)
 | _,_,_,.nil=>.nil
 | _,_,0,.cons _ t=>.cons r t
 | _,_,i+1,.cons q t=>.cons q (bD.set r i t)
theorem bD.append:∀{xs ys:List V}{us ws:List Value},bD xs us->bD ys ws->bD (xs++ys) (us++ws)
 | _,_,_,_,.nil,s=>s
 | _,_,_,_,.cons r t,s=>.cons r (bD.append t s)
theorem bD.take:∀{xs:List V}{us:List Value} (n:Nat),bD xs us->bD (xs.take n) (us.take n)
 | _,_,0,_=>.nil
 | _,_,_+1,.nil=>.nil
 | _,_,n+1,.cons r t=>.cons r (bD.take n t)
theorem bD.drop:∀{xs:List V}{us:List Value} (n:Nat),bD xs us->bD (xs.drop n) (us.drop n)
 | _,_,0,r=>r
 | _,_,_+1,.nil=>.nil
 | _,_,n+1,.cons _ t=>bD.drop n t
noncomputable def p4:Option V->Option Value->Prop
 | some v,some u=>bW v u
 | none,none=>True
 | _,_=>False
noncomputable def KV{κ:Type}:List (κ×V)->List (κ×Value)->Prop:=Paired λ(p:κ×V) (q:κ×Value)=>p.1=q.1/\bW p.2 q.2
noncomputable def kV:Key->V
 | .inl i=>.int i
 | .inr x=>.str x
inductive HO where
 | lst (xs:List V)
 | tup (xs:List V)
 | dK (kvs:List (Key×V))|dT (kvs:List (List Key×V))
 | set (S:Int->Bool) (n:Nat)
 | ins (C dx:Addr) (fs:List (Str×V))
 | own (x:Addr)
 | xd (fs:List (Str×V))
 | met (f x:Addr)
 | rng (lo hi:Int)
 | frz (o:Obj) (u:HO)
 | tbl (ps:Array Value)
 | ext (φ:Heap->Prop)
abbrev Hp:=Addr->Option HO
noncomputable def upd(H:Hp)(a:Addr)(o:HO):Hp:=λb=>if b=a then some o else H b
variable {H:Hp}{a:Addr}{o:HO}
def aC:upd H a o a=some o:=by unfold upd;rw [if_pos rfl]
variable {b:Addr}
def ar(h:b≠a):upd H a o b=H b:=by unfold upd;rw [if_neg h]
def GN{u:HO}(h:H a=some o)(h':H b=some u)(d:o≠u):a≠b:=by
 intro e;subst e;rw [h] at h';exact d (vx h')
def aP(h:H a=some o)(h':H b=none):a≠b:=by
 intro e;subst e;rw [h] at h';cases h'
noncomputable def rP(H:Hp)(h:Heap)(a:Addr)(q:Str):List Value->Prop
 | []=>True
 | .int _ _::.int _ _::.ref c::r=>H c=some (.own a)/\(∃(oc:Obj) (vs:Array Value) (t:Tok),h.get? c=some oc/\oc.data=.fields vs/\vs[1]?=some (.str q t))/\rP H h a q r
 | _=>False
variable {H':Hp}{h h':Heap}
theorem rP.stay{q:Str}(k:∀b u,H b=some (.own a)->h.get? b=some u->h'.get? b=some u)(ho:∀b,H b=some (.own a)->H' b=some (.own a)):∀l:List Value,rP H h a q l->rP H' h' a q l
 | [],_=>trivial
 | .int _ _::.int _ _::.ref c::r,x=>by
  obtain⟨x1,⟨oc,vs,t,e1,e2,e3⟩,x2⟩:=x;exact⟨ho _ x1,⟨oc,vs,t,k _ _ x1 e1,e2,e3⟩,rP.stay k ho r x2⟩
noncomputable def yQ(H:Hp)(h:Heap)(a:Addr)(ps:Array Value):Prop:=∃(q:Str) (t:Tok) (more real:Array Value),ps=#[.str q t]++more/\h.get? a=some { cls:=.none,data:=.fields real }/\rP H h a q real.toList
section
variable (P:s_) (w:World)
noncomputable def bB(H:Hp)(h:Heap)(a:Addr):HO->Prop
 | .lst xs=>xs.length<=sizeLine/\∃(its:List Value) (n:Nat),bD xs its/\h.get? a=some { cls:=.type "list",data:=.seq its.toArray n }
 | .tup xs=>xs.length<=sizeLine/\∃its:List Value,bD xs its/\IsTup h a its.toArray
 | .dK kvs=>kvs.length<=sizeLine/\(a == sysModules)=false/\∃vs,KV kvs vs/\h.DictOf (bV P w) a vs
 | .dT kvs=>kvs.length<=sizeLine/\(a == sysModules)=false/\∃xs:List (List Key×Addr×Value),
   Paired (λ(p:List Key×V) (q:List Key×Addr×Value)=>p.1=q.1/\H q.2.1=some (.tup (p.1.map kV))/\bW p.2 q.2.2) kvs xs /\
   ∃o es ep,h.get? a=some o/\o.ExactDict/\o.data=.dict es ep/\es.toList=xs.map (entryOfKey (tupleKind (bV P w)))/\(xs.map (·.1)).Nodup
 | .set S n=>h.SetOf (intKind P w) a S n
 | .ins C dx fs=>H dx=some (.own a)/\fs.length<=1000/\dx≠a/\h.get? a=some (J6 C dx) /\
   ∃mA,h.Ns1 dx mA/\(∀f,p4 (fs.lookup f) (mA f))/\Nc mA (fs.map (·.1))
 | .own _=>∃o,h.get? a=some o
 | .xd fs=>∃mA,h.Ns1 a mA/\∀f,p4 (fs.lookup f) (mA f)
 | .rng lo hi=>∃t u v,h.get? a=some { cls:=.type "range",data:=.fields #[.int lo t,.int hi u,.int 1 v] }
 | .frz o u=>h.get? a=some o/\bB H h a u
 | .tbl ps=>yQ H h a ps
 | .met f x=>h.get? a=some (Mm (.ref f) (.ref x))
 | .ext φ=>φ h/\(∃o,h.get? a=some o)/\∀h1 h2:Heap,φ h1->(∀o,h1.get? a=some o->h2.get? a=some o)->φ h2
noncomputable def HOk(H:Hp)(h:Heap):Prop:=∀a o,H a=some o->bB P w H h a o
end
section
variable {P:s_}{w:World}
def bB.lt(x:bB P w H h a o):a<h.objs.size:=by
 cases o with
 | lst xs=>obtain⟨_,_,_,_,e⟩:=x;exact l_ e
 | tup xs=>obtain⟨_,_,_,p⟩:=x;exact p.lt
 | dK kvs=>obtain⟨_,_,_,_,o,_,_,e,_⟩:=x;exact l_ e
 | dT kvs=>obtain⟨_,_,_,_,o,_,_,e,_⟩:=x;exact l_ e
 | set S n=>obtain⟨o,_,_,_,e,_⟩:=x;exact l_ e
 | ins C dx fs=>obtain⟨_,_,_,e,_⟩:=x;exact l_ e
 | own y=>obtain⟨_,e⟩:=x;exact l_ e
 | xd fs=>obtain⟨_,⟨_,_,_,e,_⟩,_⟩:=x;exact l_ e
 | rng lo hi=>obtain⟨_,_,_,e⟩:=x;exact l_ e
 | frz ob u=>obtain⟨e,_⟩:=x;exact l_ e
 | tbl ps=>obtain⟨_,_,_,_,_,e,_⟩:=x;exact l_ e
 | met f y=>exact l_ (show h.get? a=some _ from x)
 | ext φ=>obtain⟨_,⟨_,e⟩,_⟩:=x;exact l_ e
variable {α β:Type}
theorem Paired.mapP{F G:α->β->Prop}:∀{l₁:List α}{l₂:List β},Paired F l₁ l₂->(∀a b,F a b->G a b)->Paired G l₁ l₂
 | _,_,.nil,_=>.nil
 | _,_,.cons r t,f=>.cons (f _ _ r) (Paired.mapP t f)
def bB.stay(x:bB P w H h a o)(k:∀b u,(b=a\/H b=some (.own a))->h.get? b=some u->h'.get? b=some u)(ho:∀b,H b=some (.own a)->H' b=some (.own a))(ht:∀b xs,H b=some (.tup xs)->H' b=some (.tup xs)):bB P w H' h' a o:=by
 induction o with
 | lst xs=>obtain⟨z,its,n,r,e⟩:=x;exact⟨z,its,n,r,k _ _ (.inl rfl) e⟩
 | tup xs=>obtain⟨z,its,r,ob,e,c⟩:=x;exact⟨z,its,r,ob,k _ _ (.inl rfl) e,c⟩
 | dK kvs=>obtain⟨z,y,vs,r,ob,es,ep,e,c⟩:=x;exact⟨z,y,vs,r,ob,es,ep,k _ _ (.inl rfl) e,c⟩
 | dT kvs =>
  obtain⟨z,y,xs,r,ob,es,ep,e,c⟩:=x;exact⟨z,y,xs,Paired.mapP r λp q z=>⟨z.1,ht _ _ z.2.1,z.2.2⟩,ob,es,ep,k _ _ (.inl rfl) e,c⟩
 | set S n=>obtain⟨ob,es,ep,t,e,c⟩:=x;exact⟨ob,es,ep,t,k _ _ (.inl rfl) e,c⟩
 | ins C dx fs =>
  obtain⟨d,z,ne,e,mA,⟨od,es,ep,e2,c⟩,r⟩:=x;exact⟨ho _ d,z,ne,k _ _ (.inl rfl) e,mA,⟨od,es,ep,k _ _ (.inr d) e2,c⟩,r⟩
 | own y=>obtain⟨ob,e⟩:=x;exact⟨ob,k _ _ (.inl rfl) e⟩
 | xd fs=>obtain⟨mA,⟨od,es,ep,e,c⟩,r⟩:=x;exact⟨mA,⟨od,es,ep,k _ _ (.inl rfl) e,c⟩,r⟩
 | rng lo hi=>obtain⟨t,u,v,e⟩:=x;exact⟨t,u,v,k _ _ (.inl rfl) e⟩
 | frz ob u ih=>obtain⟨e,q⟩:=x;exact⟨k _ _ (.inl rfl) e,ih q⟩
 | tbl ps =>
  obtain⟨q,t,more,real,e1,e,r⟩:=x;exact⟨q,t,more,real,e1,k a _ (.inl rfl) e,rP.stay (λb u z=>k b u (.inr z)) ho _ r⟩
 | met f y =>
  have e:h.get? a=some (Mm (.ref f) (.ref y)):=x;show h'.get? a=some (Mm (.ref f) (.ref y));exact k a _ (.inl rfl) e
 | ext φ=>obtain⟨p,⟨o,e⟩,st⟩:=x;exact⟨st _ _ p λo q=>k _ _ (.inl rfl) q,⟨o,k _ _ (.inl rfl) e⟩,st⟩
def HOk.lt(x:HOk P w H h)(e:H a=some o):a<h.objs.size:=(x a o e).lt
def HOk.fresh(x:HOk P w H h)(e:h.objs.size<=a):H a=none:=by
 cases q:H a with
 | none=>rfl
 | some u=>exact absurd (t_ (x.lt q) e) (E_ _)
def HOk.kept(x:HOk P w H h)(k:∀b u,h.get? b=some u->h'.get? b=some u):HOk P w H h':=λa o e =>
 (x a o e).stay (λb u _ q=>k b u q) (λ_ q=>q) λ_ _ q=>q
def HOk.laid(x:HOk P w H h)(k:∀b u,h.get? b=some u->h'.get? b=some u)(hp:h.objs.size<=a)(new:bB P w (upd H a o) h' a o):HOk P w (upd H a o) h':=λb u e=>by
 have hn:=x.fresh hp
 by_cases hb:b=a
 .subst hb;rw [aC] at e;cases e;exact new
 .rw [ar hb] at e;exact (x b u e).stay (λc v _ q=>k c v q) (λc q=>by rw [ar (aP q hn)];exact q) λc xs q=>by rw [ar (aP q hn)];exact q
end
noncomputable def Rd(H:Hp)(a:Addr)(u:HO):Prop:=H a=some u\/∃o,H a=some (.frz o u)
variable {w:World}
def Rd.ok{P:s_}{u:HO}(r:Rd H a u)(x:HOk P w H h):bB P w H h a u:=by
 rcases r with r|⟨o,r⟩
 .exact x a u r
 .obtain⟨_,q⟩:=x a _ r;exact q
noncomputable def Mut:Option HO->Prop
 | some (.lst _)=>True
 | some (.dK _)=>True
 | some (.dT _)=>True
 | some (.set _ _)=>True
 | some (.ins _ _ _)=>True
 | some (.ext _)=>True
 | _=>False
section
variable {P:s_}{x e:Addr}{o':HO}
def HOk.write(ok:HOk P w H h)(mu:Mut (H x))(he:e=x\/H e=some (.own x))(k:∀b u,b≠e->h.get? b=some u->h'.get? b=some u)(heo:∃u,h'.get? e=some u)(new:bB P w (upd H x o') h' x o'):HOk P w (upd H x o') h':=λb u q=>by
 have nown:∀c y,H c=some (.own y)->c≠x:=λc y r z=>by subst z;rw [r] at mu;exact mu
 have ntup:∀c xs,H c=some (.tup xs)->c≠x:=λc xs r z=>by subst z;rw [r] at mu;exact mu
 by_cases hb:b=x
 .subst hb;rw [aC] at q;cases q;exact new
 .rw [ar hb] at q
  by_cases hbe:b=e
  .have q':H b=some (.own x):=by
    rcases he with z|z
    .exact absurd (hbe.trans z) hb
    .rw [hbe];exact z
   rw [q] at q';cases q';obtain⟨v,hv⟩:=heo;exact⟨v,by rw [hbe];exact hv⟩
  .refine (ok b u q).stay (λc v hc r=>k c v ?_ r) (λc r=>by rw [ar (nown c b r)];exact r) λc xs r=>by rw [ar (ntup c xs r)];exact r
   rcases hc with rfl|hc
   .exact hbe
   .rintro rfl
    rcases he with z|z
    .exact nown c b hc z
    .rw [hc] at z;cases z;exact hb rfl
end
structure Un (fs ex:List Addr) (H H':Hp) (h h':Heap):Prop where
 keep:∀b o,h.get? b=some o->H b=none->b∉fs->b∉ex->h'.get? b=some o
 slot:∀b o,h.get? b=some o->H b=none->b∈fs->b∉ex->∃sl,h'.get? b=some { o with slots:=sl }
 free:∀b o,h.get? b=some o->H b=none->b∉ex->H' b=none
 there:∀b o,h.get? b=some o->b∉ex->∃o',h'.get? b=some o'
 tups:∀b xs,H b=some (.tup xs)->H' b=some (.tup xs)
 frzs:∀b o u,H b=some (.frz o u)->H' b=some (.frz o u)
 tbls:∀b ps,H b=some (.tbl ps)->∃more,H' b=some (.tbl (ps++more))
section
variable {fs ex:List Addr}{H1:Hp}{h1:Heap}
def Un.any(u:Un fs ex H H1 h h1){ob:Obj}(q:h.get? b=some ob)(n:H b=none)(hx:b∉ex):∃sl,h1.get? b=some { ob with slots:=sl }:=by
 by_cases hb:b∈fs
 .exact u.slot b ob q n hb hx
 .exact⟨ob.slots,u.keep b ob q n hb hx⟩
def Un.kept(k:∀b u,h.get? b=some u->h'.get? b=some u):Un fs ex H H h h' :=
 ⟨λb ob q _ _ _=>k b ob q,λb ob q _ _ _=>⟨ob.slots,k b ob q⟩,λ_ _ _ n _=>n,λb ob q _=>⟨ob,k b ob q⟩,λ_ _ q=>q,λ_ _ _ q=>q,λ_ ps q=>⟨#[],by rw [q];simp⟩⟩
def Un.refl:Un fs ex H H h h:=Un.kept λ_ _ q=>q
def Un.laid(k:∀b u,h.get? b=some u->h'.get? b=some u)(hp:h.objs.size<=a)(hn:H a=none):Un fs ex H (upd H a o) h h' where
 keep:=λb u q _ _ _=>k b u q
 slot:=λb u q _ _ _=>⟨u.slots,k b u q⟩
 free:=λb u q n _=>by rw [ar (I_ (t_ (l_ q) hp))];exact n
 there:=λb u q _=>⟨u,k b u q⟩
 tups:=λb xs q=>by rw [ar (aP q hn)];exact q
 frzs:=λb u xs q=>by rw [ar (aP q hn)];exact q
 tbls:=λb ps q=>⟨#[],by rw [ar (aP q hn),q];simp⟩
variable {x e:Addr}
def Un.write(mu:Mut (H x))(he:e=x\/H e=some (.own x))(k:∀b u,b≠e->h.get? b=some u->h'.get? b=some u)(heo:∃u,h'.get? e=some u):Un fs ex H (upd H x o) h h':=by
 have hx:∀b,H b=none->b≠x:=λb n z=>by subst z;rw [n] at mu;exact mu
 have hb:∀b,H b=none->b≠e:=λb n z=>by
  subst z
  rcases he with r|r
  .exact hx b n r
  .rw [n] at r;cases r
 have hm:∀b u,H b=some u->¬ Mut (some u)->b≠x:=λb u q nm z=>by subst z;rw [q] at mu;exact nm mu
 refine⟨λb u q n _ _=>k b u (hb b n) q,λb u q n _ _=>⟨u.slots,k b u (hb b n) q⟩,λb u q n _=>by rw [ar (hx b n)];exact n,λb u q _=>?_,
  λb xs q=>by rw [ar (hm b _ q λz=>z)];exact q,λb u xs q=>by rw [ar (hm b _ q λz=>z)];exact q,λb ps q=>⟨#[],by rw [ar (hm b _ q λz=>z),q];simp⟩⟩
 by_cases hbe:b=e
 .subst hbe;exact heo
 .exact⟨u,k b u hbe q⟩
end
noncomputable def trk(h:Heap)(H:Hp):List Addr:=(c_ h.objs.size).filter λa=>(H a).isSome
noncomputable def DG(h:Heap)(H:Hp):Heap:=PySem.W.hideAll h (trk h H)
def vZ(h:Heap)(H:Hp):(DG h H).objs.size=h.objs.size:=PySem.W.hideAll_size _ _
def yR{o:Obj}(e:h.get? b=some o)(n:H b=none):(DG h H).get? b=some o :=
 PySem.W.hideAll_get _ e λhm=>by
  have q:(H b).isSome=true:=(JC.mp hm).2;rw [n] at q;simp at q
def BE{o:Obj}(e:(DG h H).get? b=some o):h.get? b=some o/\H b=none:=by
 have e':h.get? b=some o:=PySem.W.of_hideAll (trk h H) e;refine⟨e',?_⟩
 cases q:H b with
 | none=>rfl
 | some x =>
  have hm:b∈trk h H:=JC.mpr ⟨JB.mpr (l_ e'),by simp [q]⟩;have z:(DG h H).get? b=none:=PySem.W.hideAll_none (trk h H) hm;rw [z] at e;cases e
noncomputable def p5(base:Heap)(H:Hp):Prop:=∀(P:Addr) (r:List Nat),base.life.registered=P::r->∃(t:Tok) (more:Array Value),H P=some (.tbl (#[.str ⟨r.toArray⟩ t]++more))
variable {base:Heap}
def p5.un{fs ex:List Addr}(x:p5 base H)(u:Un fs ex H H' h h'):p5 base H':=λP r e=>by
 obtain⟨t,more,q⟩:=x P r e;obtain⟨m2,q2⟩:=u.tbls P _ q;exact⟨t,more++m2,by rw [q2,Array.append_assoc]⟩
noncomputable def DH(h:Heap)(H:Hp):Heap:={ DG h H with life:={} }
structure Mod (K:b_) (mg:Str->Option Value) (base:Heap):Prop where
 kin:K.In base
 glob:base.Ns mainGlobals mg
 blt:∃mb,base.Ns builtinsNs mb/\∀x:Str,x≠"__name__"->mb x=bootBuiltins x
 nolimit:base.NoLimit
structure Cx where
 prog:s_
 w:World
 K:b_
 mg:Str->Option Value
 base:Heap
 A:y_
 N:List Str
 s₀:cy
 H₀:Hp
 env:Env
 outer:List Env
 stack:List Env
 ex:List Addr
 fn:Str->Bool
 calm:Bool
 pn:List (Addr×Obj)
 xe:Value->cy->Prop
noncomputable def frs(l:List Env):List Addr:=l.filterMap (·.frame)
abbrev Cx.fs(X:Cx):List Addr:=frs X.outer
noncomputable def Vis(sc:Scope)(x:Str):Prop:=sc.names.lookup x=some .local\/sc.names.lookup x=some .cell\/sc.names.lookup x=some .free
noncomputable def Loc(sc:Scope)(x:Str):Prop:=sc.names.lookup x=some .local\/sc.names.lookup x=some .cell
noncomputable def IY(env:Env)(h:Heap)(m:Str->Option Value)(x:Str)(u:Value):Prop :=
 (env.kindOf x=some .local/\m x=some u)\/((env.kindOf x=some .cell\/env.kindOf x=some .free)/\∃c,env.cells.lookup x=some c/\h.IsCell c (some u))
structure Cx.Ok (X:Cx):Prop where
 mod:Mod X.K X.mg X.base
 kind:X.env.scope.kind=.function
 glob:X.env.globals=mainGlobals
 blt:X.env.builtins=builtinsNs
 above:X.s₀.heap.objs.size<=X.env.locals
 inj:∀x y c,X.env.cells.lookup x=some c->X.env.cells.lookup y=some c->x=y
 has:∀x,(X.env.kindOf x=some .cell\/X.env.kindOf x=some .free)->∃c,X.env.cells.lookup x=some c
 cab:∀x c,X.fn x=true->X.env.cells.lookup x=some c->X.s₀.heap.objs.size<=c
 hd:X.calm=true->X.A.handled=none
 frames:X.A.frames=some X.stack
 stk:X.stack=X.outer\/(X.stack=X.env::X.outer/\X.env.frame=some X.env.locals)
 exf:∀b∈X.ex,b≠X.env.locals/\∀x c,X.env.cells.lookup x=some c->c≠b
 bs:∀b o,X.base.get? b=some o->X.s₀.heap.get? b=some o/\X.H₀ b=none
 bsz:X.base.objs.size<=X.s₀.heap.objs.size
 noex:∀b o,X.base.get? b=some o->b∉X.ex
 exfs:∀b∈X.ex,b∉X.fs
 funs:X.s₀.heap.FunFrames X.base X.outer
 frf:∀b∈X.fs,X.H₀ b=none
 tb:p5 X.base X.H₀
structure Inv (X:Cx) (pins:List (Addr×Obj)) (σ:List (Option V)) (H:Hp) (s:cy):Prop where
 ok:X.Ok
 os:s.os=X.s₀.os
 bare:Mn s.gens
 base:Un X.fs X.ex X.H₀ H X.s₀.heap s.heap
 loc:∃m,s.heap.Ns X.env.locals m/\∀(i:Nat) (x:Str) (v:V),X.N[i]?=some x->σ[i]?=some (some v)->Vis X.env.scope x->∃u,bW v u/\IY X.env s.heap m x u
 cell:∀x c,X.env.cells.lookup x=some c->∃v,s.heap.IsCell c v
 free:H X.env.locals=none
 freeC:∀x c,X.env.cells.lookup x=some c->H c=none
 pin:∀p∈X.pn++pins,s.heap.get? p.1=some p.2/\H p.1=none/\p.1≠X.env.locals/\p.1∉X.fs/\∀v,p.2.data≠.cell v
 hok:HOk X.prog X.w H s.heap
 len:σ.length=X.N.length
variable {X:Cx}
def Cx.Ok.nofr(ok:X.Ok){o:Obj}(e:X.base.get? b=some o):b∉X.fs:=λhb=>by
 have:=(ok.funs.mem hb).1;rw [e] at this;cases this
variable {pins:List (Addr×Obj)}{σ:List (Option V)}{s:cy}
def Inv.bs(I:Inv X pins σ H s):∀b o,X.base.get? b=some o->s.heap.get? b=some o/\H b=none:=λb o e =>
 ⟨I.base.keep b o (I.ok.bs b o e).1 (I.ok.bs b o e).2 (I.ok.nofr e) (I.ok.noex b o e),I.base.free b o (I.ok.bs b o e).1 (I.ok.bs b o e).2 (I.ok.noex b o e)⟩
def Inv.bk(I:Inv X pins σ H s):∀b o,X.base.get? b=some o->s.heap.get? b=some o:=λb o e=>(I.bs b o e).1
def Inv.mod(I:Inv X pins σ H s):Mod X.K X.mg X.base:=I.ok.mod
def Inv.kIn(I:Inv X pins σ H s):X.K.In s.heap:=I.ok.mod.kin.keeps I.bk
def Inv.lt(I:Inv X pins σ H s):X.env.locals<s.heap.objs.size:=let ⟨_,hn,_⟩:=I.loc;hn.lt
def Inv.sz(I:Inv X pins σ H s):X.s₀.heap.objs.size<=s.heap.objs.size:=F_ I.ok.above (Nd I.lt)
def Inv.nofs(I:Inv X pins σ H s)(h:s.heap.objs.size<=a):a∉X.fs:=λhb=>by
 obtain⟨_,o,ho,_⟩:=I.ok.funs.mem hb;exact absurd (t_ (l_ ho) (F_ I.sz h)) (E_ _)
def Inv.cne(I:Inv X pins σ H s):∀x c,X.env.cells.lookup x=some c->c≠X.env.locals:=λx c e z=>by
 obtain⟨v,o,ho,hd⟩:=I.cell x c e;obtain⟨m,⟨o',es,ep,ho',hd',_⟩,_⟩:=I.loc;rw [z,ho'] at ho;cases ho;rw [hd'] at hd;cases hd
def Inv.funs(I:Inv X pins σ H s):s.heap.FunFrames X.base X.outer:=by
 have all:∀(l:List Env),(∀b∈frs l,b∈X.fs)->X.s₀.heap.FunFrames X.base l->s.heap.FunFrames X.base l:=by
  intro l
  induction l with
  | nil=>intro _ _;trivial
  | cons env r ih =>
   intro hs hl;obtain⟨hk,⟨L,o,hf,hn,ho,hd⟩,hr⟩:=hl;have hL:L∈X.fs:=hs L (by unfold frs;rw [Ll,hf];exact mem_cons_self);obtain⟨sl,e⟩:=I.base.slot L o ho (I.ok.frf L hL) hL λz=>I.ok.exfs L z hL;exact⟨hk,⟨L,_,hf,hn,e,hd⟩,ih (λb hb=>hs b (by unfold frs;rw [Ll,hf];exact n_ _ hb)) hr⟩
 exact all X.outer (λ_ hb=>hb) I.ok.funs
def Inv.stack(I:Inv X pins σ H s):s.heap.FunFrames X.base X.stack:=by
 rcases I.ok.stk with e|⟨e,hf⟩
 .rw [e];exact I.funs
 .rw [e];obtain⟨m,hn,_⟩:=I.loc;refine .cons (by rw [I.ok.kind];decide) hf hn ?_ I.funs;exact Heap.get?_none_of_le (F_ I.ok.bsz I.ok.above)
def Inv.stkSub(I:Inv X pins σ H s):∀b∈frs X.stack,b∈X.env.locals::X.fs:=λb hb=>by
 rcases I.ok.stk with e|⟨e,hf⟩
 .rw [e] at hb;exact n_ _ hb
 .rw [e] at hb;unfold frs at hb;rw [Ll,hf] at hb;exact hb
def Inv.stkFree(I:Inv X pins σ H s):∀b∈frs X.stack,H b=none:=λb hb=>by
 rcases mem_cons.mp (I.stkSub b hb) with e|hb
 .rw [e];exact I.free
 .obtain⟨_,o,ho,_⟩:=I.ok.funs.mem hb;exact I.base.free b o ho (I.ok.frf b hb) λz=>I.ok.exfs b z hb
variable {t':Nat}
def Inv.step{g':Array GenState}{d':Drawn}{ch:List Addr}(I:Inv X pins σ H s)(hch:∀b∈ch,(b∈X.ex\/X.s₀.heap.objs.size<=b)/\b≠X.env.locals/\(∀x c,X.env.cells.lookup x=some c->c≠b)/\∀p∈X.pn++pins,p.1≠b)(keep:∀b o,b≠X.env.locals->b∉X.fs->b∉ch->s.heap.get? b=some o->H b=none->h'.get? b=some o)(slot:∀b o,b≠X.env.locals->b∈X.fs->b∉ch->s.heap.get? b=some o->H b=none->∃sl,h'.get? b=some { o with slots:=sl })(free:∀b o,b∉ch->s.heap.get? b=some o->H b=none->H' b=none)(there:∀b o,b∉ch->s.heap.get? b=some o->∃o',h'.get? b=some o')(tups:∀b xs,H b=some (.tup xs)->H' b=some (.tup xs))(frzs:∀b o u,H b=some (.frz o u)->H' b=some (.frz o u))(tbls:∀b ps,H b=some (.tbl ps)->∃more,H' b=some (.tbl (ps++more)))(ns:∀m,s.heap.Ns X.env.locals m->h'.Ns X.env.locals m)(hok:HOk X.prog X.w H' h')(hg:Mn g'):
  Inv X pins σ H' { s with heap:=h',gens:=g',drawn:=d',toks:=t' }:=by
 have neL:∀b o,X.s₀.heap.get? b=some o->b≠X.env.locals:=λb o e=>I_ (t_ (l_ e) I.ok.above)
 have neC:∀b o,X.s₀.heap.get? b=some o->b∉X.ex->b∉ch:=λb o e hx hb=>by
  rcases (hch b hb).1 with z|z
  .exact hx z
  .exact absurd (t_ (l_ e) z) (E_ _)
 have cellK:∀x c,X.env.cells.lookup x=some c->∀v,s.heap.IsCell c v->h'.IsCell c v:=λx c e v ⟨o,ho,hd⟩=>by
  have nch:c∉ch:=λz=>(hch c z).2.2.1 x c e rfl
  by_cases hc:c∈X.fs
  .obtain⟨sl,q⟩:=slot c o (I.cne x c e) hc nch ho (I.freeC x c e);exact⟨_,q,hd⟩
  .exact⟨o,keep c o (I.cne x c e) hc nch ho (I.freeC x c e),hd⟩
 refine⟨I.ok,I.os,hg,⟨λb o e n hb hx=>?_,λb o e n hb hx=>?_,λb o e n hx=>?_,λb o e hx=>?_,λb xs e=>tups b xs (I.base.tups b xs e),λb o xs e=>frzs b o xs (I.base.frzs b o xs e),λb ps e=>?_⟩,?_,λx c e=>?_,?_,λx c e=>?_,λp hp=>?_,hok,I.len⟩
 .exact keep b o (neL b o e) hb (neC b o e hx) (I.base.keep b o e n hb hx) (I.base.free b o e n hx)
 .obtain⟨sl,e1⟩:=I.base.slot b o e n hb hx;obtain⟨sl',e2⟩:=slot b _ (neL b o e) hb (neC b o e hx) e1 (I.base.free b o e n hx);exact⟨sl',e2⟩
 .obtain⟨o',e1⟩:=I.base.there b o e hx;exact free b o' (neC b o e hx) e1 (I.base.free b o e n hx)
 .obtain⟨o',e1⟩:=I.base.there b o e hx;exact there b o' (neC b o e hx) e1
 .obtain⟨m1,e1⟩:=I.base.tbls b ps e;obtain⟨m2,e2⟩:=tbls b _ e1;exact⟨m1++m2,by rw [e2,Array.append_assoc]⟩
 .obtain⟨m,hn,hl⟩:=I.loc;refine⟨m,ns m hn,λi x v e1 e2 e3=>?_⟩;obtain⟨u,r,l⟩:=hl i x v e1 e2 e3;refine⟨u,r,?_⟩
  rcases l with l|⟨k,c,e,z⟩
  .exact .inl l
  .exact .inr ⟨k,c,e,cellK x c e _ z⟩
 .obtain⟨v,z⟩:=I.cell x c e;exact⟨v,cellK x c e v z⟩
 .obtain⟨m,⟨o,_,_,ho,_⟩,_⟩:=I.loc;exact free _ o (λz=>(hch _ z).2.1 rfl) ho I.free
 .obtain⟨v,o,ho,hd⟩:=I.cell x c e;exact free c o (λz=>(hch c z).2.2.1 x c e rfl) ho (I.freeC x c e)
 .obtain⟨e,n,ne,nf,d⟩:=I.pin p hp;have nch:p.1∉ch:=λz=>(hch p.1 z).2.2.2 p hp rfl;exact⟨keep p.1 p.2 ne nf nch e n,free p.1 p.2 nch e n,ne,nf,d⟩
def Inv.un(I:Inv X pins σ H s)(u:Un X.fs [] H H' s.heap h')(hok:HOk X.prog X.w H' h'):Inv X pins σ H' { s with heap:=h',toks:=t' }:=by
 obtain⟨m,⟨o,es,ep,ho,r⟩,_⟩:=id I.loc;obtain⟨sl,hL⟩:=u.any ho I.free (by simp)
 exact I.step (g':=s.gens) (d':=s.drawn) (ch:=[]) (λ_ z=>nomatch z) (λb o _ hb _ e n=>u.keep b o e n hb (by simp)) (λb o _ hb _ e n=>u.slot b o e n hb (by simp)) (λb o _ e n=>u.free b o e n (by simp)) (λb o _ e=>u.there b o e (by simp)) u.tups u.frzs u.tbls (λm' hm=>by
  obtain⟨o',es',ep',ho',r'⟩:=hm;rw [ho] at ho';cases ho';exact⟨_,es',ep',hL,r'⟩) hok I.bare
def Inv.call{g':Array GenState}{d':Drawn}{ch:List Addr}(I:Inv X pins σ H s)(u:Un (frs X.stack) ch H H' s.heap h')(hok:HOk X.prog X.w H' h')(hg:Mn g')(hch:∀b∈ch,(b∈X.ex\/X.s₀.heap.objs.size<=b)/\b≠X.env.locals/\(∀x c,X.env.cells.lookup x=some c->c≠b)/\∀p∈X.pn++pins,p.1≠b):
  Inv X pins σ H' { s with heap:=h',gens:=g',drawn:=d',toks:=t' }:=by
 obtain⟨m,⟨o,es,ep,ho,r⟩,_⟩:=id I.loc;obtain⟨sl,hL⟩:=u.any ho I.free λz=>(hch _ z).2.1 rfl
 exact I.step (ch:=ch) hch (λb o hL hb hc e n=>u.keep b o e n (λz=>(mem_cons.mp (I.stkSub b z)).elim hL hb) hc) (λb o _ _ hc e n=>u.any e n hc) (λb o hc e n=>u.free b o e n hc) (λb o hc e=>u.there b o e hc) u.tups u.frzs u.tbls (λm' hm=>by
  obtain⟨o',es',ep',ho',r'⟩:=hm;rw [ho] at ho';cases ho';exact⟨_,es',ep',hL,r'⟩) hok hg
variable {it:Addr}
def Inv.turned(I:Inv X pins σ H s)(k:∀b o,b≠it->s.heap.get? b=some o->h'.get? b=some o)(hn:H it=none)(hL:it≠X.env.locals)(h1:it∈X.ex\/X.s₀.heap.objs.size<=it)(h2:∀x c,X.env.cells.lookup x=some c->c≠it)(h3:∀p∈X.pn++pins,p.1≠it):Inv X pins σ H { s with heap:=h',toks:=t' }:=by
 have nit:∀b u,H b=some u->b≠it:=λb u e z=>by rw [z,hn] at e;cases e
 refine I.step (g':=s.gens) (d':=s.drawn) (ch:=[it]) (λb hb=>?_) (λb o _ _ hc e _=>k b o (λz=>hc (by simp [z])) e) (λb o _ _ hc e _=>⟨o.slots,k b o (λz=>hc (by simp [z])) e⟩) (λ_ _ _ _ n=>n)
  (λb o hc e=>⟨o,k b o (λz=>hc (by simp [z])) e⟩) (λ_ _ e=>e) (λ_ _ _ e=>e) (λb ps e=>⟨#[],by rw [e];simp⟩) (λm hm=>?_) (λb u e=>?_) I.bare
 .have e:b=it:=by simpa using hb
  subst e;exact⟨h1,hL,h2,h3⟩
 .obtain⟨o,es,ep,ho,r⟩:=hm;exact⟨o,es,ep,k _ o (J_ hL) ho,r⟩
 .refine (I.hok b u e).stay (λc v hc q=>k c v ?_ q) (λ_ q=>q) λ_ _ q=>q
  rcases hc with z|z
  .rw [z];exact nit b u e
  .exact nit c _ z
def Inv.tok(I:Inv X pins σ H s)(t:Nat):Inv X pins σ H { s with toks:=t }:=I.un (h':=s.heap) (t':=t) Un.refl I.hok
def Inv.kept(I:Inv X pins σ H s)(k:∀b u,s.heap.get? b=some u->h'.get? b=some u):Inv X pins σ H { s with heap:=h',toks:=t' }:=I.un (Un.kept k) (I.hok.kept k)
def Inv.laid(I:Inv X pins σ H s)(k:∀b u,s.heap.get? b=some u->h'.get? b=some u)(hp:s.heap.objs.size<=a)(new:bB X.prog X.w (upd H a o) h' a o):
  Inv X pins σ (upd H a o) { s with heap:=h',toks:=t' }:=I.un (Un.laid k hp (I.hok.fresh hp)) (I.hok.laid k hp new)
def Inv.write{x e:Addr}(I:Inv X pins σ H s)(mu:Mut (H x))(he:e=x\/H e=some (.own x))(k:∀b u,b≠e->s.heap.get? b=some u->h'.get? b=some u)(heo:∃u,h'.get? e=some u)(new:bB X.prog X.w (upd H x o) h' x o):Inv X pins σ (upd H x o) { s with heap:=h',toks:=t' }:=I.un (Un.write mu he k heo) (I.hok.write mu he k heo new)
def Inv.pins_of{pins':List (Addr×Obj)}(I:Inv X pins σ H s)(h:∀p∈pins',s.heap.get? p.1=some p.2/\H p.1=none/\p.1≠X.env.locals/\p.1∉X.fs/\∀v,p.2.data≠.cell v):Inv X pins' σ H s :=
 ⟨I.ok,I.os,I.bare,I.base,I.loc,I.cell,I.free,I.freeC,λp hp=>(Jw.mp hp).elim (λz=>I.pin p (FX _ z)) (h p),I.hok,I.len⟩
variable {N:List Str}{i j:Nat}{x:Str}
def tV(hN:N.Nodup)(a:N[i]?=some x)(b:N[j]?=some x):i=j:=by
 obtain⟨h1,e1⟩:=i_.mp a;obtain⟨h2,e2⟩:=i_.mp b;exact (getElem_inj hN).mp (e1.trans e2.symm)
variable {M:Model}{A:y_}{E:Value->cy->Prop}{v:V}
theorem wc{Q:Unit->cy->Prop}(I:Inv X pins σ H s)(hN:X.N.Nodup)(hi:X.N[i]?=some x)(hx:Loc X.env.scope x)(r:bW v u)(h:∀s',Inv X pins (σ.set i (some v)) H s'->(∃a,KQ a s.heap s'.heap/\(a=X.env.locals\/X.env.cells.lookup x=some a))->Q () s')(hf:X.fn x=true\/X.env.scope.names.lookup x=some .local:=by first|exact .inl rfl|exact .inr rfl|assumption):wpAny M A (storeName X.env x u) Q E s:=by
 obtain⟨m,hn,hl⟩:=id I.loc;have hcls:(X.env.scope.kind == .class || (X.env.scope.kind == .module && X.env.locals != X.env.globals))=false:=by rw [I.ok.kind];rfl
 have hiσ:i<σ.length:=by rw [I.len];exact (i_.mp hi).1
 have cne:=I.cne
 have tracked:∀{a:Addr}{h':Heap},(∃o,s.heap.get? a=some o/\H a=none)->KQ a s.heap h'->HOk X.prog X.w H h':=λ{a h'} ha hs b ob e=>by
  obtain⟨_,_,hfree⟩:=ha;refine (I.hok b ob e).stay (λc w' hc q=>(hs.2 c ?_).trans q) (λ_ q=>q) λ_ _ q=>q;rintro rfl
  rcases hc with rfl|hc
  .rw [hfree] at e;cases e
  .rw [hfree] at hc;cases hc
 rcases hx with hk|hk
 .refine wpAny_storeName_local hk hn (λh' hn' hs=>?_) hcls;obtain⟨oL,_,_,hoL,_⟩:=id hn
  refine h _ ⟨I.ok,I.os,I.bare,⟨λb o e n hb hx=>?_,λb o e n hb hx=>?_,I.base.free,λb o e hx=>?_,I.base.tups,I.base.frzs,I.base.tbls⟩,⟨_,hn',λj y v' e1 e2 e3=>?_⟩,λy c e=>?_,I.free,I.freeC,λp hp=>?_,tracked ⟨oL,hoL,I.free⟩ hs,by simpa using I.len⟩ ⟨_,hs,.inl rfl⟩
  .exact (hs.2 b (I_ (t_ (l_ e) I.ok.above))).trans (I.base.keep b o e n hb hx)
  .obtain⟨sl,e1⟩:=I.base.slot b o e n hb hx;exact⟨sl,(hs.2 b (I_ (t_ (l_ e) I.ok.above))).trans e1⟩
  .obtain⟨o',e1⟩:=I.base.there b o e hx;exact⟨o',(hs.2 b (I_ (t_ (l_ e) I.ok.above))).trans e1⟩
  .by_cases hj:j=i
   .subst hj;rw [hi] at e1;cases e1;rw [p_ hiσ] at e2;cases e2;exact⟨u,r,.inl ⟨hk,by simp⟩⟩
   .rw [k_ (J_ hj)] at e2;obtain⟨u',r',q⟩:=hl j y v' e1 e2 e3;refine⟨u',r',?_⟩
    rcases q with ⟨k,e⟩|⟨k,c,e,z⟩
    .refine .inl ⟨k,?_⟩;have:y≠x:=λe=>hj (tV hN e1 (e ▸ hi));simp [this,e]
    .exact .inr ⟨k,c,e,z.sameBut hs (cne y c e)⟩
  .obtain⟨w',z⟩:=I.cell y c e;exact⟨w',z.sameBut hs (cne y c e)⟩
  .obtain⟨e,n,ne,nf,d⟩:=I.pin p hp;exact⟨(hs.2 p.1 ne).trans e,n,ne,nf,d⟩
 .have hfn:X.fn x=true:=by
   rcases hf with z|z
   .exact z
   .rw [z] at hk;cases hk
  obtain⟨c,hc⟩:=I.ok.has x (.inl hk);obtain⟨w',z⟩:=I.cell x c hc;refine wpAny_storeName_cell I.ok.kind hk hc z (λh' hc' hs=>?_);obtain⟨oc,hoc,hocd⟩:=id z
  refine h { s with heap:=h' } ⟨I.ok,I.os,I.bare,⟨λb o e n hb hx=>?_,λb o e n hb hx=>?_,I.base.free,λb o e hx=>?_,I.base.tups,I.base.frzs,I.base.tbls⟩,⟨m,hn.sameBut hs (J_ (cne x c hc)),λj y v' e1 e2 e3=>?_⟩,λy c' e=>?_,I.free,I.freeC,λp hp=>?_,tracked ⟨oc,hoc,I.freeC x c hc⟩ hs,by simpa using I.len⟩ ⟨c,hs,.inr hc⟩
  .exact (hs.2 b (I_ (t_ (l_ e) (I.ok.cab x c hfn hc)))).trans (I.base.keep b o e n hb hx)
  .obtain⟨sl,e1⟩:=I.base.slot b o e n hb hx;exact⟨sl,(hs.2 b (I_ (t_ (l_ e) (I.ok.cab x c hfn hc)))).trans e1⟩
  .obtain⟨o',e1⟩:=I.base.there b o e hx;exact⟨o',(hs.2 b (I_ (t_ (l_ e) (I.ok.cab x c hfn hc)))).trans e1⟩
  .by_cases hj:j=i
   .subst hj;rw [hi] at e1;cases e1;rw [p_ hiσ] at e2;cases e2;exact⟨u,r,.inr ⟨.inl hk,c,hc,hc'⟩⟩
   .rw [k_ (J_ hj)] at e2;obtain⟨u',r',q⟩:=hl j y v' e1 e2 e3;refine⟨u',r',?_⟩
    rcases q with q|⟨k,c',e,z'⟩
    .exact .inl q
    .refine .inr ⟨k,c',e,z'.sameBut hs ?_⟩;rintro rfl;exact hj (tV hN e1 (I.ok.inj _ _ _ e hc ▸ hi))
  .by_cases hcc:c'=c
   .subst hcc;exact⟨_,hc'⟩
   .obtain⟨w2,z2⟩:=I.cell y c' e;exact⟨w2,z2.sameBut hs hcc⟩
  .obtain⟨e,n,ne,nf,d⟩:=I.pin p hp;refine⟨(hs.2 p.1 ?_).trans e,n,ne,nf,d⟩;intro q;rw [q,hoc] at e;have q':oc=p.2:=vx e;exact d w' (by rw [<- q'];exact hocd)
theorem gU{Q:Unit->cy->Prop}(I:Inv X pins σ H s)(hN:X.N.Nodup)(hi:X.N[i]?=some x)(hx:Loc X.env.scope x)(r:bW v u)(h:∀s',Inv X pins (σ.set i (some v)) H s'->Q () s')(hf:X.fn x=true\/X.env.scope.names.lookup x=some .local:=by first|exact .inl rfl|exact .inr rfl|assumption):wpAny M A (storeName X.env x u) Q E s :=
 wc I hN hi hx r (λs' I' _=>h s' I') hf
def Inv.call'{s':cy}{ch:List Addr}(I:Inv X pins σ H s)(ho:s'.os=s.os)(u:Un (frs X.stack) ch H H' s.heap s'.heap)(hok:HOk X.prog X.w H' s'.heap)(hg:Mn s'.gens)(hch:∀b∈ch,(b∈X.ex\/X.s₀.heap.objs.size<=b)/\b≠X.env.locals/\(∀x c,X.env.cells.lookup x=some c->c≠b)/\∀p∈X.pn++pins,p.1≠b):Inv X pins σ H' s':=by
 obtain⟨h',g',d',t',o'⟩:=s';have e:o'=s.os:=ho;subst e;exact I.call (g':=g') (t':=t') (d':=d') u hok hg hch
abbrev XK:=Value->Option Addr->Hp->Prop
abbrev St:=List (Option V)
abbrev VK:=V->Hp->Prop
abbrev TE:=St->Hp->VK->Prop
abbrev TT:=St->Hp->(Bool->Hp->Prop)->Prop
abbrev TA:=St->Hp->(List V->Hp->Prop)->Prop
structure BF where
 nx:St->Hp->Prop
 rt:VK
 bk:St->Hp->Prop:=λ_ _=>False
 ct:St->Hp->Prop:=λ_ _=>False
abbrev TS:=BF->St->Hp->Prop
noncomputable def EP(X:Cx)(pins:List (Addr×Obj))(σ:St)(Q:VK)(u:Value)(s':cy):Prop:=∃v H',Inv X pins σ H' s'/\bW v u/\Q v H'
noncomputable def TP(X:Cx)(pins:List (Addr×Obj))(σ:St)(Q:Bool->Hp->Prop)(b:Bool)(s':cy):Prop:=∃H',Inv X pins σ H' s'/\Q b H'
noncomputable def AP(X:Cx)(pins:List (Addr×Obj))(σ:St)(Q:List V->Hp->Prop)(us:List Value)(s':cy):Prop:=∃vs H',Inv X pins σ H' s'/\bD vs us/\Q vs H'
noncomputable def SP(X:Cx)(pins:List (Addr×Obj))(D:BF)(f:Flow)(s':cy):Prop :=
 match f with
 | .next=>∃σ' H',Inv X pins σ' H' s'/\D.nx σ' H'
 | .brk=>∃σ' H',Inv X pins σ' H' s'/\D.bk σ' H'
 | .cont=>∃σ' H',Inv X pins σ' H' s'/\D.ct σ' H'
 | .ret u=>∃v σ' H',Inv X pins σ' H' s'/\bW v u/\D.rt v H'
noncomputable def PE(X:Cx)(e:Expr)(t:TE):Prop :=
 ∀(pins:List (Addr×Obj)) (s:cy) (σ:St) (H:Hp) (Q:VK),Inv X pins σ H s->t σ H Q->wpAny (model X.prog X.w) X.A (eval e X.env) (EP X pins σ Q) X.xe s
noncomputable def PT(X:Cx)(e:Expr)(t:TT):Prop :=
 ∀(pins:List (Addr×Obj)) (s:cy) (σ:St) (H:Hp) (Q:Bool->Hp->Prop),Inv X pins σ H s->t σ H Q->wpAny (model X.prog X.w) X.A (isTrue e X.env (eval e X.env)) (TP X pins σ Q) X.xe s
noncomputable def PW(X:Cx)(e:Expr)(t:TT):Prop :=
 ∀(whole:Sem Value) (pins:List (Addr×Obj)) (s:cy) (σ:St) (H:Hp) (Q:Bool->Hp->Prop),Inv X pins σ H s->t σ H Q->wpAny (model X.prog X.w) X.A (isTrue e X.env whole) (TP X pins σ Q) X.xe s
variable {e:Expr}
def PW.pt{t:TT}(h:PW X e t):PT X e t:=h _
noncomputable def PA(X:Cx)(es:List Expr)(t:TA):Prop :=
 ∀(pos:Pos) (pins:List (Addr×Obj)) (s:cy) (σ:St) (H:Hp) (Q:List V->Hp->Prop),Inv X pins σ H s->t σ H Q->wpAny (model X.prog X.w) X.A (spliced (backTo pos (starEach es X.env))) (AP X pins σ Q) X.xe s
noncomputable def PS(X:Cx)(st:Stmt)(t:TS):Prop :=
 ∀(pins:List (Addr×Obj)) (s:cy) (σ:St) (H:Hp) (D:BF),Inv X pins σ H s->t D σ H->wpAny (model X.prog X.w) X.A (exec st X.env) (SP X pins D) X.xe s
noncomputable def PSs(X:Cx)(st:List Stmt)(t:TS):Prop :=
 ∀(pins:List (Addr×Obj)) (s:cy) (σ:St) (H:Hp) (D:BF),Inv X pins σ H s->t D σ H->wpAny (model X.prog X.w) X.A (execs st X.env) (SP X pins D) X.xe s
variable {α:Type}
def thn{t:Sem α}{Q Q':α->cy->Prop}(h:wpAny M A t Q E s)(hQ:∀a s,Q a s->Q' a s):wpAny M A t Q' E s:=H_ h hQ λ_ _ x=>x
noncomputable def aH(i:Nat):TE:=λσ H Q=>∃v,σ[i]?=some (some v)/\Q v H
def tC(v:V):TE:=λ_ H Q=>Q v H
variable {pos:Pos}
def DI(hN:X.N[i]?=some x)(hv:Vis X.env.scope x)(hd:(x == ("__debug__":Str))=false:=by decide)(hcd:(x == ("__classdict__":Str))=false:=by decide):PE X (.Name x pos) (aH i):=by
 intro pins s σ H Q I h;obtain⟨v,e,h⟩:=h;obtain⟨m,hn,hl⟩:=I.loc;obtain⟨u,r,l⟩:=hl i x v hN e hv;have fin:EP X pins σ Q u s:=⟨v,H,I,r,h⟩
 rcases l with ⟨hk,hm⟩|⟨hk,c,hc,hcell⟩
 .exact wpAny_Name (wpAny_loadName_local I.ok.kind hk hn hm fin) hd
 .rcases hk with hk|hk
  .exact wpAny_Name (wpAny_loadName_cell I.ok.kind hk hc hcell fin) hd
  .exact wpAny_Name (wpAny_loadName_free I.ok.kind hk hc hcell fin hcd) hd
def ao{i j pos}:PE X (.Constant (.int i) j pos) (tC (.int i)):=λ_ _ _ H _ I h=>wpAny_Constant_int ⟨.int i,H,I.tok _,⟨_,rfl⟩,h⟩
def g9{b j pos}:PE X (.Constant (.bool b) j pos) (tC (.bl b)):=λ_ _ _ H _ I h=>Constant_bool ⟨.bl b,H,I,rfl,h⟩
def DJ{j pos}:PE X (.Constant .none j pos) (tC .non):=λ_ _ _ H _ I h=>Constant_none ⟨.non,H,I,rfl,h⟩
def DK{x j pos}:PE X (.Constant (.str x) j pos) (tC (.str x)):=λ_ _ _ H _ I h=>Calls.Constant_str ⟨.str x,H,I.tok _,⟨_,rfl⟩,h⟩
noncomputable def Gl(X:Cx)(x:Str):Prop:=X.env.kindOf x=some .globalImplicit
variable {Q:Value->cy->Prop}
def rQ{σ:St}(I:Inv X pins σ H s)(hg:Gl X x)(hm:X.mg x=some u)(h:Q u s)(hd:(x == ("__debug__":Str))=false:=by decide):wpAny (model X.prog X.w) X.A (eval (.Name x pos) X.env) Q E s :=
 L9 I.ok.kind hg (Calls.loadGlobal_global (by rw [I.ok.glob];exact I.mod.glob.keeps I.bk) hm h) hd
def gu{σ:St}(I:Inv X pins σ H s)(hg:Gl X x)(hm:X.mg x=none)(hv:bootBuiltins x=some u)(h:Q u s)(hn:x≠"__name__":=by decide)(hd:(x == ("__debug__":Str))=false:=by decide):wpAny (model X.prog X.w) X.A (eval (.Name x pos) X.env) Q E s:=by
 obtain⟨mb,h1,h2⟩:=I.mod.blt;exact L9 I.ok.kind hg (Calls.loadGlobal_builtin (by rw [I.ok.glob];exact I.mod.glob.keeps I.bk) hm (by rw [I.ok.blt];exact h1.keeps I.bk) ((h2 x hn).trans hv) h) hd
def BG(hg:Gl X x)(hm:X.mg x=some u)(r:bW v u)(hd:(x == ("__debug__":Str))=false:=by decide):PE X (.Name x pos) (tC v) :=
 λ_ _ _ H _ I h=>rQ I hg hm ⟨v,H,I,r,h⟩ hd
def fG(hg:Gl X x)(hm:X.mg x=none)(hv:bootBuiltins x=some u)(r:bW v u)(hn:x≠"__name__":=by decide)(hd:(x == ("__debug__":Str))=false:=by decide):PE X (.Name x pos) (tC v) :=
 λ_ _ _ H _ I h=>gu I hg hm hv ⟨v,H,I,r,h⟩ hn hd
noncomputable def tB(t:TE):TT:=λσ H Q=>t σ H λx H1=>∃c,x=.bl c/\Q c H1
def DL{t:TE}(h:PE X e t)(he:∀whole,isTrue e X.env whole=(do let v <- whole;standAt e.pos;holding [v] (truthy v)):=by intro _;rfl):PT X e (tB t):=by
 intro pins s σ H Q I hw;refine isTrue_plain (thn (h pins s σ H _ I hw) λv s1 ⟨x,H1,I1,r1,q1⟩=>?_) (he _);obtain⟨d,rfl,q⟩:=q1;cases r1;exact JG ⟨H1,I1,q⟩
noncomputable def GO(t u:TT):TT:=λσ H Q=>t σ H λc H1=>if c=true then u σ H1 Q else Q false H1
noncomputable def tOr(t u:TT):TT:=λσ H Q=>t σ H λc H1=>if c=true then Q true H1 else u σ H1 Q
noncomputable def GP(t:TT):TT:=λσ H Q=>t σ H λc H1=>Q (!c) H1
variable {a:Expr}{tA:TT}
def jD(ha:PT X a tA):PW X (.BoolOp .And [a] pos) tA:=by
 intro wh pins s σ H Q I h;refine isTrue_and (thn (ha pins s σ H Q I h) λc s1 e=>?_)
 cases c with
 | true=>exact isTrue_and_nil e
 | false=>exact e
def nP(ha:PT X a tA):PW X (.BoolOp .Or [a] pos) tA:=by
 intro wh pins s σ H Q I h;refine isTrue_or (thn (ha pins s σ H Q I h) λc s1 e=>?_)
 cases c with
 | false=>exact isTrue_or_nil e
 | true=>exact e
variable {b:Expr}{tB':TT}{rest:List Expr}
def nQ(ha:PT X a tA)(hb:PW X (.BoolOp .And (b::rest) pos) tB'):PW X (.BoolOp .And (a::b::rest) pos) (GO tA tB'):=by
 intro wh pins s σ H Q I h;refine isTrue_and (thn (ha pins s σ H _ I h) λc s1 ⟨H1,I1,q1⟩=>?_)
 cases c with
 | true=>exact hb wh pins s1 σ H1 Q I1 q1
 | false=>exact⟨H1,I1,q1⟩
def uO(ha:PT X a tA)(hb:PW X (.BoolOp .Or (b::rest) pos) tB'):PW X (.BoolOp .Or (a::b::rest) pos) (tOr tA tB'):=by
 intro wh pins s σ H Q I h;refine isTrue_or (thn (ha pins s σ H _ I h) λc s1 ⟨H1,I1,q1⟩=>?_)
 cases c with
 | true=>exact⟨H1,I1,q1⟩
 | false=>exact hb wh pins s1 σ H1 Q I1 q1
def fZ(ha:PT X a tA):PT X (.UnaryOp .Not a pos) (GP tA):=by
 intro pins s σ H Q I h;exact isTrue_not (ha pins s σ H (λc H1=>Q (!c) H1) I h)
variable {ta tb:TE}
noncomputable def BH(ta tb:TE):TE:=λσ H Q=>ta σ H λx H1=>∃c,x=.bl c/\if c=true then tb σ H1 Q else Q (.bl false) H1
noncomputable def DM(ta:TE):TE:=λσ H Q=>ta σ H λx H1=>∃c,x=.bl c/\Q (.bl (!c)) H1
def iY{op}{t:TE}(h:PE X a t):PE X (.BoolOp op [a] pos) t:=λpins s σ H Q I hw=>BoolOp_one (h pins s σ H Q I hw)
def gv(ha:PE X a ta)(hb:PE X (.BoolOp .And (b::rest) pos) tb):PE X (.BoolOp .And (a::b::rest) pos) (BH ta tb):=by
 intro pins s σ H Q I h;refine BoolOp_and (thn (ha pins s σ H _ I h) λv s1 ⟨x,H1,I1,r1,q1⟩=>?_);obtain⟨c,rfl,q1⟩:=q1;cases r1;refine JG ?_
 cases c with
 | true=>exact hb pins s1 σ H1 Q I1 q1
 | false=>exact⟨.bl false,H1,I1,rfl,q1⟩
def wd(ha:PE X a ta):PE X (.UnaryOp .Not a pos) (DM ta):=by
 intro pins s σ H Q I h;refine UnaryOp_ (thn (ha pins s σ H _ I h) λv s1 ⟨x,H1,I1,r1,q1⟩=>?_);obtain⟨c,rfl,q1⟩:=q1;cases r1;exact not_of (JG ⟨.bl (!c),H1,I1,rfl,q1⟩)
noncomputable def tIf(t:TT)(ta tb:TE):TE:=λσ H Q=>t σ H λc H1=>if c=true then ta σ H1 Q else tb σ H1 Q
def tW{c:Expr}(hc:PT X c tA)(ha:PE X a ta)(hb:PE X b tb):PE X (.IfExp c a b pos) (tIf tA ta tb):=by
 intro pins s σ H Q I h;refine wpAny_IfExp (thn (hc pins s σ H _ I h) λd s1 ⟨H1,I1,q1⟩=>?_)
 cases d with
 | true=>exact ha pins s1 σ H1 Q I1 q1
 | false=>exact hb pins s1 σ H1 Q I1 q1
noncomputable def SqL(K:b_)(H:Hp)(a:Addr)(xs:List V):Prop :=
 Rd H a (.lst xs) \/
  ∃(o:Obj) (its:Array Value) (n:Nat),K.lookup a=some o/\o.cls=.type "list"/\o.dict=none/\o.data=.seq its n/\its.size<=sizeLine/\bD xs its.toList
noncomputable def SqT(K:b_)(H:Hp)(a:Addr)(xs:List V):Prop :=
 Rd H a (.tup xs) \/
  ∃(o:Obj) (its:Array Value) (n:Nat),K.lookup a=some o/\o.cls=.type "tuple"/\o.data=.seq its n/\its.size<=sizeLine/\bD xs its.toList
noncomputable def IZ:Value->Option V
 | .none=>some .non
 | .bool b=>some (.bl b)
 | .int i _=>some (.int i)
 | .str x _=>some (.str x)
 | .bytes b _=>some (.byt b)
 | .float b _=>some (.flt b)
 | .ref a=>some (.ref a)
 | .type n=>some (.ty n)
 | _=>none
def bW.abs{x:V}(r:bW x u):IZ u=some x:=by
 cases x with
 | non=>cases r;rfl
 | bl _=>cases r;rfl
 | int _=>obtain⟨t,rfl⟩:=r;rfl
 | str _=>obtain⟨t,rfl⟩:=r;rfl
 | byt _=>obtain⟨t,rfl⟩:=r;rfl
 | flt _=>obtain⟨t,rfl⟩:=r;rfl
 | ref _=>cases r;rfl
 | ty _=>cases r;rfl
variable {y:V}
def bW.inj{x:V}(r:bW x u)(q:bW y u):x=y:=vx (r.abs.symm.trans q.abs)
theorem bD.inj:∀{xs ys:List V}{us:List Value},bD xs us->bD ys us->xs=ys
 | _,_,_,.nil,.nil=>rfl
 | _,_,_,.cons r t,.cons r' t'=>by rw [r.inj r',bD.inj t t']
variable {a:Addr}{K:b_}
def SqL.of(h:H a=some (.lst xs)):SqL K H a xs:=.inl (.inl h)
def SqT.of(h:H a=some (.tup xs)):SqT K H a xs:=.inl (.inl h)
variable {σ:St}
def Inv.list(I:Inv X pins σ H s)(h:SqL X.K H a xs):∃its:List Value,bD xs its/\PlainL s.heap a its.toArray/\xs.length<=sizeLine:=by
 rcases h with h|⟨o,its,n,hk,hc,hd,hs,hz,r⟩
 .obtain⟨z,its,n,r,e⟩:=h.ok I.hok;exact⟨its,r,⟨_,n,e,rfl,rfl,rfl⟩,z⟩
 .refine⟨its.toList,r,⟨o,n,I.kIn a o hk,hc,hd,by simpa using hs⟩,?_⟩;have e:=r.length;simp only [z_] at e;omega
def Inv.tuple(I:Inv X pins σ H s)(h:SqT X.K H a xs):∃its:List Value,bD xs its/\IsTup s.heap a its.toArray/\xs.length<=sizeLine:=by
 rcases h with h|⟨o,its,n,hk,hc,hs,hz,r⟩
 .obtain⟨z,its,r,p⟩:=h.ok I.hok;exact⟨its,r,p,z⟩
 .refine⟨its.toList,r,⟨o,I.kIn a o hk,hc,n,by simpa using hs⟩,?_⟩;have e:=r.length;simp only [z_] at e;omega
variable {ys:List V}
def Inv.list_inj(I:Inv X pins σ H s)(h:SqL X.K H a xs)(h':SqL X.K H a ys):xs=ys:=by
 obtain⟨its,r,⟨o,n,e,_,_,d⟩,_⟩:=I.list h;obtain⟨its',r',⟨o',n',e',_,_,d'⟩,_⟩:=I.list h';rw [e] at e';cases e';rw [d] at d';injection d' with d1 _;have:its=its':=by simpa using congrArg MC d1
 subst this;exact r.inj r'
def Inv.tuple_inj(I:Inv X pins σ H s)(h:SqT X.K H a xs)(h':SqT X.K H a ys):xs=ys:=by
 obtain⟨its,r,⟨o,e,_,n,d⟩,_⟩:=I.tuple h;obtain⟨its',r',⟨o',e',_,n',d'⟩,_⟩:=I.tuple h';rw [e] at e';cases e';rw [d] at d';injection d' with d1 _;have:its=its':=by simpa using congrArg MC d1
 subst this;exact r.inj r'
abbrev Cx.wish(X:Cx)(E:Value->cy->Prop):Cx:={ X with xe:=E }
abbrev Cx.nox(X:Cx):Cx:=X.wish λ_ _=>False
def Cx.Ok.wish(ok:X.Ok)(E:Value->cy->Prop):(X.wish E).Ok :=
 ⟨ok.mod,ok.kind,ok.glob,ok.blt,ok.above,ok.inj,ok.has,ok.cab,ok.hd,ok.frames,ok.stk,ok.exf,ok.bs,ok.bsz,ok.noex,ok.exfs,ok.funs,ok.frf,ok.tb⟩
def Cx.Ok.unwish(ok:(X.wish E).Ok):X.Ok :=
 ⟨ok.mod,ok.kind,ok.glob,ok.blt,ok.above,ok.inj,ok.has,ok.cab,ok.hd,ok.frames,ok.stk,ok.exf,ok.bs,ok.bsz,ok.noex,ok.exfs,ok.funs,ok.frf,ok.tb⟩
def Inv.wish(I:Inv X pins σ H s)(E:Value->cy->Prop):Inv (X.wish E) pins σ H s:=⟨I.ok.wish E,I.os,I.bare,I.base,I.loc,I.cell,I.free,I.freeC,I.pin,I.hok,I.len⟩
def Inv.unwish(I:Inv (X.wish E) pins σ H s):Inv X pins σ H s:=⟨I.ok.unwish,I.os,I.bare,I.base,I.loc,I.cell,I.free,I.freeC,I.pin,I.hok,I.len⟩
def SP.unwish{D:BF}{f:Flow}{s':cy}(h:SP (X.wish E) pins D f s'):SP X pins D f s':=by
 cases f with
 | next=>obtain⟨σ',H',I,q⟩:=h;exact⟨σ',H',I.unwish,q⟩
 | brk=>obtain⟨σ',H',I,q⟩:=h;exact⟨σ',H',I.unwish,q⟩
 | cont=>obtain⟨σ',H',I,q⟩:=h;exact⟨σ',H',I.unwish,q⟩
 | ret u=>obtain⟨v,σ',H',I,r,q⟩:=h;exact⟨v,σ',H',I.unwish,r,q⟩
def PSs.nox{st:List Stmt}{t:TS}(h:PSs X.nox st t):PSs X st t:=λpins s σ H D I hw =>
 H_ (h pins s σ H D (I.wish _) hw) (λ_ _ q=>q.unwish) λ_ _ z=>J7 z
def DN:TS:=λD σ H=>D.nx σ H
variable {t u:TS}
noncomputable def GQ(t u:TS):TS:=λD σ H=>t { D with nx:=u D } σ H
def aX:PSs X [] DN:=λ_ _ σ H _ I h=>LV ⟨σ,H,I,h⟩
variable {st:Stmt}{rest:List Stmt}
def af(h1:PS X st t)(h2:PSs X rest u):PSs X (st::rest) (GQ t u):=by
 intro pins s σ H D I h;refine wpAny_execs_cons (thn (h1 pins s σ H { D with nx:=u D } I h) λf s1 q=>?_)
 cases f with
 | next =>
  obtain⟨σ',H',I',q⟩:=q;exact h2 pins s1 σ' H' D I' q
 | ret v=>exact q
 | brk=>exact q
 | cont=>exact q
def am(h1:PS X st t):PSs X [st] t:=by
 intro pins s σ H D I h;refine wpAny_execs_cons (thn (h1 pins s σ H D I h) λf s1 q=>?_)
 cases f with
 | next=>exact LV q
 | ret v=>exact q
 | brk=>exact q
 | cont=>exact q
def Inv.quiet(I:Inv X pins σ H s):interactive X.env=false:=by simp [interactive,I.ok.kind]
variable {te:TE}
noncomputable def DO(te:TE):TS:=λD σ H=>te σ H λ_ H1=>D.nx σ H1
def dI(he:PE X e te)(hs:swapsWith e none pos.line X.env=pure false:=by rfl):PS X (.Expr e pos) (DO te):=by
 intro pins s σ H D I h;exact wpAny_Expr_any (thn (he pins s σ H _ I h) λv s1 ⟨x,H1,I1,r1,q1⟩=>⟨σ,H1,I1,q1⟩) I.quiet hs
def GR(te:TE):TS:=λD σ H=>te σ H D.rt
def aG(he:PE X e te):PS X (.Return (some e) pos) (GR te):=by
 intro pins s σ H D I h;exact wpAny_Return_some (thn (he pins s σ H _ I h) λv s1 ⟨x,H1,I1,r1,q1⟩=>⟨x,σ,H1,I1,r1,q1⟩)
noncomputable def Ii(c:TT)(t u:TS):TS:=λD σ H=>c σ H λb H1=>if b=true then t D σ H1 else u D σ H1
def cK{c:Expr}{a b:List Stmt}{tc:TT}(hc:PT X c tc)(ha:PSs X a t)(hb:PSs X b u):PS X (.If c a b pos) (Ii tc t u):=by
 intro pins s σ H D I h;refine wpAny_If (thn (hc pins s σ H _ I h) λd s1 ⟨H1,I1,q1⟩=>?_)
 cases d with
 | true=>exact ha pins s1 σ H1 D I1 q1
 | false=>exact hb pins s1 σ H1 D I1 q1
def AI:TS:=λ_ _ _=>False
def oB:PS X st AI:=λ_ _ _ _ _ _ h=>h.elim
abbrev TG:=V->St->Hp->(St->Hp->Prop)->Prop
abbrev TGs:=List V->St->Hp->(St->Hp->Prop)->Prop
noncomputable def PG(X:Cx)(target:Expr)(t:TG):Prop :=
 ∀(pins:List (Addr×Obj)) (s:cy) (σ:St) (H:Hp) (v:V) (u:Value) (Q:St->Hp->Prop),Inv X pins σ H s->bW v u->t v σ H Q ->
  wpAny (model X.prog X.w) X.A (assign target X.env u) (λ_ s'=>∃σ' H',Inv X pins σ' H' s'/\Q σ' H') X.xe s
noncomputable def PGs(X:Cx)(ts:List Expr)(t:TGs):Prop :=
 ∀(pins:List (Addr×Obj)) (s:cy) (σ:St) (H:Hp) (vs:List V) (us:List Value) (Q:St->Hp->Prop),Inv X pins σ H s->bD vs us->t vs σ H Q ->
  wpAny (model X.prog X.w) X.A (assignInOrder ((assignEach ts X.env).map (·.2)) us) (λ_ s'=>∃σ' H',Inv X pins σ' H' s'/\Q σ' H') X.xe s
abbrev DP:=V->V->V->Hp->(Hp->Prop)->Prop
noncomputable def GS(X:Cx)(t:DP):Prop :=
 ∀(pins:List (Addr×Obj)) (s:cy) (σ:St) (H:Hp) (o i v:V) (ov iv u:Value) (Q:Hp->Prop),Inv X pins σ H s->bW o ov->bW i iv->bW v u->t o i v H Q ->
  wpAny (model X.prog X.w) X.A (setItem ov iv u) (λ_ s'=>∃H',Inv X pins σ H' s'/\Q H') X.xe s
abbrev TIp:=V->V->Hp->VK->Prop
noncomputable def PIp(X:Cx)(op:Operator)(t:TIp):Prop :=
 ∀(pins:List (Addr×Obj)) (s:cy) (σ:St) (H:Hp) (x y:V) (v u:Value) (Q:VK),Inv X pins σ H s->bW x v->bW y u->t x y H Q ->
  wpAny (model X.prog X.w) X.A (inplaceOp op v u) (EP X pins σ Q) X.xe s
noncomputable def bg(i:Nat):TG:=λv σ H Q=>Q (σ.set i (some v)) H
theorem au(hN:X.N.Nodup)(hi:X.N[i]?=some x)(hx:Loc X.env.scope x)(hf:X.fn x=true\/X.env.scope.names.lookup x=some .local:=by first|exact .inl rfl|exact .inr rfl|assumption):PG X (.Name x pos) (bg i):=by
 intro pins s σ H v u Q I r h;exact wpAny_assign_Name (gU I hN hi hx r (λs' I'=>⟨_,H,I',h⟩) hf)
def BI:TGs:=λvs σ H Q=>vs=[]/\Q σ H
noncomputable def jE(t:TG)(u:TGs):TGs:=λvs σ H Q=>∃v r,vs=v::r/\t v σ H λσ' H'=>u r σ' H' Q
def gw:PGs X [] BI:=by
 intro pins s σ H vs us Q I r h;obtain⟨e,h⟩:=h;subst e;cases r;exact assignInOrder_nil ⟨σ,H,I,h⟩
variable {es:List Expr}
def bI{t:TG}{u:TGs}(h1:PG X e t)(h2:PGs X es u)(hs:(assignEach (e::es) X.env).map (·.2)=assign e X.env::(assignEach es X.env).map (·.2):=by rfl):PGs X (e::es) (jE t u):=by
 intro pins s σ H vs us Q I r h;obtain⟨v,vr,e1,h⟩:=h;subst e1
 cases r with
 | cons r rr =>
  rw [hs];refine K_ (thn (h1 pins s σ H _ _ _ I r h) λ_ s1 ⟨σ1,H1,I1,q1⟩=>?_);exact h2 pins s1 σ1 H1 _ _ Q I1 rr q1
noncomputable def I0(K:b_)(n:Nat)(t:TGs):TG:=λv σ H Q=>∃a xs,v=.ref a/\SqT K H a xs/\xs.length=n/\t xs σ H Q
variable {n:Nat}
def DQ{k:Nat}{t:TGs}(hc:X.calm=true)(h:PGs X es t)(hn:(assignEach es X.env).length=n:=by rfl)(hst:(assignEach es X.env).findIdx? (·.1)=none:=by rfl):PG X (.Tuple es k pos) (I0 X.K n t):=by
 intro pins s σ H v u Q I r hw;obtain⟨a,xs,e1,hq,hl,hw⟩:=hw;subst e1;cases r;obtain⟨its,rv,ht,hz⟩:=I.tuple hq;refine assign_Tuple_tuple (I.ok.hd hc) ht (by simp [hn,<- hl,rv.length]) hst λh' hx=>?_;have I1:Inv X pins σ H { s with heap:=h' }:=I.kept (t':=s.toks) λb o e=>hx b o (I_ (l_ e)) e;exact h pins _ σ H xs _ Q I1 (by simpa using rv) hw
noncomputable def Ij(to ti:TE)(t:DP):TG:=λv σ H Q=>to σ H λo H1=>ti σ H1 λi H2=>t o i v H2 λH3=>Q σ H3
def AJ{o i:Expr}{to ti:TE}{t:DP}(ho:PE X o to)(hi:PE X i ti)(hs:GS X t)(ha:∀v,assign (.Subscript o i pos) X.env v=(do
   let ov <- holding [v] (eval o X.env)
   let iv <- holding [v,ov] (eval i X.env)
   standAt pos
   holding [v,ov,iv] (setItem ov iv v)
   release [v,ov,iv] []):=by intro _;rfl):PG X (.Subscript o i pos) (Ij to ti t):=by
 intro pins s σ H v u Q I r h;rw [ha];refine cn (JF (thn (ho pins s σ H _ I h) λov s1 ⟨x,H1,I1,r1,q1⟩=>?_));refine cn (JF (thn (hi pins s1 σ H1 _ I1 q1) λiv s2 ⟨y,H2,I2,r2,q2⟩=>?_));refine cn (Kc (cn (JF (thn (hs pins s2 σ H2 x y v ov iv u _ I2 r1 r2 r q2) λ_ s3 ⟨H3,I3,q3⟩=>?_))));exact wpAny_release ⟨σ,H3,I3,q3⟩
noncomputable def Do(te:TE)(g:TG):TS:=λD σ H=>te σ H λx H1=>g x σ H1 D.nx
variable {tg:Expr}{g:TG}
def tX(he:PE X e te)(hg:PG X tg g)(hs:swapsWithSole [tg] e pos.line X.env=pure false:=by rfl)(hw:swappedStores [tg] e X.env=pure none:=by rfl)(h1:(assignEach [tg] X.env).map (·.2)=[assign tg X.env]:=by rfl):PS X (.Assign [tg] e pos) (Do te g):=by
 intro pins s σ H D I h;refine wpAny_Assign_stores (thn (he pins s σ H _ I h) λv s1 ⟨x,H1,I1,r1,q1⟩=>?_) hs hw;rw [h1];exact thn (hg pins s1 σ H1 x v _ I1 r1 q1) λ_ s2 q=>q
theorem aE{pos':Pos}(hN:X.N.Nodup)(hi:X.N[i]?=some x)(hx:Loc X.env.scope x)(he:PE X e te)(hs:swapsWith e (some (.Name x pos')) pos.line X.env=pure false:=by rfl)(hf:X.fn x=true\/X.env.scope.names.lookup x=some .local:=by first|exact .inl rfl|exact .inr rfl|assumption):
  PS X (.Assign [.Name x pos'] e pos) (Do te (bg i)):=by
 intro pins s σ H D I h;refine wpAny_Assign_Name (thn (he pins s σ H _ I h) λv s1 ⟨y,H1,I1,r1,q1⟩=>?_) hs;exact gU I1 hN hi hx r1 (λs2 I2=>⟨_,H1,I2,q1⟩) hf
noncomputable def DR(to ti te:TE)(tget:V->V->Hp->VK->Prop)(tip:TIp)(tset:DP):TS:=λD σ H=>to σ H λo H1=>ti σ H1 λi H2=>tget o i H2 λx H3=>te σ H3 λy H4=>tip x y H4 λz H5=>tset o i z H5 λH6=>D.nx σ H6
noncomputable def Ik(X:Cx)(t:V->V->Hp->VK->Prop):Prop :=
 ∀(pins:List (Addr×Obj)) (s:cy) (σ:St) (H:Hp) (o i:V) (ov iv:Value) (Q:VK),Inv X pins σ H s->bW o ov->bW i iv->t o i H Q ->
  wpAny (model X.prog X.w) X.A (getItem ov iv) (EP X pins σ Q) X.xe s
def rR{o i:Expr}{to ti:TE}{tget:V->V->Hp->VK->Prop}{tip:TIp}{tset:DP}{op:Operator}{tpos:Pos}(ho:PE X o to)(hi:PE X i ti)(hg:Ik X tget)(he:PE X e te)(hp:PIp X op tip)(hs:GS X tset)(ha:∀ov iv new,augStore i ov iv new=(do holding [new,ov,iv] (setItem ov iv new);release [new,ov,iv] [];pure .next):=by intros;rfl):PS X (.AugAssign (.Subscript o i tpos) op e pos) (DR to ti te tget tip tset):=by
 intro pins s σ H D I h;refine wpAny_AugAssign_SubscriptAny (thn (ho pins s σ H _ I h) λov s1 ⟨x1,H1,I1,r1,q1⟩=>?_) ha;refine thn (hi pins s1 σ H1 _ I1 q1) λiv s2 ⟨x2,H2,I2,r2,q2⟩=>?_;refine thn (hg pins s2 σ H2 x1 x2 ov iv _ I2 r1 r2 q2) λold s3 ⟨x3,H3,I3,r3,q3⟩=>?_;refine thn (he pins s3 σ H3 _ I3 q3) λv s4 ⟨x4,H4,I4,r4,q4⟩=>?_;refine thn (hp pins s4 σ H4 x3 x4 old v _ I4 r3 r4 q4) λnew s5 ⟨x5,H5,I5,r5,q5⟩=>?_
 exact thn (hs pins s5 σ H5 x1 x2 x5 ov iv new _ I5 r1 r2 r5 q5) λ_ s6 ⟨H6,I6,q6⟩=>⟨σ,H6,I6,q6⟩
noncomputable def ipI(f:Int->Int->Int):TIp:=λx y H Q=>∃i j,x=.int i/\y=.int j/\Q (.int (f i j)) H
def DS:PIp X .Add (ipI λi j=>i+j):=by
 intro pins s σ H x y v u Q I r1 r2 h;obtain⟨i,j,e1,e2,q⟩:=h;subst e1;subst e2;obtain⟨t,rfl⟩:=r1;obtain⟨t',rfl⟩:=r2;exact iadd_int ⟨.int _,H,I.tok _,⟨_,rfl⟩,q⟩
def AK:PIp X .Sub (ipI λi j=>i - j):=by
 intro pins s σ H x y v u Q I r1 r2 h;obtain⟨i,j,e1,e2,q⟩:=h;subst e1;subst e2;obtain⟨t,rfl⟩:=r1;obtain⟨t',rfl⟩:=r2;exact isub_int ⟨.int _,H,I.tok _,⟨_,rfl⟩,q⟩
noncomputable def AL(c:TT)(tb:TS):TS:=λD σ H=>∃W:Nat->St->Hp->Prop,(∃m,W m σ H)/\∀m σ H,W m σ H ->
 c σ H λb H1=>if b=true then ∃N:St->Hp->Prop,(∀σ' H',N σ' H'->∃m',m'<m/\W m' σ' H')/\tb { D with nx:=N,ct:=N,bk:=D.nx } σ H1 else D.nx σ H1
def oE{c:Expr}{body:List Stmt}{tc:TT}{tb:TS}(hp:PassesOwn (model X.prog X.w) X.A X.env X.xe)(hc:PT X c tc)(hb:PSs X body tb):PS X (.While c body [] pos) (AL tc tb):=by
 intro pins s σ H D I h;obtain⟨W,⟨m0,w0⟩,turn⟩:=h;refine wpAny_While (codeAny_whileLoop (λn s'=>∃σ' H',Inv X pins σ' H' s'/\W n σ' H') ?_ m0 ⟨σ,H,I,w0⟩);rintro n s1 ⟨σ1,H1,I1,w1⟩;refine Kn hp (thn (hc pins s1 σ1 H1 _ I1 (turn n σ1 H1 w1)) λb s2 ⟨H2,I2,q2⟩=>?_)
 cases b with
 | true =>
  obtain⟨N,hN,q2⟩:=q2;rw [if_pos rfl];refine Kn hp (thn (hb pins s2 σ1 H2 _ I2 q2) λf s3 q3=>?_)
  cases f with
  | next =>
   obtain⟨σ3,H3,I3,n3⟩:=q3;obtain⟨m',hm,w3⟩:=hN σ3 H3 n3;exact⟨m',hm,σ3,H3,I3,w3⟩
  | cont =>
   obtain⟨σ3,H3,I3,n3⟩:=q3;obtain⟨m',hm,w3⟩:=hN σ3 H3 n3;exact⟨m',hm,σ3,H3,I3,w3⟩
  | brk=>exact q3
  | ret v=>exact q3
 | false =>
  rw [if_neg j_];exact LV ⟨σ1,H2,I2,q2⟩
structure It where
 go:Nat->Hp->Prop
 yld:Nat->Hp->V->Hp->Prop
 stop:Nat->Hp->Prop
noncomputable def rS(X:Cx)(pins:List (Addr×Obj))(H:Hp)(b:Addr):Prop :=
 H b=none/\b≠X.env.locals/\b∉X.fs/\(b∈X.ex\/X.s₀.heap.objs.size<=b)/\(∀x c,X.env.cells.lookup x=some c->c≠b)/\∀p∈X.pn++pins,p.1≠b
def Inv.fpOk{b:Addr}(I:Inv X pins σ H s)(hb:s.heap.objs.size<=b)(hn:H' b=none):rS X pins H' b:=by
 refine⟨hn,Mw (t_ I.lt hb),I.nofs hb,.inr (F_ I.sz hb),λx c e z=>?_,λp hp z=>?_⟩
 .obtain⟨v,q⟩:=I.cell x c e;exact absurd (t_ q.lt (by rw [z];exact hb)) (E_ _)
 .exact absurd (t_ (l_ (I.pin p hp).1) (by rw [z];exact hb)) (E_ _)
structure BJ (P:s_) (w:World) (K:b_) (tg:Expr) (J:It) (fp:List Addr) (it:Addr) (tn:Nat->Heap->Prop):Prop where
 mem:it∈fp
 obj:∀i h,tn i h->∀b∈fp,∃o,h.get? b=some o/\∀v,o.data≠.cell v
 keep:∀i h h',tn i h->(∀b∈fp,∀o,h.get? b=some o->h'.get? b=some o)->tn i h'
 item:∀(X:Cx),X.prog=P->X.w=w->X.K=K->X.calm=true->∀(i:Nat) (pins:List (Addr×Obj)) (s:cy) (σ:St) (H:Hp) (E:Value->cy->Prop),Inv X pins σ H s->(∀b∈fp,rS X pins H b)->tn i s.heap->J.go i H ->
  wpAny (model P w) X.A (pyNext (.ref it)) (λr s1=>∃u,r=some u /\
   wpAny (model P w) X.A (letOwnedTupleGo tg (.ref it) u) (λ_ s2=>∃x H',Inv X pins σ H' s2/\bW x u/\J.yld i H x H'/\tn (i+1) s2.heap/\∀b∈fp,H' b=none) E s1) E s
 done:∀(X:Cx),X.prog=P->X.w=w->X.K=K->X.calm=true->∀(i:Nat) (pins:List (Addr×Obj)) (s:cy) (σ:St) (H:Hp) (E:Value->cy->Prop),Inv X pins σ H s->(∀b∈fp,rS X pins H b)->tn i s.heap->J.stop i H ->
  wpAny (model P w) X.A (pyNext (.ref it)) (λr s1=>r=none/\Inv X pins σ H s1) E s
 self:∀(A:y_) (i:Nat) (s:cy) (Q:Value->cy->Prop) (E:Value->cy->Prop),tn i s.heap->Q (.ref it) s->wpAny (model P w) A (pyIter (.ref it)) Q E s
abbrev TI:=St->Hp->(It->Hp->Prop)->Prop
noncomputable def PIE(X:Cx)(pins:List (Addr×Obj))(σ:St)(tg:Expr)(R:It->Hp->Prop)(itv:Value)(s2:cy):Prop :=
 ∃(it:Addr) (fp:List Addr) (tn:Nat->Heap->Prop) (J:It) (H':Hp),itv=.ref it/\Inv X pins σ H' s2/\BJ X.prog X.w X.K tg J fp it tn/\tn 0 s2.heap/\(∀b∈fp,rS X pins H' b)/\R J H'
noncomputable def PI(X:Cx)(tg iter:Expr)(wi:TI):Prop :=
 ∀(pins:List (Addr×Obj)) (s:cy) (σ:St) (H:Hp) (R:It->Hp->Prop),Inv X pins σ H s->wi σ H R ->
  wpAny (model X.prog X.w) X.A (eval iter X.env) (λv s1=>wpAny (model X.prog X.w) X.A (pyIter v) (PIE X pins σ tg R) X.xe s1) X.xe s
def yS{u:Value}{o:Obj}{n:String}{vs:Array Value}{Q:Unit->cy->Prop}(ho:s.heap.get? it=some o)(hc:o.cls=.type n)(hd:o.data=.fields vs)(hn:["enumerate","zip","dict_itemiterator","dict_reverseitemiterator","odict_iterator","itertools.zip_longest","itertools.pairwise"].contains n=false)(hQ:Q () s):wpAny M A (letOwnedTupleGo tg (.ref it) u) Q E s:=by
  unfold letOwnedTupleGo
  cases tg <;> first
    | exact h_ hQ
    | (cases u <;> first
        | exact h_ hQ
        | (refine cn (wpAny_load ho ?_)
           rw [hc,hd];show wpAny M A (if (["enumerate","zip","dict_itemiterator","dict_reverseitemiterator","odict_iterator","itertools.zip_longest","itertools.pairwise"].contains n && vs[0]? == some (rawInt _))=true then _ else _) Q E s;rw [if_neg (by intro h;rw [hn,L_] at h;cases h)];exact h_ hQ))
noncomputable def Itl(K:b_)(a:Addr):It :=
 ⟨λi H=>∃xs x,SqL K H a xs/\xs[i]?=some x,λi H x H'=>H'=H/\∀xs,SqL K H a xs->xs[i]?=some x,λi H=>∃xs,SqL K H a xs/\xs.length<=i⟩
noncomputable def Itt(K:b_)(a:Addr):It :=
 ⟨λi H=>∃xs x,SqT K H a xs/\xs[i]?=some x,λi H x H'=>H'=H/\∀xs,SqT K H a xs->xs[i]?=some x,λi H=>∃xs,SqT K H a xs/\xs.length<=i⟩
noncomputable def Itr(lo:Int)(n:Nat):It:=⟨λi _=>i<n,λi H x H'=>H'=H/\x=.int (lo+i),λi _=>n<=i⟩
def wf{P:s_}(a it:Addr):BJ P w K tg (Itl K a) [it] it (λi h=>h.IsListIter it a i) where
 mem:=by simp
 obj:=λi h st b hb=>by
  have e:b=it:=by simpa using hb
  subst e;obtain⟨o,e,c,d⟩:=st;exact⟨o,e,λv z=>by rw [d] at z;cases z⟩
 keep:=λi h h' st k=>st.at λo e=>k it (by simp) o e
 item:=by
  intro X hP hw hK hc i pins s σ H E I hf st hg;subst hP hw hK;obtain⟨xs,x,hq,hx⟩:=hg;obtain⟨its,rv,p,hz⟩:=I.list hq;obtain⟨u,hu,ru⟩:=rv.get hx;obtain⟨f0,f1,f2,f3,f4,f5⟩:=hf it (by simp);refine wpAny_pyNext_list_item st p.isList (x:=u) (by simpa using hu) λh' st' sb=>?_;have I1:Inv X pins σ H { s with heap:=h' }:=I.turned (t':=s.toks) (λb o hb e=>(sb.2 b hb).trans e) f0 f1 f3 f4 f5;obtain⟨o,e,c,d⟩:=id st'
  exact⟨u,rfl,yS (s:={ s with heap:=h' }) e c d (by decide) ⟨x,H,I1,ru,⟨rfl,λys hy=>by rw [I.list_inj hy hq];exact hx⟩,st',λb hb=>(hf b hb).1⟩⟩
 done:=by
  intro X hP hw hK hc i pins s σ H E I hf st hg;subst hP hw hK;obtain⟨xs,hq,hx⟩:=hg;obtain⟨its,rv,p,hz⟩:=I.list hq;obtain⟨f0,f1,f2,f3,f4,f5⟩:=hf it (by simp);have hl:=rv.length;exact wpAny_pyNext_list_end (I.ok.hd hc) st p.isList (by simp;omega) λh' eb=>⟨rfl,I.turned (t':=s.toks) (λb o hb e=>eb b o hb e) f0 f1 f3 f4 f5⟩
 self:=λ_ _ _ _ _ st h=>wpAny_pyIter_listiter st h
def uP{P:s_}(a it:Addr):BJ P w K tg (Itt K a) [it] it (λi h=>h.IsTupleIter it a i) where
 mem:=by simp
 obj:=λi h st b hb=>by
  have e:b=it:=by simpa using hb
  subst e;obtain⟨o,e,c,d⟩:=st;exact⟨o,e,λv z=>by rw [d] at z;cases z⟩
 keep:=λi h h' st k=>st.at λo e=>k it (by simp) o e
 item:=by
  intro X hP hw hK hc i pins s σ H E I hf st hg;subst hP hw hK;obtain⟨xs,x,hq,hx⟩:=hg;obtain⟨its,rv,p,hz⟩:=I.tuple hq;obtain⟨u,hu,ru⟩:=rv.get hx;obtain⟨f0,f1,f2,f3,f4,f5⟩:=hf it (by simp);refine wpAny_pyNext_tuple_item st (show s.heap.IsTuple a its.toArray from p) (x:=u) (by simpa using hu) λh' st' sb=>?_;have I1:Inv X pins σ H { s with heap:=h' }:=I.turned (t':=s.toks) (λb o hb e=>(sb.2 b hb).trans e) f0 f1 f3 f4 f5
  obtain⟨o,e,c,d⟩:=id st';exact⟨u,rfl,yS (s:={ s with heap:=h' }) e c d (by decide) ⟨x,H,I1,ru,⟨rfl,λys hy=>by rw [I.tuple_inj hy hq];exact hx⟩,st',λb hb=>(hf b hb).1⟩⟩
 done:=by
  intro X hP hw hK hc i pins s σ H E I hf st hg;subst hP hw hK;obtain⟨xs,hq,hx⟩:=hg;obtain⟨its,rv,p,hz⟩:=I.tuple hq;obtain⟨f0,f1,f2,f3,f4,f5⟩:=hf it (by simp);have hl:=rv.length;exact wpAny_pyNext_tuple_end (I.ok.hd hc) st (show s.heap.IsTuple a its.toArray from p) (by simp;omega) λh' eb=>⟨rfl,I.turned (t':=s.toks) (λb o hb e=>eb b o hb e) f0 f1 f3 f4 f5⟩
 self:=λ_ _ _ _ _ st h=>wpAny_pyIter_tupleiter st h
def uQ{P:s_}(it:Addr)(lo:Int)(n:Nat):BJ P w K tg (Itr lo n) [it] it (λi h=>MY h it (lo+(i:Nat)*1) ((n:Int) - (i:Nat)) 1) where
 mem:=by simp
 obj:=λi h st b hb=>by
  have e:b=it:=by simpa using hb
  subst e
  exact⟨_,st,λv z=>by
   have z':Data.fields _=Data.cell v:=z;cases z'⟩
 keep:=λi h h' st k=>k it (by simp) _ st
 item:=by
  intro X hP hw hK hc i pins s σ H E I hf st hg;subst hP hw hK;obtain⟨f0,f1,f2,f3,f4,f5⟩:=hf it (by simp);have W:=Walks.range (prog:=X.prog) (w:=X.w) (I.ok.hd hc) it lo 1 n;refine W.item i s _ _ hg st λv h' tk hv st' kk=>?_;obtain⟨t,rfl⟩:=hv;have I1:Inv X pins σ H { s with heap:=h',toks:=tk }:=I.turned (λb o hb e=>kk b o (by simpa using hb) e) f0 f1 f3 f4 f5;refine⟨_,rfl,yS (s:={ s with heap:=h',toks:=tk }) (n:="range_iterator") st' rfl rfl (by decide) ⟨.int (lo+i),H,I1,⟨t,?_⟩,⟨rfl,rfl⟩,st',λb hb=>(hf b hb).1⟩⟩
  rw [mul_one]
 done:=by
  intro X hP hw hK hc i pins s σ H E I hf st hg;subst hP hw hK;obtain⟨f0,f1,f2,f3,f4,f5⟩:=hf it (by simp);exact wpAny_pyNext_range_end (I.ok.hd hc) st (by have:n<=i:=hg;omega) λh' eb=>⟨rfl,I.turned (t':=s.toks) (λb o hb e=>eb b o hb e) f0 f1 f3 f4 f5⟩
 self:=λ_ _ _ _ _ st h=>Kw st h
def yT{R:It->Hp->Prop}{lo hi:Int}{t u v:Tok}{tk:Nat}(I:Inv X pins σ H s)(h1:-(2^62)<=lo)(h2:lo<2^62)(h3:-(2^62)<=hi)(h4:hi<2^62)(q:R (Itr lo (hi - lo).toNat) H):wpAny (model X.prog X.w) X.A (pyIter (.ref s.heap.objs.size)) (PIE X pins σ tg R) E { s with heap:=s.heap.push { cls:=.type "range",data:=.fields #[.int lo t,.int hi u,.int 1 v] },toks:=tk }:=by
 refine wpAny_pyIter_range (MZ ..) (small_one h1 h2 h3 h4) ?_;have I1:Inv X pins σ H { s with heap:=s.heap.push { cls:=.type "range",data:=.fields #[.int lo t,.int hi u,.int 1 v] },toks:=tk }:=I.kept λb o e=>d_ _ e
 refine⟨(s.heap.push { cls:=.type "range",data:=.fields #[.int lo t,.int hi u,.int 1 v] }).objs.size,[(s.heap.push { cls:=.type "range",data:=.fields #[.int lo t,.int hi u,.int 1 v] }).objs.size],_,_,H,rfl,
  I1.kept (t':=tk) λb o e=>d_ _ e,uQ _ lo (hi - lo).toNat,?_,λb hb=>?_,q⟩
 .have e1:lo+((0:Nat):Int)*1=lo:=by simp
  have e2:(((hi - lo).toNat:Nat):Int) - ((0:Nat):Int)=q_ lo hi 1:=by rw [rangeSize_one];split <;> omega
  show MY _ _ (lo+((0:Nat):Int)*1) ((((hi - lo).toNat:Nat):Int) - ((0:Nat):Int)) 1;rw [e1,e2];exact kx _ rfl
 .have e:b=(s.heap.push { cls:=.type "range",data:=.fields #[.int lo t,.int hi u,.int 1 v] }).objs.size:=by simpa using hb
  subst e;exact I1.fpOk (f_ _) (I1.hok.fresh (f_ _))
noncomputable def mU(ta:TA):TI:=λσ H R=>ta σ H λvs H1=>∃j:Int,vs=[.int j]/\-(2^62)<=j/\j<2^62/\R (Itr 0 j.toNat) H1
def aN{a:Expr}{ta:TA}{p:Pos}(hg:Gl X "range")(hm:X.mg "range"=none)(ha:PA X [a] ta)(hs:starEach [a] X.env=[(false,eval a X.env)]:=by rfl):PI X tg (.Call (.Name "range" p) [a] [] pos) (mU ta):=by
 intro pins s σ H R I h;refine Call_ (gu I hg hm boot_range (D_ (thn (ha pos pins s σ H _ I h) λus s1 ⟨vs,H1,I1,r1,q1⟩=>?_) hs rfl));obtain⟨j,e,q1,q2,q⟩:=q1;subst e
 cases r1 with
 | cons r rr =>
  cases rr;obtain⟨t,rfl⟩:=r;exact call_range_1 (yT I1 (by omega) (by omega) q1 q2 (by simpa using q))
noncomputable def Il(wi:TI)(g:TG)(tb:TS):TS:=λD σ H=>wi σ H λJ H1=>∃W:Nat->Nat->St->Hp->Prop,(∃m,W 0 m σ H1)/\∀i m σ H,W i m σ H ->
 (J.stop i H/\D.nx σ H)\/(J.go i H/\∃N:St->Hp->Prop,(∀σ' H',N σ' H'->∃m',m'<m/\W (i+1) m' σ' H')/\∀x H',J.yld i H x H'->g x σ H' λσ2 H2=>tb { D with nx:=N,ct:=N,bk:=D.nx } σ2 H2)
noncomputable def k7(fp:List Addr)(h:Heap):List (Addr×Obj):=fp.filterMap λb=>(h.get? b).map λo=>(b,o)
def cH{fp:List Addr}{b:Addr}{o:Obj}(hb:b∈fp)(e:h.get? b=some o):(b,o)∈k7 fp h:=Kp.mpr ⟨b,hb,by rw [e];rfl⟩
def wg{fp:List Addr}{p:Addr×Obj}(hp:p∈k7 fp h):p.1∈fp/\h.get? p.1=some p.2:=by
 obtain⟨b,hb,e⟩:=Kp.mp hp
 cases q:h.get? b with
 | none=>rw [q] at e;cases e
 | some o =>
  rw [q] at e;have e':(b,o)=p:=vx e;subst e';exact⟨hb,q⟩
def Inv.pinned{fp:List Addr}(I:Inv X pins σ H s)(hf:∀b∈fp,rS X pins H b)(ho:∀b∈fp,∃o,s.heap.get? b=some o/\∀v,o.data≠.cell v):Inv X (pins++k7 fp s.heap) σ H s :=
 I.pins_of λp hp=>(Jw.mp hp).elim (λz=>I.pin p (oe _ z)) λz=>by
  obtain⟨hb,e⟩:=wg z;obtain⟨f0,f1,f2,_⟩:=hf p.1 hb;obtain⟨o,e',d⟩:=ho p.1 hb;rw [e] at e';cases e';exact⟨e,f0,f1,f2,d⟩
def Inv.unpinned{pl:List (Addr×Obj)}(I:Inv X (pins++pl) σ H s):Inv X pins σ H s:=I.pins_of λp hp=>I.pin p (oe _ (FX _ hp))
def bX{iter:Expr}{body:List Stmt}{wi:TI}{tb:TS}(hp:PassesOwn (model X.prog X.w) X.A X.env X.xe)(hc:X.calm=true)(hi:PI X tg iter wi)(hg:PG X tg g)(hb:PSs X body tb)(hs:∀x,foldedSetIterable iter X.env x=pure x:=by intro _;rfl):PS X (.For tg iter body [] pos) (Il wi g tb):=by
 intro pins s σ H D I h;refine wpAny_For (thn (hi pins s σ H _ I h) λv s1 h1=>thn h1 λitv s2 h2=>?_) hs;obtain⟨it,fp,tn,J,H2,e,I2,T,st2,f2,W,⟨m0,w0⟩,turn⟩:=h2;subst e
 -- what stays true of the iterator's objects through the loop
 have stat:∀{H':Hp},(∀b∈fp,H' b=none)->∀b∈fp,rS X pins H' b:=λhn b hb=>⟨hn b hb,(f2 b hb).2⟩
 refine codeAny_forLoop_any (λn s'=>∃i σ' H',Inv X pins σ' H' s'/\tn i s'.heap/\(∀b∈fp,H' b=none)/\W i n σ' H') ?_ m0 ⟨0,σ,H2,I2,st2,λb hb=>(f2 b hb).1,w0⟩;rintro n s3 ⟨i,σ3,H3,I3,st3,fr3,w3⟩
 rcases turn i n σ3 H3 w3 with ⟨stop,qn⟩|⟨go,N,hN,step⟩
 .refine Kn hp (thn (T.done X rfl rfl rfl hc i pins s3 σ3 H3 X.xe I3 (stat fr3) st3 stop) λr s4 ⟨hr,I4⟩=>?_);subst hr;exact LV ⟨σ3,H3,I4,qn⟩
 .refine Kn hp (thn (T.item X rfl rfl rfl hc i pins s3 σ3 H3 X.xe I3 (stat fr3) st3 go) λr s4 ⟨u,hr,h4⟩=>?_);subst hr;refine Kn hp (thn h4 λ_ s5 ⟨x,H5,I5,r5,y5,st5,fr5⟩=>?_);have I5':=I5.pinned (stat fr5) (T.obj _ _ st5);refine Kn hp (thn (hg _ s5 σ3 H5 x u _ I5' r5 (step x H5 y5)) λ_ s6 ⟨σ6,H6,I6,q6⟩=>?_);refine Kn hp (thn (hb _ s6 σ6 H6 _ I6 q6) λf s7 q7=>?_)
  have again:∀{σ7:St}{H7:Hp},Inv X (pins++k7 fp s5.heap) σ7 H7 s7->N σ7 H7->∃m,m<n/\∃i σ' H',Inv X pins σ' H' s7/\tn i s7.heap/\(∀b∈fp,H' b=none)/\W i m σ' H':=λ{σ7 H7} I7 n7=>by
   obtain⟨m',hm,w7⟩:=hN σ7 H7 n7;refine⟨m',hm,i+1,σ7,H7,I7.unpinned,T.keep _ _ _ st5 λb hb o e=>(I7.pin (b,o) (oe _ (oe _ (cH hb e)))).1,λb hb=>?_,w7⟩;obtain⟨o,e,d⟩:=T.obj _ _ st5 b hb;exact (I7.pin (b,o) (oe _ (oe _ (cH hb e)))).2.1
  cases f with
  | next=>obtain⟨σ7,H7,I7,n7⟩:=q7;exact again I7 n7
  | cont=>obtain⟨σ7,H7,I7,n7⟩:=q7;exact again I7 n7
  | brk=>obtain⟨σ7,H7,I7,q7⟩:=q7;exact⟨σ7,H7,I7.unpinned,q7⟩
  | ret v=>obtain⟨x7,σ7,H7,I7,r7,q7⟩:=q7;exact⟨x7,σ7,H7,I7.unpinned,r7,q7⟩
abbrev R2:=V->V->Hp->VK->Prop
noncomputable def OpR(X:Cx)(f:Value->Value->Sem Value)(r:R2):Prop :=
 ∀(pins:List (Addr×Obj)) (s:cy) (σ:St) (H:Hp) (x y:V) (v u:Value) (Q:VK),Inv X pins σ H s->bW x v->bW y u->r x y H Q ->
  wpAny (model X.prog X.w) X.A (f v u) (EP X pins σ Q) X.xe s
noncomputable def UnR(X:Cx)(f:Value->Sem Value)(r:V->Hp->VK->Prop):Prop :=
 ∀(pins:List (Addr×Obj)) (s:cy) (σ:St) (H:Hp) (x:V) (v:Value) (Q:VK),Inv X pins σ H s->bW x v->r x H Q ->
  wpAny (model X.prog X.w) X.A (f v) (EP X pins σ Q) X.xe s
noncomputable def bz(X:Cx)(f:Value)(r:List V->Hp->VK->Prop):Prop :=
 ∀(pins:List (Addr×Obj)) (s:cy) (σ:St) (H:Hp) (xs:List V) (us:List Value) (Q:VK),Inv X pins σ H s->bD xs us->r xs H Q ->
  wpAny (model X.prog X.w) X.A (call f us) (EP X pins σ Q) X.xe s
noncomputable def tOp(r:R2)(ta tb:TE):TE:=λσ H Q=>ta σ H λx H1=>tb σ H1 λy H2=>r x y H2 Q
noncomputable def tUn(r:V->Hp->VK->Prop)(ta:TE):TE:=λσ H Q=>ta σ H λx H1=>r x H1 Q
noncomputable def rI(C:Int->Int->Prop)(g:Int->Int->V):R2:=λx y H Q=>∃i j,x=.int i/\y=.int j/\C i j/\Q (g i j) H
noncomputable def rI0(g:Int->Int->V):R2:=λx y H Q=>∃i j,x=.int i/\y=.int j/\Q (g i j) H
noncomputable def rU(g:Int->V):V->Hp->VK->Prop:=λx H Q=>∃i,x=.int i/\Q (g i) H
variable {a:Expr}
def GT(ha:PE X a ta)(hb:PE X b tb){R:V->V->Hp->Prop}(I:Inv X pins σ H s)(h:ta σ H λx H1=>tb σ H1 λy H2=>R x y H2){f:Value->Value->Sem Value}(hf:∀v u s2 x y H2,Inv X pins σ H2 s2->bW x v->bW y u->R x y H2->wpAny (model X.prog X.w) X.A (f v u) Q X.xe s2):
  wpAny (model X.prog X.w) X.A (eval a X.env) (λv s₁=>wpAny (model X.prog X.w) X.A (eval b X.env) (λu s₂=>wpAny (model X.prog X.w) X.A (f v u) Q X.xe s₂) X.xe s₁) X.xe s:=by
 refine thn (ha pins s σ H _ I h) λv s1 ⟨x,H1,I1,r1,q1⟩=>?_;refine thn (hb pins s1 σ H1 _ I1 q1) λu s2 ⟨y,H2,I2,r2,q2⟩=>?_;exact hf v u s2 x y H2 I2 r1 r2 q2
variable {r:R2}
def aD{op:Operator}(ho:OpR X (binaryOp op) r)(ha:PE X a ta)(hb:PE X b tb):PE X (.BinOp a op b pos) (tOp r ta tb):=by
 intro pins s σ H Q I h;exact wpAny_BinOp (GT ha hb I h λv u s2 x y H2 I2 rx ry q=>ho pins s2 σ H2 x y v u Q I2 rx ry q)
def yU{op:UnaryOp}{r:V->Hp->VK->Prop}(ho:UnR X (unaryOp op) r)(ha:PE X a ta):PE X (.UnaryOp op a pos) (tUn r ta):=by
 intro pins s σ H Q I h;exact UnaryOp_ (thn (ha pins s σ H _ I h) λv s1 ⟨x,H1,I1,r1,q1⟩=>ho pins s1 σ H1 x v Q I1 r1 q1)
def opI{f:Value->Value->Sem Value}{C:Int->Int->Prop}{g:Int->Int->Int}(rule:∀(i j:Int) (t u:Tok) (s:cy) (Q:Value->cy->Prop) (E:Value->cy->Prop),C i j->Q (.int (g i j) s.toks) { s with toks:=s.toks+1 }->wpAny (model X.prog X.w) X.A (f (.int i t) (.int j u)) Q E s):
  OpR X f (rI C λi j=>.int (g i j)):=by
 intro pins s σ H x y v u Q I rx ry h;obtain⟨i,j,rfl,rfl,hc,q⟩:=h;obtain⟨t,rfl⟩:=rx;obtain⟨t',rfl⟩:=ry;exact rule i j t t' s _ _ hc ⟨.int (g i j),H,I.tok _,⟨_,rfl⟩,q⟩
def Im{f:Value->Value->Sem Value}{g:Int->Int->Int}(rule:∀(i j:Int) (t u:Tok) (s:cy) (Q:Value->cy->Prop) (E:Value->cy->Prop),Q (.int (g i j) s.toks) { s with toks:=s.toks+1 }->wpAny (model X.prog X.w) X.A (f (.int i t) (.int j u)) Q E s):
  OpR X f (rI0 λi j=>.int (g i j)):=by
 intro pins s σ H x y v u Q I rx ry h;obtain⟨i,j,rfl,rfl,q⟩:=h;obtain⟨t,rfl⟩:=rx;obtain⟨t',rfl⟩:=ry;exact rule i j t t' s _ _ ⟨.int (g i j),H,I.tok _,⟨_,rfl⟩,q⟩
def Dp{f:Value->Value->Sem Value}{g:Int->Int->Bool}(rule:∀(i j:Int) (t u:Tok) (s:cy) (Q:Value->cy->Prop) (E:Value->cy->Prop),Q (.bool (g i j)) s->wpAny (model X.prog X.w) X.A (f (.int i t) (.int j u)) Q E s):
  OpR X f (rI0 λi j=>.bl (g i j)):=by
 intro pins s σ H x y v u Q I rx ry h;obtain⟨i,j,rfl,rfl,q⟩:=h;obtain⟨t,rfl⟩:=rx;obtain⟨t',rfl⟩:=ry;exact rule i j t t' s _ _ ⟨.bl (g i j),H,I,rfl,q⟩
noncomputable def GU(i j:Int):Prop:=0<j/\j<1073741824
noncomputable def GV(i j:Int):Prop:=0<=j/\j<=1000000/\i.natAbs<2^64
noncomputable def Gx(i j:Int):Prop:=(-(2^64)<i/\i<2^64)\/(-(2^64)<j/\j<2^64)
def Gx.ok{i j:Int}(h:Gx i j):IntMulOk i j:=by
 rcases h with ⟨h1,h2⟩|⟨h1,h2⟩
 .exact .of_left (intBits_le_64 h1 h2)
 .exact .of_right (intBits_le_64 h1 h2)
def DT:OpR X (binaryOp .Add) (rI0 λi j=>.int (i+j)):=Im λ_ _ _ _ _ _ _ q=>add_int q
def DU:OpR X (binaryOp .Sub) (rI0 λi j=>.int (i - j)):=Im λ_ _ _ _ _ _ _ q=>sub_int q
def DW:OpR X (binaryOp .Mult) (rI Gx λi j=>.int (i*j)):=opI λ_ _ _ _ _ _ _ hc q=>mul_int q hc.ok
def BK:OpR X (binaryOp .FloorDiv) (rI GU λi j=>.int (i / j)):=opI λi j _ _ _ _ _ hc q=>by
 have h1:(0:Int)<j:=hc.1;have h2:j<1073741824:=hc.2;exact floordiv_int (by omega) (by rw [fdiv_eq_ediv_of_nonneg i (by omega)];exact q) (.inl (MD (by omega)))
def DX:OpR X (binaryOp .Mod) (rI (λ_ j=>0<j) λi j=>.int (i % j)):=opI λi j _ _ _ _ _ hc q=>by
 have h1:(0:Int)<j:=hc;exact mod_int' (by omega) (by rw [fmod_eq_emod_of_nonneg i (by omega)];exact q)
def DY:OpR X (binaryOp .Pow) (rI GV λi j=>.int (i^j.toNat)):=opI λ_ _ _ _ _ _ _ hc q=>pow_int_small hc.1 hc.2.1 hc.2.2 q
def unI{f:Value->Sem Value}{g:Int->Int}(rule:∀(i:Int) (t:Tok) (s:cy) (Q:Value->cy->Prop) (E:Value->cy->Prop),Q (.int (g i) s.toks) { s with toks:=s.toks+1 }->wpAny (model X.prog X.w) X.A (f (.int i t)) Q E s):
  UnR X f (rU λi=>.int (g i)):=by
 intro pins s σ H x v Q I rx h;obtain⟨i,rfl,q⟩:=h;obtain⟨t,rfl⟩:=rx;exact rule i t s _ _ ⟨.int (g i),H,I.tok _,⟨_,rfl⟩,q⟩
def tY:UnR X (unaryOp .USub) (rU λi=>.int (-i)):=unI λ_ _ _ _ _ q=>neg_int q
noncomputable def Io:V->V->Bool
 | .non,.non=>true|.non,.int _=>true|.int _,.non=>true|.non,.bl _=>true|.bl _,.non=>true|.non,.str _=>true|.str _,.non=>true
 | .int _,.int _=>true|.bl _,.bl _=>true|.str _,.str _=>true|.byt _,.byt _=>true
 | .int _,.str _=>true|.str _,.int _=>true|.bl _,.str _=>true|.str _,.bl _=>true
 | _,_=>false
noncomputable def rEq:R2:=λx y H Q=>Io x y=true/\Q (.bl (decide (x=y))) H
noncomputable def rNe:R2:=λx y H Q=>Io x y=true/\Q (.bl (!decide (x=y))) H
def wj{i j:Int}:decide (V.int i=V.int j)=(i == j):=by
 rw [K7];simp
def AM{i j:Bool}:decide (V.bl i=V.bl j)=(i == j):=by
 rw [K7];simp
def wk{i j:Str}:decide (V.str i=V.str j)=(i == j):=by
 rw [K7];simp
def wm{i j:Array UInt8}:decide (V.byt i=V.byt j)=(i.toList == j.toList):=by
 rw [K7];cases i;cases j;simp
def bA{Q:VK}{k k':Bool}(I:Inv X pins σ H s)(q:Q (.bl k) H)(e:k=k'):EP X pins σ Q (.bool k') s:=by
 subst e;exact⟨.bl k,H,I,rfl,q⟩
def GW:OpR X (compareOp .Eq) rEq:=by
 intro pins s σ H x y v u Q I rx ry h;obtain⟨hs,q⟩:=h
 cases x with
 | non =>
  cases rx
  cases y with
  | non=>cases ry;exact PySem.EqNone.eq_none_none (bA I q (by simp))
  | bl j=>cases ry;exact PySem.EqNone.eq_none_bool (bA I q (by simp))
  | int j=>obtain⟨t',rfl⟩:=ry;exact PySem.EqNone.eq_none_int (bA I q (by simp))
  | str j=>obtain⟨t',rfl⟩:=ry;exact PySem.EqNone.eq_none_str (bA I q (by simp))
  | _=>exact absurd (show false=true from hs) j_
 | bl i =>
  cases rx
  cases y with
  | non=>cases ry;exact PySem.EqNone.eq_bool_none (bA I q (by simp))
  | bl j=>cases ry;exact eq_bool (bA I q AM)
  | str j=>obtain⟨t',rfl⟩:=ry;exact PySem.EqMixed.eq_bool_str (bA I q (by simp))
  | _=>exact absurd (show false=true from hs) j_
 | int i =>
  obtain⟨t,rfl⟩:=rx
  cases y with
  | non=>cases ry;exact PySem.EqNone.eq_int_none (bA I q (by simp))
  | int j=>obtain⟨t',rfl⟩:=ry;exact eq_int (bA I q wj)
  | str j=>obtain⟨t',rfl⟩:=ry;exact PySem.EqMixed.eq_int_str (bA I q (by simp))
  | _=>exact absurd (show false=true from hs) j_
 | str i =>
  obtain⟨t,rfl⟩:=rx
  cases y with
  | non=>cases ry;exact PySem.EqNone.eq_str_none (bA I q (by simp))
  | bl j=>cases ry;exact PySem.EqMixed.eq_str_bool (bA I q (by simp))
  | int j=>obtain⟨t',rfl⟩:=ry;exact PySem.EqMixed.eq_str_int (bA I q (by simp))
  | str j=>obtain⟨t',rfl⟩:=ry;exact eq_str (bA I q wk)
  | _=>exact absurd (show false=true from hs) j_
 | byt i =>
  obtain⟨t,rfl⟩:=rx
  cases y with
  | byt j=>obtain⟨t',rfl⟩:=ry;exact PySem.W.eq_bytes (bA I q wm)
  | _=>exact absurd (show false=true from hs) j_
 | _=>cases y <;> exact absurd (show false=true from hs) j_
def GX:OpR X (compareOp .NotEq) rNe:=by
 intro pins s σ H x y v u Q I rx ry h;obtain⟨hs,q⟩:=h
 cases x with
 | non =>
  cases rx
  cases y with
  | non=>cases ry;exact PySem.EqNone.ne_none_none (bA I q (by simp))
  | bl j=>cases ry;exact PySem.EqNone.ne_none_bool (bA I q (by simp))
  | int j=>obtain⟨t',rfl⟩:=ry;exact PySem.EqNone.ne_none_int (bA I q (by simp))
  | str j=>obtain⟨t',rfl⟩:=ry;exact PySem.EqNone.ne_none_str (bA I q (by simp))
  | _=>exact absurd (show false=true from hs) j_
 | bl i =>
  cases rx
  cases y with
  | non=>cases ry;exact PySem.EqNone.ne_bool_none (bA I q (by simp))
  | bl j=>cases ry;exact ne_bool (bA I q (congrArg not AM))
  | str j=>obtain⟨t',rfl⟩:=ry;exact PySem.EqMixed.ne_bool_str (bA I q (by simp))
  | _=>exact absurd (show false=true from hs) j_
 | int i =>
  obtain⟨t,rfl⟩:=rx
  cases y with
  | non=>cases ry;exact PySem.EqNone.ne_int_none (bA I q (by simp))
  | int j=>obtain⟨t',rfl⟩:=ry;exact ne_int (bA I q (congrArg not wj))
  | str j=>obtain⟨t',rfl⟩:=ry;exact PySem.EqMixed.ne_int_str (bA I q (by simp))
  | _=>exact absurd (show false=true from hs) j_
 | str i =>
  obtain⟨t,rfl⟩:=rx
  cases y with
  | non=>cases ry;exact PySem.EqNone.ne_str_none (bA I q (by simp))
  | bl j=>cases ry;exact PySem.EqMixed.ne_str_bool (bA I q (by simp))
  | int j=>obtain⟨t',rfl⟩:=ry;exact PySem.EqMixed.ne_str_int (bA I q (by simp))
  | str j=>obtain⟨t',rfl⟩:=ry;exact ne_str (bA I q (congrArg not wk))
  | _=>exact absurd (show false=true from hs) j_
 | byt i =>
  obtain⟨t,rfl⟩:=rx
  cases y with
  | byt j=>obtain⟨t',rfl⟩:=ry;exact PySem.W.ne_bytes (bA I q (congrArg not wm))
  | _=>exact absurd (show false=true from hs) j_
 | _=>cases y <;> exact absurd (show false=true from hs) j_
def GY:OpR X (compareOp .Lt) (rI0 λi j=>.bl (decide (i<j))):=Dp λ_ _ _ _ _ _ _ q=>lt_int q
def GZ:OpR X (compareOp .LtE) (rI0 λi j=>.bl (decide (i<=j))):=Dp λ_ _ _ _ _ _ _ q=>le_int q
def G0:OpR X (compareOp .Gt) (rI0 λi j=>.bl (decide (j<i))):=Dp λ_ _ _ _ _ _ _ q=>gt_int q
def G1:OpR X (compareOp .GtE) (rI0 λi j=>.bl (decide (j<=i))):=Dp λ_ _ _ _ _ _ _ q=>ge_int q
def wn:OpR X (compareOp .Lt) (λx y H Q=>∃i j,x=.str i/\y=.str j/\Q (.bl (decide (i.cps.toList<j.cps.toList))) H):=by
 intro pins s σ H x y v u Q I rx ry h;obtain⟨i,j,rfl,rfl,q⟩:=h;obtain⟨t,rfl⟩:=rx;obtain⟨t',rfl⟩:=ry;exact lt_str (bA I q rfl)
variable {r':R2}
def OpR.or{f:Value->Value->Sem Value}(h:OpR X f r)(h':OpR X f r'):OpR X f (λx y H Q=>r x y H Q\/r' x y H Q):=by
 intro pins s σ H x y v u Q I rx ry q
 rcases q with q|q
 .exact h pins s σ H x y v u Q I rx ry q
 .exact h' pins s σ H x y v u Q I rx ry q
variable {op:CmpOp}
def aL(b:Expr)(h:op≠.In:=by decide)(h2:op≠.NotIn:=by decide):behindInMarks op b=false:=by
 have e1:(op == CmpOp.In)=false:=by cases op <;> first|rfl|exact absurd rfl h
 have e2:(op == CmpOp.NotIn)=false:=by cases op <;> first|rfl|exact absurd rfl h2
 cases b <;> simp [behindInMarks,e1,e2]
def c7(ho:OpR X (compareOp op) r)(ha:PE X a ta)(hb:PE X b tb)(hm:behindInMarks op b=false):PE X (.Compare a [op] [b] pos) (tOp r ta tb):=by
 intro pins s σ H Q I h;exact wpAny_Compare1 (GT ha hb I h λv u s2 x y H2 I2 rx ry q=>ho pins s2 σ H2 x y v u Q I2 rx ry q) hm
noncomputable def iZ(t:TE):TT:=λσ H Q=>t σ H λx H'=>∃k,x=.bl k/\Q k H'
def aI(ho:OpR X (compareOp op) r)(ha:PE X a ta)(hb:PE X b tb)(hm:behindInMarks op b=false):PT X (.Compare a [op] [b] pos) (iZ (tOp r ta tb)):=by
 intro pins s σ H Q I h
 refine wpAny_isTrue_Compare1 (thn (ha pins s σ H _ I h) λv s1 ⟨x,H1,I1,r1,q1⟩=>thn (hb pins s1 σ H1 _ I1 q1) λu s2 ⟨y,H2,I2,r2,q2⟩ =>
  thn (ho pins s2 σ H2 x y v u _ I2 r1 r2 q2) λc s3 ⟨z,H3,I3,r3,k,e,q3⟩=>?_) hm
 subst e;cases r3;exact JG ⟨H3,I3,q3⟩
variable {tc:TE}
noncomputable def tZ(r r':R2)(ta tb tc:TE):TE:=λσ H Q=>ta σ H λx H1=>tb σ H1 λy H2=>r x y H2 λz H3=>∃k,z=.bl k /\
 (if k=true then tc σ H3 λw' H4=>r' y w' H4 Q else Q (.bl false) H3)
variable {c:Expr}
def t7{op':CmpOp}(ho:OpR X (compareOp op) r)(ho':OpR X (compareOp op') r')(ha:PE X a ta)(hb:PE X b tb)(hc:PE X c tc)(hm:lastMarks [op,op'] [b,c]=false:=by with_unfolding_all rfl):PE X (.Compare a [op,op'] [b,c] pos) (tZ r r' ta tb tc):=by
 intro pins s σ H Q I h
 refine Compare_chain (thn (ha pins s σ H _ I h) λv s1 ⟨x,H1,I1,r1,q1⟩=>chain_link (thn (hb pins s1 σ H1 _ I1 q1) λu s2 ⟨y,H2,I2,r2,q2⟩ =>
  thn (ho pins s2 σ H2 x y v u _ I2 r1 r2 q2) λd s3 ⟨z,H3,I3,r3,k,e,q3⟩=>?_)) hm
 subst e;cases r3;refine JG ?_
 cases k with
 | false=>exact ite_ff ⟨.bl false,H3,I3,rfl,q3⟩
 | true=>exact ite_tt (chain_last (thn (hc pins s3 σ H3 _ I3 q3) λw' s4 ⟨z',H4,I4,r4,q4⟩=>ho' pins s4 σ H4 y z' u w' Q I4 r2 r4 q4))
def yV{op':CmpOp}(ho:OpR X (compareOp op) r)(ho':OpR X (compareOp op') r')(ha:PE X a ta)(hb:PE X b tb)(hc:PE X c tc)(hm:lastMarks [op,op'] [b,c]=false:=by with_unfolding_all rfl):PT X (.Compare a [op,op'] [b,c] pos) (iZ (tZ r r' ta tb tc)):=by
 intro pins s σ H Q I h
 refine isTrue_chain (thn (ha pins s σ H _ I h) λv s1 ⟨x,H1,I1,r1,q1⟩=>test_link (thn (hb pins s1 σ H1 _ I1 q1) λu s2 ⟨y,H2,I2,r2,q2⟩ =>
  thn (ho pins s2 σ H2 x y v u _ I2 r1 r2 q2) λd s3 ⟨z,H3,I3,r3,k,e,q3⟩=>?_)) hm
 subst e;cases r3;refine JG ?_
 cases k with
 | false =>
  obtain⟨k',e',q'⟩:=q3;cases e';exact ite_ff ⟨H3,I3,q'⟩
 | true =>
  refine ite_tt (test_last (thn (hc pins s3 σ H3 _ I3 q3) λw' s4 ⟨z',H4,I4,r4,q4⟩=>thn (ho' pins s4 σ H4 y z' u w' _ I4 r2 r4 q4) λd' s5 ⟨z2,H5,I5,r5,k2,e2,q5⟩=>?_));subst e2;cases r5;exact JG ⟨H5,I5,q5⟩
def k9:(sizeLine:Nat)<2^63:=by rw [LP];decide
def uR:OpR X (binaryOp .Add) (λx y H Q=>∃i j,x=.str i/\y=.str j/\i.length+j.length<=sizeLine/\Q (.str (i++j)) H):=by
 intro pins s σ H x y v u Q I rx ry h;obtain⟨i,j,rfl,rfl,hz,q⟩:=h;obtain⟨t,rfl⟩:=rx;obtain⟨t',rfl⟩:=ry;exact add_str (λt' tk=>⟨.str (i++j),H,I.tok _,⟨_,rfl⟩,q⟩) hz
def fg{x:V}(r:bD [x] us):∃u,us=[u]/\bW x u:=by
 cases r with
 | cons r1 r2=>cases r2;exact⟨_,rfl,r1⟩
def yW{x:V}(r:bD [x,y] us):∃u w',us=[u,w']/\bW x u/\bW y w':=by
 cases r with
 | cons r1 r2 =>
  cases r2 with
  | cons r3 r4=>cases r4;exact⟨_,_,rfl,r1,r3⟩
def wo(hc:X.calm=true):bz X (.builtin "max") (λxs H Q=>∃i j,xs=[.int i,.int j]/\Q (.int (if j > i then j else i)) H):=by
 intro pins s σ H xs us Q I r h;obtain⟨i,j,rfl,q⟩:=h;obtain⟨u,w',rfl,⟨t,rfl⟩,⟨t',rfl⟩⟩:=yW r;refine max_two_ints (I.ok.hd hc) λh' tk k=>⟨_,H,I.kept k,?_,q⟩
 by_cases hj:j > i
 .rw [if_pos hj,if_pos hj];exact⟨_,rfl⟩
 .rw [if_neg hj,if_neg hj];exact⟨_,rfl⟩
def wp(hc:X.calm=true):bz X (.builtin "min") (λxs H Q=>∃i j,xs=[.int i,.int j]/\Q (.int (if j<i then j else i)) H):=by
 intro pins s σ H xs us Q I r h;obtain⟨i,j,rfl,q⟩:=h;obtain⟨u,w',rfl,⟨t,rfl⟩,⟨t',rfl⟩⟩:=yW r;refine min_two_ints (I.ok.hd hc) λh' tk k=>⟨_,H,I.kept k,?_,q⟩
 by_cases hj:j<i
 .rw [if_pos hj,if_pos hj];exact⟨_,rfl⟩
 .rw [if_neg hj,if_neg hj];exact⟨_,rfl⟩
structure BL (h:Heap) (x dx C:Addr) (mA:Str->Option Value):Prop where
 obj:h.get? x=some (J6 C dx)
 ns:h.Ns1 dx mA
 ne:dx≠x
def wq{dx:Addr}{mA:Str->Option Value}(n:h.Ns1 dx mA):∃od,h.get? dx=some od/\∀name,Ma name od=some (mA name):=by
 obtain⟨o,es,ep,ho,hd,hk,_,hm⟩:=n;refine⟨o,ho,λname=>?_⟩;have e:=hm name;unfold nsFind findBy at e;rw [<- Array.find?_toList] at e;unfold Ma;rw [hd];dsimp only
 split
 .rename_i y q;rw [q] at e;exact congrArg some e
 .rename_i q;rw [q] at e
  have a:es.toList.any (·.refKey)=false:=by
   rw [ME];intro y hy;obtain⟨z,t,hkey⟩:=hk y (Array.mem_toList_iff.mp hy);simp [DictEntry.refKey,hkey]
  have a':¬ es.toList.any (·.refKey)=true:=by rw [a];exact j_
  rw [if_neg a'];exact congrArg some e
variable {C:Addr}
def BL.look{x dx:Addr}{mA:Str->Option Value}(I:BL h x dx C mA):∃od,PySem.W.InstAt h x (J6 C dx) C (some od)/\∀name,Ma name od=some (mA name) :=
 let ⟨od,ho,hl⟩:=wq I.ns
 ⟨od,⟨I.obj,rfl,rfl,ho⟩,hl⟩
variable {prog:s_}{x dx:Addr}{mA:Str->Option Value}{name:Str}{v:Value}
def BM{expr:Bool}(X:K.In s.heap)(I:BL s.heap x dx C mA)(hg:KR K C name=true)(hh:Ln K C=true)(ha:o_ K (.ref C) name=some none)(hv:mA name=some v)(hv':PySem.W.handedIn v=true)(h:Q v { s with toks:=s.toks+1 }):
  wpAny (model prog w) A (getAttr (.ref x) name expr) Q E s:=by
 obtain⟨od,J,hl⟩:=I.look;exact PySem.W.get_value X J (L0 hg).1 (PySem.W.findObj_own hh ha rfl (by rw [hl,hv])) hv' h
variable {f:Addr}
def yX{pl:Sem Bool}{Q:Value×List Value->cy->Prop}(X:K.In s.heap)(I:BL s.heap x dx C mA)(hg:KR K C name=true)(hf:o_ K (.ref C) name=some (some (.ref f)))(ht:L4 K (.ref f)=true)(hv:mA name=none)(h:Q (.ref f,[.ref x]) s):
  wpAny (model prog w) A (getMethod (.ref x) name pl) Q E s:=by
 obtain⟨od,J,hl⟩:=I.look;exact PySem.W.method_fn X J (L0 hg).1 (L0 hg).2 hf (beq_iff_eq.mp ht) (by show (Ma name od).map (·.isSome)=some false;rw [hl,hv];rfl) h
def BN{ns:List Str}{Q:Unit->cy->Prop}(X:K.In s.heap)(I:BL s.heap x dx C mA)(hs:o_ K (.ref C) "__setattr__"=some (some (.builtin "object.__setattr__")))(hp:Mo K C=true)(ht:MP K C name=some none)(hh:Ln K C=true)(hw:Nc mA ns)(hsz:ns.length<=sizeLine)(h:∀h',BL h' x dx C (λy=>if y=name then some v else mA y)->KQ dx s.heap h'->Q () { s with heap:=h',toks:=s.toks+2 }):
  wpAny (model prog w) A (setAttr (.ref x) name v) Q E s:=by
 obtain⟨od,J,hl⟩:=I.look;refine PySem.W.set_plain X J hs (PySem.W.osa_open (s:={ s with toks:=s.toks+1 }) (r:=none) X J hp ht λb=>?_);obtain⟨cd,hc,hd'⟩:=PySem.W.any_some hh;have hx:s.heap.get? x=some ⟨.ref C,some dx,.plain,#[]⟩:=I.obj;refine cn (h_ (cn (cn (wpAny_loadPart hx (cn (PySem.W.Looks.here (s:={ s with toks:=s.toks+1 }) (PySem.W.looks_clsIn X hc) ?_))))))
 rw [hd'];refine h_ (a:=some dx) (cn (h_ (cn ?_)));refine wpAny_nsSet1 (s:={ s with toks:=s.toks+1 }) I.ns λh' hn2 hs2=>?_;obtain⟨oD,esD,epD,hoD,hdD,hcD⟩:=hn2.count (PySem.Within.cons name v hw);refine cn (wpAny_lookBehind hoD (by rw [hdD];exact pastItsLine_dict (F_ hcD (by rw [length_cons];omega))) ?_);exact h_ (h _ ⟨(hs2.2 _ (J_ I.ne)).trans I.obj,hn2,I.ne⟩ hs2)
def yY{R:Result->cy->Prop}{vs:List Value}{kw:List (Str×Value)}(X:K.In s.heap)(hm:MQ K C=true)(hi:o_ K (.ref C) "__init__"=some (some (.ref f)))(hf:M0 K (.ref f)=some (.type "function"))(h:codeAny (model prog w) (A.under (.builtin "type.__call__" ⟨.ref C::vs,kw⟩)) (.call (.ref f) ⟨.ref (s.heap.objs.size+1)::vs,kw⟩) (PySem.W.InitBack (s.heap.objs.size+1) R)
   { s with heap:=(s.heap.push JN).push (J6 C s.heap.objs.size) }):
  codeAny (model prog w) A (.call (.ref C) ⟨vs,kw⟩) R s:=by
 obtain⟨hh,g,d,t,os⟩:=s;exact PySem.W.make_core (PySem.W.makes_of X hm) (PySem.W.looks_findIn X hi) (λself=>PySem.W.bind_fn X self hf) (.inl rfl) h
noncomputable def nR(f:Str)(v:V):List (Str×V)->List (Str×V)
 | []=>[(f,v)]
 | (g,x)::r=>if g=f then (g,v)::r else (g,x)::nR f v r
theorem lb(f g:Str)(v:V):∀fs:List (Str×V),(nR f v fs).lookup g=if g=f then some v else fs.lookup g
 | []=>by
  show KF g [(f,v)]=_
  by_cases h:g=f
  .have hb:(g == f)=true:=beq_iff_eq.mpr h;simp only [KF,hb,if_pos h]
  .have hb:(g == f)=false:=beq_eq_false_iff_ne.mpr h;simp only [KF,hb,if_neg h]
 | (k,x)::r=>by
  have ih:=lb f g v r;rw [show nR f v ((k,x)::r)=(if k=f then (k,v)::r else (k,x)::nR f v r) from rfl]
  by_cases hk:k=f
  .rw [if_pos hk]
   by_cases h:g=k
   .have hb:(g == k)=true:=beq_iff_eq.mpr h;simp only [KF,hb,if_pos (h.trans hk)]
   .have hb:(g == k)=false:=beq_eq_false_iff_ne.mpr h;simp only [KF,hb,if_neg (λe:g=f=>h (e.trans hk.symm))]
  .rw [if_neg hk]
   by_cases h:g=k
   .have hb:(g == k)=true:=beq_iff_eq.mpr h;simp only [KF,hb,if_neg (λe:g=f=>hk (h.symm.trans e))]
   .have hb:(g == k)=false:=beq_eq_false_iff_ne.mpr h;simp only [KF,hb];exact ih
theorem lc(f:Str)(v:V):∀fs:List (Str×V),f∈(nR f v fs).map (·.1)/\∀g,g∈fs.map (·.1)->g∈(nR f v fs).map (·.1)
 | []=>⟨by simp [nR],λg h=>by simp at h⟩
 | (k,x)::r=>by
  obtain⟨i1,i2⟩:=lc f v r;rw [show nR f v ((k,x)::r)=(if k=f then (k,v)::r else (k,x)::nR f v r) from rfl]
  by_cases hk:k=f
  .rw [if_pos hk];subst hk;exact⟨by simp,λg h=>by simpa using h⟩
  .rw [if_neg hk]
   refine⟨?_,λg h=>?_⟩
   .rw [map_cons];exact n_ _ i1
   .rw [map_cons] at h ⊢
    rcases mem_cons.mp h with e|e
    .exact mem_cons.mpr (.inl e)
    .exact n_ _ (i2 g e)
theorem lh(f:Str)(v:V):∀fs:List (Str×V),(nR f v fs).length<=fs.length+1
 | []=>by simp [nR]
 | (k,x)::r=>by
  have ih:=lh f v r;rw [show nR f v ((k,x)::r)=(if k=f then (k,v)::r else (k,x)::nR f v r) from rfl]
  by_cases hk:k=f
  .rw [if_pos hk,length_cons,length_cons];omega
  .rw [if_neg hk,length_cons,length_cons];omega
def p4.some_of{v:V}{o:Option Value}(r:p4 (some v) o):∃u,o=some u/\bW v u:=by
 cases o with
 | none=>exact (show False from r).elim
 | some u=>exact⟨u,rfl,r⟩
def p4.none_of{o:Option Value}(r:p4 none o):o=none:=by
 cases o with
 | none=>rfl
 | some u=>exact (show False from r).elim
def wt{v:V}{u:Value}(r:bW v u):PySem.W.handedIn u=true:=by
 cases v with
 | non=>cases (show u=JX from r);rfl
 | bl b=>cases (show u=J4 b from r);rfl
 | int i=>obtain⟨t,e⟩:=(show ∃t,u=Lg i t from r);cases e;rfl
 | str x=>obtain⟨t,e⟩:=(show ∃t,u=LF x t from r);cases e;rfl
 | byt b=>obtain⟨t,e⟩:=(show ∃t,u=Value.bytes b t from r);cases e;rfl
 | flt b=>obtain⟨t,e⟩:=(show ∃t,u=MX b t from r);cases e;rfl
 | ref a=>cases (show u=so a from r);rfl
 | ty n=>cases (show u=J5 n from r);rfl
section
variable {P:s_}{a:Addr}{fs:List (Str×V)}
def li(hok:HOk P w H h)(e:H a=some (.ins C dx fs)):∃mA,BL h a dx C mA/\(∀f,p4 (fs.lookup f) (mA f))/\Nc mA (fs.map (·.1))/\fs.length<=1000/\H dx=some (.own a):=by
 obtain⟨d,z,ne,ob,mA,n,r,q⟩:=(show bB P w H h a (.ins C dx fs) from hok a _ e)
 exact⟨mA,⟨ob,n,ne⟩,r,q,z,d⟩
end
structure Cls (K:b_) (C:Addr):Prop where
 pg:KR K C Str.empty=true
 hd:Ln K C=true
 po:Mo K C=true
 sa:o_ K (.ref C) "__setattr__"=some (some (.builtin "object.__setattr__"))
def Cls.get(c:Cls K C)(f:Str):KR K C f=true:=c.pg
noncomputable def eo(K:b_)(C:Addr)(f:Str):Prop:=o_ K (.ref C) f=some none
def eo.taker{f:Str}(n:eo K C f):MP K C f=some none:=by
 unfold MP;rw [show o_ K (.ref C) f=some none from n];rfl
structure Gy (K:b_) (C:Addr) (m:Str) (f:Addr):Prop where
 at_:o_ K (.ref C) m=some (some (.ref f))
 fn:L4 K (.ref f)=true
 kp:C_ K (.ref f)=true
section
variable {a:Addr}{fs:List (Str×V)}{f:Str}{v:V}
def uS{b:Bool}(I:Inv X pins σ H s)(e:H a=some (.ins C dx fs))(c:Cls X.K C)(n:eo X.K C f)(l:fs.lookup f=some v)(h:∀u s',Inv X pins σ H s'->bW v u->Q u s'):wpAny (model X.prog X.w) A (getAttr (.ref a) f b) Q E s:=by
 obtain⟨mA,O,r,_,_,_⟩:=li I.hok e;obtain⟨u,hu,ru⟩:=p4.some_of (v:=v) (o:=mA f) (by rw [<- l];exact r f);exact BM I.kIn O (c.get f) c.hd n hu (wt ru) (h u _ (I.tok _) ru)
def uT{m:Str}{g:Addr}{pl:Sem Bool}{Q:Value×List Value->cy->Prop}(I:Inv X pins σ H s)(e:H a=some (.ins C dx fs))(c:Cls X.K C)(k:Gy X.K C m g)(l:fs.lookup m=none)(h:Q (.ref g,[.ref a]) s):wpAny (model X.prog X.w) A (getMethod (.ref a) m pl) Q E s:=by
 obtain⟨mA,O,r,_,_,_⟩:=li I.hok e;have hn:mA m=none:=p4.none_of (by rw [<- l];exact r m);exact yX I.kIn O (c.get m) k.at_ k.fn hn h
def uU{u:Value}{Q:Unit->cy->Prop}(I:Inv X pins σ H s)(e:H a=some (.ins C dx fs))(c:Cls X.K C)(n:eo X.K C f)(hl:fs.length<1000)(ry:bW y u)(h:∀s',Inv X pins σ (upd H a (.ins C dx (nR f y fs))) s'->Q () s'):wpAny (model X.prog X.w) A (setAttr (.ref a) f u) Q E s:=by
 obtain⟨mA,O,r,wi,_,ho⟩:=li I.hok e;have hz:(fs.map (·.1)).length<=sizeLine:=by rw [length_map,LP];omega
 refine BN I.kIn O c.sa c.po n.taker c.hd wi hz λh' O' sb=>h _ ?_;have hd:∃o,h'.get? dx=some o:=let ⟨o,_,_,e',_⟩:=O'.ns;⟨o,e'⟩
 refine I.write (x:=a) (e:=dx) (by rw [e];exact JM) (.inr ho) (λb q hb z=>(sb.2 b hb).trans z) hd ?_
 refine⟨by rw [ar O.ne];exact ho,?_,O.ne,O'.obj,_,O'.ns,λg=>?_,λg hg=>?_⟩
 .have:=lh f y fs;omega
 .show p4 ((nR f y fs).lookup g) (if g=f then some u else mA g);rw [lb]
  by_cases q:g=f
  .rw [if_pos q,if_pos q];exact ry
  .rw [if_neg q,if_neg q];exact r g
 .by_cases q:g=f
  .rw [q];exact (lc f y fs).1
  .refine (lc f y fs).2 g (wi g λz=>hg ?_);show (if g=f then some u else mA g)=none;rw [if_neg q];exact z
def Inv.made(I:Inv X pins σ H s):Inv X pins σ (upd (upd H s.heap.objs.size (.own (s.heap.objs.size+1))) (s.heap.objs.size+1) (.ins C s.heap.objs.size []))
  { s with heap:=(s.heap.push JN).push (J6 C s.heap.objs.size) }:=by
 have e1:(s.heap.push JN).get? s.heap.objs.size=some JN:=kx s.heap rfl
 have e2:((s.heap.push JN).push (J6 C s.heap.objs.size)).get? (s.heap.objs.size+1)=some (J6 C s.heap.objs.size):=by
  have:=kx (s.heap.push JN) (o:=J6 C s.heap.objs.size) rfl
  rwa [JO] at this
 have e3:(s.heap.push JN).Ns s.heap.objs.size (λ_=>none):=⟨JN,#[],_,e1,rfl,(λe he=>absurd he (by simp)),λ_=>rfl⟩
 have I1:=I.laid (a:=s.heap.objs.size) (o:=.own (s.heap.objs.size+1)) (h':=s.heap.push JN) (t':=s.toks) (λb u q=>d_ _ q) (f_ _) ⟨_,e1⟩;refine I1.laid (a:=s.heap.objs.size+1) (o:=.ins C s.heap.objs.size []) (t':=s.toks) (λb u q=>d_ _ q) (LQ (JO _ _)) ?_;have ne:s.heap.objs.size≠s.heap.objs.size+1:=I_ (JH _)
 refine⟨by rw [ar ne,aC],Lo _,ne,e2,λ_=>none,(Heap.Ns1.of_empty e3).at λo q=>d_ _ q,λ_=>JM,λy hy=>absurd rfl hy⟩
variable {env:Env}
def BO(hb:attributeBase e f env (eval e env)=eval e env)(h:wpAny (model prog w) A (eval e env) (λo s₁=>wpAny (model prog w) A (getAttr o f true) Q E s₁) E s):wpAny (model prog w) A (eval (.Attribute e f pos) env) Q E s :=
 Attribute_any_ h (by rw [arm_eval_Attribute,hb])
end
noncomputable def wu(K:b_)(ta:TE)(f:Str):TE:=λσ H Q=>ta σ H λx H1=>∃a C dx fs v,x=.ref a/\H1 a=some (.ins C dx fs)/\Cls K C/\eo K C f/\fs.lookup f=some v/\Q v H1
noncomputable def Iq(K:b_)(ta tv:TE)(f:Str):TS:=λD σ H=>tv σ H λy H1=>ta σ H1 λx H2=>∃a C dx fs,x=.ref a/\H2 a=some (.ins C dx fs)/\Cls K C/\eo K C f/\fs.length<1000 /\
 D.nx σ (upd H2 a (.ins C dx (nR f y fs)))
variable {f:Str}
def DZ(he:PE X e ta)(hb:attributeBase e f X.env (eval e X.env)=eval e X.env):PE X (.Attribute e f pos) (wu X.K ta f):=by
 intro pins s σ H Q I h;refine BO hb (thn (he pins s σ H _ I h) λu s1 ⟨x,H1,I1,rx,a,C,dx,fs,v,ex,ea,c,n,l,q⟩=>?_);subst ex;obtain rfl:u=so a:=rx;exact uS I1 ea c n l λu' s2 I2 ru=>⟨v,H1,I2,ru,q⟩
variable {o value:Expr}{pos':Pos}{tv:TE}
def nS(ha:PE X o ta)(hv:PE X value tv)(hs:swapsWith value (some (.Attribute o f pos')) pos.line X.env=pure false):PS X (.Assign [.Attribute o f pos'] value pos) (Iq X.K ta tv f):=by
 intro pins s σ H D I h;refine plainObj_wpAny_Assign_Attribute (thn (hv pins s σ H _ I h) λu s1 ⟨y,H1,I1,ry,q⟩=>thn (ha pins s1 σ H1 _ I1 q) λov s2 ⟨x,H2,I2,rx,a,C,dx,fs,ex,ea,c,n,l,q2⟩=>?_) hs;subst ex;obtain rfl:ov=so a:=rx;exact uU I2 ea c n l ry λs3 I3=>⟨σ,_,I3,q2⟩
inductive pW (K:b_) (H:Hp):V->Value->Prop where
 | non:pW K H .non (.type "NoneType")
 | bl (x:Bool):pW K H (.bl x) (.type "bool")
 | int (i:Int):pW K H (.int i) (.type "int")
 | str (x:Str):pW K H (.str x) (.type "str")
 | flt (x:UInt64):pW K H (.flt x) (.type "float")
 | lst {a:Addr}{xs:List V} (e:H a=some (.lst xs)):pW K H (.ref a) (.type "list")
 | frz {a:Addr}{o:Obj}{xs:List V} (e:H a=some (.frz o (.lst xs))):pW K H (.ref a) (.type "list")
 | tup {a:Addr}{xs:List V} (e:H a=some (.tup xs)):pW K H (.ref a) (.type "tuple")
 | dK {a:Addr}{kvs:List (Key×V)} (e:H a=some (.dK kvs)):pW K H (.ref a) (.type "dict")
 | dT {a:Addr}{kvs:List (List Key×V)} (e:H a=some (.dT kvs)):pW K H (.ref a) (.type "dict")
 | ins {a C dx:Addr}{fs:List (Str×V)} (e:H a=some (.ins C dx fs)) (cl:Cls K C) (ha:o_ K (.ref C) "__class__"=some (some (.builtin "object.__class__")))
   (hn:PySem.W.specialIn K (.builtin "object.__class__") "__get__"=some (some (.builtin "getset_descriptor.__get__"))) (htk:PySem.W.takesIn K (.builtin "object.__class__")=some true)
   (hm:PySem.W.mroIn K C (.type "object")=some true):pW K H (.ref a) (.ref C)
variable {c:Value}{b:Bool}
def wv{x:V}{u t:Value}(I:Inv X pins σ H s)(rx:bW x u)(ty:pW X.K H x t)(e:Kh X.K t c=some b)(h:∀tk,Q (.bool b) { s with toks:=tk }):
  wpAny (model X.prog X.w) A (call (.builtin "isinstance") [u,c]) Q E s:=by
 cases ty with
 | non=>cases (show u=JX from rx);exact JK PySem.W.kitx_none I.kIn JM e (λz=>nomatch z) h
 | bl y=>cases (show u=J4 y from rx);exact JK PySem.W.kitx_bool I.kIn JM e (λz=>nomatch z) h
 | int i=>obtain⟨t,q⟩:=(show ∃t,u=Lg i t from rx);cases q;exact JK PySem.W.kitx_int I.kIn JM e (λz=>nomatch z) h
 | str y=>obtain⟨t,q⟩:=(show ∃t,u=LF y t from rx);cases q;exact JK PySem.W.kitx_str I.kIn JM e (λz=>nomatch z) h
 | flt y=>obtain⟨t,q⟩:=(show ∃t,u=MX y t from rx);cases q;exact JK PySem.W.kitx_float I.kIn JM e (λz=>nomatch z) h
 | @lst a xs ea =>
  cases (show u=so a from rx);obtain⟨_,_,n,_,h1⟩:=(show bB X.prog X.w H s.heap a (.lst xs) from I.hok a _ ea)
  exact JK Lp I.kIn ⟨_,h1,rfl⟩ e (λz=>nomatch z) h
 | @frz a ob xs ea =>
  cases (show u=so a from rx);obtain⟨_,_,_,n,_,h1⟩:=(show bB X.prog X.w H s.heap a (.frz ob (.lst xs)) from I.hok a _ ea)
  exact JK Lp I.kIn ⟨_,h1,rfl⟩ e (λz=>nomatch z) h
 | @tup a xs ea =>
  cases (show u=so a from rx);obtain⟨_,_,_,p⟩:=(show bB X.prog X.w H s.heap a (.tup xs) from I.hok a _ ea)
  obtain⟨o,h1,h2,_⟩:=p;exact JK PySem.W.kitx_tuple I.kIn ⟨o,h1,h2⟩ e (λz=>nomatch z) h
 | @dK a kvs ea =>
  cases (show u=so a from rx);obtain⟨_,_,vs,_,p⟩:=(show bB X.prog X.w H s.heap a (.dK kvs) from I.hok a _ ea)
  obtain⟨o,es,ep,h1,h2,_⟩:=p;exact JK Lq I.kIn ⟨o,h1,h2.1⟩ e (λz=>nomatch z) h
 | @dT a kvs ea =>
  cases (show u=so a from rx);obtain⟨_,_,xs,_,o,es,ep,h1,h2,_⟩:=(show bB X.prog X.w H s.heap a (.dT kvs) from I.hok a _ ea)
  exact JK Lq I.kIn ⟨o,h1,h2.1⟩ e (λz=>nomatch z) h
 | @ins a C dx fs ea cl ha hn htk hm =>
  cases (show u=so a from rx);obtain⟨mA,O,_⟩:=li I.hok ea;obtain⟨od,J,_⟩:=O.look;exact JK (PySem.W.kitx_own (cl.get _) cl.hd ha hn htk hm) I.kIn J e (λz=>nomatch z) h
structure d8 (k:Nat) (A:y_):Prop where
 hd:A.handled=none
 dp:A.depth+3*k+5<recursionLimit
 un:A.units+16*k+200<cLine
def d8.mono{k:Nat}(r:d8 k A)(h:j<=k):d8 j A:=⟨r.hd,by have:=r.dp;omega,by have:=r.un;omega⟩
def d8.deeper{k:Nat}(r:d8 (k+1) A)(env:Env):d8 k (A.deeper env) :=
 ⟨r.hd,by have:=r.dp;show A.depth+1+3*k+5<_;omega,by have:=r.un;show A.units+3+16*k+200<_;omega⟩
def uV{kw:List (Str×Value)}:(A.under (.builtin "type.__call__" ⟨.ref C::us,kw⟩)).depth=A.depth+1:=by
 first|rfl|simp [Around.under,Code.weight,Code.isCreation,Code.isGuard,Code.isCaller,Code.frames,Code.isFrame,guardIds]
def uW{kw:List (Str×Value)}:(A.under (.builtin "type.__call__" ⟨.ref C::us,kw⟩)).units=A.units+1:=by
 first|rfl|simp [Around.under,Code.cUnits,Code.frames,Code.isFrame]
def d8.make{k:Nat}(r:d8 (k+1) A)(C:Addr)(us:List Value)(kw:List (Str×Value)):d8 k (A.under (.builtin "type.__call__" ⟨.ref C::us,kw⟩)) :=
 ⟨r.hd,by have:=r.dp;rw [uV];omega,by have:=r.un;rw [uW];omega⟩
def d8.depth{k:Nat}(r:d8 k A):A.depth<recursionLimit:=by have:=r.dp;omega
def d8.units{k:Nat}(r:d8 k A):A.units+64<cLine:=by have:=r.un;omega
def c6:TA:=λ_ H Q=>Q [] H
noncomputable def aK(ta:TE)(tr:TA):TA:=λσ H Q=>ta σ H λx H1=>tr σ H1 λxs H2=>Q (x::xs) H2
def ae:PA X [] c6:=λ_ _ _ _ H Q I h=>KC ⟨[],H,I,.nil,h⟩
variable {t:TA}
def BP(ha:PE X e te)(hr:PA X es t)(hs:starEach (e::es) X.env=(false,eval e X.env)::starEach es X.env:=by rfl):PA X (e::es) (aK te t):=by
 intro pos pins s σ H Q I h;rw [hs];show wpAny _ _ (spliced ((false,eval e X.env)::backTo pos (starEach es X.env))) _ _ s;refine Kx (thn (ha pins s σ H _ I h) λu s1 ⟨x,H1,I1,r1,q1⟩=>?_);exact thn (hr pos pins s1 σ H1 _ I1 q1) λus s2 ⟨xs,H2,I2,r2,q2⟩=>⟨x::xs,H2,I2,.cons r1 r2,q2⟩
noncomputable def D0(t:TA):TE:=λσ H Q=>t σ H λxs H1=>xs.length<=sizeLine/\∀p,H1 p=none->Q (.ref p) (upd H1 p (.tup xs))
noncomputable def Gz(t:TA):TE:=λσ H Q=>t σ H λxs H1=>xs.length<=sizeLine/\∀p,H1 p=none->Q (.ref p) (upd H1 p (.lst xs))
def nU{x1}(h:PA X es t):PE X (.Tuple es x1 pos) (D0 t):=by
 intro pins s σ H Q I hq;refine wpAny_Tuple_spliced (thn (h pos pins s σ H _ I hq) λus s1 ⟨xs,H1,I1,r,z,q⟩=>⟨by rw [<- r.length];exact z,?_⟩);have hf:H1 s1.heap.objs.size=none:=I1.hok.fresh (f_ _);refine⟨.ref s1.heap.objs.size,upd H1 s1.heap.objs.size (.tup xs),I1.laid (t':=s1.toks) (λb u e=>d_ _ e) (f_ _) ?_,rfl,q _ hf⟩;exact⟨z,us,r,⟨_,kx _ rfl,rfl,_,rfl⟩⟩
def b7(h:PA X es t):PE X (.List es pos) (Gz t):=by
 intro pins s σ H Q I hq;refine wpAny_List_spliced (thn (h pos pins s σ H _ I hq) λus s1 ⟨xs,H1,I1,r,z,q⟩=>⟨by rw [<- r.length];exact z,?_⟩);have hf:H1 s1.heap.objs.size=none:=I1.hok.fresh (f_ _);refine⟨.ref s1.heap.objs.size,upd H1 s1.heap.objs.size (.lst xs),I1.laid (t':=s1.toks) (λb u e=>d_ _ e) (f_ _) ?_,rfl,q _ hf⟩;exact⟨z,us,0,r,kx _ rfl⟩
abbrev Sp:=List V->Hp->VK->XK->Prop
abbrev CXT:=List Env->Hp->cy->XK->Value->cy->Prop
structure BQ (P:s_) (w:World) (K:b_) (mg:Str->Option Value) (base:Heap) (A:y_) (outer:List Env) (s:cy) (H:Hp):Prop where
 frames:A.frames=some outer
 mod:Mod K mg base
 bs:∀b o,base.get? b=some o->s.heap.get? b=some o/\H b=none
 bsz:base.objs.size<=s.heap.objs.size
 funs:s.heap.FunFrames base outer
 frf:∀b∈frs outer,H b=none
 hok:HOk P w H s.heap
 bare:Mn s.gens
 tb:p5 base H
noncomputable def CE(outer:List Env)(P:s_)(w:World)(H:Hp)(s:cy)(Q:VK)(u:Value)(s':cy):Prop :=
 ∃v H',s'.os=s.os/\Mn s'.gens/\Un (frs outer) [] H H' s.heap s'.heap/\HOk P w H' s'.heap/\bW v u/\Q v H'
noncomputable def CR(CX:CXT)(outer:List Env)(P:s_)(w:World)(H:Hp)(s:cy)(Q:VK)(E:XK)(r:Result)(s':cy):Prop :=
 match r with
 | .ok (.ret u)=>CE outer P w H s Q u s'
 | .ok _=>False
 | .error e=>CX outer H s E e s'
structure oF (P:s_) (w:World) (K:b_) (mg:Str->Option Value) (base:Heap) (CX:CXT) (k:Nat) (f:Addr) (fd:JS) (ps:List Str) (sp:Sp):Prop where
 len:∀vs H Q E,sp vs H Q E->vs.length=ps.length
 run:∀(A:y_) (outer:List Env) (s:cy) (H:Hp) (args:Args) (us:List Value) (vs:List V) (Q:VK) (E:XK),d8 k A->BQ P w K mg base A outer s H->MF s fd args (ps.zip us)->bD vs us->sp vs H Q E ->
  codeAny (model P w) A (.call (.ref f) args) (CR CX outer P w H s Q E) s
variable {mg:Str->Option Value}{fd:JS}
def oF.imp{P:s_}{CX:CXT}{k:Nat}{f:Addr}{ps:List Str}{sp sp':Sp}(F:oF P w K mg base CX k f fd ps sp)(h:∀vs H Q E,sp' vs H Q E->sp vs H Q E):oF P w K mg base CX k f fd ps sp' :=
 ⟨λvs H Q E q=>F.len vs H Q E (h _ _ _ _ q),λA outer s H args us vs Q E hr he hb hv hs=>F.run A outer s H args us vs Q E hr he hb hv (h _ _ _ _ hs)⟩
def BQ.make{P:s_}{outer:List Env}(e:BQ P w K mg base A outer s H)(C:Addr)(us:List Value)(kw:List (Str×Value)):
  BQ P w K mg base (A.under (.builtin "type.__call__" ⟨.ref C::us,kw⟩)) outer s H:=⟨by first|exact e.frames|(simpa [Around.under,Code.envs,Code.isFrame,pushEnvs] using e.frames),e.mod,e.bs,e.bsz,e.funs,e.frf,e.hok,e.bare,e.tb⟩
def Inv.env0(I:Inv X pins σ H s):BQ X.prog X.w X.K X.mg X.base X.A X.stack s H :=
 ⟨I.ok.frames,I.ok.mod,I.bs,F_ I.ok.bsz I.sz,I.stack,I.stkFree,I.hok,I.bare,I.ok.tb.un I.base⟩
variable {s':cy}
def Inv.after{Q:VK}{u:Value}(I:Inv X pins σ H s)(h:CE X.stack X.prog X.w H s Q u s'):EP X pins σ Q u s':=by
 obtain⟨v,H',os,bare,un,hok,r,q⟩:=h;obtain⟨hh,g,d,t,os'⟩:=s';obtain rfl:os'=s.os:=os;exact⟨v,H',I.call (h':=hh) (g':=g) (d':=d) (t':=t) (ch:=[]) un hok bare (λb z=>absurd z (by simp)),r,q⟩
noncomputable def dJ(sp:Sp)(dvs:List V)(E:XK)(t:TA):TE:=λσ H Q=>t σ H λvs H1=>sp (vs++dvs) H1 Q E
noncomputable def BR(C:Addr)(m:Str)(sp:Sp)(dvs:List V)(E:XK)(ta:TE)(t:TA):TE:=λσ H Q=>ta σ H λx H1=>∃a dx fs,x=.ref a/\H1 a=some (.ins C dx fs)/\fs.lookup m=none /\
 t σ H1 λvs H2=>sp (x::(vs++dvs)) H2 Q E
noncomputable def yZ(C:Addr)(sp:Sp)(dvs:List V)(E:XK)(t:TA):TE:=λσ H Q=>t σ H λvs H1=>∀x dx,H1 x=none->H1 dx=none->dx≠x ->
 sp (.ref x::(vs++dvs)) (upd (upd H1 dx (.own x)) x (.ins C dx [])) (λv H2=>v=.non/\Q (.ref x) H2) E
noncomputable def kE(K:b_)(fd:JS)(ps:List Str)(ds:List Value):Prop :=
 ∀(s:cy) (us:List Value),K.In s.heap->(us++ds).length=ps.length->MF s fd ⟨us,[]⟩ (ps.zip (us++ds))
def kE.all{ps:List Str}(h:∀us:List Value,us.length=ps.length->bindArgs fd ⟨us,[]⟩=pure (ps.zip us)):kE K fd ps []:=λs us _ hl=>by
 rw [JY] at hl ⊢;exact .of_eq (h us hl)
noncomputable def nV(CX:CXT)(X:Cx)(E:XK):Prop:=∀(pins:List (Addr×Obj)) (σ:St) (H:Hp) (s:cy) (e:Value) (s':cy),Inv X pins σ H s->CX X.stack H s E e s'->X.xe e s'
section
variable {CX:CXT}{k:Nat}{f:Addr}{ps:List Str}{sp:Sp}{dvs:List V}{ds:List Value}{E:XK}{vs:List V}
def AN{Q:VK}(F:oF X.prog X.w X.K X.mg X.base CX k f fd ps sp)(hr:d8 k X.A)(hb:kE X.K fd ps ds)(hd:bD dvs ds)(hx:nV CX X E)(I:Inv X pins σ H s)(r:bD vs us)(h:sp (vs++dvs) H Q E):wpAny (model X.prog X.w) X.A (call (.ref f) us) (EP X pins σ Q) X.xe s:=by
 have r2:bD (vs++dvs) (us++ds):=r.append hd;have hl:(us++ds).length=ps.length:=by rw [<- r2.length];exact F.len _ _ _ _ h
 refine wpAny_call (MG (F.run X.A X.stack s H ⟨us,[]⟩ (us++ds) (vs++dvs) Q E hr I.env0 (hb s us I.kIn hl) r2 h) λr s' hq=>?_)
 cases r with
 | error e=>exact hx pins σ H s e s' I hq
 | ok fl =>
  cases fl with
  | ret u=>exact I.after hq
  | next=>exact J7 hq
  | brk=>exact J7 hq
  | cont=>exact J7 hq
variable {x:Str}{p:Pos}
def wx(F:oF X.prog X.w X.K X.mg X.base CX k f fd ps sp)(hr:d8 k X.A)(hg:Gl X x)(hm:X.mg x=some (.ref f))(hk:C_ X.K (.ref f)=true)(hb:kE X.K fd ps ds)(hd:bD dvs ds)(hx:nV CX X E)(ha:PA X (e::es) t)(hdb:(x == ("__debug__":Str))=false:=by decide)(he:starEach (e::es) X.env=(false,eval e X.env)::starEach es X.env:=by rfl)(hpl:(backTo pos (starEach es X.env)).any (·.1)=false:=by rfl):
  PE X (.Call (.Name x p) (e::es) [] pos) (dJ sp dvs E t):=by
 intro pins s σ H Q I h;refine Lb (rQ I hg hm ?_ hdb);refine PySem.W.callWith_K (h₀:=X.base) I.ok.mod.kin hk (thn (ha pos pins s σ H _ I h) λus s1 ⟨vs,H1,I1,r,q⟩=>⟨I1.kIn,?_⟩) he hpl;exact AN F hr hb hd hx I1 r q
variable {m:Str}{apos:Pos}
def y0{pl:Sem Bool}(he:PE X o ta)(c:Cls X.K C)(hm:Gy X.K C m f)(F:oF X.prog X.w X.K X.mg X.base CX k f fd ps sp)(hr:d8 k X.A)(hb:kE X.K fd ps ds)(hd:bD dvs ds)(hx:nV CX X E)(ht:eval (.Call (.Attribute o m apos) [] [] pos) X.env=(do
   let ov <- eval o X.env
   standAt apos.atName
   let (f,first) <- holding [ov] (getMethod ov m pl)
   callWith pos f first (backTo pos (starEach [] X.env)) (backToKw pos (keywordEach [] X.env))):=by rfl):
  PE X (.Call (.Attribute o m apos) [] [] pos) (BR C m sp dvs E ta c6):=by
 intro pins s σ H Q I h;refine PySem.W.methodCall_KW (pl:=pl) (thn (he pins s σ H _ I h) λu s1 ⟨x,H1,I1,rx,a,dx,fs,ex,ea,l,q⟩=>?_) ht;subst ex;obtain rfl:u=so a:=rx;refine uT I1 ea c hm l ?_;exact PySem.W.callWith_K0 (first:=[.ref a]) I1.kIn hm.kp (AN (us:=[.ref a]) (vs:=[.ref a]) F hr hb hd hx I1 (.cons rfl .nil) q)
structure Mk (K:b_) (C f:Addr):Prop where
 makes:MQ K C=true
 init:o_ K (.ref C) "__init__"=some (some (.ref f))
 fn:L4 K (.ref f)=true
 kp:C_ K (.ref C)=true
def y8{Q:VK}(M:Mk X.K C f)(F:oF X.prog X.w X.K X.mg X.base CX k f fd ps sp)(hr:d8 (k+1) X.A)(hb:kE X.K fd ps ds)(hd:bD dvs ds)(hx:nV CX X E)(I:Inv X pins σ H s)(r:bD vs us)(h:∀x dx,H x=none->H dx=none->dx≠x->sp (.ref x::(vs++dvs)) (upd (upd H dx (.own x)) x (.ins C dx [])) (λv H2=>v=.non/\Q (.ref x) H2) E):
  wpAny (model X.prog X.w) X.A (call (.ref C) us) (EP X pins σ Q) X.xe s:=by
 have hq:=h (s.heap.objs.size+1) s.heap.objs.size (I.hok.fresh (le_succ _)) (I.hok.fresh (f_ _)) (I_ (JH _));have I2:=Inv.made (C:=C) I;have r2:bD (V.ref (s.heap.objs.size+1)::(vs++dvs)) (so (s.heap.objs.size+1)::(us++ds)):=.cons rfl (r.append hd)
 have hl:(so (s.heap.objs.size+1)::us++ds).length=ps.length:=by
  have e:=r2.length;rw [F.len _ _ _ _ hq] at e;exact e.symm
 refine wpAny_call (yY (f:=f) I.kIn M.makes M.init (beq_iff_eq.mp M.fn) (MG (F.run _ X.stack _ _ ⟨so (s.heap.objs.size+1)::us,[]⟩ (so (s.heap.objs.size+1)::(us++ds)) _ _ E (hr.make C us [])
  (I2.env0.make C us []) (hb _ (so (s.heap.objs.size+1)::us) I2.kIn hl) r2 hq) λr s' hq'=>?_))
 cases r with
 | error e=>exact hx pins σ _ _ e s' I2 hq'
 | ok fl =>
  cases fl with
  | ret u =>
   obtain⟨v,H',I3,rv,ev,q3⟩:=I2.after hq';subst ev;exact⟨rv,⟨V.ref (s.heap.objs.size+1),H',I3,rfl,q3⟩⟩
  | next=>exact J7 hq'
  | brk=>exact J7 hq'
  | cont=>exact J7 hq'
def BS(M:Mk X.K C f)(F:oF X.prog X.w X.K X.mg X.base CX k f fd ps sp)(hr:d8 (k+1) X.A)(hg:Gl X x)(hm:X.mg x=some (.ref C))(hb:kE X.K fd ps ds)(hd:bD dvs ds)(hx:nV CX X E)(ha:PA X (e::es) t)(hdb:(x == ("__debug__":Str))=false:=by decide)(he:starEach (e::es) X.env=(false,eval e X.env)::starEach es X.env:=by rfl)(hpl:(backTo pos (starEach es X.env)).any (·.1)=false:=by rfl):
  PE X (.Call (.Name x p) (e::es) [] pos) (yZ C sp dvs E t):=by
 intro pins s σ H Q I h;refine Lb (rQ I hg hm ?_ hdb);refine PySem.W.callWith_K (h₀:=X.base) I.ok.mod.kin M.kp (thn (ha pos pins s σ H _ I h) λus s1 ⟨vs,H1,I1,r,q⟩=>⟨I1.kIn,?_⟩) he hpl;exact y8 M F hr hb hd hx I1 r q
end
structure az (N P:List Str) (sc:Scope):Prop where
 kind:sc.kind=.function
 co:sc.isCoroutine=false
 gen:sc.isGenerator=false
 nd:N.Nodup
 pre:N.take P.length=P
 par:∀x∈P,sc.names.lookup x=some .local\/sc.names.lookup x=some .cell
 nofree:∀y∈sc.names,y.2≠.free
theorem p6{kindOf:Str->Option JT}{x:Str}:∀{binds:List (Str×Value)}{m:Str->Option Value},(∀v,(x,v)∉binds)->bindL kindOf binds m x=m x
 | [],_,_=>rfl
 | (n,v)::r,m,h=>by
  unfold bindL;rw [p6 λw hw=>h w (n_ _ hw)]
  split
  .have:x≠n:=by rintro rfl;exact h v mem_cons_self
   simp [this]
  .rfl
theorem p7{kindOf:Str->Option JT}{x:Str}:∀{binds:List (Str×Value)}{m:Str->Option Value},(∀v,(x,v)∉binds)->bindC kindOf binds m x=m x
 | [],_,_=>rfl
 | (n,v)::r,m,h=>by
  unfold bindC;rw [p7 λw hw=>h w (n_ _ hw)]
  split
  .rfl
  .have:x≠n:=by rintro rfl;exact h v mem_cons_self
   simp [this]
theorem p8{kindOf:Str->Option JT}{x:Str}:∀{P:List Str}{vs:List Value}{i:Nat}{m:Str->Option Value},P.Nodup->P[i]?=some x->vs[i]?=some v->kindOf x=some .local ->
  bindL kindOf (P.zip vs) m x=some v
 | [],_,_,_,_,h,_,_=>by simp at h
 | _::_,[],_,_,_,_,h,_=>by simp at h
 | p::P,w::vs,0,m,nd,h1,h2,hk=>by
  simp at h1 h2;subst h1;subst h2;show bindL kindOf ((p,w)::P.zip vs) m p=_;unfold bindL;rw [p6 λv hv=>(Lc.mp nd).1 (of_mem_zip hv).1,if_pos hk];simp
 | p::P,w::vs,i+1,m,nd,h1,h2,hk=>by
  show bindL kindOf ((p,w)::P.zip vs) m x=_;unfold bindL;exact p8 (i:=i) (Lc.mp nd).2 (by simpa using h1) (by simpa using h2) hk
theorem p9{kindOf:Str->Option JT}{x:Str}:∀{P:List Str}{vs:List Value}{i:Nat}{m:Str->Option Value},P.Nodup->P[i]?=some x->vs[i]?=some v->kindOf x≠some .local ->
  bindC kindOf (P.zip vs) m x=some v
 | [],_,_,_,_,h,_,_=>by simp at h
 | _::_,[],_,_,_,_,h,_=>by simp at h
 | p::P,w::vs,0,m,nd,h1,h2,hk=>by
  simp at h1 h2;subst h1;subst h2;show bindC kindOf ((p,w)::P.zip vs) m p=_;unfold bindC;rw [p7 λv hv=>(Lc.mp nd).1 (of_mem_zip hv).1,if_neg hk];simp
 | p::P,w::vs,i+1,m,nd,h1,h2,hk=>by
  show bindC kindOf ((p,w)::P.zip vs) m x=_;unfold bindC;exact p9 (i:=i) (Lc.mp nd).2 (by simpa using h1) (by simpa using h2) hk
noncomputable def start(N:List Str)(vs:List V):St:=vs.map some++v_ (N.length - vs.length) none
noncomputable def pX(CX:CXT)(P:s_)(w:World)(K:b_)(mg:Str->Option Value)(base:Heap)(N:List Str)(qual:Str)(scope:Scope)(f:Addr)(cd:Value)(A:y_)(outer:List Env)(s:cy)(H:Hp)(E:XK):Cx where
 prog:=P
 w:=w
 K:=K
 mg:=mg
 base:=base
 A:=A.deeper (envOfC qual scope s.heap.objs.size f cd)
 N:=N
 s₀:=s
 H₀:=H
 env:=envOfC qual scope s.heap.objs.size f cd
 outer:=outer
 stack:=envOfC qual scope s.heap.objs.size f cd::outer
 ex:=[]
 calm:=true
 fn:=λ_=>true
 pn:=[]
 xe:=λe s'=>wpAny (model P w) (A.deeper (envOfC qual scope s.heap.objs.size f cd)) (leaving (envOfC qual scope s.heap.objs.size f cd) e) (λ_ s''=>CX outer H s E e s'') (λe' s''=>CX outer H s E e' s'') s'
def t8{sc:Scope}{x:Str}(h:sc.names.lookup x=some .cell):∃c,(cellsFrom n sc.names []).lookup x=some c:=by
 have q:=Ky sc.names n [] (.inl h);exact Kq.mp q
variable {qual:Str}{scope:Scope}{vs:List V}
def wy{CX:CXT}{P:s_}{ps:List Str}{f:Addr}{cd:Value}{outer:List Env}{s1:cy}{E:XK}(S:az N ps scope)(hd:A.handled=none)(e0:BQ P w K mg base A outer s H)(hl:vs.length=ps.length)(r:bD vs us)(x:InCallC s s.heap.objs.size (bindL (envOfC qual scope s.heap.objs.size f cd).kindOf (ps.zip us) λ_=>none) (cellsFrom (s.heap.objs.size+1) scope.names []) (bindC (envOfC qual scope s.heap.objs.size f cd).kindOf (ps.zip us) λ_=>none) s1):
  Inv (pX CX P w K mg base N qual scope f cd A outer s H E) [] (start N vs) H s1:=by
 have hpl:ps.length<=N.length:=by have:=congrArg Mp S.pre;rw [length_take] at this;omega
 obtain⟨h1,tk,rfl,hk⟩:=x.done;have noA:∀b:Addr,b∉(pX CX P w K mg base N qual scope f cd A outer s H E).ex:=λb z=>absurd (show b∈([]:List Addr) from z) (by simp)
 refine⟨⟨e0.mod,S.kind,rfl,rfl,f_ _,λy z c h1 h2=>?_,λy hy=>?_,λy c _ h=>?_,λ_=>hd,Around.frames_deeper e0.frames,.inr ⟨rfl,rfl⟩,λb z=>absurd z (noA b),e0.bs,e0.bsz,λb _ _=>noA b,λb z=>absurd z (noA b),e0.funs,e0.frf,e0.tb⟩,
  rfl,e0.bare,Un.kept hk,⟨_,x.toInCall.ns,λi y v h1 h2 h3=>?_⟩,λy c h=>⟨_,x.cell y c h⟩,e0.hok.fresh (f_ _),λy c h=>?_,λp hp=>absurd (show p∈([]:List (Addr×Obj)) from hp) (by simp),e0.hok.kept hk,?_⟩
 .exact name_of_addr x.apart (Kt h1) (Kt h2)
 .have hy:scope.names.lookup y=some .cell\/scope.names.lookup y=some .free:=hy
  rcases hy with hy|hy
  .exact t8 hy
  .exact absurd rfl (S.nofree _ (Kt hy))
 .exact Nd (x.above y c (Kt h))
 .have hi:i<vs.length:=by
   unfold start at h2
   by_cases hi:i<vs.length
   .exact hi
   .rw [Kj (by simpa using hi)] at h2;rw [getElem?_replicate] at h2;split at h2 <;> cases h2
  have ha:vs[i]?=some v:=by
   unfold start at h2;rw [KG (by simpa using hi),gV] at h2
   cases e:vs[i]? with
   | none=>rw [e] at h2;cases h2
   | some a=>rw [e] at h2;cases h2;rfl
  obtain⟨u,hu,rv⟩:=r.get ha
  have hp:ps[i]?=some y:=by
   rw [<- S.pre,L1 (by omega)];exact h1
  have ndP:ps.Nodup:=by rw [<- S.pre];exact S.nd.sublist (take_sublist _ _)
  refine⟨u,rv,?_⟩
  rcases S.par y (B_ hp) with k|k
  .exact .inl ⟨k,p8 ndP hp hu k⟩
  .obtain⟨c,e⟩:=t8 (n:=s.heap.objs.size+1) k;refine .inr ⟨.inl k,c,e,?_⟩;have q:=x.cell y c e;rw [p9 ndP hp hu (by show scope.names.lookup y≠_;rw [k];decide)] at q;exact q
 .exact e0.hok.fresh (Nd (x.above y c (Kt h)))
 .unfold start;show _=N.length;rw [length_append,length_map,length_replicate];omega
variable {pm ct oc:Value}{an od:Option Addr}
def D1{CX:CXT}{P:s_}{k:Nat}{f:Addr}{params:Arguments}{body:List Stmt}{dV kV doc cdv:Value}{osl:Array (Option Value)}{ps:List Str}{sp:Sp}(lk:K.lookup f=some ⟨oc,od,.func (Eo name qual params body scope dV kV doc pm an cdv ct),osl⟩)(hcd:JJ K cdv qual=true)(S:az N ps scope)(len:∀vs H Q E,sp vs H Q E->vs.length=ps.length)(hbody:∀(A:y_) (outer:List Env) (s:cy) (H:Hp) (vs:List V) (Q:VK) (E:XK),d8 k (A.deeper (envOfC qual scope s.heap.objs.size f cdv))->sp vs H Q E ->
   ∃t,PSs (pX CX P w K mg base N qual scope f cdv A outer s H E) body t/\t { nx:=λ_ H'=>Q .non H',rt:=Q } (start N vs) H):
  oF P w K mg base CX (k+1) f (Eo name qual params body scope dV kV doc pm an cdv ct) ps sp:=by
 refine⟨len,λA outer s H args us vs Q E hr e0 hb r hsp=>?_⟩;have hl:=len _ _ _ _ hsp;have KX:K.In s.heap:=e0.mod.kin.keeps λb o e=>(e0.bs b o e).1;have lim:s.heap.NoLimit:=e0.mod.nolimit.keeps λb o e=>(e0.bs b o e).1
 have hkind:∀y∈ps.zip us,scope.names.lookup y.1=some .local\/(scope.names.lookup y.1=some .cell/\((cellsFrom (s.heap.objs.size+1) scope.names []).lookup y.1).isSome=true):=λ⟨n,v⟩ hy=>by
  rcases S.par n (of_mem_zip hy).1 with q|q
  .exact .inl q
  .exact .inr ⟨q,Ky _ _ _ (.inl q)⟩
 refine codeAny_call_function hr.depth (KX _ _ lk) rfl S.co S.gen rfl (PySem.W.codeRec_of KX hcd) (hb _ _ _ _ ?_);refine wpAny_newFunctionEnv_cells S.kind hkind λenv he s1 x=>?_;subst he;refine⟨lim.keeps x.toInCall.keep,codeAny_func ?_⟩;obtain⟨t,ht,hq⟩:=hbody A outer s H vs Q E (hr.deeper _) hsp;have I:Inv (pX CX P w K mg base N qual scope f cdv A outer s H E) [] (start N vs) H s1:=wy S hr.hd e0 hl r x
 refine H_ (ht [] s1 (start N vs) H _ I hq) (λfl s' hs=>?_) λe s' hs=>hs
 have fin:∀{σ':St}{H':Hp}{v:V}{u:Value},Inv (pX CX P w K mg base N qual scope f cdv A outer s H E) [] σ' H' s'->bW v u->Q v H'->CE outer P w H s Q u s' :=
  λ{σ' H' v u} J rv q=>⟨v,H',J.os,J.bare,J.base,J.hok,rv,q⟩
 cases fl with
 | ret u =>
  obtain⟨v,σ',H',J,rv,q⟩:=hs;exact fin J rv q
 | next =>
  obtain⟨σ',H',J,q⟩:=hs;exact fin (v:=V.non) (u:=JX) J rfl q
 | brk =>
  obtain⟨_,_,_,q⟩:=hs;exact J7 q
 | cont =>
  obtain⟨_,_,_,q⟩:=hs;exact J7 q
section
variable {r:List V->Hp->VK->Prop}
noncomputable def tCB(r:List V->Hp->VK->Prop)(t:TA):TE:=λσ H Q=>t σ H λvs H1=>r vs H1 Q
variable {x:Str}{p:Pos}{id:String}
def y9(hc:bz X (.builtin id) r)(hg:Gl X x)(hm:X.mg x=none)(hv:bootBuiltins x=some (.builtin id))(ha:PA X (e::es) t)(hn:x≠"__name__":=by decide)(hdb:(x == ("__debug__":Str))=false:=by decide)(he:starEach (e::es) X.env=(false,eval e X.env)::starEach es X.env:=by rfl)(hpl:(backTo pos (starEach es X.env)).any (·.1)=false:=by rfl):PE X (.Call (.Name x p) (e::es) [] pos) (tCB r t):=by
 intro pins s σ H Q I h;refine Lb (gu I hg hm hv ?_ hn hdb);exact PyProof.Rows.callWith_builtin1 (thn (ha pos pins s σ H _ I h) λus s1 ⟨vs,H1,I1,r1,q1⟩=>hc pins s1 σ H1 vs us Q I1 r1 q1) he hpl
variable {T:String}
def wz(hc:bz X (.type T) r)(hg:Gl X x)(hm:X.mg x=none)(hv:bootBuiltins x=some (.type T))(ha:PA X (e::es) t)(hn:x≠"__name__":=by decide)(hdb:(x == ("__debug__":Str))=false:=by decide)(he:starEach (e::es) X.env=(false,eval e X.env)::starEach es X.env:=by rfl)(hpl:(backTo pos (starEach es X.env)).any (·.1)=false:=by rfl):PE X (.Call (.Name x p) (e::es) [] pos) (tCB r t):=by
 intro pins s σ H Q I h;refine Lb (gu I hg hm hv ?_ hn hdb);exact D_ (thn (ha pos pins s σ H _ I h) λus s1 ⟨vs,H1,I1,r1,q1⟩=>hc pins s1 σ H1 vs us Q I1 r1 q1) he hpl
end
end L2
namespace HT
open PySem PyProof.Rows
noncomputable def lexLt:List Int->List Int->Bool
 | [],[]=>false
 | [],_::_=>true
 | _::_,[]=>false
 | x::xs,y::ys=>if x=y then lexLt xs ys else decide (x<y)
def lexLt_cons(x y:Int)(xs ys:List Int):lexLt (x::xs) (y::ys)=if x=y then lexLt xs ys else decide (x<y):=rfl
def oG:lexLt [] []=false:=rfl
def mV(y:Int)(ys:List Int):lexLt [] (y::ys)=true:=rfl
def mW(x:Int)(xs:List Int):lexLt (x::xs) []=false:=rfl
def za(A:y_)(s:cy)(a:Int)(t:Tok)(c:Int)(u:Tok):∃e,SeqAt.EqAt A s (.int a t) (.int c u) e/\(e=true ↔ a=c) :=
 ⟨(a == c),SeqAt.EqAt.int_int a t c u,by simp⟩
def zb(A:y_)(s:cy)(a:Int)(t:Tok)(c:Int)(u:Tok)(prog:s_)(w:World)(E:Value->cy->Prop)(Q:Value->cy->Prop)(h:Q (.bool (decide (a<c))) s):
  wpAny (model prog w) A (richCompare .Lt (.int a t) (.int c u)) Q E s :=
 (PyProof.Rows.lt_int h:wpAny (model prog w) A (compareOp .Lt (.int a t) (.int c u)) Q E s)
section
open PySem.SeqAt
open PySem.AutoSeq1 (wpAny_loadPart')
open PySem.MeetsSeq PySem.MeetsSeq2 PySem.MeetsSeq3
def oH(l b:Addr)(items items2:Array Value)(n n2:Nat)(dd dd2:Option Addr)(sl sl2:Array (Option Value))(ns ms:List Int)(hi:Lr items.toList ns)(hj:Lr items2.toList ms):
  Meets (M_.«tuple.__lt__» ⟨[.ref l,.ref b],[]⟩)
   (λ_ R s=>s.heap.get? l=some { cls:=.type "tuple",dict:=dd,data:=.seq items n,slots:=sl }/\s.heap.get? b=some { cls:=.type "tuple",dict:=dd2,data:=.seq items2 n2,slots:=sl2 } /\
    R (.ok (.ret (.bool (lexLt ns ms)))) s) :=
 .of_wp λprog w A R s h=>by
  obtain⟨hp,g,d,tk,os⟩:=s;obtain⟨hl,hb,h⟩:=h;have f2:=AutoSeq1.sub_tuple_tuple;have z1:items.size=ns.length:=by rw [<- hi.length];simp
  have z2:items2.size=ms.length:=by rw [<- hj.length];simp
  wp_walk using wpAny_loadPart' hl,wpAny_loadPart' hb,wpAny_forIn_list _ (λrest b s'=>b.1=none/\s'=⟨hp,g,d,tk,os⟩/\∃(vs ws:List Value) (ns' ms':List Int),rest=vs.zip ws /\
   Lr vs ns'/\Lr ws ms'/\ns'.length+items2.size=ms'.length+items.size/\R (.ok (.ret (.bool (lexLt ns' ms')))) ⟨hp,g,d,tk,os⟩) _
  case turn =>
   rintro⟨y,x⟩ rest b s' ⟨hb',rfl,vs,ws,ns',ms',hz,hvi,hwi,hlen,hR⟩
   cases hvi with
   | nil=>rw [zip_nil_left] at hz;cases hz
   | cons a t hvi' =>
    cases hwi with
    | nil=>rw [zip_nil_right] at hz;cases hz
    | cons c u hwi' =>
     rw [zip_cons_cons] at hz;injection hz with hyx hrest;injection hyx with hy hx;subst hy hx;rw [lexLt_cons] at hR;simp only [length_cons] at hlen;obtain⟨e,he,hiff⟩:=za A.in1 ⟨hp,g,d,tk,os⟩ a t c u;refine cn (he prog w _ _ ?_)
     cases e with
     | true =>
      rw [if_pos (hiff.mp rfl)] at hR
      wp_walk
      exact⟨rfl,rfl,_,_,_,_,hrest,hvi',hwi',by omega,hR⟩
     | false =>
      rw [if_neg (λq=>absurd (hiff.mpr q) j_)] at hR;have hri:=zb A.in1 ⟨hp,g,d,tk,os⟩ a t c u prog w
      wp_walk using hri
      exact⟨_,rfl,by simpa using hR⟩
  case fin =>
   rintro⟨b1,b2⟩ s' ⟨hb',rfl,vs,ws,ns',ms',hz,hvi,hwi,hlen,hR⟩;simp only at hb';subst hb'
   have hv:lexLt ns' ms'=decide (items.size<items2.size):=by
    cases hvi with
    | nil =>
     cases hwi with
     | nil =>
      simp only [length_nil] at hlen;rw [oG];exact (decide_eq_false (by omega)).symm
     | cons c u hw =>
      simp only [length_nil,length_cons] at hlen;rw [mV];exact (decide_eq_true (by omega)).symm
    | cons a t hv =>
     cases hwi with
     | nil =>
      simp only [length_nil,length_cons] at hlen;rw [mW];exact (decide_eq_false (by omega)).symm
     | cons c u hw =>
      rw [zip_cons_cons] at hz;cases hz
   rw [hv] at hR
   wp_walk
   exact⟨_,rfl,by simpa [Builtin.Tuple.tupleCompareSizes] using hR⟩
  case h =>
   exact⟨rfl,rfl,items.toList,items2.toList,ns,ms,rfl,hi,hj,by omega,h⟩
end
variable {prog:s_}{w:World}{A:y_}{E:Value->cy->Prop}{s:cy}{b:Addr}{items:Array Value}{ns:List Int}{Q:Value->cy->Prop}
def lt_tupInts{l:Addr}{items2:Array Value}{ms:List Int}(hl:IsTup s.heap l items)(hb:IsTup s.heap b items2)(hi:Lr items.toList ns)(hj:Lr items2.toList ms)(hu:A.units<cLine)(h:Q (.bool (lexLt ns ms)) s):wpAny (model prog w) A (compareOp .Lt (.ref l) (.ref b)) Q E s:=by
 obtain⟨⟨cls,dd,data,sl⟩,ho,hc,n,hd⟩:=id hl;obtain⟨⟨cls2,dd2,data2,sl2⟩,ho2,hc2,n2,hd2⟩:=id hb;simp only at hc hd hc2 hd2;subst hc hd hc2 hd2
 exact richCompare_meets_room (op:=.Lt) ⟨_,ho,rfl⟩ ⟨_,ho2,rfl⟩ PySem.F.slot_tuple_lt PySem.F.entry_tuple_lt (PySem.F.args_tuple_lt_2 _ _) (oH l b items items2 n n2 dd dd2 sl sl2 ns ms hi hj)
  ⟨ho,ho2,show J4 (lexLt ns ms)≠Value.notImplemented/\Q (.bool (lexLt ns ms)) s from ⟨(λx=>nomatch x),h⟩⟩ hu
variable {t:Addr}
def cat_tup{vs ws:List Value}(ht:IsTup s.heap t vs.toArray)(hb:IsTup s.heap b ws.toArray)(hv:vs≠[])(h1:ws=[]->Q (.ref t) s)(h2:ws≠[]->Q (.ref s.heap.objs.size) { s with heap:=s.heap.push { cls:=.type "tuple",data:=.seq (vs++ws).toArray } })(hsz:vs.length+ws.length<=sizeLine):wpAny (model prog w) A (binaryOp .Add (.ref t) (.ref b)) Q E s:=by
 obtain⟨⟨cls,dd,data,sl⟩,ho,hc,n,hd⟩:=id ht;obtain⟨⟨cls2,dd2,data2,sl2⟩,ho2,hc2,n2,hd2⟩:=id hb;simp only at hc hd hc2 hd2;subst hc hd hc2 hd2;have e:vs.toArray++ws.toArray=(vs++ws).toArray:=by simp
 by_cases hw:ws=[]
 .exact MH ⟨_,ho,rfl⟩ ⟨_,ho2,rfl⟩ Mx seq_tuple_add Ls Lh (K0 _ _)
   (tuple_addW1 t b vs.toArray ws.toArray n n2 dd dd2 sl sl2 (by simpa using hv) (by simp [hw])) ⟨ho,ho2,h1 hw⟩
 .refine MH ⟨_,ho,rfl⟩ ⟨_,ho2,rfl⟩ Mx seq_tuple_add Ls Lh (K0 _ _)
   (tuple_addW2 t b vs.toArray ws.toArray n n2 dd dd2 sl sl2 (by simpa using hv) (by simpa using hw) (by rw [size_toArray,size_toArray];exact hsz)) ⟨ho,ho2,?_⟩
  rw [e];exact h2 hw
noncomputable def sIx(n d:Nat):Option Int->Nat
 | none=>d
 | some v=>if v<0 then (v+(n:Int)).toNat else min v.toNat n
def sIx_nat(n d k:Nat):sIx n d (some (k:Int))=min k n:=by
 show (if (k:Int)<0 then ((k:Int)+(n:Int)).toNat else min (k:Int).toNat n)=min k n;rw [if_neg (by omega),toNat_natCast]
def sIx_le(n d:Nat)(hd:d<=n)(o:Option Int):sIx n d o<=n:=by
 cases o with
 | none=>exact hd
 | some v =>
  show (if v<0 then (v+(n:Int)).toNat else min v.toNat n)<=n
  by_cases hv:v<0
  .rw [if_pos hv];omega
  .rw [if_neg hv];exact min_le_right _ _
def clip_eq(v:Int)(n d:Nat):(if v<0 then max (v+(n:Int)) 0 else min v (n:Int))=((sIx n d (some v):Nat):Int):=by
 show (if v<0 then max (v+(n:Int)) 0 else min v (n:Int))=(((if v<0 then (v+(n:Int)).toNat else min v.toNat n):Nat):Int)
 by_cases hv:v<0
 .simp only [if_pos hv];omega
 .simp only [if_neg hv];omega
def uX(lo hi:Option Int)(n:Nat):KY lo hi 1 (n:Int)=(((sIx n 0 lo:Nat):Int),((sIx n n hi:Nat):Int)):=by
 have h1:¬ ((1:Int)<0):=by omega
 unfold KY;simp only [h1,if_false]
 refine Prod.ext ?_ ?_
 .cases lo with
  | none=>rfl
  | some v=>exact clip_eq v n 0
 .cases hi with
  | none=>rfl
  | some v=>exact clip_eq v n n
def uY(i j:Nat):Kl (i:Int) (j:Int) 1=j - i:=by
 unfold Kl;have h1:(1:Int) > 0:=by omega
 simp only [h1,if_true,ediv_one];split <;> omega
def nW{v:Value}{o:Option Int}{Q:Option Int->cy->Prop}(p:MI v o)(h:Q o s):wpAny (model prog w) A (Builtin.Slice.slicePartIndex v) Q E s:=by
 cases p with
 | none=>exact slicePart_none h
 | int i t=>exact slicePart_int h
variable {lo hi:Option Int}{n:Nat}
def f7{sl:Addr}{vl vu:Value}{Q:Int×Int×Nat->cy->Prop}(hs:s.heap.IsSliceOf sl vl vu .none)(pl:MI vl lo)(pu:MI vu hi)(h:Q (((sIx n 0 lo:Nat):Int),1,sIx n n hi - sIx n 0 lo) s):wpAny (model prog w) A (Mb (.ref sl) (pure (n:Int))) Q E s:=by
 obtain⟨os,hos,hcs,hds⟩:=id hs;unfold Mb Builtin.Slice.sliceFields;refine cn (cn (KH hos hds (x:=vl) rfl (cn (KH hos hds (x:=vu) rfl (cn (KH hos hds (x:=.none) rfl (h_ ?_)))))));refine cn (slicePart_none ?_);show wpAny _ _ (if ((1:Int) == 0)=true then _ else _) _ _ s;rw [if_neg (by decide)];refine cn (nW pl (cn (nW pu (cn (h_ ?_)))))
 show wpAny _ _ (match KY lo hi 1 (n:Int) with|(lo,hi)=>pure (lo,(1:Int),Kl lo hi 1)) _ _ s;rw [uX lo hi n];show wpAny _ _ (pure (((sIx n 0 lo:Nat):Int),(1:Int),Kl ((sIx n 0 lo:Nat):Int) ((sIx n n hi:Nat):Int) 1)) _ _ s;rw [uY];exact h_ h
def zc(xs:Array Value)(i k:Nat):((c_ k).filterMap λ(m:Nat)=>xs[((i:Int)+(m:Int)*1).toNat]?).toArray=((xs.toList.drop i).take k).toArray:=by
 have e:(λ(m:Nat)=>xs[((i:Int)+(m:Int)*1).toNat]?)=λm=>xs[i+m]?:=by
  funext m;have:((i:Int)+(m:Int)*1).toNat=i+m:=by omega
  rw [this]
 rw [e];have:=pick_run xs i k;rw [LK] at this;have e2:((λx=>xs[x]?) ∘ λx=>i+x)=λm=>xs[i+m]?:=rfl;rw [e2] at this;rw [this]
def getItem_tuple_cut{sl:Addr}{vl vu:Value}(ht:IsTup s.heap t items)(hs:s.heap.IsSliceOf sl vl vu .none)(pl:MI vl lo)(pu:MI vu hi)(hw:¬ (sIx items.size 0 lo=0/\sIx items.size items.size hi=items.size))(h:Q (.ref s.heap.objs.size) { s with heap:=s.heap.push { cls:=.type "tuple",data:=.seq ((items.toList.drop (sIx items.size 0 lo)).take (sIx items.size items.size hi - sIx items.size 0 lo)).toArray } })(hsz:items.size<=sizeLine):wpAny (model prog w) A (getItem (.ref t) (.ref sl)) Q E s:=by
 have htake:sizeOk (.seq ((items.toList.drop (sIx items.size 0 lo)).take (sIx items.size items.size hi - sIx items.size 0 lo)).toArray):=by
  show ((items.toList.drop (sIx items.size 0 lo)).take (sIx items.size items.size hi - sIx items.size 0 lo)).toArray.size<=sizeLine;rw [size_toArray,length_take,length_drop,z_];omega
 have hj:sIx items.size items.size hi<=items.size:=sIx_le _ _ (f_ _) hi;obtain⟨os,hos,hcs,hds⟩:=id hs;have hTs:s.TypeIs (.ref sl) "slice":=⟨os,hos,hcs⟩
 unfold getItem
 try with_reducible refine JF ?_
 first|refine cn (h_ ?_)|skip
 refine cn (wpAny_sequenceKey ht.typeIs (by decide) ?_)
 refine cn (J1 (name:=Lu "__getitem__") ht.typeIs Jz
  (KS Jz ht.typeIs entry_tuple_getitem ?_ (args_tuple_getitem _ _)))
 show wpAny _ _ (Mc (.ref t) >>= _) _ _ s;refine cn (tupleItemsOf_ ht ?_);refine cn (MJ hTs ?_);rw [if_pos (by decide)];refine cn (f7 hs pl pu ?_)
 have hno:¬ ((((sIx items.size 0 lo:Nat):Int) == 0 && (1:Int) == 1 && (sIx items.size items.size hi - sIx items.size 0 lo) == items.size)=true):=by
  intro q;rw [and_eq_true,and_eq_true] at q;have q1:((sIx items.size 0 lo:Nat):Int)=0:=eq_of_beq q.1.1;have q2:sIx items.size items.size hi - sIx items.size 0 lo=items.size:=eq_of_beq q.2;exact hw ⟨by omega,by omega⟩
 show wpAny _ _ (if (((sIx items.size 0 lo:Nat):Int) == 0 && (1:Int) == 1 && (sIx items.size items.size hi - sIx items.size 0 lo) == items.size)=true then _ else _) _ _ s;rw [if_neg hno,zc]
 first
  | exact cn (m:=Kr _) (JI (h_ ⟨_,rfl,h_ h⟩) htake)
  | exact cn (m:=Kr _) (JI (cn (h_ (h_ ⟨_,rfl,h_ h⟩))) htake)
  | exact cn (cn (m:=Kr _) (JI (h_ (h_ ⟨_,rfl,h_ h⟩)) htake))
  | exact cn (cn (m:=Kr _) (JI (h_ ⟨_,rfl,h_ h⟩) htake))
end HT
namespace L2
open PySem PySem.Spec PyProof.Rows
abbrev TO:=St->Hp->(Option Int->Hp->Prop)->Prop
noncomputable def PO(X:Cx)(e:Option Expr)(t:TO):Prop :=
 ∀(pins:List (Addr×Obj)) (s:cy) (σ:St) (H:Hp) (Q:Option Int->Hp->Prop),Inv X pins σ H s->t σ H Q ->
  wpAny (model X.prog X.w) X.A (evalPart e X.env) (λu s'=>∃o H',Inv X pins σ H' s'/\MI u o/\Q o H') X.xe s
def wA:TO:=λ_ H Q=>Q none H
noncomputable def D2(t:TE):TO:=λσ H Q=>t σ H λx H1=>∃i,x=.int i/\Q (some i) H1
variable {ns:List Int}
def cJ:∀{us:List Value},bD (ns.map V.int) us->Lr us ns:=by
 induction ns with
 | nil=>intro us r;rw [map_nil] at r;cases r;exact .nil
 | cons n ns ih =>
  intro us r;rw [map_cons] at r
  cases r with
  | cons r1 r2 =>
   obtain⟨t,e⟩:=r1;subst e;exact .cons n t (ih r2)
variable {X:Cx}
def iA:PO X none wA:=by
 intro pins s σ H Q I h;rw [evalPart_none];exact h_ ⟨none,H,I,.none,h⟩
variable {e:Expr}{te:TE}
def cA(h:PE X e te):PO X (some e) (D2 te):=by
 intro pins s σ H Q I hw;rw [evalPart_some];refine thn (h pins s σ H _ I hw) λu s1 ⟨x,H1,I1,r1,q1⟩=>?_;obtain⟨i,rfl,q⟩:=q1;obtain⟨t,rfl⟩:=r1;exact⟨some i,H1,I1,.int i t,q⟩
variable {lo hi:Option Expr}
noncomputable def SlR(X:Cx)(r:V->Option Int->Option Int->Hp->VK->Prop):Prop :=
 ∀(pins:List (Addr×Obj)) (s:cy) (σ:St) (H:Hp) (x:V) (v vl vu:Value) (lo hi:Option Int) (sl:Addr) (Q:VK),Inv X pins σ H s->bW x v->s.heap.IsSliceOf sl vl vu .none->MI vl lo->MI vu hi->r x lo hi H Q ->
  ∃T id,typeLookup (.type T) "__getitem__"=pure (some (.builtin id))/\s.TypeIs v T/\wpAny (model X.prog X.w) X.A (getItem v (.ref sl)) (EP X pins σ Q) X.xe s
def SlR.or{r r':V->Option Int->Option Int->Hp->VK->Prop}(h:SlR X r)(h':SlR X r'):SlR X (λx lo hi H Q=>r x lo hi H Q\/r' x lo hi H Q):=by
 intro pins s σ H x v vl vu lo hi sl Q I rx hs pl pu q
 rcases q with q|q
 .exact h pins s σ H x v vl vu lo hi sl Q I rx hs pl pu q
 .exact h' pins s σ H x v vl vu lo hi sl Q I rx hs pl pu q
variable {tl th:TO}
noncomputable def tSl(r:V->Option Int->Option Int->Hp->VK->Prop)(te:TE)(tl th:TO):TE:=λσ H Q=>te σ H λx H1=>tl σ H1 λl H2=>th σ H2 λu H3=>r x l u H3 Q
variable {pos p2:Pos}
def cQ{r:V->Option Int->Option Int->Hp->VK->Prop}(hr:SlR X r)(he:PE X e te)(hl:PO X lo tl)(hu:PO X hi th):PE X (.Subscript e (.Slice lo hi none p2) pos) (tSl r te tl th):=by
 intro pins s σ H Q I h;refine Subscript_ (thn (he pins s σ H _ I h) λv s1 ⟨x,H1,I1,r1,q1⟩=>?_);refine wpAny_Slice (thn (hl pins s1 σ H1 _ I1 q1) λvl s2 ⟨l,H2,I2,pl,q2⟩=>thn (hu pins s2 σ H2 _ I2 q2) λvu s3 ⟨u,H3,I3,pu,q3⟩=>?_);rw [evalPart_none];refine h_ ?_;have I4:Inv X pins σ H3 { s3 with heap:=s3.heap.push { cls:=.type "slice",data:=.fields #[vl,vu,.none] } }:=I3.kept (t':=s3.toks) λb ob q=>d_ _ q
 obtain⟨T,id,hT,ht,hg⟩:=hr pins { s3 with heap:=s3.heap.push { cls:=.type "slice",data:=.fields #[vl,vu,.none] } } σ H3 x v vl vu l u s3.heap.objs.size Q I4 r1 (Heap.IsSliceOf.new ..) pl pu q3;show wpAny (model X.prog X.w) X.A (subscriptTail e (.Slice lo hi none p2) v (.ref s3.heap.objs.size)) (EP X pins σ Q) X.xe { s3 with heap:=s3.heap.push { cls:=.type "slice",data:=.fields #[vl,vu,.none] } };exact tail_any (ops:=[.ref s3.heap.objs.size,v]) ht hT hg (by with_unfolding_all rfl)
noncomputable def BU(xs:List V)(lo hi:Option Int):List V:=(xs.drop (HT.sIx xs.length 0 lo)).take (HT.sIx xs.length xs.length hi - HT.sIx xs.length 0 lo)
def lj(xs:List V)(lo hi:Option Int):(BU xs lo hi).length<=xs.length:=by
 unfold BU;rw [length_take,length_drop];omega
noncomputable def Ir(K:b_):V->Option Int->Option Int->Hp->VK->Prop:=λx lo hi H Q=>∃a xs,x=.ref a/\SqT K H a xs /\
 ¬ (HT.sIx xs.length 0 lo=0/\HT.sIx xs.length xs.length hi=xs.length)/\∀p,H p=none->Q (.ref p) (upd H p (.tup (BU xs lo hi)))
def D3:SlR X (Ir X.K):=by
 intro pins s σ H x v vl vu lo hi sl Q I rx hs pl pu h;obtain⟨a,xs,rfl,hx,hw,q⟩:=h;cases rx;obtain⟨its,r,ht,hz⟩:=I.tuple hx;have hlen:its.toArray.size=xs.length:=by rw [size_toArray];exact r.length.symm
 refine⟨"tuple",_,Jz.lookup,ht.typeIs,?_⟩;refine HT.getItem_tuple_cut ht hs pl pu (by rw [hlen];exact hw) ?_ (by rw [hlen];exact hz);rw [hlen];refine⟨.ref s.heap.objs.size,_,I.laid (t':=s.toks) (o:=.tup (BU xs lo hi)) (λb ob q=>d_ _ q) (f_ _) ?_,rfl,q _ (I.hok.fresh (f_ _))⟩;exact⟨F_ (lj xs lo hi) hz,_,(r.drop (HT.sIx xs.length 0 lo)).take (HT.sIx xs.length xs.length hi - HT.sIx xs.length 0 lo),IsTup.new _ _⟩
noncomputable def D4(K:b_):R2:=λx y H Q=>∃a b xs ys,x=.ref a/\y=.ref b/\SqT K H a xs/\SqT K H b ys/\xs≠[]/\xs.length+ys.length<=sizeLine /\
 (ys=[]->Q (.ref a) H)/\(ys≠[]->∀p,H p=none->Q (.ref p) (upd H p (.tup (xs++ys))))
variable {xs:List V}{us:List Value}
def bD.nil_iff(r:bD xs us):us=[] ↔ xs=[]:=by
 cases r with
 | nil=>simp
 | cons _ _=>simp
def BV:OpR X (binaryOp .Add) (D4 X.K):=by
 intro pins s σ H x y v u Q I rx ry h;obtain⟨a,b,xs,ys,rfl,rfl,ha,hb,hx,hz,q1,q2⟩:=h;cases rx;cases ry;obtain⟨its,r1,p1,_⟩:=I.tuple ha;obtain⟨its2,r2,p2,_⟩:=I.tuple hb;refine HT.cat_tup p1 p2 (λz=>hx (r1.nil_iff.mp z)) (λz=>⟨.ref a,H,I,rfl,q1 (r2.nil_iff.mp z)⟩) (λz=>?_) (by rw [<- r1.length,<- r2.length];exact hz);refine⟨.ref s.heap.objs.size,_,I.laid (t':=s.toks) (o:=.tup (xs++ys)) (λb ob q=>d_ _ q) (f_ _) ?_,rfl,q2 (λw=>z (r2.nil_iff.mpr w)) _ (I.hok.fresh (f_ _))⟩
 exact⟨by rw [length_append];exact hz,_,r1.append r2,IsTup.new _ _⟩
noncomputable def ixN(n:Nat)(i:Int):Option Nat:=if 0<=i then (if i<n then some i.toNat else none) else if -(n:Int)<=i then some (i+n).toNat else none
variable {α:Type}
noncomputable def atI(xs:List α)(i:Int):Option α:=(ixN xs.length i).bind λj=>xs[j]?
variable {n j:Nat}
def wB{i:Int}(h:ixN n i=some j):seqIndex? i n=some j/\j<n/\-(n:Int)<=i/\i<n:=by
 unfold ixN at h
 by_cases h0:0<=i
 .rw [if_pos h0] at h
  by_cases h1:i<n
  .rw [if_pos h1] at h;have e:i.toNat=j:=vx h;exact⟨by rw [M2 h0 h1,e],by omega,by omega,h1⟩
  .rw [if_neg h1] at h;cases h
 .rw [if_neg h0] at h
  by_cases h1:-(n:Int)<=i
  .rw [if_pos h1] at h;have e:(i+n).toNat=j:=vx h;exact⟨by rw [MK (by omega) h1,e],by omega,h1,by omega⟩
  .rw [if_neg h1] at h;cases h
def oJ{xs:List α}{i:Int}{v:α}(h:atI xs i=some v):∃j,seqIndex? i xs.length=some j/\xs[j]?=some v/\j<xs.length/\-(xs.length:Int)<=i/\i<xs.length:=by
 unfold atI at h
 cases e:ixN xs.length i with
 | none=>rw [e] at h;cases h
 | some j =>
  rw [e] at h;obtain⟨h1,h2,h3,h4⟩:=wB e;exact⟨j,h1,h,h2,h3,h4⟩
def BW{xs:List α}{v:α}(h:xs[j]?=some v):atI xs (j:Int)=some v:=by
 have hj:j<xs.length:=(i_.mp h).1
 have e:ixN xs.length (j:Int)=some j:=by
  unfold ixN;rw [if_pos (by omega),if_pos (by omega)];simp
 unfold atI;rw [e];exact h
noncomputable def BX(b:Expr):Prop:=∀o i,subscripted b false o i=operate [o,i] (getItem o i)
noncomputable def IxR(X:Cx)(r:R2):Prop :=
 ∀(value slice:Expr) (pins:List (Addr×Obj)) (s:cy) (σ:St) (H:Hp) (x y:V) (v u:Value) (Q:VK),Inv X pins σ H s->bW x v->bW y u->r x y H Q ->
  subscripted slice false v u=operate [v,u] (getItem v u)->wpAny (model X.prog X.w) X.A (subscriptTail value slice v u) (EP X pins σ Q) X.xe s
noncomputable def MtR(X:Cx)(id:String)(r:V->List V->Hp->VK->Prop):Prop :=
 ∀(pins:List (Addr×Obj)) (s:cy) (σ:St) (H:Hp) (x:V) (xs:List V) (v:Value) (us:List Value) (Q:VK),Inv X pins σ H s->bW x v->bD xs us->r x xs H Q ->
  wpAny (model X.prog X.w) X.A (call (.builtin id) (v::us)) (EP X pins σ Q) X.xe s
section
variable {r r':R2}
def IxR.or(h:IxR X r)(h':IxR X r'):IxR X (λx y H Q=>r x y H Q\/r' x y H Q):=by
 intro value slice pins s σ H x y v u Q I rx ry q hs
 rcases q with q|q
 .exact h value slice pins s σ H x y v u Q I rx ry q hs
 .exact h' value slice pins s σ H x y v u Q I rx ry q hs
variable {a b:Expr}{ta tb:TE}
def aT(hr:IxR X r)(ha:PE X a ta)(hb:PE X b tb)(hs:BX b):PE X (.Subscript a b pos) (tOp r ta tb):=by
 intro pins s σ H Q I h;exact Subscript_ (GT ha hb I h λv u s2 x y H2 I2 rx ry q=>hr a b pins s2 σ H2 x y v u Q I2 rx ry q (hs _ _))
noncomputable def GA(K:b_):R2:=λx y H Q=>∃p xs i v,x=.ref p/\y=.int i/\SqL K H p xs/\atI xs i=some v/\Q v H
noncomputable def Is(K:b_):R2:=λx y H Q=>∃p xs i v,x=.ref p/\y=.int i/\SqT K H p xs/\atI xs i=some v/\Q v H
noncomputable def Ja:R2:=λx y H Q=>∃z i c,x=.str z/\y=.int i/\z.length<=sizeLine/\atI z.cps.toList i=some c/\Q (.str ⟨#[c]⟩) H
def BY:IxR X (GA X.K):=by
 intro value slice pins s σ H x y v u Q I rx ry h hs;obtain⟨p,xs,i,z,rfl,rfl,hq,he,q⟩:=h;cases rx;obtain⟨t,rfl⟩:=ry;obtain⟨its,r,pl,hz⟩:=I.list hq;obtain⟨j,h1,h2,h3,h4,h5⟩:=oJ he;obtain⟨w,ew,rw'⟩:=r.get h2;have hl:=r.length;have hn:=k9;have fin:EP X pins σ Q w s:=⟨z,H,I,rw',q⟩
 by_cases h0:0<=i
 .have hj:i.toNat=j:=by
   rw [M2 h0 h5] at h1;exact vx h1
  exact item_listR pl.isList h0 (by omega) (by rw [hj];simpa using ew) fin hs
 .have hj:(i+(its.toArray.size:Int)).toNat=j:=by
   rw [MK (by omega) h4] at h1;rw [size_toArray,<- hl];exact vx h1
  exact subscriptTail_builtinR (x:=w) pl.isList.typeIs slot_list_getitem.lookup
   (wpAny_getItem_list_neg (Q:=λr s'=>r=w/\EP X pins σ Q r s') pl.isList (by omega) (by rw [size_toArray] <;> omega) (by omega) (by rw [hj];simpa using ew) ⟨rfl,fin⟩) hs
def D5:IxR X (Is X.K):=by
 intro value slice pins s σ H x y v u Q I rx ry h hs;obtain⟨p,xs,i,z,rfl,rfl,hq,he,q⟩:=h;cases rx;obtain⟨t,rfl⟩:=ry;obtain⟨its,r,pl,hz⟩:=I.tuple hq;obtain⟨j,h1,h2,h3,h4,h5⟩:=oJ he;obtain⟨w,ew,rw'⟩:=r.get h2;have hl:=r.length;have hn:=k9;have fin:EP X pins σ Q w s:=⟨z,H,I,rw',q⟩
 exact subscriptTail_builtinR (x:=w) pl.typeIs slot_tuple_getitem.lookup
  (getItem_tuple (j:=j) (Q:=λr s'=>r=w/\EP X pins σ Q r s') pl (by omega) (by omega) (by rw [size_toArray,<- hl];exact h1) (by simpa using ew) ⟨rfl,fin⟩) hs
def D6:IxR X Ja:=by
 intro value slice pins s σ H x y v u Q I rx ry h hs;obtain⟨z,i,c,rfl,rfl,hz,he,q⟩:=h;obtain⟨t,rfl⟩:=rx;obtain⟨t',rfl⟩:=ry;obtain⟨j,h1,h2,h3,h4,h5⟩:=oJ he;have hl:z.cps.toList.length=z.length:=by simp [Str.length]
 rw [hl] at h1 h4 h5;have hn:=k9
 exact tail_any (typeIs_str s z t) slot_str_getitem.lookup (getItem_str (c:=c) (by
  have e1:decide (i < -(2^63:Int))=false:=decide_eq_false (by omega);have e2:decide (i >= 2^63)=false:=decide_eq_false (by omega);rw [e1,e2,Bool.or_false]) (by rw [h1];simpa using h2) ⟨.str ⟨#[c]⟩,H,I.tok _,⟨_,rfl⟩,q⟩) hs
def uZ(its:List Value)(n j:Nat)(u:Value):LH (·.setIfInBounds j u) { cls:=.type "list",data:=.seq its.toArray n }={ cls:=.type "list",data:=.seq (its.set j u).toArray n }:=by
 simp [LH]
variable {pins:List (Addr×Obj)}{σ:St}{H:Hp}{s:cy}
def Inv.lst{p:Addr}(I:Inv X pins σ H s)(h:H p=some (.lst xs)):
  ∃(its:List Value) (n:Nat),bD xs its/\s.heap.get? p=some { cls:=.type "list",data:=.seq its.toArray n }/\xs.length<=sizeLine:=by
 obtain⟨z,its,n,r,e⟩:=I.hok p _ h;exact⟨its,n,r,e,z⟩
variable {its:List Value}
def Inv.lstUpd{p:Addr}{ys:List V}{its':List Value}{n':Nat}{f:Obj->Obj}(I:Inv X pins σ H s)(h:H p=some (.lst xs))(ho:s.heap.get? p=some { cls:=.type "list",data:=.seq its.toArray n })(hf:f { cls:=.type "list",data:=.seq its.toArray n }={ cls:=.type "list",data:=.seq its'.toArray n' })(r:bD ys its')(hz:ys.length<=sizeLine)(t:Nat):
  Inv X pins σ (upd H p (.lst ys)) { s with heap:=s.heap.update p f,toks:=t }:=by
 have e:(s.heap.update p f).get? p=some { cls:=.type "list",data:=.seq its'.toArray n' }:=by
  rw [Kk f ho (by rw [hf] <;> rfl),hf]
 refine I.write (x:=p) (e:=p) (by rw [h];trivial) (.inl rfl) (λb u hb q=>(JD _ _ (J_ hb)).trans q) ⟨_,e⟩ ?_;exact⟨hz,its',n',r,e⟩
noncomputable def BZ:V->V->V->Hp->(Hp->Prop)->Prop:=λo i v H Q=>∃p xs k j,o=.ref p/\i=.int k/\H p=some (.lst xs)/\ixN xs.length k=some j/\Q (upd H p (.lst (xs.set j v)))
def i3:GS X BZ:=by
 intro pins s σ H o i v ov iv u Q I ro ri rv h;obtain⟨p,xs,k,j,rfl,rfl,hp,hj,q⟩:=h;cases ro;obtain⟨t,rfl⟩:=ri;obtain⟨its,n,r,ho,hz⟩:=I.lst hp;obtain⟨h1,h2,h3,h4⟩:=wB hj;have hl:=r.length;have hn:=k9
 have I':Inv X pins σ (upd H p (.lst (xs.set j v))) { s with heap:=s.heap.update p (LH (·.setIfInBounds j u)) } :=
  I.lstUpd hp ho (uZ its n j u) (r.set rv j) (by rw [JE];exact hz) s.toks
 by_cases h0:0<=k
 .have hk:k.toNat=j:=by
   rw [M2 h0 h4] at h1;exact vx h1
  exact PySem.W.ki_setAt ho h0 (by omega) (by rw [size_toArray,<- hl];exact h4) (by rw [hk];exact⟨_,I',q⟩)
 .have hk:(k+(its.toArray.size:Int)).toNat=j:=by
   rw [MK (by omega) h3] at h1;rw [size_toArray,<- hl];exact vx h1
  exact PySem.W.ki_setBack ho (by omega) (by rw [size_toArray,<- hl];exact h3) (by omega) (by rw [hk];exact⟨_,I',q⟩)
def qb(lo hi:Option Int)(n:Nat):(sliceBounds lo hi none n).1=((HT.sIx n 0 lo:Nat):Int)/\(sliceBounds lo hi none n).2.1=((HT.sIx n n hi:Nat):Int)/\(sliceBounds lo hi none n).2.2=1:=by
 refine⟨?_,?_,rfl⟩
 .cases lo with
  | none=>simp [sliceBounds,HT.sIx]
  | some i =>
   simp only [sliceBounds,HT.sIx,Option.getD_none,show (1:Int) > 0 by decide,if_true]
   by_cases h:i<0
   .simp only [h,if_true] <;> omega
   .simp only [h,if_false] <;> omega
 .cases hi with
  | none=>simp [sliceBounds,HT.sIx]
  | some i =>
   simp only [sliceBounds,HT.sIx,Option.getD_none,show (1:Int) > 0 by decide,if_true]
   by_cases h:i<0
   .simp only [h,if_true] <;> omega
   .simp only [h,if_false] <;> omega
def oK(its:List Value)(lo hi:Option Int):slicePick its.toArray lo hi none=((its.drop (HT.sIx its.length 0 lo)).take (HT.sIx its.length its.length hi - HT.sIx its.length 0 lo)).toArray:=by
 obtain⟨h1,h2,h3⟩:=qb lo hi its.toArray.size;unfold slicePick;rw [h1,h2,h3];simp only [sliceRange_one,pick_run,size_toArray] <;> rfl
noncomputable def Iu(K:b_):V->Option Int->Option Int->Hp->VK->Prop:=λx lo hi H Q=>∃a xs,x=.ref a/\SqL K H a xs/\∀p,H p=none->Q (.ref p) (upd H p (.lst (BU xs lo hi)))
def B0:SlR X (Iu X.K):=by
 intro pins s σ H x v vl vu lo hi sl Q I rx hs pl pu h;obtain⟨a,xs,rfl,hx,q⟩:=h;cases rx;obtain⟨its,r,ht,hz⟩:=I.list hx;have hlen:=r.length;refine⟨"list",_,slot_list_getitem.lookup,ht.isList.typeIs,?_⟩;refine wpAny_getItem_list_slice ht.isList hs pl pu .none (by simp) ?_ (by rw [size_toArray] <;> omega);rw [oK,<- hlen];refine⟨.ref s.heap.objs.size,_,I.laid (t':=s.toks) (o:=.lst (BU xs lo hi)) (λb ob q=>d_ _ q) (f_ _) ?_,rfl,q _ (I.hok.fresh (f_ _))⟩
 exact⟨F_ (lj xs lo hi) hz,_,0,(r.drop (HT.sIx xs.length 0 lo)).take (HT.sIx xs.length xs.length hi - HT.sIx xs.length 0 lo),kx _ rfl⟩
noncomputable def mX:V->Bool
 | .non=>true
 | .bl _=>true
 | .int _=>true
 | .str _=>true
 | _=>false
noncomputable def eqV:V->V->Bool
 | .non,.non=>true
 | .bl a,.bl b=>a == b
 | .bl a,.int b=>(if a then 1 else 0) == b
 | .int a,.bl b=>a == (if b then 1 else 0)
 | .int a,.int b=>a == b
 | .str a,.str b=>a == b
 | _,_=>false
variable {A:y_}{y:V}{u:Value}
def D7{x:V}{v:Value}(ry:bW y u)(rx:bW x v)(fy:mX y=true)(fx:mX x=true):SeqAt.EqAt A s u v (eqV y x):=by
 cases y with
 | non =>
  cases ry
  cases x with
  | non=>cases rx;exact SeqAt.EqAt.same _
  | bl b=>cases rx;exact SeqAt.EqAt.none_bool b
  | int b=>obtain⟨t,rfl⟩:=rx;exact SeqAt.EqAt.none_int b t
  | str b=>obtain⟨t,rfl⟩:=rx;exact SeqAt.EqAt.none_str b t
  | _=>exact absurd (show false=true from fx) j_
 | bl a =>
  cases ry
  cases x with
  | non=>cases rx;exact SeqAt.EqAt.bool_none a
  | bl b=>cases rx;exact SeqAt.EqAt.bool_bool a b
  | int b=>obtain⟨t,rfl⟩:=rx;exact SeqAt.EqAt.bool_int a b t
  | str b=>obtain⟨t,rfl⟩:=rx;exact SeqAt.EqAt.bool_str a b t
  | _=>exact absurd (show false=true from fx) j_
 | int a =>
  obtain⟨t',rfl⟩:=ry
  cases x with
  | non=>cases rx;exact SeqAt.EqAt.int_none a t'
  | bl b=>cases rx;exact SeqAt.EqAt.int_bool a t' b
  | int b=>obtain⟨t,rfl⟩:=rx;exact SeqAt.EqAt.int_int a t' b t
  | str b=>obtain⟨t,rfl⟩:=rx;exact SeqAt.EqAt.int_str a t' b t
  | _=>exact absurd (show false=true from fx) j_
 | str a =>
  obtain⟨t',rfl⟩:=ry
  cases x with
  | non=>cases rx;exact SeqAt.EqAt.str_none a t'
  | bl b=>cases rx;exact SeqAt.EqAt.str_bool a t' b
  | int b=>obtain⟨t,rfl⟩:=rx;exact SeqAt.EqAt.str_int a t' b t
  | str b=>obtain⟨t,rfl⟩:=rx;exact SeqAt.EqAt.str_str a t' b t
  | _=>exact absurd (show false=true from fx) j_
 | _=>exact absurd (show false=true from fy) j_
noncomputable def eqU(x:V)(u:Value):Bool:=match u with
 | .none=>eqV .non x
 | .bool b=>eqV (.bl b) x
 | .int i _=>eqV (.int i) x
 | .str z _=>eqV (.str z) x
 | _=>false
def AO{x:V}(r:bW y u)(f:mX y=true):eqU x u=eqV y x:=by
 cases y with
 | non=>cases r;rfl
 | bl b=>cases r;rfl
 | int i=>obtain⟨t,rfl⟩:=r;rfl
 | str z=>obtain⟨t,rfl⟩:=r;rfl
 | _=>exact absurd (show false=true from f) j_
theorem ll{x:V}:∀{xs:List V}{us:List Value},bD xs us->xs.all mX=true->us.any (eqU x)=xs.any λy=>eqV y x
 | _,_,.nil,_=>rfl
 | y::xs,u::us,.cons r t,f=>by
  rw [all_cons,and_eq_true] at f;rw [any_cons,any_cons,AO r f.1,ll t f.2]
theorem i4{x:V}{v:Value}(rx:bW x v)(fx:mX x=true):∀{xs:List V}{us:List Value},bD xs us->xs.all mX=true->∀u∈us,SeqAt.EqAt A s u v (eqU x u)
 | _,_,.nil,_=>λu hu=>by cases hu
 | y::xs,u::us,.cons r t,f=>λu' hu=>by
  rw [all_cons,and_eq_true] at f
  rcases mem_cons.mp hu with rfl|hu
  .rw [AO r f.1];exact D7 r rx f.1 fx
  .exact i4 rx fx t f.2 u' hu
noncomputable def inV(x:V)(xs:List V):Bool:=xs.any λy=>eqV y x
noncomputable def rIn(K:b_)(neg:Bool):R2:=λx y H Q=>∃p xs,y=.ref p/\(SqL K H p xs\/SqT K H p xs)/\mX x=true/\xs.all mX=true/\Q (.bl (if neg then !inV x xs else inV x xs)) H
def wC:OpR X (compareOp .In) (rIn X.K false):=by
 intro pins s σ H x y v u Q I rx ry h;obtain⟨p,xs,rfl,hq,fx,fs,q⟩:=h;cases ry
 rcases hq with hq|hq
 .obtain⟨its,r,pl,hz⟩:=I.list hq;refine SeqAt.in_listAt (eqU x) pl.isList (λw hw=>i4 rx fx r fs w (by simpa using hw)) ⟨.bl _,H,I,rfl,?_⟩;rw [show its.toArray.any (eqU x)=its.any (eqU x) by simp,ll r fs];exact q
 .obtain⟨its,r,pl,hz⟩:=I.tuple hq;refine SeqAt.in_tupleAt (eqU x) pl (λw hw=>i4 rx fx r fs w (by simpa using hw)) ⟨.bl _,H,I,rfl,?_⟩;rw [show its.toArray.any (eqU x)=its.any (eqU x) by simp,ll r fs];exact q
def qc:OpR X (compareOp .NotIn) (rIn X.K true):=by
 intro pins s σ H x y v u Q I rx ry h;obtain⟨p,xs,rfl,hq,fx,fs,q⟩:=h;cases ry
 rcases hq with hq|hq
 .obtain⟨its,r,pl,hz⟩:=I.list hq;refine SeqAt.notIn_listAt (eqU x) pl.isList (λw hw=>i4 rx fx r fs w (by simpa using hw)) ⟨.bl _,H,I,rfl,?_⟩;rw [show its.toArray.any (eqU x)=its.any (eqU x) by simp,ll r fs];exact q
 .obtain⟨its,r,pl,hz⟩:=I.tuple hq;refine SeqAt.notIn_tupleAt (eqU x) pl (λw hw=>i4 rx fx r fs w (by simpa using hw)) ⟨.bl _,H,I,rfl,?_⟩;rw [show its.toArray.any (eqU x)=its.any (eqU x) by simp,ll r fs];exact q
def ke:bz X (.builtin "len") (λxs H Q=>∃p ys,xs=[.ref p]/\(SqL X.K H p ys\/SqT X.K H p ys)/\Q (.int ys.length) H):=by
 intro pins s σ H xs us Q I r h;obtain⟨p,ys,rfl,hq,q⟩:=h;obtain⟨u,rfl,rx⟩:=fg r;cases rx;have hn:=k9
 rcases hq with hq|hq
 .obtain⟨its,r',pl,hz⟩:=I.list hq;have hlen:=r'.length;exact Calls.call_len_list pl.isList (by simp only [size_toArray] <;> omega) ⟨.int ys.length,H,I.tok _,⟨s.toks+1,by rw [size_toArray,hlen]⟩,q⟩
 .obtain⟨its,r',pl,hz⟩:=I.tuple hq;have hlen:=r'.length;exact len_tuple pl (by simp only [size_toArray] <;> omega) ⟨.int ys.length,H,I.tok _,⟨s.toks+1,by rw [size_toArray,hlen]⟩,q⟩
def qe:bz X (.builtin "len") (λxs H Q=>∃z,xs=[.str z]/\z.length<=sizeLine/\Q (.int z.length) H):=by
 intro pins s σ H xs us Q I r h;obtain⟨z,rfl,hz,q⟩:=h;obtain⟨u,rfl,t,rfl⟩:=fg r;have hn:=k9;exact len_str (by omega) ⟨.int z.length,H,I.tok _,⟨_,rfl⟩,q⟩
def bz.or{f:Value}{r r':List V->Hp->VK->Prop}(h:bz X f r)(h':bz X f r'):bz X f (λxs H Q=>r xs H Q\/r' xs H Q):=by
 intro pins s σ H xs us Q I rs q
 rcases q with q|q
 .exact h pins s σ H xs us Q I rs q
 .exact h' pins s σ H xs us Q I rs q
def qf:bz X (.type "list") (λxs H Q=>∃p ys,xs=[.ref p]/\(SqL X.K H p ys\/SqT X.K H p ys)/\∀l,H l=none->Q (.ref l) (upd H l (.lst ys))):=by
 intro pins s σ H xs us Q I r h;obtain⟨p,ys,rfl,hq,q⟩:=h;obtain⟨u,rfl,rx⟩:=fg r;cases rx
 have fin:∀(its:List Value),bD ys its->ys.length<=sizeLine->∀(h':Heap) (c':Nat),(∀b o',s.heap.get? b=some o'->h'.get? b=some o') ->
   h'.get? s.heap.objs.size=some { cls:=.type "list",dict:=none,data:=.seq its.toArray c',slots:=#[] }->EP X pins σ Q (.ref s.heap.objs.size) { s with heap:=h' }:=λits r' hz h' c' kp e =>
  ⟨.ref s.heap.objs.size,_,I.laid (t':=s.toks) kp (f_ _) (show bB X.prog X.w _ h' _ (.lst ys) from ⟨hz,its,c',r',e⟩),rfl,q _ (I.hok.fresh (f_ _))⟩
 rcases hq with hq|hq
 .obtain⟨its,r',pl,hz⟩:=I.list hq;have hlen:=r'.length;obtain⟨o,ho,hc,n,hd⟩:=pl.isList;exact call_list_seq p (.inl rfl) ho hc hd (λh' c' kp e=>fin its r' hz h' c' kp e) (by simp only [size_toArray] <;> omega)
 .obtain⟨its,r',pl,hz⟩:=I.tuple hq;have hlen:=r'.length;obtain⟨o,ho,hc,n,hd⟩:=pl;exact call_list_seq p (.inr rfl) ho hc hd (λh' c' kp e=>fin its r' hz h' c' kp e) (by simp only [size_toArray] <;> omega)
def oN:bz X (.type "tuple") (λxs H Q=>∃p ys,xs=[.ref p]/\((SqL X.K H p ys/\∀l,H l=none->Q (.ref l) (upd H l (.tup ys)))\/(SqT X.K H p ys/\Q (.ref p) H))):=by
 intro pins s σ H xs us Q I r h;obtain⟨p,ys,rfl,h⟩:=h;obtain⟨u,rfl,rx⟩:=fg r;cases rx
 rcases h with ⟨hq,q⟩|⟨hq,q⟩
 .obtain⟨its,r',pl,hz⟩:=I.list hq;have hlen:=r'.length;refine call_tuple_list pl.isList (λh' kp=>?_) (by simp only [size_toArray] <;> omega);have I1:Inv X pins σ H { s with heap:=h' }:=I.kept (t':=s.toks) kp
  have I2:Inv X pins σ (upd H h'.objs.size (.tup ys)) { s with heap:=h'.push { cls:=.type "tuple",data:=.seq its.toArray } } :=
   I1.laid (t':=s.toks) (λb o e=>d_ _ e) (f_ _) (show bB X.prog X.w _ _ _ (.tup ys) from ⟨hz,its,r',IsTup.new _ _⟩)
  exact⟨.ref h'.objs.size,_,I2,rfl,q _ (I1.hok.fresh (f_ _))⟩
 .obtain⟨its,r',pl,hz⟩:=I.tuple hq;exact call_tuple_same pl ⟨.ref p,H,I,rfl,q⟩
noncomputable def tyV(K:b_)(T:String)(x:V)(H:Hp):Prop:=match x with
 | .str _=>T="str"
 | .int _=>T="int"
 | .ref p=>(T="list"/\∃xs,SqL K H p xs)\/(T="tuple"/\∃o,K.lookup p=some o/\o.cls=.type "tuple"/\o.dict=none) \/
   (T="dict"/\((∃kvs,H p=some (.dK kvs))\/∃kvs,H p=some (.dT kvs)))\/(T="set"/\∃S n,H p=some (.set S n))
 | _=>False
def AQ{T:String}{x:V}{v:Value}(I:Inv X pins σ H s)(r:bW x v)(ty:tyV X.K T x H):
  s.TypeIs v T/\∀a,v=.ref a->∃ob,s.heap.get? a=some ob/\ob.dict=none:=by
 cases x with
 | str z =>
  obtain⟨t,rfl⟩:=r;cases (show T="str" from ty);exact⟨typeIs_str s z t,λ_ e=>nomatch e⟩
 | int i =>
  obtain⟨t,rfl⟩:=r;cases (show T="int" from ty);exact⟨typeIs_int s i t,λ_ e=>nomatch e⟩
 | ref p =>
  cases r
  rcases ty with ⟨rfl,xs,hq⟩|⟨rfl,o,hk,hc,hd⟩|⟨rfl,hk⟩|⟨rfl,S,n,hk⟩
  .obtain⟨its,_,pl,_⟩:=I.list hq;refine⟨pl.isList.typeIs,λa e=>?_⟩;cases e;obtain⟨o,n,e,c,hd,_⟩:=pl;exact⟨o,e,hd⟩
  .refine⟨⟨o,I.kIn p o hk,hc⟩,λa e=>?_⟩;cases e;exact⟨o,I.kIn _ o hk,hd⟩
  .have z:∃o,s.heap.get? p=some o/\o.ExactDict:=by
    rcases hk with ⟨kvs,hk⟩|⟨kvs,hk⟩
    .obtain⟨_,_,_,_,o,_,_,e,ex,_⟩:=I.hok p _ hk;exact⟨o,e,ex⟩
    .obtain⟨_,_,_,_,o,_,_,e,ex,_⟩:=I.hok p _ hk;exact⟨o,e,ex⟩
   obtain⟨o,e,ex⟩:=z;refine⟨⟨o,e,ex.1⟩,λa e2=>?_⟩;cases e2;exact⟨o,e,ex.2.1⟩
  .obtain⟨o,_,_,_,e,ex,_⟩:=I.hok p _ hk;refine⟨⟨o,e,ex.1⟩,λa e2=>?_⟩;cases e2;exact⟨o,e,ex.2.1⟩
 | _=>exact J7 ty
noncomputable def Iv(K:b_)(T:String)(r:V->List V->Hp->VK->Prop)(to:TE):TE:=λσ H Q=>to σ H λx H1=>tyV K T x H1/\r x [] H1 Q
noncomputable def tBM(K:b_)(T:String)(r:V->List V->Hp->VK->Prop)(to:TE)(t:TA):TE:=λσ H Q=>to σ H λx H1=>tyV K T x H1/\t σ H1 λxs H2=>r x xs H2 Q
variable {o:Expr}{to:TE}{name:Str}{apos cpos:Pos}{T id:String}{r:V->List V->Hp->VK->Prop}
def D8(pa:PlainAttrs T)(slot:Slot T name id)(hty:typeOf (.builtin id)=pure (.type "method_descriptor"))(hm:MtR X id r)(ho:PE X o to)(hbase:attributeBase o name X.env (eval o X.env)=eval o X.env:=by rfl)(hline:(apos.endLine == cpos.line)=true:=by rfl):PE X (.Call (.Attribute o name apos) [] [] cpos) (Iv X.K T r to):=by
 intro pins s σ H Q I h;refine wpAny_Call_method0_late hbase hline (thn (ho pins s σ H _ I h) λv s1 ⟨x,H1,I1,r1,ty,q1⟩=>?_);obtain⟨h1,h2⟩:=AQ I1 r1 ty;exact⟨T,id,pa,slot,hty,h1,h2,Lv rfl (PySem.evalArgs_none (hm pins s1 σ H1 x [] v [] Q I1 r1 .nil q1))⟩
variable {es:List Expr}{t:TA}
def G2(pa:PlainAttrs T)(slot:Slot T name id)(hty:typeOf (.builtin id)=pure (.type "method_descriptor"))(hm:MtR X id r)(ho:PE X o to)(ha:PA X (e::es) t)(hbase:attributeBase o name X.env (eval o X.env)=eval o X.env:=by rfl)(hfew:((backTo cpos (starEach (e::es) X.env)).all (λx=>!x.1) && (backToKw cpos (keywordEach [] X.env)).all (λx=>x.1.isSome)
   && decide ((e::es).length+([]:List Keyword).length+(if ([]:List Keyword).isEmpty then 0 else 1)<30))=true:=by rfl)(hline:(apos.endLine == cpos.line)=true:=by rfl)(hs:starEach (e::es) X.env=(false,eval e X.env)::starEach es X.env:=by rfl)(hplain:(backTo cpos (starEach es X.env)).any (·.1)=false:=by rfl):
  PE X (.Call (.Attribute o name apos) (e::es) [] cpos) (tBM X.K T r to t):=by
 intro pins s σ H Q I h;refine wpAny_Call_method_late hbase hfew hline rfl (thn (ho pins s σ H _ I h) λv s1 ⟨x,H1,I1,r1,ty,q1⟩=>?_);obtain⟨h1,h2⟩:=AQ I1 r1 ty;refine⟨T,id,pa,slot,hty,h1,h2,?_⟩;have hA:=ha cpos pins s1 σ H1 _ I1 q1;rw [hs] at hA ⊢;refine Lv (by show (false || (backTo cpos (starEach es X.env)).any (·.1))=false;rw [hplain] <;> rfl) (Calls.evalArgs_plain ?_);exact thn hA λus s2 ⟨vs,H2,I2,r2,q2⟩=>hm pins s2 σ H2 x vs v us Q I2 r1 r2 q2
end
noncomputable def MtM(X:Cx)(id:String)(r:V->List V->Hp->VK->Prop):Prop :=
 ∀(pins:List (Addr×Obj)) (s:cy) (σ:St) (H:Hp) (x:V) (xs:List V) (v:Value) (us:List Value) (Q:VK),Inv X pins σ H s->bW x v->bD xs us->r x xs H Q ->
  wpAny (model X.prog X.w) X.A (call (.builtin id) (v::us)) (EP X pins σ Q) X.xe s
theorem bD.one:∀{x:V}{us:List Value},bD [x] us->∃u,us=[u]/\bW x u
 | _,_,.cons r .nil=>⟨_,rfl,r⟩
theorem bD.zero:∀{us:List Value},bD [] us->us=[]
 | _,.nil=>rfl
def bD.dropLast(h:bD xs us):bD xs.dropLast us.dropLast:=by
 induction h with
 | nil=>exact .nil
 | cons r t ih =>
  cases t with
  | nil=>exact .nil
  | cons q t'=>exact .cons r ih
def bD.reverse(h:bD xs us):bD xs.reverse us.reverse:=by
 induction h with
 | nil=>exact .nil
 | cons r t ih=>rw [ML,ML];exact bD.append ih (.cons r .nil)
theorem bD.rep(h:bD xs us):∀k:Nat,bD (v_ k xs).flatten (v_ k us).flatten
 | 0=>.nil
 | k+1=>by
  rw [replicate_succ,replicate_succ,flatten_cons,flatten_cons];exact bD.append h (bD.rep h k)
def u0(l:List α):l.eraseIdx (l.length - 1)=l.dropLast:=by
 induction l with
 | nil=>rfl
 | cons a r ih =>
  cases r with
  | nil=>rfl
  | cons b r =>
   have e:(a::b::r).length - 1=((b::r).length - 1)+1:=by
    have h1:(a::b::r).length=r.length+2:=rfl;have h2:(b::r).length=r.length+1:=rfl;omega
   rw [e,eraseIdx_cons_succ,ih]
   all_goals rfl
theorem qg(its:List Value):∀(k:Nat) (acc:List Value),
  Nb (λx1 x2=>x1++x2) acc.toArray (v_ k its.toArray)=(acc++(v_ k its).flatten).toArray
 | 0,acc=>by simp
 | k+1,acc=>by
  have e:acc.toArray++its.toArray=(acc++its).toArray:=by simp
  have e2:(acc++its)++(v_ k its).flatten=acc++(v_ (k+1) its).flatten:=by
   rw [replicate_succ,flatten_cons,KU]
  rw [<- e2,<- qg its k (acc++its),<- e,replicate_succ,foldl_cons]
variable {pins:List (Addr×Obj)}{σ:St}{H:Hp}{s:cy}{l:Addr}{ys:List V}{its:List Value}{t':Nat}
def Inv.lset{its':List Value}{f:Array Value->Array Value}(I:Inv X pins σ H s)(hH:H l=some (.lst xs))(e:s.heap.get? l=some { cls:=.type "list",data:=.seq its.toArray n })(hf:f its.toArray=its'.toArray)(hv:bD ys its')(hz:ys.length<=sizeLine):
  Inv X pins σ (upd H l (.lst ys)) { s with heap:=s.heap.update l (LH f),toks:=t' }:=by
 have q:=PySem.IsL.update e f;rw [hf] at q;refine I.write (x:=l) (e:=l) (by rw [hH];exact trivial) (.inl rfl) (λb' u hb hu=>(JD s.heap (LH f) (J_ hb)).trans hu) ⟨_,q⟩ ?_;exact⟨hz,its',_,hv,q⟩
def Inv.lnew(I:Inv X pins σ H s)(hv:bD ys its)(hz:ys.length<=sizeLine):
  Inv X pins σ (upd H s.heap.objs.size (.lst ys)) { s with heap:=s.heap.push { cls:=.type "list",data:=.seq its.toArray },toks:=t' } :=
 I.laid (λ_ _ q=>d_ _ q) (f_ _) ⟨hz,its,0,hv,kx _ rfl⟩
def Inv.fresh(I:Inv X pins σ H s):H s.heap.objs.size=none:=I.hok.fresh (f_ _)
def Inv.lstM(I:Inv X pins σ H s)(hH:H l=some (.lst xs)):xs.length<=sizeLine/\∃(its:List Value) (n:Nat),bD xs its/\xs.length=its.length/\s.heap.get? l=some { cls:=.type "list",data:=.seq its.toArray n }:=by
 obtain⟨z,its,n,r,e⟩:=I.hok l _ hH;exact⟨z,its,n,r,r.length,e⟩
def zd(h:n<=sizeLine):K3 n=false:=by
 unfold K3;exact decide_eq_false (by omega)
noncomputable def wD:V->List V->Hp->VK->Prop:=λx vs H Q=>∃l xs y,x=.ref l/\vs=[y]/\H l=some (.lst xs)/\xs.length<sizeLine/\Q .non (upd H l (.lst (xs++[y])))
def cp:MtM X "list.append" wD:=by
 intro pins s σ H x vs v us Q I rx rv h;obtain⟨l,xs,y,rfl,rfl,hH,hz,q⟩:=h;cases rx;obtain⟨u,rfl,ru⟩:=rv.one;obtain⟨z,its,n,r,hl,e⟩:=I.lstM hH;refine Md F.slot_list_append ⟨_,e,rfl⟩ F.entry_list_append (F.args_list_append_2 _ _) (PySem.list_append l its.toArray n u (by rw [size_toArray];omega)) ⟨e,?_⟩;refine⟨.non,_,I.lset (its':=its++[u]) hH e (by simp) (r.append (.cons ru .nil)) ?_,rfl,q⟩;rw [length_append,length_singleton]
 omega
noncomputable def Iw:V->List V->Hp->VK->Prop:=λx vs H Q=>∃l xs y,x=.ref l/\vs=[]/\H l=some (.lst xs)/\xs[xs.length - 1]?=some y/\Q y (upd H l (.lst xs.dropLast))
def D9:MtM X "list.pop" Iw:=by
 intro pins s σ H x vs v us Q I rx rv h;obtain⟨l,xs,y,rfl,rfl,hH,hy,q⟩:=h;cases rx;have hus:=rv.zero;subst hus;obtain⟨z,its,n,r,hl,e⟩:=I.lstM hH;obtain⟨u,hu,ru⟩:=r.get hy
 have hy':its.toArray[its.toArray.size - 1]?=some u:=by
  show its.toArray[its.length - 1]?=some u;rw [<- MT,<- hl];exact hu
 refine Md F.slot_list_pop ⟨_,e,rfl⟩ F.entry_list_pop (F.args_list_pop_1 _) (MeetsSeq.list_pop_last l its.toArray n u hy' (by rw [size_toArray];omega)) ⟨e,?_⟩
 refine⟨y,_,I.lset (its':=its.dropLast) hH e ?_ r.dropLast ?_,ru,q⟩
 .show its.toArray.eraseIdxIfInBounds (its.toArray.size - 1)=its.dropLast.toArray;rw [size_toArray,eraseIdxIfInBounds_toArray,u0]
 .rw [length_dropLast];omega
noncomputable def Ix:R2:=λx y H Q=>∃l k xs,x=.ref l/\y=.int k/\H l=some (.lst xs)/\-(2^63)<=k/\k<2^63/\xs.length*k.toNat<=sizeLine /\
 ∀p,H p=none->Q (.ref p) (upd H p (.lst (v_ k.toNat xs).flatten))
def B1(xs:List α)(k:Nat):(v_ k xs).flatten.length=k*xs.length:=by
 induction k with
 | zero=>simp
 | succ k ih=>rw [replicate_succ,flatten_cons,length_append,ih,succ_mul,add_comm]
def Ea:OpR X (binaryOp .Mult) Ix:=by
 intro pins s σ H x y v u Q I rx ry h;obtain⟨l,k,xs,rfl,rfl,hH,h1,h2,hz,q⟩:=h;cases rx;obtain⟨t,rfl⟩:=ry;obtain⟨z,its,n,r,hl,e⟩:=I.lstM hH;have hlen:its.toArray.size*k.toNat<=sizeLine:=by rw [size_toArray,<- hl];exact hz
 have hcap:¬ its.toArray.size*k.toNat > (2^63 - 1) / 8:=by
  have:(sizeLine:Nat)<=(2^63 - 1) / 8:=by decide
  omega
 have hfit:¬ (!Builtin.List.listFitsIndex k)=true:=by
  rw [fitsIndex_both h1 h2];exact j_
 have hlong:¬ K3 (its.toArray.size*k.toNat)=true:=by
  rw [zd hlen];exact j_
 have hnew:Nb (λx1 x2=>x1++x2) #[] (v_ (if its.toArray.isEmpty=true then 0 else k.toNat) its.toArray)=(v_ k.toNat its).flatten.toArray:=by
  have f0:∀m:Nat,Nb (λx1 x2=>x1++x2) #[] (v_ m its.toArray)=(v_ m its).flatten.toArray:=λm=>by
   have:=qg its m [];rw [nil_append] at this;exact this
  rw [f0]
  cases its with
  | nil=>simp
  | cons a r'=>rw [if_neg (by simp)]
 refine wpAny_binaryOp_repeat_ref (T:="list") (U:="int") (by decide) ⟨_,e,rfl⟩ (λs'=>typeIs_int s' k t) noFill_list_mul F.fills_int_mul F.slot_int_rmul repeat_list F.slot_int_index.lookup
  (Md F.slot_int_rmul (typeIs_int s k t) F.entry_int_rmul (F.args_int_rmul_2 _ _) (int___rmul___int_list k t l its.toArray n)
   ⟨e,rfl,⟨_,e,rfl⟩,Md F.slot_list_mul ⟨_,e,rfl⟩ F.entry_list_mul (F.args_list_mul_2 _ _) (AutoListH.list___mul___list_int_3 l its.toArray n k t hfit hcap hlong) ⟨e,?_⟩⟩)
 rw [hnew];exact⟨.ref _,_,I.lnew (t':=s.toks) (r.rep k.toNat) (by rw [B1,Nat.mul_comm];exact hz),rfl,q _ I.fresh⟩
end L2
namespace Att
open PySem PySem.W PySem.Calls PyProof.Rows
variable {h:Heap}
def lm{P:Params}:∀(ns:List Int) (vs:List Value),WellAll P h vs (ns.map WData.int)->Lr vs ns:=by
 intro ns
 induction ns with
 | nil =>
  intro vs w;rw [map_nil] at w;cases w;exact .nil
 | cons n ns ih =>
  intro vs w;rw [map_cons] at w
  cases w with
  | cons a b =>
   cases a;exact .cons _ _ (ih _ b)
variable {n:Nat}
def wE{l:OpenLaw}(hn:l.most=some n){P:Params}{args:List WData}{vals:List Value}(hpre:l.row.toRowW.claim.pre args=true)(hwl:WellAll P h vals args):
  ∃a vs ns,vals=[so a]/\args=[WData.list (ns.map WData.int)]/\h.get? a=some { cls:=.type "list",data:=.seq vs.toArray }/\Lr vs ns/\ns.length<=n:=by
 have hsh:WShape.hasAll [] args [.list .int]=true:=(pre_splitW hpre).1;have hc:l.pre.holds [] { args:=args }=true:=(pre_splitW hpre).2;obtain⟨d,r,rfl,h1,h2⟩:=hasAllW_cons hsh;obtain rfl:=hasAllW_nil h2;obtain⟨xs,rfl,h3⟩:=hasW_list h1;obtain⟨ns,rfl⟩:=items_int h3
 have hlen:ns.length<=n:=by
  unfold OpenLaw.pre at hc
  have h4:(WTm.not (.lt (.lit (.int (n:Int))) (.len (.arg 0)))).holds [] { args:=[.list (ns.map .int)] }=true:=by
   have h4:=(holds_andW hc).1;rw [hn] at h4;exact h4
  have h5:=condW_of h4 (w_not (w_lt w_lit (w_len_list (w_arg rfl))));rw [length_map] at h5;refine le_of_not_lt λq=>?_;have q':(n:Int)<((ns.length:Nat):Int):=by omega
  first
   | (rw [decide_eq_true q'] at h5;exact absurd h5 (by decide))
   | (simp at h5;omega)
 cases hwl with
 | cons w1 w2 =>
  cases w2
  cases w1 with
  | list ho hall=>exact⟨_,_,ns,rfl,rfl,ho,lm ns _ hall,hlen⟩
def wF(l:OpenLaw)(args:List WData):l.row.toRowW.claim.post args (.bool true) args=true :=
 postW_of (r:=l.row.toRowW) (X:=(true == true))
  (show WShape.has [] (.bool true) .bool=true by first|rfl|decide|simp [WShape.has,WShape.arms,WShape.armsAll])
  (show (WTm.eq .res (.lit (.bool true))).value [] { args:=args,res:=some (.bool true),after:=args }=some (.bool (true == true)) from w_eq_bool (w_res rfl) w_lit) rfl
def attach_call{l:OpenLaw}{q:s_}{loose:List Str}{XP:(Str->Option Value)->Heap->Prop}{YP:World->Heap->Prop}{d:DefRec}(hn:l.most=some n)(hdf:d.params.defaults=[])(call:∀(w:World) (s₀ s₁:cy) (mg mb:Str->Option Value) (fa:Addr) (o:Obj) (pm cd doc:Value) (a:Addr) (vs:List Value) (ns:List Int),
   Ground q loose [] XP w s₀ mg mb s₁.heap->YP w s₁.heap ->
   s₁.heap.get? fa=some o->o.data=.func (docDef d.name d.params d.body d.scope pm cd doc)->s₁.heap.CodeRec cd d.name->mg d.name=some (.ref fa) ->
   s₁.heap.get? a=some { cls:=.type "list",data:=.seq vs.toArray }->Lr vs ns->ns.length<=n->s₁.gens=#[] ->
   codeAny (model l.prog w) callerA (.call (.ref fa) ⟨[.ref a],[]⟩) (λr s'=>r=.ok (.ret (.bool true))/\OldK s₁.heap s'.heap/\s'.os=s₁.os/\Mn s'.gens) s₁):
  WalkO q loose XP YP l.row.toRowW d [] (λf vs=>PySem.call f vs):=by
 intro w s₀ s₁ mg mb G Y fa o pm cd doc dV kV ho hd hcd hD hmg hg args vals as hpre hlay hrd hwl hlo;obtain rfl:dV=.none:=Dflts.none hD hdf;obtain rfl:kV=.none:=Dflts.noKw hD;obtain⟨a,vs,ns,rfl,rfl,hobj,hints,hlen⟩:=wE hn hpre hwl;refine enter_call (MG (call w s₀ s₁ mg mb fa o pm cd doc a vs ns G Y ho (fd_plain hd) hcd hmg hobj hints hlen hg) λr s' hq=>?_);obtain⟨rfl,h2,h3,h4⟩:=hq;exact⟨.inl ⟨.bool true,.bool true,[],rfl,λ_=>rfl,.bool true,wF l _,λ_=>⟨List.Pairwise.nil,λ_ hm=>(nomatch hm)⟩⟩,h2,h3,h4⟩
end Att
namespace L2
open PySem PySem.Spec PyProof.Rows
theorem qh:∀{vs:List Value}{ns:List Int},Lr vs ns->bD (ns.map V.int) vs
 | _,_,.nil=>.nil
 | _,_,.cons n t h=>.cons ⟨t,rfl⟩ (qh h)
noncomputable def G3(H:Hp):Prop:=∀b,H b=none\/∃o xs,H b=some (.frz o (.lst xs))
variable {w:World}{K:b_}{mg:Str->Option Value}{a:Addr}{fd:JS}{x:Str}{ns:List Int}
def ze{P:s_}{mb:Str->Option Value}{CX:CXT}{k:Nat}{fa:Addr}{sp:Sp}{s₁:cy}{vs:List Value}(KX:K.In s₁.heap)(hns:s₁.heap.Ns mainGlobals mg)(hb:s₁.heap.Ns builtinsNs mb)(hbb:∀x:Str,x≠"__name__"->mb x=bootBuiltins x)(hlim:s₁.heap.NoLimit)(hg:s₁.gens=#[])(ha:s₁.heap.get? a=some { cls:=.type "list",data:=.seq vs.toArray })(hi:Lr vs ns)(hl:ns.length<=sizeLine)(hr:d8 k callerA)(F:∀base:Heap,K.In base->base.Ns mainGlobals mg->oF P w K mg base CX k fa fd [x] sp)(hbind:∀(s:cy) (u:Value),MF s fd ⟨[u],[]⟩ [(x,u)])(hsp:∀H:Hp,G3 H->SqL K H a (ns.map V.int)->sp [.ref a] H (λv _=>v=.bl true) λ_ _ _=>False)(hCX:∀H e s',CX [] H s₁ (λ_ _ _=>False) e s'->False):
  codeAny (model P w) callerA (.call (.ref fa) ⟨[.ref a],[]⟩) (λr s'=>r=.ok (.ret (.bool true))/\OldK s₁.heap s'.heap/\s'.os=s₁.os/\Mn s'.gens) s₁:=by
 have rv:=qh hi;have lenV:=hi.length
 -- from an abstract heap in which nothing but the script may be tracked
 have core:∀H:Hp,G3 H->SqL K H a (ns.map V.int)->HOk P w H s₁.heap->(∀b,H b≠none->b=a)->(H a≠none->K.lookup a=none) ->
   codeAny (model P w) callerA (.call (.ref fa) ⟨[.ref a],[]⟩) (λr s'=>r=.ok (.ret (.bool true))/\OldK s₁.heap s'.heap/\s'.os=s₁.os/\Mn s'.gens) s₁:=by
  intro H hO hS hok hA hK;have base_of:∀{b:Addr}{o:Obj},s₁.heap.get? b=some o->H b=none->(DH s₁.heap H).get? b=some o:=λe n=>yR e n
  have noA:∀{b:Addr}{o:Obj}{es:Array DictEntry}{ep:Nat},s₁.heap.get? b=some o->o.data=.dict es ep->H b=none:=λ{b o es ep} e d=>by
   cases q:H b with
   | none=>rfl
   | some u =>
    have e':b=a:=hA b (by rw [q];simp);subst e';rw [ha] at e;cases e;have d':Data.seq vs.toArray _=Data.dict es ep:=d;cases d'
  have nsK:∀{b:Addr}{m:Str->Option Value},s₁.heap.Ns b m->(DH s₁.heap H).Ns b m:=λ{b m} ⟨o,es,ep,e,d,r⟩=>⟨o,es,ep,base_of e (noA e d),d,r⟩
  have hKb:K.In (DH s₁.heap H):=λb o e=>base_of (KX b o e) (by
   cases q:H b with
   | none=>rfl
   | some u =>
    have e':b=a:=hA b (by rw [q];simp);subst e';rw [hK (by rw [q];simp)] at e;cases e)
  have hM:Mod K mg (DH s₁.heap H):=⟨hKb,nsK hns,⟨mb,nsK hb,hbb⟩,let ⟨mc,h1,h2⟩:=hlim;⟨mc,nsK h1,h2⟩⟩
  have e0:BQ P w K mg (DH s₁.heap H) callerA [] s₁ H:=⟨rfl,hM,λb o e=>BE e,LQ (vZ _ _),trivial,λb hb=>absurd (show b∈([]:List Addr) from hb) (by simp),hok,.of_eq hg,λ_ _ z=>nomatch (show ([]:List Addr)=_ from z)⟩
  refine MG ((F _ hKb (nsK hns)).run callerA [] s₁ H ⟨[.ref a],[]⟩ [.ref a] [.ref a] _ _ hr e0 (hbind s₁ (.ref a)) (.cons rfl .nil) (hsp H hO hS)) λr s' h=>?_
  cases r with
  | error e=>exact (hCX H e s' h).elim
  | ok fl =>
   cases fl with
   | next=>exact J7 h
   | brk=>exact J7 h
   | cont=>exact J7 h
   | ret u =>
    obtain⟨v,H',os,bare,un,hok',r',q⟩:=h;have q':v=.bl true:=q;subst q';obtain rfl:u=J4 true:=r';refine⟨rfl,OldK.of_keep λb o e=>?_,os,bare⟩
    cases q:H b with
    | none=>exact un.keep b o e q (by intro z;exact absurd (show b∈([]:List Addr) from z) (by simp)) (by simp)
    | some u =>
     rcases hO b with z|⟨ob,xs,z⟩
     .rw [q] at z;cases z
     .have z2:=un.frzs b ob _ z;obtain⟨e1,_⟩:=hok b _ z;obtain⟨e2,_⟩:=hok' b _ z2;rw [e] at e1;cases e1;exact e2
 cases hk:K.lookup a with
 | some o =>
  -- the script is one of the module's own objects
  have e:=KX a o hk;rw [ha] at e;cases e;refine core (λ_=>none) (λ_=>.inl rfl) (.inr ⟨_,vs.toArray,_,hk,rfl,rfl,rfl,by rw [size_toArray,lenV];exact hl,by simpa using rv⟩) (λb u z=>by have z':(none:Option HO)=some u:=z;cases z') (λb z=>absurd rfl z) λz=>absurd rfl z
 | none =>
  refine core (λb=>if b=a then some (.frz { cls:=.type "list",data:=.seq vs.toArray } (.lst (ns.map V.int))) else none) (λb=>?_) (.inl (.inr ⟨{ cls:=.type "list",data:=.seq vs.toArray },if_pos rfl⟩)) (λb u z=>?_) (λb z=>?_) λ_=>hk
  .by_cases hb:b=a
   .exact .inr ⟨_,_,if_pos hb⟩
   .exact .inl (if_neg hb)
  .by_cases hb:b=a
   .have z':=(if_pos hb).symm.trans z;cases z';subst hb;exact⟨ha,by rw [length_map];exact hl,vs,_,rv,ha⟩
   .have z':=(if_neg hb).symm.trans z;cases z'
  .by_cases hb:b=a
   .exact hb
   .exact absurd (if_neg hb) z
variable {n:Nat}
def B2{l:MR}{k:Nat}{q:s_}{loose:List Str}{XP:(Str->Option Value)->Heap->Prop}{YP:World->Heap->Prop}{d:DefRec}{K:Params->b_}{CX:World->CXT}{sp:World->Sp}(hn:l.most=some n)(hn2:n<=sizeLine)(hdf:d.params.defaults=[])(hr:d8 k callerA)(hY:∀(w:World) (h:Heap),YP w h->(K w.params).In h)(F:∀(w:World) (mg:Str->Option Value) (fa:Addr) (h:Heap),(K w.params).In h->h.Ns mainGlobals mg->mg d.name=some (.ref fa) ->
   ∃fd:JS,(∀(s:cy) (u:Value),MF s fd ⟨[u],[]⟩ [(x,u)]) /\
    ∀base:Heap,(K w.params).In base->base.Ns mainGlobals mg->oF l.prog w (K w.params) mg base (CX w) k fa fd [x] (sp w))(hsp:∀(w:World) (H:Hp) (a:Addr) (ns:List Int),ns.length<=n->G3 H->SqL (K w.params) H a (ns.map V.int)->sp w [.ref a] H (λv _=>v=.bl true) λ_ _ _=>False)(hCX:∀(w:World) (H:Hp) (s:cy) (e:Value) (s':cy),CX w [] H s (λ_ _ _=>False) e s'->False):
  PySem.W.WalkO q loose XP YP l.row.toRowW d [] (λf vs=>PySem.call f vs):=by
 refine Att.attach_call hn hdf λw s₀ s₁ mg mb fa o pm cd doc a vs ns G Y ho hd hcd hmg hobj hints hlen hg=>?_;have KX:=hY w _ Y;obtain⟨fd,hb,hF⟩:=F w mg fa _ KX G.T.g hmg;exact ze KX G.T.g G.T.b G.T.builtins G.T.nolimit hg hobj hints (F_ hlen hn2) hr hF hb (λH hO hS=>hsp w H a ns hlen hO hS) λH e s'=>hCX w H s₁ e s'
noncomputable def wG(s:Stmt)(j:Nat):Stmt:=match s with
 | .ClassDef _ _ _ body _ _ _ _ _ _ _=>body.getD j (.Pass ⟨0,0,0,0⟩)
 | _=>.Pass ⟨0,0,0,0⟩
noncomputable def bL(s:Stmt):Arguments:=match s with
 | .FunctionDef _ a _ _ _ _ _ _ _ _=>a
 | _=>{ posonlyargs:=[],args:=[],vararg:=none,kwonlyargs:=[],kw_defaults:=[],kwarg:=none,defaults:=[] }
noncomputable def aR(s:Stmt):List Stmt:=match s with
 | .FunctionDef _ _ b _ _ _ _ _ _ _=>b
 | _=>[]
noncomputable def ai(s:Stmt):Scope:=match s with
 | .FunctionDef _ _ _ _ _ _ sc _ _ _=>sc
 | _=>{ kind:=.function,names:=[],isGenerator:=false,isCoroutine:=false }
abbrev CX0:CXT:=λ_ _ _ _ _ _=>False
abbrev E0:XK:=λ_ _ _=>False
variable {X:Cx}
def zf:nV CX0 X E0:=λ_ _ _ _ _ _ _ h=>h.elim
structure Fun (K:b_) (x qual:Str) (st:Stmt) (f:Addr) (fd:JS):Prop where
 ex:∃(oc:Value) (od:Option Addr) (kV doc pm:Value) (an:Option Addr) (cdv ct:Value) (osl:Array (Option Value)),
  fd=Eo x qual (bL st) (aR st) (ai st) .none kV doc pm an cdv ct/\K.lookup f=some ⟨oc,od,.func fd,osl⟩/\JJ K cdv qual=true
 kp:C_ K (.ref f)=true
section
variable {P:s_}{base:Heap}{qual:Str}{st:Stmt}{N:List Str}
def Fun.ok{f:Addr}{ps:List Str}{k:Nat}{sp:Sp}(F:Fun K x qual st f fd)(S:az N ps (ai st))(len:∀vs H Q E,sp vs H Q E->vs.length=ps.length)(hbody:∀(cdv:Value) (A:y_) (outer:List Env) (s:cy) (H:Hp) (vs:List V) (Q:VK) (E:XK),d8 k (A.deeper (envOfC qual (ai st) s.heap.objs.size f cdv))->sp vs H Q E ->
   ∃t,PSs (pX CX0 P w K mg base N qual (ai st) f cdv A outer s H E).nox (aR st) t/\t { nx:=λ_ H'=>Q .non H',rt:=Q } (start N vs) H):oF P w K mg base CX0 (k+1) f fd ps sp:=by
 obtain⟨oc,od,kV,doc,pm,an,cdv,ct,osl,rfl,lk,hcd⟩:=F.ex;refine D1 lk hcd S len λA outer s H vs Q E hr hsp=>?_;obtain⟨t,h,q⟩:=hbody cdv A outer s H vs Q E hr hsp;exact⟨t,h.nox,q⟩
def Fun.binds{f:Addr}{ps:List Str}(F:Fun K x qual st f fd)(h:∀(kV doc pm:Value) (an:Option Addr) (cdv ct:Value) (us:List Value),us.length=ps.length->bindArgs (Eo x qual (bL st) (aR st) (ai st) .none kV doc pm an cdv ct) ⟨us,[]⟩=pure (ps.zip us)):kE K fd ps []:=by
 obtain⟨oc,od,kV,doc,pm,an,cdv,ct,osl,rfl,lk,hcd⟩:=F.ex;exact .all (h kV doc pm an cdv ct)
variable {oc:Value}{od an:Option Addr}{pm ct:Value}
def wH{f:Addr}{osl:Array (Option Value)}{kV doc cdv:Value}(l:K.lookup f=some ⟨oc,od,.func (Eo x qual (bL st) (aR st) (ai st) .none kV doc pm an cdv ct),osl⟩)(c:JJ K cdv qual=true)(k:C_ K (.ref f)=true):Fun K x qual st f (Eo x qual (bL st) (aR st) (ai st) .none kV doc pm an cdv ct):=⟨⟨oc,od,kV,doc,pm,an,cdv,ct,osl,rfl,l,c⟩,k⟩
end
variable {pos:Pos}
theorem pv(i:Nat)(hN:X.N[i]?=some x:=by rfl)(hv:Vis X.env.scope x:=by first|exact M3 rfl|exact Or.inr (M3 rfl)|exact Or.inr (Or.inr rfl))(hd:(x == ("__debug__":Str))=false:=by decide)(hcd:(x == ("__classdict__":Str))=false:=by decide):PE X (.Name x pos) (aH i):=DI hN hv hd hcd
def S(l:List Nat):Str:=⟨l.toArray⟩
def hC(l:List Nat):(S l).length=l.length:=by simp [S,Str.length]
def G4(a b:List Nat):S a++S b=S (a++b):=by
 show (⟨a.toArray++b.toArray⟩:Str)=⟨(a++b).toArray⟩
 rw [append_toArray]
def Eb{a b:List Nat}(h:S a=S b):a=b:=by
 have h':=congrArg (λx:Str=>x.cps.toList) h;simpa [S] using h'
def Jb{a b:List Nat}(h:a≠b):S a≠S b:=λe=>h (Eb e)
def Ec{a b:List Nat}:V.str (S a)=V.str (S b) ↔ a=b:=⟨λh=>Eb (V.str.inj h),λh=>by rw [h]⟩
def Ed(a b:List Nat):decide (V.str (S a)=V.str (S b))=decide (a=b):=by
 by_cases h:a=b
 .rw [decide_eq_true h,decide_eq_true (Ec.mpr h)]
 .rw [decide_eq_false h,decide_eq_false (λz=>h (Ec.mp z))]
variable {α:Type}
noncomputable def eM(xs:List α)(lo hi:Option Int):List α:=(xs.drop (HT.sIx xs.length 0 lo)).take (HT.sIx xs.length xs.length hi - HT.sIx xs.length 0 lo)
def dh(xs:List α)(lo hi:Option Int):(eM xs lo hi).length<=xs.length:=by
 unfold eM;rw [length_take,length_drop];omega
def wI(xs:List V)(lo hi:Option Int):BU xs lo hi=eM xs lo hi:=rfl
def Ee(lo hi:Option Int)(n:Nat):Ka lo hi 1 n=(c_ (HT.sIx n n hi - HT.sIx n 0 lo)).map (λk=>HT.sIx n 0 lo+k):=by
 have key:∀(o:Option Int) (d:Nat),d<=n->(match o with|none=>(d:Int)|some i=>max 0 (min (if i<0 then i+(n:Int) else i) (n:Int)))=((HT.sIx n d o:Nat):Int):=by
  intro o d hd
  cases o with
  | none=>rfl
  | some i =>
   show max 0 (min (if i<0 then i+(n:Int) else i) (n:Int))=_;rw [<- HT.clip_eq i n d]
   by_cases h:i<0
   .rw [if_pos h,if_pos h];omega
   .rw [if_neg h,if_neg h];omega
 have k1:=key lo 0 (Lo _);have k2:=key hi n (f_ _);unfold Ka;simp only [show (1:Int) > 0 by decide,if_true];refine Eq.trans (congrArg (λa=>sliceRange a _ 1) k1) (Eq.trans (congrArg (λb=>sliceRange _ b 1) k2) ?_);unfold sliceRange;simp only [show (1:Int) > 0 by decide,if_true];generalize HT.sIx n 0 lo=a;generalize HT.sIx n n hi=b
 have ec:(if (a:Int)<(b:Int) then ((b:Int) - (a:Int)+1 - 1) / 1 else 0).toNat=b - a:=by
  split <;> omega
 rw [ec];apply Me;intro k _;omega
def wJ(l:List α)(a m:Nat):((c_ m).map (λk=>a+k)).filterMap (λi=>l[i]?)=(l.drop a).take m:=by
 induction m generalizing a with
 | zero=>simp
 | succ m ih =>
  rw [range_succ_eq_map,map_cons,map_map,Ll];have e:((λk=>a+k) ∘ Nat.succ)=λk=>(a+1)+k:=by funext k;simp;omega
  rw [e,ih (a+1)]
  cases h:l[a+0]? with
  | none =>
   have hl:l.length<=a:=by simpa using List.getElem?_eq_none_iff.mp h
   rw [Lw hl,Lw (by omega)];simp
  | some v =>
   have hl:a<l.length:=by simpa using (i_.mp h).1
   have hv:l[a]=v:=by simpa using (i_.mp h).2
   rw [drop_eq_getElem_cons hl,hv];rfl
def B3(l:List Nat)(lo hi:Option Int):Txt.slice (S l) lo hi=S (eM l lo hi):=by
 have e1:(Ka lo hi 1 (S l).length).filterMap ((S l).cps[·]?)=eM l lo hi:=by
  rw [Ee,hC];have e:(λi:Nat=>(S l).cps[i]?)=λi:Nat=>l[i]?:=by funext i;simp [S]
  rw [e];exact wJ l _ _
 unfold Txt.slice
 split
 .rename_i h;have h2:(Ka lo hi 1 (S l).length).length=(S l).length:=by simpa using h
  rw [Ee,hC,length_map,length_range] at h2;have a0:=HT.sIx_le l.length 0 (Lo _) lo;have b0:=HT.sIx_le l.length l.length (f_ _) hi;unfold eM
  by_cases hz:l.length=0
  .have:l=[]:=JQ.mp hz;subst this;simp
  .have ha:HT.sIx l.length 0 lo=0:=by omega
   have hb:HT.sIx l.length l.length hi=l.length:=by omega
   rw [ha,hb];simp
 .rw [e1];rfl
def jF(l:List α)(k:Nat):eM l none (some (k:Int))=l.take k:=by
 unfold eM;rw [HT.sIx_nat];show (l.drop 0).take (min k l.length - 0)=l.take k;rw [drop_zero,Nf]
 by_cases h:k<=l.length
 .rw [min_eq_left h]
 .rw [min_eq_right (by omega),J3 (f_ _),J3 (by omega)]
def wK(l:List α)(i j:Nat):eM l (some (i:Int)) (some (j:Int))=(l.drop i).take (j - i):=by
 unfold eM;rw [HT.sIx_nat,HT.sIx_nat]
 by_cases h:i<=l.length
 .rw [min_eq_left h]
  by_cases h2:j<=l.length
  .rw [min_eq_left h2]
  .rw [min_eq_right (by omega),J3 (by rw [length_drop];omega),J3 (by rw [length_drop];omega)]
 .have e:min i l.length=l.length:=min_eq_right (by omega);rw [e,Lw (f_ _),Lw (by omega),take_nil,take_nil]
noncomputable def Iy:V->Option Int->Option Int->Hp->VK->Prop:=λx lo hi H Q=>∃l,x=.str (S l)/\l.length<=sizeLine/\Q (.str (S (eM l lo hi))) H
def Ef:SlR X Iy:=by
 intro pins s σ H x v vl vu lo hi sl Q I rx hs pl pu h;obtain⟨l,rfl,hz,q⟩:=h;obtain⟨t,rfl⟩:=rx;refine⟨"str",_,slot_str_getitem.lookup,typeIs_str s _ t,?_⟩
 obtain⟨l',hl',el⟩:∃l':Option (Int×Tok),vl=partValue l'/\l'.map (·.1)=lo:=by
  cases pl with
  | none=>exact⟨none,rfl,rfl⟩
  | int i t=>exact⟨some (i,t),rfl,rfl⟩
 obtain⟨u',hu',eu⟩:∃l':Option (Int×Tok),vu=partValue l'/\l'.map (·.1)=hi:=by
  cases pu with
  | none=>exact⟨none,rfl,rfl⟩
  | int i t=>exact⟨some (i,t),rfl,rfl⟩
 subst hl' hu';refine wpAny_getItem_str_slice (l:=l') (u:=u') (st:=none) hs rfl ?_;have hm:∀t' k,EP X pins σ Q (.str (Txt.slice (S l) lo hi) t') { s with toks:=k }:=λt' k=>⟨.str (S (eM l lo hi)),H,I.tok _,⟨t',by rw [B3]⟩,q⟩
 have hlen:(Txt.slice (S l) lo hi).length<=sizeLine:=F_ (Txt.slice_le _ _ _) (by rw [hC];exact hz);subst el eu;exact post_val_or_str ⟨hlen,hm⟩
noncomputable def t9(l:List α)(n:Int):List α:=(v_ n.toNat l).flatten
def wL(k:Nat)(l acc:List Nat):(v_ k l.toArray).foldl (·++·) acc.toArray=(acc++(v_ k l).flatten).toArray:=by
 induction k generalizing acc with
 | zero=>simp
 | succ k ih =>
  rw [replicate_succ,foldl_cons,append_toArray,ih (acc++l),replicate_succ,flatten_cons,KU]
def G5(l:List Nat)(n:Int):Txt.mul (S l) n=S (t9 l n):=by
 unfold Txt.mul t9
 by_cases h:n<1
 .rw [if_pos h];have:n.toNat=0:=by omega
  rw [this];rfl
 .rw [if_neg h]
  split
  .rename_i h2;rw [hC] at h2;simp only [or_eq_true,beq_iff_eq] at h2
   rcases h2 with h2|h2
   .subst h2;simp [S]
   .have:l=[]:=JQ.mp h2;subst this;simp [S]
  .have e:=wL n.toNat l [];show (⟨_⟩:Str)=_
   have e':(v_ n.toNat (S l).cps).foldl (·++·) #[]=((v_ n.toNat l).flatten).toArray:=by
    simpa [S] using e
   rw [e'];rfl
def rT(l:List α)(n:Int):(t9 l n).length=n.toNat*l.length:=by
 unfold t9;rw [length_flatten,map_replicate,sum_replicate_nat]
def u4:OpR X (binaryOp .Mult) (λx y H Q=>∃l n,x=.str (S l)/\y=.int n/\-1000000<=n/\n<=1000000/\n.toNat*l.length<=sizeLine/\Q (.str (S (t9 l n))) H):=by
 intro pins s σ H x y v u Q I rx ry h;obtain⟨l,n,rfl,rfl,h1,h2,hz,q⟩:=h;obtain⟨t,rfl⟩:=rx;obtain⟨t',rfl⟩:=ry;have hs:sizeLine=16777216:=LP;have hz':n.toNat*l.length<=16777216:=by rw [<- hs];exact hz
 refine SB.mul ⟨?_,λhn hc=>?_,λhn hc=>?_⟩ λt' k=>⟨.str (S (t9 l n)),H,I.tok _,⟨t',by rw [G5]⟩,q⟩
 .rw [decide_eq_false (by omega),decide_eq_false (by omega)];rfl
 .rw [hC];intro hgt
  have hl:l.length<=16777216:=by
   have:1*l.length<=n.toNat*l.length:=LJ _ (by omega);omega
  have hdiv:(2^63 - 1:Int) / 1000000<=(2^63 - 1) / n:=by
   apply le_ediv_of_mul_le (by omega);have:=mul_le_mul_of_nonneg_left h2 (show (0:Int)<=(2^63 - 1) / 1000000 by decide);have e2:((2^63 - 1:Int) / 1000000)*1000000<=2^63 - 1:=by decide
   omega
  have e3:(2^63 - 1:Int) / 1000000=9223372036854:=by decide
  omega
 .rw [hC];have:l.length*n.toNat<=16777216:=by rw [Nat.mul_comm];exact hz'
  exact decide_eq_false (by omega)
def wM:OpR X (compareOp .LtE) (λx y H Q=>∃i j,x=.str i/\y=.str j/\Q (.bl (!decide (j.cps.toList<i.cps.toList))) H):=by
 intro pins s σ H x y v u Q I rx ry h;obtain⟨i,j,rfl,rfl,q⟩:=h;obtain⟨t,rfl⟩:=rx;obtain⟨t',rfl⟩:=ry;exact PySem.P.le_str ⟨.bl _,H,I,rfl,q⟩
noncomputable def Its(xs:List V):It:=⟨λi _=>i<xs.length,λi H x H'=>H'=H/\xs[i]?=some x,λi _=>xs.length=i⟩
variable {M:Model}{A:y_}{E:Value->cy->Prop}{s:cy}{tg:Expr}{it:Addr}{u:Value}
def wN{Q:Unit->cy->Prop}(hu:∀a,u≠.ref a)(hQ:Q () s):wpAny M A (letOwnedTupleGo tg (.ref it) u) Q E s:=by
 unfold letOwnedTupleGo
 cases tg <;> first
  | exact h_ hQ
  | (cases u <;> first
    | exact h_ hQ
    | exact absurd rfl (hu _))
variable {xs:List V}
def i5{P:s_}{Pt:Nat->Value->Prop}{St:Nat->Heap->Prop}(W:∀A:y_,A.handled=none->Walks P w A it [it] [it] n Pt St)(hn:xs.length=n)(hv:∀i v,i<n->Pt i v->∃x,xs[i]?=some x/\bW x v)(hsc:∀i v,Pt i v->∀a,v≠.ref a)(hobj:∀i h,St i h->∃o,h.get? it=some o/\∀v,o.data≠.cell v)(hfr:∀i h h',St i h->(∀b∈[it],∀o,h.get? b=some o->h'.get? b=some o)->St i h')(hself:∀(A:y_) (i:Nat) (s:cy) (Q:Value->cy->Prop) (E:Value->cy->Prop),St i s.heap->Q (.ref it) s->wpAny (model P w) A (pyIter (.ref it)) Q E s):
  BJ P w K tg (Its xs) [it] it St where
 mem:=by simp
 obj:=λi h st b hb=>by
  have e:b=it:=by simpa using hb
  subst e;exact hobj i h st
 keep:=λi h h' st k=>hfr i h h' st k
 item:=by
  intro X hP hw hK hc i pins s σ H E I hf st hg;subst hP hw hK;obtain⟨f0,f1,f2,f3,f4,f5⟩:=hf it (by simp);refine (W X.A (I.ok.hd hc)).item i s _ _ (by rw [<- hn];exact hg) st λv h' tk hp st' kk=>?_;obtain⟨x,hx,rx⟩:=hv i v (by rw [<- hn];exact hg) hp;have I1:Inv X pins σ H { s with heap:=h',toks:=tk }:=I.turned (λb o hb e=>kk b o (by simpa using hb) e) f0 f1 f3 f4 f5;exact⟨v,rfl,wN (s:={ s with heap:=h',toks:=tk }) (hsc i v hp) ⟨x,H,I1,rx,⟨rfl,hx⟩,st',λb hb=>(hf b hb).1⟩⟩
 done:=by
  intro X hP hw hK hc i pins s σ H E I hf st hg;subst hP hw hK;obtain⟨f0,f1,f2,f3,f4,f5⟩:=hf it (by simp);have e:n=i:=hn.symm.trans hg;subst e;exact (W X.A (I.ok.hd hc)).done s _ _ st λh' tk kk=>⟨rfl,I.turned (λb o hb e=>kk b o (by simpa using hb) e) f0 f1 f3 f4 f5⟩
 self:=hself
noncomputable def gx(l:List Nat):List V:=l.map λc=>V.str (S [c])
variable {l:List Nat}{i:Nat}
def u5{x:V}(h:(gx l)[i]?=some x):∃c,l[i]?=some c/\x=.str (S [c]):=by
 unfold gx at h;rw [gV] at h
 cases e:l[i]? with
 | none=>rw [e] at h;cases h
 | some c=>rw [e] at h;exact⟨c,rfl,(vx h).symm⟩
def jG(l:List Nat):(gx l).length=l.length:=length_map _
noncomputable def kF(i:Int)(n:Nat):List V:=(c_ n).map λ(k:Nat)=>V.int (i - k)
def i6(i:Int)(n:Nat):(kF i n).length=n:=by simp [kF]
def wO{i:Int}{k:Nat}{x:V}(h:(kF i n)[k]?=some x):k<n/\x=.int (i - k):=by
 unfold kF at h;rw [gV] at h
 by_cases hk:k<n
 .rw [Jv hk] at h;exact⟨hk,(vx h).symm⟩
 .rw [x_ (by simp;omega)] at h;cases h
noncomputable def Eg(ta:TA):TI:=λσ H R=>ta σ H λvs H1=>∃i j:Int,vs=[.int i,.int j,.int (-1)]/\(-(2^60)<=i/\i<2^60/\-(2^60)<=j/\j<2^60)/\R (Its (kF i (i - j).toNat)) H1
def hZ(i j:Int):q_ i j (-1)=(((i - j).toNat:Nat):Int):=by
 unfold q_;rw [if_neg (by decide)];simp only [neg_neg,ediv_one];split <;> omega
variable {ta:TA}
def wP{a b c:Expr}{p:Pos}(hg:Gl X "range")(hm:X.mg "range"=none)(ha:PA X [a,b,c] ta)(hs:starEach [a,b,c] X.env=[(false,eval a X.env),(false,eval b X.env),(false,eval c X.env)]:=by rfl)(hs2:starEach [b,c] X.env=[(false,eval b X.env),(false,eval c X.env)]:=by rfl):
  PI X tg (.Call (.Name "range" p) [a,b,c] [] pos) (Eg ta):=by
 intro pins s σ H R I h;refine Call_ (gu I hg hm boot_range (D_ (thn (ha pos pins s σ H _ I h) λus s1 ⟨vs,H1,I1,r1,q1⟩=>?_) (by rw [hs,hs2]) (by rw [hs2];rfl)));obtain⟨i,j,e,⟨q1,q2,q3,q4⟩,q⟩:=q1;subst e
 cases r1 with
 | cons r rr =>
  cases rr with
  | cons r' rr =>
   cases rr with
   | cons r'' rr =>
    cases rr;obtain⟨t,rfl⟩:=r;obtain⟨t',rfl⟩:=r';obtain⟨t'',rfl⟩:=r'';refine call_range_3 (by decide) ?_ (.inl (MD (by decide)))
    refine wpAny_pyIter_range (MZ ..) ?_ ?_
    .unfold KZ;rw [hZ];simp only [g_,and_eq_true,or_eq_true,decide_eq_true_eq,beq_iff_eq,show ¬ (-1:Int) > 0 by decide,if_false];omega
    have I2:Inv X pins σ H1 { s1 with heap:=s1.heap.push { cls:=.type "range",data:=.fields #[.int i t,.int j t',.int (-1) t''] },toks:=s1.toks }:=I1.kept λb o e=>d_ _ e
    refine⟨_,[(s1.heap.push { cls:=.type "range",data:=.fields #[.int i t,.int j t',.int (-1) t''] }).objs.size],_,Its (kF i (i - j).toNat),H1,rfl,I2.kept (t':=s1.toks) λb o e=>d_ _ e,
     i5 (λA hA=>Walks.range hA _ i (-1) (i - j).toNat) (i6 _ _) ?_ ?_ ?_ ?_ (λA i s Q E st q=>Kw st q),?_,λb hb=>?_,q⟩
    .rintro k v hk ⟨t,rfl⟩
     refine⟨.int (i - k),?_,t,?_⟩
     .unfold kF;rw [gV,Jv hk];rfl
     .have e:i+(k:Int)*(-1)=i - k:=by omega
      rw [e]
    .rintro k v ⟨t,rfl⟩ a z;cases z
    .exact λk h st=>⟨_,st,λv z=>by
      have z':Data.fields _=Data.cell v:=z;cases z'⟩
    .exact λk h h' st kk=>kk _ (by simp) _ st
    .show MY _ _ (i+((0:Nat):Int)*(-1)) ((((i - j).toNat:Nat):Int) - ((0:Nat):Int)) (-1);rw [<- hZ];simp only [natCast_zero,Int.zero_mul,add_zero,Ng];exact kx _ rfl
    .have e:b=(s1.heap.push { cls:=.type "range",data:=.fields #[.int i t,.int j t',.int (-1) t''] }).objs.size:=by simpa using hb
     subst e;exact I2.fpOk (f_ _) (I2.hok.fresh (f_ _))
def rV:bz X (.builtin "isinstance") (λxs H Q=>∃x n t b,xs=[x,.ty n]/\pW X.K H x t/\Kh X.K t (.type n)=some b/\Q (.bl b) H):=by
 intro pins s σ H xs us Q I r h;obtain⟨x,n,t,b,rfl,ty,e,q⟩:=h;obtain⟨u,w',rfl,rx,ry⟩:=yW r;cases (show w'=J5 n from ry);exact wv I rx ty e λtk=>⟨.bl b,H,I.tok _,rfl,q⟩
mutual
inductive DV (K:b_) (H:Hp):V->Ld->Prop
 | non:DV K H .non .none
 | bl (b:Bool):DV K H (.bl b) (.bool b)
 | int (i:Int):DV K H (.int i) (.int i)
 | str (x:Str):DV K H (.str x) (.str x)
 | lst {a:Addr}{xs:List V}{ds:List Ld}:SqL K H a xs->DVs K H xs ds->DV K H (.ref a) (.list ds)
 | tup {a:Addr}{xs:List V}{ds:List Ld}:SqT K H a xs->DVs K H xs ds->DV K H (.ref a) (.tuple ds)
inductive DVs (K:b_) (H:Hp):List V->List Ld->Prop
 | nil:DVs K H [] []
 | cons {x:V}{d:Ld}{xs:List V}{ds:List Ld}:DV K H x d->DVs K H xs ds->DVs K H (x::xs) (d::ds)
end
mutual
theorem DV.reads{pins:List (Addr×Obj)}{σ:St}{H:Hp}{s:cy}(I:Inv X pins σ H s):∀{x:V}{d:Ld}{u:Value},DV X.K H x d->bW x u->∃as,Reads s.heap u d as
 | _,_,u,.non,r=>by cases (show u=JX from r);exact⟨_,.none⟩
 | _,_,u,.bl b,r=>by cases (show u=J4 b from r);exact⟨_,.bool b⟩
 | _,_,u,.int i,r=>by obtain⟨t,e⟩:=(show ∃t,u=Lg i t from r);subst e;exact⟨_,.int i t⟩
 | _,_,u,.str x,r=>by obtain⟨t,e⟩:=(show ∃t,u=LF x t from r);subst e;exact⟨_,.str x t⟩
 | _,_,u,.lst (a:=a) hq hs,r=>by
  cases (show u=so a from r);obtain⟨its,rv,pl,_⟩:=I.list hq;obtain⟨o,ho,hc,n,hd⟩:=pl.isList;obtain⟨as,ra⟩:=DVs.reads I hs rv;exact⟨_,.list ho hc hd ra⟩
 | _,_,u,.tup (a:=a) hq hs,r=>by
  cases (show u=so a from r);obtain⟨its,rv,pl,_⟩:=I.tuple hq;obtain⟨o,ho,hc,n,hd⟩:=pl;obtain⟨as,ra⟩:=DVs.reads I hs rv;exact⟨_,.tuple ho hc hd ra⟩
theorem DVs.reads{pins:List (Addr×Obj)}{σ:St}{H:Hp}{s:cy}(I:Inv X pins σ H s):∀{xs:List V}{ds:List Ld}{us:List Value},DVs X.K H xs ds->bD xs us->∃as,ReadsAll s.heap us ds as
 | _,_,_,.nil,.nil=>⟨_,.nil⟩
 | _,_,_,.cons h hs,.cons r rs=>by
  obtain⟨as,ra⟩:=DV.reads I h r;obtain⟨bs,rb⟩:=DVs.reads I hs rs;exact⟨_,.cons ra rb⟩
end
noncomputable def G6(K:b_)(neg:Bool):R2:=λx y H Q=>∃da db,DV K H x da/\DV K H y db/\JU da=true/\JU db=true/\Q (.bl (if neg then !Mf da db else Mf da db)) H
def Eh(hu:X.A.units+64<cLine):OpR X (compareOp .Eq) (G6 X.K false):=by
 intro pins s σ H x y v u Q I rx ry h;obtain⟨da,db,ha,hb,sa,sb,q⟩:=h;obtain⟨as,ra⟩:=DV.reads I ha rx;obtain⟨bs,rb⟩:=DV.reads I hb ry;exact eq_dataH ra rb sa sb hu ⟨.bl _,H,I,rfl,q⟩
def Ei(hu:X.A.units+64<cLine):OpR X (compareOp .NotEq) (G6 X.K true):=by
 intro pins s σ H x y v u Q I rx ry h;obtain⟨da,db,ha,hb,sa,sb,q⟩:=h;obtain⟨as,ra⟩:=DV.reads I ha rx;obtain⟨bs,rb⟩:=DV.reads I hb ry;exact ne_dataH ra rb sa sb hu ⟨.bl _,H,I,rfl,q⟩
variable {H:Hp}
theorem DVs.ints:∀ns:List Int,DVs K H (ns.map V.int) (ns.map PyData.int)
 | []=>.nil
 | n::ns=>.cons (.int n) (DVs.ints ns)
def rW:MtR X "str.endswith" (λx xs H Q=>∃a b,x=.str (S a)/\xs=[.str (S b)]/\Q (.bl (decide (b <:+ a))) H):=by
 intro pins s σ H x xs v us Q I rx rs h;obtain⟨a,b,rfl,rfl,q⟩:=h;obtain⟨t,rfl⟩:=rx;obtain⟨u,rfl,t',rfl⟩:=fg rs
 have e:Txt.endswith (S a) (S b)=decide (b <:+ a):=by
  unfold Txt.endswith Lx;rw [hC,hC]
  have e1:((S a).cps.extract (a.length - b.length) (a.length - b.length+b.length))=((a.drop (a.length - b.length)).take b.length).toArray:=by
   show a.toArray.extract _ _=_;rw [extract_toArray,KI];have e2:a.length - b.length+b.length - (a.length - b.length)=b.length:=by omega
   rw [e2]
  rw [e1]
  by_cases h:b <:+ a
  .rw [decide_eq_true h];have hl:=h.length_le;have hd:a.drop (a.length - b.length)=b:=(Mg.mp h).symm;rw [hd];simp [S,hl]
  .rw [decide_eq_false h]
   by_cases hl:b.length<=a.length
   .have hne:¬ (a.drop (a.length - b.length)).take b.length=b:=λz=>h (by
     rw [J3 (by rw [length_drop];omega)] at z;exact Mg.mpr z.symm)
    simp only [and_eq_false_imp];intro _;show (((a.drop (a.length - b.length)).take b.length).toArray == b.toArray)=false;rw [beq_eq_false_iff_ne];intro z;exact hne (by simpa using congrArg MC z)
   .rw [decide_eq_false (by omega)];rfl
 exact SC.endswith ⟨.bl _,H,I,rfl,by rw [e];exact q⟩
variable {j:Nat}
def eN(h:x=S l):PE X (.Constant (.str x) j pos) (tC (.str (S l))):=by
 subst h;exact DK
def wQ:bz X (.builtin "len") (λxs H Q=>∃l,xs=[.str (S l)]/\l.length<=sizeLine/\Q (.int l.length) H):=by
 intro pins s σ H xs us Q I r h;obtain⟨l,rfl,hz,q⟩:=h;exact qe pins s σ H _ us Q I r ⟨S l,rfl,by rw [hC];exact hz,by rw [hC];exact q⟩
noncomputable def Ej:R2:=λx y H Q=>∃l i c,x=.str (S l)/\y=.int i/\l.length<=sizeLine/\atI l i=some c/\Q (.str (S [c])) H
def B4:IxR X Ej:=by
 intro value slice pins s σ H x y v u Q I rx ry q hs;obtain⟨l,i,c,rfl,rfl,hz,ha,q⟩:=q;exact D6 value slice pins s σ H _ _ v u Q I rx ry ⟨S l,i,c,rfl,rfl,by rw [hC];exact hz,ha,q⟩ hs
def B5:OpR X (binaryOp .Add) (λx y H Q=>∃i j,x=.str (S i)/\y=.str (S j)/\i.length+j.length<=sizeLine/\Q (.str (S (i++j))) H):=by
 intro pins s σ H x y v u Q I rx ry h;obtain⟨i,j,rfl,rfl,hz,q⟩:=h;exact uR pins s σ H _ _ v u Q I rx ry ⟨S i,S j,rfl,rfl,by rw [hC,hC];exact hz,by rw [G4];exact q⟩
def Ek:OpR X (compareOp .Eq) (λx y H Q=>∃i j,x=.str (S i)/\y=.str (S j)/\Q (.bl (decide (i=j))) H):=by
 intro pins s σ H x y v u Q I rx ry h;obtain⟨i,j,rfl,rfl,q⟩:=h;exact GW pins s σ H _ _ v u Q I rx ry ⟨rfl,by rw [Ed];exact q⟩
def El:OpR X (compareOp .NotEq) (λx y H Q=>∃i j,x=.str (S i)/\y=.str (S j)/\Q (.bl (!decide (i=j))) H):=by
 intro pins s σ H x y v u Q I rx ry h;obtain⟨i,j,rfl,rfl,q⟩:=h;exact GX pins s σ H _ _ v u Q I rx ry ⟨rfl,by rw [Ed];exact q⟩
def Em:OpR X (compareOp .Eq) (rI0 λi j=>.bl (decide (i=j))):=Dp λ_ _ _ _ _ _ _ q=>eq_int (by rw [beq_eq_decide_eq];exact q)
def En:OpR X (compareOp .NotEq) (rI0 λi j=>.bl (!decide (i=j))):=Dp λ_ _ _ _ _ _ _ q=>ne_int (by rw [bne,beq_eq_decide_eq];exact q)
def wR:bz X (.builtin "len") (λxs H Q=>∃p ys,xs=[.ref p]/\SqL X.K H p ys/\Q (.int ys.length) H):=by
 intro pins s σ H xs us Q I r h;obtain⟨p,ys,e,hq,q⟩:=h;exact ke pins s σ H xs us Q I r ⟨p,ys,e,.inl hq,q⟩
def wS:bz X (.builtin "len") (λxs H Q=>∃p ys,xs=[.ref p]/\SqT X.K H p ys/\Q (.int ys.length) H):=by
 intro pins s σ H xs us Q I r h;obtain⟨p,ys,e,hq,q⟩:=h;exact ke pins s σ H xs us Q I r ⟨p,ys,e,.inr hq,q⟩
structure Cal (P:s_) (w:World) (K:b_) (mg:Str->Option Value) (base:Heap) (k:Nat) (x:Str) (ps:List Str) (sp:Sp):Prop where
 ex:∃(f:Addr) (fd:JS),oF P w K mg base CX0 k f fd ps sp/\kE K fd ps []/\C_ K (.ref f)=true/\mg x=some (.ref f)/\∃oc od osl,K.lookup f=some ⟨oc,od,.func fd,osl⟩
structure a5 (K:b_) (mg:Str->Option Value) (x:Str) (st:Stmt):Prop where
 ex:∃(f:Addr) (fd:JS),Fun K x x st f fd/\mg x=some (.ref f)
section
variable {P:s_}{base:Heap}{st:Stmt}{N ps:List Str}{k:Nat}{sp:Sp}
def a5.ok(D:a5 K mg x st)(S:az N ps (ai st))(hb:∀(kV doc pm:Value) (an:Option Addr) (cdv ct:Value) (us:List Value),us.length=ps.length->bindArgs (Eo x x (bL st) (aR st) (ai st) .none kV doc pm an cdv ct) ⟨us,[]⟩=pure (ps.zip us))(len:∀vs H Q E,sp vs H Q E->vs.length=ps.length)(hbody:∀(f:Addr) (cdv:Value) (A:y_) (outer:List Env) (s:cy) (H:Hp) (vs:List V) (Q:VK) (E:XK),d8 k (A.deeper (envOfC x (ai st) s.heap.objs.size f cdv))->sp vs H Q E ->
   ∃t,PSs (pX CX0 P w K mg base N x (ai st) f cdv A outer s H E).nox (aR st) t/\t { nx:=λ_ H'=>Q .non H',rt:=Q } (start N vs) H):Cal P w K mg base (k+1) x ps sp:=by
 obtain⟨f,fd,F,hm⟩:=D.ex
 have lk:∃oc od osl,K.lookup f=some ⟨oc,od,.func fd,osl⟩:=by
  obtain⟨oc,od,kV,doc,pm,an,cdv,ct,osl,rfl,lk,hcd⟩:=F.ex;exact⟨oc,od,osl,lk⟩
 exact⟨f,fd,F.ok S len λcdv A outer s H vs Q E hr h=>hbody f cdv A outer s H vs Q E hr h,F.binds hb,F.kp,hm,lk⟩
variable {h:Heap}{oc:Value}{od an:Option Addr}{pm ct:Value}
def a5.mk'{f:Addr}{osl:Array (Option Value)}{kV doc cdv:Value}(X:K.In h)(G:h.Ns mainGlobals mg)(a:w_ K mainGlobals x=some (some (.ref f)))(l:K.lookup f=some ⟨oc,od,.func (Eo x x (bL st) (aR st) (ai st) .none kV doc pm an cdv ct),osl⟩)(c:JJ K cdv x=true)(k:C_ K (.ref f)=true):a5 K mg x st:=⟨f,_,wH (st:=st) l c k,KA X G a⟩
end
section
variable {k:Nat}{ps:List Str}{sp:Sp}{p:Pos}{e:Expr}{es:List Expr}{t:TA}
def Ep(C:Cal X.prog X.w X.K X.mg X.base k x ps sp)(hr:d8 k X.A)(ha:PA X (e::es) t)(hg:Gl X x:=by rfl)(hdb:(x == ("__debug__":Str))=false:=by decide)(he:starEach (e::es) X.env=(false,eval e X.env)::starEach es X.env:=by rfl)(hpl:(backTo pos (starEach es X.env)).any (·.1)=false:=by rfl):PE X (.Call (.Name x p) (e::es) [] pos) (dJ sp [] E0 t):=by
 obtain⟨f,fd,F,hb,hk,hm,_⟩:=C.ex;exact wx F hr hg hm hk hb .nil zf ha hdb he hpl
end
noncomputable def u6(K:b_):Sp:=λvs H Q _=>∃(a:Addr) (ns:List Int),vs=[.ref a]/\SqL K H a (ns.map V.int)/\ns.length<=63/\∀H',Q (.bl true) H'
variable {st:Stmt}
def Er{P:s_}{fa:Addr}{k:Nat}(hfa:mg "law"=some (.ref fa))(D:a5 K mg "law" st)(hbind:∀(kV doc pm:Value) (an:Option Addr) (cdv ct:Value) (s:cy) (v:Value),MF s (Eo "law" "law" (bL st) (aR st) (ai st) .none kV doc pm an cdv ct) ⟨[v],[]⟩ [(x,v)])(h:∀base:Heap,Cal P w K mg base k "law" [x] (u6 K)):
  ∃fd:JS,(∀(s:cy) (v:Value),MF s fd ⟨[v],[]⟩ [(x,v)])/\∀base:Heap,K.In base->base.Ns mainGlobals mg->oF P w K mg base CX0 k fa fd [x] (u6 K):=by
 obtain⟨f,fd,F,hm⟩:=D.ex;have e:=hfa.symm.trans hm;cases e;obtain⟨oc,od,kV,doc,pm,an,cdv,ct,osl,rfl,lk,hcd⟩:=F.ex;refine⟨_,λs v=>hbind kV doc pm an cdv ct s v,λbase kb nb=>?_⟩;obtain⟨f',fd',F',_,_,hm',oc',od',osl',lk'⟩:=(h base).ex;have e:=hfa.symm.trans hm';cases e;rw [lk] at lk';cases lk';exact F'
def Es{l:MR}{q:s_}{loose:List Str}{XP:(Str->Option Value)->Heap->Prop}{YP:World->Heap->Prop}{d:DefRec}{K:Params->b_}{k:Nat}(hn:l.most=some 63)(hdf:d.params.defaults=[])(hr:d8 k callerA)(hY:∀(w:World) (h:Heap),YP w h->(K w.params).In h)(F:∀(w:World) (mg:Str->Option Value) (fa:Addr) (h:Heap),(K w.params).In h->h.Ns mainGlobals mg->mg d.name=some (.ref fa) ->
   ∃fd:JS,(∀(s:cy) (u:Value),MF s fd ⟨[u],[]⟩ [(x,u)])/\∀base:Heap,(K w.params).In base->base.Ns mainGlobals mg->oF l.prog w (K w.params) mg base CX0 k fa fd [x] (u6 (K w.params))):
  PySem.W.WalkO q loose XP YP l.row.toRowW d [] (λf vs=>PySem.call f vs) :=
 B2 (n:=63) (k:=k) (x:=x) (CX:=λ_=>CX0) (sp:=λw=>u6 (K w.params)) hn (by decide) hdf hr hY F (λ_ _ a ns hl _ hS=>⟨a,ns,rfl,hS,hl,λ_=>rfl⟩) λ_ _ _ _ _ z=>z
variable {β:Type}
def B6{f:α->β}{xs:List α}{i:Int}{v:α}(h:atI xs i=some v):atI (xs.map f) i=some (f v):=by
 unfold atI at h ⊢;rw [length_map]
 cases e:ixN xs.length i with
 | none=>rw [e] at h;cases h
 | some j =>
  rw [e] at h;show (xs.map f)[j]?=some (f v);have h':xs[j]?=some v:=h;rw [gV,h'];rfl
def dL{xs:List α}{i:Int}{v:α}(h:xs[j]?=some v)(e:i=(j:Int)):atI xs i=some v:=by subst e;exact BW h
def sz(n:Nat)(h:n<=1000000):n<=sizeLine:=by rw [LP];omega
def zg{x:V}(h:(ns.map V.int)[i]?=some x):∃z,ns[i]?=some z/\x=.int z:=by
 rw [gV] at h
 cases e:ns[i]? with
 | none=>rw [e] at h;cases h
 | some z=>rw [e] at h;exact⟨z,rfl,(vx h).symm⟩
variable {t:TS}
noncomputable def Et(t:TS):TS:=λD σ H=>∃J:St->Hp->Prop,t { D with nx:=J } σ H/\∀σ' H',J σ' H'->D.nx σ' H'
def lp(h:PS X st t):PS X st (Et t):=by
 intro pins s σ H D I q;obtain⟨J,q1,q2⟩:=q;refine thn (h pins s σ H _ I q1) λf s' r=>?_
 cases f with
 | next=>obtain⟨σ',H',I',r'⟩:=r;exact⟨σ',H',I',q2 σ' H' r'⟩
 | brk=>exact r
 | cont=>exact r
 | ret u=>exact r
def zh(f:α->β)(xs:List α)(lo hi:Option Int):eM (xs.map f) lo hi=(eM xs lo hi).map f:=by
 unfold eM;rw [length_map,map_take,map_drop]
theorem dM{c:Addr}:∀(names:List (Str×JT)) (n:Nat) (acc:List (Str×Addr)),(cellsFrom n names acc).lookup x=some c->(n<=c/\(x,KB)∈names)\/acc.lookup x=some c
 | [],n,acc,h=>.inr h
 | (y,k)::r,n,acc,h=>by
  unfold cellsFrom at h
  split at h
  .rename_i hk;have hk':k=.cell:=by simpa using hk
   subst hk'
   rcases dM r (n+1) ((y,n)::acc) h with ⟨h1,h2⟩|h1
   .exact .inl ⟨by omega,n_ _ h2⟩
   .rw [JV] at h1
    cases e:x == y with
    | true =>
     rw [e] at h1;have:n=c:=vx h1;have ex:x=y:=by simpa using e
     subst ex;exact .inl ⟨by omega,mem_cons_self⟩
    | false=>rw [e] at h1;exact .inr h1
  .rcases dM r n acc h with ⟨h1,h2⟩|h1
   .exact .inl ⟨h1,n_ _ h2⟩
   .exact .inr h1
theorem fH:∀(names:List (Str×JT)) (n:Nat) (acc:List (Str×Addr)),(x,KB)∉names->(cellsFrom n names acc).lookup x=acc.lookup x
 | [],_,_,_=>rfl
 | (y,k)::r,n,acc,h=>by
  unfold cellsFrom
  split
  .rename_i hk;have hk':k=.cell:=by simpa using hk
   subst hk';rw [fH r (n+1) _ (λz=>h (n_ _ z)),JV]
   have:(x == y)=false:=by
    rw [beq_eq_false_iff_ne];intro e;subst e;exact h mem_cons_self
   rw [this]
  .exact fH r n acc (λz=>h (n_ _ z))
theorem fJ{y:Str}{c:Addr}:∀(names:List (Str×JT)) (n:Nat) (acc:List (Str×Addr)),(∀z d,acc.lookup z=some d->d<n) ->
  (cellsFrom n names acc).lookup x=some c->(cellsFrom n names acc).lookup y=some c->n<=c->x=y
 | [],n,acc,ha,h1,h2,hc=>absurd (ha x c h1) (not_lt.mpr hc)
 | (z,k)::r,n,acc,ha,h1,h2,hc=>by
  unfold cellsFrom at h1 h2
  split at h1
  .rename_i hk;rw [if_pos hk] at h2
   have ha':∀w d,((z,n)::acc).lookup w=some d->d<n+1:=λw d e=>by
    rw [JV] at e
    cases q:w == z with
    | true=>rw [q] at e;cases e;exact JH _
    | false=>rw [q] at e;exact K4 (ha w d e)
   by_cases hcn:n+1<=c
   .exact fJ r (n+1) _ ha' h1 h2 hcn
   .have e:c=n:=Nat.le_antisymm (not_lt.mp hcn) hc;subst e
    have key:∀w:Str,(cellsFrom (c+1) r ((z,c)::acc)).lookup w=some c->w=z:=λw hw=>by
     rcases dM r (c+1) _ hw with ⟨q,_⟩|q
     .exact absurd q (not_succ_le_self _)
     .rw [JV] at q
      cases q2:w == z with
      | true=>simpa using q2
      | false=>rw [q2] at q;exact absurd (ha w c q) (E_ _)
    rw [key x h1,key y h2]
  .rename_i hk;rw [if_neg hk] at h2;exact fJ r n acc ha h1 h2 hc
noncomputable def iB(env:Env):List (Str×JT)->List (Str×Addr)->List (Str×Addr)
 | [],acc=>acc
 | (n,k)::r,acc=>if (k == .free)=true then iB env r ((n,(env.cells.lookup n).getD 0)::acc) else iB env r acc
variable {env:Env}
theorem fK{c:Addr}:∀(names:List (Str×JT)) (acc:List (Str×Addr)),(iB env names acc).lookup x=some c->((x,K5)∈names/\c=(env.cells.lookup x).getD 0)\/acc.lookup x=some c
 | [],acc,h=>.inr h
 | (y,k)::r,acc,h=>by
  unfold iB at h
  split at h
  .rename_i hk;have hk':k=.free:=by simpa using hk
   subst hk'
   rcases fK r _ h with ⟨h1,h2⟩|h1
   .exact .inl ⟨n_ _ h1,h2⟩
   .rw [JV] at h1
    cases e:x == y with
    | true =>
     rw [e] at h1;have ex:x=y:=by simpa using e
     subst ex;exact .inl ⟨mem_cons_self,(vx h1).symm⟩
    | false=>rw [e] at h1;exact .inr h1
  .rcases fK r acc h with ⟨h1,h2⟩|h1
   .exact .inl ⟨n_ _ h1,h2⟩
   .exact .inr h1
theorem i7:∀(names:List (Str×JT)) (acc:List (Str×Addr)),((x,K5)∈names\/(acc.lookup x).isSome=true)->((iB env names acc).lookup x).isSome=true
 | [],acc,h=>h.elim (λz=>nomatch z) id
 | (y,k)::r,acc,h=>by
  unfold iB
  split
  .rename_i hk;refine i7 r _ ?_
   by_cases e:(x == y)=true
   .exact .inr (by rw [JV,e];rfl)
   .rcases h with h|h
    .rcases mem_cons.mp h with z|z
     .cases z;exact absurd (by simp) e
     .exact .inl z
    .exact .inr (by rw [JV];rw [not_eq_true] at e;rw [e];exact h)
  .rename_i hk;refine i7 r acc ?_
   rcases h with h|h
   .rcases mem_cons.mp h with z|z
    .cases z;exact absurd rfl hk
    .exact .inl z
   .exact .inr h
variable {scope:Scope}
def f9(h:∀x∈scope.names,x.2=.free->∃c,env.cells.lookup x.1=some c):closureFor scope env=pure (iB env scope.names []):=by
 unfold closureFor
 have key:∀(names:List (Str×JT)) (acc:List (Str×Addr)),(∀x∈names,x.2=.free->∃c,env.cells.lookup x.1=some c) ->
   (forIn names acc λ(x:Str×JT) (r:List (Str×Addr))=>(if (x.2 == K5)=true then do let y <- cellOf env x.1;pure (JP ((x.1,y)::r)) else pure (JP r):Sem _))=pure (iB env names acc):=by
  intro names
  induction names with
  | nil=>intro acc _;rfl
  | cons p r ih =>
   intro acc hp;obtain⟨n,k⟩:=p;rw [forIn_cons];have hr:∀x∈r,x.2=.free->∃c,env.cells.lookup x.1=some c:=λx hx=>hp x (n_ _ hx);unfold iB
   by_cases hk:(k == K5)=true
   .obtain⟨c,hc⟩:=hp (n,k) mem_cons_self (by simpa using hk);have hc':env.cells.lookup n=some c:=hc;have e1:cellOf env n=pure c:=by unfold cellOf;rw [hc']
    simp only [hk,if_true];rw [e1,hc'];simp only [pure_bind];exact ih _ hr
   .rw [if_neg hk,if_neg hk];simp only [pure_bind];exact ih _ hr
 have e:=key scope.names [] h;have e2:∀(m:Sem (List (Str×Addr))),(m >>= λr=>pure r)=m:=λm=>bind_pure m;rw [<- e]
 first
  | rfl
  | exact (e2 _)
noncomputable def oO(scope:Scope)(C:Addr)(env:Env):Env :=
 { scope:=relabel scope env,locals:=C,globals:=env.globals,cells:=cellsFrom (C+1) scope.names (iB env scope.names []),qual:=env.qual,func:=none,code:=env.code,frame:=env.frame,builtins:=env.builtins }
noncomputable def a6(X:Cx)(N':List Str)(scope:Scope)(s:cy)(H:Hp)(fp:List Addr)(pins:List (Addr×Obj)):Cx :=
 { X with N:=N',s₀:=s,H₀:=H,env:=oO scope s.heap.objs.size X.env,outer:=X.stack,stack:=X.stack,ex:=fp,fn:=λx=>decide ((x,KB)∈scope.names),pn:=X.pn++pins,xe:=λ_ _=>False }
noncomputable def lu(sc0:Scope)(N:List Str)(scope:Scope)(N':List Str)(ix:List (Option Nat)):Bool :=
 decide (scope.kind=.function) && scope.names.all (λy=>(!decide (y.2=.local) || decide (scope.names.lookup y.1=some .local)) &&
  (!decide (y.2=.free) || ((decide (sc0.names.lookup y.1=some .cell) || decide (sc0.names.lookup y.1=some .free)) && !decide ((y.1,KB)∈scope.names)))) &&
 decide (N'.length=ix.length) && (N'.zip ix).all (λp=>match p.2 with|none=>true|some j=>decide (N[j]?=some p.1) && decide (scope.names.lookup p.1=some .free))
structure ua (env:Env) (N:List Str) (scope:Scope) (N':List Str) (ix:List (Option Nat)):Prop where
 kind:scope.kind=.function
 loc:∀y∈scope.names,y.2=.local->scope.names.lookup y.1=some .local
 free:∀y∈scope.names,y.2=.free->(env.kindOf y.1=some .cell\/env.kindOf y.1=some .free)/\(y.1,KB)∉scope.names
 len:N'.length=ix.length
 slot:∀(i:Nat) (x:Str) (j:Nat),N'[i]?=some x->ix[i]?=some (some j)->N[j]?=some x/\scope.names.lookup x=some .free
variable {N:List Str}{ix:List (Option Nat)}
def lv{N':List Str}(h:lu env.scope N scope N' ix=true):ua env N scope N' ix:=by
 unfold lu at h;simp only [and_eq_true,decide_eq_true_eq,KJ] at h;obtain⟨⟨⟨h1,h2⟩,h3⟩,h4⟩:=h
 refine⟨h1,λy hy e=>?_,λy hy e=>?_,h3,λi x j e1 e2=>?_⟩
 .have:=(h2 y hy).1;rw [e] at this;simpa using this
 .have:=(h2 y hy).2;rw [e] at this;simpa [Env.kindOf] using this
 .have hm:(x,some j)∈N'.zip ix:=by
   refine B_ (i:=i) ?_;rw [getElem?_zip_eq_some];exact⟨e1,e2⟩
  have:=h4 _ hm;simpa using this
noncomputable def rlf(env:Env)(p:Str×JT):Str×JT:=match p with|(n,k)=>if (k == K5 && env.scope.kind == .function && env.kindOf n == some .cell) then (n,.cell) else (n,k)
def wT(env:Env)(n:Str)(k:JT):∃k',rlf env (n,k)=(n,k')/\(k'=k\/(k=.free/\k'=.cell)):=by
 unfold rlf
 by_cases c:(k == K5 && env.scope.kind == .function && env.kindOf n == some .cell)=true
 .refine⟨.cell,if_pos c,.inr ⟨?_,rfl⟩⟩;simp only [and_eq_true,beq_iff_eq] at c;exact c.1.1
 .exact⟨k,if_neg c,.inl rfl⟩
theorem ub{env:Env}:∀{names:List (Str×JT)}{x:Str},names.lookup x=some .free->(names.map (rlf env)).lookup x=some .cell\/(names.map (rlf env)).lookup x=some .free
 | [],_,h=>by simp at h
 | (n,k)::r,x,h=>by
  have ih:=@ub env r x;obtain⟨k',e,hk'⟩:=wT env n k;rw [map_cons,e]
  cases hx:x == n with
  | true =>
   simp only [JV,hx] at h ⊢;have hk:k=.free:=vx h
   rcases hk' with z|z
   .right;rw [z,hk]
   .left;rw [z.2]
  | false =>
   simp only [JV,hx] at h ⊢;exact ih h
theorem oQ{env:Env}:∀{names:List (Str×JT)}{x:Str}{k':JT},(names.map (rlf env)).lookup x=some k'->k'=.cell\/k'=.free->names.lookup x=some .cell\/names.lookup x=some .free
 | [],_,_,h,_=>by simp at h
 | (n,k)::r,x,k',h,hk'=>by
  have ih:=@oQ env r x k';obtain⟨k2,e,hk2⟩:=wT env n k;rw [map_cons,e] at h
  cases hx:x == n with
  | true =>
   simp only [JV,hx] at h ⊢;have:k2=k':=vx h;subst this
   rcases hk2 with z|z
   .rw [<- z]
    rcases hk' with q|q
    .left;rw [q]
    .right;rw [q]
   .right;rw [z.1]
  | false =>
   simp only [JV,hx] at h ⊢;exact ih h hk'
def qi{c:Addr}:∀(names:List (Str×JT)) (n:Nat) (acc:List (Str×Addr)),(cellsFrom n names acc).lookup x=some c->(x,c)∈cellsFrom n names []\/acc.lookup x=some c:=by
 have app:∀(names:List (Str×JT)) (n:Nat) (acc:List (Str×Addr)),cellsFrom n names acc=cellsFrom n names []++acc:=by
  intro names
  induction names with
  | nil=>intro n acc;rfl
  | cons p r ih =>
   intro n acc;obtain⟨y,k⟩:=p;unfold cellsFrom
   split
   .rw [ih (n+1) ((y,n)::acc),ih (n+1) [(y,n)],KU];rfl
   .exact ih n acc
 intro names n acc h;rw [app] at h;rw [lookup_append] at h
 cases e:(cellsFrom n names []).lookup x with
 | some d =>
  rw [e] at h;have:d=c:=by simpa using h
  subst this;exact .inl (mem_of_lookup e)
 | none=>rw [e] at h;exact .inr (by simpa using h)
noncomputable def qj(ix:List (Option Nat))(σ:St):St:=ix.map λo=>match o with
 | none=>none
 | some j=>match σ[j]? with
  | some v=>v
  | none=>none
variable {pins:List (Addr×Obj)}{σ:St}
def uc{N':List Str}{fp:List Addr}(ok:ua X.env X.N scope N' ix)(I:Inv X pins σ H s)(hf:∀b∈fp,rS X pins H b)(hfl:∀b∈fp,b<s.heap.objs.size):
  Inv (a6 X N' scope s H fp pins) [] (qj ix σ) H { s with heap:=pushCells (s.heap.push { cls:=.type "dict",data:=.dict #[] }) scope.names }:=by
 have hk4:∀b o,s.heap.get? b=some o->(pushCells (s.heap.push { cls:=.type "dict",data:=.dict #[] }) scope.names).get? b=some o:=λb o e=>LW _ _ b o (d_ _ e)
 have hclo:∀x c,(iB X.env scope.names []).lookup x=some c->X.env.cells.lookup x=some c:=λx c e=>by
  rcases fK scope.names [] e with ⟨h1,h2⟩|h1
  .obtain⟨d,hd⟩:=I.ok.has x (ok.free _ h1 rfl).1;rw [hd] at h2 ⊢;rw [h2];rfl
  .cases h1
 have hcl:∀x c,X.env.cells.lookup x=some c->c<s.heap.objs.size:=λx c e=>by
  obtain⟨v,q⟩:=I.cell x c e;exact q.lt
 have own:=cellsFrom_ok scope.names (s.heap.push { cls:=.type "dict",data:=.dict #[] }) (s.heap.objs.size+1) [] ⟨λ_ _ hm=>(nomatch hm),List.Pairwise.nil⟩ (by rw [JO];exact f_ _);rw [JO] at own
 have cases:∀x c,(cellsFrom (s.heap.objs.size+1) scope.names (iB X.env scope.names [])).lookup x=some c ->
   ((pushCells (s.heap.push { cls:=.type "dict",data:=.dict #[] }) scope.names).IsCell c none/\s.heap.objs.size+1<=c)\/X.env.cells.lookup x=some c:=λx c e=>by
  rcases qi _ _ _ e with h|h
  .exact .inl (own.empty x c h)
  .exact .inr (hclo x c h)
 have fs':∀b,b∈frs X.stack->b<s.heap.objs.size:=λb hb=>by
  rcases mem_cons.mp (I.stkSub b hb) with z|z
  .rw [z];exact I.lt
  .by_cases q:b<s.heap.objs.size
   .exact q
   .exact absurd z (I.nofs (not_lt.mp q))
 have cix:(a6 X N' scope s H fp pins).Ok:=by
  refine⟨I.ok.mod,ok.kind,I.ok.glob,I.ok.blt,f_ _,λx y c h1 h2=>?_,λx hx=>?_,λx c hx e=>?_,I.ok.hd,I.ok.frames,.inl rfl,λb hb=>⟨I_ (hfl b hb),λx c e=>?_⟩,λb o e=>I.bs b o e,F_ I.ok.bsz I.sz,λb o e hb=>?_,λb hb=>?_,I.stack,I.stkFree,I.ok.tb.un I.base⟩
  .rcases cases x c h1 with ⟨_,z⟩|z
   .exact fJ scope.names _ _ (λw d e=>K4 (hcl w d (hclo w d e))) h1 h2 z
   .rcases cases y c h2 with ⟨_,z2⟩|z2
    .exact absurd (hcl x c z) (not_lt.mpr (LL z2))
    .exact I.ok.inj x y c z z2
  .have hx':scope.names.lookup x=some .cell\/scope.names.lookup x=some .free:=by
    rcases hx with z|z
    .exact oQ (env:=X.env) z (.inl rfl)
    .exact oQ (env:=X.env) z (.inr rfl)
   rcases hx' with z|z
   .exact Kq.mp (Ky scope.names _ _ (.inl z))
   .exact Kq.mp (Ky scope.names _ _ (.inr (i7 _ _ (.inl (mem_of_lookup z)))))
  .have hx':(x,KB)∈scope.names:=of_decide_eq_true hx
   rcases cases x c e with ⟨_,z⟩|z
   .exact LL z
   .rcases qi _ _ _ e with h|h
    .exact LL (own.empty x c h).2
    .rcases fK scope.names [] h with ⟨h1,_⟩|h1
     .exact absurd hx' (ok.free _ h1 rfl).2
     .cases h1
  .intro z
   rcases cases x c e with ⟨_,z2⟩|z2
   .rw [z] at z2;exact absurd (hfl b hb) (not_lt.mpr (LL z2))
   .exact (hf b hb).2.2.2.2.1 x c z2 z
  .rcases (hf b hb).2.2.2.1 with z|z
   .exact I.ok.noex b o e z
   .exact absurd (l_ (I.ok.bs b o e).1) (not_lt.mpr z)
  .intro z
   rcases mem_cons.mp (I.stkSub b z) with q|q
   .exact (hf b hb).2.1 q
   .exact (hf b hb).2.2.1 q
 refine⟨cix,rfl,I.bare,Un.kept hk4,⟨λ_=>none,?_,λi x v e1 e2 e3=>?_⟩,λx c e=>?_,I.hok.fresh (f_ _),λx c e=>?_,λp hp=>?_,I.hok.kept hk4,?_⟩
 .exact (Heap.Ns.new s.heap (.type "dict")).keeps (LW _ _)
 .have e2':∃j,ix[i]?=some (some j)/\σ[j]?=some (some v):=by
   unfold qj at e2;rw [gV] at e2
   cases q:ix[i]? with
   | none=>rw [q] at e2;cases e2
   | some o =>
    rw [q] at e2
    cases o with
    | none=>cases (vx e2)
    | some j =>
     refine⟨j,rfl,?_⟩;have e2'':(match σ[j]? with|some v=>v|none=>none)=some v:=vx e2
     cases r:σ[j]? with
     | none=>rw [r] at e2'';cases e2''
     | some w=>rw [r] at e2'';exact congrArg some e2''
  obtain⟨j,hj,hv⟩:=e2';obtain⟨hN,hfr⟩:=ok.slot i x j e1 hj;have hk:=(ok.free _ (mem_of_lookup hfr) rfl).1
  have hvis:Vis X.env.scope x:=by
   rcases hk with z|z
   .exact .inr (.inl z)
   .exact .inr (.inr z)
  obtain⟨m,hn,hl⟩:=I.loc;obtain⟨u,ru,lk⟩:=hl j x v hN hv hvis
  refine⟨u,ru,.inr ⟨?_,?_⟩⟩
  .exact ub (env:=X.env) hfr
  .rcases lk with ⟨z,_⟩|⟨_,c,hc,hcell⟩
   .rcases hk with q|q
    .rw [z] at q;cases q
    .rw [z] at q;cases q
   .refine⟨c,?_,hcell.keeps hk4⟩;show (cellsFrom (s.heap.objs.size+1) scope.names (iB X.env scope.names [])).lookup x=some c;rw [fH scope.names _ _ (ok.free _ (mem_of_lookup hfr) rfl).2];obtain⟨d,hd⟩:=Kq.mp (i7 (env:=X.env) scope.names [] (.inl (mem_of_lookup hfr)));rw [hd,<- hclo x d hd,hc]
 .rcases cases x c e with ⟨z,_⟩|z
  .exact⟨none,z⟩
  .obtain⟨v,q⟩:=I.cell x c z;exact⟨v,q.keeps hk4⟩
 .rcases cases x c e with ⟨_,z⟩|z
  .exact I.hok.fresh (LL z)
  .exact I.freeC x c z
 .have hp':p∈X.pn++pins:=by simpa [a6] using hp
  obtain⟨q1,q2,q3,q4,q5⟩:=I.pin p hp';refine⟨hk4 _ _ q1,q2,I_ (l_ q1),λz=>?_,q5⟩
  rcases mem_cons.mp (I.stkSub p.1 z) with q|q
  .exact q3 q
  .exact q4 q
 .unfold qj;rw [length_map];exact ok.len.symm
variable {qual:Str}
def dN{globals:Addr}{cl:List (Str×Addr)}{func:Option Addr}{code:Value}{Q:Env->cy->Prop}(hQ:Q { scope:=scope,locals:=s.heap.objs.size,globals:=globals,cells:=cellsFrom (s.heap.objs.size+1) scope.names cl,qual:=qual,func:=func,code:=env.code,frame:=env.frame,builtins:=env.builtins }
   { s with heap:=pushCells (s.heap.push { cls:=.type "dict",data:=.dict #[] }) scope.names }):
  wpAny M A (newFunctionEnv scope globals cl [] qual func code (some env)) Q E s:=by
 simp only [newFunctionEnv,Option.isSome_some,if_true];refine cn (wpAny_alloc ?_);refine cn (wpAny_layCells _ (λname kind cells=>by cases hkc:kind == KB <;> simp [hkc]) _ _ _ _ ?_);rw [show ({ s with heap:=s.heap.push { cls:=.type "dict",data:=.dict #[] } }:cy).heap.objs.size=s.heap.objs.size+1 from JO ..];simp only [forIn_nil];exact cn (h_ (h_ hQ))
variable {prog:s_}{R:Result->cy->Prop}
theorem qk{elt target iter:Expr}{ifs:List Expr}{it acc:Value}(I:Nat->cy->Prop)(turn:∀n s,I n s->wpAny (model prog w) A (pyNext it) (λr s₁=>match r with
   | none=>R (.ok .next) s₁
   | some v=>wpAny (model prog w) A (letOwnedTupleGo target it v) (λ_ s₂=>wpAny (model prog w) A (assign target env v) (λ_ s₃ =>
     wpAny (model prog w) A (forIn ifs true λc r=>if r=true then do let ok <- isTrue c env (eval c env);pure (JP ok) else pure (JP r)) (λok s₄ =>
      if ok=true then wpAny (model prog w) A (eval elt env) (λx s₅ =>
       wpAny (model prog w) A (call (.builtin "list.append") [acc,x]) (λ_ s₆=>∃m,m<n/\I m s₆) (λ_ _=>False) s₅) (λ_ _=>False) s₄
      else ∃m,m<n/\I m s₄) (λ_ _=>False) s₃) (λ_ _=>False) s₂) (λ_ _=>False) s₁) (λ_ _=>False) s)(n:Nat)(h:I n s):
  codeAny (model prog w) A (.compLoop (.ListComp elt [⟨target,iter,ifs,0⟩] scope pos) 0 it acc env) R s:=by
 refine codeAny_loop rfl I (λn s hI=>?_) n h;show wpAny _ A ((compTurn (.ListComp elt [⟨target,iter,ifs,0⟩] scope pos) 0 it acc env).onRaise (λx=>do noteFrame x env;theTreesLotGoes x)) _ _ s;refine wpAny_noted ?_;rw [compTurn_list];refine cn (Kc (cn (H_ (turn n s hI) (λr s₁ h₁=>?_) λ_ _ h'=>h'.elim)))
 cases r with
 | none=>exact h_ h₁
 | some v =>
  refine cn (H_ h₁ (λ_ s₂ h₂=>?_) λ_ _ h'=>h'.elim);refine cn (H_ h₂ (λ_ s₃ h₃=>cn (H_ h₃ (λok s₄ h₄=>?_) λ_ _ h'=>h'.elim)) λ_ _ h'=>h'.elim)
  cases ok with
  | false=>exact h_ ⟨rfl,h₄⟩
  | true =>
   exact cn (cn (H_ h₄ (λx s₅ h₅=>cn (H_ h₅ (λ_ s₆ h₆=>h_ (h_ ⟨rfl,h₆⟩)) λ_ _ h'=>h'.elim)) λ_ _ h'=>h'.elim))
noncomputable def PIf(X:Cx)(ifs:List Expr)(t:TT):Prop :=
 ∀(pins:List (Addr×Obj)) (s:cy) (σ:St) (H:Hp) (Q:Bool->Hp->Prop),Inv X pins σ H s->t σ H Q ->
  wpAny (model X.prog X.w) X.A (forIn ifs true λc r=>if r=true then do let ok <- isTrue c X.env (eval c X.env);pure (JP ok) else pure (JP r)) (TP X pins σ Q) X.xe s
def gW:TT:=λ_ H Q=>Q true H
def bb:PIf X [] gW:=λ_ _ _ H _ I h=>wpAny_tests_nil ⟨H,I,h⟩
def fL{c:Expr}{t:TT}(h:PT X c t):PIf X [c] t:=λpins s σ H Q I q=>wpAny_tests_one (h pins s σ H Q I q)
noncomputable def ql(ix:List (Option Nat))(wi:TI)(g:TG)(tts:TT)(te:TE):TE:=λσ H Q=>wi σ H λJ H1=>∀D,H1 D=none->∃W:Nat->Nat->St->Hp->Prop,(∃m,W 0 m (qj ix σ) (upd H1 D (.lst [])))/\∀i m τ H2,W i m τ H2 ->
 (J.stop i H2/\Q (.ref D) H2)\/(J.go i H2/\∀x H3,J.yld i H2 x H3->g x τ H3 λτ2 H4=>tts τ2 H4 λok H5=>if ok=true then te τ2 H5 λv H6=>∃ys,H6 D=some (.lst ys)/\ys.length<sizeLine/\∃m',m'<m/\W (i+1) m' τ2 (upd H6 D (.lst (ys++[v])))
  else ∃m',m'<m/\W (i+1) m' τ2 H5)
variable {iter elt:Expr}{ifs:List Expr}{N':List Str}{wi:TI}{g:TG}{tts:TT}{te:TE}
def qm{use:Option (Value->Sem Unit)}{Qf:Value->cy->Prop}{p':Pos}{Q:VK}(hc:X.calm=true)(ok:ua X.env X.N scope N' ix)(hi:PI X tg iter wi)(blk:∀s H fp pn,PG (a6 X N' scope s H fp pn) tg g/\PIf (a6 X N' scope s H fp pn) ifs tts/\PE (a6 X N' scope s H fp pn) elt te)(hs:∀x,foldedSetIterable iter X.env x=pure x)(I:Inv X pins σ H s)(hw:ql ix wi g tts te σ H Q)(fin:∀D C H' s',Inv X pins σ H' s'->Q (.ref D) H'->(∃m,s'.heap.Ns C m)->H' C=none->X.s₀.heap.objs.size<=C->C≠X.env.locals->(∀x c,X.env.cells.lookup x=some c->c≠C)->C∉X.fs->(∀p∈X.pn++pins,p.1≠C) ->
   compPost (model X.prog X.w) X.A X.xe use Qf (.ref D) C (.ok .next) s'):
  wpAny (model X.prog X.w) X.A (comprehension (.ListComp elt [⟨tg,iter,ifs,0⟩] scope pos) scope X.env p' (newList []) false (eval iter X.env) use) Qf X.xe s:=by
 have hclos:closureFor scope X.env=pure (iB X.env scope.names []):=f9 λy hy e=>I.ok.has y.1 (ok.free y hy e).1;refine wpAny_comprehension_free (use:=use) rfl hs hclos ok.kind ok.loc (thn (hi pins s σ H _ I hw) λv s1 h1=>thn h1 λitv s2 h2=>?_);obtain⟨it,fp,tn,J,H2,e,I2,T,st2,f2,hW⟩:=h2;subst e;obtain⟨W,⟨m0,w0⟩,turn⟩:=hW s2.heap.objs.size (I2.hok.fresh (f_ _))
 have hfl:∀b∈fp,b<s2.heap.objs.size:=λb hb=>by
  obtain⟨o,e,_⟩:=T.obj 0 _ st2 b hb;exact l_ e
 refine JI ?_
 have I3:Inv X pins σ (upd H2 s2.heap.objs.size (.lst [])) { s2 with heap:=s2.heap.push { cls:=.type "list",dict:=none,data:=.seq ([]:List Value).toArray } } :=
  I2.laid (t':=s2.toks) (λb o e=>d_ _ e) (f_ _) (show bB X.prog X.w _ _ _ (.lst []) from ⟨Lo _,[],0,.nil,kx _ rfl⟩)
 have st3:tn 0 (s2.heap.push { cls:=.type "list",dict:=none,data:=.seq ([]:List Value).toArray }):=T.keep 0 _ _ st2 λb _ o e=>d_ _ e;have f3:∀b∈fp,rS X pins (upd H2 s2.heap.objs.size (.lst [])) b:=λb hb=>⟨by rw [ar (I_ (hfl b hb))];exact (f2 b hb).1,(f2 b hb).2⟩
 have hfl3:∀b∈fp,b<(s2.heap.push { cls:=.type "list",dict:=none,data:=.seq ([]:List Value).toArray }).objs.size:=λb hb=>by rw [JO];exact K4 (hfl b hb)
 generalize hs3:({ s2 with heap:=s2.heap.push { cls:=.type "list",dict:=none,data:=.seq ([]:List Value).toArray } }:cy)=s3 at I3 ⊢;have eh3:s3.heap=s2.heap.push { cls:=.type "list",dict:=none,data:=.seq ([]:List Value).toArray }:=by rw [<- hs3]
 rw [<- eh3] at st3 hfl3;generalize hH3:upd H2 s2.heap.objs.size (.lst [])=H3 at I3 f3 w0;generalize hD:s2.heap.objs.size=D at *;refine dN ?_;have I4:=uc ok I3 f3 hfl3;obtain⟨hg,ht,he⟩:=blk s3 H3 fp pins;have st4:tn 0 (pushCells (s3.heap.push { cls:=.type "dict",data:=.dict #[] }) scope.names):=T.keep 0 _ _ st3 λb _ o e=>LW _ _ b o (d_ _ e)
 have stat:∀{H':Hp},(∀b∈fp,H' b=none)->∀b∈fp,rS (a6 X N' scope s3 H3 fp pins) [] H' b:=λhn b hb=>by
  refine⟨hn b hb,I_ (hfl3 b hb),I4.ok.exfs b hb,.inl hb,(I4.ok.exf b hb).2,λp hp=>?_⟩;have hp':p∈X.pn++pins:=by simpa [a6] using hp
  exact (f2 b hb).2.2.2.2.2 p hp'
 have loop:∀(s4:cy),Inv (a6 X N' scope s3 H3 fp pins) [] (qj ix σ) H3 s4->tn 0 s4.heap ->
   codeAny (model X.prog X.w) X.A (.compLoop (.ListComp elt [⟨tg,iter,ifs,0⟩] scope pos) 0 (.ref it) (.ref D) (oO scope s3.heap.objs.size X.env)) (compPost (model X.prog X.w) X.A X.xe use Qf (.ref D) s3.heap.objs.size) s4:=by
  intro s4 I4 st4;refine qk (λn s'=>∃i τ H',Inv (a6 X N' scope s3 H3 fp pins) [] τ H' s'/\tn i s'.heap/\(∀b∈fp,H' b=none)/\W i n τ H') ?_ m0 ⟨0,_,H3,I4,st4,λb hb=>(f3 b hb).1,w0⟩;rintro n s5 ⟨i,τ,H5,I5,st5,fr5,w5⟩
  rcases turn i n τ H5 w5 with ⟨stop,qn⟩|⟨go,step⟩
  .refine thn (T.done (a6 X N' scope s3 H3 fp pins) rfl rfl rfl hc i [] s5 τ H5 (λ_ _=>False) I5 (stat fr5) st5 stop) λr s6 ⟨hr,I6⟩=>?_;subst hr;have I7:Inv X pins σ H5 s6:=I3.call' (ch:=fp) I6.os I6.base I6.hok I6.bare λb hb=>⟨(f2 b hb).2.2.2.1,(f2 b hb).2.1,(f2 b hb).2.2.2.2.1,(f2 b hb).2.2.2.2.2⟩
   obtain⟨m6,hn6,_⟩:=I6.loc
   refine fin D s3.heap.objs.size H5 s6 I7 qn ⟨m6,hn6⟩ I6.free ?_ ?_ ?_ ?_ ?_
   .exact I3.sz
   .exact Mw I3.lt
   .intro x c e z;obtain⟨v,q⟩:=I3.cell x c e;have:=q.lt;rw [z] at this;exact E_ _ this
   .exact I3.nofs (f_ _)
   .intro p hp z;have:=l_ (I3.pin p hp).1;rw [z] at this;exact E_ _ this
  .refine thn (T.item (a6 X N' scope s3 H3 fp pins) rfl rfl rfl hc i [] s5 τ H5 (λ_ _=>False) I5 (stat fr5) st5 go) λr s6 ⟨u,hr,h6⟩=>?_;subst hr;refine thn h6 λ_ s7 ⟨x,H7,I7,r7,y7,st7,fr7⟩=>?_;have I7':=I7.pinned (stat fr7) (T.obj _ _ st7)
   have again:∀{s8:cy}{τ8:St}{H8:Hp},Inv (a6 X N' scope s3 H3 fp pins) ([]++k7 fp s7.heap) τ8 H8 s8->(∃m',m'<n/\W (i+1) m' τ8 H8) ->
     ∃m,m<n/\∃i τ H',Inv (a6 X N' scope s3 H3 fp pins) [] τ H' s8/\tn i s8.heap/\(∀b∈fp,H' b=none)/\W i m τ H':=λ{s8 τ8 H8} I8 ⟨m',hm,w8⟩=>by
    refine⟨m',hm,i+1,τ8,H8,I8.unpinned,T.keep _ _ _ st7 λb hb o e=>(I8.pin (b,o) (oe _ (oe _ (cH hb e)))).1,λb hb=>?_,w8⟩;obtain⟨o,e,d⟩:=T.obj _ _ st7 b hb;exact (I8.pin (b,o) (oe _ (oe _ (cH hb e)))).2.1
   refine thn (hg _ s7 τ H7 x u _ I7' r7 (step x H7 y7)) λ_ s8 ⟨τ8,H8,I8,q8⟩=>?_;refine thn (ht _ s8 τ8 H8 _ I8 q8) λokb s9 ⟨H9,I9,q9⟩=>?_
   cases okb with
   | false =>
    rw [if_neg j_] at q9;rw [if_neg j_];exact again I9 q9
   | true =>
    rw [if_pos rfl] at q9;rw [if_pos rfl];refine thn (he _ s9 τ8 H9 _ I9 q9) λv10 s10 ⟨x10,H10,I10,r10,q10⟩=>?_;obtain⟨ys,hD10,hz,m',hm,w10⟩:=q10;refine thn (cp (X:=a6 X N' scope s3 H3 fp pins) _ s10 τ8 H10 (.ref D) [x10] (.ref D) [v10] (λ_ H'=>∃m',m'<n/\W (i+1) m' τ8 H') I10 rfl (.cons r10 .nil) ⟨D,ys,x10,rfl,rfl,hD10,hz,m',hm,w10⟩) λ_ s11 ⟨_,H11,I11,_,q11⟩=>?_;exact again I11 q11
 exact codeAny_compStart_list (loop _ I4 st4) (T.self X.A 0 _ _ _ st4 (loop _ I4 st4))
def bj(N':List Str)(ix:List (Option Nat))(hc:X.calm=true)(hi:PI X tg iter wi)(blk:∀s H fp pn,PG (a6 X N' scope s H fp pn) tg g/\PIf (a6 X N' scope s H fp pn) ifs tts/\PE (a6 X N' scope s H fp pn) elt te)(chk:lu X.env.scope X.N scope N' ix=true)(hs:∀x,foldedSetIterable iter X.env x=pure x:=by intro _;rfl):
  PE X (.ListComp elt [⟨tg,iter,ifs,0⟩] scope pos) (ql ix wi g tts te):=by
 intro pins s σ H Q I hw;rw [eval_ListComp];refine qm (use:=none) hc (lv chk) hi blk hs I hw λD C H' s' I' q hm hn h1 h2 h3 h4 h5=>?_;obtain⟨m,hm⟩:=hm;refine⟨m,hm,λh' sb=>⟨.ref D,H',?_,rfl,q⟩⟩;exact I'.turned (t':=s'.toks) (λb o hb e=>(sb.2 b hb).trans e) hn h2 (.inr h1) h3 h5
theorem iC{pos' cpos:Pos}(N':List Str)(ix:List (Option Nat))(hN:X.N.Nodup)(hi:X.N[i]?=some x)(hx:Loc X.env.scope x)(hc:X.calm=true)(hit:PI X tg iter wi)(blk:∀s H fp pn,PG (a6 X N' scope s H fp pn) tg g/\PIf (a6 X N' scope s H fp pn) ifs tts/\PE (a6 X N' scope s H fp pn) elt te)(chk:lu X.env.scope X.N scope N' ix=true)(hsw:swapsWith (.ListComp elt [⟨tg,iter,ifs,0⟩] scope cpos) (some (.Name x pos')) pos.line X.env=pure true:=by rfl)(hs:∀x,foldedSetIterable iter X.env x=pure x:=by intro _;rfl)(hf:X.fn x=true\/X.env.scope.names.lookup x=some .local:=by first|exact .inl rfl|exact .inr rfl|assumption):
  PS X (.Assign [.Name x pos'] (.ListComp elt [⟨tg,iter,ifs,0⟩] scope cpos) pos) (Do (ql ix wi g tts te) (bg i)):=by
 intro pins s σ H D I hw;rw [exec_Assign_Name_used _ _ _ _ hsw];refine cn (Kc (cn ?_));show wpAny _ X.A (do let _ <- comprehension (.ListComp elt [⟨tg,iter,ifs,0⟩] scope cpos) scope X.env _ (newList []) false (eval iter X.env) (some (assign (.Name x pos') X.env))) _ _ s;refine cn (thn (qm (use:=some (assign (.Name x pos') X.env)) (Qf:=λ_ s'=>SP X pins D .next s') hc (lv chk) hit blk hs I hw λD' C H' s' I' q hm hn h1 h2 h3 h4 h5=>?_) λ_ s' q=>h_ (h_ q))
 obtain⟨m,oC,es,ep,hoC,hdC,hrC⟩:=hm
 have Ip:Inv X (pins++[(C,oC)]) σ H' s':=I'.pins_of λp hp=>(Jw.mp hp).elim (λz=>I'.pin p (oe _ z)) λz=>by
  have e:p=(C,oC):=by simpa using z
  subst e;exact⟨hoC,hn,h2,h4,λv z=>by rw [hdC] at z;cases z⟩
 refine wpAny_assign_Name (gU (v:=.ref D') Ip hN hi hx rfl (λs2 I2=>?_) hf);have hC2:s2.heap.get? C=some oC:=(I2.pin (C,oC) (by simp)).1;have I2':Inv X pins (σ.set i (some (.ref D'))) H' s2:=I2.pins_of λp hp=>I2.pin p (oe _ (FX _ hp));refine⟨m,⟨oC,es,ep,hC2,hdC,hrC⟩,λh' sb=>⟨_,H',?_,q⟩⟩;exact I2'.turned (t':=s2.toks) (λb o hb e=>(sb.2 b hb).trans e) hn h2 (.inr h1) h3 h5
noncomputable def AR(p:Addr)(a b c:Int):HO:=.ext λh=>∃t u v,IsRange h p a b c t u v
noncomputable def rX(a c:Int)(n:Nat):List V:=(c_ n).map λ(k:Nat)=>V.int (a+k*c)
def u7{a c:Int}{acc:Array Value}(h:ItemsOf (λi v=>∃t,v=.int (a+i*c) t) acc n):bD (rX a c n) acc.toList:=by
 obtain⟨hn,hi⟩:=h
 have key:∀(m:Nat) (us:List Value) (f:Nat->Int),us.length=m->(∀i u,us[i]?=some u->∃t,u=Lg (f i) t)->bD ((c_ m).map λk=>V.int (f k)) us:=by
  intro m
  induction m with
  | zero=>intro us f hl _;rw [JQ] at hl;subst hl;exact .nil
  | succ m ih =>
   intro us f hl hu
   cases us with
   | nil=>simp at hl
   | cons u r =>
    rw [range_succ_eq_map,map_cons,map_map];refine .cons (hu 0 u rfl) (ih r (λk=>f (k+1)) (by simpa using hl) λi v e=>hu (i+1) v (by simpa using e))
 refine key n acc.toList (λk=>a+k*c) (by simpa using hn) λi u e=>?_;exact hi i u (by simpa using e)
def wU(a c:Int)(n:Nat):(rX a c n).length=n:=by simp [rX]
def zi{a b c:Int}{t u v:Tok}{tk:Nat}(I:Inv X pins σ H s):
  Inv X pins σ (upd H s.heap.objs.size (AR s.heap.objs.size a b c)) { s with heap:=s.heap.push { cls:=.type "range",data:=.fields #[.int a t,.int b u,.int c v] },toks:=tk }:=by
 refine I.laid (λb o e=>d_ _ e) (f_ _) ⟨⟨t,u,v,MZ ..⟩,⟨_,kx _ rfl⟩,λh1 h2 ⟨t,u,v,z⟩ k=>⟨t,u,v,k _ z⟩⟩
def qo{a:Expr}{p:Pos}(hg:Gl X "range")(hm:X.mg "range"=none)(ha:PA X [a] ta)(hs:starEach [a] X.env=[(false,eval a X.env)]:=by rfl):
  PE X (.Call (.Name "range" p) [a] [] pos) (λσ H Q=>ta σ H λvs H1=>∃j:Int,vs=[.int j]/\∀p,H1 p=none->Q (.ref p) (upd H1 p (AR p 0 j 1))):=by
 intro pins s σ H Q I h;refine Call_ (gu I hg hm boot_range (D_ (thn (ha pos pins s σ H _ I h) λus s1 ⟨vs,H1,I1,r1,q1⟩=>?_) hs rfl));obtain⟨j,e,q⟩:=q1;subst e
 cases r1 with
 | cons r rr =>
  cases rr;obtain⟨t,rfl⟩:=r;exact call_range_1 ⟨.ref s1.heap.objs.size,_,zi I1,rfl,q _ (I1.hok.fresh (f_ _))⟩
noncomputable def G7(K:b_)(mk:List V->HO):List V->Hp->VK->Prop:=λxs H Q=>∃p a b c n,xs=[.ref p]/\H p=some (AR p a b c)/\KZ a b c=true/\q_ a b c=((n:Nat):Int)/\n<=1000000/\∀l,H l=none->Q (.ref l) (upd H l (mk (rX a c n)))
def u8(hc:X.calm=true):bz X (.type "list") (G7 X.K .lst):=by
 intro pins s σ H xs us Q I r h;obtain⟨p,a,b,c,n,rfl,hp,hsm,hsz,hn,q⟩:=h;obtain⟨u,rfl,rx⟩:=fg r;cases rx;obtain⟨⟨t,u,v,hr⟩,_,_⟩:=(show bB X.prog X.w H s.heap p (AR p a b c) from I.hok p _ hp)
 have hs:sizeLine=16777216:=LP;refine call_list_range (I.ok.hd hc) hr hsm hsz (by omega) λh' tk acc c' hk e hacc=>?_;exact⟨.ref s.heap.objs.size,_,I.laid (t':=tk) hk (f_ _) (show bB X.prog X.w _ h' _ (.lst (rX a c n)) from ⟨by rw [wU];omega,acc.toList,c',u7 hacc,by simpa using e⟩),rfl,q _ (I.hok.fresh (f_ _))⟩
def wV:typeLookup (.type "list_reverseiterator") "__len__"=pure none:=by rw [typeLookup_type,builtinLookup_eq_fast];kernel_rfl
def zj:typeLookup (.type "list_reverseiterator") "__length_hint__"=pure (some (.builtin "list_reverseiterator.__length_hint__")):=by rw [typeLookup_type,builtinLookup_eq_fast];kernel_rfl
variable {I l:Addr}
def zk{Q:Bool->cy->Prop}{i:Int}(hit:s.heap.IsRevIter I l i)(h:Q false s):wpAny (model prog w) A (L5 (.ref I)) Q E s:=by
 unfold L5;refine cn (K8 hit.typeIs wV ?_);show wpAny _ A (specialOf (so I) (Lu "__length_hint__") >>= _) _ _ _;refine cn (K8 hit.typeIs zj ?_)
 (generalize hid:("list_reverseiterator.__length_hint__":String)=id0;(fail_if_success (clear hid id0));wp_delta;rw [show splitId id0=some ("list_reverseiterator","__length_hint__") from by subst hid;decide +kernel];subst hid)
 refine cn (wpAny_isInstance (b:=true) hit.typeIs (by rw [isSubtype_type];kernel_rfl) ?_);exact h_ h
variable {items:Array Value}
theorem u9(hh:A.handled=none)(hit:s.heap.IsRevIter I l ((items.size:Int) - 1))(hl:s.heap.IsList l items)(hlI:l≠I)(hsz:items.size<=sizeLine)(Sx:Addr)(res:Value)(c₀:Nat)(hS:s.heap.get? Sx=some { cls:=.type "list",data:=.seq #[] c₀ })(hSI:Sx≠I)(hSl:Sx≠l)(hR:∀h' tk acc' c',(∀b o,b≠Sx->b≠I->s.heap.get? b=some o->h'.get? b=some o)->h'.get? Sx=some { cls:=.type "list",dict:=none,data:=.seq acc' c',slots:=#[] } ->
   ItemsOf (λi v=>items[items.size - 1 - i]?=some v) acc' items.size->R (.ok (.ret res)) { s with heap:=h',toks:=tk }):
  wpAny (model prog w) A.in1 (Kb (.ref Sx) (.ref I) res)
   (λfin s'=>match fin with|.done f=>R (.ok f) s'|.again c'=>c'.quiet=true/\codeAny (model prog w) A c' R s') (λe s'=>R (.error e) s') s:=by
 have hSf:Sx∉[I,l]:=λhm=>by
  rcases mem_cons.mp hm with e|e
  .exact hSI e
  .exact hSl (r_.mp e)
 have W:=(Walks.listRev (prog:=prog) (w:=w) (A:=A.in1) hh I l hlI items).toS;unfold Kb;refine cn (MJ (T:="list_reverseiterator") hit.typeIs ?_);have h1:Builtin.List.listSameRef (.ref Sx) (.ref I)=false:=by simp [Builtin.List.listSameRef,hSI]
 have h2:(J5 "list_reverseiterator" == J5 "list")=false:=by decide
 have h3:(J5 "list_reverseiterator" == J5 "tuple")=false:=by decide
 simp only [h1,h2,h3,Bool.or_false,false_eq_true,if_false];refine cn (wpAny_pyIter_revIter hit ?_);refine cn (JF (zk hit ?_));refine wpAny_ite_split (λhab=>absurd hab (by decide)) (λ_=>?_);refine h_ ⟨K6 F.plain_extend_loop _,codeAny_extend_loopS W hsz Sx hSf res items.size 0 _ #[] c₀ rfl (Lo _) ⟨Lo _,by simpa using hit,hl⟩ hS (ItemsOf.nil _) λs' acc' c' hm hS' hacc=>?_⟩
 rw [Moved.eq_with hm];refine hR s'.heap s'.toks acc' c' (λb o hb hbI e=>hm.heap b o (λhmem=>?_) e) hS' hacc
 rcases mem_cons.mp hmem with e'|hmem
 .exact hb e'
 .exact hbI (r_.mp hmem)
theorem oS(hh:A.handled=none)(hit:s.heap.IsRevIter I l ((items.size:Int) - 1))(hl:s.heap.IsList l items)(hlI:l≠I)(hsz:items.size<=sizeLine)(Sx:Addr)(hS:s.heap.get? Sx=some { cls:=.type "list",data:=.seq #[] })(hSI:Sx≠I)(hSl:Sx≠l)(hR:∀h' tk acc' c',(∀b o,b≠Sx->b≠I->s.heap.get? b=some o->h'.get? b=some o)->h'.get? Sx=some { cls:=.type "list",dict:=none,data:=.seq acc' c',slots:=#[] } ->
   ItemsOf (λi v=>items[items.size - 1 - i]?=some v) acc' items.size->R (.ok (.ret .none)) { s with heap:=h',toks:=tk }):
  wpAny (model prog w) A.in1 (M_.«list.__init__» ⟨[.ref Sx,.ref I],[]⟩)
   (λfin s'=>match fin with|.done f=>R (.ok f) s'|.again c'=>c'.quiet=true/\codeAny (model prog w) A c' R s') (λe s'=>R (.error e) s') s:=by
 show wpAny _ _ (do let old <- Builtin.List.listItems (.ref Sx);Builtin.List.listUpdate (.ref Sx) (λ_=>#[]);letGo old.toList.reverse;Kb (.ref Sx) (.ref I) .none) _ _ s;refine cn ?_;unfold Builtin.List.listItems;refine cn (KL hS rfl (h_ ?_));show wpAny _ _ (updateSeq Sx (λ_=>#[]) >>= λ_=>letGo (#[]:Array Value).toList.reverse >>= λ_=>Kb (.ref Sx) (.ref I) .none) _ _ s
 refine cn (LX hS rfl ?_);have hS₂:=Kk (LH (λ_=>(#[]:Array Value))) hS rfl
 have oth:∀b o,b≠Sx->s.heap.get? b=some o->(s.heap.update Sx (LH (λ_=>(#[]:Array Value)))).get? b=some o :=
  λb o hb e=>(JD _ _ (J_ hb)).trans e
 refine cn (Mq ?_);refine u9 hh (hit.at λo e=>oth I o (J_ hSI) e) (hl.at λo e=>oth l o (J_ hSl) e) hlI hsz Sx .none _ hS₂ hSI hSl λh' tk acc' c' hk hS' hacc=>?_;exact hR h' tk acc' c' (λb o hb hbI e=>hk b o hb hbI (oth b o hb e)) hS' hacc
variable {Q:Value->cy->Prop}
def oU(hh:A.handled=none)(hit:s.heap.IsRevIter I l ((items.size:Int) - 1))(hl:s.heap.IsList l items)(hlI:l≠I)(hsz:items.size<=sizeLine)(hQ:∀h' tk acc' c',(∀b o,b≠I->s.heap.get? b=some o->h'.get? b=some o) ->
   h'.get? s.heap.objs.size=some { cls:=.type "list",dict:=none,data:=.seq acc' c',slots:=#[] }->ItemsOf (λi v=>items[items.size - 1 - i]?=some v) acc' items.size->Q (.ref s.heap.objs.size) { s with heap:=h',toks:=tk }):
  wpAny (model prog w) A (call (.type "list") [.ref I]) Q E s:=by
 refine callType_codes (Q₁:=λobj s₁=>obj=.ref s.heap.objs.size/\s₁={ s with heap:=s.heap.push { cls:=.type "list",data:=.seq #[] } }) F.called_list (F.typeCall_list_1 _) F.entry_list_init
  (code_list_new _ ⟨rfl,rfl⟩) λobj s₁ h₁=>?_
 obtain⟨rfl,rfl⟩:=h₁;have hS:(s.heap.push { cls:=.type "list",data:=.seq #[] }).get? s.heap.objs.size=some { cls:=.type "list",data:=.seq #[] }:=kx _ rfl
 have hSI:s.heap.objs.size≠I:=by
  obtain⟨o,ho,_⟩:=hit;exact Mw (l_ ho)
 have hSl:s.heap.objs.size≠l:=by
  obtain⟨o,ho,_⟩:=hl;exact Mw (l_ ho)
 refine⟨⟨_,hS,rfl⟩,F.args_list_init_2 _ _,oS (A:=A.in1) hh (hit.at λo e=>d_ _ e) (hl.push _) hlI hsz _ hS hSI hSl λh' tk acc' c' hk hS' hacc=>?_⟩;exact⟨rfl,hQ h' tk acc' c' (λb o hb e=>hk b o (I_ (l_ e)) hb (d_ _ e)) hS' hacc⟩
variable {its:List Value}
def zl(r:bD xs its){acc:Array Value}(h:ItemsOf (λi v=>its.toArray[its.toArray.size - 1 - i]?=some v) acc its.toArray.size):bD xs.reverse acc.toList:=by
 have e:acc.toList=its.reverse:=by
  obtain⟨hn,hi⟩:=h;apply KW;intro i
  by_cases hil:i<its.length
  .have hia:i<acc.size:=by rw [hn];simpa using hil
   have:=hi i acc[i] (by simp);rw [getElem?_reverse hil];have e1:acc.toList[i]?=some acc[i]:=by simp
   rw [e1,<- this];simp
  .have hna:acc.toList.length=its.length:=by simpa using hn
   rw [x_ (by omega),x_ (by rw [M4];omega)]
 rw [e];exact r.reverse
variable {e:Expr}{p p1 p2:Pos}
def vc(hc:X.calm=true)(he:PE X e te)(hg1:Gl X "list")(hm1:X.mg "list"=none)(hg2:Gl X "reversed")(hm2:X.mg "reversed"=none)(hs:starEach [.Call (.Name "reversed" p1) [e] [] p2] X.env=[(false,eval (.Call (.Name "reversed" p1) [e] [] p2) X.env)]:=by rfl)(hs2:starEach [e] X.env=[(false,eval e X.env)]:=by rfl):
  PE X (.Call (.Name "list" p) [.Call (.Name "reversed" p1) [e] [] p2] [] pos) (λσ H Q=>te σ H λx H1=>∃a xs,x=.ref a/\SqL X.K H1 a xs/\∀l,H1 l=none->Q (.ref l) (upd H1 l (.lst xs.reverse))):=by
 intro pins s σ H Q I h;refine Call_ (gu I hg1 hm1 My (D_ ?_ hs rfl));rw [hs];show wpAny _ _ (spliced ((false,eval (.Call (.Name "reversed" p1) [e] [] p2) X.env)::backTo pos [])) _ _ s;refine Kx ?_;refine Call_ (gu I hg2 hm2 boot_reversed (D_ ?_ hs2 rfl));rw [hs2];show wpAny _ _ (spliced ((false,eval e X.env)::backTo p2 [])) _ _ s
 refine Kx (thn (he pins s σ H _ I h) λu s1 ⟨x,H1,I1,r1,q1⟩=>KC ?_);obtain⟨a,xs,rfl,hS,q⟩:=q1;cases r1;obtain⟨its,rv,pl,hz⟩:=I1.list hS;have hlen:=rv.length;refine call_reversed_list pl.isList ?_;refine KC ?_
 have hal:a<s1.heap.objs.size:=by
  obtain⟨o,ho,_⟩:=pl.isList;exact l_ ho
 have I2:Inv X pins σ H1 { s1 with heap:=s1.heap.push (revObj a ((its.toArray.size:Int) - 1)) }:=I1.kept (t':=s1.toks) λb o e=>d_ _ e;refine oU (I1.ok.hd hc) (I:=s1.heap.objs.size) (l:=a) (items:=its.toArray) ⟨_,kx _ rfl,rfl,rfl⟩ (pl.isList.push _) (I_ hal) (by rw [size_toArray];omega) λh' tk acc' c' hk eL hacc=>?_;have hfI:=I1.fpOk (H':=H1) (f_ s1.heap.objs.size) (I1.hok.fresh (f_ _))
 obtain⟨f0,f1,f2,f3,f4,f5⟩:=hfI;have hLn:H1 (s1.heap.push (revObj a ((its.toArray.size:Int) - 1))).objs.size=none:=I2.hok.fresh (f_ _);have hLlt:∀b o,(s1.heap.push (revObj a ((its.toArray.size:Int) - 1))).get? b=some o->b≠(s1.heap.push (revObj a ((its.toArray.size:Int) - 1))).objs.size:=λb o e=>I_ (l_ e);have nit:∀b u,H1 b=some u->b≠s1.heap.objs.size:=λb u e z=>by rw [z,f0] at e;cases e
 have neL:∀b u,H1 b=some u->b≠(s1.heap.push (revObj a ((its.toArray.size:Int) - 1))).objs.size:=λb u e z=>by rw [z,hLn] at e;cases e
 have hokT:HOk X.prog X.w H1 h':=λb u e=>by
  refine (I2.hok b u e).stay (λc v hc q=>hk c v ?_ q) (λ_ q=>q) λ_ _ q=>q
  rcases hc with z|z
  .rw [z];exact nit b u e
  .exact nit c _ z
 refine⟨.ref _,upd H1 (s1.heap.push (revObj a ((its.toArray.size:Int) - 1))).objs.size (.lst xs.reverse),?_,rfl,q _ hLn⟩
 refine I2.step (g':=s1.gens) (d':=s1.drawn) (t':=tk) (ch:=[s1.heap.objs.size]) (λb hb=>?_) (λb o _ _ hc e _=>hk b o (λz=>hc (by simp [z])) e) (λb o _ _ hc e _=>⟨o.slots,hk b o (λz=>hc (by simp [z])) e⟩)
  (λb o _ e n=>by rw [ar (hLlt b o e)];exact n) (λb o hc e=>⟨o,hk b o (λz=>hc (by simp [z])) e⟩) (λb ys e=>by rw [ar (neL b _ e)];exact e) (λb o u e=>by rw [ar (neL b _ e)];exact e)
  (λb ps e=>⟨#[],by rw [ar (neL b _ e),e];simp⟩) (λm hm=>?_) ?_ I2.bare
 .have e:b=s1.heap.objs.size:=by simpa using hb
  subst e;exact⟨f3,f1,f4,f5⟩
 .obtain⟨o,es,ep,ho,r⟩:=hm;exact⟨o,es,ep,hk _ o (J_ f1) ho,r⟩
 .intro b u e
  by_cases hb:b=(s1.heap.push (revObj a ((its.toArray.size:Int) - 1))).objs.size
  .subst hb;rw [aC] at e;cases e;exact⟨by rw [M4];exact hz,acc'.toList,c',zl rv hacc,by simpa using eL⟩
  .rw [ar hb] at e
   refine (hokT b u e).stay (λc v _ q=>q) (λc q=>?_) λc ys q=>?_
   .rw [ar (neL c _ q)];exact q
   .rw [ar (neL c _ q)];exact q
noncomputable def lw(k:Bool)(h:Heap)(a:Addr)(its:Array Value):Prop:=∃o,h.get? a=some o/\o.cls=.type (cond k "tuple" "list")/\∃n,o.data=.seq its n
noncomputable def i9(k:Bool)(h:Heap)(it a:Addr)(i:Nat):Prop:=∃o,h.get? it=some o/\o.cls=.type (cond k "tuple_iterator" "list_iterator")/\o.data=.fields #[.ref a,.int i 0]
variable {h h':Heap}
def lw.mv{k:Bool}{its:Array Value}(r:lw k h a its)(f:∀o,h.get? a=some o->h'.get? a=some o):lw k h' a its:=let ⟨o,e,q⟩:=r;⟨o,f o e,q⟩
def i9.mv{k:Bool}(r:i9 k h it a i)(f:∀o,h.get? it=some o->h'.get? it=some o):i9 k h' it a i:=let ⟨o,e,q⟩:=r;⟨o,f o e,q⟩
section
variable {P:s_}{its:Array Value}
def qq{x:Value}(W:s.heap.IsTupleIter it a i)(R:s.heap.IsTuple a its)(hx:its[i]?=some x)(hQ:∀h',h'.IsTupleIter it a (i+1)->KQ it s.heap h'->Q x { s with heap:=h' }):wpAny (model P w) A (JL (.ref it)) Q E s:=by
 have hT:=W.typeIs;obtain⟨o,ho,c,d⟩:=W;obtain⟨ol,hol,_,nl,dl⟩:=R;unfold JL;refine cn (J1 (name:=Lu "__next__") hT F.slot_tuple_iterator_next (KS F.slot_tuple_iterator_next hT F.entry_tuple_iterator_next ?_ (F.args_tuple_iterator_next_1 _)));refine cn (m:=field (.ref it) 0) (KH ho d (x:=.ref a) rfl ?_);have nn:¬ ((so a == JX)=true):=j_
 show wpAny _ _ (if (so a == JX)=true then _ else _) _ _ s;rw [if_neg nn];refine cn (m:=field (.ref it) 1) (KH ho d (x:=.int i 0) rfl ?_);refine cn (m:=seqItems? (.ref a)) (KL hol dl ?_);simp only [toNat_natCast,hx];exact cn (wpAny_setField ho d (by simp) (h_ ⟨x,rfl,h_ (hQ _ ⟨_,Kk _ ho (Obj.isFreed_of_fields (Obj.data_mapFields d _)),(Obj.cls_mapFields ..).trans c,by rw [Obj.data_mapFields d];simp [rawInt]⟩ (Heap.SameBut.update ..))⟩))
def rY(hh:A.handled=none)(W:s.heap.IsTupleIter it a i)(R:s.heap.IsTuple a its)(hx:its[i]?=none)(hE:∀h' e,M5 it s.heap h'->(∃o,h'.get? e=some o/\o.cls=.type "StopIteration")->E (.ref e) { s with heap:=h' }):wpAny (model P w) A (JL (.ref it)) Q E s:=by
 have hT:=W.typeIs;obtain⟨o,ho,c,d⟩:=W;obtain⟨ol,hol,_,nl,dl⟩:=R;unfold JL;refine cn (J1 (name:=Lu "__next__") hT F.slot_tuple_iterator_next (KS F.slot_tuple_iterator_next hT F.entry_tuple_iterator_next ?_ (F.args_tuple_iterator_next_1 _)));refine cn (m:=field (.ref it) 0) (KH ho d (x:=.ref a) rfl ?_);have nn:¬ ((so a == JX)=true):=j_
 show wpAny _ _ (if (so a == JX)=true then _ else _) _ _ s;rw [if_neg nn];refine cn (m:=field (.ref it) 1) (KH ho d (x:=.int i 0) rfl ?_);refine cn (m:=seqItems? (.ref a)) (KL hol dl ?_);simp only [toNat_natCast,hx];refine cn (MM (cn (wpAny_setField ho d (by simp) (cn (m:=newExc (.type "StopIteration") []) ?_))));simp only [newExc,newTuple]
 refine cn (JI (cn (m:=firstArgMember _ _) (KM (a:=JX) (by first|rfl|(simp only [firstArgMember];rfl)) (JI ?_ (by size_fits)))) (by size_fits));simp only [raiseNew];refine cn (wpAny_handled ?_)
 first|rw [show A.in1.handled=none from hh]|rw [hh]
 exact cn (h_ (wpAny_throw (hE _ _ (((Heap.SameBut.update ..).extBut.push _).push _) ⟨_,kx _ rfl,rfl⟩)))
variable {k:Bool}
def qt{x:Value}(W:i9 k s.heap it a i)(R:lw k s.heap a its)(hx:its[i]?=some x)(hQ:∀h',i9 k h' it a (i+1)->KQ it s.heap h'->Q x { s with heap:=h' }):wpAny (model P w) A (JL (.ref it)) Q E s:=by
 cases k with
 | false=>exact wpAny_nextOf_list_item W R hx hQ
 | true=>exact qq W R hx hQ
def lx(hh:A.handled=none)(W:i9 k s.heap it a i)(R:lw k s.heap a its)(hx:its[i]?=none)(hE:∀h' e,M5 it s.heap h'->(∃o,h'.get? e=some o/\o.cls=.type "StopIteration")->E (.ref e) { s with heap:=h' }):wpAny (model P w) A (JL (.ref it)) Q E s:=by
 cases k with
 | false=>exact wpAny_nextOf_list_end hh W R hx hE
 | true=>exact rY hh W R hx hE
end
noncomputable def Sq(k:Bool)(K:b_)(H:Hp)(a:Addr)(xs:List V):Prop:=cond k (SqT K H a xs) (SqL K H a xs)
section
variable {k:Bool}
def Inv.row(I:Inv X pins σ H s)(h:Sq k X.K H a xs):∃its:List Value,bD xs its/\lw k s.heap a its.toArray/\xs.length<=sizeLine:=by
 cases k with
 | false=>obtain⟨its,r,p,z⟩:=I.list h;exact⟨its,r,p.isList,z⟩
 | true=>obtain⟨its,r,p,z⟩:=I.tuple h;exact⟨its,r,p,z⟩
variable {ys:List V}
def Inv.row_inj(I:Inv X pins σ H s)(h:Sq k X.K H a xs)(h':Sq k X.K H a ys):xs=ys:=by
 cases k with
 | false=>exact I.list_inj h h'
 | true=>exact I.tuple_inj h h'
def wW{u:HO}(r:Rd H a u):∃v,H a=some v:=by
 rcases r with r|⟨o,r⟩ <;> exact⟨_,r⟩
variable {b:Addr}
def Inv.row_ne(I:Inv X pins σ H s)(h:Sq k X.K H a xs)(f:rS X pins H b):a≠b:=by
 have kk:∀o,X.K.lookup a=some o->a≠b:=λo e z=>by
  have e1:=I.ok.mod.kin a o e
  rcases f.2.2.2.1 with q|q
  .exact I.ok.noex a o e1 (z ▸ q)
  .exact absurd (t_ (l_ (I.ok.bs a o e1).1) (z ▸ q)) (E_ _)
 have hh:∀u,H a=some u->a≠b:=λu e z=>by rw [z,f.1] at e;cases e
 cases k with
 | false =>
  rcases h with r|⟨o,its,n,e,_⟩
  .obtain⟨v,e⟩:=wW r;exact hh v e
  .exact kk o e
 | true =>
  rcases h with r|⟨o,its,n,e,_⟩
  .obtain⟨v,e⟩:=wW r;exact hh v e
  .exact kk o e
variable {c:Addr}{t':Nat}
def Inv.yielded{T:Addr}{zs:List V}{ch:List Addr}(I:Inv X pins σ H s)(hf:∀b∈ch,rS X pins H b)(hT:s.heap.objs.size<=T)(kp:∀b o,b∉ch->s.heap.get? b=some o->h'.get? b=some o)(new:bB X.prog X.w (upd H T (.tup zs)) h' T (.tup zs)):Inv X pins σ (upd H T (.tup zs)) { s with heap:=h',toks:=t' }:=by
 have hn:H T=none:=I.hok.fresh hT;have nT:∀b u,H b=some u->b≠T:=λb u e z=>by rw [z,hn] at e;cases e
 have oT:∀b o,s.heap.get? b=some o->b≠T:=λb o e z=>absurd (t_ (l_ e) (z ▸ hT)) (E_ _);have nc:∀b u,H b=some u->b∉ch:=λb u e z=>by rw [(hf b z).1] at e;cases e
 refine I.step (g':=s.gens) (d':=s.drawn) (ch:=ch) (λb hb=>⟨(hf b hb).2.2.2.1,(hf b hb).2.1,(hf b hb).2.2.2.2.1,(hf b hb).2.2.2.2.2⟩) (λb o _ _ hc e _=>kp b o hc e) (λb o _ _ hc e _=>⟨o.slots,kp b o hc e⟩)
  (λb o _ e n=>by rw [ar (oT b o e)];exact n) (λb o hc e=>⟨o,kp b o hc e⟩) (λb xs e=>by rw [ar (nT b _ e)];exact e) (λb o u e=>by rw [ar (nT b _ e)];exact e)
  (λb ps e=>⟨#[],by rw [ar (nT b _ e),e];simp⟩) (λm hm=>?_) (λb u e=>?_) I.bare
 .obtain⟨o,es,ep,ho,r⟩:=hm;exact⟨o,es,ep,kp _ o (λz=>(hf _ z).2.1 rfl) ho,r⟩
 .by_cases hb:b=T
  .subst hb;rw [aC] at e;cases e;exact new
  .rw [ar hb] at e;refine (I.hok b u e).stay (λc v hc q=>kp c v ?_ q) (λc q=>by rw [ar (nT c _ q)];exact q) λc xs q=>by rw [ar (nT c _ q)];exact q
   rcases hc with z|z
   .rw [z];exact nc b u e
   .exact nc c _ z
end
section
variable {k:Bool}
abbrev rZ(k:Bool)(a:Addr):Obj:={ cls:=.type (cond k "tuple_iterator" "list_iterator"),data:=.fields #[.ref a,.int 0 0] }
variable {P:s_}
def jH{its:Array Value}(R:lw k s.heap a its)(hQ:Q (.ref s.heap.objs.size) { s with heap:=s.heap.push (rZ k a) }):wpAny (model P w) A (pyIter (.ref a)) Q E s:=by
 cases k with
 | false=>exact Ko R hQ
 | true=>exact Le R hQ
end
noncomputable def stA(a b:List Nat)(i:Nat):Bool:=decide (i+b.length<=a.length/\(a.drop i).take b.length=b)
noncomputable def fnd(a b:List Nat)(lo:Nat):Int:=match (Li lo (a.length+1 - lo)).find? (stA a b) with|some k=>(k:Int)|none=>-1
theorem qu(s sub:Str)(hi:Nat):∀(l:List Nat) (st:Array Nat×Nat),st.fst.size=1->(forIn l st (LY s sub hi 1)).run.fst=st.fst
 | [],_,_=>rfl
 | x::l,st,h=>by
  rw [forIn_cons];unfold LY;rw [if_neg (λz=>by have:=z.1.1.1;omega)];exact qu s sub hi l (st.fst,st.snd) h
theorem qv(s sub:Str)(hi:Nat)(p:Nat->Bool)(hp:∀i,p i=true ↔ (i+sub.length<=hi/\Lx s sub i=true)):∀(l:List Nat) (free:Nat),(∀i∈l,free<=i) ->
  (forIn l ((#[]:Array Nat),free) (LY s sub hi 1)).run.fst=(match l.find? p with|some k=>#[k]|none=>#[])
 | [],_,_=>rfl
 | x::l,free,hf=>by
  rw [forIn_cons,Kz];unfold LY;have hx:free<=x:=hf x (mem_cons_self ..)
  cases c:p x with
  | true =>
   have hc:=(hp x).mp c;rw [if_pos ⟨⟨⟨by simp,hx⟩,hc.1⟩,hc.2⟩];exact qu s sub hi l (#[x],x+sub.length) rfl
  | false =>
   rw [if_neg (λz=>by
    have:=(hp x).mpr ⟨z.1.2,z.2⟩;rw [c] at this;cases this)]
   exact qv s sub hi p hp l free λi h=>hf i (n_ _ h)
def B7(a b:List Nat)(i:Nat):Lx (S a) (S b) i=decide ((a.drop i).take b.length=b):=by
 unfold Lx;rw [hC]
 have e1:((S a).cps.extract i (i+b.length))=((a.drop i).take b.length).toArray:=by
  show a.toArray.extract _ _=_;rw [extract_toArray,KI];congr 2;omega
 rw [e1];show (((a.drop i).take b.length).toArray == b.toArray)=_
 by_cases h:(a.drop i).take b.length=b
 .rw [decide_eq_true h,h];simp
 .rw [decide_eq_false h,beq_eq_false_iff_ne];intro z;exact h (by simpa using congrArg MC z)
theorem wX(a b:List Nat)(lo:Nat):(match Lj (S a) (S b) lo (S a).length 1 with|k::_=>(k:Int)|[]=>-1)=fnd a b lo:=by
 rw [StrLaws.occ_eq,hC,qv (S a) (S b) a.length (stA a b) (λi=>?_) _ lo (λi hi=>(L6.mp hi).1)]
 .unfold fnd;cases (Li lo (a.length+1 - lo)).find? (stA a b) <;> rfl
 .unfold stA;rw [B7,hC];simp
def zo:MtR X "str.find" (λx xs H Q=>∃a b,x=.str (S a)/\xs=[.str (S b)]/\Q (.int (fnd a b 0)) H):=by
 intro pins s σ H x xs v us Q I rx rs h;obtain⟨a,b,rfl,rfl,q⟩:=h;obtain⟨t,rfl⟩:=rx;obtain⟨u,rfl,t',rfl⟩:=fg rs;have e:Txt.find (S a) (S b)=fnd a b 0:=wX a b 0;exact SC.find ⟨.int _,H,I.tok _,⟨_,rfl⟩,by rw [e];exact q⟩
def ud{a b:List Nat}{lo:Nat}(h:fnd a b lo≠-1):∃k:Nat,fnd a b lo=(k:Int)/\lo<=k/\stA a b k=true/\∀j,lo<=j->j<k->stA a b j=false:=by
 unfold fnd at h ⊢
 cases e:(Li lo (a.length+1 - lo)).find? (stA a b) with
 | none=>rw [e] at h;exact absurd rfl h
 | some k =>
  obtain⟨h1,h2⟩:=find?_eq_some_iff_append.mp e;obtain⟨as,bs,hl,hn⟩:=h2;have hk:k∈Li lo (a.length+1 - lo):=by rw [hl];simp
  refine⟨k,rfl,(L6.mp hk).1,h1,λj hj1 hj2=>?_⟩;have hj:j∈Li lo (a.length+1 - lo):=L6.mpr ⟨hj1,by have:=(L6.mp hk).2;omega⟩;have hs:(Li lo (a.length+1 - lo)).Pairwise (·<·):=List.pairwise_lt_range';rw [hl] at hj hs
  rcases Jw.mp hj with z|z
  .have:=hn j z;simpa using this
  .rcases mem_cons.mp z with z|z
   .omega
   .have:=(pairwise_cons.mp (pairwise_append.mp hs).2.1).1 j z;omega
def zp{a b:List Nat}{lo:Nat}(h:fnd a b lo=-1):∀j,lo<=j->stA a b j=false:=by
 unfold fnd at h
 cases e:(Li lo (a.length+1 - lo)).find? (stA a b) with
 | some k=>rw [e] at h;simp only at h;omega
 | none =>
  intro j hj
  by_cases hlt:j<a.length+1
  .have:=find?_eq_none.mp e j (L6.mpr ⟨hj,by omega⟩);simpa using this
  .unfold stA;rw [decide_eq_false (λz=>by have:=z.1;omega)]
def ly:isSubtype (.type "range_iterator") (.type "reversed")=pure false:=by rw [isSubtype_type];kernel_rfl
def lz(r:Addr)(a b c:Int)(t u v:Tok)(hc0:¬(!(g_ a && g_ b && g_ c && g_ (-c) && g_ (a - c) && g_ (q_ a b c)))=true):
  Meets (M_.«range.__reversed__» ⟨[.ref r],[]⟩) (λ_ R s=>s.heap.get? r=some { cls:=.type "range",dict:=none,data:=.fields #[.int a t,.int b u,.int c v],slots:=#[] }/\R (.ok (.ret (so s.heap.objs.size))) { s with heap:=s.heap.push { cls:=J5 (if (g_ a && g_ b && g_ c && g_ (-c) && g_ (a - c) && g_ (q_ a b c))=true then "range_iterator" else "longrange_iterator"),data:=.fields #[rawInt (a+(q_ a b c - 1)*c),rawInt (q_ a b c),rawInt (-c)] } }) :=
 .of_wp λprog w A R s h=>by obtain⟨hp,g,d,tk,os⟩:=s;obtain⟨hl,h⟩:=h;wp_walk;exact⟨_,rfl,h⟩
def iD{r:Addr}{a b c:Int}{t u v:Tok}{Q₁:Value->cy->Prop}(hr:IsRange s.heap r a b c t u v)(hs:(g_ a && g_ b && g_ c && g_ (-c) && g_ (a - c) && g_ (q_ a b c))=true)(h:Q₁ (.ref s.heap.objs.size) { s with heap:=s.heap.push { cls:=.type "range_iterator",data:=.fields #[rawInt (a+(q_ a b c - 1)*c),rawInt (q_ a b c),rawInt (-c)] } }):
  codeAny (model prog w) A (.call (.builtin "reversed.__new__") ⟨[.type "reversed",.ref r],[]⟩) (wants Q₁ E) s:=by
 have hT:s.TypeIs (.ref r) "range":=⟨_,hr,rfl⟩
 refine codeAny_of_tree ?_;show wpAny _ A.in1 (do checkBuiltinCall "reversed.__new__" ⟨[.type "reversed",.ref r],[]⟩;again (.builtin "reversed.__new__" ⟨[.type "reversed",.ref r],[]⟩)) _ _ s;refine cn (KM (F.newCall_reversed_1 _) (h_ ⟨K6 F.plain_reversed_new _,LZ F.entry_reversed_new ?_⟩));rw [KN F.plain_reversed_new _];unfold M_.«reversed.__new__»
 refine cn (KM (newClass_reversed _) ?_)
 try dsimp only
 refine cn (KM (a:=()) (by first|rfl|kernel_rfl) ?_);refine cn (KM (a:=()) (by first|rfl|kernel_rfl) ?_)
 try dsimp only
 refine cn (K8 hT F.slot_range_reversed.lookup ?_)
 try dsimp only
 refine cn (KM (F.slot_range_reversed.bind _) ?_)
 try dsimp only
 first
 | rw [if_neg (show ¬ ((Value.builtin "range.__reversed__" == JX)=true) from j_)]
 | (show wpAny _ _ (if (Value.builtin "range.__reversed__" == JX)=true then _ else _) _ _ _;rw [if_neg (show ¬ ((Value.builtin "range.__reversed__" == JX)=true) from j_)])
 refine cn (MM ?_)
 refine cn (m:=runValue (.call (.builtin "range.__reversed__") ⟨[.ref r],[]⟩)) (show wpAny _ _ (call (.builtin "range.__reversed__") [.ref r]) _ _ _ from
  Md F.slot_range_reversed hT F.entry_range_reversed (F.args_range_reversed_1 _) (lz r a b c t u v (by rw [hs];decide)) ⟨hr,?_⟩)
 simp only [hs,if_true]
 first
 | exact h_ h
 | exact cn (h_ (h_ h))
def iE{r:Addr}{a b c:Int}{t u v:Tok}(hr:IsRange s.heap r a b c t u v)(hs:(g_ a && g_ b && g_ c && g_ (-c) && g_ (a - c) && g_ (q_ a b c))=true)(h:Q (.ref s.heap.objs.size) { s with heap:=s.heap.push { cls:=.type "range_iterator",data:=.fields #[rawInt (a+(q_ a b c - 1)*c),rawInt (q_ a b c),rawInt (-c)] } }):
  wpAny (model prog w) A (call (.type "reversed") [.ref r]) Q E s:=by
 refine callType_other (U:="range_iterator") (Q₁:=λobj s₁=>obj=.ref s.heap.objs.size/\s₁={ s with heap:=s.heap.push { cls:=.type "range_iterator",data:=.fields #[rawInt (a+(q_ a b c - 1)*c),rawInt (q_ a b c),rawInt (-c)] } }) (by decide +kernel) F.create_reversed ⟨_,_,F.mro_reversed⟩ F.made_reversed ly (F.typeCall_reversed_1 _) (iD hr hs ⟨rfl,rfl⟩) ?_;rintro obj s₁ ⟨rfl,rfl⟩
 exact⟨⟨_,kx _ rfl,rfl⟩,h⟩
def kf(j:Int):q_ 0 j 1=((j.toNat:Nat):Int):=by
 unfold q_;rw [if_pos (by decide)];simp only [ediv_one];split <;> omega
noncomputable def Eu(ta:TA):TI:=λσ H R=>ta σ H λvs H1=>∃j:Int,vs=[.int j]/\(-(2^60)<=j/\j<2^60)/\R (Its (kF (j - 1) j.toNat)) H1
def r0{a:Expr}(hg2:Gl X "reversed")(hm2:X.mg "reversed"=none)(hg:Gl X "range")(hm:X.mg "range"=none)(ha:PA X [a] ta)(hs:starEach [.Call (.Name "range" p1) [a] [] p2] X.env=[(false,eval (.Call (.Name "range" p1) [a] [] p2) X.env)]:=by rfl)(hs2:starEach [a] X.env=[(false,eval a X.env)]:=by rfl):
  PI X tg (.Call (.Name "reversed" p) [.Call (.Name "range" p1) [a] [] p2] [] pos) (Eu ta):=by
 intro pins s σ H R I h;refine Call_ (gu I hg2 hm2 boot_reversed (D_ ?_ hs rfl));rw [hs];show wpAny _ _ (spliced ((false,eval (.Call (.Name "range" p1) [a] [] p2) X.env)::backTo pos [])) _ _ s;refine Kx ?_;refine Call_ (gu I hg hm boot_range (D_ (thn (ha p2 pins s σ H _ I h) λus s1 ⟨vs,H1,I1,r1,q1⟩=>?_) hs2 rfl));obtain⟨j,e,⟨b1,b2⟩,q⟩:=q1
 subst e
 cases r1 with
 | cons r rr =>
  cases rr;obtain⟨t,rfl⟩:=r;refine call_range_1 (KC ?_)
  refine iE (MZ ..) ?_ ?_
  .rw [kf];simp only [g_,and_eq_true,decide_eq_true_eq];omega
  rw [kf,show (0:Int)+((j.toNat:Nat) - 1)*1=((j.toNat:Nat):Int) - 1 by omega];refine Kw (x:=((j.toNat:Nat):Int) - 1) (left:=((j.toNat:Nat):Int)) (step:=-1) (kx _ rfl) ?_;have I2:Inv X pins σ H1 { s1 with heap:=s1.heap.push { cls:=.type "range",data:=.fields #[.int 0 s1.toks,.int j t,.int 1 (s1.toks+1)] },toks:=s1.toks+1+1 }:=I1.kept λb o e=>d_ _ e
  refine⟨_,[(s1.heap.push { cls:=.type "range",data:=.fields #[.int 0 s1.toks,.int j t,.int 1 (s1.toks+1)] }).objs.size],_,Its (kF (j - 1) j.toNat),H1,rfl,I2.kept (t':=s1.toks+1+1) λb o e=>d_ _ e,
   i5 (λA hA=>Walks.range hA _ (((j.toNat:Nat):Int) - 1) (-1) j.toNat) (i6 _ _) ?_ ?_ ?_ ?_ (λA i s Q E st q=>Kw st q),?_,λb hb=>?_,q⟩
  .rintro k v hk ⟨t,rfl⟩
   refine⟨.int (j - 1 - k),?_,t,?_⟩
   .unfold kF;rw [gV,Jv hk];rfl
   .have e:((j.toNat:Nat):Int) - 1+(k:Int)*(-1)=j - 1 - k:=by omega
    rw [e]
  .rintro k v ⟨t,rfl⟩ a z;cases z
  .exact λk h st=>⟨_,st,λv z=>by
    have z':Data.fields _=Data.cell v:=z;cases z'⟩
  .exact λk h h' st kk=>kk _ (by simp) _ st
  .show MY _ _ (((j.toNat:Nat):Int) - 1+((0:Nat):Int)*(-1)) (((j.toNat:Nat):Int) - ((0:Nat):Int)) (-1);simp only [natCast_zero,Int.zero_mul,add_zero,Ng];exact kx _ rfl
  .have e:b=(s1.heap.push { cls:=.type "range",data:=.fields #[.int 0 s1.toks,.int j t,.int 1 (s1.toks+1)] }).objs.size:=by simpa using hb
   subst e;exact I2.fpOk (f_ _) (I2.hok.fresh (f_ _))
noncomputable def Itk(k:Bool)(K:b_)(a:Addr):It:=cond k (Itt K a) (Itl K a)
noncomputable def Ev(K:b_):R2:=λx y H Q=>∃l b xs zs,x=.ref l/\y=.ref b/\SqL K H l xs/\SqL K H b zs/\xs.length+zs.length<=sizeLine/\∀p,H p=none->Q (.ref p) (upd H p (.lst (xs++zs)))
def B8:OpR X (binaryOp .Add) (Ev X.K):=by
 intro pins s σ H x y v u Q I rx ry h;obtain⟨l,b,xs,zs,rfl,rfl,hH,hB,hz,q⟩:=h;cases rx;cases ry;obtain⟨its,r,pl,hl⟩:=I.list hH;obtain⟨its2,r2,pl2,hl2⟩:=I.list hB;obtain⟨⟨cls,dd,data,sl⟩,ho,hc,n,hd⟩:=pl.isList;obtain⟨⟨cls2,dd2,data2,sl2⟩,ho2,hc2,n2,hd2⟩:=pl2.isList;simp only at hc hd hc2 hd2;subst hc hd hc2 hd2;have n1:=r.length;have n2':=r2.length;have ea:its.toArray++its2.toArray=(its++its2).toArray:=by simp
 have fin:EP X pins σ Q (.ref s.heap.objs.size) { s with heap:=s.heap.push { cls:=.type "list",data:=.seq (its.toArray++its2.toArray) } }:=by
  rw [ea];exact⟨.ref _,_,I.lnew (t':=s.toks) (r.append r2) (by rw [length_append];omega),rfl,q _ I.fresh⟩
 exact MH ⟨_,ho,rfl⟩ ⟨_,ho2,rfl⟩ noFill_list_add seq_list_add PySem.F.slot_list_add PySem.F.entry_list_add (PySem.F.args_list_add_2 _ _) (list_addW l b its.toArray its2.toArray n n2 dd dd2 sl sl2 (by simp;omega)) ⟨ho,ho2,fin⟩
noncomputable def lA(n:Nat)(d:Ld):Prop:=d.canLay0=true/\d.depth<=n
def lA.shaped{d:Ld}(h:lA n d)(hn:n<=64):JU d=true:=by
 unfold JU;rw [h.1,decide_eq_true (F_ h.2 hn)];rfl
theorem r8:∀{ds:List Ld},(∀d∈ds,lA n d)->Ly ds=true/\K9 ds<=n
 | [],_=>⟨rfl,Lo _⟩
 | d::ds,h=>by
  obtain⟨a,b⟩:=r8 (ds:=ds) λx hx=>h x (n_ _ hx);obtain⟨c,e⟩:=h d mem_cons_self;simp only [Ly,K9,a,c];exact⟨rfl,max_le.mpr ⟨e,b⟩⟩
def lA.list{ds:List Ld}(h:∀d∈ds,lA n d):lA (n+1) (.list ds):=by
 obtain⟨a,b⟩:=r8 h;exact⟨by simp only [Lz];exact a,by simp only [L7];omega⟩
def lA.tuple{ds:List Ld}(h:∀d∈ds,lA n d):lA (n+1) (.tuple ds):=by
 obtain⟨a,b⟩:=r8 h;exact⟨by simp only [Lz];exact a,by simp only [L7];omega⟩
def lA.int(i:Int):lA 0 (.int i):=⟨by simp [Lz],by simp [L7]⟩
noncomputable def Lts(l:List Nat):Prop:=∀c∈l,97<=c/\c<=122
def Lts.app{a b:List Nat}(x:Lts a)(y:Lts b):Lts (a++b):=λc h=>(Jw.mp h).elim (x c) (y c)
def Lts.one{c:Nat}(h:97<=c/\c<=122):Lts [c]:=λd hd=>by
 have:d=c:=by simpa using hd
 subst this;exact h
def Lts.take{a:List Nat}(x:Lts a)(n:Nat):Lts (a.take n):=λc h=>x c (mem_of_mem_take h)
def Lts.drop{a:List Nat}(x:Lts a)(n:Nat):Lts (a.drop n):=λc h=>x c (mem_of_mem_drop h)
def Lts.cut{a:List Nat}(x:Lts a)(lo hi:Option Int):Lts (eM a lo hi):=(x.drop _).take _
def Lts.rep{a:List Nat}(x:Lts a)(n:Int):Lts (t9 a n):=λc h=>by
 unfold t9 at h;obtain⟨l,h1,h2⟩:=mem_flatten.mp h;rw [eq_of_mem_replicate h1] at h2;exact x c h2
def lA.str{l:List Nat}(h:Lts l):lA 0 (.str (S l)):=by
 refine⟨?_,by simp [L7]⟩;simp only [Lz,PyData.strOk,S];rw [Array.all_eq_true];intro i hi;have:=h l[i] (Ku _);simp only [getElem_toArray,decide_eq_true_eq];omega
def qw(ns:List Int):∀d∈ns.map PyData.int,lA 0 d:=λd hd=>by
 obtain⟨i,_,rfl⟩:=JA.mp hd;exact lA.int i
variable {ws:List (List Nat)}
def vd(h:∀w∈ws,Lts w):∀d∈ws.map (λw=>PyData.str (S w)),lA 0 d:=λd hd=>by
 obtain⟨i,hi,rfl⟩:=JA.mp hd;exact lA.str (h i hi)
def qx(h:∀w∈ws,Lts w):JU (.list (ws.map λw=>PyData.str (S w)))=true:=(lA.list (vd h)).shaped (by decide)
def zq{d:Ld}(h:JU d=true):Mf d d=true:=SeqAt.eqv_refl d (SeqAt.canLay_of_shaped h)
theorem lB(p:Nat->Prop)(h0:p 0):∀n,0<n->∃k,k<n/\p k/\∀j,j<n->p j->j<=k
 | 0,h=>absurd h (by decide)
 | 1,_=>⟨0,by decide,h0,λj hj _=>by omega⟩
 | n+2,_=>by
  obtain⟨k,h1,h2,h3⟩:=lB p h0 (n+1) (by omega)
  by_cases c:p (n+1)
  .exact⟨n+1,by omega,c,λj hj _=>by omega⟩
  .refine⟨k,by omega,h2,λj hj hp=>?_⟩
   by_cases e:j=n+1
   .subst e;exact absurd hp c
   .exact h3 j (by omega) hp
variable {κ:Type} [DecidableEq κ]
noncomputable def pY(kvs:List (κ×V))(k:κ):Option V:=(kvs.find? λkv=>decide (kv.1=k)).map (·.2)
noncomputable def ve(kvs:List (κ×V))(k:κ)(v:V):List (κ×V) :=
 if (kvs.any λkv=>decide (kv.1=k))=true then kvs.map (λkv=>if kv.1=k then (kv.1,v) else kv) else kvs++[(k,v)]
noncomputable def sd(kvs:List (κ×V))(k:κ):List (κ×V):=kvs.filter λkv=>decide (kv.1≠k)
def kS{p:κ×V}{r:List (κ×V)}{k:κ}(e:p.1=k):pY (p::r) k=some p.2:=by simp [pY,Kz,e]
def kT{p:κ×V}{r:List (κ×V)}{k:κ}(e:¬ p.1=k):pY (p::r) k=pY r k:=by simp [pY,Kz,e]
theorem ue(k:κ):∀kvs:List (κ×V),(kvs.any λkv=>decide (kv.1=k))=(pY kvs k).isSome
 | []=>rfl
 | p::r=>by
  rw [any_cons]
  by_cases e:p.1=k
  .simp only [kS e,decide_eq_true e,Bool.true_or,Option.isSome_some]
  .rw [kT e,decide_eq_false e,Mu];exact ue k r
def lC(kvs:List (κ×V))(k:κ)(v:V):(ve kvs k v).length<=kvs.length+1:=by
 unfold ve
 split
 .rw [length_map];omega
 .rw [length_append,length_cons,length_nil];omega
def p4.isSome_eq{o:Option V}{u:Option Value}(r:p4 o u):o.isSome=u.isSome:=by
 cases o with
 | none=>cases u with
  | none=>rfl
  | some _=>exact (show False from r).elim
 | some _=>cases u with
  | none=>exact (show False from r).elim
  | some _=>rfl
variable {kvs:List (κ×V)}
def KV.val{vs:List (κ×Value)}(r:KV kvs vs)(k:κ):p4 (pY kvs k) (valueAt vs k):=by
 unfold KV at r
 induction r with
 | nil=>exact JM
 | @cons p q ps qs h t ih =>
  obtain⟨h1,h2⟩:=h
  by_cases e:p.1=k
  .have e':q.1=k:=h1.symm.trans e;have b:valueAt (q::qs) k=some q.2:=by simp [valueAt,Kz,e']
   rw [kS e,b];exact h2
  .have e':¬ q.1=k:=λz=>e (h1.trans z);have b:valueAt (q::qs) k=valueAt qs k:=by simp [valueAt,Kz,e']
   rw [kT e,b];exact ih
def KV.any{vs:List (κ×Value)}(r:KV kvs vs)(k:κ):(kvs.any λkv=>decide (kv.1=k))=vs.any λkv=>decide (kv.1=k):=by
 unfold KV at r
 induction r with
 | nil=>rfl
 | cons h t ih=>rw [any_cons,any_cons,ih,h.1]
variable {y:V}
def KV.repl{vs:List (κ×Value)}(r:KV kvs vs)(k:κ)(ry:bW y u):
  KV (kvs.map λkv=>if kv.1=k then (kv.1,y) else kv) (vs.map λkv=>if kv.1=k then (kv.1,u) else kv):=by
 unfold KV at r ⊢
 induction r with
 | nil=>exact .nil
 | @cons p q ps qs h t ih =>
  rw [map_cons,map_cons];refine .cons ?_ ih;obtain⟨h1,h2⟩:=h
  by_cases e:p.1=k
  .rw [if_pos e,if_pos (h1.symm.trans e)];exact⟨h1,ry⟩
  .rw [if_neg e,if_neg (λz=>e (h1.trans z))];exact⟨h1,h2⟩
def KV.put{vs:List (κ×Value)}(r:KV kvs vs)(k:κ)(ry:bW y u):KV (ve kvs k y) (stored vs k u):=by
 unfold ve stored;rw [r.any k]
 by_cases e:(vs.any λkv=>decide (kv.1=k))=true
 .rw [if_pos e,if_pos e];exact r.repl k ry
 .rw [if_neg e,if_neg e];exact Paired.snoc r ⟨rfl,ry⟩
def KV.drop{vs:List (κ×Value)}(r:KV kvs vs)(k:κ):KV (sd kvs k) (without vs k):=by
 unfold KV at r ⊢;unfold sd without
 induction r with
 | nil=>exact .nil
 | @cons p q ps qs h t ih =>
  obtain⟨h1,h2⟩:=h;rw [filter_cons,filter_cons]
  by_cases e:p.1=k
  .have a:¬ decide (p.1≠k)=true:=by simp [e]
   have b:¬ decide (q.1≠k)=true:=by simp [h1.symm.trans e]
   rw [if_neg a,if_neg b];exact ih
  .have e':¬ q.1=k:=λz=>e (h1.trans z);have a:decide (p.1≠k)=true:=by simp [e]
   have b:decide (q.1≠k)=true:=by simp [e']
   rw [if_pos a,if_pos b];exact .cons ⟨h1,h2⟩ ih
def KV.length{vs:List (κ×Value)}(r:KV kvs vs):kvs.length=vs.length:=Paired.length r
def zr(kvs:List (κ×V))(k:κ):(sd kvs k).length<=kvs.length:=JR _ _
def wY{P:s_}{k:Key}(r:bW (kV k) u):(bV P w).is k u=true:=by
 cases k with
 | inl i=>obtain⟨t,e⟩:=(show ∃t,u=Lg i t from r);subst e;exact rN P w i t
 | inr x=>obtain⟨t,e⟩:=(show ∃t,u=LF x t from r);subst e;exact rO P w x t
theorem qy{P:s_}:∀{ks:List Key}{us:List Value},bD (ks.map kV) us->ItemsAre (bV P w) ks us
 | [],_,r=>by rw [map_nil] at r;cases r;exact .nil
 | k::ks,_,r=>by
  rw [map_cons] at r
  cases r with
  | cons h t=>exact .cons (wY h) (qy t)
abbrev KT(H:Hp):List (List Key×V)->List (List Key×Addr×Value)->Prop:=Paired λp q=>p.1=q.1/\H q.2.1=some (.tup (p.1.map kV))/\bW p.2 q.2.2
def KT.val{kvs:List (List Key×V)}{xs:List (List Key×Addr×Value)}(r:KT H kvs xs)(k:List Key):p4 (pY kvs k) ((atKey xs k).map (·.2)):=by
 induction r with
 | nil=>exact JM
 | @cons p q ps qs h t ih =>
  obtain⟨h1,_,h2⟩:=h
  by_cases e:p.1=k
  .have e':q.1=k:=h1.symm.trans e;have b:atKey (q::qs) k=some q.2:=by simp [atKey,Kz,e']
   rw [kS e,b];exact h2
  .have e':¬ q.1=k:=λz=>e (h1.trans z);have b:atKey (q::qs) k=atKey qs k:=by simp [atKey,Kz,e']
   rw [kT e,b];exact ih
def KT.repl{kvs:List (List Key×V)}{xs:List (List Key×Addr×Value)}(r:KT H kvs xs)(k:List Key)(ry:bW y u):
  KT H (kvs.map λkv=>if kv.1=k then (kv.1,y) else kv) (xs.map (putAt k u)):=by
 induction r with
 | nil=>exact .nil
 | @cons p q ps qs h t ih =>
  rw [map_cons,map_cons];refine .cons ?_ ih;obtain⟨h1,h2,h3⟩:=h;unfold putAt
  by_cases e:p.1=k
  .rw [if_pos e,if_pos (h1.symm.trans e)];exact⟨h1,h2,ry⟩
  .rw [if_neg e,if_neg (λz=>e (h1.trans z))];exact⟨h1,h2,h3⟩
variable {b:Addr}
def KT.put{kvs:List (List Key×V)}{xs:List (List Key×Addr×Value)}(r:KT H kvs xs)(k:List Key)(hb:H b=some (.tup (k.map kV)))(ry:bW y u):
  KT H (ve kvs k y) (storedH xs k b u):=by
 have e:(kvs.any λkv=>decide (kv.1=k))=(atKey xs k).isSome:=by
  rw [ue,(r.val k).isSome_eq,Mr]
 unfold ve storedH;rw [e]
 by_cases q:(atKey xs k).isSome=true
 .rw [if_pos q,if_pos q];exact r.repl k ry
 .rw [if_neg q,if_neg q];exact Paired.snoc r ⟨rfl,hb,ry⟩
variable {H':Hp}
def KT.keeps{kvs:List (List Key×V)}{xs:List (List Key×Addr×Value)}(r:KT H kvs xs)(ht:∀b ys,H b=some (.tup ys)->H' b=some (.tup ys)):KT H' kvs xs :=
 Paired.mapP r λ_ _ z=>⟨z.1,ht _ _ z.2.1,z.2.2⟩
section
variable {P:s_}
def Ew{u:HO}(ok:HOk P w H h)(e:Rd H a u):bB P w H h a u:=e.ok ok
def vf{kvs:List (Key×V)}(ok:HOk P w H h)(e:Rd H a (.dK kvs)):kvs.length<=sizeLine/\(a == sysModules)=false/\∃vs,KV kvs vs/\h.DictOf (bV P w) a vs :=
 show bB P w H h a (.dK kvs) from Ew ok e
def zt{kvs:List (Key×V)}(ok:HOk P w H h)(e:H a=some (.dK kvs)):kvs.length<=sizeLine/\(a == sysModules)=false/\∃vs,KV kvs vs/\h.DictOf (bV P w) a vs:=vf ok (.inl e)
variable {ks:List Key}
def uf(ok:HOk P w H h)(e:H a=some (.tup (ks.map kV))):(tupleKind (bV P w)).is h ks a:=by
 obtain⟨_,its,r,o,h1,h2,n,h3⟩:=(show bB P w H h a (.tup (ks.map kV)) from ok a _ e)
 exact⟨o,its.toArray,n,h1,h2,h3,by simpa using qy r⟩
def wZ{kvs:List (List Key×V)}(ok:HOk P w H h)(e:Rd H a (.dT kvs)):kvs.length<=sizeLine/\(a == sysModules)=false /\
  ∃xs,KT H kvs xs/\h.DictOfH (tupleKind (bV P w)) a xs:=by
 obtain⟨z,y,xs,r,o,es,ep,h1,h2,h3,h4,h5⟩:=(show bB P w H h a (.dT kvs) from Ew ok e)
 refine⟨z,y,xs,r,o,es,ep,h1,h2,h3,h4,λx hx=>?_,h5⟩
 have all:∀{l:List (List Key×V)}{m:List (List Key×Addr×Value)},KT H l m->∀x∈m,(tupleKind (bV P w)).is h x.1 x.2.1:=by
  intro l m q
  induction q with
  | nil=>intro x hx;exact nomatch hx
  | @cons p q ps qs hq t ih =>
   intro x hx
   rcases mem_cons.mp hx with e|hx
   .subst e;exact uf ok (by rw [<- hq.1];exact hq.2.1)
   .exact ih x hx
 exact all r x hx
def G8{kvs:List (List Key×V)}(ok:HOk P w H h)(e:H a=some (.dT kvs)):kvs.length<=sizeLine/\(a == sysModules)=false /\
  ∃xs,KT H kvs xs/\h.DictOfH (tupleKind (bV P w)) a xs:=wZ ok (.inl e)
end
noncomputable def yK(H:Hp)(a:Addr)(y:V)(r:Option V):Prop :=
 (∃kvs k,Rd H a (.dK kvs)/\y=kV k/\r=pY kvs k)\/∃kvs k b,Rd H a (.dT kvs)/\y=.ref b/\H b=some (.tup (k.map kV))/\r=pY kvs k
noncomputable def Ex(H:Hp)(a:Addr)(y v:V)(H':Hp):Prop :=
 (∃kvs k,H a=some (.dK kvs)/\y=kV k/\kvs.length<sizeLine/\H'=upd H a (.dK (ve kvs k v))) \/
 ∃kvs k b,H a=some (.dT kvs)/\y=.ref b/\H b=some (.tup (k.map kV))/\kvs.length<sizeLine/\H'=upd H a (.dT (ve kvs k v))
def yK.k{kvs:List (Key×V)}{k:Key}(e:H a=some (.dK kvs)):yK H a (kV k) (pY kvs k):=.inl ⟨kvs,k,.inl e,rfl,rfl⟩
variable {v:V}
def Ex.k{kvs:List (Key×V)}{k:Key}(e:H a=some (.dK kvs))(hl:kvs.length<sizeLine):Ex H a (kV k) v (upd H a (.dK (ve kvs k v))):=.inl ⟨kvs,k,e,rfl,hl,rfl⟩
def Inv.big(I:Inv X pins σ H s):sysModules<s.heap.objs.size:=by
 have h:mainGlobals<s.heap.objs.size:=(I.mod.glob.keeps I.bk).lt;exact Nat.lt_trans (by decide) h
variable {o:Option V}
def w4(hu:A.units+1<cLine)(I:Inv X pins σ H s)(g:yK H a y (some v))(ry:bW y u)(h:∀w' s',Inv X pins σ H s'->bW v w'->Q w' s'):
  wpAny (model X.prog X.w) A (getItem (.ref a) u) Q E s:=by
 rcases g with ⟨kvs,k,e,ey,l⟩|⟨kvs,k,b,e,ey,eb,l⟩
 .subst ey;obtain⟨z,hd,vs,rel,dd⟩:=vf I.hok e;obtain⟨w',hw,rw'⟩:=p4.some_of (v:=v) (o:=valueAt vs k) (by rw [l];exact rel.val k);exact wpAny_getItem_of (wY ry) dd.mapOf hw (h w' _ (I.tok _) rw')
 .subst ey;cases (show u=so b from ry);obtain⟨z,hd,xs,rel,dd⟩:=wZ I.hok e;obtain⟨w',hw,rw'⟩:=p4.some_of (v:=v) (o:=(atKey xs k).map (·.2)) (by rw [l];exact rel.val k);obtain⟨p,hp,hp2⟩:=Lk.mp hw;refine wpAny_getItem_heap (Mh hu) (uf I.hok eb) dd hp ?_;rw [hp2];exact h w' _ (I.tok _) rw'
def B9(hu:A.units+1<cLine)(I:Inv X pins σ H s)(g:yK H a y o)(ry:bW y u)(h:∀s',Inv X pins σ H s'->Q (.bool (!o.isSome)) s'):
  wpAny (model X.prog X.w) A (compareOp .NotIn u (.ref a)) Q E s:=by
 rcases g with ⟨kvs,k,e,ey,l⟩|⟨kvs,k,b,e,ey,eb,l⟩
 .subst ey;obtain⟨z,hd,vs,rel,dd⟩:=vf I.hok e;refine wpAny_notIn_of (wY ry) hd dd.mapOf ?_;rw [<- (rel.val k).isSome_eq,<- l];exact h _ (I.tok _)
 .subst ey;cases (show u=so b from ry);obtain⟨z,hd,xs,rel,dd⟩:=wZ I.hok e;refine wpAny_notIn_heap (Mh hu) (uf I.hok eb) hd dd ?_;have q:=(rel.val k).isSome_eq;rw [Mr] at q;rw [<- q,<- l];exact h _ (I.tok _)
variable {t':Nat}
def se{ob:HO}(I:Inv X pins σ H s)(mu:Mut (H a))(hs:KQ a s.heap h')(he:∃q,h'.get? a=some q)(new:bB X.prog X.w (upd H a ob) h' a ob):
  Inv X pins σ (upd H a ob) { s with heap:=h',toks:=t' } :=
 I.write (x:=a) (e:=a) mu (.inl rfl) (λb q hb z=>(hs.2 b hb).trans z) he new
def AS{P:s_}{kvs:List (Key×V)}{vs:List (Key×Value)}(z:kvs.length<=sizeLine)(hd:(a == sysModules)=false)(rel:KV kvs vs)(dd:h'.DictOf (bV P w) a vs):
  bB P w H' h' a (.dK kvs):=⟨z,hd,vs,rel,dd⟩
variable {r:Value}
def w6{Q:Unit->cy->Prop}(hu:A.units+1<cLine)(I:Inv X pins σ H s)(g:Ex H a y v H')(ry:bW y u)(rv:bW v r)(h:∀s',Inv X pins σ H' s'->Q () s'):
  wpAny (model X.prog X.w) A (setItem (.ref a) u r) Q E s:=by
 rcases g with ⟨kvs,k,e,ey,l,eH⟩|⟨kvs,k,b,e,ey,eb,l,eH⟩
 .subst ey eH;obtain⟨z,hd,vs,rel,dd⟩:=zt I.hok e;have hz:vs.length<=sizeLine:=by rw [<- rel.length];exact z
  have hl:(ve kvs k v).length<=sizeLine:=by have:=lC kvs k v;omega
  refine wpAny_setItem_pairs (hsz:=hz) (wY ry) dd λh' dd' hs=>h _ ?_;have he:∃q,h'.get? a=some q:=let ⟨q,_,_,hq,_⟩:=dd';⟨q,hq⟩
  exact se I (by rw [e];exact JM) hs he (AS hl hd (rel.put k rv) dd')
 .subst ey eH;cases (show u=so b from ry);obtain⟨z,hd,xs,rel,dd⟩:=G8 I.hok e;have hz:xs.length<=sizeLine:=by rw [<- Paired.length rel];exact z
  have hl:(ve kvs k v).length<=sizeLine:=by have:=lC kvs k v;omega
  refine wpAny_setItem_heap (hsz:=hz) (Mh hu) (uf I.hok eb) dd λh' dd' hs=>h _ ?_;obtain⟨q,es,ep,hq,h2,h3,h4,_,h5⟩:=dd';refine se I (by rw [e];exact JM) hs ⟨q,hq⟩ ⟨hl,hd,_,(rel.put k eb rv).keeps λc ys ec=>?_,q,es,ep,hq,h2,h3,h4,h5⟩;rw [ar (GN ec e (λz=>nomatch z))];exact ec
section
variable {kvs:List (Key×V)}{k:Key}
def G9{more:List Value}(I:Inv X pins σ H s)(e:H a=some (.dK kvs))(ry:bW (kV k) u)(l:pY kvs k=some v)(hm:more=[]\/∃x,more=[x])(h:∀w' s',Inv X pins σ (upd H a (.dK (sd kvs k))) s'->bW v w'->Q w' s'):wpAny (model X.prog X.w) A (call (.builtin "dict.pop") (.ref a::u::more)) Q E s:=by
 obtain⟨z,hd,vs,rel,dd⟩:=zt I.hok e;obtain⟨w',hw,rw'⟩:=p4.some_of (v:=v) (o:=valueAt vs k) (by rw [<- l];exact rel.val k)
 have hp:(keyPart u).isSome=true:=by
  cases k with
  | inl i=>obtain⟨t,q⟩:=(show ∃t,u=Lg i t from ry);subst q;rfl
  | inr x=>obtain⟨t,q⟩:=(show ∃t,u=LF x t from ry);subst q;rfl
 have ha:argsOk "dict.pop" ⟨.ref a::u::more,[]⟩:=by
  rcases hm with q|⟨x,q⟩
  .subst q;exact PySem.F.args_dict_pop_2 _ _
  .subst q;exact PySem.F.args_dict_pop_3 _ _ _
 refine call_meetsIn MU dd.typeIs PySem.F.entry_dict_pop ha (meets_dict_pop_there (bV X.prog X.w) a (wY ry) more hm hp)
  ⟨vs,w',dd,by rw [<- rel.length];exact z,hw,λh' dd' hs=>h w' _ ?_ rw'⟩
 have he:∃q,h'.get? a=some q:=let ⟨q,_,_,hq,_⟩:=dd';⟨q,hq⟩
 exact se I (by rw [e];exact JM) hs he (AS (F_ (zr kvs k) z) hd (rel.drop k) dd')
def Ha(I:Inv X pins σ H s)(e:Rd H a (.dK kvs))(h:∀t s',Inv X pins σ H s'->Q (.int kvs.length t) s'):wpAny (model X.prog X.w) A (call (.builtin "len") [.ref a]) Q E s:=by
 obtain⟨z,hd,vs,rel,dd⟩:=vf I.hok e;refine call_len_dict hd dd (by rw [<- rel.length];rw [LP] at z;omega) ?_;rw [<- rel.length];exact h _ _ (I.tok _)
end
noncomputable def Hb(i:Expr):Prop:=∀ov iv,subscripted i false ov iv=operate [ov,iv] (getItem ov iv)
def Ca{value slice:Expr}{T id:String}(hl:typeLookup (.type T) "__getitem__"=pure (some (.builtin id)))(hs:Hb slice)(h:wpAny (model prog w) A (eval value env) (λo s₁=>wpAny (model prog w) A (eval slice env) (λi s₂=>s₂.TypeIs o T/\wpAny (model prog w) A (getItem o i) Q E s₂) E s₁) E s):
  wpAny (model prog w) A (eval (.Subscript value slice pos) env) Q E s:=by
 refine Subscript_ (H_ h (λo s₁ h₁=>H_ h₁ (λi s₂ h₂=>?_) λ_ _ x=>x) λ_ _ x=>x);obtain⟨hT,h₂⟩:=h₂;unfold subscriptTail;refine cn ?_;rw [getitemInPython_of_ne hT.not_modules];refine cn (K8 hT hl ?_)
 have fin:wpAny (model prog w) A (subscripted slice false o i) (λr s₃=>wpAny (model prog w) A (letTemporaryGo value o r >>= λ_=>pure r) Q E s₃) E s₂:=by
  rw [hs o i];exact wpAny_operating (H_ h₂ (λr s₃ h₃=>cn (wpAny_letTemporaryGo (h_ h₃))) λ_ _ x=>x)
 first
  | exact h_ (cn fin)
  | exact cn (h_ (cn fin))
  | exact cn fin
def sf(I:Inv X pins σ H s)(g:yK H a y o):s.TypeIs (.ref a) "dict":=by
 rcases g with ⟨kvs,k,e,_,_⟩|⟨kvs,k,b,e,_,_,_⟩
 .obtain⟨_,_,vs,_,dd⟩:=vf I.hok e;exact dd.typeIs
 .obtain⟨_,_,xs,_,dd⟩:=wZ I.hok e;exact dd.typeIs
noncomputable def Hc(td ty:TE):TE:=λσ H Q=>td σ H λx H1=>ty σ H1 λy H2=>∃a v,x=.ref a/\yK H2 a y (some v)/\Q v H2
noncomputable def Cb(td ty tv:TE):TS:=λD σ H=>tv σ H λv H1=>td σ H1 λx H2=>ty σ H2 λy H3=>∃a H4,x=.ref a/\Ex H3 a y v H4/\D.nx σ H4
section
variable {o i:Expr}{td ty:TE}
def Cc(hu:X.A.units+1<cLine)(ho:PE X o td)(hi:PE X i ty)(hs:Hb i):PE X (.Subscript o i pos) (Hc td ty):=by
 intro pins s σ H Q I h;refine Ca PySem.F.slot_dict_getitem.lookup hs (thn (ho pins s σ H _ I h) λu s1 ⟨x,H1,I1,rx,q1⟩=>thn (hi pins s1 σ H1 _ I1 q1) λiv s2 ⟨y,H2,I2,ry,a,v,ex,g,q2⟩=>?_);subst ex;obtain rfl:u=so a:=rx;exact⟨sf I2 g,w4 hu I2 g ry λw' s3 I3 rw'=>⟨v,H2,I3,rw',q2⟩⟩
variable {value:Expr}{pos':Pos}{tv:TE}
def Cd(hu:X.A.units+1<cLine)(ho:PE X o td)(hi:PE X i ty)(hv:PE X value tv)(hs:swapsWith value (some (.Subscript o i pos')) pos.line X.env=pure false):
  PS X (.Assign [.Subscript o i pos'] value pos) (Cb td ty tv):=by
 intro pins s σ H D I h;refine wpAny_Assign_Subscript (thn (hv pins s σ H _ I h) λr s1 ⟨v,H1,I1,rv,q1⟩=>thn (ho pins s1 σ H1 _ I1 q1) λu s2 ⟨x,H2,I2,rx,q2⟩=>thn (hi pins s2 σ H2 _ I2 q2) λiv s3 ⟨y,H3,I3,ry,a,H4,ex,g,q3⟩=>?_) hs;subst ex;obtain rfl:u=so a:=rx;exact w6 hu I3 g ry rv λs4 I4=>⟨σ,H4,I4,q3⟩
end
def zu{P:s_}(h:Heap)(hb:sysModules<h.objs.size):bB P w H (h.push { cls:=.type "dict",data:=.dict #[] }) h.objs.size (.dK []) :=
 ⟨Lo _,beq_eq_false_iff_ne.mpr (J_ (I_ hb)),[],.nil,Heap.DictOf.new h⟩
noncomputable def AT:TE:=λ_ H Q=>∀p,H p=none->Q (.ref p) (upd H p (.dK []))
def ug:PE X (.Dict [] [] pos) AT:=λpins s σ H Q I h =>
 wpAny_Dict_empty ⟨.ref s.heap.objs.size,_,I.laid (a:=s.heap.objs.size) (o:=.dK []) (t':=s.toks) (λ_ _ q=>d_ _ q) (f_ _) (zu s.heap I.big),rfl,h _ (I.hok.fresh (f_ _))⟩
structure M1 (X:Cx) (o:Expr) (m:Str) (apos:Pos) (e:Expr) (cpos:Pos):Prop where
 base:attributeBase o m X.env (eval o X.env)=eval o X.env
 few:((backTo cpos (starEach [e] X.env)).all (λx=>!x.1) && (backToKw cpos (keywordEach [] X.env)).all (λx=>x.1.isSome)
  && decide (([e]:List Expr).length+([]:List Keyword).length+(if ([]:List Keyword).isEmpty then 0 else 1)<30))=true
 line:(apos.endLine == cpos.line)=true
 trees:backTo cpos (starEach [e] X.env)=[(false,eval e X.env)]
noncomputable def IsD(H:Hp)(a:Addr):Prop:=(∃kvs,Rd H a (.dK kvs))\/∃kvs,Rd H a (.dT kvs)
def Ey(I:Inv X pins σ H s)(d:IsD H a):
  s.TypeIs (.ref a) "dict"/\(∀b,so a=.ref b->∃ob,s.heap.get? b=some ob/\ob.dict=none)/\(a == sysModules)=false:=by
 rcases d with ⟨kvs,e⟩|⟨kvs,e⟩
 .obtain⟨_,hd,vs,_,dd⟩:=vf I.hok e;refine⟨dd.typeIs,λb q=>?_,hd⟩;cases q;obtain⟨ob,_,_,h1,h2,_⟩:=dd;exact⟨ob,h1,h2.2.1⟩
 .obtain⟨_,hd,xs,_,dd⟩:=wZ I.hok e;refine⟨dd.typeIs,λb q=>?_,hd⟩;cases q;obtain⟨ob,_,_,h1,h2,_⟩:=dd;exact⟨ob,h1,h2.2.1⟩
noncomputable def AU(td ty:TE):TE:=λσ H Q=>td σ H λx H1=>∃a,x=.ref a/\IsD H1 a/\ty σ H1 λy H2=>∃kvs k v,H2 a=some (.dK kvs)/\y=kV k/\pY kvs k=some v/\Q v (upd H2 a (.dK (sd kvs k)))
section
variable {o:Expr}{apos cpos:Pos}{td ty:TE}
def zv(ho:PE X o td)(he:PE X e ty)(m:M1 X o "pop" apos e cpos):PE X (.Call (.Attribute o "pop" apos) [e] [] cpos) (AU td ty):=by
 intro pins s σ H Q I h;refine wpAny_Call_method m.base m.few m.line PySem.F.plainAttrs_dict MU PySem.F.type_dict_pop (thn (ho pins s σ H _ I h) λu s1 ⟨x,H1,I1,rx,a,ex,d,q1⟩=>?_);subst ex;obtain rfl:u=so a:=rx;obtain⟨t1,t2,_⟩:=Ey I1 d;refine⟨t1,t2,?_⟩;rw [m.trees];refine Lv rfl (Calls.evalArgs_plain (Kx (thn (he pins s1 σ H1 _ I1 q1) λiv s2 ⟨y,H2,I2,ry,kvs,k,v,ea,ey,l,q2⟩=>KC ?_)))
 subst ey;exact G9 I2 ea ry l (.inl rfl) λw' s3 I3 rw'=>⟨v,_,I3,rw',q2⟩
end
def kU{i:Int}(hg:Gl X x)(h:∃t,X.mg x=some (.int i t))(hd:(x == ("__debug__":Str))=false:=by decide):PE X (.Name x pos) (tC (.int i)):=by
 obtain⟨t,e⟩:=h;exact BG (u:=.int i t) hg e ⟨t,rfl⟩ hd
structure Ez (P:s_) (w:World) (K:b_) (mg:Str->Option Value) (base:Heap) (k:Nat) (x:Str) (ps:List Str) (dvs:List V) (sp:Sp):Prop where
 ex:∃(f:Addr) (fd:JS),oF P w K mg base CX0 k f fd ps sp/\(∀n,n<=dvs.length->∃ds,bD (dvs.drop n) ds/\kE K fd ps ds)/\C_ K (.ref f)=true/\mg x=some (.ref f)
structure uh (K:b_) (mg:Str->Option Value) (x:Str) (st:Stmt) (dvs:List V):Prop where
 ex:∃(f dT:Addr) (oc:Value) (od an dd:Option Addr) (kV doc pm cdv ct:Value) (osl sl:Array (Option Value)) (items:List Value) (n:Nat),
  K.lookup f=some ⟨oc,od,.func (Eo x x (bL st) (aR st) (ai st) (.ref dT) kV doc pm an cdv ct),osl⟩/\JJ K cdv x=true/\C_ K (.ref f)=true/\mg x=some (.ref f) /\
  K.lookup dT=some ⟨.type "tuple",dd,.seq items.toArray n,sl⟩/\bD dvs items
section
variable {P:s_}{base:Heap}{ps:List Str}{k:Nat}{sp:Sp}{dvs:List V}
def uh.ok(D:uh K mg x st dvs)(S:az N ps (ai st))(hb:∀(dT:Addr) (kV doc pm:Value) (an:Option Addr) (cdv ct:Value) (items:List Value) (us:List Value) (n:Nat),items.length=dvs.length->n<=dvs.length->(us++items.drop n).length=ps.length ->
   ∃k,bindArgs (Eo x x (bL st) (aR st) (ai st) (.ref dT) kV doc pm an cdv ct) ⟨us,[]⟩=seqItems? (.ref dT) >>= k/\k (some items.toArray)=pure (ps.zip (us++items.drop n)))(len:∀vs H Q E,sp vs H Q E->vs.length=ps.length)(hbody:∀(f:Addr) (cdv:Value) (A:y_) (outer:List Env) (s:cy) (H:Hp) (vs:List V) (Q:VK) (E:XK),d8 k (A.deeper (envOfC x (ai st) s.heap.objs.size f cdv))->sp vs H Q E ->
   ∃t,PSs (pX CX0 P w K mg base N x (ai st) f cdv A outer s H E).nox (aR st) t/\t { nx:=λ_ H'=>Q .non H',rt:=Q } (start N vs) H):Ez P w K mg base (k+1) x ps dvs sp:=by
 obtain⟨f,dT,oc,od,an,dd,kV,doc,pm,cdv,ct,osl,sl,items,n,lk,hcd,kp,hm,lt,rv⟩:=D.ex;have hl:=rv.length
 refine⟨f,_,D1 lk hcd S len λA outer s H vs Q E hr hsp=>?_,λj hj=>⟨items.drop j,rv.drop j,λs us X hlen=>?_⟩,kp,hm⟩
 .obtain⟨t,h,q⟩:=hbody f cdv A outer s H vs Q E hr hsp;exact⟨t,h.nox,q⟩
 .obtain⟨k,h1,h2⟩:=hb dT kV doc pm an cdv ct items us j hl.symm hj hlen;exact BindsTo.of_defaults rfl (X dT _ lt) rfl h1 h2
end
section
variable {k:Nat}{ps:List Str}{sp:Sp}{es:List Expr}{t:TA}{dvs:List V}
def Ce(j:Nat)(C:Ez X.prog X.w X.K X.mg X.base k x ps dvs sp)(hr:d8 k X.A)(hj:j<=dvs.length)(ha:PA X (e::es) t)(hg:Gl X x:=by rfl)(hdb:(x == ("__debug__":Str))=false:=by decide)(he:starEach (e::es) X.env=(false,eval e X.env)::starEach es X.env:=by rfl)(hpl:(backTo pos (starEach es X.env)).any (·.1)=false:=by rfl):PE X (.Call (.Name x p) (e::es) [] pos) (dJ sp (dvs.drop j) E0 t):=by
 obtain⟨f,fd,F,hb,hk,hm⟩:=C.ex;obtain⟨ds,rv,hb⟩:=hb j hj;exact wx F hr hg hm hk hb rv zf ha hdb he hpl
def EA{x:V}{t:Value}(I:Inv X pins σ H s)(rx:bW x u)(ty:pW X.K H x t):
  ∃Hq:Heap->Prop,PySem.W.KitX X.K u t Hq/\Hq s.heap/\u≠.builtin "__main__.__loader__#opaque":=by
 cases ty with
 | non=>cases (show u=JX from rx);exact⟨_,PySem.W.kitx_none,JM,λz=>nomatch z⟩
 | bl y=>cases (show u=J4 y from rx);exact⟨_,PySem.W.kitx_bool,JM,λz=>nomatch z⟩
 | int i=>obtain⟨t,q⟩:=(show ∃t,u=Lg i t from rx);cases q;exact⟨_,PySem.W.kitx_int,JM,λz=>nomatch z⟩
 | str y=>obtain⟨t,q⟩:=(show ∃t,u=LF y t from rx);cases q;exact⟨_,PySem.W.kitx_str,JM,λz=>nomatch z⟩
 | flt y=>obtain⟨t,q⟩:=(show ∃t,u=MX y t from rx);cases q;exact⟨_,PySem.W.kitx_float,JM,λz=>nomatch z⟩
 | @lst a xs ea =>
  cases (show u=so a from rx);obtain⟨_,_,n,_,h1⟩:=(show bB X.prog X.w H s.heap a (.lst xs) from I.hok a _ ea)
  exact⟨_,Lp,⟨_,h1,rfl⟩,λz=>nomatch z⟩
 | @frz a ob xs ea =>
  cases (show u=so a from rx);obtain⟨_,_,_,n,_,h1⟩:=(show bB X.prog X.w H s.heap a (.frz ob (.lst xs)) from I.hok a _ ea)
  exact⟨_,Lp,⟨_,h1,rfl⟩,λz=>nomatch z⟩
 | @tup a xs ea =>
  cases (show u=so a from rx);obtain⟨_,_,_,p⟩:=(show bB X.prog X.w H s.heap a (.tup xs) from I.hok a _ ea)
  obtain⟨o,h1,h2,_⟩:=p;exact⟨_,PySem.W.kitx_tuple,⟨o,h1,h2⟩,λz=>nomatch z⟩
 | @dK a kvs ea =>
  cases (show u=so a from rx);obtain⟨_,_,vs,_,p⟩:=(show bB X.prog X.w H s.heap a (.dK kvs) from I.hok a _ ea)
  obtain⟨o,es,ep,h1,h2,_⟩:=p;exact⟨_,Lq,⟨o,h1,h2.1⟩,λz=>nomatch z⟩
 | @dT a kvs ea =>
  cases (show u=so a from rx);obtain⟨_,_,xs,_,o,es,ep,h1,h2,_⟩:=(show bB X.prog X.w H s.heap a (.dT kvs) from I.hok a _ ea)
  exact⟨_,Lq,⟨o,h1,h2.1⟩,λz=>nomatch z⟩
 | @ins a C dx fs ea cl ha hn htk hm =>
  cases (show u=so a from rx);obtain⟨mA,O,_⟩:=li I.hok ea;obtain⟨od,J,_⟩:=O.look;exact⟨_,PySem.W.kitx_own (cl.get _) cl.hd ha hn htk hm,J,λz=>nomatch z⟩
theorem ui:∀{ts:List String}{us:List Value},bD (ts.map V.ty) us->us=ts.map J5
 | [],_,.nil=>rfl
 | t::ts,_,.cons r rr=>by rw [ui rr,show _=J5 t from r];rfl
def qz:bz X (.builtin "isinstance") (λxs H Q=>∃(x:V) (p:Addr) (ts:List String) (t:Value) (b:Bool),xs=[x,.ref p]/\pW X.K H x t/\H p=some (.tup (ts.map V.ty))/\LA X.K t (ts.map J5)=some b/\Q (.bl b) H):=by
 intro pins s σ H xs us Q I r h;obtain⟨x,p,ts,t,b,rfl,ty,hp,e,q⟩:=h;obtain⟨u,w',rfl,rx,ry⟩:=yW r;cases (show w'=so p from ry);obtain⟨Hq,Z,hq,hx⟩:=EA I rx ty;obtain⟨its,rv,⟨⟨cls,dd,data,sl⟩,ho,hc,n,hd⟩,_⟩:=I.tuple (SqT.of hp);simp only at hc hd;subst hc hd;exact PySem.W.kia_tup Z I.kIn hq ho (by rw [ui rv];exact e) hx λtk=>⟨.bl b,H,I.tok _,rfl,q⟩
def oV(bs:List Bool):(c_ bs.length).all (λi=>bs.getD i false)=bs.all id:=by
 induction bs with
 | nil=>rfl
 | cons b bs ih=>rw [length_cons,range_succ_eq_map,all_cons,all_map,all_cons,<- ih];rfl
def oW(bs:List Bool):(c_ bs.length).any (λi=>bs.getD i false)=bs.any id:=by
 induction bs with
 | nil=>rfl
 | cons b bs ih=>rw [length_cons,range_succ_eq_map,any_cons,any_map,any_cons,<- ih];rfl
def xa{bs:List Bool}(r:bD (bs.map V.bl) its){v:Value}(h:its.toArray[i]?=some v):v=.bool (bs.getD i false):=by
 have h':its[i]?=some v:=by simpa using h
 have hl:=r.length;rw [length_map] at hl;have hi:i<bs.length:=by have:=(i_.mp h').1;omega
 obtain⟨u,e1,e2⟩:=r.get (i:=i) (x:=V.bl bs[i]) (by rw [gV,cx hi];rfl);rw [h'] at e1;cases e1;rw [show v=J4 bs[i] from e2,e_,cx hi];rfl
def zw(hc:X.calm=true):bz X (.builtin "all") (λxs H Q=>∃(p:Addr) (bs:List Bool),xs=[.ref p]/\SqL X.K H p (bs.map V.bl)/\Q (.bl (bs.all id)) H):=by
 intro pins s σ H xs us Q I r h;obtain⟨p,bs,rfl,hS,q⟩:=h;obtain⟨u,rfl,ru⟩:=fg r;cases (show u=so p from ru);obtain⟨its,rv,pl,hz⟩:=I.list hS;have hl:=rv.length;rw [length_map] at hl;have hps:p<s.heap.objs.size:=let ⟨o,ho,_⟩:=pl.isList;l_ ho
 obtain⟨f0,f1,f2,f3,f4,f5⟩:=I.fpOk (H':=H) (f_ s.heap.objs.size) (I.hok.fresh (f_ _))
 refine call_all_walk (Ko pl.isList ⟨s.heap.objs.size,_,_,its.toArray.size,_,_,λi=>bs.getD i false,rfl,Walks.list (by exact I.ok.hd hc) s.heap.objs.size p (I_ hps) its.toArray,⟨⟨_,kx _ rfl,rfl,rfl⟩,pl.isList.push _⟩,λi v s Q E hP hQ=>?_,λh' tk hk=>?_⟩)
 .rw [xa rv hP];exact JG hQ
 .have I1:Inv X pins σ H { s with heap:=s.heap.push { cls:=.type "list_iterator",data:=.fields #[.ref p,.int 0 0] } }:=I.kept (t':=s.toks) λb o e=>d_ _ e;have I2:=I1.turned (h':=h') (t':=tk) (it:=s.heap.objs.size) (λb o hb e=>hk b o (by simpa using hb) e) f0 f1 f3 f4 f5;refine⟨.bl (bs.all id),H,I2,?_,q⟩;show J4 _=J4 _;rw [size_toArray,<- hl,oV]
def zx(hc:X.calm=true):bz X (.builtin "any") (λxs H Q=>∃(p:Addr) (bs:List Bool),xs=[.ref p]/\SqL X.K H p (bs.map V.bl)/\Q (.bl (bs.any id)) H):=by
 intro pins s σ H xs us Q I r h;obtain⟨p,bs,rfl,hS,q⟩:=h;obtain⟨u,rfl,ru⟩:=fg r;cases (show u=so p from ru);obtain⟨its,rv,pl,hz⟩:=I.list hS;have hl:=rv.length;rw [length_map] at hl;have hps:p<s.heap.objs.size:=let ⟨o,ho,_⟩:=pl.isList;l_ ho
 obtain⟨f0,f1,f2,f3,f4,f5⟩:=I.fpOk (H':=H) (f_ s.heap.objs.size) (I.hok.fresh (f_ _))
 refine call_any_walk (Ko pl.isList ⟨s.heap.objs.size,_,_,its.toArray.size,_,_,λi=>bs.getD i false,rfl,Walks.list (by exact I.ok.hd hc) s.heap.objs.size p (I_ hps) its.toArray,⟨⟨_,kx _ rfl,rfl,rfl⟩,pl.isList.push _⟩,λi v s Q E hP hQ=>?_,λh' tk hk=>?_⟩)
 .rw [xa rv hP];exact JG hQ
 .have I1:Inv X pins σ H { s with heap:=s.heap.push { cls:=.type "list_iterator",data:=.fields #[.ref p,.int 0 0] } }:=I.kept (t':=s.toks) λb o e=>d_ _ e;have I2:=I1.turned (h':=h') (t':=tk) (it:=s.heap.objs.size) (λb o hb e=>hk b o (by simpa using hb) e) f0 f1 f3 f4 f5;refine⟨.bl (bs.any id),H,I2,?_,q⟩;show J4 _=J4 _;rw [size_toArray,<- hl,oW]
end
section
def xb:bz X (.builtin "len") (λxs H Q=>∃p kvs,xs=[.ref p]/\Rd H p (.dK kvs)/\Q (.int kvs.length) H):=by
 intro pins s σ H xs us Q I r h;obtain⟨p,kvs,rfl,hd,q⟩:=h;obtain⟨u,rfl,ru⟩:=fg r;cases (show u=so p from ru);exact Ha I hd λt s' I'=>⟨.int kvs.length,H,I',⟨t,rfl⟩,q⟩
end
noncomputable def bM(K:b_)(x:Str):Addr:=match w_ K mainGlobals x with
 | some (some (.ref C))=>C
 | _=>0
variable {C:Addr}
def zy(h:w_ K mainGlobals x=some (some (.ref C))):bM K x=C:=by unfold bM;rw [h]
structure GB (P:s_) (w:World) (K:b_) (mg:Str->Option Value) (base:Heap) (k:Nat) (C:Addr) (m:Str) (ps:List Str) (sp:Sp):Prop where
 ex:∃(f:Addr) (fd:JS),oF P w K mg base CX0 k f fd ps sp/\kE K fd ps []/\Gy K C m f
structure EB (P:s_) (w:World) (K:b_) (mg:Str->Option Value) (base:Heap) (k:Nat) (C:Addr) (x:Str) (ps:List Str) (sp:Sp):Prop where
 ex:∃(f:Addr) (fd:JS),oF P w K mg base CX0 k f fd ps sp/\kE K fd ps []/\Mk K C f/\mg x=some (.ref C)
structure uj (K:b_) (C:Addr) (m qual:Str) (st:Stmt):Prop where
 ex:∃(f:Addr) (fd:JS),Fun K m qual st f fd/\Gy K C m f
structure uk (K:b_) (mg:Str->Option Value) (C:Addr) (x qual:Str) (st:Stmt):Prop where
 ex:∃(f:Addr) (fd:JS),Fun K "__init__" qual st f fd/\Mk K C f/\mg x=some (.ref C)
section
variable {P:s_}{base:Heap}{m:Str}{ps:List Str}{k:Nat}{sp:Sp}
def uj.ok(D:uj K C m qual st)(S:az N ps (ai st))(hb:∀(kV doc pm:Value) (an:Option Addr) (cdv ct:Value) (us:List Value),us.length=ps.length->bindArgs (Eo m qual (bL st) (aR st) (ai st) .none kV doc pm an cdv ct) ⟨us,[]⟩=pure (ps.zip us))(len:∀vs H Q E,sp vs H Q E->vs.length=ps.length)(hbody:∀(f:Addr) (cdv:Value) (A:y_) (outer:List Env) (s:cy) (H:Hp) (vs:List V) (Q:VK) (E:XK),d8 k (A.deeper (envOfC qual (ai st) s.heap.objs.size f cdv))->sp vs H Q E ->
   ∃t,PSs (pX CX0 P w K mg base N qual (ai st) f cdv A outer s H E).nox (aR st) t/\t { nx:=λ_ H'=>Q .non H',rt:=Q } (start N vs) H):GB P w K mg base (k+1) C m ps sp:=by
 obtain⟨f,fd,F,hm⟩:=D.ex;exact⟨f,fd,F.ok S len λcdv A outer s H vs Q E hr h=>hbody f cdv A outer s H vs Q E hr h,F.binds hb,hm⟩
def uk.ok(D:uk K mg C x qual st)(S:az N ps (ai st))(hb:∀(kV doc pm:Value) (an:Option Addr) (cdv ct:Value) (us:List Value),us.length=ps.length->bindArgs (Eo "__init__" qual (bL st) (aR st) (ai st) .none kV doc pm an cdv ct) ⟨us,[]⟩=pure (ps.zip us))(len:∀vs H Q E,sp vs H Q E->vs.length=ps.length)(hbody:∀(f:Addr) (cdv:Value) (A:y_) (outer:List Env) (s:cy) (H:Hp) (vs:List V) (Q:VK) (E:XK),d8 k (A.deeper (envOfC qual (ai st) s.heap.objs.size f cdv))->sp vs H Q E ->
   ∃t,PSs (pX CX0 P w K mg base N qual (ai st) f cdv A outer s H E).nox (aR st) t/\t { nx:=λ_ H'=>Q .non H',rt:=Q } (start N vs) H):EB P w K mg base (k+1) C x ps sp:=by
 obtain⟨f,fd,F,hm,e⟩:=D.ex;exact⟨f,fd,F.ok S len λcdv A outer s H vs Q E hr h=>hbody f cdv A outer s H vs Q E hr h,F.binds hb,hm,e⟩
end
section
variable {k:Nat}{ps:List Str}{sp:Sp}{es:List Expr}{t:TA}
def Cf(M:EB X.prog X.w X.K X.mg X.base k C x ps sp)(hr:d8 (k+1) X.A)(ha:PA X (e::es) t)(hg:Gl X x:=by rfl)(hdb:(x == ("__debug__":Str))=false:=by decide)(he:starEach (e::es) X.env=(false,eval e X.env)::starEach es X.env:=by rfl)(hpl:(backTo pos (starEach es X.env)).any (·.1)=false:=by rfl):PE X (.Call (.Name x p) (e::es) [] pos) (yZ C sp [] E0 t):=by
 obtain⟨f,fd,F,hb,hk,hm⟩:=M.ex;exact BS hk F hr hg hm hb .nil zf ha hdb he hpl
variable {m:Str}{apos:Pos}{o:Expr}{ta:TE}
def zA{pl:Sem Bool}(he:PE X o ta)(c:Cls X.K C)(M:GB X.prog X.w X.K X.mg X.base k C m ps sp)(hr:d8 k X.A)(ht:eval (.Call (.Attribute o m apos) [] [] pos) X.env=(do
   let ov <- eval o X.env
   standAt apos.atName
   let (f,first) <- holding [ov] (getMethod ov m pl)
   callWith pos f first (backTo pos (starEach [] X.env)) (backToKw pos (keywordEach [] X.env))):=by rfl):
  PE X (.Call (.Attribute o m apos) [] [] pos) (BR C m sp [] E0 ta c6):=by
 obtain⟨f,fd,F,hb,hm⟩:=M.ex;exact y0 (pl:=pl) he c hm F hr hb .nil zf ht
end
def xc(k:Bool)(hh:A.handled=none)(it a:Addr)(hne:a≠it)(its:Array Value):
  Draws prog w A it [it,a] its.size (λi v=>its[i]?=some v) (λi h=>i9 k h it a i/\lw k h a its) where
 live:=λ_ _ st=>let ⟨o,ho,_⟩:=st.1;⟨o,ho⟩
 frame:=λ_ _ _ st hk=>⟨st.1.mv λo e=>hk it (by simp) o e,st.2.mv λo e=>hk a (by simp) o e⟩
 item:=λi s Q E hi st hQ=>by
  refine qt st.1 st.2 (x:=its[i]) (by simp [hi]) λh' hit' hs'=>?_;exact hQ _ h' s.toks (by simp [hi]) ⟨hit',st.2.mv λo e=>hs'.extBut _ o hne e⟩ hs'
 done:=λs Q E st hE=>lx hh st.1 st.2 (by simp) hE
noncomputable def Ite(k:Bool)(K:b_)(a:Addr):It :=
  ⟨λi H=>∃xs x,Sq k K H a xs/\xs[i]?=some x,
   λi H p H'=>∃T x,H T=none/\p=.ref T/\(∀xs,Sq k K H a xs->xs[i]?=some x)/\H'=upd H T (.tup [.int (i:Int),x]),
   λi H=>∃xs,Sq k K H a xs/\xs.length<=i⟩
variable {es:List Expr}
def xf{P:s_}{ct:Nat}{tp:Pos}{k:Bool}{e:Addr}(hei:e≠it):
  BJ P w K (.Tuple es ct tp) (Ite k K a) [e,it] e (λn h=>(∃old,IsEnum h e it ((n:Nat):Int) old)/\i9 k h it a n) where
 mem:=by simp
 obj:=λn h st b hb=>by
  obtain⟨⟨old,he⟩,o1,g1,c1,d1⟩:=st;simp only [mem_cons,not_mem_nil,or_false] at hb
  rcases hb with rfl|rfl
  .exact⟨_,he,λv q=>by cases q⟩
  .exact⟨_,g1,λv q=>by rw [d1] at q;cases q⟩
 keep:=λn h h' st kk=>by
  obtain⟨⟨old,he⟩,w1⟩:=st;exact⟨⟨old,kk e (by simp) _ he⟩,w1.mv λo q=>kk it (by simp) o q⟩
 item:=by
  intro X hP hw hK hc n pins s σ H E I hf st hg;subst hP hw hK;obtain⟨xs,x,q1,hx⟩:=hg;obtain⟨⟨old,he⟩,w1⟩:=st;obtain⟨its,rv,p,_⟩:=I.row q1;obtain⟨ux,hux,rx⟩:=rv.get hx;have ne:=I.row_ne q1 (hf e (by simp));have ni:=I.row_ne q1 (hf it (by simp))
  have hlt:n<its.toArray.size:=by
   have:=(i_.mp hux).1;simpa using this
  have hhd:X.A.in1.handled=none:=by exact I.ok.hd hc
  refine wpAny_pyNext_enum_itemD (xc k hhd it a ni its.toArray) he ⟨w1,p⟩ hlt hei (by simp [hei,J_ ne]) λy h' tk hP ho hst ht hsz hk=>?_
  have hy:y=ux:=by
   have h1:its[n]?=some y:=by simpa using hP
   rw [hux] at h1;exact (vx h1).symm
  subst hy;refine⟨_,rfl,wpAny_letOwnedTupleGo_enum ho λg ge gs=>?_⟩;have lt:∀{b o},s.heap.get? b=some o->s.heap.objs.size≠b:=λq=>Mw (l_ q)
  have kp:∀b o,b∉[e,it]->s.heap.get? b=some o->g.get? b=some o:=λb o hb q=>by
   simp only [mem_cons,not_mem_nil,or_false,not_or] at hb;exact gs.extBut _ _ hb.1 (hk b o hb.1 hb.2 q)
  have I2:Inv X pins σ (upd H s.heap.objs.size (.tup [.int (n:Int),x])) { s with heap:=g,toks:=tk+1 }:=I.yielded (ch:=[e,it]) (λb hb=>hf b hb) (f_ _) kp
   ⟨by show 2<=sizeLine;decide,[.int (n:Int) tk,y],.cons ⟨tk,rfl⟩ (.cons rx .nil),_,gs.extBut _ _ (lt he) ht,rfl,_,rfl⟩
  refine⟨.ref s.heap.objs.size,_,I2,rfl,⟨_,x,I.hok.fresh (f_ _),rfl,λxs' q=>by rw [I.row_inj q q1];exact hx,rfl⟩,⟨⟨y,by simpa using ge⟩,hst.1.mv λo q=>gs.extBut _ o (J_ hei) q⟩,λb hb=>?_⟩
  rw [ar ?_]
  .exact (hf b hb).1
  .intro q;subst q;simp only [mem_cons,not_mem_nil,or_false] at hb;obtain⟨o1,g1,_⟩:=w1
   rcases hb with q|q
   .exact lt he q
   .exact lt g1 q
 done:=by
  intro X hP hw hK hc n pins s σ H E I hf st hg;subst hP hw hK;obtain⟨xs,q1,hend⟩:=hg;obtain⟨⟨old,he⟩,w1⟩:=st;obtain⟨its,rv,p,_⟩:=I.row q1;have e1:=rv.length;have ni:=I.row_ne q1 (hf it (by simp));have hhd:X.A.in1.handled=none:=by exact I.ok.hd hc
  obtain⟨f0,f1,f2,f3,f4,f5⟩:=hf it (by simp)
  -- the walk's end is wherever the row has no item
  have hT:s.TypeIs (.ref e) "enumerate":=⟨_,he,rfl⟩
  unfold pyNext
  refine cn (wpAny_attempt (J1 (name:=Lu "__next__") hT F.slot_enumerate_next
   (KS F.slot_enumerate_next hT F.entry_enumerate_next ?_ (F.args_enumerate_next_1 _))))
  show wpAny _ _ (field (.ref e) 2 >>= _) _ _ _;refine cn (KH he rfl (x:=.ref it) rfl ?_);refine cn (lx hhd w1 p (by simp;omega) λh' x he' hx'=>?_);obtain⟨o,ho,hcl⟩:=hx';refine cn (wpAny_isInstance (T:="StopIteration") (b:=true) ⟨o,ho,hcl⟩ isSubtype_stop ?_);exact h_ ⟨rfl,I.turned (t':=s.toks) (λb o hb q=>he' b o hb q) f0 f1 f3 f4 f5⟩
 self:=λ_ _ _ _ _ st h=>let ⟨⟨_,he⟩,_⟩:=st;wpAny_pyIter_enum he h
section
variable {k:Bool}
def zB(k:Bool)(a:Addr)(xs:Array Value):Meets (M_.«enumerate.__new__» ⟨[.type "enumerate",.ref a],[]⟩) (λ_ R s=>lw k s.heap a xs /\
   R (.ok (.ret (.ref (s.heap.push (rZ k a)).objs.size))) { s with heap:=(s.heap.push (rZ k a)).push { cls:=.type "enumerate",data:=.fields #[.none,.bool false,.ref s.heap.objs.size,rawInt 0,.none,.none] } }) :=
 .of_wp λprog w A R s h=>by
  obtain⟨hp,g,d,tk,os⟩:=s;obtain⟨r1,h⟩:=h;have hsub:=sub_enumerate;have R1:lw k (Shared.heap ⟨hp,g,d,tk,os⟩) a xs:=r1;obtain⟨⟨cls,dd,data,sl⟩,ho,hc,n,hd⟩:=id r1;simp only at hc hd;subst hc hd
  wp_walk using Ks ho
  refine wpAny_stack_any λst=>h_ ?_
  split
  .rename_i c _ _ _ _ _
   cases (c == J5 "enumerate")
   .wp_walk using Ks ho,jH R1
    exact⟨_,rfl,h⟩
   .wp_walk using Ks ho,jH R1
    exact⟨_,rfl,h⟩
  .wp_walk using Ks ho,jH R1
   exact⟨_,rfl,h⟩
variable {P:s_}
def zC{xs:Array Value}(r1:lw k s.heap a xs)(h:∀h',IsEnum h' (s.heap.objs.size+1) s.heap.objs.size 0 .none->i9 k h' s.heap.objs.size a 0->(∀b o,s.heap.get? b=some o->h'.get? b=some o)->Q (.ref (s.heap.objs.size+1)) { s with heap:=h' }):
  wpAny (model P w) A (call (.type "enumerate") [.ref a]) Q E s:=by
 refine callType_new F.called_enumerate (by decide) (F.typeCall_enumerate_1 _) (F.newCall_enumerate_1 _) (λobj=>F.args_object_init_2 obj _) F.entry_enumerate_new (zB k a xs) ⟨r1,?_⟩;have z1:(s.heap.push (rZ k a)).objs.size=s.heap.objs.size+1:=JO ..;have g2:((s.heap.push (rZ k a)).push { cls:=.type "enumerate",data:=.fields #[.none,.bool false,.ref s.heap.objs.size,rawInt 0,.none,.none] }).get? (s.heap.push (rZ k a)).objs.size=some _:=kx _ rfl
 have g1:=d_ { cls:=.type "enumerate",data:=.fields #[.none,.bool false,.ref s.heap.objs.size,rawInt 0,.none,.none] } (kx s.heap (o:=rZ k a) rfl);show _/\_;rw [z1] at g2 ⊢;exact⟨⟨_,g2,rfl⟩,h _ g2 ⟨_,g1,rfl,rfl⟩ λb o q=>d_ _ (d_ _ q)⟩
end
noncomputable def vg(K:b_)(ta:TA):TI:=λσ H R=>ta σ H λvs H1=>∃k a,vs=[.ref a]/\(∃xs,Sq k K H1 a xs)/\R (Ite k K a) H1
variable {ct:Nat}{tp:Pos}
def Cg{a:Expr}(hg:Gl X "enumerate")(hm:X.mg "enumerate"=none)(ha:PA X [a] ta)(hs:starEach [a] X.env=[(false,eval a X.env)]:=by rfl):
  PI X (.Tuple es ct tp) (.Call (.Name "enumerate" p) [a] [] pos) (vg X.K ta):=by
 intro pins s σ H R I h;refine Call_ (gu I hg hm boot_enumerate (D_ (thn (ha pos pins s σ H _ I h) λus s1 ⟨vs,H1,I1,r1,q1⟩=>?_) hs rfl));obtain⟨k,a,e,⟨xs,q1⟩,q⟩:=q1;subst e
 cases r1 with
 | cons r rr =>
  cases rr;cases r;obtain⟨its,rv,p,_⟩:=I1.row q1;refine zC p λh' g1 g2 kk=>wpAny_pyIter_enum g1 ?_;have I2:Inv X pins σ H1 { s1 with heap:=h',toks:=s1.toks }:=I1.kept kk;refine⟨s1.heap.objs.size+1,[s1.heap.objs.size+1,s1.heap.objs.size],_,_,H1,rfl,I2,xf (k:=k) (a:=a) (it:=s1.heap.objs.size) (Mw (JH _)),⟨⟨_,g1⟩,g2⟩,λb hb=>?_,q⟩
  have hle:s1.heap.objs.size<=b:=by
   simp only [mem_cons,not_mem_nil,or_false] at hb
   rcases hb with e|e
   .rw [e];exact le_add_right _ _
   .rw [e];exact f_ _
  exact I1.fpOk hle (I1.hok.fresh hle)
def xg(hc:X.calm=true):bz X (.builtin "min") (λxs H Q=>∃(p:Addr) (ns:List Int),xs=[.ref p]/\SqL X.K H p (ns.map V.int)/\0<ns.length/\∀m:Int,m∈ns->(∀a∈ns,m<=a)->Q (.int m) H):=by
 intro pins s σ H xs us Q I r h;obtain⟨p,ns,rfl,hS,hne,q⟩:=h;obtain⟨u,rfl,ru⟩:=fg r;cases (show u=so p from ru);obtain⟨its,rv,pl,hz⟩:=I.list hS;have hi:=cJ rv;have hl:=pl.isList;obtain⟨ys,e⟩:=hi.allInts.items;have hns:ns=ys.toList.map (·.1):=by rw [<- hi.numsOf,<- LN,<- e]
 have hsz:0<ys.size:=by
  have h3:=hne;rw [hns,length_map,z_] at h3;exact h3
 rw [e] at hl;refine min_intList (by exact I.ok.hd hc) hl hsz λv h' tk hv hk=>?_;obtain⟨t,rfl⟩:=Ms hv;obtain⟨h1,h2⟩:=argBest_lt (numAt ys) (ys.size - 1)
 refine⟨.int _,H,I.kept (t':=tk) hk,⟨t,rfl⟩,q _ ?_ λa ha=>?_⟩
 .rw [hns,Mi];exact getD_mem (by rw [length_map,z_];omega)
 .rw [hns] at ha;obtain⟨j,hj,rfl⟩:=mem_getD ha;rw [length_map,z_] at hj;rw [<- Mi];exact h2 j (by omega)
theorem jI(ns:List Int):∀k,k<=ns.length->preSum (λi=>ns.getD i 0) k=(ns.take k).sum
 | 0,_=>rfl
 | k+1,h=>by
  rw [preSum,jI ns k (by omega),take_add_one,cx (by omega),sum_append,e_,cx (by omega)];simp
def qA(hc:X.calm=true):bz X (.builtin "sum") (λxs H Q=>∃(p:Addr) (ns:List Int),xs=[.ref p]/\SqL X.K H p (ns.map V.int)/\Q (.int ns.sum) H):=by
 intro pins s σ H xs us Q I r h;obtain⟨p,ns,rfl,hS,q⟩:=h;obtain⟨u,rfl,ru⟩:=fg r;cases (show u=so p from ru);obtain⟨its,rv,pl,hz⟩:=I.list hS;have hi:=cJ rv;have hl:=pl.isList;obtain⟨ys,e⟩:=hi.allInts.items;have hns:ns=ys.toList.map (·.1):=by rw [<- hi.numsOf,<- LN,<- e]
 rw [e] at hl;refine sum_intListG (by exact I.ok.hd hc) hl λh' tk t' hk=>⟨.int ns.sum,H,I.kept (t':=tk) hk,⟨t',?_⟩,q⟩
 have hlen:ys.size=ns.length:=by rw [hns,length_map,z_]
 have hnum:numAt ys=λi=>ns.getD i 0:=by
  funext i;rw [Mi,hns]
 rw [hnum,hlen,jI ns ns.length (f_ _),KO]
variable {ta:TE}{f:Str}
def c9(K:b_)(eK:X.K=K)(he:PE X e ta)(hb:attributeBase e f X.env (eval e X.env)=eval e X.env):PE X (.Attribute e f pos) (wu K ta f):=eK ▸ DZ he hb
noncomputable def Hd(K:b_):List V->Hp->VK->Prop:=λxs H Q=>∃p ys,xs=[.ref p]/\SqL K H p ys/\Q (.int ys.length) H
noncomputable def He(K:b_):List V->Hp->VK->Prop:=λxs H Q=>∃p ys,xs=[.ref p]/\SqT K H p ys/\Q (.int ys.length) H
noncomputable def Iz(K:b_):List V->Hp->VK->Prop:=λxs H Q=>∃x n t b,xs=[x,.ty n]/\pW K H x t/\Kh K t (.type n)=some b/\Q (.bl b) H
noncomputable def xh(K:b_):List V->Hp->VK->Prop:=λxs H Q=>∃p ys,xs=[.ref p]/\(SqL K H p ys\/SqT K H p ys)/\∀l,H l=none->Q (.ref l) (upd H l (.lst ys))
section
variable {o:Expr}{to:TE}{t:TA}{name:Str}{apos cpos:Pos}{T id:String}{r:V->List V->Hp->VK->Prop}
def gb(K:b_)(eK:X.K=K)(pa:PlainAttrs T)(slot:Slot T name id)(hty:typeOf (.builtin id)=pure (.type "method_descriptor"))(hm:MtR X id r)(ho:PE X o to)(ha:PA X (e::es) t)(hbase:attributeBase o name X.env (eval o X.env)=eval o X.env:=by rfl)(hfew:((backTo cpos (starEach (e::es) X.env)).all (λx=>!x.1) && (backToKw cpos (keywordEach [] X.env)).all (λx=>x.1.isSome)
   && decide ((e::es).length+([]:List Keyword).length+(if ([]:List Keyword).isEmpty then 0 else 1)<30))=true:=by rfl)(hline:(apos.endLine == cpos.line)=true:=by rfl)(hs:starEach (e::es) X.env=(false,eval e X.env)::starEach es X.env:=by rfl)(hplain:(backTo cpos (starEach es X.env)).any (·.1)=false:=by rfl):
  PE X (.Call (.Attribute o name apos) (e::es) [] cpos) (tBM K T r to t):=eK ▸ G2 pa slot hty hm ho ha hbase hfew hline hs hplain
end
noncomputable def h7(c:Bool)(A B:Prop):Prop:=match c with|true=>A|false=>B
variable {B:Prop}
def ul{c:Bool}{A:Prop}(h1:c=true->A)(h2:c=false->B):h7 c A B:=by
 cases c with
 | true=>exact h1 rfl
 | false=>exact h2 rfl
def iF{p:Prop}[Decidable p]{A B:Prop}(h1:p->A)(h2:¬ p->B):h7 (decide p) A B:=ul (λh=>h1 (of_decide_eq_true h)) (λh=>h2 (of_decide_eq_false h))
def lD{p:Prop}[Decidable p]{A B:Prop}(h1:¬ p->A)(h2:p->B):h7 (!decide p) A B:=ul (λh=>h1 λz=>by rw [decide_eq_true z] at h;cases h) (λh=>h2 (by
 by_cases z:p
 .exact z
 .rw [decide_eq_false z] at h;cases h))
def Hf{p:Prop}[Decidable p]{A B:Prop}(h:p)(hA:A):h7 (decide p) A B:=iF (λ_=>hA) (λz=>absurd h z)
def Hg{p:Prop}[Decidable p]{A B:Prop}(h:¬ p)(hB:B):h7 (decide p) A B:=iF (λz=>absurd z h) (λ_=>hB)
def EC{p:Prop}[Decidable p]{A B:Prop}(h:¬ p)(hA:A):h7 (!decide p) A B:=lD (λ_=>hA) (λz=>absurd z h)
def ED{p:Prop}[Decidable p]{A B:Prop}(h:p)(hB:B):h7 (!decide p) A B:=lD (λz=>absurd h z) (λ_=>hB)
def sg{c:Bool}{A:Prop}(h:h7 c B A):h7 (!c) A B:=by
 cases c <;> exact h
def Jc{c:Bool}{A:Prop}(h:c=true)(hA:A):h7 c A B:=by subst h;exact hA
def Jd{c:Bool}{A:Prop}(h:c=false)(hB:B):h7 c A B:=by subst h;exact hB
def Hh{c:Bool}{A:Prop}(h:c=false)(hA:A):h7 (!c) A B:=by subst h;exact hA
def Ch{c:Bool}{A:Prop}(h:c=true)(hB:B):h7 (!c) A B:=by subst h;exact hB
inductive D where
 | non|bl (b:Bool)|int (i:Int)|str (l:List Nat)|ty (n:String)
 | lst (ds:List D)|tup (ds:List D)|scr (ns:List Int)|dic (ks:List Key) (ds:List D)|fdc (ks:List Key) (ds:List D)|obj (c:Str) (ns:List Str) (ds:List D)|exc (c:Str) (ns:List Str) (ds:List D)
noncomputable def XAt(x C:Addr)(dd:Option Addr)(new:Bool)(h:Heap):Prop:=∃o vs,h.get? x=some o/\o.cls=.ref C/\o.dict=dd/\o.data=.fields vs/\1<vs.size/\(new=true->vs[1]?=some .none)
noncomputable def cB(A:Addr->Prop)(a:Addr):Addr->Prop:=λb=>A b\/b=a
noncomputable def Dq(K:b_)(O:Addr->Prop)(H:Hp)(a:Addr)(xs:List V):Prop :=
 (¬ O a/\Rd H a (.lst xs))\/∃(o:Obj) (its:Array Value) (n:Nat),K.lookup a=some o/\o.cls=.type "list"/\o.dict=none/\o.data=.seq its n/\its.size<=sizeLine/\bD xs its.toList
variable {O:Addr->Prop}
def Dq.sq(h:Dq K O H a xs):SqL K H a xs:=h.elim (λz=>.inl z.2) .inr
noncomputable def aB(O:Addr->Prop)(H:Hp)(O':Addr->Prop)(H':Hp):Prop:=∀b o,¬ O b->H b=some o->¬ O' b/\H' b=some o
variable {O':Addr->Prop}
def Rd.keeps{u:HO}(k:aB O H O' H')(n:¬ O a)(r:Rd H a u):¬ O' a/\Rd H' a u:=by
 rcases r with e|⟨o,e⟩
 .exact⟨(k _ _ n e).1,.inl (k _ _ n e).2⟩
 .exact⟨(k _ _ n e).1,.inr ⟨o,(k _ _ n e).2⟩⟩
def Dq.keeps(k:aB O H O' H')(h:Dq K O H a xs):Dq K O' H' a xs:=by
 rcases h with ⟨n,r⟩|r
 .exact .inl (r.keeps k n)
 .exact .inr r
mutual
inductive FV (K:b_) (O:Addr->Prop) (H:Hp):V->D->Prop
 | non:FV K O H .non .non
 | bl (b:Bool):FV K O H (.bl b) (.bl b)
 | int (i:Int):FV K O H (.int i) (.int i)
 | str (l:List Nat):l.length<=1000000->FV K O H (.str (S l)) (.str l)
 | ty (n:String):FV K O H (.ty n) (.ty n)
 | scr {a:Addr}{ns:List Int}:Dq K O H a (ns.map V.int)->FV K O H (.ref a) (.scr ns)
 | lst {a:Addr}{xs:List V}{ds:List D}:¬ O a->H a=some (.lst xs)->FVs K O H xs ds->FV K O H (.ref a) (.lst ds)
 | tup {a:Addr}{xs:List V}{ds:List D}:¬ O a->H a=some (.tup xs)->FVs K O H xs ds->FV K O H (.ref a) (.tup ds)
 | dic {a:Addr}{kvs:List (Key×V)}{ks:List Key}{ds:List D}:¬ O a->H a=some (.dK kvs)->kvs.map tj=ks->FVs K O H (kvs.map G_) ds->FV K O H (.ref a) (.dic ks ds)
 | fdc {a:Addr}{o:Obj}{kvs:List (Key×V)}{ks:List Key}{ds:List D}:¬ O a->H a=some (.frz o (.dK kvs))->kvs.map tj=ks->FVs K O H (kvs.map G_) ds->FV K O H (.ref a) (.fdc ks ds)
 | obj {a dx:Addr}{c:Str}{fs:List (Str×V)}{ns:List Str}{ds:List D}:¬ O a->H a=some (.ins (bM K c) dx fs)->fs.map tj=ns->FVs K O H (fs.map G_) ds->FV K O H (.ref a) (.obj c ns ds)
 | exc0 {a:Addr}{c:Str}{new:Bool}:¬ O a->H a=some (.ext (XAt a (bM K c) none new))->FV K O H (.ref a) (.exc c [] [])
 | exc1 {a dx:Addr}{c:Str}{new:Bool}{fs:List (Str×V)}{ns:List Str}{ds:List D}:¬ O a->¬ O dx->H a=some (.ext (XAt a (bM K c) (some dx) new))->H dx=some (.xd fs)->fs.map tj=ns->FVs K O H (fs.map G_) ds->FV K O H (.ref a) (.exc c ns ds)
inductive FVs (K:b_) (O:Addr->Prop) (H:Hp):List V->List D->Prop
 | nil:FVs K O H [] []
 | cons {x:V}{d:D}{xs:List V}{ds:List D}:FV K O H x d->FVs K O H xs ds->FVs K O H (x::xs) (d::ds)
end
mutual
theorem FV.keeps(k:aB O H O' H'):∀{v:V}{d:D},FV K O H v d->FV K O' H' v d
 | _,_,.non=>.non
 | _,_,.bl b=>.bl b
 | _,_,.int i=>.int i
 | _,_,.str l h=>.str l h
 | _,_,.ty n=>.ty n
 | _,_,.scr s=>.scr (s.keeps k)
 | _,_,.lst n e f=>.lst (k _ _ n e).1 (k _ _ n e).2 (FVs.keeps k f)
 | _,_,.tup n e f=>.tup (k _ _ n e).1 (k _ _ n e).2 (FVs.keeps k f)
 | _,_,.dic n e m f=>.dic (k _ _ n e).1 (k _ _ n e).2 m (FVs.keeps k f)
 | _,_,.fdc n e m f=>.fdc (k _ _ n e).1 (k _ _ n e).2 m (FVs.keeps k f)
 | _,_,.obj n e m f=>.obj (k _ _ n e).1 (k _ _ n e).2 m (FVs.keeps k f)
 | _,_,.exc0 n e=>.exc0 (k _ _ n e).1 (k _ _ n e).2
 | _,_,.exc1 n n2 e e2 m f=>.exc1 (k _ _ n e).1 (k _ _ n2 e2).1 (k _ _ n e).2 (k _ _ n2 e2).2 m (FVs.keeps k f)
theorem FVs.keeps(k:aB O H O' H'):∀{vs:List V}{ds:List D},FVs K O H vs ds->FVs K O' H' vs ds
 | _,_,.nil=>.nil
 | _,_,.cons a b=>.cons (FV.keeps k a) (FVs.keeps k b)
end
theorem FVs.length:∀{vs:List V}{ds:List D},FVs K O H vs ds->vs.length=ds.length
 | _,_,.nil=>rfl
 | _,_,.cons _ b=>by rw [length_cons,length_cons,b.length]
theorem FVs.get:∀{vs:List V}{ds:List D}{i:Nat}{v:V},FVs K O H vs ds->vs[i]?=some v->∃d,ds[i]?=some d/\FV K O H v d
 | _,_,0,_,.cons a _,e=>by simp at e;subst e;exact⟨_,rfl,a⟩
 | _,_,i+1,v,.cons _ b,e=>by
  obtain⟨d,h1,h2⟩:=b.get (i:=i) (v:=v) (by simpa using e);exact⟨d,by simpa using h1,h2⟩
theorem FVs.getD:∀{vs:List V}{ds:List D}{i:Nat}{d:D},FVs K O H vs ds->ds[i]?=some d->∃v,vs[i]?=some v/\FV K O H v d
 | _,_,0,_,.cons a _,e=>by simp at e;subst e;exact⟨_,rfl,a⟩
 | _,_,i+1,v,.cons _ b,e=>by
  obtain⟨d,h1,h2⟩:=b.getD (i:=i) (d:=v) (by simpa using e);exact⟨d,by simpa using h1,h2⟩
theorem FVs.append:∀{vs ws:List V}{ds es:List D},FVs K O H vs ds->FVs K O H ws es->FVs K O H (vs++ws) (ds++es)
 | _,_,_,_,.nil,s=>s
 | _,_,_,_,.cons a b,s=>.cons a (b.append s)
theorem FVs.set{d:D}(f:FV K O H v d):∀{vs:List V}{ds:List D} (i:Nat),FVs K O H vs ds->FVs K O H (vs.set i v) (ds.set i d)
 | _,_,_,.nil=>.nil
 | _,_,0,.cons _ t=>.cons f t
 | _,_,i+1,.cons q t=>.cons q (FVs.set f i t)
theorem FVs.take:∀{vs:List V}{ds:List D} (n:Nat),FVs K O H vs ds->FVs K O H (vs.take n) (ds.take n)
 | _,_,0,_=>.nil
 | _,_,_+1,.nil=>.nil
 | _,_,n+1,.cons r t=>.cons r (t.take n)
theorem FVs.drop:∀{vs:List V}{ds:List D} (n:Nat),FVs K O H vs ds->FVs K O H (vs.drop n) (ds.drop n)
 | _,_,0,r=>r
 | _,_,_+1,.nil=>.nil
 | _,_,n+1,.cons _ t=>t.drop n
theorem FVs.reverse:∀{vs:List V}{ds:List D},FVs K O H vs ds->FVs K O H vs.reverse ds.reverse
 | _,_,.nil=>.nil
 | _,_,.cons r t=>by rw [ML,ML];exact t.reverse.append (.cons r .nil)
theorem FVs.ints:∀{vs:List V}{ns:List Int},FVs K O H vs (ns.map D.int)->vs=ns.map V.int
 | _,[],.nil=>rfl
 | _,n::r,h=>by
  cases h with
  | cons a b=>cases a;rw [FVs.ints b];rfl
theorem FVs.of_ints:∀ns:List Int,FVs K O H (ns.map V.int) (ns.map D.int)
 | []=>.nil
 | n::r=>.cons (.int n) (FVs.of_ints r)
theorem FVs.bls:∀{vs:List V}{bs:List Bool},FVs K O H vs (bs.map D.bl)->vs=bs.map V.bl
 | _,[],.nil=>rfl
 | _,n::r,h=>by
  cases h with
  | cons a b=>cases a;rw [FVs.bls b];rfl
inductive PV where
 | dat (d:D)|own (ds:List D)|ins (c:Str) (ns:List Str) (ds:List D)|odc (ks:List Key) (ds:List D)
noncomputable def PV.isOwn:PV->Bool
 | .dat _=>false
 | _=>true
noncomputable def PV.d:PV->D
 | .dat d=>d
 | .own ds=>.lst ds
 | .ins c ns ds=>.obj c ns ds
 | .odc ks ds=>.dic ks ds
abbrev PSt:=List (Option PV)
noncomputable def Wr(ρ:PSt)(σ:St)(b:Addr):Prop:=∃(i:Nat) (p:PV),ρ[i]?=some (some p)/\p.isOwn=true/\σ[i]?=some (some (.ref b))
noncomputable def OO(A:Addr->Prop)(ρ:PSt)(σ:St)(b:Addr):Prop:=A b\/Wr ρ σ b
noncomputable def RS(K:b_)(O:Addr->Prop)(H:Hp):PV->V->Prop
 | .dat d,v=>FV K O H v d
 | .own ds,v=>∃a xs,v=.ref a/\H a=some (.lst xs)/\FVs K O H xs ds
 | .ins c ns ds,v=>∃a dx fs,v=.ref a/\H a=some (.ins (bM K c) dx fs)/\fs.map tj=ns/\FVs K O H (fs.map G_) ds
 | .odc ks ds,v=>∃a kvs,v=.ref a/\H a=some (.dK kvs)/\kvs.map tj=ks/\FVs K O H (kvs.map G_) ds
structure Rel (K:b_) (A:Addr->Prop) (ρ:PSt) (σ:St) (H:Hp):Prop where
 len:ρ.length=σ.length
 get:∀(i:Nat) (p:PV),ρ[i]?=some (some p)->∃v,σ[i]?=some (some v)/\RS K (OO A ρ σ) H p v
 dj:∀(i j:Nat) (p q:PV) (v:V),ρ[i]?=some (some p)->ρ[j]?=some (some q)->p.isOwn=true->q.isOwn=true->σ[i]?=some (some v)->σ[j]?=some (some v)->i=j
 dom:∀b,A b->H b≠none
 sep:∀b,A b->¬ Wr ρ σ b
structure Fr (ρ:PSt) (σ:St) (H:Hp) (ρ':PSt) (H':Hp):Prop where
 kp:∀b o,¬ Wr ρ σ b->H b=some o->H' b=some o
 dm:∀b,H b≠none->H' b≠none
 ow:∀b,Wr ρ' σ b->Wr ρ σ b
def Fr.refl(ρ:PSt)(σ:St)(H:Hp):Fr ρ σ H ρ H:=⟨λ_ _ _ h=>h,λ_ h=>h,λ_ h=>h⟩
variable {ρ ρ1:PSt}{H1:Hp}
def Fr.trans{ρ2:PSt}{H2:Hp}(a:Fr ρ σ H ρ1 H1)(b:Fr ρ1 σ H1 ρ2 H2):Fr ρ σ H ρ2 H2 :=
 ⟨λc o n h=>b.kp c o (λz=>n (a.ow c z)) (a.kp c o n h),λc h=>b.dm c (a.dm c h),λc h=>a.ow c (b.ow c h)⟩
def Fr.keeps{ρ':PSt}{A:Addr->Prop}(f:Fr ρ σ H ρ' H'):aB (OO A ρ σ) H (OO A ρ' σ) H':=λb o n h =>
 ⟨λz=>z.elim (λz=>n (.inl z)) (λz=>n (.inr (f.ow b z))),f.kp b o (λz=>n (.inr z)) h⟩
def Fr.new{p:Addr}{o:HO}(h:H p=none):Fr ρ σ H ρ (upd H p o) :=
 ⟨λb u _ e=>by rw [ar (aP e h)];exact e,λb e=>by
  by_cases z:b=p
  .rw [z,aC];exact nofun
  .rw [ar z];exact e,λ_ h=>h⟩
def aB.fresh{p:Addr}{o:HO}(h:H p=none):aB O H (cB O p) (upd H p o):=λb u n e =>
 ⟨λz=>z.elim n (λz=>by rw [z,h] at e;cases e),by rw [ar (aP e h)];exact e⟩
def aB.less(h:∀b,O' b->O b):aB O H O' H:=λb o n e=>⟨λz=>n (h b z),e⟩
def RS.keeps{p:PV}(k:aB O H O' H')(w:p.isOwn=true->∀a,v=.ref a->H' a=H a)(h:RS K O H p v):RS K O' H' p v:=by
 cases p with
 | dat d=>exact FV.keeps k h
 | own ds =>
  obtain⟨a,xs,e,g,f⟩:=h;exact⟨a,xs,e,by rw [w rfl a e];exact g,f.keeps k⟩
 | ins c ns ds =>
  obtain⟨a,dx,fs,e,g,m,f⟩:=h;exact⟨a,dx,fs,e,by rw [w rfl a e];exact g,m,f.keeps k⟩
 | odc ks ds =>
  obtain⟨a,kvs,e,g,m,f⟩:=h;exact⟨a,kvs,e,by rw [w rfl a e];exact g,m,f.keeps k⟩
def RS.ref{p:PV}(h:RS K O H p v)(o:p.isOwn=true):∃a u,v=.ref a/\H a=some u:=by
 cases p with
 | dat d=>cases o
 | own ds=>obtain⟨a,xs,e,g,f⟩:=h;exact⟨a,_,e,g⟩
 | ins c ns ds=>obtain⟨a,dx,fs,e,g,m,f⟩:=h;exact⟨a,_,e,g⟩
 | odc ks ds=>obtain⟨a,kvs,e,g,m,f⟩:=h;exact⟨a,_,e,g⟩
def Rel.wr{A:Addr->Prop}(R:Rel K A ρ σ H)(h:Wr ρ σ b):H b≠none:=by
 obtain⟨i,p,e,o,s⟩:=h;obtain⟨v,s',r⟩:=R.get i p e;rw [s] at s';cases s';obtain⟨a,u,e1,e2⟩:=r.ref o;cases e1;rw [e2];exact nofun
def Rel.oo{A:Addr->Prop}(R:Rel K A ρ σ H)(h:H b=none):¬ OO A ρ σ b:=λz=>z.elim (λz=>R.dom b z h) (λz=>R.wr z h)
def Rel.grow{A:Addr->Prop}(R:Rel K A ρ σ H){p:Addr}{o:HO}(h:H p=none):Rel K A ρ σ (upd H p o):=by
 have k:aB (OO A ρ σ) H (OO A ρ σ) (upd H p o):=Fr.keeps (Fr.new h);refine⟨R.len,λi q e=>?_,R.dj,λb z=>(Fr.new (ρ:=ρ) (σ:=σ) h).dm b (R.dom b z),R.sep⟩;obtain⟨v,s,r⟩:=R.get i q e;refine⟨v,s,r.keeps k λow a ea=>?_⟩;obtain⟨a',u,e1,e2⟩:=r.ref ow;rw [ea] at e1;cases e1;rw [ar (aP e2 h)]
def Rel.growA{A:Addr->Prop}(R:Rel K A ρ σ H){p:Addr}{o:HO}(h:H p=none):Rel K (cB A p) ρ σ (upd H p o):=by
 have k:aB (OO A ρ σ) H (OO (cB A p) ρ σ) (upd H p o):=λb u n e=>by
  refine⟨λz=>?_,by rw [ar (aP e h)];exact e⟩
  rcases z with (z|z)|z
  .exact n (.inl z)
  .rw [z,h] at e;cases e
  .exact n (.inr z)
 refine⟨R.len,λi q e=>?_,R.dj,λb z=>?_,λb z w=>?_⟩
 .obtain⟨v,s,r⟩:=R.get i q e;refine⟨v,s,r.keeps k λow a ea=>?_⟩;obtain⟨a',u,e1,e2⟩:=r.ref ow;rw [ea] at e1;cases e1;rw [ar (aP e2 h)]
 .rcases z with z|z
  .exact (Fr.new (ρ:=ρ) (σ:=σ) h).dm b (R.dom b z)
  .rw [z,aC];exact nofun
 .rcases z with z|z
  .exact R.sep b z w
  .exact R.wr w (by rw [z];exact h)
def Rel.less{A A':Addr->Prop}(R:Rel K A ρ σ H)(h:∀b,A' b->A b):Rel K A' ρ σ H:=by
 refine⟨R.len,λi q e=>?_,R.dj,λb z=>R.dom b (h b z),λb z=>R.sep b (h b z)⟩;obtain⟨v,s,r⟩:=R.get i q e;exact⟨v,s,r.keeps (aB.less λb z=>z.imp (h b) id) λ_ _ _=>rfl⟩
def Rel.write{A:Addr->Prop}(R:Rel K A ρ σ H){p q:PV}{o:HO}(e:ρ[i]?=some (some p))(ow:p.isOwn=true)(ow':q.isOwn=true)(es:σ[i]?=some (some (.ref a)))(new:RS K (OO A ρ σ) (upd H a o) q (.ref a)):Rel K A (ρ.set i (some q)) σ (upd H a o)/\Fr ρ σ H (ρ.set i (some q)) (upd H a o):=by
 have hi:i<ρ.length:=(i_.mp e).1;have wa:Wr ρ σ a:=⟨i,p,e,ow,es⟩
 have weq:∀b,Wr (ρ.set i (some q)) σ b ↔ Wr ρ σ b:=λb=>by
  constructor
  .rintro⟨j,r,e1,o1,s1⟩
   by_cases z:i=j
   .subst z;exact⟨i,p,e,ow,s1⟩
   .rw [k_ z] at e1;exact⟨j,r,e1,o1,s1⟩
  .rintro⟨j,r,e1,o1,s1⟩
   by_cases z:i=j
   .subst z;exact⟨i,q,p_ hi,ow',s1⟩
   .exact⟨j,r,by rw [k_ z];exact e1,o1,s1⟩
 have oeq:OO A (ρ.set i (some q)) σ=OO A ρ σ:=funext λb=>propext (or_congr Iff.rfl (weq b));have kp:∀b u,¬ Wr ρ σ b->H b=some u->upd H a o b=some u:=λb u n h=>by rw [ar (λz=>n (by rw [z];exact wa))];exact h
 have k:aB (OO A ρ σ) H (OO A ρ σ) (upd H a o):=λb u n h=>⟨n,kp b u (λz=>n (.inr z)) h⟩
 have dm:∀b,H b≠none->upd H a o b≠none:=λb n=>by
  by_cases z:b=a
  .rw [z,aC];exact nofun
  .rw [ar z];exact n
 refine⟨⟨by rw [JE];exact R.len,λj r e1=>?_,λj l p1 q1 v e1 e2 o1 o2 s1 s2=>?_,λb z=>dm b (R.dom b z),λb z w=>R.sep b z ((weq b).mp w)⟩,⟨kp,dm,λb w=>(weq b).mp w⟩⟩
 .rw [oeq]
  by_cases z:i=j
  .subst z;rw [p_ hi] at e1;cases e1;exact⟨_,es,new⟩
  .rw [k_ z] at e1;obtain⟨v,s,rr⟩:=R.get j r e1;refine⟨v,s,rr.keeps k λow2 b eb=>?_⟩;rw [ar];intro zz;subst zz;rw [eb] at s;exact z (R.dj i j p r _ e e1 ow ow2 es s)
 .have ex:∀(m:Nat) (x:PV),(ρ.set i (some q))[m]?=some (some x)->x.isOwn=true->∃y:PV,ρ[m]?=some (some y)/\y.isOwn=true:=λm x em ox=>by
   by_cases z:i=m
   .subst z;exact⟨p,e,ow⟩
   .rw [k_ z] at em;exact⟨x,em,ox⟩
  obtain⟨y1,h1,h2⟩:=ex j p1 e1 o1;obtain⟨y2,h3,h4⟩:=ex l q1 e2 o2;exact R.dj j l y1 y2 v h1 h3 h2 h4 s1 s2
def Rel.frz{A:Addr->Prop}(R:Rel K A ρ σ H){p:PV}(e:ρ[i]?=some (some p)):
  Rel K A (ρ.set i (some (.dat p.d))) σ H/\Fr ρ σ H (ρ.set i (some (.dat p.d))) H:=by
 have hi:i<ρ.length:=(i_.mp e).1
 have ex:∀(m:Nat) (x:PV),(ρ.set i (some (.dat p.d)))[m]?=some (some x)->x.isOwn=true->m≠i/\ρ[m]?=some (some x):=λm x em ox=>by
  by_cases z:i=m
  .subst z;rw [p_ hi] at em;cases em;cases ox
  .rw [k_ z] at em;exact⟨λq=>z q.symm,em⟩
 have ow:∀b,Wr (ρ.set i (some (.dat p.d))) σ b->Wr ρ σ b:=λb ⟨j,r,e1,o1,s1⟩=>⟨j,r,(ex j r e1 o1).2,o1,s1⟩
 have k:aB (OO A ρ σ) H (OO A (ρ.set i (some (.dat p.d))) σ) H:=aB.less λb z=>z.imp id (ow b);refine⟨⟨by rw [JE];exact R.len,λj r e1=>?_,λj l p1 q1 v e1 e2 o1 o2 s1 s2=>R.dj j l p1 q1 v (ex j p1 e1 o1).2 (ex l q1 e2 o2).2 o1 o2 s1 s2,R.dom,λb z w=>R.sep b z (ow b w)⟩,⟨λ_ _ _ h=>h,λ_ h=>h,ow⟩⟩
 by_cases z:i=j
 .subst z;rw [p_ hi] at e1;cases e1;obtain⟨v,s,r⟩:=R.get i p e;refine⟨v,s,?_⟩
  have na:∀a,v=.ref a->p.isOwn=true->¬ OO A (ρ.set i (some (.dat p.d))) σ a:=λa ea oo z=>by
   subst ea
   rcases z with z|⟨j,r,e1,o1,s1⟩
   .exact R.sep a z ⟨i,p,e,oo,s⟩
   .obtain⟨n1,n2⟩:=ex j r e1 o1;exact n1 (R.dj j i r p _ n2 e o1 oo s1 s)
  cases p with
  | dat d=>exact FV.keeps k r
  | own ds =>
   obtain⟨a,xs,rfl,g,f⟩:=r;exact .lst (na a rfl rfl) g (f.keeps k)
  | ins c ns ds =>
   obtain⟨a,dx,fs,rfl,g,m,f⟩:=r;exact .obj (na a rfl rfl) g m (f.keeps k)
  | odc ks ds =>
   obtain⟨a,kvs,rfl,g,m,f⟩:=r;exact .dic (na a rfl rfl) g m (f.keeps k)
 .rw [k_ z] at e1;obtain⟨v,s,r⟩:=R.get j _ e1;exact⟨v,s,r.keeps k λ_ _ _=>rfl⟩
abbrev PKt:=PV->PSt->Prop
abbrev PTE:=PSt->PKt->Prop
abbrev PTT:=PSt->(Bool->PSt->Prop)->Prop
inductive AV where
 | v (d:D)|sl (i:Nat)
abbrev PA1:=PSt->(AV->PSt->Prop)->Prop
abbrev PTA:=PSt->(List AV->PSt->Prop)->Prop
noncomputable def Out(K:b_)(A:Addr->Prop)(ρ:PSt)(σ:St)(H0 H:Hp):PV->V->Prop
 | .dat d,v=>Rel K A ρ σ H/\FV K (OO A ρ σ) H v d
 | .own ds,v=>∃a xs,v=.ref a/\¬ A a/\H0 a=none/\H a=some (.lst xs)/\Rel K (cB A a) ρ σ H/\FVs K (OO (cB A a) ρ σ) H xs ds
 | .ins c ns ds,v=>∃a dx fs,v=.ref a/\¬ A a/\H0 a=none/\H a=some (.ins (bM K c) dx fs)/\fs.map tj=ns/\Rel K (cB A a) ρ σ H/\FVs K (OO (cB A a) ρ σ) H (fs.map G_) ds
 | .odc ks ds,v=>∃a kvs,v=.ref a/\¬ A a/\H0 a=none/\H a=some (.dK kvs)/\kvs.map tj=ks/\Rel K (cB A a) ρ σ H/\FVs K (OO (cB A a) ρ σ) H (kvs.map G_) ds
noncomputable def LE(K:b_)(te:TE)(pe:PTE):Prop:=∀(A:Addr->Prop) (ρ:PSt) (σ:St) (H:Hp) (Q:PKt) (Q':VK),Rel K A ρ σ H->pe ρ Q ->
 (∀v H' p ρ',Q p ρ'->Fr ρ σ H ρ' H'->Out K A ρ' σ H H' p v->Q' v H')->te σ H Q'
noncomputable def LT(K:b_)(tt:TT)(pt:PTT):Prop:=∀(A:Addr->Prop) (ρ:PSt) (σ:St) (H:Hp) (Q:Bool->PSt->Prop) (Q':Bool->Hp->Prop),Rel K A ρ σ H->pt ρ Q ->
 (∀b H' ρ',Q b ρ'->Fr ρ σ H ρ' H'->Rel K A ρ' σ H'->Q' b H')->tt σ H Q'
noncomputable def AOk(K:b_)(O:Addr->Prop)(σ:St)(H:Hp):AV->V->Prop
 | .v d,v=>FV K O H v d
 | .sl i,v=>σ[i]?=some (some v)
noncomputable def LA1(K:b_)(te:TE)(pa:PA1):Prop:=∀(A:Addr->Prop) (ρ:PSt) (σ:St) (H:Hp) (Q:AV->PSt->Prop) (Q':VK),Rel K A ρ σ H->pa ρ Q ->
 (∀v H' av ρ',Q av ρ'->Fr ρ σ H ρ' H'->Rel K A ρ' σ H'->AOk K (OO A ρ' σ) σ H' av v->Q' v H')->te σ H Q'
inductive Ci (K:b_) (O:Addr->Prop) (σ:St) (H:Hp):List AV->List V->Prop
 | nil:Ci K O σ H [] []
 | cons {a:AV}{v:V}{as:List AV}{vs:List V}:AOk K O σ H a v->Ci K O σ H as vs->Ci K O σ H (a::as) (v::vs)
noncomputable def LAs(K:b_)(ta:TA)(pa:PTA):Prop:=∀(A:Addr->Prop) (ρ:PSt) (σ:St) (H:Hp) (Q:List AV->PSt->Prop) (Q':List V->Hp->Prop),Rel K A ρ σ H->pa ρ Q ->
 (∀vs H' as ρ',Q as ρ'->Fr ρ σ H ρ' H'->Rel K A ρ' σ H'->Ci K (OO A ρ' σ) σ H' as vs->Q' vs H')->ta σ H Q'
def AOk.keeps{a:AV}(k:aB O H O' H')(h:AOk K O σ H a v):AOk K O' σ H' a v:=by
 cases a with
 | v d=>exact FV.keeps k h
 | sl i=>exact h
variable {A:Addr->Prop}{H0:Hp}
def Out.frz{p:PV}(h:Out K A ρ σ H0 H p v):Rel K A ρ σ H/\FV K (OO A ρ σ) H v p.d:=by
 cases p with
 | dat d=>exact h
 | own ds =>
  obtain⟨a,xs,rfl,na,_,e,R,f⟩:=h;refine⟨R.less λb z=>.inl z,.lst (λz=>?_) e (f.keeps (aB.less λb z=>z.imp .inl id))⟩;exact z.elim na (λz=>R.sep a (.inr rfl) z)
 | ins c ns ds =>
  obtain⟨a,dx,fs,rfl,na,_,e,m,R,f⟩:=h;refine⟨R.less λb z=>.inl z,.obj (λz=>?_) e m (f.keeps (aB.less λb z=>z.imp .inl id))⟩;exact z.elim na (λz=>R.sep a (.inr rfl) z)
 | odc ks ds =>
  obtain⟨a,kvs,rfl,na,_,e,m,R,f⟩:=h;refine⟨R.less λb z=>.inl z,.dic (λz=>?_) e m (f.keeps (aB.less λb z=>z.imp .inl id))⟩;exact z.elim na (λz=>R.sep a (.inr rfl) z)
def Out.h0{p:PV}(h:Out K A ρ σ H0 H p v)(dm:∀b,H1 b≠none->H0 b≠none):Out K A ρ σ H1 H p v:=by
 have k:∀a,H0 a=none->H1 a=none:=λa e=>by
  cases z:H1 a with
  | none=>rfl
  | some o=>exact absurd e (dm a (by rw [z];exact nofun))
 cases p with
 | dat d=>exact h
 | own ds=>obtain⟨a,xs,e1,na,e2,r⟩:=h;exact⟨a,xs,e1,na,k a e2,r⟩
 | ins c ns ds=>obtain⟨a,dx,fs,e1,na,e2,r⟩:=h;exact⟨a,dx,fs,e1,na,k a e2,r⟩
 | odc ks ds=>obtain⟨a,kvs,e1,na,e2,r⟩:=h;exact⟨a,kvs,e1,na,k a e2,r⟩
noncomputable def Gr(H H':Hp):Prop:=∀b o,H b=some o->H' b=some o
def Gr.fr(g:Gr H H'):Fr ρ σ H ρ H':=⟨λb o _ h=>g b o h,λb h=>by
 cases e:H b with
 | none=>exact absurd e h
 | some o=>rw [g b o e];exact nofun,λ_ h=>h⟩
def Gr.new{p:Addr}{o:HO}(h:H p=none):Gr H (upd H p o):=λb u e=>by rw [ar (aP e h)];exact e
def Gr.refl(H:Hp):Gr H H:=λ_ _ h=>h
def Rel.gr(R:Rel K A ρ σ H)(g:Gr H H'):Rel K A ρ σ H':=by
 refine⟨R.len,λi q e=>?_,R.dj,λb z=>(g.fr (ρ:=ρ) (σ:=σ)).dm b (R.dom b z),R.sep⟩;obtain⟨v,s,r⟩:=R.get i q e;refine⟨v,s,r.keeps (g.fr (ρ:=ρ) (σ:=σ)).keeps λow a ea=>?_⟩;obtain⟨a',u,e1,e2⟩:=r.ref ow;rw [ea] at e1;cases e1;rw [e2];exact g _ _ e2
def Rel.grA(R:Rel K A ρ σ H)(g:Gr H H'){p:Addr}(h:H p=none)(h':H' p≠none):Rel K (cB A p) ρ σ H':=by
 have k:aB (OO A ρ σ) H (OO (cB A p) ρ σ) H':=λb u n e=>by
  refine⟨λz=>?_,g _ _ e⟩
  rcases z with (z|z)|z
  .exact n (.inl z)
  .rw [z,h] at e;cases e
  .exact n (.inr z)
 refine⟨R.len,λi q e=>?_,R.dj,λb z=>?_,λb z w=>?_⟩
 .obtain⟨v,s,r⟩:=R.get i q e;refine⟨v,s,r.keeps k λow a ea=>?_⟩;obtain⟨a',u,e1,e2⟩:=r.ref ow;rw [ea] at e1;cases e1;rw [e2];exact g _ _ e2
 .rcases z with z|z
  .exact (g.fr (ρ:=ρ) (σ:=σ)).dm b (R.dom b z)
  .rw [z];exact h'
 .rcases z with z|z
  .exact R.sep b z w
  .exact R.wr w (by rw [z];exact h)
noncomputable def rJ(K:b_)(O:Addr->Prop)(H0 H:Hp):PV->V->Prop
 | .dat d,v=>FV K O H v d
 | .own ds,v=>∃a xs,v=.ref a/\H0 a=none/\H a=some (.lst xs)/\FVs K (cB O a) H xs ds
 | .ins c ns ds,v=>∃a dx fs,v=.ref a/\H0 a=none/\H a=some (.ins (bM K c) dx fs)/\fs.map tj=ns/\FVs K (cB O a) H (fs.map G_) ds
 | .odc ks ds,v=>∃a kvs,v=.ref a/\H0 a=none/\H a=some (.dK kvs)/\kvs.map tj=ks/\FVs K (cB O a) H (kvs.map G_) ds
def rJ.out{p:PV}(R:Rel K A ρ σ H)(g:Gr H H')(h:rJ K (OO A ρ σ) H H' p v):Out K A ρ σ H H' p v:=by
 cases p with
 | dat d=>exact⟨R.gr g,h⟩
 | own ds =>
  obtain⟨a,xs,rfl,e0,e,f⟩:=h;refine⟨a,xs,rfl,λz=>R.dom a z e0,e0,e,R.grA g e0 (by rw [e];exact nofun),f.keeps (aB.less λb z=>?_)⟩
  rcases z with (z|z)|z
  .exact .inl (.inl z)
  .exact .inr z
  .exact .inl (.inr z)
 | ins c ns ds =>
  obtain⟨a,dx,fs,rfl,e0,e,m,f⟩:=h;refine⟨a,dx,fs,rfl,λz=>R.dom a z e0,e0,e,m,R.grA g e0 (by rw [e];exact nofun),f.keeps (aB.less λb z=>?_)⟩
  rcases z with (z|z)|z
  .exact .inl (.inl z)
  .exact .inr z
  .exact .inl (.inr z)
 | odc ks ds =>
  obtain⟨a,kvs,rfl,e0,e,m,f⟩:=h;refine⟨a,kvs,rfl,λz=>R.dom a z e0,e0,e,m,R.grA g e0 (by rw [e];exact nofun),f.keeps (aB.less λb z=>?_)⟩
  rcases z with (z|z)|z
  .exact .inl (.inl z)
  .exact .inr z
  .exact .inl (.inr z)
noncomputable def FVc(K:b_)(O:Addr->Prop)(H:Hp)(v:V)(d:D):Prop:=FV K O H v d\/(∃a xs ds,v=.ref a/\d=.lst ds/\H a=some (.lst xs)/\FVs K O H xs ds) \/
 (∃a dx c fs ns ds,v=.ref a/\d=.obj c ns ds/\H a=some (.ins (bM K c) dx fs)/\fs.map tj=ns/\FVs K O H (fs.map G_) ds) \/
 ∃a kvs ks ds,v=.ref a/\d=.dic ks ds/\H a=some (.dK kvs)/\kvs.map tj=ks/\FVs K O H (kvs.map G_) ds
noncomputable def cont(ρ:PSt):AV->Option D
 | .v d=>some d
 | .sl i=>match ρ[i]? with|some (some p)=>some p.d|_=>none
def Rel.cont{av:AV}{d:D}(R:Rel K A ρ σ H)(h:AOk K (OO A ρ σ) σ H av v)(e:L2.cont ρ av=some d):FVc K (OO A ρ σ) H v d:=by
 cases av with
 | v d'=>cases e;exact .inl h
 | sl i =>
  have h:σ[i]?=some (some v):=h;simp only [L2.cont] at e
  split at e
  .rename_i p ep;cases e;obtain⟨v',s,r⟩:=R.get i p ep;rw [h] at s;cases s
   cases p with
   | dat d=>exact .inl r
   | own ds=>obtain⟨a,xs,e1,e2,f⟩:=r;exact .inr (.inl ⟨a,xs,ds,e1,rfl,e2,f⟩)
   | ins c ns ds=>obtain⟨a,dx,fs,e1,e2,m,f⟩:=r;exact .inr (.inr (.inl ⟨a,dx,c,fs,ns,ds,e1,rfl,e2,m,f⟩))
   | odc ks ds=>obtain⟨a,kvs,e1,e2,m,f⟩:=r;exact .inr (.inr (.inr ⟨a,kvs,ks,ds,e1,rfl,e2,m,f⟩))
  .cases e
variable {ds:List D}
def FVc.lst(h:FVc K O H v (.lst ds)):∃a xs,v=.ref a/\H a=some (.lst xs)/\FVs K O H xs ds:=by
 rcases h with h|⟨a,xs,ds',e1,e2,e3,f⟩|⟨a,dx,c,fs,ns,ds',e1,e2,_⟩|⟨a,kvs,ks,ds',e1,e2,_⟩
 .cases h with
  | lst n s f=>exact⟨_,_,rfl,s,f⟩
 .cases e2;exact⟨a,xs,e1,e3,f⟩
 .cases e2
 .cases e2
def FVc.fv{d:D}(h:FVc K O H v d)(n:∀ds,d≠.lst ds)(n':∀c ns ds,d≠.obj c ns ds)(n'':∀ks ds,d≠.dic ks ds:=by nofun):FV K O H v d:=by
 rcases h with h|⟨a,xs,ds',e1,e2,e3,f⟩|⟨a,dx,c,fs,ns,ds',e1,e2,_⟩|⟨a,kvs,ks,ds',e1,e2,_⟩
 .exact h
 .exact absurd e2 (n _)
 .exact absurd e2 (n' _ _ _)
 .exact absurd e2 (n'' _ _)
variable {ks:List Key}
def FVc.dic(h:FVc K O H v (.dic ks ds)):∃a kvs,v=.ref a/\H a=some (.dK kvs)/\kvs.map tj=ks/\FVs K O H (kvs.map G_) ds:=by
 rcases h with h|⟨_,_,_,_,e2,_⟩|⟨_,_,_,_,_,_,_,e2,_⟩|⟨a,kvs,_,_,e1,e2,e3,m,f⟩
 .cases h with
  | dic n e m f=>exact⟨_,_,rfl,e,m,f⟩
 .cases e2
 .cases e2
 .cases e2;exact⟨a,kvs,e1,e3,m,f⟩
def FVc.tup(h:FVc K O H v (.tup ds)):∃a xs,v=.ref a/\¬ O a/\H a=some (.tup xs)/\FVs K O H xs ds:=by
 cases h.fv nofun nofun with
 | tup n s f=>exact⟨_,_,rfl,n,s,f⟩
def FVc.scr(h:FVc K O H v (.scr ns)):∃a,v=.ref a/\SqL K H a (ns.map V.int):=by
 cases h.fv nofun nofun with
 | scr s=>exact⟨_,rfl,s.sq⟩
def FVc.int{i:Int}(h:FVc K O H v (.int i)):v=.int i:=by cases h.fv nofun nofun;rfl
def FVc.bl{i:Bool}(h:FVc K O H v (.bl i)):v=.bl i:=by cases h.fv nofun nofun;rfl
def FVc.str{i:List Nat}(h:FVc K O H v (.str i)):v=.str (S i)/\i.length<=1000000:=by
 cases h.fv nofun nofun with
 | str _ z=>exact⟨rfl,z⟩
def pC(d:D):PTE:=λρ Q=>Q (.dat d) ρ
noncomputable def xi(i:Nat):PTE:=λρ Q=>match ρ[i]? with
 | some (some (.dat d))=>Q (.dat d) ρ
 | some (some (.own ds))=>Q (.dat (.lst ds)) (ρ.set i (some (.dat (.lst ds))))
 | some (some (.ins c ns ds))=>Q (.dat (.obj c ns ds)) (ρ.set i (some (.dat (.obj c ns ds))))
 | _=>False
noncomputable def pSl(i:Nat):PA1:=λρ Q=>match ρ[i]? with
 | some (some (.dat d))=>Q (.v d) ρ
 | some (some (.own _))=>Q (.sl i) ρ
 | some (some (.ins _ _ _))=>Q (.sl i) ρ
 | _=>False
noncomputable def pFz(pe:PTE):PA1:=λρ Q=>pe ρ λp ρ1=>Q (.v p.d) ρ1
def hG:PTA:=λρ Q=>Q [] ρ
noncomputable def cU(pa:PA1)(pr:PTA):PTA:=λρ Q=>pa ρ λa ρ1=>pr ρ1 λas ρ2=>Q (a::as) ρ2
def GC{d:D}(h:∀O H,FV K O H v d):LE K (tC v) (pC d):=λA ρ σ H Q Q' R q k=>k v H (.dat d) ρ q (Fr.refl _ _ _) ⟨R,h _ _⟩
def le_int{i:Int}:LE K (tC (.int i)) (pC (.int i)):=GC λ_ _=>.int i
def hU{i:Bool}:LE K (tC (.bl i)) (pC (.bl i)):=GC λ_ _=>.bl i
def EE:LE K (tC .non) (pC .non):=GC λ_ _=>.non
def le_str{l:List Nat}(h:l.length<=1000000:=by decide):LE K (tC (.str (S l))) (pC (.str l)):=GC λ_ _=>.str l h
def jb:LE K (aH i) (xi i):=by
 intro A ρ σ H Q Q' R q k;unfold xi at q
 split at q
 .rename_i d e;obtain⟨v,s,r⟩:=R.get i _ e;exact⟨v,s,k v H (.dat d) ρ q (Fr.refl _ _ _) ⟨R,r⟩⟩
 .rename_i ds e;obtain⟨R',f⟩:=R.frz e;obtain⟨v,s,r⟩:=R'.get i _ (p_ (i_.mp e).1);exact⟨v,s,k v H (.dat (.lst ds)) _ q f ⟨R',r⟩⟩
 .rename_i c ns ds e;obtain⟨R',f⟩:=R.frz e;obtain⟨v,s,r⟩:=R'.get i _ (p_ (i_.mp e).1);exact⟨v,s,k v H (.dat (.obj c ns ds)) _ q f ⟨R',r⟩⟩
 .exact q.elim
def fh:LA1 K (aH i) (pSl i):=by
 intro A ρ σ H Q Q' R q k;unfold pSl at q
 split at q
 .rename_i d e;obtain⟨v,s,r⟩:=R.get i _ e;exact⟨v,s,k v H _ ρ q (Fr.refl _ _ _) R r⟩
 .rename_i e;obtain⟨v,s,r⟩:=R.get i _ e;exact⟨v,s,k v H _ ρ q (Fr.refl _ _ _) R s⟩
 .rename_i e;obtain⟨v,s,r⟩:=R.get i _ e;exact⟨v,s,k v H _ ρ q (Fr.refl _ _ _) R s⟩
 .exact q.elim
variable {pe:PTE}
def ah(h:LE K ta pe):LA1 K ta (pFz pe):=λA ρ σ H Q Q' R q k=>h A ρ σ H _ Q' R q λv H' p ρ' q f o=>k v H' _ ρ' q f o.frz.1 o.frz.2
def ac:LAs K c6 hG:=λA ρ σ H Q Q' R q k=>k [] H [] ρ q (Fr.refl _ _ _) R .nil
variable {pa:PA1}{tr:TA}{pr:PTA}
def aa(h:LA1 K ta pa)(hr:LAs K tr pr):LAs K (aK ta tr) (cU pa pr):=λA ρ σ H Q Q' R q k =>
 h A ρ σ H _ _ R q λv H1 a ρ1 q1 f1 R1 o1=>hr A ρ1 σ H1 _ _ R1 q1 λvs H2 as ρ2 q2 f2 R2 o2=>k _ H2 _ ρ2 q2 (f1.trans f2) R2 (.cons (o1.keeps f2.keeps) o2)
noncomputable def LO(K:b_)(r:R2)(f:D->D->(PV->Prop)->Prop):Prop:=∀(O:Addr->Prop) (H:Hp) (x y:V) (a b:D) (Q:PV->Prop) (Q':VK),(∀b,O b->H b≠none)->FVc K O H x a->FVc K O H y b->f a b Q ->
 (∀v H' p,Q p->Gr H H'->rJ K O H H' p v->Q' v H')->r x y H Q'
noncomputable def op2(f:D->D->(PV->Prop)->Prop)(ρ:PSt)(x y:AV)(Q:PKt):Prop:=match cont ρ x,cont ρ y with
 | some a,some b=>f a b λp=>Q p ρ
 | _,_=>False
variable {pb:PA1}
noncomputable def pOp(f:D->D->(PV->Prop)->Prop)(pa pb:PA1):PTE:=λρ Q=>pa ρ λx ρ1=>pb ρ1 λy ρ2=>op2 f ρ2 x y Q
def Rel.dom2(R:Rel K A ρ σ H):∀b,OO A ρ σ b->H b≠none:=λb z=>z.elim (R.dom b) R.wr
variable {tb:TE}
def ak{r:R2}{f:D->D->(PV->Prop)->Prop}(o:LO K r f)(ha:LA1 K ta pa)(hb:LA1 K tb pb):LE K (tOp r ta tb) (pOp f pa pb):=λA ρ σ H Q Q' R q k =>
 ha A ρ σ H _ _ R q λv H1 a ρ1 q1 f1 R1 o1=>hb A ρ1 σ H1 _ _ R1 q1 λw H2 b ρ2 q2 f2 R2 o2=>by
  unfold op2 at q2
  split at q2
  .rename_i da db e1 e2;exact o _ H2 v w da db _ _ R2.dom2 (R2.cont (o1.keeps f2.keeps) e1) (R2.cont o2 e2) q2 λz H3 p q3 g ov=>k z H3 p ρ2 q3 ((f1.trans f2).trans g.fr) ((ov.out R2 g).h0 λb z=>f2.dm b (f1.dm b z))
  .exact q2.elim
noncomputable def LU(K:b_)(r:V->Hp->VK->Prop)(f:D->(PV->Prop)->Prop):Prop:=∀(O:Addr->Prop) (H:Hp) (x:V) (a:D) (Q:PV->Prop) (Q':VK),(∀b,O b->H b≠none)->FVc K O H x a->f a Q ->
 (∀v H' p,Q p->Gr H H'->rJ K O H H' p v->Q' v H')->r x H Q'
noncomputable def op1(f:D->(PV->Prop)->Prop)(ρ:PSt)(x:AV)(Q:PKt):Prop:=match cont ρ x with
 | some a=>f a λp=>Q p ρ
 | _=>False
noncomputable def pUn(f:D->(PV->Prop)->Prop)(pa:PA1):PTE:=λρ Q=>pa ρ λx ρ1=>op1 f ρ1 x Q
def zD{r:V->Hp->VK->Prop}{f:D->(PV->Prop)->Prop}(o:LU K r f)(ha:LA1 K ta pa):LE K (tUn r ta) (pUn f pa):=λA ρ σ H Q Q' R q k =>
 ha A ρ σ H _ _ R q λv H1 a ρ1 q1 f1 R1 o1=>by
  unfold op1 at q1
  split at q1
  .rename_i da e1;exact o _ H1 v da _ _ R1.dom2 (R1.cont o1 e1) q1 λz H3 p q3 g ov=>k z H3 p ρ1 q3 (f1.trans g.fr) ((ov.out R1 g).h0 λb z=>f1.dm b z)
  .exact q1.elim
inductive Dr (K:b_) (O:Addr->Prop) (H:Hp):List V->List D->Prop
 | nil:Dr K O H [] []
 | cons {x:V}{d:D}{xs:List V}{ds:List D}:FVc K O H x d->Dr K O H xs ds->Dr K O H (x::xs) (d::ds)
noncomputable def conts(ρ:PSt):List AV->Option (List D)
 | []=>some []
 | a::r=>match cont ρ a,conts ρ r with
  | some d,some ds=>some (d::ds)
  | _,_=>none
theorem Rel.conts(R:Rel K A ρ σ H):∀{as:List AV}{vs:List V}{ds:List D},Ci K (OO A ρ σ) σ H as vs->L2.conts ρ as=some ds->Dr K (OO A ρ σ) H vs ds
 | _,_,_,.nil,e=>by cases e;exact .nil
 | _,_,_,.cons a b,e=>by
  unfold L2.conts at e
  split at e
  .rename_i e1 e2;cases e;exact .cons (R.cont a e1) (R.conts b e2)
  .cases e
noncomputable def LC(K:b_)(r:List V->Hp->VK->Prop)(f:List D->(PV->Prop)->Prop):Prop:=∀(O:Addr->Prop) (H:Hp) (xs:List V) (as:List D) (Q:PV->Prop) (Q':VK),(∀b,O b->H b≠none)->Dr K O H xs as->f as Q ->
 (∀v H' p,Q p->Gr H H'->rJ K O H H' p v->Q' v H')->r xs H Q'
noncomputable def opN(f:List D->(PV->Prop)->Prop)(ρ:PSt)(as:List AV)(Q:PKt):Prop:=match conts ρ as with
 | some ds=>f ds λp=>Q p ρ
 | _=>False
noncomputable def pCB(f:List D->(PV->Prop)->Prop)(pr:PTA):PTE:=λρ Q=>pr ρ λas ρ1=>opN f ρ1 as Q
def aF{r:List V->Hp->VK->Prop}{f:List D->(PV->Prop)->Prop}(o:LC K r f)(ha:LAs K tr pr):LE K (tCB r tr) (pCB f pr):=λA ρ σ H Q Q' R q k =>
 ha A ρ σ H _ _ R q λvs H1 as ρ1 q1 f1 R1 o1=>by
  unfold opN at q1
  split at q1
  .rename_i ds e1;exact o _ H1 vs ds _ _ R1.dom2 (R1.conts o1 e1) q1 λz H3 p q3 g ov=>k z H3 p ρ1 q3 (f1.trans g.fr) ((ov.out R1 g).h0 λb z=>f1.dm b z)
  .exact q1.elim
noncomputable def avD:List AV->Option (List D)
 | []=>some []
 | .v d::r=>match avD r with|some ds=>some (d::ds)|none=>none
 | .sl _::_=>none
theorem Ci.avD:∀{as:List AV}{vs:List V}{ds:List D},Ci K O σ H as vs->L2.avD as=some ds->FVs K O H vs ds
 | _,_,_,.nil,e=>by cases e;exact .nil
 | .v d::r,_,_,.cons a b,e=>by
  simp only [L2.avD] at e
  split at e
  .rename_i e1;cases e;exact .cons a (b.avD e1)
  .cases e
 | .sl i::r,_,_,.cons a b,e=>by cases e
noncomputable def Je(pr:PTA):PTE:=λρ Q=>pr ρ λas ρ1=>match avD as with
 | some ds=>ds.length<=1000000/\Q (.own ds) ρ1
 | _=>False
noncomputable def Jf(pr:PTA):PTE:=λρ Q=>pr ρ λas ρ1=>match avD as with
 | some ds=>ds.length<=1000000/\Q (.dat (.tup ds)) ρ1
 | _=>False
def b8(ha:LAs K tr pr):LE K (Gz tr) (Je pr):=λA ρ σ H Q Q' R q k =>
 ha A ρ σ H _ _ R q λvs H1 as ρ1 q1 f1 R1 o1=>by
  split at q1
  .rename_i ds e1;have fs:=o1.avD e1;refine⟨sz _ (by rw [fs.length];exact q1.1),λp hp=>k _ _ (.own ds) ρ1 q1.2 (f1.trans (Fr.new hp)) ?_⟩;have g:Gr H1 (upd H1 p (.lst vs)):=Gr.new hp;exact (rJ.out (p:=.own ds) R1 g ⟨p,vs,rfl,hp,aC,fs.keeps (aB.fresh hp)⟩).h0 λb z=>f1.dm b z
  .exact q1.elim
def qB(ha:LAs K tr pr):LE K (D0 tr) (Jf pr):=λA ρ σ H Q Q' R q k =>
 ha A ρ σ H _ _ R q λvs H1 as ρ1 q1 f1 R1 o1=>by
  split at q1
  .rename_i ds e1;have fs:=o1.avD e1;refine⟨sz _ (by rw [fs.length];exact q1.1),λp hp=>k _ _ (.dat (.tup ds)) ρ1 q1.2 (f1.trans (Fr.new hp)) ⟨R1.grow hp,?_⟩⟩;exact .tup (R1.oo hp) aC (fs.keeps (Fr.new hp).keeps)
  .exact q1.elim
noncomputable def pB(pe:PTE):PTT:=λρ Q=>pe ρ λp ρ1=>match p with
 | .dat (.bl b)=>Q b ρ1
 | _=>False
def rK(h:LE K ta pe):LT K (tB ta) (pB pe):=λA ρ σ H Q Q' R q k=>h A ρ σ H _ _ R q λv H1 p ρ1 q1 f1 o1=>by
 split at q1
 .rename_i b;obtain⟨R1,f⟩:=o1;cases f;exact⟨b,rfl,k b H1 ρ1 q1 f1 R1⟩
 .exact q1.elim
def fi(h:LE K ta pe):LT K (iZ ta) (pB pe):=rK h
noncomputable def Jg(a b:PTT):PTT:=λρ Q=>a ρ λc ρ1=>h7 c (b ρ1 Q) (Q false ρ1)
noncomputable def pOr(a b:PTT):PTT:=λρ Q=>a ρ λc ρ1=>h7 c (Q true ρ1) (b ρ1 Q)
noncomputable def Hi(a:PTT):PTT:=λρ Q=>a ρ λc ρ1=>Q (!c) ρ1
variable {tta ttb:TT}{pta ptb:PTT}
def nX(ha:LT K tta pta)(hb:LT K ttb ptb):LT K (GO tta ttb) (Jg pta ptb):=λA ρ σ H Q Q' R q k=>ha A ρ σ H _ _ R q λc H1 ρ1 q1 f1 R1=>by
 cases c with
 | true=>exact hb A ρ1 σ H1 _ _ R1 q1 λb H2 ρ2 q2 f2 R2=>k b H2 ρ2 q2 (f1.trans f2) R2
 | false=>exact k false H1 ρ1 q1 f1 R1
def vh(ha:LT K tta pta)(hb:LT K ttb ptb):LT K (tOr tta ttb) (pOr pta ptb):=λA ρ σ H Q Q' R q k=>ha A ρ σ H _ _ R q λc H1 ρ1 q1 f1 R1=>by
 cases c with
 | false=>exact hb A ρ1 σ H1 _ _ R1 q1 λb H2 ρ2 q2 f2 R2=>k b H2 ρ2 q2 (f1.trans f2) R2
 | true=>exact k true H1 ρ1 q1 f1 R1
def gc(ha:LT K tta pta):LT K (GP tta) (Hi pta):=λA ρ σ H Q Q' R q k=>ha A ρ σ H _ _ R q λc H1 ρ1 q1 f1 R1=>k _ H1 ρ1 q1 f1 R1
noncomputable def Hj(a b:PTE):PTE:=λρ Q=>a ρ λp ρ1=>match p with
 | .dat (.bl c)=>h7 c (b ρ1 Q) (Q (.dat (.bl false)) ρ1)
 | _=>False
noncomputable def Hk(a:PTE):PTE:=λρ Q=>a ρ λp ρ1=>match p with
 | .dat (.bl c)=>Q (.dat (.bl (!c))) ρ1
 | _=>False
variable {pe':PTE}
def gy(ha:LE K ta pe)(hb:LE K tb pe'):LE K (BH ta tb) (Hj pe pe'):=λA ρ σ H Q Q' R q k=>ha A ρ σ H _ _ R q λv H1 p ρ1 q1 f1 o1=>by
 split at q1
 .rename_i c;obtain⟨R1,f⟩:=o1;cases f;refine⟨c,rfl,?_⟩
  cases c with
  | true=>exact hb A ρ1 σ H1 _ _ R1 q1 λb H2 p2 ρ2 q2 f2 o2=>k b H2 p2 ρ2 q2 (f1.trans f2) (o2.h0 λb z=>f1.dm b z)
  | false=>exact k _ H1 _ ρ1 q1 f1 ⟨R1,.bl false⟩
 .exact q1.elim
def xj(ha:LE K ta pe):LE K (DM ta) (Hk pe):=λA ρ σ H Q Q' R q k=>ha A ρ σ H _ _ R q λv H1 p ρ1 q1 f1 o1=>by
 split at q1
 .rename_i c;obtain⟨R1,f⟩:=o1;cases f;exact⟨c,rfl,k _ H1 _ ρ1 q1 f1 ⟨R1,.bl (!c)⟩⟩
 .exact q1.elim
noncomputable def pIf(t:PTT)(a b:PTE):PTE:=λρ Q=>t ρ λc ρ1=>h7 c (a ρ1 Q) (b ρ1 Q)
def EF(ht:LT K tta pta)(ha:LE K ta pe)(hb:LE K tb pe'):LE K (tIf tta ta tb) (pIf pta pe pe'):=λA ρ σ H Q Q' R q k=>ht A ρ σ H _ _ R q λc H1 ρ1 q1 f1 R1=>by
 cases c with
 | true=>exact ha A ρ1 σ H1 _ _ R1 q1 λb H2 p2 ρ2 q2 f2 o2=>k b H2 p2 ρ2 q2 (f1.trans f2) (o2.h0 λb z=>f1.dm b z)
 | false=>exact hb A ρ1 σ H1 _ _ R1 q1 λb H2 p2 ρ2 q2 f2 o2=>k b H2 p2 ρ2 q2 (f1.trans f2) (o2.h0 λb z=>f1.dm b z)
abbrev F2:=D->D->(PV->Prop)->Prop
noncomputable def fI0(g:Int->Int->D):F2
 | .int i,.int j,Q=>Q (.dat (g i j))
 | _,_,_=>False
noncomputable def fI(C:Int->Int->Prop)(g:Int->Int->D):F2
 | .int i,.int j,Q=>C i j/\Q (.dat (g i j))
 | _,_,_=>False
def Cj{g:Int->Int->V}{g':Int->Int->D}(h:∀i j O H,FV K O H (g i j) (g' i j)):LO K (rI0 g) (fI0 g'):=by
 intro O H x y a b Q Q' dom fx fy q k;unfold fI0 at q
 split at q
 .rename_i i j;exact⟨i,j,fx.int,fy.int,k _ H _ q (Gr.refl _) (h i j _ _)⟩
 .exact q.elim
def GD{C:Int->Int->Prop}{g:Int->Int->V}{g':Int->Int->D}(h:∀i j O H,FV K O H (g i j) (g' i j)):LO K (rI C g) (fI C g'):=by
 intro O H x y a b Q Q' dom fx fy q k;unfold fI at q
 split at q
 .rename_i i j;exact⟨i,j,fx.int,fy.int,q.1,k _ H _ q.2 (Gr.refl _) (h i j _ _)⟩
 .exact q.elim
def eO{p:Addr}(hp:H p=none)(f:FVs K O H xs ds):rJ K O H (upd H p (.lst xs)) (.own ds) (.ref p) :=
 ⟨p,xs,rfl,hp,aC,f.keeps (aB.fresh hp)⟩
def lE{p:Addr}(dom:∀b,O b->H b≠none)(hp:H p=none)(f:FVs K O H xs ds):rJ K O H (upd H p (.tup xs)) (.dat (.tup ds)) (.ref p) :=
 .tup (λz=>dom p z hp) aC (f.keeps λb o n e=>⟨n,by rw [ar (aP e hp)];exact e⟩)
noncomputable def Hl:R2:=λx y H Q=>∃i j,x=.str (S i)/\y=.str (S j)/\i.length+j.length<=sizeLine/\Q (.str (S (i++j))) H
noncomputable def Ck(K:b_):R2:=λx y H Q=>rI0 (λi j=>.int (i+j)) x y H Q\/Hl x y H Q\/Ev K x y H Q\/D4 K x y H Q
def Hm(K:b_)(e:X.K=K):OpR X (binaryOp .Add) (Ck K):=by
 subst e;exact OpR.or DT (OpR.or B5 (OpR.or B8 BV))
noncomputable def Hn:F2
 | .int i,.int j,Q=>Q (.dat (.int (i+j)))
 | .str a,.str b,Q=>a.length+b.length<=1000000/\Q (.dat (.str (a++b)))
 | .lst a,.lst b,Q=>a.length+b.length<=1000000/\Q (.own (a++b))
 | .scr a,.lst b,Q=>a.length+b.length<=1000000/\Q (.own (a.map .int++b))
 | .tup a,.tup b,Q=>a≠[]/\a.length+b.length<=1000000/\Q (.dat (.tup (a++b)))
 | _,_,_=>False
def AW:LO K (Ck K) Hn:=by
 intro O H x y a b Q Q' dom fx fy q k;unfold Hn at q
 split at q
 .rename_i i j;exact .inl ⟨i,j,fx.int,fy.int,k _ H _ q (Gr.refl _) (.int _)⟩
 .rename_i i j;exact .inr (.inl ⟨i,j,fx.str.1,fy.str.1,sz _ q.1,k _ H _ q.2 (Gr.refl _) (.str _ (by rw [length_append];exact q.1))⟩)
 .rename_i i j;obtain⟨a,xs,rfl,e1,f1⟩:=fx.lst;obtain⟨b,ys,rfl,e2,f2⟩:=fy.lst;exact .inr (.inr (.inl ⟨a,b,xs,ys,rfl,rfl,SqL.of e1,SqL.of e2,sz _ (by rw [f1.length,f2.length];exact q.1),λp hp=>k _ _ _ q.2 (Gr.new hp) (eO hp (f1.append f2))⟩))
 .rename_i i j;obtain⟨a,rfl,e1⟩:=fx.scr;obtain⟨b,ys,rfl,e2,f2⟩:=fy.lst;exact .inr (.inr (.inl ⟨a,b,_,ys,rfl,rfl,e1,SqL.of e2,sz _ (by rw [length_map,f2.length];exact q.1),λp hp=>k _ _ _ q.2 (Gr.new hp) (eO hp ((FVs.of_ints i).append f2))⟩))
 .rename_i i j;obtain⟨a,xs,rfl,n1,e1,f1⟩:=fx.tup;obtain⟨b,ys,rfl,n2,e2,f2⟩:=fy.tup;have l1:=f1.length;have l2:=f2.length
  refine .inr (.inr (.inr ⟨a,b,xs,ys,rfl,rfl,SqT.of e1,SqT.of e2,λz=>q.1 ?_,sz _ (by rw [l1,l2];exact q.2.1),λz=>?_,λ_ p hp=>k _ _ _ q.2.2 (Gr.new hp) (lE dom hp (f1.append f2))⟩))
  .exact JQ.mp (by rw [<- l1,z];rfl)
  .have:j=[]:=JQ.mp (by rw [<- l2,z];rfl);subst this;exact k _ H _ q.2.2 (Gr.refl _) (by rw [JY];exact .tup n1 e1 f1)
 .exact q.elim
def eA:LO K (rI0 λi j=>.int (i - j)) (fI0 λi j=>.int (i - j)):=Cj λ_ _ _ _=>.int _
def bY:LO K (rI (λ_ j=>0<j) λi j=>.int (i % j)) (fI (λ_ j=>0<j) λi j=>.int (i % j)):=GD λ_ _ _ _=>.int _
def gz:LO K (rI GU λi j=>.int (i / j)) (fI (λ_ j=>0<j/\j<1073741824) λi j=>.int (i / j)):=GD λ_ _ _ _=>.int _
def lF:LO K (rI GV λi j=>.int (i^j.toNat)) (fI (λi j=>0<=j/\j<=1000000/\i.natAbs<2^64) λi j=>.int (i^j.toNat)):=GD λ_ _ _ _=>.int _
noncomputable def Ho:R2:=λx y H Q=>∃l n,x=.str (S l)/\y=.int n/\-1000000<=n/\n<=1000000/\n.toNat*l.length<=sizeLine/\Q (.str (S (t9 l n))) H
noncomputable def zE:R2:=λx y H Q=>rI Gx (λi j=>.int (i*j)) x y H Q\/Ho x y H Q\/Ix x y H Q
def kG:OpR X (binaryOp .Mult) zE:=OpR.or DW (OpR.or u4 Ea)
noncomputable def IA:F2
 | .int i,.int j,Q=>((-(2^64)<i/\i<2^64)\/(-(2^64)<j/\j<2^64))/\Q (.dat (.int (i*j)))
 | .str a,.int n,Q=>(-1000000<=n/\n<=1000000/\n.toNat*a.length<=1000000)/\Q (.dat (.str (t9 a n)))
 | .lst a,.int n,Q=>(-1000000<=n/\n<=1000000/\a.length*n.toNat<=1000000)/\Q (.own (t9 a n))
 | _,_,_=>False
theorem FVs.rep(f:FVs K O H xs ds):∀n,FVs K O H (v_ n xs).flatten (v_ n ds).flatten
 | 0=>.nil
 | n+1=>by rw [replicate_succ,replicate_succ,flatten_cons,flatten_cons];exact f.append (f.rep n)
def gg:LO K zE IA:=by
 intro O H x y a b Q Q' dom fx fy q k;unfold IA at q
 split at q
 .rename_i i j;exact .inl ⟨i,j,fx.int,fy.int,q.1,k _ H _ q.2 (Gr.refl _) (.int _)⟩
 .rename_i i j;exact .inr (.inl ⟨i,j,fx.str.1,fy.int,q.1.1,q.1.2.1,sz _ q.1.2.2,k _ H _ q.2 (Gr.refl _) (.str _ (by rw [rT];exact q.1.2.2))⟩)
 .rename_i i j;obtain⟨a,xs,rfl,e1,f1⟩:=fx.lst;exact .inr (.inr ⟨a,j,xs,rfl,fy.int,e1,by omega,by omega,sz _ (by rw [f1.length];exact q.1.2.2),λp hp=>k _ _ _ q.2 (Gr.new hp) (eO hp (f1.rep _))⟩)
 .exact q.elim
noncomputable def Hr:R2:=λx y H Q=>rI0 (λi j=>.bl (decide (i<j))) x y H Q\/∃i j,x=.str i/\y=.str j/\Q (.bl (decide (i.cps.toList<j.cps.toList))) H
noncomputable def GE:R2:=λx y H Q=>rI0 (λi j=>.bl (decide (i<=j))) x y H Q\/∃i j,x=.str i/\y=.str j/\Q (.bl (!decide (j.cps.toList<i.cps.toList))) H
def EG:OpR X (compareOp .Lt) Hr:=OpR.or GY wn
def Ds:OpR X (compareOp .LtE) GE:=OpR.or GZ wM
noncomputable def fLt:F2
 | .int i,.int j,Q=>Q (.dat (.bl (decide (i<j))))
 | .str i,.str j,Q=>Q (.dat (.bl (decide (i<j))))
 | _,_,_=>False
noncomputable def fLe:F2
 | .int i,.int j,Q=>Q (.dat (.bl (decide (i<=j))))
 | .str i,.str j,Q=>Q (.dat (.bl (!decide (j<i))))
 | _,_,_=>False
def xk:LO K Hr fLt:=by
 intro O H x y a b Q Q' dom fx fy q k;unfold fLt at q
 split at q
 .rename_i i j;exact .inl ⟨i,j,fx.int,fy.int,k _ H _ q (Gr.refl _) (.bl _)⟩
 .rename_i i j;exact .inr ⟨_,_,fx.str.1,fy.str.1,k _ H _ q (Gr.refl _) (.bl _)⟩
 .exact q.elim
def vk:LO K GE fLe:=by
 intro O H x y a b Q Q' dom fx fy q k;unfold fLe at q
 split at q
 .rename_i i j;exact .inl ⟨i,j,fx.int,fy.int,k _ H _ q (Gr.refl _) (.bl _)⟩
 .rename_i i j;exact .inr ⟨_,_,fx.str.1,fy.str.1,k _ H _ q (Gr.refl _) (.bl _)⟩
 .exact q.elim
def vm:LO K (rI0 λi j=>.bl (decide (j<i))) (fI0 λi j=>.bl (decide (j<i))):=Cj λ_ _ _ _=>.bl _
def qC:LO K (rI0 λi j=>.bl (decide (j<=i))) (fI0 λi j=>.bl (decide (j<=i))):=Cj λ_ _ _ _=>.bl _
mutual
noncomputable def D.py:D->Ld
 | .non=>.none|.bl b=>.bool b|.int i=>.int i|.str l=>.str (S l)|.ty _=>.none
 | .lst ds=>.list (D.pys ds)|.tup ds=>.tuple (D.pys ds)|.scr ns=>.list (ns.map .int)|.dic _ _=>.none|.fdc _ _=>.none|.obj _ _ _=>.none|.exc _ _ _=>.none
noncomputable def D.pys:List D->List Ld
 | []=>[]
 | d::r=>d.py::D.pys r
end
mutual
noncomputable def D.plain:D->Bool
 | .non=>true|.bl _=>true|.int _=>true|.str _=>true|.ty _=>false
 | .lst ds=>D.plains ds|.tup ds=>D.plains ds|.scr _=>true|.dic _ _=>false|.fdc _ _=>false|.obj _ _ _=>false|.exc _ _ _=>false
noncomputable def D.plains:List D->Bool
 | []=>true
 | d::r=>d.plain && D.plains r
end
mutual
theorem FV.dv{O:Addr->Prop}{H:Hp}:∀{v:V}{d:D},FV K O H v d->d.plain=true->DV K H v d.py
 | _,_,.non,_=>.non
 | _,_,.bl b,_=>.bl b
 | _,_,.int i,_=>.int i
 | _,_,.str l h,_=>.str (S l)
 | _,_,.ty n,p=>nomatch p
 | _,_,.scr s,_=>.lst s.sq (DVs.ints _)
 | _,_,.lst n e f,p=>.lst (SqL.of e) (FVs.dvs f p)
 | _,_,.tup n e f,p=>.tup (SqT.of e) (FVs.dvs f p)
 | _,_,.dic _ _ _ _,p=>nomatch p
 | _,_,.fdc _ _ _ _,p=>nomatch p
 | _,_,.obj _ _ _ _,p=>nomatch p
 | _,_,.exc0 _ _,p=>nomatch p
 | _,_,.exc1 _ _ _ _ _ _,p=>nomatch p
theorem FVs.dvs{O:Addr->Prop}{H:Hp}:∀{vs:List V}{ds:List D},FVs K O H vs ds->D.plains ds=true->DVs K H vs (D.pys ds)
 | _,_,.nil,_=>.nil
 | _,_,.cons a b,p=>by
  have p:(_ && _)=true:=p;rw [and_eq_true] at p;exact .cons (FV.dv a p.1) (FVs.dvs b p.2)
end
def FVc.dv{d:D}(h:FVc K O H v d)(p:d.plain=true):DV K H v d.py:=by
 rcases h with h|⟨a,xs,ds',rfl,rfl,e3,f⟩|⟨a,dx,c,fs,ns,ds',e1,rfl,_⟩|⟨a,kvs,ks,ds',e1,rfl,_⟩
 .exact h.dv p
 .exact .lst (SqL.of e3) (f.dvs p)
 .cases p
 .cases p
noncomputable def EH(K:b_)(neg:Bool):R2:=λx y H Q=>rI0 (λi j=>.bl (if neg then !decide (i=j) else decide (i=j))) x y H Q\/(∃i j,x=.str (S i)/\y=.str (S j)/\Q (.bl (if neg then !decide (i=j) else decide (i=j))) H)\/G6 K neg x y H Q
def Jh(K:b_)(e:X.K=K)(hu:X.A.units+64<cLine):OpR X (compareOp .Eq) (EH K false):=by
 subst e;exact OpR.or Em (OpR.or Ek (Eh hu))
def Ji(K:b_)(e:X.K=K)(hu:X.A.units+64<cLine):OpR X (compareOp .NotEq) (EH K true):=by
 subst e;exact OpR.or En (OpR.or El (Ei hu))
noncomputable def Cm(a b:D):Prop:=a.plain=true/\b.plain=true/\JU a.py=true/\JU b.py=true
def deq(a b:D):Bool:=Mf a.py b.py
noncomputable def fEq:F2
 | .int i,.int j,Q=>Q (.dat (.bl (decide (i=j))))
 | .str i,.str j,Q=>Q (.dat (.bl (decide (i=j))))
 | a,b,Q=>Cm a b/\Q (.dat (.bl (deq a b)))
noncomputable def fNe:F2
 | .int i,.int j,Q=>Q (.dat (.bl (!decide (i=j))))
 | .str i,.str j,Q=>Q (.dat (.bl (!decide (i=j))))
 | a,b,Q=>Cm a b/\Q (.dat (.bl (!deq a b)))
def Hs:LO K (EH K false) fEq:=by
 intro O H x y a b Q Q' dom fx fy q k;unfold fEq at q
 split at q
 .rename_i i j;exact .inl ⟨i,j,fx.int,fy.int,k _ H _ q (Gr.refl _) (.bl _)⟩
 .rename_i i j;exact .inr (.inl ⟨i,j,fx.str.1,fy.str.1,k _ H _ q (Gr.refl _) (.bl _)⟩)
 .exact .inr (.inr ⟨_,_,fx.dv q.1.1,fy.dv q.1.2.1,q.1.2.2.1,q.1.2.2.2,k _ H _ q.2 (Gr.refl _) (.bl _)⟩)
def Ht:LO K (EH K true) fNe:=by
 intro O H x y a b Q Q' dom fx fy q k;unfold fNe at q
 split at q
 .rename_i i j;exact .inl ⟨i,j,fx.int,fy.int,k _ H _ q (Gr.refl _) (.bl _)⟩
 .rename_i i j;exact .inr (.inl ⟨i,j,fx.str.1,fy.str.1,k _ H _ q (Gr.refl _) (.bl _)⟩)
 .exact .inr (.inr ⟨_,_,fx.dv q.1.1,fy.dv q.1.2.1,q.1.2.2.1,q.1.2.2.2,k _ H _ q.2 (Gr.refl _) (.bl _)⟩)
noncomputable def D.fl:D->Bool
 | .non=>true|.bl _=>true|.int _=>true|.str _=>true
 | _=>false
noncomputable def eqF:D->D->Bool
 | .non,.non=>true
 | .bl a,.bl b=>a == b
 | .bl a,.int b=>(if a then 1 else 0) == b
 | .int a,.bl b=>a == (if b then 1 else 0)
 | .int a,.int b=>a == b
 | .str a,.str b=>a == b
 | _,_=>false
noncomputable def inD(x:D)(xs:List D):Bool:=xs.any λy=>eqF y x
def FV.fl{d:D}(h:FV K O H v d)(f:d.fl=true):mX v=true:=by cases h <;> first|rfl|cases f
def EI(a b:List Nat):(S a == S b)=(a == b):=by
 by_cases h:a=b
 .subst h;rw [beq_self_eq_true,beq_self_eq_true]
 .rw [beq_eq_false_iff_ne.mpr h,beq_eq_false_iff_ne.mpr (Jb h)]
def FV.eqF{w:V}{d e:D}(h:FV K O H v d)(f:d.fl=true)(h':FV K O H w e)(f':e.fl=true):eqV v w=L2.eqF d e:=by
 cases h <;> first|(cases f;done)|(cases h' <;> first|(cases f';done)|rfl|exact EI _ _)
theorem FVs.inD{d:D}(h:FV K O H v d)(f:d.fl=true):∀{xs:List V}{ds:List D},FVs K O H xs ds->ds.all D.fl=true->xs.all mX=true/\inV v xs=L2.inD d ds
 | _,_,.nil,_=>⟨rfl,rfl⟩
 | _,_,.cons a b,g=>by
  rw [all_cons,and_eq_true] at g;obtain⟨i1,i2⟩:=b.inD h f g.2;refine⟨by rw [all_cons,a.fl g.1,i1];rfl,?_⟩;unfold inV L2.inD at i2 ⊢;rw [any_cons,any_cons,i2,a.eqF g.1 h f]
noncomputable def fIn(neg:Bool):F2
 | a,.lst ds,Q=>(a.fl=true/\ds.all D.fl=true)/\Q (.dat (.bl (if neg then !inD a ds else inD a ds)))
 | a,.tup ds,Q=>(a.fl=true/\ds.all D.fl=true)/\Q (.dat (.bl (if neg then !inD a ds else inD a ds)))
 | _,_,_=>False
def FVc.fl{d:D}(h:FVc K O H v d)(f:d.fl=true):FV K O H v d:=h.fv (λ_ z=>by rw [z] at f;cases f) (λ_ _ _ z=>by rw [z] at f;cases f) (λ_ _ z=>by rw [z] at f;cases f)
def Jj(K:b_)(e:X.K=K):OpR X (compareOp .In) (rIn K false):=by subst e;exact wC
def Cn(K:b_)(e:X.K=K):OpR X (compareOp .NotIn) (rIn K true):=by subst e;exact qc
def EJ{neg:Bool}:LO K (rIn K neg) (fIn neg):=by
 intro O H x y a b Q Q' dom fx fy q k;unfold fIn at q
 split at q
 .obtain⟨p,xs,rfl,e1,f1⟩:=fy.lst;obtain⟨g1,g2⟩:=f1.inD (fx.fl q.1.1) q.1.1 q.1.2;exact⟨p,xs,rfl,.inl (SqL.of e1),(fx.fl q.1.1).fl q.1.1,g1,by rw [g2];exact k _ H _ q.2 (Gr.refl _) (.bl _)⟩
 .obtain⟨p,xs,rfl,n1,e1,f1⟩:=fy.tup;obtain⟨g1,g2⟩:=f1.inD (fx.fl q.1.1) q.1.1 q.1.2;exact⟨p,xs,rfl,.inr (SqT.of e1),(fx.fl q.1.1).fl q.1.1,g1,by rw [g2];exact k _ H _ q.2 (Gr.refl _) (.bl _)⟩
 .exact q.elim
noncomputable def kH(K:b_):R2:=λx y H Q=>GA K x y H Q\/Is K x y H Q\/Ej x y H Q
def cu(K:b_)(e:X.K=K):IxR X (kH K):=by
 subst e;exact IxR.or BY (IxR.or D5 B4)
noncomputable def fIx:F2
 | .lst ds,.int i,Q=>∃d,atI ds i=some d/\Q (.dat d)
 | .tup ds,.int i,Q=>∃d,atI ds i=some d/\Q (.dat d)
 | .scr ns,.int i,Q=>∃d,atI ns i=some d/\Q (.dat (.int d))
 | .str l,.int i,Q=>∃c,atI l i=some c/\Q (.dat (.str [c]))
 | _,_,_=>False
variable {vs:List V}
def FVs.atI{i:Int}{d:D}(f:FVs K O H vs ds)(h:L2.atI ds i=some d):∃v,L2.atI vs i=some v/\FV K O H v d:=by
 unfold L2.atI at h ⊢;rw [f.length]
 cases e:ixN ds.length i with
 | none=>rw [e] at h;cases h
 | some j=>rw [e] at h;exact f.getD h
def aU:LO K (kH K) fIx:=by
 intro O H x y a b Q Q' dom fx fy q k;unfold fIx at q
 split at q
 .obtain⟨d,hd,q⟩:=q;obtain⟨p,xs,rfl,e1,f1⟩:=fx.lst;obtain⟨v,hv,fv⟩:=f1.atI hd;exact .inl ⟨p,xs,_,v,rfl,fy.int,SqL.of e1,hv,k _ H _ q (Gr.refl _) fv⟩
 .obtain⟨d,hd,q⟩:=q;obtain⟨p,xs,rfl,n1,e1,f1⟩:=fx.tup;obtain⟨v,hv,fv⟩:=f1.atI hd;exact .inr (.inl ⟨p,xs,_,v,rfl,fy.int,SqT.of e1,hv,k _ H _ q (Gr.refl _) fv⟩)
 .obtain⟨d,hd,q⟩:=q;obtain⟨p,rfl,e1⟩:=fx.scr;exact .inl ⟨p,_,_,_,rfl,fy.int,e1,B6 hd,k _ H _ q (Gr.refl _) (.int d)⟩
 .obtain⟨c,hc,q⟩:=q;exact .inr (.inr ⟨_,_,c,fx.str.1,fy.int,sz _ fx.str.2,hc,k _ H _ q (Gr.refl _) (.str _ (by show 1<=1000000;decide))⟩)
 .exact q.elim
end L2
namespace L2
open PySem PySem.Spec PyProof.Rows _root_.HT
variable {prog:s_}{w:World}{A:y_}{E:Value->cy->Prop}{s:cy}{t:Addr}{items:Array Value}{lo hi:Option Int}{Q:Value->cy->Prop}
def jJ{sl:Addr}{vl vu:Value}(ht:IsTup s.heap t items)(hs:s.heap.IsSliceOf sl vl vu .none)(pl:MI vl lo)(pu:MI vu hi)(hw:sIx items.size 0 lo=0/\sIx items.size items.size hi=items.size)(h:Q (.ref t) s):wpAny (model prog w) A (getItem (.ref t) (.ref sl)) Q E s:=by
 obtain⟨os,hos,hcs,hds⟩:=id hs;have hTs:s.TypeIs (.ref sl) "slice":=⟨os,hos,hcs⟩
 unfold getItem
 try with_reducible refine JF ?_
 first|refine cn (h_ ?_)|skip
 refine cn (wpAny_sequenceKey ht.typeIs (by decide) ?_)
 refine cn (J1 (name:=Lu "__getitem__") ht.typeIs Jz
  (KS Jz ht.typeIs entry_tuple_getitem ?_ (args_tuple_getitem _ _)))
 show wpAny _ _ (Mc (.ref t) >>= _) _ _ s;refine cn (tupleItemsOf_ ht ?_);refine cn (MJ hTs ?_);rw [if_pos (by decide)];refine cn (f7 hs pl pu ?_)
 have hyes:(((sIx items.size 0 lo:Nat):Int) == 0 && (1:Int) == 1 && (sIx items.size items.size hi - sIx items.size 0 lo) == items.size)=true:=by
  rw [hw.1,hw.2,Nf];simp
 show wpAny _ _ (if (((sIx items.size 0 lo:Nat):Int) == 0 && (1:Int) == 1 && (sIx items.size items.size hi - sIx items.size 0 lo) == items.size)=true then _ else _) _ _ s;rw [if_pos hyes];refine cn (m:=Builtin.Tuple.tupleIsExact _) (cn (MJ ht.typeIs (h_ ?_)));rw [if_pos (by decide)]
 first
  | exact cn (m:=rule _) (h_ (h_ ⟨_,rfl,h_ h⟩))
  | exact h_ ⟨_,rfl,h_ h⟩
  | exact cn (MM (h_ ⟨_,rfl,h_ h⟩))
noncomputable def EK(K:b_):V->Option Int->Option Int->Hp->VK->Prop:=λx lo hi H Q=>∃a xs,x=.ref a/\SqT K H a xs/\(sIx xs.length 0 lo=0/\sIx xs.length xs.length hi=xs.length)/\Q (.ref a) H
variable {X:Cx}
def Co:SlR X (EK X.K):=by
 intro pins s σ H x v vl vu lo hi sl Q I rx hs pl pu h;obtain⟨a,xs,rfl,hx,hw,q⟩:=h;cases rx;obtain⟨its,r,ht,hz⟩:=I.tuple hx;have hlen:its.toArray.size=xs.length:=by rw [size_toArray];exact r.length.symm
 refine⟨"tuple",_,Jz.lookup,ht.typeIs,?_⟩;exact jJ ht hs pl pu (by rw [hlen];exact hw) ⟨.ref a,H,I,rfl,q⟩
end L2
namespace L2
open PySem PySem.Spec PyProof.Rows
variable {pa pb pc:PA1}
noncomputable def xl(f f':F2)(pa pb pc:PA1):PTE:=λρ Q=>pa ρ λx ρ1=>pb ρ1 λy ρ2=>op2 f ρ2 x y λp ρ3=>match p with
 | .dat (.bl k)=>h7 k (pc ρ3 λz ρ4=>op2 f' ρ4 y z Q) (Q (.dat (.bl false)) ρ3)
 | _=>False
variable {K:b_}{ta tb tc:TE}{r r':R2}
def oX{f f':F2}(o:LO K r f)(o':LO K r' f')(ha:LA1 K ta pa)(hb:LA1 K tb pb)(hc:LA1 K tc pc):LE K (tZ r r' ta tb tc) (xl f f' pa pb pc):=λA ρ σ H Q Q' R q k =>
 ha A ρ σ H _ _ R q λv H1 a ρ1 q1 f1 R1 o1=>hb A ρ1 σ H1 _ _ R1 q1 λw H2 b ρ2 q2 f2 R2 o2=>by
  unfold op2 at q2
  split at q2
  .rename_i da db e1 e2;refine o _ H2 v w da db _ _ R2.dom2 (R2.cont (o1.keeps f2.keeps) e1) (R2.cont o2 e2) q2 λz H3 p q3 g ov=>?_;dsimp only at q3
   split at q3
   .rename_i c;cases ov;refine⟨c,rfl,?_⟩;have R3:=R2.gr g
    cases c with
    | true =>
     refine hc A ρ2 σ H3 _ _ R3 q3 λu H4 cc ρ4 q4 f4 R4 o4=>?_
     try unfold op2 at q4
     split at q4
     .rename_i dc dd e3 e4;have o2':AOk K (OO A ρ4 σ) σ H4 b w:=(o2.keeps (g.fr (ρ:=ρ2) (σ:=σ)).keeps).keeps f4.keeps;exact o' _ H4 w u _ _ _ _ R4.dom2 (R4.cont o2' e3) (R4.cont o4 e4) q4 λz H5 p q5 g5 ov=>k z H5 p ρ4 q5 ((((f1.trans f2).trans g.fr).trans f4).trans g5.fr) ((ov.out R4 g5).h0 λb z=>f4.dm b ((g.fr (ρ:=ρ2) (σ:=σ)).dm b (f2.dm b (f1.dm b z))))
     .exact q4.elim
    | false=>exact k _ H3 _ ρ2 q3 ((f1.trans f2).trans g.fr) ⟨R3,.bl false⟩
   .exact q3.elim
  .exact q2.elim
abbrev PTO:=PSt->(Option Int->PSt->Prop)->Prop
noncomputable def LPo(K:b_)(t:TO)(p:PTO):Prop:=∀(A:Addr->Prop) (ρ:PSt) (σ:St) (H:Hp) (Q:Option Int->PSt->Prop) (Q':Option Int->Hp->Prop),Rel K A ρ σ H->p ρ Q ->
 (∀b H' ρ',Q b ρ'->Fr ρ σ H ρ' H'->Rel K A ρ' σ H'->Q' b H')->t σ H Q'
def EL:PTO:=λρ Q=>Q none ρ
variable {pe:PTE}
noncomputable def EM(pe:PTE):PTO:=λρ Q=>pe ρ λp ρ1=>match p with
 | .dat (.int i)=>Q (some i) ρ1
 | _=>False
def fM:LPo K wA EL:=λA ρ σ H Q Q' R q k=>k none H ρ q (Fr.refl _ _ _) R
def bN(h:LE K ta pe):LPo K (D2 ta) (EM pe):=λA ρ σ H Q Q' R q k=>h A ρ σ H _ _ R q λv H1 p ρ1 q1 f1 o1=>by
 split at q1
 .rename_i i;obtain⟨R1,f⟩:=o1;cases f;exact⟨i,rfl,k _ H1 ρ1 q1 f1 R1⟩
 .exact q1.elim
noncomputable def Hu(K:b_):V->Option Int->Option Int->Hp->VK->Prop:=λx lo hi H Q=>Iu K x lo hi H Q\/Iy x lo hi H Q\/Ir K x lo hi H Q\/EK K x lo hi H Q
variable {X:Cx}
def xn(K:b_)(e:X.K=K):SlR X (Hu K):=by
 subst e;exact SlR.or B0 (SlR.or Ef (SlR.or D3 Co))
noncomputable def fSl:D->Option Int->Option Int->(PV->Prop)->Prop
 | .lst ds,lo,hi,Q=>Q (.own (eM ds lo hi))
 | .scr ns,lo,hi,Q=>Q (.own ((eM ns lo hi).map .int))
 | .str l,lo,hi,Q=>Q (.dat (.str (eM l lo hi)))
 | .tup ds,lo,hi,Q=>Q (.dat (.tup (eM ds lo hi)))
 | _,_,_,_=>False
variable {O:Addr->Prop}{H:Hp}{xs:List V}{ds:List D}
def FVs.cut(f:FVs K O H xs ds)(lo hi:Option Int):FVs K O H (eM xs lo hi) (eM ds lo hi):=by
 unfold eM;rw [f.length];exact (f.drop _).take _
noncomputable def EN(pa:PA1)(pl ph:PTO):PTE:=λρ Q=>pa ρ λx ρ1=>pl ρ1 λlo ρ2=>ph ρ2 λhi ρ3=>match cont ρ3 x with
 | some d=>fSl d lo hi λp=>Q p ρ3
 | _=>False
variable {α:Type}{lo hi:Option Int}{n:Nat}
def Cp{ds:List α}(h:n=ds.length)(hw:HT.sIx n 0 lo=0/\HT.sIx n n hi=n):eM ds lo hi=ds:=by
 subst h;unfold eM;rw [hw.1,hw.2,drop_zero,Nf,KO]
def lsl{x:V}{d:D}{Q:PV->Prop}{Q':VK}(dom:∀b,O b->H b≠none)(fx:FVc K O H x d)(q:fSl d lo hi Q)(k:∀v H' p,Q p->Gr H H'->rJ K O H H' p v->Q' v H'):Hu K x lo hi H Q':=by
 unfold fSl at q
 split at q
 .obtain⟨a,xs,rfl,e1,f1⟩:=fx.lst;exact .inl ⟨a,xs,rfl,SqL.of e1,λp hp=>k _ _ _ q (Gr.new hp) (eO hp (f1.cut _ _))⟩
 .obtain⟨a,rfl,e1⟩:=fx.scr;exact .inl ⟨a,_,rfl,e1,λp hp=>k _ _ _ q (Gr.new hp) (eO hp (by rw [wI,zh];exact FVs.of_ints _))⟩
 .exact .inr (.inl ⟨_,fx.str.1,sz _ fx.str.2,k _ H _ q (Gr.refl _) (.str _ (F_ (dh _ _ _) fx.str.2))⟩)
 .obtain⟨a,xs,rfl,n1,e1,f1⟩:=fx.tup
  by_cases hw:HT.sIx xs.length 0 lo=0/\HT.sIx xs.length xs.length hi=xs.length
  .refine .inr (.inr (.inr ⟨a,xs,rfl,SqT.of e1,hw,k _ H _ q (Gr.refl _) ?_⟩));rw [Cp f1.length hw];exact .tup n1 e1 f1
  .exact .inr (.inr (.inl ⟨a,xs,rfl,SqT.of e1,hw,λp hp=>k _ _ _ q (Gr.new hp) (lE dom hp (f1.cut _ _))⟩))
 .exact q.elim
def cV{tl th:TO}{pl ph:PTO}(ha:LA1 K ta pa)(hl:LPo K tl pl)(hh:LPo K th ph):LE K (tSl (Hu K) ta tl th) (EN pa pl ph):=λA ρ σ H Q Q' R q k =>
 ha A ρ σ H _ _ R q λv H1 a ρ1 q1 f1 R1 o1=>hl A ρ1 σ H1 _ _ R1 q1 λlo H2 ρ2 q2 f2 R2=>hh A ρ2 σ H2 _ _ R2 q2 λhi H3 ρ3 q3 f3 R3=>by
  split at q3
  .rename_i d e1;exact lsl R3.dom2 (R3.cont (o1.keeps (f2.trans f3).keeps) e1) q3 λz H4 p q4 g ov=>k z H4 p ρ3 q4 (((f1.trans f2).trans f3).trans g.fr) ((ov.out R3 g).h0 λb z=>f3.dm b (f2.dm b (f1.dm b z)))
  .exact q3.elim
abbrev FN:=List D->(PV->Prop)->Prop
noncomputable def jK(K:b_):List V->Hp->VK->Prop:=λxs H Q=>(∃l,xs=[.str (S l)]/\l.length<=sizeLine/\Q (.int l.length) H)\/Hd K xs H Q\/He K xs H Q\/∃p kvs,xs=[.ref p]/\Rd H p (.dK kvs)/\Q (.int kvs.length) H
def bH(K:b_)(e:X.K=K):bz X (.builtin "len") (jK K):=by
 subst e;exact bz.or wQ (bz.or wR (bz.or wS xb))
noncomputable def Dt:FN
 | [.str l],Q=>Q (.dat (.int l.length))
 | [.lst l],Q=>Q (.dat (.int l.length))
 | [.tup l],Q=>Q (.dat (.int l.length))
 | [.scr l],Q=>Q (.dat (.int l.length))
 | [.dic ks _],Q=>Q (.dat (.int ks.length))
 | _,_=>False
def aV:LC K (jK K) Dt:=by
 intro O H xs as Q Q' dom fs q k;unfold Dt at q
 split at q
 .cases fs with|cons a b=>cases b;rw [a.str.1];exact .inl ⟨_,rfl,sz _ a.str.2,k _ H _ q (Gr.refl _) (.int _)⟩
 .cases fs with
  | cons a b =>
   cases b;obtain⟨p,ys,rfl,e1,f1⟩:=a.lst;exact .inr (.inl ⟨p,ys,rfl,SqL.of e1,by rw [f1.length];exact k _ H _ q (Gr.refl _) (.int _)⟩)
 .cases fs with
  | cons a b =>
   cases b;obtain⟨p,ys,rfl,n1,e1,f1⟩:=a.tup;exact .inr (.inr (.inl ⟨p,ys,rfl,SqT.of e1,by rw [f1.length];exact k _ H _ q (Gr.refl _) (.int _)⟩))
 .cases fs with
  | cons a b =>
   cases b;obtain⟨p,rfl,e1⟩:=a.scr;exact .inr (.inl ⟨p,_,rfl,e1,by rw [length_map];exact k _ H _ q (Gr.refl _) (.int _)⟩)
 .cases fs with
  | cons a b =>
   cases b;obtain⟨p,kvs,rfl,e,m,f⟩:=a.dic;subst m;exact .inr (.inr (.inr ⟨_,_,rfl,.inl e,k _ H _ q (Gr.refl _) (by rw [length_map];exact .int _)⟩))
 .exact q.elim
inductive Kd where
 | int|bool|str|list|tuple|dict
noncomputable def Kd.nm:Kd->String
 | .int=>"int"|.bool=>"bool"|.str=>"str"|.list=>"list"|.tuple=>"tuple"|.dict=>"dict"
noncomputable def isK:Kd->D->Bool
 | .int,.int _=>true
 | .int,.bl _=>true
 | .bool,.bl _=>true
 | .str,.str _=>true
 | .list,.lst _=>true
 | .tuple,.tup _=>true
 | .dict,.dic _ _=>true
 | _,_=>false
noncomputable def D.sort:D->Bool
 | .obj _ _ _=>false
 | .exc _ _ _=>false
 | .fdc _ _=>false
 | .scr _=>false
 | .ty _=>false
 | _=>true
variable {v:V}
def FVc.ty{d:D}(h:FVc K O H v d)(s:d.sort=true):∃t,pW K H v t/\∀k:Kd,Kh K t (.type k.nm)=some (isK k d):=by
 rcases h with h|⟨a,xs,ds',rfl,rfl,e3,f⟩|⟨a,dx,c,fs,ns,ds',rfl,rfl,_⟩|⟨a,kvs,ks,ds',rfl,rfl,e3,_⟩
 .cases h with
  | non=>exact⟨_,.non,λk=>by cases k <;> rfl⟩
  | bl b=>exact⟨_,.bl b,λk=>by cases k <;> rfl⟩
  | int i=>exact⟨_,.int i,λk=>by cases k <;> rfl⟩
  | str l h=>exact⟨_,.str _,λk=>by cases k <;> rfl⟩
  | ty n=>cases s
  | scr _=>cases s
  | lst n e f=>exact⟨_,.lst e,λk=>by cases k <;> rfl⟩
  | tup n e f=>exact⟨_,.tup e,λk=>by cases k <;> rfl⟩
  | dic n e m f=>exact⟨_,.dK e,λk=>by cases k <;> rfl⟩
  | fdc _ _ _ _=>cases s
  | obj _ _ _ _=>cases s
  | exc0 _ _=>cases s
  | exc1 _ _ _ _ _ _=>cases s
 .exact⟨_,.lst e3,λk=>by cases k <;> rfl⟩
 .cases s
 .exact⟨_,.dK e3,λk=>by cases k <;> rfl⟩
def sh(K:b_)(e:X.K=K):bz X (.builtin "isinstance") (Iz K):=by subst e;exact rV
noncomputable def IB(k:Kd)(pa:PA1):PTE:=λρ Q=>pa ρ λx ρ1=>match cont ρ1 x with
 | some d=>h7 d.sort (Q (.dat (.bl (isK k d))) ρ1) False
 | _=>False
def lG(k:Kd)(ha:LA1 K ta pa):LE K (tCB (Iz K) (aK ta (aK (tC (.ty k.nm)) c6))) (IB k pa):=λA ρ σ H Q Q' R q kk =>
 ha A ρ σ H _ _ R q λv H1 a ρ1 q1 f1 R1 o1=>by
  split at q1
  .rename_i d e1
   cases hs:d.sort with
   | false=>rw [hs] at q1;exact q1.elim
   | true =>
    rw [hs] at q1;obtain⟨t,ty,hk⟩:=(R1.cont o1 e1).ty hs;exact⟨v,k.nm,t,isK k d,rfl,ty,hk k,kk _ H1 _ ρ1 q1 f1 ⟨R1,.bl _⟩⟩
  .exact q1.elim
noncomputable def IC(K:b_):List V->Hp->VK->Prop:=λxs H Q=>∃(x:V) (p:Addr) (ts:List String) (t:Value) (b:Bool),xs=[x,.ref p]/\pW K H x t/\H p=some (.tup (ts.map V.ty))/\LA K t (ts.map J5)=some b/\Q (.bl b) H
def Hv(K:b_)(e:X.K=K):bz X (.builtin "isinstance") (IC K):=by subst e;exact qz
noncomputable def Jk(k l:Kd)(pa:PA1):PTE:=λρ Q=>pa ρ λx ρ1=>match cont ρ1 x with
 | some d=>h7 d.sort (Q (.dat (.bl (isK k d || isK l d))) ρ1) False
 | _=>False
variable {O':Addr->Prop}{H':Hp}
def FVc.keeps{d:D}(k:aB O H O' H')(g:Gr H H')(h:FVc K O H v d):FVc K O' H' v d:=by
 rcases h with h|⟨a,xs,ds',e1,e2,e3,f⟩|⟨a,dx,c,fs,ns,ds',e1,e2,e3,m,f⟩|⟨a,kvs,ks,ds',e1,e2,e3,m,f⟩
 .exact .inl (h.keeps k)
 .exact .inr (.inl ⟨a,xs,ds',e1,e2,g _ _ e3,f.keeps k⟩)
 .exact .inr (.inr (.inl ⟨a,dx,c,fs,ns,ds',e1,e2,g _ _ e3,m,f.keeps k⟩))
 .exact .inr (.inr (.inr ⟨a,kvs,ks,ds',e1,e2,g _ _ e3,m,f.keeps k⟩))
def EO(k l:Kd)(hkl:∀t b c,Kh K t (.type k.nm)=some b->Kh K t (.type l.nm)=some c->LA K t [.type k.nm,.type l.nm]=some (b || c))(ha:LA1 K ta pa):LE K (tCB (IC K) (aK ta (aK (D0 (aK (tC (.ty k.nm)) (aK (tC (.ty l.nm)) c6))) c6))) (Jk k l pa):=λA ρ σ H Q Q' R q kk =>
 ha A ρ σ H _ _ R q λv H1 a ρ1 q1 f1 R1 o1=>by
  split at q1
  .rename_i d e1
   cases hs:d.sort with
   | false=>rw [hs] at q1;exact q1.elim
   | true =>
    rw [hs] at q1;refine⟨by show 2<=sizeLine;decide,λp hp=>?_⟩;have g:Gr H1 (upd H1 p (.tup [V.ty k.nm,V.ty l.nm])):=Gr.new hp;obtain⟨t,ty,hk⟩:=((R1.cont o1 e1).keeps (g.fr (ρ:=ρ1) (σ:=σ)).keeps g).ty hs;exact⟨v,p,[k.nm,l.nm],t,_,rfl,ty,aC,hkl _ _ _ (hk k) (hk l),kk _ _ _ ρ1 q1 (f1.trans g.fr) ⟨R1.gr g,.bl _⟩⟩
  .exact q1.elim
structure Cq where
 nx:PSt->Prop
 rt:PV->PSt->Prop
 bk:PSt->Prop:=λ_=>False
 ct:PSt->Prop:=λ_=>False
abbrev PTS:=Cq->PSt->Prop
structure dO (fx:List (Nat×V)) (R:Addr->Prop) (H0:Hp) (ρ:PSt) (σ:St) (H:Hp):Prop where
 kp:∀b o,¬ R b->H0 b=some o->H b=some o
 dm:∀b,H0 b≠none->H b≠none
 ow:∀b,Wr ρ σ b->R b\/H0 b=none
 fx:∀p∈fx,σ[p.1]?=some (some p.2)
variable {fx:List (Nat×V)}{R:Addr->Prop}{H0:Hp}{ρ ρ':PSt}{σ:St}
def dO.fr(F:dO fx R H0 ρ σ H)(f:Fr ρ σ H ρ' H'):dO fx R H0 ρ' σ H' :=
 ⟨λb o n e=>f.kp b o (λw=>(F.ow b w).elim n (λz=>by rw [z] at e;cases e)) (F.kp b o n e),λb z=>f.dm b (F.dm b z),λb w=>F.ow b (f.ow b w),F.fx⟩
def dO.start(hfx:∀p∈fx,σ[p.1]?=some (some p.2)):dO fx (Wr ρ σ) H ρ σ H:=⟨λ_ _ _ h=>h,λ_ h=>h,λ_ h=>.inl h,hfx⟩
variable {A:Addr->Prop}{ρ1:PSt}{H1:Hp}
def dO.keepsR{σ1:St}(F:dO fx R H1 ρ σ H)(hR:∀b,R b->OO A ρ1 σ1 b):aB (OO A ρ1 σ1) H1 (OO A ρ σ) H:=λb o n e=>by
 refine⟨λz=>?_,F.kp b o (λz=>n (hR b z)) e⟩
 rcases z with z|z
 .exact n (.inl z)
 .rcases F.ow b z with z|z
  .exact n (hR b z)
  .rw [z] at e;cases e
def dO.keeps{σ1:St}(F:dO fx (Wr ρ1 σ1) H1 ρ σ H):aB (OO A ρ1 σ1) H1 (OO A ρ σ) H:=F.keepsR λb z=>.inr z
def dO.trans{fx':List (Nat×V)}{σ1:St}(F:dO fx R H0 ρ1 σ1 H1)(G:dO fx' (Wr ρ1 σ1) H1 ρ σ H)(hfx:∀p∈fx,σ[p.1]?=some (some p.2)):dO fx R H0 ρ σ H:=by
 refine⟨λb o n e=>G.kp b o (λw=>(F.ow b w).elim n (λz=>by rw [z] at e;cases e)) (F.kp b o n e),λb z=>G.dm b (F.dm b z),λb w=>?_,hfx⟩
 rcases G.ow b w with z|z
 .exact F.ow b z
 .refine .inr ?_
  cases e:H0 b with
  | none=>rfl
  | some o=>exact absurd z (F.dm b (by rw [e];exact nofun))
variable {p:PV}{i:Nat}
def Out.put(h:Out K A ρ σ H0 H p v):Rel K A (ρ.set i (some p)) (σ.set i (some v)) H/\∀b,Wr (ρ.set i (some p)) (σ.set i (some v)) b->Wr ρ σ b\/H0 b=none:=by
 have get:∀(j:Nat) (q:PV),(ρ.set i (some p))[j]?=some (some q)->(j=i/\q=p/\i<ρ.length)\/(j≠i/\ρ[j]?=some (some q)):=λj q e=>by
  by_cases z:i=j
  .subst z
   by_cases hi:i<ρ.length
   .rw [p_ hi] at e;cases e;exact .inl ⟨rfl,rfl,hi⟩
   .rw [x_ (by rw [JE];omega)] at e;cases e
  .rw [k_ z] at e;exact .inr ⟨λq=>z q.symm,e⟩
 cases p with
 | dat d =>
  obtain⟨R1,f⟩:=h
  have ow:∀b,Wr (ρ.set i (some (.dat d))) (σ.set i (some v)) b->Wr ρ σ b:=λb ⟨j,r,e1,o1,s1⟩=>by
   rcases get j r e1 with ⟨_,rfl,_⟩|⟨n,e⟩
   .cases o1
   .rw [k_ (λz=>n z.symm)] at s1;exact⟨j,r,e,o1,s1⟩
  have k:aB (OO A ρ σ) H (OO A (ρ.set i (some (.dat d))) (σ.set i (some v))) H:=aB.less λb z=>z.imp id (ow b)
  refine⟨⟨by rw [JE,JE];exact R1.len,λj r e1=>?_,λj l p1 q1 v' e1 e2 o1 o2 s1 s2=>?_,R1.dom,λb z w=>R1.sep b z (ow b w)⟩,λb w=>.inl (ow b w)⟩
  .rcases get j r e1 with ⟨rfl,rfl,hi⟩|⟨n,e⟩
   .exact⟨v,p_ (by rw [<- R1.len];exact hi),f.keeps k⟩
   .obtain⟨u,s,r'⟩:=R1.get j r e;exact⟨u,by rw [k_ (λz=>n z.symm)];exact s,r'.keeps k λ_ _ _=>rfl⟩
  .rcases get j p1 e1 with ⟨_,rfl,_⟩|⟨n1,e1⟩
   .cases o1
   .rcases get l q1 e2 with ⟨_,rfl,_⟩|⟨n2,e2⟩
    .cases o2
    .rw [k_ (λz=>n1 z.symm)] at s1;rw [k_ (λz=>n2 z.symm)] at s2;exact R1.dj j l p1 q1 v' e1 e2 o1 o2 s1 s2
 | own ds =>
  obtain⟨a,xs,rfl,na,hn,e0,R1,f⟩:=h
  have ow:∀b,Wr (ρ.set i (some (.own ds))) (σ.set i (some (.ref a))) b->Wr ρ σ b\/b=a:=λb ⟨j,r,e1,o1,s1⟩=>by
   rcases get j r e1 with ⟨rfl,rfl,hi⟩|⟨n,e⟩
   .rw [p_ (by rw [<- R1.len];exact hi)] at s1;cases s1;exact .inr rfl
   .rw [k_ (λz=>n z.symm)] at s1;exact .inl ⟨j,r,e,o1,s1⟩
  have k:aB (OO (cB A a) ρ σ) H (OO A (ρ.set i (some (.own ds))) (σ.set i (some (.ref a)))) H:=aB.less λb z=>by
   rcases z with z|z
   .exact .inl (.inl z)
   .rcases ow b z with z|z
    .exact .inr z
    .exact .inl (.inr z)
  refine⟨⟨by rw [JE,JE];exact R1.len,λj r e1=>?_,λj l p1 q1 v' e1 e2 o1 o2 s1 s2=>?_,λb z=>R1.dom b (.inl z),λb z w=>?_⟩,λb w=>(ow b w).imp id λz=>by rw [z];exact hn⟩
  .rcases get j r e1 with ⟨rfl,rfl,hi⟩|⟨n,e⟩
   .exact⟨_,p_ (by rw [<- R1.len];exact hi),a,xs,rfl,e0,f.keeps k⟩
   .obtain⟨u,s,r'⟩:=R1.get j r e;exact⟨u,by rw [k_ (λz=>n z.symm)];exact s,r'.keeps k λ_ _ _=>rfl⟩
  .rcases get j p1 e1 with ⟨rfl,rfl,hi⟩|⟨n1,e1'⟩
   .rw [p_ (by rw [<- R1.len];exact hi)] at s1;cases s1
    rcases get l q1 e2 with ⟨rfl,rfl,_⟩|⟨n2,e2⟩
    .rfl
    .rw [k_ (λz=>n2 z.symm)] at s2;exact absurd ⟨l,q1,e2,o2,s2⟩ (R1.sep a (.inr rfl))
   .rw [k_ (λz=>n1 z.symm)] at s1
    rcases get l q1 e2 with ⟨rfl,rfl,hi⟩|⟨n2,e2⟩
    .rw [p_ (by rw [<- R1.len];exact hi)] at s2;cases s2;exact absurd ⟨j,p1,e1',o1,s1⟩ (R1.sep a (.inr rfl))
    .rw [k_ (λz=>n2 z.symm)] at s2;exact R1.dj j l p1 q1 v' e1' e2 o1 o2 s1 s2
  .rcases ow b w with w|w
   .exact R1.sep b (.inl z) w
   .rw [w] at z;exact na z
 | ins c ns ds =>
  obtain⟨a,dx,fs,rfl,na,hn,e0,m,R1,f⟩:=h
  have ow:∀b,Wr (ρ.set i (some (.ins c ns ds))) (σ.set i (some (.ref a))) b->Wr ρ σ b\/b=a:=λb ⟨j,r,e1,o1,s1⟩=>by
   rcases get j r e1 with ⟨rfl,rfl,hi⟩|⟨n,e⟩
   .rw [p_ (by rw [<- R1.len];exact hi)] at s1;cases s1;exact .inr rfl
   .rw [k_ (λz=>n z.symm)] at s1;exact .inl ⟨j,r,e,o1,s1⟩
  have k:aB (OO (cB A a) ρ σ) H (OO A (ρ.set i (some (.ins c ns ds))) (σ.set i (some (.ref a)))) H:=aB.less λb z=>by
   rcases z with z|z
   .exact .inl (.inl z)
   .rcases ow b z with z|z
    .exact .inr z
    .exact .inl (.inr z)
  refine⟨⟨by rw [JE,JE];exact R1.len,λj r e1=>?_,λj l p1 q1 v' e1 e2 o1 o2 s1 s2=>?_,λb z=>R1.dom b (.inl z),λb z w=>?_⟩,λb w=>(ow b w).imp id λz=>by rw [z];exact hn⟩
  .rcases get j r e1 with ⟨rfl,rfl,hi⟩|⟨n,e⟩
   .exact⟨_,p_ (by rw [<- R1.len];exact hi),a,dx,fs,rfl,e0,m,f.keeps k⟩
   .obtain⟨u,s,r'⟩:=R1.get j r e;exact⟨u,by rw [k_ (λz=>n z.symm)];exact s,r'.keeps k λ_ _ _=>rfl⟩
  .rcases get j p1 e1 with ⟨rfl,rfl,hi⟩|⟨n1,e1'⟩
   .rw [p_ (by rw [<- R1.len];exact hi)] at s1;cases s1
    rcases get l q1 e2 with ⟨rfl,rfl,_⟩|⟨n2,e2⟩
    .rfl
    .rw [k_ (λz=>n2 z.symm)] at s2;exact absurd ⟨l,q1,e2,o2,s2⟩ (R1.sep a (.inr rfl))
   .rw [k_ (λz=>n1 z.symm)] at s1
    rcases get l q1 e2 with ⟨rfl,rfl,hi⟩|⟨n2,e2⟩
    .rw [p_ (by rw [<- R1.len];exact hi)] at s2;cases s2;exact absurd ⟨j,p1,e1',o1,s1⟩ (R1.sep a (.inr rfl))
    .rw [k_ (λz=>n2 z.symm)] at s2;exact R1.dj j l p1 q1 v' e1' e2 o1 o2 s1 s2
  .rcases ow b w with w|w
   .exact R1.sep b (.inl z) w
   .rw [w] at z;exact na z
 | odc ks ds =>
  obtain⟨a,kvs,rfl,na,hn,e0,m,R1,f⟩:=h
  have ow:∀b,Wr (ρ.set i (some (.odc ks ds))) (σ.set i (some (.ref a))) b->Wr ρ σ b\/b=a:=λb ⟨j,r,e1,o1,s1⟩=>by
   rcases get j r e1 with ⟨rfl,rfl,hi⟩|⟨n,e⟩
   .rw [p_ (by rw [<- R1.len];exact hi)] at s1;cases s1;exact .inr rfl
   .rw [k_ (λz=>n z.symm)] at s1;exact .inl ⟨j,r,e,o1,s1⟩
  have k:aB (OO (cB A a) ρ σ) H (OO A (ρ.set i (some (.odc ks ds))) (σ.set i (some (.ref a)))) H:=aB.less λb z=>by
   rcases z with z|z
   .exact .inl (.inl z)
   .rcases ow b z with z|z
    .exact .inr z
    .exact .inl (.inr z)
  refine⟨⟨by rw [JE,JE];exact R1.len,λj r e1=>?_,λj l p1 q1 v' e1 e2 o1 o2 s1 s2=>?_,λb z=>R1.dom b (.inl z),λb z w=>?_⟩,λb w=>(ow b w).imp id λz=>by rw [z];exact hn⟩
  .rcases get j r e1 with ⟨rfl,rfl,hi⟩|⟨n,e⟩
   .exact⟨_,p_ (by rw [<- R1.len];exact hi),a,kvs,rfl,e0,m,f.keeps k⟩
   .obtain⟨u,s,r'⟩:=R1.get j r e;exact⟨u,by rw [k_ (λz=>n z.symm)];exact s,r'.keeps k λ_ _ _=>rfl⟩
  .rcases get j p1 e1 with ⟨rfl,rfl,hi⟩|⟨n1,e1'⟩
   .rw [p_ (by rw [<- R1.len];exact hi)] at s1;cases s1
    rcases get l q1 e2 with ⟨rfl,rfl,_⟩|⟨n2,e2⟩
    .rfl
    .rw [k_ (λz=>n2 z.symm)] at s2;exact absurd ⟨l,q1,e2,o2,s2⟩ (R1.sep a (.inr rfl))
   .rw [k_ (λz=>n1 z.symm)] at s1
    rcases get l q1 e2 with ⟨rfl,rfl,hi⟩|⟨n2,e2⟩
    .rw [p_ (by rw [<- R1.len];exact hi)] at s2;cases s2;exact absurd ⟨j,p1,e1',o1,s1⟩ (R1.sep a (.inr rfl))
    .rw [k_ (λz=>n2 z.symm)] at s2;exact R1.dj j l p1 q1 v' e1' e2 o1 o2 s1 s2
  .rcases ow b w with w|w
   .exact R1.sep b (.inl z) w
   .rw [w] at z;exact na z
abbrev PTG:=PV->PSt->(PSt->Prop)->Prop
abbrev zF:=List D->PSt->(PSt->Prop)->Prop
noncomputable def LG(K:b_)(fs:List Nat)(g:TG)(pg:PTG):Prop:=∀(fx:List (Nat×V)) (A R:Addr->Prop) (H0:Hp) (ρ:PSt) (σ:St) (H:Hp) (p:PV) (v:V) (Q:PSt->Prop) (Q':St->Hp->Prop),fx.map tj=fs->dO fx R H0 ρ σ H->Out K A ρ σ H0 H p v->pg p ρ Q ->
 (∀ρ' σ' H',Q ρ'->Rel K A ρ' σ' H'->dO fx R H0 ρ' σ' H'->Q' σ' H')->g v σ H Q'
noncomputable def LGs(K:b_)(fs:List Nat)(g:TGs)(pg:zF):Prop:=∀(fx:List (Nat×V)) (A R:Addr->Prop) (H0:Hp) (ρ:PSt) (σ:St) (H:Hp) (ds:List D) (vs:List V) (Q:PSt->Prop) (Q':St->Hp->Prop),fx.map tj=fs->dO fx R H0 ρ σ H->Rel K A ρ σ H->FVs K (OO A ρ σ) H vs ds->pg ds ρ Q ->
 (∀ρ' σ',Q ρ'->Rel K A ρ' σ' H->dO fx R H0 ρ' σ' H->(∀b,Wr ρ' σ' b->Wr ρ σ b)->Q' σ' H)->g vs σ H Q'
noncomputable def LGd(K:b_)(fs:List Nat)(g:TG)(pg:PTG):Prop:=∀(fx:List (Nat×V)) (A R:Addr->Prop) (H0:Hp) (ρ:PSt) (σ:St) (H:Hp) (d:D) (v:V) (Q:PSt->Prop) (Q':St->Hp->Prop),fx.map tj=fs->dO fx R H0 ρ σ H->Rel K A ρ σ H->FV K (OO A ρ σ) H v d->pg (.dat d) ρ Q ->
 (∀ρ' σ',Q ρ'->Rel K A ρ' σ' H->dO fx R H0 ρ' σ' H->(∀b,Wr ρ' σ' b->Wr ρ σ b)->Q' σ' H)->g v σ H Q'
noncomputable def fj(i:Nat):PTG:=λp ρ Q=>Q (ρ.set i (some p))
noncomputable def Cr:zF:=λds ρ Q=>match ds with|[]=>Q ρ|_=>False
noncomputable def qD(g:PTG)(gs:zF):zF:=λds ρ Q=>match ds with|d::r=>g (.dat d) ρ λρ1=>gs r ρ1 Q|[]=>False
section
variable {fs:List Nat}
def dO.put(hf:fx.map tj=fs)(hi:fs.contains i=false)(F:dO fx R H0 ρ σ H)(ow:∀b,Wr (ρ.set i (some p)) (σ.set i (some v)) b->Wr ρ σ b\/H0 b=none):dO fx R H0 (ρ.set i (some p)) (σ.set i (some v)) H :=
 ⟨F.kp,F.dm,λb w=>(ow b w).elim (F.ow b) .inr,λq hq=>by
  have:q.1≠i:=λz=>by
   have h1:i∈fs:=by rw [<- hf,<- z];exact M6 hq
   rw [JZ.mpr h1] at hi;cases hi
  rw [k_ (λz=>this z.symm)];exact F.fx q hq⟩
def xo(hi:fs.contains i=false):LG K fs (bg i) (fj i):=λfx A R H0 ρ σ H p v Q Q' hf F o q k=>k _ _ _ q o.put.1 (F.put hf hi o.put.2)
def fN:LGs K fs BI Cr:=λfx A R H0 ρ σ H ds vs Q Q' hf F r fv q k=>by
 unfold Cr at q
 split at q
 .cases fv;exact⟨rfl,k _ _ q r F λ_ h=>h⟩
 .exact q.elim
def dC(hi:fs.contains i=false):LGd K fs (bg i) (fj i):=λfx A R H0 ρ σ H d v Q Q' hf F r fv q k=>by
 have o:Out K A ρ σ H0 H (.dat d) v:=⟨r,fv⟩
 have ow:∀b,Wr (ρ.set i (some (.dat d))) (σ.set i (some v)) b->Wr ρ σ b:=λb ⟨j,p,e1,o1,s1⟩=>by
  by_cases z:i=j
  .subst z
   by_cases hl:i<ρ.length
   .rw [p_ hl] at e1;cases e1;cases o1
   .rw [x_ (by rw [JE];omega)] at e1;cases e1
  .rw [k_ z] at e1 s1;exact⟨j,p,e1,o1,s1⟩
 exact k _ _ q o.put.1 (F.put hf hi o.put.2) ow
variable {g:TG}
def br{pg:PTG}{gs:TGs}{pgs:zF}(hg:LGd K fs g pg)(h:LGs K fs gs pgs):LGs K fs (jE g gs) (qD pg pgs):=λfx A R H0 ρ σ H ds vs Q Q' hf F r fv q k=>by
 unfold qD at q
 split at q
 .cases fv with
  | cons a b =>
   exact⟨_,_,rfl,hg fx A R H0 ρ σ H _ _ _ _ hf F r a q λρ1 σ1 q1 r1 F1 w1=>h fx A R H0 ρ1 σ1 H _ _ _ _ hf F1 r1 (b.keeps (aB.less λb z=>z.imp id (w1 b))) q1 λρ2 σ2 q2 r2 F2 w2=>k ρ2 σ2 q2 r2 F2 λb z=>w1 b (w2 b z)⟩
 .exact q.elim
end
noncomputable def LS(K:b_)(fs:List Nat)(ts:TS)(ps:PTS):Prop:=∀(fx:List (Nat×V)) (A R:Addr->Prop) (H0:Hp) (ρ:PSt) (σ:St) (H:Hp) (D:Cq) (D':BF),fx.map tj=fs->Rel K A ρ σ H->dO fx R H0 ρ σ H->ps D ρ ->
 (∀ρ' σ' H',D.nx ρ'->Rel K A ρ' σ' H'->dO fx R H0 ρ' σ' H'->D'.nx σ' H') ->
 (∀v p ρ' σ' H',D.rt p ρ'->Out K A ρ' σ' H0 H' p v->dO fx R H0 ρ' σ' H'->D'.rt v H') ->
 (∀ρ' σ' H',D.bk ρ'->Rel K A ρ' σ' H'->dO fx R H0 ρ' σ' H'->D'.bk σ' H') ->
 (∀ρ' σ' H',D.ct ρ'->Rel K A ρ' σ' H'->dO fx R H0 ρ' σ' H'->D'.ct σ' H')->ts D' σ H
def AX:PTS:=λD ρ=>D.nx ρ
noncomputable def lH(a b:PTS):PTS:=λD ρ=>a { D with nx:=b D } ρ
noncomputable def AY(pe:PTE):PTS:=λD ρ=>pe ρ λ_ ρ1=>D.nx ρ1
def zG(pe:PTE):PTS:=λD ρ=>pe ρ D.rt
noncomputable def ID(t:PTT)(a b:PTS):PTS:=λD ρ=>t ρ λc ρ1=>h7 c (a D ρ1) (b D ρ1)
def Cs:PTS:=λ_ _=>False
noncomputable def EQ(pe:PTE)(g:PTG):PTS:=λD ρ=>pe ρ λp ρ1=>g p ρ1 D.nx
noncomputable def ER(a:PTS):PTS:=λD ρ=>∃J:PSt->Prop,a { D with nx:=J } ρ/\∀ρ',J ρ'->D.nx ρ'
section
variable {fs:List Nat}
def aY:LS K fs DN AX:=λfx A R H0 ρ σ H D D' hf r F q k1 k2 k3 k4=>k1 _ _ _ q r F
def oY:LS K fs AI Cs:=λfx A R H0 ρ σ H D D' hf r F q k1 k2 k3 k4=>q
variable {ta tb:TS}{pa pb:PTS}
def aq(ha:LS K fs ta pa)(hb:LS K fs tb pb):LS K fs (GQ ta tb) (lH pa pb):=λfx A R H0 ρ σ H D D' hf r F q k1 k2 k3 k4 =>
 ha fx A R H0 ρ σ H _ _ hf r F q (λρ1 σ1 H1 q1 r1 F1=>hb fx A R H0 ρ1 σ1 H1 _ _ hf r1 F1 q1 k1 k2 k3 k4) k2 k3 k4
variable {te:TE}
def dP(h:LE K te pe):LS K fs (DO te) (AY pe):=λfx A R H0 ρ σ H D D' hf r F q k1 k2 k3 k4=>h A ρ σ H _ _ r q λv H1 p ρ1 q1 f1 o1=>k1 _ _ _ q1 o1.frz.1 (F.fr f1)
def aJ(h:LE K te pe):LS K fs (GR te) (zG pe):=λfx A R H0 ρ σ H D D' hf r F q k1 k2 k3 k4=>h A ρ σ H _ _ r q λv H1 p ρ1 q1 f1 o1=>k2 v p ρ1 σ H1 q1 (o1.h0 F.dm) (F.fr f1)
variable {tt:TT}{pt:PTT}
def cM(ht:LT K tt pt)(ha:LS K fs ta pa)(hb:LS K fs tb pb):LS K fs (Ii tt ta tb) (ID pt pa pb):=λfx A R H0 ρ σ H D D' hf r F q k1 k2 k3 k4=>ht A ρ σ H _ _ r q λc H1 ρ1 q1 f1 r1=>by
 cases c with
 | true=>exact ha fx A R H0 ρ1 σ H1 D D' hf r1 (F.fr f1) q1 k1 k2 k3 k4
 | false=>exact hb fx A R H0 ρ1 σ H1 D D' hf r1 (F.fr f1) q1 k1 k2 k3 k4
variable {g:TG}
def aA{pg:PTG}(h:LE K te pe)(hg:LG K fs g pg):LS K fs (Do te g) (EQ pe pg):=λfx A R H0 ρ σ H D D' hf r F q k1 k2 k3 k4=>h A ρ σ H _ _ r q λv H1 p ρ1 q1 f1 o1 =>
 hg fx A R H0 ρ1 σ H1 p v _ _ hf (F.fr f1) (o1.h0 F.dm) q1 k1
def lI(h:LS K fs ta pa):LS K fs (Et ta) (ER pa):=λfx A R H0 ρ σ H D D' hf r F q k1 k2 k3 k4=>by
 obtain⟨J,q1,q2⟩:=q;refine⟨λσ' H'=>∃ρ',J ρ'/\Rel K A ρ' σ' H'/\dO fx R H0 ρ' σ' H',?_,λσ' H' ⟨ρ',j,r',F'⟩=>k1 ρ' σ' H' (q2 ρ' j) r' F'⟩;exact h fx A R H0 ρ σ H _ _ hf r F q1 (λρ' σ' H' j r' F'=>⟨ρ',j,r',F'⟩) k2 k3 k4
end
noncomputable def hV(K:b_)(tl:TE):TI:=λσ H R=>tl σ H λx H1=>(∃k a xs,x=.ref a/\Sq k K H1 a xs/\R (Itk k K a) H1)\/∃l,x=.str (S l)/\R (Its (gx l)) H1
variable {tg:Expr}
def Ct{l:Expr}{tl:TE}(hl:PE X l tl):PI X tg l (hV X.K tl):=by
 intro pins s σ H R I h;refine thn (hl pins s σ H _ I h) λv s1 ⟨x,H1,I1,r1,q1⟩=>?_
 have fin:∀b∈[s1.heap.objs.size],rS X pins H1 b:=λb hb=>by
  have e:b=s1.heap.objs.size:=by simpa using hb
  subst e;exact I1.fpOk (f_ _) (I1.hok.fresh (f_ _))
 rcases q1 with ⟨k,a,xs,e,hq,q⟩|⟨l,e,q⟩
 .subst e;cases r1
  cases k with
  | false =>
   obtain⟨its,rv,p,hz⟩:=I1.list hq;refine Ko p.isList ?_;exact⟨s1.heap.objs.size,[s1.heap.objs.size],_,_,H1,rfl,I1.kept (t':=s1.toks) λb o e=>d_ _ e,wf a _,⟨_,kx _ rfl,rfl,rfl⟩,fin,q⟩
  | true =>
   obtain⟨its,rv,p,hz⟩:=I1.tuple hq;refine Le (show s1.heap.IsTuple a its.toArray from p) ?_;exact⟨s1.heap.objs.size,[s1.heap.objs.size],_,_,H1,rfl,I1.kept (t':=s1.toks) λb o e=>d_ _ e,uP a _,⟨_,kx _ rfl,rfl,rfl⟩,fin,q⟩
 .subst e;obtain⟨t,rfl⟩:=r1
  have hv:∀i v,i<(S l).cps.size->SignAt (S l) i v->∃x,(gx l)[i]?=some x/\bW x v:=λi v _ ⟨c,u,hc,e⟩=>by
   subst e;have hc':l[i]?=some c:=by simpa [S] using hc
   exact⟨.str (S [c]),by unfold gx;rw [gV,hc'];rfl,u,rfl⟩
  have hsc:∀i v,SignAt (S l) i v->∀a,v≠.ref a:=λi v ⟨c,u,hc,e⟩ a z=>by subst e;cases z
  have hn:(gx l).length=(S l).cps.size:=by rw [jG];simp [S]
  have hobj:∀ty i (h:Heap),h.IsStrIter s1.heap.objs.size ty (S l) t i->∃o,h.get? s1.heap.objs.size=some o/\∀v,o.data≠.cell v:=λty i h ⟨o,ho,_,hd⟩=>⟨o,ho,λv z=>by rw [hd] at z;cases z⟩
  have hfr:∀ty i (h h':Heap),h.IsStrIter s1.heap.objs.size ty (S l) t i->(∀b∈[s1.heap.objs.size],∀o,h.get? b=some o->h'.get? b=some o)->h'.IsStrIter s1.heap.objs.size ty (S l) t i:=λty i h h' ⟨o,ho,r⟩ k=>⟨o,k _ (by simp) o ho,r⟩
  cases ha:(S l).cps.all (·<128)
  .refine wpAny_pyIter_wide ha ⟨s1.heap.objs.size,[s1.heap.objs.size],_,Its (gx l),H1,rfl,I1.kept (t':=s1.toks) λb o e=>d_ _ e,
    i5 (λA hA=>Walks.strWide hA _ (S l) t) hn hv hsc (hobj _) (hfr _) (λA i s Q E st q=>wpAny_pyIter_striter_wide st q),⟨_,kx _ rfl,rfl,rfl⟩,fin,q⟩
  .refine wpAny_pyIter_ascii ha ⟨s1.heap.objs.size,[s1.heap.objs.size],_,Its (gx l),H1,rfl,I1.kept (t':=s1.toks) λb o e=>d_ _ e,
    i5 (λA hA=>Walks.strAscii hA _ (S l) t) hn hv hsc (hobj _) (hfr _) (λA i s Q E st q=>wpAny_pyIter_striter_ascii st q),⟨_,kx _ rfl,rfl,rfl⟩,fin,q⟩
def bu(K:b_)(e:X.K=K){l:Expr}{tl:TE}(hl:PE X l tl):PI X tg l (hV K tl):=by subst e;exact Ct hl
abbrev PTI:=PSt->(Nat->(Nat->D)->PSt->Prop)->Prop
noncomputable def Wlk(K:b_)(O:Addr->Prop)(H:Hp)(J:It)(n:Nat)(it:Nat->D):Prop:=∀(O':Addr->Prop) (H':Hp),aB O H O' H'->(∀b,O' b->H' b≠none) ->
 (∀k,k<n->J.go k H'/\∀x H'',J.yld k H' x H''->Gr H' H''/\FV K O' H'' x (it k))/\J.stop n H'
noncomputable def LI(K:b_)(wi:TI)(pi:PTI):Prop:=∀(A:Addr->Prop) (ρ:PSt) (σ:St) (H:Hp) (Q:Nat->(Nat->D)->PSt->Prop) (Q':It->Hp->Prop),Rel K A ρ σ H->pi ρ Q ->
 (∀J H' n it ρ',Q n it ρ'->Fr ρ σ H ρ' H'->Rel K A ρ' σ H'->Wlk K (OO A ρ' σ) H' J n it->Q' J H')->wi σ H Q'
noncomputable def itD(ds:List D)(k:Nat):D:=ds.getD k .non
def jc{k:Nat}{d:D}(h:ds[k]?=some d):itD ds k=d:=by unfold itD;rw [e_,h];rfl
noncomputable def IE:D->Option (Nat×(Nat->D))
 | .lst ds=>some (ds.length,itD ds)
 | .tup ds=>some (ds.length,itD ds)
 | .scr ns=>some (ns.length,λk=>.int (ns.getD k 0))
 | .str l=>some (l.length,λk=>.str [l.getD k 0])
 | _=>none
noncomputable def vn(pe:PTE):PTI:=λρ Q=>pe ρ λp ρ1=>match IE p.d with
 | some (n,it)=>Q n it ρ1
 | none=>False
def FV.row{d:D}{it:Nat->D}(h:FV K O H v d)(e:IE d=some (n,it)):
  (∃k a xs,v=.ref a/\xs.length=n/\(∀O' H',aB O H O' H'->Sq k K H' a xs/\∀j x,xs[j]?=some x->FV K O' H' x (it j)))\/∃l,v=.str (S l)/\l.length=n/\(∀k,it k=.str [l.getD k 0]):=by
 cases h with
 | lst nn e0 f =>
  cases e;refine .inl ⟨false,_,_,rfl,f.length,λO' H' k=>⟨SqL.of (k _ _ nn e0).2,λj x hx=>?_⟩⟩;obtain⟨d,hd,fd⟩:=f.get hx;rw [jc hd];exact fd.keeps k
 | tup nn e0 f =>
  cases e;refine .inl ⟨true,_,_,rfl,f.length,λO' H' k=>⟨SqT.of (k _ _ nn e0).2,λj x hx=>?_⟩⟩;obtain⟨d,hd,fd⟩:=f.get hx;rw [jc hd];exact fd.keeps k
 | scr s =>
  cases e;refine .inl ⟨false,_,_,rfl,length_map _,λO' H' k=>⟨(s.keeps k).sq,λj x hx=>?_⟩⟩;obtain⟨z,hz,rfl⟩:=zg hx;show FV K O' H' (V.int z) (D.int (List.getD _ j 0));rw [e_,hz];exact .int z
 | str l hl=>cases e;exact .inr ⟨l,rfl,rfl,λ_=>rfl⟩
 | non=>cases e
 | bl b=>cases e
 | int i=>cases e
 | ty n=>cases e
 | dic _ _ _ _=>cases e
 | fdc _ _ _ _=>cases e
 | obj _ _ _ _=>cases e
 | exc0 _ _=>cases e
 | exc1 _ _ _ _ _ _=>cases e
variable {te:TE}
def bv(h:LE K te pe):LI K (hV K te) (vn pe):=λA ρ σ H Q Q' R q k=>h A ρ σ H _ _ R q λv H1 p ρ1 q1 f1 o1=>by
 obtain⟨R1,fv⟩:=o1.frz
 split at q1
 .rename_i n it e
  rcases fv.row e with ⟨b,a,xs,rfl,hl,hr⟩|⟨l,rfl,hl,hi⟩
  .refine .inl ⟨b,a,xs,rfl,(hr _ H1 (λb o n h=>⟨n,h⟩)).1,k _ H1 n it ρ1 q1 f1 R1 λO' H' kk dom=>?_⟩;obtain⟨sq,hx⟩:=hr O' H' kk
   cases b with
   | false =>
    refine⟨λj hj=>⟨⟨xs,_,sq,cx (by rw [hl];exact hj)⟩,λx H'' ⟨e,y⟩=>?_⟩,⟨xs,sq,by rw [hl];exact f_ _⟩⟩;subst e;exact⟨Gr.refl _,hx j x (y xs sq)⟩
   | true =>
    refine⟨λj hj=>⟨⟨xs,_,sq,cx (by rw [hl];exact hj)⟩,λx H'' ⟨e,y⟩=>?_⟩,⟨xs,sq,by rw [hl];exact f_ _⟩⟩;subst e;exact⟨Gr.refl _,hx j x (y xs sq)⟩
  .refine .inr ⟨l,rfl,k _ H1 n it ρ1 q1 f1 R1 λO' H' kk dom=>?_⟩;refine⟨λj hj=>⟨by show j<(gx l).length;rw [jG,hl];exact hj,λx H'' ⟨e,y⟩=>?_⟩,by show (gx l).length=n;rw [jG,hl]⟩;subst e;obtain⟨c,hc,rfl⟩:=u5 y;rw [hi,e_,hc];exact⟨Gr.refl _,.str _ (by show 1<=1000000;decide)⟩
 .exact q1.elim
variable {pa:PTA}
noncomputable def Jl(pa:PTA):PTI:=λρ Q=>pa ρ λas ρ1=>match as with
 | [.v (.int j)]=>(-(2^60)<=j/\j<2^60)/\Q j.toNat (λk=>.int (k:Int)) ρ1
 | _=>False
noncomputable def Jm(pa:PTA):PTI:=λρ Q=>pa ρ λas ρ1=>match as with
 | [.v (.int i),.v (.int j),.v (.int (-1))]=>(-(2^60)<=i/\i<2^60/\-(2^60)<=j/\j<2^60)/\Q (i - j).toNat (λk=>.int (i - (k:Int))) ρ1
 | _=>False
noncomputable def Jn(pa:PTA):PTI:=λρ Q=>pa ρ λas ρ1=>match as with
 | [.v (.int j)]=>(-(2^60)<=j/\j<2^60)/\Q j.toNat (λk=>.int (j - 1 - (k:Int))) ρ1
 | _=>False
def Hw{lo:Int}{it:Nat->D}(h:∀k:Nat,it k=.int (lo+k)):Wlk K O H (Itr lo n) n it:=λO' H' _ _ =>
 ⟨λj hj=>⟨hj,λx H'' ⟨e,y⟩=>by subst e y;rw [h];exact⟨Gr.refl _,.int _⟩⟩,f_ _⟩
def ES{lo:Int}:Wlk K O H (Its (kF lo n)) n (λk=>.int (lo - (k:Int))):=λO' H' _ _ =>
 ⟨λj hj=>⟨by show j<(kF lo n).length;rw [i6];exact hj,λx H'' ⟨e,y⟩=>by subst e;rw [(wO y).2];exact⟨Gr.refl _,.int _⟩⟩,i6 _ _⟩
variable {ta:TA}
def ee(h:LAs K ta pa):LI K (mU ta) (Jl pa):=λA ρ σ H Q Q' R q k=>h A ρ σ H _ _ R q λvs H1 as ρ1 q1 f1 R1 o1=>by
 split at q1
 .rename_i j
  cases o1 with
  | cons a b =>
   cases b;cases a;exact⟨j,rfl,by omega,by omega,k _ H1 _ _ ρ1 q1.2 f1 R1 (Hw λk=>by rw [Int.zero_add])⟩
 .exact q1.elim
def Hx(h:LAs K ta pa):LI K (Eg ta) (Jm pa):=λA ρ σ H Q Q' R q k=>h A ρ σ H _ _ R q λvs H1 as ρ1 q1 f1 R1 o1=>by
 split at q1
 .rename_i i j
  cases o1 with
  | cons a b =>
   cases b with
   | cons c d =>
    cases d with
    | cons e f =>
     cases f;cases a;cases c;cases e;exact⟨i,j,rfl,q1.1,k _ H1 _ _ ρ1 q1.2 f1 R1 ES⟩
 .exact q1.elim
def Hy(h:LAs K ta pa):LI K (Eu ta) (Jn pa):=λA ρ σ H Q Q' R q k=>h A ρ σ H _ _ R q λvs H1 as ρ1 q1 f1 R1 o1=>by
 split at q1
 .rename_i j
  cases o1 with
  | cons a b =>
   cases b;cases a;exact⟨j,rfl,q1.1,k _ H1 _ _ ρ1 q1.2 f1 R1 ES⟩
 .exact q1.elim
noncomputable def rowD:D->Option (List D)
 | .lst ds=>some ds
 | .tup ds=>some ds
 | .scr ns=>some (ns.map .int)
 | _=>none
def FV.rowD{d:D}(h:FV K O H v d)(e:L2.rowD d=some ds):
  ∃k a xs,v=.ref a/\xs.length=ds.length/\(∀O' H',aB O H O' H'->Sq k K H' a xs/\FVs K O' H' xs ds):=by
 cases h with
 | lst nn e0 f=>cases e;exact⟨false,_,_,rfl,f.length,λO' H' k=>⟨SqL.of (k _ _ nn e0).2,f.keeps k⟩⟩
 | tup nn e0 f=>cases e;exact⟨true,_,_,rfl,f.length,λO' H' k=>⟨SqT.of (k _ _ nn e0).2,f.keeps k⟩⟩
 | scr s=>cases e;exact⟨false,_,_,rfl,by rw [length_map,length_map],λO' H' k=>⟨(s.keeps k).sq,FVs.of_ints _⟩⟩
 | str l hl=>cases e
 | non=>cases e
 | bl b=>cases e
 | int i=>cases e
 | ty n=>cases e
 | dic _ _ _ _=>cases e
 | fdc _ _ _ _=>cases e
 | obj _ _ _ _=>cases e
 | exc0 _ _=>cases e
 | exc1 _ _ _ _ _ _=>cases e
noncomputable def ET(pa:PTA):PTI:=λρ Q=>pa ρ λas ρ1=>match as with
 | [.v a]=>(match rowD a with
  | some xs=>Q xs.length (λk=>.tup [.int (k:Int),itD xs k]) ρ1
  | _=>False)
 | _=>False
def oZ(h:LAs K ta pa):LI K (vg K ta) (ET pa):=λA ρ σ H Q Q' R q k=>h A ρ σ H _ _ R q λvs H1 as ρ1 q1 f1 R1 o1=>by
 split at q1
 .rename_i da
  cases o1 with
  | cons o1 o3 =>
   cases o3
   split at q1
   .rename_i xs ex;obtain⟨b1,a1,us,rfl,l1,w1⟩:=FV.rowD (show FV K _ H1 _ da from o1) ex;have t1:=w1 _ H1 (λb o n h=>⟨n,h⟩);refine⟨b1,a1,rfl,⟨us,t1.1⟩,k _ H1 _ _ ρ1 q1 f1 R1 λO' H' kk dom=>?_⟩;obtain⟨s1,g1⟩:=w1 O' H' kk;refine⟨λj hj=>?_,⟨us,s1,by omega⟩⟩;have h1:j<us.length:=by omega
    refine⟨⟨us,_,s1,cx h1⟩,λx H'' ⟨T,u,hT,e,y1,e2⟩=>?_⟩;subst e e2;obtain⟨d1,hd1,fd1⟩:=g1.get (y1 us s1);have e1:itD xs j=d1:=by unfold itD;rw [e_,hd1];rfl
    rw [e1];have kk2:aB O' H' O' (upd H' T (.tup [.int (j:Int),u])):=λb o n e=>⟨n,by rw [ar (aP e hT)];exact e⟩
    exact⟨Gr.new hT,.tup (λz=>dom T z hT) aC (.cons (.int _) (.cons (fd1.keeps kk2) .nil))⟩
   .exact q1.elim
 .exact q1.elim
noncomputable def Hz(pi:PTI)(g:PTG)(pb:PTS):PTS:=λD ρ=>pi ρ λn it ρ1=>∃I:Nat->PSt->Prop,I 0 ρ1/\(∀k ρ d,k<n->d=it k->I k ρ->g (.dat d) ρ λρ2=>pb { D with nx:=I (k+1),ct:=I (k+1),bk:=D.nx } ρ2)/\∀ρ,I n ρ->D.nx ρ
noncomputable def Cu(pt:PTT)(pb:PTS):PTS:=λD ρ=>∃I:Nat->PSt->Prop,(∃m,I m ρ)/\∀m ρ,I m ρ->pt ρ λb ρ1=>h7 b (pb { D with nx:=λρ'=>∃m',m'<m/\I m' ρ',ct:=λρ'=>∃m',m'<m/\I m' ρ',bk:=D.nx } ρ1) (D.nx ρ1)
section
variable {fs:List Nat}{wi:TI}{pi:PTI}{g:TG}{pg:PTG}{tb:TS}{pb:PTS}
def bZ(hi:LI K wi pi)(hg:LGd K fs g pg)(hb:LS K fs tb pb):LS K fs (Il wi g tb) (Hz pi pg pb):=λfx A R H0 ρ σ H D D' hf r F q k1 k2 k3 k4=>hi A ρ σ H _ _ r q λJ H1 n it ρ1 q1 f1 r1 W=>by
 obtain⟨I,i0,turn,after⟩:=q1;have F1:=F.fr f1;refine⟨λi m σ' H'=>i+m=n/\∃ρ',I i ρ'/\Rel K A ρ' σ' H'/\dO fx (Wr ρ1 σ) H1 ρ' σ' H',⟨n,MN n,ρ1,i0,r1,dO.start F1.fx⟩,λi m σ' H' ⟨him,ρ',iv,r',F'⟩=>?_⟩;obtain⟨go,stop⟩:=W _ H' F'.keeps r'.dom2
 by_cases hk:i<n
 .obtain⟨g1,g2⟩:=go i hk;refine .inr ⟨g1,λσ'' H''=>∃ρ'',I (i+1) ρ''/\Rel K A ρ'' σ'' H''/\dO fx (Wr ρ1 σ) H1 ρ'' σ'' H'',λσ'' H'' z=>⟨m - 1,by omega,by omega,z⟩,λx H'' y=>?_⟩;obtain⟨gr,fv⟩:=g2 x H'' y;refine hg fx A (Wr ρ1 σ) H1 ρ' σ' H'' _ x _ _ hf (F'.fr gr.fr) (r'.gr gr) fv (turn i ρ' _ hk rfl iv) λρ2 σ2 q2 r2 F2 _=>?_;refine hb fx A (Wr ρ1 σ) H1 ρ2 σ2 H'' _ _ hf r2 F2 q2 (λρ3 σ3 H3 q3 r3 F3=>⟨ρ3,q3,r3,F3⟩) (λv p ρ3 σ3 H3 q3 o3 F3=>k2 v p ρ3 σ3 H3 q3 (o3.h0 F1.dm) (F1.trans F3 F3.fx)) (λρ3 σ3 H3 q3 r3 F3=>k1 ρ3 σ3 H3 q3 r3 (F1.trans F3 F3.fx)) (λρ3 σ3 H3 q3 r3 F3=>⟨ρ3,q3,r3,F3⟩)
 .have e:i=n:=by omega
  subst e;exact .inl ⟨stop,k1 ρ' σ' H' (after ρ' iv) r' (F1.trans F' F'.fx)⟩
variable {tt:TT}{pt:PTT}
def o0(ht:LT K tt pt)(hb:LS K fs tb pb):LS K fs (AL tt tb) (Cu pt pb):=λfx A R H0 ρ σ H D D' hf r F q k1 k2 k3 k4=>by
 obtain⟨I,⟨m0,i0⟩,turn⟩:=q;refine⟨λm σ' H'=>∃ρ',I m ρ'/\Rel K A ρ' σ' H'/\dO fx R H0 ρ' σ' H',⟨m0,ρ,i0,r,F⟩,λm σ' H' ⟨ρ',iv,r',F'⟩=>?_⟩;refine ht A ρ' σ' H' _ _ r' (turn m ρ' iv) λb H1 ρ1 q1 f1 r1=>?_
 cases b with
 | true =>
  refine⟨λσ'' H''=>∃ρ'' m',m'<m/\I m' ρ''/\Rel K A ρ'' σ'' H''/\dO fx R H0 ρ'' σ'' H'',λσ'' H'' ⟨ρ'',m',h1,h2⟩=>⟨m',h1,ρ'',h2⟩,?_⟩;exact hb fx A R H0 ρ1 σ' H1 _ _ hf r1 (F'.fr f1) q1 (λρ3 σ3 H3 ⟨m',h1,h2⟩ r3 F3=>⟨ρ3,m',h1,h2,r3,F3⟩) k2 k1 (λρ3 σ3 H3 ⟨m',h1,h2⟩ r3 F3=>⟨ρ3,m',h1,h2,r3,F3⟩)
 | false=>exact k1 ρ1 σ' H1 q1 r1 (F'.fr f1)
end
noncomputable def bC(ix:List (Option Nat))(ρ:PSt):PSt:=ix.map λo=>match o with
 | none=>none
 | some j=>match ρ[j]? with
  | some v=>v
  | none=>none
noncomputable def dB:List (Option Nat)->PSt->PSt->PSt
 | some j::ix,ρ,t::τ=>dB ix (ρ.set j t) τ
 | none::ix,ρ,_::τ=>dB ix ρ τ
 | _,ρ,_=>ρ
noncomputable def zH:List (Option Nat)->Bool
 | []=>true
 | none::r=>zH r
 | some j::r=>!r.contains (some j) && zH r
theorem jd:∀(ix:List (Option Nat)) (ρ τ:PSt),(dB ix ρ τ).length=ρ.length
 | [],ρ,τ=>by unfold dB;rfl
 | some j::ix,ρ,t::τ=>by show (dB ix (ρ.set j t) τ).length=_;rw [jd ix,JE]
 | none::ix,ρ,t::τ=>by show (dB ix ρ τ).length=_;exact jd ix ρ τ
 | some j::ix,ρ,[]=>by unfold dB;rfl
 | none::ix,ρ,[]=>by unfold dB;rfl
theorem gX:∀(ix:List (Option Nat)) (ρ τ:PSt) (j:Nat),some j∉ix->(dB ix ρ τ)[j]?=ρ[j]?
 | [],ρ,τ,j,_=>by unfold dB;rfl
 | some i::ix,ρ,t::τ,j,h=>by
  show (dB ix (ρ.set i t) τ)[j]?=_;rw [gX ix _ τ j (λz=>h (n_ _ z)),k_ (λz=>h (by rw [z];exact mem_cons_self ..))]
 | none::ix,ρ,t::τ,j,h=>by show (dB ix ρ τ)[j]?=_;exact gX ix ρ τ j λz=>h (n_ _ z)
 | some i::ix,ρ,[],j,_=>by unfold dB;rfl
 | none::ix,ρ,[],j,_=>by unfold dB;rfl
theorem lK:∀(ix:List (Option Nat)) (ρ τ:PSt) (j k:Nat),zH ix=true->ix[k]?=some (some j)->k<τ.length->j<ρ.length->(dB ix ρ τ)[j]?=τ[k]?
 | some i::ix,ρ,t::τ,j,k,h,e,hk,hj=>by
  have h:(!ix.contains (some i) && zH ix)=true:=h;rw [and_eq_true] at h;show (dB ix (ρ.set i t) τ)[j]?=_
  cases k with
  | zero =>
   have e:some (some i)=some (some j):=e;cases e
   have hn:some i∉ix:=λz=>by
    have:=h.1;rw [JZ.mpr z] at this;cases this
   rw [gX ix _ τ i hn,p_ hj];rfl
  | succ k =>
   have e:ix[k]?=some (some j):=by simpa using e
   rw [lK ix _ τ j k h.2 e (by simpa using hk) (by rw [JE];exact hj)];simp
 | none::ix,ρ,t::τ,j,k,h,e,hk,hj=>by
  show (dB ix ρ τ)[j]?=_
  cases k with
  | zero=>cases e
  | succ k =>
   have e:ix[k]?=some (some j):=by simpa using e
   rw [lK ix _ τ j k h e (by simpa using hk) hj];simp
 | [],ρ,τ,j,k,h,e,hk,hj=>by simp at e
 | some i::ix,ρ,[],j,k,h,e,hk,hj=>absurd hk (Ke _)
 | none::ix,ρ,[],j,k,h,e,hk,hj=>absurd hk (Ke _)
theorem je:∀{ix:List (Option Nat)}{k l j:Nat},zH ix=true->ix[k]?=some (some j)->ix[l]?=some (some j)->k=l
 | some i::ix,k,l,j,h,e1,e2=>by
  have h:(!ix.contains (some i) && zH ix)=true:=h;rw [and_eq_true] at h
  have no:∀m,ix[m]?≠some (some i):=λm z=>by
   have:=h.1;rw [JZ.mpr (B_ z)] at this;cases this
  cases k with
  | zero =>
   have e1:some (some i)=some (some j):=e1;cases e1
   cases l with
   | zero=>rfl
   | succ l=>exact absurd (by simpa using e2) (no l)
  | succ k =>
   cases l with
   | zero =>
    have e2:some (some i)=some (some j):=e2;cases e2;exact absurd (by simpa using e1) (no k)
   | succ l=>rw [je (k:=k) (l:=l) h.2 (by simpa using e1) (by simpa using e2)]
 | none::ix,k,l,j,h,e1,e2=>by
  cases k with
  | zero=>cases e1
  | succ k =>
   cases l with
   | zero=>cases e2
   | succ l=>rw [je (ix:=ix) (k:=k) (l:=l) (j:=j) h (by simpa using e1) (by simpa using e2)]
 | [],k,l,j,h,e1,e2=>by simp at e1
variable {ix:List (Option Nat)}
def cq{k:Nat}(h:(bC ix ρ)[k]?=some (some p)):∃j,ix[k]?=some (some j)/\ρ[j]?=some (some p):=by
 unfold bC at h;rw [gV] at h
 cases e:ix[k]? with
 | none=>rw [e] at h;cases h
 | some o =>
  rw [e] at h
  cases o with
  | none=>cases h
  | some j =>
   refine⟨j,rfl,?_⟩;have h:some (match ρ[j]? with|some v=>v|none=>none)=some (some p):=h
   cases e2:ρ[j]? with
   | none=>rw [e2] at h;cases h
   | some v=>rw [e2] at h;exact h
variable {j:Nat}
def cv{k:Nat}(h:ix[k]?=some (some j))(e:σ[j]?=some (some v)):(qj ix σ)[k]?=some (some v):=by
 unfold qj;rw [gV,h];show some (match σ[j]? with|some v=>v|none=>none)=some (some v);rw [e]
variable {a:Addr}{o:HO}
def Rel.amb(R:Rel K A ρ σ H)(ha:A a):Rel K A ρ σ (upd H a o):=by
 have k:aB (OO A ρ σ) H (OO A ρ σ) (upd H a o):=λb u n e=>⟨n,by rw [ar (λz=>n (by rw [z];exact .inl ha))];exact e⟩
 refine⟨R.len,λi q e=>?_,R.dj,λb z=>?_,R.sep⟩
 .obtain⟨v,s,r⟩:=R.get i q e;refine⟨v,s,r.keeps k λow b eb=>?_⟩;rw [ar];intro z;subst z eb;exact R.sep b ha ⟨i,q,e,ow,s⟩
 .by_cases z':b=a
  .rw [z',aC];exact nofun
  .rw [ar z'];exact R.dom b z
noncomputable def EU(ix:List (Option Nat))(ρ:PSt):Bool:=ix.all λo=>match o with|none=>true|some j=>(match ρ[j]? with|some (some _)=>true|_=>false)
structure mY (ix:List (Option Nat)) (ρ1:PSt) (n:Nat) (it:Nat->D) (g:PTG) (pt:PTT) (pe:PTE) (Q:PKt):Prop where
 ex:∃I:Nat->List D->PSt->Prop,I 0 [] (bC ix ρ1) /\
  (∀k ys τ d,k<n->d=it k->I k ys τ->g (.dat d) τ λτ2=>pt τ2 λok τ3=>h7 ok (pe τ3 λp τ4=>I (k+1) (ys++[p.d]) τ4) (I (k+1) ys τ3))/\∀ys τ,I n ys τ->Q (.own ys) (dB ix ρ1 τ)
noncomputable def vo(ix:List (Option Nat))(pi:PTI)(g:PTG)(pt:PTT)(pe:PTE):PTE:=λρ Q=>pi ρ λn it ρ1=>EU ix ρ1=true/\n<=1000000/\mY ix ρ1 n it g pt pe Q
def AZ:PTT:=λρ Q=>Q true ρ
def bF:LT K gW AZ:=λA ρ σ H Q Q' R q k=>k true H ρ q (Fr.refl _ _ _) R
noncomputable def xp(ix:List (Option Nat)):List Nat:=(c_ ix.length).filter λk=>(ix.getD k none).isSome
variable {g:TG}
def aM{wi:TI}{pi:PTI}{pg:PTG}{tts:TT}{pt:PTT}(hix:zH ix=true)(hi:LI K wi pi)(hg:∀fs:List Nat,(∀k∈fs,k∈xp ix)->LGd K fs g pg)(ht:LT K tts pt)(he:LE K te pe):
  LE K (ql ix wi g tts te) (vo ix pi pg pt pe):=λA ρ σ H Q Q' R q k=>hi A ρ σ H _ _ R q λJ H1 n it ρ1 q1 f1 R1 W D hD=>by
 obtain⟨hcap,hn,⟨I,i0,turn,after⟩⟩:=q1
 let τρ0:=bC ix ρ1
 let τσ0:=qj ix σ
 let Ai:Addr->Prop:=λb=>A b\/b=D\/(Wr ρ1 σ b/\¬ Wr τρ0 τσ0 b)
 let H0':=upd H1 D (.lst [])
 have wsub:∀b,Wr τρ0 τσ0 b->Wr ρ1 σ b:=λb ⟨m,p,e,o,s⟩=>by
  obtain⟨j,h1,h2⟩:=cq e;obtain⟨v,hv,_⟩:=R1.get j p h2;have:=cv h1 hv;rw [s] at this;cases this;exact⟨j,p,h2,o,hv⟩
 have nD:¬ Wr ρ1 σ D:=λz=>R1.wr z hD
 have oosub:∀b,OO Ai τρ0 τσ0 b->OO A ρ1 σ b\/b=D:=λb z=>by
  rcases z with (z|z|z)|z
  .exact .inl (.inl z)
  .exact .inr z
  .exact .inl (.inr z.1)
  .exact .inl (.inr (wsub b z))
 have kD:aB (OO A ρ1 σ) H1 (OO Ai τρ0 τσ0) H0':=λb o nn e=>by
  refine⟨λz=>?_,?_⟩
  .rcases oosub b z with z|z
   .exact nn z
   .rw [z,hD] at e;cases e
  .rw [show H0' b=H1 b from ar (aP e hD)];exact e
 have Ri:Rel K Ai τρ0 τσ0 H0':=by
  refine⟨by show (bC ix ρ1).length=(qj ix σ).length;unfold bC qj;rw [length_map,length_map],λm p e=>?_,λm l p q v e1 e2 o1 o2 s1 s2=>?_,λb z=>?_,λb z w=>?_⟩
  .obtain⟨j,h1,h2⟩:=cq e;obtain⟨v,hv,r⟩:=R1.get j p h2;refine⟨v,cv h1 hv,r.keeps kD λow a ea=>?_⟩;subst ea;exact ar (λz=>nD (by rw [<- z];exact⟨j,p,h2,ow,hv⟩))
  .obtain⟨j,h1,h2⟩:=cq e1;obtain⟨j',h3,h4⟩:=cq e2;obtain⟨v1,hv1,_⟩:=R1.get j p h2;obtain⟨v2,hv2,_⟩:=R1.get j' q h4;have t1:=cv h1 hv1;have t2:=cv h3 hv2;rw [s1] at t1;rw [s2] at t2;cases t1;cases t2;have:=R1.dj j j' p q _ h2 h4 o1 o2 hv1 hv2;subst this;exact je hix h1 h3
  .rcases z with z|z|z
   .intro e
    by_cases zz:b=D
    .exact R1.dom b z (by rw [zz];exact hD)
    .rw [show H0' b=H1 b from ar zz] at e;exact R1.dom b z e
   .rw [z];show upd H1 D _ D≠none;rw [aC];exact nofun
   .intro e;rw [show H0' b=H1 b from ar (λzz=>nD (by rw [<- zz];exact z.1))] at e;exact R1.wr z.1 e
  .rcases z with z|z|z
   .exact R1.sep b z (wsub b w)
   .rw [z] at w;exact nD (wsub D w)
   .exact z.2 w
 let fxi:List (Nat×V):=(xp ix).filterMap λm=>match (τσ0[m]?) with|some (some v)=>some (m,v)|_=>none
 have hfx:∀p∈fxi,τσ0[p.1]?=some (some p.2):=λp hp=>by
  obtain⟨m,hm,e⟩:=Kp.mp hp
  split at e
  .rename_i v ev;cases e;exact ev
  .cases e
 have hfs:∀m∈fxi.map tj,m∈xp ix:=λm hm=>by
  obtain⟨p,hp,rfl⟩:=JA.mp hm;obtain⟨m',hm',e⟩:=Kp.mp hp
  split at e
  .cases e;exact hm'
  .cases e
 have hgi:=hg (fxi.map tj) hfs
 have fxget:∀(m j:Nat) (v:V),ix[m]?=some (some j)->σ[j]?=some (some v)->(m,v)∈fxi:=λm j v h1 h2=>by
  refine Kp.mpr ⟨m,?_,?_⟩
  .unfold xp;refine JC.mpr ⟨JB.mpr (i_.mp h1).1,?_⟩;rw [e_,h1];rfl
  .show (match (qj ix σ)[m]? with|some (some v)=>some (m,v)|_=>none)=_;rw [cv h1 h2]
 let Rr:Addr->Prop:=λb=>Wr τρ0 τσ0 b\/b=D
 have hRr:∀b,Rr b->OO Ai τρ0 τσ0 b:=λb z=>z.elim (λz=>.inr z) (λz=>.inl (.inr (.inl z)));have F0:dO fxi Rr H0' τρ0 τσ0 H0':=⟨λ_ _ _ h=>h,λ_ h=>h,λb w=>.inl (.inl w),hfx⟩
 refine⟨λi m τ H2=>i+m=n/\∃ys τρ xs,I i ys τρ/\ys.length<=i/\Rel K Ai τρ τ H2/\dO fxi Rr H0' τρ τ H2/\H2 D=some (.lst xs)/\FVs K (OO Ai τρ τ) H2 xs ys/\∀b,Wr τρ τ b->Wr τρ0 τσ0 b,
  ⟨n,MN n,[],τρ0,[],i0,f_ _,Ri,F0,aC,.nil,λ_ h=>h⟩,λi m τ H2 ⟨him,ys,τρ,xs,iv,hy,r2,F2,eD,fD,hw⟩=>?_⟩
 have kk:aB (OO A ρ1 σ) H1 (OO Ai τρ τ) H2:=λb o nn e=>(F2.keepsR hRr) b o (kD b o nn e).1 (kD b o nn e).2;obtain⟨go,stop⟩:=W _ H2 kk r2.dom2
 by_cases hk:i<n
 .obtain⟨g1,g2⟩:=go i hk;refine .inr ⟨g1,λx H3 y=>?_⟩;obtain⟨gr,fv⟩:=g2 x H3 y;have AiD:Ai D:=.inr (.inl rfl);refine hgi fxi Ai Rr H0' τρ τ H3 _ x _ _ rfl (F2.fr gr.fr) (r2.gr gr) fv (turn i ys τρ _ hk rfl iv) λτρ2 τ2 q2 r3 F3 w3=>?_;refine ht Ai τρ2 τ2 H3 _ _ r3 q2 λok H5 τρ3 q3 f5 r5=>?_;have F5:=F3.fr f5;have fD5:FVs K (OO Ai τρ3 τ2) H5 xs ys:=((fD.keeps (gr.fr (ρ:=τρ) (σ:=τ)).keeps).keeps (aB.less λb z=>z.imp id (w3 b))).keeps f5.keeps
  have eD5:H5 D=some (.lst xs):=f5.kp D _ (r3.sep D AiD) (gr D _ eD)
  cases ok with
  | true =>
   refine he Ai τρ3 τ2 H5 _ _ r5 q3 λv H6 p τρ4 q4 f6 o6=>?_;obtain⟨r6,fv6⟩:=o6.frz;have F6:=F5.fr f6;have eD6:H6 D=some (.lst xs):=f6.kp D _ (r5.sep D AiD) eD5;have kw:aB (OO Ai τρ4 τ2) H6 (OO Ai τρ4 τ2) (upd H6 D (.lst (xs++[v]))):=λb o nn e=>⟨nn,by rw [ar (λz=>nn (by rw [z];exact .inl AiD))];exact e⟩
   refine⟨xs,eD6,?_,m - 1,by omega,by omega,ys++[p.d],τρ4,xs++[v],q4,by rw [length_append];show _+1<=_;omega,r6.amb AiD,⟨λb o nn e=>?_,λb z=>?_,F6.ow,F6.fx⟩,aC,((fD5.keeps f6.keeps).append (.cons fv6 .nil)).keeps kw,λb z=>hw b (w3 b (f5.ow b (f6.ow b z)))⟩
   .have:xs.length=ys.length:=fD.length;exact t_ (by omega:xs.length<1000000) (sz _ (f_ _))
   .rw [ar (λz=>nn (.inr z))];exact F6.kp b o nn e
   .by_cases zz:b=D
    .rw [zz,aC];exact nofun
    .rw [ar zz];exact F6.dm b z
  | false=>exact⟨m - 1,by omega,by omega,ys,τρ3,xs,q3,by omega,r5,F5,eD5,fD5,λb z=>hw b (w3 b (f5.ow b z))⟩
 .have e:i=n:=by omega
  subst e;refine .inl ⟨stop,?_⟩;have q':=after ys τρ iv
  have cap:∀(m j:Nat),ix[m]?=some (some j)->∃p v,ρ1[j]?=some (some p)/\σ[j]?=some (some v)/\τ[m]?=some (some v):=λm j e=>by
   have h1:=KJ.mp hcap _ (B_ e);have h1:(match ρ1[j]? with|some (some _)=>true|_=>false)=true:=h1
   split at h1
   .rename_i p ep;obtain⟨v,hv,_⟩:=R1.get j p ep;exact⟨p,v,ep,hv,F2.fx _ (fxget m j v e hv)⟩
   .cases h1
  have get':∀(j:Nat) (p:PV),(dB ix ρ1 τρ)[j]?=some (some p)->(∃m v,ix[m]?=some (some j)/\σ[j]?=some (some v)/\τ[m]?=some (some v)/\τρ[m]?=some (some p))\/(some j∉ix/\ρ1[j]?=some (some p)):=λj p e=>by
   by_cases hj:some j∈ix
   .obtain⟨m,hm,em⟩:=LB hj;have em':ix[m]?=some (some j):=by rw [cx hm,em]
    obtain⟨p0,v,h1,h2,h3⟩:=cap m j em';rw [lK ix ρ1 τρ j m hix em' (by rw [r2.len];exact (i_.mp h3).1) (i_.mp h1).1] at e;exact .inl ⟨m,v,em',h2,h3,e⟩
   .rw [gX ix ρ1 τρ j hj] at e;exact .inr ⟨hj,e⟩
  have nocap:∀(j:Nat) (p:PV) (b:Addr),some j∉ix->ρ1[j]?=some (some p)->p.isOwn=true->σ[j]?=some (some (.ref b))->¬ Wr τρ0 τσ0 b:=λj p b hj e o s ⟨m,q,e1,o1,s1⟩=>by
   obtain⟨j',h1,h2⟩:=cq e1;obtain⟨v,hv,_⟩:=R1.get j' q h2;have:=cv h1 hv;rw [s1] at this;cases this;have:=R1.dj j j' p q _ e h2 o o1 s hv;subst this;exact hj (B_ h1)
  have w':∀b,Wr (dB ix ρ1 τρ) σ b->Wr τρ τ b\/(Wr ρ1 σ b/\¬ Wr τρ0 τσ0 b):=λb ⟨j,p,e,o,s⟩=>by
   rcases get' j p e with ⟨m,v,h1,h2,h3,h4⟩|⟨hj,h1⟩
   .rw [s] at h2;cases h2;exact .inl ⟨m,p,h4,o,h3⟩
   .exact .inr ⟨⟨j,p,h1,o,s⟩,nocap j p b hj h1 o s⟩
  have oo':∀b,OO (cB A D) (dB ix ρ1 τρ) σ b->OO Ai τρ τ b:=λb z=>by
   rcases z with (z|z)|z
   .exact .inl (.inl z)
   .exact .inl (.inr (.inl z))
   .rcases w' b z with z|z
    .exact .inr z
    .exact .inl (.inr (.inr z))
  have kp1:∀b o,¬ Wr τρ0 τσ0 b->b≠D->H1 b=some o->H2 b=some o:=λb o n1 n2 e=>F2.kp b o (λz=>z.elim n1 n2) (by rw [show H0' b=H1 b from ar n2];exact e);have k1:aB (OO A ρ1 σ) H1 (OO (cB A D) (dB ix ρ1 τρ) σ) H2:=λb o nn e=>⟨λz=>(kk b o nn e).1 (oo' b z),(kk b o nn e).2⟩
  have AiD:Ai D:=.inr (.inl rfl)
  have R':Rel K (cB A D) (dB ix ρ1 τρ) σ H2:=by
   refine⟨by rw [jd];exact R1.len,λj p e=>?_,λj l p q v e1 e2 o1 o2 s1 s2=>?_,λb z=>?_,λb z w=>?_⟩
   .rcases get' j p e with ⟨m,v,h1,h2,h3,h4⟩|⟨hj,h1⟩
    .obtain⟨v',hv',r⟩:=r2.get m p h4;rw [h3] at hv';cases hv';exact⟨v,h2,r.keeps (aB.less oo') λ_ _ _=>rfl⟩
    .obtain⟨v,hv,r⟩:=R1.get j p h1;refine⟨v,hv,r.keeps k1 λow a ea=>?_⟩;subst ea;obtain⟨a',u,e1,e2⟩:=r.ref ow;cases e1;rw [e2];exact kp1 a u (nocap j p a hj h1 ow hv) (λz=>by rw [z,hD] at e2;cases e2) e2
   .rcases get' j p e1 with ⟨m,v1,h1,h2,h3,h4⟩|⟨hj,h1⟩
    .rw [s1] at h2;cases h2
     rcases get' l q e2 with ⟨m',v2,g1,g2,g3,g4⟩|⟨hl,g1⟩
     .rw [s2] at g2;cases g2;have:=r2.dj m m' p q _ h4 g4 o1 o2 h3 g3;subst this;rw [h1] at g1;cases g1;rfl
     .exfalso;obtain⟨v',hv',r⟩:=r2.get m p h4;rw [h3] at hv';cases hv';obtain⟨a,u,ea,_⟩:=r.ref o1;subst ea;exact nocap l q a hl g1 o2 s2 (hw a ⟨m,p,h4,o1,h3⟩)
    .rcases get' l q e2 with ⟨m',v2,g1,g2,g3,g4⟩|⟨hl,g1⟩
     .rw [s2] at g2;cases g2;exfalso;obtain⟨v',hv',r⟩:=r2.get m' q g4;rw [g3] at hv';cases hv';obtain⟨a,u,ea,_⟩:=r.ref o2;subst ea;exact nocap j p a hj h1 o1 s1 (hw a ⟨m',q,g4,o2,g3⟩)
     .exact R1.dj j l p q v h1 g1 o1 o2 s1 s2
   .rcases z with z|z
    .exact r2.dom b (.inl z)
    .rw [z,eD];exact nofun
   .rcases w' b w with w|w
    .rcases z with z|z
     .exact r2.sep b (.inl z) w
     .rw [z] at w;exact r2.sep D AiD w
    .rcases z with z|z
     .exact R1.sep b z w.1
     .rw [z] at w;exact nD w.1
  have f2:Fr ρ1 σ H1 (dB ix ρ1 τρ) H2:=by
   refine⟨λb o nn e=>kp1 b o (λz=>nn (wsub b z)) (λz=>by rw [z,hD] at e;cases e) e,λb z=>F2.dm b ?_,λb z=>?_⟩
   .intro e
    by_cases zz:b=D
    .exact z (by rw [zz];exact hD)
    .rw [show H0' b=H1 b from ar zz] at e;exact z e
   .rcases w' b z with z|z
    .exact wsub b (hw b z)
    .exact z.1
  have hD0:H D=none:=by
   cases e:H D with
   | none=>rfl
   | some o=>exact absurd hD (f1.dm D (by rw [e];exact nofun))
  exact k _ H2 (.own ys) _ q' (f1.trans f2) ⟨D,xs,rfl,λz=>R1.dom D z hD,hD0,eD,R',fD.keeps (aB.less oo')⟩
variable {A':Addr->Prop}
def Rel.step(R:Rel K A ρ σ H){q:PV}(e:ρ[i]?=some (some p))(ow:p.isOwn=true)(ow':q.isOwn=true)(es:σ[i]?=some (some (.ref a)))(kp:∀b o,b≠a->H b=some o->H' b=some o)(ha:H' a≠none)(h1:∀b,A b->A' b)(h2:∀b,A' b->A b\/H b=none)(dom':∀b,A' b->H' b≠none)(new:RS K (OO A' ρ σ) H' q (.ref a)):Rel K A' (ρ.set i (some q)) σ H'/\Fr ρ σ H (ρ.set i (some q)) H':=by
 have hi:i<ρ.length:=(i_.mp e).1;have wa:Wr ρ σ a:=⟨i,p,e,ow,es⟩
 have weq:∀b,Wr (ρ.set i (some q)) σ b ↔ Wr ρ σ b:=λb=>by
  constructor
  .rintro⟨j,r,e1,o1,s1⟩
   by_cases z:i=j
   .subst z;exact⟨i,p,e,ow,s1⟩
   .rw [k_ z] at e1;exact⟨j,r,e1,o1,s1⟩
  .rintro⟨j,r,e1,o1,s1⟩
   by_cases z:i=j
   .subst z;exact⟨i,q,p_ hi,ow',s1⟩
   .exact⟨j,r,by rw [k_ z];exact e1,o1,s1⟩
 have oeq:OO A' (ρ.set i (some q)) σ=OO A' ρ σ:=funext λb=>propext (or_congr Iff.rfl (weq b));have kp1:∀b u,¬ Wr ρ σ b->H b=some u->H' b=some u:=λb u n h=>kp b u (λz=>n (by rw [z];exact wa)) h
 have k:aB (OO A ρ σ) H (OO A' ρ σ) H':=λb u n h=>by
  refine⟨λz=>?_,kp1 b u (λz=>n (.inr z)) h⟩
  rcases z with z|z
  .rcases h2 b z with z|z
   .exact n (.inl z)
   .rw [z] at h;cases h
  .exact n (.inr z)
 have dm:∀b,H b≠none->H' b≠none:=λb n=>by
  by_cases z:b=a
  .rw [z];exact ha
  .cases eb:H b with
   | none=>exact absurd eb n
   | some o=>rw [kp b o z eb];exact nofun
 refine⟨⟨by rw [JE];exact R.len,λj r e1=>?_,λj l p1 q1 v e1 e2 o1 o2 s1 s2=>?_,dom',λb z w=>?_⟩,⟨kp1,dm,λb w=>(weq b).mp w⟩⟩
 .rw [oeq]
  by_cases z:i=j
  .subst z;rw [p_ hi] at e1;cases e1;exact⟨_,es,new⟩
  .rw [k_ z] at e1;obtain⟨v,s,rr⟩:=R.get j r e1;refine⟨v,s,rr.keeps k λow2 b eb=>?_⟩;obtain⟨b',u,e3,e4⟩:=rr.ref ow2;rw [eb] at e3;cases e3;rw [e4];refine kp b u (λzz=>?_) e4;subst zz;rw [eb] at s;exact z (R.dj i j p r _ e e1 ow ow2 es s)
 .have ex:∀(m:Nat) (x:PV),(ρ.set i (some q))[m]?=some (some x)->x.isOwn=true->∃y:PV,ρ[m]?=some (some y)/\y.isOwn=true:=λm x em ox=>by
   by_cases z:i=m
   .subst z;exact⟨p,e,ow⟩
   .rw [k_ z] at em;exact⟨x,em,ox⟩
  obtain⟨y1,g1,g2⟩:=ex j p1 e1 o1;obtain⟨y2,g3,g4⟩:=ex l q1 e2 o2;exact R.dj j l y1 y2 v g1 g3 g2 g4 s1 s2
 .rcases h2 b z with z|z
  .exact R.sep b z ((weq b).mp w)
  .exact R.wr ((weq b).mp w) z
def Rel.lstw(R:Rel K A ρ σ H){es:List D}{ys:List V}(e:ρ[i]?=some (some (.own ds)))(es':σ[i]?=some (some (.ref a)))(f:FVs K (OO A ρ σ) H ys es):
  Rel K A (ρ.set i (some (.own es))) σ (upd H a (.lst ys))/\Fr ρ σ H (ρ.set i (some (.own es))) (upd H a (.lst ys)):=by
 have wa:OO A ρ σ a:=.inr ⟨i,_,e,rfl,es'⟩;exact R.write (q:=.own es) e rfl rfl es' ⟨a,ys,rfl,aC,f.keeps λb u n h=>⟨n,by rw [ar (λz=>n (by rw [z];exact wa))];exact h⟩⟩
def Rel.ownAt(R:Rel K A ρ σ H)(e:ρ[i]?=some (some (.own ds))):∃a xs,σ[i]?=some (some (.ref a))/\H a=some (.lst xs)/\FVs K (OO A ρ σ) H xs ds:=by
 obtain⟨v,s,a,xs,rfl,g,f⟩:=R.get i _ e;exact⟨a,xs,s,g,f⟩
noncomputable def IF(i:Nat)(pe:PTE):PTE:=λρ Q=>match ρ[i]? with
 | some (some (.own _))=>pe ρ λp ρ1=>(match ρ1[i]? with
  | some (some (.own ds))=>ds.length<1000000/\Q (.dat .non) (ρ1.set i (some (.own (ds++[p.d]))))
  | _=>False)
 | _=>False
noncomputable def IG(i:Nat):PTE:=λρ Q=>match ρ[i]? with
 | some (some (.own ds))=>∃d,ds[ds.length - 1]?=some d/\Q (.dat d) (ρ.set i (some (.own ds.dropLast)))
 | _=>False
noncomputable def EV(i:Nat)(pe pk:PTE):PTS:=λD ρ=>pe ρ λp ρ1=>(match ρ1[i]? with
 | some (some (.own _))=>pk ρ1 λkp ρ2=>(match ρ2[i]?,kp with
  | some (some (.own ds)),.dat (.int k)=>∃j,ixN ds.length k=some j/\D.nx (ρ2.set i (some (.own (ds.set j p.d))))
  | _,_=>False)
 | _=>False)
section
def kg(h:LE K te pe):LE K (tBM K "list" wD (aH i) (aK te c6)) (IF i pe):=λA ρ σ H Q Q' R q k=>by
 unfold IF at q
 split at q
 .rename_i ds0 e0;obtain⟨a0,xs0,s0,g0,f0⟩:=R.ownAt e0;refine⟨_,s0,.inl ⟨rfl,xs0,SqL.of g0⟩,h A ρ σ H _ _ R q λv H1 p ρ1 q1 f1 o1=>?_⟩;obtain⟨R1,fv⟩:=o1.frz
  split at q1
  .rename_i ds e1;obtain⟨a,xs,s,g,f⟩:=R1.ownAt e1;rw [s0] at s;cases s;obtain⟨R2,f2⟩:=R1.lstw e1 s0 (f.append (.cons fv .nil));exact⟨a0,xs,v,rfl,rfl,g,t_ (by rw [f.length];exact q1.1) (sz _ (f_ _)),k _ _ _ _ q1.2 (f1.trans f2) ⟨R2,.non⟩⟩
  .exact q1.elim
 .exact q.elim
def EW:LE K (Iv K "list" Iw (aH i)) (IG i):=λA ρ σ H Q Q' R q k=>by
 unfold IG at q
 split at q
 .rename_i ds e;obtain⟨d,hd,q⟩:=q;obtain⟨a,xs,s,g,f⟩:=R.ownAt e;obtain⟨v,hv,fv⟩:=f.getD hd;obtain⟨R2,f2⟩:=R.lstw (es:=ds.dropLast) (ys:=xs.dropLast) e s (by rw [dropLast_eq_take,dropLast_eq_take,f.length];exact f.take _);exact⟨_,s,.inl ⟨rfl,xs,SqL.of g⟩,a,xs,v,rfl,rfl,g,by rw [f.length];exact hv,k _ _ _ _ q f2 ⟨R2,(fv.keeps f2.keeps)⟩⟩
 .exact q.elim
variable {tk:TE}{pk:PTE}{fs:List Nat}
def xq(h:LE K te pe)(hk:LE K tk pk):LS K fs (Do te (Ij (aH i) tk BZ)) (EV i pe pk):=λfx A R H0 ρ σ H D D' hf r F q k1 k2 k3 k4=>h A ρ σ H _ _ r q λv H1 p ρ1 q1 f1 o1=>by
 obtain⟨R1,fv⟩:=o1.frz
 split at q1
 .rename_i ds0 e0;obtain⟨a0,xs0,s0,g0,f0⟩:=R1.ownAt e0;refine⟨_,s0,hk A ρ1 σ H1 _ _ R1 q1 λw H2 kp ρ2 q2 f2 o2=>?_⟩
  split at q2
  .rename_i ds j e2;obtain⟨n,hn,q2⟩:=q2;obtain⟨R2,fw⟩:=o2;cases fw;obtain⟨a,xs,s,g,f⟩:=R2.ownAt e2;rw [s0] at s;cases s;obtain⟨R3,f3⟩:=R2.lstw e2 s0 (FVs.set (fv.keeps f2.keeps) n f);exact⟨a0,xs,j,n,rfl,rfl,g,by rw [f.length];exact hn,k1 _ _ _ q2 R3 (((F.fr f1).fr f2).fr f3)⟩
  .exact q2.elim
 .exact q1.elim
end
noncomputable def spP(K:b_)(c:FN):Sp:=λvs H Q _=>∃(O:Addr->Prop) (ds:List D) (Qc:PV->Prop),(∀b,O b->H b≠none)/\FVs K O H vs ds/\c ds Qc/\∀r,Qc r->∀v H',Gr H H'->rJ K O H H' r v->Q v H'
noncomputable def qE(c:FN)(pr:PTA):PTE:=λρ Q=>pr ρ λas ρ1=>match avD as with
 | some ds=>c ds λr=>Q r ρ1
 | none=>False
variable {N:List Str}{vs:List V}
def cW(h:vs[i]?=some v):(start N vs)[i]?=some (some v):=by
 unfold start;rw [KG (by rw [length_map];exact (i_.mp h).1),gV,h];rfl
noncomputable def bG(n:Nat)(ps:List PV):PSt:=ps.map some++v_ (n - ps.length) none
def bJ{ps:List PV}(h:(bG n ps)[i]?=some (some p)):ps[i]?=some p:=by
 unfold bG at h
 by_cases hi:i<ps.length
 .rw [KG (by rw [length_map];exact hi),gV] at h
  cases e:ps[i]? with
  | none=>rw [e] at h;cases h
  | some q=>rw [e] at h;cases h;rfl
 .rw [Kj (by rw [length_map];omega)] at h;have:=B_ h;rw [mem_replicate] at this;cases this.2
variable {tr:TA}{pr:PTA}{c:FN}
def ay(h:LAs K tr pr):LE K (dJ (spP K c) [] E0 tr) (qE c pr):=λA ρ σ H Q Q' R q k=>h A ρ σ H _ _ R q λvs H1 as ρ1 q1 f1 R1 o1=>by
 split at q1
 .rename_i ds e;rw [JY];exact⟨OO A ρ1 σ,ds,_,R1.dom2,o1.avD e,q1,λr qr v H' g ov=>k v H' r ρ1 qr (f1.trans g.fr) ((ov.out R1 g).h0 f1.dm)⟩
 .exact q1.elim
def Out.outV(h:Out K O ρ σ H H' p v):rJ K O H H' p v:=by
 cases p with
 | dat d=>exact h.2.keeps (aB.less λb z=>.inl z)
 | own ds =>
  obtain⟨a,xs,e1,na,e2,e3,R,f⟩:=h;exact⟨a,xs,e1,e2,e3,f.keeps (aB.less λb z=>.inl z)⟩
 | ins c ns ds =>
  obtain⟨a,dx,fs,e1,na,e2,e3,m,R,f⟩:=h;exact⟨a,dx,fs,e1,e2,e3,m,f.keeps (aB.less λb z=>.inl z)⟩
 | odc ks ds =>
  obtain⟨a,kvs,e1,na,e2,e3,m,R,f⟩:=h;exact⟨a,kvs,e1,e2,e3,m,f.keeps (aB.less λb z=>.inl z)⟩
variable {ts:TS}{ps:PTS}
def fnP(hl:LS K [] ts ps)(hn:∀ds Q,c ds Q->ds.length<=N.length)(hc:∀ds Q,c ds Q->ps { nx:=λ_=>Q (.dat .non),rt:=λp _=>Q p } (bG N.length (ds.map .dat))){Q:VK}{E:XK}(h:spP K c vs H Q E):ts { nx:=λ_ H'=>Q .non H',rt:=Q } (start N vs) H:=by
 obtain⟨O,ds,Qc,dom,fv,hq,k⟩:=h
 have nw:∀(ρ:PSt) (b:Addr),ρ=bG N.length (ds.map .dat)->¬ Wr ρ (start N vs) b:=λρ b e ⟨i,p,e1,o1,s1⟩=>by
  rw [e] at e1;have:=bJ e1;rw [gV] at this
  cases e2:ds[i]? with
  | none=>rw [e2] at this;cases this
  | some d=>rw [e2] at this;cases this;cases o1
 have lenv:=fv.length;have hle:=hn ds Qc hq
 have R0:Rel K O (bG N.length (ds.map .dat)) (start N vs) H:=by
  refine⟨?_,λi p e=>?_,λi j p q v e1 e2 o1 o2 s1 s2=>?_,dom,λb _ w=>nw _ b rfl w⟩
  .unfold bG start;rw [length_append,length_append,length_map,length_map,length_map,length_replicate,length_replicate,lenv]
  .have:=bJ e;rw [gV] at this
   cases e2:ds[i]? with
   | none=>rw [e2] at this;cases this
   | some d =>
    rw [e2] at this;cases this;obtain⟨v,hv,f⟩:=fv.getD e2;exact⟨v,cW hv,f.keeps (aB.less λb z=>z.elim id λw=>absurd w (nw _ b rfl))⟩
  .have:=bJ e1;rw [gV] at this
   cases e3:ds[i]? with
   | none=>rw [e3] at this;cases this
   | some d=>rw [e3] at this;cases this;cases o1
 refine hl [] O (λ_=>False) H _ _ H _ _ rfl R0 ⟨λ_ _ _ h=>h,λ_ h=>h,λb w=>absurd w (nw _ b rfl),λp hp=>nomatch hp⟩ (hc ds Qc hq) (λρ' σ' H' q r F=>?_) (λv p ρ' σ' H' q o F=>?_) (λ_ _ _ z=>z.elim) (λ_ _ _ z=>z.elim)
 .exact k _ q .non H' (λb o e=>F.kp b o id e) .non
 .exact k _ q v H' (λb o e=>F.kp b o id e) o.outV
abbrev FR:=PV->List D->(PV->PV->Prop)->Prop
noncomputable def spR(K:b_)(c:FR):Sp:=λvs H Q _=>∃(A:Addr->Prop) (a:Addr) (p:PV) (ws:List V) (ds:List D) (Qc:PV->PV->Prop),vs=.ref a::ws/\p.isOwn=true/\(∀b,A b->H b≠none)/\¬ A a/\RS K (cB A a) H p (.ref a)/\FVs K (cB A a) H ws ds/\c p ds Qc /\
 ∀r p',Qc r p'->p'.isOwn=true->∀v H',(∀b o,b≠a->H b=some o->H' b=some o)->H' a≠none->RS K (cB A a) H' p' (.ref a)->rJ K (cB A a) H H' r v->(∀a',v=.ref a'->r.isOwn=true->RS K (cB (cB A a) a') H' p' (.ref a))->Q v H'
noncomputable def A0(c:FR)(i:Nat)(pr:PTA):PTE:=λρ Q=>match ρ[i]? with
 | some (some _)=>pr ρ λas ρ1=>(match ρ1[i]?,avD as with
  | some (some p),some ds=>p.isOwn=true/\c p ds λr p'=>Q r (ρ1.set i (some p'))
  | _,_=>False)
 | _=>False
def bO{c:FR}(h:LAs K tr pr):LE K (dJ (spR K c) [] E0 (aK (aH i) tr)) (A0 c i pr):=λA ρ σ H Q Q' R q k=>by
 unfold A0 at q
 split at q
 .rename_i p0 e0;obtain⟨v0,s0,_⟩:=R.get i p0 e0;refine⟨v0,s0,h A ρ σ H _ _ R q λvs H1 as ρ1 q1 f1 R1 o1=>?_⟩
  split at q1
  .rename_i p ds e1 ed;obtain⟨ow,q1⟩:=q1;obtain⟨v1,s1,rs⟩:=R1.get i p e1;rw [s0] at s1;cases s1;obtain⟨a,u,rfl,ea⟩:=rs.ref ow;rw [JY];have wa:Wr ρ1 σ a:=⟨i,p,e1,ow,s0⟩
   have oeq:cB (λb=>(OO A ρ1 σ b)/\b≠a) a=OO A ρ1 σ:=funext λb=>propext ⟨λz=>z.elim (λz=>z.1) (λz=>by rw [z];exact .inr wa),λz=>by
    by_cases e:b=a
    .exact .inr e
    .exact .inl ⟨z,e⟩⟩
   refine⟨λb=>(OO A ρ1 σ b)/\b≠a,a,p,vs,ds,_,rfl,ow,λb z=>R1.dom2 b z.1,λz=>z.2 rfl,by rw [oeq];exact rs,by rw [oeq];exact o1.avD ed,q1,λr p' qr ow' v H' kp ha rs' ov hx=>?_⟩;rw [oeq] at rs' ov hx
   have domA:∀b,A b->H' b≠none:=λb z=>by
    have:b≠a:=λe=>R1.sep b z (by rw [e];exact wa)
    cases eb:H1 b with
    | none=>exact absurd eb (R1.dom b z)
    | some o=>rw [kp b o this eb];exact nofun
   cases r with
   | dat d =>
    obtain⟨R2,f2⟩:=R1.step (A':=A) e1 ow ow' s0 kp ha (λ_ h=>h) (λ_ h=>.inl h) domA rs';exact k v H' _ _ qr (f1.trans f2) ⟨R2,FV.keeps (aB.less λb z=>z.imp id (f2.ow b)) ov⟩
   | own es =>
    obtain⟨a',xs,rfl,n1,e2,f⟩:=ov;have hx:=hx a' rfl rfl;have na:a'≠a:=λe=>by rw [e,ea] at n1;cases n1
    have oo2:∀b,OO (cB A a') ρ1 σ b ↔ cB (OO A ρ1 σ) a' b:=λb=>⟨λz=>by
     rcases z with (z|z)|z
     .exact .inl (.inl z)
     .exact .inr z
     .exact .inl (.inr z),λz=>by
     rcases z with (z|z)|z
     .exact .inl (.inl z)
     .exact .inr z
     .exact .inl (.inr z)⟩
    have oo2':OO (cB A a') ρ1 σ=cB (OO A ρ1 σ) a':=funext λb=>propext (oo2 b)
    obtain⟨R2,f2⟩:=R1.step (A':=cB A a') e1 ow ow' s0 kp ha (λ_ h=>.inl h) (λb z=>z.imp id λz=>by rw [z];exact n1) (λb z=>z.elim (domA b) λz=>by rw [z,e2];exact nofun) (by rw [oo2'];exact hx)
    .refine k _ H' (.own es) _ qr (f1.trans f2) ⟨a',xs,rfl,λz=>R1.dom a' z n1,?_,e2,R2,f.keeps (aB.less λb z=>?_)⟩
     .cases eb:H a' with
      | none=>rfl
      | some o=>exact absurd n1 (f1.dm a' (by rw [eb];exact nofun))
     .rw [<- oo2'];exact z.imp id (f2.ow b)
   | ins c ns es =>
    obtain⟨a',dx,fs,rfl,n1,e2,m,f⟩:=ov;have hx:=hx a' rfl rfl
    have oo2':OO (cB A a') ρ1 σ=cB (OO A ρ1 σ) a':=funext λb=>propext ⟨λz=>by
     rcases z with (z|z)|z
     .exact .inl (.inl z)
     .exact .inr z
     .exact .inl (.inr z),λz=>by
     rcases z with (z|z)|z
     .exact .inl (.inl z)
     .exact .inr z
     .exact .inl (.inr z)⟩
    obtain⟨R2,f2⟩:=R1.step (A':=cB A a') e1 ow ow' s0 kp ha (λ_ h=>.inl h) (λb z=>z.imp id λz=>by rw [z];exact n1) (λb z=>z.elim (domA b) λz=>by rw [z,e2];exact nofun) (by rw [oo2'];exact hx)
    .refine k _ H' (.ins c ns es) _ qr (f1.trans f2) ⟨a',dx,fs,rfl,λz=>R1.dom a' z n1,?_,e2,m,R2,f.keeps (aB.less λb z=>?_)⟩
     .cases eb:H a' with
      | none=>rfl
      | some o=>exact absurd n1 (f1.dm a' (by rw [eb];exact nofun))
     .rw [<- oo2'];exact z.imp id (f2.ow b)
   | odc ks es =>
    obtain⟨a',kvs,rfl,n1,e2,m,f⟩:=ov;have hx:=hx a' rfl rfl
    have oo2':OO (cB A a') ρ1 σ=cB (OO A ρ1 σ) a':=funext λb=>propext ⟨λz=>by
     rcases z with (z|z)|z
     .exact .inl (.inl z)
     .exact .inr z
     .exact .inl (.inr z),λz=>by
     rcases z with (z|z)|z
     .exact .inl (.inl z)
     .exact .inr z
     .exact .inl (.inr z)⟩
    obtain⟨R2,f2⟩:=R1.step (A':=cB A a') e1 ow ow' s0 kp ha (λ_ h=>.inl h) (λb z=>z.imp id λz=>by rw [z];exact n1) (λb z=>z.elim (domA b) λz=>by rw [z,e2];exact nofun) (by rw [oo2'];exact hx)
    .refine k _ H' (.odc ks es) _ qr (f1.trans f2) ⟨a',kvs,rfl,λz=>R1.dom a' z n1,?_,e2,m,R2,f.keeps (aB.less λb z=>?_)⟩
     .cases eb:H a' with
      | none=>rfl
      | some o=>exact absurd n1 (f1.dm a' (by rw [eb];exact nofun))
     .rw [<- oo2'];exact z.imp id (f2.ow b)
  .exact q1.elim
 .exact q.elim
noncomputable def Du(Q:PV->PV->Prop)(r:PV)(ρ:PSt):Prop:=match ρ[0]? with
 | some (some p)=>p.isOwn=true/\Q r p
 | _=>False
def fnR{c:FR}(hl:LS K [0] ts ps)(hn:∀p ds Q,c p ds Q->ds.length+1<=N.length)(hc:∀p ds Q,p.isOwn=true->c p ds Q->ps { nx:=Du Q (.dat .non),rt:=Du Q } (bG N.length (p::ds.map .dat))){Q:VK}{E:XK}(h:spR K c vs H Q E):ts { nx:=λ_ H'=>Q .non H',rt:=Q } (start N vs) H:=by
 obtain⟨A,a,p,ws,ds,Qc,rfl,ow,dom,na,rs,fv,hq,k⟩:=h;have s0:(start N (V.ref a::ws))[0]?=some (some (.ref a)):=cW rfl;have b0:(bG N.length (p::ds.map .dat))[0]?=some (some p):=rfl
 have wr:∀b,Wr (bG N.length (p::ds.map .dat)) (start N (.ref a::ws)) b->b=a:=λb ⟨i,q,e1,o1,s1⟩=>by
  have:=bJ e1
  cases i with
  | zero=>rw [s0] at s1;cases s1;rfl
  | succ i =>
   rw [Lf,gV] at this
   cases e2:ds[i]? with
   | none=>rw [e2] at this;cases this
   | some d=>rw [e2] at this;cases this;cases o1
 have wa:Wr (bG N.length (p::ds.map .dat)) (start N (.ref a::ws)) a:=⟨0,p,b0,ow,s0⟩
 have oeq:OO A (bG N.length (p::ds.map .dat)) (start N (.ref a::ws))=cB A a:=funext λb=>propext ⟨λz=>z.imp id (wr b),λz=>z.imp id λz=>by rw [z];exact wa⟩;have lenv:=fv.length;have hle:=hn p ds Qc hq
 have R0:Rel K A (bG N.length (p::ds.map .dat)) (start N (.ref a::ws)) H:=by
  refine⟨?_,λi q e=>?_,λi j q1 q2 v e1 e2 o1 o2 s1 s2=>?_,dom,λb z w=>?_⟩
  .unfold bG start;simp only [length_append,length_map,length_replicate,length_cons,lenv]
  .have:=bJ e;rw [oeq]
   cases i with
   | zero=>cases this;exact⟨_,s0,rs⟩
   | succ i =>
    rw [Lf,gV] at this
    cases e2:ds[i]? with
    | none=>rw [e2] at this;cases this
    | some d =>
     rw [e2] at this;cases this;obtain⟨v,hv,f⟩:=fv.getD e2;exact⟨v,cW (by rw [Lf];exact hv),f⟩
  .have own0:∀(i:Nat) (q:PV),(bG N.length (p::ds.map .dat))[i]?=some (some q)->q.isOwn=true->i=0:=λi q e o=>by
    have:=bJ e
    cases i with
    | zero=>rfl
    | succ i =>
     rw [Lf,gV] at this
     cases e2:ds[i]? with
     | none=>rw [e2] at this;cases this
     | some d=>rw [e2] at this;cases this;cases o
   rw [own0 i q1 e1 o1,own0 j q2 e2 o2]
  .rw [wr b w] at z;exact na z
 have fin:∀(v:V) (r:PV) (ρ':PSt) (σ':St) (H':Hp),Du Qc r ρ'->Out K A ρ' σ' H H' r v->dO [(0,.ref a)] (λb=>b=a) H ρ' σ' H'->Q v H':=λv r ρ' σ' H' q o F=>by
  unfold Du at q
  split at q
  .rename_i p' e';obtain⟨ow',q⟩:=q;have sa:=F.fx (0,.ref a) (r_.mpr rfl);have wa':Wr ρ' σ' a:=⟨0,p',e',ow',sa⟩
   have kpa:∀b o,b≠a->H b=some o->H' b=some o:=λb o n e=>F.kp b o n e
   cases r with
   | dat d =>
    obtain⟨R1,f1⟩:=o;obtain⟨v1,s1,rs1⟩:=R1.get 0 p' e';rw [sa] at s1;cases s1;have less:∀b,cB A a b->OO A ρ' σ' b:=λb z=>z.imp id λz=>by rw [z];exact wa'
    exact k _ p' q ow' v H' kpa (R1.wr wa') (rs1.keeps (aB.less less) λ_ _ _=>rfl) (f1.keeps (aB.less less)) (λ_ _ z=>nomatch z)
   | own es =>
    obtain⟨a',xs,rfl,n1,n2,e3,R1,f1⟩:=o;obtain⟨v1,s1,rs1⟩:=R1.get 0 p' e';rw [sa] at s1;cases s1
    have less:∀b,cB (cB A a) a' b->OO (cB A a') ρ' σ' b:=λb z=>by
     rcases z with (z|z)|z
     .exact .inl (.inl z)
     .exact .inr (by rw [z];exact wa')
     .exact .inl (.inr z)
    exact k _ p' q ow' _ H' kpa (R1.wr wa') (rs1.keeps (aB.less λb z=>less b (.inl z)) λ_ _ _=>rfl) ⟨a',xs,rfl,n2,e3,f1.keeps (aB.less less)⟩ (λa'' e _=>by cases e;exact rs1.keeps (aB.less less) λ_ _ _=>rfl)
   | ins c ns es =>
    obtain⟨a',dx,fs,rfl,n1,n2,e3,m,R1,f1⟩:=o;obtain⟨v1,s1,rs1⟩:=R1.get 0 p' e';rw [sa] at s1;cases s1
    have less:∀b,cB (cB A a) a' b->OO (cB A a') ρ' σ' b:=λb z=>by
     rcases z with (z|z)|z
     .exact .inl (.inl z)
     .exact .inr (by rw [z];exact wa')
     .exact .inl (.inr z)
    exact k _ p' q ow' _ H' kpa (R1.wr wa') (rs1.keeps (aB.less λb z=>less b (.inl z)) λ_ _ _=>rfl) ⟨a',dx,fs,rfl,n2,e3,m,f1.keeps (aB.less less)⟩ (λa'' e _=>by cases e;exact rs1.keeps (aB.less less) λ_ _ _=>rfl)
   | odc ks es =>
    obtain⟨a',kvs,rfl,n1,n2,e3,m,R1,f1⟩:=o;obtain⟨v1,s1,rs1⟩:=R1.get 0 p' e';rw [sa] at s1;cases s1
    have less:∀b,cB (cB A a) a' b->OO (cB A a') ρ' σ' b:=λb z=>by
     rcases z with (z|z)|z
     .exact .inl (.inl z)
     .exact .inr (by rw [z];exact wa')
     .exact .inl (.inr z)
    exact k _ p' q ow' _ H' kpa (R1.wr wa') (rs1.keeps (aB.less λb z=>less b (.inl z)) λ_ _ _=>rfl) ⟨a',kvs,rfl,n2,e3,m,f1.keeps (aB.less less)⟩ (λa'' e _=>by cases e;exact rs1.keeps (aB.less less) λ_ _ _=>rfl)
  .exact q.elim
 refine hl [(0,.ref a)] A (λb=>b=a) H _ _ H _ _ rfl R0 ⟨λ_ _ _ h=>h,λ_ h=>h,λb w=>.inl (wr b w),λq hq=>by rw [r_.mp hq];exact s0⟩ (hc p ds Qc ow hq) (λρ' σ' H' q r F=>fin .non (.dat .non) ρ' σ' H' q ⟨r,.non⟩ F) (λv p ρ' σ' H' q o F=>fin v p ρ' σ' H' q o F) (λ_ _ _ z=>z.elim) (λ_ _ _ z=>z.elim)
noncomputable def IH:FN:=λas Q=>∃ns:List Int,as=[.scr ns]/\ns.length<=63/\Q (.dat (.bl true))
def Cv{Q:VK}{E:XK}(h:u6 K vs H Q E):spP K IH vs H Q E:=by
 obtain⟨a,ns,rfl,hS,h63,q⟩:=h
 refine⟨λ_=>False,[.scr ns],λr=>r=.dat (.bl true),nofun,.cons (.scr ?_) .nil,⟨ns,rfl,h63,rfl⟩,λr e v H' g o=>?_⟩
 .rcases hS with h|h
  .exact .inl ⟨id,h⟩
  .exact .inr h
 .subst e;cases o;exact q H'
noncomputable def EX:List V->Hp->VK->Prop:=λxs H Q=>∃i j,xs=[.int i,.int j]/\Q (.int (if j<i then j else i)) H
noncomputable def EY:List V->Hp->VK->Prop:=λxs H Q=>∃i j,xs=[.int i,.int j]/\Q (.int (if j > i then j else i)) H
def A1(hc:X.calm=true):bz X (.builtin "min") EX:=wp hc
def A2(hc:X.calm=true):bz X (.builtin "max") EY:=wo hc
noncomputable def EZ:FN
 | [.int i,.int j],Q=>Q (.dat (.int (if j<i then j else i)))
 | _,_=>False
noncomputable def E1:FN
 | [.int i,.int j],Q=>Q (.dat (.int (if j > i then j else i)))
 | _,_=>False
def xr:LC K EX EZ:=by
 intro O H xs as Q Q' dom fs q k;unfold EZ at q
 split at q
 .cases fs with
  | cons a b=>cases b with|cons b c=>cases c;rw [a.int,b.int];exact⟨_,_,rfl,k _ H _ q (Gr.refl _) (.int _)⟩
 .exact q.elim
def xt:LC K EY E1:=by
 intro O H xs as Q Q' dom fs q k;unfold E1 at q
 split at q
 .cases fs with
  | cons a b=>cases b with|cons b c=>cases c;rw [a.int,b.int];exact⟨_,_,rfl,k _ H _ q (Gr.refl _) (.int _)⟩
 .exact q.elim
noncomputable def E2(K:b_):List V->Hp->VK->Prop:=λxs H Q=>∃(p:Addr) (ns:List Int),xs=[.ref p]/\SqL K H p (ns.map V.int)/\0<ns.length/\∀m:Int,m∈ns->(∀a∈ns,m<=a)->Q (.int m) H
noncomputable def E3(K:b_):List V->Hp->VK->Prop:=λxs H Q=>∃(p:Addr) (ns:List Int),xs=[.ref p]/\SqL K H p (ns.map V.int)/\Q (.int ns.sum) H
noncomputable def II(K:b_):List V->Hp->VK->Prop:=λxs H Q=>∃(p:Addr) (bs:List Bool),xs=[.ref p]/\SqL K H p (bs.map V.bl)/\Q (.bl (bs.all id)) H
noncomputable def IJ(K:b_):List V->Hp->VK->Prop:=λxs H Q=>∃(p:Addr) (bs:List Bool),xs=[.ref p]/\SqL K H p (bs.map V.bl)/\Q (.bl (bs.any id)) H
def E4(K:b_)(e:X.K=K)(hc:X.calm=true):bz X (.builtin "min") (E2 K):=by subst e;exact xg hc
def E5(K:b_)(e:X.K=K)(hc:X.calm=true):bz X (.builtin "sum") (E3 K):=by subst e;exact qA hc
def si(K:b_)(e:X.K=K)(hc:X.calm=true):bz X (.builtin "all") (II K):=by subst e;exact zw hc
def HA(K:b_)(e:X.K=K)(hc:X.calm=true):bz X (.builtin "any") (IJ K):=by subst e;exact zx hc
noncomputable def E6:FN
 | [.lst ds],Q=>∃ns:List Int,ds=ns.map .int/\0<ns.length/\∀m:Int,m∈ns->(∀a∈ns,m<=a)->Q (.dat (.int m))
 | _,_=>False
noncomputable def Cw:FN
 | [.lst ds],Q=>∃ns:List Int,ds=ns.map .int/\Q (.dat (.int ns.sum))
 | _,_=>False
noncomputable def HB:FN
 | [.lst ds],Q=>∃bs:List Bool,ds=bs.map .bl/\Q (.dat (.bl (bs.all id)))
 | _,_=>False
noncomputable def IK:FN
 | [.lst ds],Q=>∃bs:List Bool,ds=bs.map .bl/\Q (.dat (.bl (bs.any id)))
 | _,_=>False
def Cy:LC K (E2 K) E6:=by
 intro O H xs as Q Q' dom fs q k;unfold E6 at q
 split at q
 .obtain⟨ns,rfl,h0,q⟩:=q
  cases fs with
  | cons a b =>
   cases b;obtain⟨p,ys,rfl,e1,f1⟩:=a.lst;rw [f1.ints] at e1;exact⟨p,ns,rfl,SqL.of e1,h0,λm hm hle=>k _ H _ (q m hm hle) (Gr.refl _) (.int _)⟩
 .exact q.elim
def Cz:LC K (E3 K) Cw:=by
 intro O H xs as Q Q' dom fs q k;unfold Cw at q
 split at q
 .obtain⟨ns,rfl,q⟩:=q
  cases fs with
  | cons a b =>
   cases b;obtain⟨p,ys,rfl,e1,f1⟩:=a.lst;rw [f1.ints] at e1;exact⟨p,ns,rfl,SqL.of e1,k _ H _ q (Gr.refl _) (.int _)⟩
 .exact q.elim
def lN:LC K (II K) HB:=by
 intro O H xs as Q Q' dom fs q k;unfold HB at q
 split at q
 .obtain⟨ns,rfl,q⟩:=q
  cases fs with
  | cons a b =>
   cases b;obtain⟨p,ys,rfl,e1,f1⟩:=a.lst;rw [f1.bls] at e1;exact⟨p,ns,rfl,SqL.of e1,k _ H _ q (Gr.refl _) (.bl _)⟩
 .exact q.elim
def E7:LC K (IJ K) IK:=by
 intro O H xs as Q Q' dom fs q k;unfold IK at q
 split at q
 .obtain⟨ns,rfl,q⟩:=q
  cases fs with
  | cons a b =>
   cases b;obtain⟨p,ys,rfl,e1,f1⟩:=a.lst;rw [f1.bls] at e1;exact⟨p,ns,rfl,SqL.of e1,k _ H _ q (Gr.refl _) (.bl _)⟩
 .exact q.elim
noncomputable def CA(K:b_):List V->Hp->VK->Prop:=λxs H Q=>∃p ys,xs=[.ref p]/\((SqL K H p ys/\∀l,H l=none->Q (.ref l) (upd H l (.tup ys)))\/(SqT K H p ys/\Q (.ref p) H))
def eP(K:b_)(e:X.K=K):bz X (.type "tuple") (CA K):=by subst e;exact oN
def E8(K:b_)(e:X.K=K):bz X (.type "list") (xh K):=by subst e;exact qf
noncomputable def lO:FN
 | [.lst ds],Q=>Q (.dat (.tup ds))
 | [.tup ds],Q=>Q (.dat (.tup ds))
 | [.scr ns],Q=>Q (.dat (.tup (ns.map .int)))
 | _,_=>False
noncomputable def E9:FN
 | [.lst ds],Q=>Q (.own ds)
 | [.tup ds],Q=>Q (.own ds)
 | [.scr ns],Q=>Q (.own (ns.map .int))
 | _,_=>False
def di:LC K (CA K) lO:=by
 intro O H xs as Q Q' dom fs q k;unfold lO at q
 split at q
 .cases fs with
  | cons a b =>
   cases b;obtain⟨p,ys,rfl,e1,f1⟩:=a.lst;exact⟨p,ys,rfl,.inl ⟨SqL.of e1,λl hl=>k _ _ _ q (Gr.new hl) (lE dom hl f1)⟩⟩
 .cases fs with
  | cons a b =>
   cases b;obtain⟨p,ys,rfl,n1,e1,f1⟩:=a.tup;exact⟨p,ys,rfl,.inr ⟨SqT.of e1,k _ H _ q (Gr.refl _) (.tup n1 e1 f1)⟩⟩
 .cases fs with
  | cons a b =>
   cases b;obtain⟨p,rfl,e1⟩:=a.scr;exact⟨p,_,rfl,.inl ⟨e1,λl hl=>k _ _ _ q (Gr.new hl) (lE dom hl (FVs.of_ints _))⟩⟩
 .exact q.elim
def CB:LC K (xh K) E9:=by
 intro O H xs as Q Q' dom fs q k;unfold E9 at q
 split at q
 .cases fs with
  | cons a b =>
   cases b;obtain⟨p,ys,rfl,e1,f1⟩:=a.lst;exact⟨p,ys,rfl,.inl (SqL.of e1),λl hl=>k _ _ _ q (Gr.new hl) (eO hl f1)⟩
 .cases fs with
  | cons a b =>
   cases b;obtain⟨p,ys,rfl,n1,e1,f1⟩:=a.tup;exact⟨p,ys,rfl,.inr (SqT.of e1),λl hl=>k _ _ _ q (Gr.new hl) (eO hl f1)⟩
 .cases fs with
  | cons a b =>
   cases b;obtain⟨p,rfl,e1⟩:=a.scr;exact⟨p,_,rfl,.inl e1,λl hl=>k _ _ _ q (Gr.new hl) (eO hl (FVs.of_ints _))⟩
 .exact q.elim
noncomputable def vp(i:Int)(n:Nat):List D:=(c_ n).map λ(k:Nat)=>D.int (i+(k:Int))
noncomputable def mkL(tup:Bool)(ds:List D):PV:=match tup with|true=>.dat (.tup ds)|false=>.own ds
noncomputable def Fa(tup:Bool)(pr:PTA):PTE:=λρ Q=>pr ρ λas ρ1=>match as with
 | [.v (.int j)]=>(0<=j/\j<=1000000)/\Q (mkL tup (vp 0 j.toNat)) ρ1
 | _=>False
def Fb(i:Int)(n:Nat):FVs K O H (rX i 1 n) (vp i n):=by
 have e:∀l:List Nat,FVs K O H (l.map λ(k:Nat)=>V.int (i+k*1)) (l.map λ(k:Nat)=>D.int (i+(k:Int))):=λl=>by
  induction l with
  | nil=>exact .nil
  | cons a r ih=>exact .cons (by show FV K O H (V.int (i+(a:Int)*1)) (D.int (i+(a:Int)));rw [show i+(a:Int)*1=i+(a:Int) by omega];exact .int _) ih
 exact e _
def nY{i j:Int}(h:i<=j):q_ i j 1=(((j - i).toNat:Nat):Int):=by
 unfold q_;rw [if_pos (by decide)];simp only [ediv_one];split <;> omega
def vq{i j:Int}(h0:-1000000<=i)(h1:i<=j)(h2:j<=1000000):KZ i j 1=true:=by
 unfold KZ;rw [nY h1];simp only [g_,and_eq_true,or_eq_true,decide_eq_true_eq,beq_iff_eq,show (1:Int) > 0 by decide,if_true];omega
noncomputable def mkO(tup:Bool):List V->HO:=match tup with|true=>.tup|false=>.lst
def Fc{p:Addr}(tup:Bool)(dom:∀b,O b->H b≠none)(hp:H p=none)(f:FVs K O H xs ds):rJ K O H (upd H p (mkO tup xs)) (mkL tup ds) (.ref p):=by
 cases tup with
 | true=>exact lE dom hp f
 | false=>exact eO hp f
def um(tup:Bool)(h:LAs K tr pr):LE K (tCB (G7 K (mkO tup)) (aK (λσ H Q=>tr σ H λvs H1=>∃j:Int,vs=[.int j]/\∀p,H1 p=none->Q (.ref p) (upd H1 p (AR p 0 j 1))) c6)) (Fa tup pr):=λA ρ σ H Q Q' R q k=>h A ρ σ H _ _ R q λvs H1 as ρ1 q1 f1 R1 o1=>by
 split at q1
 .rename_i j
  cases o1 with
  | cons a b =>
   cases b;cases a;refine⟨j,rfl,λp hp=>⟨p,0,j,1,j.toNat,rfl,aC,vq (by decide) q1.1.1 q1.1.2,by rw [nY q1.1.1,Ng],by omega,λl hl=>?_⟩⟩;have g:Gr H1 (upd H1 p (AR p 0 j 1)):=Gr.new hp;have R2:=R1.gr g;have g2:Gr (upd H1 p (AR p 0 j 1)) (upd (upd H1 p (AR p 0 j 1)) l (mkO tup (rX 0 1 j.toNat))):=Gr.new hl;exact k _ _ _ ρ1 q1.2 (f1.trans (g.fr.trans g2.fr)) ((rJ.out R2 g2 (Fc tup R2.dom2 hl (Fb 0 _))).h0 λb z=>(g.fr (ρ:=ρ1) (σ:=σ)).dm b (f1.dm b z))
 .exact q1.elim
def A3(K:b_)(e:X.K=K)(hc:X.calm=true):bz X (.type "list") (G7 K (mkO false)):=by subst e;exact u8 hc
variable {pa:PA1}
noncomputable def zI(pa:PA1):PTE:=λρ Q=>pa ρ λx ρ1=>match cont ρ1 x with
 | some (.lst ds)=>Q (.own ds.reverse) ρ1
 | _=>False
noncomputable def uo(K:b_)(te:TE):TE:=λσ H Q=>te σ H λx H1=>∃a xs,x=.ref a/\SqL K H1 a xs/\∀l,H1 l=none->Q (.ref l) (upd H1 l (.lst xs.reverse))
variable {e:Expr}{pos:Pos}
def sj{p p1 p2:Pos}(K:b_)(eK:X.K=K)(hc:X.calm=true)(he:PE X e te)(hg1:Gl X "list")(hm1:X.mg "list"=none)(hg2:Gl X "reversed")(hm2:X.mg "reversed"=none)(hs:starEach [.Call (.Name "reversed" p1) [e] [] p2] X.env=[(false,eval (.Call (.Name "reversed" p1) [e] [] p2) X.env)]:=by rfl)(hs2:starEach [e] X.env=[(false,eval e X.env)]:=by rfl):
  PE X (.Call (.Name "list" p) [.Call (.Name "reversed" p1) [e] [] p2] [] pos) (uo K te):=by subst eK;exact vc hc he hg1 hm1 hg2 hm2 hs hs2
variable {ta:TE}
def vt(h:LA1 K ta pa):LE K (uo K ta) (zI pa):=λA ρ σ H Q Q' R q k=>h A ρ σ H _ _ R q λv H1 a ρ1 q1 f1 R1 o1=>by
 split at q1
 .rename_i ds e;obtain⟨p,xs,rfl,e1,fs⟩:=(R1.cont o1 e).lst;refine⟨p,xs,rfl,SqL.of e1,λl hl=>?_⟩;have g:Gr H1 (upd H1 l (.lst xs.reverse)):=Gr.new hl;exact k _ _ _ ρ1 q1 (f1.trans g.fr) ((rJ.out (p:=.own ds.reverse) R1 g (eO hl fs.reverse)).h0 f1.dm)
 .exact q1.elim
abbrev FM:=List Nat->List D->(PV->Prop)->Prop
noncomputable def LM(K:b_)(r:V->List V->Hp->VK->Prop)(f:FM):Prop:=∀(O:Addr->Prop) (H:Hp) (l:List Nat) (xs:List V) (as:List D) (Q:PV->Prop) (Q':VK),(∀b,O b->H b≠none)->l.length<=1000000->Dr K O H xs as->f l as Q ->
 (∀v H' p,Q p->Gr H H'->rJ K O H H' p v->Q' v H')->r (.str (S l)) xs H Q'
noncomputable def pSM(f:FM)(pe:PTE)(pr:PTA):PTE:=λρ Q=>pe ρ λp ρ1=>match p with
 | .dat (.str l)=>pr ρ1 λas ρ2=>(match conts ρ2 as with
  | some ds=>f l ds λr=>Q r ρ2
  | none=>False)
 | _=>False
def Fd{r:V->List V->Hp->VK->Prop}{f:FM}(o:LM K r f)(he:LE K ta pe)(hr:LAs K tr pr):LE K (tBM K "str" r ta tr) (pSM f pe pr):=λA ρ σ H Q Q' R q k=>he A ρ σ H _ _ R q λv H1 p ρ1 q1 f1 o1=>by
 split at q1
 .rename_i l;obtain⟨R1,fv⟩:=o1
  cases fv with
  | str _ hl =>
   refine⟨rfl,hr A ρ1 σ H1 _ _ R1 q1 λvs H2 as ρ2 q2 f2 R2 o2=>?_⟩
   split at q2
   .rename_i ds e;exact o _ H2 l vs ds _ _ R2.dom2 hl (R2.conts o2 e) q2 λz H3 p q3 g ov=>k z H3 p ρ2 q3 ((f1.trans f2).trans g.fr) ((ov.out R2 g).h0 λb z=>f2.dm b (f1.dm b z))
   .exact q2.elim
 .exact q1.elim
noncomputable def Fe:V->List V->Hp->VK->Prop:=λx xs H Q=>∃a b,x=.str (S a)/\xs=[.str (S b)]/\Q (.bl (decide (b <:+ a))) H
noncomputable def A4:V->List V->Hp->VK->Prop:=λx xs H Q=>∃a b,x=.str (S a)/\xs=[.str (S b)]/\Q (.int (fnd a b 0)) H
def CC:MtR X "str.endswith" Fe:=rW
def zJ:MtR X "str.find" A4:=zo
noncomputable def Ff:FM
 | a,[.str b],Q=>Q (.dat (.bl (decide (b <:+ a))))
 | _,_,_=>False
noncomputable def A5:FM
 | a,[.str b],Q=>Q (.dat (.int (fnd a b 0)))
 | _,_,_=>False
def CD:LM K Fe Ff:=by
 intro O H l xs as Q Q' dom hl fs q k;unfold Ff at q
 split at q
 .cases fs with|cons a b=>cases b;rw [a.str.1];exact⟨_,_,rfl,rfl,k _ H _ q (Gr.refl _) (.bl _)⟩
 .exact q.elim
def zK:LM K A4 A5:=by
 intro O H l xs as Q Q' dom hl fs q k;unfold A5 at q
 split at q
 .cases fs with|cons a b=>cases b;rw [a.str.1];exact⟨_,_,rfl,rfl,k _ H _ q (Gr.refl _) (.int _)⟩
 .exact q.elim
noncomputable def eB(f:Str):List Str->Option Nat
 | []=>none
 | n::r=>if n=f then some 0 else (eB f r).map (·+1)
theorem qF{f:Str}:∀{fs:List (Str×V)}{k:Nat},eB f (fs.map tj)=some k->fs.lookup f=(fs.map G_)[k]?
 | [],k,h=>by cases h
 | (n,v)::r,k,h=>by
  unfold eB at h;rw [map_cons] at h;simp only at h;rw [JV]
  by_cases e:n=f
  .rw [if_pos e] at h;cases h;rw [show (f == n)=true by rw [e];exact beq_self_eq_true _];rfl
  .rw [if_neg e] at h;rw [show (f == n)=false from beq_eq_false_iff_ne.mpr λz=>e z.symm]
   cases e2:eB f (r.map tj) with
   | none=>rw [e2] at h;cases h
   | some j=>rw [e2] at h;cases h;show KF f r=_;rw [qF e2];simp
theorem lP{f:Str}:∀{fs:List (Str×V)},eB f (fs.map tj)=none->fs.lookup f=none
 | [],h=>rfl
 | (n,v)::r,h=>by
  unfold eB at h;rw [map_cons] at h;simp only at h;rw [JV]
  by_cases e:n=f
  .rw [if_pos e] at h;cases h
  .rw [if_neg e] at h;rw [show (f == n)=false from beq_eq_false_iff_ne.mpr λz=>e z.symm]
   cases e2:eB f (r.map tj) with
   | none=>exact lP e2
   | some j=>rw [e2] at h;cases h
theorem o5{f:Str}:∀{fs:List (Str×V)},eB f (fs.map tj)=none->nR f v fs=fs++[(f,v)]
 | [],h=>rfl
 | (n,x)::r,h=>by
  unfold eB at h;rw [map_cons] at h;simp only at h
  by_cases e:n=f
  .rw [if_pos e] at h;cases h
  .rw [if_neg e] at h
   cases e2:eB f (r.map tj) with
   | none=>unfold nR;rw [if_neg e,o5 e2];rfl
   | some j=>rw [e2] at h;cases h
def FVc.obj{c:Str}{ns:List Str}(h:FVc K O H v (.obj c ns ds)):∃a dx fs,v=.ref a/\H a=some (.ins (bM K c) dx fs)/\fs.map tj=ns/\FVs K O H (fs.map G_) ds:=by
 rcases h with h|⟨a,xs,ds',e1,e2,e3,f⟩|⟨a,dx,c,fs,ns,ds',e1,e2,e3,m,f⟩|⟨a,kvs,ks,ds',e1,e2,_⟩
 .cases h with
  | obj n e m f=>exact⟨_,_,_,rfl,e,m,f⟩
 .cases e2
 .cases e2;exact⟨a,dx,fs,e1,e3,m,f⟩
 .cases e2
noncomputable def xu(c0:Str)(ns0:List Str)(k:Nat)(pa:PA1):PTE:=λρ Q=>pa ρ λx ρ1=>match cont ρ1 x with
 | some (.obj c ns ds)=>(c=c0/\ns=ns0)/\∃d,ds[k]?=some d/\Q (.dat d) ρ1
 | _=>False
def fk{c0 f:Str}{ns0:List Str}(hc:Cls K (bM K c0))(hn:eo K (bM K c0) f)(hk:eB f ns0=some i)(h:LA1 K ta pa):LE K (wu K ta f) (xu c0 ns0 i pa):=λA ρ σ H Q Q' R q k=>h A ρ σ H _ _ R q λv H1 a ρ1 q1 f1 R1 o1=>by
 split at q1
 .rename_i c ns ds e;obtain⟨⟨rfl,rfl⟩,d,hd,q1⟩:=q1;obtain⟨a,dx,fs,rfl,e1,m,f⟩:=(R1.cont o1 e).obj;obtain⟨v,hv,fv⟩:=f.getD hd;exact⟨a,_,dx,fs,v,rfl,e1,hc,hn,by rw [qF (k:=i) (by rw [m];exact hk)];exact hv,k v H1 _ ρ1 q1 f1 ⟨R1,fv⟩⟩
 .exact q1.elim
noncomputable def lQ(c0:Str)(ns0:List Str)(f:Str)(i:Nat)(pe:PTE):PTS:=λD ρ=>pe ρ λp ρ1=>match ρ1[i]? with
 | some (some (.ins c ns ds))=>(c=c0/\ns=ns0/\ns0.length<1000)/\D.nx (ρ1.set i (some (.ins c0 (ns0++[f]) (ds++[p.d]))))
 | _=>False
def jL{fs':List Nat}{c0 f:Str}{ns0:List Str}(hc:Cls K (bM K c0))(hn:eo K (bM K c0) f)(hk:eB f ns0=none)(h:LE K ta pe):LS K fs' (Iq K (aH i) ta f) (lQ c0 ns0 f i pe):=λfx A R H0 ρ σ H D D' hf r F q k1 k2 k3 k4=>h A ρ σ H _ _ r q λv H1 p ρ1 q1 f1 o1=>by
 obtain⟨R1,fv⟩:=o1.frz
 split at q1
 .rename_i c ns ds e;obtain⟨⟨rfl,rfl,hl⟩,q1⟩:=q1;obtain⟨w,s,a,dx,fs,rfl,g,m,ff⟩:=R1.get i _ e;have hk':eB f (fs.map tj)=none:=by rw [m];exact hk
  have wa:OO A ρ1 σ a:=.inr ⟨i,_,e,rfl,s⟩;have kw:∀o,aB (OO A ρ1 σ) H1 (OO A ρ1 σ) (upd H1 a o):=λo b u n h=>⟨n,by rw [ar (λz=>n (by rw [z];exact wa))];exact h⟩
  obtain⟨R2,f2⟩:=R1.write (o:=.ins (bM K c) dx (nR f v fs)) (q:=.ins c (ns++[f]) (ds++[p.d])) e rfl rfl s ⟨a,dx,nR f v fs,rfl,aC,by rw [o5 hk',map_append,m];rfl,by rw [o5 hk',map_append];exact (ff.append (.cons fv .nil)).keeps (kw _)⟩;refine⟨_,s,a,_,dx,fs,rfl,g,hc,hn,?_,k1 _ _ _ q1 R2 ((F.fr f1).fr f2)⟩;have:fs.length=ns.length:=by rw [<- m,length_map]
  omega
 .exact q1.elim
noncomputable def HC(c0:Str)(c:FR)(pr:PTA):PTE:=λρ Q=>pr ρ λas ρ1=>match avD as with
 | some ds=>c (.ins c0 [] []) ds λr p'=>(match r,p' with
  | .dat .non,.ins c1 ns es=>c1=c0/\Q (.ins c1 ns es) ρ1
  | _,_=>False)
 | none=>False
def xv{c0:Str}{c:FR}(h:LAs K tr pr):LE K (yZ (bM K c0) (spR K c) [] E0 tr) (HC c0 c pr):=λA ρ σ H Q Q' R q k=>h A ρ σ H _ _ R q λvs H1 as ρ1 q1 f1 R1 o1=>by
 split at q1
 .rename_i ds e;intro x dx hx hdx hne;rw [JY]
  let H2:=upd (upd H1 dx (.own x)) x (.ins (bM K c0) dx [])
  have g2:Gr H1 H2:=λb o z=>by
   show upd (upd H1 dx (.own x)) x _ b=_;rw [ar (aP z hx),ar (aP z hdx)];exact z
  have nx:¬ OO A ρ1 σ x:=R1.oo hx
  have keep2:aB (OO A ρ1 σ) H1 (cB (OO A ρ1 σ) x) H2:=λb o n z=>by
   refine⟨λy=>?_,g2 b o z⟩
   rcases y with y|y
   .exact n y
   .rw [y,hx] at z;cases z
  refine⟨OO A ρ1 σ,x,.ins c0 [] [],vs,ds,_,rfl,rfl,λb z=>(g2.fr (ρ:=ρ1) (σ:=σ)).dm b (R1.dom2 b z),nx,⟨x,dx,[],rfl,aC,rfl,.nil⟩,(o1.avD e).keeps keep2,q1,λr p' qr ow' v H' kp ha rs ov _=>?_⟩
  split at qr
  .obtain⟨rfl,qr⟩:=qr;cases ov;refine⟨rfl,?_⟩;obtain⟨a',dx',fs,ea,e2,m,f⟩:=rs;cases ea;have g:Gr H1 H':=λb o z=>kp b o (aP z hx) (g2 b o z)
   have hx0:H x=none:=by
    cases eb:H x with
    | none=>rfl
    | some o=>exact absurd hx (f1.dm x (by rw [eb];exact nofun))
   refine k _ H' _ ρ1 qr (f1.trans g.fr) ⟨x,dx',fs,rfl,λz=>nx (.inl z),hx0,e2,m,R1.grA g hx (by rw [e2];exact nofun),f.keeps (aB.less λb z=>?_)⟩
   rcases z with (z|z)|z
   .exact .inl (.inl z)
   .exact .inr z
   .exact .inl (.inr z)
  .exact qr.elim
 .exact q1.elim
noncomputable def Fg(c0:Str)(ns0:List Str)(c:FN)(pe:PTE)(pr:PTA):PTE:=λρ Q=>pe ρ λp ρ1=>match p.d with
 | .obj c1 ns ds=>(c1=c0/\ns=ns0)/\pr ρ1 λas ρ2=>(match avD as with
  | some es=>c (.obj c1 ns ds::es) λr=>Q r ρ2
  | none=>False)
 | _=>False
def zL{c0 m:Str}{ns0:List Str}(hm:eB m ns0=none)(he:LE K ta pe)(hr:LAs K tr pr):LE K (BR (bM K c0) m (spP K c) [] E0 ta tr) (Fg c0 ns0 c pe pr):=λA ρ σ H Q Q' R q k=>he A ρ σ H _ _ R q λv H1 p ρ1 q1 f1 o1=>by
 obtain⟨R1,fv⟩:=o1.frz
 split at q1
 .rename_i c1 ns ds e;rw [e] at fv;obtain⟨⟨rfl,rfl⟩,q1⟩:=q1;obtain⟨a,dx,fs,rfl,e1,mm,f⟩:=FVc.obj (.inl fv);refine⟨a,dx,fs,rfl,e1,lP (by rw [mm];exact hm),hr A ρ1 σ H1 _ _ R1 q1 λvs H2 as ρ2 q2 f2 R2 o2=>?_⟩
  split at q2
  .rename_i es e3;rw [JY];exact⟨OO A ρ2 σ,_::es,_,R2.dom2,.cons (fv.keeps f2.keeps) (o2.avD e3),q2,λr qr v H' g ov=>k v H' r ρ2 qr ((f1.trans f2).trans g.fr) ((ov.out R2 g).h0 λb z=>f2.dm b (f1.dm b z))⟩
  .exact q2.elim
 .exact q1.elim
abbrev Fh:R2:=rI0 λi j=>.int (i - j)
abbrev CF:R2:=rI (λ_ j=>0<j) λi j=>.int (i % j)
abbrev HD:R2:=rI GU λi j=>.int (i / j)
abbrev Fi:R2:=rI GV λi j=>.int (i^j.toNat)
abbrev HE:R2:=rI0 λi j=>.bl (decide (j<i))
abbrev GF:R2:=rI0 λi j=>.bl (decide (j<=i))
abbrev Fj:V->Hp->VK->Prop:=rU λi=>.int (-i)
noncomputable def IL:D->(PV->Prop)->Prop
 | .int i,Q=>Q (.dat (.int (-i)))
 | _,_=>False
def jf:OpR X (binaryOp .Sub) Fh:=DU
def dD:OpR X (binaryOp .Mod) CF:=DX
def kh:OpR X (binaryOp .FloorDiv) HD:=BK
def sm:OpR X (binaryOp .Pow) Fi:=DY
def Dv:OpR X (compareOp .Gt) HE:=G0
def A6:OpR X (compareOp .GtE) GF:=G1
def uq:LU K Fj IL:=by
 intro O H x a Q Q' dom fx q k;unfold IL at q
 split at q
 .rename_i i;exact⟨i,fx.int,k _ H _ q (Gr.refl _) (.int _)⟩
 .exact q.elim
variable {es:List Expr}
def kW{ct:Nat}{tp:Pos}(K:b_)(e:X.K=K){a:Expr}{ta:TA}{p:Pos}(hg:Gl X "enumerate")(hm:X.mg "enumerate"=none)(ha:PA X [a] ta)(hs:starEach [a] X.env=[(false,eval a X.env)]:=by rfl):
  PI X (.Tuple es ct tp) (.Call (.Name "enumerate" p) [a] [] pos) (vg K ta):=by subst e;exact Cg hg hm ha hs
def fm{fs:List Nat}(h:∀k∈fs,k∈xp ix)(hi:(xp ix).contains i=false):fs.contains i=false:=by
 cases e:fs.contains i with
 | false=>rfl
 | true =>
  have:=h i (JZ.mp e);rw [JZ.mpr this] at hi;cases hi
def mZ(t:Value)(b c:Bool)(h1:Kh K t (.type "list")=some b)(h2:Kh K t (.type "tuple")=some c):LA K t [.type "list",.type "tuple"]=some (b || c):=by
 simp only [LA,h1,h2];cases b <;> cases c <;> rfl
noncomputable def Fk(c:FN)(es:List D)(pr:PTA):PTE:=λρ Q=>pr ρ λas ρ1=>match avD as with
 | some ds=>c (ds++es) λr=>Q r ρ1
 | none=>False
def zM{vs0:List V}(hd:∀{O:Addr->Prop}{H:Hp},FVs K O H vs0 ds)(h:LAs K tr pr):LE K (dJ (spP K c) vs0 E0 tr) (Fk c ds pr):=λA ρ σ H Q Q' R q k=>h A ρ σ H _ _ R q λvs H1 as ρ1 q1 f1 R1 o1=>by
 split at q1
 .rename_i es e;exact⟨OO A ρ1 σ,_,_,R1.dom2,(o1.avD e).append hd,q1,λr qr v H' g ov=>k v H' r ρ1 qr (f1.trans g.fr) ((ov.out R1 g).h0 f1.dm)⟩
 .exact q1.elim
def GG(hn:∀ds Q,c ds Q->ds.length=n){Q:VK}{E:XK}(h:spP K c vs H Q E):vs.length=n:=by
 obtain⟨O,ds,Qc,_,f,hq,_⟩:=h;rw [f.length];exact hn ds Qc hq
def IM{c:FR}(hn:∀p ds Q,c p ds Q->ds.length+1=n){Q:VK}{E:XK}(h:spR K c vs H Q E):vs.length=n:=by
 obtain⟨A,a,p,ws,ds,Qc,rfl,_,_,_,_,f,hq,_⟩:=h;rw [length_cons,f.length];exact hn p ds Qc hq
abbrev Fl(pp:PTS)(n:Nat)(ds:List D)(Q:PV->Prop):Prop:=pp { nx:=λ_=>Q (.dat .non),rt:=λp _=>Q p } (bG n (ds.map .dat))
abbrev HF(pp:PTS)(n:Nat)(p:PV)(ds:List D)(Q:PV->PV->Prop):Prop:=pp { nx:=Du Q (.dat .non),rt:=Du Q } (bG n (p::ds.map .dat))
end L2
namespace L2
variable {K:b_}
def Cal.imp{P:PySem.Program}{w:PySem.World}{mg:PySem.Str->Option PySem.Value}{base:PySem.Heap}{k:Nat}{x:PySem.Str}{ps:List PySem.Str}{sp sp':Sp}(C:Cal P w K mg base k x ps sp)(h:∀vs H Q E,sp' vs H Q E->sp vs H Q E):Cal P w K mg base k x ps sp':=by
 obtain⟨f,fd,F,r⟩:=C.ex;exact⟨f,fd,F.imp h,r⟩
end L2
namespace L2
open PySem PySem.Spec PyProof.Rows
variable {ix:List (Option Nat)}{ρ1:PSt}{n:Nat}{pe:PTE}
def cfm{it:Nat->D}{g:PTG}{pt:PTT}{Q:PKt}(T:PSt->Prop)(f:Nat->Option D)(h0:T (bC ix ρ1))(hs:∀k τ d,k<n->d=it k->T τ->∀(K1:D->PSt->Prop) (K2:PSt->Prop),(∀d τ',f k=some d->T τ'->K1 d τ')->(∀τ',f k=none->T τ'->K2 τ')->g (.dat d) τ λτ2=>pt τ2 λok τ3=>h7 ok (pe τ3 λp τ4=>K1 p.d τ4) (K2 τ3))(hq:∀τ,T τ->Q (.own ((c_ n).filterMap f)) (dB ix ρ1 τ)):
  mY ix ρ1 n it g pt pe Q:=by
 refine⟨λk ys τ=>ys=(c_ k).filterMap f/\T τ,⟨rfl,h0⟩,λk ys τ dd hk ed ⟨e,t⟩=>?_,λys τ ⟨e,t⟩=>by rw [e];exact hq τ t⟩
 have r:(c_ (k+1)).filterMap f=(c_ k).filterMap f++(f k).toList:=by
  rw [KP,filterMap_append]
  cases e:f k with
  | none=>rw [show [k].filterMap f=[] by simp [e]];rfl
  | some d=>rw [show [k].filterMap f=[d] by simp [e]];rfl
 refine hs k τ dd hk ed t (λd τ'=>(ys++[d]=(c_ (k+1)).filterMap f/\T τ')) (λτ'=>(ys=(c_ (k+1)).filterMap f/\T τ')) (λd τ' h t'=>⟨?_,t'⟩) (λτ' h t'=>⟨?_,t'⟩)
 .rw [r,e,h];rfl
 .rw [r,e,h];simp
def rL{it:Nat->D}{g:PTG}{Q:PKt}(T:PSt->Prop)(f:Nat->D)(h0:T (bC ix ρ1))(hs:∀k τ d,k<n->d=it k->T τ->∀K1:D->PSt->Prop,(∀τ',T τ'->K1 (f k) τ')->g (.dat d) τ λτ2=>pe τ2 λp τ4=>K1 p.d τ4)(hq:∀τ,T τ->Q (.own ((c_ n).map f)) (dB ix ρ1 τ)):
  mY ix ρ1 n it g AZ pe Q:=by
 refine cfm T (λk=>some (f k)) h0 (λk τ d hk ed t K1 K2 k1 k2=>?_) λτ t=>?_
 .exact hs k τ d hk ed t K1 λτ' t'=>k1 _ τ' rfl t'
 .have:(c_ n).filterMap (λk=>some (f k))=(c_ n).map f:=by rw [<- filterMap_eq_map];rfl
  rw [this];exact hq τ t
variable {β:Type}
def iG(f:Nat->β)(l:List Nat):(c_ l.length).map (λk=>f (l.getD k 0))=l.map f:=by
 apply KW;intro i;rw [gV,gV]
 by_cases h:i<l.length
 .rw [Jv h];show some (f (l.getD i 0))=_;rw [e_,cx h];rfl
 .rw [x_ (by rw [length_range];omega),x_ (by omega)];rfl
noncomputable def pw(ws:List (List Nat))(k:Nat):List Nat:=ws.getD k []
variable {ws:List (List Nat)}
def gA{k:Nat}(h:k<ws.length):ws[k]?=some (pw ws k):=by unfold pw;rw [e_,cx h];rfl
def gB{k:Nat}(h:k<ws.length):pw ws k∈ws:=B_ (gA h)
def iH{k:Nat}(h:k<(ws.map D.str).length):itD (ws.map D.str) k=.str (pw ws k):=jc (by rw [gV,gA (by rwa [length_map] at h)];rfl)
def iI{i:Int}{k:Nat}(h:k<ws.length)(e:i=(k:Int)):atI (ws.map D.str) i=some (.str (pw ws k)):=dL (j:=k) (by rw [gV,gA h];rfl) e
noncomputable def Pc(m:Nat)(w:List Nat):Prop:=0<w.length/\w.length<=m/\Lts w
noncomputable def Pcs(m:Nat)(ws:List (List Nat)):Prop:=∀w∈ws,Pc m w
noncomputable def ltB(c:Nat):Bool:=decide (97<=c) && decide (c<=122)
noncomputable def zN:D->Int->Int->Bool
 | .str l,a,b=>(decide (a<=(l.length:Int)) && decide ((l.length:Int)<=b)) && l.all ltB
 | _,_,_=>false
def o7(l:List Nat)(a b:Int):zN (.str l) a b=((decide (a<=(l.length:Int)) && decide ((l.length:Int)<=b)) && l.all ltB):=rfl
noncomputable def HG:D->Nat
 | .str l=>l.length
 | _=>0
variable {l:List Nat}
def jM:l.all ltB=true ↔ Lts l:=by
 rw [KJ];unfold Lts ltB
 constructor
 .intro h c hc;have:=h c hc;rw [and_eq_true,decide_eq_true_eq,decide_eq_true_eq] at this;exact this
 .intro h c hc;rw [and_eq_true,decide_eq_true_eq,decide_eq_true_eq];exact h c hc
def xw{w:List Nat}:zN (.str w) 1 60=true ↔ Pc 60 w:=by
 unfold zN Pc;rw [and_eq_true,and_eq_true,decide_eq_true_eq,decide_eq_true_eq,jM]
 constructor
 .rintro⟨⟨h1,h2⟩,h3⟩;exact⟨by omega,by omega,h3⟩
 .rintro⟨h1,h2,h3⟩;exact⟨⟨by omega,by omega⟩,h3⟩
def sr(i j:Nat):(!decide (([j]:List Nat)<[i]))=decide (i<=j):=by
 by_cases h:i<=j
 .rw [decide_eq_true h]
  have:¬ ([j]:List Nat)<[i]:=by
   rw [cons_lt_cons_iff]
   rintro (z|⟨_,z⟩)
   .omega
   .exact absurd z (List.lt_irrefl _)
  rw [decide_eq_false this];rfl
 .rw [decide_eq_false h]
  have:([j]:List Nat)<[i]:=by
   rw [cons_lt_cons_iff];exact .inl (by omega)
  rw [decide_eq_true this];rfl
theorem ss:∀ws:List (List Nat),D.pys (ws.map .str)=ws.map λw=>PyData.str (S w)
 | []=>rfl
 | w::r=>by rw [map_cons,map_cons,<- ss r];rfl
theorem nZ:∀ws:List (List Nat),D.plains (ws.map .str)=true
 | []=>rfl
 | w::r=>by rw [map_cons];show (true && D.plains (r.map .str))=true;rw [nZ r];rfl
theorem su:∀ns:List Int,D.pys (ns.map .int)=ns.map PyData.int
 | []=>rfl
 | n::r=>by rw [map_cons,map_cons,<- su r];rfl
theorem jN:∀ns:List Int,D.plains (ns.map .int)=true
 | []=>rfl
 | n::r=>by rw [map_cons];show (true && D.plains (r.map .int))=true;rw [jN r];rfl
noncomputable def Sh(d:D):Prop:=d.plain=true/\JU d.py=true
def Cm.of{a b:D}(h:Sh a)(h':Sh b):Cm a b:=⟨h.1,h'.1,h.2,h'.2⟩
def Sh.lstS(h:∀w∈ws,Lts w):Sh (.lst (ws.map .str)):=⟨nZ ws,by show JU (.list (D.pys _))=true;rw [ss];exact qx h⟩
def Sh.lstI(ns:List Int):Sh (.lst (ns.map .int)):=⟨jN ns,by show JU (.list (D.pys _))=true;rw [su];exact (lA.list (qw ns)).shaped (by decide)⟩
def zO{d:D}(h:Sh d):deq d d=true:=zq h.2
noncomputable def xx(neg:Bool):R2:=λx y H Q=>∃a b,x=.ref a/\y=.ref b/\H a=some (.dK [])/\H b=some (.dK [])/\Q (.bl (!neg)) H
variable {X:Cx}
def zP(hu:X.A.units+64<cLine):OpR X (compareOp .Eq) (xx false):=by
 intro pins s σ H x y v u Q I rx ry ⟨a,b,e1,e2,h1,h2,q⟩;subst e1 e2;cases rx;cases ry;obtain⟨_,y1,vs,r1,p1⟩:=(show bB X.prog X.w H s.heap a (.dK []) from I.hok a _ h1)
 obtain⟨_,y2,ws,r2,p2⟩:=(show bB X.prog X.w H s.heap b (.dK []) from I.hok b _ h2)
 cases r1;cases r2;exact PySem.W.keq_eq (r:=true) y1 y2 p1 p2 (by omega) (λ_=>.nil) ⟨.bl true,H,I,rfl,q⟩
def zQ(hu:X.A.units+64<cLine):OpR X (compareOp .NotEq) (xx true):=by
 intro pins s σ H x y v u Q I rx ry ⟨a,b,e1,e2,h1,h2,q⟩;subst e1 e2;cases rx;cases ry;obtain⟨_,y1,vs,r1,p1⟩:=(show bB X.prog X.w H s.heap a (.dK []) from I.hok a _ h1)
 obtain⟨_,y2,ws,r2,p2⟩:=(show bB X.prog X.w H s.heap b (.dK []) from I.hok b _ h2)
 cases r1;cases r2;exact PySem.W.keq_ne (r:=true) y1 y2 p1 p2 (by omega) (λ_=>.nil) ⟨.bl false,H,I,rfl,q⟩
variable {K:b_}
noncomputable def kI(K:b_)(neg:Bool):R2:=λx y H Q=>EH K neg x y H Q\/xx neg x y H Q
def kJ(K:b_)(e:X.K=K)(hu:X.A.units+64<cLine):OpR X (compareOp .Eq) (kI K false):=OpR.or (Jh K e hu) (zP hu)
def iJ(K:b_)(e:X.K=K)(hu:X.A.units+64<cLine):OpR X (compareOp .NotEq) (kI K true):=OpR.or (Ji K e hu) (zQ hu)
noncomputable def IN:F2
 | .dic [] [],.dic [] [],Q=>Q (.dat (.bl true))
 | a,b,Q=>fEq a b Q
noncomputable def IP:F2
 | .dic [] [],.dic [] [],Q=>Q (.dat (.bl false))
 | a,b,Q=>fNe a b Q
variable {O:Addr->Prop}{H:Hp}{v:V}
def FVc.dic0(h:FVc K O H v (.dic [] [])):∃a,v=.ref a/\H a=some (.dK []):=by
 obtain⟨a,kvs,rfl,e,m,f⟩:=h.dic
 cases kvs with
 | nil=>exact⟨a,rfl,e⟩
 | cons x r=>cases m
def gh:LO K (kI K false) IN:=by
 intro O H x y a b Q Q' dom fx fy q k;unfold IN at q
 split at q
 .obtain⟨a,rfl,e1⟩:=fx.dic0;obtain⟨b,rfl,e2⟩:=fy.dic0;exact .inr ⟨a,b,rfl,rfl,e1,e2,k _ H _ q (Gr.refl _) (.bl _)⟩
 .exact .inl (Hs O H x y _ _ Q Q' dom fx fy q k)
def dQ:LO K (kI K true) IP:=by
 intro O H x y a b Q Q' dom fx fy q k;unfold IP at q
 split at q
 .obtain⟨a,rfl,e1⟩:=fx.dic0;obtain⟨b,rfl,e2⟩:=fy.dic0;exact .inr ⟨a,b,rfl,rfl,e1,e2,k _ H _ q (Gr.refl _) (.bl _)⟩
 .exact .inl (Ht O H x y _ _ Q Q' dom fx fy q k)
noncomputable def HH:D->Bool
 | .int _=>true
 | _=>false
noncomputable def HI:D->Bool
 | .lst _=>true
 | .tup _=>true
 | _=>false
noncomputable def zR:List V->Hp->VK->Prop:=λxs H Q=>(∃b,xs=[.bl b]/\Q (.int (if b then 1 else 0)) H)\/∃i,xs=[.int i]/\Q (.int i) H
def zS:bz X (.type "int") zR:=by
 intro pins s σ H xs us Q I r h
 rcases h with ⟨b,rfl,q⟩|⟨i,rfl,q⟩
 .obtain⟨u,rfl,ru⟩:=fg r;cases (show u=J4 b from ru);exact call_int_bool ⟨.int _,H,I.tok _,⟨_,rfl⟩,q⟩
 .obtain⟨u,rfl,t,rfl⟩:=fg r;exact call_int_int ⟨.int _,H,I,⟨_,rfl⟩,q⟩
noncomputable def Fm:FN
 | [.bl b],Q=>Q (.dat (.int (if b then 1 else 0)))
 | [.int i],Q=>Q (.dat (.int i))
 | _,_=>False
def ur:LC K zR Fm:=by
 intro O H xs as Q Q' dom fs q k;unfold Fm at q
 split at q
 .cases fs with|cons a b=>cases b;rw [a.bl];exact .inl ⟨_,rfl,k _ H _ q (Gr.refl _) (.int _)⟩
 .cases fs with|cons a b=>cases b;rw [a.int];exact .inr ⟨_,rfl,k _ H _ q (Gr.refl _) (.int _)⟩
 .exact q.elim
noncomputable def CG(K:b_):List V->Hp->VK->Prop:=λxs H Q=>∃(p:Addr) (ns:List Int),xs=[.ref p]/\SqL K H p (ns.map V.int)/\0<ns.length/\∀m:Int,m∈ns->(∀a∈ns,a<=m)->Q (.int m) H
def xy(K:b_)(e:X.K=K)(hc:X.calm=true):bz X (.builtin "max") (CG K):=by
 subst e;intro pins s σ H xs us Q I r h;obtain⟨p,ns,rfl,hS,hne,q⟩:=h;obtain⟨u,rfl,ru⟩:=fg r;cases (show u=so p from ru);obtain⟨its,rv,pl,hz⟩:=I.list hS;have hi:=cJ rv;have hl:=pl.isList;obtain⟨ys,e⟩:=hi.allInts.items;have hns:ns=ys.toList.map (·.1):=by rw [<- hi.numsOf,<- LN,<- e]
 have hsz:0<ys.size:=by
  have h3:=hne;rw [hns,length_map,z_] at h3;exact h3
 rw [e] at hl;refine max_intList (by exact I.ok.hd hc) hl hsz λv h' tk hv hk=>?_;obtain⟨t,rfl⟩:=Ms hv;obtain⟨h1,h2⟩:=argBest_gt (numAt ys) (ys.size - 1)
 refine⟨.int _,H,I.kept (t':=tk) hk,⟨t,rfl⟩,q _ ?_ λa ha=>?_⟩
 .rw [hns,Mi];exact getD_mem (by rw [length_map,z_];omega)
 .rw [hns] at ha;obtain⟨j,hj,rfl⟩:=mem_getD ha;rw [length_map,z_] at hj;rw [<- Mi];exact h2 j (by omega)
noncomputable def Fn:FN
 | [.lst ds],Q=>∃ns:List Int,ds=ns.map .int/\0<ns.length/\∀m:Int,m∈ns->(∀a∈ns,a<=m)->Q (.dat (.int m))
 | _,_=>False
def xz:LC K (CG K) Fn:=by
 intro O H xs as Q Q' dom fs q k;unfold Fn at q
 split at q
 .obtain⟨ns,rfl,h0,q⟩:=q
  cases fs with
  | cons a b =>
   cases b;obtain⟨p,ys,rfl,e1,f1⟩:=a.lst;rw [f1.ints] at e1;exact⟨p,ns,rfl,SqL.of e1,h0,λm h1 h2=>k _ H _ (q m h1 h2) (Gr.refl _) (.int _)⟩
 .exact q.elim
abbrev lc2(elt t1 i1:Expr)(f1:List Expr)(t2 i2:Expr)(f2:List Expr)(scope:Scope)(pos:Pos):Expr:=.ListComp elt [⟨t1,i1,f1,0⟩,⟨t2,i2,f2,0⟩] scope pos
noncomputable def vv(e i2:Expr)(acc:Value)(env:Env):Sem Unit:=do
 let x <- eval i2 env
 standAt i2.pos
 let x <- foldedSetIterable i2 env x
 let _ <- runOwn (.compStart e 1 (<- holding [x] (pyIter x)) acc env) env
noncomputable def xA(elt:Expr)(acc:Value)(env:Env):Sem Unit:=do let _ <- call (.builtin "list.append") [acc,<- eval elt env]
theorem vw(elt t1 i1:Expr)(f1:List Expr)(t2 i2:Expr)(f2:List Expr)(scope:Scope)(pos:Pos)(it acc:Value)(env:Env):
  compTurn (lc2 elt t1 i1 f1 t2 i2 f2 scope pos) 0 it acc env=(do
   standAt i1.pos
   match <- pyNext it with
   | none=>pure (.done .next)
   | some v =>
    letOwnedTupleGo t1 it v
    assign t1 env v
    let mut ok:=true
    for c in f1 do
     if ok then ok <- isTrue c env (eval c env)
    if ok then
     let x <- eval i2 env
     standAt i2.pos
     let x <- foldedSetIterable i2 env x
     let _ <- runOwn (.compStart (lc2 elt t1 i1 f1 t2 i2 f2 scope pos) 1 (<- holding [x] (pyIter x)) acc env) env
    again (.compLoop (lc2 elt t1 i1 f1 t2 i2 f2 scope pos) 0 it acc env)):=by rfl
variable {α:Type}
def vy(e i2:Expr)(acc:Value)(env:Env)(k:Sem α):(eval i2 env >>= λx=>standAt i2.pos >>= λ_=>foldedSetIterable i2 env x >>= λx=>holding [x] (pyIter x) >>= λit=>runOwn (.compStart e 1 it acc env) env >>= λ_=>k)=(vv e i2 acc env >>= λ_=>k):=by
 unfold vv;simp only [bind_assoc,pure_bind]
theorem vz(elt t1 i1:Expr)(f1:List Expr)(t2 i2:Expr)(f2:List Expr)(scope:Scope)(pos:Pos)(it acc:Value)(env:Env):
  compTurn (lc2 elt t1 i1 f1 t2 i2 f2 scope pos) 1 it acc env=(do
   standAt i2.pos
   match <- pyNext it with
   | none=>pure (.done .next)
   | some v =>
    letOwnedTupleGo t2 it v
    assign t2 env v
    let mut ok:=true
    for c in f2 do
     if ok then ok <- isTrue c env (eval c env)
    if ok then
     (xA elt acc env)
    again (.compLoop (lc2 elt t1 i1 f1 t2 i2 f2 scope pos) 1 it acc env)):=by rfl
variable {prog:s_}{w:World}{A:y_}{R:Result->cy->Prop}{s:cy}{scope:Scope}{pos:Pos}{env:Env}
theorem m3{elt t1 i1 t2 i2:Expr}{f1 f2:List Expr}{it acc:Value}(I:Nat->cy->Prop)(turn:∀n s,I n s->wpAny (model prog w) A (pyNext it) (λr s₁=>match r with
   | none=>R (.ok .next) s₁
   | some v=>wpAny (model prog w) A (letOwnedTupleGo t1 it v) (λ_ s₂=>wpAny (model prog w) A (assign t1 env v) (λ_ s₃ =>
     wpAny (model prog w) A (forIn f1 true λc r=>if r=true then do let ok <- isTrue c env (eval c env);pure (JP ok) else pure (JP r)) (λok s₄ =>
      if ok=true then wpAny (model prog w) A (vv (lc2 elt t1 i1 f1 t2 i2 f2 scope pos) i2 acc env) (λ_ s₆=>∃m,m<n/\I m s₆) (λ_ _=>False) s₄
      else ∃m,m<n/\I m s₄) (λ_ _=>False) s₃) (λ_ _=>False) s₂) (λ_ _=>False) s₁) (λ_ _=>False) s)(n:Nat)(h:I n s):
  codeAny (model prog w) A (.compLoop (lc2 elt t1 i1 f1 t2 i2 f2 scope pos) 0 it acc env) R s:=by
 refine codeAny_loop rfl I (λn s hI=>?_) n h;show wpAny _ A ((compTurn (lc2 elt t1 i1 f1 t2 i2 f2 scope pos) 0 it acc env).onRaise (λx=>do noteFrame x env;theTreesLotGoes x)) _ _ s;refine wpAny_noted ?_;rw [vw];refine cn (Kc (cn (H_ (turn n s hI) (λr s₁ h₁=>?_) λ_ _ h'=>h'.elim)))
 cases r with
 | none=>exact h_ h₁
 | some v =>
  refine cn (H_ h₁ (λ_ s₂ h₂=>?_) λ_ _ h'=>h'.elim);refine cn (H_ h₂ (λ_ s₃ h₃=>cn (H_ h₃ (λok s₄ h₄=>?_) λ_ _ h'=>h'.elim)) λ_ _ h'=>h'.elim)
  cases ok with
  | false=>exact h_ ⟨rfl,h₄⟩
  | true =>
   have e:=vy (lc2 elt t1 i1 f1 t2 i2 f2 scope pos) i2 acc env (again (.compLoop (lc2 elt t1 i1 f1 t2 i2 f2 scope pos) 0 it acc env));show wpAny _ _ (eval i2 env >>= λx=>standAt i2.pos >>= λ_=>foldedSetIterable i2 env x >>= λx=>holding [x] (pyIter x) >>= λit'=>runOwn (.compStart (lc2 elt t1 i1 f1 t2 i2 f2 scope pos) 1 it' acc env) env >>= λ_=>again (.compLoop (lc2 elt t1 i1 f1 t2 i2 f2 scope pos) 0 it acc env)) _ _ _
   rw [e];exact cn (H_ h₄ (λ_ s₆ h₆=>h_ ⟨rfl,h₆⟩) λ_ _ h'=>h'.elim)
theorem m4{elt t1 i1 t2 i2:Expr}{f1 f2:List Expr}{it acc:Value}(I:Nat->cy->Prop)(turn:∀n s,I n s->wpAny (model prog w) A (pyNext it) (λr s₁=>match r with
   | none=>R (.ok .next) s₁
   | some v=>wpAny (model prog w) A (letOwnedTupleGo t2 it v) (λ_ s₂=>wpAny (model prog w) A (assign t2 env v) (λ_ s₃ =>
     wpAny (model prog w) A (forIn f2 true λc r=>if r=true then do let ok <- isTrue c env (eval c env);pure (JP ok) else pure (JP r)) (λok s₄ =>
      if ok=true then wpAny (model prog w) A (xA elt acc env) (λ_ s₆=>∃m,m<n/\I m s₆) (λ_ _=>False) s₄
      else ∃m,m<n/\I m s₄) (λ_ _=>False) s₃) (λ_ _=>False) s₂) (λ_ _=>False) s₁) (λ_ _=>False) s)(n:Nat)(h:I n s):
  codeAny (model prog w) A (.compLoop (lc2 elt t1 i1 f1 t2 i2 f2 scope pos) 1 it acc env) R s:=by
 refine codeAny_loop rfl I (λn s hI=>?_) n h;show wpAny _ A ((compTurn (lc2 elt t1 i1 f1 t2 i2 f2 scope pos) 1 it acc env).onRaise (λx=>do noteFrame x env;theTreesLotGoes x)) _ _ s;refine wpAny_noted ?_;rw [vz];refine cn (Kc (cn (H_ (turn n s hI) (λr s₁ h₁=>?_) λ_ _ h'=>h'.elim)))
 cases r with
 | none=>exact h_ h₁
 | some v =>
  refine cn (H_ h₁ (λ_ s₂ h₂=>?_) λ_ _ h'=>h'.elim);refine cn (H_ h₂ (λ_ s₃ h₃=>cn (H_ h₃ (λok s₄ h₄=>?_) λ_ _ h'=>h'.elim)) λ_ _ h'=>h'.elim)
  cases ok with
  | false=>exact h_ ⟨rfl,h₄⟩
  | true=>exact cn (H_ h₄ (λ_ s₆ h₆=>h_ ⟨rfl,h₆⟩) λ_ _ h'=>h'.elim)
def jg{elt t1 i1 t2 i2:Expr}{f1 f2:List Expr}{it acc:Value}(h0:codeAny (model prog w) A (.compLoop (lc2 elt t1 i1 f1 t2 i2 f2 scope pos) 1 it acc env) R s)(h:wpAny (model prog w) A (pyIter it) (λit' s'=>codeAny (model prog w) A (.compLoop (lc2 elt t1 i1 f1 t2 i2 f2 scope pos) 1 it' acc env) R s')
   (notedBy (model prog w) A env λx s'=>R (.error x) s') s):
  codeAny (model prog w) A (.compStart (lc2 elt t1 i1 f1 t2 i2 f2 scope pos) 1 it acc env) R s:=by
 refine codeAny_of_tree ?_;show wpAny _ _ ((compStart (lc2 elt t1 i1 f1 t2 i2 f2 scope pos) 1 it acc env).onRaise (λx=>do noteFrame x env;standAt theWindowsPlace)) _ _ s;refine wpAny_notedAt ?_;unfold compStart;show wpAny _ _ (ask >>= _) _ _ s;refine cn (wpAny_askSetting (wpAny_ite ?_))
 split
 .first
   | exact cn (h_ (h_ (we rfl h0)))
   | exact h_ (we rfl h0)
 .first
   | exact cn (MM (cn (Kc (cn (H_ h (λit' s' h'=>h_ (we rfl h')) λ_ _ x=>x)))))
abbrev TB:=St->Hp->(St->Hp->Prop)->Prop
noncomputable def PB(Y:Cx)(emit:Sem Unit)(tb:TB):Prop:=∀(pins:List (Addr×Obj)) (s:cy) (τ:St) (H:Hp) (N:St->Hp->Prop),Inv Y pins τ H s->tb τ H N ->
 wpAny (model Y.prog Y.w) Y.A emit (λ_ s'=>∃τ' H',Inv Y pins τ' H' s'/\N τ' H') (λ_ _=>False) s
noncomputable def CH(te:TE)(D:Addr):TB:=λτ H N=>te τ H λv H6=>∃ys,H6 D=some (.lst ys)/\ys.length<sizeLine/\N τ (upd H6 D (.lst (ys++[v])))
noncomputable def CI(wi:TI)(g:TG)(tts:TT)(tb:TB):TB:=λτ H N=>wi τ H λJ H6=>∃W:Nat->Nat->St->Hp->Prop,(∃n,W 0 n τ H6)/\∀j n τ3 H7,W j n τ3 H7 ->
 (J.stop j H7/\N τ3 H7)\/(J.go j H7/\∀y H8,J.yld j H7 y H8->g y τ3 H8 λτ4 H9=>tts τ4 H9 λok H10=>if ok=true then tb τ4 H10 (λτ5 H11=>∃n',n'<n/\W (j+1) n' τ5 H11) else ∃n',n'<n/\W (j+1) n' τ4 H10)
noncomputable def xB(ix:List (Option Nat))(wi:TI)(g:TG)(tts:TT)(tb:Addr->TB):TE:=λσ H Q=>wi σ H λJ H1=>∀D,H1 D=none->∃W:Nat->Nat->St->Hp->Prop,(∃m,W 0 m (qj ix σ) (upd H1 D (.lst [])))/\∀i m τ H2,W i m τ H2 ->
 (J.stop i H2/\Q (.ref D) H2)\/(J.go i H2/\∀x H3,J.yld i H2 x H3->g x τ H3 λτ2 H4=>tts τ2 H4 λok H5=>if ok=true then tb D τ2 H5 (λτ6 H6=>∃m',m'<m/\W (i+1) m' τ6 H6)
  else ∃m',m'<m/\W (i+1) m' τ2 H5)
section
variable {Y:Cx}{elt:Expr}{te:TE}{D:Addr}
def CJ(hx:Y.xe=λ_ _=>False)(he:PE Y elt te):PB Y (xA elt (.ref D) Y.env) (CH te D):=by
 intro pins s τ H N I h;have h1:=he pins s τ H _ I h;rw [hx] at h1;unfold xA;refine cn (thn h1 λv s1 ⟨x,H1,I1,r1,ys,hD,hz,q⟩=>?_);have h2:=cp (X:=Y) pins s1 τ H1 (.ref D) [x] (.ref D) [v] (λ_ H'=>N τ H') I1 rfl (.cons r1 .nil) ⟨D,ys,x,rfl,rfl,hD,hz,q⟩;rw [hx] at h2;exact cn (thn h2 λ_ s2 ⟨_,H2,I2,_,q2⟩=>h_ ⟨τ,H2,I2,q2⟩)
variable {t1 i1 t2 i2:Expr}{f1 f2:List Expr}{wi:TI}{g:TG}{tts:TT}{tb:TB}
def CK(hx:Y.xe=λ_ _=>False)(hc:Y.calm=true)(hi:PI Y t2 i2 wi)(hg:PG Y t2 g)(ht:PIf Y f2 tts)(hb:PB Y (xA elt (.ref D) Y.env) tb)(hs:∀x,foldedSetIterable i2 Y.env x=pure x:=by intro _;rfl):
  PB Y (vv (lc2 elt t1 i1 f1 t2 i2 f2 scope pos) i2 (.ref D) Y.env) (CI wi g tts tb):=by
 intro pins s τ H N I h;have h1:=hi pins s τ H _ I h;rw [hx] at h1;unfold vv;refine cn (thn h1 λv s1 h1=>cn (Kc (cn (KM (hs v) (cn (JF (thn h1 λitv s2 h2=>cn (wpAny_runOwn ?_))))))));obtain⟨it,fp,tn,J,H2,e,I2,T,st2,f2',W,⟨m0,w0⟩,turn⟩:=h2;subst e;have stat:∀{H':Hp},(∀b∈fp,H' b=none)->∀b∈fp,rS Y pins H' b:=λhn b hb=>⟨hn b hb,(f2' b hb).2⟩
 have loop:∀s3:cy,Inv Y pins τ H2 s3->tn 0 s3.heap->codeAny (model Y.prog Y.w) Y.A (.compLoop (lc2 elt t1 i1 f1 t2 i2 f2 scope pos) 1 (.ref it) (.ref D) Y.env)
   (λr s'=>match r with|.ok f=>wpAny (model Y.prog Y.w) Y.A (pure ()) (λ_ s'=>∃τ' H',Inv Y pins τ' H' s'/\N τ' H') (λ_ _=>False) s'|.error e=>cameBackBy (model Y.prog Y.w) Y.A Y.env (λ_ _=>False) e s') s3:=by
  intro s3 I3 st3;refine m4 (λn s'=>∃i τ' H',Inv Y pins τ' H' s'/\tn i s'.heap/\(∀b∈fp,H' b=none)/\W i n τ' H') ?_ m0 ⟨0,τ,H2,I3,st3,λb hb=>(f2' b hb).1,w0⟩;rintro n s5 ⟨i,τ5,H5,I5,st5,fr5,w5⟩
  rcases turn i n τ5 H5 w5 with ⟨stop,qn⟩|⟨go,step⟩
  .refine thn (T.done Y rfl rfl rfl hc i pins s5 τ5 H5 (λ_ _=>False) I5 (stat fr5) st5 stop) λr s6 ⟨hr,I6⟩=>?_;subst hr;exact h_ ⟨τ5,H5,I6,qn⟩
  .refine thn (T.item Y rfl rfl rfl hc i pins s5 τ5 H5 (λ_ _=>False) I5 (stat fr5) st5 go) λr s6 ⟨u,hr,h6⟩=>?_;subst hr;refine thn h6 λ_ s7 ⟨x,H7,I7,r7,y7,st7,fr7⟩=>?_;have I7':=I7.pinned (stat fr7) (T.obj _ _ st7)
   have again:∀{s8:cy}{τ8:St}{H8:Hp},Inv Y (pins++k7 fp s7.heap) τ8 H8 s8->(∃m',m'<n/\W (i+1) m' τ8 H8) ->
     ∃m,m<n/\∃i τ' H',Inv Y pins τ' H' s8/\tn i s8.heap/\(∀b∈fp,H' b=none)/\W i m τ' H':=λ{s8 τ8 H8} I8 ⟨m',hm,w8⟩=>by
    refine⟨m',hm,i+1,τ8,H8,I8.unpinned,T.keep _ _ _ st7 λb hb o e=>(I8.pin (b,o) (oe _ (oe _ (cH hb e)))).1,λb hb=>?_,w8⟩;obtain⟨o,e,d⟩:=T.obj _ _ st7 b hb;exact (I8.pin (b,o) (oe _ (oe _ (cH hb e)))).2.1
   have h8:=hg _ s7 τ5 H7 x u _ I7' r7 (step x H7 y7);rw [hx] at h8;refine thn h8 λ_ s8 ⟨τ8,H8,I8,q8⟩=>?_;have h9:=ht _ s8 τ8 H8 _ I8 q8;rw [hx] at h9;refine thn h9 λokb s9 ⟨H9,I9,q9⟩=>?_
   cases okb with
   | false =>
    rw [if_neg j_] at q9;rw [if_neg j_];exact again I9 q9
   | true =>
    rw [if_pos rfl] at q9;rw [if_pos rfl];exact thn (hb _ s9 τ8 H9 _ I9 q9) λ_ s10 ⟨τ10,H10,I10,q10⟩=>again I10 q10
 exact jg (loop _ I2 st2) (T.self Y.A 0 _ _ _ st2 (loop _ I2 st2))
end
variable {elt t1 i1 t2 i2:Expr}{f1 f2:List Expr}{N':List Str}{wi:TI}{g:TG}{tts:TT}{tb:Addr->TB}{pins:List (Addr×Obj)}{σ:St}
def vA{use:Option (Value->Sem Unit)}{Qf:Value->cy->Prop}{p':Pos}{Q:VK}(hc:X.calm=true)(ok:ua X.env X.N scope N' ix)(hi:PI X t1 i1 wi)(blk:∀s H fp pn D,PG (a6 X N' scope s H fp pn) t1 g/\PIf (a6 X N' scope s H fp pn) f1 tts/\PB (a6 X N' scope s H fp pn) (vv (lc2 elt t1 i1 f1 t2 i2 f2 scope pos) i2 (.ref D) (oO scope s.heap.objs.size X.env)) (tb D))(hs:∀x,foldedSetIterable i1 X.env x=pure x)(I:Inv X pins σ H s)(hw:xB ix wi g tts tb σ H Q)(fin:∀D C H' s',Inv X pins σ H' s'->Q (.ref D) H'->(∃m,s'.heap.Ns C m)->H' C=none->X.s₀.heap.objs.size<=C->C≠X.env.locals->(∀x c,X.env.cells.lookup x=some c->c≠C)->C∉X.fs->(∀p∈X.pn++pins,p.1≠C) ->
   compPost (model X.prog X.w) X.A X.xe use Qf (.ref D) C (.ok .next) s'):
  wpAny (model X.prog X.w) X.A (comprehension (lc2 elt t1 i1 f1 t2 i2 f2 scope pos) scope X.env p' (newList []) false (eval i1 X.env) use) Qf X.xe s:=by
 have hclos:closureFor scope X.env=pure (iB X.env scope.names []):=f9 λy hy e=>I.ok.has y.1 (ok.free y hy e).1;refine wpAny_comprehension_free (use:=use) rfl hs hclos ok.kind ok.loc (thn (hi pins s σ H _ I hw) λv s1 h1=>thn h1 λitv s2 h2=>?_);obtain⟨it,fp,tn,J,H2,e,I2,T,st2,fq2,hW⟩:=h2;subst e;obtain⟨W,⟨m0,w0⟩,turn⟩:=hW s2.heap.objs.size (I2.hok.fresh (f_ _))
 have hfl:∀b∈fp,b<s2.heap.objs.size:=λb hb=>by
  obtain⟨o,e,_⟩:=T.obj 0 _ st2 b hb;exact l_ e
 refine JI ?_
 have I3:Inv X pins σ (upd H2 s2.heap.objs.size (.lst [])) { s2 with heap:=s2.heap.push { cls:=.type "list",dict:=none,data:=.seq ([]:List Value).toArray } } :=
  I2.laid (t':=s2.toks) (λb o e=>d_ _ e) (f_ _) (show bB X.prog X.w _ _ _ (.lst []) from ⟨Lo _,[],0,.nil,kx _ rfl⟩)
 have st3:tn 0 (s2.heap.push { cls:=.type "list",dict:=none,data:=.seq ([]:List Value).toArray }):=T.keep 0 _ _ st2 λb _ o e=>d_ _ e;have f3:∀b∈fp,rS X pins (upd H2 s2.heap.objs.size (.lst [])) b:=λb hb=>⟨by rw [ar (I_ (hfl b hb))];exact (fq2 b hb).1,(fq2 b hb).2⟩
 have hfl3:∀b∈fp,b<(s2.heap.push { cls:=.type "list",dict:=none,data:=.seq ([]:List Value).toArray }).objs.size:=λb hb=>by rw [JO];exact K4 (hfl b hb)
 generalize hs3:({ s2 with heap:=s2.heap.push { cls:=.type "list",dict:=none,data:=.seq ([]:List Value).toArray } }:cy)=s3 at I3 ⊢;have eh3:s3.heap=s2.heap.push { cls:=.type "list",dict:=none,data:=.seq ([]:List Value).toArray }:=by rw [<- hs3]
 rw [<- eh3] at st3 hfl3;generalize hH3:upd H2 s2.heap.objs.size (.lst [])=H3 at I3 f3 w0;generalize hD:s2.heap.objs.size=D at *;refine dN ?_;have I4:=uc ok I3 f3 hfl3;obtain⟨hg,ht,he⟩:=blk s3 H3 fp pins D;have st4:tn 0 (pushCells (s3.heap.push { cls:=.type "dict",data:=.dict #[] }) scope.names):=T.keep 0 _ _ st3 λb _ o e=>LW _ _ b o (d_ _ e)
 have stat:∀{H':Hp},(∀b∈fp,H' b=none)->∀b∈fp,rS (a6 X N' scope s3 H3 fp pins) [] H' b:=λhn b hb=>by
  refine⟨hn b hb,I_ (hfl3 b hb),I4.ok.exfs b hb,.inl hb,(I4.ok.exf b hb).2,λp hp=>?_⟩;have hp':p∈X.pn++pins:=by simpa [a6] using hp
  exact (fq2 b hb).2.2.2.2.2 p hp'
 have loop:∀(s4:cy),Inv (a6 X N' scope s3 H3 fp pins) [] (qj ix σ) H3 s4->tn 0 s4.heap ->
   codeAny (model X.prog X.w) X.A (.compLoop (lc2 elt t1 i1 f1 t2 i2 f2 scope pos) 0 (.ref it) (.ref D) (oO scope s3.heap.objs.size X.env)) (compPost (model X.prog X.w) X.A X.xe use Qf (.ref D) s3.heap.objs.size) s4:=by
  intro s4 I4 st4;refine m3 (λn s'=>∃i τ H',Inv (a6 X N' scope s3 H3 fp pins) [] τ H' s'/\tn i s'.heap/\(∀b∈fp,H' b=none)/\W i n τ H') ?_ m0 ⟨0,_,H3,I4,st4,λb hb=>(f3 b hb).1,w0⟩;rintro n s5 ⟨i,τ,H5,I5,st5,fr5,w5⟩
  rcases turn i n τ H5 w5 with ⟨stop,qn⟩|⟨go,step⟩
  .refine thn (T.done (a6 X N' scope s3 H3 fp pins) rfl rfl rfl hc i [] s5 τ H5 (λ_ _=>False) I5 (stat fr5) st5 stop) λr s6 ⟨hr,I6⟩=>?_;subst hr;have I7:Inv X pins σ H5 s6:=I3.call' (ch:=fp) I6.os I6.base I6.hok I6.bare λb hb=>⟨(fq2 b hb).2.2.2.1,(fq2 b hb).2.1,(fq2 b hb).2.2.2.2.1,(fq2 b hb).2.2.2.2.2⟩
   obtain⟨m6,hn6,_⟩:=I6.loc
   refine fin D s3.heap.objs.size H5 s6 I7 qn ⟨m6,hn6⟩ I6.free ?_ ?_ ?_ ?_ ?_
   .exact I3.sz
   .exact Mw I3.lt
   .intro x c e z;obtain⟨v,q⟩:=I3.cell x c e;have:=q.lt;rw [z] at this;exact E_ _ this
   .exact I3.nofs (f_ _)
   .intro p hp z;have:=l_ (I3.pin p hp).1;rw [z] at this;exact E_ _ this
  .refine thn (T.item (a6 X N' scope s3 H3 fp pins) rfl rfl rfl hc i [] s5 τ H5 (λ_ _=>False) I5 (stat fr5) st5 go) λr s6 ⟨u,hr,h6⟩=>?_;subst hr;refine thn h6 λ_ s7 ⟨x,H7,I7,r7,y7,st7,fr7⟩=>?_;have I7':=I7.pinned (stat fr7) (T.obj _ _ st7)
   have again:∀{s8:cy}{τ8:St}{H8:Hp},Inv (a6 X N' scope s3 H3 fp pins) ([]++k7 fp s7.heap) τ8 H8 s8->(∃m',m'<n/\W (i+1) m' τ8 H8) ->
     ∃m,m<n/\∃i τ H',Inv (a6 X N' scope s3 H3 fp pins) [] τ H' s8/\tn i s8.heap/\(∀b∈fp,H' b=none)/\W i m τ H':=λ{s8 τ8 H8} I8 ⟨m',hm,w8⟩=>by
    refine⟨m',hm,i+1,τ8,H8,I8.unpinned,T.keep _ _ _ st7 λb hb o e=>(I8.pin (b,o) (oe _ (oe _ (cH hb e)))).1,λb hb=>?_,w8⟩;obtain⟨o,e,d⟩:=T.obj _ _ st7 b hb;exact (I8.pin (b,o) (oe _ (oe _ (cH hb e)))).2.1
   refine thn (hg _ s7 τ H7 x u _ I7' r7 (step x H7 y7)) λ_ s8 ⟨τ8,H8,I8,q8⟩=>?_;refine thn (ht _ s8 τ8 H8 _ I8 q8) λokb s9 ⟨H9,I9,q9⟩=>?_
   cases okb with
   | false =>
    rw [if_neg j_] at q9;rw [if_neg j_];exact again I9 q9
   | true =>
    rw [if_pos rfl] at q9;rw [if_pos rfl];refine thn (he _ s9 τ8 H9 _ I9 q9) λ_ s10 ⟨τ10,H10,I10,q10⟩=>?_;exact again I10 q10
 exact codeAny_compStart_list (loop _ I4 st4) (T.self X.A 0 _ _ _ st4 (loop _ I4 st4))
variable {te:TE}
def ut{wi2:TI}{g2:TG}{tts2:TT}(N':List Str)(ix:List (Option Nat))(hc:X.calm=true)(hi:PI X t1 i1 wi)(blk:∀s H fp pn,PG (a6 X N' scope s H fp pn) t1 g/\PIf (a6 X N' scope s H fp pn) f1 tts/\PI (a6 X N' scope s H fp pn) t2 i2 wi2/\PG (a6 X N' scope s H fp pn) t2 g2/\PIf (a6 X N' scope s H fp pn) f2 tts2/\PE (a6 X N' scope s H fp pn) elt te)(chk:lu X.env.scope X.N scope N' ix=true)(hs:∀x,foldedSetIterable i1 X.env x=pure x:=by intro _;rfl)(hs2:∀(env:Env) x,foldedSetIterable i2 env x=pure x:=by intro _ _;rfl):
  PE X (.ListComp elt [⟨t1,i1,f1,0⟩,⟨t2,i2,f2,0⟩] scope pos) (xB ix wi g tts λD=>CI wi2 g2 tts2 (CH te D)):=by
 intro pins s σ H Q I hw;rw [eval_ListComp]
 refine vA (use:=none) hc (lv chk) hi (λs H fp pn D=>?_) hs I hw λD C H' s' I' q hm hn h1 h2 h3 h4 h5=>?_
 .obtain⟨b1,b2,b3,b4,b5,b6⟩:=blk s H fp pn;exact⟨b1,b2,CK (Y:=a6 X N' scope s H fp pn) rfl hc b3 b4 b5 (CJ rfl b6) (hs2 _)⟩
 .obtain⟨m,hm⟩:=hm;refine⟨m,hm,λh' sb=>⟨.ref D,H',?_,rfl,q⟩⟩;exact I'.turned (t':=s'.toks) (λb o hb e=>(sb.2 b hb).trans e) hn h2 (.inr h1) h3 h5
variable {H1:Hp}
def kpt{O1 O2:Addr->Prop}{H2:Hp}(a:aB O H O1 H1)(b:aB O1 H1 O2 H2):aB O H O2 H2:=λc o n e=>b c o (a c o n e).1 (a c o n e).2
structure Fo (ix:List (Option Nat)) (ρ1:PSt) (n:Nat) (it:Nat->D) (g:PTG) (pt:PTT) (pi2:PTI) (g2:PTG) (pt2:PTT) (pe:PTE) (Q:PKt):Prop where
 ex:∃I:Nat->List D->PSt->Prop,I 0 [] (bC ix ρ1) /\
  (∀k ys τ d,k<n->d=it k->I k ys τ->g (.dat d) τ λτ2=>pt τ2 λok τ3=>h7 ok (pi2 τ3 λn2 it2 τ4=>∃I2:Nat->List D->PSt->Prop,I2 0 ys τ4 /\
   (∀j zs τ d,j<n2->d=it2 j->I2 j zs τ->g2 (.dat d) τ λτ5=>pt2 τ5 λok τ6=>h7 ok (pe τ6 λp τ7=>zs.length<1000000/\I2 (j+1) (zs++[p.d]) τ7) (I2 (j+1) zs τ6))/\∀zs τ,I2 n2 zs τ->I (k+1) zs τ) (I (k+1) ys τ3)) /\
  ∀ys τ,I n ys τ->Q (.own ys) (dB ix ρ1 τ)
noncomputable def Fp(ix:List (Option Nat))(pi:PTI)(g:PTG)(pt:PTT)(pi2:PTI)(g2:PTG)(pt2:PTT)(pe:PTE):PTE:=λρ Q=>pi ρ λn it ρ1=>EU ix ρ1=true/\Fo ix ρ1 n it g pt pi2 g2 pt2 pe Q
def uu{wi2:TI}{pi pi2:PTI}{g2:TG}{pg pg2:PTG}{tts2:TT}{pt pt2:PTT}(hix:zH ix=true)(hi:LI K wi pi)(hg:∀fs:List Nat,(∀k∈fs,k∈xp ix)->LGd K fs g pg)(ht:LT K tts pt)(hi2:LI K wi2 pi2)(hg2:∀fs:List Nat,(∀k∈fs,k∈xp ix)->LGd K fs g2 pg2)(ht2:LT K tts2 pt2)(he:LE K te pe):
  LE K (xB ix wi g tts λD=>CI wi2 g2 tts2 (CH te D)) (Fp ix pi pg pt pi2 pg2 pt2 pe):=λA ρ σ H Q Q' R q k=>hi A ρ σ H _ _ R q λJ H1 n it ρ1 q1 f1 R1 W D hD=>by
 obtain⟨hcap,⟨I,i0,turn,after⟩⟩:=q1
 let τρ0:=bC ix ρ1
 let τσ0:=qj ix σ
 let Ai:Addr->Prop:=λb=>A b\/b=D\/(Wr ρ1 σ b/\¬ Wr τρ0 τσ0 b)
 let H0':=upd H1 D (.lst [])
 have wsub:∀b,Wr τρ0 τσ0 b->Wr ρ1 σ b:=λb ⟨m,p,e,o,s⟩=>by
  obtain⟨j,h1,h2⟩:=cq e;obtain⟨v,hv,_⟩:=R1.get j p h2;have:=cv h1 hv;rw [s] at this;cases this;exact⟨j,p,h2,o,hv⟩
 have nD:¬ Wr ρ1 σ D:=λz=>R1.wr z hD
 have oosub:∀b,OO Ai τρ0 τσ0 b->OO A ρ1 σ b\/b=D:=λb z=>by
  rcases z with (z|z|z)|z
  .exact .inl (.inl z)
  .exact .inr z
  .exact .inl (.inr z.1)
  .exact .inl (.inr (wsub b z))
 have kD:aB (OO A ρ1 σ) H1 (OO Ai τρ0 τσ0) H0':=λb o nn e=>by
  refine⟨λz=>?_,?_⟩
  .rcases oosub b z with z|z
   .exact nn z
   .rw [z,hD] at e;cases e
  .rw [show H0' b=H1 b from ar (aP e hD)];exact e
 have Ri:Rel K Ai τρ0 τσ0 H0':=by
  refine⟨by show (bC ix ρ1).length=(qj ix σ).length;unfold bC qj;rw [length_map,length_map],λm p e=>?_,λm l p q v e1 e2 o1 o2 s1 s2=>?_,λb z=>?_,λb z w=>?_⟩
  .obtain⟨j,h1,h2⟩:=cq e;obtain⟨v,hv,r⟩:=R1.get j p h2;refine⟨v,cv h1 hv,r.keeps kD λow a ea=>?_⟩;subst ea;exact ar (λz=>nD (by rw [<- z];exact⟨j,p,h2,ow,hv⟩))
  .obtain⟨j,h1,h2⟩:=cq e1;obtain⟨j',h3,h4⟩:=cq e2;obtain⟨v1,hv1,_⟩:=R1.get j p h2;obtain⟨v2,hv2,_⟩:=R1.get j' q h4;have t1:=cv h1 hv1;have t2:=cv h3 hv2;rw [s1] at t1;rw [s2] at t2;cases t1;cases t2;have:=R1.dj j j' p q _ h2 h4 o1 o2 hv1 hv2;subst this;exact je hix h1 h3
  .rcases z with z|z|z
   .intro e
    by_cases zz:b=D
    .exact R1.dom b z (by rw [zz];exact hD)
    .rw [show H0' b=H1 b from ar zz] at e;exact R1.dom b z e
   .rw [z];show upd H1 D _ D≠none;rw [aC];exact nofun
   .intro e;rw [show H0' b=H1 b from ar (λzz=>nD (by rw [<- zz];exact z.1))] at e;exact R1.wr z.1 e
  .rcases z with z|z|z
   .exact R1.sep b z (wsub b w)
   .rw [z] at w;exact nD (wsub D w)
   .exact z.2 w
 let fxi:List (Nat×V):=(xp ix).filterMap λm=>match (τσ0[m]?) with|some (some v)=>some (m,v)|_=>none
 have hfx:∀p∈fxi,τσ0[p.1]?=some (some p.2):=λp hp=>by
  obtain⟨m,hm,e⟩:=Kp.mp hp
  split at e
  .rename_i v ev;cases e;exact ev
  .cases e
 have hfs:∀m∈fxi.map tj,m∈xp ix:=λm hm=>by
  obtain⟨p,hp,rfl⟩:=JA.mp hm;obtain⟨m',hm',e⟩:=Kp.mp hp
  split at e
  .cases e;exact hm'
  .cases e
 have hgi:=hg (fxi.map tj) hfs;have hgi2:=hg2 (fxi.map tj) hfs
 have fxget:∀(m j:Nat) (v:V),ix[m]?=some (some j)->σ[j]?=some (some v)->(m,v)∈fxi:=λm j v h1 h2=>by
  refine Kp.mpr ⟨m,?_,?_⟩
  .unfold xp;refine JC.mpr ⟨JB.mpr (i_.mp h1).1,?_⟩;rw [e_,h1];rfl
  .show (match (qj ix σ)[m]? with|some (some v)=>some (m,v)|_=>none)=_;rw [cv h1 h2]
 let Rr:Addr->Prop:=λb=>Wr τρ0 τσ0 b\/b=D
 have hRr:∀b,Rr b->OO Ai τρ0 τσ0 b:=λb z=>z.elim (λz=>.inr z) (λz=>.inl (.inr (.inl z)));have F0:dO fxi Rr H0' τρ0 τσ0 H0':=⟨λ_ _ _ h=>h,λ_ h=>h,λb w=>.inl (.inl w),hfx⟩
 refine⟨λi m τ H2=>i+m=n/\∃ys τρ xs,I i ys τρ/\Rel K Ai τρ τ H2/\dO fxi Rr H0' τρ τ H2/\H2 D=some (.lst xs)/\FVs K (OO Ai τρ τ) H2 xs ys/\∀b,Wr τρ τ b->Wr τρ0 τσ0 b,
  ⟨n,MN n,[],τρ0,[],i0,Ri,F0,aC,.nil,λ_ h=>h⟩,λi m τ H2 ⟨him,ys,τρ,xs,iv,r2,F2,eD,fD,hw⟩=>?_⟩
 have kk:aB (OO A ρ1 σ) H1 (OO Ai τρ τ) H2:=λb o nn e=>(F2.keepsR hRr) b o (kD b o nn e).1 (kD b o nn e).2;obtain⟨go,stop⟩:=W _ H2 kk r2.dom2
 by_cases hk:i<n
 .obtain⟨g1,g2⟩:=go i hk;refine .inr ⟨g1,λx H3 y=>?_⟩;obtain⟨gr,fv⟩:=g2 x H3 y;have AiD:Ai D:=.inr (.inl rfl);refine hgi fxi Ai Rr H0' τρ τ H3 _ x _ _ rfl (F2.fr gr.fr) (r2.gr gr) fv (turn i ys τρ _ hk rfl iv) λτρ2 τ2 q2 r3 F3 w3=>?_;refine ht Ai τρ2 τ2 H3 _ _ r3 q2 λok H5 τρ3 q3 f5 r5=>?_;have F5:=F3.fr f5;have fD5:FVs K (OO Ai τρ3 τ2) H5 xs ys:=((fD.keeps (gr.fr (ρ:=τρ) (σ:=τ)).keeps).keeps (aB.less λb z=>z.imp id (w3 b))).keeps f5.keeps
  have eD5:H5 D=some (.lst xs):=f5.kp D _ (r3.sep D AiD) (gr D _ eD)
  cases ok with
  | true =>
   refine hi2 Ai τρ3 τ2 H5 _ _ r5 q3 λJ2 H6 n2 it2 τρ4 q4 f6 r6 W2=>?_;obtain⟨I2,j0,turn2,after2⟩:=q4;have F6:=F5.fr f6;have eD6:H6 D=some (.lst xs):=f6.kp D _ (r5.sep D AiD) eD5;have fD6:=fD5.keeps (f6.keeps (A:=Ai));have hw6:∀b,Wr τρ4 τ2 b->Wr τρ0 τσ0 b:=λb z=>hw b (w3 b (f5.ow b (f6.ow b z)))
   refine⟨λj l τ' H'=>j+l=n2/\∃zs τρ' xs',I2 j zs τρ'/\Rel K Ai τρ' τ' H'/\dO fxi Rr H0' τρ' τ' H'/\H' D=some (.lst xs')/\FVs K (OO Ai τρ' τ') H' xs' zs/\(∀b,Wr τρ' τ' b->Wr τρ0 τσ0 b)/\aB (OO Ai τρ4 τ2) H6 (OO Ai τρ' τ') H',
    ⟨n2,MN n2,ys,τρ4,xs,j0,r6,F6,eD6,fD6,hw6,λb o n e=>⟨n,e⟩⟩,λj l τ' H7 ⟨hjl,zs,τρ',xs',jv,r7,F7,eD7,fD7,hw7,kk7⟩=>?_⟩
   obtain⟨go2,stop2⟩:=W2 _ H7 kk7 r7.dom2
   by_cases hj:j<n2
   .obtain⟨g1',g2'⟩:=go2 j hj;refine .inr ⟨g1',λy H8 yy=>?_⟩;obtain⟨gr8,fv8⟩:=g2' y H8 yy;refine hgi2 fxi Ai Rr H0' τρ' τ' H8 _ y _ _ rfl (F7.fr gr8.fr) (r7.gr gr8) fv8 (turn2 j zs τρ' _ hj rfl jv) λτρ9 τ9 q9 r9 F9 w9=>?_;refine ht2 Ai τρ9 τ9 H8 _ _ r9 q9 λok2 H10 τρ10 q10 f10 r10=>?_;have F10:=F9.fr f10;have k1:=(gr8.fr (ρ:=τρ') (σ:=τ')).keeps (A:=Ai);have k2:aB (OO Ai τρ' τ') H8 (OO Ai τρ9 τ9) H8:=aB.less λb z=>z.imp id (w9 b)
    have k3:=f10.keeps (A:=Ai);have fD10:FVs K (OO Ai τρ10 τ9) H10 xs' zs:=fD7.keeps (kpt k1 (kpt k2 k3));have eD10:H10 D=some (.lst xs'):=f10.kp D _ (r9.sep D AiD) (gr8 D _ eD7)
    cases ok2 with
    | true =>
     refine he Ai τρ10 τ9 H10 _ _ r10 q10 λv H11 p τρ11 q11 f11 o11=>?_;obtain⟨r11,fv11⟩:=o11.frz;have F11:=F10.fr f11;have eD11:H11 D=some (.lst xs'):=f11.kp D _ (r10.sep D AiD) eD10;have kw:aB (OO Ai τρ11 τ9) H11 (OO Ai τρ11 τ9) (upd H11 D (.lst (xs'++[v]))):=λb o nn e=>⟨nn,by rw [ar (λz=>nn (by rw [z];exact .inl AiD))];exact e⟩
     refine⟨xs',eD11,?_,l - 1,by omega,by omega,zs++[p.d],τρ11,xs'++[v],q11.2,r11.amb AiD,⟨λb o nn e=>?_,λb z=>?_,F11.ow,F11.fx⟩,aC,((fD10.keeps f11.keeps).append (.cons fv11 .nil)).keeps kw,λb z=>hw7 b (w9 b (f10.ow b (f11.ow b z))),kpt kk7 (kpt k1 (kpt k2 (kpt k3 (kpt f11.keeps kw))))⟩
     .have:xs'.length=zs.length:=fD10.length;have:=q11.1;exact t_ (by omega:xs'.length<1000000) (sz _ (f_ _))
     .rw [ar (λz=>nn (.inr z))];exact F11.kp b o nn e
     .by_cases zz:b=D
      .rw [zz,aC];exact nofun
      .rw [ar zz];exact F11.dm b z
    | false=>exact⟨l - 1,by omega,by omega,zs,τρ10,xs',q10,r10,F10,eD10,fD10,λb z=>hw7 b (w9 b (f10.ow b z)),kpt kk7 (kpt k1 (kpt k2 k3))⟩
   .have e:j=n2:=by omega
    subst e;exact .inl ⟨stop2,m - 1,by omega,by omega,zs,τρ',xs',after2 zs τρ' jv,r7,F7,eD7,fD7,hw7⟩
  | false=>exact⟨m - 1,by omega,by omega,ys,τρ3,xs,q3,r5,F5,eD5,fD5,λb z=>hw b (w3 b (f5.ow b z))⟩
 .have e:i=n:=by omega
  subst e;refine .inl ⟨stop,?_⟩;have q':=after ys τρ iv
  have cap:∀(m j:Nat),ix[m]?=some (some j)->∃p v,ρ1[j]?=some (some p)/\σ[j]?=some (some v)/\τ[m]?=some (some v):=λm j e=>by
   have h1:=KJ.mp hcap _ (B_ e);have h1:(match ρ1[j]? with|some (some _)=>true|_=>false)=true:=h1
   split at h1
   .rename_i p ep;obtain⟨v,hv,_⟩:=R1.get j p ep;exact⟨p,v,ep,hv,F2.fx _ (fxget m j v e hv)⟩
   .cases h1
  have get':∀(j:Nat) (p:PV),(dB ix ρ1 τρ)[j]?=some (some p)->(∃m v,ix[m]?=some (some j)/\σ[j]?=some (some v)/\τ[m]?=some (some v)/\τρ[m]?=some (some p))\/(some j∉ix/\ρ1[j]?=some (some p)):=λj p e=>by
   by_cases hj:some j∈ix
   .obtain⟨m,hm,em⟩:=LB hj;have em':ix[m]?=some (some j):=by rw [cx hm,em]
    obtain⟨p0,v,h1,h2,h3⟩:=cap m j em';rw [lK ix ρ1 τρ j m hix em' (by rw [r2.len];exact (i_.mp h3).1) (i_.mp h1).1] at e;exact .inl ⟨m,v,em',h2,h3,e⟩
   .rw [gX ix ρ1 τρ j hj] at e;exact .inr ⟨hj,e⟩
  have nocap:∀(j:Nat) (p:PV) (b:Addr),some j∉ix->ρ1[j]?=some (some p)->p.isOwn=true->σ[j]?=some (some (.ref b))->¬ Wr τρ0 τσ0 b:=λj p b hj e o s ⟨m,q,e1,o1,s1⟩=>by
   obtain⟨j',h1,h2⟩:=cq e1;obtain⟨v,hv,_⟩:=R1.get j' q h2;have:=cv h1 hv;rw [s1] at this;cases this;have:=R1.dj j j' p q _ e h2 o o1 s hv;subst this;exact hj (B_ h1)
  have w':∀b,Wr (dB ix ρ1 τρ) σ b->Wr τρ τ b\/(Wr ρ1 σ b/\¬ Wr τρ0 τσ0 b):=λb ⟨j,p,e,o,s⟩=>by
   rcases get' j p e with ⟨m,v,h1,h2,h3,h4⟩|⟨hj,h1⟩
   .rw [s] at h2;cases h2;exact .inl ⟨m,p,h4,o,h3⟩
   .exact .inr ⟨⟨j,p,h1,o,s⟩,nocap j p b hj h1 o s⟩
  have oo':∀b,OO (cB A D) (dB ix ρ1 τρ) σ b->OO Ai τρ τ b:=λb z=>by
   rcases z with (z|z)|z
   .exact .inl (.inl z)
   .exact .inl (.inr (.inl z))
   .rcases w' b z with z|z
    .exact .inr z
    .exact .inl (.inr (.inr z))
  have kp1:∀b o,¬ Wr τρ0 τσ0 b->b≠D->H1 b=some o->H2 b=some o:=λb o n1 n2 e=>F2.kp b o (λz=>z.elim n1 n2) (by rw [show H0' b=H1 b from ar n2];exact e);have k1:aB (OO A ρ1 σ) H1 (OO (cB A D) (dB ix ρ1 τρ) σ) H2:=λb o nn e=>⟨λz=>(kk b o nn e).1 (oo' b z),(kk b o nn e).2⟩
  have AiD:Ai D:=.inr (.inl rfl)
  have R':Rel K (cB A D) (dB ix ρ1 τρ) σ H2:=by
   refine⟨by rw [jd];exact R1.len,λj p e=>?_,λj l p q v e1 e2 o1 o2 s1 s2=>?_,λb z=>?_,λb z w=>?_⟩
   .rcases get' j p e with ⟨m,v,h1,h2,h3,h4⟩|⟨hj,h1⟩
    .obtain⟨v',hv',r⟩:=r2.get m p h4;rw [h3] at hv';cases hv';exact⟨v,h2,r.keeps (aB.less oo') λ_ _ _=>rfl⟩
    .obtain⟨v,hv,r⟩:=R1.get j p h1;refine⟨v,hv,r.keeps k1 λow a ea=>?_⟩;subst ea;obtain⟨a',u,e1,e2⟩:=r.ref ow;cases e1;rw [e2];exact kp1 a u (nocap j p a hj h1 ow hv) (λz=>by rw [z,hD] at e2;cases e2) e2
   .rcases get' j p e1 with ⟨m,v1,h1,h2,h3,h4⟩|⟨hj,h1⟩
    .rw [s1] at h2;cases h2
     rcases get' l q e2 with ⟨m',v2,g1,g2,g3,g4⟩|⟨hl,g1⟩
     .rw [s2] at g2;cases g2;have:=r2.dj m m' p q _ h4 g4 o1 o2 h3 g3;subst this;rw [h1] at g1;cases g1;rfl
     .exfalso;obtain⟨v',hv',r⟩:=r2.get m p h4;rw [h3] at hv';cases hv';obtain⟨a,u,ea,_⟩:=r.ref o1;subst ea;exact nocap l q a hl g1 o2 s2 (hw a ⟨m,p,h4,o1,h3⟩)
    .rcases get' l q e2 with ⟨m',v2,g1,g2,g3,g4⟩|⟨hl,g1⟩
     .rw [s2] at g2;cases g2;exfalso;obtain⟨v',hv',r⟩:=r2.get m' q g4;rw [g3] at hv';cases hv';obtain⟨a,u,ea,_⟩:=r.ref o2;subst ea;exact nocap j p a hj h1 o1 s1 (hw a ⟨m',q,g4,o2,g3⟩)
     .exact R1.dj j l p q v h1 g1 o1 o2 s1 s2
   .rcases z with z|z
    .exact r2.dom b (.inl z)
    .rw [z,eD];exact nofun
   .rcases w' b w with w|w
    .rcases z with z|z
     .exact r2.sep b (.inl z) w
     .rw [z] at w;exact r2.sep D AiD w
    .rcases z with z|z
     .exact R1.sep b z w.1
     .rw [z] at w;exact nD w.1
  have f2:Fr ρ1 σ H1 (dB ix ρ1 τρ) H2:=by
   refine⟨λb o nn e=>kp1 b o (λz=>nn (wsub b z)) (λz=>by rw [z,hD] at e;cases e) e,λb z=>F2.dm b ?_,λb z=>?_⟩
   .intro e
    by_cases zz:b=D
    .exact z (by rw [zz];exact hD)
    .rw [show H0' b=H1 b from ar zz] at e;exact z e
   .rcases w' b z with z|z
    .exact wsub b (hw b z)
    .exact z.1
  have hD0:H D=none:=by
   cases e:H D with
   | none=>rfl
   | some o=>exact absurd hD (f1.dm D (by rw [e];exact nofun))
  exact k _ H2 (.own ys) _ q' (f1.trans f2) ⟨D,xs,rfl,λz=>R1.dom D z hD,hD0,eD,R',fD.keeps (aB.less oo')⟩
noncomputable def insN(xs:List α)(i:Int)(y:α):List α:=xs.take (min i.toNat xs.length)++[y]++xs.drop (min i.toNat xs.length)
noncomputable def xC:V->List V->Hp->VK->Prop:=λx vs H Q=>∃l xs i y,x=.ref l/\vs=[.int i,y]/\H l=some (.lst xs)/\(0<=i/\i<2^62)/\xs.length<sizeLine/\Q .non (upd H l (.lst (insN xs i y)))
def xD:MtM X "list.insert" xC:=by
 intro pins s σ H x vs v us Q I rx rv h;obtain⟨l,xs,i,y,rfl,rfl,hH,hi,hz0,q⟩:=h;cases rx
 cases rv with
 | cons ri rr =>
  cases rr with
  | cons ry rr =>
   cases rr;obtain⟨t,rfl⟩:=ri;rename_i u;obtain⟨z,its,n,r,hl,e⟩:=I.lstM hH;refine Md F.slot_list_insert ⟨_,e,rfl⟩ F.entry_list_insert (F.args_list_insert_3 _ _ _) (AutoSeq1.list_insert_list_int_val_1 l its.toArray n i t u (by rw [fitsIndex_both (by omega) (by omega)];decide) (by rw [size_toArray];omega)) ⟨e,?_⟩
   refine⟨.non,_,I.lset (its':=insN its i u) hH e ?_ ?_ ?_,rfl,q⟩
   .have:¬ i<0:=by omega
    simp only [this,if_false,size_toArray,insN,extract_toArray,push_toArray,append_toArray];congr 1;rw [KI,KI];simp [J3]
   .exact ((r.take _).append (.cons ry .nil)).append (r.drop _) |> λh=>by unfold insN;rw [<- hl];exact h
   .unfold insN;rw [length_append,length_append,length_take,length_drop];show _+1+_<=_;omega
variable {pk:PTE}
noncomputable def xE(i:Nat)(pk pe:PTE):PTE:=λρ Q=>match ρ[i]? with
 | some (some (.own _))=>pk ρ λkp ρ1=>(match kp with
  | .dat (.int j)=>pe ρ1 λp ρ2=>(match ρ2[i]? with
   | some (some (.own ds))=>((0<=j/\j<2^60)/\ds.length<1000000)/\Q (.dat .non) (ρ2.set i (some (.own (insN ds j p.d))))
   | _=>False)
  | _=>False)
 | _=>False
variable {xs:List V}{ds:List D}{y:V}
def FVs.insN{j:Int}{d:D}(f:FVs K O H xs ds)(g:FV K O H y d):FVs K O H (L2.insN xs j y) (L2.insN ds j d):=by
 unfold L2.insN;rw [f.length];exact ((f.take _).append (.cons g .nil)).append (f.drop _)
variable {tk:TE}{i:Nat}
def xF(hk:LE K tk pk)(h:LE K te pe):LE K (tBM K "list" xC (aH i) (aK tk (aK te c6))) (xE i pk pe):=λA ρ σ H Q Q' R q k=>by
 unfold xE at q
 split at q
 .rename_i ds0 e0;obtain⟨a0,xs0,s0,g0,f0⟩:=R.ownAt e0;refine⟨_,s0,.inl ⟨rfl,xs0,SqL.of g0⟩,hk A ρ σ H _ _ R q λv1 H1 p1 ρ1 q1 f1 o1=>?_⟩
  split at q1
  .rename_i j;obtain⟨R1,fv1⟩:=o1;cases fv1;refine h A ρ1 σ H1 _ _ R1 q1 λv H2 p ρ2 q2 f2 o2=>?_;obtain⟨R2,fv⟩:=o2.frz
   split at q2
   .rename_i ds e2;obtain⟨a,xs,s,g,f⟩:=R2.ownAt e2;rw [s0] at s;cases s;obtain⟨R3,f3⟩:=R2.lstw e2 s0 (f.insN (j:=j) fv);exact⟨a0,xs,j,v,rfl,rfl,g,by omega,t_ (by rw [f.length];exact q2.1.2) (sz _ (f_ _)),k _ _ _ _ q2.2 ((f1.trans f2).trans f3) ⟨R3,.non⟩⟩
   .exact q2.elim
  .exact q1.elim
 .exact q.elim
variable {E:Value->cy->Prop}{it t:Addr}{items:Array Value}
theorem qG(hne:t≠it):∀(n i:Nat) (s:cy) (Q:List Value->cy->Prop),s.heap.IsListIter it t i->s.heap.IsList t items->i+n<=items.size ->
  (∀h',h'.IsListIter it t (i+n)->KQ it s.heap h'->Q ((items.toList.drop i).take n) { s with heap:=h' })->wpAny (model prog w) A (draw (.ref it) n) Q E s
 | 0,i,s,Q,hit,_,_,hQ=>by
  show wpAny _ _ (pure []) Q E s;exact h_ (by simpa using hQ s.heap hit (Heap.SameBut.refl ..))
 | n+1,i,s,Q,hit,ht,hle,hQ=>by
  have hlt:i<items.size:=by omega
  show wpAny _ _ (pyNext (.ref it) >>= _) Q E s;refine cn (wpAny_pyNext_list_item hit ht (x:=items[i]) (by simp [hlt]) λh₁ hit₁ hs₁=>?_);refine cn (JF (qG hne n (i+1) _ _ hit₁ (ht.extBut hs₁.extBut hne) (by omega) λh₂ hit₂ hs₂=>h_ ?_));have hd:items.toList.drop i=items[i]::items.toList.drop (i+1):=by simp [drop_eq_getElem_cons,hlt]
  have:=hQ h₂ (by rw [show i+(n+1)=i+1+n by omega];exact hit₂) (hs₁.trans hs₂);rw [hd,take_succ_cons] at this;exact this
def kK{Q:List Value->cy->Prop}(hh:A.handled=none)(ht:s.heap.IsList t items)(hQ:∀h',M5 s.heap.objs.size s.heap h'->Q items.toList { s with heap:=h' }):wpAny (model prog w) A (unpackItems (.ref t) items.size none) Q E s:=by
 have hlt:t≠s.heap.objs.size:=by obtain⟨o,ho,_⟩:=ht;exact I_ (l_ ho)
 unfold unpackItems
 refine cn ?_
 .unfold notIterableAtAll;refine cn (K8 ht.typeIs PySem.F.slot_list_iter.lookup ?_);refine h_ ?_;simp only [false_eq_true,if_false];refine cn (JF (Ko ht ?_));refine cn (JF (qG hlt items.size 0 _ _ ⟨_,kx _ rfl,rfl,rfl⟩ (ht.push _) (by omega) λh₁ hit₁ hs₁=>?_))
  have hall:List.take items.size (List.drop 0 items.toList)=items.toList:=by
   rw [drop_zero];exact J3 (by simp)
  rw [hall];rw [if_neg (by simp)];have ht₁:h₁.IsList t items:=(ht.push _).extBut hs₁.extBut hlt;refine cn (JF (wpAny_pyNext_list_end hh hit₁ ht₁ (by simp) λh₂ he₂=>?_));simp only [Option.isSome_none,false_eq_true,if_false];refine h_ (hQ h₂ λb o hb e=>he₂ b o hb (hs₁.extBut b o hb (d_ _ e)))
def jO{elts:List Expr}{x1}{pos:Pos}{t:Addr}{items:Array Value}{Q:Unit->cy->Prop}(hh:A.handled=none)(ht:s.heap.IsList t items)
  (hn:(assignEach elts env).length=items.size) (hstar:(assignEach elts env).findIdx? (·.1)=none)
  (h:∀h',M5 s.heap.objs.size s.heap h'->wpAny (model prog w) A (assignInOrder ((assignEach elts env).map (·.2)) items.toList) Q E { s with heap:=h' }) :
  wpAny (model prog w) A (assign (.Tuple elts x1 pos) env (.ref t)) Q E s:=by
 rw [assign_Tuple];refine cn (Kc ?_);unfold unpack;rw [hn,hstar];exact cn (JF (kK hh ht h))
noncomputable def CL(K:b_)(n:Nat)(t:TGs):TG:=λv σ H Q=>∃b a xs,v=.ref a/\Sq b K H a xs/\xs.length=n/\t xs σ H Q
variable {es:List Expr}
def ki(K:b_)(eK:X.K=K){k:Nat}{t:TGs}(hc:X.calm=true)(h:PGs X es t)(hn:(assignEach es X.env).length=n:=by rfl)(hst:(assignEach es X.env).findIdx? (·.1)=none:=by rfl):PG X (.Tuple es k pos) (CL K n t):=by
 subst eK;intro pins s σ H v u Q I r hw;obtain⟨b,a,xs,e1,hq,hl,hw⟩:=hw
 cases b with
 | true=>exact DQ hc h hn hst pins s σ H v u Q I r ⟨a,xs,e1,hq,hl,hw⟩
 | false =>
  subst e1;cases r;obtain⟨its,rv,ht,hz⟩:=I.list hq;refine jO (I.ok.hd hc) ht.isList (by simp [hn,<- hl,rv.length]) hst λh' hx=>?_;have I1:Inv X pins σ H { s with heap:=h' }:=I.kept (t':=s.toks) λb o e=>hx b o (I_ (l_ e)) e;exact h pins _ σ H xs _ Q I1 (by simpa using rv) hw
noncomputable def zT(n:Nat)(gs:zF):PTG:=λp ρ Q=>match p with|.dat (.tup ds)=>ds.length=n/\gs ds ρ Q|.dat (.lst ds)=>ds.length=n/\gs ds ρ Q|.own ds=>ds.length=n/\gs ds ρ Q|_=>False
section
variable {fs:List Nat}
def lR{gs:TGs}{pgs:zF}(h:LGs K fs gs pgs):LGd K fs (CL K n gs) (zT n pgs):=λfx A R H0 ρ σ H d v Q Q' hf F r fv q k=>by
 unfold zT at q
 split at q
 .rename_i e;cases e
  cases fv with
  | tup nn e f=>exact⟨true,_,_,rfl,SqT.of e,by rw [f.length];exact q.1,h fx A R H0 ρ σ H _ _ Q Q' hf F r f q.2 k⟩
 .rename_i e;cases e
  cases fv with
  | lst nn e f=>exact⟨false,_,_,rfl,SqL.of e,by rw [f.length];exact q.1,h fx A R H0 ρ σ H _ _ Q Q' hf F r f q.2 k⟩
 .rename_i e;cases e
 .exact q.elim
def xG{gs:TGs}{pgs:zF}(h:LGs K fs gs pgs):LG K fs (CL K n gs) (zT n pgs):=λfx A R H0 ρ σ H p v Q Q' hf F o q k=>by
 unfold zT at q
 split at q
 .obtain⟨r,fv⟩:=o
  cases fv with
  | tup nn e f=>exact⟨true,_,_,rfl,SqT.of e,by rw [f.length];exact q.1,h fx A R H0 ρ σ H _ _ Q Q' hf F r f q.2 λρ' σ' q' r' F' _=>k ρ' σ' H q' r' F'⟩
 .obtain⟨r,fv⟩:=o
  cases fv with
  | lst nn e f=>exact⟨false,_,_,rfl,SqL.of e,by rw [f.length];exact q.1,h fx A R H0 ρ σ H _ _ Q Q' hf F r f q.2 λρ' σ' q' r' F' _=>k ρ' σ' H q' r' F'⟩
 .obtain⟨r,fv⟩:=o.frz
  cases fv with
  | lst nn e f=>exact⟨false,_,_,rfl,SqL.of e,by rw [f.length];exact q.1,h fx A R H0 ρ σ H _ _ Q Q' hf F r f q.2 λρ' σ' q' r' F' _=>k ρ' σ' H q' r' F'⟩
 .exact q.elim
end
noncomputable def sv(d:D)(xs:List D):Prop:=d=.lst xs\/d=.tup xs
def HJ{d:D}{xs:List D}{i:Int}{Q:PV->Prop}(h:sv d xs)(q:∃x,atI xs i=some x/\Q (.dat x)):fIx d (.int i) Q:=by
 rcases h with rfl|rfl <;> exact q
def sv.lst(xs:List D):sv (.lst xs) xs:=.inl rfl
def sv.tup(xs:List D):sv (.tup xs) xs:=.inr rfl
noncomputable def nSt:Expr->Bool
 | .Starred _ _=>false
 | _=>true
variable {e:Expr}
def iK(h:nSt e=true):starEach (e::es) env=(false,eval e env)::starEach es env:=by
 cases e <;> first|rfl|cases h
theorem gY:∀{es:List Expr},es.all nSt=true->(backTo pos (starEach es env)).any (·.1)=false
 | [],_=>rfl
 | e::es,h=>by
  rw [all_cons,and_eq_true] at h;rw [iK h.1];show (false || (backTo pos (starEach es env)).any (·.1))=false;rw [gY h.2];rfl
section
variable {t:TA}
def paC(ha:PE X e te)(hr:PA X es t)(hn:nSt e=true:=by rfl):PA X (e::es) (aK te t):=BP ha hr (iK hn)
variable {k:Nat}{x:Str}{ps:List Str}{sp:Sp}{p:Pos}{C:Addr}
def aw(C:Cal X.prog X.w X.K X.mg X.base k x ps sp)(hr:d8 k X.A)(ha:PA X (e::es) t)(hg:Gl X x:=by rfl)(hdb:(x == ("__debug__":Str))=false:=by decide)(hn:nSt e=true:=by rfl)(hp:es.all nSt=true:=by rfl):
  PE X (.Call (.Name x p) (e::es) [] pos) (dJ sp [] E0 t):=Ep C hr ha hg hdb (iK hn) (gY hp)
variable {dvs:List V}
def zU(j:Nat)(C:Ez X.prog X.w X.K X.mg X.base k x ps dvs sp)(hr:d8 k X.A)(hj:j<=dvs.length)(ha:PA X (e::es) t)(hg:Gl X x:=by rfl)(hdb:(x == ("__debug__":Str))=false:=by decide)(hn:nSt e=true:=by rfl)(hp:es.all nSt=true:=by rfl):
  PE X (.Call (.Name x p) (e::es) [] pos) (dJ sp (dvs.drop j) E0 t):=Ce j C hr hj ha hg hdb (iK hn) (gY hp)
def uv(M:EB X.prog X.w X.K X.mg X.base k C x ps sp)(hr:d8 (k+1) X.A)(ha:PA X (e::es) t)(hg:Gl X x:=by rfl)(hdb:(x == ("__debug__":Str))=false:=by decide)(hn:nSt e=true:=by rfl)(hp:es.all nSt=true:=by rfl):
  PE X (.Call (.Name x p) (e::es) [] pos) (yZ C sp [] E0 t):=Cf M hr ha hg hdb (iK hn) (gY hp)
variable {id:String}{r:List V->Hp->VK->Prop}
def aj(hc:bz X (.builtin id) r)(hg:Gl X x)(hm:X.mg x=none)(hv:bootBuiltins x=some (.builtin id))(ha:PA X (e::es) t)(hnn:x≠"__name__":=by decide)(hdb:(x == ("__debug__":Str))=false:=by decide)(hn:nSt e=true:=by rfl)(hp:es.all nSt=true:=by rfl):
  PE X (.Call (.Name x p) (e::es) [] pos) (tCB r t):=y9 hc hg hm hv ha hnn hdb (iK hn) (gY hp)
variable {T:String}
def aQ(hc:bz X (.type T) r)(hg:Gl X x)(hm:X.mg x=none)(hv:bootBuiltins x=some (.type T))(ha:PA X (e::es) t)(hnn:x≠"__name__":=by decide)(hdb:(x == ("__debug__":Str))=false:=by decide)(hn:nSt e=true:=by rfl)(hp:es.all nSt=true:=by rfl):
  PE X (.Call (.Name x p) (e::es) [] pos) (tCB r t):=wz hc hg hm hv ha hnn hdb (iK hn) (gY hp)
end
noncomputable def plT:Expr->Bool
 | .Call _ _ _ _=>true
 | .Name _ _=>true
 | .Subscript _ _ _=>true
 | .Attribute _ _ _=>true
 | _=>false
def CM(h:plT e=true):∀whole,isTrue e env whole=(do let v <- whole;standAt e.pos;holding [v] (truthy v)):=by
 cases e <;> first|(intro _;rfl)|cases h
def cC{t:TE}(h:PE X e t)(hp:plT e=true:=by rfl):PT X e (tB t):=DL h (CM hp)
noncomputable def gq(a b:List Nat):Bool:=decide (0<=fnd b a 0)
noncomputable def dR(ps:List (List Nat))(i:Nat):Bool:=!decide (pw ps i∈ps.take i) && !(ps.filter λo=>decide ((pw ps i).length<o.length)).any λo=>gq (pw ps i) o
def o8{a b:List Nat}:gq a b=true ↔ ∃k,stA b a k=true:=by
 unfold gq
 constructor
 .intro h;have h0:fnd b a 0≠-1:=λz=>by rw [z] at h;exact absurd (of_decide_eq_true h) (by decide)
  obtain⟨k,_,_,h1,_⟩:=ud h0;exact⟨k,h1⟩
 .rintro⟨k,hk⟩
  by_cases h0:fnd b a 0=-1
  .rw [zp h0 k (Lo _)] at hk;cases hk
  .obtain⟨j,e,_⟩:=ud h0;rw [e];exact decide_eq_true (by omega)
def zV(a:List Nat):gq a a=true:=o8.mpr ⟨0,decide_eq_true ⟨by omega,by rw [drop_zero,KO]⟩⟩
def xH{a b c:List Nat}(h1:gq a b=true)(h2:gq b c=true):gq a c=true:=by
 obtain⟨k1,e1⟩:=o8.mp h1;obtain⟨k2,e2⟩:=o8.mp h2;obtain⟨l1,t1⟩:=of_decide_eq_true e1;obtain⟨l2,t2⟩:=of_decide_eq_true e2;refine o8.mpr ⟨k2+k1,decide_eq_true ⟨by omega,?_⟩⟩
 have hb:b.drop k1=(c.drop (k2+k1)).take (b.length - k1):=by
  rw [<- t2,drop_take,drop_drop,t2]
 have ha:a=((c.drop (k2+k1)).take (b.length - k1)).take a.length:=by rw [<- hb,t1]
 rw [take_take,show min a.length (b.length - k1)=a.length by omega] at ha;exact ha.symm
variable {ps:List (List Nat)}
def zW:dR ps i=true ↔ pw ps i∉ps.take i/\∀o∈ps,(pw ps i).length<o.length->gq (pw ps i) o=false:=by
 unfold dR;rw [and_eq_true,Mt,Mt,decide_eq_false_iff_not,ME]
 constructor
 .rintro⟨h1,h2⟩;refine⟨h1,λo ho hl=>?_⟩;have:=h2 o (JC.mpr ⟨ho,decide_eq_true hl⟩);simpa using this
 .rintro⟨h1,h2⟩;refine⟨h1,λo ho=>?_⟩;obtain⟨m1,m2⟩:=JC.mp ho;rw [h2 o m1 (of_decide_eq_true m2)];decide
def xI(hw:∀w∈ps,w.length<=60):∀(m i:Nat),i<ps.length->(61 - (pw ps i).length)*(ps.length+1)+i<=m->∃j,j<ps.length/\dR ps j=true/\gq (pw ps i) (pw ps j)=true:=by
 intro m
 induction m with
 | zero =>
  intro i hi h;have hl:=hw _ (B_ (gA hi));have:0<(61 - (pw ps i).length)*(ps.length+1):=mul_pos (by omega) (by omega);omega
 | succ m ih =>
  intro i hi h;have hl:=hw _ (B_ (gA hi))
  by_cases hk:dR ps i=true
  .exact⟨i,hi,hk,zV _⟩
  .by_cases h1:pw ps i∈ps.take i
   .obtain⟨i',hi'⟩:=mem_iff_getElem?.mp h1
    have hlt:i'<i:=by
     have:=(i_.mp hi').1;rw [length_take] at this;omega
    have he:pw ps i'=pw ps i:=by
     rw [getElem?_take,if_pos hlt] at hi';have:=gA (ws:=ps) (k:=i') (by omega);rw [hi'] at this;exact (vx this).symm
    obtain⟨j,a1,a2,a3⟩:=ih i' (by omega) (by rw [he];omega);exact⟨j,a1,a2,by rw [<- he];exact a3⟩
   .have h2:∃o∈ps,(pw ps i).length<o.length/\gq (pw ps i) o=true:=by
     apply Km;intro z;refine hk (zW.mpr ⟨h1,λo ho hlo=>?_⟩)
     cases hs:gq (pw ps i) o with
     | false=>rfl
     | true=>exact absurd ⟨o,ho,hlo,hs⟩ z
    obtain⟨o,ho,hlo,hs⟩:=h2;obtain⟨i',hi'⟩:=mem_iff_getElem?.mp ho;have hlt:i'<ps.length:=(i_.mp hi').1
    have he:pw ps i'=o:=by
     have:=gA hlt;rw [hi'] at this;exact (vx this).symm
    have hm:(61 - o.length+1)*(ps.length+1)<=(61 - (pw ps i).length)*(ps.length+1):=LJ _ (by have:=hw o ho;omega);rw [add_mul,one_mul] at hm;obtain⟨j,a1,a2,a3⟩:=ih i' hlt (by rw [he];omega);rw [he] at a3;exact⟨j,a1,a2,xH hs a3⟩
noncomputable def sx(a b:List Nat)(k:Nat):Prop:=k<min a.length b.length/\b.take k <:+ a/\∀j,j<min a.length b.length->b.take j <:+ a->j<=k
variable {j:Nat}
def sx.uniq{a b:List Nat}{k:Nat}(x:sx a b j)(y:sx a b k):j=k:=Nat.le_antisymm (y.2.2 j x.1 x.2.1) (x.2.2 k y.1 y.2.1)
noncomputable def eC(a b:List Nat):Nat:=open Classical in if h:∃k,sx a b k then Classical.choose h else 0
def xJ{a b:List Nat}(ha:0<a.length)(hb:0<b.length):sx a b (eC a b):=by
 obtain⟨k,h1,h2,h3⟩:=lB (λk=>b.take k <:+ a) (by rw [take_zero];exact nil_suffix) (min a.length b.length) (by omega);have h:∃k,sx a b k:=⟨k,h1,h2,h3⟩
 unfold eC;rw [dif_pos h];exact MV h
def sy{a b:List Nat}{k:Nat}(h:sx a b k):eC a b=k:=(xJ (by have:=h.1;omega) (by have:=h.1;omega)).uniq h
noncomputable def bh(ps:List (List Nat)):List Nat:=(c_ ps.length).filter (dR ps)
noncomputable def A7(ps:List (List Nat)):List Nat:=(c_ ps.length).filter λi=>!decide (i∈bh ps)
noncomputable def ap(ps:List (List Nat)):List (List Nat):=(bh ps).map (pw ps)
def jh(h:i∈bh ps):i<ps.length:=JB.mp (JC.mp h).1
def jP(ps:List (List Nat)):(bh ps).length<=ps.length:=F_ (JR ..) (by rw [length_range];omega)
def jQ{m:Nat}(h:Pcs m ps):Pcs m (ap ps):=λw hw=>by
 obtain⟨i,hi,rfl⟩:=JA.mp hw;exact h _ (gB (jh hi))
def n0(ps:List (List Nat)):(ap ps).length<=ps.length:=by unfold ap;rw [length_map];exact jP ps
noncomputable def lS(ps:List (List Nat))(i:Nat):List Nat:=(bh ps).filter λj=>gq (pw ps i) (pw ps j)
noncomputable def uw(ps:List (List Nat))(i:Nat):Nat:=(lS ps i).headD 0
def zX(h:l.Pairwise (·<·)){m:Nat}(hm:m∈l)(hle:∀a∈l,m<=a):l.headD 0=m:=by
 cases l with
 | nil=>cases hm
 | cons x r =>
  show x=m;have h1:=hle x (mem_cons_self ..)
  rcases mem_cons.mp hm with e|e
  .exact e.symm
  .have:=(pairwise_cons.mp h).1 m e;omega
def qH(ps:List (List Nat)):(bh ps).Pairwise (·<·):=pairwise_lt_range.filter _
def xK{m:Nat}(hm:m∈lS ps i)(hle:∀a∈lS ps i,m<=a):uw ps i=m:=zX ((qH ps).filter _) hm hle
def vB(hw:∀w∈ps,w.length<=60)(hi:i<ps.length):∃j,j∈lS ps i:=by
 obtain⟨j,h1,h2,h3⟩:=xI hw _ i hi (f_ _);exact⟨j,JC.mpr ⟨JC.mpr ⟨JB.mpr h1,h2⟩,h3⟩⟩
noncomputable def iL(ps:List (List Nat))(i:Nat):D:=.tup [.int (i:Int),.int (uw ps i:Int),.int (fnd (pw ps (uw ps i)) (pw ps i) 0)]
noncomputable def Fq(ws:List (List Nat)):D:=.tup (ws.map λw=>.tup (ws.map λv=>.int (eC w v:Int)))
noncomputable def lT(ps:List (List Nat)):Int:=((ap ps).map λw=>(w.length:Int)).sum
def nD(k:Nat):D:=.int (k:Int)
noncomputable def xL:List Str:=["pieces","kept","words","left","laps","total"]
noncomputable def xM(ps:List (List Nat)):List D:=[.tup (ps.map .str),.tup ((bh ps).map nD),.tup ((ap ps).map .str),.tup ((A7 ps).map (iL ps)),Fq (ap ps),.int (lT ps)]
def A8{ks:List Nat}{k:Nat}(h:k<(ks.map nD).length):itD (ks.map nD) k=.int ((ks.getD k 0:Nat):Int):=jc (by
 have h:k<ks.length:=by rwa [length_map] at h
 rw [gV,e_,cx h];rfl)
theorem o9(w:List Nat):∀ws:List (List Nat),inD (.str w) (ws.map .str)=decide (w∈ws)
 | []=>by simp [inD]
 | v::r=>by
  have ih:=o9 w r;unfold inD at ih ⊢;rw [map_cons,any_cons,ih];show ((v == w) || decide (w∈r))=_
  by_cases h:v=w
  .subst h;simp
  .rw [beq_eq_false_iff_ne.mpr h,Mu]
   by_cases h2:w∈r
   .rw [decide_eq_true h2,decide_eq_true (n_ _ h2)]
   .rw [decide_eq_false h2,decide_eq_false (λz=>(mem_cons.mp z).elim (λe=>h e.symm) h2)]
theorem xN(k:Nat):∀ks:List Nat,inD (.int (k:Int)) (ks.map nD)=decide (k∈ks)
 | []=>by simp [inD]
 | v::r=>by
  have ih:=xN k r;unfold inD at ih ⊢;rw [map_cons,any_cons,ih];show (((v:Int) == (k:Int)) || decide (k∈r))=_
  by_cases h:v=k
  .subst h;simp
  .rw [show ((v:Int) == (k:Int))=false from beq_eq_false_iff_ne.mpr (by omega),Mu]
   by_cases h2:k∈r
   .rw [decide_eq_true h2,decide_eq_true (n_ _ h2)]
   .rw [decide_eq_false h2,decide_eq_false (λz=>(mem_cons.mp z).elim (λe=>h e.symm) h2)]
def xO(ws:List (List Nat)):(ws.map D.str).all D.fl=true:=by rw [all_map];exact KJ.mpr λ_ _=>rfl
def HK(ks:List Nat):(ks.map nD).all D.fl=true:=by rw [all_map];exact KJ.mpr λ_ _=>rfl
def xP(ws:List (List Nat)):(c_ ws.length).map (pw ws)=ws:=by
 apply KW;intro k;rw [gV]
 by_cases hk:k<ws.length
 .rw [Jv hk,gA hk];rfl
 .rw [x_ (by rw [length_range];omega),x_ (by omega)];rfl
def zY(f:List Nat->Option β)(ws:List (List Nat)):(c_ ws.length).filterMap (λk=>f (pw ws k))=ws.filterMap f:=by
 conv=>rhs;rw [<- xP ws]
 rw [LK];rfl
theorem dt(p:α->Bool)(g:α->β):∀l:List α,l.filterMap (λa=>if p a=true then some (g a) else none)=(l.filter p).map g
 | []=>rfl
 | a::r=>by
  rw [Ll,filter_cons]
  cases h:p a with
  | true=>simp [dt p g r]
  | false=>simp [dt p g r]
def zZ(f:Nat->Option β)(ks:List Nat):(c_ ks.length).filterMap (λk=>f (ks.getD k 0))=ks.filterMap f:=by
 have e:(c_ ks.length).map (λk=>ks.getD k 0)=ks:=by
  have:=iG (λk=>k) ks;rw [List.map_id'] at this;exact this
 conv=>rhs;rw [<- e]
 rw [LK];rfl
def lU(n:Nat):(vp 0 n).length=n:=by unfold vp;rw [length_map,length_range]
def pd(h:j<(vp 0 n).length):itD (vp 0 n) j=.int (j:Int):=jc (by
 rw [lU] at h;unfold vp;rw [gV,Jv h];show some (D.int (0+(j:Int)))=_;rw [Int.zero_add])
open PySem.Builtin PySem.Builtin.ObjectAttr
open PySem.Builtin PySem.Builtin.ObjectAttr
open PySem.Builtin PySem.Builtin.ObjectAttr
open PySem.Builtin PySem.Builtin.ObjectAttr
def xQ(d:D):(PV.dat d).d=d:=rfl
def xR(ds:List D):(PV.own ds).d=.lst ds:=rfl
def xS(ks:List Key)(ds:List D):(PV.odc ks ds).d=.dic ks ds:=rfl
def xT(c:Str)(ns:List Str)(ds:List D):(PV.ins c ns ds).d=.obj c ns ds:=rfl
def Fs(ds:List D):mkL false ds=.own ds:=rfl
def Ft(ds:List D):mkL true ds=.dat (.tup ds):=rfl
noncomputable def pkm(ρ:PSt)(j:Nat):Option PV:=match ρ[j]? with
 | some v=>v
 | none=>none
def uy(v:Option PV)(r:PSt):pkm (v::r) 0=v:=rfl
def uz(v:Option PV)(r:PSt)(n:Nat):pkm (v::r) (n+1)=pkm r n:=rfl
def qI(ρ:PSt):bC [] ρ=[]:=rfl
def n4(ix:List (Option Nat))(ρ:PSt):bC (none::ix) ρ=none::bC ix ρ:=rfl
def n5(j:Nat)(ix:List (Option Nat))(ρ:PSt):bC (some j::ix) ρ=pkm ρ j::bC ix ρ:=rfl
def qJ(j:Nat)(ix:List (Option Nat))(ρ:PSt)(t:Option PV)(τ:PSt):dB (some j::ix) ρ (t::τ)=dB ix (ρ.set j t) τ:=rfl
def qK(ix:List (Option Nat))(ρ:PSt)(t:Option PV)(τ:PSt):dB (none::ix) ρ (t::τ)=dB ix ρ τ:=rfl
def uA(ρ τ:PSt):dB [] ρ τ=ρ:=rfl
noncomputable def Jo(pe:PTE):PTE:=λρ Q=>pe ρ λp ρ1=>Q (.dat p.d) ρ1
def Fu{ta:TE}(h:LE K ta pe):LE K ta (Jo pe):=λA ρ σ H Q Q' R q k=>h A ρ σ H _ Q' R q λv H' p ρ' q f o=>k v H' (.dat p.d) ρ' q f o.frz
def CN{e:α->D}{xs:List α}{k:Nat}(h:k<xs.length):itD (xs.map e) k=e xs[k]:=jc (by rw [gV,cx h];rfl)
def xU(f:α->β)(xs:List α)(g:Nat->β)(h:∀k (hk:k<xs.length),g k=f xs[k]):(c_ xs.length).map g=xs.map f:=by
 apply KW;intro i;rw [gV,gV]
 by_cases hi:i<xs.length
 .rw [Jv hi,cx hi];exact congrArg some (h i hi)
 .rw [x_ (by rw [length_range];omega),x_ (by omega)];rfl
section
variable {e:α->D}{xs:List α}{g:PTG}{pt:PTT}{Q:PKt}
def IQ(T:PSt->Prop)(f:α->Option D)(h0:T (bC ix ρ1))(hs:∀x∈xs,∀τ,T τ->∀(K1:D->PSt->Prop) (K2:PSt->Prop),(∀d τ',f x=some d->T τ'->K1 d τ')->(∀τ',f x=none->T τ'->K2 τ')->g (.dat (e x)) τ λτ2=>pt τ2 λok τ3=>h7 ok (pe τ3 λp τ4=>K1 p.d τ4) (K2 τ3))(hq:∀τ,T τ->Q (.own (xs.filterMap f)) (dB ix ρ1 τ)):mY ix ρ1 (xs.map e).length (itD (xs.map e)) g pt pe Q:=by
 refine cfm T (λk=>(xs[k]?).bind f) h0 (λk τ d hk ed t K1 K2 k1 k2=>?_) λτ t=>?_
 .rw [length_map] at hk;rw [CN hk] at ed;subst ed;have eg:(xs[k]?).bind f=f xs[k]:=by rw [cx hk];rfl
  rw [eg] at k1 k2;exact hs _ (Ku hk) τ t K1 K2 k1 k2
 .have e1:(c_ (xs.map e).length).filterMap (λk=>(xs[k]?).bind f)=xs.filterMap f:=by
   rw [length_map];have h1:(c_ xs.length).map (λk=>(xs[k]?).bind f)=xs.map f:=xU f xs _ λk hk=>by rw [cx hk];rfl
   have h2:∀l:List Nat,l.filterMap (λk=>(xs[k]?).bind f)=(l.map λk=>(xs[k]?).bind f).filterMap id:=λl=>by rw [LK];rfl
   rw [h2,h1,LK];rfl
  rw [e1];exact hq τ t
def Fv(T:PSt->Prop)(f:α->D)(h0:T (bC ix ρ1))(hs:∀x∈xs,∀τ,T τ->∀K1:D->PSt->Prop,(∀τ',T τ'->K1 (f x) τ')->g (.dat (e x)) τ λτ2=>pe τ2 λp τ4=>K1 p.d τ4)(hq:∀τ,T τ->Q (.own (xs.map f)) (dB ix ρ1 τ)):mY ix ρ1 (xs.map e).length (itD (xs.map e)) g AZ pe Q:=by
 refine IQ T (λx=>some (f x)) h0 (λx hx τ t K1 K2 k1 k2=>?_) λτ t=>?_
 .exact hs x hx τ t K1 λτ' t'=>k1 _ τ' rfl t'
 .rw [show xs.filterMap (λx=>some (f x))=xs.map f by rw [<- filterMap_eq_map];rfl];exact hq τ t
def HL(p:α->Bool)(f:α->β):∀xs:List α,xs.filterMap (λx=>if p x=true then some (f x) else none)=(xs.filter p).map f:=dt p f
def cfX(T:PSt->Prop)(p:α->Bool)(f:α->D)(h0:T (bC ix ρ1))(hs:∀x∈xs,∀τ,T τ->∀(K1:D->PSt->Prop) (K2:PSt->Prop),(∀τ',p x=true->T τ'->K1 (f x) τ')->(∀τ',p x=false->T τ'->K2 τ')->g (.dat (e x)) τ λτ2=>pt τ2 λok τ3=>h7 ok (pe τ3 λp τ4=>K1 p.d τ4) (K2 τ3))(hq:∀τ,T τ->Q (.own ((xs.filter p).map f)) (dB ix ρ1 τ)):mY ix ρ1 (xs.map e).length (itD (xs.map e)) g pt pe Q:=by
 refine IQ T (λx=>if p x=true then some (f x) else none) h0 (λx hx τ t K1 K2 k1 k2=>hs x hx τ t K1 K2 (λτ' h t'=>k1 _ τ' (by rw [if_pos h]) t') λτ' h t'=>k2 τ' (by rw [if_neg (by rw [h];decide)]) t') λτ t=>?_;rw [HL];exact hq τ t
def cm1(f:α->D)(hs:∀x∈xs,∀(v:Option PV) (K1:D->PSt->Prop),(∀v',K1 (f x) (v'::(bC ix ρ1).tail))->g (.dat (e x)) (v::(bC ix ρ1).tail) λτ2=>pe τ2 λp τ4=>K1 p.d τ4)(hq:∀v:Option PV,Q (.own (xs.map f)) (dB ix ρ1 (v::(bC ix ρ1).tail)))(hx:bC ix ρ1=none::(bC ix ρ1).tail:=by rfl):mY ix ρ1 (xs.map e).length (itD (xs.map e)) g AZ pe Q:=by
 refine Fv (λτ=>∃v,τ=v::(bC ix ρ1).tail) f ⟨none,hx⟩ ?_ ?_
 .rintro x hx τ ⟨v,rfl⟩ K1 k1;exact hs x hx v K1 λv'=>k1 _ ⟨v',rfl⟩
 .rintro τ ⟨v,rfl⟩;exact hq v
def cf1(p:α->Bool)(f:α->D)(hs:∀x∈xs,∀(v:Option PV) (K1:D->PSt->Prop) (K2:PSt->Prop),(∀v',p x=true->K1 (f x) (v'::(bC ix ρ1).tail))->(∀v',p x=false->K2 (v'::(bC ix ρ1).tail))->g (.dat (e x)) (v::(bC ix ρ1).tail) λτ2=>pt τ2 λok τ3=>h7 ok (pe τ3 λp τ4=>K1 p.d τ4) (K2 τ3))(hq:∀v:Option PV,Q (.own ((xs.filter p).map f)) (dB ix ρ1 (v::(bC ix ρ1).tail)))(hx:bC ix ρ1=none::(bC ix ρ1).tail:=by rfl):mY ix ρ1 (xs.map e).length (itD (xs.map e)) g pt pe Q:=by
 refine cfX (λτ=>∃v,τ=v::(bC ix ρ1).tail) p f ⟨none,hx⟩ ?_ ?_
 .rintro x hx τ ⟨v,rfl⟩ K1 K2 k1 k2;exact hs x hx v K1 K2 (λv' h=>k1 _ h ⟨v',rfl⟩) λv' h=>k2 _ h ⟨v',rfl⟩
 .rintro τ ⟨v,rfl⟩;exact hq v
end
def cfR{g:PTG}{pt:PTT}{Q:PKt}{it:Nat->D}(p:Nat->Bool)(f:Nat->D)(hs:∀k,k<n->∀(v:Option PV) (K1:D->PSt->Prop) (K2:PSt->Prop),(∀v',p k=true->K1 (f k) (v'::(bC ix ρ1).tail))->(∀v',p k=false->K2 (v'::(bC ix ρ1).tail))->g (.dat (it k)) (v::(bC ix ρ1).tail) λτ2=>pt τ2 λok τ3=>h7 ok (pe τ3 λp τ4=>K1 p.d τ4) (K2 τ3))(hq:∀v:Option PV,Q (.own (((c_ n).filter p).map f)) (dB ix ρ1 (v::(bC ix ρ1).tail)))(hx:bC ix ρ1=none::(bC ix ρ1).tail:=by rfl):mY ix ρ1 n it g pt pe Q:=by
 refine cfm (λτ=>∃v,τ=v::(bC ix ρ1).tail) (λk=>if p k=true then some (f k) else none) ⟨none,hx⟩ ?_ ?_
 .rintro k τ d hk rfl ⟨v,rfl⟩ K1 K2 k1 k2;exact hs k hk v K1 K2 (λv' h=>k1 _ _ (by rw [if_pos h]) ⟨v',rfl⟩) λv' h=>k2 _ (by rw [if_neg (by rw [h];decide)]) ⟨v',rfl⟩
 .rintro τ ⟨v,rfl⟩;rw [dt];exact hq v
def Dw(h:i<n):ixN n (i:Int)=some i:=by
 unfold ixN;rw [if_pos (by omega),if_pos (by omega),toNat_natCast]
noncomputable def lxB:List Int->List Int->Bool
 | [],[]=>false
 | [],_::_=>true
 | _::_,[]=>false
 | x::xs,y::ys=>if x=y then lxB xs ys else decide (x<y)
def xV{x y:Int}{xs ys:List Int}:lxB (x::xs) (y::ys)=true ↔ x<y\/(x=y/\lxB xs ys=true):=by
 show (if x=y then lxB xs ys else decide (x<y))=true ↔ _
 split
 .rename_i h;subst h;simp
 .rename_i h;simp [h]
theorem A9:∀xs:List Int,lxB xs xs=false
 | []=>rfl
 | x::xs=>by show (if x=x then lxB xs xs else _)=false;rw [if_pos rfl];exact A9 xs
theorem Fw:∀{xs ys zs:List Int},lxB xs ys=true->lxB ys zs=true->lxB xs zs=true
 | [],[],_,h,_=>by cases h
 | [],_::_,[],_,h=>by cases h
 | [],_::_,_::_,_,_=>rfl
 | _::_,[],_,h,_=>by cases h
 | _::_,_::_,[],_,h=>by cases h
 | x::xs,y::ys,z::zs,h1,h2=>by
  rw [xV] at h1 h2 ⊢
  rcases h1 with a|⟨rfl,a⟩
  .rcases h2 with b|⟨rfl,b⟩
   .left;omega
   .left;exact a
  .rcases h2 with b|⟨rfl,b⟩
   .left;exact b
   .right;exact⟨rfl,Fw a b⟩
theorem Ba:∀{xs ys:List Int},lxB xs ys=false->lxB ys xs=false->xs=ys
 | [],[],_,_=>rfl
 | [],_::_,h,_=>by cases h
 | _::_,[],_,h=>by cases h
 | x::xs,y::ys,h1,h2=>by
  have a:¬ (x<y\/(x=y/\lxB xs ys=true)):=λz=>by rw [xV.mpr z] at h1;cases h1
  have b:¬ (y<x\/(y=x/\lxB ys xs=true)):=λz=>by rw [xV.mpr z] at h2;cases h2
  have e:x=y:=by omega
  subst e
  have a':lxB xs ys=false:=by
   cases g:lxB xs ys with
   | false=>rfl
   | true=>exact absurd (.inr ⟨rfl,g⟩) a
  have b':lxB ys xs=false:=by
   cases g:lxB ys xs with
   | false=>rfl
   | true=>exact absurd (.inr ⟨rfl,g⟩) b
  rw [Ba a' b']
theorem Bb{p q:α->Bool}:∀{l:List α},(∀x∈l,p x=true->q x=true)->l.countP p<=l.countP q
 | [],_=>f_ _
 | a::l,h=>by
  have ih:=Bb (l:=l) λx hx=>h x (n_ _ hx);rw [M7,M7];have:=h a (mem_cons_self ..)
  cases e:p a with
  | false=>simp only [false_eq_true,if_false];omega
  | true=>rw [this e];simp only [if_true];omega
theorem Bc{p q:α->Bool}{y:α}(hp:p y=false)(hq:q y=true):∀{l:List α},y∈l->(∀x∈l,p x=true->q x=true)->l.countP p<l.countP q
 | [],hy,_=>by cases hy
 | a::l,hy,h=>by
  have h':∀x∈l,p x=true->q x=true:=λx hx=>h x (n_ _ hx);rw [M7,M7]
  rcases mem_cons.mp hy with rfl|z
  .have:=Bb h';rw [hp,hq];simp only [false_eq_true,if_false,if_true];omega
  .have ih:=Bc hp hq z h';have:=h a (mem_cons_self ..)
   cases e:p a with
   | false=>simp only [false_eq_true,if_false];omega
   | true=>rw [this e];simp only [if_true];omega
noncomputable def rkL(rows:List (List Int))(i:Nat):Nat:=rows.countP λr=>lxB r (rows.getD i [])
def Bd{rows:List (List Int)}(hi:i<rows.length)(hj:j<rows.length):lxB (rows.getD i []) (rows.getD j [])=decide (rkL rows i<rkL rows j):=by
 have mem:∀{i},i<rows.length->rows.getD i []∈rows:=λ{i} h=>by
  rw [e_,cx h];exact Ku h
 have one:∀{i j},i<rows.length->lxB (rows.getD i []) (rows.getD j [])=true->rkL rows i<rkL rows j:=λ{i j} hi e =>
  Bc (p:=λr=>lxB r (rows.getD i [])) (q:=λr=>lxB r (rows.getD j [])) (y:=rows.getD i []) (A9 _) e (mem hi) λx _ hx=>Fw (ys:=rows.getD i []) hx e
 cases e:lxB (rows.getD i []) (rows.getD j []) with
 | true=>rw [decide_eq_true (one hi e)]
 | false =>
  symm;refine decide_eq_false ?_
  cases g:lxB (rows.getD j []) (rows.getD i []) with
  | true=>have:=one hj g;omega
  | false =>
   have z:=Ba e g;unfold rkL;rw [z];exact E_ _
abbrev HM(r:List Int):D:=.tup (r.map .int)
theorem Be:∀{prs:List (Addr×List Int)}{us:List Value},bD (prs.map λpr=>V.ref pr.1) us->us=prs.map λpr=>so pr.1
 | [],_,.nil=>rfl
 | pr::prs,_,.cons r t=>by
  rw [map_cons,Be t,show _=so pr.1 from r]
theorem uB:∀{rows:List (List Int)}{ys:List V},FVs K O H ys (rows.map HM)->∃prs:List (Addr×List Int),ys=prs.map (λpr=>V.ref pr.1)/\prs.map (·.2)=rows/\∀pr∈prs,¬ O pr.1/\H pr.1=some (.tup (pr.2.map V.int))
 | [],_,.nil=>⟨[],rfl,rfl,nofun⟩
 | r::rows,_,.cons a b=>by
  obtain⟨prs,h1,h2,h3⟩:=uB (rows:=rows) b
  cases a with
  | tup n e f =>
   rw [f.ints] at e;refine⟨(_,r)::prs,by rw [h1];rfl,by rw [<- h2];rfl,λpr hp=>?_⟩
   rcases mem_cons.mp hp with rfl|hp
   .exact⟨n,e⟩
   .exact h3 pr hp
def cm2{e:α->D}{xs:List α}{g:PTG}{Q:PKt}(f:α->D)(hs:∀x∈xs,∀(v w:Option PV) (K1:D->PSt->Prop),(∀v' w',K1 (f x) (v'::w'::(bC ix ρ1).tail.tail))->g (.dat (e x)) (v::w::(bC ix ρ1).tail.tail) λτ2=>pe τ2 λp τ4=>K1 p.d τ4)(hq:∀v w:Option PV,Q (.own (xs.map f)) (dB ix ρ1 (v::w::(bC ix ρ1).tail.tail)))(hx:bC ix ρ1=none::none::(bC ix ρ1).tail.tail:=by rfl):mY ix ρ1 (xs.map e).length (itD (xs.map e)) g AZ pe Q:=by
 refine Fv (λτ=>∃v w,τ=v::w::(bC ix ρ1).tail.tail) f ⟨none,none,hx⟩ ?_ ?_
 .rintro x hx τ ⟨v,w,rfl⟩ K1 k1;exact hs x hx v w K1 λv' w'=>k1 _ ⟨v',w',rfl⟩
 .rintro τ ⟨v,w,rfl⟩;exact hq v w
def xW(a b:List Nat):(!(Lj (S b) (S a) 0 (S b).length 1).isEmpty)=gq a b:=by
 have e:=wX b a 0;unfold gq;rw [<- e]
 cases Lj (S b) (S a) 0 (S b).length 1 with
 | nil=>rfl
 | cons k r=>exact (decide_eq_true (by omega:(0:Int)<=(k:Int))).symm
noncomputable def HN(neg:Bool):R2:=λx y H Q=>∃a b,x=.str (S a)/\y=.str (S b)/\Q (.bl (if neg then !gq a b else gq a b)) H
def Fx:OpR X (compareOp .In) (HN false):=by
 intro pins s σ H x y v u Q I rx ry h;obtain⟨a,b,rfl,rfl,q⟩:=h;obtain⟨t,rfl⟩:=rx;obtain⟨t',rfl⟩:=ry;exact P.in_str ⟨.bl _,H,I,rfl,by rw [xW];exact q⟩
def xX:OpR X (compareOp .NotIn) (HN true):=by
 intro pins s σ H x y v u Q I rx ry h;obtain⟨a,b,rfl,rfl,q⟩:=h;obtain⟨t,rfl⟩:=rx;obtain⟨t',rfl⟩:=ry;exact P.notIn_str ⟨.bl _,H,I,rfl,by rw [xW];exact q⟩
noncomputable def Fy(K:b_)(neg:Bool):R2:=λx y H Q=>rIn K neg x y H Q\/HN neg x y H Q
def HP(K:b_)(e:X.K=K):OpR X (compareOp .In) (Fy K false):=OpR.or (Jj K e) Fx
def kX(K:b_)(e:X.K=K):OpR X (compareOp .NotIn) (Fy K true):=OpR.or (Cn K e) xX
noncomputable def HQ(neg:Bool):F2
 | .str a,.str b,Q=>Q (.dat (.bl (if neg then !gq a b else gq a b)))
 | a,.lst ds,Q=>(a.fl=true/\ds.all D.fl=true)/\Q (.dat (.bl (if neg then !inD a ds else inD a ds)))
 | a,.tup ds,Q=>(a.fl=true/\ds.all D.fl=true)/\Q (.dat (.bl (if neg then !inD a ds else inD a ds)))
 | _,_,_=>False
def qL{neg:Bool}:LO K (Fy K neg) (HQ neg):=by
 intro O H x y a b Q Q' dom fx fy q k;unfold HQ at q
 split at q
 .obtain⟨rfl,_⟩:=fx.str;obtain⟨rfl,_⟩:=fy.str;exact .inr ⟨_,_,rfl,rfl,k _ H _ q (Gr.refl _) (.bl _)⟩
 .exact .inl (EJ O H x y _ _ Q Q' dom fx fy q k)
 .exact .inl (EJ O H x y _ _ Q Q' dom fx fy q k)
 .exact q.elim
variable {ns:List Int}
def z0(h:ns.length<=1000)(hb:∀n∈ns,n.natAbs<2^64):PyData.layable0 (.list (ns.map .int))=true:=by
 have c:∀l:List Int,Ly (l.map .int)=true:=λl=>by
  induction l with
  | nil=>rfl
  | cons a r ih=>show (Lz (.int a) && Ly (r.map .int))=true;rw [ih];rfl
 have d:∀l:List Int,K9 (l.map .int)=0:=λl=>by
  induction l with
  | nil=>rfl
  | cons a r ih=>show max (L7 (.int a)) (K9 (r.map .int))=0;rw [ih];rfl
 have w:∀l:List Int,(∀n∈l,n.natAbs<2^64)->Mz (l.map .int)<=l.length*66:=λl=>by
  induction l with
  | nil=>intro _;exact Lo _
  | cons a r ih =>
   intro hh;have h1:=ih λn hn=>hh n (n_ _ hn)
   have h2:PyData.weight (.int a)<=64:=by
    show (if a == 0 then 0 else a.natAbs.log2+1)<=64
    by_cases z:a=0
    .subst z;decide
    .rw [if_neg (by simpa using z)];have:a.natAbs.log2<64:=(log2_lt (by omega)).mpr (hh a (mem_cons_self ..));omega
   show PyData.weight (.int a)+1+Mz (r.map .int)<=_;rw [length_cons,succ_mul];omega
 have:=w ns hb;unfold PyData.layable0;rw [and_eq_true,and_eq_true]
 refine⟨⟨c ns,decide_eq_true ?_⟩,decide_eq_true ?_⟩
 .show K9 (ns.map .int)+1<=64;rw [d];decide
 .show Mz (ns.map .int)<=2^20;omega
noncomputable def CO(K:b_):V->List V->Hp->VK->Prop:=λx xs H Q=>∃(p:Addr) (ns:List Int) (k:Int),x=.ref p/\xs=[.int k]/\SqL K H p (ns.map V.int)/\(ns.length<=1000/\(∀n∈ns,n.natAbs<2^64)/\k∈ns)/\Q (.int (ns.idxOf k:Nat)) H
def CP(K:b_)(e:X.K=K):MtR X "list.index" (CO K):=by
 subst e;intro pins s σ H x xs v us Q I rx rs h;obtain⟨p,ns,k,rfl,rfl,hS,⟨h1,h2,h3⟩,q⟩:=h;cases (show v=so p from rx);obtain⟨u,rfl,t,rfl⟩:=fg rs;obtain⟨its,rv,pl,hz⟩:=I.list hS;exact index_list_ints pl.isList (cJ rv) (z0 h1 h2) h3 ⟨.int _,H,I.tok _,⟨_,rfl⟩,q⟩
variable {pa:PA1}
noncomputable def HR(pa:PA1)(pe:PTE):PTE:=λρ Q=>pa ρ λx ρ1=>match cont ρ1 x with
 | some (.lst _)=>pe ρ1 λp ρ2=>(match cont ρ2 x,p with
  | some (.lst ds),.dat (.int k)=>∃ns:List Int,ds=ns.map .int/\(ns.length<=1000/\(∀n∈ns,n.natAbs<2^64)/\k∈ns)/\Q (.dat (.int (ns.idxOf k:Nat))) ρ2
  | _,_=>False)
 | _=>False
variable {ta:TE}
def CQ(ha:LA1 K ta pa)(he:LE K te pe):LE K (tBM K "list" (CO K) ta (aK te c6)) (HR pa pe):=λA ρ σ H Q Q' R q k =>
 ha A ρ σ H _ _ R q λv H1 a ρ1 q1 f1 R1 o1=>by
  split at q1
  .rename_i ds0 e1;obtain⟨a0,xs0,rfl,g0,f0⟩:=(R1.cont o1 e1).lst;refine⟨.inl ⟨rfl,xs0,SqL.of g0⟩,he A ρ1 σ H1 _ _ R1 q1 λw H2 p ρ2 q2 f2 o2=>?_⟩;obtain⟨R2,fv⟩:=o2.frz
   split at q2
   .rename_i ds j e2;obtain⟨ns,rfl,hn,q2⟩:=q2;cases (show FV K _ H2 w (.int j) from fv);obtain⟨a1,xs1,e3,g1,g2⟩:=(R2.cont (o1.keeps f2.keeps) e2).lst;cases e3;rw [g2.ints] at g1;exact⟨a0,ns,j,rfl,rfl,SqL.of g1,hn,k _ H2 _ ρ2 q2 (f1.trans f2) ⟨R2,.int _⟩⟩
   .exact q2.elim
  .exact q1.elim
noncomputable def Bf(K:b_):R2:=λx y H Q=>∃a b ys,x=.ref a/\y=.ref b/\SqT K H a []/\SqT K H b ys/\Q (.ref b) H
def Aa:OpR X (binaryOp .Add) (Bf X.K):=by
 intro pins s σ H x y v u Q I rx ry h;obtain⟨a,b,ys,rfl,rfl,ha,hb,q⟩:=h;cases rx;cases ry;obtain⟨its,r1,p1,_⟩:=I.tuple ha;obtain⟨its2,r2,p2,_⟩:=I.tuple hb;have e0:its=[]:=r1.nil_iff.mpr rfl;subst e0;obtain⟨⟨cls,dd,data,sl⟩,ho,hc,n,hd⟩:=id p1;obtain⟨⟨cls2,dd2,data2,sl2⟩,ho2,hc2,n2,hd2⟩:=id p2;simp only at hc hd hc2 hd2;subst hc hd hc2 hd2;exact MH ⟨_,ho,rfl⟩ ⟨_,ho2,rfl⟩ Mx seq_tuple_add Ls Lh (K0 _ _) (tuple_addW0 a b _ _ n n2 dd dd2 sl sl2 rfl) ⟨ho,ho2,.ref b,H,I,rfl,q⟩
noncomputable def Ab(K:b_):R2:=λx y H Q=>Ck K x y H Q\/Bf K x y H Q
def bw(K:b_)(e:X.K=K):OpR X (binaryOp .Add) (Ab K):=OpR.or (Hm K e) (by subst e;exact Aa)
noncomputable def Fz:F2
 | .tup a,.tup b,Q=>a.length+b.length<=1000000/\Q (.dat (.tup (a++b)))
 | a,b,Q=>Hn a b Q
def aS:LO K (Ab K) Fz:=by
 intro O H x y a b Q Q' dom fx fy q k;unfold Fz at q
 split at q
 .rename_i Q ds es
  cases ds with
  | cons d ds=>exact .inl (AW O H x y _ _ _ Q' dom fx fy ⟨nofun,q⟩ k)
  | nil =>
   obtain⟨p1,xs1,rfl,n1,e1,f1⟩:=fx.tup;obtain⟨p2,xs2,rfl,n2,e2,f2⟩:=fy.tup;cases f1;exact .inr ⟨p1,p2,xs2,rfl,rfl,SqT.of e1,SqT.of e2,k _ H _ q.2 (Gr.refl _) (.tup n2 e2 f2)⟩
 .exact .inl (AW O H x y _ _ _ Q' dom fx fy q k)
noncomputable def HS:Expr->Bool
 | .ListComp ..|.SetComp ..|.DictComp ..=>false
 | _=>true
def qM{o i:Expr}{p:Pos}{l:Nat}(h:HS e=true):swapsWithSole [.Subscript o i p] e l env=pure false:=by
 show swapsWith e (some (.Subscript o i p)) l env=pure false;cases e <;> first|rfl|cases h
def sA{o i:Expr}{p:Pos}:swappedStores [.Subscript o i p] e env=pure none:=rfl
def xY{o i:Expr}{p:Pos}(he:PE X e te)(hg:PG X (.Subscript o i p) g)(hn:HS e=true:=by rfl):PS X (.Assign [.Subscript o i p] e pos) (Do te g) :=
 tX he hg (qM hn) sA rfl
noncomputable def fO(K:b_)(x:Str)(st:Stmt):Prop:=∃(f:Addr) (oc kV dc pm cd ct:Value) (od an:Option Addr) (sl:Array (Option Value)),w_ K mainGlobals x=some (some (.ref f)) /\
 K.lookup f=some ⟨oc,od,.func (Eo x x (bL st) (aR st) (ai st) .none kV dc pm an cd ct),sl⟩/\JJ K cd x=true/\C_ K (.ref f)=true
variable {x:Str}{st:Stmt}{oc pm ct:Value}{od an:Option Addr}
def FA{f:Addr}{kV dc cd:Value}{sl:Array (Option Value)}(a:w_ K mainGlobals x=some (some (.ref f)))(l:K.lookup f=some ⟨oc,od,.func (Eo x x (bL st) (aR st) (ai st) .none kV dc pm an cd ct),sl⟩)(c:JJ K cd x=true)(k:C_ K (.ref f)=true):fO K x st:=⟨f,oc,kV,dc,pm,cd,ct,od,an,sl,a,l,c,k⟩
variable {h:Heap}{mg:Str->Option Value}
def bi(q:fO K x st)(X:K.In h)(G:h.Ns mainGlobals mg):a5 K mg x st:=by
 obtain⟨f,oc,kV,dc,pm,cd,ct,od,an,sl,a,l,c,k⟩:=q;exact .mk' X G a l c k
noncomputable def HU(i j:Int):Prop:=0<j/\j<18446744073709551616
abbrev FB:=rI HU λi j=>.int (i / j)
abbrev HV:F2:=fI (λ_ j=>0<j/\j<18446744073709551616) λi j=>.int (i / j)
def FC{x y:Int}(h:y.natAbs<18446744073709551616):Builtin.divisionGoesByPylong x y=false:=by
 refine PyProof.noPylong_of_log2 ?_
 by_cases h0:y.natAbs=0
 .rw [h0];decide +kernel
 .have h64:y.natAbs.log2<64:=(log2_lt h0).mpr h;omega
def CS:OpR X (binaryOp .FloorDiv) FB:=opI λi j _ _ _ _ _ hc q=>by
 have h1:(0:Int)<j:=hc.1;have h2:j<18446744073709551616:=hc.2;exact floordiv_int (by omega) (by rw [fdiv_eq_ediv_of_nonneg i (by omega)];exact q) (.inl (FC (by omega)))
def Ac:LO K FB HV:=GD λ_ _ _ _=>.int _
section
open PySem.AutoSeq1 (wpAny_loadPart')
open PySem.MeetsSeq PySem.MeetsSeq2 PySem.MeetsSeq3
end
noncomputable def frzA(ρ:PSt):PSt:=ρ.map (Option.map λp=>PV.dat p.d)
variable {ρ:PSt}{p:PV}
def pq(e:(frzA ρ)[i]?=some (some p)):∃p0,ρ[i]?=some (some p0)/\p=.dat p0.d:=by
 unfold frzA at e;rw [gV] at e
 cases h:ρ[i]? with
 | none=>rw [h] at e;cases e
 | some o =>
  cases o with
  | none=>rw [h] at e;cases e
  | some p0=>rw [h] at e;cases e;exact⟨p0,rfl,rfl⟩
variable {b:Addr}
def pA:¬ Wr (frzA ρ) σ b:=λ⟨i,p,e,o,_⟩=>by
 obtain⟨p0,_,rfl⟩:=pq e;cases o
variable {A:Addr->Prop}
def Rel.frzA(R:Rel K A ρ σ H):Rel K A (frzA ρ) σ H:=by
 have k:aB (OO A ρ σ) H (OO A (L2.frzA ρ) σ) H:=aB.less λb z=>z.elim .inl λz=>(pA z).elim
 refine⟨by unfold L2.frzA;rw [length_map];exact R.len,λi p e=>?_,λi j p q v e1 e2 o1=>?_,R.dom,λb _ w=>pA w⟩
 .obtain⟨p0,e0,rfl⟩:=pq e;obtain⟨v,s,r⟩:=R.get i p0 e0;refine⟨v,s,?_⟩
  have na:∀a,v=.ref a->p0.isOwn=true->¬ OO A (L2.frzA ρ) σ a:=λa ea oo z=>by
   subst ea
   rcases z with z|z
   .exact R.sep a z ⟨i,p0,e0,oo,s⟩
   .exact pA z
  cases p0 with
  | dat d=>exact FV.keeps k r
  | own ds =>
   obtain⟨a,xs,rfl,g,f⟩:=r;exact .lst (na a rfl rfl) g (f.keeps k)
  | ins c ns ds =>
   obtain⟨a,dx,fs,rfl,g,m,f⟩:=r;exact .obj (na a rfl rfl) g m (f.keeps k)
  | odc ks ds =>
   obtain⟨a,kvs,rfl,g,m,f⟩:=r;exact .dic (na a rfl rfl) g m (f.keeps k)
 .obtain⟨p0,_,rfl⟩:=pq e1;cases o1
variable {H':Hp}{O':Addr->Prop}
def FV.flat{d:D}(h:FV K O H v d)(f:d.fl=true):FV K O' H' v d:=by
 cases h with
 | non=>exact .non
 | bl b=>exact .bl b
 | int i=>exact .int i
 | str l hl=>exact .str l hl
 | ty _=>cases f
 | scr _=>cases f
 | lst _ _ _=>cases f
 | tup _ _ _=>cases f
 | dic _ _ _ _=>cases f
 | fdc _ _ _ _=>cases f
 | obj _ _ _ _=>cases f
 | exc0 _ _=>cases f
 | exc1 _ _ _ _ _ _=>cases f
variable {Q:Value->cy->Prop}
def Ad{P:s_}{A:y_}{z:cy}{l:Addr}{xs:Array (Int×Tok)}(hh:A.handled=none)(hl:z.heap.IsTuple l (intItems xs))(h:∀h' tk t',(∀b o,z.heap.get? b=some o->h'.get? b=some o)->Q (.int (preSum (numAt xs) xs.size) t') { z with heap:=h',toks:=tk }):wpAny (model P w) A (call (.builtin "sum") [.ref l]) Q E z:=by
 have hlt:l<z.heap.objs.size:=by obtain⟨_,e,_⟩:=hl;exact l_ e
 refine call_sum_walkG (Le hl ?_)
 refine⟨z.heap.objs.size,[z.heap.objs.size,l],[z.heap.objs.size],_,_,_,numAt xs,rfl,Walks.tuple (A:=A.in1) hh _ l (I_ hlt) (intItems xs),⟨⟨_,kx _ rfl,rfl,rfl⟩,hl.push _⟩,λb hb=>?_,(λ_ _=>Ms),λh' tk t' hk=>?_⟩
 .show b<(z.heap.push _).objs.size;rw [JO]
  rcases mem_cons.mp hb with e|hb
  .rw [e];exact JH _
  .rw [r_.mp hb];exact K4 hlt
 .have:=h h' tk t' λb o e=>hk b o (λm=>by have y:=l_ e;rw [r_.mp m] at y;exact absurd y (E_ _)) (d_ _ e);simpa [intItems] using this
def xZ(hc:X.calm=true):bz X (.builtin "sum") (λxs H Q=>∃(p:Addr) (ns:List Int),xs=[.ref p]/\SqT X.K H p (ns.map V.int)/\Q (.int ns.sum) H):=by
 intro pins s σ H xs us Q I r h;obtain⟨p,ns,rfl,hS,q⟩:=h;obtain⟨u,rfl,ru⟩:=fg r;cases (show u=so p from ru);obtain⟨its,rv,pl,hz⟩:=I.tuple hS;have hi:=cJ rv;have hl:s.heap.IsTuple p its.toArray:=pl;obtain⟨ys,e⟩:=hi.allInts.items;have hns:ns=ys.toList.map (·.1):=by rw [<- hi.numsOf,<- LN,<- e]
 rw [e] at hl;refine Ad (by exact I.ok.hd hc) hl λh' tk t' hk=>⟨.int ns.sum,H,I.kept (t':=tk) hk,⟨t',?_⟩,q⟩
 have hlen:ys.size=ns.length:=by rw [hns,length_map,z_]
 have hnum:numAt ys=λi=>ns.getD i 0:=by
  funext i;rw [Mi,hns]
 rw [hnum,hlen,jI ns ns.length (f_ _),KO]
noncomputable def FD(K:b_):List V->Hp->VK->Prop:=λxs H Q=>∃(p:Addr) (ns:List Int),xs=[.ref p]/\(SqL K H p (ns.map V.int)\/SqT K H p (ns.map V.int))/\Q (.int ns.sum) H
def kj(K:b_)(e:X.K=K)(hc:X.calm=true):bz X (.builtin "sum") (FD K):=by
 subst e;intro pins s σ H xs us Q I r ⟨p,ns,e,h,q⟩
 rcases h with h|h
 .exact qA hc pins s σ H xs us Q I r ⟨p,ns,e,h,q⟩
 .exact xZ hc pins s σ H xs us Q I r ⟨p,ns,e,h,q⟩
noncomputable def FE:FN
 | [.lst ds],Q=>∃ns:List Int,ds=ns.map .int/\Q (.dat (.int ns.sum))
 | [.tup ds],Q=>∃ns:List Int,ds=ns.map .int/\Q (.dat (.int ns.sum))
 | _,_=>False
def gC:LC K (FD K) FE:=by
 intro O H xs as Q Q' dom fs q k;unfold FE at q
 split at q
 .obtain⟨ns,rfl,q⟩:=q
  cases fs with
  | cons a b =>
   cases b;obtain⟨p,ys,rfl,e1,f1⟩:=a.lst;exact⟨p,ns,rfl,.inl (SqL.of (by rw [e1,f1.ints])),k _ H _ q (Gr.refl _) (.int _)⟩
 .obtain⟨ns,rfl,q⟩:=q
  cases fs with
  | cons a b =>
   cases b;obtain⟨p,ys,rfl,n1,e1,f1⟩:=a.tup;exact⟨p,ns,rfl,.inr (SqT.of (by rw [e1,f1.ints])),k _ H _ q (Gr.refl _) (.int _)⟩
 .exact q.elim
noncomputable def dE(ks:List Key)(ds:List D)(k:Key):Option D:=((ks.zip ds).find? λp=>decide (p.1=k)).map (·.2)
theorem lV(k:Key):∀{kvs:List (Key×V)}{ks:List Key}{ds:List D},kvs.map tj=ks->FVs K O H (kvs.map G_) ds ->
  (pY kvs k=none/\dE ks ds k=none)\/∃v d,pY kvs k=some v/\dE ks ds k=some d/\FV K O H v d
 | [],_,_,rfl,.nil=>.inl ⟨rfl,rfl⟩
 | p::r,_,_,rfl,.cons (d:=d) (ds:=ds) a b=>by
  have u:∀ds',dE ((p::r).map tj) (d::ds') k=if p.1=k then some d else dE (r.map tj) ds' k:=λds'=>by
   unfold dE;rw [map_cons,zip_cons_cons,Kz]
   by_cases e:p.1=k
   .rw [if_pos e,decide_eq_true e];rfl
   .rw [if_neg e,decide_eq_false e]
  by_cases e:p.1=k
  .exact .inr ⟨p.2,d,kS e,by rw [u,if_pos e],a⟩
  .rw [kT e,u,if_neg e];exact lV k rfl b
def hu1{u:Nat}(h:u+64<cLine):u+1<cLine:=by omega
section
noncomputable def Bg(f:Int->Int->Int)(i:Nat)(pk pe:PTE):PTS:=λD ρ=>match ρ[i]? with
 | some (some (.own _))=>pk ρ λkp ρ1=>(match ρ1[i]?,kp with
  | some (some (.own ds)),.dat (.int k)=>∃j a,ixN ds.length k=some j/\ds[j]?=some (.int a)/\pe ρ1 λp ρ2=>(match ρ2[i]?,p with
   | some (some (.own ds2)),.dat (.int b)=>ds2=ds/\D.nx (ρ2.set i (some (.own (ds.set j (.int (f a b))))))
   | _,_=>False)
  | _,_=>False)
 | _=>False
def lW(K:b_)(e:X.K=K):Ik X (GA K):=by
 subst e;intro pins s σ H x y v u Q I rx ry h;obtain⟨p,xs,i,z,rfl,rfl,hq,he,q⟩:=h;cases rx;obtain⟨t,rfl⟩:=ry;obtain⟨its,r,pl,hz⟩:=I.list hq;obtain⟨j,h1,h2,h3,h4,h5⟩:=oJ he;obtain⟨w,ew,rw'⟩:=r.get h2;have hl:=r.length;have hn:=k9;have fin:EP X pins σ Q w s:=⟨z,H,I,rw',q⟩
 by_cases h0:0<=i
 .have hj:i.toNat=j:=by
   rw [M2 h0 h5] at h1;exact vx h1
  exact wpAny_getItem_list pl.isList h0 (by omega) (by rw [hj];simpa using ew) fin
 .have hj:(i+(its.toArray.size:Int)).toNat=j:=by
   rw [MK (by omega) h4] at h1;rw [size_toArray,<- hl];exact vx h1
  exact wpAny_getItem_list_neg pl.isList (by omega) (by rw [size_toArray] <;> omega) (by omega) (by rw [hj];simpa using ew) fin
variable {fs:List Nat}
def sB{f:Int->Int->Int}(hk:LE K tk pk)(h:LE K te pe):LS K fs (DR (aH i) tk te (GA K) (ipI f) BZ) (Bg f i pk pe):=λfx A R H0 ρ σ H D D' hf r F q k1 k2 k3 k4=>by
 unfold Bg at q
 split at q
 .rename_i ds0 e0;obtain⟨a0,xs0,s0,g0,f0⟩:=r.ownAt e0;refine⟨_,s0,hk A ρ σ H _ _ r q λw H1 kp ρ1 q1 f1 o1=>?_⟩
  split at q1
  .rename_i ds k e1;obtain⟨j,a,hj,ha,q1⟩:=q1;obtain⟨R1,fw⟩:=o1;cases fw;obtain⟨a1,xs,s,g,fx1⟩:=R1.ownAt e1;rw [s0] at s;cases s;obtain⟨va,hva,fva⟩:=fx1.getD ha;cases fva
   refine⟨a0,xs,k,.int a,rfl,rfl,SqL.of g,?_,h A ρ1 σ H1 _ _ R1 q1 λu H2 p ρ2 q2 f2 o2=>?_⟩
   .unfold atI;rw [fx1.length,hj];exact hva
   .split at q2
    .rename_i ds2 b e2;obtain⟨rfl,q2⟩:=q2;obtain⟨R2,fu⟩:=o2;cases fu;obtain⟨a2,xs2,s2,g2,fx2⟩:=R2.ownAt e2;rw [s0] at s2;cases s2;obtain⟨R3,f3⟩:=R2.lstw e2 s0 (FVs.set (FV.int (f a b)) j fx2);exact⟨a,b,rfl,rfl,a0,xs2,k,j,rfl,rfl,g2,by rw [fx2.length];exact hj,k1 _ _ _ q2 R3 (((F.fr f1).fr f2).fr f3)⟩
    .exact q2.elim
  .exact q1.elim
 .exact q.elim
end
variable {x:Nat}{rows:List (List D)}
noncomputable def cl(x:Nat)(ρ:PSt):Option (List (List D))->PSt
 | none=>ρ
 | some rows=>ρ.set x (some (.own (rows.map D.lst)))
def x6(x:Nat)(ρ:PSt):cl x ρ none=ρ:=rfl
def x8(x:Nat)(ρ:PSt)(rows:List (List D)):cl x ρ (some rows)=ρ.set x (some (.own (rows.map D.lst))):=rfl
def jR(e:(ρ.set i none)[j]?=some (some p)):j≠i/\ρ[j]?=some (some p):=by
 by_cases z:i=j
 .subst z
  by_cases h:i<ρ.length
  .rw [p_ h] at e;cases e
  .rw [x_ (by rw [JE];omega)] at e;cases e
 .rw [k_ z] at e;exact⟨λq=>z q.symm,e⟩
noncomputable def mvd(ρ:PSt)(g r:Nat)(ds:List D):PSt:=(ρ.set r (some (.own ds))).set g none
def Bh(ρ:PSt)(g r:Nat)(ds:List D):mvd ρ g r ds=(ρ.set r (some (.own ds))).set g none:=rfl
theorem ji:∀{M:Nat}{l:List Nat},l.Nodup->(∀x∈l,x<M)->l.length<=M
 | 0,l,_,h=>by
  cases l with
  | nil=>exact f_ _
  | cons x r=>exact absurd (h x mem_cons_self) (Ke _)
 | M+1,l,nd,h=>by
  by_cases c:M∈l
  .have h1:=ji (M:=M) (nd.erase M) (λx hx=>by
    have:=h x (mem_of_mem_erase hx);have hne:x≠M:=(nd.mem_erase_iff.mp hx).1;omega)
   rw [length_erase_of_mem c] at h1;omega
  .have:=ji (M:=M) nd (λx hx=>by
    have:=h x hx;have:x≠M:=λe=>c (e ▸ hx);omega)
   omega
theorem pD:∀{l m:List Nat},l.Nodup->(∀x∈l,x∈m)->m.length=l.length->m.Perm l
 | [],m,_,_,hl=>by rw [JQ.mp hl]
 | x::r,m,nd,h,hl=>by
  obtain⟨nx,nd⟩:=Lc.mp nd;have hx:=h x mem_cons_self;have p1:=perm_cons_erase hx;have ih:=pD (l:=r) (m:=m.erase x) nd (λy hy=>(mem_erase_of_ne (λ(e:y=x)=>nx (by rw [<- e];exact hy))).mpr (h y (n_ _ hy))) (by rw [length_erase_of_mem hx,hl];rfl);exact p1.trans (ih.cons x)
abbrev NrT:=Nat->Option (Int×Int)
abbrev bS:=List (Nat×Int×Int)
def eh(R:bS):List Nat:=R.map (·.1)
noncomputable def n6(R:bS)(j:Nat):Bool:=(eh R).contains j
def gZ{R:bS}:n6 R j=true ↔ j∈eh R:=JZ
def Ae{R:bS}:n6 R j=false ↔ j∉eh R:=by
 rw [<- gZ];cases n6 R j <;> simp
def cE{R:bS}:j∈eh R ↔ ∃d p,(j,d,p)∈R:=by
 unfold eh;rw [JA];exact⟨λ⟨⟨a,d,p⟩,h,e⟩=>by cases e;exact⟨d,p,h⟩,λ⟨d,p,h⟩=>⟨_,h,rfl⟩⟩
def lX(R S:bS):eh (R++S)=eh R++eh S:=map_append
noncomputable def kY(f:Nat->Int)(i:Nat)(v:Int):Nat->Int:=λj=>if j=i then v else f j
def b9{f:Nat->Int}{v:Int}:kY f i v i=v:=if_pos rfl
def bo{f:Nat->Int}{v:Int}(h:j≠i):kY f i v j=f j:=if_neg h
noncomputable def x9(R:bS)(f:NrT)(j:Nat)(st k:Int):Option (Int×Int):=match f j with
 | none=>if n6 R j then none else some (st,k)
 | some p=>if n6 R j=false/\st<p.1 then some (st,k) else some p
noncomputable def fo(sl:Nat->Int)(R:bS)(f:NrT)(k:Int)(m:Nat):NrT:=λj=>if j<m then x9 R f j (sl j) k else f j
noncomputable def eQ(f:NrT)(n:Nat)(mq:Int×Nat):Prop:=mq.2<n/\(∃p,f mq.2=some (mq.1,p))/\∀j,j<n->∀p,f j=some p->mq.1<p.1\/(mq.1=p.1/\mq.2<=j)
variable {f:NrT}
def vC{a b:Int×Nat}(ha:eQ f n a)(hb:eQ f n b):a=b:=by
 obtain⟨a1,a2⟩:=a;obtain⟨b1,b2⟩:=b;obtain⟨h1,⟨p,h2⟩,h3⟩:=ha;obtain⟨gSt,⟨q,g2⟩,g3⟩:=hb;have x:=h3 _ gSt _ g2;have y:=g3 _ h1 _ h2;simp only at x y;have e1:a1=b1:=by omega
 have e2:a2=b2:=by omega
 rw [e1,e2]
open Classical in
noncomputable def jj(f:NrT)(n:Nat):Int×Nat:=if h:∃mq,eQ f n mq then h.choose else (0,0)
def Af{mq:Int×Nat}(h:eQ f n mq):jj f n=mq:=by
 unfold jj;rw [dif_pos ⟨mq,h⟩];exact vC (MV (⟨mq,h⟩:∃mq,eQ f n mq)) h
noncomputable def CT(f:NrT)(q:Nat):Int:=((f q).getD (0,0)).2
noncomputable def pE(f:NrT)(q:Nat):NrT:=λj=>if j=q then none else f j
section
variable (n:Nat) (c:Nat->Nat->Int) (g t l:Nat->Int) (s:Nat)
def m5(i j:Nat):Int:=g i+t j - c i j
noncomputable def Ag:Nat->NrT->bS->Int->Int->Int->bS
 | 0,_,R,_,_,_=>R
 | m+1,f,R,i,x,k=>if i<0 then R else
   let f':=fo (λj=>x+g i.toNat+t j - c i.toNat j) R f k n
   Ag m (pE f' (jj f' n).2) (R++[((jj f' n).2,(jj f' n).1,CT f' (jj f' n).2)]) (l (jj f' n).2) (jj f' n).1 (jj f' n).2
noncomputable def GH:bS:=Ag n c g t l (n+1) (λ_=>none) [] s 0 (-1)
structure sC (s:Nat):Prop where
 c0:∀i j,i<n->j<n->0<=c i j
 up:∀i j,i<n->j<n->c i j<=g i+t j
 ld:∀j,j<n->l j=-1\/(0<=l j/\l j<s)
 tg:∀j,j<n->0<=l j->g (l j).toNat+t j=c (l j).toNat j
 inj:∀i j,i<n->j<n->0<=l i->l i=l j->i=j
 sur:∀i,i<s->∃j,j<n/\l j=i
 t0:∀j,j<n->0<=t j
 fr:∀j,j<n->l j=-1->t j=0
noncomputable def ya(R:bS)(e:Nat×Int×Int):Prop:=(e.2.2=-1/\e.2.1=m5 c g t s e.1)\/∃q,q∈R/\e.2.2=q.1/\0<=l q.1/\e.2.1=q.2.1+m5 c g t (l q.1).toNat e.1
noncomputable def ScP(R:bS)(r:Nat)(y:Int):Prop:=(r=s/\y=0)\/∃e,e∈R/\l e.1=r/\y=e.2.1
structure qN (Z:List (Nat×Int)) (f:NrT) (R:bS) (i x k:Int):Prop where
 nd:(eh R).Nodup
 rn:∀e,e∈R->e.1<n
 fn:∀j,(∃p,f j=some p)->j<n/\j∉eh R
 pr:∀R1 e R2,R=R1++e::R2->ya c g t l s R1 e
 pf:∀j p,f j=some p->ya c g t l s R (j,p.1,p.2)
 lr:∀e,e∈R->e.2.1<=x
 lf:∀j p,f j=some p->x<=p.1
 x0:0<=x
 zn:∀z,z∈Z->z.1<n/\∀j,j<n->(∃e,e∈R/\e.1=j/\e.2.1<=z.2+m5 c g t z.1 j)\/∃p,f j=some p/\p.1<=z.2+m5 c g t z.1 j
 sc:∀r y,ScP l s R r y->(r,y)∈Z\/((r:Int)=i/\y=x)
 at_:(k=-1/\i=s/\x=0/\R=[])\/∃R0 q p,R=R0++[(q,x,p)]/\k=(q:Nat)/\i=l q/\∀e,e∈R0->0<=l e.1
end
variable {c:Nat->Nat->Int}{g t l:Nat->Int}{s:Nat}
def ya.more{R S:bS}{e:Nat×Int×Int}(h:ya c g t l s R e):ya c g t l s (R++S) e:=h.imp id λ⟨q,h,r⟩=>⟨q,FX _ h,r⟩
def qN.start(hs:s<n):qN n c g t l s [] (λ_=>none) [] s 0 (-1) where
 nd:=nodup_nil
 rn:=λe h=>by cases h
 fn:=λj ⟨p,h⟩=>by cases h
 pr:=λR1 e R2 h=>by cases R1 <;> cases h
 pf:=λj p h=>by cases h
 lr:=λe h=>by cases h
 lf:=λj p h=>by cases h
 x0:=Kf _
 zn:=λz h=>by cases h
 sc:=λr y h=>by
  rcases h with ⟨rfl,rfl⟩|⟨e,h,_⟩
  .exact .inr ⟨rfl,rfl⟩
  .cases h
 at_:=.inl ⟨rfl,rfl,rfl,rfl⟩
def sC.free(F:sC n c g t l s)(hs:s<n):∃j,j<n/\l j=-1:=by
 refine Km λz=>?_;have al:∀j,j<n->0<=l j/\l j<s:=λj hj=>(F.ld j hj).resolve_left λe=>z ⟨j,hj,e⟩
 have nd:((c_ n).map λj=>(l j).toNat).Nodup:=by
  refine pairwise_map.mpr (Mv (R:=λa b=>a≠b) (λ{a b} ha hb hne he=>?_) nodup_range);rw [JB] at ha hb;have h1:=al a ha;have h2:=al b hb;exact hne (F.inj a b ha hb h1.1 (by omega))
 have:=ji (M:=s) nd λx hx=>by
  obtain⟨j,hj,rfl⟩:=JA.mp hx;rw [JB] at hj;have:=al j hj;omega
 rw [length_map,length_range] at this;omega
variable {sl:Nat->Int}
def lY{R:bS}{k:Int}{p:Int×Int}(h:fo sl R f k n j=some p)(fn:∀j,(∃p,f j=some p)->j<n/\j∉eh R):
  j<n/\j∉eh R/\(f j=some p\/p=(sl j,k)):=by
 unfold fo at h
 by_cases hj:j<n
 .rw [if_pos hj] at h;unfold x9 at h
  cases e:f j with
  | none =>
   rw [e] at h;simp only at h
   by_cases hr:n6 R j=true
   .rw [if_pos hr] at h;cases h
   .rw [if_neg hr] at h;cases h;exact⟨hj,λz=>hr (gZ.mpr z),.inr rfl⟩
  | some q =>
   rw [e] at h;simp only at h;have:=(fn j ⟨q,e⟩).2
   by_cases hr:n6 R j=false/\sl j<q.1
   .rw [if_pos hr] at h;cases h;exact⟨hj,this,.inr rfl⟩
   .rw [if_neg hr] at h;cases h;exact⟨hj,this,.inl rfl⟩
 .rw [if_neg hj] at h;exact⟨(fn j ⟨p,h⟩).1,(fn j ⟨p,h⟩).2,.inl h⟩
def yb{R:bS}{k:Int}(hj:j<n)(hr:j∉eh R):∃p,fo sl R f k n j=some p/\p.1<=sl j/\∀q,f j=some q->p.1<=q.1:=by
 unfold fo;rw [if_pos hj];have hr':=Ae.mpr hr;unfold x9
 cases e:f j with
 | none =>
  simp only;rw [if_neg (by rw [hr'];exact j_)];exact⟨_,rfl,Kf _,λq h=>by cases h⟩
 | some q =>
  simp only
  by_cases h:sl j<q.1
  .rw [if_pos ⟨hr',h⟩];exact⟨_,rfl,Kf _,λq' h'=>by cases h';exact Nh h⟩
  .rw [if_neg λz=>h z.2];exact⟨_,rfl,by omega,λq' h'=>by cases h';exact Kf _⟩
theorem uC:∀{m:Nat},(∃j p,j<m/\f j=some p)->∃mq,eQ f m mq
 | 0,⟨j,_,h,_⟩=>absurd h (Ke _)
 | m+1,⟨j,p,hj,e⟩=>by
  by_cases h:∃j p,j<m/\f j=some p
  .obtain⟨⟨a,q⟩,h1,⟨p1,h2⟩,h3⟩:=uC h
   cases em:f m with
   | none=>exact⟨(a,q),by show q<_;simp only at h1;omega,⟨p1,h2⟩,λj hj p hp=>by
     by_cases c:j=m
     .subst c;rw [em] at hp;cases hp
     .exact h3 j (by omega) p hp⟩
   | some pm =>
    by_cases c:pm.1<a
    .refine⟨(pm.1,m),JH _,⟨pm.2,em⟩,λj hj p hp=>?_⟩
     by_cases c2:j=m
     .subst c2;rw [em] at hp;cases hp;exact .inr ⟨rfl,f_ _⟩
     .have:=h3 j (by omega) p hp;simp only at this ⊢;omega
    .refine⟨(a,q),by show q<_;simp only at h1;omega,⟨p1,h2⟩,λj hj p hp=>?_⟩
     by_cases c2:j=m
     .subst c2;rw [em] at hp;cases hp;simp only at h1 ⊢;omega
     .exact h3 j (by omega) p hp
  .have jm:j=m:=by
    refine Km λz=>h ⟨j,p,by omega,e⟩
   subst jm
   exact⟨(p.1,j),JH _,⟨p.2,e⟩,λj' hj' p' hp'=>by
    by_cases c:j'=j
    .subst c;rw [e] at hp';cases hp';exact .inr ⟨rfl,f_ _⟩
    .exact absurd ⟨j',p',by omega,hp'⟩ h⟩
def qN.near{Z f R}{i x k:Int}(D:qN n c g t l s Z f R i x k)(F:sC n c g t l s)(hs:s<n)(h0:0<=i){sl:Nat->Int}:∃mq,eQ (fo sl R f k n) n mq:=by
 obtain⟨j,hj,ej⟩:=F.free hs;refine uC ⟨j,?_⟩
 have hr:j∉eh R:=λz=>by
  obtain⟨d,p,z⟩:=cE.mp z
  rcases D.at_ with ⟨_,_,_,e⟩|⟨R0,q,p2,e,_,e2,e3⟩
  .rw [e] at z;cases z
  .rw [e] at z
   rcases Jw.mp z with z|z
   .have:=e3 _ z;simp only at this;omega
   .rw [r_] at z;cases z;omega
 obtain⟨p,e,_⟩:=yb (sl:=sl) (f:=f) (k:=k) hj hr;exact⟨p,hj,e⟩
def qN.row{Z f R}{i x k:Int}(D:qN n c g t l s Z f R i x k)(F:sC n c g t l s)(hs:s<n)(h0:0<=i):i.toNat<n:=by
 rcases D.at_ with ⟨_,e,_⟩|⟨R0,q,p2,e,_,e2,e3⟩
 .omega
 .have:=F.ld q (D.rn _ (by rw [e];exact oe _ mem_cons_self));omega
def qN.step{Z f R}{i x k:Int}(D:qN n c g t l s Z f R i x k)(F:sC n c g t l s)(hs:s<n)(h0:0<=i){f':NrT}(ef:f'=fo (λj=>x+g i.toNat+t j - c i.toNat j) R f k n){mq:Int×Nat}(hq:eQ f' n mq) :
  qN n c g t l s ((i.toNat,x)::Z) (pE f' mq.2) (R++[(mq.2,mq.1,CT f' mq.2)]) (l mq.2) mq.1 mq.2:=by
 obtain⟨m,q⟩:=mq;obtain⟨h1,⟨p0,h2⟩,h3⟩:=hq;simp only at h1 h2 h3 ⊢;have hp0:CT f' q=p0:=by unfold CT;rw [h2];rfl
 rw [hp0];have hi:i.toNat<n:=D.row F hs h0;have sp:∀{j:Nat}{p:Int×Int},f' j=some p->j<n/\j∉eh R/\(f j=some p\/p=(x+g i.toNat+t j - c i.toNat j,k)):=λ{j p} h=>by rw [ef] at h;exact lY h D.fn
 have hqR:q∉eh R:=(sp h2).2.1
 have sle:∀{j:Nat},j<n->j∉eh R->∃p,f' j=some p/\p.1<=x+m5 c g t i.toNat j/\∀q,f j=some q->p.1<=q.1:=λ{j} hj hr=>by
  obtain⟨p,e1,e2,e3⟩:=yb (sl:=λj=>x+g i.toNat+t j - c i.toNat j) (f:=f) (k:=k) hj hr;refine⟨p,by rw [ef];exact e1,?_,e3⟩;unfold m5;have e2:p.1<=x+g i.toNat+t j - c i.toNat j:=e2;omega
 have pre1:∀{j:Nat}{p:Int×Int},f' j=some p->ya c g t l s R (j,p.1,p.2):=λ{j p} h=>by
  rcases (sp h).2.2 with e|e
  .exact D.pf j p e
  .rw [e]
   rcases D.at_ with ⟨e1,e2,e3,e4⟩|⟨R0,q',p2,e1,e2,e3,e4⟩
   .refine .inl ⟨e1,?_⟩;show x+g i.toNat+t j - c i.toNat j=m5 c g t s j;unfold m5;rw [e2,e3,toNat_natCast];omega
   .refine .inr ⟨(q',x,p2),by rw [e1];exact oe _ mem_cons_self,e2,by show 0<=l q';omega,?_⟩;show x+g i.toNat+t j - c i.toNat j=x+m5 c g t (l q').toNat j;unfold m5;rw [<- e3];omega
 have sl0:∀j,j<n->0<=m5 c g t i.toNat j:=λj hj=>by
  have:=F.up i.toNat j hi hj;unfold m5;omega
 have xm:x<=m:=by
  rcases (sp h2).2.2 with e|e
  .exact D.lf q _ e
  .have:=sl0 q h1;unfold m5 at this;have e:=congrArg tj e;simp only at e;omega
 have dn:∀{j:Nat}{p:Int×Int},pE f' q j=some p->j≠q/\f' j=some p:=λ{j p} h=>by
  unfold pE at h
  by_cases c:j=q
  .rw [if_pos c] at h;cases h
  .rw [if_neg c] at h;exact⟨c,h⟩
 refine⟨?_,?_,?_,?_,?_,?_,?_,by have:=D.x0;omega,?_,?_,?_⟩
 .rw [lX];refine LD.mpr ⟨D.nd,by simp [eh],λa ha b hb e=>?_⟩;have:b=q:=by simpa [eh] using hb
  exact hqR (by rw [<- this,<- e];exact ha)
 .intro e he
  rcases Jw.mp he with he|he
  .exact D.rn e he
  .rw [r_] at he;rw [he];exact h1
 .rintro j ⟨p,hp⟩;obtain⟨a,b⟩:=dn hp;refine⟨(sp b).1,?_⟩;rw [lX];intro z
  rcases Jw.mp z with z|z
  .exact (sp b).2.1 z
  .exact a (by simpa [eh] using z)
 .intro R1 e R2 he
  rcases append_eq_append_iff.mp he with ⟨as,e1,e2⟩|⟨bs,e1,e2⟩
  .cases as with
   | nil =>
    rw [JY] at e1;rw [nil_append] at e2;cases e2;rw [e1];exact pre1 h2
   | cons a as =>
    rw [cons_append] at e2;have e3:=(List.cons.inj e2).2;cases as <;> cases e3
  .cases bs with
   | nil =>
    rw [JY] at e1;rw [nil_append] at e2;cases e2;rw [<- e1];exact pre1 h2
   | cons b bs =>
    rw [cons_append] at e2;obtain⟨e3,e4⟩:=List.cons.inj e2;rw [e3];exact D.pr R1 b bs e1
 .intro j p hp;exact (pre1 (dn hp).2).more
 .intro e he
  rcases Jw.mp he with he|he
  .have:=D.lr e he;omega
  .rw [r_] at he;rw [he];exact Kf _
 .intro j p hp;have:=h3 j (sp (dn hp).2).1 p (dn hp).2;omega
 .intro z hz
  have keep:∀j,j<n->∀v:Int,(∃p,f' j=some p/\p.1<=v)->(∃e,e∈R++[(q,m,p0)]/\e.1=j/\e.2.1<=v)\/∃p,pE f' q j=some p/\p.1<=v:=λj hj v ⟨p,e,hv⟩=>by
   by_cases c:j=q
   .subst c;rw [h2] at e;cases e;exact .inl ⟨_,oe _ mem_cons_self,rfl,hv⟩
   .exact .inr ⟨p,by unfold pE;rw [if_neg c];exact e,hv⟩
  rcases mem_cons.mp hz with rfl|hz
  .refine⟨hi,λj hj=>?_⟩
   by_cases cR:j∈eh R
   .obtain⟨d,p,hm⟩:=cE.mp cR;have:=D.lr _ hm;have:=sl0 j hj;exact .inl ⟨_,FX _ hm,rfl,by simp only at *;omega⟩
   .obtain⟨p,e1,e2,_⟩:=sle hj cR;exact keep j hj _ ⟨p,e1,e2⟩
  .obtain⟨a,b⟩:=D.zn z hz;refine⟨a,λj hj=>?_⟩
   rcases b j hj with ⟨e,he,h⟩|⟨p,he,h⟩
   .exact .inl ⟨e,FX _ he,h⟩
   .obtain⟨p2,e1,_,e3⟩:=sle hj (D.fn j ⟨p,he⟩).2;have:=e3 _ he;exact keep j hj _ ⟨p2,e1,by omega⟩
 .intro r y h
  rcases h with ⟨rfl,rfl⟩|⟨e,he,h⟩
  .rcases D.sc r 0 (.inl ⟨rfl,rfl⟩) with h|⟨h,h'⟩
   .exact .inl (n_ _ h)
   .refine .inl (mem_cons.mpr (.inl ?_));rw [<- h',<- h,toNat_natCast]
  .rcases Jw.mp he with he|he
   .rcases D.sc r y (.inr ⟨e,he,h⟩) with h|⟨h,h'⟩
    .exact .inl (n_ _ h)
    .refine .inl (mem_cons.mpr (.inl ?_));rw [<- h',<- h,toNat_natCast]
   .rw [r_] at he;subst he;exact .inr ⟨h.1.symm,h.2⟩
 .refine .inr ⟨R,q,p0,rfl,rfl,rfl,λe he=>?_⟩
  rcases D.at_ with ⟨_,_,_,e1⟩|⟨R0,q',p2,e1,e2,e3,e4⟩
  .rw [e1] at he;cases he
  .rw [e1] at he
   rcases Jw.mp he with he|he
   .exact e4 e he
   .rw [r_] at he;rw [he];show 0<=l q';omega
def qN.len{Z f R}{i x k:Int}(D:qN n c g t l s Z f R i x k):R.length<=n:=by
 have:=ji (M:=n) D.nd λj hj=>by
  obtain⟨d,p,h⟩:=cE.mp hj;exact D.rn _ h
 unfold eh at this;rw [length_map] at this;exact this
structure Bi (n:Nat) (c:Nat->Nat->Int) (g t l:Nat->Int) (s:Nat) (R0:bS) (q:Nat) (x p:Int):Prop where
 nd:(eh (R0++[(q,x,p)])).Nodup
 rn:∀e,e∈R0++[(q,x,p)]->e.1<n
 pr:∀R1 e R2,R0++[(q,x,p)]=R1++e::R2->ya c g t l s R1 e
 lr:∀e,e∈R0++[(q,x,p)]->e.2.1<=x
 x0:0<=x
 fr:l q<0
 ld:∀e,e∈R0->0<=l e.1
 sc:∀r y,ScP l s (R0++[(q,x,p)]) r y->r<n/\∀j,j<n->(∃e,e∈R0++[(q,x,p)]/\e.1=j/\e.2.1<=y+m5 c g t r j)\/(j∉eh (R0++[(q,x,p)])/\x<=y+m5 c g t r j)
def qN.way{Z f R}{i x k:Int}(D:qN n c g t l s Z f R i x k)(h:i<0):∃R0 q p,R=R0++[(q,x,p)]/\Bi n c g t l s R0 q x p:=by
 rcases D.at_ with ⟨_,e,_⟩|⟨R0,q,p,e,e2,e3,e4⟩
 .omega
 .subst e;refine⟨R0,q,p,rfl,D.nd,D.rn,D.pr,D.lr,D.x0,by omega,e4,λr y hs=>?_⟩
  rcases D.sc r y hs with z|⟨z,_⟩
  .obtain⟨a,b⟩:=D.zn _ z;refine⟨a,λj hj=>(b j hj).imp id λ⟨p,e,h⟩=>⟨(D.fn j ⟨p,e⟩).2,?_⟩⟩;have:=D.lf _ _ e;simp only at h;omega
  .omega
noncomputable def upF(l:Nat->Int)(F:Int)(tg:(Nat->Int)×(Nat->Int))(e:Nat×Int×Int):(Nat->Int)×(Nat->Int) :=
 if 0<=l e.1 then (kY tg.1 e.1 (tg.1 e.1+(F - e.2.1)),kY tg.2 (l e.1).toNat (tg.2 (l e.1).toNat - (F - e.2.1))) else tg
theorem FF{F:Int}:∀{R:bS}{tg:(Nat->Int)×(Nat->Int)}{j:Nat},(eh R).Nodup ->
  (∀e,e∈R->e.1=j->0<=l j->(R.foldl (upF l F) tg).1 j=tg.1 j+(F - e.2.1))/\(j∉eh R\/l j<0->(R.foldl (upF l F) tg).1 j=tg.1 j)
 | [],tg,j,_=>⟨λe h=>(by cases h),λ_=>rfl⟩
 | a::R,tg,j,nd=>by
  have nd:(a.1::eh R).Nodup:=nd;obtain⟨na,nd⟩:=Lc.mp nd;obtain⟨ih1,ih2⟩:=FF (F:=F) (R:=R) (tg:=upF l F tg a) (j:=j) nd;rw [foldl_cons]
  have st:(a.1=j->0<=l j->(upF l F tg a).1 j=tg.1 j+(F - a.2.1))/\(a.1≠j\/l j<0->(upF l F tg a).1 j=tg.1 j):=by
   unfold upF
   refine⟨λe h=>?_,λh=>?_⟩
   .subst e;rw [if_pos h];exact b9
   .by_cases c:0<=l a.1
    .rw [if_pos c];refine bo λe=>?_;subst e
     rcases h with h|h
     .exact h rfl
     .omega
    .rw [if_neg c]
  refine⟨λe he ej h=>?_,λh=>?_⟩
  .rcases mem_cons.mp he with rfl|he
   .rw [ih2 (.inl (by rw [<- ej];exact na)),st.1 ej h]
   .rw [ih1 e he ej h,st.2 (.inl λz=>na (by rw [z,<- ej];exact cE.mpr ⟨_,_,he⟩))]
  .rw [ih2 (h.imp (λz y=>z (n_ _ y)) id),st.2 (h.imp (λz y=>z (by rw [<- y];exact mem_cons_self)) id)]
theorem GI{F:Int}:∀{R:bS}{tg:(Nat->Int)×(Nat->Int)}{i:Nat},(eh R).Nodup->(∀a b,a∈R->b∈R->0<=l a.1->l a.1=l b.1->a.1=b.1) ->
  (∀e,e∈R->l e.1=i->(R.foldl (upF l F) tg).2 i=tg.2 i - (F - e.2.1))/\((∀e,e∈R->l e.1≠i)->(R.foldl (upF l F) tg).2 i=tg.2 i)
 | [],tg,i,_,_=>⟨λe h=>(by cases h),λ_=>rfl⟩
 | a::R,tg,i,nd,inj=>by
  have nd:(a.1::eh R).Nodup:=nd;obtain⟨na,nd⟩:=Lc.mp nd;obtain⟨ih1,ih2⟩:=GI (F:=F) (R:=R) (tg:=upF l F tg a) (i:=i) nd λx y hx hy=>inj x y (n_ _ hx) (n_ _ hy);rw [foldl_cons]
  have st:(l a.1=i->(upF l F tg a).2 i=tg.2 i - (F - a.2.1))/\(l a.1≠i->(upF l F tg a).2 i=tg.2 i):=by
   unfold upF
   refine⟨λe=>?_,λh=>?_⟩
   .rw [if_pos (by omega)];have:(l a.1).toNat=i:=by omega
    rw [this];exact b9
   .by_cases c:0<=l a.1
    .rw [if_pos c];exact bo λe=>h (by omega)
    .rw [if_neg c]
  refine⟨λe he ej=>?_,λh=>?_⟩
  .rcases mem_cons.mp he with rfl|he
   .rw [ih2 λb hb eb=>?_,st.1 ej];have:=inj e b mem_cons_self (n_ _ hb) (by omega) (by omega);exact na (by rw [this];exact cE.mpr ⟨_,_,hb⟩)
   .rw [ih1 e he ej,st.2 λz=>?_];have:=inj a e mem_cons_self (n_ _ he) (by omega) (by omega);exact na (by rw [this];exact cE.mpr ⟨_,_,he⟩)
  .rw [ih2 λe he=>h e (n_ _ he),st.2 (h a mem_cons_self)]
noncomputable def prv(R:bS)(q:Nat):Int:=((R.find? (·.1 == q)).getD (0,0,-1)).2.2
noncomputable def iM(R:bS)(s:Nat):Nat->(Nat->Int)->Int->(Nat->Int)
 | 0,L,_=>L
 | m+1,L,k=>if k<0 then L else iM R s m (kY L k.toNat (if 0<=prv R k.toNat then L (prv R k.toNat).toNat else s)) (prv R k.toNat)
theorem jk:∀{R:bS}{q:Nat}{d p:Int},(eh R).Nodup->(q,d,p)∈R->R.find? (·.1 == q)=some (q,d,p)
 | [],_,_,_,_,h=>by cases h
 | a::R,q,d,p,nd,h=>by
  have nd:(a.1::eh R).Nodup:=nd;obtain⟨na,nd⟩:=Lc.mp nd
  rcases mem_cons.mp h with rfl|h
  .rw [find?_cons_of_pos (by simp)]
  .rw [find?_cons_of_neg,jk nd h];have:a.1≠q:=λz=>na (by rw [z];exact cE.mpr ⟨_,_,h⟩);simp [this]
def Bj{R:bS}{q:Nat}{d p:Int}(nd:(eh R).Nodup)(h:(q,d,p)∈R):prv R q=p:=by
 unfold prv;rw [jk nd h];rfl
section
variable (n:Nat) (c:Nat->Nat->Int) (g t l:Nat->Int) (s:Nat)
structure CU (L:Nat->Int) (k:Nat):Prop where
 ld:∀j,j<n->j≠k->L j=-1\/(0<=L j/\L j<s)
 tg:∀j,j<n->j≠k->0<=L j->g (L j).toNat+t j=c (L j).toNat j
 inj:∀i j,i<n->j<n->i≠k->j≠k->0<=L i->L i=L j->i=j
 sur:∀i,i<s->∃j,j<n/\j≠k/\L j=i
 fr:∀j,j<n->j≠k->L j=-1->t j=0
end
def yc{R:bS}{g' t' L:Nat->Int}{R1 R2:bS}{e:Nat×Int×Int}(nd:(eh R).Nodup)(rn:∀e,e∈R->e.1<n)(he:R=R1++e::R2)(pr:ya c g t l s R1 e)(ti:∀r,(e.2.2=-1/\r=s)\/(∃a,a∈R1/\e.2.2=a.1/\0<=l a.1/\r=(l a.1).toNat)->g' r+t' e.1=c r e.1)(H:CU n c g' t' s L e.1)(ag:∀a,a∈R1->L a.1=l a.1):
  (e.2.2=-1/\(∀j,j<n->kY L e.1 s j=-1\/(0<=kY L e.1 s j/\kY L e.1 s j<s+1))/\(∀j,j<n->0<=kY L e.1 s j->g' (kY L e.1 s j).toNat+t' j=c (kY L e.1 s j).toNat j)
  /\(∀i j,i<n->j<n->0<=kY L e.1 s i->kY L e.1 s i=kY L e.1 s j->i=j)/\(∀i,i<s+1->∃j,j<n/\kY L e.1 s j=i)/\(∀j,j<n->kY L e.1 s j=-1->t' j=0))
 \/∃S1 a S2,R1=S1++a::S2/\e.2.2=a.1/\CU n c g' t' s (kY L e.1 (L a.1)) a.1/\∀b,b∈S1->kY L e.1 (L a.1) b.1=l b.1:=by
 have en:e.1<n:=rn e (by rw [he];exact oe _ mem_cons_self)
 have ne:∀a,a∈R1->a.1≠e.1:=λa ha z=>by
  rw [he,lX] at nd;exact (LD.mp nd).2.2 a.1 (cE.mpr ⟨_,_,ha⟩) e.1 mem_cons_self z
 rcases pr with ⟨e1,_⟩|⟨a,ha,e1,e2,_⟩
 .refine .inl ⟨e1,λj hj=>?_,λj hj h0=>?_,λi j hi hj h0 h=>?_,λi hi=>?_,λj hj h=>?_⟩
  .by_cases cj:j=e.1
   .subst cj;rw [b9];exact .inr ⟨by omega,by omega⟩
   .rw [bo cj];exact (H.ld j hj cj).imp id λz=>⟨z.1,by omega⟩
  .by_cases cj:j=e.1
   .subst cj;rw [b9,toNat_natCast];exact ti s (.inl ⟨e1,rfl⟩)
   .rw [bo cj] at h0 ⊢;exact H.tg j hj cj h0
  .by_cases ci:i=e.1 <;> by_cases cj:j=e.1
   .rw [ci,cj]
   .exfalso;rw [ci,b9,bo cj] at h;rcases H.ld j hj cj with z|z <;> omega
   .exfalso;rw [cj,b9,bo ci] at h;rcases H.ld i hi ci with z|z <;> omega
   .rw [bo ci] at h0;rw [bo ci,bo cj] at h;exact H.inj i j hi hj ci cj h0 h
  .by_cases c:i=s
   .exact⟨e.1,en,by rw [b9,c]⟩
   .obtain⟨j,h1,h2,h3⟩:=H.sur i (by omega);exact⟨j,h1,by rw [bo h2];exact h3⟩
  .by_cases cj:j=e.1
   .subst cj;rw [b9] at h;omega
   .rw [bo cj] at h;exact H.fr j hj cj h
 .obtain⟨S1,S2,es⟩:=append_of_mem ha;have an:a.1<n:=rn a (by rw [he];exact FX _ ha);have La:=ag a ha;have nae:=ne a ha
  have sa:∀b,b∈S1->b.1≠a.1:=λb hb z=>by
   rw [he,lX] at nd;have nd:=(LD.mp nd).1;rw [es,lX] at nd;exact (LD.mp nd).2.2 b.1 (cE.mpr ⟨_,_,hb⟩) a.1 mem_cons_self z
  refine .inr ⟨S1,a,S2,es,e1,⟨λj hj ja=>?_,λj hj ja h0=>?_,λi j hi hj ia ja h0 h=>?_,λi hi=>?_,λj hj ja h=>?_⟩,λb hb=>?_⟩
  .by_cases cj:j=e.1
   .subst cj;rw [b9];exact H.ld a.1 an nae
   .rw [bo cj];exact H.ld j hj cj
  .by_cases cj:j=e.1
   .subst cj;rw [b9,La];exact ti _ (.inr ⟨a,ha,e1,e2,rfl⟩)
   .rw [bo cj] at h0 ⊢;exact H.tg j hj cj h0
  .by_cases ci:i=e.1 <;> by_cases cj:j=e.1
   .rw [ci,cj]
   .exfalso;rw [ci,b9] at h0;rw [ci,b9,bo cj] at h;exact ja (H.inj a.1 j an hj nae cj h0 h).symm
   .exfalso;rw [bo ci] at h0;rw [cj,b9,bo ci] at h;exact ia (H.inj i a.1 hi an ci nae h0 h)
   .rw [bo ci] at h0;rw [bo ci,bo cj] at h;exact H.inj i j hi hj ci cj h0 h
  .obtain⟨j,h1,h2,h3⟩:=H.sur i hi
   by_cases c:j=a.1
   .exact⟨e.1,en,λz=>nae z.symm,by rw [b9,<- c,h3]⟩
   .exact⟨j,h1,c,by rw [bo h2];exact h3⟩
  .by_cases cj:j=e.1
   .subst cj;rw [b9,La] at h;omega
   .rw [bo cj] at h;exact H.fr j hj cj h
  .rw [bo (ne b (by rw [es];exact FX _ hb))];exact ag b (by rw [es];exact FX _ hb)
theorem uD{R:bS}{g' t':Nat->Int}(nd:(eh R).Nodup)(rn:∀e,e∈R->e.1<n)(ti:∀R1 e R2,R=R1++e::R2->ya c g t l s R1 e/\∀r,(e.2.2=-1/\r=s)\/(∃a,a∈R1/\e.2.2=a.1/\0<=l a.1/\r=(l a.1).toNat)->g' r+t' e.1=c r e.1)(c0:∀i j,i<n->j<n->0<=c i j)(up:∀i j,i<n->j<n->c i j<=g' i+t' j)(t0:∀j,j<n->0<=t' j):
  ∀(m:Nat) (R1:bS) (e:Nat×Int×Int) (R2:bS) (L:Nat->Int),R=R1++e::R2->R1.length<m->CU n c g' t' s L e.1->(∀a,a∈R1->L a.1=l a.1) ->
   sC n c g' t' (iM R s m L e.1) (s+1)
 | 0,_,_,_,_,_,h,_,_=>absurd h (Ke _)
 | m+1,R1,e,R2,L,he,hm,H,ag=>by
  have hp:prv R ((e.1:Nat):Int).toNat=e.2.2:=by
   rw [toNat_natCast];exact Bj (d:=e.2.1) nd (by rw [he];exact oe _ mem_cons_self)
  obtain⟨pr,ti'⟩:=ti R1 e R2 he;unfold iM;rw [if_neg (by omega),hp,toNat_natCast]
  rcases yc nd rn he pr ti' H ag with ⟨e1,h1,h2,h3,h4,h5⟩|⟨S1,a,S2,es,e1,H',ag'⟩
  .rw [e1,if_neg (by omega)]
   have:∀(m:Nat) (L:Nat->Int),iM R s m L (-1)=L:=λm L=>by
    cases m with
    | zero=>rfl
    | succ m=>unfold iM;rw [if_pos (by omega)]
   rw [this];exact⟨c0,up,h1,h2,h3,h4,t0,h5⟩
  .rw [e1,if_pos (by omega),toNat_natCast];exact uD nd rn ti c0 up t0 m S1 a (S2++e::R2) _ (by rw [he,es,KU];rfl) (by rw [es,length_append,length_cons] at hm;omega) H' ag'
noncomputable def gSt(g:Nat->Int)(s:Nat)(F:Int):Nat->Int:=kY g s (g s - F)
def Bi.fit{R0:bS}{q:Nat}{x p:Int}(W:Bi n c g t l s R0 q x p)(A:sC n c g t l s)(hs:s<n){m:Nat}(hm:R0.length<m):
  sC n c ((R0++[(q,x,p)]).foldl (upF l x) (t,gSt g s x)).2 ((R0++[(q,x,p)]).foldl (upF l x) (t,gSt g s x)).1 (iM (R0++[(q,x,p)]) s m l q) (s+1)
  /\∀i,i<n->0<=((R0++[(q,x,p)]).foldl (upF l x) (t,gSt g s x)).2 i:=by
 have lq:l q=-1:=by
  rcases A.ld q (W.rn _ (oe _ mem_cons_self)) with h|h
  .exact h
  .have:=W.fr;omega
 have wfr:=W.fr;generalize hR:R0++[(q,x,p)]=R at *;have hnd:(eh R).Nodup:=by rw [<- hR];exact W.nd
 have hrn:∀e,e∈R->e.1<n:=by rw [<- hR];exact W.rn
 have hpr:∀R1 e R2,R=R1++e::R2->ya c g t l s R1 e:=by rw [<- hR];exact W.pr
 have hlr:∀e,e∈R->e.2.1<=x:=by rw [<- hR];exact W.lr
 have hsc:∀r y,ScP l s R r y->r<n/\∀j,j<n->(∃e,e∈R/\e.1=j/\e.2.1<=y+m5 c g t r j)\/(j∉eh R/\x<=y+m5 c g t r j):=by rw [<- hR];exact W.sc
 have hq:(q,x,p)∈R:=by rw [<- hR];exact oe _ mem_cons_self
 have hl:∀e,e∈R->l e.1<0->e.2.1=x:=λe he h=>by
  rw [<- hR] at he
  rcases Jw.mp he with he|he
  .have:=W.ld e he;omega
  .rw [r_] at he;rw [he]
 have hinj:∀a b,a∈R->b∈R->0<=l a.1->l a.1=l b.1->a.1=b.1:=λa b ha hb h e=>A.inj a.1 b.1 (hrn a ha) (hrn b hb) h e;have ent:∀e,e∈R->∀j,e.1=j->∃d p,(j,d,p)∈R/\e=(j,d,p):=λe he j ej=>⟨e.2.1,e.2.2,by subst ej;exact he,by subst ej;rfl⟩
 generalize hg:(R.foldl (upF l x) (t,gSt g s x)).2=g';generalize ht:(R.foldl (upF l x) (t,gSt g s x)).1=t'
 -- the prices told
 have tR:∀e,e∈R->t' e.1=t e.1+(x - e.2.1):=λe he=>by
  rw [<- ht]
  by_cases h:0<=l e.1
  .exact (FF hnd).1 e he rfl h
  .rw [(FF hnd).2 (.inr (by omega)),hl e he (by omega)];show t e.1=_;omega
 have tN:∀j,j∉eh R->t' j=t j:=λj h=>by rw [<- ht];exact (FF hnd).2 (.inl h)
 have tF:∀j,l j<0->t' j=t j:=λj h=>by rw [<- ht];exact (FF hnd).2 (.inr h)
 have ls:∀e,e∈R->l e.1≠(s:Int):=λe he z=>by
  rcases A.ld e.1 (hrn e he) with h|h <;> omega
 have gS:g' s=g s - x:=by
  rw [<- hg,(GI hnd hinj).2 ls];exact b9
 have gR:∀e,e∈R->∀i:Nat,l e.1=i->g' i=g i - (x - e.2.1):=λe he i ei=>by
  rw [<- hg,(GI hnd hinj).1 e he ei];show kY g s _ i - _=_;rw [bo λz=>ls e he (by rw [ei,z])]
 have gN:∀i,i≠s->(∀e,e∈R->l e.1≠(i:Int))->g' i=g i:=λi h1 h2=>by
  rw [<- hg,(GI hnd hinj).2 h2];exact bo h1
 -- what a scanned row's price became
 have gSc:∀r y,ScP l s R r y->g' r=g r - (x - y):=λr y h=>by
  rcases h with ⟨rfl,rfl⟩|⟨e,he,h1,h2⟩
  .rw [gS];omega
  .rw [gR e he r h1,h2]
 have scOr:∀i,(∃y,ScP l s R i y)\/(i≠s/\∀e,e∈R->l e.1≠(i:Int)):=λi=>by
  by_cases h:i=s
  .exact .inl ⟨0,.inl ⟨h,rfl⟩⟩
  .by_cases h2:∃e,e∈R/\l e.1=(i:Int)
   .obtain⟨e,he,h2⟩:=h2;exact .inl ⟨e.2.1,.inr ⟨e,he,h2,rfl⟩⟩
   .exact .inr ⟨h,λe he z=>h2 ⟨e,he,z⟩⟩
 have uniq:∀{j d p d' p'},(j,d,p)∈R->(j,d',p')∈R->d=d':=λ{j d p d' p'} h1 h2=>by
  have a:=jk hnd h1;rw [jk hnd h2] at a;cases a;rfl
 have up:∀i j,i<n->j<n->c i j<=g' i+t' j:=λi j hi hj=>by
  have u:=A.up i j hi hj
  rcases scOr i with ⟨y,h⟩|⟨h1,h2⟩
  .rw [gSc i y h]
   rcases (hsc i y h).2 j hj with ⟨e,he,ej,hle⟩|⟨hn,hle⟩
   .subst ej;rw [tR e he];unfold m5 at hle;omega
   .rw [tN j hn];unfold m5 at hle;omega
  .rw [gN i h1 h2]
   by_cases hj2:j∈eh R
   .obtain⟨d,p,hm⟩:=cE.mp hj2;have:=tR _ hm;have:=hlr _ hm;simp only at *;omega
   .rw [tN j hj2];exact u
 have t0:∀j,j<n->0<=t' j:=λj hj=>by
  have u:=A.t0 j hj
  by_cases hj2:j∈eh R
  .obtain⟨d,p,hm⟩:=cE.mp hj2;have:=tR _ hm;have:=hlr _ hm;simp only at *;omega
  .rw [tN j hj2];exact u
 have tight:∀j,j<n->0<=l j->g' (l j).toNat+t' j=c (l j).toNat j:=λj hj h=>by
  have u:=A.tg j hj h
  by_cases hj2:j∈eh R
  .obtain⟨d,p,hm⟩:=cE.mp hj2;have a:=tR _ hm;have b:=gR _ hm (l j).toNat (by show l j=_;omega);simp only at a b;rw [a,b];omega
  .rw [tN j hj2,gN]
   .exact u
   .intro z;rcases A.ld j hj with h|h <;> omega
   .intro e he z;have:=A.inj j e.1 hj (hrn e he) h (by omega);exact hj2 (by rw [this];exact cE.mpr ⟨_,_,he⟩)
 have ti:∀R1 e R2,R=R1++e::R2->ya c g t l s R1 e/\∀r,(e.2.2=-1/\r=s)\/(∃a,a∈R1/\e.2.2=a.1/\0<=l a.1/\r=(l a.1).toNat)->g' r+t' e.1=c r e.1:=λR1 e R2 h=>by
  have hp:=hpr R1 e R2 h;have he:e∈R:=by rw [h];exact oe _ mem_cons_self
  refine⟨hp,λr hr=>?_⟩;have a:=tR e he
  rcases hr with ⟨z,rfl⟩|⟨b,hb,z1,z2,rfl⟩
  .rcases hp with ⟨_,h2⟩|⟨q',_,h2,_⟩
   .rw [gS,a,h2];unfold m5;omega
   .omega
  .have hbR:b∈R:=by rw [h];exact FX _ hb
   rcases hp with ⟨h1,_⟩|⟨q',hq',h1,h2,h3⟩
   .omega
   .have e2:q'.1=b.1:=by omega
    obtain⟨qa,qd,qp⟩:=q';obtain⟨ba,bd,bp⟩:=b;simp only at e2 h1 h2 h3 z1 z2 ⊢;subst e2;have hqR:(qa,qd,qp)∈R:=by rw [h];exact FX _ hq'
    have:=gR _ hqR (l qa).toNat (by show l qa=_;omega);simp only at this;rw [this,a,h3];unfold m5;omega
 refine⟨uD hnd hrn ti A.c0 up t0 m R0 (q,x,p) [] l hR.symm hm ⟨λj hj _=>A.ld j hj,λj hj _ h=>tight j hj h,λi j hi hj _ _ h e=>A.inj i j hi hj h e,λi hi=>?_,λj hj _ h=>?_⟩ λa _=>rfl,λi hi=>?_⟩
 .obtain⟨j,hj,e⟩:=A.sur i hi;exact⟨j,hj,λz=>by rw [z] at e;simp only at e;omega,e⟩
 .rw [tF j (by omega)];exact A.fr j hj h
 .have hqn:=hrn _ hq;have a:=up i q hi hqn;have b:=A.c0 i q hi hqn;have e:t' q=0:=by rw [tF q (by omega)];exact A.fr q hqn lq
  omega
def qO{m:Nat}{R:bS}{i x k:Int}(h:i<0):Ag n c g t l m f R i x k=R:=by
 cases m with
 | zero=>rfl
 | succ m=>unfold Ag;rw [if_pos h]
def qP{m:Nat}{f':NrT}{R:bS}{i x k:Int}(h:0<=i)(ef:f'=fo (λj=>x+g i.toNat+t j - c i.toNat j) R f k n){mq:Int×Nat}(hq:eQ f' n mq):
  Ag n c g t l (m+1) f R i x k=Ag n c g t l m (pE f' mq.2) (R++[(mq.2,mq.1,CT f' mq.2)]) (l mq.2) mq.1 mq.2:=by
 rw [Ag,if_neg (by omega)];simp only;rw [<- ef,Af hq]
theorem yd(F:sC n c g t l s)(hs:s<n):∀(m:Nat) (Z:List (Nat×Int)) (f:NrT) (R:bS) (i x k:Int),qN n c g t l s Z f R i x k->n<R.length+m ->
  ∃R0 q x' p,Ag n c g t l m f R i x k=R0++[(q,x',p)]/\Bi n c g t l s R0 q x' p
 | 0,_,_,R,_,_,_,D,h=>absurd D.len (by omega)
 | m+1,Z,f,R,i,x,k,D,h=>by
  by_cases hi:i<0
  .rw [qO hi];obtain⟨R0,q,p,e,W⟩:=D.way hi;exact⟨R0,q,x,p,e,W⟩
  .obtain⟨mq,hq⟩:=D.near F hs (by omega) (sl:=λj=>x+g i.toNat+t j - c i.toNat j);rw [qP (by omega) rfl hq];exact yd F hs m _ _ _ _ _ _ (D.step F hs (by omega) rfl hq) (by rw [length_append];simp only [length_cons,length_nil];omega)
def FG(F:sC n c g t l s)(hs:s<n):∃R0 q x p,GH n c g t l s=R0++[(q,x,p)]/\Bi n c g t l s R0 q x p :=
 yd F hs (n+1) [] _ [] s 0 (-1) (qN.start hs) (by simp)
abbrev PrT:=(Nat->Int)×(Nat->Int)×(Nat->Int)
noncomputable def ye(R:bS):Nat×Int×Int:=R.getLastD (0,0,-1)
noncomputable def lZ(n:Nat)(c:Nat->Nat->Int)(s:Nat)(S:PrT):PrT :=
 let R:=GH n c S.1 S.2.1 S.2.2 s
 let tg:=R.foldl (upF S.2.2 (ye R).2.1) (S.2.1,gSt S.1 s (ye R).2.1)
 (tg.2,tg.1,iM R s (n+1) S.2.2 (ye R).1)
def qQ{R:bS}{e:Nat×Int×Int}:ye (R++[e])=e:=by
 unfold ye;rw [getLastD_eq_getLast?,getLast?_append];rfl
def Bi.len{R0:bS}{q:Nat}{x p:Int}(W:Bi n c g t l s R0 q x p):R0.length+1<=n:=by
 have:=ji (M:=n) W.nd λj hj=>by
  obtain⟨d,p,h⟩:=cE.mp hj;exact W.rn _ h
 unfold eh at this;rw [length_map,length_append] at this;exact this
def qR{S:PrT}(A:sC n c S.1 S.2.1 S.2.2 s)(hs:s<n):sC n c (lZ n c s S).1 (lZ n c s S).2.1 (lZ n c s S).2.2 (s+1)/\∀i,i<n->0<=(lZ n c s S).1 i:=by
 obtain⟨R0,q,x,p,e,W⟩:=FG A hs;have:=W.fit A hs (m:=n+1) (by have:=W.len;omega);unfold lZ;simp only;rw [e,qQ];exact this
noncomputable def yL(f:Nat->Int):Nat->Int
 | 0=>0
 | 1=>f 0
 | m+2=>if yL f (m+1)<f (m+1) then f (m+1) else yL f (m+1)
theorem sD{f:Nat->Int}:∀{m j:Nat},j<m->f j<=yL f m
 | 0,_,h=>absurd h (Ke _)
 | 1,j,h=>by
  have:j=0:=by omega
  subst this;exact Kf _
 | m+2,j,h=>by
  unfold yL
  by_cases c:j=m+1
  .subst c;split <;> omega
  .have:=sD (f:=f) (m:=m+1) (j:=j) (by omega);split <;> omega
theorem uE{f:Nat->Int}:∀{m:Nat},0<m->∃j,j<m/\yL f m=f j
 | 0,h=>absurd h (E_ _)
 | 1,_=>⟨0,JH _,rfl⟩
 | m+2,_=>by
  unfold yL
  split
  .exact⟨m+1,JH _,rfl⟩
  .obtain⟨j,hj,e⟩:=uE (f:=f) (m:=m+1) (by omega);exact⟨j,by omega,e⟩
noncomputable def bpN(n:Nat)(c:Nat->Nat->Int):Nat->PrT
 | 0=>(λi=>yL (c i) n,λ_=>0,λ_=>-1)
 | s+1=>lZ n c s (bpN n c s)
theorem n8(c0:∀i j,i<n->j<n->0<=c i j):∀s,s<=n->sC n c (bpN n c s).1 (bpN n c s).2.1 (bpN n c s).2.2 s
 | 0,_=>⟨c0,λi j hi hj=>by show c i j<=yL (c i) n+0;have:=sD (f:=c i) hj;omega,λj _=>.inl rfl,λj _ h=>absurd (show (0:Int)<=-1 from h) (by omega),
  λi j _ _ h=>absurd (show (0:Int)<=-1 from h) (by omega),λi h=>absurd h (Ke _),λj _=>Kf _,λj _ _=>rfl⟩
 | s+1,h=>(qR (n8 c0 s (by omega)) (by omega)).1
def FH(c0:∀i j,i<n->j<n->0<=c i j)(hi:i<n):0<=(bpN n c n).1 i:=by
 cases n with
 | zero=>omega
 | succ s=>exact (qR (n8 c0 s (by omega)) (by omega)).2 i hi
noncomputable def bpF(n:Nat)(c:Nat->Nat->Int)(i:Nat):Nat:=((c_ n).map (bpN n c n).2.2).idxOf (i:Int)
def uF(c0:∀i j,i<n->j<n->0<=c i j)(hi:i<n):bpF n c i<n/\(bpN n c n).2.2 (bpF n c i)=i:=by
 obtain⟨j,hj,e⟩:=(n8 c0 n (f_ _)).sur i hi;have hm:(i:Int)∈(c_ n).map (bpN n c n).2.2:=JA.mpr ⟨j,JB.mpr hj,e⟩;have h:=idxOf_lt_length_of_mem hm;have h':bpF n c i<n:=by rw [length_map,length_range] at h;exact h
 refine⟨h',?_⟩;have:=getElem_idxOf h;rw [getElem_map,getElem_range] at this;exact this
def sE(c0:∀i j,i<n->j<n->0<=c i j):(∀i,i<n->bpF n c i<n/\0<=(bpN n c n).1 i/\0<=(bpN n c n).2.1 i/\(bpN n c n).1 i+(bpN n c n).2.1 (bpF n c i)=c i (bpF n c i)
  /\∀j,j<n->c i j<=(bpN n c n).1 i+(bpN n c n).2.1 j)/\((c_ n).map (bpF n c)).Perm (c_ n):=by
 have A:=n8 c0 n (f_ _)
 refine⟨λi hi=>?_,?_⟩
 .obtain⟨h1,h2⟩:=uF c0 hi;refine⟨h1,FH c0 hi,A.t0 i hi,?_,λj hj=>A.up i j hi hj⟩;have:=A.tg _ h1 (by omega);rw [h2,toNat_natCast] at this;exact this
 .have nd:((c_ n).map (bpF n c)).Nodup:=by
   refine pairwise_map.mpr (Mv (R:=λa b=>a≠b) (λ{a b} ha hb hne he=>?_) nodup_range);rw [JB] at ha hb;have h1:=(uF c0 ha).2;have h2:=(uF c0 hb).2;rw [he,h2] at h1;exact hne (by omega)
  refine (pD nd (λx hx=>?_) (by rw [length_map])).symm;obtain⟨j,hj,rfl⟩:=JA.mp hx;rw [JB] at hj ⊢;exact (uF c0 hj).1
theorem FVs.each:∀{xs:List V}{ds:List D},FVs K O H xs ds->(∀d∈ds,∀v,FV K O H v d->FV K O' H v d)->FVs K O' H xs ds
 | _,_,.nil,_=>.nil
 | _,_,.cons a b,h=>.cons (h _ (mem_cons_self ..) _ a) (FVs.each b λd hd=>h d (n_ _ hd))
noncomputable def XI(K:b_)(G:Addr)(nm:String)(C:Addr):Prop:=w_ K mainGlobals nm=some (some (.ref C))/\(∃(q:Str) (N:Addr) (bs sub:List Value) (sn:List Str) (ab:Bool) (col:Option Bool) (k0 k1 k2 k3 k5:Option Value),K.lookup C=some (excClassObj nm q C N bs (.ref G::[.type "ValueError",.type "Exception",.type "BaseException",.type "object"]) true sn sub ab col none k0 k1 k2 k3 k5 "ValueError.__new__")) /\
 o_ K (.ref C) "__getattribute__"=some (some (.builtin "BaseException.__getattribute__"))/\o_ K (.ref C) "__getattr__"=some none/\o_ K (.ref C) "__setattr__"=some (some (.builtin "object.__setattr__"))/\o_ K (.ref C) "__class__"=some (some (.builtin "object.__class__"))/\C_ K (.ref C)=true
variable {C:Addr}
def HW{G:Addr}{nm:String}{q:Str}{N:Addr}{bs sub:List Value}{sn:List Str}{ab:Bool}{col:Option Bool}{k0 k1 k2 k3 k5:Option Value}(a:w_ K mainGlobals nm=some (some (.ref C)))(l:K.lookup C=some (excClassObj nm q C N bs (.ref G::[.type "ValueError",.type "Exception",.type "BaseException",.type "object"]) true sn sub ab col none k0 k1 k2 k3 k5 "ValueError.__new__"))(g:o_ K (.ref C) "__getattribute__"=some (some (.builtin "BaseException.__getattribute__")))(h:o_ K (.ref C) "__getattr__"=some none)(s:o_ K (.ref C) "__setattr__"=some (some (.builtin "object.__setattr__")))(c:o_ K (.ref C) "__class__"=some (some (.builtin "object.__class__")))(k:C_ K (.ref C)=true):XI K G nm C :=
 ⟨a,⟨_,_,_,_,_,_,_,_,_,_,_,_,l⟩,g,h,s,c,k⟩
noncomputable def XJ(K:b_)(C:Addr)(qn at_:String)(st:Stmt):Prop:=∃(fx:Addr) (oc kV dc pm cd ct:Value) (od an:Option Addr) (sl:Array (Option Value)),o_ K (.ref C) "__init__"=some (some (.ref fx))/\M0 K (.ref fx)=some (.type "function")/\K.lookup fx=some ⟨oc,od,.func (Eo "__init__" qn (bL st) (aR st) (ai st) .none kV dc pm an cd ct),sl⟩/\JJ K cd qn=true/\C_ K (.ref fx)=true/\o_ K (.ref C) at_=some none
def HX{qn at_:String}{fx:Addr}{kV dc cd:Value}{sl:Array (Option Value)}(i:o_ K (.ref C) "__init__"=some (some (.ref fx)))(t:M0 K (.ref fx)=some (.type "function"))(l:K.lookup fx=some ⟨oc,od,.func (Eo "__init__" qn (bL st) (aR st) (ai st) .none kV dc pm an cd ct),sl⟩)(c:JJ K cd qn=true)(k:C_ K (.ref fx)=true)(n:o_ K (.ref C) at_=some none):XJ K C qn at_ st :=
 ⟨_,_,_,_,_,_,_,_,_,_,i,t,l,c,k,n⟩
section
open PySem.AutoSeq1 (wpAny_loadPart')
open PySem.MeetsSeq PySem.MeetsSeq2 PySem.MeetsSeq3
end
def d8.m{k:Nat}{A:y_}(r:d8 k A)(h:L3 j k=true):d8 j A:=r.mono (KE h)
section
variable {x:Str}{ps:List Str}
abbrev qS(x:Str)(st:Stmt)(ps:List Str):Prop:=∀(kV doc pm:Value) (an:Option Addr) (cdv ct:Value) (us:List Value),us.length=ps.length->bindArgs (Eo x x (bL st) (aR st) (ai st) .none kV doc pm an cdv ct) ⟨us,[]⟩=pure (ps.zip us)
variable {P:s_}{base:Heap}{N:List Str}{k:Nat}{pp:PTS}
def a5.oP{c:FN}(D:a5 K mg x st)(S:az N ps (ai st))(hb:qS x st ps)(ln:∀ds Q,c ds Q->ds.length=n)(h1:n=ps.length)(h2:L3 n N.length=true)(rd:∀ds Q,c ds Q->Fl pp N.length ds Q)(hbody:∀(f:Addr) (cdv:Value) (A:y_) (outer:List Env) (s:cy) (H:Hp) (E:XK),d8 k (A.deeper (envOfC x (ai st) s.heap.objs.size f cdv))->(A.deeper (envOfC x (ai st) s.heap.objs.size f cdv)).units+64<cLine ->
   ∃t,PSs (pX CX0 P w K mg base N x (ai st) f cdv A outer s H E).nox (aR st) t/\LS K [] t pp):Cal P w K mg base (k+1) x ps (spP K c):=by
 refine D.ok S hb (λvs H Q E h=>(GG ln h).trans h1) λf cdv A outer s H vs Q E hr h=>?_;obtain⟨t,h3,h4⟩:=hbody f cdv A outer s H E hr hr.units;exact⟨t,h3,fnP h4 (λds Q h=>F_ (LQ (ln ds Q h)) (KE h2)) rd h⟩
def a5.oR{c:FR}(D:a5 K mg x st)(S:az N ps (ai st))(hb:qS x st ps)(ln:∀p ds Q,c p ds Q->ds.length+1=n)(h1:n=ps.length)(h2:L3 n N.length=true)(rd:∀p ds Q,p.isOwn=true->c p ds Q->HF pp N.length p ds Q)(hbody:∀(f:Addr) (cdv:Value) (A:y_) (outer:List Env) (s:cy) (H:Hp) (E:XK),d8 k (A.deeper (envOfC x (ai st) s.heap.objs.size f cdv))->(A.deeper (envOfC x (ai st) s.heap.objs.size f cdv)).units+64<cLine ->
   ∃t,PSs (pX CX0 P w K mg base N x (ai st) f cdv A outer s H E).nox (aR st) t/\LS K [0] t pp):Cal P w K mg base (k+1) x ps (spR K c):=by
 refine D.ok S hb (λvs H Q E h=>(IM ln h).trans h1) λf cdv A outer s H vs Q E hr h=>?_;obtain⟨t,h3,h4⟩:=hbody f cdv A outer s H E hr hr.units;exact⟨t,h3,fnR h4 (λp ds Q h=>F_ (LQ (ln p ds Q h)) (KE h2)) rd h⟩
end
noncomputable def psO{fs:List Nat}{A:b_->(Str->Option Value)->Prop}{ts:b_->(Str->Option Value)->TS}{ps:PTS}(_:∀K mg,A K mg->LS K fs (ts K mg) ps):PTS:=ps
noncomputable def cN(p:Prop):List D->Prop|[]=>p|_=>False
noncomputable def cD(f:D->List D->Prop):List D->Prop|d::r=>f d r|_=>False
noncomputable def cS(f:List Nat->List D->Prop):List D->Prop|.str t::r=>f t r|_=>False
noncomputable def cI(f:Int->List D->Prop):List D->Prop|.int t::r=>f t r|_=>False
noncomputable def cL(f:List D->List D->Prop):List D->Prop|.lst t::r=>f t r|_=>False
noncomputable def cT(f:List D->List D->Prop):List D->Prop|.tup t::r=>f t r|_=>False
noncomputable def cR(f:List Int->List D->Prop):List D->Prop|.scr t::r=>f t r|_=>False
noncomputable def cO(f:Str->List Str->List D->List D->Prop):List D->Prop|.obj c ns fs::r=>f c ns fs r|_=>False
noncomputable def oL(f:List D->Prop):PV->Prop|.own ds=>f ds|_=>False
def HY{l:List α}(h:l.length=1):∃a,l=[a]:=match l,h with|[a],_=>⟨a,rfl⟩
def FI{l:List α}(h:l.length=2):∃a b,l=[a,b]:=match l,h with|[a,b],_=>⟨a,b,rfl⟩
def HZ{l:List α}(h:l.length=3):∃a b c,l=[a,b,c]:=match l,h with|[a,b,c],_=>⟨a,b,c,rfl⟩
noncomputable def oI(c:Str)(f:Prop):PV->Prop|.ins c' ns ds=>c'=c/\ns=[]/\ds=[]/\f|_=>False
section
variable {P:List D->Prop}
@[elab_as_elim] theorem gk {p:Prop}(h:cN p ds)(k:p->P []):P ds:=match ds,h with|[],h=>k h
@[elab_as_elim] theorem CV {f:D->List D->Prop}(h:cD f ds)(k:∀d r,f d r->P (d::r)):P ds:=match ds,h with|d::r,h=>k d r h
@[elab_as_elim] theorem yf {f:List Nat->List D->Prop}(h:cS f ds)(k:∀t r,f t r->P (.str t::r)):P ds:=match ds,h with|.str t::r,h=>k t r h
@[elab_as_elim] theorem pZ {f:Int->List D->Prop}(h:cI f ds)(k:∀t r,f t r->P (.int t::r)):P ds:=match ds,h with|.int t::r,h=>k t r h
@[elab_as_elim] theorem vD {f:List D->List D->Prop}(h:cL f ds)(k:∀t r,f t r->P (.lst t::r)):P ds:=match ds,h with|.lst t::r,h=>k t r h
@[elab_as_elim] theorem yM {f:List D->List D->Prop}(h:cT f ds)(k:∀t r,f t r->P (.tup t::r)):P ds:=match ds,h with|.tup t::r,h=>k t r h
@[elab_as_elim] theorem Jp {f:List Int->List D->Prop}(h:cR f ds)(k:∀t r,f t r->P (.scr t::r)):P ds:=match ds,h with|.scr t::r,h=>k t r h
@[elab_as_elim] theorem Ia {f:Str->List Str->List D->List D->Prop}(h:cO f ds)(k:∀c ns fs r,f c ns fs r->P (.obj c ns fs::r)):P ds:=match ds,h with|.obj c ns fs::r,h=>k c ns fs r h
@[elab_as_elim] theorem GJ {P:PV->Prop}{f:List D->Prop}(h:oL f p)(k:∀es,f es->P (.own es)):P p:=match p,h with|.own es,h=>k es h
@[elab_as_elim] theorem Jq {P:PV->Prop}{c:Str}{f:Prop}(h:oI c f p)(k:f->P (.ins c [] [])):P p:=match p,h with|.ins _ _ _,⟨e1,e2,e3,hf⟩=>by subst e1 e2 e3;exact k hf
end
abbrev PRl(c:FN)(pp:PTS)(m n:Nat):Prop:=∀ds Q,c ds Q->ds.length=n/\Fl pp m ds Q
abbrev RRl(c:FR)(pp:PTS)(m n:Nat):Prop:=∀p ds Q,c p ds Q->ds.length+1=n/\HF pp m p ds Q
section
variable {P:s_}{base:Heap}{x:Str}{N ps:List Str}{k:Nat}{pp:PTS}
def a5.oP2{c:FN}(D:a5 K mg x st)(S:az N ps (ai st))(hb:qS x st ps)(rl:PRl c pp N.length n)(h1:n=ps.length)(h2:L3 n N.length=true)(hbody:∀(f:Addr) (cdv:Value) (A:y_) (outer:List Env) (s:cy) (H:Hp) (E:XK),d8 k (A.deeper (envOfC x (ai st) s.heap.objs.size f cdv))->(A.deeper (envOfC x (ai st) s.heap.objs.size f cdv)).units+64<cLine ->
   ∃t,PSs (pX CX0 P w K mg base N x (ai st) f cdv A outer s H E).nox (aR st) t/\LS K [] t pp):Cal P w K mg base (k+1) x ps (spP K c):=D.oP S hb (λds Q h=>(rl ds Q h).1) h1 h2 (λds Q h=>(rl ds Q h).2) hbody
def a5.oR2{c:FR}(D:a5 K mg x st)(S:az N ps (ai st))(hb:qS x st ps)(rl:RRl c pp N.length n)(h1:n=ps.length)(h2:L3 n N.length=true)(hbody:∀(f:Addr) (cdv:Value) (A:y_) (outer:List Env) (s:cy) (H:Hp) (E:XK),d8 k (A.deeper (envOfC x (ai st) s.heap.objs.size f cdv))->(A.deeper (envOfC x (ai st) s.heap.objs.size f cdv)).units+64<cLine ->
   ∃t,PSs (pX CX0 P w K mg base N x (ai st) f cdv A outer s H E).nox (aR st) t/\LS K [0] t pp):Cal P w K mg base (k+1) x ps (spR K c):=D.oR S hb (λp ds Q h=>(rl p ds Q h).1) h1 h2 (λp ds Q _ h=>(rl p ds Q h).2) hbody
end
theorem FJ:∀xs ys:List Int,HT.lexLt xs ys=lxB xs ys
 | [],[]=>rfl
 | [],_::_=>rfl
 | _::_,[]=>rfl
 | x::xs,y::ys=>by
  rw [HT.lexLt_cons];show _=if x=y then lxB xs ys else decide (x<y)
  rw [FJ xs ys]
abbrev yN(h0 h:Heap):Prop:=∀b o,h0.get? b=some o->h.get? b=some o
section
def mwn:(toString "min"++toString ".loop":String)="min.loop":=by decide
variable {P:s_}{A:y_}{I:Addr}{fp wr:List Addr}{Pv:Nat->Value->Prop}{St:Nat->Heap->Prop}{h0:Heap}
theorem sF{kw:List (Str×Value)}(W:Walks P w A.in1 I fp wr n Pv St)(bt:Nat->Nat->Bool)(hcmp:∀i j vi vj (y:cy) (Q:Value->cy->Prop) (E:Value->cy->Prop),yN h0 y.heap->Pv i vi->Pv j vj->Q (.bool (bt i j)) y->wpAny (model P w) A.in1 (richCompare .Lt vi vj) Q E y)(B:Addr)(hB:B∉fp)(nB:∀b o,h0.get? b=some o->b≠B)(nw:∀b o,h0.get? b=some o->b∉wr):∀(k j:Nat) (z:cy) (vb:Value) (c:Nat),n=j+1+k->St (j+1) z.heap->yN h0 z.heap->Pv (argBest bt j) vb ->
  z.heap.get? B=some { cls:=.type "list",dict:=none,data:=.seq #[vb,vb] c,slots:=#[] } ->
  (∀v h' tk,Pv (argBest bt (n - 1)) v->yN h0 h'->R (.ok (.ret v)) { z with heap:=h',toks:=tk }) ->
  codeAny (model P w) A (.builtin "min.loop" ⟨[.ref I,.none,.ref B],kw⟩) R z
 | 0,j,z,vb,c,hn,st,hz,pb,hS,hR=>by
  refine LZ F.entry_min_loop ?_;rw [KN F.plain_min_loop _];show wpAny _ A.in1 (seqItems? (.ref B) >>= _) _ _ z;refine cn (KL hS rfl ?_);show wpAny _ A.in1 (tryCatch (pyNext (.ref I)) _ >>= _) _ _ z;refine cn (Mj (W.done z _ _ (by rw [hn];exact st) λh' tk old=>?_));have hS':=old B _ (λq=>hB (W.sub _ q)) hS;show wpAny _ A.in1 (updateSeq B (λ_=>#[]) >>= _) _ _ _
  refine cn (LX hS' rfl (cn (Mq (h_ ?_))));exact hR vb _ tk (by rw [hn];exact pb) λb o e=>(JD _ _ (J_ (nB b o e))).trans (old b o (nw b o e) (hz b o e))
 | k+1,j,z,vb,c,hn,st,hz,pb,hS,hR=>by
  refine LZ F.entry_min_loop ?_;rw [KN F.plain_min_loop _];show wpAny _ A.in1 (seqItems? (.ref B) >>= _) _ _ z;refine cn (KL hS rfl ?_);show wpAny _ A.in1 (tryCatch (pyNext (.ref I)) _ >>= _) _ _ z;refine cn (Mj (W.item (j+1) z _ _ (by omega) st λv h' tk hv st' old=>?_));have hS':=old B _ (λq=>hB (W.sub _ q)) hS;have hz1:yN h0 h':=λb o e=>old b o (nw b o e) (hz b o e)
  show wpAny _ A.in1 (tryCatch (holding [v,v] (richCompare .Lt v vb >>= _)) _ >>= _) _ _ _;refine cn (Mj (JF (cn (hcmp (j+1) (argBest bt j) v vb _ _ _ hz1 hv pb ?_))));refine cn (JF (JG ?_));refine cn (Mq (h_ ?_))
  cases hb:bt (j+1) (argBest bt j) with
  | true =>
   simp only [if_true];refine cn (LX hS' rfl (cn (Mq ?_)));rw [mwn];exact h_ ⟨K6 F.plain_min_loop _,sF W bt hcmp B hB nB nw k (j+1) _ v _ (by omega) (W.frame _ _ _ st' λb hb o e=>(JD _ _ (λq:B=b=>hB (by rw [q];exact hb))).trans e) (λb o e=>(JD _ _ (J_ (nB b o e))).trans (hz1 b o e)) (by show Pv (if bt (j+1) (argBest bt j) then j+1 else argBest bt j) v;rw [hb];exact hv) (Kk _ hS' rfl) λv' h2 t2 p2 o2=>hR v' h2 t2 p2 o2⟩
  | false =>
   simp only [false_eq_true,if_false];refine cn (Mq ?_);rw [mwn];exact h_ ⟨K6 F.plain_min_loop _,sF W bt hcmp B hB nB nw k (j+1) _ vb c (by omega) st' hz1 (by show Pv (if bt (j+1) (argBest bt j) then j+1 else argBest bt j) vb;rw [hb];exact pb) hS' λv' h2 t2 p2 o2=>hR v' h2 t2 p2 o2⟩
end
section
open PySem.SeqAt
end
section
variable {P:s_}{A:y_}{I:Addr}{fp wr:List Addr}{Pv:Nat->Value->Prop}{St:Nat->Heap->Prop}{h0:Heap}
def yg(W:Walks P w A.in1 I fp wr n Pv St)(bt:Nat->Nat->Bool)(hcmp:∀i j vi vj (y:cy) (Q:Value->cy->Prop) (E:Value->cy->Prop),yN h0 y.heap->Pv i vi->Pv j vj->Q (.bool (bt i j)) y->wpAny (model P w) A.in1 (richCompare .Lt vi vj) Q E y)(B:Addr)(hB:B∉fp)(nB:∀b o,h0.get? b=some o->b≠B)(nw:∀b o,h0.get? b=some o->b∉wr){z:cy}{c:Nat}(st:St 0 z.heap)(hz:yN h0 z.heap)(hS:z.heap.get? B=some { cls:=.type "list",dict:=none,data:=.seq #[] c,slots:=#[] })(hn:0<n)(hR:∀v h' tk,Pv (argBest bt (n - 1)) v->yN h0 h'->R (.ok (.ret v)) { z with heap:=h',toks:=tk }):
  codeAny (model P w) A (.builtin "min.loop" ⟨[.ref I,.none,.ref B],[]⟩) R z:=by
 refine LZ F.entry_min_loop ?_;rw [KN F.plain_min_loop _];show wpAny _ A.in1 (seqItems? (.ref B) >>= _) _ _ z;refine cn (KL hS rfl ?_);show wpAny _ A.in1 (tryCatch (pyNext (.ref I)) _ >>= _) _ _ z;refine cn (Mj (W.item 0 z _ _ (by omega) st λv h' tk hv st' old=>?_));have hS':=old B _ (λq=>hB (W.sub _ q)) hS;show wpAny _ A.in1 (updateSeq B (λ_=>#[v,v]) >>= _) _ _ _
 refine cn (LX hS' rfl ?_);rw [mwn];exact h_ ⟨K6 F.plain_min_loop _,sF W bt hcmp B hB nB nw (n - 1) 0 _ v _ (by omega) (W.frame _ _ _ st' λb hb o e=>(JD _ _ (λq:B=b=>hB (by rw [q];exact hb))).trans e) (λb o e=>(JD _ _ (J_ (nB b o e))).trans (old b o (nw b o e) (hz b o e))) hv (Kk _ hS' rfl) λv' h2 t2 p2 o2=>hR v' h2 t2 p2 o2⟩
end
def yh(a:Value):argsOk "min" ⟨[a],[]⟩:=by unfold argsOk;kernel_rfl
def vE{P:s_}{A:y_}{z:cy}{l:Addr}{vs:Array Value}(hh:A.handled=none)(hl:z.heap.IsList l vs)(bt:Nat->Nat->Bool)(hcmp:∀i j vi vj (y:cy) (Q:Value->cy->Prop) (E:Value->cy->Prop),yN z.heap y.heap->vs[i]?=some vi->vs[j]?=some vj->Q (.bool (bt i j)) y->wpAny (model P w) A.in1 (richCompare .Lt vi vj) Q E y)(h0:0<vs.size)(k:∀v h' tk,vs[argBest bt (vs.size - 1)]?=some v->yN z.heap h'->Q v { z with heap:=h',toks:=tk }):
  wpAny (model P w) A (call (.builtin "min") [.ref l]) Q E z:=by
 refine kmk_tree F.kind_min F.plain_min F.entry_min (yh _) ?_;show wpAny _ A.in1 (L8 "min" ["key","default"] 0 ⟨[],[]⟩ >>= _) _ _ z;refine cn (KM (show L8 "min" ["key","default"] 0 ⟨[],[]⟩=pure [none,none] from rfl) ?_);refine cn (h_ ?_);refine cn (Ko hl ?_);refine cn (JI ?_)
 rw [mwn];have hlt:l<z.heap.objs.size:=by obtain⟨_,e,_⟩:=hl;exact l_ e
 have e1:(z.heap.push { cls:=.type "list_iterator",data:=.fields #[.ref l,.int 0 0] }).objs.size=z.heap.objs.size+1:=JO ..;have W:=Walks.list (prog:=P) (w:=w) (A:=A.in1) hh z.heap.objs.size l (I_ hlt) vs;have old:yN z.heap (z.heap.push { cls:=.type "list_iterator",data:=.fields #[.ref l,.int 0 0] }):=λb o e=>d_ _ e;have st0:(z.heap.push { cls:=.type "list_iterator",data:=.fields #[.ref l,.int 0 0] }).IsListIter z.heap.objs.size l 0:=⟨_,kx _ rfl,rfl,rfl⟩
 have hl1:=hl.at λo e=>old l o e;show wpAny _ _ _ _ _ _;generalize z.heap.push { cls:=.type "list_iterator",data:=.fields #[.ref l,.int 0 0] }=h1 at e1 old st0 hl1
 refine h_ ⟨K6 F.plain_min_loop _,yg (h0:=z.heap) W bt hcmp h1.objs.size (λhm=>?_) (λb o e=>I_ (Nat.lt_trans (l_ e) (by omega))) (λb o e hm=>?_) (W.frame _ _ _ ⟨st0,hl1⟩ λb _ o e=>d_ _ e) (λb o e=>d_ _ (old b o e)) (kx _ rfl) h0 k⟩
 .rcases mem_cons.mp hm with q|q
  .exact absurd (e1.symm.trans q) (succ_ne_self _)
  .have q:=r_.mp q;exact absurd (q.symm ▸ hlt:h1.objs.size<z.heap.objs.size) (by rw [e1];exact not_lt.mpr (le_succ _))
 .have q:=r_.mp hm;exact absurd (l_ e) (by rw [q];exact E_ _)
noncomputable def Bk(K:b_):List V->Hp->VK->Prop:=λxs H Q=>∃(p:Addr) (prs:List (Addr×List Int)),xs=[.ref p]/\SqL K H p (prs.map λpr=>V.ref pr.1)/\(∀pr∈prs,SqT K H pr.1 (pr.2.map V.int))/\prs≠[]/\∀pr∈prs,(∀q∈prs,lxB q.2 pr.2=false)->Q (.ref pr.1) H
def CW(K:b_)(e:X.K=K)(hc:X.calm=true)(hu:X.A.units+64<cLine):bz X (.builtin "min") (Bk K):=by
 subst e;intro pins s σ H xs us Q I r h;obtain⟨p,prs,rfl,hS,ht,hne,q⟩:=h;obtain⟨u,rfl,rx⟩:=fg r;cases rx;obtain⟨its,rv,pl,hz⟩:=I.list hS;have hv:=Be rv;subst hv;have hsz:(prs.map λpr=>so pr.1).toArray.size=prs.length:=by rw [size_toArray,length_map]
 have at_:∀{i:Nat}{u:Value},(prs.map λpr=>so pr.1).toArray[i]?=some u->∃pr,prs[i]?=some pr/\u=.ref pr.1:=λ{i u} h=>by
  rw [getElem?_toArray,gV] at h
  cases g:prs[i]? with
  | none=>rw [g] at h;cases h
  | some pr=>rw [g] at h;cases h;exact⟨pr,rfl,rfl⟩
 have gd:∀{i:Nat}{pr:Addr×List Int},prs[i]?=some pr->i<(prs.map (·.2)).length/\(prs.map (·.2)).getD i []=pr.2:=λ{i pr} h=>by
  have hi:i<prs.length:=by
   by_cases c:i<prs.length
   .exact c
   .rw [x_ (by omega)] at h;cases h
  exact⟨by rw [length_map];exact hi,by rw [e_,gV,h];rfl⟩
 have hpos:0<prs.length:=length_pos_iff.mpr hne
 refine vE (by exact I.ok.hd hc) pl.isList (λi j=>decide (-(rkL (prs.map (·.2)) i:Int) > -(rkL (prs.map (·.2)) j:Int))) (λi j vi vj y Q E old hi hj z=>?_) (by omega) λu h' tk hu old=>?_
 .obtain⟨pi,gi,rfl⟩:=at_ hi;obtain⟨pj,gj,rfl⟩:=at_ hj;obtain⟨ii,ei⟩:=gd gi;obtain⟨ij,ej⟩:=gd gj;obtain⟨is1,vs1,⟨o,e,c,n,d⟩,_⟩:=I.tuple (ht pi (B_ gi));obtain⟨is2,vs2,⟨o2,e2,c2,n2,d2⟩,_⟩:=I.tuple (ht pj (B_ gj));refine HT.lt_tupInts (s:=y) (A:=X.A.in1) ⟨o,old _ _ e,c,n,d⟩ ⟨o2,old _ _ e2,c2,n2,d2⟩ (cJ vs1) (cJ vs2) (lt_of_le_of_lt (add_le_add_left (by decide:1<=64) _) hu) ?_
  rw [FJ,<- ei,<- ej,Bd ii ij];refine (congrArg (λb=>Q (.bool b) y) (decide_eq_decide.mpr ?_)).mpr z;constructor <;> intro h <;> omega
 .obtain⟨pr,g,rfl⟩:=at_ hu;obtain⟨h1,h2⟩:=argBest_gt (λi=>-(rkL (prs.map (·.2)) i:Int)) ((prs.map λpr=>so pr.1).toArray.size - 1);obtain⟨ib,eb⟩:=gd g;refine⟨.ref pr.1,H,I.kept (t':=tk) old,rfl,q pr (B_ g) λr hr=>?_⟩;obtain⟨j,hj,ej⟩:=LB hr;obtain⟨ij,e2⟩:=gd (cx hj);have:=h2 j (by omega);rw [<- ej,<- e2,<- eb,Bd ij ib];exact decide_eq_false (by omega)
noncomputable def Bl:FN
 | [.lst ds],Q=>∃rows:List (List Int),ds=rows.map HM/\rows≠[]/\∀r∈rows,(∀q∈rows,lxB q r=false)->Q (.dat (HM r))
 | _,_=>False
def Ah:LC K (Bk K) Bl:=by
 intro O H xs as Q Q' dom fs q k;unfold Bl at q
 split at q
 .cases fs with
  | cons a b =>
   cases b;obtain⟨rows,rfl,hne,q⟩:=q;obtain⟨a1,xs1,rfl,g1,g2⟩:=a.lst;obtain⟨prs,rfl,hr,hp⟩:=uB g2;refine⟨a1,prs,rfl,SqL.of g1,λpr h=>SqT.of (hp pr h).2,λe=>hne (by rw [<- hr,e];rfl),λpr h hm=>k _ H _ (q pr.2 (by rw [<- hr];exact M6 h) λq hq=>?_) (Gr.refl _) (.tup (hp pr h).1 (hp pr h).2 (FVs.of_ints _))⟩;rw [<- hr] at hq;obtain⟨p',h',rfl⟩:=JA.mp hq;exact hm p' h'
 .exact q.elim
section
variable {fs:List Nat}{ts:TS}{ps:PTS}
noncomputable def LS0(K:b_)(fs:List Nat)(ts:TS)(ps:PTS):Prop:=∀(fx:List (Nat×V)) (A:Addr->Prop) (H0:Hp) (ρ:PSt) (σ:St) (H:Hp) (D:Cq) (D':BF),fx.map tj=fs->Rel K A ρ σ H->dO fx (λ_=>False) H0 ρ σ H->ps D ρ ->
 (∀ρ' σ' H',D.nx ρ'->Rel K A ρ' σ' H'->dO fx (λ_=>False) H0 ρ' σ' H'->D'.nx σ' H') ->
 (∀v p ρ' σ' H',D.rt p ρ'->Out K A ρ' σ' H0 H' p v->dO fx (λ_=>False) H0 ρ' σ' H'->D'.rt v H') ->
 (∀ρ' σ' H',D.bk ρ'->Rel K A ρ' σ' H'->dO fx (λ_=>False) H0 ρ' σ' H'->D'.bk σ' H') ->
 (∀ρ' σ' H',D.ct ρ'->Rel K A ρ' σ' H'->dO fx (λ_=>False) H0 ρ' σ' H'->D'.ct σ' H')->ts D' σ H
variable {ta tb:TS}{pa pb:PTS}
def pF(ha:LS K fs ta pa)(hb:LS0 K fs tb pb):LS0 K fs (GQ ta tb) (lH pa pb):=λfx A H0 ρ σ H D D' hf r F q k1 k2 k3 k4 =>
 ha fx A _ H0 ρ σ H _ _ hf r F q (λρ1 σ1 H1 q1 r1 F1=>hb fx A H0 ρ1 σ1 H1 _ _ hf r1 F1 q1 k1 k2 k3 k4) k2 k3 k4
noncomputable def Bm(i:Nat):PTS:=λE ρ=>match ρ[i]? with
 | some (some p)=>p.isOwn=true/\E.rt p (ρ.set i none)
 | _=>False
variable {a:Addr}
def Rel.give(R:Rel K A ρ σ H)(e:ρ[i]?=some (some p))(o:p.isOwn=true)(s:σ[i]?=some (some (.ref a))):Rel K (cB A a) (ρ.set i none) σ H/\∀b,OO (cB A a) (ρ.set i none) σ b->OO A ρ σ b:=by
 have wa:Wr ρ σ a:=⟨i,p,e,o,s⟩
 have ww:∀b,Wr (ρ.set i none) σ b->Wr ρ σ b:=λb ⟨j,q,e1,o1,s1⟩=>⟨j,q,(jR e1).2,o1,s1⟩
 have lo:∀b,OO (cB A a) (ρ.set i none) σ b->OO A ρ σ b:=λb z=>by
  rcases z with (z|z)|z
  .exact .inl z
  .exact .inr (by rw [z];exact wa)
  .exact .inr (ww b z)
 refine⟨⟨by rw [JE];exact R.len,λj q e1=>?_,λj l p1 q1 v e1 e2 o1 o2 s1 s2=>R.dj j l p1 q1 v (jR e1).2 (jR e2).2 o1 o2 s1 s2,λb z=>?_,λb z w=>?_⟩,lo⟩
 .obtain⟨v,s',r⟩:=R.get j q (jR e1).2;exact⟨v,s',r.keeps (aB.less lo) λ_ _ _=>rfl⟩
 .rcases z with z|z
  .exact R.dom b z
  .rw [z];exact R.wr wa
 .rcases z with z|z
  .exact R.sep b z (ww b w)
  .subst z;obtain⟨j,q,e1,o1,s1⟩:=w;obtain⟨n,e2⟩:=jR e1;exact n (R.dj j i q p _ e2 e o1 o s1 s)
def Aj:LS0 K fs (GR (aH i)) (Bm i):=λfx A H0 ρ σ H D D' hf r F q k1 k2 k3 k4=>by
 unfold Bm at q
 split at q
 .rename_i p e;obtain⟨o,q⟩:=q;obtain⟨v,s,rs⟩:=r.get i p e;have F':dO fx (λ_=>False) H0 (ρ.set i none) σ H:=⟨F.kp,F.dm,λb ⟨j,x,e1,o1,s1⟩=>F.ow b ⟨j,x,(jR e1).2,o1,s1⟩,F.fx⟩
  have h0:∀a,v=.ref a->¬ A a/\H0 a=none:=λa ea=>by
   have w:Wr ρ σ a:=⟨i,p,e,o,by rw [<- ea];exact s⟩
   exact⟨λz=>r.sep a z w,(F.ow a w).elim (λz=>z.elim) id⟩
  refine⟨v,s,k2 v p _ σ H q ?_ F'⟩
  cases p with
  | dat d=>cases o
  | own ds =>
   obtain⟨a,xs,rfl,g,f⟩:=rs;obtain⟨r1,lo⟩:=r.give e o s;exact⟨a,xs,rfl,(h0 a rfl).1,(h0 a rfl).2,g,r1,f.keeps (aB.less lo)⟩
  | ins c ns ds =>
   obtain⟨a,dx,fl,rfl,g,m,f⟩:=rs;obtain⟨r1,lo⟩:=r.give e o s;exact⟨a,dx,fl,rfl,(h0 a rfl).1,(h0 a rfl).2,g,m,r1,f.keeps (aB.less lo)⟩
  | odc ks ds =>
   obtain⟨a,kvs,rfl,g,m,f⟩:=rs;obtain⟨r1,lo⟩:=r.give e o s;exact⟨a,kvs,rfl,(h0 a rfl).1,(h0 a rfl).2,g,m,r1,f.keeps (aB.less lo)⟩
 .exact q.elim
variable {N:List Str}{vs:List V}
def Jr{c:FN}(hl:LS0 K [] ts ps)(hn:∀ds Q,c ds Q->ds.length<=N.length)(hc:∀ds Q,c ds Q->ps { nx:=λ_=>Q (.dat .non),rt:=λp _=>Q p } (bG N.length (ds.map .dat))){Q:VK}{E:XK}(h:spP K c vs H Q E):ts { nx:=λ_ H'=>Q .non H',rt:=Q } (start N vs) H:=by
 obtain⟨O,ds,Qc,dom,fv,hq,k⟩:=h
 have nw:∀(ρ:PSt) (b:Addr),ρ=bG N.length (ds.map .dat)->¬ Wr ρ (start N vs) b:=λρ b e ⟨i,p,e1,o1,s1⟩=>by
  rw [e] at e1;have:=bJ e1;rw [gV] at this
  cases e2:ds[i]? with
  | none=>rw [e2] at this;cases this
  | some d=>rw [e2] at this;cases this;cases o1
 have lenv:=fv.length;have hle:=hn ds Qc hq
 have R0:Rel K O (bG N.length (ds.map .dat)) (start N vs) H:=by
  refine⟨?_,λi p e=>?_,λi j p q v e1 e2 o1 o2 s1 s2=>?_,dom,λb _ w=>nw _ b rfl w⟩
  .unfold bG start;rw [length_append,length_append,length_map,length_map,length_map,length_replicate,length_replicate,lenv]
  .have:=bJ e;rw [gV] at this
   cases e2:ds[i]? with
   | none=>rw [e2] at this;cases this
   | some d =>
    rw [e2] at this;cases this;obtain⟨v,hv,f⟩:=fv.getD e2;exact⟨v,cW hv,f.keeps (aB.less λb z=>z.elim id λw=>absurd w (nw _ b rfl))⟩
  .have:=bJ e1;rw [gV] at this
   cases e3:ds[i]? with
   | none=>rw [e3] at this;cases this
   | some d=>rw [e3] at this;cases this;cases o1
 refine hl [] O H _ _ H _ _ rfl R0 ⟨λ_ _ _ h=>h,λ_ h=>h,λb w=>absurd w (nw _ b rfl),λp hp=>nomatch hp⟩ (hc ds Qc hq) (λρ' σ' H' q r F=>?_) (λv p ρ' σ' H' q o F=>?_) (λ_ _ _ z=>z.elim) (λ_ _ _ z=>z.elim)
 .exact k _ q .non H' (λb o e=>F.kp b o id e) .non
 .exact k _ q v H' (λb o e=>F.kp b o id e) o.outV
end
noncomputable def Js{fs:List Nat}{A:b_->(Str->Option Value)->Prop}{ts:b_->(Str->Option Value)->TS}{ps:PTS}(_:∀K mg,A K mg->LS0 K fs (ts K mg) ps):PTS:=ps
section
variable {P:s_}{base:Heap}{x:Str}{N ps:List Str}{k:Nat}{pp:PTS}
def a5.oP0{c:FN}(D:a5 K mg x st)(S:az N ps (ai st))(hb:qS x st ps)(ln:∀ds Q,c ds Q->ds.length=n)(h1:n=ps.length)(h2:L3 n N.length=true)(rd:∀ds Q,c ds Q->Fl pp N.length ds Q)(hbody:∀(f:Addr) (cdv:Value) (A:y_) (outer:List Env) (s:cy) (H:Hp) (E:XK),d8 k (A.deeper (envOfC x (ai st) s.heap.objs.size f cdv))->(A.deeper (envOfC x (ai st) s.heap.objs.size f cdv)).units+64<cLine ->
   ∃t,PSs (pX CX0 P w K mg base N x (ai st) f cdv A outer s H E).nox (aR st) t/\LS0 K [] t pp):Cal P w K mg base (k+1) x ps (spP K c):=by
 refine D.ok S hb (λvs H Q E h=>(GG ln h).trans h1) λf cdv A outer s H vs Q E hr h=>?_;obtain⟨t,h3,h4⟩:=hbody f cdv A outer s H E hr hr.units;exact⟨t,h3,Jr h4 (λds Q h=>F_ (LQ (ln ds Q h)) (KE h2)) rd h⟩
def a5.oP20{c:FN}(D:a5 K mg x st)(S:az N ps (ai st))(hb:qS x st ps)(rl:PRl c pp N.length n)(h1:n=ps.length)(h2:L3 n N.length=true)(hbody:∀(f:Addr) (cdv:Value) (A:y_) (outer:List Env) (s:cy) (H:Hp) (E:XK),d8 k (A.deeper (envOfC x (ai st) s.heap.objs.size f cdv))->(A.deeper (envOfC x (ai st) s.heap.objs.size f cdv)).units+64<cLine ->
   ∃t,PSs (pX CX0 P w K mg base N x (ai st) f cdv A outer s H E).nox (aR st) t/\LS0 K [] t pp):Cal P w K mg base (k+1) x ps (spP K c):=D.oP0 S hb (λds Q h=>(rl ds Q h).1) h1 h2 (λds Q h=>(rl ds Q h).2) hbody
end
section
abbrev FMs:=List PV->(List PV->Prop)->Prop
noncomputable def Ak(ps ps':List PV):Prop:=ps'.length=ps.length/\∀(i:Nat) (p p':PV),ps[i]?=some p->ps'[i]?=some p'->p.isOwn=p'.isOwn/\(p.isOwn=false->p'=p)
def Ak.at{ps ps':List PV}(s:Ak ps ps'){p':PV}(e:ps'[i]?=some p'):∃p,ps[i]?=some p/\p.isOwn=p'.isOwn/\(p.isOwn=false->p'=p):=by
 have hi:i<ps.length:=by rw [<- s.1];exact (i_.mp e).1
 exact⟨ps[i],cx hi,s.2 i _ _ (cx hi) e⟩
def bn{l:List α}{x:α}:(l.map some)[i]?=some (some x) ↔ l[i]?=some x:=by
 rw [gV];cases l[i]? <;> simp
noncomputable def spM(K:b_)(c:FMs):Sp:=λvs H Q _=>∃(A:Addr->Prop) (ps:List PV) (Qc:List PV->Prop),Rel K A (ps.map some) (vs.map some) H/\c ps Qc /\
 ∀ps',Qc ps'->Ak ps ps'->∀H',Rel K A (ps'.map some) (vs.map some) H'->Fr (ps.map some) (vs.map some) H (ps'.map some) H'->Q .non H'
variable {fs:List Nat}
noncomputable def yO(fs:List Nat)(ps:List PV)(Q:List PV->Prop)(ρ:PSt):Prop:=∃ps',Ak ps ps'/\(∀i∈fs,∀p':PV,ps'[i]?=some p'->ρ[i]?=some (some p'))/\Q ps'
variable {ts:TS}{pp:PTS}{N:List Str}{vs:List V}
def fnM{c:FMs}(hl:LS K fs ts pp)(hn:∀ps Q,c ps Q->ps.length<=N.length/\∀i,i∈fs ↔ ∃p,ps[i]?=some p/\p.isOwn=true)(hc:∀ps Q,c ps Q->pp { nx:=yO fs ps Q,rt:=λr ρ=>r=.dat .non/\yO fs ps Q ρ } (bG N.length ps)){Q:VK}{E:XK}(h:spM K c vs H Q E):ts { nx:=λ_ H'=>Q .non H',rt:=Q } (start N vs) H:=by
 obtain⟨A,ps,Qc,R,hq,k⟩:=h;obtain⟨hle,hfs⟩:=hn ps Qc hq;have hlen:ps.length=vs.length:=by have:=R.len;rw [length_map,length_map] at this;exact this
 have val:∀{i:Nat}{p:PV},ps[i]?=some p->∃v,vs[i]?=some v/\RS K (OO A (ps.map some) (vs.map some)) H p v:=λ{i p} e=>by
  obtain⟨v,s,r⟩:=R.get i p (bn.mpr e);exact⟨v,bn.mp s,r⟩
 have wr:∀b,Wr (bG N.length ps) (start N vs) b->Wr (ps.map some) (vs.map some) b:=λb ⟨i,p,e,o,s⟩=>by
  have e:=bJ e;obtain⟨v,hv,_⟩:=val e;rw [cW hv] at s;cases s;exact⟨i,p,bn.mpr e,o,bn.mpr hv⟩
 have R0:Rel K A (bG N.length ps) (start N vs) H:=by
  refine⟨?_,λi p e=>?_,λi j p q v e1 e2 o1 o2 s1 s2=>?_,R.dom,λb z w=>R.sep b z (wr b w)⟩
  .unfold bG start;rw [length_append,length_append,length_map,length_map,length_replicate,length_replicate,hlen]
  .obtain⟨v,hv,r⟩:=val (bJ e);exact⟨v,cW hv,r.keeps (aB.less λb z=>z.imp id (wr b)) λ_ _ _=>rfl⟩
  .have e1:=bJ e1;have e2:=bJ e2;obtain⟨v1,h1,_⟩:=val e1;obtain⟨v2,h2,_⟩:=val e2;rw [cW h1] at s1;cases s1;rw [cW h2] at s2;cases s2;exact R.dj i j p q _ (bn.mpr e1) (bn.mpr e2) o1 o2 (bn.mpr h1) (bn.mpr h2)
 have fxm:(fs.map λi=>(i,vs.getD i .non)).map tj=fs:=by rw [map_map];exact List.map_id' _
 have fxv:∀i∈fs,∃v,vs[i]?=some v/\vs.getD i .non=v:=λi hi=>by
  obtain⟨p,e,_⟩:=(hfs i).mp hi;obtain⟨v,hv,_⟩:=val e;exact⟨v,hv,by rw [e_,hv];rfl⟩
 have fin:∀(ρ':PSt) (σ':St) (H':Hp),yO fs ps Qc ρ'->Rel K A ρ' σ' H'->dO (fs.map λi=>(i,vs.getD i .non)) (Wr (bG N.length ps) (start N vs)) H ρ' σ' H'->Q .non H':=λρ' σ' H' ⟨ps',sk,hps,q⟩ r F=>by
  have own:∀{i:Nat}{p':PV},ps'[i]?=some p'->p'.isOwn=true->ρ'[i]?=some (some p')/\∃v,vs[i]?=some v/\σ'[i]?=some (some v)/\∃p,ps[i]?=some p/\p.isOwn=true:=λ{i p'} e o=>by
   obtain⟨p,e1,e2,_⟩:=sk.at e;have hi:i∈fs:=(hfs i).mpr ⟨p,e1,by rw [e2];exact o⟩;obtain⟨v,hv,hv2⟩:=fxv i hi;have:=F.fx (i,vs.getD i .non) (JA.mpr ⟨i,hi,rfl⟩);rw [hv2] at this;exact⟨hps i hi p' e,v,hv,this,p,e1,by rw [e2];exact o⟩
  have w1:∀b,Wr (ps'.map some) (vs.map some) b->Wr ρ' σ' b:=λb ⟨i,p',e,o,s⟩=>by
   obtain⟨h1,v,hv,h2,_⟩:=own (bn.mp e) o;rw [bn.mpr hv] at s;cases s;exact⟨i,p',h1,o,h2⟩
  have w2:∀b,Wr (ps'.map some) (vs.map some) b->Wr (ps.map some) (vs.map some) b:=λb ⟨i,p',e,o,s⟩=>by
   obtain⟨_,v,hv,_,p,e1,o1⟩:=own (bn.mp e) o;exact⟨i,p,bn.mpr e1,o1,s⟩
  have kp:∀b u,¬ Wr (ps.map some) (vs.map some) b->H b=some u->H' b=some u:=λb u n h=>F.kp b u (λz=>n (wr b z)) h
  refine k ps' q sk H' ⟨by rw [length_map,length_map,sk.1,hlen],λi p' e=>?_,λi j p q v e1 e2 o1 o2 s1 s2=>?_,λb z=>F.dm b (R.dom b z),λb z w=>R.sep b z (w2 b w)⟩ ⟨kp,F.dm,w2⟩
  .have e:=bn.mp e;obtain⟨p,e1,e2,e3⟩:=sk.at e
   cases ho:p'.isOwn with
   | true =>
    obtain⟨h1,v,hv,h2,_⟩:=own e ho;obtain⟨v',s',rs⟩:=r.get i p' h1;rw [h2] at s';cases s';exact⟨v,bn.mpr hv,rs.keeps (aB.less λb z=>z.imp id (w1 b)) λ_ _ _=>rfl⟩
   | false =>
    have e3:=e3 (by rw [e2];exact ho);subst e3;obtain⟨v,hv,rs⟩:=val e1;exact⟨v,bn.mpr hv,rs.keeps (λb u n h=>⟨λz=>n (z.imp id (w2 b)),kp b u (λz=>n (.inr z)) h⟩) λo=>by rw [ho] at o;cases o⟩
  .obtain⟨_,_,_,_,p0,e3,o3⟩:=own (bn.mp e1) o1;obtain⟨_,_,_,_,q0,e4,o4⟩:=own (bn.mp e2) o2;exact R.dj i j p0 q0 v (bn.mpr e3) (bn.mpr e4) o3 o4 s1 s2
 refine hl _ A _ H _ _ H _ _ fxm R0 (dO.start λp hp=>?_) (hc ps Qc hq) (λρ' σ' H' q r F=>fin ρ' σ' H' q r F) (λv p ρ' σ' H' q o F=>?_) (λ_ _ _ z=>z.elim) (λ_ _ _ z=>z.elim)
 .obtain⟨i,hi,rfl⟩:=JA.mp hp;obtain⟨v,hv,hv2⟩:=fxv i hi;show (start N vs)[i]?=some (some (vs.getD i .non));rw [hv2];exact cW hv
 .obtain⟨rfl,q⟩:=q;obtain⟨r,fv⟩:=o;cases fv;exact fin ρ' σ' H' q r F
noncomputable def CY:List Nat->TA
 | []=>c6
 | i::r=>aK (aH i) (CY r)
theorem uG:∀(is:List Nat) (vs:List V) (Q:List V->Hp->Prop),(is.map λi=>σ[i]?)=vs.map (λv=>some (some v))->Q vs H->CY is σ H Q
 | [],vs,Q,e,q=>by
  cases vs with
  | nil=>exact q
  | cons v r=>cases e
 | i::is,vs,Q,e,q=>by
  cases vs with
  | nil=>cases e
  | cons v r =>
   rw [map_cons,map_cons] at e;injection e with e1 e2;exact⟨v,e1,uG is r _ e2 q⟩
noncomputable def FK(c:FMs)(is:List Nat):PTE:=λρ Q=>zH (is.map some)=true/\∃ps:List PV,(is.map λi=>ρ[i]?)=ps.map (λp=>some (some p))/\c ps λps'=>Q (.dat .non) (dB (is.map some) ρ (ps'.map some))
def Al{c:FMs}{is:List Nat}:LE K (dJ (spM K c) [] E0 (CY is)) (FK c is):=λA ρ σ H Q Q' R q k=>by
 obtain⟨hok,ps,hps,q⟩:=q
 have pat:∀{j:Nat}{p:PV},ps[j]?=some p->∃i,is[j]?=some i/\ρ[i]?=some (some p):=λ{j p} e=>by
  have h:=congrArg (λl=>l[j]?) hps;simp only [gV,e,Option.map_some] at h
  cases hi:is[j]? with
  | none=>rw [hi] at h;cases h
  | some i=>rw [hi] at h;exact⟨i,rfl,by simpa using h⟩
 have plen:ps.length=is.length:=by have:=congrArg Mp hps;rw [length_map,length_map] at this;exact this.symm
 have tap:∀{j i:Nat},is[j]?=some i->∃p,ps[j]?=some p/\ρ[i]?=some (some p):=λ{j i} e=>by
  have hj:j<ps.length:=by rw [plen];exact (i_.mp e).1
  obtain⟨i',e1,e2⟩:=pat (cx hj);rw [e] at e1;cases e1;exact⟨_,cx hj,e2⟩
 obtain⟨vs,hvs⟩:∃vs:List V,(is.map λi=>σ[i]?)=vs.map (λv=>some (some v)):=by
  refine⟨is.map λi=>match σ[i]? with|some (some v)=>v|_=>.non,?_⟩;rw [map_map];refine Me λi hi=>?_;obtain⟨j,hj,e⟩:=LB hi;obtain⟨p,_,e2⟩:=tap (show is[j]?=some i by rw [cx hj,e]);obtain⟨v,s,_⟩:=R.get i p e2;show σ[i]?=some (some (match σ[i]? with|some (some v)=>v|_=>V.non));rw [s]
 have vat:∀{j i:Nat}{v:V},is[j]?=some i->σ[i]?=some (some v)->vs[j]?=some v:=λ{j i v} e s=>by
  have h:=congrArg (λl=>l[j]?) hvs;simp only [gV,e,Option.map_some,s] at h
  cases hv:vs[j]? with
  | none=>rw [hv] at h;cases h
  | some w=>rw [hv] at h;simpa using h.symm
 have vlen:vs.length=is.length:=by have:=congrArg Mp hvs;rw [length_map,length_map] at this;exact this.symm
 refine uG is vs _ hvs ?_;rw [JY]
 have w1:∀b,Wr (ps.map some) (vs.map some) b->Wr ρ σ b:=λb ⟨j,p,e,o,s⟩=>by
  obtain⟨i,e1,e2⟩:=pat (bn.mp e);obtain⟨v,s1,_⟩:=R.get i p e2;have:=vat e1 s1;rw [bn.mp s] at this;cases this;exact⟨i,p,e2,o,s1⟩
 let A':Addr->Prop:=λb=>OO A ρ σ b/\¬ Wr (ps.map some) (vs.map some) b
 have o1:∀b,OO A' (ps.map some) (vs.map some) b->OO A ρ σ b:=λb z=>z.elim (λz=>z.1) λz=>.inr (w1 b z)
 have o2:∀b,OO A ρ σ b->OO A' (ps.map some) (vs.map some) b:=λb z=>by
  by_cases w:Wr (ps.map some) (vs.map some) b
  .exact .inr w
  .exact .inl ⟨z,w⟩
 refine⟨A',ps,_,⟨by rw [length_map,length_map,plen,vlen],λj p e=>?_,λj l p q v e1 e2 p1 p2 s1 s2=>?_,λb z=>R.dom2 b z.1,λb z=>z.2⟩,q,λps' q' sk H' R' f'=>?_⟩
 .obtain⟨i,e1,e2⟩:=pat (bn.mp e);obtain⟨v,s,r⟩:=R.get i p e2;exact⟨v,bn.mpr (vat e1 s),r.keeps (aB.less o1) λ_ _ _=>rfl⟩
 .obtain⟨i1,e3,e4⟩:=pat (bn.mp e1);obtain⟨i2,e5,e6⟩:=pat (bn.mp e2);obtain⟨v1,t1,_⟩:=R.get i1 p e4;obtain⟨v2,t2,_⟩:=R.get i2 q e6;have h1:=vat e3 t1;have h2:=vat e5 t2;rw [bn.mp s1] at h1;cases h1;rw [bn.mp s2] at h2;cases h2;have:=R.dj i1 i2 p q _ e4 e6 p1 p2 t1 t2;subst this;exact je hok (by rw [gV,e3];rfl) (by rw [gV,e5];rfl)
 .have get':∀(j:Nat) (p:PV),(dB (is.map some) ρ (ps'.map some))[j]?=some (some p)->(∃m,is[m]?=some j/\ps'[m]?=some p)\/(j∉is/\ρ[j]?=some (some p)):=λj p e=>by
   by_cases hj:j∈is
   .obtain⟨m,hm,em⟩:=LB hj;have em':is[m]?=some j:=by rw [cx hm,em]
    obtain⟨p0,_,e0⟩:=tap em';rw [lK (is.map some) ρ (ps'.map some) j m hok (by rw [gV,em'];rfl) (by rw [length_map,sk.1,plen];exact hm) (i_.mp e0).1] at e;exact .inl ⟨m,em',bn.mp e⟩
   .rw [gX (is.map some) ρ (ps'.map some) j (λz=>by obtain⟨i,hi,e⟩:=JA.mp z;cases e;exact hj hi)] at e;exact .inr ⟨hj,e⟩
  have ownB:∀{j:Nat}{p:PV},(dB (is.map some) ρ (ps'.map some))[j]?=some (some p)->p.isOwn=true->∃p0,ρ[j]?=some (some p0)/\p0.isOwn=true:=λ{j p} e o=>by
   rcases get' j p e with ⟨m,h1,h2⟩|⟨_,h⟩
   .obtain⟨p0,h3,h4,_⟩:=sk.at h2;obtain⟨i,h5,h6⟩:=pat h3;rw [h1] at h5;cases h5;exact⟨p0,h6,by rw [h4];exact o⟩
   .exact⟨p,h,o⟩
  have wb:∀b,Wr (dB (is.map some) ρ (ps'.map some)) σ b->Wr ρ σ b:=λb ⟨j,p,e,o,s⟩=>by
   obtain⟨p0,h1,h2⟩:=ownB e o;exact⟨j,p0,h1,h2,s⟩
  have ws:∀b,Wr (ps.map some) (vs.map some) b->Wr (ps'.map some) (vs.map some) b:=λb ⟨j,p,e,o,s⟩=>by
   have e:=bn.mp e;have hj:j<ps'.length:=by rw [sk.1];exact (i_.mp e).1
   exact⟨j,ps'[j],bn.mpr (cx hj),by rw [<- (sk.2 j _ _ e (cx hj)).1];exact o,s⟩
  have kp:∀b u,¬ Wr ρ σ b->H b=some u->H' b=some u:=λb u n h=>f'.kp b u (λz=>n (w1 b z)) h;have fr:Fr ρ σ H (dB (is.map some) ρ (ps'.map some)) H':=⟨kp,f'.dm,wb⟩
  refine k _ H' (.dat .non) _ q' fr ⟨⟨by rw [jd];exact R.len,λj p e=>?_,λi j p q v e1 e2 p1 p2 s1 s2=>?_,λb z=>f'.dm b (R.dom b z),λb z w=>R.sep b z (wb b w)⟩,.non⟩
  .rcases get' j p e with ⟨m,h1,h2⟩|⟨nj,h⟩
   .obtain⟨v,s,r⟩:=R'.get m p (bn.mpr h2);obtain⟨p0,_,h4⟩:=tap h1;obtain⟨v0,s0,_⟩:=R.get j p0 h4;have:=vat h1 s0;rw [bn.mp s] at this;cases this;refine⟨v,s0,r.keeps (aB.less λb z=>?_) λ_ _ _=>rfl⟩
    rcases o2 b (z.imp id (wb b)) with z|z
    .exact .inl z
    .exact .inr (ws b z)
   .obtain⟨v,s,r⟩:=R.get j p h;refine⟨v,s,r.keeps fr.keeps λow a ea=>?_⟩;subst ea;obtain⟨a',u,z1,z2⟩:=r.ref ow;cases z1;rw [z2];refine f'.kp a u (λ⟨m,x,t1,t2,t3⟩=>?_) z2;obtain⟨i,t4,t5⟩:=pat (bn.mp t1);obtain⟨w,t6,_⟩:=R.get i x t5;have:=vat t4 t6;rw [bn.mp t3] at this;cases this;exact nj (by rw [R.dj j i p x _ h t5 ow t2 s t6];exact B_ t4)
  .obtain⟨p0,h1,h2⟩:=ownB e1 p1;obtain⟨q0,h3,h4⟩:=ownB e2 p2;exact R.dj i j p0 q0 v h1 h3 h2 h4 s1 s2
end
section
variable {vs:List V}
def Jt{c:FMs}(h:∀as Q,c as Q->as.length=n){Q:VK}{E:XK}(z:spM K c vs H Q E):vs.length=n:=by
 obtain⟨A,as,Qc,R,hq,_⟩:=z;have:=R.len;rw [length_map,length_map] at this;exact this.symm.trans (h as Qc hq)
variable {P:s_}{base:Heap}{x:Str}{N ps:List Str}{k:Nat}{pp:PTS}
def a5.oM{c:FMs}{fs:List Nat}(D:a5 K mg x st)(S:az N ps (ai st))(hb:qS x st ps)(ln:∀as Q,c as Q->as.length=n)(h1:n=ps.length)(h2:L3 n N.length=true)(ho:∀as Q,c as Q->∀i,i∈fs ↔ ∃p:PV,as[i]?=some p/\p.isOwn=true)(rd:∀as Q,c as Q->pp { nx:=yO fs as Q,rt:=λr ρ=>r=.dat .non/\yO fs as Q ρ } (bG N.length as))(hbody:∀(f:Addr) (cdv:Value) (A:y_) (outer:List Env) (s:cy) (H:Hp) (E:XK),d8 k (A.deeper (envOfC x (ai st) s.heap.objs.size f cdv))->(A.deeper (envOfC x (ai st) s.heap.objs.size f cdv)).units+64<cLine ->
   ∃t,PSs (pX CX0 P w K mg base N x (ai st) f cdv A outer s H E).nox (aR st) t/\LS K fs t pp):Cal P w K mg base (k+1) x ps (spM K c):=by
 refine D.ok S hb (λvs H Q E h=>(Jt ln h).trans h1) λf cdv A outer s H vs Q E hr h=>?_;obtain⟨t,h3,h4⟩:=hbody f cdv A outer s H E hr hr.units;exact⟨t,h3,fnM h4 (λas Q h=>⟨F_ (LQ (ln as Q h)) (KE h2),ho as Q h⟩) rd h⟩
def a5.oM2{c:FMs}{fs:List Nat}(D:a5 K mg x st)(S:az N ps (ai st))(hb:qS x st ps)(rl:∀as Q,c as Q->as.length=n/\(∀i,i∈fs ↔ ∃p:PV,as[i]?=some p/\p.isOwn=true)/\pp { nx:=yO fs as Q,rt:=λr ρ=>r=.dat .non/\yO fs as Q ρ } (bG N.length as))(h1:n=ps.length)(h2:L3 n N.length=true)(hbody:∀(f:Addr) (cdv:Value) (A:y_) (outer:List Env) (s:cy) (H:Hp) (E:XK),d8 k (A.deeper (envOfC x (ai st) s.heap.objs.size f cdv))->(A.deeper (envOfC x (ai st) s.heap.objs.size f cdv)).units+64<cLine ->
   ∃t,PSs (pX CX0 P w K mg base N x (ai st) f cdv A outer s H E).nox (aR st) t/\LS K fs t pp):Cal P w K mg base (k+1) x ps (spM K c) :=
 D.oM S hb (λas Q h=>(rl as Q h).1) h1 h2 (λas Q h=>(rl as Q h).2.1) (λas Q h=>(rl as Q h).2.2) hbody
end
abbrev Ib(i j k:Nat):TGs:=jE (bg i) (jE (bg j) (jE (bg k) BI))
noncomputable def FL(i j k:Nat)(ta:TA):TS:=λD σ H=>ta σ H λvs H1=>Ib i j k vs σ H1 D.nx
def CZ{k:Nat}{x y z:Str}{a b c:Expr}{ta:TA}{px py pz pt:Pos}{kt k2 pt2}(hc:X.calm=true)(hN:X.N.Nodup)(hi:X.N[i]?=some x)(hj:X.N[j]?=some y)(hk:X.N[k]?=some z)(hij:i≠j/\i≠k/\j≠k)
  (hx:X.env.scope.names.lookup x=some .local) (hy:X.env.scope.names.lookup y=some .local) (hz:X.env.scope.names.lookup z=some .local) (ha:PA X [a,b,c] ta)
  (hw:swappedStores [.Tuple [.Name x px,.Name y py,.Name z pz] kt pt] (.Tuple [a,b,c] k2 pt2) X.env=pure (some [x,y,z]))
  (hs:swapsWithSole [.Tuple [.Name x px,.Name y py,.Name z pz] kt pt] (.Tuple [a,b,c] k2 pt2) pos.line X.env=pure false:=by rfl) :
  PS X (.Assign [.Tuple [.Name x px,.Name y py,.Name z pz] kt pt] (.Tuple [a,b,c] k2 pt2) pos) (FL i j k ta):=by
 intro pins s σ H D I h;rw [exec_Assign_arm];refine cn (Kc ?_);rw [hs];refine cn (h_ ?_);rw [if_neg (by decide)];refine cn (Tuple_ (thn (ha _ pins s σ H _ I h) λus s1 ⟨vs,H1,I1,r1,q1⟩=>?_));obtain⟨u,t1,rfl,v,t2,rfl,w,t3,rfl,e1,q1⟩:=q1;subst e1
 obtain⟨u1,u2,u3,rfl,ru,rv,rw'⟩:∃u1 u2 u3,us=[u1,u2,u3]/\bW u u1/\bW v u2/\bW w u3:=by
  cases r1 with
  | cons p q =>
   cases q with
   | cons p' q' =>
    cases q' with
    | cons p2 q2 =>
     cases q2;exact⟨_,_,_,rfl,p,p',p2⟩
 refine JI ?_ (by show 3<=sizeLine;decide);have I2:Inv X pins σ H1 { s1 with heap:=s1.heap.push { cls:=.type "tuple",data:=.seq [u1,u2,u3].toArray } }:=I1.kept (t':=s1.toks) λb o e=>d_ _ e;rw [hw];refine cn (h_ ?_);show wpAny (model X.prog X.w) X.A (do rule "assign.swapped-stores";let items <- unpackItems (.ref s1.heap.objs.size) 3 none;assignInOrder [λv=>bindName X.env z v,λv=>bindName X.env y v,λv=>bindName X.env x v] items.reverse;pure Flow.next) _ _ _
 refine cn (MM (cn (unpackItems_tuple (items:=#[u1,u2,u3]) (I.ok.hd hc) (IsTup.new s1.heap _) λh' hx'=>?_)));have I3:=I2.kept (h':=h') (t':=s1.toks) λb o e=>hx' b o (I_ (l_ e)) e;show wpAny _ _ (assignInOrder [λv=>bindName X.env z v,λv=>bindName X.env y v,λv=>bindName X.env x v] [u3,u2,u1] >>= λ_=>pure Flow.next) _ _ _;refine cn (K_ (wpAny_bindName (gU I3 hN hk (.inl hz) rw' (λs2 I4=>?_) (.inr hz))))
 refine K_ (wpAny_bindName (gU I4 hN hj (.inl hy) rv (λs3 I5=>?_) (.inr hy)));refine K_ (wpAny_bindName (gU I5 hN hi (.inl hx) ru (λs4 I6=>assignInOrder_nil (h_ ?_)) (.inr hx)));refine⟨_,H1,I6,?_⟩;rw [set_comm _ _ (J_ hij.1),set_comm _ _ (J_ hij.2.1),set_comm _ _ (J_ hij.2.2)];exact q1
section
variable {k:Nat}
abbrev FO(i j k:Nat):zF:=qD (fj i) (qD (fj j) (qD (fj k) Cr))
variable {pa:PTA}
noncomputable def FP(i j k:Nat)(pa:PTA):PTS:=λE ρ=>pa ρ λas ρ1=>match avD as with
 | some ds=>FO i j k ds ρ1 E.nx
 | none=>False
variable {fs:List Nat}{ta:TA}
def C1(hi:fs.contains i=false)(hj:fs.contains j=false)(hk:fs.contains k=false)(h:LAs K ta pa):LS K fs (FL i j k ta) (FP i j k pa):=λfx A R H0 ρ σ H D D' hf r F q k1 k2 k3 k4 =>
 h A ρ σ H _ _ r q λvs H1 as ρ1 q1 f1 r1 o1=>by
  split at q1
  .rename_i ds ed;exact br (dC (i:=i) hi) (br (dC (i:=j) hj) (br (dC (i:=k) hk) fN)) fx A R H0 ρ1 σ H1 ds vs _ _ hf (F.fr f1) r1 (o1.avD ed) q1 λρ2 σ2 q2 r2 F2 w2=>k1 ρ2 σ2 H1 q2 r2 F2
  .exact q1.elim
end
inductive Dx:D->Prop
 | fl {d:D}:d.fl=true->Dx d
 | tup {ds:List D}:(∀d∈ds,Dx d)->Dx (.tup ds)
def FV.loanT(hO:∀b,O' b->O b\/∃o,H b=some o/\∀zs,o≠.tup zs){d:D}(h:Dx d):∀v,FV K O H v d->FV K O' H v d:=by
 induction h with
 | fl hf=>exact λv f=>FV.flat f hf
 | @tup ds hs ih =>
  intro v f
  cases f with
  | tup nn e f =>
   refine .tup (λz=>?_) e (f.each ih)
   rcases hO _ z with z|⟨o,e2,k⟩
   .exact nn z
   .rw [e] at e2;cases e2;exact k _ rfl
variable {a:Addr}
def Rel.addA(R:Rel K A ρ σ H)(g:Gr H H')(h:H a=none)(h1:H' a≠none):Rel K (cB A a) ρ σ H':=by
 have k:aB (OO A ρ σ) H (OO (cB A a) ρ σ) H':=λb u n e=>by
  refine⟨λz=>?_,g b u e⟩
  rcases z with (z|z)|z
  .exact n (.inl z)
  .rw [z,h] at e;cases e
  .exact n (.inr z)
 refine⟨R.len,λi q e=>?_,R.dj,λb z=>?_,λb z w=>?_⟩
 .obtain⟨v,s,r⟩:=R.get i q e;refine⟨v,s,r.keeps k λow b eb=>?_⟩;obtain⟨b',u,e1,e2⟩:=r.ref ow;rw [eb] at e1;cases e1;rw [e2,g _ _ e2]
 .rcases z with z|z
  .have:=R.dom b z
   cases e:H b with
   | none=>exact absurd e this
   | some o=>rw [g _ _ e];exact nofun
  .rw [z];exact h1
 .rcases z with z|z
  .exact R.sep b z w
  .obtain⟨i,p,e,o,s⟩:=w;obtain⟨v,s',r⟩:=R.get i p e;rw [s] at s';cases s';obtain⟨b',u,e1,e2⟩:=r.ref o;cases e1;rw [z,h] at e2;cases e2
noncomputable def FQ(pe:PTE):PTE:=λρ Q=>pe (frzA ρ) λp _=>match p with
 | .odc ks ds=>(∀d∈ds,Dx d)/\Q (.odc ks ds) ρ
 | _=>False
def Am(h:LE K te pe):LE K te (FQ pe):=λA ρ σ H Q Q' R q k=>h A _ σ H _ _ R.frzA q λv H1 p ρ1 q1 f1 o1=>by
 split at q1
 .rename_i ks ds;obtain⟨hn,q1⟩:=q1;have g:Gr H H1:=λb o e=>f1.kp b o pA e;obtain⟨a,kvs,rfl,na,e0,e1,m,_,f⟩:=o1;have R1:Rel K (cB A a) ρ σ H1:=R.addA g e0 (by rw [e1];exact nofun);refine k _ H1 _ ρ q1 g.fr ⟨a,kvs,rfl,na,e0,e1,m,R1,f.each λd hd=>FV.loanT (λb z=>?_) (hn d hd)⟩
  rcases z with z|⟨i,p,e3,ow,s1⟩
  .exact .inl (.inl z)
  .refine .inr ?_;obtain⟨v',s',r⟩:=R1.get i p e3;rw [s1] at s';cases s'
   cases p with
   | dat d=>cases ow
   | own es =>
    obtain⟨a,xs,e,g1,f⟩:=r;cases e;exact⟨_,g1,nofun⟩
   | ins c ns ds =>
    obtain⟨a,dx,fs,e,g1,m,f⟩:=r;cases e;exact⟨_,g1,nofun⟩
   | odc ks ds =>
    obtain⟨a,kvs,e,g1,m,f⟩:=r;cases e;exact⟨_,g1,nofun⟩
 .exact q1.elim
noncomputable def IR(i:Nat):PA1:=λρ Q=>match ρ[i]? with
 | some (some (.dat d))=>Q (.v d) ρ
 | some (some (.odc _ _))=>Q (.sl i) ρ
 | _=>False
def jl:LA1 K (aH i) (IR i):=by
 intro A ρ σ H Q Q' R q k;unfold IR at q
 split at q
 .rename_i d e;obtain⟨v,s,r⟩:=R.get i _ e;exact⟨v,s,k v H _ ρ q (Fr.refl _ _ _) R r⟩
 .rename_i e;obtain⟨v,s,r⟩:=R.get i _ e;exact⟨v,s,k v H _ ρ q (Fr.refl _ _ _) R s⟩
 .exact q.elim
variable {l:Addr}{s:cy}{A:y_}{xs:Array (Int×Tok)}
def sG(hl:s.heap.IsTuple l (intItems xs))(h:∀s₂:cy,s₂={ s with heap:=s.heap.push { cls:=.type "tuple_iterator",data:=.fields #[.ref l,.int 0 0] } } ->
   (s₂.heap.IsTupleIter s.heap.objs.size l 0/\s₂.heap.IsTuple l (intItems xs))->(∀b∈[s.heap.objs.size,l],b<s₂.heap.objs.size)->l≠s.heap.objs.size->Q (.ref s.heap.objs.size) s₂):
  wpAny (model prog w) A (pyIter (.ref l)) Q E s:=by
 have hlt:l<s.heap.objs.size:=by obtain⟨_,e,_⟩:=hl;exact l_ e
 refine Le hl (h _ rfl ⟨⟨_,kx _ rfl,rfl,rfl⟩,hl.push _⟩ (λb hb=>?_) (I_ hlt));show b<(s.heap.push _).objs.size;rw [JO]
 rcases mem_cons.mp hb with rfl|hb
 .exact JH _
 .rcases mem_cons.mp hb with rfl|hb
  .exact K4 hlt
  .cases hb
def vF(hh:A.handled=none)(hl:s.heap.IsTuple l (intItems xs))(hne:0<xs.size)(h:∀v h' tk,(intItems xs)[argBest (λi j=>decide (numAt xs i > numAt xs j)) (xs.size - 1)]?=some v->(∀b o,s.heap.get? b=some o->h'.get? b=some o)->Q v { s with heap:=h',toks:=tk }):
  wpAny (model prog w) A (call (.builtin "max") [.ref l]) Q E s:=by
 refine call_max_walk (sG hl λs₂ e st hfp hlI=>?_);subst e;refine⟨_,_,_,_,_,_,_,rfl,Walks.tuple (A:=A.in1) hh _ l hlI (intItems xs),st,hfp,by simpa [intItems] using hne,CmpOf.ints_gt (numAt xs) (λ_ _=>Ms),λv h' tk hP hk=>?_⟩;exact h v h' tk (by simpa [intItems] using hP) (λb o e=>hk b o (λz=>absurd (l_ e) (by rw [r_.mp z];exact E_ _)) (d_ _ e))
noncomputable def C2(K:b_):List V->Hp->VK->Prop:=λxs H Q=>∃(p:Addr) (ns:List Int),xs=[.ref p]/\(SqL K H p (ns.map V.int)\/SqT K H p (ns.map V.int))/\0<ns.length/\∀m:Int,m∈ns->(∀a∈ns,a<=m)->Q (.int m) H
variable {s:Nat}
def FS(K:b_)(e:X.K=K)(hc:X.calm=true):bz X (.builtin "max") (C2 K):=by
 intro pins s σ H xs us Q I r h;obtain⟨p,ns,rfl,hS,hne,q⟩:=h
 rcases hS with hS|hS
 .exact xy K e hc pins s σ H _ us Q I r ⟨p,ns,rfl,hS,hne,q⟩
 .subst e;obtain⟨u,rfl,ru⟩:=fg r;cases (show u=so p from ru);obtain⟨its,rv,pl,hz⟩:=I.tuple hS;have hi:=cJ rv;have hl:s.heap.IsTuple p its.toArray:=pl;obtain⟨ys,e⟩:=hi.allInts.items;have hns:ns=ys.toList.map (·.1):=by rw [<- hi.numsOf,<- LN,<- e]
  have hsz:0<ys.size:=by
   have h3:=hne;rw [hns,length_map,z_] at h3;exact h3
  rw [e] at hl;refine vF (by exact I.ok.hd hc) hl hsz λv h' tk hv hk=>?_;obtain⟨t,rfl⟩:=Ms hv;obtain⟨h1,h2⟩:=argBest_gt (numAt ys) (ys.size - 1)
  refine⟨.int _,H,I.kept (t':=tk) hk,⟨t,rfl⟩,q _ ?_ λa ha=>?_⟩
  .rw [hns,Mi];exact getD_mem (by rw [length_map,z_];omega)
  .rw [hns] at ha;obtain⟨j,hj,rfl⟩:=mem_getD ha;rw [length_map,z_] at hj;rw [<- Mi];exact h2 j (by omega)
noncomputable def Ic:FN:=λas Q=>∃(d:D) (ns:List Int),as=[d]/\sv d (ns.map .int)/\0<ns.length/\∀m:Int,m∈ns->(∀a∈ns,a<=m)->Q (.dat (.int m))
def C3:LC K (C2 K) Ic:=by
 intro O H xs as Q Q' dom fs q k;obtain⟨d,ns,rfl,hd,h0,q⟩:=q
 cases fs with
 | cons a b =>
  cases b
  rcases hd with rfl|rfl
  .obtain⟨p,ys,rfl,e1,f1⟩:=a.lst;rw [f1.ints] at e1;exact⟨p,ns,rfl,.inl (SqL.of e1),h0,λm h1 h2=>k _ H _ (q m h1 h2) (Gr.refl _) (.int _)⟩
  .obtain⟨p,ys,rfl,_,e1,f1⟩:=a.tup;rw [f1.ints] at e1;exact⟨p,ns,rfl,.inr (SqT.of e1),h0,λm h1 h2=>k _ H _ (q m h1 h2) (Gr.refl _) (.int _)⟩
noncomputable def An(kds:List (Key×D))(k:Key)(d:D):List (Key×D) :=
 if (kds.any λp=>decide (p.1=k))=true then kds.map (λp=>if p.1=k then (p.1,d) else p) else kds++[(k,d)]
noncomputable def KD(K:b_)(O:Addr->Prop)(H:Hp)(kvs:List (Key×V))(kds:List (Key×D)):Prop:=kvs.map tj=kds.map tj/\FVs K O H (kvs.map G_) (kds.map G_)
variable {kvs:List (Key×V)}{kds:List (Key×D)}
def KD.len(h:KD K O H kvs kds):kvs.length=kds.length:=by have:=congrArg Mp h.1;rwa [length_map,length_map] at this
theorem KD.map(k:Key){d:D}(f:FV K O H v d):∀{kvs:List (Key×V)}{kds:List (Key×D)},KD K O H kvs kds ->
  KD K O H (kvs.map λp=>if p.1=k then (p.1,v) else p) (kds.map λp=>if p.1=k then (p.1,d) else p)
 | [],[],_=>⟨rfl,.nil⟩
 | [],_::_,h=>nomatch h.1
 | _::_,[],h=>nomatch h.1
 | p::r,q::s,⟨h1,h2⟩=>by
  rw [map_cons,map_cons] at h1 h2;injection h1 with e1 e2
  cases h2 with
  | cons a b =>
   obtain⟨i1,i2⟩:=KD.map k f (kvs:=r) (kds:=s) ⟨e2,b⟩
   by_cases z:p.1=k
   .refine⟨?_,?_⟩
    .rw [map_cons,map_cons,map_cons,map_cons,i1,if_pos z,if_pos (e1.symm.trans z)];exact congrArg (·::_) e1
    .rw [map_cons,map_cons,map_cons,map_cons,if_pos z,if_pos (e1.symm.trans z)];exact .cons f i2
   .refine⟨?_,?_⟩
    .rw [map_cons,map_cons,map_cons,map_cons,i1,if_neg z,if_neg λy=>z (e1.trans y)];exact congrArg (·::_) e1
    .rw [map_cons,map_cons,map_cons,map_cons,if_neg z,if_neg λy=>z (e1.trans y)];exact .cons a i2
variable {l:Nat->Int}
def C4(k:Key){l:List (Key×α)}{m:List (Key×β)}(h:l.map tj=m.map tj):(l.any λp=>decide (p.1=k))=m.any λp=>decide (p.1=k):=by
 have e:=congrArg (List.any · λx=>decide (x=k)) h;have e:(l.map tj).any (λx=>decide (x=k))=(m.map tj).any (λx=>decide (x=k)):=e;rw [any_map,any_map] at e;exact e
def KD.put{k:Key}{d:D}(h:KD K O H kvs kds)(f:FV K O H v d):KD K O H (ve kvs k v) (An kds k d):=by
 unfold ve An;rw [C4 k h.1]
 split
 .exact KD.map k f h
 .refine⟨by rw [map_append,map_append,h.1];rfl,?_⟩;rw [map_append,map_append];exact h.2.append (.cons f .nil)
section
noncomputable def yi:R2:=λx y H Q=>∃a v,x=.ref a/\yK H a y (some v)/\Q v H
variable {td ty:TE}{o i:Expr}
def g6(hu:X.A.units+64<cLine)(ho:PE X o td)(hi:PE X i ty)(hs:Hb i):PE X (.Subscript o i pos) (tOp yi td ty):=Cc (by omega) ho hi hs
noncomputable def Dy:D->Option Key
 | .int i=>some (.inl i)
 | .str w=>some (.inr (S w))
 | _=>none
def FV.key{d:D}{k:Key}(h:FV K O H v d)(e:Dy d=some k):v=kV k:=by
 cases h <;> first|(cases e;done)|(cases e;rfl)
variable {ks:List Key}
def FVc.fdc(h:FVc K O H v (.fdc ks ds)):∃a o kvs,v=.ref a/\H a=some (.frz o (.dK kvs))/\kvs.map tj=ks/\FVs K O H (kvs.map G_) ds:=by
 rcases h with h|⟨_,_,_,_,e,_⟩|⟨_,_,_,_,_,_,_,e,_⟩|⟨_,_,_,_,_,e,_⟩
 .cases h with
  | fdc n e m f=>exact⟨_,_,_,rfl,e,m,f⟩
 .cases e
 .cases e
 .cases e
noncomputable def FT:F2
 | .dic ks ds,d,Q=>∃k,Dy d=some k/\∃r,dE ks ds k=some r/\Q (.dat r)
 | .fdc ks ds,d,Q=>∃k,Dy d=some k/\∃r,dE ks ds k=some r/\Q (.dat r)
 | _,_,_=>False
def jS:LO K yi FT:=by
 intro O H x y a b Q Q' dom fx fy q k;unfold FT at q
 split at q
 .obtain⟨kk,ek,r,hr,q⟩:=q;obtain⟨p,kvs,rfl,e,m,f⟩:=fx.dic;have ey:y=kV kk:=(fy.fv (by intro _ z;rw [z] at ek;cases ek) (by intro _ _ _ z;rw [z] at ek;cases ek) (by intro _ _ z;rw [z] at ek;cases ek)).key ek;subst ey
  rcases lV kk m f with ⟨_,h2⟩|⟨v,d,h1,h2,fd⟩
  .rw [hr] at h2;cases h2
  .rw [hr] at h2;cases h2;exact⟨p,v,rfl,by have:=yK.k (k:=kk) e;rwa [h1] at this,k _ H _ q (Gr.refl _) fd⟩
 .obtain⟨kk,ek,r,hr,q⟩:=q;obtain⟨p,ob,kvs,rfl,e,m,f⟩:=fx.fdc;have ey:y=kV kk:=(fy.fv (by intro _ z;rw [z] at ek;cases ek) (by intro _ _ _ z;rw [z] at ek;cases ek) (by intro _ _ z;rw [z] at ek;cases ek)).key ek;subst ey
  rcases lV kk m f with ⟨_,h2⟩|⟨v,d,h1,h2,fd⟩
  .rw [hr] at h2;cases h2
  .rw [hr] at h2;cases h2;exact⟨p,v,rfl,by have:yK H p (kV kk) (pY kvs kk):=.inl ⟨kvs,kk,.inr ⟨ob,e⟩,rfl,rfl⟩;rwa [h1] at this,k _ H _ q (Gr.refl _) fd⟩
 .exact q.elim
noncomputable def IS(neg:Bool):R2:=λx y H Q=>∃a kvs k,y=.ref a/\x=kV k/\H a=some (.dK kvs)/\Q (.bl (if neg then !(pY kvs k).isSome else (pY kvs k).isSome)) H
def uH(hu:X.A.units+64<cLine):OpR X (compareOp .NotIn) (IS true):=by
 intro pins s σ H x y v u Q I rx ry h;obtain⟨a,kvs,k,rfl,rfl,e,q⟩:=h;cases (show u=so a from ry);exact B9 (by omega) I (yK.k e) rx λs' I'=>⟨.bl _,H,I',rfl,q⟩
noncomputable def IT(neg:Bool):F2
 | d,.dic ks ds,Q=>∃k,Dy d=some k/\Q (.dat (.bl (if neg then !(dE ks ds k).isSome else (dE ks ds k).isSome)))
 | _,_,_=>False
def Bn{neg:Bool}:LO K (IS neg) (IT neg):=by
 intro O H x y a b Q Q' dom fx fy q k;unfold IT at q
 split at q
 .obtain⟨kk,ek,q⟩:=q;obtain⟨p,kvs,rfl,e,m,f⟩:=fy.dic;have ey:x=kV kk:=(fx.fv (by intro _ z;rw [z] at ek;cases ek) (by intro _ _ _ z;rw [z] at ek;cases ek) (by intro _ _ z;rw [z] at ek;cases ek)).key ek;subst ey;refine⟨p,kvs,kk,rfl,rfl,e,k _ H _ q (Gr.refl _) ?_⟩
  rcases lV kk m f with ⟨h1,h2⟩|⟨v,d,h1,h2,_⟩
  .rw [h1,h2];exact .bl _
  .rw [h1,h2];exact .bl _
 .exact q.elim
end
noncomputable def pG(l:List (Key×D))(k:Key):Option D:=(l.find? λp=>decide (p.1=k)).map (·.2)
def gD(l:List (Key×D))(k:Key):dE (l.map tj) (l.map G_) k=pG l k:=by
 unfold dE pG;rw [List.zip_map',find?_map]
 cases e:l.find? ((λp=>decide (p.1=k)) ∘ λa=>(a.1,a.2)) with
 | none=>rw [show (l.find? λp=>decide (p.1=k))=none from e];rfl
 | some p=>rw [show (l.find? λp=>decide (p.1=k))=some p from e];rfl
noncomputable def vG(kds:List (Key×D))(k:Key):List (Key×D):=kds.filter λp=>decide (p.1≠k)
section
theorem KD.drop(k:Key):∀{kvs:List (Key×V)}{kds:List (Key×D)},KD K O H kvs kds->KD K O H (sd kvs k) (vG kds k)
 | [],[],_=>⟨rfl,.nil⟩
 | [],_::_,h=>nomatch h.1
 | _::_,[],h=>nomatch h.1
 | p::r,q::s,⟨h1,h2⟩=>by
  rw [map_cons,map_cons] at h1 h2;injection h1 with e1 e2
  cases h2 with
  | cons a b =>
   obtain⟨i1,i2⟩:=KD.drop k (kvs:=r) (kds:=s) ⟨e2,b⟩;unfold sd vG at i1 i2 ⊢
   by_cases z:p.1=k
   .rw [filter_cons,filter_cons,decide_eq_false (show ¬ p.1≠k from λy=>y z),decide_eq_false (show ¬ q.1≠k from λy=>y (e1.symm.trans z))];exact⟨i1,i2⟩
   .rw [filter_cons,filter_cons,decide_eq_true (show p.1≠k from z),decide_eq_true (show q.1≠k from λy=>z (e1.trans y))]
    refine⟨?_,?_⟩
    .rw [if_pos rfl,if_pos rfl,map_cons,map_cons,i1];exact congrArg (·::_) e1
    .rw [if_pos rfl,if_pos rfl,map_cons,map_cons];exact .cons a i2
variable {A:Addr->Prop}
def Rel.odcAt(R:Rel K A ρ σ H)(e:ρ[i]?=some (some (.odc (kds.map tj) (kds.map G_)))):∃a kvs,σ[i]?=some (some (.ref a))/\H a=some (.dK kvs)/\KD K (OO A ρ σ) H kvs kds:=by
 obtain⟨v,s,a,kvs,rfl,g,m,f⟩:=R.get i _ e;exact⟨a,kvs,s,g,m,f⟩
variable {ks:List Key}
def Rel.odcw(R:Rel K A ρ σ H)(e:ρ[i]?=some (some (.odc ks ds)))(es':σ[i]?=some (some (.ref a)))(f:KD K (OO A ρ σ) H kvs kds):
  Rel K A (ρ.set i (some (.odc (kds.map tj) (kds.map G_)))) σ (upd H a (.dK kvs))/\Fr ρ σ H (ρ.set i (some (.odc (kds.map tj) (kds.map G_)))) (upd H a (.dK kvs)):=by
 have wa:OO A ρ σ a:=.inr ⟨i,_,e,rfl,es'⟩;exact R.write (q:=.odc _ _) e rfl rfl es' ⟨a,kvs,rfl,aC,f.1,f.2.keeps λb u n h=>⟨n,by rw [ar (λz=>n (by rw [z];exact wa))];exact h⟩⟩
def Ie:PTE:=λρ Q=>Q (.odc [] []) ρ
def yj:LE K AT Ie:=λA ρ σ H Q Q' R q k=>λp hp =>
 k _ _ (.odc [] []) ρ q (Fr.new hp) ⟨p,[],rfl,λz=>R.dom p z hp,hp,aC,rfl,R.growA hp,.nil⟩
noncomputable def FU(i:Nat)(pe pk:PTE):PTS:=λE ρ=>pe ρ λp ρ1=>(match ρ1[i]? with
 | some (some (.odc _ _))=>pk ρ1 λkp ρ2=>(match ρ2[i]?,kp with
  | some (some (.odc ks ds)),.dat d=>∃kds:List (Key×D),ks=kds.map tj/\ds=kds.map G_/\kds.length<1000000/\∃k,Dy d=some k/\E.nx (ρ2.set i (some (.odc ((An kds k p.d).map tj) ((An kds k p.d).map G_))))
  | _,_=>False)
 | _=>False)
variable {fs:List Nat}
def yk(h:LE K te pe)(hk:LE K tk pk):LS K fs (Cb (aH i) tk te) (FU i pe pk):=λfx A R H0 ρ σ H D D' hf r F q k1 k2 k3 k4=>h A ρ σ H _ _ r q λv H1 p ρ1 q1 f1 o1=>by
 obtain⟨R1,fv⟩:=o1.frz
 split at q1
 .rename_i ks0 ds0 e0;obtain⟨v0,s0,a0,kvs0,rfl,g0,_⟩:=R1.get i _ e0;refine⟨_,s0,hk A ρ1 σ H1 _ _ R1 q1 λw H2 kp ρ2 q2 f2 o2=>?_⟩
  split at q2
  .rename_i ks ds d e2;obtain⟨kds,rfl,rfl,hl,kk,ek,q2⟩:=q2;obtain⟨R2,fw⟩:=o2;have ew:w=kV kk:=FV.key fw ek;subst ew;obtain⟨a,kvs,s,g,f⟩:=R2.odcAt e2;rw [s0] at s;cases s;obtain⟨R3,f3⟩:=R2.odcw e2 s0 (f.put (fv.keeps f2.keeps) (k:=kk));exact⟨a0,_,rfl,Ex.k g (t_ (by rw [f.len];exact hl) (sz _ (f_ _))),k1 _ _ _ q2 R3 (((F.fr f1).fr f2).fr f3)⟩
  .exact q2.elim
 .exact q1.elim
noncomputable def FW(i:Nat)(pk:PTE):PTE:=λρ Q=>match ρ[i]? with
 | some (some (.odc _ _))=>pk ρ λkp ρ1=>(match ρ1[i]?,kp with
  | some (some (.odc ks ds)),.dat d=>∃kds:List (Key×D),ks=kds.map tj/\ds=kds.map G_/\∃k,Dy d=some k/\∃r,pG kds k=some r/\Q (.dat r) (ρ1.set i (some (.odc ((vG kds k).map tj) ((vG kds k).map G_))))
  | _,_=>False)
 | _=>False
def C5(hk:LE K tk pk):LE K (AU (aH i) tk) (FW i pk):=λA ρ σ H Q Q' R q k=>by
 unfold FW at q
 split at q
 .rename_i ks0 ds0 e0;obtain⟨v0,s0,a0,kvs0,rfl,g0,_⟩:=R.get i _ e0;refine⟨_,s0,a0,rfl,.inl ⟨kvs0,.inl g0⟩,hk A ρ σ H _ _ R q λw H1 kp ρ1 q1 f1 o1=>?_⟩
  split at q1
  .rename_i ks ds d e1;obtain⟨kds,rfl,rfl,kk,ek,r,hr,q1⟩:=q1;obtain⟨R1,fw⟩:=o1;have ew:w=kV kk:=FV.key fw ek;subst ew;obtain⟨a,kvs,s,g,f⟩:=R1.odcAt e1;rw [s0] at s;cases s
   rcases lV kk f.1 f.2 with ⟨_,h2⟩|⟨v,d',h1,h2,fd⟩
   .rw [gD,hr] at h2;cases h2
   .rw [gD,hr] at h2;cases h2;obtain⟨R2,f2⟩:=R1.odcw e1 s0 (f.drop kk);exact⟨kvs,kk,v,g,rfl,h1,k _ _ _ _ q1 (f1.trans f2) ⟨R2,fd.keeps f2.keeps⟩⟩
  .exact q1.elim
 .exact q.elim
end
variable {s:cy}{o:Obj}
def Inv.freeze(I:Inv X pins σ H s)(e:H a=some (.dK kvs))(ho:s.heap.get? a=some o):Inv X pins σ (upd H a (.frz o (.dK kvs))) s:=by
 have mu:Mut (H a):=by rw [e];exact trivial
 have ne:∀b u,H b=some u->(∀l,u≠.dK l)->b≠a:=λb u h n z=>by rw [z,e] at h;exact n _ (vx h).symm
 refine I.un (t':=s.toks) (Un.write mu (.inl rfl) (λ_ _ _ q=>q) ⟨o,ho⟩) (HOk.write I.hok mu (.inl rfl) (λ_ _ _ q=>q) ⟨o,ho⟩ ⟨ho,?_⟩);exact (I.hok a _ e).stay (λ_ _ _ q=>q) (λb q=>by rw [ar (ne b _ q nofun)];exact q) λb xs q=>by rw [ar (ne b _ q nofun)];exact q
def Inv.thaw(I:Inv X pins σ H s)(e:H a=some (.frz o (.dK kvs)))(nb:∀o u,X.H₀ a≠some (.frz o u)):Inv X pins σ (upd H a (.dK kvs)) s:=by
 have nn:∀b,H b=none->b≠a:=λb h z=>by rw [z,e] at h;cases h
 have hown:∀b c,H b=some (.own c)->upd H a (.dK kvs) b=some (.own c):=λb c q=>by
  rw [ar λz=>by rw [z,e] at q;injection q with q;injection q];exact q
 have htup:∀b xs,H b=some (.tup xs)->upd H a (.dK kvs) b=some (.tup xs):=λb xs q=>by
  rw [ar λz=>by rw [z,e] at q;injection q with q;injection q];exact q
 have hb:Un X.fs X.ex X.H₀ (upd H a (.dK kvs)) X.s₀.heap s.heap:=by
  refine⟨I.base.keep,I.base.slot,λb ob q n hx=>?_,I.base.there,λb xs q=>htup b xs (I.base.tups b xs q),λb ob u q=>?_,λb ps q=>?_⟩
  .have:=I.base.free b ob q n hx;rw [ar (nn b this)];exact this
  .by_cases z:b=a
   .rw [z] at q;exact absurd q (nb _ _)
   .rw [ar z];exact I.base.frzs b ob u q
  .obtain⟨m,h⟩:=I.base.tbls b ps q;refine⟨m,?_⟩;rw [ar λz=>by rw [z,e] at h;injection h with h;injection h];exact h
 refine⟨I.ok,I.os,I.bare,hb,I.loc,I.cell,?_,λx c q=>?_,λp hp=>?_,λb u q=>?_,I.len⟩
 .rw [ar (nn _ I.free)];exact I.free
 .rw [ar (nn _ (I.freeC x c q))];exact I.freeC x c q
 .obtain⟨h1,h2,h3⟩:=I.pin p hp;exact⟨h1,by rw [ar (nn _ h2)];exact h2,h3⟩
 .by_cases z:b=a
  .subst z;rw [aC] at q;injection q with q;subst q;have h:s.heap.get? b=some o/\bB X.prog X.w H s.heap b (.dK kvs):=I.hok b _ e;exact h.2.stay (λ_ _ _ q=>q) (λc q=>hown c b q) htup
  .rw [ar z] at q;exact (I.hok b u q).stay (λ_ _ _ q=>q) (λc q=>hown c b q) htup
def Inv.dkObj(I:Inv X pins σ H s)(e:H a=some (.dK kvs)):∃o,s.heap.get? a=some o:=by
 obtain⟨_,_,vs,_,o,_,_,ho,_⟩:=zt I.hok e;exact⟨o,ho⟩
noncomputable def IU(te:TE):TE:=λσ H Q=>∃a kvs,H a=some (.dK kvs)/\∀o,te σ (upd H a (.frz o (.dK kvs))) λv H1=>H1 a=some (.frz o (.dK kvs))/\Q v (upd H1 a (.dK kvs))
def FY(he:PE X e te):PE X e (IU te):=λpins s σ H Q I ⟨a,kvs,ea,q⟩=>by
 obtain⟨o,ho⟩:=I.dkObj ea;have nb:∀o u,X.H₀ a≠some (.frz o u):=λo u z=>by have:=I.base.frzs a o u z;rw [ea] at this;cases this
 exact thn (he pins s σ _ _ (I.freeze ea ho) (q o)) λu s1 ⟨v,H1,I1,r,e1,q1⟩=>⟨v,_,I1.thaw e1 nb,r,q1⟩
noncomputable def Itd(a:Addr)(o:Obj)(kvs:List (Key×V)):It :=
 ⟨λi H=>H a=some (.frz o (.dK kvs))/\i<kvs.length,λi H x H'=>H'=H/\∃p,kvs[i]?=some p/\x=kV p.1,λi H=>H a=some (.frz o (.dK kvs))/\kvs.length<=i⟩
theorem l0{F:α->β->Prop}:∀{l:List α}{m:List β},Paired F l m->∀{i:Nat}{p:α}{q:β},l[i]?=some p->m[i]?=some q->F p q
 | _,_,.nil,_,_,_,h,_=>by simp at h
 | _,_,.cons r t,0,_,_,h,k=>by simp at h k;subst h k;exact r
 | _,_,.cons r t,i+1,_,_,h,k=>l0 t (by simpa using h) (by simpa using k)
variable {s:Nat}{tg:Expr}
def yl{P:s_}{es:Array DictEntry}{ep:Nat}(a it:Addr)(o:Obj)(kvs:List (Key×V))(hd:o.data=.dict es ep):BJ P w K tg (Itd a o kvs) [it] it (λi h=>h.IsKeyIter it a i kvs.length ep) where
 mem:=by simp
 obj:=λi h st b hb=>by
  have e:b=it:=by simpa using hb
  subst e;obtain⟨o,e,c,d⟩:=st;exact⟨o,e,λv z=>by rw [d] at z;cases z⟩
 keep:=λi h h' st k=>st.at λo e=>k it (by simp) o e
 item:=by
  intro X hP hw hK hc i pins s σ H E I hf st hg;subst hP hw hK;obtain⟨hq,hi⟩:=hg;obtain⟨ho,hk⟩:=(show s.heap.get? a=some o/\bB X.prog X.w H s.heap a (.dK kvs) from I.hok a _ hq)
  obtain⟨_,_,vs,rel,o',es',ep',ho',hx',hd',h3,h4,h5⟩:=hk;rw [ho] at ho';injection ho' with ho';subst ho';rw [hd] at hd';injection hd' with h1 h2;subst h1 h2;have hl:=rel.length;obtain⟨⟨k,x⟩,hx⟩:∃p,vs[i]?=some p:=⟨vs[i]'(by omega),by rw [cx]⟩
  have hp:kvs[i]?=some kvs[i]:=cx hi;obtain⟨f0,f1,f2,f3,f4,f5⟩:=hf it (by simp);rw [hl] at st;refine wpAny_pyNext_dict_item (knd:=bV X.prog X.w) st ⟨o,es,ho,hx',hd,h3,h4,h5⟩ hx λkey h' hkey st' sb=>?_;have I1:Inv X pins σ H { s with heap:=h' }:=I.turned (t':=s.toks) (λb o hb e=>(sb.2 b hb).trans e) f0 f1 f3 f4 f5;obtain⟨ok,e,c,d⟩:=id st';have hk1:(kvs[i]).1=k:=(l0 rel hp hx).1
  have r:bW (kV (kvs[i]).1) key:=by
   rw [hk1]
   rcases bx hkey with ⟨j,t,rfl,rfl⟩|⟨y,t,rfl,rfl⟩
   .exact⟨t,rfl⟩
   .exact⟨t,rfl⟩
  rw [<- hl] at st';exact⟨key,rfl,yS (s:={ s with heap:=h' }) e c d (by decide) ⟨_,H,I1,r,⟨rfl,_,hp,rfl⟩,st',λb hb=>(hf b hb).1⟩⟩
 done:=by
  intro X hP hw hK hc i pins s σ H E I hf st hg;subst hP hw hK;obtain⟨hq,hi⟩:=hg;obtain⟨ho,hk⟩:=(show s.heap.get? a=some o/\bB X.prog X.w H s.heap a (.dK kvs) from I.hok a _ hq)
  obtain⟨_,_,vs,rel,o',es',ep',ho',hx',hd',h3,h4,h5⟩:=hk;rw [ho] at ho';injection ho' with ho';subst ho';rw [hd] at hd';injection hd' with h1 h2;subst h1 h2;have hl:=rel.length;obtain⟨f0,f1,f2,f3,f4,f5⟩:=hf it (by simp);rw [hl] at st;exact wpAny_pyNext_dict_end (knd:=bV X.prog X.w) (I.ok.hd hc) st ⟨o,es,ho,hx',hd,h3,h4,h5⟩ (x_ (by omega)) λh' eb=>⟨rfl,I.turned (t':=s.toks) (λb o hb e=>eb b o hb e) f0 f1 f3 f4 f5⟩
 self:=λ_ _ _ _ _ st h=>wpAny_pyIter_keyiter st h
noncomputable def iDk(tl:TE):TI:=λσ H R=>tl σ H λx H1=>∃a o kvs,x=.ref a/\H1 a=some (.frz o (.dK kvs))/\R (Itd a o kvs) H1
def FZ{l:Expr}{tl:TE}(hl:PE X l tl):PI X tg l (iDk tl):=by
 intro pins s σ H R I h;refine thn (hl pins s σ H _ I h) λv s1 ⟨x,H1,I1,r1,q1⟩=>?_;obtain⟨a,o,kvs,e,hq,q⟩:=q1;subst e;cases r1;obtain⟨ho,hk⟩:=(show s1.heap.get? a=some o/\bB X.prog X.w H1 s1.heap a (.dK kvs) from I1.hok a _ hq)
 obtain⟨_,ns,vs,rel,o',es,ep,ho',hx',hd,h3,h4,h5⟩:=hk;rw [ho] at ho';injection ho' with ho';subst ho';refine wpAny_pyIter_dict (knd:=bV X.prog X.w) ns ⟨o,es,ho,hx',hd,h3,h4,h5⟩ ?_
 refine⟨s1.heap.objs.size,[s1.heap.objs.size],_,_,H1,rfl,I1.kept (t':=s1.toks) λb o e=>d_ _ e,yl a _ o kvs hd,⟨_,kx _ rfl,rfl,?_⟩,λb hb=>?_,q⟩
 .rw [rel.length];rfl
 have e:b=s1.heap.objs.size:=by simpa using hb
 subst e;exact I1.fpOk (f_ _) (I1.hok.fresh (f_ _))
mutual
noncomputable def D.noF:D->Bool
 | .lst ds=>D.noFs ds|.tup ds=>D.noFs ds|.dic _ ds=>D.noFs ds|.obj _ _ ds=>D.noFs ds|.exc _ _ ds=>D.noFs ds|.fdc _ _=>false
 | .non=>true|.bl _=>true|.int _=>true|.str _=>true|.ty _=>true|.scr _=>true
noncomputable def D.noFs:List D->Bool
 | []=>true
 | d::r=>d.noF && D.noFs r
end
variable {u:HO}
mutual
theorem FV.noF(g:H a=some (.frz o (.dK kvs))):∀{v:V}{d:D},FV K O H v d->d.noF=true->FV K (cB O a) (upd H a u) v d
 | _,_,.non,_=>.non
 | _,_,.bl b,_=>.bl b
 | _,_,.int i,_=>.int i
 | _,_,.str l h,_=>.str l h
 | _,_,.ty n,_=>.ty n
 | _,_,.scr (a:=b) s,_=>.scr (by
   rcases s with ⟨n,r⟩|s
   .rcases r with e|⟨ob,e⟩
    .have ne:b≠a:=λz=>by rw [z,g] at e;cases e
     exact .inl ⟨λz=>z.elim n ne,.inl (by rw [ar ne];exact e)⟩
    .have ne:b≠a:=λz=>by rw [z,g] at e;cases e
     exact .inl ⟨λz=>z.elim n ne,.inr ⟨ob,by rw [ar ne];exact e⟩⟩
   .exact .inr s)
 | _,_,.lst n e f,p=>have ne:_≠a:=λz=>by rw [z,g] at e;cases e
  .lst (λz=>z.elim n ne) (by rw [ar ne];exact e) (FVs.noF g f p)
 | _,_,.tup n e f,p=>have ne:_≠a:=λz=>by rw [z,g] at e;cases e
  .tup (λz=>z.elim n ne) (by rw [ar ne];exact e) (FVs.noF g f p)
 | _,_,.dic n e m f,p=>have ne:_≠a:=λz=>by rw [z,g] at e;cases e
  .dic (λz=>z.elim n ne) (by rw [ar ne];exact e) m (FVs.noF g f p)
 | _,_,.fdc _ _ _ _,p=>nomatch p
 | _,_,.obj n e m f,p=>have ne:_≠a:=λz=>by rw [z,g] at e;cases e
  .obj (λz=>z.elim n ne) (by rw [ar ne];exact e) m (FVs.noF g f p)
 | _,_,.exc0 n e,_=>have ne:_≠a:=λz=>by rw [z,g] at e;cases e
  .exc0 (λz=>z.elim n ne) (by rw [ar ne];exact e)
 | _,_,.exc1 n n2 e e2 m f,p=>have ne:_≠a:=λz=>by rw [z,g] at e;cases e
  have ne2:_≠a:=λz=>by rw [z,g] at e2;cases e2
  .exc1 (λz=>z.elim n ne) (λz=>z.elim n2 ne2) (by rw [ar ne];exact e) (by rw [ar ne2];exact e2) m (FVs.noF g f p)
theorem FVs.noF(g:H a=some (.frz o (.dK kvs))):∀{vs:List V}{ds:List D},FVs K O H vs ds->D.noFs ds=true->FVs K (cB O a) (upd H a u) vs ds
 | _,_,.nil,_=>.nil
 | _,_,.cons x y,p=>by
  have p:(_ && _)=true:=p;rw [and_eq_true] at p;exact .cons (FV.noF g x p.1) (FVs.noF g y p.2)
end
section
variable {ks:List Key}
abbrev uI(ρ:PSt)(x:Nat)(ks:List Key)(ds:List D):PSt:=ρ.set x (some (.dat (.fdc ks ds)))
def C6(e:ρ[x]?=some (some (.odc ks ds))){m:Nat}{y:PV}(em:(uI ρ x ks ds)[m]?=some (some y))(oy:y.isOwn=true):m≠x/\ρ[m]?=some (some y):=by
 have hx:x<ρ.length:=(i_.mp e).1
 by_cases z:x=m
 .subst z;rw [p_ hx] at em;cases em;cases oy
 .rw [k_ z] at em;exact⟨λq=>z q.symm,em⟩
variable {A:Addr->Prop}
def l4(R:Rel K A ρ σ H)(e:ρ[x]?=some (some (.odc ks ds)))(s:σ[x]?=some (some (.ref a))):Wr (uI ρ x ks ds) σ b ↔ Wr ρ σ b/\b≠a:=by
 constructor
 .rintro⟨j,r,e1,o1,s1⟩;obtain⟨n,e2⟩:=C6 e e1 o1;exact⟨⟨j,r,e2,o1,s1⟩,λz=>n (R.dj j x r _ _ e2 e o1 rfl s1 (by rw [z];exact s))⟩
 .rintro⟨⟨j,r,e1,o1,s1⟩,n⟩;have nx:x≠j:=λz=>by subst z;rw [s] at s1;cases s1;exact n rfl
  exact⟨j,r,by show (ρ.set _ _)[j]?=_;rw [k_ nx];exact e1,o1,s1⟩
def Rel.fzD(R:Rel K A ρ σ H)(e:ρ[x]?=some (some (.odc ks ds)))(s:σ[x]?=some (some (.ref a)))(g:H a=some (.dK kvs))(m:kvs.map tj=ks)(f:FVs K (OO A ρ σ) H (kvs.map G_) ds):
  Rel K A (uI ρ x ks ds) σ (upd H a (.frz o (.dK kvs))):=by
 have hx:x<ρ.length:=(i_.mp e).1;have wa:Wr ρ σ a:=⟨x,_,e,rfl,s⟩
 have k:aB (OO A ρ σ) H (OO A (uI ρ x ks ds) σ) (upd H a (.frz o (.dK kvs))):=λb u n h=>by
  have ne:b≠a:=λz=>n (.inr (by rw [z];exact wa));exact⟨λz=>n (z.imp id λz=>((l4 R e s).mp z).1),by rw [ar ne];exact h⟩
 refine⟨by rw [JE];exact R.len,λj r e1=>?_,λj l p1 q1 v e1 e2 o1 o2 s1 s2=>R.dj j l p1 q1 v (C6 e e1 o1).2 (C6 e e2 o2).2 o1 o2 s1 s2,λb z=>?_,λb z w=>R.sep b z ((l4 R e s).mp w).1⟩
 .by_cases z:x=j
  .subst z;rw [p_ hx] at e1;cases e1;exact⟨_,s,.fdc (λz=>z.elim (λz=>R.sep a z wa) λz=>((l4 R e s).mp z).2 rfl) aC m (f.keeps k)⟩
  .rw [k_ z] at e1;obtain⟨v,s',r'⟩:=R.get j r e1;refine⟨v,s',r'.keeps k λow b eb=>?_⟩;rw [ar];intro zz;subst zz;rw [eb] at s';exact z (R.dj x j _ r _ e e1 rfl ow s s')
 .by_cases y:b=a
  .rw [y,aC];exact nofun
  .rw [ar y];exact R.dom b z
noncomputable def IV(ts:TS):TS:=λD σ H=>∃a kvs,H a=some (.dK kvs)/\∀o,ts D σ (upd H a (.frz o (.dK kvs)))
def F4{ts:TS}(h:PS X st ts):PS X st (IV ts):=λpins s σ H D I ⟨a,kvs,ea,q⟩=>by
 obtain⟨o,ho⟩:=I.dkObj ea;exact h pins s σ _ D (I.freeze ea ho) (q o)
noncomputable def F8(x:Nat)(ps:PTS):PTS:=λE ρ=>match ρ[x]? with
 | some (some (.odc ks ds))=>ps E (uI ρ x ks ds)
 | _=>False
variable {fs:List Nat}
def Ga{ts:TS}{ps:PTS}(h:LS K fs ts ps):LS K fs (IV ts) (F8 x ps):=λfx A R H0 ρ σ H D D' hf r F q k1 k2 k3 k4=>by
 unfold F8 at q
 split at q
 .rename_i ks ds e;obtain⟨v,s,a,kvs,rfl,g,m,f⟩:=r.get x _ e;have wa:Wr ρ σ a:=⟨x,_,e,rfl,s⟩
  refine⟨a,kvs,g,λo=>h fx A R H0 _ σ _ D D' hf (r.fzD e s g m f) ⟨λb u n h0=>?_,λb z=>?_,λb w=>F.ow b ((l4 r e s).mp w).1,F.fx⟩ q k1 k2 k3 k4⟩
  .have ne:b≠a:=λz=>by
    subst z
    rcases F.ow b wa with z|z
    .exact n z
    .rw [z] at h0;cases h0
   rw [ar ne];exact F.kp b u n h0
  .by_cases y:b=a
   .rw [y,aC];exact nofun
   .rw [ar y];exact F.dm b z
 .exact q.elim
noncomputable def Ig(x:Nat)(ρ:PSt):Prop:=∀j p,j≠x->ρ[j]?=some (some p)->p.isOwn=true->p.d.noF=true
noncomputable def IW(x:Nat)(pe:PTE):PTE:=λρ Q=>match ρ[x]? with
 | some (some (.odc ks ds))=>Ig x ρ/\pe (uI ρ x ks ds) λp ρ1=>ρ1=uI ρ x ks ds/\p.d.noF=true/\(match p with|.dat _=>True|.own _=>True|_=>False)/\Q p ρ
 | _=>False
variable {A':Addr->Prop}
def Rel.unfz(R:Rel K A ρ σ H)(e:ρ[x]?=some (some (.odc ks ds)))(s:σ[x]?=some (some (.ref a)))(m:kvs.map tj=ks)(f:FVs K (OO A ρ σ) H (kvs.map G_) ds)(kp:∀b u,¬ Wr (uI ρ x ks ds) σ b->upd H a (.frz o (.dK kvs)) b=some u->H1 b=some u)(hA:∀b,A' b->A b\/H b=none)(hA2:∀b,A b->A' b)(nf:Ig x ρ)(R1:Rel K A' (uI ρ x ks ds) σ H1):
  Rel K A' ρ σ (upd H1 a (.dK kvs)):=by
 have wa:Wr ρ σ a:=⟨x,_,e,rfl,s⟩
 have na:¬ Wr (uI ρ x ks ds) σ a:=λz=>((l4 R e s).mp z).2 rfl;have g1:H1 a=some (.frz o (.dK kvs)):=kp a _ na aC;have ha:H a≠none:=R.wr wa
 have up:∀b,OO A' ρ σ b->cB (OO A' (uI ρ x ks ds) σ) a b:=λb z=>by
  by_cases y:b=a
  .exact .inr y
  .exact .inl (z.imp id λz=>(l4 R e s).mpr ⟨z,y⟩)
 have kk:aB (OO A ρ σ) H (OO A' ρ σ) (upd H1 a (.dK kvs)):=λb u n h=>by
  have ne:b≠a:=λz=>n (.inr (by rw [z];exact wa))
  refine⟨λz=>?_,?_⟩
  .rcases z with z|z
   .rcases hA b z with y|y
    .exact n (.inl y)
    .rw [y] at h;cases h
   .exact n (.inr z)
  .rw [ar ne];exact kp b u (λz=>n (.inr ((l4 R e s).mp z).1)) (by rw [ar ne];exact h)
 refine⟨R.len,λj p e1=>?_,R.dj,λb z=>?_,λb z w=>?_⟩
 .by_cases y:x=j
  .subst y;rw [e] at e1;cases e1;exact⟨_,s,a,kvs,rfl,aC,m,f.keeps kk⟩
  .have e2:(uI ρ x ks ds)[j]?=some (some p):=by show (ρ.set _ _)[j]?=_;rw [k_ y];exact e1
   cases hp:p with
   | dat d =>
    rw [hp] at e1;obtain⟨v,s',r⟩:=R.get j _ e1;exact⟨v,s',FV.keeps kk r⟩
   | own es =>
    rw [hp] at e1 e2;obtain⟨v,s',b,xs,rfl,h1,f1⟩:=R1.get j _ e2;have ne:b≠a:=λz=>by subst z;rw [g1] at h1;cases h1
    exact⟨_,s',b,xs,rfl,by rw [ar ne];exact h1,(FVs.noF g1 f1 (nf j _ (λz=>y z.symm) e1 rfl)).keeps (aB.less up)⟩
   | ins c ns es =>
    rw [hp] at e1 e2;obtain⟨v,s',b,dx,fl,rfl,h1,m1,f1⟩:=R1.get j _ e2;have ne:b≠a:=λz=>by subst z;rw [g1] at h1;cases h1
    exact⟨_,s',b,dx,fl,rfl,by rw [ar ne];exact h1,m1,(FVs.noF g1 f1 (nf j _ (λz=>y z.symm) e1 rfl)).keeps (aB.less up)⟩
   | odc ks' es =>
    rw [hp] at e1 e2;obtain⟨v,s',b,kv',rfl,h1,m1,f1⟩:=R1.get j _ e2;have ne:b≠a:=λz=>by subst z;rw [g1] at h1;cases h1
    exact⟨_,s',b,kv',rfl,by rw [ar ne];exact h1,m1,(FVs.noF g1 f1 (nf j _ (λz=>y z.symm) e1 rfl)).keeps (aB.less up)⟩
 .by_cases y:b=a
  .rw [y,aC];exact nofun
  .rw [ar y];exact R1.dom b z
 .by_cases y:b=a
  .subst y
   rcases hA b z with z|z
   .exact R.sep b z wa
   .exact ha z
  .exact R1.sep b z ((l4 R e s).mpr ⟨w,y⟩)
def Gb(h:LE K te pe):LE K (IU te) (IW x pe):=λA ρ σ H Q Q' R q k=>by
 unfold IW at q
 split at q
 .rename_i ks ds e;obtain⟨nf,q⟩:=q;obtain⟨v,s,a,kvs,rfl,g,m,f⟩:=R.get x _ e;have wa:Wr ρ σ a:=⟨x,_,e,rfl,s⟩
  have na:¬ Wr (uI ρ x ks ds) σ a:=λz=>((l4 R e s).mp z).2 rfl;refine⟨a,kvs,g,λo=>h A _ σ _ _ _ (R.fzD e s g m f) q λv H1 p ρ1 q1 F1 o1=>?_⟩;obtain⟨rfl,np,pk,q1⟩:=q1;have g1:H1 a=some (.frz o (.dK kvs)):=F1.kp a _ na aC
  have up:∀{B:Addr->Prop} (b:Addr),OO B ρ σ b->cB (OO B (uI ρ x ks ds) σ) a b:=λb z=>by
   by_cases y:b=a
   .exact .inr y
   .exact .inl (z.imp id λz=>(l4 R e s).mpr ⟨z,y⟩)
  have fr:Fr ρ σ H ρ (upd H1 a (.dK kvs)):=by
   refine⟨λb u n h0=>?_,λb z=>?_,λ_ w=>w⟩
   .have ne:b≠a:=λz=>n (by rw [z];exact wa);rw [ar ne];exact F1.kp b u (λz=>n ((l4 R e s).mp z).1) (by rw [ar ne];exact h0)
   .by_cases y:b=a
    .rw [y,aC];exact nofun
    .rw [ar y];exact F1.dm b (by rw [ar y];exact z)
  refine⟨g1,k _ _ p ρ q1 fr ?_⟩
  cases p with
  | dat d =>
   obtain⟨r1,fv⟩:=o1;exact⟨R.unfz e s m f F1.kp (λb z=>.inl z) (λ_ z=>z) nf r1,(FV.noF g1 fv np).keeps (aB.less λb z=>up b z)⟩
  | own es =>
   obtain⟨b,xs,rfl,nA,h0,h1,r1,fv⟩:=o1;have ne:b≠a:=λz=>by subst z;rw [g1] at h1;cases h1
   have hb:H b=none:=by rw [ar ne] at h0;exact h0
   exact⟨b,xs,rfl,nA,hb,by rw [ar ne];exact h1,R.unfz e s m f F1.kp (λc z=>z.imp id λz=>by rw [z];exact hb) (λ_ z=>.inl z) nf r1,(FVs.noF g1 fv np).keeps (aB.less λc z=>up c z)⟩
  | ins c ns es=>exact pk.elim
  | odc ks' es=>exact pk.elim
 .exact q.elim
noncomputable def Ju(pe:PTE):PTI:=λρ Q=>pe ρ λp ρ1=>match p with
 | .dat (.fdc ks _)=>∃is:List Int,ks=is.map J0/\Q is.length (λk=>.int (is.getD k 0)) ρ1
 | _=>False
def Gc(h:LE K te pe):LI K (iDk te) (Ju pe):=λA ρ σ H Q Q' R q k=>h A ρ σ H _ _ R q λv H1 p ρ1 q1 F1 o1=>by
 split at q1
 .rename_i ks ds;obtain⟨is,rfl,q1⟩:=q1;obtain⟨r1,fv⟩:=o1
  cases fv with
  | @fdc a o kvs _ _ n e m f =>
   refine⟨a,o,kvs,rfl,e,k _ H1 _ _ ρ1 q1 F1 r1 λO' H' kk dom=>?_⟩;have hl:kvs.length=is.length:=by have:=congrArg Mp m;rw [length_map,length_map] at this;exact this
   obtain⟨n2,e2⟩:=kk a _ n e;refine⟨λj hj=>⟨⟨e2,by omega⟩,λy H'' ⟨z1,p,z2,z3⟩=>?_⟩,e2,by omega⟩;subst z1 z3;refine⟨Gr.refl _,?_⟩;have h1:(kvs.map tj)[j]?=some p.1:=by rw [gV,z2];rfl
   rw [m,gV] at h1
   cases h2:is[j]? with
   | none=>rw [h2] at h1;cases h1
   | some i =>
    rw [h2] at h1;have h1:some (J0 i)=some p.1:=h1;injection h1 with h1;rw [<- h1,e_,h2];exact .int i
 .exact q1.elim
end
theorem qT{F:α->β->Prop}:∀{l:List α}{m:List β},l.length=m.length->(∀(i:Nat) (p:α) (q:β),l[i]?=some p->m[i]?=some q->F p q)->Paired F l m
 | [],[],_,_=>.nil
 | [],_::_,h,_=>nomatch h
 | _::_,[],h,_=>nomatch h
 | p::l,q::m,h,f=>.cons (f 0 p q rfl rfl) (qT (by simpa using h) λi x y a b=>f (i+1) x y (by simpa using a) (by simpa using b))
noncomputable def Bo:List V->Hp->VK->Prop:=λxs H Q=>∃p kvs,xs=[.ref p]/\H p=some (.dK kvs)/\∀l,H l=none->Q (.ref l) (upd H l (.lst (kvs.map λq=>kV q.1)))
def C7(hc:X.calm=true):bz X (.type "list") Bo:=by
 intro pins s σ H xs us Q I r h;obtain⟨p,kvs,rfl,e,q⟩:=h;obtain⟨u,rfl,rx⟩:=fg r;cases rx;obtain⟨hl,ns,vs,rel,dd⟩:=zt I.hok e;obtain⟨ep,da⟩:=dd.dictAt;have hlen:=rel.length;refine PySem.W.kdl_call (PySem.W.kdl_dict (knd:=bV X.prog X.w) (kvs:=vs) (ep:=ep) ns) (I.ok.hd hc) da (by rw [<- hlen];exact hl) λh' tk acc' c' kp e2 hacc=>?_;refine⟨.ref s.heap.objs.size,_,I.laid (t':=tk) kp (f_ _) (show bB X.prog X.w _ h' _ (.lst (kvs.map λq=>kV q.1)) from ⟨by rw [length_map];exact hl,acc'.toList,c',?_,by simpa using e2⟩),rfl,q _ (I.hok.fresh (f_ _))⟩
 refine qT (by rw [length_map];exact (hlen.trans hacc.1.symm).trans (z_ ..).symm) λi x y h1 h2=>?_;rw [gV] at h1
 cases h3:kvs[i]? with
 | none=>rw [h3] at h1;cases h1
 | some pr =>
  rw [h3] at h1;injection h1 with h1;obtain⟨k,z,h4,hk⟩:=hacc.2 i y (by rw [<- MT];exact h2);have h5:pr.1=k:=(l0 rel h3 h4).1;rw [<- h1];show bW (kV pr.1) y;rw [h5]
  rcases bx hk with ⟨j,t,rfl,rfl⟩|⟨w,t,rfl,rfl⟩
  .exact⟨t,rfl⟩
  .exact⟨t,rfl⟩
noncomputable def Bp:FN
 | [.dic ks _],Q=>∃is:List Int,ks=is.map J0/\is.length<=1000000/\Q (.own (is.map .int))
 | _,_=>False
def Ao:LC K Bo Bp:=by
 intro O H xs as Q Q' dom fs q k;unfold Bp at q
 split at q
 .cases fs with
  | cons a b =>
   cases b;obtain⟨is,rfl,hl,q⟩:=q;obtain⟨p,kvs,rfl,e,m,f⟩:=a.dic
   have e1:(kvs.map λq=>kV q.1)=is.map V.int:=by
    have:kvs.map (λq=>kV q.1)=(kvs.map tj).map kV:=by rw [map_map];rfl
    rw [this,m,map_map];rfl
   refine⟨p,kvs,rfl,e,λl h0=>?_⟩;rw [e1];exact k _ _ (.own (is.map .int)) q (Gr.new h0) ⟨l,_,rfl,h0,aC,FVs.of_ints is⟩
 .exact q.elim
def uJ{o i:Expr}{p:Pos}{td ty tv:TE}(hu:X.A.units+1<cLine)(ho:PE X o td)(hi:PE X i ty)(hv:PE X e tv)(h:HS e=true:=by rfl):PS X (.Assign [.Subscript o i p] e pos) (Cb td ty tv) :=
 Cd hu ho hi hv (qM (o:=o) (i:=i) (p:=p) (l:=pos.line) (env:=X.env) h)
def ax(i:Nat):LA1 K (aH i) (pSl i):=fh
def cm(i:Nat):LE K (aH i) (xi i):=jb
def Bq(i:Int):LE K (tC (.int i)) (pC (.int i)):=le_int
def bR(i:Nat):LA1 K (aH i) (pFz (xi i)):=ah jb
def bf(i:Int):LA1 K (tC (.int i)) (pFz (pC (.int i))):=ah le_int
def ck{fs:List Nat}(i:Nat)(hi:fs.contains i=false):LG K fs (bg i) (fj i):=xo hi
def aO{fs:List Nat}(i:Nat)(hi:fs.contains i=false):LGd K fs (bg i) (fj i):=dC hi
end L2
namespace K29
open PySem PySem.Spec PyProof.Rows L2
noncomputable def top(i:Nat):Stmt:=PySem.Challenge.pw_shortglue_k29_prices_of.main.body.getD i (.Pass ⟨0,0,0,0⟩)
abbrev pH:Stmt:=top 1
abbrev iN:Stmt:=top 2
abbrev fP:Stmt:=top 3
abbrev gE:Stmt:=top 4
abbrev dz:Stmt:=top 5
abbrev fq:Stmt:=top 15
abbrev fQ:Stmt:=top 17
abbrev jT:Stmt:=top 16
abbrev iO:Stmt:=top 21
abbrev fR:Stmt:=top 22
abbrev dS:Stmt:=top 23
abbrev eU:Stmt:=top 24
abbrev fS:Stmt:=top 26
abbrev iP:Stmt:=top 27
abbrev fT:Stmt:=top 28
abbrev iQ:Stmt:=top 29
abbrev C8:Stmt:=top 31
abbrev jU:Stmt:=top 32
abbrev eV:Stmt:=top 34
abbrev dU:Stmt:=top 35
abbrev l5:Stmt:=top 36
abbrev jV:Stmt:=top 37
abbrev bP:Stmt:=wG (top 38) 0
abbrev bQ:Stmt:=wG (top 38) 1
abbrev jW:Stmt:=top 40
abbrev jX:Stmt:=top 41
abbrev jY:Stmt:=top 42
abbrev l7:Stmt:=top 43
abbrev jZ:Stmt:=top 44
abbrev fU:Stmt:=top 45
abbrev iR:Stmt:=top 46
abbrev iS:Stmt:=top 50
abbrev l9:Stmt:=top 52
abbrev gF:Stmt:=top 53
abbrev eW:Stmt:=top 54
abbrev j1:Stmt:=top 55
abbrev gG:Stmt:=top 56
abbrev j3:Stmt:=top 57
abbrev de:Stmt:=top 58
abbrev Ap:Stmt:=top 59
def ym:az ["thing"] ["thing"] (ai pH):=⟨rfl,rfl,rfl,by decide +kernel,rfl,by decide +kernel,by decide +kernel⟩
def qU:az ["thing"] ["thing"] (ai iN):=⟨rfl,rfl,rfl,by decide +kernel,rfl,by decide +kernel,by decide +kernel⟩
def m7:az ["thing","many"] ["thing","many"] (ai fP):=⟨rfl,rfl,rfl,by decide +kernel,rfl,by decide +kernel,by decide +kernel⟩
def pI:az ["thing","many"] ["thing","many"] (ai gE):=⟨rfl,rfl,rfl,by decide +kernel,rfl,by decide +kernel,by decide +kernel⟩
def j4:az ["thing","many"] ["thing","many"] (ai dz):=⟨rfl,rfl,rfl,by decide +kernel,rfl,by decide +kernel,by decide +kernel⟩
def vH:az ["thing","least","most"] ["thing","least","most"] (ai fq):=⟨rfl,rfl,rfl,by decide +kernel,rfl,by decide +kernel,by decide +kernel⟩
def m8:az ["text","piece"] ["text","piece"] (ai fQ):=⟨rfl,rfl,rfl,by decide +kernel,rfl,by decide +kernel,by decide +kernel⟩
def sH:az ["thing","least","most"] ["thing","least","most"] (ai jT):=⟨rfl,rfl,rfl,by decide +kernel,rfl,by decide +kernel,by decide +kernel⟩
def qV:az ["thing"] ["thing"] (ai iO):=⟨rfl,rfl,rfl,by decide +kernel,rfl,by decide +kernel,by decide +kernel⟩
def aZ:az ["rows","gives","takes","leaders","start","reached","near","i","distance","column","j","number","step"] ["rows","gives","takes","leaders","start"] (ai fR):=⟨rfl,rfl,rfl,by decide +kernel,rfl,by decide +kernel,by decide +kernel⟩
def bq:az ["rows","gives","takes","leaders","start","reached","column","farthest","j","before"] ["rows","gives","takes","leaders","start"] (ai dS):=⟨rfl,rfl,rfl,by decide +kernel,rfl,by decide +kernel,by decide +kernel⟩
def bK:az ["rows","gives","takes","leaders","start","followers"] ["rows"] (ai eU):=⟨rfl,rfl,rfl,by decide +kernel,rfl,by decide +kernel,by decide +kernel⟩
def ic:az ["many","numbers"] ["many"] (ai fS):=⟨rfl,rfl,rfl,by decide +kernel,rfl,by decide +kernel,by decide +kernel⟩
def gH:az ["paper","laps","pairs","gives","takes"] ["paper","laps","pairs"] (ai iP):=⟨rfl,rfl,rfl,by decide +kernel,rfl,by decide +kernel,by decide +kernel⟩
def eX:az ["family","paper","gives","takes"] ["family","paper"] (ai fT):=⟨rfl,rfl,rfl,by decide +kernel,rfl,by decide +kernel,by decide +kernel⟩
def kl:az ["family","rows"] ["family"] (ai iQ):=⟨rfl,rfl,rfl,by decide +kernel,rfl,by decide +kernel,by decide +kernel⟩
def Br:az ["one","other","k"] ["one","other"] (ai C8):=⟨rfl,rfl,rfl,by decide +kernel,rfl,by decide +kernel,by decide +kernel⟩
def sI:az ["words"] ["words"] (ai jU):=⟨rfl,rfl,rfl,by decide +kernel,rfl,by decide +kernel,by decide +kernel⟩
def dW:az ["things","at","thing"] ["things"] (ai eV):=⟨rfl,rfl,rfl,by decide +kernel,rfl,by decide +kernel,by decide +kernel⟩
def kL:az ["piece","other"] ["piece","other"] (ai dU):=⟨rfl,rfl,rfl,by decide +kernel,rfl,by decide +kernel,by decide +kernel⟩
def j5:az ["pieces","at","piece","longer"] ["pieces","at"] (ai l5):=⟨rfl,rfl,rfl,by decide +kernel,rfl,by decide +kernel,by decide +kernel⟩
def ma:az ["pieces","kept","at","holder"] ["pieces","kept","at"] (ai jV):=⟨rfl,rfl,rfl,by decide +kernel,rfl,by decide +kernel,by decide +kernel⟩
def ie:az ["self","pieces","indexes"] ["self","pieces"] (ai bP):=⟨rfl,rfl,rfl,by decide +kernel,rfl,by decide +kernel,by decide +kernel⟩
def m9:az ["self"] ["self"] (ai bQ):=⟨rfl,rfl,rfl,by decide +kernel,rfl,by decide +kernel,by decide +kernel⟩
def cF:az ["_law_cells","_law_many_here","_law_own","_law_row","_law_deck_here","_law_k","_law_at","_law_one"] ["_law_cells","_law_many_here"] (ai jW):=⟨rfl,rfl,rfl,by decide +kernel,rfl,by decide +kernel,by decide +kernel⟩
def sJ:az ["_law_deck_here"] ["_law_deck_here"] (ai jX):=⟨rfl,rfl,rfl,by decide +kernel,rfl,by decide +kernel,by decide +kernel⟩
def md:az ["_law_one","_law_other","_law_k","_law_at"] ["_law_one","_law_other","_law_k"] (ai jY):=⟨rfl,rfl,rfl,by decide +kernel,rfl,by decide +kernel,by decide +kernel⟩
def n9:az ["_law_one","_law_other","_law_k"] ["_law_one","_law_other"] (ai l7):=⟨rfl,rfl,rfl,by decide +kernel,rfl,by decide +kernel,by decide +kernel⟩
def fV:az ["_law_pieces","_law_found","_law_k","_law_longer"] ["_law_pieces"] (ai jZ):=⟨rfl,rfl,rfl,by decide +kernel,rfl,by decide +kernel,by decide +kernel⟩
def dk:az ["_law_number","_law_letters","_law_found"] ["_law_number","_law_letters"] (ai fU):=⟨rfl,rfl,rfl,by decide +kernel,rfl,by decide +kernel,by decide +kernel⟩
def bc:az ["_law_deck_here","_law_most_here","_law_letters","_law_text","_law_found","_law_k","_law_number","_law_at","_law_piece"] ["_law_deck_here","_law_most_here"] (ai iR):=⟨rfl,rfl,rfl,by decide +kernel,rfl,by decide +kernel,by decide +kernel⟩
def qW:az ["_law_found"] ["_law_found"] (ai iS):=⟨rfl,rfl,rfl,by decide +kernel,rfl,by decide +kernel,by decide +kernel⟩
def df:az ["_law_many_here","_law_found","_law_step","_law_longer","_law_order_here","_law_i"] ["_law_many_here"] (ai l9):=⟨rfl,rfl,rfl,by decide +kernel,rfl,by decide +kernel,by decide +kernel⟩
def dF:az ["_law_laps","_law_gives","_law_many_here","_law_takes","_law_j"] ["_law_laps","_law_gives"] (ai gF):=⟨rfl,rfl,rfl,by decide +kernel,rfl,by decide +kernel,by decide +kernel⟩
def ce:az ["_law_laps","_law_paper","_law_many_here","_law_row","_law_i","_law_j"] ["_law_laps","_law_paper"] (ai eW):=⟨rfl,rfl,rfl,by decide +kernel,rfl,by decide +kernel,by decide +kernel⟩
def cG:az ["_law_laps","_law_best","_law_order_here","_law_told","_law_i"] ["_law_laps"] (ai j1):=⟨rfl,rfl,rfl,by decide +kernel,rfl,by decide +kernel,by decide +kernel⟩
def dG:az ["_law_deck_here","_law_laps","_law_many_here","_law_found","_law_k"] ["_law_deck_here","_law_laps"] (ai gG):=⟨rfl,rfl,rfl,by decide +kernel,rfl,by decide +kernel,by decide +kernel⟩
def cg:az ["_law_deck_here","_law_text","_law_k","_law_found","_law_begin","_law_at"] ["_law_deck_here"] (ai j3):=⟨rfl,rfl,rfl,by decide +kernel,rfl,by decide +kernel,by decide +kernel⟩
def cX:az ["_law_laps","_law_found","_law_i"] ["_law_laps"] (ai de):=⟨rfl,rfl,rfl,by decide +kernel,rfl,by decide +kernel,by decide +kernel⟩
def eE:az ["_law_script","_law_deck_here","_law_pieces","_law_words","_law_laps","_law_total","_law_family","_law_paper","_law_bound","_law_rows","_law_followers","_law_other"] ["_law_script"] (ai Ap):=⟨rfl,rfl,rfl,by decide +kernel,rfl,by decide +kernel,by decide +kernel⟩
structure Txt (mg:Str->Option Value):Prop where
 b_all:mg "all"=none
 b_any:mg "any"=none
 b_bool:mg "bool"=none
 b_enumerate:mg "enumerate"=none
 b_int:mg "int"=none
 b_isinstance:mg "isinstance"=none
 b_len:mg "len"=none
 b_list:mg "list"=none
 b_max:mg "max"=none
 b_min:mg "min"=none
 b_range:mg "range"=none
 b_reversed:mg "reversed"=none
 b_str:mg "str"=none
 b_sum:mg "sum"=none
 b_tuple:mg "tuple"=none
 g_MOST_NUMBER:∃t,mg "MOST_NUMBER"=some (.int 1000000 t)
 g_MOST_PIECES:∃t,mg "MOST_PIECES"=some (.int 40 t)
 g_MOST_ROWS:∃t,mg "MOST_ROWS"=some (.int 40 t)
 g_MOST_SIGNS:∃t,mg "MOST_SIGNS"=some (.int 60 t)
structure TxC (K:b_):Prop where
 cl_Family:Cls K (bM K "Family")
 n_Family_pieces:eo K (bM K "Family") "pieces"
 n_Family_kept:eo K (bM K "Family") "kept"
 n_Family_words:eo K (bM K "Family") "words"
 n_Family_left:eo K (bM K "Family") "left"
 n_Family_laps:eo K (bM K "Family") "laps"
 n_Family_total:eo K (bM K "Family") "total"
local macro_rules | `(tactic| walk_at "s")=>`(tactic| first | (with_reducible omega) | (with_reducible assumption) | (with_reducible rfl) | exact le_of_ble_eq_true rfl | (simp only [length_cons,length_nil,length_append,length_map];(with_reducible omega)) | assumption | rfl | (refine ⟨?_,?_⟩ <;> first | (with_reducible omega) | (with_reducible assumption) | (with_reducible rfl) | exact le_of_ble_eq_true rfl | assumption | rfl | (refine ⟨?_,?_⟩ <;> first | (with_reducible omega) | (with_reducible assumption) | (with_reducible rfl) | exact le_of_ble_eq_true rfl | assumption | rfl | (refine ⟨?_,?_⟩ <;> first | (with_reducible omega) | (with_reducible assumption) | (with_reducible rfl) | exact le_of_ble_eq_true rfl | assumption | rfl | fail) | fail) | fail) | omega | fail)
local macro_rules | `(tactic| walk_at "r")=>`(tactic| ((try dsimp only [set_cons_zero,set_cons_succ,xQ,xR,xT,xS,Fs,Ft,qI,n4,n5,uy,uz,tail_cons,qJ,qK,uA,x6,x8,Bh]);(conv=>whnf);(repeat (first | ((with_reducible refine And.intro ?_ ?_);(next=>walk_at "s");(conv=>whnf)) | ((with_reducible refine (show Exists _ from ?_));(first | (refine ⟨_,rfl,?_⟩) | (refine ⟨_,sv.lst _,?_⟩) | (refine ⟨_,sv.tup _,?_⟩));(conv=>whnf)) | ((refine (show h7 _ _ _ from ?_));(first | (with_reducible refine Jc (by assumption) ?_) | (with_reducible refine Jd (by assumption) ?_) | (with_reducible refine Hh (by assumption) ?_) | (with_reducible refine Ch (by assumption) ?_) | ((with_reducible refine Hf ?_ ?_);(next=>(first | (with_reducible rfl) | (with_reducible assumption) | (with_reducible omega)))) | ((with_reducible refine Hg ?_ ?_);(next=>(first | (with_reducible rfl) | (with_reducible assumption) | (with_reducible omega)))) | ((with_reducible refine EC ?_ ?_);(next=>(first | (with_reducible rfl) | (with_reducible assumption) | (with_reducible omega)))) | ((with_reducible refine ED ?_ ?_);(next=>(first | (with_reducible rfl) | (with_reducible assumption) | (with_reducible omega)))));(conv=>whnf))));(try refine (show h7 _ _ _ from ?_));(try dsimp only [set_cons_zero,set_cons_succ,xQ,xR,xT,xS,Fs,Ft,qI,n4,n5,uy,uz,tail_cons,qJ,qK,uA,x6,x8,Bh])))
local macro_rules | `(tactic| walk_at "z")=>`(tactic| dsimp only [Fl,HF,bG,List.map,List.length,List.replicate,cons_append,nil_append,Nat.reduceSub,Nat.reduceAdd,Nat.zero_add])
noncomputable def dX:FN:=λa_ Q=>cD (λd=>cN (d.sort=true/\Q (.dat (.bl (HI d))))) a_
noncomputable def du:FN:=λa_ Q=>cD (λd=>cN (d.sort=true/\Q (.dat (.bl (HH d))))) a_
variable {α:Type}
def g7(xs:List α):(xs.map λ_=>true).all id=true:=KJ.mpr λb h=>by
 obtain⟨_,_,rfl⟩:=JA.mp h;rfl
noncomputable def eY:FN:=λa_ Q=>cD (λd=>cI (λm=>cN (∃zs:List Int,sv d (zs.map .int)/\((zs.length:Int)=m/\m<=1000)/\Q (.dat (.bl true))))) a_
noncomputable def dH:FN:=λa_ Q=>cT (λds=>cI (λm=>cN (∃zs:List Int,ds=zs.map .int/\((zs.length:Int)=m/\m<=1000/\∀z∈zs,0<=z)/\Q (.dat (.bl true))))) a_
noncomputable def dg:FN:=λa_ Q=>cT (λds=>cI (λm=>cN (∃gs ts:List Int,ds=[gs,ts].map (λzs=>D.tup (zs.map .int))/\(m<=1000/\∀zs∈[gs,ts],(zs.length:Int)=m/\∀z∈zs,0<=z)/\Q (.dat (.bl true))))) a_
noncomputable def ft:FN:=λa_ Q=>cD (λd=>cI (λa=>cI (λb=>cN (d.sort=true/\HG d<=1000000/\Q (.dat (.bl (zN d a b))))))) a_
noncomputable def dq:FN:=λa_ Q=>cS (λa=>cS (λb=>cN (Q (.dat (.int (fnd a b 0)))))) a_
noncomputable def fW:FN:=λa_ Q=>cI (λx=>cI (λa=>cI (λb=>cN ((a<=x/\x<=b)/\Q (.dat (.bl true)))))) a_
noncomputable def cP(n:Nat)(f:Nat->Int):List D:=(c_ n).map λi=>.int (f i)
abbrev me(n:Nat)(c:Nat->Nat->Int):List D:=(c_ n).map λi=>D.lst (cP n (c i))
variable {n:Nat}
def dr{f:Nat->Int}:(cP n f).length=n:=by unfold cP;rw [length_map,length_range]
variable {i:Nat}
def jn{f:Nat->Int}(h:i<n):(cP n f)[i]?=some (.int (f i)):=by
 unfold cP;rw [gV,Jv h];rfl
def yn{f:Nat->Int}(h:i<n):itD (cP n f) i=.int (f i):=by
 unfold itD;rw [e_,jn h];rfl
def uK{c:Nat->Nat->Int}(h:i<n):itD (me n c) i=.lst (cP n (c i)) :=
 jc (by rw [gV,Jv h];rfl)
variable {ds:List D}
def getElem?_itD{k:Nat}(h:k<ds.length):ds[k]?=some (itD ds k):=by
 unfold itD;rw [e_,cx h];rfl
noncomputable def gI:FN:=λa_ Q=>cL (λrs=>cN (∃(n:Nat) (c:Nat->Nat->Int),rs=me n c/\(n<=40/\∀i j,i<n->j<n->0<=c i j/\c i j<=1000000)/\Q (.dat (.bl true)))) a_
noncomputable def Gd(e:Nat×Int×Int):D:=.tup [.int e.2.1,.int e.2.2]
noncomputable def kdR(R:bS):List (Key×D):=R.map λe=>(.inl (e.1:Int),Gd e)
def ksR(R:bS):List Key:=(kdR R).map tj
def dsR(R:bS):List D:=(kdR R).map G_
structure C9 (n:Nat) (c:Nat->Nat->Int) (d:D) (rs:List D):Prop where
 sq:sv d rs
 len:rs.length=n
 at_:∀i,i<n->sv (itD rs i) (cP n (c i))
def j6{f:Nat->Int}(h:i<n):atI (cP n f) (i:Int)=some (.int (f i)):=dL (j:=i) (jn h) rfl
noncomputable def vI(N:bS)(j:Nat)(p:Int×Int):bS:=if n6 N j then N.map (λe=>if e.1=j then (j,p) else e) else N++[(j,p)]
noncomputable def vJ(N:bS)(j:Nat):bS:=N.filter λe=>decide (e.1≠j)
def Bs(N:bS)(j:Nat):((kdR N).any λp=>decide (p.1=.inl (j:Int)))=n6 N j:=by
 unfold kdR n6 eh;rw [any_map]
 cases h:(List.map (·.1) N).contains j with
 | true =>
  rw [JZ,JA] at h;obtain⟨e,he,rfl⟩:=h;exact any_eq_true.mpr ⟨e,he,decide_eq_true rfl⟩
 | false =>
  refine ME.mpr λe he z=>?_;have z:(J0 (e.1:Int):Key)=.inl (j:Int):=of_decide_eq_true z;have z:e.1=j:=by injection z;omega
  have:(List.map (·.1) N).contains j=true:=JZ.mpr (JA.mpr ⟨e,he,z⟩);rw [this] at h;cases h
def Bt(N:bS)(j:Nat)(p:Int×Int):An (kdR N) (.inl (j:Int)) (.tup [.int p.1,.int p.2])=kdR (vI N j p):=by
 unfold An vI;rw [Bs]
 by_cases h:n6 N j=true
 .rw [if_pos h,if_pos h];unfold kdR;rw [map_map,map_map];refine Me λe _=>?_;show (if (J0 (e.1:Int):Key)=.inl (j:Int) then _ else _)=_
  by_cases c:e.1=j
  .subst c;rw [if_pos rfl];simp only [Function.comp,if_true];rfl
  .rw [if_neg λz=>c (by injection z;omega)];simp only [Function.comp,if_neg c]
 .rw [if_neg h,if_neg h];unfold kdR;rw [map_append];rfl
def Db(N:bS)(j:Nat):vG (kdR N) (.inl (j:Int))=kdR (vJ N j):=by
 unfold vG vJ kdR;rw [filter_map];congr 1;refine filter_congr λe _=>?_;show decide ((J0 (e.1:Int):Key)≠.inl (j:Int))=decide (e.1≠j);exact decide_eq_decide.mpr ⟨λz y=>z (by rw [y]),λz y=>z (by injection y;omega)⟩
structure fz (N:bS) (f:NrT):Prop where
 e:∀e,e∈N->f e.1=some e.2
 m:∀j p,f j=some p->(j,p)∈N
theorem sK:∀{N:bS}{f:NrT}{j:Nat} ,(∀e,e∈N->f e.1=some e.2)->(∀p,f j=some p->(j,p)∈N)->pG (kdR N) (.inl (j:Int))=(f j).map λp=>.tup [.int p.1,.int p.2]
 | [],f,j,_,h=>by
  cases e:f j with
  | none=>rfl
  | some p=>exact absurd (h p e) (by intro z;cases z)
 | a::N,f,j,h1,h=>by
  show pG ((.inl (a.1:Int),Gd a)::kdR N) _=_;unfold pG;rw [Kz]
  by_cases c:a.1=j
  .rw [decide_eq_true (by rw [c])];have:=h1 a mem_cons_self;rw [c] at this;rw [this];rfl
  .rw [decide_eq_false λz:(J0 (a.1:Int):Key)=.inl (j:Int)=>c (by injection z;omega)];refine sK (λe he=>h1 e (n_ _ he)) λp hp=>?_
   rcases mem_cons.mp (h p hp) with z|z
   .rw [<- z] at c;exact absurd rfl c
   .exact z
variable {f:NrT}
def fz.look{N:bS}(h:fz N f)(j:Nat):dE (ksR N) (dsR N) (.inl (j:Int))=(f j).map λp=>.tup [.int p.1,.int p.2]:=by
 unfold ksR dsR;rw [gD];exact sK h.e (h.m j)
variable {j:Nat}
def Aq{N:bS}{p:Int×Int}{e:Nat×Int×Int}(h:e∈vI N j p):e=(j,p)\/(e∈N/\e.1≠j):=by
 unfold vI at h
 by_cases c:n6 N j=true
 .rw [if_pos c,JA] at h;obtain⟨a,ha,h⟩:=h
  by_cases c2:a.1=j
  .rw [if_pos c2] at h;exact .inl h.symm
  .rw [if_neg c2] at h;subst h;exact .inr ⟨ha,c2⟩
 .rw [if_neg c] at h
  rcases Jw.mp h with h|h
  .refine .inr ⟨h,λz=>c (gZ.mpr ?_)⟩;rw [<- z];exact JA.mpr ⟨e,h,rfl⟩
  .exact .inl (r_.mp h)
def Ar{N:bS}{p:Int×Int}:(j,p)∈vI N j p:=by
 unfold vI
 by_cases c:n6 N j=true
 .rw [if_pos c,JA];obtain⟨d,q,h⟩:=cE.mp (gZ.mp c);exact⟨_,h,if_pos rfl⟩
 .rw [if_neg c];exact oe _ mem_cons_self
def As{N:bS}{p:Int×Int}{e:Nat×Int×Int}(h:e∈N)(ne:e.1≠j):e∈vI N j p:=by
 unfold vI
 by_cases c:n6 N j=true
 .rw [if_pos c,JA];exact⟨e,h,if_neg ne⟩
 .rw [if_neg c];exact FX _ h
def At{N:bS}{p:Int×Int}:(vI N j p).length<=N.length+1:=by
 unfold vI
 split
 .rw [length_map];omega
 .rw [length_append];exact f_ _
def fz.put{N:bS}(h:fz N f){p:Int×Int}{f':NrT}(ef:f'=λi=>if i=j then some p else f i):fz (vI N j p) f':=by
 subst ef
 refine⟨λe he=>?_,λi q hq=>?_⟩
 .rcases Aq he with rfl|⟨he,ne⟩
  .exact if_pos rfl
  .exact (if_neg ne).trans (h.e e he)
 .by_cases c:i=j
  .subst c;rw [if_pos rfl] at hq;cases hq;exact Ar
  .rw [if_neg c] at hq;exact As (h.m i q hq) c
def fz.drop{N:bS}(h:fz N f):fz (vJ N j) (pE f j):=by
 refine⟨λe he=>?_,λi q hq=>?_⟩
 .unfold vJ at he;rw [JC,decide_eq_true_eq] at he;exact (if_neg he.2).trans (h.e e he.1)
 .unfold pE at hq
  by_cases c:i=j
  .rw [if_pos c] at hq;cases hq
  .rw [if_neg c] at hq;exact JC.mpr ⟨h.m i q hq,decide_eq_true c⟩
variable {sl:Nat->Int}{R:bS}
def yo{k:Int}{m:Nat}(h1:n6 R m=false)(h2:f m=none\/∃p,f m=some p/\sl m<p.1):
  fo sl R f k (m+1)=λi=>if i=m then some (sl m,k) else fo sl R f k m i:=by
 funext i;unfold fo
 by_cases c:i=m
 .subst c;rw [if_pos (JH _),if_pos rfl];unfold x9
  rcases h2 with e|⟨p,e,h⟩
  .rw [e];simp only;rw [if_neg (by rw [h1];exact j_)]
  .rw [e];simp only;rw [if_pos ⟨h1,h⟩]
 .rw [if_neg c]
  by_cases c2:i<m
  .rw [if_pos c2,if_pos (by omega)]
  .rw [if_neg c2,if_neg (by omega)]
def vK{k:Int}{m:Nat}(h:n6 R m=true\/∃p,f m=some p/\¬ sl m<p.1)(fn:∀j,(∃p,f j=some p)->j∉eh R):
  fo sl R f k (m+1)=fo sl R f k m:=by
 funext i;unfold fo
 by_cases c:i=m
 .subst c;rw [if_pos (JH _),if_neg (E_ _)];unfold x9
  rcases h with e|⟨p,e,h⟩
  .cases e2:f i with
   | none=>simp only;rw [if_pos e]
   | some p=>exact absurd (gZ.mp e) (fn i ⟨p,e2⟩)
  .rw [e];simp only;rw [if_neg λz=>h z.2]
 .by_cases c2:i<m
  .rw [if_pos c2,if_pos (by omega)]
  .rw [if_neg c2,if_neg (by omega)]
def Dc{k:Int}{m:Nat}:fo sl R f k m m=f m:=if_neg (E_ _)
def Ge{k:Int}:fo sl R f k 0=f:=funext λ_=>if_neg (Ke _)
def yp(R:bS)(j:Nat):(dE (ksR R) (dsR R) (.inl (j:Int))).isSome=n6 R j:=by
 unfold ksR dsR;rw [gD,<- Bs];unfold pG;rw [Mr]
 induction kdR R with
 | nil=>rfl
 | cons a r ih =>
  rw [Kz,any_cons]
  cases decide (a.1=(J0 (j:Int):Key)) with
  | true=>rfl
  | false=>rw [Mu];exact ih
def Dd{d:D}{xs:List D}(h:sv d xs):rowD d=some xs:=by
 rcases h with rfl|rfl <;> rfl
noncomputable def mf(v:Option PV):Prop:=∀p,v=some p->p.isOwn=false
def cw{d:D}:mf (some (.dat d)):=λp h=>by cases h;rfl
def mh:mf none:=λp h=>by cases h
theorem Bu:∀R:bS,D.noFs (dsR R)=true
 | []=>rfl
 | e::R=>by
  show D.noFs (Gd e::dsR R)=true;have:=Bu R;simp [D.noFs,D.noF,Gd,this]
def Gf{a0 a1 a2 a3 a4 a7 a8 a9:D}{w v10 v11 v12:Option PV}(h:mf v10/\mf v11/\mf v12):Ig 6 [some (.dat a0),some (.dat a1),some (.dat a2),some (.dat a3),some (.dat a4),some (.odc (ksR R) (dsR R)),w,some (.dat a7),some (.dat a8),some (.dat a9),v10,v11,v12]:=λj p hj e o=>by
 match j,e with
 | 0,e|1,e|2,e|3,e|4,e|7,e|8,e|9,e=>cases e;cases o
 | 5,e=>cases e;exact Bu R
 | 6,e=>exact absurd rfl hj
 | 10,e=>cases e;rw [h.1 p rfl] at o;cases o
 | 11,e=>cases e;rw [h.2.1 p rfl] at o;cases o
 | 12,e=>cases e;rw [h.2.2 p rfl] at o;cases o
 | _+13,e=>cases e
variable {ks:List Key}
def yq{k:Key}(c:(if true=true then !(dE ks ds k).isSome else (dE ks ds k).isSome)=true):dE ks ds k=none:=by
 rw [if_pos rfl] at c
 cases h:dE ks ds k with
 | none=>rfl
 | some d=>rw [h] at c;cases c
def yr{k:Key}(c:(if true=true then !(dE ks ds k).isSome else (dE ks ds k).isSome)=false):(dE ks ds k).isSome=true:=by
 rw [if_pos rfl] at c
 cases h:dE ks ds k with
 | none=>rw [h] at c;cases c
 | some d=>rfl
def Au(N:bS):(D.lst (N.map λe=>.tup [.int e.2.1,.int e.1])).noF=true:=by
 show D.noFs _=true
 induction N with
 | nil=>rfl
 | cons e N ih =>
  rw [map_cons];simp [D.noFs,D.noF,ih]
def Av{N:bS}(h:fz N f)(hn:∀j p,f j=some p->j<n){e:Nat×Int×Int}(he:e∈N)(hm:∀q,q∈N.map (λe=>[e.2.1,(e.1:Int)])->lxB q [e.2.1,(e.1:Int)]=false):eQ f n (e.2.1,e.1):=by
 refine⟨hn _ _ (h.e e he),⟨e.2.2,h.e e he⟩,λj _ p hp=>?_⟩;have:=hm _ (JA.mpr ⟨(j,p),h.m j p hp,rfl⟩);show e.2.1<p.1\/(e.2.1=p.1/\e.1<=j)
 unfold lxB at this
 by_cases c:p.1=e.2.1
 .rw [if_pos c] at this;unfold lxB at this
  by_cases c2:(j:Int)=(e.1:Int)
  .exact .inr ⟨c.symm,by omega⟩
  .rw [if_neg c2] at this;have:¬ (j:Int)<e.1:=of_decide_eq_false this;exact .inr ⟨c.symm,by omega⟩
 .rw [if_neg c] at this;have:¬ p.1<e.2.1:=of_decide_eq_false this;exact .inl (by omega)
def Aw{p:Int×Int}(h:j∉eh R):vI R j p=R++[(j,p)]:=if_neg λz=>h (gZ.mp z)
def yt:(vJ R j).length<=R.length:=JR _ _
noncomputable def eZ:FN:=λa_ Q=>cD (λd=>cL (λga=>cL (λta=>cL (λla=>cI (λm=>cN (∃(n:Nat) (c:Nat->Nat->Int) (rs:List D),C9 n c d rs/\∃g:Nat->Int,ga=cP n g/\∃t:Nat->Int,ta=cP n t/\∃l:Nat->Int,la=cP n l/\∃s:Nat,m=s/\(n<=40/\s<n/\sC n c g t l s)/\∀R0 q x p,GH n c g t l s=R0++[(q,x,p)]->Bi n c g t l s R0 q x p->Q (.odc (ksR (R0++[(q,x,p)])) (dsR (R0++[(q,x,p)]))))))))) a_
def Ih{a m:D}{ga ta la ga' ta' la':List D}{Q:List PV->Prop}{v5 v6 v7 v8 v9:Option PV}(q:Q [.dat a,.own ga',.own ta',.own la',.dat m]):
  yO [1,2,3] [.dat a,.own ga,.own ta,.own la,.dat m] Q [some (.dat a),some (.own ga'),some (.own ta'),some (.own la'),some (.dat m),v5,v6,v7,v8,v9]:=by
 refine⟨[.dat a,.own ga',.own ta',.own la',.dat m],⟨rfl,λi p p' e e'=>?_⟩,λi hi p' e=>?_,q⟩
 .match i,e,e' with
  | 0,e,e'=>cases e;cases e';exact⟨rfl,λ_=>rfl⟩
  | 1,e,e'=>cases e;cases e';exact⟨rfl,λz=>(by cases z)⟩
  | 2,e,e'=>cases e;cases e';exact⟨rfl,λz=>(by cases z)⟩
  | 3,e,e'=>cases e;cases e';exact⟨rfl,λz=>(by cases z)⟩
  | 4,e,e'=>cases e;cases e';exact⟨rfl,λ_=>rfl⟩
  | _+5,e,e'=>cases e
 .rw [mem_cons,mem_cons,r_] at hi;rcases hi with rfl|rfl|rfl <;> (cases e;rfl)
def Gg(R:bS):∀d∈dsR R,Dx d:=λd hd=>by
 unfold dsR kdR at hd;rw [map_map] at hd;obtain⟨e,_,rfl⟩:=JA.mp hd;refine .tup λx hx=>?_;rw [mem_cons,r_] at hx;rcases hx with rfl|rfl <;> exact .fl rfl
def jo{f:Nat->Int}{v:Int}:(cP n f).set i (.int v)=cP n (kY f i v):=by
 refine KW λj=>?_;unfold cP;rw [getElem?_set,gV,gV,length_map,length_range]
 by_cases hj:j<n
 .rw [Jv hj]
  by_cases c:i=j
  .subst c;rw [if_pos rfl,if_pos hj];show some (D.int v)=some (D.int (kY f i v i));rw [b9]
  .rw [if_neg c];show some (D.int (f j))=some (D.int (kY f i v j));rw [bo (λz=>c z.symm)]
 .have e:(c_ n)[j]?=none:=x_ (by rw [length_range];omega);rw [e]
  by_cases c:i=j
  .rw [if_pos c,if_neg (by omega)];rfl
  .rw [if_neg c];rfl
def De(R:bS):ksR R=(R.map λe=>(e.1:Int)).map J0:=by
 unfold ksR kdR;rw [map_map,map_map];rfl
def yu(nd:(eh R).Nodup){e:Nat×Int×Int}(h:e∈R):dE (ksR R) (dsR R) (.inl (e.1:Int))=some (.tup [.int e.2.1,.int e.2.2]):=by
 unfold ksR dsR;rw [gD];unfold pG kdR;rw [find?_map]
 have:List.find? ((λp:Key×D=>decide (p.1=J0 (e.1:Int))) ∘ λe=>((J0 (e.1:Int):Key),Gd e)) R=some e:=by
  have h2:=jk (q:=e.1) (d:=e.2.1) (p:=e.2.2) nd h;rw [<- h2];congr 1;funext x;show decide ((J0 (x.1:Int):Key)=J0 (e.1:Int))=(x.1 == e.1)
  rw [K7,decide_eq_true_eq,beq_iff_eq];exact⟨λz=>by injection z;omega,λz=>by rw [z]⟩
 rw [this];rfl
def Df(R0:bS)(e:Nat×Int×Int):atI (((R0++[e]).map λe=>(e.1:Int)).map D.int) (-1)=some (.int (e.1:Int)):=by
 rw [map_append,map_append];unfold atI;simp [ixN];have e2:(-1+((R0.length:Int)+1)).toNat=R0.length:=by omega
 rw [if_pos (by omega),e2,Option.bind_some,Kj (by rw [length_map];exact f_ _),length_map,sub_self];rfl
def yv{s m:Nat}{L:Nat->Int}{k:Int}(h:0<=k):iM R s (m+1) L k=iM R s m (kY L k.toNat (if 0<=prv R k.toNat then L (prv R k.toNat).toNat else s)) (prv R k.toNat):=by
 rw [iM,if_neg (by omega)]
def Ax{s m:Nat}{L:Nat->Int}{k:Int}(h:k<0):iM R s m L k=L:=by
 cases m with
 | zero=>rfl
 | succ m=>unfold iM;rw [if_pos h]
noncomputable def cz:FMs
 | [.dat d,.own ga,.own ta,.own la,.dat (.int m)],Q=>∃(n:Nat) (c:Nat->Nat->Int) (rs:List D),C9 n c d rs/\∃g:Nat->Int,ga=cP n g/\∃t:Nat->Int,ta=cP n t/\∃l:Nat->Int,la=cP n l/\∃s:Nat,m=s/\(n<=40/\s<n/\sC n c g t l s)/\Q [.dat d,.own (cP n (lZ n c s (g,t,l)).1),.own (cP n (lZ n c s (g,t,l)).2.1),.own (cP n (lZ n c s (g,t,l)).2.2),.dat (.int m)]
 | _,_=>False
noncomputable def bpJ(n:Nat)(c:Nat->Nat->Int):List Nat:=(c_ n).map (bpF n c)
noncomputable def bpG(n:Nat)(c:Nat->Nat->Int):List Int:=(c_ n).map (bpN n c n).1
noncomputable def bpT(n:Nat)(c:Nat->Nat->Int):List Int:=(c_ n).map (bpN n c n).2.1
noncomputable def bpP(n:Nat)(c:Nat->Nat->Int):D:=.tup [.tup ((bpJ n c).map nD),.tup ((bpG n c).map .int),.tup ((bpT n c).map .int)]
def kZ(n:Nat)(f:Nat->Int):cP n f=((c_ n).map f).map .int:=by unfold cP;rw [map_map];rfl
def Dg(n:Nat)(c:Nat->Nat->Int):C9 n c (.lst (me n c)) (me n c):=⟨.inl rfl,by rw [length_map,length_range],λi hi=>.inl (uK hi)⟩
noncomputable def cY:FN:=λa_ Q=>cL (λrs=>cN (∃(n:Nat) (c:Nat->Nat->Int),rs=me n c/\(n<=40/\∀i j,i<n->j<n->0<=c i j/\c i j<=1000000)/\Q (.dat (bpP n c)))) a_
abbrev prT(p:Nat×Nat):D:=.tup [.int (p.1:Int),.int (p.2:Int)]
noncomputable def Dz(n:Nat):List (Nat×Nat):=(c_ n).flatMap λi=>((c_ n).filter λj=>decide (i≠j)).map λj=>(i,j)
def Ay{p:Nat×Nat}:p∈Dz n ↔ p.1<n/\p.2<n/\p.1≠p.2:=by
 unfold Dz;rw [mem_flatMap]
 constructor
 .rintro⟨i,hi,h⟩;obtain⟨j,hj,rfl⟩:=JA.mp h;rw [JC] at hj;exact⟨JB.mp hi,JB.mp hj.1,of_decide_eq_true hj.2⟩
 .rintro⟨h1,h2,h3⟩;exact⟨p.1,JB.mpr h1,JA.mpr ⟨p.2,JC.mpr ⟨JB.mpr h2,decide_eq_true h3⟩,rfl⟩⟩
theorem pJ(n:Nat):∀L:List Nat,(L.flatMap λi=>((c_ n).filter λj=>decide (i≠j)).map λj=>(i,j)).length<=L.length*n
 | []=>by simp
 | i::L=>by
  rw [flatMap_cons,length_append,length_map,length_cons,succ_mul];have h1:=pJ n L;have h2:((c_ n).filter λj=>decide (i≠j)).length<=n:=F_ (JR ..) (by rw [length_range];exact f_ _);omega
noncomputable def e7:FN:=λa_ Q=>cI (λm=>cN ((0<=m/\m<=40)/\Q (.own ((Dz m.toNat).map prT)))) a_
abbrev Az(ws:List (List Nat))(w:List Nat):D:=.tup (ws.map λv=>.int (eC w v:Int))
variable {ws:List (List Nat)}
def Dh(h:i<ws.length):atI (ws.map (Az ws)) (i:Int)=some (Az ws (pw ws i)) :=
 dL (j:=i) (by rw [gV,gA h];rfl) rfl
def oa{w:List Nat}(h:i<ws.length):atI (ws.map λv=>D.int (eC w v:Int)) (i:Int)=some (.int (eC w (pw ws i):Int)) :=
 dL (j:=i) (by rw [gV,gA h];rfl) rfl
def Bv{zs:List Int}(h:i<zs.length):atI (zs.map D.int) (i:Int)=some (.int (zs.getD i 0)) :=
 dL (j:=i) (by rw [gV,cx h,e_,cx h];rfl) rfl
noncomputable def gJ:FN:=λa_ Q=>cT (λds=>cT (λls=>cL (λps=>cN (∃gs ts:List Int,ds=[gs,ts].map (λzs=>D.tup (zs.map .int))/\∃ws:List (List Nat),ls=ws.map (Az ws)/\∃prs:List (Nat×Nat),ps=prs.map prT/\(ws.length<=40/\prs.length<=1600/\(∀zs∈[gs,ts],zs.length=ws.length/\∀z∈zs,0<=z)/\∀p∈prs,p.1<ws.length/\p.2<ws.length/\(eC (pw ws p.1) (pw ws p.2):Int)<=gs.getD p.1 0+ts.getD p.2 0)/\Q (.dat (.bl true)))))) a_
noncomputable def e8:FN:=λa_ Q=>cO (λc ns fs=>cT (λds=>cN (c="Family"/\ns=xL/\∃ps:List (List Nat),fs=xM ps/\∃gs ts:List Int,ds=[gs,ts].map (λzs=>D.tup (zs.map .int))/\((ap ps).length<=40/\(∀zs∈[gs,ts],zs.length=(ap ps).length/\∀z∈zs,0<=z)/\∀i j,i<(ap ps).length->j<(ap ps).length->i≠j->(eC (pw (ap ps) i) (pw (ap ps) j):Int)<=gs.getD i 0+ts.getD j 0)/\Q (.dat (.int (lT ps - gs.sum - ts.sum)))))) a_
abbrev GK(r:List Int):D:=.lst (r.map .int)
def gDm{l:List α}{k:Nat}{d:α}(h:k<l.length):l.getD k d∈l:=B_ (show l[k]?=some (l.getD k d) by rw [e_,cx h];rfl)
noncomputable def fF(ws:List (List Nat))(i j:Nat):Int:=if i=j then 0 else (eC (pw ws i) (pw ws j):Int)
def sL:0<=fF ws i j:=by unfold fF;split <;> omega
noncomputable def paG(ws:List (List Nat)):List Int:=bpG ws.length (fF ws)
noncomputable def paT(ws:List (List Nat)):List Int:=bpT ws.length (fF ws)
noncomputable def paJ(ws:List (List Nat)):List Nat:=bpJ ws.length (fF ws)
noncomputable def paP(ws:List (List Nat)):D:=.tup [.tup ((paG ws).map .int),.tup ((paT ws).map .int)]
def sM:∀i j,i<ws.length->j<ws.length->0<=fF ws i j:=λ_ _ _ _=>sL
def Gh{a b:List Nat}(ha:0<a.length)(hb:0<b.length):eC a b<b.length:=by
 have:=(xJ ha hb).1;omega
def sN(h:∀w∈ws,0<w.length/\w.length<=10000)(hi:i<ws.length)(hj:j<ws.length):fF ws i j<=10000:=by
 unfold fF
 split
 .decide
 .have:=Gh (h _ (gB hi)).1 (h _ (gB hj)).1;have:=h _ (gB hj);omega
def yw(hn:ws.length<=40)(h:∀w∈ws,0<w.length/\w.length<=10000):ws.length<=40/\∀i j,i<ws.length->j<ws.length->0<=fF ws i j/\fF ws i j<=1000000 :=
 ⟨hn,λi j hi hj=>⟨sL,by have:=sN h hi hj;omega⟩⟩
def AA{k:Nat}(h:k<ws.length):(ws.map (Az ws))[k]?=some (Az ws (pw ws k)):=by
 rw [gV,cx h];unfold pw;rw [e_,cx h];rfl
def AB{w:List Nat}{k:Nat}(h:k<ws.length):(ws.map λv=>D.int (eC w v:Int))[k]?=some (.int (eC w (pw ws k):Int)):=by
 rw [gV,cx h];unfold pw;rw [e_,cx h];rfl
noncomputable def dw:FN:=λa_ Q=>cO (λc ns fs=>cN (c="Family"/\ns=xL/\∃ps:List (List Nat),fs=xM ps/\((ap ps).length<=40/\∀w∈ap ps,0<w.length/\w.length<=10000)/\Q (.dat (paP (ap ps))))) a_
noncomputable def qX:FN:=λa_ Q=>cS (λa=>cS (λb=>cN ((0<a.length/\a.length<=10000)/\(0<b.length/\b.length<=10000)/\Q (.dat (.int (eC a b:Int)))))) a_
noncomputable def fX:FN:=λa_ Q=>cT (λds=>cN (∃ws:List (List Nat),ds=ws.map .str/\(ws.length<=1000/\∀w∈ws,0<w.length/\w.length<=10000)/\Q (.dat (Fq ws)))) a_
noncomputable def cZ:FN:=λa_ Q=>cD (λd=>cN (∃ws:List (List Nat),sv d (ws.map .str)/\(ws.length<=40/\Pcs 60 ws)/\Q (.dat .non))) a_
noncomputable def bE:FN:=λa_ Q=>cS (λa=>cS (λb=>cN (Q (.dat (.bl (gq a b)))))) a_
noncomputable def fA:FN:=λa_ Q=>cT (λds=>cI (λi=>cN (∃ws:List (List Nat),ds=ws.map .str/\(ws.length<=1000/\∀w∈ws,w.length<=10000)/\(0<=i/\i<(ws.length:Int))/\Q (.dat (.bl (dR ws i.toNat)))))) a_
noncomputable def dY:FN:=λa_ Q=>cT (λds=>cT (λks=>cI (λi=>cN (∃ws:List (List Nat),ds=ws.map .str/\ks=(bh ws).map nD/\(ws.length<=1000/\∀w∈ws,w.length<=60)/\(0<=i/\i<(ws.length:Int))/\Q (.dat (iL ws i.toNat)))))) a_
def Gi{d:D}{xs:List D}{Q:PV->Prop}(h:sv d xs)(q:Q (.dat (.tup xs))):lO [d] Q:=by
 rcases h with rfl|rfl <;> exact q
noncomputable def bT:FR:=λp a_ Q=>oI "Family" (cD (λd=>cN (∃ws:List (List Nat),sv d (ws.map .str)/\(ws.length<=40/\Pcs 60 ws)/\Q (.dat .non) (.ins "Family" xL (xM ws)))) a_) p
noncomputable def cr:FN:=λa_ Q=>cO (λc ns fs=>cN (c="Family"/\ns=xL/\∃ws:List (List Nat),fs=xM ws/\Q (.dat (.int ((ap ws).length:Int))))) a_
noncomputable def Dk(zs:List Int):Prop:=∀x∈zs,0<=x/\x<1000000000000000000
noncomputable def iT:FN:=λa_ Q=>cR (λns=>cI (λmo=>cN ((ns.length<=64/\0<=mo/\mo<=2000)/\∀zs:List Int,Dk zs->zs.length=mo.toNat->Q (.own (zs.map .int))))) a_
noncomputable def aW:FR:=λp a_ Q=>oL (λds=>cN (∃zs:List Int,ds=zs.map .int/\(Dk zs/\0<zs.length/\zs.length<=100000)/\∀(z:Int) (ys:List Int),0<=z->z<1000000000000000000->Dk ys->ys.length+1=zs.length->Q (.dat (.int z)) (.own (ys.map .int))) a_) p
def yx{a b:List Nat}(ha:n<=a.length)(hb:n<=b.length):b.take n <:+ a ↔ ∀j,j<n->a.getD (a.length - n+j) 0=b.getD j 0:=by
 rw [Mg,length_take,show min n b.length=n by omega]
 constructor
 .intro h j hj;have e:=congrArg (λl=>l[j]?) h;simp only [L1 hj,getElem?_drop] at e;rw [e_,e_,<- e]
 .intro h;refine KW λj=>?_
  by_cases hj:j<n
  .rw [L1 hj,getElem?_drop];have:=h j hj;rw [e_,e_,cx (show a.length - n+j<a.length by omega),cx (show j<b.length by omega)] at this;rw [cx (show a.length - n+j<a.length by omega),cx (show j<b.length by omega)];exact congrArg some this.symm
  .rw [x_ (by rw [length_take];omega),x_ (by rw [length_drop];omega)]
noncomputable def iU:FN:=λa_ Q=>cS (λa=>cS (λb=>cI (λk=>cN (∃n:Nat,k=n/\((n<=a.length/\a.length<=10000)/\n<=b.length/\b.length<=10000)/\Q (.dat (.bl (decide (b.take n <:+ a)))))))) a_
noncomputable def fB:FN:=λa_ Q=>cS (λa=>cS (λb=>cN ((0<a.length/\a.length<=10000)/\(0<b.length/\b.length<=10000)/\Q (.dat (.int (eC a b:Int)))))) a_
variable {ps:List (List Nat)}
def Di{k:Nat}:dR ps k=(decide ((ps.filter λo=>decide ((pw ps k).length<o.length) && gq (pw ps k) o)=[]) && !decide (pw ps k∈ps.take k)):=by
 unfold dR;rw [Bool.and_comm];congr 1
 cases hf:(ps.filter λo=>decide ((pw ps k).length<o.length) && gq (pw ps k) o) with
 | nil =>
  rw [decide_eq_true rfl,Mt,ME];intro o ho z;obtain⟨m1,m2⟩:=JC.mp ho;have:o∈ps.filter λo=>decide ((pw ps k).length<o.length) && gq (pw ps k) o:=JC.mpr ⟨m1,by rw [m2];exact z⟩;rw [hf] at this;cases this
 | cons o r =>
  rw [decide_eq_false (λz=>nomatch z)];have:o∈ps.filter λo=>decide ((pw ps k).length<o.length) && gq (pw ps k) o:=by rw [hf];exact mem_cons_self ..
  obtain⟨m1,m2⟩:=JC.mp this;rw [and_eq_true] at m2;rw [Bool.not_eq_false',any_eq_true];exact⟨o,JC.mpr ⟨m1,m2.1⟩,m2.2⟩
def sO(h:∀w∈ws,Lts w):Cm (.lst (ws.map .str)) (.lst []):=Cm.of (Sh.lstS h) (Sh.lstI [])
def qY(ws:List (List Nat)):deq (.lst (ws.map .str)) (.lst [])=decide (ws=[]):=by
 show Mf (.list (D.pys (ws.map .str))) (.list [])=_;rw [ss];cases ws <;> simp [Mf,PyData.eqvAll]
noncomputable def iV:FN:=λa_ Q=>cL (λds=>cN (∃ps:List (List Nat),ds=ps.map .str/\(ps.length<=40/\∀w∈ps,w.length<=60/\Lts w)/\Q (.dat (.lst ((ap ps).map .str))))) a_
def Dj{l k:Nat}{z:Int}(hk:k<=9)(h5:l<=5)(h:1000000<=z)(hz:z<(l:Int)^k):k=9:=by
 refine Km λn=>?_;have h1:l^k<=5^k:=MS h5 k;have h2:5^k<=5^8:=MA (by decide) (by omega);have h3:(l:Int)^k=((l^k:Nat):Int):=(natCast_pow l k).symm;have h4:(5:Nat)^8=390625:=by decide
 rw [h3] at hz;omega
noncomputable def bU:FN:=λa_ Q=>cI (λz=>cS (λls=>cN ((0<=z/\0<ls.length/\ls.length<=26)/\∀w:List Nat,w.length<=9->(∀c∈w,c∈ls)->(0<z->0<w.length)->(ls.length<=5->1000000<=z->w.length=9)->Q (.dat (.str w))))) a_
def vL(z:Int):∃ls:List Nat,atI [D.str [97,98],D.str [97,98],D.str [97,98,99],D.str [120,121,122,97,98]] (z % 4)=some (.str ls)/\0<ls.length/\ls.length<=26/\Lts ls:=by
 have h:z % 4=0\/z % 4=1\/z % 4=2\/z % 4=3:=by omega
 rcases h with h|h|h|h <;> rw [h]
 .exact⟨[97,98],rfl,by decide,by decide,jM.mp (by decide)⟩
 .exact⟨[97,98],rfl,by decide,by decide,jM.mp (by decide)⟩
 .exact⟨[97,98,99],rfl,by decide,by decide,jM.mp (by decide)⟩
 .exact⟨[120,121,122,97,98],rfl,by decide,by decide,jM.mp (by decide)⟩
def g8{w ls:List Nat}(h:∀c∈w,c∈ls)(l:Lts ls):Lts w:=λc hc=>l c (h c hc)
def AC{p:List Nat}(hL:Lts p)(hl:p.length<=60):Pc 60 (eM (p++[97]) none (some (if (p.length:Int) > 1 then (p.length:Int) else 1))):=by
 obtain⟨n,hn,hn2⟩:∃n:Nat,(if (p.length:Int) > 1 then (p.length:Int) else 1)=(n:Int)/\n=max 1 p.length:=by
  refine⟨max 1 p.length,?_,rfl⟩;split <;> omega
 rw [hn,jF];have hlen:((p++[97]).take n).length=n:=by rw [length_take,length_append];show min n (p.length+1)=n;omega
 refine⟨by rw [hlen];omega,by rw [hlen];omega,Lts.take (hL.app (Lts.one ⟨by decide,by decide⟩)) n⟩
noncomputable def gK:FR:=λp a_ Q=>oL (λds=>cI (λm=>cN (∃zs:List Int,ds=zs.map .int/\(Dk zs/\4+m<=(zs.length:Int)/\zs.length<=10000/\1<=m/\m<=40)/\∀(ps:List (List Nat)) (ys:List Int),0<ps.length->(ps.length:Int)<=m->Pcs 60 ps->Dk ys->(zs.length:Int)<=ys.length+4+m->ys.length<=zs.length->Q (.dat (.lst (ps.map .str))) (.own (ys.map .int)))) a_) p
noncomputable def eG:FN:=λa_ Q=>cI (λz=>cN (Q (.dat (.bl true)))) a_
structure rM (n k:Nat) (o:List Nat):Prop where
 len:o.length=k
 nd:o.Nodup
 lt:∀x∈o,x<n
def rM.perm{o:List Nat}(h:rM n n o):o.Perm (c_ n) :=
 (pD h.nd (λx hx=>JB.mpr (h.lt x hx)) (by rw [h.len,length_range])).symm
def rM.add{k:Nat}{o:List Nat}(h:rM n k o)(hi:i<n)(hn:i∉o):rM n (k+1) (o++[i]):=by
 refine⟨by rw [length_append,h.len];rfl,LD.mpr ⟨h.nd,by simp,λa ha b hb z=>?_⟩,λx hx=>?_⟩
 .rw [r_] at hb;subst hb;subst z;exact hn ha
 .rcases Jw.mp hx with z|z
  .exact h.lt x z
  .rw [r_.mp z];exact hi
def rM.last{k:Nat}{o:List Nat}(h:rM n (k+1) o):∃(y:List Nat) (x:Nat),o=y++[x]/\rM n k y/\x<n/\x∉y:=by
 have ne:o≠[]:=λz=>by have:=h.len;rw [z] at this;cases this
 have e:=dropLast_concat_getLast ne;have nd:=h.nd;rw [<- e] at nd;obtain⟨n1,_,n3⟩:=LD.mp nd;exact⟨o.dropLast,o.getLast ne,e.symm,⟨by rw [length_dropLast,h.len];rfl,n1,λx hx=>h.lt x ((dropLast_sublist o).subset hx)⟩,h.lt _ (getLast_mem ne),λz=>n3 _ z _ (r_.mpr rfl) rfl⟩
noncomputable def j7:FN:=λa_ Q=>cI (λm=>cN (∃n:Nat,m=n/\n<=5/\∀L:List (List Nat),(∀o,o∈L ↔ rM n n o)->L.length<=3125->Q (.dat (.lst (L.map λo=>.lst (o.map nD)))))) a_
abbrev GL(ws:List (List Nat))(w:List Nat):D:=.lst (ws.map λv=>.int (eC w v:Int))
abbrev dy(ws:List (List Nat)):List D:=ws.map (GL ws)
def jp(h:i<ws.length):atI (dy ws) (i:Int)=some (GL ws (pw ws i)):=by
 refine dL (j:=i) ?_ rfl;rw [gV,cx h];unfold pw;rw [e_,cx h];rfl
def uL(n:Nat)(p:Nat->Bool)(f:Nat->Int):((c_ n).filter p).map (λk=>D.int (f k))=(((c_ n).filter p).map f).map D.int:=by rw [map_map];rfl
def sP{L:List Int}(h:i<L.length):atI (L.map D.int) (i:Int)=some (.int (L.getD i 0)):=by
 refine dL (j:=i) ?_ rfl;rw [gV,cx h,e_,cx h];rfl
noncomputable def Prc(n:Nat)(zs:List Int):Prop:=zs.length=n/\∀z∈zs,0<=z
def Prc.app{zs:List Int}{k:Nat}{z:Int}(h:Prc k zs)(hz:0<=z):Prc (k+1) (zs++[z]):=⟨by rw [length_append,h.1];rfl,λx hx=>(Jw.mp hx).elim (h.2 x) λe=>by rw [r_.mp e];exact hz⟩
structure DA (ws:List (List Nat)) (gs ts:List Int):Prop where
 g:Prc ws.length gs
 t:Prc ws.length ts
 p:∀i j,i<ws.length->j<ws.length->i≠j->(eC (pw ws i) (pw ws j):Int)<=gs.getD i 0+ts.getD j 0
noncomputable def c4:FN:=λa_ Q=>cL (λds=>cL (λes=>cN (∃ws:List (List Nat),ds=dy ws/\∃gs:List Int,es=gs.map .int/\(ws.length<=40/\Prc ws.length gs)/\∀ts:List Int,DA ws gs ts->Q (.dat (.lst [GK gs,GK ts]))))) a_
noncomputable def dZ:FN:=λa_ Q=>cL (λds=>cT (λes=>cN (∃ws:List (List Nat),ds=dy ws/\∃gs ts:List Int,es=[.tup (gs.map .int),.tup (ts.map .int)]/\(ws.length<=40/\DA ws gs ts)/\Q (.dat (.bl true))))) a_
noncomputable def hX(ws:List (List Nat))(o:List Nat)(k:Nat):Int:=((c_ k).map λi=>fF ws i (o.getD i 0)).sum
def j8{o:List Nat}{k:Nat}:hX ws o (k+1)=hX ws o k+fF ws k (o.getD k 0):=by
 unfold hX;rw [KP,map_append,sum_append];simp
theorem jq(h:∀w∈ws,0<w.length/\w.length<=10000){o:List Nat}(ho:∀x∈o,x<ws.length)(hl:o.length=ws.length):∀{k:Nat},k<=ws.length->0<=hX ws o k/\hX ws o k<=10000*(k:Int)
 | 0,_=>by simp [hX]
 | k+1,hk=>by
  obtain⟨a,b⟩:=jq h ho hl (k:=k) (by omega);have c:=sN h (i:=k) (j:=o.getD k 0) (by omega) (ho _ (gDm (by omega)));have d:=sL (ws:=ws) (i:=k) (j:=o.getD k 0);rw [j8];omega
def yz{L:List Nat}(h:i<L.length):atI (L.map nD) (i:Int)=some (.int ((L.getD i 0:Nat):Int)):=by
 refine dL (j:=i) ?_ rfl;rw [gV,cx h,e_,cx h];rfl
noncomputable def iW:FN:=λa_ Q=>cL (λds=>cN (∃ws:List (List Nat),ds=dy ws/\(ws.length<=5/\∀w∈ws,0<w.length/\w.length<=10000)/\∀m:Int,0<=m->(m=0\/∃o,rM ws.length ws.length o/\hX ws o ws.length=m)->(∀o,rM ws.length ws.length o->hX ws o ws.length<=m)->Q (.dat (.int m)))) a_
abbrev prD(m:List Int×List Int):D:=.lst [GK m.1,GK m.2]
def yA(n:Nat):t9 [D.int 0] (n:Int)=(v_ n (0:Int)).map D.int:=by
 unfold t9;rw [toNat_natCast,map_replicate]
 induction n with
 | zero=>rfl
 | succ n ih=>rw [replicate_succ,flatten_cons,ih,replicate_succ];rfl
theorem pK:∀(l:List Int) (a:Int),(∀x∈a::l,x<=l.foldl max a)/\l.foldl max a∈a::l
 | [],a=>⟨λx hx=>by rw [r_.mp hx];exact Kf _,r_.mpr rfl⟩
 | y::l,a=>by
  obtain⟨h1,h2⟩:=pK l (max a y);rw [foldl_cons];have hm:=h1 _ mem_cons_self
  refine⟨λx hx=>?_,?_⟩
  .rcases mem_cons.mp hx with rfl|hx
   .omega
   .rcases mem_cons.mp hx with rfl|hx
    .omega
    .exact h1 x (n_ _ hx)
  .rcases mem_cons.mp h2 with e|h2
   .rw [e]
    rcases le_total a y with c|c
    .rw [max_eq_right c];exact n_ _ mem_cons_self
    .rw [max_eq_left c];exact mem_cons_self
   .exact n_ _ (n_ _ h2)
noncomputable def mxL(ws:List (List Nat))(i:Nat):Int:=(((c_ ws.length).filter λj=>decide (j≠i)).map λj=>(eC (pw ws i) (pw ws j):Int)).foldl max 0
def Gj{m:Int}(h1:m∈(0:Int)::((c_ ws.length).filter λj=>decide (j≠i)).map λj=>(eC (pw ws i) (pw ws j):Int))(h2:∀a∈(0:Int)::((c_ ws.length).filter λj=>decide (j≠i)).map λj=>(eC (pw ws i) (pw ws j):Int),a<=m):m=mxL ws i:=by
 obtain⟨a,b⟩:=pK (((c_ ws.length).filter λj=>decide (j≠i)).map λj=>(eC (pw ws i) (pw ws j):Int)) 0;exact Int.le_antisymm (a _ h1) (h2 _ b)
def Gk:0<=mxL ws i:=(pK _ 0).1 0 mem_cons_self
noncomputable def fY:FR:=λp a_ Q=>oL (λds=>cL (λes=>cN (∃zs:List Int,ds=zs.map .int/\∃ws:List (List Nat),es=dy ws/\(ws.length<=12/\Dk zs/\6*ws.length<=zs.length/\zs.length<=10000)/\∀(Ps:List (List Int×List Int)) (ys:List Int),(∀p∈Ps,DA ws p.1 p.2)->Ps.length<=10->Dk ys->ys.length<=zs.length->Q (.dat (.lst (Ps.map prD))) (.own (ys.map .int)))) a_) p
variable {β:Type}
def AD(f:α->β)(xs:List α)(i:Int)(y:α):insN (xs.map f) i (f y)=(insN xs i y).map f:=by
 unfold insN;rw [map_append,map_append,map_take,map_drop,length_map];rfl
def qZ(xs:List α)(i:Int)(y:α):(insN xs i y).Perm (y::xs):=by
 unfold insN;rw [KU,singleton_append];refine perm_middle.trans ?_;rw [take_append_drop]
def AE(xs:List α)(a l:Nat):eM xs (some (a:Int)) (some ((a:Int)+(l:Int)))=(xs.drop a).take l:=by
 rw [show (a:Int)+(l:Int)=((a+l:Nat):Int) by omega,wK,add_sub_cancel_left]
noncomputable def iX:FR:=λp a_ Q=>oL (λds=>cN (∃zs:List Int,ds=zs.map .int/\(Dk zs/\20<=zs.length/\zs.length<=10000)/\∀(ps:List (List Nat)) (ys:List Int),ps.length<=12->Pcs 60 ps->Dk ys->zs.length<=ys.length+20->ys.length<=zs.length->Q (.dat (.lst (ps.map .str))) (.own (ys.map .int))) a_) p
def Dl{a b f:α}{P:α->Prop}(h:f=a\/f=b)(e:P b->P a)(p:P b):P f:=by
 rcases h with rfl|rfl
 .exact e p
 .exact p
theorem Bw{f g:Nat->Int}:∀{n:Nat},(∀i,i<n->f i<=g i)->((c_ n).map f).sum<=((c_ n).map g).sum
 | 0,_=>Kf _
 | n+1,h=>by
  rw [KP,map_append,map_append,sum_append,sum_append];have a:=Bw (f:=f) (g:=g) (n:=n) λi hi=>h i (by omega);have b:=h n (by omega);simp only [map_cons,map_nil,sum_cons,sum_nil];omega
theorem sQ{f g:Nat->Int}:∀{n:Nat},((c_ n).map λi=>f i+g i).sum=((c_ n).map f).sum+((c_ n).map g).sum
 | 0=>rfl
 | n+1=>by
  rw [KP,map_append,map_append,map_append,sum_append,sum_append,sum_append,sQ];simp only [map_cons,map_nil,sum_cons,sum_nil];omega
def AF{l l':List Int}(h:l.Perm l'):l.sum=l'.sum:=by
 induction h with
 | nil=>rfl
 | cons x _ ih=>rw [sum_cons,sum_cons,ih]
 | swap x y l=>rw [sum_cons,sum_cons,sum_cons,sum_cons];omega
 | trans _ _ a b=>exact a.trans b
def og{js:List Nat}{ts:List Int}(hp:js.Perm (c_ n)):((c_ n).map λi=>ts.getD (js.getD i 0) 0).sum=((c_ n).map λi=>ts.getD i 0).sum:=by
 have hl:js.length=n:=by rw [hp.length_eq,length_range]
 have e:((c_ n).map λi=>ts.getD (js.getD i 0) 0)=js.map λj=>ts.getD j 0:=by
  refine ext_getElem (by rw [length_map,length_map,length_range,hl]) λi h1 h2=>?_;rw [length_map,length_range] at h1;rw [getElem_map,getElem_map,getElem_range,e_ (l:=js),cx (by omega)];rfl
 rw [e];exact AF (hp.map _)
def k6{gs:List Int}(h:gs.length=n):((c_ n).map λi=>gs.getD i 0).sum=gs.sum:=by
 congr 1;refine ext_getElem (by rw [length_map,length_range,h]) λi h1 h2=>?_;rw [getElem_map,getElem_range,e_,cx h2];rfl
def yB{gs ts:List Int}(P:DA ws gs ts){o:List Nat}(ho:o.Perm (c_ ws.length)):hX ws o ws.length<=gs.sum+ts.sum:=by
 have e:((c_ ws.length).map λi=>gs.getD i 0+ts.getD (o.getD i 0) 0).sum=gs.sum+ts.sum:=by
  rw [sQ,og ho,k6 P.g.1,k6 P.t.1]
 rw [<- e];unfold hX;refine Bw λi hi=>?_;have ol:o.length=ws.length:=by rw [ho.length_eq,length_range]
 have hoi:o.getD i 0<ws.length:=JB.mp (ho.mem_iff.mp (gDm (by omega)));have g0:=P.g.2 _ (gDm (l:=gs) (k:=i) (d:=0) (by rw [P.g.1];exact hi));have t0:=P.t.2 _ (gDm (l:=ts) (k:=o.getD i 0) (d:=0) (by rw [P.t.1];exact hoi));unfold fF
 split
 .omega
 .exact P.p i _ hi hoi (by assumption)
def mi:(paG ws).length=ws.length/\(paT ws).length=ws.length/\(paJ ws).length=ws.length:=by
 unfold paG paT paJ bpG bpT bpJ;rw [length_map,length_map,length_map,length_range];exact⟨rfl,rfl,rfl⟩
def yC(h:i<ws.length):(paG ws).getD i 0=(bpN ws.length (fF ws) ws.length).1 i:=by
 unfold paG bpG;rw [e_,gV,Jv h];rfl
def yD(h:i<ws.length):(paT ws).getD i 0=(bpN ws.length (fF ws) ws.length).2.1 i:=by
 unfold paT bpT;rw [e_,gV,Jv h];rfl
def Gm(h:i<ws.length):(paJ ws).getD i 0=bpF ws.length (fF ws) i:=by
 unfold paJ bpJ;rw [e_,gV,Jv h];rfl
def yE:(paJ ws).Perm (c_ ws.length):=(sE sM).2
def Gn:DA ws (paG ws) (paT ws):=by
 have b:=(sE (n:=ws.length) (c:=fF ws) sM).1
 have m:∀{zs:List Int}{z:Int},zs.length=ws.length->z∈zs->∃i,i<ws.length/\z=zs.getD i 0:=λ{zs z} hl hz=>by
  obtain⟨i,hi,e⟩:=mem_iff_getElem.mp hz;exact⟨i,by omega,by rw [e_,cx hi,e];rfl⟩
 refine⟨⟨mi.1,λz hz=>?_⟩,⟨mi.2.1,λz hz=>?_⟩,λi j hi hj ne=>?_⟩
 .obtain⟨i,hi,rfl⟩:=m mi.1 hz;rw [yC hi];exact (b i hi).2.1
 .obtain⟨i,hi,rfl⟩:=m mi.2.1 hz;rw [yD hi];exact (b i hi).2.2.1
 .rw [yC hi,yD hj];have:=(b i hi).2.2.2.2 j hj;unfold fF at this;rw [if_neg ne] at this;exact this
def pM:hX ws (paJ ws) ws.length=(paG ws).sum+(paT ws).sum:=by
 have b:=(sE (n:=ws.length) (c:=fF ws) sM).1
 have e:((c_ ws.length).map λi=>(paG ws).getD i 0+(paT ws).getD ((paJ ws).getD i 0) 0).sum=(paG ws).sum+(paT ws).sum:=by
  rw [sQ,og yE,k6 mi.1,k6 mi.2.1]
 rw [<- e];unfold hX;congr 1;refine Me λi hi=>?_;have hi:=JB.mp hi;obtain⟨h1,_,_,h4,_⟩:=b i hi;rw [Gm hi,yC hi,yD h1,h4]
abbrev GM(r:List Int):D:=.tup (r.map .int)
theorem uM(c:List Int->D):∀M:List (List Int),D.pys (M.map c)=M.map λr=>(c r).py
 | []=>rfl
 | r::M=>by rw [map_cons,map_cons,<- uM c M];rfl
theorem mj{c:List Int->D}(h:∀r,(c r).plain=true):∀M:List (List Int),D.plains (M.map c)=true
 | []=>rfl
 | r::M=>by rw [map_cons];show ((c r).plain && D.plains (M.map c))=true;rw [h r,mj h M];rfl
def yF(r:List Int):lA 1 (GM r).py:=by
 show lA 1 (.tuple (D.pys (r.map .int)));rw [su];exact lA.tuple (qw r)
def AG(M:List (List Int)):Sh (.tup (M.map GM)):=by
 refine⟨mj (c:=GM) (λr=>jN r) M,?_⟩;show JU (.tuple (D.pys (M.map GM)))=true;rw [uM];exact (lA.tuple λd hd=>by obtain⟨r,_,rfl⟩:=JA.mp hd;exact yF r).shaped (by decide)
def Dm(ws:List (List Nat)):Sh (paP ws):=AG [paG ws,paT ws]
noncomputable def c5:FN:=λa_ Q=>cL (λds=>cN (∃ws:List (List Nat),ds=dy ws/\(ws.length<=40/\∀w∈ws,0<w.length/\w.length<=10000)/\Q (.dat (.lst (me ws.length (fF ws)))))) a_
def Bx:Nat:=12
abbrev By:FN:=IH
noncomputable def rc(K:b_)(mg:Str->Option Value)(t:TxC K):=(have TC:=t;show LS K [] _ _ from (aJ (EO .list .tuple mZ (ax 0))))
def yG:PTS:=psO rc
def yH:PRl dX yG 1 1:=λ_ Q h=>CV h λd _ h=>gk h λh=>we rfl <| by
 walk_at "z";obtain⟨hd,q⟩:=h;cases d <;> first|(cases hd;done)|(walk_at "r";exact q)
noncomputable def km(K:b_)(mg:Str->Option Value)(t:TxC K):=(have TC:=t;show LS K [] _ _ from (aJ (gy (lG .int (ax 0)) (xj (lG .bool (ax 0))))))
def re:PTS:=psO km
def rf:PRl du re 1 1:=λ_ Q h=>CV h λd _ h=>gk h λh=>we rfl <| by
 walk_at "z";obtain⟨hd,q⟩:=h;cases d <;> first|(cases hd;done)|(walk_at "r";exact q)
noncomputable def ig(K:b_)(mg:Str->Option Value)(t:TxC K):=(have TC:=t;show LS K [] _ _ from (aJ (gy (ay (c:=dX) (aa (bR 0) ac)) (gy (ak gh (ah (aF aV (aa (ax 0) ac))) (ax 1)) (aF lN (aa (ah (aM (ix:=[none]) rfl (bv (cm 0)) (λfs hc=>(aO 0 (fm hc (by decide)))) bF (ay (c:=du) (aa (bR 0) ac)))) ac))))))
def ng:PTS:=psO ig
def nh:PRl eY ng 2 2:=λ_ Q h=>CV h λd _ h=>pZ h λm _ h=>gk h λh=>we rfl <| by
 walk_at "z";obtain⟨zs,hz,⟨hl,hm⟩,q⟩:=h;have e:(zs.map D.int).length=zs.length:=length_map _
 rcases hz with rfl|rfl <;> (
  walk_at "r"
  refine cm1 (xs:=zs) (e:=D.int) (λ_=>.bl true) (λz hz v K1 k1=>?_) (λv=>?_)
  .walk_at "r";exact k1 _
  .walk_at "r";refine⟨zs.map λ_=>true,by rw [map_map];rfl,?_⟩;rw [g7];exact q)
noncomputable def jr(K:b_)(mg:Str->Option Value)(t:TxC K):=(have TC:=t;show LS K [] _ _ from (aJ (gy (ay (c:=eY) (aa (bR 0) (aa (bR 1) ac))) (aF lN (aa (ah (aM (ix:=[none]) rfl (bv (cm 0)) (λfs hc=>(aO 0 (fm hc (by decide)))) bF (ak qC (ax 0) (bf 0)))) ac)))))
def pN:PTS:=psO jr
def pO:PRl dH pN 2 2:=λ_ Q h=>yM h λds _ h=>pZ h λm _ h=>gk h λh=>we rfl <| by
 walk_at "z";obtain⟨zs,rfl,⟨hl,hm,h0⟩,q⟩:=h;walk_at "r"
 refine cm1 (xs:=zs) (e:=D.int) (λ_=>.bl true) (λz hz v K1 k1=>?_) (λv=>?_)
 .have:=h0 z hz;walk_at "r";rw [decide_eq_true this];exact k1 _
 .walk_at "r";refine⟨zs.map λ_=>true,by rw [map_map];rfl,?_⟩;rw [g7];exact q
noncomputable def fC(K:b_)(mg:Str->Option Value)(t:TxC K):=(have TC:=t;show LS K [] _ _ from (aJ (gy (ay (c:=dX) (aa (bR 0) ac)) (gy (ak gh (ah (aF aV (aa (ax 0) ac))) (bf 2)) (aF lN (aa (ah (aM (ix:=[none,some 1]) rfl (bv (cm 0)) (λfs hc=>(aO 0 (fm hc (by decide)))) bF (ay (c:=dH) (aa (bR 0) (aa (bR 1) ac))))) ac))))))
def j9:PTS:=psO fC
def ka:PRl dg j9 2 2:=λ_ Q h=>yM h λds _ h=>pZ h λm _ h=>gk h λh=>we rfl <| by
 walk_at "z";obtain⟨gs,ts,rfl,⟨hm,h0⟩,q⟩:=h;walk_at "r"
 refine rL (λτ=>∃v,τ=[v,some (.dat (.int m))]) (λk=>.bl true) ⟨_,rfl⟩ ?_ ?_
 .rintro k τ _ hk rfl ⟨v,rfl⟩ K1 k1
  obtain⟨zs,e,hz⟩:∃zs:List Int,itD ([gs,ts].map λzs=>D.tup (zs.map .int)) k=.tup (zs.map .int)/\zs∈[gs,ts]:=by
   match k,hk with
   | 0,_=>exact⟨gs,rfl,by simp⟩
   | 1,_=>exact⟨ts,rfl,by simp⟩
  have g:=h0 zs hz;have g2:(zs.length:Int)=m/\m<=1000/\∀z∈zs,0<=z:=⟨g.1,hm,g.2⟩
  rw [e];walk_at "r";exact k1 _ ⟨_,rfl⟩
 .rintro τ ⟨v,rfl⟩;walk_at "r";refine⟨(c_ 2).map λ_=>true,by rw [map_map];rfl,?_⟩;rw [g7];exact q
noncomputable def oh:PTS:=(lH (ID (pOr (Hi (pB (IB .str (pSl 0)))) (Hi (pB (xl fLe fLe (pSl 1) (pFz (pCB Dt (cU (pSl 0) hG))) (pSl 2))))) (zG (pC (.bl false))) AX) (zG (pCB HB (cU (pFz (vo [none] (vn (xi 0)) (fj 0) AZ (xl fLe fLe (pFz (pC (.str [97]))) (pSl 0) (pFz (pC (.str [122])))))) hG))))
def kc:PRl ft oh 3 3:=λ_ Q h=>CV h λd _ h=>pZ h λa _ h=>pZ h λb _ h=>gk h λh=>we rfl <| by
 walk_at "z";obtain⟨hd,hl,q⟩:=h
 cases d with
 | str l =>
  have hl:l.length<=1000000:=hl;walk_at "r"
  refine iF (λc1=>?_) (λc1=>?_)
  .walk_at "r"
   refine lD (λc2=>?_) (λc2=>?_)
   .walk_at "r";rw [show zN (.str l) a b=false by rw [o7,decide_eq_false c2,M8];rfl] at q;exact q
   .walk_at "r"
    refine rL (λτ=>∃v,τ=[v]) (λk=>.bl (ltB (l.getD k 0))) ?_ ?_ ?_
    .exact⟨_,rfl⟩
    .rintro k τ _ hk rfl ⟨v,rfl⟩ K1 k1;walk_at "r"
     refine lD (λc=>?_) (λc=>?_)
     .have hc:97<=l.getD k 0:=of_decide_eq_true (by rw [<- sr];rw [decide_eq_false c];rfl);walk_at "r";show K1 (.bl (!decide (([122]:List Nat)<[l.getD k 0]))) _;rw [sr];rw [show ltB (l.getD k 0)=decide (l.getD k 0<=122) by unfold ltB;rw [decide_eq_true hc];rfl] at k1;exact k1 _ ⟨_,rfl⟩
     .have hc:¬ 97<=l.getD k 0:=of_decide_eq_false (by rw [<- sr,decide_eq_true c];rfl);walk_at "r";rw [show ltB (l.getD k 0)=false by unfold ltB;rw [decide_eq_false hc];rfl] at k1;exact k1 _ ⟨_,rfl⟩
    .rintro τ ⟨v,rfl⟩;walk_at "r";refine⟨(c_ l.length).map λk=>ltB (l.getD k 0),by rw [map_map];rfl,?_⟩
     have e:zN (.str l) a b=(((c_ l.length).map λk=>ltB (l.getD k 0)).all id):=by
      rw [o7,decide_eq_true c1,decide_eq_true c2,Bool.and_self,Bool.true_and,iG];rw [all_map];rfl
     rw [e] at q;exact q
  .walk_at "r";rw [show zN (.str l) a b=false by rw [o7,decide_eq_false c1,L_];rfl] at q;exact q
 | non=>walk_at "r";exact q
 | bl b=>walk_at "r";exact q
 | int i=>walk_at "r";exact q
 | ty n=>cases hd
 | lst ds=>walk_at "r";exact q
 | tup ds=>walk_at "r";exact q
 | scr ns=>cases hd
 | dic ks ds=>walk_at "r";exact q
 | obj c ns ds=>cases hd
 | exc c ns ds=>cases hd
 | fdc ks ds=>cases hd
noncomputable def ik(K:b_)(mg:Str->Option Value)(t:TxC K):=(have TC:=t;show LS K [] _ _ from (aJ (Fd zK (cm 0) (aa (ax 1) ac))))
def nk:PTS:=psO ik
def nq:PRl dq nk 2 2:=λ_ Q h=>yf h λa _ h=>yf h λb _ h=>gk h λh=>we rfl <| by
 walk_at "z";walk_at "r";exact h
noncomputable def ml(K:b_)(mg:Str->Option Value)(t:TxC K):=(have TC:=t;show LS K [] _ _ from (aJ (gy (ay (c:=du) (aa (bR 0) ac)) (oX vk vk (ax 1) (ax 0) (ax 2)))))
def sR:PTS:=psO ml
def sS:PRl fW sR 3 3:=λ_ Q h=>pZ h λx _ h=>pZ h λa _ h=>pZ h λb _ h=>gk h λh=>we rfl <| by
 walk_at "z";obtain⟨⟨h1,h2⟩,q⟩:=h;walk_at "r";rw [decide_eq_true h2];exact q
noncomputable def kn(K:b_)(mg:Str->Option Value)(t:TxC K):=(have TC:=t;show LS K [] _ _ from (aq (cM (vh (gc (rK (ay (c:=dX) (aa (bR 0) ac)))) (fi (ak vm (ah (aF aV (aa (ax 0) ac))) (bf 40)))) (aJ (hU (i:=false))) aY) (aq (cM (gc (rK (aF lN (aa (ah (aM (ix:=[none,some 0]) rfl (bv (cm 0)) (λfs hc=>(aO 0 (fm hc (by decide)))) bF (gy (ay (c:=dX) (aa (bR 0) ac)) (ak gh (ah (aF aV (aa (ax 0) ac))) (ah (aF aV (aa (ax 1) ac))))))) ac)))) (aJ (hU (i:=false))) aY) (aJ (aF lN (aa (ah (uu (ix:=[none,none]) rfl (bv (cm 0)) (λfs hc=>(aO 0 (fm hc (by decide)))) bF (bv (cm 0)) (λfs hc=>(aO 1 (fm hc (by decide)))) bF (ay (c:=fW) (aa (bR 1) (aa (bf 0) (aa (bf 1000000) ac)))))) ac))))))
def rg:PTS:=psO kn
def rh:PRl gI rg 1 1:=λ_ Q h=>vD h λrs _ h=>gk h λh=>we rfl <| by
 walk_at "z";obtain⟨n,c,rfl,⟨hn,hc⟩,q⟩:=h;have hl:(me n c).length=n:=by rw [length_map,length_range]
 have hnn:n*n<=40*40:=Ml hn hn;walk_at "r"
 refine cm1 (xs:=c_ n) (e:=λi=>D.lst (cP n (c i))) (λ_=>.bl true) (λi hi v K1 k1=>?_) (λv=>?_)
 .have e1:(cP n (c i)).length=n:=dr;walk_at "r";rw [e1,hl,decide_eq_true rfl];exact k1 _
 .walk_at "r";refine⟨(c_ n).map λ_=>true,by rw [map_map];rfl,?_⟩;rw [g7];walk_at "r";rw [hl]
  refine⟨⟨λk ys τ=>ys=v_ (k*n) (D.bl true)/\∃v w,τ=[v,w],⟨by rw [Nat.zero_mul];rfl,_,_,rfl⟩,?_,?_⟩⟩
  .rintro k ys τ _ hk rfl ⟨rfl,v,w,rfl⟩;rw [uK hk];have hkn:(k+1)*n<=40*40:=Ml (by omega) hn;rw [succ_mul] at hkn;walk_at "r";rw [dr]
   refine⟨λj zs τ=>zs=v_ (k*n+j) (D.bl true)/\∃w,τ=[some (.dat (.lst (cP n (c k)))),w],⟨rfl,_,rfl⟩,?_,?_⟩
   .rintro j zs τ _ hj rfl ⟨rfl,w,rfl⟩;have g:=hc k j hk hj;rw [yn hj];walk_at "r";refine⟨by rw [length_replicate];omega,?_,_,rfl⟩;rw [<- List.replicate_succ'];rfl
   .rintro zs τ ⟨rfl,w,rfl⟩;exact⟨by rw [succ_mul],_,_,rfl⟩
  .rintro ys τ ⟨rfl,v,w,rfl⟩;walk_at "r";refine⟨(c_ (n*n)).map λ_=>true,by rw [map_map];show _=(c_ (n*n)).map λ_=>D.bl true;rw [List.map_const',length_range],?_⟩;rw [g7];exact q
noncomputable def il(K:b_)(mg:Str->Option Value)(t:TxC K):=(have TC:=t;show LS0 K [] _ _ from (pF (aA yj (ck 5 rfl)) (pF (aA yj (ck 6 rfl)) (pF (C1 (i:=7) (j:=8) (k:=9) rfl rfl rfl (aa (bR 4) (aa (bf 0) (aa (ah (zD uq (bf 1))) ac)))) (pF (o0 (fi (ak qC (ax 7) (bf 0))) (aq (bZ (oZ (aa (ah (ak aU (ax 0) (ax 7))) ac)) (lR (n:=2) (br (aO 10 rfl) (br (aO 11 rfl) fN))) (aq (aA (ak eA (ah (ak aS (ah (ak aS (ax 8) (ah (ak aU (ax 1) (ax 7))))) (ah (ak aU (ax 2) (ax 10))))) (ax 11)) (ck 12 rfl)) (cM (nX (fi (ak (Bn (neg:=true)) (ax 10) (jl (i:=5)))) (vh (fi (ak (Bn (neg:=true)) (ax 10) (jl (i:=6)))) (fi (ak xk (ax 12) (ah (ak aU (ah (ak jS (jl (i:=6)) (ax 10))) (bf 0))))))) (yk (i:=6) (qB (aa (bR 12) (aa (bR 9) ac))) (cm 10)) aY))) (aq (aA (aF Ah (aa (ah (Gb (x:=6) (aM (ix:=[none,some 6]) rfl (Gc (cm 6)) (λfs hc=>(aO 0 (fm hc (by decide)))) bF (qB (aa (ah (ak aU (ah (ak jS (jl (i:=1)) (ax 0))) (bf 0))) (aa (bR 0) ac)))))) ac)) (xG (n:=2) (br (aO 8 rfl) (br (aO 9 rfl) fN)))) (aq (yk (i:=5) (C5 (i:=6) (cm 9)) (cm 9)) (aA (ak aU (ax 3) (ax 9)) (ck 7 rfl)))))) (Aj (i:=5)))))))
def nr:PTS:=Js il
def nt:PRl eZ nr 13 5:=λ_ Q h=>CV h λd _ h=>vD h λga _ h=>vD h λta _ h=>vD h λla _ h=>pZ h λm _ h=>gk h λh=>we rfl <| by
 walk_at "z";obtain⟨n,c,rs,hd,g,rfl,t,rfl,l,rfl,s,rfl,⟨hn,hs,A⟩,q⟩:=h;walk_at "r";refine⟨λm ρ=>∃(Z:List (Nat×Int)) (N:bS) (f:NrT) (R:bS) (i x k:Int) (v10 v11 v12:Option PV),ρ=[some (.dat d),some (.dat (.lst (cP n g))),some (.dat (.lst (cP n t))),some (.dat (.lst (cP n l))),some (.dat (.int s)),some (.odc (ksR R) (dsR R)),some (.odc (ksR N) (dsR N)),some (.dat (.int i)),some (.dat (.int x)),some (.dat (.int k)),v10,v11,v12]
 /\(mf v10/\mf v11/\mf v12)/\qN n c g t l s Z f R i x k/\fz N f/\N.length<=40*R.length/\Ag n c g t l m f R i x k=GH n c g t l s/\n<R.length+m,⟨n+1,[],[],λ_=>none,[],s,0,-1,_,_,_,rfl,⟨mh,mh,mh⟩,qN.start hs,⟨λe h=>(by cases h),λj p h=>(by cases h)⟩,f_ _,rfl,by simp⟩,?_⟩
 rintro m ρ ⟨Z,N,f,R,i,x,k,v10,v11,v12,rfl,hv,D,hN,hNl,hw,hm⟩;walk_at "r"
 refine ul (λhi=>?_) (λhi=>?_)
 .have hi:0<=i:=of_decide_eq_true hi;have hin:i.toNat<n:=D.row A hs hi;obtain⟨i0,rfl⟩:∃i0:Nat,i=i0:=⟨i.toNat,by omega⟩
  rw [toNat_natCast] at hin;refine HJ hd.sq ⟨_,dL (j:=i0) (getElem?_itD (by rw [hd.len];exact hin)) rfl,?_⟩;walk_at "r";rw [Dd (hd.at_ i0 hin)];walk_at "r";refine⟨λkk ρ=>∃(N':bS) (v10 v11 v12:Option PV),ρ=[some (.dat d),some (.dat (.lst (cP n g))),some (.dat (.lst (cP n t))),some (.dat (.lst (cP n l))),some (.dat (.int s)),some (.odc (ksR R) (dsR R)),some (.odc (ksR N') (dsR N')),some (.dat (.int i0)),some (.dat (.int x)),some (.dat (.int k)),v10,v11,v12]
  /\(mf v10/\mf v11/\mf v12)/\fz N' (fo (λj=>x+g i0+t j - c i0 j) R f k kk)/\N'.length<=40*R.length+kk,⟨N,_,_,_,rfl,hv,by rw [Ge];exact hN,hNl⟩,?_,?_⟩
  .rintro kk ρ _ hkk rfl ⟨N',v10,v11,v12,rfl,hv',hN',hl'⟩;rw [dr] at hkk;have a1:=j6 (f:=g) hin;have a2:=j6 (f:=t) hkk;rw [yn hkk];walk_at "r";refine⟨_,a1,?_⟩;walk_at "r";refine⟨_,a2,?_⟩;walk_at "r";have l1:=yp R kk;have l2:=hN'.look kk;rw [Dc] at l2;have hkl:(kdR N').length<1000000:=by unfold kdR;rw [length_map];have:=D.len;omega
   have take:∀u10 u11 u12,(mf u10/\mf u11/\mf u12)->n6 R kk=false->(f kk=none\/∃p,f kk=some p/\x+g i0+t kk - c i0 kk<p.1) ->
     ∃(N2:bS) (v10 v11 v12:Option PV),[some (.dat d),some (.dat (.lst (cP n g))),some (.dat (.lst (cP n t))),some (.dat (.lst (cP n l))),some (.dat (.int s)),some (.odc (ksR R) (dsR R)),some (.odc ((An (kdR N') (.inl (kk:Int)) (.tup [.int (x+g i0+t kk - c i0 kk),.int k])).map tj) ((An (kdR N') (.inl (kk:Int)) (.tup [.int (x+g i0+t kk - c i0 kk),.int k])).map G_)),some (.dat (.int i0)),some (.dat (.int x)),some (.dat (.int k)),u10,u11,u12]=[some (.dat d),some (.dat (.lst (cP n g))),some (.dat (.lst (cP n t))),some (.dat (.lst (cP n l))),some (.dat (.int s)),some (.odc (ksR R) (dsR R)),some (.odc (ksR N2) (dsR N2)),some (.dat (.int i0)),some (.dat (.int x)),some (.dat (.int k)),v10,v11,v12]
    /\(mf v10/\mf v11/\mf v12)/\fz N2 (fo (λj=>x+g i0+t j - c i0 j) R f k (kk+1))/\N2.length<=40*R.length+(kk+1):=λu10 u11 u12 hu h1 h2=>by
    rw [Bt N' kk (x+g i0+t kk - c i0 kk,k)];refine⟨vI N' kk (x+g i0+t kk - c i0 kk,k),u10,u11,u12,rfl,hu,hN'.put (yo h1 h2),?_⟩;have:=At (N:=N') (j:=kk) (p:=(x+g i0+t kk - c i0 kk,k));omega
   have leave:∀u10 u11 u12,(mf u10/\mf u11/\mf u12)->(n6 R kk=true\/∃p,f kk=some p/\¬ x+g i0+t kk - c i0 kk<p.1) ->
     ∃(N2:bS) (v10 v11 v12:Option PV),[some (.dat d),some (.dat (.lst (cP n g))),some (.dat (.lst (cP n t))),some (.dat (.lst (cP n l))),some (.dat (.int s)),some (.odc (ksR R) (dsR R)),some (.odc (ksR N') (dsR N')),some (.dat (.int i0)),some (.dat (.int x)),some (.dat (.int k)),u10,u11,u12]=[some (.dat d),some (.dat (.lst (cP n g))),some (.dat (.lst (cP n t))),some (.dat (.lst (cP n l))),some (.dat (.int s)),some (.odc (ksR R) (dsR R)),some (.odc (ksR N2) (dsR N2)),some (.dat (.int i0)),some (.dat (.int x)),some (.dat (.int k)),v10,v11,v12]
    /\(mf v10/\mf v11/\mf v12)/\fz N2 (fo (λj=>x+g i0+t j - c i0 j) R f k (kk+1))/\N2.length<=40*R.length+(kk+1):=λu10 u11 u12 hu h=>by
    refine⟨N',u10,u11,u12,rfl,hu,?_,by omega⟩;rw [vK h λj z=>(D.fn j z).2];exact hN'
   refine ul (λcR=>?_) (λcR=>?_)
   .have cR:=yq cR;rw [cR] at l1;have l1:n6 R kk=false:=l1.symm;walk_at "r"
    refine ul (λcN=>?_) (λcN=>?_)
    .have cN:=yq cN;rw [cN] at l2
     have cf:f kk=none:=by
      cases h:f kk with
      | none=>rfl
      | some p=>rw [h] at l2;cases l2
     walk_at "r";exact take _ _ _ ⟨cw,cw,cw⟩ l1 (.inl cf)
    .have cN:=yr cN;rw [l2] at cN
     obtain⟨p,cf⟩:∃p,f kk=some p:=by
      cases h:f kk with
      | none=>rw [h] at cN;cases cN
      | some p=>exact⟨p,rfl⟩
     rw [cf] at l2;have l2:dE (ksR N') (dsR N') (J0 (kk:Int))=some (.tup [.int p.1,.int p.2]):=l2;walk_at "r";refine⟨_,l2,?_⟩;walk_at "r"
     refine ul (λcl=>?_) (λcl=>?_)
     .walk_at "r";exact take _ _ _ ⟨cw,cw,cw⟩ l1 (.inr ⟨p,cf,of_decide_eq_true cl⟩)
     .walk_at "r";exact leave _ _ _ ⟨cw,cw,cw⟩ (.inr ⟨p,cf,of_decide_eq_false cl⟩)
   .have cR:=yr cR;rw [l1] at cR;walk_at "r";exact leave _ _ _ ⟨cw,cw,cw⟩ (.inl cR)
  .rintro ρ ⟨N',v10,v11,v12,rfl,hv',hN',hl'⟩;walk_at "r";refine⟨Gf hv',?_⟩;walk_at "r";have hnl:(N'.map λe=>(e.1:Int)).length<=1000000:=by rw [length_map];have:=D.len;rw [dr] at hl';omega
   refine⟨N'.map λe=>(e.1:Int),by unfold ksR kdR;rw [map_map,map_map];rfl,rfl,hnl,⟨λkk ys τ=>ys=(N'.take kk).map (λe=>.tup [.int e.2.1,.int e.1])/\∃v,τ=[v,some (.dat (.fdc (ksR N') (dsR N')))],⟨rfl,_,rfl⟩,?_,?_⟩⟩
   .rintro kk ys τ _ hkk rfl ⟨rfl,v,rfl⟩;rw [length_map] at hkk;have ek:(N'.map λe=>(e.1:Int)).getD kk 0=(N'[kk].1:Int):=by rw [e_,gV,cx hkk];rfl
    rw [ek];have l2:=hN'.look N'[kk].1;rw [hN'.e _ (Ku hkk)] at l2;have l2:dE (ksR N') (dsR N') (J0 (N'[kk].1:Int))=some (.tup [.int N'[kk].2.1,.int N'[kk].2.2]):=l2;walk_at "r";refine⟨_,l2,?_⟩;walk_at "r";exact⟨by rw [take_add_one,cx hkk,map_append];rfl,_,rfl⟩
   .rintro ys τ ⟨rfl,v,rfl⟩;rw [length_map,KO];rw [dr] at hN' hl';have hnf:=Au N';obtain⟨mq,hq⟩:=D.near A hs (M9 _) (sl:=λj=>x+g i0+t j - c i0 j);obtain⟨_,⟨p0,e0⟩,_⟩:=hq
    have hne:N'.map (λe=>[e.2.1,(e.1:Int)])≠[]:=λz=>by
     have:=hN'.m _ _ e0;rw [map_eq_nil_iff.mp z] at this;cases this
    walk_at "r";refine⟨trivial,?_⟩;walk_at "r";refine⟨N'.map λe=>[e.2.1,(e.1:Int)],by rw [map_map];rfl,hne,λr hr hmin=>?_⟩;obtain⟨e,he,rfl⟩:=JA.mp hr;have ls:=Av hN' (λj p hp=>(lY hp D.fn).1) he hmin;have hp2:CT (fo (λj=>x+g i0+t j - c i0 j) R f k n) e.1=e.2.2:=by unfold CT;rw [hN'.e e he];rfl
    have hnR:=(lY (hN'.e e he) D.fn).2.1
    have hpop:pG (kdR N') (.inl (e.1:Int))=some (.tup [.int e.2.1,.int e.2.2]):=by
     rw [sK hN'.e (hN'.m e.1),hN'.e e he];rfl
    have hRl:=D.len;have hkl:(kdR R).length<1000000:=by unfold kdR;rw [length_map];omega
    have al:=j6 (f:=l) ls.1;have al:atI (cP n l) (e.1:Int)=some (.int (l e.1)):=al;walk_at "r";refine⟨_,hpop,?_⟩;walk_at "r";refine⟨_,al,?_⟩;walk_at "r";obtain⟨m',rfl⟩:∃m',m=m'+1:=⟨m - 1,by omega⟩
    have st:=D.step A hs (M9 _) (by rw [toNat_natCast]) ls;have sw:=qP (m:=m') (R:=R) (x:=x) (k:=k) (f:=f) (n:=n) (c:=c) (g:=g) (t:=t) (l:=l) (M9 i0) (by rw [toNat_natCast]) ls;rw [hp2] at st sw
    refine⟨m',JH _,_,vJ N' e.1,_,R++[e],l e.1,e.2.1,e.1,v10,v11,v12,?_,hv',st,hN'.drop,?_,by rw [<- sw];exact hw,?_⟩
    .have e1:An (kdR R) (.inl (e.1:Int)) (.tup [.int e.2.1,.int e.2.2])=kdR (R++[e]):=by rw [Bt R e.1 e.2,Aw hnR]
     rw [e1,Db];rfl
    .have:=yt (R:=N') (j:=e.1);rw [length_append];simp only [length_cons,length_nil];omega
    .rw [length_append];simp only [length_cons,length_nil];omega
 .have hi:i<0:=not_le.mp (of_decide_eq_false hi);rw [qO hi] at hw;obtain⟨R0,q',p,e,W⟩:=D.way hi;subst e;exact⟨rfl,q R0 q' x p hw.symm W⟩
noncomputable def gl(K:b_)(mg:Str->Option Value)(t:TxC K):=(have TC:=t;show LS K [1,2,3] _ _ from (aq (aA (Am (ay (c:=eZ) (aa (bR 0) (aa (bR 1) (aa (bR 2) (aa (bR 3) (aa (bR 4) ac))))))) (ck 5 rfl)) (aq (aA (ak aU (ah (aF Ao (aa (jl (i:=5)) ac))) (ah (zD uq (bf 1)))) (ck 6 rfl)) (aq (aA (ak aU (ah (ak jS (jl (i:=5)) (ax 6))) (bf 0)) (ck 7 rfl)) (aq (sB (f:=(λi j=>i - j)) (i:=1) (cm 4) (cm 7)) (aq (Ga (x:=5) (bZ (Gc (cm 5)) (aO 8 rfl) (cM (fi (ak qC (ah (ak aU (ax 3) (ax 8))) (bf 0))) (aq (sB (f:=(λi j=>i+j)) (i:=2) (cm 8) (ak eA (ax 7) (ah (ak aU (ah (ak jS (jl (i:=5)) (ax 8))) (bf 0))))) (sB (f:=(λi j=>i - j)) (i:=1) (ak aU (ax 3) (ax 8)) (ak eA (ax 7) (ah (ak aU (ah (ak jS (jl (i:=5)) (ax 8))) (bf 0)))))) aY))) (o0 (fi (ak qC (ax 6) (bf 0))) (aq (aA (ak aU (ah (ak jS (jl (i:=5)) (ax 6))) (bf 1)) (ck 9 rfl)) (aq (xq (i:=3) (EF (fi (ak qC (ax 9) (bf 0))) (ak aU (ax 3) (ax 9)) (cm 4)) (cm 6)) (aA (cm 9) (ck 6 rfl)))))))))))
def kM:PTS:=psO gl
def kN:∀as Q,cz as Q->as.length=5/\(∀i,i∈([1,2,3]:List Nat) ↔ ∃p:PV,as[i]?=some p/\p.isOwn=true)/\kM { nx:=yO [1,2,3] as Q,rt:=λr ρ=>r=.dat .non/\yO [1,2,3] as Q ρ } (bG 10 as):=λas Q h=>by
 unfold cz at h
 split at h
 .refine⟨rfl,?_,?_⟩
  .intro i;rcases i with _|_|_|_|_|i <;> simp [PV.isOwn]
  walk_at "z";rename_i d ga ta la m;obtain⟨n,c,rs,hd,g,rfl,t,rfl,l,rfl,s,rfl,⟨hn,hs,A⟩,q⟩:=h;walk_at "r";refine⟨n,c,rs,hd,g,rfl,t,rfl,l,rfl,s,rfl,⟨hn,hs,A⟩,λR0 q' x p ew W=>⟨Gg _,?_⟩⟩
  have hst:lZ n c s (g,t,l)=(((R0++[(q',x,p)]).foldl (upF l x) (t,gSt g s x)).2,((R0++[(q',x,p)]).foldl (upF l x) (t,gSt g s x)).1,iM (R0++[(q',x,p)]) s (n+1) l q'):=by
   unfold lZ;simp only;rw [ew,qQ]
  rw [hst] at q;have hRl:=W.len;have hla:=Df R0 (q',x,p);have hnd:=W.nd;have hrn:=W.rn;have hpr:=W.pr;have hq:(q',x,p)∈R0++[(q',x,p)]:=oe _ mem_cons_self;have hll:(R0++[(q',x,p)]).length<=n:=by rw [length_append];exact hRl
  generalize hR:R0++[(q',x,p)]=R at *;have hki:=De R;walk_at "r";refine⟨R.map λe=>(e.1:Int),hki,by rw [length_map];omega,?_⟩;walk_at "r";refine⟨_,hla,?_⟩;walk_at "r";refine⟨_,yu hnd hq,?_⟩;walk_at "r";refine⟨s,g s,Dw (by rw [dr];exact hs),jn hs,?_⟩;walk_at "r";rw [jo]
  refine⟨R.map λe=>(e.1:Int),hki,λkk ρ=>∃v8 v9:Option PV,ρ=[some (.dat d),some (.own (cP n ((R.take kk).foldl (upF l x) (t,gSt g s x)).2)),some (.own (cP n ((R.take kk).foldl (upF l x) (t,gSt g s x)).1)),some (.own (cP n l)),some (.dat (.int s)),some (.dat (.fdc (ksR R) (dsR R))),some (.dat (.int (q':Nat))),some (.dat (.int x)),v8,v9],⟨_,_,rfl⟩,?_,?_⟩
  .rintro kk ρ _ hkk rfl ⟨v8,v9,rfl⟩;rw [length_map] at hkk;have ek:(R.map λe=>(e.1:Int)).getD kk 0=(R[kk].1:Int):=by rw [e_,gV,cx hkk];rfl
   have hm:=Ku hkk;have hen:=hrn _ hm;have hlk:=yu hnd hm;have hld:=A.ld _ hen
   have hf:(R.take (kk+1)).foldl (upF l x) (t,gSt g s x)=upF l x ((R.take kk).foldl (upF l x) (t,gSt g s x)) R[kk]:=by
    rw [take_add_one,cx hkk];show Nb _ _ (_++[R[kk]])=_;rw [foldl_append];rfl
   have a1:=j6 (f:=l) hen;dsimp only;rw [ek,hf];generalize (R.take kk).foldl (upF l x) (t,gSt g s x)=tg at *;generalize R[kk]=e at *;walk_at "r";refine⟨_,a1,?_⟩;walk_at "r"
   refine ul (λc1=>?_) (λc1=>?_)
   .have c1:0<=l e.1:=of_decide_eq_true c1;obtain⟨r,hr⟩:∃r:Nat,l e.1=(r:Int):=⟨(l e.1).toNat,by omega⟩
    have hrn':r<n:=by omega
    unfold upF;rw [if_pos c1,hr,toNat_natCast];rw [hr] at a1;walk_at "r";refine⟨e.1,tg.1 e.1,Dw (by rw [dr];exact hen),jn hen,?_⟩;walk_at "r";refine⟨_,hlk,?_⟩;walk_at "r";refine⟨_,a1,?_⟩;walk_at "r";refine⟨r,tg.2 r,Dw (by rw [dr];exact hrn'),jn hrn',?_⟩;walk_at "r";refine⟨_,hlk,?_⟩;walk_at "r";rw [jo,jo];exact⟨_,_,rfl⟩
   .have c1:¬ 0<=l e.1:=of_decide_eq_false c1;unfold upF;rw [if_neg c1];walk_at "r";exact⟨_,_,rfl⟩
  .rintro ρ ⟨v8,v9,rfl⟩;rw [length_map,KO];walk_at "r";generalize (R.foldl (upF l x) (t,gSt g s x)).2=G at *;generalize (R.foldl (upF l x) (t,gSt g s x)).1=T at *;refine⟨λm ρ=>∃(L:Nat->Int) (k:Int) (v8 v9:Option PV),ρ=[some (.dat d),some (.own (cP n G)),some (.own (cP n T)),some (.own (cP n L)),some (.dat (.int s)),some (.dat (.fdc (ksR R) (dsR R))),some (.dat (.int k)),some (.dat (.int x)),v8,v9]/\iM R s m L k=iM R s (n+1) l q'/\(k<0\/∃R1 e R2,R=R1++e::R2/\k=(e.1:Int)/\R1.length<m),⟨n+1,l,q',_,_,rfl,rfl,.inr ⟨R0,(q',x,p),[],hR.symm,rfl,by omega⟩⟩,?_⟩
   rintro m ρ ⟨L,k,v8,v9,rfl,ht,hk⟩;walk_at "r"
   refine ul (λc1=>?_) (λc1=>?_)
   .have c1:0<=k:=of_decide_eq_true c1;obtain⟨R1,e,R2,eR,rfl,hlt⟩:=hk.resolve_left (by omega);have hm:e∈R:=by rw [eR];exact oe _ mem_cons_self
    have hlk:=yu hnd hm;have hen:=hrn _ hm;obtain⟨m',rfl⟩:∃m',m=m'+1:=⟨m - 1,by omega⟩
    have tc:=yv (R:=R) (s:=s) (m:=m') (L:=L) (k:=(e.1:Int)) c1;rw [toNat_natCast,Bj (d:=e.2.1) (p:=e.2.2) hnd hm] at tc;rw [tc] at ht;clear tc;walk_at "r";refine⟨_,hlk,?_⟩;walk_at "r";have hp:=hpr R1 e R2 eR;generalize he2:e.2.2=b at *
    refine ul (λc2=>?_) (λc2=>?_)
    .have c2:0<=b:=of_decide_eq_true c2;rw [if_pos c2] at ht
     obtain⟨a,ha,eb,_⟩:∃a,a∈R1/\b=(a.1:Int)/\True:=by
      rcases hp with ⟨z,_⟩|⟨a,ha,z,_⟩
      .omega
      .exact⟨a,ha,by rw [<- he2];exact z,trivial⟩
     subst eb;have haR:a∈R:=by rw [eR];exact FX _ ha
     have a1:=j6 (f:=L) (hrn _ haR);rw [toNat_natCast] at ht;obtain⟨S1,S2,eS⟩:=append_of_mem ha;walk_at "r";refine⟨_,a1,?_⟩;walk_at "r";refine⟨e.1,Dw (by rw [dr];exact hen),?_⟩;walk_at "r";rw [jo];exact⟨m',JH _,_,_,_,_,rfl,ht,.inr ⟨S1,a,S2++e::R2,by rw [eR,eS,KU];rfl,rfl,by rw [eS,length_append,length_cons] at hlt;omega⟩⟩
    .have c2:¬ 0<=b:=of_decide_eq_false c2;rw [if_neg c2] at ht;walk_at "r";refine⟨e.1,Dw (by rw [dr];exact hen),?_⟩;walk_at "r";rw [jo];exact⟨m',JH _,_,_,_,_,rfl,ht,.inl (by omega)⟩
   .have c1:¬ 0<=k:=of_decide_eq_false c1;rw [Ax (by omega)] at ht;subst ht;exact Ih q
 .exact h.elim
noncomputable def gL(K:b_)(mg:Str->Option Value)(t:TxC K):=(have TC:=t;show LS K [] _ _ from (aq (cM (gc (rK (ay (c:=gI) (aa (bR 0) ac)))) oY aY) (aq (aA (aM (ix:=[none]) rfl (bv (cm 0)) (λfs hc=>(aO 0 (fm hc (by decide)))) bF (aF C3 (aa (ax 0) ac))) (ck 1 rfl)) (aq (aA (aM (ix:=[none]) rfl (bv (cm 0)) (λfs hc=>(aO 0 (fm hc (by decide)))) bF (Bq 0)) (ck 2 rfl)) (aq (aA (aM (ix:=[none]) rfl (bv (cm 0)) (λfs hc=>(aO 0 (fm hc (by decide)))) bF (zD uq (bf 1))) (ck 3 rfl)) (aq (bZ (ee (aa (ah (aF aV (aa (ax 0) ac))) ac)) (aO 4 rfl) (dP (Al (c:=cz) (is:=[0,1,2,3,4])))) (aq (aA (aF di (aa (ah (aM (ix:=[none,some 3]) rfl (ee (aa (ah (aF aV (aa (ax 0) ac))) ac)) (λfs hc=>(aO 0 (fm hc (by decide)))) bF (CQ (ax 1) (cm 0)))) ac)) (ck 5 rfl)) (aJ (qB (aa (bR 5) (aa (ah (aF di (aa (ax 1) ac))) (aa (ah (aF di (aa (ax 2) ac))) ac))))))))))))
def mn:PTS:=psO gL
def mr:PRl cY mn 6 1:=λ_ Q h=>vD h λrs _ h=>gk h λh=>we rfl <| by
 walk_at "z";obtain⟨n,cc,rfl,g,q⟩:=h;have hd:=Dg n cc;have hc0:∀i j,i<n->j<n->0<=cc i j:=λi j hi hj=>(g.2 i j hi hj).1;have hn:=g.1;walk_at "r";refine⟨n,cc,rfl,g,?_⟩;generalize me n cc=rs at *;have hN:=hd.len;walk_at "r"
 refine rL (λτ=>∃v,τ=[v]) (λk=>.int (yL (cc k) n)) ⟨_,rfl⟩ ?_ ?_
 .rintro k τ _ hk rfl ⟨v,rfl⟩ K1 k1;rw [hN] at hk;have hr:=hd.at_ k hk;walk_at "r";refine⟨itD rs k,(c_ n).map (cc k),rfl,by rw [<- kZ];exact hr,by rw [length_map,length_range];omega,λm hm hle=>?_⟩
  have em:m=yL (cc k) n:=by
   obtain⟨j,hj,rfl⟩:=JA.mp hm;rw [JB] at hj;obtain⟨j2,hj2,e2⟩:=uE (f:=cc k) (m:=n) (by omega);have a:=sD (f:=cc k) hj;have b:=hle _ (JA.mpr ⟨j2,JB.mpr hj2,rfl⟩);omega
  subst em;walk_at "r";exact k1 _ ⟨_,rfl⟩
 .rintro τ ⟨v,rfl⟩;rw [hN];walk_at "r"
  refine rL (λτ=>∃v,τ=[v]) (λk=>.int 0) ⟨_,rfl⟩ ?_ ?_
  .rintro k τ _ hk rfl ⟨v,rfl⟩ K1 k1;walk_at "r";exact k1 _ ⟨_,rfl⟩
  .rintro τ ⟨v,rfl⟩;rw [hN];walk_at "r"
   refine rL (λτ=>∃v,τ=[v]) (λk=>.int (-1)) ⟨_,rfl⟩ ?_ ?_
   .rintro k τ _ hk rfl ⟨v,rfl⟩ K1 k1;walk_at "r";exact k1 _ ⟨_,rfl⟩
   .rintro τ ⟨v,rfl⟩;rw [hN];walk_at "r";rw [hd.len];walk_at "r";rw [toNat_natCast]
    refine⟨λk ρ=>∃v4 v5:Option PV,ρ=[some (.dat (.lst rs)),some (.own (cP n (bpN n cc k).1)),some (.own (cP n (bpN n cc k).2.1)),some (.own (cP n (bpN n cc k).2.2)),v4,v5],⟨_,_,rfl⟩,?_,?_⟩
    .rintro k ρ _ hk rfl ⟨v4,v5,rfl⟩;have hfit:=n8 hc0 k (by omega);walk_at "r";refine⟨[.dat (.lst rs),.own (cP n (bpN n cc k).1),.own (cP n (bpN n cc k).2.1),.own (cP n (bpN n cc k).2.2),.dat (.int k)],rfl,?_⟩;exact⟨n,cc,rs,hd,_,rfl,_,rfl,_,rfl,k,rfl,⟨hn,hk,hfit⟩,_,_,rfl⟩
    .rintro ρ ⟨v4,v5,rfl⟩;walk_at "r";rw [hd.len];walk_at "r";rw [toNat_natCast]
     refine rL (λτ=>∃v,τ=[v,some (.own (cP n (bpN n cc n).2.2))]) (λk=>nD (bpF n cc k)) ⟨_,rfl⟩ ?_ ?_
     .rintro k τ _ hk rfl ⟨v,rfl⟩ K1 k1;walk_at "r";have A:=n8 hc0 n (f_ _)
      have hmem:(k:Int)∈(c_ n).map (bpN n cc n).2.2:=by
       obtain⟨j,hj,e⟩:=A.sur k hk;exact JA.mpr ⟨j,JB.mpr hj,e⟩
      have hnl:∀z∈(c_ n).map (bpN n cc n).2.2,z.natAbs<2^64:=λz hz=>by
       obtain⟨j,hj,rfl⟩:=JA.mp hz;have:=A.ld j (JB.mp hj);omega
      refine⟨(c_ n).map (bpN n cc n).2.2,kZ _ _,⟨by rw [length_map,length_range];omega,hnl,hmem⟩,?_⟩;exact k1 _ ⟨_,rfl⟩
     .rintro τ ⟨v,rfl⟩;walk_at "r"
      have e:bpP n cc=.tup [.tup ((c_ n).map λk=>nD (bpF n cc k)),.tup (cP n (bpN n cc n).1),.tup (cP n (bpN n cc n).2.1)]:=by
       unfold bpP bpJ bpG bpT;rw [<- kZ,<- kZ,map_map];rfl
      rw [e] at q;exact q
noncomputable def im(K:b_)(mg:Str->Option Value)(t:TxC K):=(have TC:=t;show LS K [] _ _ from (aq (aA (um false (aa (bR 0) ac)) (ck 1 rfl)) (aJ (uu (ix:=[none,none,some 1]) rfl (bv (cm 1)) (λfs hc=>(aO 0 (fm hc (by decide)))) bF (bv (cm 2)) (λfs hc=>(aO 1 (fm hc (by decide)))) (fi (ak dQ (ax 0) (ax 1))) (qB (aa (bR 0) (aa (bR 1) ac)))))))
def nu:PTS:=psO im
def nv:PRl e7 nu 2 1:=λ_ Q h=>pZ h λm _ h=>gk h λh=>we rfl <| by
 walk_at "z";obtain⟨⟨h0,h1⟩,q⟩:=h;obtain⟨n,rfl⟩:∃n:Nat,m=(n:Int):=⟨m.toNat,by omega⟩
 rw [toNat_natCast] at q;have hrl:(vp 0 n).length=n:=lU n;walk_at "r";rw [toNat_natCast,hrl]
 refine⟨⟨λk ys τ=>ys=((c_ k).flatMap λi=>((c_ n).filter λj=>decide (i≠j)).map λj=>(i,j)).map prT/\∃v w,τ=[v,w,some (.dat (.lst (vp 0 n)))],⟨rfl,_,_,rfl⟩,?_,?_⟩⟩
 .rintro k ys τ _ hk rfl ⟨rfl,v,w,rfl⟩;rw [pd (by rw [hrl];exact hk)];walk_at "r";rw [hrl]
  refine⟨λj zs τ=>zs=((c_ k).flatMap λi=>((c_ n).filter λj=>decide (i≠j)).map λj=>(i,j)).map prT++(((c_ j).filter λj=>decide (k≠j)).map λj=>(k,j)).map prT/\∃w,τ=[some (.dat (.int (k:Int))),w,some (.dat (.lst (vp 0 n)))],⟨(JY _).symm,w,rfl⟩,?_,?_⟩
  .rintro j zs τ _ hj rfl ⟨rfl,w,rfl⟩;rw [pd (by rw [hrl];exact hj)];have hlen:=pJ n (c_ k);have hkn:k*n<=40*40:=Ml (by omega) (by omega);walk_at "r"
   refine lD (λc=>?_) (λc=>?_)
   .walk_at "r"
    refine⟨?_,?_,_,rfl⟩
    .rw [length_append,length_map,length_map,length_map];have h2:((c_ j).filter λj=>decide (k≠j)).length<=j:=F_ (JR ..) (by rw [length_range];exact f_ _);rw [length_range] at hlen;omega
    .rw [KP,filter_append,map_append,map_append,<- KU,filter_cons,if_pos (decide_eq_true (show k≠j by omega))];rfl
   .refine⟨?_,_,rfl⟩;rw [KP,filter_append,filter_cons,if_neg (by rw [decide_eq_true_eq];omega)];simp
  .rintro zs τ ⟨rfl,w,rfl⟩;refine⟨?_,_,_,rfl⟩;rw [KP,flatMap_append,map_append,flatMap_cons,flatMap_nil,JY]
 .rintro ys τ ⟨rfl,v,w,rfl⟩;walk_at "r";exact q
noncomputable def ko(K:b_)(mg:Str->Option Value)(t:TxC K):=(have TC:=t;show LS K [] _ _ from (aq (cM (gc (rK (ay (c:=dg) (aa (bR 0) (aa (ah (aF aV (aa (ax 1) ac))) ac))))) (aJ (hU (i:=false))) aY) (aq (aA (cm 0) (xG (n:=2) (br (aO 3 rfl) (br (aO 4 rfl) fN)))) (aJ (aF lN (aa (ah (aM (ix:=[none,none,some 3,some 4,some 1]) rfl (bv (cm 2)) (λfs hc=>(lR (n:=2) (br (aO 0 (fm hc (by decide))) (br (aO 1 (fm hc (by decide))) fN)))) bF (ak qC (ah (ak aS (ah (ak aU (ax 2) (ax 0))) (ah (ak aU (ax 3) (ax 1))))) (ah (ak aU (ah (ak aU (ax 4) (ax 0))) (ax 1)))))) ac))))))
def rj:PTS:=psO ko
def rk:PRl gJ rj 5 3:=λ_ Q h=>yM h λds _ h=>yM h λls _ h=>vD h λps _ h=>gk h λh=>we rfl <| by
 walk_at "z";obtain⟨gs,ts,rfl,ws,rfl,prs,rfl,⟨hn,hpl,hzs,hpm⟩,q⟩:=h;have hlm:(ws.map (Az ws)).length=ws.length:=length_map _;have hpl:(prs.map prT).length<=1600:=by rw [length_map];exact hpl
 have hg:=(hzs gs (by simp)).1;have ht:=(hzs ts (by simp)).1;have gp:(((ws.map (Az ws)).length:Nat):Int)<=1000/\∀zs∈[gs,ts],(zs.length:Int)=((ws.map (Az ws)).length:Nat)/\∀z∈zs,0<=z:=⟨by omega,λzs h=>⟨by have:=(hzs zs h).1;omega,(hzs zs h).2⟩⟩
 walk_at "r";refine⟨gs,ts,rfl,gp,?_⟩;walk_at "r"
 refine cm2 (e:=prT) (xs:=prs) (λp=>.bl true) (λp hp v w K1 k1=>?_) (λv w=>?_)
 .obtain⟨h1,h2,h3⟩:=hpm p hp;walk_at "r";refine⟨_,Bv (by omega),?_⟩;walk_at "r";refine⟨_,Bv (by omega),?_⟩;walk_at "r";refine⟨_,Dh h1,?_⟩;walk_at "r";refine⟨_,oa h2,?_⟩;walk_at "r";rw [decide_eq_true h3];exact k1 _ _
 .walk_at "r";refine⟨prs.map λ_=>true,by rw [map_map];rfl,?_⟩;rw [g7];exact q
noncomputable def io(K:b_)(mg:Str->Option Value)(t:TxC K):=(have TC:=t;show LS K [] _ _ from (aq (cM (gc (rK (ay (c:=gJ) (aa (bR 1) (aa (ah (fk (ns0:=["pieces","kept","words","left","laps","total"]) TC.cl_Family TC.n_Family_laps (i:=4) (by decide +kernel) (ax 0))) (aa (ah (ay (c:=e7) (aa (ah (zL (c0:="Family") (m:="many") (ns0:=["pieces","kept","words","left","laps","total"]) (c:=cr) (by decide +kernel) (cm 0) ac)) ac))) ac)))))) (aJ EE) aY) (aq (aA (cm 1) (xG (n:=2) (br (aO 2 rfl) (br (aO 3 rfl) fN)))) (aJ (ak eA (ah (ak eA (ah (fk (ns0:=["pieces","kept","words","left","laps","total"]) TC.cl_Family TC.n_Family_total (i:=5) (by decide +kernel) (ax 0))) (ah (aF gC (aa (ax 2) ac))))) (ah (aF gC (aa (ax 3) ac))))))))
def ny:PTS:=psO io
def nz:PRl e8 ny 4 2:=λ_ Q h=>Ia h λc ns fs _ h=>yM h λds _ h=>gk h λh=>we rfl <| by
 walk_at "z";obtain⟨rfl,rfl,ps,rfl,gs,ts,rfl,⟨hn,hz,hp⟩,q⟩:=h;have hM:0<=((ap ps).length:Int)/\((ap ps).length:Int)<=40:=⟨by omega,by omega⟩
 have hol:=pJ (ap ps).length (c_ (ap ps).length);rw [length_range] at hol;have hnn:(ap ps).length*(ap ps).length<=40*40:=Ml hn hn
 have gpay:(ap ps).length<=40/\(Dz (ap ps).length).length<=1600/\(∀zs∈[gs,ts],zs.length=(ap ps).length/\∀z∈zs,0<=z)/\∀p∈Dz (ap ps).length,p.1<(ap ps).length/\p.2<(ap ps).length/\(eC (pw (ap ps) p.1) (pw (ap ps) p.2):Int)<=gs.getD p.1 0+ts.getD p.2 0:=⟨hn,by unfold Dz;omega,hz,λp h=>by
  obtain⟨a,b,e⟩:=Ay.mp h;exact⟨a,b,hp _ _ a b e⟩⟩
 walk_at "r";refine⟨gs,ts,rfl,_,rfl,_,by rw [toNat_natCast],gpay,?_⟩;walk_at "r";exact q
noncomputable def kq(K:b_)(mg:Str->Option Value)(t:TxC K):=(have TC:=t;show LS K [] _ _ from (aq (aA (aM (ix:=[none,none]) rfl (oZ (aa (ah (fk (ns0:=["pieces","kept","words","left","laps","total"]) TC.cl_Family TC.n_Family_laps (i:=4) (by decide +kernel) (ax 0))) ac)) (λfs hc=>(lR (n:=2) (br (aO 0 (fm hc (by decide))) (br (aO 1 (fm hc (by decide))) fN)))) bF (aM (ix:=[none,none,some 0]) rfl (oZ (aa (bR 1) ac)) (λfs hc=>(lR (n:=2) (br (aO 0 (fm hc (by decide))) (br (aO 1 (fm hc (by decide))) fN)))) bF (EF (fi (ak dQ (ax 2) (ax 0))) (cm 1) (Bq 0)))) (ck 1 rfl)) (aJ (cV (ah (ay (c:=cY) (aa (bR 1) ac))) (bN (Bq 1)) fM))))
def rm:PTS:=psO kq
def rp:PRl dw rm 2 1:=λ_ Q h=>Ia h λc ns fs _ h=>gk h λh=>we rfl <| by
 walk_at "z";obtain⟨rfl,rfl,ps,rfl,⟨hn,hw⟩,q⟩:=h;have sq:=yw hn hw;walk_at "r";generalize ap ps=ws at *;have lM:(ws.map (Az ws)).length=ws.length:=length_map _;rw [lM]
 refine rL (λτ=>∃v w,τ=[v,w]) (λk=>.lst ((c_ ws.length).map λj=>.int (fF ws k j))) ⟨_,_,rfl⟩ ?_ ?_
 .rintro k τ d hk ed ⟨v,w,rfl⟩ K1 k1;rw [jc (AA hk)] at ed;subst ed;walk_at "r";rw [length_map]
  refine rL (λτ=>∃v w,τ=[v,w,some (.dat (.int (k:Int)))]) (λj=>.int (fF ws k j)) ⟨_,_,rfl⟩ ?_ ?_
  .rintro j τ d hj ed ⟨v,w,rfl⟩ K2 k2;rw [jc (AB hj)] at ed;subst ed;walk_at "r"
   refine lD (λc=>?_) (λc=>?_)
   .have e:fF ws k j=(eC (pw ws k) (pw ws j):Int):=if_neg (by omega);rw [e] at k2;exact k2 _ ⟨_,_,rfl⟩
   .have e:fF ws k j=0:=if_pos (by omega);rw [e] at k2;exact k2 _ ⟨_,_,rfl⟩
  .rintro τ ⟨v,w,rfl⟩;exact k1 _ ⟨_,_,rfl⟩
 .rintro τ ⟨v,w,rfl⟩;rw [show (c_ ws.length).map (λk=>D.lst ((c_ ws.length).map λj=>.int (fF ws k j)))=me ws.length (fF ws) from rfl];walk_at "r";refine⟨_,_,rfl,sq,?_⟩;walk_at "r";exact q
noncomputable def Bz(K:b_)(mg:Str->Option Value)(t:TxC K):=(have TC:=t;show LS K [] _ _ from (aq (bZ (Hx (aa (ah (ak eA (ah (aF xr (aa (ah (aF aV (aa (ax 0) ac))) (aa (ah (aF aV (aa (ax 1) ac))) ac)))) (bf 1))) (aa (bf 0) (aa (ah (zD uq (bf 1))) ac)))) (aO 2 rfl) (cM (rK (Fd CD (cm 0) (aa (ah (cV (ax 1) fM (bN (cm 2)))) ac))) (aJ (cm 2)) aY)) (aJ (Bq 0))))
def Go:PTS:=psO Bz
def Gp:PRl qX Go 3 2:=λ_ Q h=>yf h λa _ h=>yf h λb _ h=>gk h λh=>we rfl <| by
 walk_at "z";obtain⟨⟨a0,a1⟩,⟨b0,b1⟩,q⟩:=h;have hm:(if (b.length:Int)<(a.length:Int) then (b.length:Int) else (a.length:Int))=((min a.length b.length:Nat):Int):=by split <;> omega
 walk_at "r"
 refine⟨λi ρ=>(∃v2:Option PV,ρ=[some (.dat (.str a)),some (.dat (.str b)),v2])/\∀j,min a.length b.length - i<=j->j<min a.length b.length->¬ b.take j <:+ a,⟨⟨_,rfl⟩,λj h1 h2=>by omega⟩,?_,?_⟩
 .rintro i ρ d hi ed ⟨⟨v2,rfl⟩,ih⟩;have hi:i<(((if (b.length:Int)<(a.length:Int) then (b.length:Int) else (a.length:Int)) - 1) - 0).toNat:=hi;have ed:d=.int (((if (b.length:Int)<(a.length:Int) then (b.length:Int) else (a.length:Int)) - 1) - (i:Int)):=ed;rw [hm] at hi ed;obtain⟨k,hk,hk2⟩:∃k:Nat,(((min a.length b.length:Nat):Int) - 1) - (i:Int)=(k:Int)/\k=min a.length b.length - 1 - i:=⟨min a.length b.length - 1 - i,by omega,rfl⟩
  rw [hk] at ed;subst ed;walk_at "r";rw [jF]
  refine iF (λc=>?_) (λc=>?_)
  .walk_at "r"
   rw [show eC a b=k from sy ⟨by omega,c,λj h1 h2=>by
    rcases lt_or_ge k j with h|h
    .exact absurd h2 (ih j (by omega) h1)
    .exact h⟩] at q
   exact q
  .refine⟨⟨_,rfl⟩,λj h1 h2=>?_⟩
   by_cases hj:j=k
   .rw [hj];exact c
   .exact ih j (by omega) h2
 .rintro ρ ⟨⟨v2,rfl⟩,ih⟩;rw [hm] at ih;walk_at "r"
  rw [show eC a b=0 from sy ⟨by omega,by rw [take_zero];exact nil_suffix,λj h1 h2=>by
   rcases eq_zero_or_pos j with h|h
   .omega
   .exact absurd h2 (ih j (by omega) h1)⟩] at q
  exact q
noncomputable def mw(K:b_)(mg:Str->Option Value)(t:TxC K):=(have TC:=t;show LS K [] _ _ from (aJ (aF di (aa (ah (aM (ix:=[none,some 0]) rfl (bv (cm 0)) (λfs hc=>(aO 0 (fm hc (by decide)))) bF (aF di (aa (ah (aM (ix:=[none,some 0]) rfl (bv (cm 1)) (λfs hc=>(aO 0 (fm hc (by decide)))) bF (ay (c:=qX) (aa (bR 1) (aa (bR 0) ac))))) ac)))) ac))))
def sU:PTS:=psO mw
def sV:PRl fX sU 1 1:=λ_ Q h=>yM h λds _ h=>gk h λh=>we rfl <| by
 walk_at "z";obtain⟨ws,rfl,⟨hn,hw⟩,q⟩:=h;have hlm:(ws.map D.str).length=ws.length:=length_map _
 have rr:∀f:List Nat->D,(c_ (ws.map D.str).length).map (λk=>f (pw ws k))=ws.map f:=λf=>by
  rw [hlm];apply KW;intro k;rw [gV,gV]
  by_cases hk:k<ws.length
  .rw [Jv hk,gA hk];rfl
  .rw [x_ (by rw [length_range];omega),x_ (by omega)];rfl
 walk_at "r"
 refine rL (λτ=>∃v,τ=[v,some (.dat (.tup (ws.map .str)))]) (λk=>.tup (ws.map λv=>.int (eC (pw ws k) v:Int))) ?_ ?_ ?_
 .exact⟨_,rfl⟩
 .rintro k τ d hk ed ⟨v,rfl⟩ K1 k1;rw [iH hk] at ed;subst ed;have w1:=hw _ (gB (show k<ws.length by omega));walk_at "r"
  refine rL (λτ=>∃v,τ=[v,some (.dat (.str (pw ws k)))]) (λj=>.int (eC (pw ws k) (pw ws j):Int)) ?_ ?_ ?_
  .exact⟨_,rfl⟩
  .rintro j τ d hj ed ⟨v,rfl⟩ K2 k2;rw [iH hj] at ed;subst ed;have w2:=hw _ (gB (show j<ws.length by omega));walk_at "r";exact k2 _ ⟨_,rfl⟩
  .rintro τ ⟨v,rfl⟩;rw [rr (λw=>D.int (eC (pw ws k) w:Int))];walk_at "r";exact k1 _ ⟨_,rfl⟩
 .rintro τ ⟨v,rfl⟩;rw [rr (λw=>D.tup (ws.map λv=>.int (eC w v:Int)))];walk_at "r";exact q
noncomputable def gM(K:b_)(mg:Str->Option Value)(t:TxC K):=(have TC:=t;show LS K [] _ _ from (aq (cM (fi (ak vm (ah (aF aV (aa (ax 0) ac))) (bf 40))) oY aY) (bZ (oZ (aa (bR 0) ac)) (lR (n:=2) (br (aO 1 rfl) (br (aO 2 rfl) fN))) (cM (gc (rK (zM (c:=ft) (vs0:=[]) (ds:=[]) (by repeat (first|exact .nil|exact .cons (.int _) .nil|refine .cons (.int _) ?_)) (aa (bR 2) (aa (bf 1) (aa (bf 60) ac)))))) oY aY))))
def mx:PTS:=psO gM
def my:PRl cZ mx 3 1:=λ_ Q h=>CV h λd _ h=>gk h λh=>we rfl <| by
 walk_at "z";obtain⟨ws,hd,⟨hn,hp⟩,q⟩:=h;have hlm:(ws.map D.str).length=ws.length:=length_map _
 rcases hd with rfl|rfl
 .walk_at "r"
  refine⟨λk ρ=>∃v1 v2:Option PV,ρ=[some (.dat (.lst (ws.map .str))),v1,v2],⟨_,_,rfl⟩,?_,?_⟩
  .rintro k ρ d hk ed ⟨v1,v2,rfl⟩;have ed:d=.tup [.int k,itD (ws.map D.str) k]:=ed;rw [iH hk] at ed;subst ed;have hw:=hp _ (gB (show k<ws.length by omega));have ht:zN (.str (pw ws k)) 1 60=true:=xw.mpr hw;have h1:(pw ws k).length<=1000000:=by have:=hw.2.1;omega
   walk_at "r";refine Ch ht ?_;exact⟨_,_,rfl⟩
  .rintro ρ ⟨v1,v2,rfl⟩;exact q
 .walk_at "r"
  refine⟨λk ρ=>∃v1 v2:Option PV,ρ=[some (.dat (.tup (ws.map .str))),v1,v2],⟨_,_,rfl⟩,?_,?_⟩
  .rintro k ρ d hk ed ⟨v1,v2,rfl⟩;have ed:d=.tup [.int k,itD (ws.map D.str) k]:=ed;rw [iH hk] at ed;subst ed;have hw:=hp _ (gB (show k<ws.length by omega));have ht:zN (.str (pw ws k)) 1 60=true:=xw.mpr hw;have h1:(pw ws k).length<=1000000:=by have:=hw.2.1;omega
   walk_at "r";refine Ch ht ?_;exact⟨_,_,rfl⟩
  .rintro ρ ⟨v1,v2,rfl⟩;exact q
noncomputable def gm(K:b_)(mg:Str->Option Value)(t:TxC K):=(have TC:=t;show LS K [] _ _ from (aJ (ak qC (ah (ay (c:=dq) (aa (bR 1) (aa (bR 0) ac)))) (bf 0))))
def kO:PTS:=psO gm
def kP:PRl bE kO 2 2:=λ_ Q h=>yf h λa _ h=>yf h λb _ h=>gk h λh=>we rfl <| by
 walk_at "z";walk_at "r";exact h
noncomputable def oi(K:b_)(mg:Str->Option Value)(t:TxC K):=(have TC:=t;show LS K [] _ _ from (aq (aA (ak aU (ax 0) (ax 1)) (ck 2 rfl)) (aq (aA (aM (ix:=[none,some 2]) rfl (bv (cm 0)) (λfs hc=>(aO 0 (fm hc (by decide)))) (fi (ak vm (ah (aF aV (aa (ax 0) ac))) (ah (aF aV (aa (ax 1) ac))))) (cm 0)) (ck 3 rfl)) (aJ (gy (ak (qL (neg:=true)) (ax 2) (ah (cV (ax 0) fM (bN (cm 1))))) (xj (aF E7 (aa (ah (aM (ix:=[none,some 2]) rfl (bv (cm 3)) (λfs hc=>(aO 0 (fm hc (by decide)))) bF (ay (c:=bE) (aa (bR 1) (aa (bR 0) ac))))) ac))))))))
def vM:PTS:=psO oi
def vN:PRl fA vM 4 2:=λ_ Q h=>yM h λds _ h=>pZ h λi _ h=>gk h λh=>we rfl <| by
 walk_at "z";obtain⟨ws,rfl,⟨hn,hw⟩,hi,q⟩:=h;obtain⟨k,rfl⟩:∃k:Nat,i=(k:Int):=⟨i.toNat,by omega⟩
 have hk:k<ws.length:=by omega
 have hlm:(ws.map D.str).length=ws.length:=length_map _;have w1:=hw _ (gB hk);walk_at "r";refine⟨_,iI hk rfl,?_⟩;walk_at "r"
 refine cfm (λτ=>∃v,τ=[v,some (.dat (.str (pw ws k)))]) (λj=>if (pw ws k).length<(pw ws j).length then some (.str (pw ws j)) else none) ?_ ?_ ?_
 .exact⟨_,rfl⟩
 .rintro j τ d hj ed ⟨v,rfl⟩ K1 K2 k1 k2;rw [iH hj] at ed;subst ed;have w2:=hw _ (gB (show j<ws.length by omega));walk_at "r"
  refine iF (λc=>?_) (λc=>?_)
  .walk_at "r";exact k1 _ _ (by rw [if_pos (by omega)]) ⟨_,rfl⟩
  .exact k2 _ (by rw [if_neg (by omega)]) ⟨_,rfl⟩
 .rintro τ ⟨v,rfl⟩
  have e1:(c_ (ws.map D.str).length).filterMap (λj=>if (pw ws k).length<(pw ws j).length then some (D.str (pw ws j)) else none)=(ws.filter λo=>decide ((pw ws k).length<o.length)).map D.str:=by
   rw [hlm,zY (λw=>if (pw ws k).length<w.length then some (D.str w) else none) ws,<- dt];congr 1;funext w
   by_cases h:(pw ws k).length<w.length
   .rw [if_pos h,if_pos (decide_eq_true h)]
   .rw [if_neg h,if_neg (by rw [decide_eq_false h];decide)]
  rw [e1];have hll:(ws.filter λo=>decide ((pw ws k).length<o.length)).length<=ws.length:=JR ..;generalize hL:(ws.filter λo=>decide ((pw ws k).length<o.length))=ls at hll ⊢;have hlm2:(ls.map D.str).length=ls.length:=length_map _;have c1:eM (ws.map D.str) none (some (k:Int))=(ws.take k).map D.str:=by rw [jF,map_take]
  have hfl:(eM (ws.map D.str) none (some (k:Int))).all D.fl=true:=by rw [c1];exact xO _
  have hin:inD (.str (pw ws k)) (eM (ws.map D.str) none (some (k:Int)))=decide (pw ws k∈ws.take k):=by rw [c1];exact o9 _ _
  have hkb:dR ws k=(!inD (.str (pw ws k)) (eM (ws.map D.str) none (some (k:Int))) && !ls.any λo=>gq (pw ws k) o):=by
   unfold dR;rw [hin,hL]
  rw [toNat_natCast,hkb] at q;walk_at "r"
  refine sg (ul (λc=>?_) (λc=>?_))
  .walk_at "r";have c:inD (.str (pw ws k)) (eM (ws.map D.str) none (some (k:Int)))=true:=c;rw [c] at q;exact q
  .have c:inD (.str (pw ws k)) (eM (ws.map D.str) none (some (k:Int)))=false:=c;rw [c,Bool.not_false,Bool.true_and] at q;walk_at "r"
   refine rL (λτ=>∃v,τ=[v,some (.dat (.str (pw ws k)))]) (λj=>.bl (gq (pw ws k) (pw ls j))) ?_ ?_ ?_
   .exact⟨_,rfl⟩
   .rintro j τ d hj ed ⟨v,rfl⟩ K1 k1;rw [iH hj] at ed;subst ed;walk_at "r";exact k1 _ ⟨_,rfl⟩
   .rintro τ ⟨v,rfl⟩;walk_at "r"
    refine⟨ls.map λo=>gq (pw ws k) o,?_,?_⟩
    .rw [hlm2,map_map]
     conv=>rhs;rw [<- xP ls,map_map]
     rfl
    .rw [show ((ls.map λo=>gq (pw ws k) o).any id)=ls.any (λo=>gq (pw ws k) o) by rw [any_map];rfl];walk_at "r";exact q
noncomputable def mz(K:b_)(mg:Str->Option Value)(t:TxC K):=(have TC:=t;show LS K [] _ _ from (aq (aA (aF Cy (aa (ah (aM (ix:=[none,some 0,some 2]) rfl (bv (cm 1)) (λfs hc=>(aO 0 (fm hc (by decide)))) (rK (ay (c:=bE) (aa (ah (ak aU (ax 1) (ax 2))) (aa (ah (ak aU (ax 1) (ax 0))) ac)))) (cm 0))) ac)) (ck 3 rfl)) (aJ (qB (aa (bR 2) (aa (bR 3) (aa (ah (ay (c:=dq) (aa (ah (ak aU (ax 0) (ax 3))) (aa (ah (ak aU (ax 0) (ax 2))) ac)))) ac)))))))
def sW:PTS:=psO mz
def sX:PRl dY sW 4 3:=λ_ Q h=>yM h λds _ h=>yM h λks _ h=>pZ h λi _ h=>gk h λh=>we rfl <| by
 walk_at "z";obtain⟨ws,rfl,rfl,⟨hn,hw⟩,hi,q⟩:=h;obtain⟨k,rfl⟩:∃k:Nat,i=(k:Int):=⟨i.toNat,by omega⟩
 have hk:k<ws.length:=by omega
 rw [toNat_natCast] at q;have hkl:=jP ws;have hkm:((bh ws).map nD).length=(bh ws).length:=length_map _;walk_at "r"
 refine cfm (λτ=>∃v,τ=[v,some (.dat (.tup (ws.map .str))),some (.dat (.int (k:Int)))]) (λj=>if gq (pw ws k) (pw ws ((bh ws).getD j 0))=true then some (nD ((bh ws).getD j 0)) else none) ?_ ?_ ?_
 .exact⟨_,rfl⟩
 .rintro j τ d hj ed ⟨v,rfl⟩ K1 K2 k1 k2;have hj2:(bh ws).getD j 0<ws.length:=jh (B_ (by rw [e_,cx (show j<(bh ws).length by omega)];rfl));rw [A8 hj] at ed;subst ed;generalize (bh ws).getD j 0=z at hj2 k1 k2 ⊢;walk_at "r";refine⟨_,iI hk rfl,?_⟩;walk_at "r";refine⟨_,iI hj2 rfl,?_⟩;walk_at "r"
  cases hc:gq (pw ws k) (pw ws z) with
  | true=>walk_at "r";exact k1 _ _ (by rw [if_pos hc];rfl) ⟨_,rfl⟩
  | false=>walk_at "r";exact k2 _ (by rw [if_neg (by rw [hc];decide)]) ⟨_,rfl⟩
 .rintro τ ⟨v,rfl⟩
  have e1:(c_ ((bh ws).map nD).length).filterMap (λj=>if gq (pw ws k) (pw ws ((bh ws).getD j 0))=true then some (nD ((bh ws).getD j 0)) else none)=((lS ws k).map λj=>((j:Nat):Int)).map D.int:=by
   rw [hkm,zZ (λj=>if gq (pw ws k) (pw ws j)=true then some (nD j) else none) (bh ws),dt (λj=>gq (pw ws k) (pw ws j)) nD,map_map];rfl
  rw [e1];obtain⟨h0,hh0⟩:=vB hw hk;walk_at "r";refine⟨by rw [length_map];exact length_pos_of_mem hh0,λm hm hle=>?_⟩;obtain⟨z,hz,rfl⟩:=JA.mp hm;have hz2:z<ws.length:=jh (JC.mp hz).1;have hho:uw ws k=z:=xK hz λa ha=>by have:=hle _ (M6 ha);omega
  walk_at "r";refine⟨_,iI hz2 rfl,?_⟩;walk_at "r";refine⟨_,iI hk rfl,?_⟩;walk_at "r";unfold iL at q;rw [hho] at q;exact q
noncomputable def ip:PTS:=(lH (AY (qE cZ (cU (pFz (xi 1)) hG))) (lH (lQ "Family" [] "pieces" 0 (pCB lO (cU (pSl 1) hG))) (lH (EQ (Fa false (cU (pFz (pCB Dt (cU (pFz (xu "Family" ["pieces"] 0 (pSl 0))) hG))) hG)) (fj 2)) (lH (lQ "Family" ["pieces"] "kept" 0 (pCB lO (cU (pFz (vo [none,some 0] (vn (xi 2)) (fj 0) (pB (qE fA (cU (pFz (xu "Family" ["pieces"] 0 (pSl 1))) (cU (pFz (xi 0)) hG)))) (xi 0))) hG))) (lH (lQ "Family" ["pieces","kept"] "words" 0 (pCB lO (cU (pFz (vo [none,some 0] (vn (xu "Family" ["pieces","kept"] 1 (pSl 0))) (fj 0) AZ (pOp fIx (pFz (xu "Family" ["pieces","kept"] 0 (pSl 1))) (pSl 0)))) hG))) (lH (lQ "Family" ["pieces","kept","words"] "left" 0 (pCB lO (cU (pFz (vo [none,some 0] (vn (xi 2)) (fj 0) (pB (pOp (HQ true) (pSl 0) (pFz (xu "Family" ["pieces","kept","words"] 1 (pSl 1))))) (qE dY (cU (pFz (xu "Family" ["pieces","kept","words"] 0 (pSl 1))) (cU (pFz (xu "Family" ["pieces","kept","words"] 1 (pSl 1))) (cU (pFz (xi 0)) hG)))))) hG))) (lH (lQ "Family" ["pieces","kept","words","left"] "laps" 0 (qE fX (cU (pFz (xu "Family" ["pieces","kept","words","left"] 2 (pSl 0))) hG))) (lQ "Family" ["pieces","kept","words","left","laps"] "total" 0 (pCB Cw (cU (pFz (vo [none] (vn (xu "Family" ["pieces","kept","words","left","laps"] 2 (pSl 0))) (fj 0) AZ (pCB Dt (cU (pSl 0) hG)))) hG))))))))))
def e9:RRl bT ip 3 2:=λ_ _ Q h=>Jq h λh=>CV h λd _ h=>gk h λh=>we rfl <| by
 walk_at "z";obtain⟨ws,hd,⟨hn,hp⟩,q⟩:=h;have hlm:(ws.map D.str).length=ws.length:=length_map _;have hkl:=jP ws;have hkm:((bh ws).map nD).length=(bh ws).length:=length_map _;have hrl:(vp 0 (((ws.map D.str).length:Nat):Int).toNat).length=ws.length:=by rw [lU];omega
 have hk1:ws.length<=1000/\∀w∈ws,w.length<=10000:=⟨by omega,λw hw=>by have:=(hp w hw).2.1;omega⟩
 have hk2:ws.length<=1000/\∀w∈ws,w.length<=60:=⟨by omega,λw hw=>(hp w hw).2.1⟩
 walk_at "r";refine⟨ws,hd,⟨hn,hp⟩,?_⟩;walk_at "r";refine Gi hd ?_;walk_at "r"
 refine cfm (λτ=>∃v,τ=[v,some (.ins "Family" ["pieces"] [.tup (ws.map .str)])]) (λj=>if dR ws j=true then some (nD j) else none) ?_ ?_ ?_
 .exact⟨_,rfl⟩
 .rintro j τ d hj ed ⟨v,rfl⟩ K1 K2 k1 k2;have hj2:j<ws.length:=by rw [lU] at hj;omega
  rw [pd hj] at ed;subst ed;walk_at "r";rw [toNat_natCast]
  cases hc:dR ws j with
  | true=>walk_at "r";exact k1 _ _ (by rw [if_pos hc];rfl) ⟨_,rfl⟩
  | false=>walk_at "r";exact k2 _ (by rw [if_neg (by rw [hc];decide)]) ⟨_,rfl⟩
 .rintro τ ⟨v,rfl⟩
  have e1:(c_ (vp 0 (((ws.map D.str).length:Nat):Int).toNat).length).filterMap (λj=>if dR ws j=true then some (nD j) else none)=(bh ws).map nD:=by
   rw [lU,hlm,toNat_natCast,dt (dR ws) nD];rfl
  rw [e1];walk_at "r"
  refine rL (λτ=>∃v,τ=[v,some (.ins "Family" ["pieces","kept"] [.tup (ws.map .str),.tup ((bh ws).map nD)])]) (λk=>.str (pw ws ((bh ws).getD k 0))) ?_ ?_ ?_
  .exact⟨_,rfl⟩
  .rintro j τ d hj ed ⟨v,rfl⟩ K1 k1;have hj2:(bh ws).getD j 0<ws.length:=jh (B_ (by rw [e_,cx (show j<(bh ws).length by omega)];rfl));rw [A8 hj] at ed;subst ed;walk_at "r";refine⟨_,iI hj2 rfl,?_⟩;walk_at "r";exact k1 _ ⟨_,rfl⟩
  .rintro τ ⟨v,rfl⟩
   have e2:(c_ ((bh ws).map nD).length).map (λk=>D.str (pw ws ((bh ws).getD k 0)))=(ap ws).map D.str:=by
    rw [hkm,iG (λj=>D.str (pw ws j)) (bh ws)];unfold ap;rw [map_map];rfl
   rw [e2];have hwl:=n0 ws;have hwm:((ap ws).map D.str).length=(ap ws).length:=length_map _;have hwp:=jQ hp;have hwq:(ap ws).length<=1000/\∀w∈ap ws,0<w.length/\w.length<=10000:=⟨by omega,λw hw=>⟨(hwp w hw).1,by have:=(hwp w hw).2.1;omega⟩⟩
   have hfl:((bh ws).map nD).all D.fl=true:=HK _;walk_at "r"
   refine cfm (λτ=>∃v,τ=[v,some (.ins "Family" ["pieces","kept","words"] [.tup (ws.map .str),.tup ((bh ws).map nD),.tup ((ap ws).map .str)])]) (λj=>if (!decide (j∈bh ws))=true then some (iL ws j) else none) ?_ ?_ ?_
   .exact⟨_,rfl⟩
   .rintro j τ d hj ed ⟨v,rfl⟩ K1 K2 k1 k2;have hj2:j<ws.length:=by omega
    rw [pd hj] at ed;subst ed;have hin:=xN j (bh ws);walk_at "r"
    refine sg (ul (λc=>?_) (λc=>?_))
    .have c:inD (.int (j:Int)) ((bh ws).map nD)=true:=c;rw [hin] at c;exact k2 _ (by rw [c];rfl) ⟨_,rfl⟩
    .have c:inD (.int (j:Int)) ((bh ws).map nD)=false:=c;rw [hin] at c;walk_at "r";rw [toNat_natCast];exact k1 _ _ (by rw [c];rfl) ⟨_,rfl⟩
   .rintro τ ⟨v,rfl⟩
    have e3:(c_ (vp 0 (((ws.map D.str).length:Nat):Int).toNat).length).filterMap (λj=>if (!decide (j∈bh ws))=true then some (iL ws j) else none)=(A7 ws).map (iL ws):=by
     rw [hrl,dt (λj=>!decide (j∈bh ws)) (iL ws)];rfl
    rw [e3];walk_at "r"
    refine rL (λτ=>∃v,τ=[v]) (λk=>.int ((pw (ap ws) k).length:Int)) ?_ ?_ ?_
    .exact⟨_,rfl⟩
    .rintro j τ d hj ed ⟨v,rfl⟩ K1 k1;rw [iH hj] at ed;subst ed;walk_at "r";exact k1 _ ⟨_,rfl⟩
    .rintro τ ⟨v,rfl⟩
     have e4:(c_ ((ap ws).map D.str).length).map (λk=>D.int ((pw (ap ws) k).length:Int))=((ap ws).map λw=>(w.length:Int)).map D.int:=by
      rw [hwm,map_map]
      conv=>rhs;rw [<- xP (ap ws),map_map]
      rfl
     rw [e4];walk_at "r";exact q
noncomputable def iq:PTS:=(zG (pCB Dt (cU (pFz (xu "Family" ["pieces","kept","words","left","laps","total"] 2 (pSl 0))) hG)))
def fb:PRl cr iq 1 1:=λ_ Q h=>Ia h λc ns fs _ h=>gk h λh=>we rfl <| by
 walk_at "z";obtain⟨rfl,rfl,ws,rfl,q⟩:=h;walk_at "r";rw [length_map];exact q
noncomputable def mB(K:b_)(mg:Str->Option Value)(t:TxC K):=(have TC:=t;show LS K [] _ _ from (aq (aA (ak aS (ah (aF CB (aa (ax 0) ac))) (ah (ak gg (ah (b8 (aa (bf 0) ac))) (ah (aF ur (aa (ah (ak gh (ah (aF aV (aa (ax 0) ac))) (bf 0))) ac)))))) (ck 2 rfl)) (aq (aA (aM (ix:=[none]) rfl (bv (cm 2)) (λfs hc=>(aO 0 (fm hc (by decide)))) bF (ak gg (ax 0) (ah (aF ur (aa (ah (ak qC (ax 0) (ah (ak lF (bf 10) (bf 18))))) ac))))) (ck 3 rfl)) (aq (aA (b8 ac) (ck 4 rfl)) (aq (bZ (ee (aa (bR 1) ac)) (aO 5 rfl) (aq (aA (ak bY (ax 5) (ah (aF aV (aa (ax 2) ac)))) (ck 6 rfl)) (aq (aA (ak aS (ah (ak gg (ah (ak bY (ah (ak aS (ah (ak aS (ah (ak aU (ax 2) (ax 6))) (ah (ak gg (ah (ak gg (ax 5) (ax 5))) (bf 16807))))) (ah (ak gg (bf 3) (ax 5))))) (bf 2147483629))) (ah (ak aU (ah (b8 (aa (bf 48271) (aa (bf 69621) (aa (bf 39373) (aa (bf 16807) ac)))))) (ah (ak bY (ax 5) (bf 4))))))) (bf 7)) (ck 7 rfl)) (aq (dP (kg (i:=4) (ak aU (ah (b8 (aa (ah (ak bY (ah (ak gg (ax 7) (ax 7))) (bf 2147483629))) (aa (ah (ak bY (ah (ak aU (ax 3) (ax 6))) (ah (ak lF (bf 10) (bf 18))))) ac)))) (ah (aF ur (aa (ah (ak dQ (ah (ak aU (ax 3) (ax 6))) (bf 0))) ac)))))) (xq (i:=3) (ak Ac (ah (ak aU (ax 3) (ax 6))) (ah (ak lF (bf 10) (bf 18)))) (cm 6)))))) (aJ (vt (ax 4))))))))
def sY:PTS:=psO mB
def sZ:PRl iT sY 8 2:=λ_ Q h=>Jp h λns _ h=>pZ h λmo _ h=>gk h λh=>we rfl <| by
 walk_at "z";obtain⟨⟨hn,h0,h1⟩,q⟩:=h;have hnm:(ns.map D.int).length=ns.length:=length_map _;walk_at "r"
 obtain⟨cs,hcs,hc0,hc1⟩:∃cs:List Int,ns.map D.int++t9 [D.int 0] (if decide ((ns.length:Int)=0)=true then 1 else 0)=cs.map D.int/\0<cs.length/\cs.length<=65:=by
  by_cases e:ns.length=0
  .refine⟨[0],?_,by decide,by decide⟩;rw [if_pos (decide_eq_true (by omega)),JQ.mp e];rfl
  .refine⟨ns,?_,by omega,by omega⟩;rw [if_neg (λz=>e (by have:=of_decide_eq_true z;omega))];exact JY _
 have hcm:(cs.map D.int).length=cs.length:=length_map _;rw [<- length_append,hcs,hcm];refine⟨by omega,?_⟩;walk_at "r"
 refine cm1 (λc:Int=>.int (c*(if decide (c >= 10^18)=true then 1 else 0))) (λc hc v K1 k1=>?_) (λv=>?_)
 .walk_at "r";exact k1 _
 .walk_at "r";have e3:cs.map (λc=>D.int (c*if decide (c >= 10^18)=true then 1 else 0))=(cs.map λc=>c*if decide (c >= 10^18)=true then 1 else 0).map D.int:=by rw [map_map];rfl
  rw [e3];generalize hrs:(cs.map λc=>c*if decide (c >= 10^18)=true then 1 else 0)=rs;have hrl:rs.length=cs.length:=by rw [<- hrs,length_map]
  clear hrs e3
  refine⟨λk ρ=>∃(rs zs:List Int) (v5 v6 v7:Option PV),rs.length=cs.length/\Dk zs/\zs.length=k/\ρ=[some (.dat (.scr ns)),some (.dat (.int mo)),some (.dat (.lst (cs.map .int))),some (.own (rs.map .int)),some (.own (zs.map .int)),v5,v6,v7],⟨rs,[],_,_,_,hrl,(λx hx=>nomatch hx),rfl,rfl⟩,?_,?_⟩
  .rintro k ρ _ hk rfl ⟨rs,zs,v5,v6,v7,hrl,hz,hzl,rfl⟩;have hk:k<mo.toNat:=hk;have hrm:(rs.map D.int).length=rs.length:=length_map _;have hzm:(zs.map D.int).length=zs.length:=length_map _;obtain⟨j,hj⟩:∃j:Nat,(k:Int) % (cs.length:Int)=(j:Int):=⟨((k:Int) % (cs.length:Int)).toNat,by have:=Kv (k:Int) (show (cs.length:Int)≠0 by omega);omega⟩
   have hj2:j<cs.length:=by have:=Ki (k:Int) (show 0<(cs.length:Int) by omega);omega
   obtain⟨i,hi,hi2⟩:∃i:Nat,(k:Int) % 4=(i:Int)/\i<4:=⟨((k:Int) % 4).toNat,by omega,by omega⟩
   obtain⟨f,ef,hf0,hf1⟩:∃f:Int,atI ([.int 48271,.int 69621,.int 39373,.int 16807]:List D) (i:Int)=some (.int f)/\0<=f/\f<=69621:=by
    rcases i with _|_|_|_|i
    .exact⟨_,rfl,by decide,by decide⟩
    .exact⟨_,rfl,by decide,by decide⟩
    .exact⟨_,rfl,by decide,by decide⟩
    .exact⟨_,rfl,by decide,by decide⟩
    .omega
   have ec:atI (cs.map D.int) (j:Int)=some (.int cs[j]):=dL (j:=j) (by rw [gV,cx hj2];rfl) rfl;have er:atI (rs.map D.int) (j:Int)=some (.int (rs[j]'(by omega))):=dL (j:=j) (by rw [gV,cx (by omega)];rfl) rfl;generalize rs[j]'(by omega)=r at er;walk_at "r";rw [hcm,hj];walk_at "r";refine⟨_,ec,?_⟩;walk_at "r";rw [hi];refine⟨_,ef,?_⟩;have hb:∀a:Int,0<=a % 2147483629*f+7/\a % 2147483629*f+7<=2147483629*69621+7:=λa=>⟨by have:=mul_nonneg (Kv a (show (2147483629:Int)≠0 by decide)) hf0;omega,by have:=Int.mul_le_mul (Nh (Ki a (show (0:Int)<2147483629 by decide))) hf1 hf0 (by decide);omega⟩
   have hb:=hb (cs[j]+(k:Int)*(k:Int)*16807+3*(k:Int));have p18:(0:Int)<10^Kg 18:=by decide
   have p18b:(10:Int)^Kg 18<18446744073709551616:=by decide
   have q18:((10:Int)^Kg 18)=1000000000000000000:=by decide
   walk_at "r";generalize (cs[j]+(k:Int)*(k:Int)*16807+3*(k:Int)) % 2147483629*f+7=x at hb;refine⟨_,er,?_⟩;walk_at "r";refine⟨_,er,?_⟩;walk_at "r"
   have fin:∀z:Int,0<=z->z<1000000000000000000->∃(rs' zs':List Int) (v5 v6 v7:Option PV),rs'.length=cs.length/\Dk zs'/\zs'.length=k+1/\[some (.dat (.scr ns)),some (.dat (.int mo)),some (.dat (.lst (cs.map .int))),some (.own ((rs.map D.int).set j (.int (r / 10^Kg 18)))),some (.own (zs.map D.int++[.int z])),some (.dat (.int (k:Int))),some (.dat (.int (j:Int))),some (.dat (.int x))]=[some (PV.dat (.scr ns)),some (.dat (.int mo)),some (.dat (.lst (cs.map .int))),some (.own (rs'.map .int)),some (.own (zs'.map .int)),v5,v6,v7]:=λz hz0 hz1=>by
    refine⟨rs.set j (r / 10^Kg 18),zs++[z],_,_,_,by rw [JE];exact hrl,λy hy=>?_,by rw [length_append,hzl];rfl,by rw [map_set,map_append];rfl⟩
    rcases Jw.mp hy with w|w
    .exact hz y w
    .rw [r_.mp w];exact⟨hz0,hz1⟩
   obtain⟨z,ez,hz0,hz1⟩:∃z:Int,atI ([.int (x*x % 2147483629),.int (r % 10^Kg 18)]:List D) (if (!decide (r=0))=true then 1 else 0)=some (.int z)/\0<=z/\z<1000000000000000000:=by
    by_cases e:r=0
    .rw [decide_eq_true e];exact⟨x*x % 2147483629,rfl,Kv _ (by decide),Int.lt_trans (Ki _ (by decide)) (by decide)⟩
    .rw [decide_eq_false e];exact⟨r % 10^Kg 18,rfl,Kv _ (by decide),Int.lt_of_lt_of_le (Ki _ p18) (by rw [q18];decide)⟩
   refine⟨_,ez,?_⟩;walk_at "r";refine⟨_,er,?_⟩;walk_at "r";refine⟨j,?_,fin z hz0 hz1⟩;rw [hrm,hrl];exact Dw hj2
  .rintro ρ ⟨rs,zs,v5,v6,v7,hrl,hz,hzl,rfl⟩;walk_at "r";rw [<- map_reverse];exact q _ (λx hx=>hz x (mem_reverse.mp hx)) (by rw [M4];exact hzl)
noncomputable def mC(K:b_)(mg:Str->Option Value)(t:TxC K):=(have TC:=t;show LS K [0] _ _ from (aJ (EW (i:=0))))
def tm:PTS:=psO mC
def tq:RRl aW tm 1 1:=λ_ _ Q h=>GJ h λds h=>gk h λh=>we rfl <| by
 walk_at "z";obtain⟨zs,rfl,⟨hz,h0,h1⟩,q⟩:=h;obtain⟨ys,z,rfl⟩:∃ys z,zs=ys++[z]:=⟨zs.dropLast,zs.getLast (ne_nil_of_length_pos h0),(dropLast_concat_getLast _).symm⟩
 have hm:((ys++[z]).map D.int)=ys.map D.int++[D.int z]:=by rw [map_append];rfl
 have hl:(ys.map D.int++[D.int z]).length - 1=(ys.map D.int).length:=by rw [length_append];rfl
 rw [hm];walk_at "r";refine⟨.int z,by rw [hl,Kj (f_ _),sub_self];rfl,?_⟩;walk_at "r";rw [dropLast_concat];have hzz:=hz z (oe _ (r_.mpr rfl));exact q z ys hzz.1 hzz.2 (λx hx=>hz x (FX _ hx)) (by rw [length_append];rfl)
noncomputable def mD(K:b_)(mg:Str->Option Value)(t:TxC K):=(have TC:=t;show LS K [] _ _ from (aq (bZ (ee (aa (bR 2) ac)) (aO 3 rfl) (cM (fi (ak dQ (ah (ak aU (ax 0) (ah (ak aS (ah (ak eA (ah (aF aV (aa (ax 0) ac))) (ax 2))) (ax 3))))) (ah (ak aU (ax 1) (ax 3))))) (aJ (hU (i:=false))) aY)) (aJ (hU (i:=true)))))
def tu:PTS:=psO mD
def tw:PRl iU tu 4 3:=λ_ Q h=>yf h λa _ h=>yf h λb _ h=>pZ h λk _ h=>gk h λh=>we rfl <| by
 walk_at "z";obtain⟨n,rfl,⟨⟨ha,ha1⟩,hb,hb1⟩,q⟩:=h;walk_at "r";rw [toNat_natCast]
 refine⟨λi ρ=>(∃v3:Option PV,ρ=[some (.dat (.str a)),some (.dat (.str b)),some (.dat (.int (n:Int))),v3])/\∀j,j<i->a.getD (a.length - n+j) 0=b.getD j 0,⟨⟨_,rfl⟩,λj hj=>absurd hj (Ke _)⟩,?_,?_⟩
 .rintro i ρ _ hi rfl ⟨⟨v3,rfl⟩,ih⟩;have h1:a.length - n+i<a.length:=by omega
  have h2:i<b.length:=by omega
  walk_at "r";refine⟨_,dL (j:=a.length - n+i) (cx h1) (by omega),?_⟩;walk_at "r";refine⟨_,dL (j:=i) (cx h2) rfl,?_⟩;walk_at "r";have g1:a.getD (a.length - n+i) 0=a[a.length - n+i]:=by rw [e_,cx h1];rfl
  have g2:b.getD i 0=b[i]:=by rw [e_,cx h2];rfl
  refine lD (λc=>?_) (λc=>?_)
  .walk_at "r";rw [decide_eq_false (λz=>c (by rw [<- g1,<- g2,(yx ha hb).mp z i hi]))] at q;exact q
  .refine⟨⟨_,rfl⟩,λj hj=>?_⟩
   by_cases e:j<i
   .exact ih j e
   .rw [show j=i by omega,g1,g2];exact singleton_inj.mp c
 .rintro ρ ⟨⟨v3,rfl⟩,ih⟩;walk_at "r";rw [decide_eq_true ((yx ha hb).mpr ih)] at q;exact q
noncomputable def oj(K:b_)(mg:Str->Option Value)(t:TxC K):=(have TC:=t;show LS K [] _ _ from (aq (bZ (Hy (aa (ah (aF xr (aa (ah (aF aV (aa (ax 0) ac))) (aa (ah (aF aV (aa (ax 1) ac))) ac)))) ac)) (aO 2 rfl) (cM (rK (ay (c:=iU) (aa (bR 0) (aa (bR 1) (aa (bR 2) ac))))) (aJ (cm 2)) aY)) (aJ (Bq 0))))
def vO:PTS:=psO oj
def vP:PRl fB vO 3 2:=λ_ Q h=>yf h λa _ h=>yf h λb _ h=>gk h λh=>we rfl <| by
 walk_at "z";obtain⟨⟨a0,a1⟩,⟨b0,b1⟩,q⟩:=h;have hm:(if (b.length:Int)<(a.length:Int) then (b.length:Int) else (a.length:Int))=((min a.length b.length:Nat):Int):=by split <;> omega
 walk_at "r";rw [hm,toNat_natCast]
 refine⟨λi ρ=>(∃v2:Option PV,ρ=[some (.dat (.str a)),some (.dat (.str b)),v2])/\∀j,min a.length b.length - i<=j->j<min a.length b.length->¬ b.take j <:+ a,⟨⟨_,rfl⟩,λj h1 h2=>by omega⟩,?_,?_⟩
 .rintro i ρ d hi ed ⟨⟨v2,rfl⟩,ih⟩;obtain⟨k,hk,hk2⟩:∃k:Nat,(((min a.length b.length:Nat):Int) - 1) - (i:Int)=(k:Int)/\k=min a.length b.length - 1 - i:=⟨min a.length b.length - 1 - i,by omega,rfl⟩
  rw [hk] at ed;subst ed;have gf:(k<=a.length/\a.length<=10000)/\k<=b.length/\b.length<=10000:=⟨⟨by omega,a1⟩,by omega,b1⟩
  walk_at "r"
  refine iF (λc=>?_) (λc=>?_)
  .walk_at "r"
   rw [show eC a b=k from sy ⟨by omega,c,λj h1 h2=>by
    rcases lt_or_ge k j with h|h
    .exact absurd h2 (ih j (by omega) h1)
    .exact h⟩] at q
   exact q
  .refine⟨⟨_,rfl⟩,λj h1 h2=>?_⟩
   by_cases hj:j=k
   .rw [hj];exact c
   .exact ih j (by omega) h2
 .rintro ρ ⟨⟨v2,rfl⟩,ih⟩;exact absurd (show b.take 0 <:+ a by rw [take_zero];exact nil_suffix) (ih 0 (by omega) (by omega))
noncomputable def mE(K:b_)(mg:Str->Option Value)(t:TxC K):=(have TC:=t;show LS K [] _ _ from (aq (aA (b8 ac) (ck 1 rfl)) (aq (bZ (ee (aa (ah (aF aV (aa (ax 0) ac))) ac)) (aO 2 rfl) (aq (aA (aM (ix:=[none,some 0,some 2]) rfl (bv (cm 0)) (λfs hc=>(aO 0 (fm hc (by decide)))) (nX (fi (ak vm (ah (aF aV (aa (ax 0) ac))) (ah (aF aV (aa (ah (ak aU (ax 1) (ax 2))) ac))))) (fi (ak (qL (neg:=false)) (ah (ak aU (ax 1) (ax 2))) (ax 0)))) (cm 0)) (ck 3 rfl)) (cM (nX (fi (ak gh (ax 3) (ah (b8 ac)))) (fi (ak (qL (neg:=true)) (ah (ak aU (ax 0) (ax 2))) (ah (cV (ax 0) fM (bN (cm 2))))))) (dP (kg (i:=1) (ak aU (ax 0) (ax 2)))) aY))) (aJ (cm 1)))))
def tz:PTS:=psO mE
def tD:PRl iV tz 4 1:=λ_ Q h=>vD h λds _ h=>gk h λh=>we rfl <| by
 walk_at "z";obtain⟨ps,rfl,⟨hn,hw⟩,q⟩:=h;have hlm:(ps.map D.str).length=ps.length:=length_map _;walk_at "r";rw [toNat_natCast,hlm]
 refine⟨λk ρ=>∃v2 v3:Option PV,ρ=[some (.dat (.lst (ps.map .str))),some (.own ((((c_ k).filter (dR ps)).map (pw ps)).map .str)),v2,v3],⟨_,_,rfl⟩,?_,?_⟩
 .rintro k ρ _ hk rfl ⟨v2,v3,rfl⟩;have hpm:=gB hk;obtain⟨hpl,hpL⟩:=hw _ hpm;have hat:atI (ps.map D.str) (k:Int)=some (.str (pw ps k)):=iI hk rfl
  have hml:((((c_ k).filter (dR ps)).map (pw ps)).map D.str).length<=40:=by
   rw [length_map,length_map];refine F_ (JR ..) ?_;rw [length_range];omega
  walk_at "r"
  refine cf1 (λo=>decide ((pw ps k).length<o.length) && gq (pw ps k) o) (λo=>.str o) (λo ho v K1 K2 k1 k2=>?_) (λv=>?_)
  .walk_at "r";refine⟨_,hat,?_⟩;walk_at "r"
   refine iF (λc=>?_) (λc=>?_)
   .walk_at "r";refine⟨_,hat,?_⟩;walk_at "r"
    cases hs:gq (pw ps k) o with
    | true=>exact k1 _ (by rw [decide_eq_true (by omega:(pw ps k).length<o.length)];exact hs)
    | false=>exact k2 _ (by rw [hs,M8])
   .exact k2 _ (by rw [decide_eq_false (by omega:¬ (pw ps k).length<o.length),L_])
  .have c1:eM (ps.map D.str) none (some (k:Int))=(ps.take k).map D.str:=by rw [jF,map_take]
   have hfl:(eM (ps.map D.str) none (some (k:Int))).all D.fl=true:=by rw [c1];exact xO _
   have hin:inD (.str (pw ps k)) (eM (ps.map D.str) none (some (k:Int)))=decide (pw ps k∈ps.take k):=by rw [c1];exact o9 _ _
   have eF:=sO (ws:=ps.filter λo=>decide ((pw ps k).length<o.length) && gq (pw ps k) o) λw h=>(hw w (JC.mp h).1).2;have eD:=qY (ps.filter λo=>decide ((pw ps k).length<o.length) && gq (pw ps k) o);have hkb:=Di (ps:=ps) (k:=k)
   have hrs:((c_ (k+1)).filter (dR ps)).map (pw ps)=((c_ k).filter (dR ps)).map (pw ps)++(if dR ps k=true then [pw ps k] else []):=by
    rw [KP,filter_append,map_append];congr 1;rw [filter_cons];split <;> rfl
   rw [hrs];generalize ((c_ k).filter (dR ps)).map (pw ps)=ks at hml ⊢;have hk1:(ks.map D.str).length<=40:=hml;walk_at "r";rw [eD]
   refine iF (λc=>?_) (λc=>?_)
   .walk_at "r";refine⟨_,hat,?_⟩;walk_at "r";rw [hin]
    refine sg (ul (λc2=>?_) (λc2=>?_))
    .walk_at "r";have e:dR ps k=false:=by rw [hkb,c2,Bool.not_true,M8]
     exact⟨_,_,by rw [e,if_neg (by decide),JY]⟩
    .walk_at "r";refine⟨_,hat,?_⟩;walk_at "r";have e:dR ps k=true:=by rw [hkb,c2,decide_eq_true c];rfl
     exact⟨_,_,by rw [e,if_pos rfl,map_append];rfl⟩
   .walk_at "r";have e:dR ps k=false:=by rw [hkb,decide_eq_false c,L_]
    exact⟨_,_,by rw [e,if_neg (by decide),JY]⟩
 .rintro ρ ⟨v2,v3,rfl⟩;walk_at "r";exact q
noncomputable def ir(K:b_)(mg:Str->Option Value)(t:TxC K):=(have TC:=t;show LS K [] _ _ from (aq (aA (le_str (l:=[])) (ck 2 rfl)) (aq (o0 (nX (fi (ak vm (ax 0) (bf 0))) (fi (ak xk (ah (aF aV (aa (ax 2) ac))) (bf 9)))) (aq (aA (ak aS (ax 2) (ah (ak aU (ax 1) (ah (ak bY (ax 0) (ah (aF aV (aa (ax 1) ac)))))))) (ck 2 rfl)) (aA (ak gz (ax 0) (ah (aF aV (aa (ax 1) ac)))) (ck 0 rfl)))) (aJ (cm 2)))))
def nC:PTS:=psO ir
def nE:PRl bU nC 3 2:=λ_ Q h=>pZ h λz _ h=>yf h λls _ h=>gk h λh=>we rfl <| by
 walk_at "z";obtain⟨⟨hz,hl0,hl1⟩,q⟩:=h;walk_at "r";refine⟨λm ρ=>∃(w:List Nat) (r:Int),w.length<=9/\(∀c∈w,c∈ls)/\0<=r/\((0<w.length\/r=z)/\z<(r+1)*(ls.length:Int)^w.length)/\m=9 - w.length/\ρ=[some (.dat (.int r)),some (.dat (.str ls)),some (.dat (.str w))],⟨_,[],z,by decide,(λc hc=>nomatch hc),hz,⟨.inr rfl,by show z<(z+1)*1;omega⟩,rfl,rfl⟩,?_⟩;rintro m ρ ⟨w,r,hw,hc,hr,⟨hp,hz2⟩,hm,rfl⟩;walk_at "r"
 refine iF (λc1=>?_) (λc1=>?_)
 .walk_at "r"
  refine iF (λc2=>?_) (λc2=>?_)
  .obtain⟨j,hj⟩:∃j:Nat,r % (ls.length:Int)=(j:Int):=⟨(r % (ls.length:Int)).toNat,by have:=Kv r (show (ls.length:Int)≠0 by omega);omega⟩
   have hj2:j<ls.length:=by have:=Ki r (show 0<(ls.length:Int) by omega);omega
   have hdv:0<=r / (ls.length:Int):=ediv_nonneg hr (by omega);walk_at "r";rw [hj];refine⟨_,dL (j:=j) (cx hj2) rfl,?_⟩;walk_at "r"
   refine⟨_,?_,w++[ls[j]],r / (ls.length:Int),?_,λc hx=>?_,hdv,⟨.inl ?_,?_⟩,rfl,rfl⟩
   .rw [length_append];show 9 - (w.length+1)<m;omega
   .rw [length_append];show w.length+1<=9;omega
   .rcases Jw.mp hx with x|x
    .exact hc c x
    .rw [r_.mp x];exact Ku hj2
   .rw [length_append];exact succ_pos _
   .rw [length_append];show z<(r / (ls.length:Int)+1)*(ls.length:Int)^(w.length+1);rw [Int.pow_succ,Int.mul_comm ((ls.length:Int)^w.length),<- mul_assoc];have h1:=lt_ediv_add_one_mul_self r (show (0:Int)<ls.length by omega);exact Int.lt_of_lt_of_le hz2 (mul_le_mul_of_nonneg_right (by omega) (Nh (pow_pos (by omega))))
  .walk_at "r";exact q w hw hc (λa=>by omega) (λ_ _=>by omega)
 .walk_at "r";exact q w hw hc (λa=>by omega) (λa b=>Dj hw a b (by rw [show r=0 by omega] at hz2;omega))
noncomputable def kr(K:b_)(mg:Str->Option Value)(t:TxC K):=(have TC:=t;show LS K [0] _ _ from (aq (aA (ak aU (ah (b8 (aa (ah (le_str (l:=[97,98]))) (aa (ah (le_str (l:=[97,98]))) (aa (ah (le_str (l:=[97,98,99]))) (aa (ah (le_str (l:=[120,121,122,97,98]))) ac)))))) (ah (ak bY (ah (bO (c:=aW) (i:=0) ac)) (bf 4)))) (ck 2 rfl)) (aq (aA (ay (c:=bU) (aa (ah (ak aS (ah (bO (c:=aW) (i:=0) ac)) (ah (ak lF (bf 10) (bf 9))))) (aa (bR 2) ac))) (ck 3 rfl)) (aq (aA (ak aS (ax 3) (ah (ay (c:=bU) (aa (ah (ak aS (ah (bO (c:=aW) (i:=0) ac)) (ah (ak lF (bf 10) (bf 9))))) (aa (bR 2) ac))))) (ck 3 rfl)) (aq (aA (b8 ac) (ck 4 rfl)) (aq (bZ (ee (aa (ah (ak aS (bf 1) (ah (ak bY (ah (bO (c:=aW) (i:=0) ac)) (ax 1))))) ac)) (aO 5 rfl) (aq (aA (bO (c:=aW) (i:=0) ac) (ck 6 rfl)) (aq (aA (ak bY (ax 6) (bf 12)) (ck 7 rfl)) (aq (aA (cV (ax 3) (bN (cm 7)) (bN (ak aS (ah (ak aS (ax 7) (bf 1))) (ah (ak bY (ah (ak gz (ax 6) (bf 12))) (bf 7)))))) (ck 8 rfl)) (aq (lI (cM (fi (ak gh (ah (ak bY (ah (ak gz (ax 6) (bf 84))) (bf 5))) (bf 0))) (aA (ay (c:=bU) (aa (ah (ak aS (ah (ak bY (ah (ak gz (ax 6) (bf 420))) (ah (ak lF (bf 10) (bf 4))))) (bf 1))) (aa (bR 2) ac))) (ck 8 rfl)) aY)) (aq (lI (cM (fi (ak gh (ah (ak bY (ah (ak gz (ax 6) (bf 84))) (bf 5))) (bf 1))) (aA (cV (ah (ak gg (ah (cV (ax 3) (bN (cm 7)) (bN (ak aS (ah (ak aS (ax 7) (bf 1))) (ah (ak bY (ah (ak gz (ax 6) (bf 12))) (bf 3))))))) (bf 9))) fM (bN (ak aS (bf 2) (ah (ak bY (ah (ak gz (ax 6) (bf 36))) (bf 8)))))) (ck 8 rfl)) aY)) (aq (lI (cM (fi (ak gh (ah (ak bY (ah (ak gz (ax 6) (bf 84))) (bf 15))) (bf 2))) (aA (cV (ah (ak gg (ah (cV (ax 3) (bN (cm 7)) (bN (ak aS (ax 7) (bf 2))))) (bf 30))) fM (bN (Bq 60))) (ck 8 rfl)) aY)) (dP (kg (i:=4) (cV (ah (ak aS (ax 8) (ah (le_str (l:=[97]))))) fM (bN (aF xt (aa (bf 1) (aa (ah (aF aV (aa (ax 8) ac))) ac)))))))))))))) (aJ (cm 4))))))))
def rq:PTS:=psO kr
def rz:RRl gK rq 9 2:=λ_ _ Q h=>GJ h λds h=>pZ h λm _ h=>gk h λh=>we rfl <| by
 walk_at "z";obtain⟨zs,rfl,⟨hz,h0,h1,hm0,hm1⟩,q⟩:=h;have g0:Dk zs/\0<zs.length/\zs.length<=100000:=⟨hz,by omega,by omega⟩
 walk_at "r";rintro z1 y1 hz10 hz11 hd1 hy1;obtain⟨ls,hls,ll0,ll1,lL⟩:=vL z1;have g1:Dk y1/\0<y1.length/\y1.length<=100000:=⟨hd1,by omega,by omega⟩
 walk_at "r";refine⟨_,hls,?_⟩;walk_at "r";rintro z2 y2 hz20 hz21 hd2 hy2;have g2:Dk y2/\0<y2.length/\y2.length<=100000:=⟨hd2,by omega,by omega⟩
 have s2:0<=z2+10^Kg 9/\0<ls.length/\ls.length<=26:=⟨by show 0<=z2+1000000000;omega,ll0,ll1⟩
 walk_at "r";rintro w1 hw1 hc1 _ _;walk_at "r";rintro z3 y3 hz30 hz31 hd3 hy3;have g3:Dk y3/\0<y3.length/\y3.length<=100000:=⟨hd3,by omega,by omega⟩
 have s3:0<=z3+10^Kg 9/\0<ls.length/\ls.length<=26:=⟨by show 0<=z3+1000000000;omega,ll0,ll1⟩
 walk_at "r";rintro w2 hw2 hc2 _ _;have tL:Lts (w1++w2):=(g8 hc1 lL).app (g8 hc2 lL);have tl:(w1++w2).length<=18:=by rw [length_append];omega
 walk_at "r";generalize w1++w2=t at tL tl ⊢;rintro z4 y4 hz40 hz41 hd4 hy4;have bm0:=Kv z4 (show m≠0 by omega);have bm1:=Ki z4 (show 0<m by omega);walk_at "r";obtain⟨N,hN,hN1⟩:∃N:Nat,(1+z4 % m).toNat=N/\1<=N/\(N:Int)<=m:=⟨(1+z4 % m).toNat,rfl,by have:=Kv z4 (show m≠0 by omega);have:=Ki z4 (show 0<m by omega);omega⟩
 rw [hN]
 refine⟨λk ρ=>∃(ps:List (List Nat)) (ys:List Int) (v5 v6 v7 v8:Option PV),ps.length=k/\Pcs 60 ps/\Dk ys/\ys.length+k=y4.length/\ρ=[some (.own (ys.map .int)),some (.dat (.int m)),some (.dat (.str ls)),some (.dat (.str t)),some (.own (ps.map .str)),v5,v6,v7,v8],⟨[],y4,_,_,_,_,rfl,(λw hw=>nomatch hw),hd4,rfl,rfl⟩,?_,?_⟩
 .rintro k ρ _ hk rfl ⟨ps,ys,v5,v6,v7,v8,hpl,hps,hdy,hyl,rfl⟩;have g5:Dk ys/\0<ys.length/\ys.length<=100000:=⟨hdy,by omega,by omega⟩
  have hpm:(ps.map D.str).length=ps.length:=length_map _;walk_at "r";rintro x y5 hx0 hx1 hd5 hy5;have ca:=dh t (some (x % 12)) (some (x % 12+1+x / 12 % 7));have cL:Lts (eM t (some (x % 12)) (some (x % 12+1+x / 12 % 7))):=tL.cut _ _;walk_at "r"
  refine⟨λρ=>∃(p:List Nat),Lts p/\p.length<=60/\ρ=[some (.own (y5.map .int)),some (.dat (.int m)),some (.dat (.str ls)),some (.dat (.str t)),some (.own (ps.map .str)),some (.dat (.int (k:Int))),some (.dat (.int x)),some (.dat (.int (x % 12))),some (.dat (.str p))],?_,?_⟩
  .walk_at "r"
   refine iF (λc=>?_) (λc=>?_)
   .have s5:0<=x / 420 % 10^Kg 4+1/\0<ls.length/\ls.length<=26:=⟨by show 0<=x / 420 % 10000+1;omega,ll0,ll1⟩
    walk_at "r";rintro w hw hc _ _;exact⟨w,g8 hc lL,by omega,rfl⟩
   .exact⟨_,cL,by omega,rfl⟩
  .rintro ρ ⟨p,pL,pl,rfl⟩;walk_at "r"
   refine⟨λρ=>∃(p:List Nat),Lts p/\p.length<=60/\ρ=[some (.own (y5.map .int)),some (.dat (.int m)),some (.dat (.str ls)),some (.dat (.str t)),some (.own (ps.map .str)),some (.dat (.int (k:Int))),some (.dat (.int x)),some (.dat (.int (x % 12))),some (.dat (.str p))],?_,?_⟩
   .walk_at "r"
    refine iF (λc=>?_) (λc=>?_)
    .have cb:=dh t (some (x % 12)) (some (x % 12+1+x / 12 % 3));have cbL:Lts (eM t (some (x % 12)) (some (x % 12+1+x / 12 % 3))):=tL.cut _ _;have w2:(-1000000:Int)<=9/\(9:Int)<=1000000/\Kg 9*(eM t (some (x % 12)) (some (x % 12+1+x / 12 % 3))).length<=1000000:=⟨by decide,by decide,by show 9*_<=_;omega⟩
     walk_at "r";refine⟨_,(cbL.rep 9).cut _ _,?_,rfl⟩;obtain⟨e,he,he1⟩:∃e:Nat,2+x / 36 % 8=(e:Int)/\e<=9:=⟨(2+x / 36 % 8).toNat,by omega,by omega⟩
     rw [he,jF,length_take];omega
    .exact⟨p,pL,pl,rfl⟩
   .rintro ρ ⟨p,pL,pl,rfl⟩;walk_at "r"
    refine⟨λρ=>∃(p:List Nat),Lts p/\p.length<=60/\ρ=[some (.own (y5.map .int)),some (.dat (.int m)),some (.dat (.str ls)),some (.dat (.str t)),some (.own (ps.map .str)),some (.dat (.int (k:Int))),some (.dat (.int x)),some (.dat (.int (x % 12))),some (.dat (.str p))],?_,?_⟩
    .walk_at "r"
     refine iF (λc=>?_) (λc=>?_)
     .have cb:=dh t (some (x % 12)) (some (x % 12+2));have cbL:Lts (eM t (some (x % 12)) (some (x % 12+2))):=tL.cut _ _;have w2:(-1000000:Int)<=30/\(30:Int)<=1000000/\Kg 30*(eM t (some (x % 12)) (some (x % 12+2))).length<=1000000:=⟨by decide,by decide,by show 30*_<=_;omega⟩
      walk_at "r";refine⟨_,(cbL.rep 30).cut _ _,?_,rfl⟩;rw [show (60:Int)=((60:Nat):Int) from rfl,jF,length_take];omega
     .exact⟨p,pL,pl,rfl⟩
    .rintro ρ ⟨p,pL,pl,rfl⟩;have hpc:=AC pL pl;have la:[97].length=1:=rfl;walk_at "r";refine⟨ps++[_],y5,_,_,_,_,by rw [length_append,hpl];rfl,λw hw=>?_,hd5,by omega,by rw [map_append];rfl⟩
     rcases Jw.mp hw with h|h
     .exact hps w h
     .rw [r_.mp h];exact hpc
 .rintro ρ ⟨ps,ys,v5,v6,v7,v8,hpl,hps,hdy,hyl,rfl⟩;walk_at "r";exact q ps ys (by omega) (by omega) hps hdy (by omega) (by omega)
noncomputable def ku(K:b_)(mg:Str->Option Value)(t:TxC K):=(have TC:=t;show LS K [] _ _ from (aJ (gy (lG .int (ax 0)) (xj (lG .bool (ax 0))))))
def rA:PTS:=psO ku
def rB:PRl eG rA 1 1:=λ_ Q h=>pZ h λz _ h=>gk h λh=>we rfl <| by
 walk_at "z";walk_at "r";exact h
noncomputable def oq(K:b_)(mg:Str->Option Value)(t:TxC K):=(have TC:=t;show LS K [] _ _ from (aq (aA (b8 (aa (ah (b8 ac)) ac)) (ck 1 rfl)) (aq (bZ (ee (aa (bR 0) ac)) (aO 2 rfl) (aq (aA (b8 ac) (ck 3 rfl)) (aq (bZ (bv (cm 1)) (aO 4 rfl) (bZ (ee (aa (bR 0) ac)) (aO 5 rfl) (cM (fi (ak (qL (neg:=true)) (ax 5) (ax 4))) (dP (kg (i:=3) (ak aS (ax 4) (ah (b8 (aa (bR 5) ac)))))) aY))) (aA (cm 3) (ck 1 rfl))))) (aJ (cm 1)))))
def vQ:PTS:=psO oq
def vR:PRl j7 vQ 6 1:=λ_ Q h=>pZ h λm _ h=>gk h λh=>we rfl <| by
 walk_at "z";obtain⟨n,rfl,hn,q⟩:=h;walk_at "r";rw [toNat_natCast]
 refine⟨λk ρ=>∃(L:List (List Nat)) (w:PV) (v2 v3 v4 v5:Option PV),(∀o,o∈L ↔ rM n k o)/\L.length<=n^k/\(w=.own (L.map λo=>.lst (o.map nD))\/w=.dat (.lst (L.map λo=>.lst (o.map nD))))/\ρ=[some (.dat (.int (n:Int))),some w,v2,v3,v4,v5],⟨[[]],_,_,_,_,_,(λo=>⟨λho=>(by rw [r_.mp ho];exact⟨rfl,nodup_nil,λx hx=>(nomatch hx)⟩),λho=>(by rw [JQ.mp ho.len];exact r_.mpr rfl)⟩),f_ _,.inl rfl,rfl⟩,?_,?_⟩
 .rintro k ρ _ hk rfl ⟨L,w,v2,v3,v4,v5,hL,hl,hw,rfl⟩
  have hp:n^k*n<=3125:=by
   have h1:n^(k+1)<=5^(k+1):=MS hn _;have h2:5^(k+1)<=5^5:=MA (by decide) (by omega);rw [Nat.pow_succ] at h1;exact F_ h1 h2
  rcases hw with rfl|rfl <;> (
   walk_at "r";have hLm:(L.map λo=>D.lst (o.map nD)).length=L.length:=length_map _
   refine⟨λi ρ=>∃(S:List (List Nat)) (v4 v5:Option PV),((∀o∈S,rM n (k+1) o)/\∀o∈L.take i,∀j,j<n->j∉o->o++[j]∈S)/\S.length<=i*n/\ρ=[some (.dat (.int (n:Int))),some (.dat (.lst (L.map λo=>.lst (o.map nD)))),some (.dat (.int (k:Int))),some (.own (S.map λo=>.lst (o.map nD))),v4,v5],⟨[],_,_,⟨λo ho=>(nomatch ho),λo ho=>(nomatch ho)⟩,Lo _,rfl⟩,?_,?_⟩
   .rintro i ρ d hi ed ⟨S,v4,v5,⟨hS,hc⟩,hs,rfl⟩;rw [hLm] at hi;obtain⟨o,ho,et,rfl⟩:∃o,o∈L/\L.take (i+1)=L.take i++[o]/\d=.lst (o.map nD):=⟨L[i],Ku hi,by rw [take_add_one,cx hi];rfl,by rw [ed];unfold itD;rw [e_,gV,cx hi];rfl⟩
    have hO:=(hL o).mp ho;clear ed
    have hin:i*n+n<=3125:=by
     have:(i+1)*n<=n^k*n:=LJ n (F_ hi hl);rw [succ_mul] at this;omega
    walk_at "r";rw [toNat_natCast]
    refine⟨λj ρ=>∃(S:List (List Nat)) (v5:Option PV),((∀o∈S,rM n (k+1) o)/\(∀o∈L.take i,∀j,j<n->j∉o->o++[j]∈S)/\∀x,x<j->x∉o->o++[x]∈S)/\S.length<=i*n+j/\ρ=[some (.dat (.int (n:Int))),some (.dat (.lst (L.map λo=>.lst (o.map nD)))),some (.dat (.int (k:Int))),some (.own (S.map λo=>.lst (o.map nD))),some (.dat (.lst (o.map nD))),v5],⟨S,_,⟨hS,hc,λx hx=>absurd hx (Ke _)⟩,hs,rfl⟩,?_,?_⟩
    .rintro j ρ _ hj rfl ⟨S,v5,⟨hS,hc,hd⟩,hs,rfl⟩;have hSm:(S.map λo=>D.lst (o.map nD)).length=S.length:=length_map _;walk_at "r";refine⟨⟨rfl,KJ.mpr λx hx=>by obtain⟨y,_,rfl⟩:=JA.mp hx;rfl⟩,?_⟩;rw [xN]
     refine ul (λc=>?_) (λc=>?_)
     .have c:j∉o:=λz=>by rw [decide_eq_true z] at c;cases c
      have ol:(o.map nD).length+[D.int (j:Int)].length<=1000000:=by rw [length_map,hO.len];show k+1<=_;omega
      walk_at "r"
      exact⟨S++[o++[j]],_,⟨λy hy=>by
       rcases Jw.mp hy with z|z
       .exact hS y z
       .rw [r_.mp z];exact hO.add hj c,λy hy x hx hn=>FX _ (hc y hy x hx hn),λx hx hn=>by
       by_cases e:x=j
       .subst e;exact oe _ (r_.mpr rfl)
       .exact FX _ (hd x (by omega) hn)⟩,by rw [length_append];show S.length+1<=_;omega,by rw [map_append,map_cons,map_nil,map_append];rfl⟩
     .have c:j∈o:=of_decide_eq_true (by rw [if_pos rfl] at c;cases h:decide (j∈o) with|true=>rfl|false=>rw [h] at c;cases c);walk_at "r";exact⟨S,_,⟨hS,hc,λx hx hn=>hd x (by have:x≠j:=λe=>hn (by rw [e];exact c);omega) hn⟩,by omega,rfl⟩
    .rintro ρ ⟨S,v5,⟨hS,hc,hd⟩,hs,rfl⟩
     exact⟨S,_,_,⟨hS,λy hy x hx hn=>by
      rw [et] at hy
      rcases Jw.mp hy with z|z
      .exact hc y z x hx hn
      .rw [r_.mp z] at hn ⊢;exact hd x hx hn⟩,by rw [succ_mul];exact hs,rfl⟩
   .rintro ρ ⟨S,v4,v5,⟨hS,hc⟩,hs,rfl⟩;rw [hLm] at hs hc;rw [KO] at hc;walk_at "r"
    exact⟨S,_,_,_,_,_,(λo=>⟨hS o,λh=>by
     obtain⟨y,x,rfl,hy,hx,hn⟩:=h.last;exact hc y ((hL y).mpr hy) x hx hn⟩),by rw [Nat.pow_succ];exact F_ hs (LJ n hl),.inr rfl,rfl⟩
   )
 .rintro ρ ⟨L,w,v2,v3,v4,v5,hL,hl,hw,rfl⟩
  rcases hw with rfl|rfl <;> (
   walk_at "r";refine q L hL (F_ hl ?_);exact F_ (MS hn n) (MA (by decide) hn)
   )
noncomputable def jt(K:b_)(mg:Str->Option Value)(t:TxC K):=(have TC:=t;show LS K [] _ _ from (aq (aA (aF aV (aa (ax 0) ac)) (ck 2 rfl)) (aq (aA (b8 ac) (ck 3 rfl)) (aq (bZ (ee (aa (bR 2) ac)) (aO 4 rfl) (dP (kg (i:=3) (aF xz (aa (ah (ak aS (ah (b8 (aa (bf 0) ac))) (ah (aM (ix:=[none,some 4,some 1,some 0]) rfl (ee (aa (bR 2) ac)) (λfs hc=>(aO 0 (fm hc (by decide)))) (fi (ak dQ (ax 0) (ax 1))) (ak eA (ah (ak aU (ah (ak aU (ax 3) (ax 0))) (ax 1))) (ah (ak aU (ax 2) (ax 0)))))))) ac))))) (aJ (Fu (b8 (aa (bR 1) (aa (bR 3) ac)))))))))
def pP:PTS:=psO jt
def pQ:PRl c4 pP 5 2:=λ_ Q h=>vD h λds _ h=>vD h λes _ h=>gk h λh=>we rfl <| by
 walk_at "z";obtain⟨ws,rfl,gs,rfl,⟨hn,hg⟩,q⟩:=h;have hlm:(dy ws).length=ws.length:=length_map _;have hgl:=hg.1;walk_at "r";rw [toNat_natCast,hlm]
 refine⟨λk ρ=>∃(ts:List Int) (v4:Option PV),(Prc k ts/\∀i j,i<ws.length->j<k->i≠j->(eC (pw ws i) (pw ws j):Int)<=gs.getD i 0+ts.getD j 0)/\ρ=[some (.dat (.lst (dy ws))),some (.dat (.lst (gs.map .int))),some (.dat (.int (ws.length:Int))),some (.own (ts.map .int)),v4],⟨[],_,⟨⟨rfl,λz hz=>nomatch hz⟩,λi j _ hj=>absurd hj (Ke _)⟩,rfl⟩,?_,?_⟩
 .rintro k ρ _ hk rfl ⟨ts,v4,⟨ht,hpay⟩,rfl⟩;have htm:(ts.map D.int).length=k:=by rw [length_map,ht.1]
  walk_at "r";rw [toNat_natCast]
  refine cfR (λj:Nat=>decide (j≠k)) (λj:Nat=>D.int ((eC (pw ws j) (pw ws k):Int) - gs.getD j 0)) (λj hj v K1 K2 k1 k2=>?_) (λv=>?_)
  .walk_at "r"
   refine lD (λc=>?_) (λc=>?_)
   .walk_at "r";refine⟨_,jp hj,?_⟩;walk_at "r";refine⟨_,oa hk,?_⟩;walk_at "r";refine⟨_,sP (by omega),?_⟩;walk_at "r";exact k1 _ (decide_eq_true (by omega))
   .exact k2 _ (decide_eq_false (by omega))
  .rw [uL ws.length (λj=>decide (j≠k)) λj=>(eC (pw ws j) (pw ws k):Int) - gs.getD j 0]
   have hA:(((c_ ws.length).filter λj=>decide (j≠k)).map (λj=>(eC (pw ws j) (pw ws k):Int) - gs.getD j 0)).length<=40:=by
    rw [length_map];exact F_ (JR ..) (by rw [length_range];exact hn)
   have hAm:∀i,i<ws.length->i≠k->(eC (pw ws i) (pw ws k):Int) - gs.getD i 0∈(((c_ ws.length).filter λj=>decide (j≠k)).map (λj=>(eC (pw ws j) (pw ws k):Int) - gs.getD j 0)):=λi hi ne=>JA.mpr ⟨i,JC.mpr ⟨JB.mpr hi,decide_eq_true ne⟩,rfl⟩;generalize ((c_ ws.length).filter λj=>decide (j≠k)).map (λj=>(eC (pw ws j) (pw ws k):Int) - gs.getD j 0)=A at hA hAm
   have hA2:(A.map D.int).length<=40:=by rw [length_map];exact hA
   walk_at "r";refine⟨0::A,rfl,succ_pos _,λm _ hmm=>?_⟩;have hm:=hmm 0 (mem_cons_self ..);walk_at "r";refine⟨ts++[m],_,⟨ht.app hm,λi j hi hj ne=>?_⟩,by rw [map_append];rfl⟩;rw [e_ (l:=ts++[m])]
   by_cases e:j=k
   .subst e;rw [Kj (by rw [ht.1];exact f_ _),ht.1,sub_self];have:=hmm _ (n_ _ (hAm i hi ne));show _<=_+m;omega
   .rw [KG (by rw [ht.1];omega),<- e_];exact hpay i j hi (by omega) ne
 .rintro ρ ⟨ts,v4,⟨ht,hpay⟩,rfl⟩;walk_at "r";exact q ts ⟨hg,ht,hpay⟩
noncomputable def gO(K:b_)(mg:Str->Option Value)(t:TxC K):=(have TC:=t;show LS K [] _ _ from (aq (aA (aF aV (aa (ax 0) ac)) (ck 2 rfl)) (aq (cM (vh (gc (rK (lG .tuple (ax 1)))) (fi (ak dQ (ah (aF aV (aa (ax 1) ac))) (bf 2)))) (aJ (hU (i:=false))) aY) (aq (bZ (bv (cm 1)) (aO 3 rfl) (aq (cM (vh (gc (rK (lG .tuple (ax 3)))) (fi (ak dQ (ah (aF aV (aa (ax 3) ac))) (ax 2)))) (aJ (hU (i:=false))) aY) (cM (fi (ak dQ (ah (aM (ix:=[none]) rfl (bv (cm 3)) (λfs hc=>(aO 0 (fm hc (by decide)))) (vh (gc (rK (ay (c:=eG) (aa (bR 0) ac)))) (fi (ak xk (ax 0) (bf 0)))) (cm 0))) (ah (b8 ac)))) (aJ (hU (i:=false))) aY))) (aq (bZ (ee (aa (bR 2) ac)) (aO 4 rfl) (bZ (ee (aa (bR 2) ac)) (aO 5 rfl) (cM (nX (fi (ak dQ (ax 4) (ax 5))) (fi (ak xk (ah (ak aS (ah (ak aU (ah (ak aU (ax 1) (bf 0))) (ax 4))) (ah (ak aU (ah (ak aU (ax 1) (bf 1))) (ax 5))))) (ah (ak aU (ah (ak aU (ax 0) (ax 4))) (ax 5)))))) (aJ (hU (i:=false))) aY))) (aJ (hU (i:=true))))))))
def mF:PTS:=psO gO
def mG:PRl dZ mF 6 2:=λ_ Q h=>vD h λds _ h=>yM h λes _ h=>gk h λh=>we rfl <| by
 walk_at "z";obtain⟨ws,rfl,gs,ts,rfl,⟨hn,hp⟩,q⟩:=h;have hlm:(dy ws).length=ws.length:=length_map _;have lg:=hp.g.1;have lt:=hp.t.1;walk_at "r"
 refine⟨λk ρ=>∃v3:Option PV,ρ=[some (.dat (.lst (dy ws))),some (.dat (.tup [.tup (gs.map .int),.tup (ts.map .int)])),some (.dat (.int ((dy ws).length:Nat))),v3,none,none],⟨_,rfl⟩,?_,?_⟩
 .rintro k ρ d hk ed ⟨v3,rfl⟩
  obtain⟨zs,rfl,hz⟩:∃zs:List Int,d=.tup (zs.map .int)/\Prc ws.length zs:=by
   match k,hk with
   | 0,_=>exact⟨gs,ed,hp.g⟩
   | 1,_=>exact⟨ts,ed,hp.t⟩
  clear ed hk;have zm:(zs.map D.int).length=(dy ws).length:=by rw [length_map,hz.1,hlm]
  walk_at "r"
  refine cf1 (λ_:Int=>false) (λz:Int=>.int z) (λz hz' v K1 K2 k1 k2=>?_) (λv=>?_)
  .have h0:=hz.2 z hz';walk_at "r";exact k2 _ rfl
  .rw [show zs.filter (λ_=>false)=[] from filter_eq_nil_iff.mpr λ_ _ z=>by cases z];walk_at "r";exact⟨_,rfl⟩
 .rintro ρ ⟨v3,rfl⟩;walk_at "r";rw [toNat_natCast,hlm]
  refine⟨λk ρ=>∃v4 v5:Option PV,ρ=[some (.dat (.lst (dy ws))),some (.dat (.tup [.tup (gs.map .int),.tup (ts.map .int)])),some (.dat (.int (ws.length:Nat))),v3,v4,v5],⟨_,_,rfl⟩,?_,?_⟩
  .rintro i ρ _ hi rfl ⟨v4,v5,rfl⟩;walk_at "r";rw [toNat_natCast]
   refine⟨λk ρ=>∃v5:Option PV,ρ=[some (.dat (.lst (dy ws))),some (.dat (.tup [.tup (gs.map .int),.tup (ts.map .int)])),some (.dat (.int (ws.length:Nat))),v3,some (.dat (.int (i:Int))),v5],⟨_,rfl⟩,?_,?_⟩
   .rintro j ρ _ hj rfl ⟨v5,rfl⟩;walk_at "r"
    refine lD (λc=>?_) (λc=>?_)
    .have hpay:=hp.p i j hi hj (by omega);walk_at "r";refine⟨_,sP (by omega),?_⟩;walk_at "r";refine⟨_,sP (by omega),?_⟩;walk_at "r";refine⟨_,jp hi,?_⟩;walk_at "r";refine⟨_,oa hj,?_⟩;walk_at "r";exact⟨_,rfl⟩
    .walk_at "r";exact⟨_,rfl⟩
   .rintro ρ ⟨v5,rfl⟩;exact⟨_,_,rfl⟩
  .rintro ρ ⟨v4,v5,rfl⟩;walk_at "r";exact q
noncomputable def mH(K:b_)(mg:Str->Option Value)(t:TxC K):=(have TC:=t;show LS K [] _ _ from (aq (aA (Bq 0) (ck 1 rfl)) (aq (bZ (bv (ay (c:=j7) (aa (ah (aF aV (aa (ax 0) ac))) ac))) (aO 2 rfl) (aq (aA (Bq 0) (ck 3 rfl)) (aq (bZ (ee (aa (ah (aF aV (aa (ax 2) ac))) ac)) (aO 4 rfl) (cM (fi (ak dQ (ah (ak aU (ax 2) (ax 4))) (ax 4))) (aA (ak aS (ax 3) (ah (ak aU (ah (ak aU (ax 0) (ax 4))) (ah (ak aU (ax 2) (ax 4)))))) (ck 3 rfl)) aY)) (aA (aF xt (aa (ax 1) (aa (ax 3) ac))) (ck 1 rfl))))) (aJ (cm 1)))))
def tE:PTS:=psO mH
def tG:PRl iW tE 5 1:=λ_ Q h=>vD h λds _ h=>gk h λh=>we rfl <| by
 walk_at "z";obtain⟨ws,rfl,⟨hn,hw⟩,q⟩:=h;have hlm:(dy ws).length=ws.length:=length_map _;walk_at "r";intro L hL hl;rw [hlm] at hL;have Lm:(L.map λo=>D.lst (o.map nD)).length=L.length:=length_map _;walk_at "r"
 refine⟨λk ρ=>∃(m:Int) (v2 v3 v4:Option PV),(0<=m/\m<=1000000)/\(m=0\/∃o,rM ws.length ws.length o/\hX ws o ws.length=m)/\(∀o∈L.take k,hX ws o ws.length<=m)/\ρ=[some (.dat (.lst (dy ws))),some (.dat (.int m)),v2,v3,v4],⟨0,_,_,_,⟨Kf _,by decide⟩,.inl rfl,(λo ho=>nomatch ho),rfl⟩,?_,?_⟩
 .rintro k ρ d hk ed ⟨m,v2,v3,v4,⟨hm0,hm1⟩,hm,hb,rfl⟩;rw [Lm] at hk;obtain⟨o,ho,et,rfl⟩:∃o,o∈L/\L.take (k+1)=L.take k++[o]/\d=.lst (o.map nD):=⟨L[k],Ku hk,by rw [take_add_one,cx hk];rfl,by rw [ed];unfold itD;rw [e_,gV,cx hk];rfl⟩
  have hO:=(hL o).mp ho;have om:(o.map nD).length=ws.length:=by rw [length_map,hO.len]
  clear ed;walk_at "r";rw [toNat_natCast,om]
  refine⟨λi ρ=>∃v4:Option PV,ρ=[some (.dat (.lst (dy ws))),some (.dat (.int m)),some (.dat (.lst (o.map nD))),some (.dat (.int (hX ws o i))),v4],⟨_,rfl⟩,?_,?_⟩
  .rintro i ρ _ hi rfl ⟨v4,rfl⟩;have hoi:o.getD i 0<ws.length:=hO.lt _ (gDm (by rw [hO.len];exact hi));have b:=jq hw hO.lt hO.len (k:=i) (by omega);have b':=sN hw hi hoi;walk_at "r";refine⟨_,yz (by rw [hO.len];exact hi),?_⟩;walk_at "r"
   refine lD (λc=>?_) (λc=>?_)
   .have e:fF ws i (o.getD i 0)=(eC (pw ws i) (pw ws (o.getD i 0)):Int):=if_neg (by omega);rw [e] at b';walk_at "r";refine⟨_,jp hi,?_⟩;walk_at "r";refine⟨_,yz (by rw [hO.len];exact hi),?_⟩;walk_at "r";refine⟨_,oa hoi,?_⟩;walk_at "r";rw [j8,e];exact⟨_,rfl⟩
   .have e:fF ws i (o.getD i 0)=0:=if_pos (by omega);walk_at "r";rw [j8,e,add_zero];exact⟨_,rfl⟩
  .rintro ρ ⟨v4,rfl⟩;have b:=jq hw hO.lt hO.len (k:=ws.length) (by omega);walk_at "r"
   refine⟨_,_,_,_,?_,?_,λy hy=>?_,rfl⟩
   .split <;> exact⟨by omega,by omega⟩
   .split
    .exact .inr ⟨o,hO,rfl⟩
    .exact hm
   .rw [et] at hy
    rcases Jw.mp hy with z|z
    .have:=hb y z;split <;> omega
    .rw [r_.mp z];split <;> omega
 .rintro ρ ⟨m,v2,v3,v4,⟨hm0,hm1⟩,hm,hb,rfl⟩;rw [Lm,KO] at hb;walk_at "r";exact q m hm0 hm λo ho=>hb o ((hL o).mpr ho)
noncomputable def ju(K:b_)(mg:Str->Option Value)(t:TxC K):=(have TC:=t;show LS K [0] _ _ from (aq (aA (aF aV (aa (ax 1) ac)) (ck 2 rfl)) (aq (aA (b8 (aa (ah (ay (c:=c4) (aa (bR 1) (aa (ah (ak gg (ah (b8 (aa (bf 0) ac))) (ax 2))) ac)))) ac)) (ck 3 rfl)) (aq (dP (kg (i:=3) (ay (c:=c4) (aa (bR 1) (aa (ah (aM (ix:=[none,some 1,some 2]) rfl (ee (aa (bR 2) ac)) (λfs hc=>(aO 0 (fm hc (by decide)))) bF (aF xz (aa (ah (ak aS (ah (b8 (aa (bf 0) ac))) (ah (aM (ix:=[none,some 1,some 0]) rfl (ee (aa (bR 2) ac)) (λfs hc=>(aO 0 (fm hc (by decide)))) (fi (ak dQ (ax 0) (ax 2))) (ak aU (ah (ak aU (ax 1) (ax 2))) (ax 0)))))) ac)))) ac))))) (aq (bZ (ee (aa (bf 6) ac)) (aO 4 rfl) (dP (kg (i:=3) (ay (c:=c4) (aa (bR 1) (aa (ah (aM (ix:=[none,some 0,some 4]) rfl (ee (aa (bR 2) ac)) (λfs hc=>(aO 0 (fm hc (by decide)))) bF (ak bY (ah (bO (c:=aW) (i:=1) ac)) (ah (ak aU (ah (b8 (aa (bf 2) (aa (bf 4) (aa (bf 8) ac))))) (ah (ak bY (ax 2) (bf 3)))))))) ac)))))) (aJ (cm 3)))))))
def pR:PTS:=psO ju
def pS:RRl fY pR 5 2:=λ_ _ Q h=>GJ h λds h=>vD h λes _ h=>gk h λh=>we rfl <| by
 walk_at "z";obtain⟨zs,rfl,ws,rfl,⟨hn,hz,h0,h1⟩,q⟩:=h;have hlm:(dy ws).length=ws.length:=length_map _;walk_at "r";rw [hlm];refine⟨v_ ws.length 0,yA _,⟨by omega,by rw [length_replicate],λz hz=>by rw [eq_of_mem_replicate hz];exact Kf _⟩,λts ht=>?_⟩;walk_at "r";rw [toNat_natCast]
 refine rL (λτ=>∃v,τ=[v,some (.dat (.lst (dy ws))),some (.dat (.int (ws.length:Int)))]) (λi=>.int (mxL ws i)) ⟨_,rfl⟩ ?_ ?_
 .rintro i τ _ hi rfl ⟨v,rfl⟩ K1 k1;walk_at "r";rw [toNat_natCast]
  refine cfR (λj:Nat=>decide (j≠i)) (λj:Nat=>D.int (eC (pw ws i) (pw ws j):Int)) (λj hj v K1 K2 k1 k2=>?_) (λv=>?_)
  .walk_at "r"
   refine lD (λc=>?_) (λc=>?_)
   .walk_at "r";refine⟨_,jp hi,?_⟩;walk_at "r";refine⟨_,oa hj,?_⟩;exact k1 _ (decide_eq_true (by omega))
   .exact k2 _ (decide_eq_false (by omega))
  .rw [uL ws.length (λj=>decide (j≠i)) λj=>(eC (pw ws i) (pw ws j):Int)]
   have hA:((((c_ ws.length).filter λj=>decide (j≠i)).map (λj=>(eC (pw ws i) (pw ws j):Int))).map D.int).length<=40:=by
    rw [length_map,length_map];exact F_ (JR ..) (by rw [length_range];omega)
   walk_at "r";refine⟨by show 1+_<=_;omega,?_⟩;walk_at "r";refine⟨0::_,rfl,succ_pos _,λm h1 h2=>?_⟩;rw [Gj h1 h2];exact k1 _ ⟨_,rfl⟩
 .rintro τ ⟨v,rfl⟩;walk_at "r";refine⟨(c_ ws.length).map (mxL ws),by rw [map_map];rfl,⟨by omega,by rw [length_map,length_range],λz hz=>by obtain⟨i,_,rfl⟩:=JA.mp hz;exact Gk⟩,λts2 ht2=>?_⟩;walk_at "r"
  refine⟨λk ρ=>∃(Ps:List (List Int×List Int)) (y:List Int) (v4:Option PV),((∀p∈Ps,DA ws p.1 p.2)/\Ps.length=2+k)/\Dk y/\y.length+ws.length*k=zs.length/\ρ=[some (.own (y.map .int)),some (.dat (.lst (dy ws))),some (.dat (.int (ws.length:Int))),some (.own (Ps.map prD)),v4],⟨[(_,_),(_,_)],zs,_,⟨λp hp=>?_,rfl⟩,hz,rfl,rfl⟩,?_,?_⟩
  .rcases mem_cons.mp hp with rfl|hp
   .exact ht
   .rw [r_.mp hp];exact ht2
  .rintro k ρ _ hk rfl ⟨Ps,y,v4,⟨hP,hPl⟩,hy,hyl,rfl⟩;have hk:k<6:=hk;walk_at "r"
   have hnk:ws.length*k+ws.length<=6*ws.length:=by
    have:=mul_le_mul_left ws.length (show k+1<=6 by omega);rw [mul_succ] at this;omega
   obtain⟨s,es,hs0⟩:∃s:Int,atI [D.int 2,D.int 4,D.int 8] ((k:Int) % 3)=some (.int s)/\0<s:=by
    rcases (show (k:Int) % 3=0\/(k:Int) % 3=1\/(k:Int) % 3=2 by omega) with h|h|h <;> rw [h]
    .exact⟨2,rfl,by decide⟩
    .exact⟨4,rfl,by decide⟩
    .exact⟨8,rfl,by decide⟩
   have Pm:(Ps.map prD).length=Ps.length:=length_map _;rw [toNat_natCast]
   refine⟨λj ys τ=>∃(v:Option PV) (gs y5:List Int),τ=[v,some (.own (y5.map .int)),some (.dat (.int (k:Int)))]/\ys=gs.map .int/\Prc j gs/\Dk y5/\y5.length+j=y.length,⟨none,[],y,rfl,rfl,⟨rfl,λz hz=>(nomatch hz)⟩,hy,rfl⟩,?_,?_⟩
   .rintro j ys τ _ hj rfl ⟨v,gs,y5,rfl,rfl,hg,hd5,hy5⟩;have g:Dk y5/\0<y5.length/\y5.length<=100000:=⟨hd5,by omega,by omega⟩
    walk_at "r";rintro z6 y6 hz60 hz61 hd6 hy6;walk_at "r";refine⟨_,es,?_⟩;walk_at "r";exact⟨_,gs++[z6 % s],y6,rfl,by rw [map_append];rfl,hg.app (Kv _ (by omega)),hd6,by omega⟩
   .rintro ys τ ⟨v,gs,y5,rfl,rfl,hg,hd5,hy5⟩;walk_at "r";intro ts3 ht3;walk_at "r"
    exact⟨Ps++[(gs,ts3)],y5,_,⟨λp hp=>by
     rcases Jw.mp hp with h|h
     .exact hP p h
     .rw [r_.mp h];exact ht3,by rw [length_append,hPl];rfl⟩,hd5,by rw [mul_succ];omega,by rw [map_append];rfl⟩
  .rintro ρ ⟨Ps,y,v4,⟨hP,hPl⟩,hy,hyl,rfl⟩;walk_at "r";exact q Ps y hP (by have:Ps.length=8:=hPl;omega) hy (by omega)
noncomputable def mI(K:b_)(mg:Str->Option Value)(t:TxC K):=(have TC:=t;show LS K [0] _ _ from (aq (aA (le_str (l:=[])) (ck 1 rfl)) (aq (bZ (ee (aa (bf 3) ac)) (aO 2 rfl) (aA (ak aS (ax 1) (ah (ay (c:=bU) (aa (ah (ak aS (ah (bO (c:=aW) (i:=0) ac)) (ah (ak lF (bf 10) (bf 9))))) (aa (ah (le_str (l:=[97,98,99]))) ac))))) (ck 1 rfl))) (aq (aA (b8 ac) (ck 3 rfl)) (aq (aA (ak bY (ah (bO (c:=aW) (i:=0) ac)) (bf 21)) (ck 4 rfl)) (aq (bZ (ee (aa (ah (ak aS (bf 7) (ah (ak bY (ah (bO (c:=aW) (i:=0) ac)) (bf 6))))) ac)) (aO 2 rfl) (aq (aA (ak bY (ah (ak aS (ax 4) (ah (ak gg (bf 2) (ax 2))))) (bf 21)) (ck 5 rfl)) (dP (xF (i:=3) (ak bY (ah (bO (c:=aW) (i:=0) ac)) (ah (ak aS (ah (aF aV (aa (ax 3) ac))) (bf 1)))) (cV (ax 1) (bN (cm 5)) (bN (ak aS (ax 5) (bf 6)))))))) (aJ (cm 3))))))))
def tH:PTS:=psO mI
def tI:RRl iX tH 6 1:=λ_ _ Q h=>GJ h λds h=>gk h λh=>we rfl <| by
 walk_at "z";obtain⟨zs,rfl,⟨hz,h0,h1⟩,q⟩:=h;walk_at "r"
 refine⟨λk ρ=>∃(t:List Nat) (y:List Int) (v2 v3 v4 v5:Option PV),(Lts t/\t.length=9*k)/\Dk y/\y.length+k=zs.length/\ρ=[some (.own (y.map .int)),some (.dat (.str t)),v2,v3,v4,v5],⟨[],zs,_,_,_,_,⟨λc hc=>(nomatch hc),rfl⟩,hz,rfl,rfl⟩,?_,?_⟩
 .rintro k ρ _ hk rfl ⟨t,y,v2,v3,v4,v5,⟨tL,tl⟩,hy,hyl,rfl⟩;have hk:k<3:=hk;have g:Dk y/\0<y.length/\y.length<=100000:=⟨hy,by omega,by omega⟩
  walk_at "r";rintro z y1 hz0 hz1 hd1 hy1;walk_at "r";have hz9:1000000<=z+10^Kg 9:=by show 1000000<=z+1000000000;omega
  have g3:0<=z+10^Kg 9/\0<[97,98,99].length/\[97,98,99].length<=26:=⟨by omega,by decide,by decide⟩
  refine⟨g3,λw hw hc _ h9=>?_⟩;have wl:=h9 (by decide) hz9;walk_at "r";exact⟨t++w,y1,_,_,_,_,⟨tL.app (g8 hc (jM.mp (by decide))),by rw [length_append];omega⟩,hd1,by omega,rfl⟩
 .rintro ρ ⟨t,y,v2,v3,v4,v5,⟨tL,tl⟩,hy,hyl,rfl⟩;walk_at "r";rintro z y1 hz0 hz1 hd1 hy1;have tl:t.length=27:=tl;have hyl:y.length+3=zs.length:=hyl;have g:Dk y1/\0<y1.length/\y1.length<=100000:=⟨hd1,by omega,by omega⟩
  walk_at "r";rintro z2 y2 hz20 hz21 hd2 hy2;walk_at "r";obtain⟨b,hb,hb2⟩:∃b:Nat,z % 21=(b:Int)/\b<21:=⟨(z % 21).toNat,by omega,by omega⟩
  obtain⟨N,hN,hN2⟩:∃N:Nat,(7+z2 % 6).toNat=N/\N<=12:=⟨_,rfl,by omega⟩
  rw [hN,hb]
  refine⟨λk ρ=>∃(ps:List (List Nat)) (y:List Int) (v2 v5:Option PV),(Pcs 60 ps/\ps.length=k)/\Dk y/\y.length+k=y2.length/\ρ=[some (.own (y.map .int)),some (.dat (.str t)),v2,some (.own (ps.map .str)),some (.dat (.int (b:Int))),v5],⟨[],y2,_,_,⟨λw hw=>(nomatch hw),rfl⟩,hd2,rfl,rfl⟩,?_,?_⟩
  .rintro k ρ _ hk rfl ⟨ps,y3,v2,v5,⟨hps,hpl⟩,hd3,hy3,rfl⟩;have g:Dk y3/\0<y3.length/\y3.length<=100000:=⟨hd3,by omega,by omega⟩
   have pm:(ps.map D.str).length=ps.length:=length_map _;walk_at "r";rintro z4 y4 hz40 hz41 hd4 hy4;walk_at "r";obtain⟨a,ha,ha2⟩:∃a:Nat,((b:Int)+2*(k:Int)) % 21=(a:Int)/\a<21:=⟨(((b:Int)+2*(k:Int)) % 21).toNat,by omega,by omega⟩
   have hmod:0<=z4 % (((ps.map D.str).length:Nat)+1)/\z4 % (((ps.map D.str).length:Nat)+1)<2^60:=by
    have h1:=Kv z4 (show (((ps.map D.str).length:Nat):Int)+1≠0 by omega);have h2:=Ki z4 (show (0:Int)<((ps.map D.str).length:Nat)+1 by omega);omega
   have hw:Pc 60 (eM t (some (a:Int)) (some ((a:Int)+6))):=by
    rw [show (6:Int)=((6:Nat):Int) from rfl,AE];have l6:((t.drop a).take 6).length=6:=by rw [length_take,length_drop];omega
    exact⟨by rw [l6];decide,by rw [l6];decide,λc hc=>tL c (mem_of_mem_drop (mem_of_mem_take hc))⟩
   rw [ha];refine⟨⟨hmod,by omega⟩,?_⟩;have ei:=AD D.str ps (z4 % (((ps.map D.str).length:Nat)+1)) (eM t (some (a:Int)) (some ((a:Int)+6)));rw [ei]
   exact⟨_,y4,_,_,⟨λw h=>by
    rcases mem_cons.mp ((qZ _ _ _).mem_iff.mp h) with e|h
    .rw [e];exact hw
    .exact hps w h,by rw [(qZ _ _ _).length_eq,length_cons,hpl]⟩,hd4,by omega,rfl⟩
  .rintro ρ ⟨ps,y3,v2,v5,⟨hps,hpl⟩,hd3,hy3,rfl⟩;walk_at "r";exact q ps y3 (by omega) hps hd3 (by omega) (by omega)
noncomputable def eI(K:b_)(mg:Str->Option Value)(t:TxC K):=(have TC:=t;show LS K [] _ _ from (aq (aA (b8 ac) (ck 1 rfl)) (aq (bZ (ee (aa (ah (aF aV (aa (ax 0) ac))) ac)) (aO 2 rfl) (dP (kg (i:=1) (aM (ix:=[none,some 0,some 2]) rfl (ee (aa (ah (aF aV (aa (ax 0) ac))) ac)) (λfs hc=>(aO 0 (fm hc (by decide)))) bF (ak gg (ah (ak aU (ah (ak aU (ax 1) (ax 2))) (ax 0))) (ah (aF ur (aa (ah (ak dQ (ax 2) (ax 0))) ac)))))))) (aJ (cm 1)))))
def jw:PTS:=psO eI
def jx:PRl c5 jw 3 1:=λ_ Q h=>vD h λds _ h=>gk h λh=>we rfl <| by
 walk_at "z";obtain⟨ws,rfl,⟨hn,hw⟩,q⟩:=h;have hlm:(dy ws).length=ws.length:=length_map _;walk_at "r";rw [toNat_natCast,hlm]
 refine⟨λk ρ=>∃v2:Option PV,ρ=[some (.dat (.lst (dy ws))),some (.own ((c_ k).map λi=>D.lst ((c_ ws.length).map λj=>.int (fF ws i j)))),v2],⟨_,rfl⟩,?_,?_⟩
 .rintro i ρ _ hi rfl ⟨v2,rfl⟩;have hl:((c_ i).map λi=>D.lst ((c_ ws.length).map λj=>.int (fF ws i j))).length=i:=by rw [length_map,length_range]
  walk_at "r";rw [toNat_natCast,hlm]
  refine rL (λτ=>∃v,τ=[v,some (.dat (.lst (dy ws))),some (.dat (.int (i:Int)))]) (λj=>.int (fF ws i j)) ⟨_,rfl⟩ ?_ ?_
  .rintro j τ _ hj rfl ⟨v,rfl⟩ K1 k1;walk_at "r";refine⟨_,jp hi,?_⟩;walk_at "r";refine⟨_,oa hj,?_⟩;walk_at "r"
   have e:(eC (pw ws i) (pw ws j):Int)*(if (!decide ((i:Int)=(j:Int)))=true then 1 else 0)=fF ws i j:=by
    unfold fF
    by_cases c:i=j
    .rw [if_pos c,decide_eq_true (show (i:Int)=(j:Int) by omega)];exact mul_zero _
    .rw [if_neg c,decide_eq_false (show ¬ (i:Int)=(j:Int) by omega)];exact mul_one _
   rw [e];exact k1 _ ⟨_,rfl⟩
  .rintro τ ⟨v,rfl⟩;walk_at "r";rw [KP,map_append];exact⟨_,rfl⟩
 .rintro ρ ⟨v2,rfl⟩;walk_at "r";exact q
noncomputable def BA(K:b_)(mg:Str->Option Value)(t:TxC K):=(have TC:=t;show LS K [] _ _ from (aq (aA (ay (c:=iT) (aa (bR 0) (aa (bf 200) ac))) (ck 1 rfl)) (aq (aA (bO (c:=gK) (i:=1) (aa (bf 6) ac)) (ck 2 rfl)) (aq (lI (cM (fi (ak gh (ah (ak bY (ah (bO (c:=aW) (i:=1) ac)) (bf 9))) (bf 0))) (aA (b8 ac) (ck 2 rfl)) aY)) (aq (lI (cM (fi (ak gh (ah (ak bY (ah (bO (c:=aW) (i:=1) ac)) (bf 6))) (bf 0))) (aA (bO (c:=iX) (i:=1) ac) (ck 2 rfl)) aY)) (aq (aA (ay (c:=iV) (aa (bR 2) ac)) (ck 3 rfl)) (aq (aA (aM (ix:=[none,some 3]) rfl (bv (cm 3)) (λfs hc=>(aO 0 (fm hc (by decide)))) bF (aM (ix:=[none,some 0]) rfl (bv (cm 1)) (λfs hc=>(aO 0 (fm hc (by decide)))) bF (ay (c:=fB) (aa (bR 1) (aa (bR 0) ac))))) (ck 4 rfl)) (aq (aA (aF gC (aa (ah (aM (ix:=[none]) rfl (bv (cm 3)) (λfs hc=>(aO 0 (fm hc (by decide)))) bF (aF aV (aa (ax 0) ac)))) ac)) (ck 5 rfl)) (aq (aA (xv (c0:="Family") (c:=bT) (aa (bR 2) ac)) (ck 6 rfl)) (aq (aA (ay (c:=dw) (aa (bR 6) ac)) (ck 7 rfl)) (aq (cM (gc (rK (ay (c:=dZ) (aa (bR 4) (aa (bR 7) ac))))) (aJ (hU (i:=false))) aY) (aq (aA (ak eA (ah (ak eA (ax 5) (ah (aF gC (aa (ah (ak aU (ax 7) (bf 0))) ac))))) (ah (aF gC (aa (ah (ak aU (ax 7) (bf 1))) ac)))) (ck 8 rfl)) (aq (cM (fi (ak dQ (ah (ay (c:=e8) (aa (bR 6) (aa (bR 7) ac)))) (ax 8))) (aJ (hU (i:=false))) aY) (aq (aA (ay (c:=c5) (aa (bR 4) ac)) (ck 9 rfl)) (aq (aA (ak aU (ah (ay (c:=cY) (aa (bR 9) ac))) (bf 0)) (ck 10 rfl)) (aq (cM (fi (ak dQ (ax 8) (ah (ak eA (ax 5) (ah (aF gC (aa (ah (aM (ix:=[none,some 9,some 10]) rfl (ee (aa (ah (aF aV (aa (ax 3) ac))) ac)) (λfs hc=>(aO 0 (fm hc (by decide)))) bF (ak aU (ah (ak aU (ax 1) (ax 0))) (ah (ak aU (ax 2) (ax 0)))))) ac))))))) (aJ (hU (i:=false))) aY) (aq (bZ (bv (bO (c:=fY) (i:=1) (aa (bR 4) ac))) (aO 11 rfl) (cM (fi (ak vm (ah (ak eA (ah (ak eA (ax 5) (ah (aF gC (aa (ah (ak aU (ax 11) (bf 0))) ac))))) (ah (aF gC (aa (ah (ak aU (ax 11) (bf 1))) ac))))) (ax 8))) (aJ (hU (i:=false))) aY)) (aq (cM (nX (fi (ak xk (ah (aF aV (aa (ax 3) ac))) (bf 6))) (fi (ak dQ (ah (ak eA (ax 5) (ah (ay (c:=iW) (aa (bR 4) ac))))) (ax 8)))) (aJ (hU (i:=false))) aY) (aJ (gy (ak gh (ah (ay (c:=dw) (aa (ah (xv (c0:="Family") (c:=bT) (aa (ah (aF di (aa (ax 2) ac))) ac))) ac))) (ax 7)) (ak gh (ah (ay (c:=dw) (aa (bR 6) ac))) (ax 7))))))))))))))))))))))
def yI:PTS:=psO BA
def Dn(ns:List Int)(h63:ns.length<=63)(Q:PV->Prop)(q:Q (.dat (.bl true))):Fl yI Bx [.scr ns] Q:=by
 show yI _ [some (.dat (.scr ns)),none,none,none,none,none,none,none,none,none,none,none];have g0:ns.length<=64/\(0:Int)<=200/\(200:Int)<=2000:=⟨by omega,by decide,by decide⟩
 walk_at "r";rintro z1 hz1 hl1;have hl1:z1.length=200:=hl1;have g1:Dk z1/\4+(6:Int)<=(z1.length:Int)/\z1.length<=10000/\(1:Int)<=6/\(6:Int)<=40:=⟨hz1,by omega,by omega,by decide,by decide⟩
 walk_at "r";rintro p0 z2 hp0 hp6 hps0 hz2 hl2 hl2';have g2:Dk z2/\0<z2.length/\z2.length<=100000:=⟨hz2,by omega,by omega⟩
 walk_at "r"
 refine⟨λρ=>∃(ps:List (List Nat)) (z3:List Int) (f2:PV),(f2=.own (ps.map .str)\/f2=.dat (.lst (ps.map .str)))/\(ps.length<=6/\Pcs 60 ps)/\Dk z3/\189<=z3.length/\z3.length<=200/\ρ=[some (.dat (.scr ns)),some (.own (z3.map .int)),some f2,none,none,none,none,none,none,none,none,none],?_,?_⟩
 .walk_at "r";rintro y1 z3 hy10 hy11 hz3 hl3;walk_at "r"
  refine iF (λc=>?_) (λc=>?_)
  .exact⟨by decide,[],z3,_,.inl rfl,⟨by decide,λw hw=>(nomatch hw)⟩,hz3,by omega,by omega,rfl⟩
  .exact⟨p0,z3,_,.inr rfl,⟨by omega,hps0⟩,hz3,by omega,by omega,rfl⟩
 rintro ρ ⟨p1,z3,f2,hf,⟨hp1,hps1⟩,hz3,hl3,hl3',rfl⟩;have g3:Dk z3/\0<z3.length/\z3.length<=100000:=⟨hz3,by omega,by omega⟩
 walk_at "r"
 refine⟨λρ=>∃(ps:List (List Nat)) (z5:List Int) (f2:PV),(f2=.own (ps.map .str)\/f2=.dat (.lst (ps.map .str)))/\(ps.length<=12/\Pcs 60 ps)/\Dk z5/\168<=z5.length/\z5.length<=200/\ρ=[some (.dat (.scr ns)),some (.own (z5.map .int)),some f2,none,none,none,none,none,none,none,none,none],?_,?_⟩
 .walk_at "r";rintro y1 z4 hy10 hy11 hz4 hl4;have g4:Dk z4/\20<=z4.length/\z4.length<=10000:=⟨hz4,by omega,by omega⟩
  walk_at "r"
  refine iF (λc=>?_) (λc=>?_)
  .walk_at "r";rintro ps z5 hpl hps hz5 hl5 hl5';exact⟨ps,z5,_,.inr rfl,⟨hpl,hps⟩,hz5,by omega,by omega,rfl⟩
  .exact⟨p1,z4,_,hf,⟨by omega,hps1⟩,hz4,by omega,by omega,rfl⟩
 rintro ρ ⟨ps,z5,f2,hf2,⟨hpl,hps⟩,hz5,hl5,hl5',rfl⟩;refine Dl (P:=λf2=>lH _ _ _ (_::_::some f2::_)) hf2 (λx=>x) ?_;clear hf2 hf f2;have hk:ps.length<=40/\∀w∈ps,w.length<=60/\Lts w:=⟨by omega,λw hw=>⟨(hps w hw).2.1,(hps w hw).2.2⟩⟩
 have hwn:=n0 ps;have hws:∀w∈ap ps,0<w.length/\w.length<=10000:=λw hw=>⟨(jQ hps w hw).1,by have:=(jQ hps w hw).2.1;omega⟩
 have hw40:(ap ps).length<=40:=by omega
 have hwm:((ap ps).map D.str).length=(ap ps).length:=length_map _;walk_at "r"
 refine cm1 (e:=D.str) (xs:=ap ps) (λw=>GL (ap ps) w) (λw hw v K1 k1=>?_) (λv=>?_)
 .have w1:=hws w hw;walk_at "r"
  refine cm1 (e:=D.str) (xs:=ap ps) (λu=>.int (eC w u:Int)) (λu hu v K1 k1=>?_) (λv=>?_)
  .have u1:=hws u hu;walk_at "r";exact k1 _
  .exact k1 _
 walk_at "r";have hlL:((ap ps).map λw=>GL (ap ps) w)=dy (ap ps):=rfl;rw [hlL];have hlm:(dy (ap ps)).length=(ap ps).length:=length_map _
 refine cm1 (e:=D.str) (xs:=ap ps) (λw=>.int (w.length:Int)) (λw hw v K1 k1=>?_) (λv=>?_)
 .walk_at "r";exact k1 _
 have eT:((ap ps).map λw=>D.int (w.length:Int))=((ap ps).map λw=>(w.length:Int)).map D.int:=by rw [map_map];rfl
 rw [eT];walk_at "r";rw [show ((ap ps).map λw=>(w.length:Int)).sum=lT ps from rfl];walk_at "r";have hP:=Gn (ws:=ap ps)
 have gpb:(ap ps).length<=40/\(∀zs∈[paG (ap ps),paT (ap ps)],zs.length=(ap ps).length/\∀z∈zs,0<=z)/\∀i j,i<(ap ps).length->j<(ap ps).length->i≠j->(eC (pw (ap ps) i) (pw (ap ps) j):Int)<=(paG (ap ps)).getD i 0+(paT (ap ps)).getD j 0:=⟨hw40,λzs h=>by
  simp only [mem_cons,not_mem_nil,or_false] at h
  rcases h with rfl|rfl
  .exact hP.g
  .exact hP.t,hP.p⟩
 refine⟨_,_,rfl,⟨hw40,hP⟩,?_⟩;walk_at "r";refine⟨_,_,rfl,gpb,?_⟩;have sq:=yw hw40 hws;walk_at "r";refine⟨_,_,rfl,sq,?_⟩;walk_at "r";have lJ:=(mi (ws:=ap ps)).2.2;have hJ:=yE (ws:=ap ps);rw [toNat_natCast,hwm];rw [show bpJ (ap ps).length (fF (ap ps))=paJ (ap ps) from rfl]
 refine rL (λτ=>∃v,τ=[v,some (.dat (.lst (me (ap ps).length (fF (ap ps))))),some (.dat (.tup ((paJ (ap ps)).map nD)))]) (λi=>.int (fF (ap ps) i ((paJ (ap ps)).getD i 0))) ⟨_,rfl⟩ ?_ ?_
 .rintro i τ _ hi rfl ⟨v,rfl⟩ K1 k1;have hj:(paJ (ap ps)).getD i 0<(ap ps).length:=JB.mp (hJ.mem_iff.mp (gDm (by omega)));walk_at "r";refine⟨_,dL (j:=i) (by rw [gV,Jv (by omega)];rfl) rfl,?_⟩;walk_at "r";refine⟨_,yz (by omega),?_⟩;walk_at "r";refine⟨_,j6 hj,?_⟩;exact k1 _ ⟨_,rfl⟩
 rintro τ ⟨v2,rfl⟩;have eS:(c_ (ap ps).length).map (λi=>D.int (fF (ap ps) i ((paJ (ap ps)).getD i 0)))=((c_ (ap ps).length).map λi=>fF (ap ps) i ((paJ (ap ps)).getD i 0)).map D.int:=by rw [map_map];rfl
 rw [eS];walk_at "r";rw [show ((c_ (ap ps).length).map λi=>fF (ap ps) i ((paJ (ap ps)).getD i 0)).sum=hX (ap ps) (paJ (ap ps)) (ap ps).length from rfl,pM];walk_at "r";intro Ps z6 hPs hPl hz6 hl6;have Pm:(Ps.map prD).length=Ps.length:=length_map _;walk_at "r"
 refine⟨λk ρ=>∃v11:Option PV,ρ=[some (.dat (.scr ns)),some (.own (z6.map .int)),some (.dat (.lst (ps.map .str))),some (.dat (.lst ((ap ps).map .str))),some (.dat (.lst (dy (ap ps)))),some (.dat (.int (lT ps))),some (.dat (.obj "Family" xL (xM ps))),some (.dat (paP (ap ps))),some (.dat (.int (lT ps - (paG (ap ps)).sum - (paT (ap ps)).sum))),some (.dat (.lst (me (ap ps).length (fF (ap ps))))),some (.dat (.tup ((paJ (ap ps)).map nD))),v11],⟨_,rfl⟩,?_,?_⟩
 .rintro k ρ d hk ed ⟨v11,rfl⟩;rw [Pm] at hk;obtain⟨p,hp,rfl⟩:∃p,p∈Ps/\d=prD p:=⟨Ps[k],Ku hk,by rw [ed];unfold itD;rw [e_,gV,cx hk];rfl⟩
  have hto:=yB (hPs p hp) hJ;rw [pM] at hto;clear ed;walk_at "r";exact⟨_,rfl⟩
 rintro ρ ⟨v11,rfl⟩;walk_at "r";have hO:rM (ap ps).length (ap ps).length (paJ (ap ps)):=⟨lJ,hJ.nodup_iff.mpr nodup_range,λx hx=>JB.mp (hJ.mem_iff.mp hx)⟩
 have S0:=(jq hws hO.lt lJ (k:=(ap ps).length) (f_ _)).1;rw [pM] at S0;have eqP:=Cm.of (Dm (ap ps)) (Dm (ap ps));have deqP:=zO (Dm (ap ps));have fin:∀b:Bool,b=true->Q (.dat (.bl b)):=λb h=>by rw [h];exact q
 refine ul (λc=>?_) (λc=>?_)
 .have c:(((ap ps).map D.str).length:Int)<6:=of_decide_eq_true c;have w5:(ap ps).length<=5:=by omega
  walk_at "r";intro m m0 hm hb;have h1:=hb _ hO;rw [pM] at h1
  have em:m=(paG (ap ps)).sum+(paT (ap ps)).sum:=by
   rcases hm with h|⟨o,ho,h⟩
   .omega
   .have:=yB hP ho.perm;omega
  subst em;walk_at "r";rw [deqP];walk_at "r";exact fin _ deqP
 .walk_at "r";rw [deqP];walk_at "r";exact fin _ deqP
def Gq:PRl By yI Bx 1:=λ_ Q h=>match h with|⟨ns,e,h63,q⟩=>e ▸ ⟨rfl,Dn ns h63 Q q⟩
local macro_rules | `(tactic| walk_at "l")=>`(tactic| (intros;rename_i h;split at h <;> first | rfl | exact h.elim))
local macro_rules | `(tactic| walk_at "b0")=>`(tactic| exact fun _ _ _ _ _ _ us hl=>match us,hl with | [],_=>rfl)
local macro_rules | `(tactic| walk_at "b1")=>`(tactic| exact fun _ _ _ _ _ _ us hl=>match us,hl with | [_],_=>rfl)
local macro_rules | `(tactic| walk_at "b2")=>`(tactic| exact fun _ _ _ _ _ _ us hl=>match us,hl with | [_,_],_=>rfl)
local macro_rules | `(tactic| walk_at "b3")=>`(tactic| exact fun _ _ _ _ _ _ us hl=>match us,hl with | [_,_,_],_=>rfl)
local macro_rules | `(tactic| walk_at "b4")=>`(tactic| exact fun _ _ _ _ _ _ us hl=>match us,hl with | [_,_,_,_],_=>rfl)
local macro_rules | `(tactic| walk_at "b5")=>`(tactic| exact fun _ _ _ _ _ _ us hl=>match us,hl with | [_,_,_,_,_],_=>rfl)
local macro_rules | `(tactic| walk_at "b6")=>`(tactic| exact fun _ _ _ _ _ _ us hl=>match us,hl with | [_,_,_,_,_,_],_=>rfl)
local macro_rules | `(tactic| walk_at "b7")=>`(tactic| exact fun _ _ _ _ _ _ us hl=>match us,hl with | [_,_,_,_,_,_,_],_=>rfl)
section
variable (P:s_) (w:World) (K:b_) (mg:Str->Option Value) (base:Heap)
abbrev jy:=Cal P w K mg base 1 "is_row" ["thing"] (spP K dX)
abbrev gP:=Cal P w K mg base 1 "is_number" ["thing"] (spP K du)
abbrev iu:=Cal P w K mg base 2 "are_numbers" ["thing","many"] (spP K eY)
abbrev jz:=Cal P w K mg base 3 "are_prices" ["thing","many"] (spP K dH)
abbrev fE:=Cal P w K mg base 4 "is_price_paper" ["thing","many"] (spP K dg)
abbrev fc:=Cal P w K mg base 1 "first_place" ["text","piece"] (spP K dq)
abbrev mJ:=Cal P w K mg base 2 "is_whole" ["thing","least","most"] (spP K fW)
abbrev ky:=Cal P w K mg base 3 "is_square" ["thing"] (spP K gI)
abbrev iw:=Cal P w K mg base 1 "way_to_free" ["rows","gives","takes","leaders","start"] (spP K eZ)
abbrev gn:=Cal P w K mg base 2 "pair_one_more" ["rows","gives","takes","leaders","start"] (spM K cz)
abbrev d0:=Cal P w K mg base 4 "best_pairing" ["rows"] (spP K cY)
abbrev iy:=Cal P w K mg base 1 "other_pairs" ["many"] (spP K e7)
abbrev kz:=Cal P w K mg base 5 "pays_laps" ["paper","laps","pairs"] (spP K gJ)
abbrev nF:=GB P w K mg base 1 (bM K "Family") "many" ["self"] (spP K cr)
abbrev iz:=Cal P w K mg base 6 "price_bound" ["family","paper"] (spP K e8)
abbrev kA:=Cal P w K mg base 5 "prices_of" ["family"] (spP K dw)
abbrev BB:=Cal P w K mg base 1 "lap" ["one","other"] (spP K qX)
abbrev mK:=Cal P w K mg base 2 "all_laps" ["words"] (spP K fX)
abbrev vS:=Ez P w K mg base 1 "is_text" ["thing","least","most"] [.int 0,.int 4000] (spP K ft)
abbrev gQ:=Cal P w K mg base 2 "check_pieces" ["things"] (spP K cZ)
abbrev dA:=Cal P w K mg base 2 "stands_within" ["piece","other"] (spP K bE)
abbrev ot:=Cal P w K mg base 3 "is_kept" ["pieces","at"] (spP K fA)
abbrev mL:=Cal P w K mg base 3 "left_row" ["pieces","kept","at"] (spP K dY)
abbrev mM:=Cal P w K mg base 1 "_law_deck" ["_law_cells","_law_many_here"] (spP K iT)
abbrev d3:=Cal P w K mg base 1 "_law_next" ["_law_deck_here"] (spR K aW)
abbrev mN:=Cal P w K mg base 1 "_law_fits" ["_law_one","_law_other","_law_k"] (spP K iU)
abbrev ou:=Cal P w K mg base 2 "_law_lap" ["_law_one","_law_other"] (spP K fB)
abbrev mO:=Cal P w K mg base 1 "_law_kept" ["_law_pieces"] (spP K iV)
abbrev fe:=Cal P w K mg base 1 "_law_spelled" ["_law_number","_law_letters"] (spP K bU)
abbrev kB:=Cal P w K mg base 2 "_law_drawn" ["_law_deck_here","_law_most_here"] (spR K gK)
abbrev kC:=Cal P w K mg base 1 "_law_whole" ["_law_found"] (spP K eG)
abbrev oz:=Cal P w K mg base 1 "_law_all" ["_law_many_here"] (spP K j7)
abbrev jA:=Cal P w K mg base 1 "_law_mended" ["_law_laps","_law_gives"] (spP K c4)
abbrev gT:=Cal P w K mg base 2 "_law_is_right" ["_law_laps","_law_paper"] (spP K dZ)
abbrev mP:=Cal P w K mg base 2 "_law_most" ["_law_laps"] (spP K iW)
abbrev jB:=Cal P w K mg base 2 "_law_others" ["_law_deck_here","_law_laps"] (spR K fY)
abbrev mQ:=Cal P w K mg base 2 "_law_many" ["_law_deck_here"] (spR K iX)
abbrev eJ:=Cal P w K mg base 1 "_law_without_own" ["_law_laps"] (spP K c5)
abbrev nG:=EB P w K mg base 4 (bM K "Family") "Family" ["self","pieces"] (spR K bT)
abbrev Gs:=Cal P w K mg base 7 "law" ["_law_script"] (spP K By)
end
section
variable (P:s_) (w:World) {K:b_}{mg:Str->Option Value} (base:Heap)
def yJ(D:a5 K mg "is_row" pH)(T:Txt mg)(TC:TxC K):jy P w K mg base:=D.oP2 ym (by walk_at "b1") yH rfl rfl λ_ _ _ _ _ _ _ hr hu=>⟨_,(am (aG (aj (Hv K rfl) rfl T.b_isinstance J8 (paC (pv 0) (paC (nU (paC (fG (v:=.ty "list") rfl T.b_list My rfl) (paC (fG (v:=.ty "tuple") rfl T.b_tuple J9 rfl) ae))) ae))))),(rc K mg TC)⟩
def rC(D:a5 K mg "is_number" iN)(T:Txt mg)(TC:TxC K):gP P w K mg base:=D.oP2 qU (by walk_at "b1") rf rfl rfl λ_ _ _ _ _ _ _ hr hu=>⟨_,(am (aG (gv (aj (sh K rfl) rfl T.b_isinstance J8 (paC (pv 0) (paC (fG (v:=.ty "int") rfl T.b_int boot_int rfl) ae))) (iY (wd (aj (sh K rfl) rfl T.b_isinstance J8 (paC (pv 0) (paC (fG (v:=.ty "bool") rfl T.b_bool boot_bool rfl) ae)))))))),(km K mg TC)⟩
def nH(D:a5 K mg "are_numbers" fP)(T:Txt mg)(TC:TxC K)(C'1:gP P w K mg base)(C'0:jy P w K mg base):iu P w K mg base:=D.oP2 m7 (by walk_at "b2") nh rfl rfl λ_ _ _ _ _ _ _ hr hu=>⟨_,(am (aG (gv (aw C'0 (hr.m rfl) (paC (pv 0) ae)) (gv (c7 (kJ K rfl hu) (aj (bH K rfl) rfl T.b_len m_ (paC (pv 0) ae)) (pv 1) (aL _)) (iY (aj (si K rfl rfl) rfl T.b_all MB (paC (bj (wi:=(hV K (aH 0))) (g:=(bg 0)) (tts:=gW) (te:=(dJ (spP K du) [] E0 (aK (aH 0) c6))) ["item"] [none] rfl (bu K rfl (pv 0)) (λ_ _ _ _=>⟨(au (i:=0) (by show u_ (["item"]:List Str);decide +kernel) rfl (by walk_at "o")),bb,(aw C'1 (hr.m rfl) (paC (pv 0) ae))⟩) (by kernel_rfl)) ae))))))),(ig K mg TC)⟩
def pT(D:a5 K mg "are_prices" gE)(T:Txt mg)(TC:TxC K)(C'2:iu P w K mg base):jz P w K mg base:=D.oP2 pI (by walk_at "b2") pO rfl rfl λ_ _ _ _ _ _ _ hr hu=>⟨_,(am (aG (gv (aw C'2 (hr.m rfl) (paC (pv 0) (paC (pv 1) ae))) (iY (aj (si K rfl rfl) rfl T.b_all MB (paC (bj (wi:=(hV K (aH 0))) (g:=(bg 0)) (tts:=gW) (te:=(tOp GF (aH 0) (tC (V.int 0)))) ["price"] [none] rfl (bu K rfl (pv 0)) (λ_ _ _ _=>⟨(au (i:=0) (by show u_ (["price"]:List Str);decide +kernel) rfl (by walk_at "o")),bb,(c7 A6 (pv 0) ao (aL _))⟩) (by kernel_rfl)) ae)))))),(jr K mg TC)⟩
def kd(D:a5 K mg "is_price_paper" dz)(T:Txt mg)(TC:TxC K)(C'3:jz P w K mg base)(C'0:jy P w K mg base):fE P w K mg base:=D.oP2 j4 (by walk_at "b2") ka rfl rfl λ_ _ _ _ _ _ _ hr hu=>⟨_,(am (aG (gv (aw C'0 (hr.m rfl) (paC (pv 0) ae)) (gv (c7 (kJ K rfl hu) (aj (bH K rfl) rfl T.b_len m_ (paC (pv 0) ae)) ao (aL _)) (iY (aj (si K rfl rfl) rfl T.b_all MB (paC (bj (wi:=(hV K (aH 0))) (g:=(bg 0)) (tts:=gW) (te:=(dJ (spP K dH) [] E0 (aK (aH 0) (aK (aH 1) c6)))) ["row","many"] [none,some 1] rfl (bu K rfl (pv 0)) (λ_ _ _ _=>⟨(au (i:=0) (by show u_ (["row","many"]:List Str);decide +kernel) rfl (by walk_at "o")),bb,(aw C'3 (hr.m rfl) (paC (pv 0) (paC (pv 1) ae)))⟩) (by kernel_rfl)) ae))))))),(fC K mg TC)⟩
def vT(D:uh K mg "is_text" fq [.int 0,.int 4000])(T:Txt mg)(TC:TxC K):Ez P w K mg base 1 "is_text" ["thing","least","most"] [.int 0,.int 4000] (spP K ft):=by
 refine D.ok vH (λdT kV doc pm an cdv ct items us n hi hn hl=>?_) (λvs H Q E h=>?_) (λf cdv A outer s H vs Q E hr h=>?_)
 .obtain⟨i0,i1,rfl⟩:=FI hi;have hn':n=0\/n=1\/n=2:=by (have:n<=2:=hn);omega
  rcases hn' with rfl|rfl|rfl
  .have hl2:us.length=1:=by (simp at hl;omega)
   obtain⟨_,rfl⟩:=HY hl2;exact⟨_,rfl,rfl⟩
  .have hl2:us.length=2:=by (simp at hl;omega)
   obtain⟨_,_,rfl⟩:=FI hl2;exact⟨_,rfl,rfl⟩
  .have hl2:us.length=3:=by (simp at hl;omega)
   obtain⟨_,_,_,rfl⟩:=HZ hl2;exact⟨_,rfl,rfl⟩
 .exact GG (λds Q h=>(kc ds Q h).1) h
 .have hu:=hr.units;exact⟨_,(af (cK (PW.pt (uO (fZ (cC (aj (sh K rfl) rfl T.b_isinstance J8 (paC (pv 0) (paC (fG (v:=.ty "str") rfl T.b_str boot_str rfl) ae))))) (nP (fZ (yV Ds Ds (pv 1) (aj (bH K rfl) rfl T.b_len m_ (paC (pv 0) ae)) (pv 2)))))) (am (aG g9)) aX) (am (aG (aj (si K rfl rfl) rfl T.b_all MB (paC (bj (wi:=(hV K (aH 0))) (g:=(bg 0)) (tts:=gW) (te:=(tZ GE GE (tC (V.str (S [97]))) (aH 0) (tC (V.str (S [122]))))) ["sign"] [none] rfl (bu K rfl (pv 0)) (λ_ _ _ _=>⟨(au (i:=0) (by show u_ (["sign"]:List Str);decide +kernel) rfl (by walk_at "o")),bb,(t7 Ds Ds (eN (l:=[97]) (by decide +kernel)) (pv 0) (eN (l:=[122]) (by decide +kernel)))⟩) (by kernel_rfl)) ae))))),fnP (K:=K) (c:=ft) (ps:=oh) (N:=["thing","least","most"]) (aq (cM (vh (gc (rK (lG .str (fh (i:=0))))) (gc (fi (oX vk vk (fh (i:=1)) (ah (aF aV (aa (fh (i:=0)) ac))) (fh (i:=2)))))) (aJ (hU (i:=false))) aY) (aJ (aF lN (aa (ah (aM (ix:=[none]) rfl (bv (jb (i:=0))) (λfs hc=>(dC (i:=0) (fm hc (by decide)))) bF (oX vk vk (ah (le_str (l:=[97]))) (fh (i:=0)) (ah (le_str (l:=[122])))))) ac)))) (λds Q h=>F_ (LQ (kc ds Q h).1) (by decide)) (λds Q h=>(kc ds Q h).2) h⟩
def nI(D:a5 K mg "first_place" fQ)(T:Txt mg)(TC:TxC K):fc P w K mg base:=D.oP2 m8 (by walk_at "b2") nq rfl rfl λ_ _ _ _ _ _ _ hr hu=>⟨_,(am (aG (gb K rfl MO PySem.F.slot_str_find PySem.F.type_str_find zJ (pv 0) (paC (pv 1) ae)))),(ik K mg TC)⟩
def tJ(D:a5 K mg "is_whole" jT)(T:Txt mg)(TC:TxC K)(C'1:gP P w K mg base):mJ P w K mg base:=D.oP2 sH (by walk_at "b3") sS rfl rfl λ_ _ _ _ _ _ _ hr hu=>⟨_,(am (aG (gv (aw C'1 (hr.m rfl) (paC (pv 0) ae)) (iY (t7 Ds Ds (pv 1) (pv 0) (pv 2)))))),(ml K mg TC)⟩
def rD(D:a5 K mg "is_square" iO)(T:Txt mg)(TC:TxC K)(C'0:jy P w K mg base)(C'7:mJ P w K mg base):ky P w K mg base:=D.oP2 qV (by walk_at "b1") rh rfl rfl λ_ _ _ _ _ _ _ hr hu=>⟨_,(af (cK (PW.pt (uO (fZ (cC (aw C'0 (hr.m rfl) (paC (pv 0) ae)))) (nP (aI Dv (aj (bH K rfl) rfl T.b_len m_ (paC (pv 0) ae)) (kU rfl T.g_MOST_ROWS) (aL _))))) (am (aG g9)) aX) (af (cK (fZ (cC (aj (si K rfl rfl) rfl T.b_all MB (paC (bj (wi:=(hV K (aH 0))) (g:=(bg 0)) (tts:=gW) (te:=(BH (dJ (spP K dX) [] E0 (aK (aH 0) c6)) (tOp (kI K false) (tCB (jK K) (aK (aH 0) c6)) (tCB (jK K) (aK (aH 1) c6))))) ["row","thing"] [none,some 0] rfl (bu K rfl (pv 0)) (λ_ _ _ _=>⟨(au (i:=0) (by show u_ (["row","thing"]:List Str);decide +kernel) rfl (by walk_at "o")),bb,(gv (aw C'0 (hr.m rfl) (paC (pv 0) ae)) (iY (c7 (kJ K rfl hu) (aj (bH K rfl) rfl T.b_len m_ (paC (pv 0) ae)) (aj (bH K rfl) rfl T.b_len m_ (paC (pv 1) ae)) (aL _))))⟩) (by kernel_rfl)) ae)))) (am (aG g9)) aX) (am (aG (aj (si K rfl rfl) rfl T.b_all MB (paC (ut (wi:=(hV K (aH 0))) (g:=(bg 0)) (tts:=gW) (wi2:=(hV K (aH 0))) (g2:=(bg 1)) (tts2:=gW) (te:=(dJ (spP K fW) [] E0 (aK (aH 1) (aK (tC (V.int 0)) (aK (tC (V.int 1000000)) c6))))) ["row","item"] [none,none] rfl (bu K rfl (pv 0)) (λ_ _ _ _=>⟨(au (i:=0) (by show u_ (["row","item"]:List Str);decide +kernel) rfl (by walk_at "o")),bb,(bu K rfl (pv 0)),(au (i:=1) (by show u_ (["row","item"]:List Str);decide +kernel) rfl (by walk_at "o")),bb,(aw C'7 (hr.m rfl) (paC (pv 1) (paC ao (paC (kU rfl T.g_MOST_NUMBER) ae))))⟩) (by kernel_rfl)) ae)))))),(kn K mg TC)⟩
def nJ(D:a5 K mg "way_to_free" fR)(T:Txt mg)(TC:TxC K):iw P w K mg base:=D.oP20 aZ (by walk_at "b5") nt rfl rfl λ_ _ _ _ _ _ _ hr hu=>⟨_,(af (aE (i:=5) aZ.nd rfl (by walk_at "o") ug) (af (aE (i:=6) aZ.nd rfl (by walk_at "o") ug) (af (CZ (i:=7) (j:=8) (k:=9) rfl aZ.nd rfl rfl rfl (by decide) rfl rfl rfl (paC (pv 4) (paC ao (paC (yU tY ao) ae))) (by rfl)) (af (oE tf (aI A6 (pv 7) ao (aL _)) (af (bX tf rfl (kW K rfl rfl T.b_enumerate (paC (aT (cu K rfl) (pv 0) (pv 7) (λ_ _=>rfl)) ae)) (ki K rfl (n:=2) rfl (bI (au (i:=10) aZ.nd rfl (by walk_at "o")) (bI (au (i:=11) aZ.nd rfl (by walk_at "o")) gw))) (af (aE (i:=12) aZ.nd rfl (by walk_at "o") (aD jf (aD (bw K rfl) (aD (bw K rfl) (pv 8) (aT (cu K rfl) (pv 1) (pv 7) (λ_ _=>rfl))) (aT (cu K rfl) (pv 2) (pv 10) (λ_ _=>rfl))) (pv 11))) (am (cK (PW.pt (nQ (aI (uH hu) (pv 10) (pv 5) (by with_unfolding_all rfl)) (jD (PW.pt (uO (aI (uH hu) (pv 10) (pv 6) (by with_unfolding_all rfl)) (nP (aI EG (pv 12) (aT (cu K rfl) (g6 hu (pv 6) (pv 10) (λ_ _=>rfl)) ao (λ_ _=>rfl)) (aL _)))))))) (am (uJ (hu1 hu) (pv 6) (pv 10) (nU (paC (pv 12) (paC (pv 9) ae))))) aX)))) (af (tX (aj (CW K rfl rfl hu) rfl T.b_min boot_min (paC (FY (bj (wi:=(iDk (aH 6))) (g:=(bg 0)) (tts:=gW) (te:=(D0 (aK (tOp (kH K) (tOp yi (aH 1) (aH 0)) (tC (V.int 0))) (aK (aH 0) c6)))) ["j","near"] [none,some 6] rfl (FZ (pv 6)) (λ_ _ _ _=>⟨(au (i:=0) (by show u_ (["j","near"]:List Str);decide +kernel) rfl (by walk_at "o")),bb,(nU (paC (aT (cu K rfl) (g6 hu (pv 1) (pv 0) (λ_ _=>rfl)) ao (λ_ _=>rfl)) (paC (pv 0) ae)))⟩) (by kernel_rfl))) ae)) (ki K rfl (n:=2) rfl (bI (au (i:=8) aZ.nd rfl (by walk_at "o")) (bI (au (i:=9) aZ.nd rfl (by walk_at "o")) gw)))) (af (uJ (hu1 hu) (pv 5) (pv 9) (zv (pv 6) (pv 9) ⟨rfl,rfl,rfl,rfl⟩)) (am (aE (i:=7) aZ.nd rfl (by walk_at "o") (aT (cu K rfl) (pv 3) (pv 9) (λ_ _=>rfl)))))))) (am (aG (pv 5))))))),(il K mg TC)⟩
def kQ(D:a5 K mg "pair_one_more" dS)(T:Txt mg)(TC:TxC K)(C'9:iw P w K mg base):gn P w K mg base:=D.oM2 bq (by walk_at "b5") kN rfl rfl λ_ _ _ _ _ _ _ hr hu=>⟨_,(af (aE (i:=5) bq.nd rfl (by walk_at "o") (aw C'9 (hr.m rfl) (paC (pv 0) (paC (pv 1) (paC (pv 2) (paC (pv 3) (paC (pv 4) ae))))))) (af (aE (i:=6) bq.nd rfl (by walk_at "o") (aT (cu K rfl) (aQ (C7 rfl) rfl T.b_list My (paC (pv 5) ae)) (yU tY ao) (λ_ _=>rfl))) (af (aE (i:=7) bq.nd rfl (by walk_at "o") (aT (cu K rfl) (g6 hu (pv 5) (pv 6) (λ_ _=>rfl)) ao (λ_ _=>rfl))) (af (rR (pv 1) (pv 4) (lW K rfl) (pv 7) AK i3) (af (F4 (bX tf rfl (FZ (pv 5)) (au (i:=8) bq.nd rfl (by walk_at "o")) (am (cK (aI A6 (aT (cu K rfl) (pv 3) (pv 8) (λ_ _=>rfl)) ao (aL _)) (af (rR (pv 2) (pv 8) (lW K rfl) (aD jf (pv 7) (aT (cu K rfl) (g6 hu (pv 5) (pv 8) (λ_ _=>rfl)) ao (λ_ _=>rfl))) DS i3) (am (rR (pv 1) (aT (cu K rfl) (pv 3) (pv 8) (λ_ _=>rfl)) (lW K rfl) (aD jf (pv 7) (aT (cu K rfl) (g6 hu (pv 5) (pv 8) (λ_ _=>rfl)) ao (λ_ _=>rfl))) AK i3))) aX)))) (am (oE tf (aI A6 (pv 6) ao (aL _)) (af (aE (i:=9) bq.nd rfl (by walk_at "o") (aT (cu K rfl) (g6 hu (pv 5) (pv 6) (λ_ _=>rfl)) ao (λ_ _=>rfl))) (af (xY (tW (aI A6 (pv 9) ao (aL _)) (aT (cu K rfl) (pv 3) (pv 9) (λ_ _=>rfl)) (pv 4)) (AJ (pv 3) (pv 6) i3)) (am (aE (i:=6) bq.nd rfl (by walk_at "o") (pv 9)))))))))))),(gl K mg TC)⟩
def mR(D:a5 K mg "best_pairing" eU)(T:Txt mg)(TC:TxC K)(C'8:ky P w K mg base)(C'10:gn P w K mg base):d0 P w K mg base:=D.oP2 bK (by walk_at "b1") mr rfl rfl λ_ _ _ _ _ _ _ hr hu=>⟨_,(af (cK (fZ (cC (aw C'8 (hr.m rfl) (paC (pv 0) ae)))) (am oB) aX) (af (iC (wi:=(hV K (aH 0))) (g:=(bg 0)) (tts:=gW) (te:=(tCB (C2 K) (aK (aH 0) c6))) (i:=1) ["row"] [none] bK.nd rfl (M3 rfl) rfl (bu K rfl (pv 0)) (λ_ _ _ _=>⟨(au (i:=0) (by show u_ (["row"]:List Str);decide +kernel) rfl (by walk_at "o")),bb,(aj (FS K rfl rfl) rfl T.b_max boot_max (paC (pv 0) ae))⟩) (by kernel_rfl)) (af (iC (wi:=(hV K (aH 0))) (g:=(bg 0)) (tts:=gW) (te:=(tC (V.int 0))) (i:=2) ["row"] [none] bK.nd rfl (M3 rfl) rfl (bu K rfl (pv 0)) (λ_ _ _ _=>⟨(au (i:=0) (by show u_ (["row"]:List Str);decide +kernel) rfl (by walk_at "o")),bb,ao⟩) (by kernel_rfl)) (af (aE (i:=3) bK.nd rfl (by walk_at "o") (bj (wi:=(hV K (aH 0))) (g:=(bg 0)) (tts:=gW) (te:=(tUn Fj (tC (V.int 1)))) ["row"] [none] rfl (bu K rfl (pv 0)) (λ_ _ _ _=>⟨(au (i:=0) (by show u_ (["row"]:List Str);decide +kernel) rfl (by walk_at "o")),bb,(yU tY ao)⟩) (by kernel_rfl))) (af (bX tf rfl (aN rfl T.b_range (paC (aj (bH K rfl) rfl T.b_len m_ (paC (pv 0) ae)) ae)) (au (i:=4) bK.nd rfl (by walk_at "o")) (am (dI (aw C'10 (hr.m rfl) (paC (pv 0) (paC (pv 1) (paC (pv 2) (paC (pv 3) (paC (pv 4) ae))))))))) (af (aE (i:=5) bK.nd rfl (by walk_at "o") (aQ (eP K rfl) rfl T.b_tuple J9 (paC (bj (wi:=(mU (aK (tCB (jK K) (aK (aH 0) c6)) c6))) (g:=(bg 0)) (tts:=gW) (te:=(tBM K "list" (CO K) (aH 1) (aK (aH 0) c6))) ["i","leaders"] [none,some 3] rfl (aN rfl T.b_range (paC (aj (bH K rfl) rfl T.b_len m_ (paC (pv 0) ae)) ae)) (λ_ _ _ _=>⟨(au (i:=0) (by show u_ (["i","leaders"]:List Str);decide +kernel) rfl (by walk_at "o")),bb,(gb K rfl C0 PySem.F.slot_list_index PySem.F.type_list_index (CP K rfl) (pv 1) (paC (pv 0) ae))⟩) (by kernel_rfl)) ae))) (am (aG (nU (paC (pv 5) (paC (aQ (eP K rfl) rfl T.b_tuple J9 (paC (pv 1) ae)) (paC (aQ (eP K rfl) rfl T.b_tuple J9 (paC (pv 2) ae)) ae)))))))))))),(gL K mg TC)⟩
def nK(D:a5 K mg "other_pairs" fS)(T:Txt mg)(TC:TxC K):iy P w K mg base:=D.oP2 ic (by walk_at "b1") nv rfl rfl λ_ _ _ _ _ _ _ hr hu=>⟨_,(af (aE (i:=1) ic.nd rfl (by walk_at "o") (aQ (A3 K rfl rfl) rfl T.b_list My (paC (qo rfl T.b_range (paC (pv 0) ae)) ae))) (am (aG (ut (wi:=(hV K (aH 1))) (g:=(bg 0)) (tts:=gW) (wi2:=(hV K (aH 2))) (g2:=(bg 1)) (tts2:=(iZ (tOp (kI K true) (aH 0) (aH 1)))) (te:=(D0 (aK (aH 0) (aK (aH 1) c6)))) ["i","j","numbers"] [none,none,some 1] rfl (bu K rfl (pv 1)) (λ_ _ _ _=>⟨(au (i:=0) (by show u_ (["i","j","numbers"]:List Str);decide +kernel) rfl (by walk_at "o")),bb,(bu K rfl (pv 2)),(au (i:=1) (by show u_ (["i","j","numbers"]:List Str);decide +kernel) rfl (by walk_at "o")),(fL (aI (iJ K rfl hu) (pv 0) (pv 1) (aL _))),(nU (paC (pv 0) (paC (pv 1) ae)))⟩) (by kernel_rfl))))),(im K mg TC)⟩
def rE(D:a5 K mg "pays_laps" iP)(T:Txt mg)(TC:TxC K)(C'4:fE P w K mg base):kz P w K mg base:=D.oP2 gH (by walk_at "b3") rk rfl rfl λ_ _ _ _ _ _ _ hr hu=>⟨_,(af (cK (fZ (cC (aw C'4 (hr.m rfl) (paC (pv 0) (paC (aj (bH K rfl) rfl T.b_len m_ (paC (pv 1) ae)) ae))))) (am (aG g9)) aX) (af (tX (pv 0) (ki K rfl (n:=2) rfl (bI (au (i:=3) gH.nd rfl (by walk_at "o")) (bI (au (i:=4) gH.nd rfl (by walk_at "o")) gw)))) (am (aG (aj (si K rfl rfl) rfl T.b_all MB (paC (bj (wi:=(hV K (aH 2))) (g:=(CL K 2 (jE (bg 0) (jE (bg 1) BI)))) (tts:=gW) (te:=(tOp GF (tOp (Ab K) (tOp (kH K) (aH 2) (aH 0)) (tOp (kH K) (aH 3) (aH 1))) (tOp (kH K) (tOp (kH K) (aH 4) (aH 0)) (aH 1)))) ["i","j","gives","takes","laps"] [none,none,some 3,some 4,some 1] rfl (bu K rfl (pv 2)) (λ_ _ _ _=>⟨(ki K rfl (n:=2) rfl (bI (au (i:=0) (by show u_ (["i","j","gives","takes","laps"]:List Str);decide +kernel) rfl (by walk_at "o")) (bI (au (i:=1) (by show u_ (["i","j","gives","takes","laps"]:List Str);decide +kernel) rfl (by walk_at "o")) gw))),bb,(c7 A6 (aD (bw K rfl) (aT (cu K rfl) (pv 2) (pv 0) (λ_ _=>rfl)) (aT (cu K rfl) (pv 3) (pv 1) (λ_ _=>rfl))) (aT (cu K rfl) (aT (cu K rfl) (pv 4) (pv 0) (λ_ _=>rfl)) (pv 1) (λ_ _=>rfl)) (aL _))⟩) (by kernel_rfl)) ae)))))),(ko K mg TC)⟩
def nL(D:a5 K mg "price_bound" fT)(T:Txt mg)(TC:TxC K)(C'23:nF P w K mg base)(C'12:iy P w K mg base)(C'13:kz P w K mg base):iz P w K mg base:=D.oP2 eX (by walk_at "b2") nz rfl rfl λ_ _ _ _ _ _ _ hr hu=>⟨_,(af (cK (fZ (cC (aw C'13 (hr.m rfl) (paC (pv 1) (paC (c9 K rfl (pv 0) rfl) (paC (aw C'12 (hr.m rfl) (paC (zA (pv 0) TC.cl_Family C'23 (hr.m rfl)) ae)) ae)))))) (am (aG DJ)) aX) (af (tX (pv 1) (ki K rfl (n:=2) rfl (bI (au (i:=2) eX.nd rfl (by walk_at "o")) (bI (au (i:=3) eX.nd rfl (by walk_at "o")) gw)))) (am (aG (aD jf (aD jf (c9 K rfl (pv 0) rfl) (aj (kj K rfl rfl) rfl T.b_sum LR (paC (pv 2) ae))) (aj (kj K rfl rfl) rfl T.b_sum LR (paC (pv 3) ae))))))),(io K mg TC)⟩
def rF(D:a5 K mg "prices_of" iQ)(T:Txt mg)(TC:TxC K)(C'11:d0 P w K mg base):kA P w K mg base:=D.oP2 kl (by walk_at "b1") rp rfl rfl λ_ _ _ _ _ _ _ hr hu=>⟨_,(af (iC (wi:=(vg K (aK (wu K (aH 0) "laps") c6))) (g:=(CL K 2 (jE (bg 0) (jE (bg 1) BI)))) (tts:=gW) (te:=(ql [none,none,some 0] (vg K (aK (aH 1) c6)) (CL K 2 (jE (bg 0) (jE (bg 1) BI))) gW (tIf (iZ (tOp (kI K true) (aH 2) (aH 0))) (aH 1) (tC (V.int 0))))) (i:=1) ["i","row"] [none,none] kl.nd rfl (M3 rfl) rfl (kW K rfl rfl T.b_enumerate (paC (c9 K rfl (pv 0) rfl) ae)) (λ_ _ _ _=>⟨(ki K rfl (n:=2) rfl (bI (au (i:=0) (by show u_ (["i","row"]:List Str);decide +kernel) rfl (by walk_at "o")) (bI (au (i:=1) (by show u_ (["i","row"]:List Str);decide +kernel) rfl (by walk_at "o")) gw))),bb,(bj (wi:=(vg K (aK (aH 1) c6))) (g:=(CL K 2 (jE (bg 0) (jE (bg 1) BI)))) (tts:=gW) (te:=(tIf (iZ (tOp (kI K true) (aH 2) (aH 0))) (aH 1) (tC (V.int 0)))) ["j","k","i"] [none,none,some 0] rfl (kW K rfl rfl T.b_enumerate (paC (pv 1) ae)) (λ_ _ _ _=>⟨(ki K rfl (n:=2) rfl (bI (au (i:=0) (by show u_ (["j","k","i"]:List Str);decide +kernel) rfl (by walk_at "o")) (bI (au (i:=1) (by show u_ (["j","k","i"]:List Str);decide +kernel) rfl (by walk_at "o")) gw))),bb,(tW (aI (iJ K rfl hu) (pv 2) (pv 0) (aL _)) (pv 1) ao)⟩) (by kernel_rfl))⟩) (by kernel_rfl)) (am (aG (cQ (xn K rfl) (aw C'11 (hr.m rfl) (paC (pv 1) ae)) (cA ao) iA)))),(kq K mg TC)⟩
def Gu(D:a5 K mg "lap" C8)(T:Txt mg)(TC:TxC K):BB P w K mg base:=D.oP2 Br (by walk_at "b2") Gp rfl rfl λ_ _ _ _ _ _ _ hr hu=>⟨_,(af (bX tf rfl (wP rfl T.b_range (paC (aD jf (aj (A1 rfl) rfl T.b_min boot_min (paC (aj (bH K rfl) rfl T.b_len m_ (paC (pv 0) ae)) (paC (aj (bH K rfl) rfl T.b_len m_ (paC (pv 1) ae)) ae))) ao) (paC ao (paC (yU tY ao) ae)))) (au (i:=2) Br.nd rfl (by walk_at "o")) (am (cK (cC (gb K rfl MO PySem.F.slot_str_endswith PySem.F.type_str_endswith CC (pv 0) (paC (cQ (xn K rfl) (pv 1) iA (cA (pv 2))) ae))) (am (aG (pv 2))) aX))) (am (aG ao))),(Bz K mg TC)⟩
def tK(D:a5 K mg "all_laps" jU)(T:Txt mg)(TC:TxC K)(C'16:BB P w K mg base):mK P w K mg base:=D.oP2 sI (by walk_at "b1") sV rfl rfl λ_ _ _ _ _ _ _ hr hu=>⟨_,(am (aG (aQ (eP K rfl) rfl T.b_tuple J9 (paC (bj (wi:=(hV K (aH 0))) (g:=(bg 0)) (tts:=gW) (te:=(tCB (CA K) (aK (ql [none,some 0] (hV K (aH 1)) (bg 0) gW (dJ (spP K qX) [] E0 (aK (aH 1) (aK (aH 0) c6)))) c6))) ["one","words"] [none,some 0] rfl (bu K rfl (pv 0)) (λ_ _ _ _=>⟨(au (i:=0) (by show u_ (["one","words"]:List Str);decide +kernel) rfl (by walk_at "o")),bb,(aQ (eP K rfl) rfl T.b_tuple J9 (paC (bj (wi:=(hV K (aH 1))) (g:=(bg 0)) (tts:=gW) (te:=(dJ (spP K qX) [] E0 (aK (aH 1) (aK (aH 0) c6)))) ["other","one"] [none,some 0] rfl (bu K rfl (pv 1)) (λ_ _ _ _=>⟨(au (i:=0) (by show u_ (["other","one"]:List Str);decide +kernel) rfl (by walk_at "o")),bb,(aw C'16 (hr.m rfl) (paC (pv 1) (paC (pv 0) ae)))⟩) (by kernel_rfl)) ae))⟩) (by kernel_rfl)) ae)))),(mw K mg TC)⟩
def mS(D:a5 K mg "check_pieces" eV)(T:Txt mg)(TC:TxC K)(C'5:vS P w K mg base):gQ P w K mg base:=D.oP2 dW (by walk_at "b1") my rfl rfl λ_ _ _ _ _ _ _ hr hu=>⟨_,(af (cK (aI Dv (aj (bH K rfl) rfl T.b_len m_ (paC (pv 0) ae)) (kU rfl T.g_MOST_PIECES) (aL _)) (am oB) aX) (am (bX tf rfl (kW K rfl rfl T.b_enumerate (paC (pv 0) ae)) (ki K rfl (n:=2) rfl (bI (au (i:=1) dW.nd rfl (by walk_at "o")) (bI (au (i:=2) dW.nd rfl (by walk_at "o")) gw))) (am (cK (fZ (cC (zU 2 C'5 (hr.m rfl) (by decide) (paC (pv 2) (paC ao (paC (kU rfl T.g_MOST_SIGNS) ae)))))) (am oB) aX))))),(gM K mg TC)⟩
def kR(D:a5 K mg "stands_within" dU)(T:Txt mg)(TC:TxC K)(C'6:fc P w K mg base):dA P w K mg base:=D.oP2 kL (by walk_at "b2") kP rfl rfl λ_ _ _ _ _ _ _ hr hu=>⟨_,(am (aG (c7 A6 (aw C'6 (hr.m rfl) (paC (pv 1) (paC (pv 0) ae))) ao (aL _)))),(gm K mg TC)⟩
def vU(D:a5 K mg "is_kept" l5)(T:Txt mg)(TC:TxC K)(C'19:dA P w K mg base):ot P w K mg base:=D.oP2 j5 (by walk_at "b2") vN rfl rfl λ_ _ _ _ _ _ _ hr hu=>⟨_,(af (aE (i:=2) j5.nd rfl (by walk_at "o") (aT (cu K rfl) (pv 0) (pv 1) (λ_ _=>rfl))) (af (iC (wi:=(hV K (aH 0))) (g:=(bg 0)) (tts:=(iZ (tOp HE (tCB (jK K) (aK (aH 0) c6)) (tCB (jK K) (aK (aH 1) c6))))) (te:=(aH 0)) (i:=3) ["other","piece"] [none,some 2] j5.nd rfl (M3 rfl) rfl (bu K rfl (pv 0)) (λ_ _ _ _=>⟨(au (i:=0) (by show u_ (["other","piece"]:List Str);decide +kernel) rfl (by walk_at "o")),(fL (aI Dv (aj (bH K rfl) rfl T.b_len m_ (paC (pv 0) ae)) (aj (bH K rfl) rfl T.b_len m_ (paC (pv 1) ae)) (aL _))),(pv 0)⟩) (by kernel_rfl)) (am (aG (gv (c7 (kX K rfl) (pv 2) (cQ (xn K rfl) (pv 0) iA (cA (pv 1))) (by with_unfolding_all rfl)) (iY (wd (aj (HA K rfl rfl) rfl T.b_any boot_any (paC (bj (wi:=(hV K (aH 3))) (g:=(bg 0)) (tts:=gW) (te:=(dJ (spP K bE) [] E0 (aK (aH 1) (aK (aH 0) c6)))) ["other","piece"] [none,some 2] rfl (bu K rfl (pv 3)) (λ_ _ _ _=>⟨(au (i:=0) (by show u_ (["other","piece"]:List Str);decide +kernel) rfl (by walk_at "o")),bb,(aw C'19 (hr.m rfl) (paC (pv 1) (paC (pv 0) ae)))⟩) (by kernel_rfl)) ae))))))))),(oi K mg TC)⟩
def tM(D:a5 K mg "left_row" jV)(T:Txt mg)(TC:TxC K)(C'6:fc P w K mg base)(C'19:dA P w K mg base):mL P w K mg base:=D.oP2 ma (by walk_at "b3") sX rfl rfl λ_ _ _ _ _ _ _ hr hu=>⟨_,(af (aE (i:=3) ma.nd rfl (by walk_at "o") (aj (E4 K rfl rfl) rfl T.b_min boot_min (paC (bj (wi:=(hV K (aH 1))) (g:=(bg 0)) (tts:=(tB (dJ (spP K bE) [] E0 (aK (tOp (kH K) (aH 1) (aH 2)) (aK (tOp (kH K) (aH 1) (aH 0)) c6))))) (te:=(aH 0)) ["one","pieces","at"] [none,some 0,some 2] rfl (bu K rfl (pv 1)) (λ_ _ _ _=>⟨(au (i:=0) (by show u_ (["one","pieces","at"]:List Str);decide +kernel) rfl (by walk_at "o")),(fL (cC (aw C'19 (hr.m rfl) (paC (aT (cu K rfl) (pv 1) (pv 2) (λ_ _=>rfl)) (paC (aT (cu K rfl) (pv 1) (pv 0) (λ_ _=>rfl)) ae))))),(pv 0)⟩) (by kernel_rfl)) ae))) (am (aG (nU (paC (pv 2) (paC (pv 3) (paC (aw C'6 (hr.m rfl) (paC (aT (cu K rfl) (pv 0) (pv 3) (λ_ _=>rfl)) (paC (aT (cu K rfl) (pv 0) (pv 2) (λ_ _=>rfl)) ae))) ae))))))),(mz K mg TC)⟩
def nM(D:uk K mg (bM K "Family") "Family" "Family.__init__" bP)(T:Txt mg)(TC:TxC K)(C'17:mK P w K mg base)(C'18:gQ P w K mg base)(C'20:ot P w K mg base)(C'21:mL P w K mg base):EB P w K mg base 4 (bM K "Family") "Family" ["self","pieces"] (spR K bT):=by
 refine D.ok ie (λ_ _ _ _ _ _ us hl=>match us,hl with|[_,_],_=>rfl) (λvs H Q E h=>?_) (λf cdv A outer s H vs Q E hr h=>?_)
 .exact IM (λp ds Q h=>(e9 p ds Q h).1) h
 .have hu:=hr.units;exact⟨_,(af (dI (aw C'18 (hr.mono (by decide)) (paC (pv 1) ae))) (af (nS (pv 0) (aQ (eP K rfl) rfl T.b_tuple J9 (paC (pv 1) ae)) rfl) (af (aE (i:=2) ie.nd rfl (by walk_at "o") (aQ (A3 K rfl rfl) rfl T.b_list My (paC (qo rfl T.b_range (paC (aj (bH K rfl) rfl T.b_len m_ (paC (c9 K rfl (pv 0) rfl) ae)) ae)) ae))) (af (nS (pv 0) (aQ (eP K rfl) rfl T.b_tuple J9 (paC (bj (wi:=(hV K (aH 2))) (g:=(bg 0)) (tts:=(tB (dJ (spP K fA) [] E0 (aK (wu K (aH 1) "pieces") (aK (aH 0) c6))))) (te:=(aH 0)) ["at","self"] [none,some 0] rfl (bu K rfl (pv 2)) (λ_ _ _ _=>⟨(au (i:=0) (by show u_ (["at","self"]:List Str);decide +kernel) rfl (by walk_at "o")),(fL (cC (aw C'20 (hr.mono (by decide)) (paC (c9 K rfl (pv 1) rfl) (paC (pv 0) ae))))),(pv 0)⟩) (by kernel_rfl)) ae)) rfl) (af (nS (pv 0) (aQ (eP K rfl) rfl T.b_tuple J9 (paC (bj (wi:=(hV K (wu K (aH 0) "kept"))) (g:=(bg 0)) (tts:=gW) (te:=(tOp (kH K) (wu K (aH 1) "pieces") (aH 0))) ["at","self"] [none,some 0] rfl (bu K rfl (c9 K rfl (pv 0) rfl)) (λ_ _ _ _=>⟨(au (i:=0) (by show u_ (["at","self"]:List Str);decide +kernel) rfl (by walk_at "o")),bb,(aT (cu K rfl) (c9 K rfl (pv 1) rfl) (pv 0) (λ_ _=>rfl))⟩) (by kernel_rfl)) ae)) rfl) (af (nS (pv 0) (aQ (eP K rfl) rfl T.b_tuple J9 (paC (bj (wi:=(hV K (aH 2))) (g:=(bg 0)) (tts:=(iZ (tOp (Fy K true) (aH 0) (wu K (aH 1) "kept")))) (te:=(dJ (spP K dY) [] E0 (aK (wu K (aH 1) "pieces") (aK (wu K (aH 1) "kept") (aK (aH 0) c6))))) ["at","self"] [none,some 0] rfl (bu K rfl (pv 2)) (λ_ _ _ _=>⟨(au (i:=0) (by show u_ (["at","self"]:List Str);decide +kernel) rfl (by walk_at "o")),(fL (aI (kX K rfl) (pv 0) (c9 K rfl (pv 1) rfl) (by with_unfolding_all rfl))),(aw C'21 (hr.mono (by decide)) (paC (c9 K rfl (pv 1) rfl) (paC (c9 K rfl (pv 1) rfl) (paC (pv 0) ae))))⟩) (by kernel_rfl)) ae)) rfl) (af (nS (pv 0) (aw C'17 (hr.mono (by decide)) (paC (c9 K rfl (pv 0) rfl) ae)) rfl) (am (nS (pv 0) (aj (E5 K rfl rfl) rfl T.b_sum LR (paC (bj (wi:=(hV K (wu K (aH 0) "words"))) (g:=(bg 0)) (tts:=gW) (te:=(tCB (jK K) (aK (aH 0) c6))) ["word"] [none] rfl (bu K rfl (c9 K rfl (pv 0) rfl)) (λ_ _ _ _=>⟨(au (i:=0) (by show u_ (["word"]:List Str);decide +kernel) rfl (by walk_at "o")),bb,(aj (bH K rfl) rfl T.b_len m_ (paC (pv 0) ae))⟩) (by kernel_rfl)) ae)) rfl))))))))),fnR (K:=K) (c:=bT) (ps:=ip) (N:=["self","pieces","indexes"]) (aq (dP (ay (c:=cZ) (aa (ah (jb (i:=1))) ac))) (aq (jL (c0:="Family") (ns0:=[]) (i:=0) TC.cl_Family TC.n_Family_pieces (by decide +kernel) (aF di (aa (fh (i:=1)) ac))) (aq (aA (um false (aa (ah (aF aV (aa (ah (fk (ns0:=["pieces"]) TC.cl_Family TC.n_Family_pieces (i:=0) (by decide +kernel) (fh (i:=0)))) ac))) ac)) (xo (i:=2) rfl)) (aq (jL (c0:="Family") (ns0:=["pieces"]) (i:=0) TC.cl_Family TC.n_Family_kept (by decide +kernel) (aF di (aa (ah (aM (ix:=[none,some 0]) rfl (bv (jb (i:=2))) (λfs hc=>(dC (i:=0) (fm hc (by decide)))) (rK (ay (c:=fA) (aa (ah (fk (ns0:=["pieces"]) TC.cl_Family TC.n_Family_pieces (i:=0) (by decide +kernel) (fh (i:=1)))) (aa (ah (jb (i:=0))) ac)))) (jb (i:=0)))) ac))) (aq (jL (c0:="Family") (ns0:=["pieces","kept"]) (i:=0) TC.cl_Family TC.n_Family_words (by decide +kernel) (aF di (aa (ah (aM (ix:=[none,some 0]) rfl (bv (fk (ns0:=["pieces","kept"]) TC.cl_Family TC.n_Family_kept (i:=1) (by decide +kernel) (fh (i:=0)))) (λfs hc=>(dC (i:=0) (fm hc (by decide)))) bF (ak aU (ah (fk (ns0:=["pieces","kept"]) TC.cl_Family TC.n_Family_pieces (i:=0) (by decide +kernel) (fh (i:=1)))) (fh (i:=0))))) ac))) (aq (jL (c0:="Family") (ns0:=["pieces","kept","words"]) (i:=0) TC.cl_Family TC.n_Family_left (by decide +kernel) (aF di (aa (ah (aM (ix:=[none,some 0]) rfl (bv (jb (i:=2))) (λfs hc=>(dC (i:=0) (fm hc (by decide)))) (fi (ak (qL (neg:=true)) (fh (i:=0)) (ah (fk (ns0:=["pieces","kept","words"]) TC.cl_Family TC.n_Family_kept (i:=1) (by decide +kernel) (fh (i:=1)))))) (ay (c:=dY) (aa (ah (fk (ns0:=["pieces","kept","words"]) TC.cl_Family TC.n_Family_pieces (i:=0) (by decide +kernel) (fh (i:=1)))) (aa (ah (fk (ns0:=["pieces","kept","words"]) TC.cl_Family TC.n_Family_kept (i:=1) (by decide +kernel) (fh (i:=1)))) (aa (ah (jb (i:=0))) ac)))))) ac))) (aq (jL (c0:="Family") (ns0:=["pieces","kept","words","left"]) (i:=0) TC.cl_Family TC.n_Family_laps (by decide +kernel) (ay (c:=fX) (aa (ah (fk (ns0:=["pieces","kept","words","left"]) TC.cl_Family TC.n_Family_words (i:=2) (by decide +kernel) (fh (i:=0)))) ac))) (jL (c0:="Family") (ns0:=["pieces","kept","words","left","laps"]) (i:=0) TC.cl_Family TC.n_Family_total (by decide +kernel) (aF Cz (aa (ah (aM (ix:=[none]) rfl (bv (fk (ns0:=["pieces","kept","words","left","laps"]) TC.cl_Family TC.n_Family_words (i:=2) (by decide +kernel) (fh (i:=0)))) (λfs hc=>(dC (i:=0) (fm hc (by decide)))) bF (aF aV (aa (fh (i:=0)) ac)))) ac)))))))))) (λp ds Q h=>F_ (LQ (e9 p ds Q h).1) (by decide)) (λp ds Q _ h=>(e9 p ds Q h).2) h⟩
def nN(D:uj K (bM K "Family") "many" "Family.many" bQ)(T:Txt mg)(TC:TxC K):GB P w K mg base 1 (bM K "Family") "many" ["self"] (spP K cr):=by
 refine D.ok m9 (λ_ _ _ _ _ _ us hl=>match us,hl with|[_],_=>rfl) (λvs H Q E h=>?_) (λf cdv A outer s H vs Q E hr h=>?_)
 .exact GG (λds Q h=>(fb ds Q h).1) h
 .have hu:=hr.units;exact⟨_,(am (aG (aj (bH K rfl) rfl T.b_len m_ (paC (c9 K rfl (pv 0) rfl) ae)))),fnP (K:=K) (c:=cr) (ps:=iq) (N:=["self"]) (aJ (aF aV (aa (ah (fk (ns0:=["pieces","kept","words","left","laps","total"]) TC.cl_Family TC.n_Family_words (i:=2) (by decide +kernel) (fh (i:=0)))) ac))) (λds Q h=>F_ (LQ (fb ds Q h).1) (by decide)) (λds Q h=>(fb ds Q h).2) h⟩
def tO(D:a5 K mg "_law_deck" jW)(T:Txt mg)(TC:TxC K):mM P w K mg base:=D.oP2 cF (by walk_at "b2") sZ rfl rfl λ_ _ _ _ _ _ _ hr hu=>⟨_,(af (aE (i:=2) cF.nd rfl (by walk_at "o") (aD (bw K rfl) (aQ (E8 K rfl) rfl T.b_list My (paC (pv 0) ae)) (aD kG (b7 (paC ao ae)) (aQ zS rfl T.b_int boot_int (paC (c7 (kJ K rfl hu) (aj (bH K rfl) rfl T.b_len m_ (paC (pv 0) ae)) ao (aL _)) ae))))) (af (iC (wi:=(hV K (aH 2))) (g:=(bg 0)) (tts:=gW) (te:=(tOp zE (aH 0) (tCB zR (aK (tOp GF (aH 0) (tOp Fi (tC (V.int 10)) (tC (V.int 18)))) c6)))) (i:=3) ["_law_cell"] [none] cF.nd rfl (M3 rfl) rfl (bu K rfl (pv 2)) (λ_ _ _ _=>⟨(au (i:=0) (by show u_ (["_law_cell"]:List Str);decide +kernel) rfl (by walk_at "o")),bb,(aD kG (pv 0) (aQ zS rfl T.b_int boot_int (paC (c7 A6 (pv 0) (aD sm ao ao) (aL _)) ae)))⟩) (by kernel_rfl)) (af (aE (i:=4) cF.nd rfl (by walk_at "o") (b7 ae)) (af (bX tf rfl (aN rfl T.b_range (paC (pv 1) ae)) (au (i:=5) cF.nd rfl (by walk_at "o")) (af (aE (i:=6) cF.nd rfl (by walk_at "o") (aD dD (pv 5) (aj (bH K rfl) rfl T.b_len m_ (paC (pv 2) ae)))) (af (aE (i:=7) cF.nd rfl (by walk_at "o") (aD (bw K rfl) (aD kG (aD dD (aD (bw K rfl) (aD (bw K rfl) (aT (cu K rfl) (pv 2) (pv 6) (λ_ _=>rfl)) (aD kG (aD kG (pv 5) (pv 5)) ao)) (aD kG ao (pv 5))) ao) (aT (cu K rfl) (b7 (paC ao (paC ao (paC ao (paC ao ae))))) (aD dD (pv 5) ao) (λ_ _=>rfl))) ao)) (af (dI (gb K rfl C0 Jx Jy cp (pv 4) (paC (aT (cu K rfl) (b7 (paC (aD dD (aD kG (pv 7) (pv 7)) ao) (paC (aD dD (aT (cu K rfl) (pv 3) (pv 6) (λ_ _=>rfl)) (aD sm ao ao)) ae))) (aQ zS rfl T.b_int boot_int (paC (c7 (iJ K rfl hu) (aT (cu K rfl) (pv 3) (pv 6) (λ_ _=>rfl)) ao (aL _)) ae)) (λ_ _=>rfl)) ae))) (am (xY (aD CS (aT (cu K rfl) (pv 3) (pv 6) (λ_ _=>rfl)) (aD sm ao ao)) (AJ (pv 3) (pv 6) i3))))))) (am (aG (sj K rfl rfl (pv 4) rfl T.b_list rfl T.b_reversed))))))),(mB K mg TC)⟩
def tP(D:a5 K mg "_law_next" jX)(T:Txt mg)(TC:TxC K):d3 P w K mg base:=D.oR2 sJ (by walk_at "b1") tq rfl rfl λ_ _ _ _ _ _ _ hr hu=>⟨_,(am (aG (D8 C0 PySem.F.slot_list_pop PySem.F.type_list_pop D9 (pv 0)))),(mC K mg TC)⟩
def tQ(D:a5 K mg "_law_fits" jY)(T:Txt mg)(TC:TxC K):mN P w K mg base:=D.oP2 md (by walk_at "b3") tw rfl rfl λ_ _ _ _ _ _ _ hr hu=>⟨_,(af (bX tf rfl (aN rfl T.b_range (paC (pv 2) ae)) (au (i:=3) md.nd rfl (by walk_at "o")) (am (cK (aI (iJ K rfl hu) (aT (cu K rfl) (pv 0) (aD (bw K rfl) (aD jf (aj (bH K rfl) rfl T.b_len m_ (paC (pv 0) ae)) (pv 2)) (pv 3)) (λ_ _=>rfl)) (aT (cu K rfl) (pv 1) (pv 3) (λ_ _=>rfl)) (aL _)) (am (aG g9)) aX))) (am (aG g9))),(mD K mg TC)⟩
def vV(D:a5 K mg "_law_lap" l7)(T:Txt mg)(TC:TxC K)(C'26:mN P w K mg base):ou P w K mg base:=D.oP2 n9 (by walk_at "b2") vP rfl rfl λ_ _ _ _ _ _ _ hr hu=>⟨_,(af (bX tf rfl (r0 rfl T.b_reversed rfl T.b_range (paC (aj (A1 rfl) rfl T.b_min boot_min (paC (aj (bH K rfl) rfl T.b_len m_ (paC (pv 0) ae)) (paC (aj (bH K rfl) rfl T.b_len m_ (paC (pv 1) ae)) ae))) ae)) (au (i:=2) n9.nd rfl (by walk_at "o")) (am (cK (cC (aw C'26 (hr.m rfl) (paC (pv 0) (paC (pv 1) (paC (pv 2) ae))))) (am (aG (pv 2))) aX))) (am (aG ao))),(oj K mg TC)⟩
def tS(D:a5 K mg "_law_kept" jZ)(T:Txt mg)(TC:TxC K):mO P w K mg base:=D.oP2 fV (by walk_at "b1") tD rfl rfl λ_ _ _ _ _ _ _ hr hu=>⟨_,(af (aE (i:=1) fV.nd rfl (by walk_at "o") (b7 ae)) (af (bX tf rfl (aN rfl T.b_range (paC (aj (bH K rfl) rfl T.b_len m_ (paC (pv 0) ae)) ae)) (au (i:=2) fV.nd rfl (by walk_at "o")) (af (iC (wi:=(hV K (aH 0))) (g:=(bg 0)) (tts:=(GO (iZ (tOp HE (tCB (jK K) (aK (aH 0) c6)) (tCB (jK K) (aK (tOp (kH K) (aH 1) (aH 2)) c6)))) (iZ (tOp (Fy K false) (tOp (kH K) (aH 1) (aH 2)) (aH 0))))) (te:=(aH 0)) (i:=3) ["_law_other","_law_pieces","_law_k"] [none,some 0,some 2] fV.nd rfl (M3 rfl) rfl (bu K rfl (pv 0)) (λ_ _ _ _=>⟨(au (i:=0) (by show u_ (["_law_other","_law_pieces","_law_k"]:List Str);decide +kernel) rfl (by walk_at "o")),(fL (PW.pt (nQ (aI Dv (aj (bH K rfl) rfl T.b_len m_ (paC (pv 0) ae)) (aj (bH K rfl) rfl T.b_len m_ (paC (aT (cu K rfl) (pv 1) (pv 2) (λ_ _=>rfl)) ae)) (aL _)) (jD (aI (HP K rfl) (aT (cu K rfl) (pv 1) (pv 2) (λ_ _=>rfl)) (pv 0) (by with_unfolding_all rfl)))))),(pv 0)⟩) (by kernel_rfl)) (am (cK (PW.pt (nQ (aI (kJ K rfl hu) (pv 3) (b7 ae) (aL _)) (jD (aI (kX K rfl) (aT (cu K rfl) (pv 0) (pv 2) (λ_ _=>rfl)) (cQ (xn K rfl) (pv 0) iA (cA (pv 2))) (by with_unfolding_all rfl))))) (am (dI (gb K rfl C0 Jx Jy cp (pv 1) (paC (aT (cu K rfl) (pv 0) (pv 2) (λ_ _=>rfl)) ae)))) aX)))) (am (aG (pv 1))))),(mE K mg TC)⟩
def nO(D:a5 K mg "_law_spelled" fU)(T:Txt mg)(TC:TxC K):fe P w K mg base:=D.oP2 dk (by walk_at "b2") nE rfl rfl λ_ _ _ _ _ _ _ hr hu=>⟨_,(af (aE (i:=2) dk.nd rfl (by walk_at "o") (eN (l:=[]) (by decide +kernel))) (af (oE tf (PW.pt (nQ (aI Dv (pv 0) ao (aL _)) (jD (aI EG (aj (bH K rfl) rfl T.b_len m_ (paC (pv 2) ae)) ao (aL _))))) (af (aE (i:=2) dk.nd rfl (by walk_at "o") (aD (bw K rfl) (pv 2) (aT (cu K rfl) (pv 1) (aD dD (pv 0) (aj (bH K rfl) rfl T.b_len m_ (paC (pv 1) ae))) (λ_ _=>rfl)))) (am (aE (i:=0) dk.nd rfl (by walk_at "o") (aD kh (pv 0) (aj (bH K rfl) rfl T.b_len m_ (paC (pv 1) ae))))))) (am (aG (pv 2))))),(ir K mg TC)⟩
def rG(D:a5 K mg "_law_drawn" iR)(T:Txt mg)(TC:TxC K)(C'25:d3 P w K mg base)(C'29:fe P w K mg base):kB P w K mg base:=D.oR2 bc (by walk_at "b2") rz rfl rfl λ_ _ _ _ _ _ _ hr hu=>⟨_,(af (aE (i:=2) bc.nd rfl (by walk_at "o") (aT (cu K rfl) (b7 (paC (eN (l:=[97,98]) (by decide +kernel)) (paC (eN (l:=[97,98]) (by decide +kernel)) (paC (eN (l:=[97,98,99]) (by decide +kernel)) (paC (eN (l:=[120,121,122,97,98]) (by decide +kernel)) ae))))) (aD dD (aw C'25 (hr.m rfl) (paC (pv 0) ae)) ao) (λ_ _=>rfl))) (af (aE (i:=3) bc.nd rfl (by walk_at "o") (aw C'29 (hr.m rfl) (paC (aD (bw K rfl) (aw C'25 (hr.m rfl) (paC (pv 0) ae)) (aD sm ao ao)) (paC (pv 2) ae)))) (af (aE (i:=3) bc.nd rfl (by walk_at "o") (aD (bw K rfl) (pv 3) (aw C'29 (hr.m rfl) (paC (aD (bw K rfl) (aw C'25 (hr.m rfl) (paC (pv 0) ae)) (aD sm ao ao)) (paC (pv 2) ae))))) (af (aE (i:=4) bc.nd rfl (by walk_at "o") (b7 ae)) (af (bX tf rfl (aN rfl T.b_range (paC (aD (bw K rfl) ao (aD dD (aw C'25 (hr.m rfl) (paC (pv 0) ae)) (pv 1))) ae)) (au (i:=5) bc.nd rfl (by walk_at "o")) (af (aE (i:=6) bc.nd rfl (by walk_at "o") (aw C'25 (hr.m rfl) (paC (pv 0) ae))) (af (aE (i:=7) bc.nd rfl (by walk_at "o") (aD dD (pv 6) ao)) (af (aE (i:=8) bc.nd rfl (by walk_at "o") (cQ (xn K rfl) (pv 3) (cA (pv 7)) (cA (aD (bw K rfl) (aD (bw K rfl) (pv 7) ao) (aD dD (aD kh (pv 6) ao) ao))))) (af (lp (cK (aI (kJ K rfl hu) (aD dD (aD kh (pv 6) ao) ao) ao (aL _)) (am (aE (i:=8) bc.nd rfl (by walk_at "o") (aw C'29 (hr.m rfl) (paC (aD (bw K rfl) (aD dD (aD kh (pv 6) ao) (aD sm ao ao)) ao) (paC (pv 2) ae))))) aX)) (af (lp (cK (aI (kJ K rfl hu) (aD dD (aD kh (pv 6) ao) ao) ao (aL _)) (am (aE (i:=8) bc.nd rfl (by walk_at "o") (cQ (xn K rfl) (aD kG (cQ (xn K rfl) (pv 3) (cA (pv 7)) (cA (aD (bw K rfl) (aD (bw K rfl) (pv 7) ao) (aD dD (aD kh (pv 6) ao) ao)))) ao) iA (cA (aD (bw K rfl) ao (aD dD (aD kh (pv 6) ao) ao)))))) aX)) (af (lp (cK (aI (kJ K rfl hu) (aD dD (aD kh (pv 6) ao) ao) ao (aL _)) (am (aE (i:=8) bc.nd rfl (by walk_at "o") (cQ (xn K rfl) (aD kG (cQ (xn K rfl) (pv 3) (cA (pv 7)) (cA (aD (bw K rfl) (pv 7) ao))) ao) iA (cA ao)))) aX)) (am (dI (gb K rfl C0 Jx Jy cp (pv 4) (paC (cQ (xn K rfl) (aD (bw K rfl) (pv 8) (eN (l:=[97]) (by decide +kernel))) iA (cA (aj (A2 rfl) rfl T.b_max boot_max (paC ao (paC (aj (bH K rfl) rfl T.b_len m_ (paC (pv 8) ae)) ae))))) ae))))))))))) (am (aG (pv 4)))))))),(kr K mg TC)⟩
def rH(D:a5 K mg "_law_whole" iS)(T:Txt mg)(TC:TxC K):kC P w K mg base:=D.oP2 qW (by walk_at "b1") rB rfl rfl λ_ _ _ _ _ _ _ hr hu=>⟨_,(am (aG (gv (aj (sh K rfl) rfl T.b_isinstance J8 (paC (pv 0) (paC (fG (v:=.ty "int") rfl T.b_int boot_int rfl) ae))) (iY (wd (aj (sh K rfl) rfl T.b_isinstance J8 (paC (pv 0) (paC (fG (v:=.ty "bool") rfl T.b_bool boot_bool rfl) ae)))))))),(ku K mg TC)⟩
def vW(D:a5 K mg "_law_all" l9)(T:Txt mg)(TC:TxC K):oz P w K mg base:=D.oP2 df (by walk_at "b1") vR rfl rfl λ_ _ _ _ _ _ _ hr hu=>⟨_,(af (aE (i:=1) df.nd rfl (by walk_at "o") (b7 (paC (b7 ae) ae))) (af (bX tf rfl (aN rfl T.b_range (paC (pv 0) ae)) (au (i:=2) df.nd rfl (by walk_at "o")) (af (aE (i:=3) df.nd rfl (by walk_at "o") (b7 ae)) (af (bX tf rfl (bu K rfl (pv 1)) (au (i:=4) df.nd rfl (by walk_at "o")) (am (bX tf rfl (aN rfl T.b_range (paC (pv 0) ae)) (au (i:=5) df.nd rfl (by walk_at "o")) (am (cK (aI (kX K rfl) (pv 5) (pv 4) (by with_unfolding_all rfl)) (am (dI (gb K rfl C0 Jx Jy cp (pv 3) (paC (aD (bw K rfl) (pv 4) (b7 (paC (pv 5) ae))) ae)))) aX))))) (am (aE (i:=1) df.nd rfl (by walk_at "o") (pv 3)))))) (am (aG (pv 1))))),(oq K mg TC)⟩
def pU(D:a5 K mg "_law_mended" gF)(T:Txt mg)(TC:TxC K):jA P w K mg base:=D.oP2 dF (by walk_at "b2") pQ rfl rfl λ_ _ _ _ _ _ _ hr hu=>⟨_,(af (aE (i:=2) dF.nd rfl (by walk_at "o") (aj (bH K rfl) rfl T.b_len m_ (paC (pv 0) ae))) (af (aE (i:=3) dF.nd rfl (by walk_at "o") (b7 ae)) (af (bX tf rfl (aN rfl T.b_range (paC (pv 2) ae)) (au (i:=4) dF.nd rfl (by walk_at "o")) (am (dI (gb K rfl C0 Jx Jy cp (pv 3) (paC (aj (xy K rfl rfl) rfl T.b_max boot_max (paC (aD (bw K rfl) (b7 (paC ao ae)) (bj (wi:=(mU (aK (aH 2) c6))) (g:=(bg 0)) (tts:=(iZ (tOp (kI K true) (aH 0) (aH 1)))) (te:=(tOp Fh (tOp (kH K) (tOp (kH K) (aH 3) (aH 0)) (aH 1)) (tOp (kH K) (aH 2) (aH 0)))) ["_law_i","_law_j","_law_gives","_law_laps"] [none,some 4,some 1,some 0] rfl (aN rfl T.b_range (paC (pv 2) ae)) (λ_ _ _ _=>⟨(au (i:=0) (by show u_ (["_law_i","_law_j","_law_gives","_law_laps"]:List Str);decide +kernel) rfl (by walk_at "o")),(fL (aI (iJ K rfl hu) (pv 0) (pv 1) (aL _))),(aD jf (aT (cu K rfl) (aT (cu K rfl) (pv 3) (pv 0) (λ_ _=>rfl)) (pv 1) (λ_ _=>rfl)) (aT (cu K rfl) (pv 2) (pv 0) (λ_ _=>rfl)))⟩) (by kernel_rfl))) ae)) ae))))) (am (aG (b7 (paC (pv 1) (paC (pv 3) ae)))))))),(jt K mg TC)⟩
def mT(D:a5 K mg "_law_is_right" eW)(T:Txt mg)(TC:TxC K)(C'31:kC P w K mg base):gT P w K mg base:=D.oP2 ce (by walk_at "b2") mG rfl rfl λ_ _ _ _ _ _ _ hr hu=>⟨_,(af (aE (i:=2) ce.nd rfl (by walk_at "o") (aj (bH K rfl) rfl T.b_len m_ (paC (pv 0) ae))) (af (cK (PW.pt (uO (fZ (cC (aj (sh K rfl) rfl T.b_isinstance J8 (paC (pv 1) (paC (fG (v:=.ty "tuple") rfl T.b_tuple J9 rfl) ae))))) (nP (aI (iJ K rfl hu) (aj (bH K rfl) rfl T.b_len m_ (paC (pv 1) ae)) ao (aL _))))) (am (aG g9)) aX) (af (bX tf rfl (bu K rfl (pv 1)) (au (i:=3) ce.nd rfl (by walk_at "o")) (af (cK (PW.pt (uO (fZ (cC (aj (sh K rfl) rfl T.b_isinstance J8 (paC (pv 3) (paC (fG (v:=.ty "tuple") rfl T.b_tuple J9 rfl) ae))))) (nP (aI (iJ K rfl hu) (aj (bH K rfl) rfl T.b_len m_ (paC (pv 3) ae)) (pv 2) (aL _))))) (am (aG g9)) aX) (am (cK (aI (iJ K rfl hu) (bj (wi:=(hV K (aH 3))) (g:=(bg 0)) (tts:=(tOr (GP (tB (dJ (spP K eG) [] E0 (aK (aH 0) c6)))) (iZ (tOp Hr (aH 0) (tC (V.int 0)))))) (te:=(aH 0)) ["_law_one"] [none] rfl (bu K rfl (pv 3)) (λ_ _ _ _=>⟨(au (i:=0) (by show u_ (["_law_one"]:List Str);decide +kernel) rfl (by walk_at "o")),(fL (PW.pt (uO (fZ (cC (aw C'31 (hr.m rfl) (paC (pv 0) ae)))) (nP (aI EG (pv 0) ao (aL _)))))),(pv 0)⟩) (by kernel_rfl)) (b7 ae) (aL _)) (am (aG g9)) aX)))) (af (bX tf rfl (aN rfl T.b_range (paC (pv 2) ae)) (au (i:=4) ce.nd rfl (by walk_at "o")) (am (bX tf rfl (aN rfl T.b_range (paC (pv 2) ae)) (au (i:=5) ce.nd rfl (by walk_at "o")) (am (cK (PW.pt (nQ (aI (iJ K rfl hu) (pv 4) (pv 5) (aL _)) (jD (aI EG (aD (bw K rfl) (aT (cu K rfl) (aT (cu K rfl) (pv 1) ao (λ_ _=>rfl)) (pv 4) (λ_ _=>rfl)) (aT (cu K rfl) (aT (cu K rfl) (pv 1) ao (λ_ _=>rfl)) (pv 5) (λ_ _=>rfl))) (aT (cu K rfl) (aT (cu K rfl) (pv 0) (pv 4) (λ_ _=>rfl)) (pv 5) (λ_ _=>rfl)) (aL _))))) (am (aG g9)) aX))))) (am (aG g9)))))),(gO K mg TC)⟩
def tT(D:a5 K mg "_law_most" j1)(T:Txt mg)(TC:TxC K)(C'32:oz P w K mg base):mP P w K mg base:=D.oP2 cG (by walk_at "b1") tG rfl rfl λ_ _ _ _ _ _ _ hr hu=>⟨_,(af (aE (i:=1) cG.nd rfl (by walk_at "o") ao) (af (bX tf rfl (bu K rfl (aw C'32 (hr.m rfl) (paC (aj (bH K rfl) rfl T.b_len m_ (paC (pv 0) ae)) ae))) (au (i:=2) cG.nd rfl (by walk_at "o")) (af (aE (i:=3) cG.nd rfl (by walk_at "o") ao) (af (bX tf rfl (aN rfl T.b_range (paC (aj (bH K rfl) rfl T.b_len m_ (paC (pv 2) ae)) ae)) (au (i:=4) cG.nd rfl (by walk_at "o")) (am (cK (aI (iJ K rfl hu) (aT (cu K rfl) (pv 2) (pv 4) (λ_ _=>rfl)) (pv 4) (aL _)) (am (aE (i:=3) cG.nd rfl (by walk_at "o") (aD (bw K rfl) (pv 3) (aT (cu K rfl) (aT (cu K rfl) (pv 0) (pv 4) (λ_ _=>rfl)) (aT (cu K rfl) (pv 2) (pv 4) (λ_ _=>rfl)) (λ_ _=>rfl))))) aX))) (am (aE (i:=1) cG.nd rfl (by walk_at "o") (aj (A2 rfl) rfl T.b_max boot_max (paC (pv 1) (paC (pv 3) ae)))))))) (am (aG (pv 1))))),(mH K mg TC)⟩
def pV(D:a5 K mg "_law_others" gG)(T:Txt mg)(TC:TxC K)(C'33:jA P w K mg base)(C'25:d3 P w K mg base):jB P w K mg base:=D.oR2 dG (by walk_at "b2") pS rfl rfl λ_ _ _ _ _ _ _ hr hu=>⟨_,(af (aE (i:=2) dG.nd rfl (by walk_at "o") (aj (bH K rfl) rfl T.b_len m_ (paC (pv 1) ae))) (af (aE (i:=3) dG.nd rfl (by walk_at "o") (b7 (paC (aw C'33 (hr.m rfl) (paC (pv 1) (paC (aD kG (b7 (paC ao ae)) (pv 2)) ae))) ae))) (af (dI (gb K rfl C0 Jx Jy cp (pv 3) (paC (aw C'33 (hr.m rfl) (paC (pv 1) (paC (bj (wi:=(mU (aK (aH 2) c6))) (g:=(bg 0)) (tts:=gW) (te:=(tCB (CG K) (aK (tOp (Ab K) (Gz (aK (tC (V.int 0)) c6)) (ql [none,some 1,some 0] (mU (aK (aH 2) c6)) (bg 0) (iZ (tOp (kI K true) (aH 0) (aH 2))) (tOp (kH K) (tOp (kH K) (aH 1) (aH 2)) (aH 0)))) c6))) ["_law_i","_law_laps","_law_many_here"] [none,some 1,some 2] rfl (aN rfl T.b_range (paC (pv 2) ae)) (λ_ _ _ _=>⟨(au (i:=0) (by show u_ (["_law_i","_law_laps","_law_many_here"]:List Str);decide +kernel) rfl (by walk_at "o")),bb,(aj (xy K rfl rfl) rfl T.b_max boot_max (paC (aD (bw K rfl) (b7 (paC ao ae)) (bj (wi:=(mU (aK (aH 2) c6))) (g:=(bg 0)) (tts:=(iZ (tOp (kI K true) (aH 0) (aH 2)))) (te:=(tOp (kH K) (tOp (kH K) (aH 1) (aH 2)) (aH 0))) ["_law_j","_law_laps","_law_i"] [none,some 1,some 0] rfl (aN rfl T.b_range (paC (pv 2) ae)) (λ_ _ _ _=>⟨(au (i:=0) (by show u_ (["_law_j","_law_laps","_law_i"]:List Str);decide +kernel) rfl (by walk_at "o")),(fL (aI (iJ K rfl hu) (pv 0) (pv 2) (aL _))),(aT (cu K rfl) (aT (cu K rfl) (pv 1) (pv 2) (λ_ _=>rfl)) (pv 0) (λ_ _=>rfl))⟩) (by kernel_rfl))) ae))⟩) (by kernel_rfl)) ae))) ae))) (af (bX tf rfl (aN rfl T.b_range (paC ao ae)) (au (i:=4) dG.nd rfl (by walk_at "o")) (am (dI (gb K rfl C0 Jx Jy cp (pv 3) (paC (aw C'33 (hr.m rfl) (paC (pv 1) (paC (bj (wi:=(mU (aK (aH 2) c6))) (g:=(bg 0)) (tts:=gW) (te:=(tOp CF (dJ (spR K aW) [] E0 (aK (aH 1) c6)) (tOp (kH K) (Gz (aK (tC (V.int 2)) (aK (tC (V.int 4)) (aK (tC (V.int 8)) c6)))) (tOp CF (aH 2) (tC (V.int 3)))))) ["_law_i","_law_deck_here","_law_k"] [none,some 0,some 4] rfl (aN rfl T.b_range (paC (pv 2) ae)) (λ_ _ _ _=>⟨(au (i:=0) (by show u_ (["_law_i","_law_deck_here","_law_k"]:List Str);decide +kernel) rfl (by walk_at "o")),bb,(aD dD (aw C'25 (hr.m rfl) (paC (pv 1) ae)) (aT (cu K rfl) (b7 (paC ao (paC ao (paC ao ae)))) (aD dD (pv 2) ao) (λ_ _=>rfl)))⟩) (by kernel_rfl)) ae))) ae))))) (am (aG (pv 3))))))),(ju K mg TC)⟩
def tU(D:a5 K mg "_law_many" j3)(T:Txt mg)(TC:TxC K)(C'25:d3 P w K mg base)(C'29:fe P w K mg base):mQ P w K mg base:=D.oR2 cg (by walk_at "b1") tI rfl rfl λ_ _ _ _ _ _ _ hr hu=>⟨_,(af (aE (i:=1) cg.nd rfl (by walk_at "o") (eN (l:=[]) (by decide +kernel))) (af (bX tf rfl (aN rfl T.b_range (paC ao ae)) (au (i:=2) cg.nd rfl (by walk_at "o")) (am (aE (i:=1) cg.nd rfl (by walk_at "o") (aD (bw K rfl) (pv 1) (aw C'29 (hr.m rfl) (paC (aD (bw K rfl) (aw C'25 (hr.m rfl) (paC (pv 0) ae)) (aD sm ao ao)) (paC (eN (l:=[97,98,99]) (by decide +kernel)) ae))))))) (af (aE (i:=3) cg.nd rfl (by walk_at "o") (b7 ae)) (af (aE (i:=4) cg.nd rfl (by walk_at "o") (aD dD (aw C'25 (hr.m rfl) (paC (pv 0) ae)) ao)) (af (bX tf rfl (aN rfl T.b_range (paC (aD (bw K rfl) ao (aD dD (aw C'25 (hr.m rfl) (paC (pv 0) ae)) ao)) ae)) (au (i:=2) cg.nd rfl (by walk_at "o")) (af (aE (i:=5) cg.nd rfl (by walk_at "o") (aD dD (aD (bw K rfl) (pv 4) (aD kG ao (pv 2))) ao)) (am (dI (gb K rfl C0 PySem.F.slot_list_insert PySem.F.type_list_insert xD (pv 3) (paC (aD dD (aw C'25 (hr.m rfl) (paC (pv 0) ae)) (aD (bw K rfl) (aj (bH K rfl) rfl T.b_len m_ (paC (pv 3) ae)) ao)) (paC (cQ (xn K rfl) (pv 1) (cA (pv 5)) (cA (aD (bw K rfl) (pv 5) ao))) ae))))))) (am (aG (pv 3)))))))),(mI K mg TC)⟩
def jC(D:a5 K mg "_law_without_own" de)(T:Txt mg)(TC:TxC K):eJ P w K mg base:=D.oP2 cX (by walk_at "b1") jx rfl rfl λ_ _ _ _ _ _ _ hr hu=>⟨_,(af (aE (i:=1) cX.nd rfl (by walk_at "o") (b7 ae)) (af (bX tf rfl (aN rfl T.b_range (paC (aj (bH K rfl) rfl T.b_len m_ (paC (pv 0) ae)) ae)) (au (i:=2) cX.nd rfl (by walk_at "o")) (am (dI (gb K rfl C0 Jx Jy cp (pv 1) (paC (bj (wi:=(mU (aK (tCB (jK K) (aK (aH 0) c6)) c6))) (g:=(bg 0)) (tts:=gW) (te:=(tOp zE (tOp (kH K) (tOp (kH K) (aH 1) (aH 2)) (aH 0)) (tCB zR (aK (tOp (kI K true) (aH 2) (aH 0)) c6)))) ["_law_j","_law_laps","_law_i"] [none,some 0,some 2] rfl (aN rfl T.b_range (paC (aj (bH K rfl) rfl T.b_len m_ (paC (pv 0) ae)) ae)) (λ_ _ _ _=>⟨(au (i:=0) (by show u_ (["_law_j","_law_laps","_law_i"]:List Str);decide +kernel) rfl (by walk_at "o")),bb,(aD kG (aT (cu K rfl) (aT (cu K rfl) (pv 1) (pv 2) (λ_ _=>rfl)) (pv 0) (λ_ _=>rfl)) (aQ zS rfl T.b_int boot_int (paC (c7 (iJ K rfl hu) (pv 2) (pv 0) (aL _)) ae)))⟩) (by kernel_rfl)) ae))))) (am (aG (pv 1))))),(eI K mg TC)⟩
def Gv(D:a5 K mg "law" Ap)(T:Txt mg)(TC:TxC K)(C'22:nG P w K mg base)(C'24:mM P w K mg base)(C'30:kB P w K mg base)(C'34:gT P w K mg base)(C'28:mO P w K mg base)(C'27:ou P w K mg base)(C'37:mQ P w K mg base)(C'35:mP P w K mg base)(C'25:d3 P w K mg base)(C'36:jB P w K mg base)(C'38:eJ P w K mg base)(C'11:d0 P w K mg base)(C'14:iz P w K mg base)(C'15:kA P w K mg base):Gs P w K mg base:=D.oP2 eE (by walk_at "b1") Gq rfl rfl λ_ _ _ _ _ _ _ hr hu=>⟨_,(af (aE (i:=1) eE.nd rfl (by walk_at "o") (aw C'24 (hr.m rfl) (paC (pv 0) (paC ao ae)))) (af (aE (i:=2) eE.nd rfl (by walk_at "o") (aw C'30 (hr.m rfl) (paC (pv 1) (paC ao ae)))) (af (lp (cK (aI (kJ K rfl hu) (aD dD (aw C'25 (hr.m rfl) (paC (pv 1) ae)) ao) ao (aL _)) (am (aE (i:=2) eE.nd rfl (by walk_at "o") (b7 ae))) aX)) (af (lp (cK (aI (kJ K rfl hu) (aD dD (aw C'25 (hr.m rfl) (paC (pv 1) ae)) ao) ao (aL _)) (am (aE (i:=2) eE.nd rfl (by walk_at "o") (aw C'37 (hr.m rfl) (paC (pv 1) ae)))) aX)) (af (aE (i:=3) eE.nd rfl (by walk_at "o") (aw C'28 (hr.m rfl) (paC (pv 2) ae))) (af (iC (wi:=(hV K (aH 3))) (g:=(bg 0)) (tts:=gW) (te:=(ql [none,some 0] (hV K (aH 1)) (bg 0) gW (dJ (spP K fB) [] E0 (aK (aH 1) (aK (aH 0) c6))))) (i:=4) ["_law_one","_law_words"] [none,some 3] eE.nd rfl (M3 rfl) rfl (bu K rfl (pv 3)) (λ_ _ _ _=>⟨(au (i:=0) (by show u_ (["_law_one","_law_words"]:List Str);decide +kernel) rfl (by walk_at "o")),bb,(bj (wi:=(hV K (aH 1))) (g:=(bg 0)) (tts:=gW) (te:=(dJ (spP K fB) [] E0 (aK (aH 1) (aK (aH 0) c6)))) ["_law_other","_law_one"] [none,some 0] rfl (bu K rfl (pv 1)) (λ_ _ _ _=>⟨(au (i:=0) (by show u_ (["_law_other","_law_one"]:List Str);decide +kernel) rfl (by walk_at "o")),bb,(aw C'27 (hr.m rfl) (paC (pv 1) (paC (pv 0) ae)))⟩) (by kernel_rfl))⟩) (by kernel_rfl)) (af (aE (i:=5) eE.nd rfl (by walk_at "o") (aj (kj K rfl rfl) rfl T.b_sum LR (paC (bj (wi:=(hV K (aH 3))) (g:=(bg 0)) (tts:=gW) (te:=(tCB (jK K) (aK (aH 0) c6))) ["_law_word"] [none] rfl (bu K rfl (pv 3)) (λ_ _ _ _=>⟨(au (i:=0) (by show u_ (["_law_word"]:List Str);decide +kernel) rfl (by walk_at "o")),bb,(aj (bH K rfl) rfl T.b_len m_ (paC (pv 0) ae))⟩) (by kernel_rfl)) ae))) (af (aE (i:=6) eE.nd rfl (by walk_at "o") (uv C'22 (hr.m rfl) (paC (pv 2) ae))) (af (aE (i:=7) eE.nd rfl (by walk_at "o") (aw C'15 (hr.m rfl) (paC (pv 6) ae))) (af (cK (fZ (cC (aw C'34 (hr.m rfl) (paC (pv 4) (paC (pv 7) ae))))) (am (aG g9)) aX) (af (aE (i:=8) eE.nd rfl (by walk_at "o") (aD jf (aD jf (pv 5) (aj (kj K rfl rfl) rfl T.b_sum LR (paC (aT (cu K rfl) (pv 7) ao (λ_ _=>rfl)) ae))) (aj (kj K rfl rfl) rfl T.b_sum LR (paC (aT (cu K rfl) (pv 7) ao (λ_ _=>rfl)) ae)))) (af (cK (aI (iJ K rfl hu) (aw C'14 (hr.m rfl) (paC (pv 6) (paC (pv 7) ae))) (pv 8) (aL _)) (am (aG g9)) aX) (af (aE (i:=9) eE.nd rfl (by walk_at "o") (aw C'38 (hr.m rfl) (paC (pv 4) ae))) (af (aE (i:=10) eE.nd rfl (by walk_at "o") (aT (cu K rfl) (aw C'11 (hr.m rfl) (paC (pv 9) ae)) ao (λ_ _=>rfl))) (af (cK (aI (iJ K rfl hu) (pv 8) (aD jf (pv 5) (aj (kj K rfl rfl) rfl T.b_sum LR (paC (bj (wi:=(mU (aK (tCB (jK K) (aK (aH 3) c6)) c6))) (g:=(bg 0)) (tts:=gW) (te:=(tOp (kH K) (tOp (kH K) (aH 1) (aH 0)) (tOp (kH K) (aH 2) (aH 0)))) ["_law_i","_law_rows","_law_followers"] [none,some 9,some 10] rfl (aN rfl T.b_range (paC (aj (bH K rfl) rfl T.b_len m_ (paC (pv 3) ae)) ae)) (λ_ _ _ _=>⟨(au (i:=0) (by show u_ (["_law_i","_law_rows","_law_followers"]:List Str);decide +kernel) rfl (by walk_at "o")),bb,(aT (cu K rfl) (aT (cu K rfl) (pv 1) (pv 0) (λ_ _=>rfl)) (aT (cu K rfl) (pv 2) (pv 0) (λ_ _=>rfl)) (λ_ _=>rfl))⟩) (by kernel_rfl)) ae))) (aL _)) (am (aG g9)) aX) (af (bX tf rfl (bu K rfl (aw C'36 (hr.m rfl) (paC (pv 1) (paC (pv 4) ae)))) (au (i:=11) eE.nd rfl (by walk_at "o")) (am (cK (aI Dv (aD jf (aD jf (pv 5) (aj (kj K rfl rfl) rfl T.b_sum LR (paC (aT (cu K rfl) (pv 11) ao (λ_ _=>rfl)) ae))) (aj (kj K rfl rfl) rfl T.b_sum LR (paC (aT (cu K rfl) (pv 11) ao (λ_ _=>rfl)) ae))) (pv 8) (aL _)) (am (aG g9)) aX))) (af (cK (PW.pt (nQ (aI EG (aj (bH K rfl) rfl T.b_len m_ (paC (pv 3) ae)) ao (aL _)) (jD (aI (iJ K rfl hu) (aD jf (pv 5) (aw C'35 (hr.m rfl) (paC (pv 4) ae))) (pv 8) (aL _))))) (am (aG g9)) aX) (am (aG (gv (c7 (kJ K rfl hu) (aw C'15 (hr.m rfl) (paC (uv C'22 (hr.m rfl) (paC (aQ (eP K rfl) rfl T.b_tuple J9 (paC (pv 2) ae)) ae)) ae)) (pv 7) (aL _)) (iY (c7 (kJ K rfl hu) (aw C'15 (hr.m rfl) (paC (pv 6) ae)) (pv 7) (aL _))))))))))))))))))))))),(BA K mg TC)⟩
end
variable {w:World}{K:b_}{h:Heap}{mg:Str->Option Value}
def Gw{l:MR}{fa:Addr}(X:K.In h)(G:h.Ns mainGlobals mg)(hfa:mg "law"=some (.ref fa)){C_Family:Addr}(aC_Family:w_ K mainGlobals "Family"=some (some (.ref C_Family)))(pg_Family:KR K C_Family Str.empty=true)(hd_Family:Ln K C_Family=true)(po_Family:Mo K C_Family=true)(sa_Family:o_ K (.ref C_Family) "__setattr__"=some (some (.builtin "object.__setattr__")))(mk_Family:MQ K C_Family=true)(kc_Family:C_ K (.ref C_Family)=true)(n_Family_pieces:o_ K (.ref C_Family) "pieces"=some none)(n_Family_kept:o_ K (.ref C_Family) "kept"=some none)(n_Family_words:o_ K (.ref C_Family) "words"=some none)(n_Family_left:o_ K (.ref C_Family) "left"=some none)(n_Family_laps:o_ K (.ref C_Family) "laps"=some none)(n_Family_total:o_ K (.ref C_Family) "total"=some none)(d1:fO K "is_row" pH)(d2:fO K "is_number" iN){f3:Addr}{oc3 kV3 dc3 pm3 cd3 ct3:Value}{od3 an3 dd3:Option Addr}{sl3 st3:Array (Option Value)}{dT3:Addr}{n3:Nat}{u3_0 u3_1:Tok}(a3:w_ K mainGlobals "is_text"=some (some (.ref f3)))(l3:K.lookup f3=some ⟨oc3,od3,.func (Eo "is_text" "is_text" (bL fq) (aR fq) (ai fq) (.ref dT3) kV3 dc3 pm3 an3 cd3 ct3),sl3⟩)(c3:JJ K cd3 "is_text"=true)(k3:C_ K (.ref f3)=true)(t3:K.lookup dT3=some ⟨.type "tuple",dd3,.seq [.int 0 u3_0,.int 4000 u3_1].toArray n3,st3⟩)(d4:fO K "first_place" fQ)(d5:fO K "way_to_free" fR)(d6:fO K "other_pairs" fS)(d7:fO K "lap" C8){f8:Addr}{oc8 kV8 dc8 pm8 cd8 ct8:Value}{od8 an8:Option Addr}{sl8:Array (Option Value)}(a8:o_ K (.ref C_Family) "many"=some (some (.ref f8)))(i8:L4 K (.ref f8)=true)(l8:K.lookup f8=some ⟨oc8,od8,.func (Eo "many" "Family.many" (bL bQ) (aR bQ) (ai bQ) .none kV8 dc8 pm8 an8 cd8 ct8),sl8⟩)(c8:JJ K cd8 "Family.many"=true)(k8:C_ K (.ref f8)=true)(d9:fO K "_law_deck" jW)(d10:fO K "_law_next" jX)(d11:fO K "_law_fits" jY)(d12:fO K "_law_kept" jZ)(d13:fO K "_law_spelled" fU)(d14:fO K "_law_whole" iS)(d15:fO K "_law_all" l9)(d16:fO K "_law_mended" gF)(d17:fO K "_law_without_own" de)(d18:fO K "are_numbers" fP)(d19:fO K "is_whole" jT)(d20:fO K "pair_one_more" dS)(d21:fO K "all_laps" jU)(d22:fO K "check_pieces" eV)(d23:fO K "stands_within" dU)(d24:fO K "_law_lap" l7)(d25:fO K "_law_drawn" iR)(d26:fO K "_law_is_right" eW)(d27:fO K "_law_most" j1)(d28:fO K "_law_others" gG)(d29:fO K "_law_many" j3)(d30:fO K "are_prices" gE)(d31:fO K "is_square" iO)(d32:fO K "is_kept" l5)(d33:fO K "left_row" jV)(d34:fO K "is_price_paper" dz)(d35:fO K "best_pairing" eU){f36:Addr}{oc36 kV36 dc36 pm36 cd36 ct36:Value}{od36 an36:Option Addr}{sl36:Array (Option Value)}(a36:o_ K (.ref C_Family) "__init__"=some (some (.ref f36)))(i36:L4 K (.ref f36)=true)(l36:K.lookup f36=some ⟨oc36,od36,.func (Eo "__init__" "Family.__init__" (bL bP) (aR bP) (ai bP) .none kV36 dc36 pm36 an36 cd36 ct36),sl36⟩)(c36:JJ K cd36 "Family.__init__"=true)(k36:C_ K (.ref f36)=true)(d37:fO K "pays_laps" iP)(d38:fO K "prices_of" iQ)(d39:fO K "price_bound" fT)(d40:fO K "law" Ap)(z1:w_ K mainGlobals "all"=some none)(z2:w_ K mainGlobals "any"=some none)(z3:w_ K mainGlobals "bool"=some none)(z4:w_ K mainGlobals "enumerate"=some none)(z5:w_ K mainGlobals "int"=some none)(z6:w_ K mainGlobals "isinstance"=some none)(z7:w_ K mainGlobals "len"=some none)(z8:w_ K mainGlobals "list"=some none)(z9:w_ K mainGlobals "max"=some none)(z10:w_ K mainGlobals "min"=some none)(z11:w_ K mainGlobals "range"=some none)(z12:w_ K mainGlobals "reversed"=some none)(z13:w_ K mainGlobals "str"=some none)(z14:w_ K mainGlobals "sum"=some none)(z15:w_ K mainGlobals "tuple"=some none){ty1:Tok}(y1:w_ K mainGlobals "MOST_NUMBER"=some (some (.int 1000000 ty1))){ty2:Tok}(y2:w_ K mainGlobals "MOST_PIECES"=some (some (.int 40 ty2))){ty3:Tok}(y3:w_ K mainGlobals "MOST_ROWS"=some (some (.int 40 ty3))){ty4:Tok}(y4:w_ K mainGlobals "MOST_SIGNS"=some (some (.int 60 ty4))):
  ∃fd:JS,(∀(s:cy) (v:Value),MF s fd ⟨[v],[]⟩ [("_law_script",v)])/\∀base:Heap,K.In base->base.Ns mainGlobals mg->oF l.prog w K mg base CX0 7 fa fd ["_law_script"] (u6 K):=by
 have eC_Family:=zy aC_Family;have TC:TxC K:=⟨by rw [eC_Family];exact⟨pg_Family,hd_Family,po_Family,sa_Family⟩,by show o_ K (.ref (bM K "Family")) "pieces"=some none;rw [eC_Family];exact n_Family_pieces,by show o_ K (.ref (bM K "Family")) "kept"=some none;rw [eC_Family];exact n_Family_kept,by show o_ K (.ref (bM K "Family")) "words"=some none;rw [eC_Family];exact n_Family_words,by show o_ K (.ref (bM K "Family")) "left"=some none;rw [eC_Family];exact n_Family_left,by show o_ K (.ref (bM K "Family")) "laps"=some none;rw [eC_Family];exact n_Family_laps,by show o_ K (.ref (bM K "Family")) "total"=some none;rw [eC_Family];exact n_Family_total⟩
 have D'0:=bi d1 X G;have D'1:=bi d2 X G;have D'5:uh K mg "is_text" fq [.int 0,.int 4000]:=⟨⟨f3,dT3,oc3,od3,an3,dd3,kV3,dc3,pm3,cd3,ct3,sl3,st3,[.int 0 u3_0,.int 4000 u3_1],n3,l3,c3,k3,KA X G a3,t3,(.cons ⟨_,rfl⟩ (.cons ⟨_,rfl⟩ .nil))⟩⟩
 have D'6:=bi d4 X G;have D'9:=bi d5 X G;have D'12:=bi d6 X G;have D'16:=bi d7 X G;have D'23:uj K (bM K "Family") "many" "Family.many" bQ:=by rw [eC_Family];exact⟨⟨f8,_,wH (st:=bQ) l8 c8 k8,⟨a8,i8,k8⟩⟩⟩
 have D'24:=bi d9 X G;have D'25:=bi d10 X G;have D'26:=bi d11 X G;have D'28:=bi d12 X G;have D'29:=bi d13 X G;have D'31:=bi d14 X G;have D'32:=bi d15 X G;have D'33:=bi d16 X G;have D'38:=bi d17 X G;have D'2:=bi d18 X G;have D'7:=bi d19 X G;have D'10:=bi d20 X G;have D'17:=bi d21 X G;have D'18:=bi d22 X G
 have D'19:=bi d23 X G;have D'27:=bi d24 X G;have D'30:=bi d25 X G;have D'34:=bi d26 X G;have D'35:=bi d27 X G;have D'36:=bi d28 X G;have D'37:=bi d29 X G;have D'3:=bi d30 X G;have D'8:=bi d31 X G;have D'20:=bi d32 X G;have D'21:=bi d33 X G;have D'4:=bi d34 X G;have D'11:=bi d35 X G;have D'22:uk K mg (bM K "Family") "Family" "Family.__init__" bP:=by rw [eC_Family];exact⟨⟨f36,_,wH (st:=bP) l36 c36 k36,⟨mk_Family,a36,i36,kc_Family⟩,KA X G aC_Family⟩⟩
 have D'13:=bi d37 X G;have D'15:=bi d38 X G;have D'14:=bi d39 X G;have D'39:=bi d40 X G;have T:Txt mg:=⟨A_ X G z1,A_ X G z2,A_ X G z3,A_ X G z4,A_ X G z5,A_ X G z6,A_ X G z7,A_ X G z8,A_ X G z9,A_ X G z10,A_ X G z11,A_ X G z12,A_ X G z13,A_ X G z14,A_ X G z15,⟨_,KA X G y1⟩,⟨_,KA X G y2⟩,⟨_,KA X G y3⟩,⟨_,KA X G y4⟩⟩
 refine Er (st:=Ap) hfa D'39 (λ_ _ _ _ _ _ s v=>.of_eq rfl) λbase=>?_;have C'0:=yJ l.prog w base D'0 T TC;have C'1:=rC l.prog w base D'1 T TC;have C'5:=vT l.prog w base D'5 T TC;have C'6:=nI l.prog w base D'6 T TC;have C'9:=nJ l.prog w base D'9 T TC;have C'12:=nK l.prog w base D'12 T TC;have C'16:=Gu l.prog w base D'16 T TC
 have C'23:=nN l.prog w base D'23 T TC;have C'24:=tO l.prog w base D'24 T TC;have C'25:=tP l.prog w base D'25 T TC;have C'26:=tQ l.prog w base D'26 T TC;have C'28:=tS l.prog w base D'28 T TC;have C'29:=nO l.prog w base D'29 T TC;have C'31:=rH l.prog w base D'31 T TC;have C'32:=vW l.prog w base D'32 T TC
 have C'33:=pU l.prog w base D'33 T TC;have C'38:=jC l.prog w base D'38 T TC;have C'2:=nH l.prog w base D'2 T TC C'1 C'0;have C'7:=tJ l.prog w base D'7 T TC C'1;have C'10:=kQ l.prog w base D'10 T TC C'9;have C'17:=tK l.prog w base D'17 T TC C'16;have C'18:=mS l.prog w base D'18 T TC C'5
 have C'19:=kR l.prog w base D'19 T TC C'6;have C'27:=vV l.prog w base D'27 T TC C'26;have C'30:=rG l.prog w base D'30 T TC C'25 C'29;have C'34:=mT l.prog w base D'34 T TC C'31;have C'35:=tT l.prog w base D'35 T TC C'32;have C'36:=pV l.prog w base D'36 T TC C'33 C'25
 have C'37:=tU l.prog w base D'37 T TC C'25 C'29;have C'3:=pT l.prog w base D'3 T TC C'2;have C'8:=rD l.prog w base D'8 T TC C'0 C'7;have C'20:=vU l.prog w base D'20 T TC C'19;have C'21:=tM l.prog w base D'21 T TC C'6 C'19;have C'4:=kd l.prog w base D'4 T TC C'3 C'0
 have C'11:=mR l.prog w base D'11 T TC C'8 C'10;have C'22:=nM l.prog w base D'22 T TC C'17 C'18 C'20 C'21;have C'13:=rE l.prog w base D'13 T TC C'4;have C'15:=rF l.prog w base D'15 T TC C'11;have C'14:=nL l.prog w base D'14 T TC C'23 C'12 C'13
 exact (Gv l.prog w base D'39 T TC C'22 C'24 C'30 C'34 C'28 C'27 C'37 C'35 C'25 C'36 C'38 C'11 C'14 C'15).imp λ_ _ _ _ h=>Cv h
end K29

open PySem PySem.W PyProof.Rows
local macro_rules | `(tactic| walk_at "fn") => `(tactic| (refine' L2.FA ?a ?l ?c ?k; (case a => k_is); (case l => k_is); (case c => k_is); (case k => k_is)))
local macro_rules | `(tactic| walk_at "xi") => `(tactic| (refine' L2.HW ?a ?l ?g ?h ?s ?c ?k; (case a => k_is); (case l => k_is); (case g => k_is); (case h => k_is); (case s => k_is); (case c => k_is); (case k => k_is)))
local macro_rules | `(tactic| walk_at "xj") => `(tactic| (refine' L2.HX ?i ?t ?l ?c ?k ?n; (case i => k_is); (case t => k_is); (case l => k_is); (case c => k_is); (case k => k_is); (case n => k_is)))
set_option maxRecDepth 100000 in
set_option maxHeartbeats 0 in
theorem PySem.Challenge.cw_shortglue_k29_prices_of_holds : PySem.Challenge.rw_shortglue_k29_prices_of.Holds := by
  refine topHd ?_
  k_fill
  refine L2.Es (l := PySem.Challenge.rw_shortglue_k29_prices_of) (k := 7) (x := "_law_script") rfl rfl ⟨rfl, by decide, by decide⟩ (fun w h Y => PySem.W.kIn_of Y) ?F
  case F =>
    intro w mg fa h KX G hmg
    refine' K29.Gw KX G hmg ?aC_Family ?pg_Family ?hd_Family ?po_Family ?sa_Family ?mk_Family ?kc_Family ?n_Family_pieces ?n_Family_kept ?n_Family_words ?n_Family_left ?n_Family_laps ?n_Family_total ?d1 ?d2 ?a3 ?l3 ?c3 ?k3 ?t3 ?d4 ?d5 ?d6 ?d7 ?a8 ?i8 ?l8 ?c8 ?k8 ?d9 ?d10 ?d11 ?d12 ?d13 ?d14 ?d15 ?d16 ?d17 ?d18 ?d19 ?d20 ?d21 ?d22 ?d23 ?d24 ?d25 ?d26 ?d27 ?d28 ?d29 ?d30 ?d31 ?d32 ?d33 ?d34 ?d35 ?a36 ?i36 ?l36 ?c36 ?k36 ?d37 ?d38 ?d39 ?d40 ?z1 ?z2 ?z3 ?z4 ?z5 ?z6 ?z7 ?z8 ?z9 ?z10 ?z11 ?z12 ?z13 ?z14 ?z15 ?y1 ?y2 ?y3 ?y4
    (case aC_Family => k_is)
    (case pg_Family => k_is)
    (case hd_Family => k_is)
    (case po_Family => k_is)
    (case sa_Family => k_is)
    (case mk_Family => k_is)
    (case kc_Family => k_is)
    (case n_Family_pieces => k_is)
    (case n_Family_kept => k_is)
    (case n_Family_words => k_is)
    (case n_Family_left => k_is)
    (case n_Family_laps => k_is)
    (case n_Family_total => k_is)
    (case d1 => walk_at "fn")
    (case d2 => walk_at "fn")
    (case a3 => k_is)
    (case l3 => k_is)
    (case c3 => k_is)
    (case k3 => k_is)
    (case t3 => k_is)
    (case d4 => walk_at "fn")
    (case d5 => walk_at "fn")
    (case d6 => walk_at "fn")
    (case d7 => walk_at "fn")
    (case a8 => k_is)
    (case i8 => k_is)
    (case l8 => k_is)
    (case c8 => k_is)
    (case k8 => k_is)
    (case d9 => walk_at "fn")
    (case d10 => walk_at "fn")
    (case d11 => walk_at "fn")
    (case d12 => walk_at "fn")
    (case d13 => walk_at "fn")
    (case d14 => walk_at "fn")
    (case d15 => walk_at "fn")
    (case d16 => walk_at "fn")
    (case d17 => walk_at "fn")
    (case d18 => walk_at "fn")
    (case d19 => walk_at "fn")
    (case d20 => walk_at "fn")
    (case d21 => walk_at "fn")
    (case d22 => walk_at "fn")
    (case d23 => walk_at "fn")
    (case d24 => walk_at "fn")
    (case d25 => walk_at "fn")
    (case d26 => walk_at "fn")
    (case d27 => walk_at "fn")
    (case d28 => walk_at "fn")
    (case d29 => walk_at "fn")
    (case d30 => walk_at "fn")
    (case d31 => walk_at "fn")
    (case d32 => walk_at "fn")
    (case d33 => walk_at "fn")
    (case d34 => walk_at "fn")
    (case d35 => walk_at "fn")
    (case a36 => k_is)
    (case i36 => k_is)
    (case l36 => k_is)
    (case c36 => k_is)
    (case k36 => k_is)
    (case d37 => walk_at "fn")
    (case d38 => walk_at "fn")
    (case d39 => walk_at "fn")
    (case d40 => walk_at "fn")
    (case z1 => k_is)
    (case z2 => k_is)
    (case z3 => k_is)
    (case z4 => k_is)
    (case z5 => k_is)
    (case z6 => k_is)
    (case z7 => k_is)
    (case z8 => k_is)
    (case z9 => k_is)
    (case z10 => k_is)
    (case z11 => k_is)
    (case z12 => k_is)
    (case z13 => k_is)
    (case z14 => k_is)
    (case z15 => k_is)
    (case y1 => k_is)
    (case y2 => k_is)
    (case y3 => k_is)
    (case y4 => k_is)
