import PyProof.Rows.All
import Wide.All
import OpenK.AllK
import Wide.FinOn
import Lean
import PyProof.EqAt
import PyProof.EqKinds
import PyProof.TupleCall
import KE.KSortTup
import PyProof.FString
import PyProof.StrBlock
import KE.KRevSl
import PyProof.StrLawsReplace
import PyProof.StrCalls6
import PyProof.MinMaxWalk
import PyProof.WalkInts
import PyProof.NeKinds
import KE.KEqDict
import PyProof.Rows.SumAny
import KE.KMinKey
import PyProof.Rows.CallKwBuiltin
import KE.KIntText
import PySem.Challenge.RW_shortglue_k69_why_rows
set_option Elab.async false
set_option linter.all false
set_option maxRecDepth 100000
open List (all_cons all_eq_false all_eq_true all_map any_cons any_eq_false any_map append_assoc append_nil append_toArray cons_append cons_lt_cons_iff contains_cons contains_iff_mem drop_drop drop_eq_getElem_cons drop_eq_nil_of_le drop_take drop_zero eq_of_mem_replicate eraseIdxIfInBounds_toArray ext_getElem ext_getElem? extract_eq_take_drop extract_toArray filterMap_append filterMap_cons filterMap_eq_map filterMap_map filter_append filter_cons find?_cons find?_eq_none find?_eq_some_iff_append flatMap_append flatMap_cons flatMap_nil flatten_cons flatten_nil foldl_cons forIn_cons forIn_nil getD_eq_getElem?_getD getElem?_append_left getElem?_append_right getElem?_cons_succ getElem?_eq_getElem getElem?_eq_none getElem?_map getElem?_range getElem?_replicate getElem?_reverse getElem?_set_ne getElem?_set_self getElem?_take getElem?_take_of_lt getElem?_zip_eq_some getElem_cons_drop getElem_inj getElem_map getElem_mem getElem_of_mem getElem_range getElem_toArray length_append length_cons length_drop length_eq_zero_iff length_eraseIdx_le length_filter_le length_flatten length_map length_nil length_pos_iff length_pos_of_mem length_range length_replicate length_reverse length_set length_singleton length_take lookup_append lookup_cons map_append map_congr_left map_cons map_drop map_map map_nil map_replicate map_take mem_append mem_append_left mem_append_right mem_cons mem_cons_of_mem mem_cons_self mem_filter mem_filterMap mem_flatMap mem_flatten mem_iff_getElem? mem_map mem_map_of_mem mem_of_getElem? mem_of_mem_drop mem_of_mem_eraseIdx mem_of_mem_take mem_or_eq_of_mem_set mem_range mem_range'_1 mem_replicate mem_singleton nil_append nil_suffix nodup_cons not_mem_nil of_mem_zip pairwise_append pairwise_cons pairwise_lt_range range_succ range_succ_eq_map replicate_succ reverse_cons set_cons_succ set_cons_zero size_toArray suffix_iff_eq_drop sum_append sum_cons sum_replicate_nat tail_cons take_add_one take_append_drop take_length take_nil take_of_length_le take_sublist take_succ take_succ_cons take_take take_zero toList_toArray zipIdx_cons zipIdx_nil)
open Nat (add_comm add_mul eq_zero_or_pos le_add_right le_antisymm le_of_ble_eq_true le_of_eq le_of_lt le_of_not_lt le_of_succ_le le_refl le_succ le_trans length_toDigits_le_iff log2_lt lt_of_le_of_lt lt_of_lt_of_le lt_or_ge lt_succ_of_lt lt_succ_self lt_trans max_le min_eq_left min_eq_right min_le_right mul_comm mul_le_mul_right mul_pos mul_zero ne_of_gt ne_of_lt not_lt not_lt_zero not_succ_le_self one_mul repr_eq_ofList_toDigits sub_self succ_le_succ succ_mul zero_le)
open Int (add_zero ediv_nonneg ediv_one emod_lt_of_pos emod_nonneg fdiv_eq_ediv_of_nonneg fmod_eq_emod_of_nonneg le_ediv_of_mul_le le_total mul_add mul_le_mul_of_nonneg_left mul_nonneg mul_one natCast_add natCast_zero neg_neg toNat_natCast zero_mul)
open Bool (and_eq_false_imp and_eq_true and_eq_true_iff beq_eq_decide_eq eq_false_iff false_eq_true not_eq_true or_eq_true or_eq_true_iff)
local macro_rules | `(tactic| walk_at "o")=>`(tactic| first | exact Or.inl rfl | exact Or.inr rfl | exact Or.inr (Or.inl rfl) | exact Or.inr (Or.inr rfl))
set_option maxHeartbeats 4000000
noncomputable section
open And renaming intro→A_
open Array renaming getElem?_eq_some_iff→Iw,length_toList→HI,mk→IV,toList→KO
open Bool renaming and_false→HY,eq_iff_iff→J7,false_and→HQ,false_ne_true→n_,false_or→JX,not_eq_true'→KG,or_false→Lo,or_true→K3,true_and→Ib
open Char renaming toNat→Lq
open False renaming elim→HD
open ForInStep renaming yield→HS
open Int renaming toNat→Lw
open List renaming Nodup→Hu,all_eq_true→Hj,append_assoc→KY,append_nil→HE,contains_iff_mem→Hd,drop_eq_nil_of_le→Jb,ext_getElem?→JH,filterMap_cons→Ir,filterMap_map→Jo,forIn_nil→Lm,getD_eq_getElem?_getD→o_,getElem?_append_left→J0,getElem?_cons_succ→Ju,getElem?_eq_getElem→gV,getElem?_eq_none→G_,getElem?_eq_some_iff→j_,getElem?_map→q_,getElem?_range→Ie,getElem?_set_ne→g_,getElem?_set_self→m_,getElem_of_mem→Lf,length_eq_zero_iff→IU,length_filter_le→JR,length_range→Hs,length_set→Hn,lookup_cons→HZ,lookup→Ic,map_congr_left→La,map_id'→Lu,mem_append_left→IW,mem_append_right→t_,mem_append→Ij,mem_cons_of_mem→p_,mem_filterMap→IH,mem_filter→Iq,mem_map_of_mem→JK,mem_map→Iz,mem_of_getElem?→F_,mem_range'_1→Ki,mem_range→Jh,mem_singleton→y_,nodup_cons→Jf,range'→Jy,range_succ→Kz,range→i_,replicate→B_,reverse_cons→KW,size_toArray→x_,suffix_iff_eq_drop→Kx,take_length→KE,take_of_length_le→Ig,zipIdx_cons→Le
open Nat renaming ble→KA,le_add_right→Io,le_of_ble_eq_true→JL,le_of_eq→Kr,le_of_succ_le→JW,le_refl→so,le_trans→E_,lt_irrefl→HA,lt_of_le_of_lt→Lg,lt_of_lt_of_le→tf,lt_succ_of_lt→JV,lt_succ_self→Kf,min_eq_left→Lb,min_eq_right→KZ,mul_le_mul→Lh,ne_of_gt→Je,ne_of_lt→Hi,not_lt_zero→KF,sub_zero→Ls,zero_add→Kk,zero_le→Iy
open Ne renaming symm→HR
open Option renaming isSome_iff_exists→II,map_eq_some_iff→IS
open Option.some renaming inj→we
open Or renaming inl→Lv
open Prod renaming fst→Hh,snd→IR
open Prod.mk renaming injEq→JT
open PyProof renaming noPylong_small→KP
open PyProof.Rows renaming AllBare→Kc,boot_isinstance→HG,boot_list→JA,boot_sum→KN,boot_tuple→IL,callWith_type1→Hv,slot_tuple_getitem→Hw
open PySem renaming Around→w_,BindsTo→KQ,Builtin→IM,DictEntry→Li,ExceptHandler→Jr,FuncData→HH,GenState→Ko,IsPair→Jt,IsPart→KU,NameKind→HX,OsState→Ja,Params→Kn,Program→r_,PyData→JF,Shared→d_,Within→Lr,boot_len→pf,call_meets→Kw,codeAny_call_builtin→J5,codeAny_mono→Kg,concat_meets→KS,mem_of_lookup→IP,noFill_tuple_add→KL,plainObj_wpAny_Assign_Attribute→JM,pushCells_keeps→J8,sizeLine_eq→Jw,slot_list_getitem→KD,wpAny_Call_Name_kw→Iu,wpAny_attempt→IZ,wpAny_bind→cy,wpAny_callSpecial?_slot→Ho,wpAny_call_entry→HV,wpAny_call→KR,wpAny_execs_nil→J6,wpAny_field→D_,wpAny_holding→HB,wpAny_isInstance→KM,wpAny_isSubtype_exc→Im,wpAny_letGo→J3,wpAny_loadPart'→K7,wpAny_loadPart_at→HN,wpAny_mono→Hg,wpAny_newObj_type→HM,wpAny_of_eq→Ld,wpAny_onRaise→Ia,wpAny_passesOwn→ID,wpAny_pure→e_,wpAny_pyIter_list→Jc,wpAny_pyIter_tuple→Ky,wpAny_pyIter_zip→JQ,wpAny_rule→JP,wpAny_seqItems→Hy,wpAny_setField_rec→Ht,wpAny_setField→JI,wpAny_standAt→HP,wpAny_truthy_bool→HK,wpAny_typeOf_ref→JS,wpAny_updateSeq_pair→J1
open PySem.AutoSeq1 renaming wpAny_loadPart'→IK
open PySem.Bind renaming checkArgs→Jg
open PySem.Builtin.List renaming listTooLong→Jp
open PySem.Builtin.Range renaming rangeFitsLong→Kh,rangeSize→HU,small→Jl
open PySem.Builtin.Slice renaming sliceAdjust→Jk,sliceApplied→Kt,slicePlaces→IC
open PySem.Builtin.SmallTypes renaming nextOf→s_,ownedTupleHandOut→HJ,ownedTupleIsFree→C_
open PySem.Builtin.Str renaming occurrences→Jz,strSliceIndices→HW,subAt→JG
open PySem.Builtin.Tuple renaming tupleExact→IJ,tupleItemsOf→Ku
open PySem.Calls renaming Name_function_global→Kp
open PySem.F renaming args_tuple_add_2→Jn,entry_tuple_add→Jx,plainAttrs_list→Hf,plainAttrs_str→Hz,slot_gs_get→Kb,slot_list_append→Hk,slot_str_find→K8,slot_str_join→IA,slot_tuple_add→JE,store_ValueError→KH,typeOf_object_class→Kl,type_list_append→Hl,type_str_find→K9,type_str_join→IB
open PySem.Heap renaming ExtBut→Lc,SameBut→Ji,get?_push_of_some→c_,get?_push_size→h_,get?_update_ne→Il,get?_update_self→H_,lt_size→l_,size_push→Hc
open PySem.Heap.SameBut renaming update→Ka
open PySem.Manifest renaming signature?→Jm
open PySem.NameKind renaming cell→IY,free→Jq
open PySem.Obj renaming data_mapFields→Js,isFreed_of_fields→JN,mapFields→KJ,mapSeq→Kv
open PySem.PassesOwn renaming never→Ha
open PySem.PyData renaming canLay0→JJ,depth→Kj,eqvAll→JU,eqv→JO,int→K0
open PySem.SeqAt renaming shaped→IG
open PySem.Shared renaming heap→J4
open PySem.Str renaming empty→Ll,ofString_eq_toList→IX,ofString→IF
open PySem.StrLaws renaming occBody→J9
open PySem.Value renaming bool→Ih,builtin→KI,float→K_,int→Km,none→HC,ref→k_,str→Jv,type→Jd
open PySem.Value.ref renaming inj→JY
open PySem.W renaming Frag→b_,OpenLaw→K6,boot_heap→He,callWith_K→Ks,cellsFrom_some→IT,clsIn→JZ,codeIn→HF,emptyDict→HL,excIn→I_,findIn→f_,fnOf→Hb,hasDictIn→JB,instObj→Ii,isFn→Ke,keepIn→u_,kia_one→Hx,kitAny→Iv,kitOne→Hm,kitx_dict→JD,kitx_list→JC,lookIn→Kq,looks_findIn→IE,makesIn→K5,methodObj→KB,mg_none_of→z_,mg_of→Hr,mroIn→Ln,nsIn→v_,plainGet_of→J_,plainGet→Jj,plainOver→KC,subIn→Lp,takerIn→K4,typeIn→IQ
open Sum renaming inl→Lj,inr→Lk
open True renaming intro→Ik
namespace L2
open PySem PySem.W
noncomputable def kg(tb:String->Option IM)(p:r_)(w:World)(n₀:Nat)(ann:Option Value):Nat->SharedT->Thread->Option SharedT
 | 0,_,_=>none
 | n+1,s,t=>match through t with
  | true=>some s
  | false=>match stepOk n₀ ann t with
   | false=>none
   | true=>match stepT (denote tb) p w s t with
    | some (s',t')=>kg tb p w n₀ ann n s' t'
    | none=>none
theorem kh{tb:String->Option IM}{p:r_}{w:World}{n₀:Nat}{ann:Option Value}:∀{n:Nat}{s s':SharedT}{t:Thread},kg tb p w n₀ ann n s t=some s'->topRun tb p w n₀ ann n s.abs t=some s'.abs
 | 0,_,_,_,h=>by cases h
 | n+1,s,s',t,h=>by
  unfold kg at h;unfold topRun
  cases he:through t with
  | true=>rw [he] at h;cases h;rfl
  | false =>
   rw [he] at h
   cases hk:stepOk n₀ ann t with
   | false=>rw [hk] at h;cases h
   | true =>
    rw [hk] at h
    cases hs:stepT (denote tb) p w s t with
    | none=>rw [hs] at h;cases h
    | some r=>obtain⟨s₂,t₂⟩:=r;rw [hs] at h;rw [stepT_spec hs];exact kh h
noncomputable def rO:List Obj->Nat->BT->BT
 | [],_,t=>t
 | o::r,i,t=>rO r (i+1) (t.ins i o)
noncomputable def ze(P:Kn):BT:=rO (He P).objs.toList 0 .nil
theorem xh:∀P,absHeap (ze P) (He P).objs.size (He P).life=He P:=λP=>by kernel_rfl
theorem FJ{p q:r_}{loose:List Str}{Xt:d_->Bool}{α:Type}{Yf:d_->α}{Ya:World->α}{N:Nat}{g0:Bool}{m₀:Nat}{ann:Option Value}
  (e:opening p=plainProg p.main.scope.names) (hN:KA 600 N=true) (f:∀s,fenceModules? p s=some s)
  (size:∀w:World,((He w.params).isNs mainGlobals && (IV []:Array Ko).size == 0,(He w.params).objs.size,(He w.params).nsMap mainGlobals "__annotations__")=(true,m₀,ann))
  (run:∀(w:World) (os:Ja),(kg treeTable p w m₀ ann N ⟨ze w.params,m₀,(He w.params).life,IV [],boot_drawn,boot_toks,os⟩ (topStub p)).map (λsT=>((staticsOk (importedModules p.main.body) (He w.params) sT.abs.heap && namesBound p sT.abs.heap && gensDone sT.abs && laidKept (He w.params) sT.abs.heap),openSeen q loose (importedModules p.main.body) Xt g0 sT.abs,Yf sT.abs))=some (true,openGood q loose,Ya w)):LeftO p q loose Xt Yf Ya N g0:=λw=>by
 obtain⟨⟨h,gs,d,k,os⟩,e,e'⟩:=IS.mp (boot_open e hN f w);obtain⟨rfl,rfl,rfl,rfl⟩:h=He w.params/\gs=IV []/\d=boot_drawn/\k=boot_toks:=by simpa using e'
 obtain⟨z1,z2,z3⟩:_/\_/\_:=by simpa only [JT] using size w
 obtain⟨sT,r,l⟩:=IS.mp (run w os);obtain⟨l1,l2,l3⟩:_/\_/\_:=by simpa only [JT] using l
 have r:=kh r
 rw [show SharedT.abs ⟨ze w.params,m₀,(He w.params).life,IV [],boot_drawn,boot_toks,os⟩=⟨He w.params,IV [],boot_drawn,boot_toks,os⟩ by
  unfold SharedT.abs;dsimp only;rw [<- z2,xh]] at r
 have t:topFrom treeTable p w N ⟨He w.params,IV [],boot_drawn,boot_toks,os⟩=some sT.abs:=by
  unfold topFrom;dsimp only;rw [z1,z2,z3,r];show (match staticsOk (importedModules p.main.body) (He w.params) sT.abs.heap && namesBound p sT.abs.heap && gensDone sT.abs && laidKept (He w.params) sT.abs.heap with|true=>_|false=>_)=_;rw [l1]
 unfold openEnds;rw [e];show (topFrom treeTable p w N _).map _=_;rw [t];exact congrArg some (Prod.ext l2 l3)
end L2
namespace L2
open PySem PySem.W
theorem zf{p q:r_}{loose:List Str}{Xt:d_->Bool}{α:Type}{Yf:d_->α}{Ya:World->α}{N:Nat}{g0:Bool}{m₀:Nat}{ann:Option Value}{l rest:List Stmt}{env:Env}{c:Code}{qp pa pb p1:Pos}{n0 nb n1 n2:Nat}{SA S1:World->Ja->SharedT}
  (e:opening p=plainProg p.main.scope.names) (hN:KA 600 N=true) (f:∀s,fenceModules? p s=some s)
  (size:∀w:World,((He w.params).isNs mainGlobals && (IV []:Array Ko).size == 0,(He w.params).objs.size,(He w.params).nsMap mainGlobals "__annotations__")=(true,m₀,ann))
  (pre:∀(w:World) (os:Ja),topGo treeTable p w m₀ ann n0 ⟨He w.params,IV [],boot_drawn,boot_toks,os⟩ (topStub p)=some ((SA w os).abs,⟨denote treeTable (.body (l++rest) env),c,pa,[topFrame qp]⟩))
  (blk:∀(w:World) (os:Ja),segRun treeTable p w m₀ ann 1 nb (SA w os).abs (blockOf (l++rest) env c pa [topFrame qp])=some (.next,(SA w os).abs,c,pb))
  (one:∀(w:World) (os:Ja),segRunT treeTable p w m₀ ann 1 n1 (SA w os) (piecesOf l env c pb [topFrame qp])=some (.next,S1 w os,c,p1))
  (hn:N=n0+(nb+(n1+n2)))
  (run:∀(w:World) (os:Ja),(kg treeTable p w m₀ ann n2 (S1 w os) (restOf rest env c p1 [topFrame qp])).map (λsT=>((staticsOk (importedModules p.main.body) (He w.params) sT.abs.heap && namesBound p sT.abs.heap && gensDone sT.abs && laidKept (He w.params) sT.abs.heap),openSeen q loose (importedModules p.main.body) Xt g0 sT.abs,Yf sT.abs))=some (true,openGood q loose,Ya w)):LeftO p q loose Xt Yf Ya N g0:=λw=>by
 obtain⟨⟨h,gs,d,k,os⟩,e,e'⟩:=IS.mp (boot_open e hN f w);obtain⟨rfl,rfl,rfl,rfl⟩:h=He w.params/\gs=IV []/\d=boot_drawn/\k=boot_toks:=by simpa using e'
 obtain⟨z1,z2,z3⟩:_/\_/\_:=by simpa only [JT] using size w
 obtain⟨sT,r,l⟩:=IS.mp (run w os);obtain⟨l1,l2,l3⟩:_/\_/\_:=by simpa only [JT] using l
 have r:=go_top (pre w os) (piece_block (blk w os) (piece_app (segRun_of (one w os)) (kh r)));rw [<- hn] at r
 have t:topFrom treeTable p w N ⟨He w.params,IV [],boot_drawn,boot_toks,os⟩=some sT.abs:=by
  unfold topFrom;dsimp only;rw [z1,z2,z3,r];show (match staticsOk (importedModules p.main.body) (He w.params) sT.abs.heap && namesBound p sT.abs.heap && gensDone sT.abs && laidKept (He w.params) sT.abs.heap with|true=>_|false=>_)=_;rw [l1]
 unfold openEnds;rw [e];show (topFrom treeTable p w N _).map _=_;rw [t];exact congrArg some (Prod.ext l2 l3)
noncomputable def zhE(P:Kn)(x:Str)(t:Nat)(v:Value):Li:=⟨PyData.keyHash P x,.str x t,v⟩
noncomputable def zhT(xs:List Value):Obj:=⟨.type "tuple",none,.seq xs.toArray 0,#[]⟩
noncomputable def zhF(xs:List Value):Obj:=⟨.none,none,.fields xs.toArray,#[]⟩
noncomputable def zhD(es:List Li)(n:Nat):Obj:=⟨.type "dict",none,.dict es.toArray n,#[]⟩
noncomputable def zhG(c:Str)(xs:List Value):Obj:=⟨.type c.toString,none,.fields xs.toArray,#[]⟩
noncomputable def Bd(xs:List Obj):List (Nat×Obj)->List Obj
 | []=>xs
 | p::r=>Bd (xs.set p.1 p.2) r
noncomputable def zhM(p:r_)(i j:Nat):Stmt:=match p.main.body.getD i (.Pass ⟨0,0,0,0⟩) with
 | .ClassDef _ _ _ body _ _ _ _ _ _ _=>body.getD j (.Pass ⟨0,0,0,0⟩)
 | s=>s
noncomputable def zhN(k:Value)(s:Stmt)(x q:Str)(g:Addr)(m c:Value):Obj:=match s with
 | .FunctionDef _ a b _ _ _ sc _ _ _=>⟨k,none,.func { name:=x,qualname:=q,params:=a,body:=.stmts b,scope:=sc,globals:=g,closure:=[],defaults:=.none,kwdefaults:=.none,pyModule:=m,code:=c },#[]⟩
 | _=>default
noncomputable def zhK(x q:Str)(t l n f e:Nat)(b:Bool)(j k r:Value)(u:Nat):Obj:=⟨.type "code",none,.fields #[.str x t,.str q (t+1),.str "/claim/cut.py" (t+2),.int l 0,.int n 0,.int 0 0,.int 0 0,.int f 0,.ref e,.bool b,.int 181 0,.ref (e+1),.none,j,k,r,.int u 0,.int l 0,.str "/claim/cut.py" (u+1)],#[]⟩
noncomputable def zhQ:Value:=.str "shortglue.errors" 187
noncomputable def zhU(P:Kn)(x:Str)(a t l n:Nat)(es:List Li)(f:List Value):List Obj:=[zhT [.ref 24],zhG "builtin_function_or_method" [.builtin "type.__prepare__",.type "type"],zhD (zhE P "__module__" (t+7) zhQ::zhE P "__qualname__" (t+9) (.str x (t+8))::zhE P "__firstlineno__" (t+11) (.int l (t+10))::es) n,zhT [],zhF f,zhK x x (t+2) l 0 0 (a+3) false .none .none .none (t+5),⟨.type "frame",none,.plain,#[some (.ref (a+5)),some (.ref 3),some (.ref (a+2)),none,some zhQ,none,some (.ref 0)]⟩,zhT []]
noncomputable def zhV(P:Kn)(x:Str)(a t l c:Nat)(es:List Li):List Obj:=[zhD (zhE P "__module__" (t+7) zhQ::zhE P "__firstlineno__" (t+11) (.int l (t+10))::es) 2,⟨.type "type",none,.cls { name:=x,bases:=[.ref 24],mro:=[.ref c,.ref 24,.type "ValueError",.type "Exception",.type "BaseException",.type "object"],ns:=c - 1,qualname:=x,hasDict:=true,slotNames:=[],subclasses:=[],abstract:=false,collection:=none,hasDel:=false },#[some (.ref a),none,some (.str x t),some (.str x (t+8)),some (.builtin "ValueError.__new__"),some (.bool true)]⟩,zhG "super" [.ref c,.ref c,.ref c],zhG "builtin_function_or_method" [.builtin "object.__init_subclass__",.ref c]]
noncomputable def zhX(P:Kn)(x:Str)(a t l:Nat):List Obj:=zhU P x a t l 4 [zhE P "__static_attributes__" (t+12) (.ref (a+7))] []++zhV P x a t l (a+9) [zhE P "__static_attributes__" (t+12) (.ref (a+7)),zhE P "__doc__" (t+13) .none]
noncomputable def zhY(P:Kn)(p:r_)(x q f:Str)(i a t l:Nat):List Obj:=zhU P x a t l 5 [zhE P "__init__" (t+19) (.ref (a+13)),zhE P "__static_attributes__" (t+21) (.ref (a+14))] [.int (l+2:Nat) 0,.int 4 0,.ref (a+12)]++[zhF [],zhT [.str "self" (t+15),.str f (t+16)],zhT [],zhN .none (zhM p i 0) "__init__" q 0 .none .none,zhK "__init__" q (t+12) (l+2) 2 3 (a+7) true (.ref (a+9)) (.ref (a+10)) (.ref (a+11)) (t+17),zhN (.type "function") (zhM p i 0) "__init__" q 3 zhQ (.ref (a+12)),zhT [.str f (t+20)]]++zhV P x a t l (a+16) [zhE P "__init__" (t+19) (.ref (a+13)),zhE P "__static_attributes__" (t+21) (.ref (a+14)),zhE P "__doc__" (t+22) .none]
end L2
section
open PySem PySem.W PyProof.Rows L2
noncomputable def zzA(P:Kn):BT:=rO ((He P).objs.toList++[zhT [],
  zhF [],
  ⟨(.type "code"),none,(.fields #[(.str "<module>" 182),(.str "<module>" 183),(.str "/claim/cut.py" 184),(.int (1) 0),(.int (0) 0),(.int (0) 0),(.int (0) 0),(.int (0) 0),(.ref 11),(.bool false),(.int (181) 0),(.ref 12),.none,.none,.none,.none,(.int (185) 0),(.int (1) 0),(.str "/claim/cut.py" 186)]),#[]⟩,
  ⟨(.type "frame"),none,.plain,#[(some (.ref 13)),(some (.ref 3)),(some (.ref 3)),none,(some (.str "__main__" 164)),none,(some (.ref 0))]⟩]) 0 .nil
noncomputable def zz1(P:Kn):BT:=rO (Bd (He P).objs.toList [(3,zhD [zhE P "__name__" 165 (.str "shortglue.errors" 187),zhE P "__doc__" 166 .none,zhE P "__package__" 167 .none,zhE P "__loader__" 168 (.builtin "__main__.__loader__#opaque"),zhE P "__spec__" 169 .none,zhE P "__annotations__" 170 (.ref 6),zhE P "__builtins__" 171 (.ref 4),zhE P "__file__" 173 (.str "/claim/cut.py" 172),zhE P "__cached__" 174 .none,zhE P "GlueError" 206 (.ref 24),zhE P "TooMany" 231 (.ref 44),zhE P "NoPiece" 256 (.ref 63),zhE P "NoOrder" 272 (.ref 75),zhE P "NotHeld" 297 (.ref 94),zhE P "NoTable" 313 (.ref 106),zhE P "NoLine" 338 (.ref 125),zhE P "NoPaper" 354 (.ref 137)] 17)]++[zhT [],
  zhF [(.int (2) 0),(.int (0) 0),(.ref 20),(.int (4) 0),(.int (0) 0),(.ref 33),(.int (8) 0),(.int (0) 0),(.ref 52),(.int (12) 0),(.int (0) 0),(.ref 71),(.int (14) 0),(.int (0) 0),(.ref 83),(.int (18) 0),(.int (0) 0),(.ref 102),(.int (20) 0),(.int (0) 0),(.ref 114),(.int (24) 0),(.int (0) 0),(.ref 133)],
  ⟨(.type "code"),none,(.fields #[(.str "<module>" 182),(.str "<module>" 183),(.str "/claim/cut.py" 184),(.int (1) 0),(.int (0) 0),(.int (0) 0),(.int (0) 0),(.int (0) 0),(.ref 11),(.bool false),(.int (181) 0),(.ref 12),.none,.none,.none,.none,(.int (185) 0),(.int (1) 0),(.str "/claim/cut.py" 186)]),#[]⟩,
  ⟨(.type "frame"),none,.plain,#[(some (.ref 13)),(some (.ref 3)),(some (.ref 3)),none,(some (.str "__main__" 164)),none,(some (.ref 0))]⟩,
  zhT [(.type "ValueError")],
  zhG "builtin_function_or_method" [(.builtin "type.__prepare__"),(.type "type")],
  zhD [zhE P "__module__" 196 (.str "shortglue.errors" 187),zhE P "__qualname__" 198 (.str "GlueError" 197),zhE P "__firstlineno__" 200 (.int (2) 199),zhE P "__static_attributes__" 201 (.ref 22)] 4,
  zhT [],
  zhF [],
  ⟨(.type "code"),none,(.fields #[(.str "GlueError" 191),(.str "GlueError" 192),(.str "/claim/cut.py" 193),(.int (2) 0),(.int (0) 0),(.int (0) 0),(.int (0) 0),(.int (0) 0),(.ref 18),(.bool false),(.int (181) 0),(.ref 19),.none,.none,.none,.none,(.int (194) 0),(.int (2) 0),(.str "/claim/cut.py" 195)]),#[]⟩,
  ⟨(.type "frame"),none,.plain,#[(some (.ref 20)),(some (.ref 3)),(some (.ref 17)),none,(some (.str "shortglue.errors" 187)),none,(some (.ref 0))]⟩,
  zhT [],
  zhD [zhE P "__module__" 196 (.str "shortglue.errors" 187),zhE P "__firstlineno__" 200 (.int (2) 199),zhE P "__static_attributes__" 201 (.ref 22),zhE P "__weakref__" 203 (.ref 25),zhE P "__doc__" 204 .none] 3,
  ⟨(.type "type"),none,(.cls { name:="GlueError",bases:=[(.type "ValueError")],mro:=[(.ref 24),(.type "ValueError"),(.type "Exception"),(.type "BaseException"),(.type "object")],ns:=23,qualname:="GlueError",hasDict:=true,slotNames:=[],subclasses:=[(.ref 44),(.ref 63),(.ref 75),(.ref 94),(.ref 106),(.ref 125),(.ref 137)],abstract:=false,collection:=none,hasDel:=false }),#[(some (.ref 15)),none,(some (.str "GlueError" 189)),(some (.str "GlueError" 197)),(some (.builtin "ValueError.__new__")),(some (.bool true))]⟩,
  ⟨(.type "getset_descriptor"),none,(.fields #[(.str "__weakref__" 202),(.ref 24),(.builtin "ExceptionGroup.__weakref__"),.none]),#[]⟩,
  zhG "super" [(.ref 24),(.ref 24),(.ref 24)],
  zhG "builtin_function_or_method" [(.builtin "object.__init_subclass__"),(.ref 24)]]++zhY P PySem.Challenge.pw_shortglue_k69_why_rows "TooMany" "TooMany.__init__" "most" 2 28 207 4++zhY P PySem.Challenge.pw_shortglue_k69_why_rows "NoPiece" "NoPiece.__init__" "at" 3 47 232 8++zhX P "NoOrder" 66 257 12++zhY P PySem.Challenge.pw_shortglue_k69_why_rows "NotHeld" "NotHeld.__init__" "at" 5 78 273 14++zhX P "NoTable" 97 298 18++zhY P PySem.Challenge.pw_shortglue_k69_why_rows "NoLine" "NoLine.__init__" "at" 7 109 314 20++zhX P "NoPaper" 128 339 24) 0 .nil
noncomputable def zzV:Env:={ scope:=(PySem.Challenge.pw_shortglue_k69_why_rows).main.scope,locals:=mainNs,globals:=mainNs,cells:=[],code:=(.ref 13),frame:=some 14 }
abbrev zzC:Code:=.body ((behindTheImports PySem.Challenge.pw_shortglue_k69_why_rows).take 9++(behindTheImports PySem.Challenge.pw_shortglue_k69_why_rows).drop 9) zzV
abbrev Be(w:World)(os:Ja):SharedT:=⟨zzA w.params,15,(He w.params).life,IV [],boot_drawn,187,os⟩
abbrev FK(w:World)(os:Ja):SharedT:=⟨zz1 w.params,140,(He w.params).life,IV [],boot_drawn,355,os⟩
theorem Bf:∀(w:World) (os:Ja),topGo treeTable PySem.Challenge.pw_shortglue_k69_why_rows w 11 (some (.ref 6)) 12 ⟨He w.params,IV [],boot_drawn,boot_toks,os⟩ (topStub PySem.Challenge.pw_shortglue_k69_why_rows)=some ((Be w os).abs,⟨denote treeTable zzC,zzC,⟨0,0,0,0⟩,[topFrame ⟨0,0,0,0⟩]⟩):=by intro w os;kernel_rfl
theorem Bg:∀(w:World) (os:Ja),segRun treeTable PySem.Challenge.pw_shortglue_k69_why_rows w 11 (some (.ref 6)) 1 1 (Be w os).abs (blockOf ((behindTheImports PySem.Challenge.pw_shortglue_k69_why_rows).take 9++(behindTheImports PySem.Challenge.pw_shortglue_k69_why_rows).drop 9) zzV zzC ⟨0,0,0,0⟩ [topFrame ⟨0,0,0,0⟩])=some (.next,(Be w os).abs,zzC,⟨0,0,0,0⟩):=by intro w os;kernel_rfl
theorem Bh:∀(w:World) (os:Ja),segRunT treeTable PySem.Challenge.pw_shortglue_k69_why_rows w 11 (some (.ref 6)) 1 1815 (Be w os) (piecesOf ((behindTheImports PySem.Challenge.pw_shortglue_k69_why_rows).take 9) zzV zzC ⟨0,0,0,0⟩ [topFrame ⟨0,0,0,0⟩])=some (.next,FK w os,zzC,⟨24,0,25,8⟩):=by intro w os;kernel_rfl
end
section
open PySem PySem.W PyProof.Rows
noncomputable def zg:r_:=PySem.W.view PySem.Challenge.pw_shortglue_k69_why_rows [1,2,3,4,5,6,7,8,10,11,12,13,14,16,17,18,20,22,23,24,26,27,29,30,32,33,34,35,36,38,39,40,41,42,43,44,45,46,47,48,49,50,51,52,53]
local macro_rules | `(tactic| o_head $H)=>`(tactic| (refine holds_open (q:=zg) (loose:=[PySem.Str.ofString "is_text"]) (Xt:=fun s=>xlAt zg [] s && recOk (RowW.records (OpenRow.toRowW (OpenLaw.row PySem.Challenge.rw_shortglue_k69_why_rows))) s) (XP:=XL zg []) (Yf:=Hook.obs $H) (Ya:=Hook.val $H) (YP:=Hook.says $H) (N:=3227) ?hl (Hook.of $H) (Hook.keeps $H) (fun s e=>xl_of s (and_eq_true_iff.mp e).1) XL.keeps (by rfl) (by rfl) (by rfl) (fun s e=>recFacts_of (and_eq_true_iff.mp e).2) (by rfl) (by first | assumption | decide +kernel) (by decide +kernel) ⟨rfl,rfl,rfl,rfl,rfl,by decide +kernel⟩ ?hw ?hc;(case hl=>(refine L2.zf (m₀:=11) (ann:=some (.ref 6)) (SA:=Be) (S1:=FK) (n2:=1399) (by kernel_rfl) (by rfl) (fun s=>by kernel_rfl) (fun w=>by kernel_rfl) Bf Bg Bh (by rfl) ?_;intro w os;kernel_rfl))))
set_option maxRecDepth 100000 in
set_option maxHeartbeats 0 in
open_top topHd for PySem.Challenge.rw_shortglue_k69_why_rows
end
-- CHANGE: your row's module here,as the last of these rows
namespace L2
open PySem PySem.Spec PyProof.Rows
abbrev Key:=Sum Int Str
noncomputable def Bi:Key->Value->Bool
 | .inl k,v=>Value.isInt k v
 | .inr x,v=>Value.isStrOf x v
noncomputable def GD(w:World):Key->Int
 | .inl k=>hashInt k
 | .inr x=>hashStr w x
theorem bG:∀{k:Key}{v:Value},Bi k v=true->(∃i t,k=Lj i/\v=Km i t)\/(∃x t,k=Lk x/\v=Jv x t)
 | .inl i,v,h=>by
  obtain⟨t,e⟩:=Value.isInt_shape (k:=i) (v:=v) h;exact .inl ⟨i,t,rfl,e⟩
 | .inr x,v,h=>by
  obtain⟨t,e⟩:=Value.isStrOf_shape (x:=x) (v:=v) h;exact .inr ⟨x,t,rfl,e⟩
def Bj(a b:Int):decide ((Lj a:Key)=Lj b)=(a == b):=by
 by_cases e:a=b
 .subst e;simp
 .have h:¬ (Lj a:Key)=Lj b:=λq=>e (Sum.inl.inj q);rw [decide_eq_false h];exact (beq_eq_false_iff_ne.mpr e).symm
def Bk(a b:Str):decide ((Lk a:Key)=Lk b)=decide (a=b):=by
 by_cases e:a=b
 .subst e;simp
 .have h:¬ (Lk a:Key)=Lk b:=λq=>e (Sum.inr.inj q);rw [decide_eq_false h,decide_eq_false e]
def Bl(a:Int)(b:Str):decide ((Lj a:Key)=Lk b)=false:=decide_eq_false (λq=>nomatch q)
def Bm(a:Str)(b:Int):decide ((Lk a:Key)=Lj b)=false:=decide_eq_false (λq=>nomatch q)
noncomputable def nq(prog:r_)(w:World):PySem.KeyKind prog w Key where
 is:=Bi
 hash:=GD w
 inj:=λv a b ha hb=>by
  rcases bG ha with ⟨i,t,rfl,rfl⟩|⟨x,t,rfl,rfl⟩
  .rcases bG hb with ⟨j,u,rfl,e⟩|⟨y,u,rfl,e⟩
   .injection e with e1 _;rw [e1]
   .exact nomatch e
  .rcases bG hb with ⟨j,u,rfl,e⟩|⟨y,u,rfl,e⟩
   .exact nomatch e
   .injection e with e1 _;rw [e1]
 byValue:=λk v h=>by
  rcases bG h with ⟨i,t,rfl,rfl⟩|⟨x,t,rfl,rfl⟩ <;> rfl
 pyHash:=λhv h=>by
  rcases bG hv with ⟨i,t,rfl,rfl⟩|⟨x,t,rfl,rfl⟩
  .exact wpAny_pyHash_int h
  .exact wpAny_pyHash_str h
 eqBool:=λhu hv h=>by
  rcases bG hu with ⟨i,t,rfl,rfl⟩|⟨x,t,rfl,rfl⟩
  .rcases bG hv with ⟨j,u,rfl,rfl⟩|⟨y,u,rfl,rfl⟩
   .rw [Bj] at h;exact wpAny_eqBool_int h
   .rw [Bl] at h;exact SeqAt.EqAt.int_str i t y u _ _ _ _ h
  .rcases bG hv with ⟨j,u,rfl,rfl⟩|⟨y,u,rfl,rfl⟩
   .rw [Bm] at h;exact SeqAt.EqAt.str_int x t j u _ _ _ _ h
   .rw [Bk] at h;exact wpAny_eqBool_str h
 «strs»:=λk x t v h=>by
  rcases bG h with ⟨i,u,rfl,e⟩|⟨y,u,rfl,e⟩
  .exact nomatch e
  .injection e with e1 _;subst e1;cases v <;> rfl
inductive V where
 | non|bl (b:Bool)|int (i:Int)|str (x:Str)|byt (b:Array UInt8)|flt (b:UInt64)|ref (a:Addr)|ty (n:String)
 deriving DecidableEq
noncomputable def c4:V->Value->Prop
 | .non,u=>u=HC
 | .bl b,u=>u=Ih b
 | .int i,u=>∃t,u=Km i t
 | .str x,u=>∃t,u=Jv x t
 | .byt b,u=>∃t,u=Value.bytes b t
 | .flt b,u=>∃t,u=K_ b t
 | .ref a,u=>u=k_ a
 | .ty n,u=>u=Jd n
abbrev bB:List V->List Value->Prop:=Paired c4
def bB.length{xs:List V}{us:List Value}(r:bB xs us):xs.length=us.length:=Paired.length r
theorem bB.get:∀{xs:List V}{us:List Value}{i:Nat}{x:V},bB xs us->xs[i]?=some x->∃u,us[i]?=some u/\c4 x u
 | _,_,_,_,.nil,e=>by simp at e
 | _,_,0,_,.cons r _,e=>by simp at e;subst e;exact⟨_,rfl,r⟩
 | _,_,i+1,x,.cons _ t,e=>by
  obtain⟨u,h1,h2⟩:=bB.get (i:=i) (x:=x) t (by simpa using e);exact⟨u,by simpa using h1,h2⟩
theorem bB.set{x:V}{u:Value}(r:c4 x u):∀{xs:List V}{us:List Value} (i:Nat),bB xs us->bB (xs.set i x) (us.set i u)
 | _,_,_,.nil=>.nil
 | _,_,0,.cons _ t=>.cons r t
 | _,_,i+1,.cons q t=>.cons q (bB.set r i t)
theorem bB.append:∀{xs ys:List V}{us ws:List Value},bB xs us->bB ys ws->bB (xs++ys) (us++ws)
 | _,_,_,_,.nil,s=>s
 | _,_,_,_,.cons r t,s=>.cons r (bB.append t s)
theorem bB.take:∀{xs:List V}{us:List Value} (n:Nat),bB xs us->bB (xs.take n) (us.take n)
 | _,_,0,_=>.nil
 | _,_,_+1,.nil=>.nil
 | _,_,n+1,.cons r t=>.cons r (bB.take n t)
theorem bB.drop:∀{xs:List V}{us:List Value} (n:Nat),bB xs us->bB (xs.drop n) (us.drop n)
 | _,_,0,r=>r
 | _,_,_+1,.nil=>.nil
 | _,_,n+1,.cons _ t=>bB.drop n t
noncomputable def uj:Option V->Option Value->Prop
 | some v,some u=>c4 v u
 | none,none=>True
 | _,_=>False
noncomputable def KV{κ:Type}:List (κ×V)->List (κ×Value)->Prop:=Paired λ(p:κ×V) (q:κ×Value)=>p.1=q.1/\c4 p.2 q.2
noncomputable def kV:Key->V
 | .inl i=>.int i
 | .inr x=>.str x
inductive HO where
 | lst (xs:List V)
 | tup (xs:List V)
 | dK (kvs:List (Key×V))|dT (kvs:List (List Key×V))
 | set (S:Int->Bool) (n:Nat)
 | ins (C dx:Addr) (fs:List (Str×V))
 | own (x:Addr)
 | xd (fs:List (Str×V))
 | met (f x:Addr)
 | rng (lo hi:Int)
 | frz (o:Obj) (u:HO)
 | tbl (ps:Array Value)
 | ext (φ:Heap->Prop)
abbrev Hp:=Addr->Option HO
noncomputable def upd(H:Hp)(a:Addr)(o:HO):Hp:=λb=>if b=a then some o else H b
def aB{H:Hp}{a:Addr}{o:HO}:upd H a o a=some o:=by unfold upd;rw [if_pos rfl]
def ar{H:Hp}{a b:Addr}{o:HO}(h:b≠a):upd H a o b=H b:=by unfold upd;rw [if_neg h]
def aH{H:Hp}{a b:Addr}{o:HO}(h:H a=some o)(h':H b=none):a≠b:=by
 intro e;subst e;rw [h] at h';cases h'
noncomputable def qt(H:Hp)(h:Heap)(a:Addr)(q:Str):List Value->Prop
 | []=>True
 | .int _ _::.int _ _::.ref c::r=>H c=some (.own a)/\(∃(oc:Obj) (vs:Array Value) (t:Tok),h.get? c=some oc/\oc.data=.fields vs/\vs[1]?=some (.str q t))/\qt H h a q r
 | _=>False
theorem qt.stay{H H':Hp}{h h':Heap}{a:Addr}{q:Str}(k:∀b u,H b=some (.own a)->h.get? b=some u->h'.get? b=some u)(ho:∀b,H b=some (.own a)->H' b=some (.own a)):∀l:List Value,qt H h a q l->qt H' h' a q l
 | [],_=>trivial
 | .int _ _::.int _ _::.ref c::r,x=>by
  obtain⟨x1,⟨oc,vs,t,e1,e2,e3⟩,x2⟩:=x;exact⟨ho _ x1,⟨oc,vs,t,k _ _ x1 e1,e2,e3⟩,qt.stay k ho r x2⟩
noncomputable def xi(H:Hp)(h:Heap)(a:Addr)(ps:Array Value):Prop:=∃(q:Str) (t:Tok) (more real:Array Value),ps=#[.str q t]++more/\h.get? a=some { cls:=.none,data:=.fields real }/\qt H h a q real.toList
section
variable (P:r_) (w:World)
noncomputable def bu(H:Hp)(h:Heap)(a:Addr):HO->Prop
 | .lst xs=>xs.length<=sizeLine/\∃(its:List Value) (n:Nat),bB xs its/\h.get? a=some { cls:=.type "list",data:=.seq its.toArray n }
 | .tup xs=>xs.length<=sizeLine/\∃its:List Value,bB xs its/\IsTup h a its.toArray
 | .dK kvs=>kvs.length<=sizeLine/\(a == sysModules)=false/\∃vs,KV kvs vs/\h.DictOf (nq P w) a vs
 | .dT kvs=>kvs.length<=sizeLine/\(a == sysModules)=false/\∃xs:List (List Key×Addr×Value),
   Paired (λ(p:List Key×V) (q:List Key×Addr×Value)=>p.1=q.1/\H q.2.1=some (.tup (p.1.map kV))/\c4 p.2 q.2.2) kvs xs /\
   ∃o es ep,h.get? a=some o/\o.ExactDict/\o.data=.dict es ep/\es.toList=xs.map (entryOfKey (tupleKind (nq P w)))/\(xs.map (·.1)).Nodup
 | .set S n=>h.SetOf (intKind P w) a S n
 | .ins C dx fs=>H dx=some (.own a)/\fs.length<=1000/\dx≠a/\h.get? a=some (Ii C dx) /\
   ∃mA,h.Ns1 dx mA/\(∀f,uj (fs.lookup f) (mA f))/\Lr mA (fs.map (·.1))
 | .own _=>∃o,h.get? a=some o
 | .xd fs=>∃mA,h.Ns1 a mA/\∀f,uj (fs.lookup f) (mA f)
 | .rng lo hi=>∃t u v,h.get? a=some { cls:=.type "range",data:=.fields #[.int lo t,.int hi u,.int 1 v] }
 | .frz o u=>h.get? a=some o/\bu H h a u
 | .tbl ps=>xi H h a ps
 | .met f x=>h.get? a=some (KB (.ref f) (.ref x))
 | .ext φ=>φ h/\(∃o,h.get? a=some o)/\∀h1 h2:Heap,φ h1->(∀o,h1.get? a=some o->h2.get? a=some o)->φ h2
noncomputable def HOk(H:Hp)(h:Heap):Prop:=∀a o,H a=some o->bu P w H h a o
end
section
variable {P:r_}{w:World}{H H':Hp}{h h':Heap}{a:Addr}{o:HO}
def bu.lt(x:bu P w H h a o):a<h.objs.size:=by
 cases o with
 | lst xs=>obtain⟨_,_,_,_,e⟩:=x;exact l_ e
 | tup xs=>obtain⟨_,_,_,p⟩:=x;exact p.lt
 | dK kvs=>obtain⟨_,_,_,_,o,_,_,e,_⟩:=x;exact l_ e
 | dT kvs=>obtain⟨_,_,_,_,o,_,_,e,_⟩:=x;exact l_ e
 | set S n=>obtain⟨o,_,_,_,e,_⟩:=x;exact l_ e
 | ins C dx fs=>obtain⟨_,_,_,e,_⟩:=x;exact l_ e
 | own y=>obtain⟨_,e⟩:=x;exact l_ e
 | xd fs=>obtain⟨_,⟨_,_,_,e,_⟩,_⟩:=x;exact l_ e
 | rng lo hi=>obtain⟨_,_,_,e⟩:=x;exact l_ e
 | frz ob u=>obtain⟨e,_⟩:=x;exact l_ e
 | tbl ps=>obtain⟨_,_,_,_,_,e,_⟩:=x;exact l_ e
 | met f y=>exact l_ (show h.get? a=some _ from x)
 | ext φ=>obtain⟨_,⟨_,e⟩,_⟩:=x;exact l_ e
theorem Paired.mapP{α β:Type}{F G:α->β->Prop}:∀{l₁:List α}{l₂:List β},Paired F l₁ l₂->(∀a b,F a b->G a b)->Paired G l₁ l₂
 | _,_,.nil,_=>.nil
 | _,_,.cons r t,f=>.cons (f _ _ r) (Paired.mapP t f)
def bu.stay(x:bu P w H h a o)(k:∀b u,(b=a\/H b=some (.own a))->h.get? b=some u->h'.get? b=some u)
  (ho:∀b,H b=some (.own a)->H' b=some (.own a)) (ht:∀b xs,H b=some (.tup xs)->H' b=some (.tup xs)):bu P w H' h' a o:=by
 induction o with
 | lst xs=>obtain⟨z,its,n,r,e⟩:=x;exact⟨z,its,n,r,k _ _ (.inl rfl) e⟩
 | tup xs=>obtain⟨z,its,r,ob,e,c⟩:=x;exact⟨z,its,r,ob,k _ _ (.inl rfl) e,c⟩
 | dK kvs=>obtain⟨z,y,vs,r,ob,es,ep,e,c⟩:=x;exact⟨z,y,vs,r,ob,es,ep,k _ _ (.inl rfl) e,c⟩
 | dT kvs =>
  obtain⟨z,y,xs,r,ob,es,ep,e,c⟩:=x;exact⟨z,y,xs,Paired.mapP r λp q z=>⟨z.1,ht _ _ z.2.1,z.2.2⟩,ob,es,ep,k _ _ (.inl rfl) e,c⟩
 | set S n=>obtain⟨ob,es,ep,t,e,c⟩:=x;exact⟨ob,es,ep,t,k _ _ (.inl rfl) e,c⟩
 | ins C dx fs =>
  obtain⟨d,z,ne,e,mA,⟨od,es,ep,e2,c⟩,r⟩:=x;exact⟨ho _ d,z,ne,k _ _ (.inl rfl) e,mA,⟨od,es,ep,k _ _ (.inr d) e2,c⟩,r⟩
 | own y=>obtain⟨ob,e⟩:=x;exact⟨ob,k _ _ (.inl rfl) e⟩
 | xd fs=>obtain⟨mA,⟨od,es,ep,e,c⟩,r⟩:=x;exact⟨mA,⟨od,es,ep,k _ _ (.inl rfl) e,c⟩,r⟩
 | rng lo hi=>obtain⟨t,u,v,e⟩:=x;exact⟨t,u,v,k _ _ (.inl rfl) e⟩
 | frz ob u ih=>obtain⟨e,q⟩:=x;exact⟨k _ _ (.inl rfl) e,ih q⟩
 | tbl ps =>
  obtain⟨q,t,more,real,e1,e,r⟩:=x;exact⟨q,t,more,real,e1,k a _ (.inl rfl) e,qt.stay (λb u z=>k b u (.inr z)) ho _ r⟩
 | met f y =>
  have e:h.get? a=some (KB (.ref f) (.ref y)):=x;show h'.get? a=some (KB (.ref f) (.ref y));exact k a _ (.inl rfl) e
 | ext φ=>obtain⟨p,⟨o,e⟩,st⟩:=x;exact⟨st _ _ p λo q=>k _ _ (.inl rfl) q,⟨o,k _ _ (.inl rfl) e⟩,st⟩
def HOk.lt(x:HOk P w H h)(e:H a=some o):a<h.objs.size:=(x a o e).lt
def HOk.fresh(x:HOk P w H h)(e:h.objs.size<=a):H a=none:=by
 cases q:H a with
 | none=>rfl
 | some u=>exact absurd (tf (x.lt q) e) (HA _)
def HOk.kept(x:HOk P w H h)(k:∀b u,h.get? b=some u->h'.get? b=some u):HOk P w H h':=λa o e =>
 (x a o e).stay (λb u _ q=>k b u q) (λ_ q=>q) λ_ _ q=>q
def HOk.laid(x:HOk P w H h)(k:∀b u,h.get? b=some u->h'.get? b=some u)(hp:h.objs.size<=a)(new:bu P w (upd H a o) h' a o):HOk P w (upd H a o) h':=λb u e=>by
 have hn:=x.fresh hp
 by_cases hb:b=a
 .subst hb;rw [aB] at e;cases e;exact new
 .rw [ar hb] at e;exact (x b u e).stay (λc v _ q=>k c v q) (λc q=>by rw [ar (aH q hn)];exact q) λc xs q=>by rw [ar (aH q hn)];exact q
end
noncomputable def Rd(H:Hp)(a:Addr)(u:HO):Prop:=H a=some u\/∃o,H a=some (.frz o u)
def Rd.ok{P:r_}{w:World}{H:Hp}{h:Heap}{a:Addr}{u:HO}(r:Rd H a u)(x:HOk P w H h):bu P w H h a u:=by
 rcases r with r|⟨o,r⟩
 .exact x a u r
 .obtain⟨_,q⟩:=x a _ r;exact q
noncomputable def Mut:Option HO->Prop
 | some (.lst _)=>True
 | some (.dK _)=>True
 | some (.dT _)=>True
 | some (.set _ _)=>True
 | some (.ins _ _ _)=>True
 | some (.ext _)=>True
 | _=>False
section
variable {P:r_}{w:World}{H:Hp}{h h':Heap}{x e:Addr}{o':HO}
def HOk.write(ok:HOk P w H h)(mu:Mut (H x))(he:e=x\/H e=some (.own x))(k:∀b u,b≠e->h.get? b=some u->h'.get? b=some u)(heo:∃u,h'.get? e=some u)
  (new:bu P w (upd H x o') h' x o'):HOk P w (upd H x o') h':=λb u q=>by
 have nown:∀c y,H c=some (.own y)->c≠x:=λc y r z=>by subst z;rw [r] at mu;exact mu
 have ntup:∀c xs,H c=some (.tup xs)->c≠x:=λc xs r z=>by subst z;rw [r] at mu;exact mu
 by_cases hb:b=x
 .subst hb;rw [aB] at q;cases q;exact new
 .rw [ar hb] at q
  by_cases hbe:b=e
  .have q':H b=some (.own x):=by
    rcases he with z|z
    .exact absurd (hbe.trans z) hb
    .rw [hbe];exact z
   rw [q] at q';cases q';obtain⟨v,hv⟩:=heo;exact⟨v,by rw [hbe];exact hv⟩
  .refine (ok b u q).stay (λc v hc r=>k c v ?_ r) (λc r=>by rw [ar (nown c b r)];exact r) λc xs r=>by rw [ar (ntup c xs r)];exact r
   rcases hc with rfl|hc
   .exact hbe
   .rintro rfl
    rcases he with z|z
    .exact nown c b hc z
    .rw [hc] at z;cases z;exact hb rfl
end
structure Un (fs ex:List Addr) (H H':Hp) (h h':Heap):Prop where
 keep:∀b o,h.get? b=some o->H b=none->b∉fs->b∉ex->h'.get? b=some o
 slot:∀b o,h.get? b=some o->H b=none->b∈fs->b∉ex->∃sl,h'.get? b=some { o with slots:=sl }
 free:∀b o,h.get? b=some o->H b=none->b∉ex->H' b=none
 there:∀b o,h.get? b=some o->b∉ex->∃o',h'.get? b=some o'
 tups:∀b xs,H b=some (.tup xs)->H' b=some (.tup xs)
 frzs:∀b o u,H b=some (.frz o u)->H' b=some (.frz o u)
 tbls:∀b ps,H b=some (.tbl ps)->∃more,H' b=some (.tbl (ps++more))
section
variable {fs fs' ex ex':List Addr}{H H1 H2:Hp}{h h1 h2 h':Heap}{a x e:Addr}{o:HO}
def Un.any(u:Un fs ex H H1 h h1){b:Addr}{ob:Obj}(q:h.get? b=some ob)(n:H b=none)(hx:b∉ex):∃sl,h1.get? b=some { ob with slots:=sl }:=by
 by_cases hb:b∈fs
 .exact u.slot b ob q n hb hx
 .exact⟨ob.slots,u.keep b ob q n hb hx⟩
def Un.kept(k:∀b u,h.get? b=some u->h'.get? b=some u):Un fs ex H H h h' :=
 ⟨λb ob q _ _ _=>k b ob q,λb ob q _ _ _=>⟨ob.slots,k b ob q⟩,λ_ _ _ n _=>n,λb ob q _=>⟨ob,k b ob q⟩,λ_ _ q=>q,λ_ _ _ q=>q,λ_ ps q=>⟨#[],by rw [q];simp⟩⟩
def Un.refl:Un fs ex H H h h:=Un.kept λ_ _ q=>q
def Un.laid(k:∀b u,h.get? b=some u->h'.get? b=some u)(hp:h.objs.size<=a)(hn:H a=none):Un fs ex H (upd H a o) h h' where
 keep:=λb u q _ _ _=>k b u q
 slot:=λb u q _ _ _=>⟨u.slots,k b u q⟩
 free:=λb u q n _=>by rw [ar (Hi (tf (l_ q) hp))];exact n
 there:=λb u q _=>⟨u,k b u q⟩
 tups:=λb xs q=>by rw [ar (aH q hn)];exact q
 frzs:=λb u xs q=>by rw [ar (aH q hn)];exact q
 tbls:=λb ps q=>⟨#[],by rw [ar (aH q hn),q];simp⟩
def Un.write(mu:Mut (H x))(he:e=x\/H e=some (.own x))(k:∀b u,b≠e->h.get? b=some u->h'.get? b=some u)(heo:∃u,h'.get? e=some u):Un fs ex H (upd H x o) h h':=by
 have hx:∀b,H b=none->b≠x:=λb n z=>by subst z;rw [n] at mu;exact mu
 have hb:∀b,H b=none->b≠e:=λb n z=>by
  subst z
  rcases he with r|r
  .exact hx b n r
  .rw [n] at r;cases r
 have hm:∀b u,H b=some u->¬ Mut (some u)->b≠x:=λb u q nm z=>by subst z;rw [q] at mu;exact nm mu
 refine⟨λb u q n _ _=>k b u (hb b n) q,λb u q n _ _=>⟨u.slots,k b u (hb b n) q⟩,λb u q n _=>by rw [ar (hx b n)];exact n,λb u q _=>?_,
  λb xs q=>by rw [ar (hm b _ q λz=>z)];exact q,λb u xs q=>by rw [ar (hm b _ q λz=>z)];exact q,λb ps q=>⟨#[],by rw [ar (hm b _ q λz=>z),q];simp⟩⟩
 by_cases hbe:b=e
 .subst hbe;exact heo
 .exact⟨u,k b u hbe q⟩
end
noncomputable def trk(h:Heap)(H:Hp):List Addr:=(i_ h.objs.size).filter λa=>(H a).isSome
noncomputable def Bn(h:Heap)(H:Hp):Heap:=PySem.W.hideAll h (trk h H)
def uo(h:Heap)(H:Hp):(Bn h H).objs.size=h.objs.size:=PySem.W.hideAll_size _ _
def xj{h:Heap}{H:Hp}{b:Addr}{o:Obj}(e:h.get? b=some o)(n:H b=none):(Bn h H).get? b=some o :=
 PySem.W.hideAll_get _ e λhm=>by
  have q:(H b).isSome=true:=(Iq.mp hm).2;rw [n] at q;simp at q
def zh{h:Heap}{H:Hp}{b:Addr}{o:Obj}(e:(Bn h H).get? b=some o):h.get? b=some o/\H b=none:=by
 have e':h.get? b=some o:=PySem.W.of_hideAll (trk h H) e;refine⟨e',?_⟩
 cases q:H b with
 | none=>rfl
 | some x =>
  have hm:b∈trk h H:=Iq.mpr ⟨Jh.mpr (l_ e'),by simp [q]⟩;have z:(Bn h H).get? b=none:=PySem.W.hideAll_none (trk h H) hm;rw [z] at e;cases e
noncomputable def oO(base:Heap)(H:Hp):Prop:=∀(P:Addr) (r:List Nat),base.life.registered=P::r->∃(t:Tok) (more:Array Value),H P=some (.tbl (#[.str ⟨r.toArray⟩ t]++more))
def oO.un{base:Heap}{fs ex:List Addr}{H H':Hp}{h h':Heap}(x:oO base H)(u:Un fs ex H H' h h'):oO base H':=λP r e=>by
 obtain⟨t,more,q⟩:=x P r e;obtain⟨m2,q2⟩:=u.tbls P _ q;exact⟨t,more++m2,by rw [q2,Array.append_assoc]⟩
noncomputable def Bo(h:Heap)(H:Hp):Heap:={ Bn h H with life:={} }
structure Mod (K:b_) (mg:Str->Option Value) (base:Heap):Prop where
 kin:K.In base
 glob:base.Ns mainGlobals mg
 blt:∃mb,base.Ns builtinsNs mb/\∀x:Str,x≠"__name__"->mb x=bootBuiltins x
 nolimit:base.NoLimit
structure Cx where
 prog:r_
 w:World
 K:b_
 mg:Str->Option Value
 base:Heap
 A:w_
 N:List Str
 s₀:d_
 H₀:Hp
 env:Env
 outer:List Env
 stack:List Env
 ex:List Addr
 fn:Str->Bool
 calm:Bool
 pn:List (Addr×Obj)
 xe:Value->d_->Prop
noncomputable def frs(l:List Env):List Addr:=l.filterMap (·.frame)
abbrev Cx.fs(X:Cx):List Addr:=frs X.outer
noncomputable def Vis(sc:Scope)(x:Str):Prop:=sc.names.lookup x=some .local\/sc.names.lookup x=some .cell\/sc.names.lookup x=some .free
noncomputable def Loc(sc:Scope)(x:Str):Prop:=sc.names.lookup x=some .local\/sc.names.lookup x=some .cell
noncomputable def GE(env:Env)(h:Heap)(m:Str->Option Value)(x:Str)(u:Value):Prop :=
 (env.kindOf x=some .local/\m x=some u)\/((env.kindOf x=some .cell\/env.kindOf x=some .free)/\∃c,env.cells.lookup x=some c/\h.IsCell c (some u))
structure Cx.Ok (X:Cx):Prop where
 mod:Mod X.K X.mg X.base
 kind:X.env.scope.kind=.function
 glob:X.env.globals=mainGlobals
 blt:X.env.builtins=builtinsNs
 above:X.s₀.heap.objs.size<=X.env.locals
 inj:∀x y c,X.env.cells.lookup x=some c->X.env.cells.lookup y=some c->x=y
 has:∀x,(X.env.kindOf x=some .cell\/X.env.kindOf x=some .free)->∃c,X.env.cells.lookup x=some c
 cab:∀x c,X.fn x=true->X.env.cells.lookup x=some c->X.s₀.heap.objs.size<=c
 hd:X.calm=true->X.A.handled=none
 frames:X.A.frames=some X.stack
 stk:X.stack=X.outer\/(X.stack=X.env::X.outer/\X.env.frame=some X.env.locals)
 exf:∀b∈X.ex,b≠X.env.locals/\∀x c,X.env.cells.lookup x=some c->c≠b
 bs:∀b o,X.base.get? b=some o->X.s₀.heap.get? b=some o/\X.H₀ b=none
 bsz:X.base.objs.size<=X.s₀.heap.objs.size
 noex:∀b o,X.base.get? b=some o->b∉X.ex
 exfs:∀b∈X.ex,b∉X.fs
 funs:X.s₀.heap.FunFrames X.base X.outer
 frf:∀b∈X.fs,X.H₀ b=none
 tb:oO X.base X.H₀
structure Inv (X:Cx) (pins:List (Addr×Obj)) (σ:List (Option V)) (H:Hp) (s:d_):Prop where
 ok:X.Ok
 os:s.os=X.s₀.os
 bare:Kc s.gens
 base:Un X.fs X.ex X.H₀ H X.s₀.heap s.heap
 loc:∃m,s.heap.Ns X.env.locals m/\∀(i:Nat) (x:Str) (v:V),X.N[i]?=some x->σ[i]?=some (some v)->Vis X.env.scope x->∃u,c4 v u/\GE X.env s.heap m x u
 cell:∀x c,X.env.cells.lookup x=some c->∃v,s.heap.IsCell c v
 free:H X.env.locals=none
 freeC:∀x c,X.env.cells.lookup x=some c->H c=none
 pin:∀p∈X.pn++pins,s.heap.get? p.1=some p.2/\H p.1=none/\p.1≠X.env.locals/\p.1∉X.fs/\∀v,p.2.data≠.cell v
 hok:HOk X.prog X.w H s.heap
 len:σ.length=X.N.length
section
variable {X:Cx}{pins:List (Addr×Obj)}{σ:List (Option V)}{H H':Hp}{s:d_}{h':Heap}
def Cx.Ok.nofr(ok:X.Ok){b:Addr}{o:Obj}(e:X.base.get? b=some o):b∉X.fs:=λhb=>by
 have:=(ok.funs.mem hb).1;rw [e] at this;cases this
def Inv.bs(I:Inv X pins σ H s):∀b o,X.base.get? b=some o->s.heap.get? b=some o/\H b=none:=λb o e =>
 ⟨I.base.keep b o (I.ok.bs b o e).1 (I.ok.bs b o e).2 (I.ok.nofr e) (I.ok.noex b o e),I.base.free b o (I.ok.bs b o e).1 (I.ok.bs b o e).2 (I.ok.noex b o e)⟩
def Inv.bk(I:Inv X pins σ H s):∀b o,X.base.get? b=some o->s.heap.get? b=some o:=λb o e=>(I.bs b o e).1
def Inv.mod(I:Inv X pins σ H s):Mod X.K X.mg X.base:=I.ok.mod
def Inv.kIn(I:Inv X pins σ H s):X.K.In s.heap:=I.ok.mod.kin.keeps I.bk
def Inv.lt(I:Inv X pins σ H s):X.env.locals<s.heap.objs.size:=let ⟨_,hn,_⟩:=I.loc;hn.lt
def Inv.sz(I:Inv X pins σ H s):X.s₀.heap.objs.size<=s.heap.objs.size:=E_ I.ok.above (le_of_lt I.lt)
def Inv.nofs(I:Inv X pins σ H s){a:Addr}(h:s.heap.objs.size<=a):a∉X.fs:=λhb=>by
 obtain⟨_,o,ho,_⟩:=I.ok.funs.mem hb;exact absurd (tf (l_ ho) (E_ I.sz h)) (HA _)
def Inv.cne(I:Inv X pins σ H s):∀x c,X.env.cells.lookup x=some c->c≠X.env.locals:=λx c e z=>by
 obtain⟨v,o,ho,hd⟩:=I.cell x c e;obtain⟨m,⟨o',es,ep,ho',hd',_⟩,_⟩:=I.loc;rw [z,ho'] at ho;cases ho;rw [hd'] at hd;cases hd
def Inv.funs(I:Inv X pins σ H s):s.heap.FunFrames X.base X.outer:=by
 have all:∀(l:List Env),(∀b∈frs l,b∈X.fs)->X.s₀.heap.FunFrames X.base l->s.heap.FunFrames X.base l:=by
  intro l
  induction l with
  | nil=>intro _ _;trivial
  | cons env r ih =>
   intro hs hl;obtain⟨hk,⟨L,o,hf,hn,ho,hd⟩,hr⟩:=hl;have hL:L∈X.fs:=hs L (by unfold frs;rw [Ir,hf];exact mem_cons_self);obtain⟨sl,e⟩:=I.base.slot L o ho (I.ok.frf L hL) hL λz=>I.ok.exfs L z hL;exact⟨hk,⟨L,_,hf,hn,e,hd⟩,ih (λb hb=>hs b (by unfold frs;rw [Ir,hf];exact p_ _ hb)) hr⟩
 exact all X.outer (λ_ hb=>hb) I.ok.funs
def Inv.stack(I:Inv X pins σ H s):s.heap.FunFrames X.base X.stack:=by
 rcases I.ok.stk with e|⟨e,hf⟩
 .rw [e];exact I.funs
 .rw [e];obtain⟨m,hn,_⟩:=I.loc;refine .cons (by rw [I.ok.kind];decide) hf hn ?_ I.funs;exact Heap.get?_none_of_le (E_ I.ok.bsz I.ok.above)
def Inv.stkSub(I:Inv X pins σ H s):∀b∈frs X.stack,b∈X.env.locals::X.fs:=λb hb=>by
 rcases I.ok.stk with e|⟨e,hf⟩
 .rw [e] at hb;exact p_ _ hb
 .rw [e] at hb;unfold frs at hb;rw [Ir,hf] at hb;exact hb
def Inv.stkFree(I:Inv X pins σ H s):∀b∈frs X.stack,H b=none:=λb hb=>by
 rcases mem_cons.mp (I.stkSub b hb) with e|hb
 .rw [e];exact I.free
 .obtain⟨_,o,ho,_⟩:=I.ok.funs.mem hb;exact I.base.free b o ho (I.ok.frf b hb) λz=>I.ok.exfs b z hb
def Inv.step{g':Array Ko}{t':Nat}{d':Drawn}{ch:List Addr}(I:Inv X pins σ H s)
  (hch:∀b∈ch,(b∈X.ex\/X.s₀.heap.objs.size<=b)/\b≠X.env.locals/\(∀x c,X.env.cells.lookup x=some c->c≠b)/\∀p∈X.pn++pins,p.1≠b)
  (keep:∀b o,b≠X.env.locals->b∉X.fs->b∉ch->s.heap.get? b=some o->H b=none->h'.get? b=some o)
  (slot:∀b o,b≠X.env.locals->b∈X.fs->b∉ch->s.heap.get? b=some o->H b=none->∃sl,h'.get? b=some { o with slots:=sl }) (free:∀b o,b∉ch->s.heap.get? b=some o->H b=none->H' b=none)
  (there:∀b o,b∉ch->s.heap.get? b=some o->∃o',h'.get? b=some o')
  (tups:∀b xs,H b=some (.tup xs)->H' b=some (.tup xs)) (frzs:∀b o u,H b=some (.frz o u)->H' b=some (.frz o u)) (tbls:∀b ps,H b=some (.tbl ps)->∃more,H' b=some (.tbl (ps++more)))
  (ns:∀m,s.heap.Ns X.env.locals m->h'.Ns X.env.locals m) (hok:HOk X.prog X.w H' h') (hg:Kc g') :
  Inv X pins σ H' { s with heap:=h',gens:=g',drawn:=d',toks:=t' }:=by
 have neL:∀b o,X.s₀.heap.get? b=some o->b≠X.env.locals:=λb o e=>Hi (tf (l_ e) I.ok.above)
 have neC:∀b o,X.s₀.heap.get? b=some o->b∉X.ex->b∉ch:=λb o e hx hb=>by
  rcases (hch b hb).1 with z|z
  .exact hx z
  .exact absurd (tf (l_ e) z) (HA _)
 have cellK:∀x c,X.env.cells.lookup x=some c->∀v,s.heap.IsCell c v->h'.IsCell c v:=λx c e v ⟨o,ho,hd⟩=>by
  have nch:c∉ch:=λz=>(hch c z).2.2.1 x c e rfl
  by_cases hc:c∈X.fs
  .obtain⟨sl,q⟩:=slot c o (I.cne x c e) hc nch ho (I.freeC x c e);exact⟨_,q,hd⟩
  .exact⟨o,keep c o (I.cne x c e) hc nch ho (I.freeC x c e),hd⟩
 refine⟨I.ok,I.os,hg,⟨λb o e n hb hx=>?_,λb o e n hb hx=>?_,λb o e n hx=>?_,λb o e hx=>?_,λb xs e=>tups b xs (I.base.tups b xs e),λb o xs e=>frzs b o xs (I.base.frzs b o xs e),λb ps e=>?_⟩,?_,λx c e=>?_,?_,λx c e=>?_,λp hp=>?_,hok,I.len⟩
 .exact keep b o (neL b o e) hb (neC b o e hx) (I.base.keep b o e n hb hx) (I.base.free b o e n hx)
 .obtain⟨sl,e1⟩:=I.base.slot b o e n hb hx;obtain⟨sl',e2⟩:=slot b _ (neL b o e) hb (neC b o e hx) e1 (I.base.free b o e n hx);exact⟨sl',e2⟩
 .obtain⟨o',e1⟩:=I.base.there b o e hx;exact free b o' (neC b o e hx) e1 (I.base.free b o e n hx)
 .obtain⟨o',e1⟩:=I.base.there b o e hx;exact there b o' (neC b o e hx) e1
 .obtain⟨m1,e1⟩:=I.base.tbls b ps e;obtain⟨m2,e2⟩:=tbls b _ e1;exact⟨m1++m2,by rw [e2,Array.append_assoc]⟩
 .obtain⟨m,hn,hl⟩:=I.loc;refine⟨m,ns m hn,λi x v e1 e2 e3=>?_⟩;obtain⟨u,r,l⟩:=hl i x v e1 e2 e3;refine⟨u,r,?_⟩
  rcases l with l|⟨k,c,e,z⟩
  .exact .inl l
  .exact .inr ⟨k,c,e,cellK x c e _ z⟩
 .obtain⟨v,z⟩:=I.cell x c e;exact⟨v,cellK x c e v z⟩
 .obtain⟨m,⟨o,_,_,ho,_⟩,_⟩:=I.loc;exact free _ o (λz=>(hch _ z).2.1 rfl) ho I.free
 .obtain⟨v,o,ho,hd⟩:=I.cell x c e;exact free c o (λz=>(hch c z).2.2.1 x c e rfl) ho (I.freeC x c e)
 .obtain⟨e,n,ne,nf,d⟩:=I.pin p hp;have nch:p.1∉ch:=λz=>(hch p.1 z).2.2.2 p hp rfl;exact⟨keep p.1 p.2 ne nf nch e n,free p.1 p.2 nch e n,ne,nf,d⟩
def Inv.un{t':Nat}(I:Inv X pins σ H s)(u:Un X.fs [] H H' s.heap h')(hok:HOk X.prog X.w H' h'):Inv X pins σ H' { s with heap:=h',toks:=t' }:=by
 obtain⟨m,⟨o,es,ep,ho,r⟩,_⟩:=id I.loc;obtain⟨sl,hL⟩:=u.any ho I.free (by simp)
 exact I.step (g':=s.gens) (d':=s.drawn) (ch:=[]) (λ_ z=>nomatch z) (λb o _ hb _ e n=>u.keep b o e n hb (by simp)) (λb o _ hb _ e n=>u.slot b o e n hb (by simp)) (λb o _ e n=>u.free b o e n (by simp)) (λb o _ e=>u.there b o e (by simp)) u.tups u.frzs u.tbls (λm' hm=>by
  obtain⟨o',es',ep',ho',r'⟩:=hm;rw [ho] at ho';cases ho';exact⟨_,es',ep',hL,r'⟩) hok I.bare
def Inv.call{g':Array Ko}{t':Nat}{d':Drawn}{ch:List Addr}(I:Inv X pins σ H s)(u:Un (frs X.stack) ch H H' s.heap h')(hok:HOk X.prog X.w H' h')(hg:Kc g')
  (hch:∀b∈ch,(b∈X.ex\/X.s₀.heap.objs.size<=b)/\b≠X.env.locals/\(∀x c,X.env.cells.lookup x=some c->c≠b)/\∀p∈X.pn++pins,p.1≠b) :
  Inv X pins σ H' { s with heap:=h',gens:=g',drawn:=d',toks:=t' }:=by
 obtain⟨m,⟨o,es,ep,ho,r⟩,_⟩:=id I.loc;obtain⟨sl,hL⟩:=u.any ho I.free λz=>(hch _ z).2.1 rfl
 exact I.step (ch:=ch) hch (λb o hL hb hc e n=>u.keep b o e n (λz=>(mem_cons.mp (I.stkSub b z)).elim hL hb) hc) (λb o _ _ hc e n=>u.any e n hc) (λb o hc e n=>u.free b o e n hc) (λb o hc e=>u.there b o e hc) u.tups u.frzs u.tbls (λm' hm=>by
  obtain⟨o',es',ep',ho',r'⟩:=hm;rw [ho] at ho';cases ho';exact⟨_,es',ep',hL,r'⟩) hok hg
def Inv.turned{t':Nat}{it:Addr}(I:Inv X pins σ H s)(k:∀b o,b≠it->s.heap.get? b=some o->h'.get? b=some o)(hn:H it=none)(hL:it≠X.env.locals)
  (h1:it∈X.ex\/X.s₀.heap.objs.size<=it) (h2:∀x c,X.env.cells.lookup x=some c->c≠it) (h3:∀p∈X.pn++pins,p.1≠it):Inv X pins σ H { s with heap:=h',toks:=t' }:=by
 have nit:∀b u,H b=some u->b≠it:=λb u e z=>by rw [z,hn] at e;cases e
 refine I.step (g':=s.gens) (d':=s.drawn) (ch:=[it]) (λb hb=>?_) (λb o _ _ hc e _=>k b o (λz=>hc (by simp [z])) e) (λb o _ _ hc e _=>⟨o.slots,k b o (λz=>hc (by simp [z])) e⟩) (λ_ _ _ _ n=>n)
  (λb o hc e=>⟨o,k b o (λz=>hc (by simp [z])) e⟩) (λ_ _ e=>e) (λ_ _ _ e=>e) (λb ps e=>⟨#[],by rw [e];simp⟩) (λm hm=>?_) (λb u e=>?_) I.bare
 .have e:b=it:=by simpa using hb
  subst e;exact⟨h1,hL,h2,h3⟩
 .obtain⟨o,es,ep,ho,r⟩:=hm;exact⟨o,es,ep,k _ o (HR hL) ho,r⟩
 .refine (I.hok b u e).stay (λc v hc q=>k c v ?_ q) (λ_ q=>q) λ_ _ q=>q
  rcases hc with z|z
  .rw [z];exact nit b u e
  .exact nit c _ z
def Inv.tok(I:Inv X pins σ H s)(t:Nat):Inv X pins σ H { s with toks:=t }:=I.un (h':=s.heap) (t':=t) Un.refl I.hok
def Inv.kept{t':Nat}(I:Inv X pins σ H s)(k:∀b u,s.heap.get? b=some u->h'.get? b=some u):Inv X pins σ H { s with heap:=h',toks:=t' }:=I.un (Un.kept k) (I.hok.kept k)
def Inv.laid{a:Addr}{o:HO}{t':Nat}(I:Inv X pins σ H s)(k:∀b u,s.heap.get? b=some u->h'.get? b=some u)(hp:s.heap.objs.size<=a)(new:bu X.prog X.w (upd H a o) h' a o) :
  Inv X pins σ (upd H a o) { s with heap:=h',toks:=t' }:=I.un (Un.laid k hp (I.hok.fresh hp)) (I.hok.laid k hp new)
def Inv.write{x e:Addr}{o:HO}{t':Nat}(I:Inv X pins σ H s)(mu:Mut (H x))(he:e=x\/H e=some (.own x))(k:∀b u,b≠e->s.heap.get? b=some u->h'.get? b=some u)(heo:∃u,h'.get? e=some u)
  (new:bu X.prog X.w (upd H x o) h' x o):Inv X pins σ (upd H x o) { s with heap:=h',toks:=t' }:=I.un (Un.write mu he k heo) (I.hok.write mu he k heo new)
def Inv.pins_of{pins':List (Addr×Obj)}(I:Inv X pins σ H s)(h:∀p∈pins',s.heap.get? p.1=some p.2/\H p.1=none/\p.1≠X.env.locals/\p.1∉X.fs/\∀v,p.2.data≠.cell v):Inv X pins' σ H s :=
 ⟨I.ok,I.os,I.bare,I.base,I.loc,I.cell,I.free,I.freeC,λp hp=>(Ij.mp hp).elim (λz=>I.pin p (IW _ z)) (h p),I.hok,I.len⟩
def nr{N:List Str}(hN:N.Nodup){i j:Nat}{x:Str}(a:N[i]?=some x)(b:N[j]?=some x):i=j:=by
 obtain⟨h1,e1⟩:=j_.mp a;obtain⟨h2,e2⟩:=j_.mp b;exact (getElem_inj hN).mp (e1.trans e2.symm)
theorem uq{M:Model}{A:w_}{E:Value->d_->Prop}{i:Nat}{x:Str}{v:V}{u:Value}{Q:Unit->d_->Prop}(I:Inv X pins σ H s)(hN:X.N.Nodup)(hi:X.N[i]?=some x)(hx:Loc X.env.scope x)(r:c4 v u)
  (h:∀s',Inv X pins (σ.set i (some v)) H s'->(∃a,Ji a s.heap s'.heap/\(a=X.env.locals\/X.env.cells.lookup x=some a))->Q () s') (hf:X.fn x=true\/X.env.scope.names.lookup x=some .local:=by first|exact .inl rfl|exact .inr rfl|assumption):wpAny M A (storeName X.env x u) Q E s:=by
 obtain⟨m,hn,hl⟩:=id I.loc;have hcls:(X.env.scope.kind == .class || (X.env.scope.kind == .module && X.env.locals != X.env.globals))=false:=by rw [I.ok.kind];rfl
 have hiσ:i<σ.length:=by rw [I.len];exact (j_.mp hi).1
 have cne:=I.cne
 have tracked:∀{a:Addr}{h':Heap},(∃o,s.heap.get? a=some o/\H a=none)->Ji a s.heap h'->HOk X.prog X.w H h':=λ{a h'} ha hs b ob e=>by
  obtain⟨_,_,hfree⟩:=ha;refine (I.hok b ob e).stay (λc w' hc q=>(hs.2 c ?_).trans q) (λ_ q=>q) λ_ _ q=>q;rintro rfl
  rcases hc with rfl|hc
  .rw [hfree] at e;cases e
  .rw [hfree] at hc;cases hc
 rcases hx with hk|hk
 .refine wpAny_storeName_local hk hn (λh' hn' hs=>?_) hcls;obtain⟨oL,_,_,hoL,_⟩:=id hn
  refine h _ ⟨I.ok,I.os,I.bare,⟨λb o e n hb hx=>?_,λb o e n hb hx=>?_,I.base.free,λb o e hx=>?_,I.base.tups,I.base.frzs,I.base.tbls⟩,⟨_,hn',λj y v' e1 e2 e3=>?_⟩,λy c e=>?_,I.free,I.freeC,λp hp=>?_,tracked ⟨oL,hoL,I.free⟩ hs,by simpa using I.len⟩ ⟨_,hs,.inl rfl⟩
  .exact (hs.2 b (Hi (tf (l_ e) I.ok.above))).trans (I.base.keep b o e n hb hx)
  .obtain⟨sl,e1⟩:=I.base.slot b o e n hb hx;exact⟨sl,(hs.2 b (Hi (tf (l_ e) I.ok.above))).trans e1⟩
  .obtain⟨o',e1⟩:=I.base.there b o e hx;exact⟨o',(hs.2 b (Hi (tf (l_ e) I.ok.above))).trans e1⟩
  .by_cases hj:j=i
   .subst hj;rw [hi] at e1;cases e1;rw [m_ hiσ] at e2;cases e2;exact⟨u,r,.inl ⟨hk,by simp⟩⟩
   .rw [g_ (HR hj)] at e2;obtain⟨u',r',q⟩:=hl j y v' e1 e2 e3;refine⟨u',r',?_⟩
    rcases q with ⟨k,e⟩|⟨k,c,e,z⟩
    .refine .inl ⟨k,?_⟩;have:y≠x:=λe=>hj (nr hN e1 (e ▸ hi));simp [this,e]
    .exact .inr ⟨k,c,e,z.sameBut hs (cne y c e)⟩
  .obtain⟨w',z⟩:=I.cell y c e;exact⟨w',z.sameBut hs (cne y c e)⟩
  .obtain⟨e,n,ne,nf,d⟩:=I.pin p hp;exact⟨(hs.2 p.1 ne).trans e,n,ne,nf,d⟩
 .have hfn:X.fn x=true:=by
   rcases hf with z|z
   .exact z
   .rw [z] at hk;cases hk
  obtain⟨c,hc⟩:=I.ok.has x (.inl hk);obtain⟨w',z⟩:=I.cell x c hc;refine wpAny_storeName_cell I.ok.kind hk hc z (λh' hc' hs=>?_);obtain⟨oc,hoc,hocd⟩:=id z
  refine h { s with heap:=h' } ⟨I.ok,I.os,I.bare,⟨λb o e n hb hx=>?_,λb o e n hb hx=>?_,I.base.free,λb o e hx=>?_,I.base.tups,I.base.frzs,I.base.tbls⟩,⟨m,hn.sameBut hs (HR (cne x c hc)),λj y v' e1 e2 e3=>?_⟩,λy c' e=>?_,I.free,I.freeC,λp hp=>?_,tracked ⟨oc,hoc,I.freeC x c hc⟩ hs,by simpa using I.len⟩ ⟨c,hs,.inr hc⟩
  .exact (hs.2 b (Hi (tf (l_ e) (I.ok.cab x c hfn hc)))).trans (I.base.keep b o e n hb hx)
  .obtain⟨sl,e1⟩:=I.base.slot b o e n hb hx;exact⟨sl,(hs.2 b (Hi (tf (l_ e) (I.ok.cab x c hfn hc)))).trans e1⟩
  .obtain⟨o',e1⟩:=I.base.there b o e hx;exact⟨o',(hs.2 b (Hi (tf (l_ e) (I.ok.cab x c hfn hc)))).trans e1⟩
  .by_cases hj:j=i
   .subst hj;rw [hi] at e1;cases e1;rw [m_ hiσ] at e2;cases e2;exact⟨u,r,.inr ⟨.inl hk,c,hc,hc'⟩⟩
   .rw [g_ (HR hj)] at e2;obtain⟨u',r',q⟩:=hl j y v' e1 e2 e3;refine⟨u',r',?_⟩
    rcases q with q|⟨k,c',e,z'⟩
    .exact .inl q
    .refine .inr ⟨k,c',e,z'.sameBut hs ?_⟩;rintro rfl;exact hj (nr hN e1 (I.ok.inj _ _ _ e hc ▸ hi))
  .by_cases hcc:c'=c
   .subst hcc;exact⟨_,hc'⟩
   .obtain⟨w2,z2⟩:=I.cell y c' e;exact⟨w2,z2.sameBut hs hcc⟩
  .obtain⟨e,n,ne,nf,d⟩:=I.pin p hp;refine⟨(hs.2 p.1 ?_).trans e,n,ne,nf,d⟩;intro q;rw [q,hoc] at e;have q':oc=p.2:=we e;exact d w' (by rw [<- q'];exact hocd)
theorem iH{M:Model}{A:w_}{E:Value->d_->Prop}{i:Nat}{x:Str}{v:V}{u:Value}{Q:Unit->d_->Prop}(I:Inv X pins σ H s)(hN:X.N.Nodup)(hi:X.N[i]?=some x)(hx:Loc X.env.scope x)(r:c4 v u)
  (h:∀s',Inv X pins (σ.set i (some v)) H s'->Q () s') (hf:X.fn x=true\/X.env.scope.names.lookup x=some .local:=by first|exact .inl rfl|exact .inr rfl|assumption):wpAny M A (storeName X.env x u) Q E s :=
 uq I hN hi hx r (λs' I' _=>h s' I') hf
def Inv.call'{s':d_}{ch:List Addr}(I:Inv X pins σ H s)(ho:s'.os=s.os)(u:Un (frs X.stack) ch H H' s.heap s'.heap)(hok:HOk X.prog X.w H' s'.heap)(hg:Kc s'.gens)
  (hch:∀b∈ch,(b∈X.ex\/X.s₀.heap.objs.size<=b)/\b≠X.env.locals/\(∀x c,X.env.cells.lookup x=some c->c≠b)/\∀p∈X.pn++pins,p.1≠b):Inv X pins σ H' s':=by
 obtain⟨h',g',d',t',o'⟩:=s';have e:o'=s.os:=ho;subst e;exact I.call (g':=g') (t':=t') (d':=d') u hok hg hch
end
abbrev XK:=Value->Option Addr->Hp->Prop
abbrev St:=List (Option V)
abbrev VK:=V->Hp->Prop
abbrev TE:=St->Hp->VK->Prop
abbrev TT:=St->Hp->(Bool->Hp->Prop)->Prop
abbrev TA:=St->Hp->(List V->Hp->Prop)->Prop
structure ur where
 nx:St->Hp->Prop
 rt:VK
 bk:St->Hp->Prop:=λ_ _=>False
 ct:St->Hp->Prop:=λ_ _=>False
abbrev TS:=ur->St->Hp->Prop
noncomputable def EP(X:Cx)(pins:List (Addr×Obj))(σ:St)(Q:VK)(u:Value)(s':d_):Prop:=∃v H',Inv X pins σ H' s'/\c4 v u/\Q v H'
noncomputable def TP(X:Cx)(pins:List (Addr×Obj))(σ:St)(Q:Bool->Hp->Prop)(b:Bool)(s':d_):Prop:=∃H',Inv X pins σ H' s'/\Q b H'
noncomputable def AP(X:Cx)(pins:List (Addr×Obj))(σ:St)(Q:List V->Hp->Prop)(us:List Value)(s':d_):Prop:=∃vs H',Inv X pins σ H' s'/\bB vs us/\Q vs H'
noncomputable def SP(X:Cx)(pins:List (Addr×Obj))(D:ur)(f:Flow)(s':d_):Prop :=
 match f with
 | .next=>∃σ' H',Inv X pins σ' H' s'/\D.nx σ' H'
 | .brk=>∃σ' H',Inv X pins σ' H' s'/\D.bk σ' H'
 | .cont=>∃σ' H',Inv X pins σ' H' s'/\D.ct σ' H'
 | .ret u=>∃v σ' H',Inv X pins σ' H' s'/\c4 v u/\D.rt v H'
noncomputable def PE(X:Cx)(e:Expr)(t:TE):Prop :=
 ∀(pins:List (Addr×Obj)) (s:d_) (σ:St) (H:Hp) (Q:VK),Inv X pins σ H s->t σ H Q->wpAny (model X.prog X.w) X.A (eval e X.env) (EP X pins σ Q) X.xe s
noncomputable def PT(X:Cx)(e:Expr)(t:TT):Prop :=
 ∀(pins:List (Addr×Obj)) (s:d_) (σ:St) (H:Hp) (Q:Bool->Hp->Prop),Inv X pins σ H s->t σ H Q->wpAny (model X.prog X.w) X.A (isTrue e X.env (eval e X.env)) (TP X pins σ Q) X.xe s
noncomputable def PW(X:Cx)(e:Expr)(t:TT):Prop :=
 ∀(whole:Sem Value) (pins:List (Addr×Obj)) (s:d_) (σ:St) (H:Hp) (Q:Bool->Hp->Prop),Inv X pins σ H s->t σ H Q->wpAny (model X.prog X.w) X.A (isTrue e X.env whole) (TP X pins σ Q) X.xe s
def PW.pt{X:Cx}{e:Expr}{t:TT}(h:PW X e t):PT X e t:=h _
noncomputable def PA(X:Cx)(es:List Expr)(t:TA):Prop :=
 ∀(pos:Pos) (pins:List (Addr×Obj)) (s:d_) (σ:St) (H:Hp) (Q:List V->Hp->Prop),Inv X pins σ H s->t σ H Q->wpAny (model X.prog X.w) X.A (spliced (backTo pos (starEach es X.env))) (AP X pins σ Q) X.xe s
noncomputable def PS(X:Cx)(st:Stmt)(t:TS):Prop :=
 ∀(pins:List (Addr×Obj)) (s:d_) (σ:St) (H:Hp) (D:ur),Inv X pins σ H s->t D σ H->wpAny (model X.prog X.w) X.A (exec st X.env) (SP X pins D) X.xe s
noncomputable def PSs(X:Cx)(st:List Stmt)(t:TS):Prop :=
 ∀(pins:List (Addr×Obj)) (s:d_) (σ:St) (H:Hp) (D:ur),Inv X pins σ H s->t D σ H->wpAny (model X.prog X.w) X.A (execs st X.env) (SP X pins D) X.xe s
def thn{α:Type}{t:Sem α}{Q Q':α->d_->Prop}{M:Model}{A:w_}{E:Value->d_->Prop}{s:d_}(h:wpAny M A t Q E s)(hQ:∀a s,Q a s->Q' a s):wpAny M A t Q' E s:=Hg h hQ λ_ _ x=>x
section
variable {X:Cx}
noncomputable def bw(i:Nat):TE:=λσ H Q=>∃v,σ[i]?=some (some v)/\Q v H
def tC(v:V):TE:=λ_ H Q=>Q v H
def Bp{i:Nat}{x:Str}{pos:Pos}(hN:X.N[i]?=some x)(hv:Vis X.env.scope x)(hd:(x == ("__debug__":Str))=false:=by decide)(hcd:(x == ("__classdict__":Str))=false:=by decide):PE X (.Name x pos) (bw i):=by
 intro pins s σ H Q I h;obtain⟨v,e,h⟩:=h;obtain⟨m,hn,hl⟩:=I.loc;obtain⟨u,r,l⟩:=hl i x v hN e hv;have fin:EP X pins σ Q u s:=⟨v,H,I,r,h⟩
 rcases l with ⟨hk,hm⟩|⟨hk,c,hc,hcell⟩
 .exact wpAny_Name (wpAny_loadName_local I.ok.kind hk hn hm fin) hd
 .rcases hk with hk|hk
  .exact wpAny_Name (wpAny_loadName_cell I.ok.kind hk hc hcell fin) hd
  .exact wpAny_Name (wpAny_loadName_free I.ok.kind hk hc hcell fin hcd) hd
def ay{i j pos}:PE X (.Constant (.int i) j pos) (tC (.int i)):=λ_ _ _ H _ I h=>wpAny_Constant_int ⟨.int i,H,I.tok _,⟨_,rfl⟩,h⟩
def fX{b j pos}:PE X (.Constant (.bool b) j pos) (tC (.bl b)):=λ_ _ _ H _ I h=>Constant_bool ⟨.bl b,H,I,rfl,h⟩
def my{j pos}:PE X (.Constant .none j pos) (tC .non):=λ_ _ _ H _ I h=>Constant_none ⟨.non,H,I,rfl,h⟩
def Bq{x j pos}:PE X (.Constant (.str x) j pos) (tC (.str x)):=λ_ _ _ H _ I h=>Calls.Constant_str ⟨.str x,H,I.tok _,⟨_,rfl⟩,h⟩
noncomputable def Gl(X:Cx)(x:Str):Prop:=X.env.kindOf x=some .globalImplicit
def io{E:Value->d_->Prop}{pins:List (Addr×Obj)}{s:d_}{σ:St}{H:Hp}{x:Str}{u:Value}{pos:Pos}{Q:Value->d_->Prop}(I:Inv X pins σ H s)(hg:Gl X x)(hm:X.mg x=some u)(h:Q u s)
  (hd:(x == ("__debug__":Str))=false:=by decide):wpAny (model X.prog X.w) X.A (eval (.Name x pos) X.env) Q E s :=
 Kp I.ok.kind hg (Calls.loadGlobal_global (by rw [I.ok.glob];exact I.mod.glob.keeps I.bk) hm h) hd
def iI{E:Value->d_->Prop}{pins:List (Addr×Obj)}{s:d_}{σ:St}{H:Hp}{x:Str}{u:Value}{pos:Pos}{Q:Value->d_->Prop}(I:Inv X pins σ H s)(hg:Gl X x)(hm:X.mg x=none)(hv:bootBuiltins x=some u)(h:Q u s)
  (hn:x≠"__name__":=by decide) (hd:(x == ("__debug__":Str))=false:=by decide):wpAny (model X.prog X.w) X.A (eval (.Name x pos) X.env) Q E s:=by
 obtain⟨mb,h1,h2⟩:=I.mod.blt;exact Kp I.ok.kind hg (Calls.loadGlobal_builtin (by rw [I.ok.glob];exact I.mod.glob.keeps I.bk) hm (by rw [I.ok.blt];exact h1.keeps I.bk) ((h2 x hn).trans hv) h) hd
def zi{x:Str}{v:V}{u:Value}{pos:Pos}(hg:Gl X x)(hm:X.mg x=some u)(r:c4 v u)(hd:(x == ("__debug__":Str))=false:=by decide):PE X (.Name x pos) (tC v) :=
 λ_ _ _ H _ I h=>io I hg hm ⟨v,H,I,r,h⟩ hd
def ef{x:Str}{v:V}{u:Value}{pos:Pos}(hg:Gl X x)(hm:X.mg x=none)(hv:bootBuiltins x=some u)(r:c4 v u)(hn:x≠"__name__":=by decide)(hd:(x == ("__debug__":Str))=false:=by decide):PE X (.Name x pos) (tC v) :=
 λ_ _ _ H _ I h=>iI I hg hm hv ⟨v,H,I,r,h⟩ hn hd
variable {a b:Expr}{ta tb:TE}{pos:Pos}
noncomputable def tB(t:TE):TT:=λσ H Q=>t σ H λx H1=>∃c,x=.bl c/\Q c H1
def Br{e:Expr}{t:TE}(h:PE X e t)(he:∀whole,isTrue e X.env whole=(do let v <- whole;standAt e.pos;holding [v] (truthy v)):=by intro _;rfl):PT X e (tB t):=by
 intro pins s σ H Q I hw;refine isTrue_plain (thn (h pins s σ H _ I hw) λv s1 ⟨x,H1,I1,r1,q1⟩=>?_) (he _);obtain⟨d,rfl,q⟩:=q1;cases r1;exact HK ⟨H1,I1,q⟩
variable {tA tB':TT}{rest:List Expr}
noncomputable def FL(t u:TT):TT:=λσ H Q=>t σ H λc H1=>if c=true then u σ H1 Q else Q false H1
noncomputable def tOr(t u:TT):TT:=λσ H Q=>t σ H λc H1=>if c=true then Q true H1 else u σ H1 Q
noncomputable def Ed(t:TT):TT:=λσ H Q=>t σ H λc H1=>Q (!c) H1
def nu(ha:PT X a tA):PW X (.BoolOp .And [a] pos) tA:=by
 intro wh pins s σ H Q I h;refine isTrue_and (thn (ha pins s σ H Q I h) λc s1 e=>?_)
 cases c with
 | true=>exact isTrue_and_nil e
 | false=>exact e
def jN(ha:PT X a tA):PW X (.BoolOp .Or [a] pos) tA:=by
 intro wh pins s σ H Q I h;refine isTrue_or (thn (ha pins s σ H Q I h) λc s1 e=>?_)
 cases c with
 | false=>exact isTrue_or_nil e
 | true=>exact e
def rP(ha:PT X a tA)(hb:PW X (.BoolOp .And (b::rest) pos) tB'):PW X (.BoolOp .And (a::b::rest) pos) (FL tA tB'):=by
 intro wh pins s σ H Q I h;refine isTrue_and (thn (ha pins s σ H _ I h) λc s1 ⟨H1,I1,q1⟩=>?_)
 cases c with
 | true=>exact hb wh pins s1 σ H1 Q I1 q1
 | false=>exact⟨H1,I1,q1⟩
def nv(ha:PT X a tA)(hb:PW X (.BoolOp .Or (b::rest) pos) tB'):PW X (.BoolOp .Or (a::b::rest) pos) (tOr tA tB'):=by
 intro wh pins s σ H Q I h;refine isTrue_or (thn (ha pins s σ H _ I h) λc s1 ⟨H1,I1,q1⟩=>?_)
 cases c with
 | true=>exact⟨H1,I1,q1⟩
 | false=>exact hb wh pins s1 σ H1 Q I1 q1
def dq(ha:PT X a tA):PT X (.UnaryOp .Not a pos) (Ed tA):=by
 intro pins s σ H Q I h;exact isTrue_not (ha pins s σ H (λc H1=>Q (!c) H1) I h)
noncomputable def Bs(ta tb:TE):TE:=λσ H Q=>ta σ H λx H1=>∃c,x=.bl c/\if c=true then tb σ H1 Q else Q (.bl false) H1
noncomputable def Bt(ta:TE):TE:=λσ H Q=>ta σ H λx H1=>∃c,x=.bl c/\Q (.bl (!c)) H1
def mB{op}{t:TE}(h:PE X a t):PE X (.BoolOp op [a] pos) t:=λpins s σ H Q I hw=>BoolOp_one (h pins s σ H Q I hw)
def jO(ha:PE X a ta)(hb:PE X (.BoolOp .And (b::rest) pos) tb):PE X (.BoolOp .And (a::b::rest) pos) (Bs ta tb):=by
 intro pins s σ H Q I h;refine BoolOp_and (thn (ha pins s σ H _ I h) λv s1 ⟨x,H1,I1,r1,q1⟩=>?_);obtain⟨c,rfl,q1⟩:=q1;cases r1;refine HK ?_
 cases c with
 | true=>exact hb pins s1 σ H1 Q I1 q1
 | false=>exact⟨.bl false,H1,I1,rfl,q1⟩
def ut(ha:PE X a ta):PE X (.UnaryOp .Not a pos) (Bt ta):=by
 intro pins s σ H Q I h;refine UnaryOp_ (thn (ha pins s σ H _ I h) λv s1 ⟨x,H1,I1,r1,q1⟩=>?_);obtain⟨c,rfl,q1⟩:=q1;cases r1;exact not_of (HK ⟨.bl (!c),H1,I1,rfl,q1⟩)
end
noncomputable def SqL(K:b_)(H:Hp)(a:Addr)(xs:List V):Prop :=
 Rd H a (.lst xs) \/
  ∃(o:Obj) (its:Array Value) (n:Nat),K.lookup a=some o/\o.cls=.type "list"/\o.dict=none/\o.data=.seq its n/\its.size<=sizeLine/\bB xs its.toList
noncomputable def SqT(K:b_)(H:Hp)(a:Addr)(xs:List V):Prop :=
 Rd H a (.tup xs) \/
  ∃(o:Obj) (its:Array Value) (n:Nat),K.lookup a=some o/\o.cls=.type "tuple"/\o.data=.seq its n/\its.size<=sizeLine/\bB xs its.toList
noncomputable def GF:Value->Option V
 | .none=>some .non
 | .bool b=>some (.bl b)
 | .int i _=>some (.int i)
 | .str x _=>some (.str x)
 | .bytes b _=>some (.byt b)
 | .float b _=>some (.flt b)
 | .ref a=>some (.ref a)
 | .type n=>some (.ty n)
 | _=>none
def c4.abs{x:V}{u:Value}(r:c4 x u):GF u=some x:=by
 cases x with
 | non=>cases r;rfl
 | bl _=>cases r;rfl
 | int _=>obtain⟨t,rfl⟩:=r;rfl
 | str _=>obtain⟨t,rfl⟩:=r;rfl
 | byt _=>obtain⟨t,rfl⟩:=r;rfl
 | flt _=>obtain⟨t,rfl⟩:=r;rfl
 | ref _=>cases r;rfl
 | ty _=>cases r;rfl
def c4.inj{x y:V}{u:Value}(r:c4 x u)(q:c4 y u):x=y:=we (r.abs.symm.trans q.abs)
theorem bB.inj:∀{xs ys:List V}{us:List Value},bB xs us->bB ys us->xs=ys
 | _,_,_,.nil,.nil=>rfl
 | _,_,_,.cons r t,.cons r' t'=>by rw [r.inj r',bB.inj t t']
section
variable {X:Cx}{pins:List (Addr×Obj)}{σ:St}{H:Hp}{s:d_}{a:Addr}{xs ys:List V}
def SqL.of{K:b_}(h:H a=some (.lst xs)):SqL K H a xs:=.inl (.inl h)
def SqT.of{K:b_}(h:H a=some (.tup xs)):SqT K H a xs:=.inl (.inl h)
def Inv.list(I:Inv X pins σ H s)(h:SqL X.K H a xs):∃its:List Value,bB xs its/\PlainL s.heap a its.toArray/\xs.length<=sizeLine:=by
 rcases h with h|⟨o,its,n,hk,hc,hd,hs,hz,r⟩
 .obtain⟨z,its,n,r,e⟩:=h.ok I.hok;exact⟨its,r,⟨_,n,e,rfl,rfl,rfl⟩,z⟩
 .refine⟨its.toList,r,⟨o,n,I.kIn a o hk,hc,hd,by simpa using hs⟩,?_⟩;have e:=r.length;simp only [HI] at e;omega
def Inv.tuple(I:Inv X pins σ H s)(h:SqT X.K H a xs):∃its:List Value,bB xs its/\IsTup s.heap a its.toArray/\xs.length<=sizeLine:=by
 rcases h with h|⟨o,its,n,hk,hc,hs,hz,r⟩
 .obtain⟨z,its,r,p⟩:=h.ok I.hok;exact⟨its,r,p,z⟩
 .refine⟨its.toList,r,⟨o,I.kIn a o hk,hc,n,by simpa using hs⟩,?_⟩;have e:=r.length;simp only [HI] at e;omega
def Inv.list_inj(I:Inv X pins σ H s)(h:SqL X.K H a xs)(h':SqL X.K H a ys):xs=ys:=by
 obtain⟨its,r,⟨o,n,e,_,_,d⟩,_⟩:=I.list h;obtain⟨its',r',⟨o',n',e',_,_,d'⟩,_⟩:=I.list h';rw [e] at e';cases e';rw [d] at d';injection d' with d1 _;have:its=its':=by simpa using congrArg KO d1
 subst this;exact r.inj r'
def Inv.tuple_inj(I:Inv X pins σ H s)(h:SqT X.K H a xs)(h':SqT X.K H a ys):xs=ys:=by
 obtain⟨its,r,⟨o,e,_,n,d⟩,_⟩:=I.tuple h;obtain⟨its',r',⟨o',e',_,n',d'⟩,_⟩:=I.tuple h';rw [e] at e';cases e';rw [d] at d';injection d' with d1 _;have:its=its':=by simpa using congrArg KO d1
 subst this;exact r.inj r'
end
abbrev Cx.wish(X:Cx)(E:Value->d_->Prop):Cx:={ X with xe:=E }
abbrev Cx.nox(X:Cx):Cx:=X.wish λ_ _=>False
def Cx.Ok.wish{X:Cx}(ok:X.Ok)(E:Value->d_->Prop):(X.wish E).Ok :=
 ⟨ok.mod,ok.kind,ok.glob,ok.blt,ok.above,ok.inj,ok.has,ok.cab,ok.hd,ok.frames,ok.stk,ok.exf,ok.bs,ok.bsz,ok.noex,ok.exfs,ok.funs,ok.frf,ok.tb⟩
def Cx.Ok.unwish{X:Cx}{E:Value->d_->Prop}(ok:(X.wish E).Ok):X.Ok :=
 ⟨ok.mod,ok.kind,ok.glob,ok.blt,ok.above,ok.inj,ok.has,ok.cab,ok.hd,ok.frames,ok.stk,ok.exf,ok.bs,ok.bsz,ok.noex,ok.exfs,ok.funs,ok.frf,ok.tb⟩
section
variable {X:Cx}{pins:List (Addr×Obj)}{σ:St}{H:Hp}{s:d_}{E:Value->d_->Prop}
def Inv.wish(I:Inv X pins σ H s)(E:Value->d_->Prop):Inv (X.wish E) pins σ H s:=⟨I.ok.wish E,I.os,I.bare,I.base,I.loc,I.cell,I.free,I.freeC,I.pin,I.hok,I.len⟩
def Inv.unwish(I:Inv (X.wish E) pins σ H s):Inv X pins σ H s:=⟨I.ok.unwish,I.os,I.bare,I.base,I.loc,I.cell,I.free,I.freeC,I.pin,I.hok,I.len⟩
def SP.unwish{D:ur}{f:Flow}{s':d_}(h:SP (X.wish E) pins D f s'):SP X pins D f s':=by
 cases f with
 | next=>obtain⟨σ',H',I,q⟩:=h;exact⟨σ',H',I.unwish,q⟩
 | brk=>obtain⟨σ',H',I,q⟩:=h;exact⟨σ',H',I.unwish,q⟩
 | cont=>obtain⟨σ',H',I,q⟩:=h;exact⟨σ',H',I.unwish,q⟩
 | ret u=>obtain⟨v,σ',H',I,r,q⟩:=h;exact⟨v,σ',H',I.unwish,r,q⟩
def PT.nox{e:Expr}{t:TT}(h:PT X.nox e t):PT X e t:=λpins s σ H Q I hw =>
 Hg (h pins s σ H Q (I.wish _) hw) (λ_ _ ⟨H',I',q⟩=>⟨H',I'.unwish,q⟩) λ_ _ z=>HD z
def PSs.nox{st:List Stmt}{t:TS}(h:PSs X.nox st t):PSs X st t:=λpins s σ H D I hw =>
 Hg (h pins s σ H D (I.wish _) hw) (λ_ _ q=>q.unwish) λ_ _ z=>HD z
end
section
variable {X:Cx}{st:Stmt}{rest:List Stmt}{t u:TS}{e:Expr}{te:TE}{pos:Pos}
def zj:TS:=λD σ H=>D.nx σ H
noncomputable def uu(t u:TS):TS:=λD σ H=>t { D with nx:=u D } σ H
def aX:PSs X [] zj:=λ_ _ σ H _ I h=>J6 ⟨σ,H,I,h⟩
def ah(h1:PS X st t)(h2:PSs X rest u):PSs X (st::rest) (uu t u):=by
 intro pins s σ H D I h;refine wpAny_execs_cons (thn (h1 pins s σ H { D with nx:=u D } I h) λf s1 q=>?_)
 cases f with
 | next =>
  obtain⟨σ',H',I',q⟩:=q;exact h2 pins s1 σ' H' D I' q
 | ret v=>exact q
 | brk=>exact q
 | cont=>exact q
def ap(h1:PS X st t):PSs X [st] t:=by
 intro pins s σ H D I h;refine wpAny_execs_cons (thn (h1 pins s σ H D I h) λf s1 q=>?_)
 cases f with
 | next=>exact J6 q
 | ret v=>exact q
 | brk=>exact q
 | cont=>exact q
def Inv.quiet{pins:List (Addr×Obj)}{σ:St}{H:Hp}{s:d_}(I:Inv X pins σ H s):interactive X.env=false:=by simp [interactive,I.ok.kind]
noncomputable def zk(te:TE):TS:=λD σ H=>te σ H λ_ H1=>D.nx σ H1
def dh(he:PE X e te)(hs:swapsWith e none pos.line X.env=pure false:=by rfl):PS X (.Expr e pos) (zk te):=by
 intro pins s σ H D I h;exact wpAny_Expr_any (thn (he pins s σ H _ I h) λv s1 ⟨x,H1,I1,r1,q1⟩=>⟨σ,H1,I1,q1⟩) I.quiet hs
def FO(te:TE):TS:=λD σ H=>te σ H D.rt
def aN(he:PE X e te):PS X (.Return (some e) pos) (FO te):=by
 intro pins s σ H D I h;exact wpAny_Return_some (thn (he pins s σ H _ I h) λv s1 ⟨x,H1,I1,r1,q1⟩=>⟨x,σ,H1,I1,r1,q1⟩)
noncomputable def Ee(c:TT)(t u:TS):TS:=λD σ H=>c σ H λb H1=>if b=true then t D σ H1 else u D σ H1
def cu{c:Expr}{a b:List Stmt}{tc:TT}(hc:PT X c tc)(ha:PSs X a t)(hb:PSs X b u):PS X (.If c a b pos) (Ee tc t u):=by
 intro pins s σ H D I h;refine wpAny_If (thn (hc pins s σ H _ I h) λd s1 ⟨H1,I1,q1⟩=>?_)
 cases d with
 | true=>exact ha pins s1 σ H1 D I1 q1
 | false=>exact hb pins s1 σ H1 D I1 q1
def uw:TS:=λ_ _ _=>False
def rQ:PS X st uw:=λ_ _ _ _ _ _ h=>h.elim
end
abbrev TG:=V->St->Hp->(St->Hp->Prop)->Prop
abbrev TGs:=List V->St->Hp->(St->Hp->Prop)->Prop
noncomputable def PG(X:Cx)(target:Expr)(t:TG):Prop :=
 ∀(pins:List (Addr×Obj)) (s:d_) (σ:St) (H:Hp) (v:V) (u:Value) (Q:St->Hp->Prop),Inv X pins σ H s->c4 v u->t v σ H Q ->
  wpAny (model X.prog X.w) X.A (assign target X.env u) (λ_ s'=>∃σ' H',Inv X pins σ' H' s'/\Q σ' H') X.xe s
noncomputable def PGs(X:Cx)(ts:List Expr)(t:TGs):Prop :=
 ∀(pins:List (Addr×Obj)) (s:d_) (σ:St) (H:Hp) (vs:List V) (us:List Value) (Q:St->Hp->Prop),Inv X pins σ H s->bB vs us->t vs σ H Q ->
  wpAny (model X.prog X.w) X.A (assignInOrder ((assignEach ts X.env).map (·.2)) us) (λ_ s'=>∃σ' H',Inv X pins σ' H' s'/\Q σ' H') X.xe s
abbrev Ef:=V->V->V->Hp->(Hp->Prop)->Prop
noncomputable def FQ(X:Cx)(t:Ef):Prop :=
 ∀(pins:List (Addr×Obj)) (s:d_) (σ:St) (H:Hp) (o i v:V) (ov iv u:Value) (Q:Hp->Prop),Inv X pins σ H s->c4 o ov->c4 i iv->c4 v u->t o i v H Q ->
  wpAny (model X.prog X.w) X.A (setItem ov iv u) (λ_ s'=>∃H',Inv X pins σ H' s'/\Q H') X.xe s
section
variable {X:Cx}{pos:Pos}
noncomputable def cC(i:Nat):TG:=λv σ H Q=>Q (σ.set i (some v)) H
theorem aG{i:Nat}{x:Str}(hN:X.N.Nodup)(hi:X.N[i]?=some x)(hx:Loc X.env.scope x)(hf:X.fn x=true\/X.env.scope.names.lookup x=some .local:=by first|exact .inl rfl|exact .inr rfl|assumption):PG X (.Name x pos) (cC i):=by
 intro pins s σ H v u Q I r h;exact wpAny_assign_Name (iH I hN hi hx r (λs' I'=>⟨_,H,I',h⟩) hf)
def Eg:TGs:=λvs σ H Q=>vs=[]/\Q σ H
noncomputable def xk(t:TG)(u:TGs):TGs:=λvs σ H Q=>∃v r,vs=v::r/\t v σ H λσ' H'=>u r σ' H' Q
def e9:PGs X [] Eg:=by
 intro pins s σ H vs us Q I r h;obtain⟨e,h⟩:=h;subst e;cases r;exact assignInOrder_nil ⟨σ,H,I,h⟩
def bp{e:Expr}{es:List Expr}{t:TG}{u:TGs}(h1:PG X e t)(h2:PGs X es u)
  (hs:(assignEach (e::es) X.env).map (·.2)=assign e X.env::(assignEach es X.env).map (·.2):=by rfl):PGs X (e::es) (xk t u):=by
 intro pins s σ H vs us Q I r h;obtain⟨v,vr,e1,h⟩:=h;subst e1
 cases r with
 | cons r rr =>
  rw [hs];refine assignInOrder_cons (thn (h1 pins s σ H _ _ _ I r h) λ_ s1 ⟨σ1,H1,I1,q1⟩=>?_);exact h2 pins s1 σ1 H1 _ _ Q I1 rr q1
noncomputable def GG(K:b_)(n:Nat)(t:TGs):TG:=λv σ H Q=>∃a xs,v=.ref a/\SqT K H a xs/\xs.length=n/\t xs σ H Q
def Bu{es:List Expr}{k:Nat}{t:TGs}{n:Nat}(hc:X.calm=true)(h:PGs X es t)
  (hn:(assignEach es X.env).length=n:=by rfl) (hst:(assignEach es X.env).findIdx? (·.1)=none:=by rfl):PG X (.Tuple es k pos) (GG X.K n t):=by
 intro pins s σ H v u Q I r hw;obtain⟨a,xs,e1,hq,hl,hw⟩:=hw;subst e1;cases r;obtain⟨its,rv,ht,hz⟩:=I.tuple hq;refine assign_Tuple_tuple (I.ok.hd hc) ht (by simp [hn,<- hl,rv.length]) hst λh' hx=>?_;have I1:Inv X pins σ H { s with heap:=h' }:=I.kept (t':=s.toks) λb o e=>hx b o (Hi (l_ e)) e;exact h pins _ σ H xs _ Q I1 (by simpa using rv) hw
noncomputable def FS(to ti:TE)(t:Ef):TG:=λv σ H Q=>to σ H λo H1=>ti σ H1 λi H2=>t o i v H2 λH3=>Q σ H3
def uz{o i:Expr}{to ti:TE}{t:Ef}(ho:PE X o to)(hi:PE X i ti)(hs:FQ X t)
  (ha:∀v,assign (.Subscript o i pos) X.env v=(do
   let ov <- holding [v] (eval o X.env)
   let iv <- holding [v,ov] (eval i X.env)
   standAt pos
   holding [v,ov,iv] (setItem ov iv v)
   release [v,ov,iv] []):=by intro _;rfl):PG X (.Subscript o i pos) (FS to ti t):=by
 intro pins s σ H v u Q I r h;rw [ha];refine cy (HB (thn (ho pins s σ H _ I h) λov s1 ⟨x,H1,I1,r1,q1⟩=>?_));refine cy (HB (thn (hi pins s1 σ H1 _ I1 q1) λiv s2 ⟨y,H2,I2,r2,q2⟩=>?_));refine cy (HP (cy (HB (thn (hs pins s2 σ H2 x y v ov iv u _ I2 r1 r2 r q2) λ_ s3 ⟨H3,I3,q3⟩=>?_))));exact wpAny_release ⟨σ,H3,I3,q3⟩
noncomputable def xl(te:TE)(g:TG):TS:=λD σ H=>te σ H λx H1=>g x σ H1 D.nx
def mC{tg e:Expr}{te:TE}{g:TG}(he:PE X e te)(hg:PG X tg g)(hs:swapsWithSole [tg] e pos.line X.env=pure false:=by rfl)(hw:swappedStores [tg] e X.env=pure none:=by rfl)
  (h1:(assignEach [tg] X.env).map (·.2)=[assign tg X.env]:=by rfl):PS X (.Assign [tg] e pos) (xl te g):=by
 intro pins s σ H D I h;refine wpAny_Assign_stores (thn (he pins s σ H _ I h) λv s1 ⟨x,H1,I1,r1,q1⟩=>?_) hs hw;rw [h1];exact thn (hg pins s1 σ H1 x v _ I1 r1 q1) λ_ s2 q=>q
theorem aU{i:Nat}{x:Str}{e:Expr}{te:TE}{pos':Pos}(hN:X.N.Nodup)(hi:X.N[i]?=some x)(hx:Loc X.env.scope x)(he:PE X e te)(hs:swapsWith e (some (.Name x pos')) pos.line X.env=pure false:=by rfl)(hf:X.fn x=true\/X.env.scope.names.lookup x=some .local:=by first|exact .inl rfl|exact .inr rfl|assumption) :
  PS X (.Assign [.Name x pos'] e pos) (xl te (cC i)):=by
 intro pins s σ H D I h;refine wpAny_Assign_Name (thn (he pins s σ H _ I h) λv s1 ⟨y,H1,I1,r1,q1⟩=>?_) hs;exact iH I1 hN hi hx r1 (λs2 I2=>⟨_,H1,I2,q1⟩) hf
end
section
variable {X:Cx}{pos:Pos}
noncomputable def yz(c:TT)(tb:TS):TS:=λD σ H=>∃W:Nat->St->Hp->Prop,(∃m,W m σ H)/\∀m σ H,W m σ H ->
 c σ H λb H1=>if b=true then ∃N:St->Hp->Prop,(∀σ' H',N σ' H'->∃m',m'<m/\W m' σ' H')/\tb { D with nx:=N,ct:=N,bk:=D.nx } σ H1 else D.nx σ H1
def rR{c:Expr}{body:List Stmt}{tc:TT}{tb:TS}(hp:PassesOwn (model X.prog X.w) X.A X.env X.xe)(hc:PT X c tc)(hb:PSs X body tb):PS X (.While c body [] pos) (yz tc tb):=by
 intro pins s σ H D I h;obtain⟨W,⟨m0,w0⟩,turn⟩:=h;refine wpAny_While (codeAny_whileLoop (λn s'=>∃σ' H',Inv X pins σ' H' s'/\W n σ' H') ?_ m0 ⟨σ,H,I,w0⟩);rintro n s1 ⟨σ1,H1,I1,w1⟩;refine ID hp (thn (hc pins s1 σ1 H1 _ I1 (turn n σ1 H1 w1)) λb s2 ⟨H2,I2,q2⟩=>?_)
 cases b with
 | true =>
  obtain⟨N,hN,q2⟩:=q2;rw [if_pos rfl];refine ID hp (thn (hb pins s2 σ1 H2 _ I2 q2) λf s3 q3=>?_)
  cases f with
  | next =>
   obtain⟨σ3,H3,I3,n3⟩:=q3;obtain⟨m',hm,w3⟩:=hN σ3 H3 n3;exact⟨m',hm,σ3,H3,I3,w3⟩
  | cont =>
   obtain⟨σ3,H3,I3,n3⟩:=q3;obtain⟨m',hm,w3⟩:=hN σ3 H3 n3;exact⟨m',hm,σ3,H3,I3,w3⟩
  | brk=>exact q3
  | ret v=>exact q3
 | false =>
  rw [if_neg n_];exact J6 ⟨σ1,H2,I2,q2⟩
end
structure It where
 go:Nat->Hp->Prop
 yld:Nat->Hp->V->Hp->Prop
 stop:Nat->Hp->Prop
noncomputable def qq(X:Cx)(pins:List (Addr×Obj))(H:Hp)(b:Addr):Prop :=
 H b=none/\b≠X.env.locals/\b∉X.fs/\(b∈X.ex\/X.s₀.heap.objs.size<=b)/\(∀x c,X.env.cells.lookup x=some c->c≠b)/\∀p∈X.pn++pins,p.1≠b
def Inv.fpOk{X:Cx}{pins:List (Addr×Obj)}{σ:St}{H H':Hp}{s:d_}{b:Addr}(I:Inv X pins σ H s)(hb:s.heap.objs.size<=b)(hn:H' b=none):qq X pins H' b:=by
 refine⟨hn,Je (tf I.lt hb),I.nofs hb,.inr (E_ I.sz hb),λx c e z=>?_,λp hp z=>?_⟩
 .obtain⟨v,q⟩:=I.cell x c e;exact absurd (tf q.lt (by rw [z];exact hb)) (HA _)
 .exact absurd (tf (l_ (I.pin p hp).1) (by rw [z];exact hb)) (HA _)
structure yA (P:r_) (w:World) (K:b_) (tg:Expr) (J:It) (fp:List Addr) (it:Addr) (tn:Nat->Heap->Prop):Prop where
 mem:it∈fp
 obj:∀i h,tn i h->∀b∈fp,∃o,h.get? b=some o/\∀v,o.data≠.cell v
 keep:∀i h h',tn i h->(∀b∈fp,∀o,h.get? b=some o->h'.get? b=some o)->tn i h'
 item:∀(X:Cx),X.prog=P->X.w=w->X.K=K->X.calm=true->∀(i:Nat) (pins:List (Addr×Obj)) (s:d_) (σ:St) (H:Hp) (E:Value->d_->Prop),Inv X pins σ H s->(∀b∈fp,qq X pins H b)->tn i s.heap->J.go i H ->
  wpAny (model P w) X.A (pyNext (.ref it)) (λr s1=>∃u,r=some u /\
   wpAny (model P w) X.A (letOwnedTupleGo tg (.ref it) u) (λ_ s2=>∃x H',Inv X pins σ H' s2/\c4 x u/\J.yld i H x H'/\tn (i+1) s2.heap/\∀b∈fp,H' b=none) E s1) E s
 done:∀(X:Cx),X.prog=P->X.w=w->X.K=K->X.calm=true->∀(i:Nat) (pins:List (Addr×Obj)) (s:d_) (σ:St) (H:Hp) (E:Value->d_->Prop),Inv X pins σ H s->(∀b∈fp,qq X pins H b)->tn i s.heap->J.stop i H ->
  wpAny (model P w) X.A (pyNext (.ref it)) (λr s1=>r=none/\Inv X pins σ H s1) E s
 self:∀(A:w_) (i:Nat) (s:d_) (Q:Value->d_->Prop) (E:Value->d_->Prop),tn i s.heap->Q (.ref it) s->wpAny (model P w) A (pyIter (.ref it)) Q E s
abbrev TI:=St->Hp->(It->Hp->Prop)->Prop
noncomputable def PIE(X:Cx)(pins:List (Addr×Obj))(σ:St)(tg:Expr)(R:It->Hp->Prop)(itv:Value)(s2:d_):Prop :=
 ∃(it:Addr) (fp:List Addr) (tn:Nat->Heap->Prop) (J:It) (H':Hp),itv=.ref it/\Inv X pins σ H' s2/\yA X.prog X.w X.K tg J fp it tn/\tn 0 s2.heap/\(∀b∈fp,qq X pins H' b)/\R J H'
noncomputable def PI(X:Cx)(tg iter:Expr)(wi:TI):Prop :=
 ∀(pins:List (Addr×Obj)) (s:d_) (σ:St) (H:Hp) (R:It->Hp->Prop),Inv X pins σ H s->wi σ H R ->
  wpAny (model X.prog X.w) X.A (eval iter X.env) (λv s1=>wpAny (model X.prog X.w) X.A (pyIter v) (PIE X pins σ tg R) X.xe s1) X.xe s
def zl{M:Model}{A:w_}{E:Value->d_->Prop}{s:d_}{tg:Expr}{it:Addr}{u:Value}{o:Obj}{n:String}{vs:Array Value}{Q:Unit->d_->Prop}(ho:s.heap.get? it=some o)(hc:o.cls=.type n)(hd:o.data=.fields vs)
    (hn:["enumerate","zip","dict_itemiterator","dict_reverseitemiterator","odict_iterator","itertools.zip_longest","itertools.pairwise"].contains n=false) (hQ:Q () s):wpAny M A (letOwnedTupleGo tg (.ref it) u) Q E s:=by
  unfold letOwnedTupleGo
  cases tg <;> first
    | exact e_ hQ
    | (cases u <;> first
        | exact e_ hQ
        | (refine cy (wpAny_load ho ?_)
           rw [hc,hd];show wpAny M A (if (["enumerate","zip","dict_itemiterator","dict_reverseitemiterator","odict_iterator","itertools.zip_longest","itertools.pairwise"].contains n && vs[0]? == some (rawInt _))=true then _ else _) Q E s;rw [if_neg (by intro h;rw [hn,HQ] at h;cases h)];exact e_ hQ))
noncomputable def Itl(K:b_)(a:Addr):It :=
 ⟨λi H=>∃xs x,SqL K H a xs/\xs[i]?=some x,λi H x H'=>H'=H/\∀xs,SqL K H a xs->xs[i]?=some x,λi H=>∃xs,SqL K H a xs/\xs.length<=i⟩
noncomputable def Itt(K:b_)(a:Addr):It :=
 ⟨λi H=>∃xs x,SqT K H a xs/\xs[i]?=some x,λi H x H'=>H'=H/\∀xs,SqT K H a xs->xs[i]?=some x,λi H=>∃xs,SqT K H a xs/\xs.length<=i⟩
noncomputable def Itr(lo:Int)(n:Nat):It:=⟨λi _=>i<n,λi H x H'=>H'=H/\x=.int (lo+i),λi _=>n<=i⟩
def uA{P:r_}{w:World}{K:b_}{tg:Expr}(a it:Addr):yA P w K tg (Itl K a) [it] it (λi h=>h.IsListIter it a i) where
 mem:=by simp
 obj:=λi h st b hb=>by
  have e:b=it:=by simpa using hb
  subst e;obtain⟨o,e,c,d⟩:=st;exact⟨o,e,λv z=>by rw [d] at z;cases z⟩
 keep:=λi h h' st k=>st.at λo e=>k it (by simp) o e
 item:=by
  intro X hP hw hK hc i pins s σ H E I hf st hg;subst hP hw hK;obtain⟨xs,x,hq,hx⟩:=hg;obtain⟨its,rv,p,hz⟩:=I.list hq;obtain⟨u,hu,ru⟩:=rv.get hx;obtain⟨f0,f1,f2,f3,f4,f5⟩:=hf it (by simp);refine wpAny_pyNext_list_item st p.isList (x:=u) (by simpa using hu) λh' st' sb=>?_;have I1:Inv X pins σ H { s with heap:=h' }:=I.turned (t':=s.toks) (λb o hb e=>(sb.2 b hb).trans e) f0 f1 f3 f4 f5;obtain⟨o,e,c,d⟩:=id st'
  exact⟨u,rfl,zl (s:={ s with heap:=h' }) e c d (by decide) ⟨x,H,I1,ru,⟨rfl,λys hy=>by rw [I.list_inj hy hq];exact hx⟩,st',λb hb=>(hf b hb).1⟩⟩
 done:=by
  intro X hP hw hK hc i pins s σ H E I hf st hg;subst hP hw hK;obtain⟨xs,hq,hx⟩:=hg;obtain⟨its,rv,p,hz⟩:=I.list hq;obtain⟨f0,f1,f2,f3,f4,f5⟩:=hf it (by simp);have hl:=rv.length;exact wpAny_pyNext_list_end (I.ok.hd hc) st p.isList (by simp;omega) λh' eb=>⟨rfl,I.turned (t':=s.toks) (λb o hb e=>eb b o hb e) f0 f1 f3 f4 f5⟩
 self:=λ_ _ _ _ _ st h=>wpAny_pyIter_listiter st h
def sN{P:r_}{w:World}{K:b_}{tg:Expr}(a it:Addr):yA P w K tg (Itt K a) [it] it (λi h=>h.IsTupleIter it a i) where
 mem:=by simp
 obj:=λi h st b hb=>by
  have e:b=it:=by simpa using hb
  subst e;obtain⟨o,e,c,d⟩:=st;exact⟨o,e,λv z=>by rw [d] at z;cases z⟩
 keep:=λi h h' st k=>st.at λo e=>k it (by simp) o e
 item:=by
  intro X hP hw hK hc i pins s σ H E I hf st hg;subst hP hw hK;obtain⟨xs,x,hq,hx⟩:=hg;obtain⟨its,rv,p,hz⟩:=I.tuple hq;obtain⟨u,hu,ru⟩:=rv.get hx;obtain⟨f0,f1,f2,f3,f4,f5⟩:=hf it (by simp);refine wpAny_pyNext_tuple_item st (show s.heap.IsTuple a its.toArray from p) (x:=u) (by simpa using hu) λh' st' sb=>?_;have I1:Inv X pins σ H { s with heap:=h' }:=I.turned (t':=s.toks) (λb o hb e=>(sb.2 b hb).trans e) f0 f1 f3 f4 f5
  obtain⟨o,e,c,d⟩:=id st';exact⟨u,rfl,zl (s:={ s with heap:=h' }) e c d (by decide) ⟨x,H,I1,ru,⟨rfl,λys hy=>by rw [I.tuple_inj hy hq];exact hx⟩,st',λb hb=>(hf b hb).1⟩⟩
 done:=by
  intro X hP hw hK hc i pins s σ H E I hf st hg;subst hP hw hK;obtain⟨xs,hq,hx⟩:=hg;obtain⟨its,rv,p,hz⟩:=I.tuple hq;obtain⟨f0,f1,f2,f3,f4,f5⟩:=hf it (by simp);have hl:=rv.length;exact wpAny_pyNext_tuple_end (I.ok.hd hc) st (show s.heap.IsTuple a its.toArray from p) (by simp;omega) λh' eb=>⟨rfl,I.turned (t':=s.toks) (λb o hb e=>eb b o hb e) f0 f1 f3 f4 f5⟩
 self:=λ_ _ _ _ _ st h=>wpAny_pyIter_tupleiter st h
def sO{P:r_}{w:World}{K:b_}{tg:Expr}(it:Addr)(lo:Int)(n:Nat):yA P w K tg (Itr lo n) [it] it (λi h=>IsRangeIter h it (lo+(i:Nat)*1) ((n:Int) - (i:Nat)) 1) where
 mem:=by simp
 obj:=λi h st b hb=>by
  have e:b=it:=by simpa using hb
  subst e
  exact⟨_,st,λv z=>by
   have z':Data.fields _=Data.cell v:=z;cases z'⟩
 keep:=λi h h' st k=>k it (by simp) _ st
 item:=by
  intro X hP hw hK hc i pins s σ H E I hf st hg;subst hP hw hK;obtain⟨f0,f1,f2,f3,f4,f5⟩:=hf it (by simp);have W:=Walks.range (prog:=X.prog) (w:=X.w) (I.ok.hd hc) it lo 1 n;refine W.item i s _ _ hg st λv h' tk hv st' kk=>?_;obtain⟨t,rfl⟩:=hv;have I1:Inv X pins σ H { s with heap:=h',toks:=tk }:=I.turned (λb o hb e=>kk b o (by simpa using hb) e) f0 f1 f3 f4 f5;refine⟨_,rfl,zl (s:={ s with heap:=h',toks:=tk }) (n:="range_iterator") st' rfl rfl (by decide) ⟨.int (lo+i),H,I1,⟨t,?_⟩,⟨rfl,rfl⟩,st',λb hb=>(hf b hb).1⟩⟩
  rw [mul_one]
 done:=by
  intro X hP hw hK hc i pins s σ H E I hf st hg;subst hP hw hK;obtain⟨f0,f1,f2,f3,f4,f5⟩:=hf it (by simp);exact wpAny_pyNext_range_end (I.ok.hd hc) st (by have:n<=i:=hg;omega) λh' eb=>⟨rfl,I.turned (t':=s.toks) (λb o hb e=>eb b o hb e) f0 f1 f3 f4 f5⟩
 self:=λ_ _ _ _ _ st h=>wpAny_pyIter_rangeiter st h
section
variable {X:Cx}{tg:Expr}
def xm{pins:List (Addr×Obj)}{σ:St}{H:Hp}{s:d_}{R:It->Hp->Prop}{E:Value->d_->Prop}{lo hi:Int}{t u v:Tok}{tk:Nat}(I:Inv X pins σ H s)(h1:-(2^62)<=lo)(h2:lo<2^62)(h3:-(2^62)<=hi)(h4:hi<2^62)
  (q:R (Itr lo (hi - lo).toNat) H):wpAny (model X.prog X.w) X.A (pyIter (.ref s.heap.objs.size)) (PIE X pins σ tg R) E { s with heap:=s.heap.push { cls:=.type "range",data:=.fields #[.int lo t,.int hi u,.int 1 v] },toks:=tk }:=by
 refine wpAny_pyIter_range (IsRange.new ..) (small_one h1 h2 h3 h4) ?_;have I1:Inv X pins σ H { s with heap:=s.heap.push { cls:=.type "range",data:=.fields #[.int lo t,.int hi u,.int 1 v] },toks:=tk }:=I.kept λb o e=>c_ _ e
 refine⟨(s.heap.push { cls:=.type "range",data:=.fields #[.int lo t,.int hi u,.int 1 v] }).objs.size,[(s.heap.push { cls:=.type "range",data:=.fields #[.int lo t,.int hi u,.int 1 v] }).objs.size],_,_,H,rfl,
  I1.kept (t':=tk) λb o e=>c_ _ e,sO _ lo (hi - lo).toNat,?_,λb hb=>?_,q⟩
 .have e1:lo+((0:Nat):Int)*1=lo:=by simp
  have e2:(((hi - lo).toNat:Nat):Int) - ((0:Nat):Int)=HU lo hi 1:=by rw [rangeSize_one];split <;> omega
  show IsRangeIter _ _ (lo+((0:Nat):Int)*1) ((((hi - lo).toNat:Nat):Int) - ((0:Nat):Int)) 1;rw [e1,e2];exact h_ _ rfl
 .have e:b=(s.heap.push { cls:=.type "range",data:=.fields #[.int lo t,.int hi u,.int 1 v] }).objs.size:=by simpa using hb
  subst e;exact I1.fpOk (so _) (I1.hok.fresh (so _))
noncomputable def uB(ta:TA):TI:=λσ H R=>ta σ H λvs H1=>∃j:Int,vs=[.int j]/\-(2^62)<=j/\j<2^62/\R (Itr 0 j.toNat) H1
def bS{a:Expr}{ta:TA}{p pos:Pos}(hg:Gl X "range")(hm:X.mg "range"=none)(ha:PA X [a] ta)(hs:starEach [a] X.env=[(false,eval a X.env)]:=by rfl):PI X tg (.Call (.Name "range" p) [a] [] pos) (uB ta):=by
 intro pins s σ H R I h;refine Call_ (iI I hg hm boot_range (Hv (thn (ha pos pins s σ H _ I h) λus s1 ⟨vs,H1,I1,r1,q1⟩=>?_) hs rfl));obtain⟨j,e,q1,q2,q⟩:=q1;subst e
 cases r1 with
 | cons r rr =>
  cases rr;obtain⟨t,rfl⟩:=r;exact call_range_1 (xm I1 (by omega) (by omega) q1 q2 (by simpa using q))
noncomputable def Eh(wi:TI)(g:TG)(tb:TS):TS:=λD σ H=>wi σ H λJ H1=>∃W:Nat->Nat->St->Hp->Prop,(∃m,W 0 m σ H1)/\∀i m σ H,W i m σ H ->
 (J.stop i H/\D.nx σ H)\/(J.go i H/\∃N:St->Hp->Prop,(∀σ' H',N σ' H'->∃m',m'<m/\W (i+1) m' σ' H')/\∀x H',J.yld i H x H'->g x σ H' λσ2 H2=>tb { D with nx:=N,ct:=N,bk:=D.nx } σ2 H2)
noncomputable def ki(fp:List Addr)(h:Heap):List (Addr×Obj):=fp.filterMap λb=>(h.get? b).map λo=>(b,o)
def cG{fp:List Addr}{h:Heap}{b:Addr}{o:Obj}(hb:b∈fp)(e:h.get? b=some o):(b,o)∈ki fp h:=IH.mpr ⟨b,hb,by rw [e];rfl⟩
def uC{fp:List Addr}{h:Heap}{p:Addr×Obj}(hp:p∈ki fp h):p.1∈fp/\h.get? p.1=some p.2:=by
 obtain⟨b,hb,e⟩:=IH.mp hp
 cases q:h.get? b with
 | none=>rw [q] at e;cases e
 | some o =>
  rw [q] at e;have e':(b,o)=p:=we e;subst e';exact⟨hb,q⟩
def Inv.pinned{pins:List (Addr×Obj)}{σ:St}{H:Hp}{s:d_}{fp:List Addr}(I:Inv X pins σ H s)(hf:∀b∈fp,qq X pins H b)(ho:∀b∈fp,∃o,s.heap.get? b=some o/\∀v,o.data≠.cell v):Inv X (pins++ki fp s.heap) σ H s :=
 I.pins_of λp hp=>(Ij.mp hp).elim (λz=>I.pin p (t_ _ z)) λz=>by
  obtain⟨hb,e⟩:=uC z;obtain⟨f0,f1,f2,_⟩:=hf p.1 hb;obtain⟨o,e',d⟩:=ho p.1 hb;rw [e] at e';cases e';exact⟨e,f0,f1,f2,d⟩
def Inv.unpinned{pins pl:List (Addr×Obj)}{σ:St}{H:Hp}{s:d_}(I:Inv X (pins++pl) σ H s):Inv X pins σ H s:=I.pins_of λp hp=>I.pin p (t_ _ (IW _ hp))
def df{iter:Expr}{body:List Stmt}{wi:TI}{g:TG}{tb:TS}{pos:Pos}(hp:PassesOwn (model X.prog X.w) X.A X.env X.xe)(hc:X.calm=true)(hi:PI X tg iter wi)(hg:PG X tg g)(hb:PSs X body tb)
  (hs:∀x,foldedSetIterable iter X.env x=pure x:=by intro _;rfl):PS X (.For tg iter body [] pos) (Eh wi g tb):=by
 intro pins s σ H D I h;refine wpAny_For (thn (hi pins s σ H _ I h) λv s1 h1=>thn h1 λitv s2 h2=>?_) hs;obtain⟨it,fp,tn,J,H2,e,I2,T,st2,f2,W,⟨m0,w0⟩,turn⟩:=h2;subst e
 -- what stays true of the iterator's objects through the loop
 have stat:∀{H':Hp},(∀b∈fp,H' b=none)->∀b∈fp,qq X pins H' b:=λhn b hb=>⟨hn b hb,(f2 b hb).2⟩
 refine codeAny_forLoop_any (λn s'=>∃i σ' H',Inv X pins σ' H' s'/\tn i s'.heap/\(∀b∈fp,H' b=none)/\W i n σ' H') ?_ m0 ⟨0,σ,H2,I2,st2,λb hb=>(f2 b hb).1,w0⟩;rintro n s3 ⟨i,σ3,H3,I3,st3,fr3,w3⟩
 rcases turn i n σ3 H3 w3 with ⟨stop,qn⟩|⟨go,N,hN,step⟩
 .refine ID hp (thn (T.done X rfl rfl rfl hc i pins s3 σ3 H3 X.xe I3 (stat fr3) st3 stop) λr s4 ⟨hr,I4⟩=>?_);subst hr;exact J6 ⟨σ3,H3,I4,qn⟩
 .refine ID hp (thn (T.item X rfl rfl rfl hc i pins s3 σ3 H3 X.xe I3 (stat fr3) st3 go) λr s4 ⟨u,hr,h4⟩=>?_);subst hr;refine ID hp (thn h4 λ_ s5 ⟨x,H5,I5,r5,y5,st5,fr5⟩=>?_);have I5':=I5.pinned (stat fr5) (T.obj _ _ st5);refine ID hp (thn (hg _ s5 σ3 H5 x u _ I5' r5 (step x H5 y5)) λ_ s6 ⟨σ6,H6,I6,q6⟩=>?_);refine ID hp (thn (hb _ s6 σ6 H6 _ I6 q6) λf s7 q7=>?_)
  have again:∀{σ7:St}{H7:Hp},Inv X (pins++ki fp s5.heap) σ7 H7 s7->N σ7 H7->∃m,m<n/\∃i σ' H',Inv X pins σ' H' s7/\tn i s7.heap/\(∀b∈fp,H' b=none)/\W i m σ' H':=λ{σ7 H7} I7 n7=>by
   obtain⟨m',hm,w7⟩:=hN σ7 H7 n7;refine⟨m',hm,i+1,σ7,H7,I7.unpinned,T.keep _ _ _ st5 λb hb o e=>(I7.pin (b,o) (t_ _ (t_ _ (cG hb e)))).1,λb hb=>?_,w7⟩;obtain⟨o,e,d⟩:=T.obj _ _ st5 b hb;exact (I7.pin (b,o) (t_ _ (t_ _ (cG hb e)))).2.1
  cases f with
  | next=>obtain⟨σ7,H7,I7,n7⟩:=q7;exact again I7 n7
  | cont=>obtain⟨σ7,H7,I7,n7⟩:=q7;exact again I7 n7
  | brk=>obtain⟨σ7,H7,I7,q7⟩:=q7;exact⟨σ7,H7,I7.unpinned,q7⟩
  | ret v=>obtain⟨x7,σ7,H7,I7,r7,q7⟩:=q7;exact⟨x7,σ7,H7,I7.unpinned,r7,q7⟩
end
abbrev R2:=V->V->Hp->VK->Prop
noncomputable def OpR(X:Cx)(f:Value->Value->Sem Value)(r:R2):Prop :=
 ∀(pins:List (Addr×Obj)) (s:d_) (σ:St) (H:Hp) (x y:V) (v u:Value) (Q:VK),Inv X pins σ H s->c4 x v->c4 y u->r x y H Q ->
  wpAny (model X.prog X.w) X.A (f v u) (EP X pins σ Q) X.xe s
noncomputable def UnR(X:Cx)(f:Value->Sem Value)(r:V->Hp->VK->Prop):Prop :=
 ∀(pins:List (Addr×Obj)) (s:d_) (σ:St) (H:Hp) (x:V) (v:Value) (Q:VK),Inv X pins σ H s->c4 x v->r x H Q ->
  wpAny (model X.prog X.w) X.A (f v) (EP X pins σ Q) X.xe s
noncomputable def bj(X:Cx)(f:Value)(r:List V->Hp->VK->Prop):Prop :=
 ∀(pins:List (Addr×Obj)) (s:d_) (σ:St) (H:Hp) (xs:List V) (us:List Value) (Q:VK),Inv X pins σ H s->bB xs us->r xs H Q ->
  wpAny (model X.prog X.w) X.A (call f us) (EP X pins σ Q) X.xe s
noncomputable def tOp(r:R2)(ta tb:TE):TE:=λσ H Q=>ta σ H λx H1=>tb σ H1 λy H2=>r x y H2 Q
noncomputable def tUn(r:V->Hp->VK->Prop)(ta:TE):TE:=λσ H Q=>ta σ H λx H1=>r x H1 Q
noncomputable def rI(C:Int->Int->Prop)(g:Int->Int->V):R2:=λx y H Q=>∃i j,x=.int i/\y=.int j/\C i j/\Q (g i j) H
noncomputable def rI0(g:Int->Int->V):R2:=λx y H Q=>∃i j,x=.int i/\y=.int j/\Q (g i j) H
noncomputable def rU(g:Int->V):V->Hp->VK->Prop:=λx H Q=>∃i,x=.int i/\Q (g i) H
section
variable {X:Cx}{a b c:Expr}{ta tb tc:TE}{pos:Pos}
def Ei(ha:PE X a ta)(hb:PE X b tb){pins:List (Addr×Obj)}{s:d_}{σ:St}{H:Hp}{R:V->V->Hp->Prop}(I:Inv X pins σ H s)
  (h:ta σ H λx H1=>tb σ H1 λy H2=>R x y H2) {Q:Value->d_->Prop}{f:Value->Value->Sem Value}
  (hf:∀v u s2 x y H2,Inv X pins σ H2 s2->c4 x v->c4 y u->R x y H2->wpAny (model X.prog X.w) X.A (f v u) Q X.xe s2) :
  wpAny (model X.prog X.w) X.A (eval a X.env) (λv s₁=>wpAny (model X.prog X.w) X.A (eval b X.env) (λu s₂=>wpAny (model X.prog X.w) X.A (f v u) Q X.xe s₂) X.xe s₁) X.xe s:=by
 refine thn (ha pins s σ H _ I h) λv s1 ⟨x,H1,I1,r1,q1⟩=>?_;refine thn (hb pins s1 σ H1 _ I1 q1) λu s2 ⟨y,H2,I2,r2,q2⟩=>?_;exact hf v u s2 x y H2 I2 r1 r2 q2
def bi{op:Operator}{r:R2}(ho:OpR X (binaryOp op) r)(ha:PE X a ta)(hb:PE X b tb):PE X (.BinOp a op b pos) (tOp r ta tb):=by
 intro pins s σ H Q I h;exact wpAny_BinOp (Ei ha hb I h λv u s2 x y H2 I2 rx ry q=>ho pins s2 σ H2 x y v u Q I2 rx ry q)
def sP{op:UnaryOp}{r:V->Hp->VK->Prop}(ho:UnR X (unaryOp op) r)(ha:PE X a ta):PE X (.UnaryOp op a pos) (tUn r ta):=by
 intro pins s σ H Q I h;exact UnaryOp_ (thn (ha pins s σ H _ I h) λv s1 ⟨x,H1,I1,r1,q1⟩=>ho pins s1 σ H1 x v Q I1 r1 q1)
def opI{f:Value->Value->Sem Value}{C:Int->Int->Prop}{g:Int->Int->Int}
  (rule:∀(i j:Int) (t u:Tok) (s:d_) (Q:Value->d_->Prop) (E:Value->d_->Prop),C i j->Q (.int (g i j) s.toks) { s with toks:=s.toks+1 }->wpAny (model X.prog X.w) X.A (f (.int i t) (.int j u)) Q E s) :
  OpR X f (rI C λi j=>.int (g i j)):=by
 intro pins s σ H x y v u Q I rx ry h;obtain⟨i,j,rfl,rfl,hc,q⟩:=h;obtain⟨t,rfl⟩:=rx;obtain⟨t',rfl⟩:=ry;exact rule i j t t' s _ _ hc ⟨.int (g i j),H,I.tok _,⟨_,rfl⟩,q⟩
def FT{f:Value->Value->Sem Value}{g:Int->Int->Int}
  (rule:∀(i j:Int) (t u:Tok) (s:d_) (Q:Value->d_->Prop) (E:Value->d_->Prop),Q (.int (g i j) s.toks) { s with toks:=s.toks+1 }->wpAny (model X.prog X.w) X.A (f (.int i t) (.int j u)) Q E s) :
  OpR X f (rI0 λi j=>.int (g i j)):=by
 intro pins s σ H x y v u Q I rx ry h;obtain⟨i,j,rfl,rfl,q⟩:=h;obtain⟨t,rfl⟩:=rx;obtain⟨t',rfl⟩:=ry;exact rule i j t t' s _ _ ⟨.int (g i j),H,I.tok _,⟨_,rfl⟩,q⟩
def A5{f:Value->Value->Sem Value}{g:Int->Int->Bool}
  (rule:∀(i j:Int) (t u:Tok) (s:d_) (Q:Value->d_->Prop) (E:Value->d_->Prop),Q (.bool (g i j)) s->wpAny (model X.prog X.w) X.A (f (.int i t) (.int j u)) Q E s) :
  OpR X f (rI0 λi j=>.bl (g i j)):=by
 intro pins s σ H x y v u Q I rx ry h;obtain⟨i,j,rfl,rfl,q⟩:=h;obtain⟨t,rfl⟩:=rx;obtain⟨t',rfl⟩:=ry;exact rule i j t t' s _ _ ⟨.bl (g i j),H,I,rfl,q⟩
noncomputable def Ej(i j:Int):Prop:=0<j/\j<1073741824
noncomputable def Ek(i j:Int):Prop:=0<=j/\j<=1000000/\i.natAbs<2^64
noncomputable def DY(i j:Int):Prop:=(-(2^64)<i/\i<2^64)\/(-(2^64)<j/\j<2^64)
def DY.ok{i j:Int}(h:DY i j):IntMulOk i j:=by
 rcases h with ⟨h1,h2⟩|⟨h1,h2⟩
 .exact .of_left (intBits_le_64 h1 h2)
 .exact .of_right (intBits_le_64 h1 h2)
def Bv:OpR X (binaryOp .Add) (rI0 λi j=>.int (i+j)):=FT λ_ _ _ _ _ _ _ q=>add_int q
def Bw:OpR X (binaryOp .Sub) (rI0 λi j=>.int (i - j)):=FT λ_ _ _ _ _ _ _ q=>sub_int q
def Bx:OpR X (binaryOp .Mult) (rI DY λi j=>.int (i*j)):=opI λ_ _ _ _ _ _ _ hc q=>mul_int q hc.ok
def zm:OpR X (binaryOp .FloorDiv) (rI Ej λi j=>.int (i / j)):=opI λi j _ _ _ _ _ hc q=>by
 have h1:(0:Int)<j:=hc.1;have h2:j<1073741824:=hc.2;exact floordiv_int (by omega) (by rw [fdiv_eq_ediv_of_nonneg i (by omega)];exact q) (.inl (KP (by omega)))
def By:OpR X (binaryOp .Mod) (rI (λ_ j=>0<j) λi j=>.int (i % j)):=opI λi j _ _ _ _ _ hc q=>by
 have h1:(0:Int)<j:=hc;exact mod_int' (by omega) (by rw [fmod_eq_emod_of_nonneg i (by omega)];exact q)
def Bz:OpR X (binaryOp .Pow) (rI Ek λi j=>.int (i^j.toNat)):=opI λ_ _ _ _ _ _ _ hc q=>pow_int_small hc.1 hc.2.1 hc.2.2 q
def unI{f:Value->Sem Value}{g:Int->Int}
  (rule:∀(i:Int) (t:Tok) (s:d_) (Q:Value->d_->Prop) (E:Value->d_->Prop),Q (.int (g i) s.toks) { s with toks:=s.toks+1 }->wpAny (model X.prog X.w) X.A (f (.int i t)) Q E s) :
  UnR X f (rU λi=>.int (g i)):=by
 intro pins s σ H x v Q I rx h;obtain⟨i,rfl,q⟩:=h;obtain⟨t,rfl⟩:=rx;exact rule i t s _ _ ⟨.int (g i),H,I.tok _,⟨_,rfl⟩,q⟩
def mD:UnR X (unaryOp .USub) (rU λi=>.int (-i)):=unI λ_ _ _ _ _ q=>neg_int q
end
noncomputable def FU:V->V->Bool
 | .non,.non=>true|.non,.int _=>true|.int _,.non=>true|.non,.bl _=>true|.bl _,.non=>true|.non,.str _=>true|.str _,.non=>true
 | .int _,.int _=>true|.bl _,.bl _=>true|.str _,.str _=>true|.byt _,.byt _=>true
 | .int _,.str _=>true|.str _,.int _=>true|.bl _,.str _=>true|.str _,.bl _=>true
 | _,_=>false
noncomputable def rEq:R2:=λx y H Q=>FU x y=true/\Q (.bl (decide (x=y))) H
noncomputable def rNe:R2:=λx y H Q=>FU x y=true/\Q (.bl (!decide (x=y))) H
def uD{i j:Int}:decide (V.int i=V.int j)=(i == j):=by
 rw [J7];simp
def yB{i j:Bool}:decide (V.bl i=V.bl j)=(i == j):=by
 rw [J7];simp
def uE{i j:Str}:decide (V.str i=V.str j)=(i == j):=by
 rw [J7];simp
def uF{i j:Array UInt8}:decide (V.byt i=V.byt j)=(i.toList == j.toList):=by
 rw [J7];cases i;cases j;simp
section
variable {X:Cx}{a b c:Expr}{ta tb tc:TE}{pos:Pos}
def bn{pins:List (Addr×Obj)}{σ:St}{H:Hp}{s:d_}{Q:VK}{k k':Bool}(I:Inv X pins σ H s)(q:Q (.bl k) H)(e:k=k'):EP X pins σ Q (.bool k') s:=by
 subst e;exact⟨.bl k,H,I,rfl,q⟩
def El:OpR X (compareOp .Eq) rEq:=by
 intro pins s σ H x y v u Q I rx ry h;obtain⟨hs,q⟩:=h
 cases x with
 | non =>
  cases rx
  cases y with
  | non=>cases ry;exact PySem.EqNone.eq_none_none (bn I q (by simp))
  | bl j=>cases ry;exact PySem.EqNone.eq_none_bool (bn I q (by simp))
  | int j=>obtain⟨t',rfl⟩:=ry;exact PySem.EqNone.eq_none_int (bn I q (by simp))
  | str j=>obtain⟨t',rfl⟩:=ry;exact PySem.EqNone.eq_none_str (bn I q (by simp))
  | _=>exact absurd (show false=true from hs) n_
 | bl i =>
  cases rx
  cases y with
  | non=>cases ry;exact PySem.EqNone.eq_bool_none (bn I q (by simp))
  | bl j=>cases ry;exact eq_bool (bn I q yB)
  | str j=>obtain⟨t',rfl⟩:=ry;exact PySem.EqMixed.eq_bool_str (bn I q (by simp))
  | _=>exact absurd (show false=true from hs) n_
 | int i =>
  obtain⟨t,rfl⟩:=rx
  cases y with
  | non=>cases ry;exact PySem.EqNone.eq_int_none (bn I q (by simp))
  | int j=>obtain⟨t',rfl⟩:=ry;exact eq_int (bn I q uD)
  | str j=>obtain⟨t',rfl⟩:=ry;exact PySem.EqMixed.eq_int_str (bn I q (by simp))
  | _=>exact absurd (show false=true from hs) n_
 | str i =>
  obtain⟨t,rfl⟩:=rx
  cases y with
  | non=>cases ry;exact PySem.EqNone.eq_str_none (bn I q (by simp))
  | bl j=>cases ry;exact PySem.EqMixed.eq_str_bool (bn I q (by simp))
  | int j=>obtain⟨t',rfl⟩:=ry;exact PySem.EqMixed.eq_str_int (bn I q (by simp))
  | str j=>obtain⟨t',rfl⟩:=ry;exact eq_str (bn I q uE)
  | _=>exact absurd (show false=true from hs) n_
 | byt i =>
  obtain⟨t,rfl⟩:=rx
  cases y with
  | byt j=>obtain⟨t',rfl⟩:=ry;exact PySem.W.eq_bytes (bn I q uF)
  | _=>exact absurd (show false=true from hs) n_
 | _=>cases y <;> exact absurd (show false=true from hs) n_
def Em:OpR X (compareOp .NotEq) rNe:=by
 intro pins s σ H x y v u Q I rx ry h;obtain⟨hs,q⟩:=h
 cases x with
 | non =>
  cases rx
  cases y with
  | non=>cases ry;exact PySem.EqNone.ne_none_none (bn I q (by simp))
  | bl j=>cases ry;exact PySem.EqNone.ne_none_bool (bn I q (by simp))
  | int j=>obtain⟨t',rfl⟩:=ry;exact PySem.EqNone.ne_none_int (bn I q (by simp))
  | str j=>obtain⟨t',rfl⟩:=ry;exact PySem.EqNone.ne_none_str (bn I q (by simp))
  | _=>exact absurd (show false=true from hs) n_
 | bl i =>
  cases rx
  cases y with
  | non=>cases ry;exact PySem.EqNone.ne_bool_none (bn I q (by simp))
  | bl j=>cases ry;exact ne_bool (bn I q (congrArg not yB))
  | str j=>obtain⟨t',rfl⟩:=ry;exact PySem.EqMixed.ne_bool_str (bn I q (by simp))
  | _=>exact absurd (show false=true from hs) n_
 | int i =>
  obtain⟨t,rfl⟩:=rx
  cases y with
  | non=>cases ry;exact PySem.EqNone.ne_int_none (bn I q (by simp))
  | int j=>obtain⟨t',rfl⟩:=ry;exact ne_int (bn I q (congrArg not uD))
  | str j=>obtain⟨t',rfl⟩:=ry;exact PySem.EqMixed.ne_int_str (bn I q (by simp))
  | _=>exact absurd (show false=true from hs) n_
 | str i =>
  obtain⟨t,rfl⟩:=rx
  cases y with
  | non=>cases ry;exact PySem.EqNone.ne_str_none (bn I q (by simp))
  | bl j=>cases ry;exact PySem.EqMixed.ne_str_bool (bn I q (by simp))
  | int j=>obtain⟨t',rfl⟩:=ry;exact PySem.EqMixed.ne_str_int (bn I q (by simp))
  | str j=>obtain⟨t',rfl⟩:=ry;exact ne_str (bn I q (congrArg not uE))
  | _=>exact absurd (show false=true from hs) n_
 | byt i =>
  obtain⟨t,rfl⟩:=rx
  cases y with
  | byt j=>obtain⟨t',rfl⟩:=ry;exact PySem.W.ne_bytes (bn I q (congrArg not uF))
  | _=>exact absurd (show false=true from hs) n_
 | _=>cases y <;> exact absurd (show false=true from hs) n_
def En:OpR X (compareOp .Lt) (rI0 λi j=>.bl (decide (i<j))):=A5 λ_ _ _ _ _ _ _ q=>lt_int q
def Ep:OpR X (compareOp .LtE) (rI0 λi j=>.bl (decide (i<=j))):=A5 λ_ _ _ _ _ _ _ q=>le_int q
def Es:OpR X (compareOp .Gt) (rI0 λi j=>.bl (decide (j<i))):=A5 λ_ _ _ _ _ _ _ q=>gt_int q
def Et:OpR X (compareOp .GtE) (rI0 λi j=>.bl (decide (j<=i))):=A5 λ_ _ _ _ _ _ _ q=>ge_int q
def uG:OpR X (compareOp .Lt) (λx y H Q=>∃i j,x=.str i/\y=.str j/\Q (.bl (decide (i.cps.toList<j.cps.toList))) H):=by
 intro pins s σ H x y v u Q I rx ry h;obtain⟨i,j,rfl,rfl,q⟩:=h;obtain⟨t,rfl⟩:=rx;obtain⟨t',rfl⟩:=ry;exact lt_str (bn I q rfl)
def BA:OpR X (compareOp .Is) (λx y H Q=>y=.non/\Q (.bl (decide (x=.non))) H):=by
 intro pins s σ H x y v u Q I rx ry h;obtain⟨rfl,q⟩:=h;cases ry;refine is_none_gen (bn I q ?_)
 cases x <;> first
  | (cases rx;rfl)
  | (obtain ⟨t,rfl⟩:=rx;rfl)
def OpR.or{f:Value->Value->Sem Value}{r r':R2}(h:OpR X f r)(h':OpR X f r'):OpR X f (λx y H Q=>r x y H Q\/r' x y H Q):=by
 intro pins s σ H x y v u Q I rx ry q
 rcases q with q|q
 .exact h pins s σ H x y v u Q I rx ry q
 .exact h' pins s σ H x y v u Q I rx ry q
def a9(b:Expr){op:CmpOp}(h:op≠.In:=by decide)(h2:op≠.NotIn:=by decide):behindInMarks op b=false:=by
 have e1:(op == CmpOp.In)=false:=by cases op <;> first|rfl|exact absurd rfl h
 have e2:(op == CmpOp.NotIn)=false:=by cases op <;> first|rfl|exact absurd rfl h2
 cases b <;> simp [behindInMarks,e1,e2]
def fY{op:CmpOp}{r:R2}(ho:OpR X (compareOp op) r)(ha:PE X a ta)(hb:PE X b tb)(hm:behindInMarks op b=false):PE X (.Compare a [op] [b] pos) (tOp r ta tb):=by
 intro pins s σ H Q I h;exact wpAny_Compare1 (Ei ha hb I h λv u s2 x y H2 I2 rx ry q=>ho pins s2 σ H2 x y v u Q I2 rx ry q) hm
noncomputable def sQ(t:TE):TT:=λσ H Q=>t σ H λx H'=>∃k,x=.bl k/\Q k H'
def aT{op:CmpOp}{r:R2}(ho:OpR X (compareOp op) r)(ha:PE X a ta)(hb:PE X b tb)(hm:behindInMarks op b=false):PT X (.Compare a [op] [b] pos) (sQ (tOp r ta tb)):=by
 intro pins s σ H Q I h
 refine wpAny_isTrue_Compare1 (thn (ha pins s σ H _ I h) λv s1 ⟨x,H1,I1,r1,q1⟩=>thn (hb pins s1 σ H1 _ I1 q1) λu s2 ⟨y,H2,I2,r2,q2⟩ =>
  thn (ho pins s2 σ H2 x y v u _ I2 r1 r2 q2) λc s3 ⟨z,H3,I3,r3,k,e,q3⟩=>?_) hm
 subst e;cases r3;exact HK ⟨H3,I3,q3⟩
noncomputable def rS(r r':R2)(ta tb tc:TE):TE:=λσ H Q=>ta σ H λx H1=>tb σ H1 λy H2=>r x y H2 λz H3=>∃k,z=.bl k /\
 (if k=true then tc σ H3 λw' H4=>r' y w' H4 Q else Q (.bl false) H3)
def xn{op op':CmpOp}{r r':R2}(ho:OpR X (compareOp op) r)(ho':OpR X (compareOp op') r')(ha:PE X a ta)(hb:PE X b tb)(hc:PE X c tc)
  (hm:lastMarks [op,op'] [b,c]=false:=by with_unfolding_all rfl):PE X (.Compare a [op,op'] [b,c] pos) (rS r r' ta tb tc):=by
 intro pins s σ H Q I h
 refine Compare_chain (thn (ha pins s σ H _ I h) λv s1 ⟨x,H1,I1,r1,q1⟩=>chain_link (thn (hb pins s1 σ H1 _ I1 q1) λu s2 ⟨y,H2,I2,r2,q2⟩ =>
  thn (ho pins s2 σ H2 x y v u _ I2 r1 r2 q2) λd s3 ⟨z,H3,I3,r3,k,e,q3⟩=>?_)) hm
 subst e;cases r3;refine HK ?_
 cases k with
 | false=>exact ite_ff ⟨.bl false,H3,I3,rfl,q3⟩
 | true=>exact ite_tt (chain_last (thn (hc pins s3 σ H3 _ I3 q3) λw' s4 ⟨z',H4,I4,r4,q4⟩=>ho' pins s4 σ H4 y z' u w' Q I4 r2 r4 q4))
def xo{op op':CmpOp}{r r':R2}(ho:OpR X (compareOp op) r)(ho':OpR X (compareOp op') r')(ha:PE X a ta)(hb:PE X b tb)(hc:PE X c tc)
  (hm:lastMarks [op,op'] [b,c]=false:=by with_unfolding_all rfl):PT X (.Compare a [op,op'] [b,c] pos) (sQ (rS r r' ta tb tc)):=by
 intro pins s σ H Q I h
 refine isTrue_chain (thn (ha pins s σ H _ I h) λv s1 ⟨x,H1,I1,r1,q1⟩=>test_link (thn (hb pins s1 σ H1 _ I1 q1) λu s2 ⟨y,H2,I2,r2,q2⟩ =>
  thn (ho pins s2 σ H2 x y v u _ I2 r1 r2 q2) λd s3 ⟨z,H3,I3,r3,k,e,q3⟩=>?_)) hm
 subst e;cases r3;refine HK ?_
 cases k with
 | false =>
  obtain⟨k',e',q'⟩:=q3;cases e';exact ite_ff ⟨H3,I3,q'⟩
 | true =>
  refine ite_tt (test_last (thn (hc pins s3 σ H3 _ I3 q3) λw' s4 ⟨z',H4,I4,r4,q4⟩=>thn (ho' pins s4 σ H4 y z' u w' _ I4 r2 r4 q4) λd' s5 ⟨z2,H5,I5,r5,k2,e2,q5⟩=>?_));subst e2;cases r5;exact HK ⟨H5,I5,q5⟩
def mE:(sizeLine:Nat)<2^63:=by rw [Jw];decide
def sR:OpR X (binaryOp .Add) (λx y H Q=>∃i j,x=.str i/\y=.str j/\i.length+j.length<=sizeLine/\Q (.str (i++j)) H):=by
 intro pins s σ H x y v u Q I rx ry h;obtain⟨i,j,rfl,rfl,hz,q⟩:=h;obtain⟨t,rfl⟩:=rx;obtain⟨t',rfl⟩:=ry;exact add_str (λt' tk=>⟨.str (i++j),H,I.tok _,⟨_,rfl⟩,q⟩) hz
def gK{x:V}{us:List Value}(r:bB [x] us):∃u,us=[u]/\c4 x u:=by
 cases r with
 | cons r1 r2=>cases r2;exact⟨_,rfl,r1⟩
def qu{x y:V}{us:List Value}(r:bB [x,y] us):∃u w',us=[u,w']/\c4 x u/\c4 y w':=by
 cases r with
 | cons r1 r2 =>
  cases r2 with
  | cons r3 r4=>cases r4;exact⟨_,_,rfl,r1,r3⟩
def xp:bj X (.builtin "abs") (λxs H Q=>∃i,xs=[.int i]/\Q (.int (if i<0 then -i else i)) H):=by
 intro pins s σ H xs us Q I r h;obtain⟨i,rfl,q⟩:=h;obtain⟨u,rfl,t,rfl⟩:=gK r;exact call_abs_int λu tk=>⟨.int (if i<0 then -i else i),H,I.tok _,⟨_,rfl⟩,q⟩
def uH(hc:X.calm=true):bj X (.builtin "max") (λxs H Q=>∃i j,xs=[.int i,.int j]/\Q (.int (if j > i then j else i)) H):=by
 intro pins s σ H xs us Q I r h;obtain⟨i,j,rfl,q⟩:=h;obtain⟨u,w',rfl,⟨t,rfl⟩,⟨t',rfl⟩⟩:=qu r;refine max_two_ints (I.ok.hd hc) λh' tk k=>⟨_,H,I.kept k,?_,q⟩
 by_cases hj:j > i
 .rw [if_pos hj,if_pos hj];exact⟨_,rfl⟩
 .rw [if_neg hj,if_neg hj];exact⟨_,rfl⟩
def uI(hc:X.calm=true):bj X (.builtin "min") (λxs H Q=>∃i j,xs=[.int i,.int j]/\Q (.int (if j<i then j else i)) H):=by
 intro pins s σ H xs us Q I r h;obtain⟨i,j,rfl,q⟩:=h;obtain⟨u,w',rfl,⟨t,rfl⟩,⟨t',rfl⟩⟩:=qu r;refine min_two_ints (I.ok.hd hc) λh' tk k=>⟨_,H,I.kept k,?_,q⟩
 by_cases hj:j<i
 .rw [if_pos hj,if_pos hj];exact⟨_,rfl⟩
 .rw [if_neg hj,if_neg hj];exact⟨_,rfl⟩
end
structure zn (h:Heap) (x dx C:Addr) (mA:Str->Option Value):Prop where
 obj:h.get? x=some (Ii C dx)
 ns:h.Ns1 dx mA
 ne:dx≠x
def uJ{h:Heap}{dx:Addr}{mA:Str->Option Value}(n:h.Ns1 dx mA):∃od,h.get? dx=some od/\∀name,Kq name od=some (mA name):=by
 obtain⟨o,es,ep,ho,hd,hk,_,hm⟩:=n;refine⟨o,ho,λname=>?_⟩;have e:=hm name;unfold nsFind findBy at e;rw [<- Array.find?_toList] at e;unfold Kq;rw [hd];dsimp only
 split
 .rename_i y q;rw [q] at e;exact congrArg some e
 .rename_i q;rw [q] at e
  have a:es.toList.any (·.refKey)=false:=by
   rw [any_eq_false];intro y hy;obtain⟨z,t,hkey⟩:=hk y (Array.mem_toList_iff.mp hy);simp [DictEntry.refKey,hkey]
  have a':¬ es.toList.any (·.refKey)=true:=by rw [a];exact n_
  rw [if_neg a'];exact congrArg some e
def zn.look{h:Heap}{x dx C:Addr}{mA:Str->Option Value}(I:zn h x dx C mA):∃od,PySem.W.InstAt h x (Ii C dx) C (some od)/\∀name,Kq name od=some (mA name) :=
 let ⟨od,ho,hl⟩:=uJ I.ns
 ⟨od,⟨I.obj,rfl,rfl,ho⟩,hl⟩
section
variable {prog:r_}{w:World}{A:w_}{E:Value->d_->Prop}{s:d_}{K:b_}{x dx C f:Addr}{mA:Str->Option Value}{name:Str}{v:Value}
def zo{expr:Bool}{Q:Value->d_->Prop}(X:K.In s.heap)(I:zn s.heap x dx C mA)(hg:Jj K C name=true)(hh:JB K C=true)
  (ha:f_ K (.ref C) name=some none) (hv:mA name=some v) (hv':PySem.W.handedIn v=true) (h:Q v { s with toks:=s.toks+1 }) :
  wpAny (model prog w) A (getAttr (.ref x) name expr) Q E s:=by
 obtain⟨od,J,hl⟩:=I.look;exact PySem.W.get_value X J (J_ hg).1 (PySem.W.findObj_own hh ha rfl (by rw [hl,hv])) hv' h
def xq{pl:Sem Bool}{Q:Value×List Value->d_->Prop}(X:K.In s.heap)(I:zn s.heap x dx C mA)(hg:Jj K C name=true)
  (hf:f_ K (.ref C) name=some (some (.ref f))) (ht:Ke K (.ref f)=true) (hv:mA name=none) (h:Q (.ref f,[.ref x]) s) :
  wpAny (model prog w) A (getMethod (.ref x) name pl) Q E s:=by
 obtain⟨od,J,hl⟩:=I.look;exact PySem.W.method_fn X J (J_ hg).1 (J_ hg).2 hf (beq_iff_eq.mp ht) (by show (Kq name od).map (·.isSome)=some false;rw [hl,hv];rfl) h
def zp{ns:List Str}{Q:Unit->d_->Prop}(X:K.In s.heap)(I:zn s.heap x dx C mA)
  (hs:f_ K (.ref C) "__setattr__"=some (some (.builtin "object.__setattr__"))) (hp:KC K C=true) (ht:K4 K C name=some none) (hh:JB K C=true)
  (hw:Lr mA ns) (hsz:ns.length<=sizeLine)
  (h:∀h',zn h' x dx C (λy=>if y=name then some v else mA y)->Ji dx s.heap h'->Q () { s with heap:=h',toks:=s.toks+2 }) :
  wpAny (model prog w) A (setAttr (.ref x) name v) Q E s:=by
 obtain⟨od,J,hl⟩:=I.look;refine PySem.W.set_plain X J hs (PySem.W.osa_open (s:={ s with toks:=s.toks+1 }) (r:=none) X J hp ht λb=>?_);obtain⟨cd,hc,hd'⟩:=PySem.W.any_some hh;have hx:s.heap.get? x=some ⟨.ref C,some dx,.plain,#[]⟩:=I.obj;refine cy (e_ (cy (cy (wpAny_loadPart hx (cy (PySem.W.Looks.here (s:={ s with toks:=s.toks+1 }) (PySem.W.looks_clsIn X hc) ?_))))))
 rw [hd'];refine e_ (a:=some dx) (cy (e_ (cy ?_)));refine wpAny_nsSet1 (s:={ s with toks:=s.toks+1 }) I.ns λh' hn2 hs2=>?_;obtain⟨oD,esD,epD,hoD,hdD,hcD⟩:=hn2.count (PySem.Within.cons name v hw);refine cy (wpAny_lookBehind hoD (by rw [hdD];exact pastItsLine_dict (E_ hcD (by rw [length_cons];omega))) ?_);exact e_ (h _ ⟨(hs2.2 _ (HR I.ne)).trans I.obj,hn2,I.ne⟩ hs2)
def xr{R:Result->d_->Prop}{vs:List Value}{kw:List (Str×Value)}(X:K.In s.heap)(hm:K5 K C=true)
  (hi:f_ K (.ref C) "__init__"=some (some (.ref f))) (hf:IQ K (.ref f)=some (.type "function"))
  (h:codeAny (model prog w) (A.under (.builtin "type.__call__" ⟨.ref C::vs,kw⟩)) (.call (.ref f) ⟨.ref (s.heap.objs.size+1)::vs,kw⟩) (PySem.W.InitBack (s.heap.objs.size+1) R)
   { s with heap:=(s.heap.push HL).push (Ii C s.heap.objs.size) }) :
  codeAny (model prog w) A (.call (.ref C) ⟨vs,kw⟩) R s:=by
 obtain⟨hh,g,d,t,os⟩:=s;exact PySem.W.make_core (PySem.W.makes_of X hm) (IE X hi) (λself=>PySem.W.bind_fn X self hf) (.inl rfl) h
end
noncomputable def mF(f:Str)(v:V):List (Str×V)->List (Str×V)
 | []=>[(f,v)]
 | (g,x)::r=>if g=f then (g,v)::r else (g,x)::mF f v r
theorem kj(f g:Str)(v:V):∀fs:List (Str×V),(mF f v fs).lookup g=if g=f then some v else fs.lookup g
 | []=>by
  show Ic g [(f,v)]=_
  by_cases h:g=f
  .have hb:(g == f)=true:=beq_iff_eq.mpr h;simp only [Ic,hb,if_pos h]
  .have hb:(g == f)=false:=beq_eq_false_iff_ne.mpr h;simp only [Ic,hb,if_neg h]
 | (k,x)::r=>by
  have ih:=kj f g v r;rw [show mF f v ((k,x)::r)=(if k=f then (k,v)::r else (k,x)::mF f v r) from rfl]
  by_cases hk:k=f
  .rw [if_pos hk]
   by_cases h:g=k
   .have hb:(g == k)=true:=beq_iff_eq.mpr h;simp only [Ic,hb,if_pos (h.trans hk)]
   .have hb:(g == k)=false:=beq_eq_false_iff_ne.mpr h;simp only [Ic,hb,if_neg (λe:g=f=>h (e.trans hk.symm))]
  .rw [if_neg hk]
   by_cases h:g=k
   .have hb:(g == k)=true:=beq_iff_eq.mpr h;simp only [Ic,hb,if_neg (λe:g=f=>hk (h.symm.trans e))]
   .have hb:(g == k)=false:=beq_eq_false_iff_ne.mpr h;simp only [Ic,hb];exact ih
theorem km(f:Str)(v:V):∀fs:List (Str×V),f∈(mF f v fs).map (·.1)/\∀g,g∈fs.map (·.1)->g∈(mF f v fs).map (·.1)
 | []=>⟨by simp [mF],λg h=>by simp at h⟩
 | (k,x)::r=>by
  obtain⟨i1,i2⟩:=km f v r;rw [show mF f v ((k,x)::r)=(if k=f then (k,v)::r else (k,x)::mF f v r) from rfl]
  by_cases hk:k=f
  .rw [if_pos hk];subst hk;exact⟨by simp,λg h=>by simpa using h⟩
  .rw [if_neg hk]
   refine⟨?_,λg h=>?_⟩
   .rw [map_cons];exact p_ _ i1
   .rw [map_cons] at h ⊢
    rcases mem_cons.mp h with e|e
    .exact mem_cons.mpr (.inl e)
    .exact p_ _ (i2 g e)
theorem kn(f:Str)(v:V):∀fs:List (Str×V),(mF f v fs).length<=fs.length+1
 | []=>by simp [mF]
 | (k,x)::r=>by
  have ih:=kn f v r;rw [show mF f v ((k,x)::r)=(if k=f then (k,v)::r else (k,x)::mF f v r) from rfl]
  by_cases hk:k=f
  .rw [if_pos hk,length_cons,length_cons];omega
  .rw [if_neg hk,length_cons,length_cons];omega
def uj.some_of{v:V}{o:Option Value}(r:uj (some v) o):∃u,o=some u/\c4 v u:=by
 cases o with
 | none=>exact (show False from r).elim
 | some u=>exact⟨u,rfl,r⟩
def uj.none_of{o:Option Value}(r:uj none o):o=none:=by
 cases o with
 | none=>rfl
 | some u=>exact (show False from r).elim
def uK{v:V}{u:Value}(r:c4 v u):PySem.W.handedIn u=true:=by
 cases v with
 | non=>cases (show u=HC from r);rfl
 | bl b=>cases (show u=Ih b from r);rfl
 | int i=>obtain⟨t,e⟩:=(show ∃t,u=Km i t from r);cases e;rfl
 | str x=>obtain⟨t,e⟩:=(show ∃t,u=Jv x t from r);cases e;rfl
 | byt b=>obtain⟨t,e⟩:=(show ∃t,u=Value.bytes b t from r);cases e;rfl
 | flt b=>obtain⟨t,e⟩:=(show ∃t,u=K_ b t from r);cases e;rfl
 | ref a=>cases (show u=k_ a from r);rfl
 | ty n=>cases (show u=Jd n from r);rfl
section
variable {P:r_}{w:World}{H H':Hp}{h h':Heap}{a C dx:Addr}{fs fs':List (Str×V)}
def ko(hok:HOk P w H h)(e:H a=some (.ins C dx fs)):∃mA,zn h a dx C mA/\(∀f,uj (fs.lookup f) (mA f))/\Lr mA (fs.map (·.1))/\fs.length<=1000/\H dx=some (.own a):=by
 obtain⟨d,z,ne,ob,mA,n,r,q⟩:=(show bu P w H h a (.ins C dx fs) from hok a _ e)
 exact⟨mA,⟨ob,n,ne⟩,r,q,z,d⟩
end
structure Cls (K:b_) (C:Addr):Prop where
 pg:Jj K C Ll=true
 hd:JB K C=true
 po:KC K C=true
 sa:f_ K (.ref C) "__setattr__"=some (some (.builtin "object.__setattr__"))
def Cls.get{K:b_}{C:Addr}(c:Cls K C)(f:Str):Jj K C f=true:=c.pg
noncomputable def dS(K:b_)(C:Addr)(f:Str):Prop:=f_ K (.ref C) f=some none
def dS.taker{K:b_}{C:Addr}{f:Str}(n:dS K C f):K4 K C f=some none:=by
 unfold K4;rw [show f_ K (.ref C) f=some none from n];rfl
structure DZ (K:b_) (C:Addr) (m:Str) (f:Addr):Prop where
 at_:f_ K (.ref C) m=some (some (.ref f))
 fn:Ke K (.ref f)=true
 kp:u_ K (.ref f)=true
section
variable {X:Cx}{pins:List (Addr×Obj)}{σ:St}{H:Hp}{s:d_}{a C dx:Addr}{fs:List (Str×V)}{f:Str}{v:V}{A:w_}{E:Value->d_->Prop}
def sS{b:Bool}{Q:Value->d_->Prop}(I:Inv X pins σ H s)(e:H a=some (.ins C dx fs))(c:Cls X.K C)(n:dS X.K C f)(l:fs.lookup f=some v)
  (h:∀u s',Inv X pins σ H s'->c4 v u->Q u s'):wpAny (model X.prog X.w) A (getAttr (.ref a) f b) Q E s:=by
 obtain⟨mA,O,r,_,_,_⟩:=ko I.hok e;obtain⟨u,hu,ru⟩:=uj.some_of (v:=v) (o:=mA f) (by rw [<- l];exact r f);exact zo I.kIn O (c.get f) c.hd n hu (uK ru) (h u _ (I.tok _) ru)
def sU{m:Str}{g:Addr}{pl:Sem Bool}{Q:Value×List Value->d_->Prop}(I:Inv X pins σ H s)(e:H a=some (.ins C dx fs))(c:Cls X.K C)(k:DZ X.K C m g)(l:fs.lookup m=none)
  (h:Q (.ref g,[.ref a]) s):wpAny (model X.prog X.w) A (getMethod (.ref a) m pl) Q E s:=by
 obtain⟨mA,O,r,_,_,_⟩:=ko I.hok e;have hn:mA m=none:=uj.none_of (by rw [<- l];exact r m);exact xq I.kIn O (c.get m) k.at_ k.fn hn h
def sV{y:V}{u:Value}{Q:Unit->d_->Prop}(I:Inv X pins σ H s)(e:H a=some (.ins C dx fs))(c:Cls X.K C)(n:dS X.K C f)(hl:fs.length<1000)(ry:c4 y u)
  (h:∀s',Inv X pins σ (upd H a (.ins C dx (mF f y fs))) s'->Q () s'):wpAny (model X.prog X.w) A (setAttr (.ref a) f u) Q E s:=by
 obtain⟨mA,O,r,wi,_,ho⟩:=ko I.hok e;have hz:(fs.map (·.1)).length<=sizeLine:=by rw [length_map,Jw];omega
 refine zp I.kIn O c.sa c.po n.taker c.hd wi hz λh' O' sb=>h _ ?_;have hd:∃o,h'.get? dx=some o:=let ⟨o,_,_,e',_⟩:=O'.ns;⟨o,e'⟩
 refine I.write (x:=a) (e:=dx) (by rw [e];exact Ik) (.inr ho) (λb q hb z=>(sb.2 b hb).trans z) hd ?_
 refine⟨by rw [ar O.ne];exact ho,?_,O.ne,O'.obj,_,O'.ns,λg=>?_,λg hg=>?_⟩
 .have:=kn f y fs;omega
 .show uj ((mF f y fs).lookup g) (if g=f then some u else mA g);rw [kj]
  by_cases q:g=f
  .rw [if_pos q,if_pos q];exact ry
  .rw [if_neg q,if_neg q];exact r g
 .by_cases q:g=f
  .rw [q];exact (km f y fs).1
  .refine (km f y fs).2 g (wi g λz=>hg ?_);show (if g=f then some u else mA g)=none;rw [if_neg q];exact z
def Inv.made(I:Inv X pins σ H s):Inv X pins σ (upd (upd H s.heap.objs.size (.own (s.heap.objs.size+1))) (s.heap.objs.size+1) (.ins C s.heap.objs.size []))
  { s with heap:=(s.heap.push HL).push (Ii C s.heap.objs.size) }:=by
 have e1:(s.heap.push HL).get? s.heap.objs.size=some HL:=h_ s.heap rfl
 have e2:((s.heap.push HL).push (Ii C s.heap.objs.size)).get? (s.heap.objs.size+1)=some (Ii C s.heap.objs.size):=by
  have:=h_ (s.heap.push HL) (o:=Ii C s.heap.objs.size) rfl
  rwa [Hc] at this
 have e3:(s.heap.push HL).Ns s.heap.objs.size (λ_=>none):=⟨HL,#[],_,e1,rfl,(λe he=>absurd he (by simp)),λ_=>rfl⟩
 have I1:=I.laid (a:=s.heap.objs.size) (o:=.own (s.heap.objs.size+1)) (h':=s.heap.push HL) (t':=s.toks) (λb u q=>c_ _ q) (so _) ⟨_,e1⟩;refine I1.laid (a:=s.heap.objs.size+1) (o:=.ins C s.heap.objs.size []) (t':=s.toks) (λb u q=>c_ _ q) (Kr (Hc _ _)) ?_;have ne:s.heap.objs.size≠s.heap.objs.size+1:=Hi (Kf _)
 refine⟨by rw [ar ne,aB],Iy _,ne,e2,λ_=>none,(Heap.Ns1.of_empty e3).at λo q=>c_ _ q,λ_=>Ik,λy hy=>absurd rfl hy⟩
def zq{prog:r_}{w:World}{env:Env}{e:Expr}{f:Str}{pos:Pos}{s:d_}{Q:Value->d_->Prop}(hb:attributeBase e f env (eval e env)=eval e env)
  (h:wpAny (model prog w) A (eval e env) (λo s₁=>wpAny (model prog w) A (getAttr o f true) Q E s₁) E s):wpAny (model prog w) A (eval (.Attribute e f pos) env) Q E s :=
 Attribute_any_ h (by rw [arm_eval_Attribute,hb])
end
noncomputable def xc(K:b_)(ta:TE)(f:Str):TE:=λσ H Q=>ta σ H λx H1=>∃a C dx fs v,x=.ref a/\H1 a=some (.ins C dx fs)/\Cls K C/\dS K C f/\fs.lookup f=some v/\Q v H1
noncomputable def FW(K:b_)(ta tv:TE)(f:Str):TS:=λD σ H=>tv σ H λy H1=>ta σ H1 λx H2=>∃a C dx fs,x=.ref a/\H2 a=some (.ins C dx fs)/\Cls K C/\dS K C f/\fs.length<1000 /\
 D.nx σ (upd H2 a (.ins C dx (mF f y fs)))
section
variable {X:Cx}{o e value:Expr}{f:Str}{pos pos' tpos:Pos}{ta tv:TE}
def BB(he:PE X e ta)(hb:attributeBase e f X.env (eval e X.env)=eval e X.env):PE X (.Attribute e f pos) (xc X.K ta f):=by
 intro pins s σ H Q I h;refine zq hb (thn (he pins s σ H _ I h) λu s1 ⟨x,H1,I1,rx,a,C,dx,fs,v,ex,ea,c,n,l,q⟩=>?_);subst ex;obtain rfl:u=k_ a:=rx;exact sS I1 ea c n l λu' s2 I2 ru=>⟨v,H1,I2,ru,q⟩
def mG(ha:PE X o ta)(hv:PE X value tv)(hs:swapsWith value (some (.Attribute o f pos')) pos.line X.env=pure false):PS X (.Assign [.Attribute o f pos'] value pos) (FW X.K ta tv f):=by
 intro pins s σ H D I h;refine JM (thn (hv pins s σ H _ I h) λu s1 ⟨y,H1,I1,ry,q⟩=>thn (ha pins s1 σ H1 _ I1 q) λov s2 ⟨x,H2,I2,rx,a,C,dx,fs,ex,ea,c,n,l,q2⟩=>?_) hs;subst ex;obtain rfl:ov=k_ a:=rx;exact sV I2 ea c n l ry λs3 I3=>⟨σ,_,I3,q2⟩
end
section
variable {X:Cx}{pins:List (Addr×Obj)}{σ:St}{H:Hp}{s:d_}{A:w_}{E:Value->d_->Prop}{Q:Value->d_->Prop}{c:Value}{b:Bool}
inductive oM (K:b_) (H:Hp):V->Value->Prop where
 | non:oM K H .non (.type "NoneType")
 | bl (x:Bool):oM K H (.bl x) (.type "bool")
 | int (i:Int):oM K H (.int i) (.type "int")
 | str (x:Str):oM K H (.str x) (.type "str")
 | flt (x:UInt64):oM K H (.flt x) (.type "float")
 | lst {a:Addr}{xs:List V} (e:H a=some (.lst xs)):oM K H (.ref a) (.type "list")
 | frz {a:Addr}{o:Obj}{xs:List V} (e:H a=some (.frz o (.lst xs))):oM K H (.ref a) (.type "list")
 | tup {a:Addr}{xs:List V} (e:H a=some (.tup xs)):oM K H (.ref a) (.type "tuple")
 | dK {a:Addr}{kvs:List (Key×V)} (e:H a=some (.dK kvs)):oM K H (.ref a) (.type "dict")
 | dT {a:Addr}{kvs:List (List Key×V)} (e:H a=some (.dT kvs)):oM K H (.ref a) (.type "dict")
 | ins {a C dx:Addr}{fs:List (Str×V)} (e:H a=some (.ins C dx fs)) (cl:Cls K C) (ha:f_ K (.ref C) "__class__"=some (some (.builtin "object.__class__")))
   (hn:PySem.W.specialIn K (.builtin "object.__class__") "__get__"=some (some (.builtin "getset_descriptor.__get__"))) (htk:PySem.W.takesIn K (.builtin "object.__class__")=some true)
   (hm:Ln K C (.type "object")=some true):oM K H (.ref a) (.ref C)
def uL{x:V}{u t:Value}(I:Inv X pins σ H s)(rx:c4 x u)(ty:oM X.K H x t)(e:Hm X.K t c=some b)(h:∀tk,Q (.bool b) { s with toks:=tk }) :
  wpAny (model X.prog X.w) A (call (.builtin "isinstance") [u,c]) Q E s:=by
 cases ty with
 | non=>cases (show u=HC from rx);exact Hx PySem.W.kitx_none I.kIn Ik e (λz=>nomatch z) h
 | bl y=>cases (show u=Ih y from rx);exact Hx PySem.W.kitx_bool I.kIn Ik e (λz=>nomatch z) h
 | int i=>obtain⟨t,q⟩:=(show ∃t,u=Km i t from rx);cases q;exact Hx PySem.W.kitx_int I.kIn Ik e (λz=>nomatch z) h
 | str y=>obtain⟨t,q⟩:=(show ∃t,u=Jv y t from rx);cases q;exact Hx PySem.W.kitx_str I.kIn Ik e (λz=>nomatch z) h
 | flt y=>obtain⟨t,q⟩:=(show ∃t,u=K_ y t from rx);cases q;exact Hx PySem.W.kitx_float I.kIn Ik e (λz=>nomatch z) h
 | @lst a xs ea =>
  cases (show u=k_ a from rx);obtain⟨_,_,n,_,h1⟩:=(show bu X.prog X.w H s.heap a (.lst xs) from I.hok a _ ea)
  exact Hx JC I.kIn ⟨_,h1,rfl⟩ e (λz=>nomatch z) h
 | @frz a ob xs ea =>
  cases (show u=k_ a from rx);obtain⟨_,_,_,n,_,h1⟩:=(show bu X.prog X.w H s.heap a (.frz ob (.lst xs)) from I.hok a _ ea)
  exact Hx JC I.kIn ⟨_,h1,rfl⟩ e (λz=>nomatch z) h
 | @tup a xs ea =>
  cases (show u=k_ a from rx);obtain⟨_,_,_,p⟩:=(show bu X.prog X.w H s.heap a (.tup xs) from I.hok a _ ea)
  obtain⟨o,h1,h2,_⟩:=p;exact Hx PySem.W.kitx_tuple I.kIn ⟨o,h1,h2⟩ e (λz=>nomatch z) h
 | @dK a kvs ea =>
  cases (show u=k_ a from rx);obtain⟨_,_,vs,_,p⟩:=(show bu X.prog X.w H s.heap a (.dK kvs) from I.hok a _ ea)
  obtain⟨o,es,ep,h1,h2,_⟩:=p;exact Hx JD I.kIn ⟨o,h1,h2.1⟩ e (λz=>nomatch z) h
 | @dT a kvs ea =>
  cases (show u=k_ a from rx);obtain⟨_,_,xs,_,o,es,ep,h1,h2,_⟩:=(show bu X.prog X.w H s.heap a (.dT kvs) from I.hok a _ ea)
  exact Hx JD I.kIn ⟨o,h1,h2.1⟩ e (λz=>nomatch z) h
 | @ins a C dx fs ea cl ha hn htk hm =>
  cases (show u=k_ a from rx);obtain⟨mA,O,_⟩:=ko I.hok ea;obtain⟨od,J,_⟩:=O.look;exact Hx (PySem.W.kitx_own (cl.get _) cl.hd ha hn htk hm) I.kIn J e (λz=>nomatch z) h
end
structure dR (k:Nat) (A:w_):Prop where
 hd:A.handled=none
 dp:A.depth+3*k+5<recursionLimit
 un:A.units+16*k+200<cLine
def dR.mono{j k:Nat}{A:w_}(r:dR k A)(h:j<=k):dR j A:=⟨r.hd,by have:=r.dp;omega,by have:=r.un;omega⟩
def dR.deeper{k:Nat}{A:w_}(r:dR (k+1) A)(env:Env):dR k (A.deeper env) :=
 ⟨r.hd,by have:=r.dp;show A.depth+1+3*k+5<_;omega,by have:=r.un;show A.units+3+16*k+200<_;omega⟩
def sW{A:w_}{C:Addr}{us:List Value}{kw:List (Str×Value)}:(A.under (.builtin "type.__call__" ⟨.ref C::us,kw⟩)).depth=A.depth+1:=by
 first|rfl|simp [Around.under,Code.weight,Code.isCreation,Code.isGuard,Code.isCaller,Code.frames,Code.isFrame,guardIds]
def sX{A:w_}{C:Addr}{us:List Value}{kw:List (Str×Value)}:(A.under (.builtin "type.__call__" ⟨.ref C::us,kw⟩)).units=A.units+1:=by
 first|rfl|simp [Around.under,Code.cUnits,Code.frames,Code.isFrame]
def dR.make{k:Nat}{A:w_}(r:dR (k+1) A)(C:Addr)(us:List Value)(kw:List (Str×Value)):dR k (A.under (.builtin "type.__call__" ⟨.ref C::us,kw⟩)) :=
 ⟨r.hd,by have:=r.dp;rw [sW];omega,by have:=r.un;rw [sX];omega⟩
def dR.depth{k:Nat}{A:w_}(r:dR k A):A.depth<recursionLimit:=by have:=r.dp;omega
def dR.units{k:Nat}{A:w_}(r:dR k A):A.units+64<cLine:=by have:=r.un;omega
def eR:TA:=λ_ H Q=>Q [] H
noncomputable def aW(ta:TE)(tr:TA):TA:=λσ H Q=>ta σ H λx H1=>tr σ H1 λxs H2=>Q (x::xs) H2
section
variable {X:Cx}{e:Expr}{es:List Expr}{te:TE}{t:TA}{pos:Pos}
def af:PA X [] eR:=λ_ _ _ _ H Q I h=>Calls.spliced_nil ⟨[],H,I,.nil,h⟩
def zr(ha:PE X e te)(hr:PA X es t)(hs:starEach (e::es) X.env=(false,eval e X.env)::starEach es X.env:=by rfl):PA X (e::es) (aW te t):=by
 intro pos pins s σ H Q I h;rw [hs];show wpAny _ _ (spliced ((false,eval e X.env)::backTo pos (starEach es X.env))) _ _ s;refine Calls.spliced_cons (thn (ha pins s σ H _ I h) λu s1 ⟨x,H1,I1,r1,q1⟩=>?_);exact thn (hr pos pins s1 σ H1 _ I1 q1) λus s2 ⟨xs,H2,I2,r2,q2⟩=>⟨x::xs,H2,I2,.cons r1 r2,q2⟩
noncomputable def BC(t:TA):TE:=λσ H Q=>t σ H λxs H1=>xs.length<=sizeLine/\∀p,H1 p=none->Q (.ref p) (upd H1 p (.tup xs))
noncomputable def Eu(t:TA):TE:=λσ H Q=>t σ H λxs H1=>xs.length<=sizeLine/\∀p,H1 p=none->Q (.ref p) (upd H1 p (.lst xs))
def iJ{x1}(h:PA X es t):PE X (.Tuple es x1 pos) (BC t):=by
 intro pins s σ H Q I hq;refine wpAny_Tuple_spliced (thn (h pos pins s σ H _ I hq) λus s1 ⟨xs,H1,I1,r,z,q⟩=>⟨by rw [<- r.length];exact z,?_⟩);have hf:H1 s1.heap.objs.size=none:=I1.hok.fresh (so _);refine⟨.ref s1.heap.objs.size,upd H1 s1.heap.objs.size (.tup xs),I1.laid (t':=s1.toks) (λb u e=>c_ _ e) (so _) ?_,rfl,q _ hf⟩;exact⟨z,us,r,⟨_,h_ _ rfl,rfl,_,rfl⟩⟩
def bD(h:PA X es t):PE X (.List es pos) (Eu t):=by
 intro pins s σ H Q I hq;refine wpAny_List_spliced (thn (h pos pins s σ H _ I hq) λus s1 ⟨xs,H1,I1,r,z,q⟩=>⟨by rw [<- r.length];exact z,?_⟩);have hf:H1 s1.heap.objs.size=none:=I1.hok.fresh (so _);refine⟨.ref s1.heap.objs.size,upd H1 s1.heap.objs.size (.lst xs),I1.laid (t':=s1.toks) (λb u e=>c_ _ e) (so _) ?_,rfl,q _ hf⟩;exact⟨z,us,0,r,h_ _ rfl⟩
end
abbrev Sp:=List V->Hp->VK->XK->Prop
abbrev CXT:=List Env->Hp->d_->XK->Value->d_->Prop
structure zt (P:r_) (w:World) (K:b_) (mg:Str->Option Value) (base:Heap) (A:w_) (outer:List Env) (s:d_) (H:Hp):Prop where
 frames:A.frames=some outer
 mod:Mod K mg base
 bs:∀b o,base.get? b=some o->s.heap.get? b=some o/\H b=none
 bsz:base.objs.size<=s.heap.objs.size
 funs:s.heap.FunFrames base outer
 frf:∀b∈frs outer,H b=none
 hok:HOk P w H s.heap
 bare:Kc s.gens
 tb:oO base H
noncomputable def CE(outer:List Env)(P:r_)(w:World)(H:Hp)(s:d_)(Q:VK)(u:Value)(s':d_):Prop :=
 ∃v H',s'.os=s.os/\Kc s'.gens/\Un (frs outer) [] H H' s.heap s'.heap/\HOk P w H' s'.heap/\c4 v u/\Q v H'
noncomputable def CR(CX:CXT)(outer:List Env)(P:r_)(w:World)(H:Hp)(s:d_)(Q:VK)(E:XK)(r:Result)(s':d_):Prop :=
 match r with
 | .ok (.ret u)=>CE outer P w H s Q u s'
 | .ok _=>False
 | .error e=>CX outer H s E e s'
structure lL (P:r_) (w:World) (K:b_) (mg:Str->Option Value) (base:Heap) (CX:CXT) (k:Nat) (f:Addr) (fd:HH) (ps:List Str) (sp:Sp):Prop where
 len:∀vs H Q E,sp vs H Q E->vs.length=ps.length
 run:∀(A:w_) (outer:List Env) (s:d_) (H:Hp) (args:Args) (us:List Value) (vs:List V) (Q:VK) (E:XK),dR k A->zt P w K mg base A outer s H->KQ s fd args (ps.zip us)->bB vs us->sp vs H Q E ->
  codeAny (model P w) A (.call (.ref f) args) (CR CX outer P w H s Q E) s
def lL.imp{P:r_}{w:World}{K:b_}{mg:Str->Option Value}{base:Heap}{CX:CXT}{k:Nat}{f:Addr}{fd:HH}{ps:List Str}{sp sp':Sp}(F:lL P w K mg base CX k f fd ps sp)
  (h:∀vs H Q E,sp' vs H Q E->sp vs H Q E):lL P w K mg base CX k f fd ps sp' :=
 ⟨λvs H Q E q=>F.len vs H Q E (h _ _ _ _ q),λA outer s H args us vs Q E hr he hb hv hs=>F.run A outer s H args us vs Q E hr he hb hv (h _ _ _ _ hs)⟩
def zt.make{P:r_}{w:World}{K:b_}{mg:Str->Option Value}{base:Heap}{A:w_}{outer:List Env}{s:d_}{H:Hp}(e:zt P w K mg base A outer s H)(C:Addr)(us:List Value)(kw:List (Str×Value)) :
  zt P w K mg base (A.under (.builtin "type.__call__" ⟨.ref C::us,kw⟩)) outer s H:=⟨by first|exact e.frames|(simpa [Around.under,Code.envs,Code.isFrame,pushEnvs] using e.frames),e.mod,e.bs,e.bsz,e.funs,e.frf,e.hok,e.bare,e.tb⟩
section
variable {X:Cx}{pins:List (Addr×Obj)}{σ:St}{H:Hp}{s s':d_}
def Inv.env0(I:Inv X pins σ H s):zt X.prog X.w X.K X.mg X.base X.A X.stack s H :=
 ⟨I.ok.frames,I.ok.mod,I.bs,E_ I.ok.bsz I.sz,I.stack,I.stkFree,I.hok,I.bare,I.ok.tb.un I.base⟩
def Inv.after{Q:VK}{u:Value}(I:Inv X pins σ H s)(h:CE X.stack X.prog X.w H s Q u s'):EP X pins σ Q u s':=by
 obtain⟨v,H',os,bare,un,hok,r,q⟩:=h;obtain⟨hh,g,d,t,os'⟩:=s';obtain rfl:os'=s.os:=os;exact⟨v,H',I.call (h':=hh) (g':=g) (d':=d) (t':=t) (ch:=[]) un hok bare (λb z=>absurd z (by simp)),r,q⟩
end
noncomputable def dB(sp:Sp)(dvs:List V)(E:XK)(t:TA):TE:=λσ H Q=>t σ H λvs H1=>sp (vs++dvs) H1 Q E
noncomputable def zu(C:Addr)(m:Str)(sp:Sp)(dvs:List V)(E:XK)(ta:TE)(t:TA):TE:=λσ H Q=>ta σ H λx H1=>∃a dx fs,x=.ref a/\H1 a=some (.ins C dx fs)/\fs.lookup m=none /\
 t σ H1 λvs H2=>sp (x::(vs++dvs)) H2 Q E
noncomputable def xt(C:Addr)(sp:Sp)(dvs:List V)(E:XK)(t:TA):TE:=λσ H Q=>t σ H λvs H1=>∀x dx,H1 x=none->H1 dx=none->dx≠x ->
 sp (.ref x::(vs++dvs)) (upd (upd H1 dx (.own x)) x (.ins C dx [])) (λv H2=>v=.non/\Q (.ref x) H2) E
noncomputable def iK(K:b_)(fd:HH)(ps:List Str)(ds:List Value):Prop :=
 ∀(s:d_) (us:List Value),K.In s.heap->(us++ds).length=ps.length->KQ s fd ⟨us,[]⟩ (ps.zip (us++ds))
def iK.all{K:b_}{fd:HH}{ps:List Str}(h:∀us:List Value,us.length=ps.length->bindArgs fd ⟨us,[]⟩=pure (ps.zip us)):iK K fd ps []:=λs us _ hl=>by
 rw [HE] at hl ⊢;exact .of_eq (h us hl)
noncomputable def mH(CX:CXT)(X:Cx)(E:XK):Prop:=∀(pins:List (Addr×Obj)) (σ:St) (H:Hp) (s:d_) (e:Value) (s':d_),Inv X pins σ H s->CX X.stack H s E e s'->X.xe e s'
section
variable {X:Cx}{CX:CXT}{k:Nat}{f C:Addr}{fd:HH}{ps:List Str}{sp:Sp}{dvs:List V}{ds:List Value}{E:XK}{x m:Str}{p pos apos:Pos}{e o:Expr}{es:List Expr}{ta:TE}{t:TA}
def yC{pins:List (Addr×Obj)}{σ:St}{H:Hp}{s:d_}{Q:VK}{us:List Value}{vs:List V}(F:lL X.prog X.w X.K X.mg X.base CX k f fd ps sp)(hr:dR k X.A)(hb:iK X.K fd ps ds)(hd:bB dvs ds)(hx:mH CX X E)
  (I:Inv X pins σ H s) (r:bB vs us) (h:sp (vs++dvs) H Q E):wpAny (model X.prog X.w) X.A (call (.ref f) us) (EP X pins σ Q) X.xe s:=by
 have r2:bB (vs++dvs) (us++ds):=r.append hd;have hl:(us++ds).length=ps.length:=by rw [<- r2.length];exact F.len _ _ _ _ h
 refine KR (Kg (F.run X.A X.stack s H ⟨us,[]⟩ (us++ds) (vs++dvs) Q E hr I.env0 (hb s us I.kIn hl) r2 h) λr s' hq=>?_)
 cases r with
 | error e=>exact hx pins σ H s e s' I hq
 | ok fl =>
  cases fl with
  | ret u=>exact I.after hq
  | next=>exact HD hq
  | brk=>exact HD hq
  | cont=>exact HD hq
def uM(F:lL X.prog X.w X.K X.mg X.base CX k f fd ps sp)(hr:dR k X.A)(hg:Gl X x)(hm:X.mg x=some (.ref f))(hk:u_ X.K (.ref f)=true)(hb:iK X.K fd ps ds)(hd:bB dvs ds)(hx:mH CX X E)
  (ha:PA X (e::es) t) (hdb:(x == ("__debug__":Str))=false:=by decide) (he:starEach (e::es) X.env=(false,eval e X.env)::starEach es X.env:=by rfl) (hpl:(backTo pos (starEach es X.env)).any (·.1)=false:=by rfl) :
  PE X (.Call (.Name x p) (e::es) [] pos) (dB sp dvs E t):=by
 intro pins s σ H Q I h;refine Iu (io I hg hm ?_ hdb);refine Ks (h₀:=X.base) I.ok.mod.kin hk (thn (ha pos pins s σ H _ I h) λus s1 ⟨vs,H1,I1,r,q⟩=>⟨I1.kIn,?_⟩) he hpl;exact yC F hr hb hd hx I1 r q
def xu{pl:Sem Bool}(he:PE X o ta)(c:Cls X.K C)(hm:DZ X.K C m f)(F:lL X.prog X.w X.K X.mg X.base CX k f fd ps sp)(hr:dR k X.A)(hb:iK X.K fd ps ds)(hd:bB dvs ds)(hx:mH CX X E)
  (ht:eval (.Call (.Attribute o m apos) [] [] pos) X.env=(do
   let ov <- eval o X.env
   standAt apos.atName
   let (f,first) <- holding [ov] (getMethod ov m pl)
   callWith pos f first (backTo pos (starEach [] X.env)) (backToKw pos (keywordEach [] X.env))):=by rfl) :
  PE X (.Call (.Attribute o m apos) [] [] pos) (zu C m sp dvs E ta eR):=by
 intro pins s σ H Q I h;refine PySem.W.methodCall_KW (pl:=pl) (thn (he pins s σ H _ I h) λu s1 ⟨x,H1,I1,rx,a,dx,fs,ex,ea,l,q⟩=>?_) ht;subst ex;obtain rfl:u=k_ a:=rx;refine sU I1 ea c hm l ?_;exact PySem.W.callWith_K0 (first:=[.ref a]) I1.kIn hm.kp (yC (us:=[.ref a]) (vs:=[.ref a]) F hr hb hd hx I1 (.cons rfl .nil) q)
structure Mk (K:b_) (C f:Addr):Prop where
 makes:K5 K C=true
 init:f_ K (.ref C) "__init__"=some (some (.ref f))
 fn:Ke K (.ref f)=true
 kp:u_ K (.ref C)=true
def xv{pins:List (Addr×Obj)}{σ:St}{H:Hp}{s:d_}{Q:VK}{us:List Value}{vs:List V}(M:Mk X.K C f)(F:lL X.prog X.w X.K X.mg X.base CX k f fd ps sp)(hr:dR (k+1) X.A)(hb:iK X.K fd ps ds)(hd:bB dvs ds)
  (hx:mH CX X E) (I:Inv X pins σ H s) (r:bB vs us)
  (h:∀x dx,H x=none->H dx=none->dx≠x->sp (.ref x::(vs++dvs)) (upd (upd H dx (.own x)) x (.ins C dx [])) (λv H2=>v=.non/\Q (.ref x) H2) E) :
  wpAny (model X.prog X.w) X.A (call (.ref C) us) (EP X pins σ Q) X.xe s:=by
 have hq:=h (s.heap.objs.size+1) s.heap.objs.size (I.hok.fresh (le_succ _)) (I.hok.fresh (so _)) (Hi (Kf _));have I2:=Inv.made (C:=C) I;have r2:bB (V.ref (s.heap.objs.size+1)::(vs++dvs)) (k_ (s.heap.objs.size+1)::(us++ds)):=.cons rfl (r.append hd)
 have hl:(k_ (s.heap.objs.size+1)::us++ds).length=ps.length:=by
  have e:=r2.length;rw [F.len _ _ _ _ hq] at e;exact e.symm
 refine KR (xr (f:=f) I.kIn M.makes M.init (beq_iff_eq.mp M.fn) (Kg (F.run _ X.stack _ _ ⟨k_ (s.heap.objs.size+1)::us,[]⟩ (k_ (s.heap.objs.size+1)::(us++ds)) _ _ E (hr.make C us [])
  (I2.env0.make C us []) (hb _ (k_ (s.heap.objs.size+1)::us) I2.kIn hl) r2 hq) λr s' hq'=>?_))
 cases r with
 | error e=>exact hx pins σ _ _ e s' I2 hq'
 | ok fl =>
  cases fl with
  | ret u =>
   obtain⟨v,H',I3,rv,ev,q3⟩:=I2.after hq';subst ev;exact⟨rv,⟨V.ref (s.heap.objs.size+1),H',I3,rfl,q3⟩⟩
  | next=>exact HD hq'
  | brk=>exact HD hq'
  | cont=>exact HD hq'
def zv(M:Mk X.K C f)(F:lL X.prog X.w X.K X.mg X.base CX k f fd ps sp)(hr:dR (k+1) X.A)(hg:Gl X x)(hm:X.mg x=some (.ref C))(hb:iK X.K fd ps ds)(hd:bB dvs ds)(hx:mH CX X E)
  (ha:PA X (e::es) t) (hdb:(x == ("__debug__":Str))=false:=by decide) (he:starEach (e::es) X.env=(false,eval e X.env)::starEach es X.env:=by rfl) (hpl:(backTo pos (starEach es X.env)).any (·.1)=false:=by rfl) :
  PE X (.Call (.Name x p) (e::es) [] pos) (xt C sp dvs E t):=by
 intro pins s σ H Q I h;refine Iu (io I hg hm ?_ hdb);refine Ks (h₀:=X.base) I.ok.mod.kin M.kp (thn (ha pos pins s σ H _ I h) λus s1 ⟨vs,H1,I1,r,q⟩=>⟨I1.kIn,?_⟩) he hpl;exact xv M F hr hb hd hx I1 r q
end
structure aD (N P:List Str) (sc:Scope):Prop where
 kind:sc.kind=.function
 co:sc.isCoroutine=false
 gen:sc.isGenerator=false
 nd:N.Nodup
 pre:N.take P.length=P
 par:∀x∈P,sc.names.lookup x=some .local\/sc.names.lookup x=some .cell
 nofree:∀y∈sc.names,y.2≠.free
theorem oQ{kindOf:Str->Option HX}{x:Str}:∀{binds:List (Str×Value)}{m:Str->Option Value},(∀v,(x,v)∉binds)->bindL kindOf binds m x=m x
 | [],_,_=>rfl
 | (n,v)::r,m,h=>by
  unfold bindL;rw [oQ λw hw=>h w (p_ _ hw)]
  split
  .have:x≠n:=by rintro rfl;exact h v mem_cons_self
   simp [this]
  .rfl
theorem oS{kindOf:Str->Option HX}{x:Str}:∀{binds:List (Str×Value)}{m:Str->Option Value},(∀v,(x,v)∉binds)->bindC kindOf binds m x=m x
 | [],_,_=>rfl
 | (n,v)::r,m,h=>by
  unfold bindC;rw [oS λw hw=>h w (p_ _ hw)]
  split
  .rfl
  .have:x≠n:=by rintro rfl;exact h v mem_cons_self
   simp [this]
theorem oU{kindOf:Str->Option HX}{x:Str}{v:Value}:∀{P:List Str}{vs:List Value}{i:Nat}{m:Str->Option Value},P.Nodup->P[i]?=some x->vs[i]?=some v->kindOf x=some .local ->
  bindL kindOf (P.zip vs) m x=some v
 | [],_,_,_,_,h,_,_=>by simp at h
 | _::_,[],_,_,_,_,h,_=>by simp at h
 | p::P,w::vs,0,m,nd,h1,h2,hk=>by
  simp at h1 h2;subst h1;subst h2;show bindL kindOf ((p,w)::P.zip vs) m p=_;unfold bindL;rw [oQ λv hv=>(Jf.mp nd).1 (of_mem_zip hv).1,if_pos hk];simp
 | p::P,w::vs,i+1,m,nd,h1,h2,hk=>by
  show bindL kindOf ((p,w)::P.zip vs) m x=_;unfold bindL;exact oU (i:=i) (Jf.mp nd).2 (by simpa using h1) (by simpa using h2) hk
theorem oV{kindOf:Str->Option HX}{x:Str}{v:Value}:∀{P:List Str}{vs:List Value}{i:Nat}{m:Str->Option Value},P.Nodup->P[i]?=some x->vs[i]?=some v->kindOf x≠some .local ->
  bindC kindOf (P.zip vs) m x=some v
 | [],_,_,_,_,h,_,_=>by simp at h
 | _::_,[],_,_,_,_,h,_=>by simp at h
 | p::P,w::vs,0,m,nd,h1,h2,hk=>by
  simp at h1 h2;subst h1;subst h2;show bindC kindOf ((p,w)::P.zip vs) m p=_;unfold bindC;rw [oS λv hv=>(Jf.mp nd).1 (of_mem_zip hv).1,if_neg hk];simp
 | p::P,w::vs,i+1,m,nd,h1,h2,hk=>by
  show bindC kindOf ((p,w)::P.zip vs) m x=_;unfold bindC;exact oV (i:=i) (Jf.mp nd).2 (by simpa using h1) (by simpa using h2) hk
noncomputable def start(N:List Str)(vs:List V):St:=vs.map some++B_ (N.length - vs.length) none
noncomputable def lM(CX:CXT)(P:r_)(w:World)(K:b_)(mg:Str->Option Value)(base:Heap)(N:List Str)(qual:Str)(scope:Scope)(f:Addr)(cd:Value)(A:w_)(outer:List Env)(s:d_)(H:Hp)(E:XK):Cx where
 prog:=P
 w:=w
 K:=K
 mg:=mg
 base:=base
 A:=A.deeper (envOfC qual scope s.heap.objs.size f cd)
 N:=N
 s₀:=s
 H₀:=H
 env:=envOfC qual scope s.heap.objs.size f cd
 outer:=outer
 stack:=envOfC qual scope s.heap.objs.size f cd::outer
 ex:=[]
 calm:=true
 fn:=λ_=>true
 pn:=[]
 xe:=λe s'=>wpAny (model P w) (A.deeper (envOfC qual scope s.heap.objs.size f cd)) (leaving (envOfC qual scope s.heap.objs.size f cd) e) (λ_ s''=>CX outer H s E e s'') (λe' s''=>CX outer H s E e' s'') s'
def rT{sc:Scope}{n:Nat}{x:Str}(h:sc.names.lookup x=some .cell):∃c,(cellsFrom n sc.names []).lookup x=some c:=by
 have q:=IT sc.names n [] (.inl h);exact II.mp q
def uN{CX:CXT}{P:r_}{w:World}{K:b_}{mg:Str->Option Value}{base:Heap}{N ps:List Str}{qual:Str}{scope:Scope}{f:Addr}{cd:Value}{A:w_}{outer:List Env}{s s1:d_}{H:Hp}{E:XK}{us:List Value}{vs:List V}
  (S:aD N ps scope) (hd:A.handled=none) (e0:zt P w K mg base A outer s H) (hl:vs.length=ps.length) (r:bB vs us)
  (x:InCallC s s.heap.objs.size (bindL (envOfC qual scope s.heap.objs.size f cd).kindOf (ps.zip us) λ_=>none) (cellsFrom (s.heap.objs.size+1) scope.names []) (bindC (envOfC qual scope s.heap.objs.size f cd).kindOf (ps.zip us) λ_=>none) s1) :
  Inv (lM CX P w K mg base N qual scope f cd A outer s H E) [] (start N vs) H s1:=by
 have hpl:ps.length<=N.length:=by have:=congrArg List.length S.pre;rw [length_take] at this;omega
 obtain⟨h1,tk,rfl,hk⟩:=x.done;have noA:∀b:Addr,b∉(lM CX P w K mg base N qual scope f cd A outer s H E).ex:=λb z=>absurd (show b∈([]:List Addr) from z) (by simp)
 refine⟨⟨e0.mod,S.kind,rfl,rfl,so _,λy z c h1 h2=>?_,λy hy=>?_,λy c _ h=>?_,λ_=>hd,Around.frames_deeper e0.frames,.inr ⟨rfl,rfl⟩,λb z=>absurd z (noA b),e0.bs,e0.bsz,λb _ _=>noA b,λb z=>absurd z (noA b),e0.funs,e0.frf,e0.tb⟩,
  rfl,e0.bare,Un.kept hk,⟨_,x.toInCall.ns,λi y v h1 h2 h3=>?_⟩,λy c h=>⟨_,x.cell y c h⟩,e0.hok.fresh (so _),λy c h=>?_,λp hp=>absurd (show p∈([]:List (Addr×Obj)) from hp) (by simp),e0.hok.kept hk,?_⟩
 .exact name_of_addr x.apart (IP h1) (IP h2)
 .have hy:scope.names.lookup y=some .cell\/scope.names.lookup y=some .free:=hy
  rcases hy with hy|hy
  .exact rT hy
  .exact absurd rfl (S.nofree _ (IP hy))
 .exact le_of_lt (x.above y c (IP h))
 .have hi:i<vs.length:=by
   unfold start at h2
   by_cases hi:i<vs.length
   .exact hi
   .rw [getElem?_append_right (by simpa using hi)] at h2;rw [getElem?_replicate] at h2;split at h2 <;> cases h2
  have ha:vs[i]?=some v:=by
   unfold start at h2;rw [J0 (by simpa using hi),q_] at h2
   cases e:vs[i]? with
   | none=>rw [e] at h2;cases h2
   | some a=>rw [e] at h2;cases h2;rfl
  obtain⟨u,hu,rv⟩:=r.get ha
  have hp:ps[i]?=some y:=by
   rw [<- S.pre,getElem?_take_of_lt (by omega)];exact h1
  have ndP:ps.Nodup:=by rw [<- S.pre];exact S.nd.sublist (take_sublist _ _)
  refine⟨u,rv,?_⟩
  rcases S.par y (F_ hp) with k|k
  .exact .inl ⟨k,oU ndP hp hu k⟩
  .obtain⟨c,e⟩:=rT (n:=s.heap.objs.size+1) k;refine .inr ⟨.inl k,c,e,?_⟩;have q:=x.cell y c e;rw [oV ndP hp hu (by show scope.names.lookup y≠_;rw [k];decide)] at q;exact q
 .exact e0.hok.fresh (le_of_lt (x.above y c (IP h)))
 .unfold start;show _=N.length;rw [length_append,length_map,length_replicate];omega
def zw{CX:CXT}{P:r_}{w:World}{K:b_}{mg:Str->Option Value}{base:Heap}{k:Nat}{f:Addr}{name qual:Str}{params:Arguments}{body:List Stmt}{scope:Scope}{dV kV doc pm cdv ct oc:Value}{an od:Option Addr}
  {osl:Array (Option Value)}{N ps:List Str}{sp:Sp} (lk:K.lookup f=some ⟨oc,od,.func (Hb name qual params body scope dV kV doc pm an cdv ct),osl⟩) (hcd:HF K cdv qual=true) (S:aD N ps scope)
  (len:∀vs H Q E,sp vs H Q E->vs.length=ps.length)
  (hbody:∀(A:w_) (outer:List Env) (s:d_) (H:Hp) (vs:List V) (Q:VK) (E:XK),dR k (A.deeper (envOfC qual scope s.heap.objs.size f cdv))->sp vs H Q E ->
   ∃t,PSs (lM CX P w K mg base N qual scope f cdv A outer s H E) body t/\t { nx:=λ_ H'=>Q .non H',rt:=Q } (start N vs) H) :
  lL P w K mg base CX (k+1) f (Hb name qual params body scope dV kV doc pm an cdv ct) ps sp:=by
 refine⟨len,λA outer s H args us vs Q E hr e0 hb r hsp=>?_⟩;have hl:=len _ _ _ _ hsp;have KX:K.In s.heap:=e0.mod.kin.keeps λb o e=>(e0.bs b o e).1;have lim:s.heap.NoLimit:=e0.mod.nolimit.keeps λb o e=>(e0.bs b o e).1
 have hkind:∀y∈ps.zip us,scope.names.lookup y.1=some .local\/(scope.names.lookup y.1=some .cell/\((cellsFrom (s.heap.objs.size+1) scope.names []).lookup y.1).isSome=true):=λ⟨n,v⟩ hy=>by
  rcases S.par n (of_mem_zip hy).1 with q|q
  .exact .inl q
  .exact .inr ⟨q,IT _ _ _ (.inl q)⟩
 refine codeAny_call_function hr.depth (KX _ _ lk) rfl S.co S.gen rfl (PySem.W.codeRec_of KX hcd) (hb _ _ _ _ ?_);refine wpAny_newFunctionEnv_cells S.kind hkind λenv he s1 x=>?_;subst he;refine⟨lim.keeps x.toInCall.keep,codeAny_func ?_⟩;obtain⟨t,ht,hq⟩:=hbody A outer s H vs Q E (hr.deeper _) hsp;have I:Inv (lM CX P w K mg base N qual scope f cdv A outer s H E) [] (start N vs) H s1:=uN S hr.hd e0 hl r x
 refine Hg (ht [] s1 (start N vs) H _ I hq) (λfl s' hs=>?_) λe s' hs=>hs
 have fin:∀{σ':St}{H':Hp}{v:V}{u:Value},Inv (lM CX P w K mg base N qual scope f cdv A outer s H E) [] σ' H' s'->c4 v u->Q v H'->CE outer P w H s Q u s' :=
  λ{σ' H' v u} J rv q=>⟨v,H',J.os,J.bare,J.base,J.hok,rv,q⟩
 cases fl with
 | ret u =>
  obtain⟨v,σ',H',J,rv,q⟩:=hs;exact fin J rv q
 | next =>
  obtain⟨σ',H',J,q⟩:=hs;exact fin (v:=V.non) (u:=HC) J rfl q
 | brk =>
  obtain⟨_,_,_,q⟩:=hs;exact HD q
 | cont =>
  obtain⟨_,_,_,q⟩:=hs;exact HD q
section
variable {X:Cx}{x:Str}{p pos:Pos}{e:Expr}{es:List Expr}{t:TA}{id T:String}{r:List V->Hp->VK->Prop}
noncomputable def tCB(r:List V->Hp->VK->Prop)(t:TA):TE:=λσ H Q=>t σ H λvs H1=>r vs H1 Q
def xw(hc:bj X (.builtin id) r)(hg:Gl X x)(hm:X.mg x=none)(hv:bootBuiltins x=some (.builtin id))(ha:PA X (e::es) t)(hn:x≠"__name__":=by decide)(hdb:(x == ("__debug__":Str))=false:=by decide)
  (he:starEach (e::es) X.env=(false,eval e X.env)::starEach es X.env:=by rfl) (hpl:(backTo pos (starEach es X.env)).any (·.1)=false:=by rfl):PE X (.Call (.Name x p) (e::es) [] pos) (tCB r t):=by
 intro pins s σ H Q I h;refine Iu (iI I hg hm hv ?_ hn hdb);exact PyProof.Rows.callWith_builtin1 (thn (ha pos pins s σ H _ I h) λus s1 ⟨vs,H1,I1,r1,q1⟩=>hc pins s1 σ H1 vs us Q I1 r1 q1) he hpl
def uO(hc:bj X (.type T) r)(hg:Gl X x)(hm:X.mg x=none)(hv:bootBuiltins x=some (.type T))(ha:PA X (e::es) t)(hn:x≠"__name__":=by decide)(hdb:(x == ("__debug__":Str))=false:=by decide)
  (he:starEach (e::es) X.env=(false,eval e X.env)::starEach es X.env:=by rfl) (hpl:(backTo pos (starEach es X.env)).any (·.1)=false:=by rfl):PE X (.Call (.Name x p) (e::es) [] pos) (tCB r t):=by
 intro pins s σ H Q I h;refine Iu (iI I hg hm hv ?_ hn hdb);exact Hv (thn (ha pos pins s σ H _ I h) λus s1 ⟨vs,H1,I1,r1,q1⟩=>hc pins s1 σ H1 vs us Q I1 r1 q1) he hpl
end
end L2
namespace HT
open PySem PyProof.Rows
section
open PySem.SeqAt
open PySem.AutoSeq1 (wpAny_loadPart')
open PySem.MeetsSeq PySem.MeetsSeq2 PySem.MeetsSeq3
end
section
variable {prog:r_}{w:World}{A:w_}{E:Value->d_->Prop}{s:d_}
def cat_tup{t b:Addr}{vs ws:List Value}{Q:Value->d_->Prop}(ht:IsTup s.heap t vs.toArray)(hb:IsTup s.heap b ws.toArray)(hv:vs≠[])
  (h1:ws=[]->Q (.ref t) s) (h2:ws≠[]->Q (.ref s.heap.objs.size) { s with heap:=s.heap.push { cls:=.type "tuple",data:=.seq (vs++ws).toArray } })
  (hsz:vs.length+ws.length<=sizeLine):wpAny (model prog w) A (binaryOp .Add (.ref t) (.ref b)) Q E s:=by
 obtain⟨⟨cls,dd,data,sl⟩,ho,hc,n,hd⟩:=id ht;obtain⟨⟨cls2,dd2,data2,sl2⟩,ho2,hc2,n2,hd2⟩:=id hb;simp only at hc hd hc2 hd2;subst hc hd hc2 hd2;have e:vs.toArray++ws.toArray=(vs++ws).toArray:=by simp
 by_cases hw:ws=[]
 .exact KS ⟨_,ho,rfl⟩ ⟨_,ho2,rfl⟩ KL seq_tuple_add JE Jx (Jn _ _)
   (tuple_addW1 t b vs.toArray ws.toArray n n2 dd dd2 sl sl2 (by simpa using hv) (by simp [hw])) ⟨ho,ho2,h1 hw⟩
 .refine KS ⟨_,ho,rfl⟩ ⟨_,ho2,rfl⟩ KL seq_tuple_add JE Jx (Jn _ _)
   (tuple_addW2 t b vs.toArray ws.toArray n n2 dd dd2 sl sl2 (by simpa using hv) (by simpa using hw) (by rw [x_,x_];exact hsz)) ⟨ho,ho2,?_⟩
  rw [e];exact h2 hw
noncomputable def sIx(n d:Nat):Option Int->Nat
 | none=>d
 | some v=>if v<0 then (v+(n:Int)).toNat else min v.toNat n
def sIx_nat(n d k:Nat):sIx n d (some (k:Int))=min k n:=by
 show (if (k:Int)<0 then ((k:Int)+(n:Int)).toNat else min (k:Int).toNat n)=min k n;rw [if_neg (by omega),toNat_natCast]
def sIx_le(n d:Nat)(hd:d<=n)(o:Option Int):sIx n d o<=n:=by
 cases o with
 | none=>exact hd
 | some v =>
  show (if v<0 then (v+(n:Int)).toNat else min v.toNat n)<=n
  by_cases hv:v<0
  .rw [if_pos hv];omega
  .rw [if_neg hv];exact min_le_right _ _
def clip_eq(v:Int)(n d:Nat):(if v<0 then max (v+(n:Int)) 0 else min v (n:Int))=((sIx n d (some v):Nat):Int):=by
 show (if v<0 then max (v+(n:Int)) 0 else min v (n:Int))=(((if v<0 then (v+(n:Int)).toNat else min v.toNat n):Nat):Int)
 by_cases hv:v<0
 .simp only [if_pos hv];omega
 .simp only [if_neg hv];omega
def sY(lo hi:Option Int)(n:Nat):Jk lo hi 1 (n:Int)=(((sIx n 0 lo:Nat):Int),((sIx n n hi:Nat):Int)):=by
 have h1:¬ ((1:Int)<0):=by omega
 unfold Jk;simp only [h1,if_false]
 refine Prod.ext ?_ ?_
 .cases lo with
  | none=>rfl
  | some v=>exact clip_eq v n 0
 .cases hi with
  | none=>rfl
  | some v=>exact clip_eq v n n
def sZ(i j:Nat):IC (i:Int) (j:Int) 1=j - i:=by
 unfold IC;have h1:(1:Int) > 0:=by omega
 simp only [h1,if_true,ediv_one];split <;> omega
def mI{v:Value}{o:Option Int}{Q:Option Int->d_->Prop}(p:KU v o)(h:Q o s):wpAny (model prog w) A (Builtin.Slice.slicePartIndex v) Q E s:=by
 cases p with
 | none=>exact slicePart_none h
 | int i t=>exact slicePart_int h
def fQ{sl:Addr}{vl vu:Value}{lo hi:Option Int}{n:Nat}{Q:Int×Int×Nat->d_->Prop}(hs:s.heap.IsSliceOf sl vl vu .none)(pl:KU vl lo)(pu:KU vu hi)
  (h:Q (((sIx n 0 lo:Nat):Int),1,sIx n n hi - sIx n 0 lo) s):wpAny (model prog w) A (Kt (.ref sl) (pure (n:Int))) Q E s:=by
 obtain⟨os,hos,hcs,hds⟩:=id hs;unfold Kt Builtin.Slice.sliceFields;refine cy (cy (D_ hos hds (x:=vl) rfl (cy (D_ hos hds (x:=vu) rfl (cy (D_ hos hds (x:=.none) rfl (e_ ?_)))))));refine cy (slicePart_none ?_);show wpAny _ _ (if ((1:Int) == 0)=true then _ else _) _ _ s;rw [if_neg (by decide)];refine cy (mI pl (cy (mI pu (cy (e_ ?_)))))
 show wpAny _ _ (match Jk lo hi 1 (n:Int) with|(lo,hi)=>pure (lo,(1:Int),IC lo hi 1)) _ _ s;rw [sY lo hi n];show wpAny _ _ (pure (((sIx n 0 lo:Nat):Int),(1:Int),IC ((sIx n 0 lo:Nat):Int) ((sIx n n hi:Nat):Int) 1)) _ _ s;rw [sZ];exact e_ h
def xx(xs:Array Value)(i k:Nat):((i_ k).filterMap λ(m:Nat)=>xs[((i:Int)+(m:Int)*1).toNat]?).toArray=((xs.toList.drop i).take k).toArray:=by
 have e:(λ(m:Nat)=>xs[((i:Int)+(m:Int)*1).toNat]?)=λm=>xs[i+m]?:=by
  funext m;have:((i:Int)+(m:Int)*1).toNat=i+m:=by omega
  rw [this]
 rw [e];have:=pick_run xs i k;rw [Jo] at this;have e2:((λx=>xs[x]?) ∘ λx=>i+x)=λm=>xs[i+m]?:=rfl;rw [e2] at this;rw [this]
def getItem_tuple_cut{t sl:Addr}{items:Array Value}{vl vu:Value}{lo hi:Option Int}{Q:Value->d_->Prop}(ht:IsTup s.heap t items)(hs:s.heap.IsSliceOf sl vl vu .none)(pl:KU vl lo)(pu:KU vu hi)
  (hw:¬ (sIx items.size 0 lo=0/\sIx items.size items.size hi=items.size))
  (h:Q (.ref s.heap.objs.size) { s with heap:=s.heap.push { cls:=.type "tuple",data:=.seq ((items.toList.drop (sIx items.size 0 lo)).take (sIx items.size items.size hi - sIx items.size 0 lo)).toArray } })
  (hsz:items.size<=sizeLine):wpAny (model prog w) A (getItem (.ref t) (.ref sl)) Q E s:=by
 have htake:sizeOk (.seq ((items.toList.drop (sIx items.size 0 lo)).take (sIx items.size items.size hi - sIx items.size 0 lo)).toArray):=by
  show ((items.toList.drop (sIx items.size 0 lo)).take (sIx items.size items.size hi - sIx items.size 0 lo)).toArray.size<=sizeLine;rw [x_,length_take,length_drop,HI];omega
 have hj:sIx items.size items.size hi<=items.size:=sIx_le _ _ (so _) hi;obtain⟨os,hos,hcs,hds⟩:=id hs;have hTs:s.TypeIs (.ref sl) "slice":=⟨os,hos,hcs⟩
 unfold getItem
 try with_reducible refine HB ?_
 first|refine cy (e_ ?_)|skip
 refine cy (wpAny_sequenceKey ht.typeIs (by decide) ?_)
 refine cy (Ho (name:=IF "__getitem__") ht.typeIs Hw
  (HV Hw ht.typeIs entry_tuple_getitem ?_ (args_tuple_getitem _ _)))
 show wpAny _ _ (Ku (.ref t) >>= _) _ _ s;refine cy (tupleItemsOf_ ht ?_);refine cy (wpAny_typeOf hTs ?_);rw [if_pos (by decide)];refine cy (fQ hs pl pu ?_)
 have hno:¬ ((((sIx items.size 0 lo:Nat):Int) == 0 && (1:Int) == 1 && (sIx items.size items.size hi - sIx items.size 0 lo) == items.size)=true):=by
  intro q;rw [and_eq_true,and_eq_true] at q;have q1:((sIx items.size 0 lo:Nat):Int)=0:=eq_of_beq q.1.1;have q2:sIx items.size items.size hi - sIx items.size 0 lo=items.size:=eq_of_beq q.2;exact hw ⟨by omega,by omega⟩
 show wpAny _ _ (if (((sIx items.size 0 lo:Nat):Int) == 0 && (1:Int) == 1 && (sIx items.size items.size hi - sIx items.size 0 lo) == items.size)=true then _ else _) _ _ s;rw [if_neg hno,xx]
 first
  | exact cy (m:=IJ _) (HM (e_ ⟨_,rfl,e_ h⟩) htake)
  | exact cy (m:=IJ _) (HM (cy (e_ (e_ ⟨_,rfl,e_ h⟩))) htake)
  | exact cy (cy (m:=IJ _) (HM (e_ (e_ ⟨_,rfl,e_ h⟩)) htake))
  | exact cy (cy (m:=IJ _) (HM (e_ ⟨_,rfl,e_ h⟩) htake))
end
end HT
namespace L2
open PySem PySem.Spec PyProof.Rows
abbrev TO:=St->Hp->(Option Int->Hp->Prop)->Prop
noncomputable def PO(X:Cx)(e:Option Expr)(t:TO):Prop :=
 ∀(pins:List (Addr×Obj)) (s:d_) (σ:St) (H:Hp) (Q:Option Int->Hp->Prop),Inv X pins σ H s->t σ H Q ->
  wpAny (model X.prog X.w) X.A (evalPart e X.env) (λu s'=>∃o H',Inv X pins σ H' s'/\KU u o/\Q o H') X.xe s
def uP:TO:=λ_ H Q=>Q none H
noncomputable def BD(t:TE):TO:=λσ H Q=>t σ H λx H1=>∃i,x=.int i/\Q (some i) H1
def je{ns:List Int}:∀{us:List Value},bB (ns.map V.int) us->IntsAre us ns:=by
 induction ns with
 | nil=>intro us r;rw [map_nil] at r;cases r;exact .nil
 | cons n ns ih =>
  intro us r;rw [map_cons] at r
  cases r with
  | cons r1 r2 =>
   obtain⟨t,e⟩:=r1;subst e;exact .cons n t (ih r2)
section
variable {X:Cx}{e:Expr}{te:TE}{lo hi:Option Expr}{tl th:TO}{pos p2:Pos}
def jf:PO X none uP:=by
 intro pins s σ H Q I h;rw [evalPart_none];exact e_ ⟨none,H,I,.none,h⟩
def fZ(h:PE X e te):PO X (some e) (BD te):=by
 intro pins s σ H Q I hw;rw [evalPart_some];refine thn (h pins s σ H _ I hw) λu s1 ⟨x,H1,I1,r1,q1⟩=>?_;obtain⟨i,rfl,q⟩:=q1;obtain⟨t,rfl⟩:=r1;exact⟨some i,H1,I1,.int i t,q⟩
noncomputable def SlR(X:Cx)(r:V->Option Int->Option Int->Hp->VK->Prop):Prop :=
 ∀(pins:List (Addr×Obj)) (s:d_) (σ:St) (H:Hp) (x:V) (v vl vu:Value) (lo hi:Option Int) (sl:Addr) (Q:VK),Inv X pins σ H s->c4 x v->s.heap.IsSliceOf sl vl vu .none->KU vl lo->KU vu hi->r x lo hi H Q ->
  ∃T id,typeLookup (.type T) "__getitem__"=pure (some (.builtin id))/\s.TypeIs v T/\wpAny (model X.prog X.w) X.A (getItem v (.ref sl)) (EP X pins σ Q) X.xe s
def SlR.or{r r':V->Option Int->Option Int->Hp->VK->Prop}(h:SlR X r)(h':SlR X r'):SlR X (λx lo hi H Q=>r x lo hi H Q\/r' x lo hi H Q):=by
 intro pins s σ H x v vl vu lo hi sl Q I rx hs pl pu q
 rcases q with q|q
 .exact h pins s σ H x v vl vu lo hi sl Q I rx hs pl pu q
 .exact h' pins s σ H x v vl vu lo hi sl Q I rx hs pl pu q
noncomputable def tSl(r:V->Option Int->Option Int->Hp->VK->Prop)(te:TE)(tl th:TO):TE:=λσ H Q=>te σ H λx H1=>tl σ H1 λl H2=>th σ H2 λu H3=>r x l u H3 Q
def fb{r:V->Option Int->Option Int->Hp->VK->Prop}(hr:SlR X r)(he:PE X e te)(hl:PO X lo tl)(hu:PO X hi th):PE X (.Subscript e (.Slice lo hi none p2) pos) (tSl r te tl th):=by
 intro pins s σ H Q I h;refine Subscript_ (thn (he pins s σ H _ I h) λv s1 ⟨x,H1,I1,r1,q1⟩=>?_);refine wpAny_Slice (thn (hl pins s1 σ H1 _ I1 q1) λvl s2 ⟨l,H2,I2,pl,q2⟩=>thn (hu pins s2 σ H2 _ I2 q2) λvu s3 ⟨u,H3,I3,pu,q3⟩=>?_);rw [evalPart_none];refine e_ ?_;have I4:Inv X pins σ H3 { s3 with heap:=s3.heap.push { cls:=.type "slice",data:=.fields #[vl,vu,.none] } }:=I3.kept (t':=s3.toks) λb ob q=>c_ _ q
 obtain⟨T,id,hT,ht,hg⟩:=hr pins { s3 with heap:=s3.heap.push { cls:=.type "slice",data:=.fields #[vl,vu,.none] } } σ H3 x v vl vu l u s3.heap.objs.size Q I4 r1 (Heap.IsSliceOf.new ..) pl pu q3;show wpAny (model X.prog X.w) X.A (subscriptTail e (.Slice lo hi none p2) v (.ref s3.heap.objs.size)) (EP X pins σ Q) X.xe { s3 with heap:=s3.heap.push { cls:=.type "slice",data:=.fields #[vl,vu,.none] } };exact tail_any (ops:=[.ref s3.heap.objs.size,v]) ht hT hg (by with_unfolding_all rfl)
noncomputable def zx(xs:List V)(lo hi:Option Int):List V:=(xs.drop (HT.sIx xs.length 0 lo)).take (HT.sIx xs.length xs.length hi - HT.sIx xs.length 0 lo)
def kq(xs:List V)(lo hi:Option Int):(zx xs lo hi).length<=xs.length:=by
 unfold zx;rw [length_take,length_drop];omega
noncomputable def FY(K:b_):V->Option Int->Option Int->Hp->VK->Prop:=λx lo hi H Q=>∃a xs,x=.ref a/\SqT K H a xs /\
 ¬ (HT.sIx xs.length 0 lo=0/\HT.sIx xs.length xs.length hi=xs.length)/\∀p,H p=none->Q (.ref p) (upd H p (.tup (zx xs lo hi)))
def BE:SlR X (FY X.K):=by
 intro pins s σ H x v vl vu lo hi sl Q I rx hs pl pu h;obtain⟨a,xs,rfl,hx,hw,q⟩:=h;cases rx;obtain⟨its,r,ht,hz⟩:=I.tuple hx;have hlen:its.toArray.size=xs.length:=by rw [x_];exact r.length.symm
 refine⟨"tuple",_,Hw.lookup,ht.typeIs,?_⟩;refine HT.getItem_tuple_cut ht hs pl pu (by rw [hlen];exact hw) ?_ (by rw [hlen];exact hz);rw [hlen];refine⟨.ref s.heap.objs.size,_,I.laid (t':=s.toks) (o:=.tup (zx xs lo hi)) (λb ob q=>c_ _ q) (so _) ?_,rfl,q _ (I.hok.fresh (so _))⟩;exact⟨E_ (kq xs lo hi) hz,_,(r.drop (HT.sIx xs.length 0 lo)).take (HT.sIx xs.length xs.length hi - HT.sIx xs.length 0 lo),IsTup.new _ _⟩
noncomputable def BF(K:b_):R2:=λx y H Q=>∃a b xs ys,x=.ref a/\y=.ref b/\SqT K H a xs/\SqT K H b ys/\xs≠[]/\xs.length+ys.length<=sizeLine /\
 (ys=[]->Q (.ref a) H)/\(ys≠[]->∀p,H p=none->Q (.ref p) (upd H p (.tup (xs++ys))))
def bB.nil_iff{xs:List V}{us:List Value}(r:bB xs us):us=[] ↔ xs=[]:=by
 cases r with
 | nil=>simp
 | cons _ _=>simp
def zy:OpR X (binaryOp .Add) (BF X.K):=by
 intro pins s σ H x y v u Q I rx ry h;obtain⟨a,b,xs,ys,rfl,rfl,ha,hb,hx,hz,q1,q2⟩:=h;cases rx;cases ry;obtain⟨its,r1,p1,_⟩:=I.tuple ha;obtain⟨its2,r2,p2,_⟩:=I.tuple hb;refine HT.cat_tup p1 p2 (λz=>hx (r1.nil_iff.mp z)) (λz=>⟨.ref a,H,I,rfl,q1 (r2.nil_iff.mp z)⟩) (λz=>?_) (by rw [<- r1.length,<- r2.length];exact hz);refine⟨.ref s.heap.objs.size,_,I.laid (t':=s.toks) (o:=.tup (xs++ys)) (λb ob q=>c_ _ q) (so _) ?_,rfl,q2 (λw=>z (r2.nil_iff.mpr w)) _ (I.hok.fresh (so _))⟩
 exact⟨by rw [length_append];exact hz,_,r1.append r2,IsTup.new _ _⟩
end
noncomputable def ixN(n:Nat)(i:Int):Option Nat:=if 0<=i then (if i<n then some i.toNat else none) else if -(n:Int)<=i then some (i+n).toNat else none
noncomputable def atI{α:Type}(xs:List α)(i:Int):Option α:=(ixN xs.length i).bind λj=>xs[j]?
def qv{n:Nat}{i:Int}{j:Nat}(h:ixN n i=some j):seqIndex? i n=some j/\j<n/\-(n:Int)<=i/\i<n:=by
 unfold ixN at h
 by_cases h0:0<=i
 .rw [if_pos h0] at h
  by_cases h1:i<n
  .rw [if_pos h1] at h;have e:i.toNat=j:=we h;exact⟨by rw [seqIndex_of h0 h1,e],by omega,by omega,h1⟩
  .rw [if_neg h1] at h;cases h
 .rw [if_neg h0] at h
  by_cases h1:-(n:Int)<=i
  .rw [if_pos h1] at h;have e:(i+n).toNat=j:=we h;exact⟨by rw [seqIndex_neg (by omega) h1,e],by omega,h1,by omega⟩
  .rw [if_neg h1] at h;cases h
def qw{α:Type}{xs:List α}{i:Int}{v:α}(h:atI xs i=some v):∃j,seqIndex? i xs.length=some j/\xs[j]?=some v/\j<xs.length/\-(xs.length:Int)<=i/\i<xs.length:=by
 unfold atI at h
 cases e:ixN xs.length i with
 | none=>rw [e] at h;cases h
 | some j =>
  rw [e] at h;obtain⟨h1,h2,h3,h4⟩:=qv e;exact⟨j,h1,h,h2,h3,h4⟩
def zA{α:Type}{xs:List α}{j:Nat}{v:α}(h:xs[j]?=some v):atI xs (j:Int)=some v:=by
 have hj:j<xs.length:=(j_.mp h).1
 have e:ixN xs.length (j:Int)=some j:=by
  unfold ixN;rw [if_pos (by omega),if_pos (by omega)];simp
 unfold atI;rw [e];exact h
noncomputable def zB(b:Expr):Prop:=∀o i,subscripted b false o i=operate [o,i] (getItem o i)
noncomputable def IxR(X:Cx)(r:R2):Prop :=
 ∀(value slice:Expr) (pins:List (Addr×Obj)) (s:d_) (σ:St) (H:Hp) (x y:V) (v u:Value) (Q:VK),Inv X pins σ H s->c4 x v->c4 y u->r x y H Q ->
  subscripted slice false v u=operate [v,u] (getItem v u)->wpAny (model X.prog X.w) X.A (subscriptTail value slice v u) (EP X pins σ Q) X.xe s
noncomputable def MtR(X:Cx)(id:String)(r:V->List V->Hp->VK->Prop):Prop :=
 ∀(pins:List (Addr×Obj)) (s:d_) (σ:St) (H:Hp) (x:V) (xs:List V) (v:Value) (us:List Value) (Q:VK),Inv X pins σ H s->c4 x v->bB xs us->r x xs H Q ->
  wpAny (model X.prog X.w) X.A (call (.builtin id) (v::us)) (EP X pins σ Q) X.xe s
section
variable {X:Cx}{a b:Expr}{ta tb:TE}{pos:Pos}
def IxR.or{r r':R2}(h:IxR X r)(h':IxR X r'):IxR X (λx y H Q=>r x y H Q\/r' x y H Q):=by
 intro value slice pins s σ H x y v u Q I rx ry q hs
 rcases q with q|q
 .exact h value slice pins s σ H x y v u Q I rx ry q hs
 .exact h' value slice pins s σ H x y v u Q I rx ry q hs
def bE{r:R2}(hr:IxR X r)(ha:PE X a ta)(hb:PE X b tb)(hs:zB b):PE X (.Subscript a b pos) (tOp r ta tb):=by
 intro pins s σ H Q I h;exact Subscript_ (Ei ha hb I h λv u s2 x y H2 I2 rx ry q=>hr a b pins s2 σ H2 x y v u Q I2 rx ry q (hs _ _))
noncomputable def FZ(K:b_):R2:=λx y H Q=>∃p xs i v,x=.ref p/\y=.int i/\SqL K H p xs/\atI xs i=some v/\Q v H
noncomputable def F4(K:b_):R2:=λx y H Q=>∃p xs i v,x=.ref p/\y=.int i/\SqT K H p xs/\atI xs i=some v/\Q v H
noncomputable def GH:R2:=λx y H Q=>∃z i c,x=.str z/\y=.int i/\z.length<=sizeLine/\atI z.cps.toList i=some c/\Q (.str ⟨#[c]⟩) H
def zC:IxR X (FZ X.K):=by
 intro value slice pins s σ H x y v u Q I rx ry h hs;obtain⟨p,xs,i,z,rfl,rfl,hq,he,q⟩:=h;cases rx;obtain⟨t,rfl⟩:=ry;obtain⟨its,r,pl,hz⟩:=I.list hq;obtain⟨j,h1,h2,h3,h4,h5⟩:=qw he;obtain⟨w,ew,rw'⟩:=r.get h2;have hl:=r.length;have hn:=mE;have fin:EP X pins σ Q w s:=⟨z,H,I,rw',q⟩
 by_cases h0:0<=i
 .have hj:i.toNat=j:=by
   rw [seqIndex_of h0 h5] at h1;exact we h1
  exact item_listR pl.isList h0 (by omega) (by rw [hj];simpa using ew) fin hs
 .have hj:(i+(its.toArray.size:Int)).toNat=j:=by
   rw [seqIndex_neg (by omega) h4] at h1;rw [x_,<- hl];exact we h1
  exact subscriptTail_builtinR (x:=w) pl.isList.typeIs KD.lookup
   (wpAny_getItem_list_neg (Q:=λr s'=>r=w/\EP X pins σ Q r s') pl.isList (by omega) (by rw [x_] <;> omega) (by omega) (by rw [hj];simpa using ew) ⟨rfl,fin⟩) hs
def BG:IxR X (F4 X.K):=by
 intro value slice pins s σ H x y v u Q I rx ry h hs;obtain⟨p,xs,i,z,rfl,rfl,hq,he,q⟩:=h;cases rx;obtain⟨t,rfl⟩:=ry;obtain⟨its,r,pl,hz⟩:=I.tuple hq;obtain⟨j,h1,h2,h3,h4,h5⟩:=qw he;obtain⟨w,ew,rw'⟩:=r.get h2;have hl:=r.length;have hn:=mE;have fin:EP X pins σ Q w s:=⟨z,H,I,rw',q⟩
 exact subscriptTail_builtinR (x:=w) pl.typeIs slot_tuple_getitem.lookup
  (getItem_tuple (j:=j) (Q:=λr s'=>r=w/\EP X pins σ Q r s') pl (by omega) (by omega) (by rw [x_,<- hl];exact h1) (by simpa using ew) ⟨rfl,fin⟩) hs
def BH:IxR X GH:=by
 intro value slice pins s σ H x y v u Q I rx ry h hs;obtain⟨z,i,c,rfl,rfl,hz,he,q⟩:=h;obtain⟨t,rfl⟩:=rx;obtain⟨t',rfl⟩:=ry;obtain⟨j,h1,h2,h3,h4,h5⟩:=qw he;have hl:z.cps.toList.length=z.length:=by simp [Str.length]
 rw [hl] at h1 h4 h5;have hn:=mE
 exact tail_any (typeIs_str s z t) slot_str_getitem.lookup (getItem_str (c:=c) (by
  have e1:decide (i < -(2^63:Int))=false:=decide_eq_false (by omega);have e2:decide (i >= 2^63)=false:=decide_eq_false (by omega);rw [e1,e2,Lo]) (by rw [h1];simpa using h2) ⟨.str ⟨#[c]⟩,H,I.tok _,⟨_,rfl⟩,q⟩) hs
def tq(its:List Value)(n j:Nat)(u:Value):Kv (·.setIfInBounds j u) { cls:=.type "list",data:=.seq its.toArray n }={ cls:=.type "list",data:=.seq (its.set j u).toArray n }:=by
 simp [Kv]
def Inv.lst{pins:List (Addr×Obj)}{σ:St}{H:Hp}{s:d_}{p:Addr}{xs:List V}(I:Inv X pins σ H s)(h:H p=some (.lst xs)) :
  ∃(its:List Value) (n:Nat),bB xs its/\s.heap.get? p=some { cls:=.type "list",data:=.seq its.toArray n }/\xs.length<=sizeLine:=by
 obtain⟨z,its,n,r,e⟩:=I.hok p _ h;exact⟨its,n,r,e,z⟩
def Inv.lstUpd{pins:List (Addr×Obj)}{σ:St}{H:Hp}{s:d_}{p:Addr}{xs ys:List V}{its its':List Value}{n n':Nat}{f:Obj->Obj}(I:Inv X pins σ H s)(h:H p=some (.lst xs))
  (ho:s.heap.get? p=some { cls:=.type "list",data:=.seq its.toArray n }) (hf:f { cls:=.type "list",data:=.seq its.toArray n }={ cls:=.type "list",data:=.seq its'.toArray n' }) (r:bB ys its') (hz:ys.length<=sizeLine) (t:Nat) :
  Inv X pins σ (upd H p (.lst ys)) { s with heap:=s.heap.update p f,toks:=t }:=by
 have e:(s.heap.update p f).get? p=some { cls:=.type "list",data:=.seq its'.toArray n' }:=by
  rw [H_ f ho (by rw [hf] <;> rfl),hf]
 refine I.write (x:=p) (e:=p) (by rw [h];trivial) (.inl rfl) (λb u hb q=>(Heap.get?_update_other _ _ (HR hb)).trans q) ⟨_,e⟩ ?_;exact⟨hz,its',n',r,e⟩
noncomputable def BI:V->V->V->Hp->(Hp->Prop)->Prop:=λo i v H Q=>∃p xs k j,o=.ref p/\i=.int k/\H p=some (.lst xs)/\ixN xs.length k=some j/\Q (upd H p (.lst (xs.set j v)))
def ny:FQ X BI:=by
 intro pins s σ H o i v ov iv u Q I ro ri rv h;obtain⟨p,xs,k,j,rfl,rfl,hp,hj,q⟩:=h;cases ro;obtain⟨t,rfl⟩:=ri;obtain⟨its,n,r,ho,hz⟩:=I.lst hp;obtain⟨h1,h2,h3,h4⟩:=qv hj;have hl:=r.length;have hn:=mE
 have I':Inv X pins σ (upd H p (.lst (xs.set j v))) { s with heap:=s.heap.update p (Kv (·.setIfInBounds j u)) } :=
  I.lstUpd hp ho (tq its n j u) (r.set rv j) (by rw [Hn];exact hz) s.toks
 by_cases h0:0<=k
 .have hk:k.toNat=j:=by
   rw [seqIndex_of h0 h4] at h1;exact we h1
  exact PySem.W.ki_setAt ho h0 (by omega) (by rw [x_,<- hl];exact h4) (by rw [hk];exact⟨_,I',q⟩)
 .have hk:(k+(its.toArray.size:Int)).toNat=j:=by
   rw [seqIndex_neg (by omega) h3] at h1;rw [x_,<- hl];exact we h1
  exact PySem.W.ki_setBack ho (by omega) (by rw [x_,<- hl];exact h3) (by omega) (by rw [hk];exact⟨_,I',q⟩)
def oW(lo hi:Option Int)(n:Nat):(sliceBounds lo hi none n).1=((HT.sIx n 0 lo:Nat):Int)/\(sliceBounds lo hi none n).2.1=((HT.sIx n n hi:Nat):Int)/\(sliceBounds lo hi none n).2.2=1:=by
 refine⟨?_,?_,rfl⟩
 .cases lo with
  | none=>simp [sliceBounds,HT.sIx]
  | some i =>
   simp only [sliceBounds,HT.sIx,Option.getD_none,show (1:Int) > 0 by decide,if_true]
   by_cases h:i<0
   .simp only [h,if_true] <;> omega
   .simp only [h,if_false] <;> omega
 .cases hi with
  | none=>simp [sliceBounds,HT.sIx]
  | some i =>
   simp only [sliceBounds,HT.sIx,Option.getD_none,show (1:Int) > 0 by decide,if_true]
   by_cases h:i<0
   .simp only [h,if_true] <;> omega
   .simp only [h,if_false] <;> omega
def nB(its:List Value)(lo hi:Option Int):slicePick its.toArray lo hi none=((its.drop (HT.sIx its.length 0 lo)).take (HT.sIx its.length its.length hi - HT.sIx its.length 0 lo)).toArray:=by
 obtain⟨h1,h2,h3⟩:=oW lo hi its.toArray.size;unfold slicePick;rw [h1,h2,h3];simp only [sliceRange_one,pick_run,x_] <;> rfl
noncomputable def F8(K:b_):V->Option Int->Option Int->Hp->VK->Prop:=λx lo hi H Q=>∃a xs,x=.ref a/\SqL K H a xs/\∀p,H p=none->Q (.ref p) (upd H p (.lst (zx xs lo hi)))
def zD:SlR X (F8 X.K):=by
 intro pins s σ H x v vl vu lo hi sl Q I rx hs pl pu h;obtain⟨a,xs,rfl,hx,q⟩:=h;cases rx;obtain⟨its,r,ht,hz⟩:=I.list hx;have hlen:=r.length;refine⟨"list",_,KD.lookup,ht.isList.typeIs,?_⟩;refine wpAny_getItem_list_slice ht.isList hs pl pu .none (by simp) ?_ (by rw [x_] <;> omega);rw [nB,<- hlen];refine⟨.ref s.heap.objs.size,_,I.laid (t':=s.toks) (o:=.lst (zx xs lo hi)) (λb ob q=>c_ _ q) (so _) ?_,rfl,q _ (I.hok.fresh (so _))⟩
 exact⟨E_ (kq xs lo hi) hz,_,0,(r.drop (HT.sIx xs.length 0 lo)).take (HT.sIx xs.length xs.length hi - HT.sIx xs.length 0 lo),h_ _ rfl⟩
noncomputable def lN:V->Bool
 | .non=>true
 | .bl _=>true
 | .int _=>true
 | .str _=>true
 | _=>false
noncomputable def eqV:V->V->Bool
 | .non,.non=>true
 | .bl a,.bl b=>a == b
 | .bl a,.int b=>(if a then 1 else 0) == b
 | .int a,.bl b=>a == (if b then 1 else 0)
 | .int a,.int b=>a == b
 | .str a,.str b=>a == b
 | _,_=>false
def BJ{A:w_}{s:d_}{y x:V}{u v:Value}(ry:c4 y u)(rx:c4 x v)(fy:lN y=true)(fx:lN x=true):SeqAt.EqAt A s u v (eqV y x):=by
 cases y with
 | non =>
  cases ry
  cases x with
  | non=>cases rx;exact SeqAt.EqAt.same _
  | bl b=>cases rx;exact SeqAt.EqAt.none_bool b
  | int b=>obtain⟨t,rfl⟩:=rx;exact SeqAt.EqAt.none_int b t
  | str b=>obtain⟨t,rfl⟩:=rx;exact SeqAt.EqAt.none_str b t
  | _=>exact absurd (show false=true from fx) n_
 | bl a =>
  cases ry
  cases x with
  | non=>cases rx;exact SeqAt.EqAt.bool_none a
  | bl b=>cases rx;exact SeqAt.EqAt.bool_bool a b
  | int b=>obtain⟨t,rfl⟩:=rx;exact SeqAt.EqAt.bool_int a b t
  | str b=>obtain⟨t,rfl⟩:=rx;exact SeqAt.EqAt.bool_str a b t
  | _=>exact absurd (show false=true from fx) n_
 | int a =>
  obtain⟨t',rfl⟩:=ry
  cases x with
  | non=>cases rx;exact SeqAt.EqAt.int_none a t'
  | bl b=>cases rx;exact SeqAt.EqAt.int_bool a t' b
  | int b=>obtain⟨t,rfl⟩:=rx;exact SeqAt.EqAt.int_int a t' b t
  | str b=>obtain⟨t,rfl⟩:=rx;exact SeqAt.EqAt.int_str a t' b t
  | _=>exact absurd (show false=true from fx) n_
 | str a =>
  obtain⟨t',rfl⟩:=ry
  cases x with
  | non=>cases rx;exact SeqAt.EqAt.str_none a t'
  | bl b=>cases rx;exact SeqAt.EqAt.str_bool a t' b
  | int b=>obtain⟨t,rfl⟩:=rx;exact SeqAt.EqAt.str_int a t' b t
  | str b=>obtain⟨t,rfl⟩:=rx;exact SeqAt.EqAt.str_str a t' b t
  | _=>exact absurd (show false=true from fx) n_
 | _=>exact absurd (show false=true from fy) n_
noncomputable def eqU(x:V)(u:Value):Bool:=match u with
 | .none=>eqV .non x
 | .bool b=>eqV (.bl b) x
 | .int i _=>eqV (.int i) x
 | .str z _=>eqV (.str z) x
 | _=>false
def yD{x y:V}{u:Value}(r:c4 y u)(f:lN y=true):eqU x u=eqV y x:=by
 cases y with
 | non=>cases r;rfl
 | bl b=>cases r;rfl
 | int i=>obtain⟨t,rfl⟩:=r;rfl
 | str z=>obtain⟨t,rfl⟩:=r;rfl
 | _=>exact absurd (show false=true from f) n_
theorem kr{x:V}:∀{xs:List V}{us:List Value},bB xs us->xs.all lN=true->us.any (eqU x)=xs.any λy=>eqV y x
 | _,_,.nil,_=>rfl
 | y::xs,u::us,.cons r t,f=>by
  rw [all_cons,and_eq_true] at f;rw [any_cons,any_cons,yD r f.1,kr t f.2]
theorem iL{A:w_}{s:d_}{x:V}{v:Value}(rx:c4 x v)(fx:lN x=true):∀{xs:List V}{us:List Value},bB xs us->xs.all lN=true->∀u∈us,SeqAt.EqAt A s u v (eqU x u)
 | _,_,.nil,_=>λu hu=>by cases hu
 | y::xs,u::us,.cons r t,f=>λu' hu=>by
  rw [all_cons,and_eq_true] at f
  rcases mem_cons.mp hu with rfl|hu
  .rw [yD r f.1];exact BJ r rx f.1 fx
  .exact iL rx fx t f.2 u' hu
noncomputable def inV(x:V)(xs:List V):Bool:=xs.any λy=>eqV y x
noncomputable def rIn(K:b_)(neg:Bool):R2:=λx y H Q=>∃p xs,y=.ref p/\(SqL K H p xs\/SqT K H p xs)/\lN x=true/\xs.all lN=true/\Q (.bl (if neg then !inV x xs else inV x xs)) H
def uQ:OpR X (compareOp .In) (rIn X.K false):=by
 intro pins s σ H x y v u Q I rx ry h;obtain⟨p,xs,rfl,hq,fx,fs,q⟩:=h;cases ry
 rcases hq with hq|hq
 .obtain⟨its,r,pl,hz⟩:=I.list hq;refine SeqAt.in_listAt (eqU x) pl.isList (λw hw=>iL rx fx r fs w (by simpa using hw)) ⟨.bl _,H,I,rfl,?_⟩;rw [show its.toArray.any (eqU x)=its.any (eqU x) by simp,kr r fs];exact q
 .obtain⟨its,r,pl,hz⟩:=I.tuple hq;refine SeqAt.in_tupleAt (eqU x) pl (λw hw=>iL rx fx r fs w (by simpa using hw)) ⟨.bl _,H,I,rfl,?_⟩;rw [show its.toArray.any (eqU x)=its.any (eqU x) by simp,kr r fs];exact q
def oY:OpR X (compareOp .NotIn) (rIn X.K true):=by
 intro pins s σ H x y v u Q I rx ry h;obtain⟨p,xs,rfl,hq,fx,fs,q⟩:=h;cases ry
 rcases hq with hq|hq
 .obtain⟨its,r,pl,hz⟩:=I.list hq;refine SeqAt.notIn_listAt (eqU x) pl.isList (λw hw=>iL rx fx r fs w (by simpa using hw)) ⟨.bl _,H,I,rfl,?_⟩;rw [show its.toArray.any (eqU x)=its.any (eqU x) by simp,kr r fs];exact q
 .obtain⟨its,r,pl,hz⟩:=I.tuple hq;refine SeqAt.notIn_tupleAt (eqU x) pl (λw hw=>iL rx fx r fs w (by simpa using hw)) ⟨.bl _,H,I,rfl,?_⟩;rw [show its.toArray.any (eqU x)=its.any (eqU x) by simp,kr r fs];exact q
def jP:bj X (.builtin "len") (λxs H Q=>∃p ys,xs=[.ref p]/\(SqL X.K H p ys\/SqT X.K H p ys)/\Q (.int ys.length) H):=by
 intro pins s σ H xs us Q I r h;obtain⟨p,ys,rfl,hq,q⟩:=h;obtain⟨u,rfl,rx⟩:=gK r;cases rx;have hn:=mE
 rcases hq with hq|hq
 .obtain⟨its,r',pl,hz⟩:=I.list hq;have hlen:=r'.length;exact Calls.call_len_list pl.isList (by simp only [x_] <;> omega) ⟨.int ys.length,H,I.tok _,⟨s.toks+1,by rw [x_,hlen]⟩,q⟩
 .obtain⟨its,r',pl,hz⟩:=I.tuple hq;have hlen:=r'.length;exact len_tuple pl (by simp only [x_] <;> omega) ⟨.int ys.length,H,I.tok _,⟨s.toks+1,by rw [x_,hlen]⟩,q⟩
def oZ:bj X (.builtin "len") (λxs H Q=>∃z,xs=[.str z]/\z.length<=sizeLine/\Q (.int z.length) H):=by
 intro pins s σ H xs us Q I r h;obtain⟨z,rfl,hz,q⟩:=h;obtain⟨u,rfl,t,rfl⟩:=gK r;have hn:=mE;exact len_str (by omega) ⟨.int z.length,H,I.tok _,⟨_,rfl⟩,q⟩
def bj.or{f:Value}{r r':List V->Hp->VK->Prop}(h:bj X f r)(h':bj X f r'):bj X f (λxs H Q=>r xs H Q\/r' xs H Q):=by
 intro pins s σ H xs us Q I rs q
 rcases q with q|q
 .exact h pins s σ H xs us Q I rs q
 .exact h' pins s σ H xs us Q I rs q
def o0:bj X (.type "list") (λxs H Q=>∃p ys,xs=[.ref p]/\(SqL X.K H p ys\/SqT X.K H p ys)/\∀l,H l=none->Q (.ref l) (upd H l (.lst ys))):=by
 intro pins s σ H xs us Q I r h;obtain⟨p,ys,rfl,hq,q⟩:=h;obtain⟨u,rfl,rx⟩:=gK r;cases rx
 have fin:∀(its:List Value),bB ys its->ys.length<=sizeLine->∀(h':Heap) (c':Nat),(∀b o',s.heap.get? b=some o'->h'.get? b=some o') ->
   h'.get? s.heap.objs.size=some { cls:=.type "list",dict:=none,data:=.seq its.toArray c',slots:=#[] }->EP X pins σ Q (.ref s.heap.objs.size) { s with heap:=h' }:=λits r' hz h' c' kp e =>
  ⟨.ref s.heap.objs.size,_,I.laid (t':=s.toks) kp (so _) (show bu X.prog X.w _ h' _ (.lst ys) from ⟨hz,its,c',r',e⟩),rfl,q _ (I.hok.fresh (so _))⟩
 rcases hq with hq|hq
 .obtain⟨its,r',pl,hz⟩:=I.list hq;have hlen:=r'.length;obtain⟨o,ho,hc,n,hd⟩:=pl.isList;exact call_list_seq p (.inl rfl) ho hc hd (λh' c' kp e=>fin its r' hz h' c' kp e) (by simp only [x_] <;> omega)
 .obtain⟨its,r',pl,hz⟩:=I.tuple hq;have hlen:=r'.length;obtain⟨o,ho,hc,n,hd⟩:=pl;exact call_list_seq p (.inr rfl) ho hc hd (λh' c' kp e=>fin its r' hz h' c' kp e) (by simp only [x_] <;> omega)
def nC:bj X (.type "tuple") (λxs H Q=>∃p ys,xs=[.ref p]/\((SqL X.K H p ys/\∀l,H l=none->Q (.ref l) (upd H l (.tup ys)))\/(SqT X.K H p ys/\Q (.ref p) H))):=by
 intro pins s σ H xs us Q I r h;obtain⟨p,ys,rfl,h⟩:=h;obtain⟨u,rfl,rx⟩:=gK r;cases rx
 rcases h with ⟨hq,q⟩|⟨hq,q⟩
 .obtain⟨its,r',pl,hz⟩:=I.list hq;have hlen:=r'.length;refine call_tuple_list pl.isList (λh' kp=>?_) (by simp only [x_] <;> omega);have I1:Inv X pins σ H { s with heap:=h' }:=I.kept (t':=s.toks) kp
  have I2:Inv X pins σ (upd H h'.objs.size (.tup ys)) { s with heap:=h'.push { cls:=.type "tuple",data:=.seq its.toArray } } :=
   I1.laid (t':=s.toks) (λb o e=>c_ _ e) (so _) (show bu X.prog X.w _ _ _ (.tup ys) from ⟨hz,its,r',IsTup.new _ _⟩)
  exact⟨.ref h'.objs.size,_,I2,rfl,q _ (I1.hok.fresh (so _))⟩
 .obtain⟨its,r',pl,hz⟩:=I.tuple hq;exact call_tuple_same pl ⟨.ref p,H,I,rfl,q⟩
noncomputable def tyV(K:b_)(T:String)(x:V)(H:Hp):Prop:=match x with
 | .str _=>T="str"
 | .int _=>T="int"
 | .ref p=>(T="list"/\∃xs,SqL K H p xs)\/(T="tuple"/\∃o,K.lookup p=some o/\o.cls=.type "tuple"/\o.dict=none) \/
   (T="dict"/\((∃kvs,H p=some (.dK kvs))\/∃kvs,H p=some (.dT kvs)))\/(T="set"/\∃S n,H p=some (.set S n))
 | _=>False
def BK{pins:List (Addr×Obj)}{σ:St}{H:Hp}{s:d_}{T:String}{x:V}{v:Value}(I:Inv X pins σ H s)(r:c4 x v)(ty:tyV X.K T x H) :
  s.TypeIs v T/\∀a,v=.ref a->∃ob,s.heap.get? a=some ob/\ob.dict=none:=by
 cases x with
 | str z =>
  obtain⟨t,rfl⟩:=r;cases (show T="str" from ty);exact⟨typeIs_str s z t,λ_ e=>nomatch e⟩
 | int i =>
  obtain⟨t,rfl⟩:=r;cases (show T="int" from ty);exact⟨typeIs_int s i t,λ_ e=>nomatch e⟩
 | ref p =>
  cases r
  rcases ty with ⟨rfl,xs,hq⟩|⟨rfl,o,hk,hc,hd⟩|⟨rfl,hk⟩|⟨rfl,S,n,hk⟩
  .obtain⟨its,_,pl,_⟩:=I.list hq;refine⟨pl.isList.typeIs,λa e=>?_⟩;cases e;obtain⟨o,n,e,c,hd,_⟩:=pl;exact⟨o,e,hd⟩
  .refine⟨⟨o,I.kIn p o hk,hc⟩,λa e=>?_⟩;cases e;exact⟨o,I.kIn _ o hk,hd⟩
  .have z:∃o,s.heap.get? p=some o/\o.ExactDict:=by
    rcases hk with ⟨kvs,hk⟩|⟨kvs,hk⟩
    .obtain⟨_,_,_,_,o,_,_,e,ex,_⟩:=I.hok p _ hk;exact⟨o,e,ex⟩
    .obtain⟨_,_,_,_,o,_,_,e,ex,_⟩:=I.hok p _ hk;exact⟨o,e,ex⟩
   obtain⟨o,e,ex⟩:=z;refine⟨⟨o,e,ex.1⟩,λa e2=>?_⟩;cases e2;exact⟨o,e,ex.2.1⟩
  .obtain⟨o,_,_,_,e,ex,_⟩:=I.hok p _ hk;refine⟨⟨o,e,ex.1⟩,λa e2=>?_⟩;cases e2;exact⟨o,e,ex.2.1⟩
 | _=>exact HD ty
noncomputable def tBM(K:b_)(T:String)(r:V->List V->Hp->VK->Prop)(to:TE)(t:TA):TE:=λσ H Q=>to σ H λx H1=>tyV K T x H1/\t σ H1 λxs H2=>r x xs H2 Q
variable {o e:Expr}{es:List Expr}{to:TE}{t:TA}{name:Str}{apos cpos:Pos}{T id:String}{r:V->List V->Hp->VK->Prop}
def Ev(pa:PlainAttrs T)(slot:Slot T name id)(hty:typeOf (.builtin id)=pure (.type "method_descriptor"))(hm:MtR X id r)(ho:PE X o to)(ha:PA X (e::es) t)
  (hbase:attributeBase o name X.env (eval o X.env)=eval o X.env:=by rfl)
  (hfew:((backTo cpos (starEach (e::es) X.env)).all (λx=>!x.1) && (backToKw cpos (keywordEach [] X.env)).all (λx=>x.1.isSome)
   && decide ((e::es).length+([]:List Keyword).length+(if ([]:List Keyword).isEmpty then 0 else 1)<30))=true:=by rfl)
  (hline:(apos.endLine == cpos.line)=true:=by rfl) (hs:starEach (e::es) X.env=(false,eval e X.env)::starEach es X.env:=by rfl) (hplain:(backTo cpos (starEach es X.env)).any (·.1)=false:=by rfl) :
  PE X (.Call (.Attribute o name apos) (e::es) [] cpos) (tBM X.K T r to t):=by
 intro pins s σ H Q I h;refine wpAny_Call_method_late hbase hfew hline rfl (thn (ho pins s σ H _ I h) λv s1 ⟨x,H1,I1,r1,ty,q1⟩=>?_);obtain⟨h1,h2⟩:=BK I1 r1 ty;refine⟨T,id,pa,slot,hty,h1,h2,?_⟩;have hA:=ha cpos pins s1 σ H1 _ I1 q1;rw [hs] at hA ⊢;refine Calls.callWith_builtin (by show (false || (backTo cpos (starEach es X.env)).any (·.1))=false;rw [hplain] <;> rfl) (Calls.evalArgs_plain ?_);exact thn hA λus s2 ⟨vs,H2,I2,r2,q2⟩=>hm pins s2 σ H2 x vs v us Q I2 r1 r2 q2
end
noncomputable def MtM(X:Cx)(id:String)(r:V->List V->Hp->VK->Prop):Prop :=
 ∀(pins:List (Addr×Obj)) (s:d_) (σ:St) (H:Hp) (x:V) (xs:List V) (v:Value) (us:List Value) (Q:VK),Inv X pins σ H s->c4 x v->bB xs us->r x xs H Q ->
  wpAny (model X.prog X.w) X.A (call (.builtin id) (v::us)) (EP X pins σ Q) X.xe s
theorem bB.one:∀{x:V}{us:List Value},bB [x] us->∃u,us=[u]/\c4 x u
 | _,_,.cons r .nil=>⟨_,rfl,r⟩
theorem bB.eraseIdx:∀{xs:List V}{us:List Value} (i:Nat),bB xs us->bB (xs.eraseIdx i) (us.eraseIdx i)
 | _,_,_,.nil=>.nil
 | _,_,0,.cons _ t=>t
 | _,_,i+1,.cons r t=>.cons r (bB.eraseIdx i t)
def bB.reverse{xs:List V}{us:List Value}(h:bB xs us):bB xs.reverse us.reverse:=by
 induction h with
 | nil=>exact .nil
 | cons r t ih=>rw [KW,KW];exact bB.append ih (.cons r .nil)
theorem bB.rep{xs:List V}{us:List Value}(h:bB xs us):∀k:Nat,bB (B_ k xs).flatten (B_ k us).flatten
 | 0=>.nil
 | k+1=>by
  rw [replicate_succ,replicate_succ,flatten_cons,flatten_cons];exact bB.append h (bB.rep h k)
theorem o5{α:Type}:∀(l:List α) (i:Nat),(l.eraseIdx i).length<=l.length
 | [],_=>so _
 | _::_,0=>le_succ _
 | _::r,i+1=>succ_le_succ (o5 r i)
theorem o7(its:List Value):∀(k:Nat) (acc:List Value),
  List.foldl (λx1 x2=>x1++x2) acc.toArray (B_ k its.toArray)=(acc++(B_ k its).flatten).toArray
 | 0,acc=>by simp
 | k+1,acc=>by
  have e:acc.toArray++its.toArray=(acc++its).toArray:=by simp
  have e2:(acc++its)++(B_ k its).flatten=acc++(B_ (k+1) its).flatten:=by
   rw [replicate_succ,flatten_cons,KY]
  rw [<- e2,<- o7 its k (acc++its),<- e,replicate_succ,foldl_cons]
section
variable {X:Cx}{pins:List (Addr×Obj)}{σ:St}{H:Hp}{s:d_}{l b:Addr}{xs ys zs:List V}
def Inv.lset{its its':List Value}{n:Nat}{f:Array Value->Array Value}{t':Nat}(I:Inv X pins σ H s)(hH:H l=some (.lst xs))
  (e:s.heap.get? l=some { cls:=.type "list",data:=.seq its.toArray n }) (hf:f its.toArray=its'.toArray) (hv:bB ys its') (hz:ys.length<=sizeLine) :
  Inv X pins σ (upd H l (.lst ys)) { s with heap:=s.heap.update l (Kv f),toks:=t' }:=by
 have q:=PySem.IsL.update e f;rw [hf] at q;refine I.write (x:=l) (e:=l) (by rw [hH];exact trivial) (.inl rfl) (λb' u hb hu=>(Heap.get?_update_other s.heap (Kv f) (HR hb)).trans hu) ⟨_,q⟩ ?_;exact⟨hz,its',_,hv,q⟩
def Inv.lnew{its:List Value}{t':Nat}(I:Inv X pins σ H s)(hv:bB ys its)(hz:ys.length<=sizeLine) :
  Inv X pins σ (upd H s.heap.objs.size (.lst ys)) { s with heap:=s.heap.push { cls:=.type "list",data:=.seq its.toArray },toks:=t' } :=
 I.laid (λ_ _ q=>c_ _ q) (so _) ⟨hz,its,0,hv,h_ _ rfl⟩
def Inv.fresh(I:Inv X pins σ H s):H s.heap.objs.size=none:=I.hok.fresh (so _)
def Inv.lstM(I:Inv X pins σ H s)(hH:H l=some (.lst xs)):xs.length<=sizeLine/\∃(its:List Value) (n:Nat),bB xs its/\xs.length=its.length/\s.heap.get? l=some { cls:=.type "list",data:=.seq its.toArray n }:=by
 obtain⟨z,its,n,r,e⟩:=I.hok l _ hH;exact⟨z,its,n,r,r.length,e⟩
def xy{n:Nat}(h:n<=sizeLine):Jp n=false:=by
 unfold Jp;exact decide_eq_false (by omega)
end
section
variable {X:Cx}
noncomputable def uR:V->List V->Hp->VK->Prop:=λx vs H Q=>∃l xs y,x=.ref l/\vs=[y]/\H l=some (.lst xs)/\xs.length<sizeLine/\Q .non (upd H l (.lst (xs++[y])))
def bU:MtM X "list.append" uR:=by
 intro pins s σ H x vs v us Q I rx rv h;obtain⟨l,xs,y,rfl,rfl,hH,hz,q⟩:=h;cases rx;obtain⟨u,rfl,ru⟩:=rv.one;obtain⟨z,its,n,r,hl,e⟩:=I.lstM hH;refine Kw F.slot_list_append ⟨_,e,rfl⟩ F.entry_list_append (F.args_list_append_2 _ _) (PySem.list_append l its.toArray n u (by rw [x_];omega)) ⟨e,?_⟩;refine⟨.non,_,I.lset (its':=its++[u]) hH e (by simp) (r.append (.cons ru .nil)) ?_,rfl,q⟩;rw [length_append,length_singleton]
 omega
noncomputable def yE:V->List V->Hp->VK->Prop:=λx vs H Q=>∃l xs i k y,x=.ref l/\vs=[.int i]/\H l=some (.lst xs)/\-(2^63)<=i/\i<2^63/\seqIndex? i xs.length=some k/\xs[k]?=some y/\Q y (upd H l (.lst (xs.eraseIdx k)))
def xz:MtM X "list.pop" yE:=by
 intro pins s σ H x vs v us Q I rx rv h;obtain⟨l,xs,i,k,y,rfl,rfl,hH,h1,h2,hk,hy,q⟩:=h;cases rx;obtain⟨u,rfl,ru⟩:=rv.one;obtain⟨t,rfl⟩:=ru;obtain⟨z,its,n,r,hl,e⟩:=I.lstM hH;obtain⟨w,hw,rw'⟩:=r.get hy
 refine Kw F.slot_list_pop ⟨_,e,rfl⟩ F.entry_list_pop (F.args_list_pop_2 _ _)
  (MeetsSeq.list_pop_at l its.toArray n i t k w (fitsIndex_both h1 h2) (by rw [x_,<- hl];exact hk) (by rw [<- Array.getElem?_toList];exact hw) (by rw [x_];omega)) ⟨e,?_⟩
 refine⟨y,_,I.lset (its':=its.eraseIdx k) hH e ?_ (r.eraseIdx k) ?_,rw',q⟩
 .show its.toArray.eraseIdxIfInBounds k=(its.eraseIdx k).toArray;rw [eraseIdxIfInBounds_toArray]
 .have:=o5 xs k;omega
noncomputable def Ga:R2:=λx y H Q=>∃l k xs,x=.ref l/\y=.int k/\H l=some (.lst xs)/\-(2^63)<=k/\k<2^63/\xs.length*k.toNat<=sizeLine /\
 ∀p,H p=none->Q (.ref p) (upd H p (.lst (B_ k.toNat xs).flatten))
def zE{α:Type}(xs:List α)(k:Nat):(B_ k xs).flatten.length=k*xs.length:=by
 induction k with
 | zero=>simp
 | succ k ih=>rw [replicate_succ,flatten_cons,length_append,ih,succ_mul,add_comm]
def BL:OpR X (binaryOp .Mult) Ga:=by
 intro pins s σ H x y v u Q I rx ry h;obtain⟨l,k,xs,rfl,rfl,hH,h1,h2,hz,q⟩:=h;cases rx;obtain⟨t,rfl⟩:=ry;obtain⟨z,its,n,r,hl,e⟩:=I.lstM hH;have hlen:its.toArray.size*k.toNat<=sizeLine:=by rw [x_,<- hl];exact hz
 have hcap:¬ its.toArray.size*k.toNat > (2^63 - 1) / 8:=by
  have:(sizeLine:Nat)<=(2^63 - 1) / 8:=by decide
  omega
 have hfit:¬ (!Builtin.List.listFitsIndex k)=true:=by
  rw [fitsIndex_both h1 h2];exact n_
 have hlong:¬ Jp (its.toArray.size*k.toNat)=true:=by
  rw [xy hlen];exact n_
 have hnew:List.foldl (λx1 x2=>x1++x2) #[] (B_ (if its.toArray.isEmpty=true then 0 else k.toNat) its.toArray)=(B_ k.toNat its).flatten.toArray:=by
  have f0:∀m:Nat,List.foldl (λx1 x2=>x1++x2) #[] (B_ m its.toArray)=(B_ m its).flatten.toArray:=λm=>by
   have:=o7 its m [];rw [nil_append] at this;exact this
  rw [f0]
  cases its with
  | nil=>simp
  | cons a r'=>rw [if_neg (by simp)]
 refine wpAny_binaryOp_repeat_ref (T:="list") (U:="int") (by decide) ⟨_,e,rfl⟩ (λs'=>typeIs_int s' k t) noFill_list_mul F.fills_int_mul F.slot_int_rmul repeat_list F.slot_int_index.lookup
  (Kw F.slot_int_rmul (typeIs_int s k t) F.entry_int_rmul (F.args_int_rmul_2 _ _) (int___rmul___int_list k t l its.toArray n)
   ⟨e,rfl,⟨_,e,rfl⟩,Kw F.slot_list_mul ⟨_,e,rfl⟩ F.entry_list_mul (F.args_list_mul_2 _ _) (AutoListH.list___mul___list_int_3 l its.toArray n k t hfit hcap hlong) ⟨e,?_⟩⟩)
 rw [hnew];exact⟨.ref _,_,I.lnew (t':=s.toks) (r.rep k.toNat) (by rw [zE,mul_comm];exact hz),rfl,q _ I.fresh⟩
end
end L2
namespace Att
open PySem PySem.W PySem.Calls PyProof.Rows
def kt{P:Kn}{h:Heap}:∀(ns:List Int) (vs:List Value),WellAll P h vs (ns.map WData.int)->IntsAre vs ns:=by
 intro ns
 induction ns with
 | nil =>
  intro vs w;rw [map_nil] at w;cases w;exact .nil
 | cons n ns ih =>
  intro vs w;rw [map_cons] at w
  cases w with
  | cons a b =>
   cases a;exact .cons _ _ (ih _ b)
def uS{l:OpenLaw}{n:Nat}(hn:l.most=some n){P:Kn}{h:Heap}{args:List WData}{vals:List Value}
  (hpre:l.row.toRowW.claim.pre args=true) (hwl:WellAll P h vals args) :
  ∃a vs ns,vals=[k_ a]/\args=[WData.list (ns.map WData.int)]/\h.get? a=some { cls:=.type "list",data:=.seq vs.toArray }/\IntsAre vs ns/\ns.length<=n:=by
 have hsh:WShape.hasAll [] args [.list .int]=true:=(pre_splitW hpre).1;have hc:l.pre.holds [] { args:=args }=true:=(pre_splitW hpre).2;obtain⟨d,r,rfl,h1,h2⟩:=hasAllW_cons hsh;obtain rfl:=hasAllW_nil h2;obtain⟨xs,rfl,h3⟩:=hasW_list h1;obtain⟨ns,rfl⟩:=items_int h3
 have hlen:ns.length<=n:=by
  unfold OpenLaw.pre at hc
  have h4:(WTm.not (.lt (.lit (.int (n:Int))) (.len (.arg 0)))).holds [] { args:=[.list (ns.map .int)] }=true:=by
   have h4:=(holds_andW hc).1;rw [hn] at h4;exact h4
  have h5:=condW_of h4 (w_not (w_lt w_lit (w_len_list (w_arg rfl))));rw [length_map] at h5;refine le_of_not_lt λq=>?_;have q':(n:Int)<((ns.length:Nat):Int):=by omega
  first
   | (rw [decide_eq_true q'] at h5;exact absurd h5 (by decide))
   | (simp at h5;omega)
 cases hwl with
 | cons w1 w2 =>
  cases w2
  cases w1 with
  | list ho hall=>exact⟨_,_,ns,rfl,rfl,ho,kt ns _ hall,hlen⟩
def uT(l:OpenLaw)(args:List WData):l.row.toRowW.claim.post args (.bool true) args=true :=
 postW_of (r:=l.row.toRowW) (X:=(true == true))
  (show WShape.has [] (.bool true) .bool=true by first|rfl|decide|simp [WShape.has,WShape.arms,WShape.armsAll])
  (show (WTm.eq .res (.lit (.bool true))).value [] { args:=args,res:=some (.bool true),after:=args }=some (.bool (true == true)) from w_eq_bool (w_res rfl) w_lit) rfl
def attach_call{l:OpenLaw}{n:Nat}{q:r_}{loose:List Str}{XP:(Str->Option Value)->Heap->Prop}{YP:World->Heap->Prop}{d:DefRec}
  (hn:l.most=some n) (hdf:d.params.defaults=[])
  (call:∀(w:World) (s₀ s₁:d_) (mg mb:Str->Option Value) (fa:Addr) (o:Obj) (pm cd doc:Value) (a:Addr) (vs:List Value) (ns:List Int),
   Ground q loose [] XP w s₀ mg mb s₁.heap->YP w s₁.heap ->
   s₁.heap.get? fa=some o->o.data=.func (docDef d.name d.params d.body d.scope pm cd doc)->s₁.heap.CodeRec cd d.name->mg d.name=some (.ref fa) ->
   s₁.heap.get? a=some { cls:=.type "list",data:=.seq vs.toArray }->IntsAre vs ns->ns.length<=n->s₁.gens=#[] ->
   codeAny (model l.prog w) callerA (.call (.ref fa) ⟨[.ref a],[]⟩) (λr s'=>r=.ok (.ret (.bool true))/\OldK s₁.heap s'.heap/\s'.os=s₁.os/\Kc s'.gens) s₁) :
  WalkO q loose XP YP l.row.toRowW d [] (λf vs=>PySem.call f vs):=by
 intro w s₀ s₁ mg mb G Y fa o pm cd doc dV kV ho hd hcd hD hmg hg args vals as hpre hlay hrd hwl hlo;obtain rfl:dV=.none:=Dflts.none hD hdf;obtain rfl:kV=.none:=Dflts.noKw hD;obtain⟨a,vs,ns,rfl,rfl,hobj,hints,hlen⟩:=uS hn hpre hwl;refine enter_call (Kg (call w s₀ s₁ mg mb fa o pm cd doc a vs ns G Y ho (fd_plain hd) hcd hmg hobj hints hlen hg) λr s' hq=>?_);obtain⟨rfl,h2,h3,h4⟩:=hq;exact⟨.inl ⟨.bool true,.bool true,[],rfl,λ_=>rfl,.bool true,uT l _,λ_=>⟨List.Pairwise.nil,λ_ hm=>(nomatch hm)⟩⟩,h2,h3,h4⟩
end Att
namespace L2
open PySem PySem.Spec PyProof.Rows
theorem o8:∀{vs:List Value}{ns:List Int},IntsAre vs ns->bB (ns.map V.int) vs
 | _,_,.nil=>.nil
 | _,_,.cons n t h=>.cons ⟨t,rfl⟩ (o8 h)
noncomputable def Ew(H:Hp):Prop:=∀b,H b=none\/∃o xs,H b=some (.frz o (.lst xs))
def xA{P:r_}{w:World}{K:b_}{mg mb:Str->Option Value}{CX:CXT}{k:Nat}{fa a:Addr}{fd:HH}{x:Str}{sp:Sp}{s₁:d_}{vs:List Value}{ns:List Int}
  (KX:K.In s₁.heap) (hns:s₁.heap.Ns mainGlobals mg) (hb:s₁.heap.Ns builtinsNs mb) (hbb:∀x:Str,x≠"__name__"->mb x=bootBuiltins x) (hlim:s₁.heap.NoLimit) (hg:s₁.gens=#[])
  (ha:s₁.heap.get? a=some { cls:=.type "list",data:=.seq vs.toArray }) (hi:IntsAre vs ns) (hl:ns.length<=sizeLine) (hr:dR k callerA)
  (F:∀base:Heap,K.In base->base.Ns mainGlobals mg->lL P w K mg base CX k fa fd [x] sp) (hbind:∀(s:d_) (u:Value),KQ s fd ⟨[u],[]⟩ [(x,u)])
  (hsp:∀H:Hp,Ew H->SqL K H a (ns.map V.int)->sp [.ref a] H (λv _=>v=.bl true) λ_ _ _=>False)
  (hCX:∀H e s',CX [] H s₁ (λ_ _ _=>False) e s'->False) :
  codeAny (model P w) callerA (.call (.ref fa) ⟨[.ref a],[]⟩) (λr s'=>r=.ok (.ret (.bool true))/\OldK s₁.heap s'.heap/\s'.os=s₁.os/\Kc s'.gens) s₁:=by
 have rv:=o8 hi;have lenV:=hi.length
 -- from an abstract heap in which nothing but the script may be tracked
 have core:∀H:Hp,Ew H->SqL K H a (ns.map V.int)->HOk P w H s₁.heap->(∀b,H b≠none->b=a)->(H a≠none->K.lookup a=none) ->
   codeAny (model P w) callerA (.call (.ref fa) ⟨[.ref a],[]⟩) (λr s'=>r=.ok (.ret (.bool true))/\OldK s₁.heap s'.heap/\s'.os=s₁.os/\Kc s'.gens) s₁:=by
  intro H hO hS hok hA hK;have base_of:∀{b:Addr}{o:Obj},s₁.heap.get? b=some o->H b=none->(Bo s₁.heap H).get? b=some o:=λe n=>xj e n
  have noA:∀{b:Addr}{o:Obj}{es:Array Li}{ep:Nat},s₁.heap.get? b=some o->o.data=.dict es ep->H b=none:=λ{b o es ep} e d=>by
   cases q:H b with
   | none=>rfl
   | some u =>
    have e':b=a:=hA b (by rw [q];simp);subst e';rw [ha] at e;cases e;have d':Data.seq vs.toArray _=Data.dict es ep:=d;cases d'
  have nsK:∀{b:Addr}{m:Str->Option Value},s₁.heap.Ns b m->(Bo s₁.heap H).Ns b m:=λ{b m} ⟨o,es,ep,e,d,r⟩=>⟨o,es,ep,base_of e (noA e d),d,r⟩
  have hKb:K.In (Bo s₁.heap H):=λb o e=>base_of (KX b o e) (by
   cases q:H b with
   | none=>rfl
   | some u =>
    have e':b=a:=hA b (by rw [q];simp);subst e';rw [hK (by rw [q];simp)] at e;cases e)
  have hM:Mod K mg (Bo s₁.heap H):=⟨hKb,nsK hns,⟨mb,nsK hb,hbb⟩,let ⟨mc,h1,h2⟩:=hlim;⟨mc,nsK h1,h2⟩⟩
  have e0:zt P w K mg (Bo s₁.heap H) callerA [] s₁ H:=⟨rfl,hM,λb o e=>zh e,Kr (uo _ _),trivial,λb hb=>absurd (show b∈([]:List Addr) from hb) (by simp),hok,.of_eq hg,λ_ _ z=>nomatch (show ([]:List Addr)=_ from z)⟩
  refine Kg ((F _ hKb (nsK hns)).run callerA [] s₁ H ⟨[.ref a],[]⟩ [.ref a] [.ref a] _ _ hr e0 (hbind s₁ (.ref a)) (.cons rfl .nil) (hsp H hO hS)) λr s' h=>?_
  cases r with
  | error e=>exact (hCX H e s' h).elim
  | ok fl =>
   cases fl with
   | next=>exact HD h
   | brk=>exact HD h
   | cont=>exact HD h
   | ret u =>
    obtain⟨v,H',os,bare,un,hok',r',q⟩:=h;have q':v=.bl true:=q;subst q';obtain rfl:u=Ih true:=r';refine⟨rfl,OldK.of_keep λb o e=>?_,os,bare⟩
    cases q:H b with
    | none=>exact un.keep b o e q (by intro z;exact absurd (show b∈([]:List Addr) from z) (by simp)) (by simp)
    | some u =>
     rcases hO b with z|⟨ob,xs,z⟩
     .rw [q] at z;cases z
     .have z2:=un.frzs b ob _ z;obtain⟨e1,_⟩:=hok b _ z;obtain⟨e2,_⟩:=hok' b _ z2;rw [e] at e1;cases e1;exact e2
 cases hk:K.lookup a with
 | some o =>
  -- the script is one of the module's own objects
  have e:=KX a o hk;rw [ha] at e;cases e;refine core (λ_=>none) (λ_=>.inl rfl) (.inr ⟨_,vs.toArray,_,hk,rfl,rfl,rfl,by rw [x_,lenV];exact hl,by simpa using rv⟩) (λb u z=>by have z':(none:Option HO)=some u:=z;cases z') (λb z=>absurd rfl z) λz=>absurd rfl z
 | none =>
  refine core (λb=>if b=a then some (.frz { cls:=.type "list",data:=.seq vs.toArray } (.lst (ns.map V.int))) else none) (λb=>?_) (.inl (.inr ⟨{ cls:=.type "list",data:=.seq vs.toArray },if_pos rfl⟩)) (λb u z=>?_) (λb z=>?_) λ_=>hk
  .by_cases hb:b=a
   .exact .inr ⟨_,_,if_pos hb⟩
   .exact .inl (if_neg hb)
  .by_cases hb:b=a
   .have z':=(if_pos hb).symm.trans z;cases z';subst hb;exact⟨ha,by rw [length_map];exact hl,vs,_,rv,ha⟩
   .have z':=(if_neg hb).symm.trans z;cases z'
  .by_cases hb:b=a
   .exact hb
   .exact absurd (if_neg hb) z
def zF{l:K6}{n k:Nat}{q:r_}{loose:List Str}{XP:(Str->Option Value)->Heap->Prop}{YP:World->Heap->Prop}{d:DefRec}{K:Kn->b_}{CX:World->CXT}{sp:World->Sp}{x:Str}
  (hn:l.most=some n) (hn2:n<=sizeLine) (hdf:d.params.defaults=[]) (hr:dR k callerA)
  (hY:∀(w:World) (h:Heap),YP w h->(K w.params).In h)
  (F:∀(w:World) (mg:Str->Option Value) (fa:Addr) (h:Heap),(K w.params).In h->h.Ns mainGlobals mg->mg d.name=some (.ref fa) ->
   ∃fd:HH,(∀(s:d_) (u:Value),KQ s fd ⟨[u],[]⟩ [(x,u)]) /\
    ∀base:Heap,(K w.params).In base->base.Ns mainGlobals mg->lL l.prog w (K w.params) mg base (CX w) k fa fd [x] (sp w))
  (hsp:∀(w:World) (H:Hp) (a:Addr) (ns:List Int),ns.length<=n->Ew H->SqL (K w.params) H a (ns.map V.int)->sp w [.ref a] H (λv _=>v=.bl true) λ_ _ _=>False)
  (hCX:∀(w:World) (H:Hp) (s:d_) (e:Value) (s':d_),CX w [] H s (λ_ _ _=>False) e s'->False) :
  PySem.W.WalkO q loose XP YP l.row.toRowW d [] (λf vs=>PySem.call f vs):=by
 refine Att.attach_call hn hdf λw s₀ s₁ mg mb fa o pm cd doc a vs ns G Y ho hd hcd hmg hobj hints hlen hg=>?_;have KX:=hY w _ Y;obtain⟨fd,hb,hF⟩:=F w mg fa _ KX G.T.g hmg;exact xA KX G.T.g G.T.b G.T.builtins G.T.nolimit hg hobj hints (E_ hlen hn2) hr hF hb (λH hO hS=>hsp w H a ns hlen hO hS) λH e s'=>hCX w H s₁ e s'
noncomputable def jg(s:Stmt)(j:Nat):Stmt:=match s with
 | .ClassDef _ _ _ body _ _ _ _ _ _ _=>body.getD j (.Pass ⟨0,0,0,0⟩)
 | _=>.Pass ⟨0,0,0,0⟩
noncomputable def bC(s:Stmt):Arguments:=match s with
 | .FunctionDef _ a _ _ _ _ _ _ _ _=>a
 | _=>{ posonlyargs:=[],args:=[],vararg:=none,kwonlyargs:=[],kw_defaults:=[],kwarg:=none,defaults:=[] }
noncomputable def aS(s:Stmt):List Stmt:=match s with
 | .FunctionDef _ _ b _ _ _ _ _ _ _=>b
 | _=>[]
noncomputable def ag(s:Stmt):Scope:=match s with
 | .FunctionDef _ _ _ _ _ _ sc _ _ _=>sc
 | _=>{ kind:=.function,names:=[],isGenerator:=false,isCoroutine:=false }
abbrev CX0:CXT:=λ_ _ _ _ _ _=>False
abbrev E0:XK:=λ_ _ _=>False
def xB{X:Cx}:mH CX0 X E0:=λ_ _ _ _ _ _ _ h=>h.elim
structure Fun (K:b_) (x qual:Str) (st:Stmt) (f:Addr) (fd:HH):Prop where
 ex:∃(oc:Value) (od:Option Addr) (kV doc pm:Value) (an:Option Addr) (cdv ct:Value) (osl:Array (Option Value)),
  fd=Hb x qual (bC st) (aS st) (ag st) .none kV doc pm an cdv ct/\K.lookup f=some ⟨oc,od,.func fd,osl⟩/\HF K cdv qual=true
 kp:u_ K (.ref f)=true
section
variable {P:r_}{w:World}{K:b_}{mg:Str->Option Value}{base:Heap}
def Fun.ok{x qual:Str}{st:Stmt}{f:Addr}{fd:HH}{N ps:List Str}{k:Nat}{sp:Sp}(F:Fun K x qual st f fd)(S:aD N ps (ag st))(len:∀vs H Q E,sp vs H Q E->vs.length=ps.length)
  (hbody:∀(cdv:Value) (A:w_) (outer:List Env) (s:d_) (H:Hp) (vs:List V) (Q:VK) (E:XK),dR k (A.deeper (envOfC qual (ag st) s.heap.objs.size f cdv))->sp vs H Q E ->
   ∃t,PSs (lM CX0 P w K mg base N qual (ag st) f cdv A outer s H E).nox (aS st) t/\t { nx:=λ_ H'=>Q .non H',rt:=Q } (start N vs) H):lL P w K mg base CX0 (k+1) f fd ps sp:=by
 obtain⟨oc,od,kV,doc,pm,an,cdv,ct,osl,rfl,lk,hcd⟩:=F.ex;refine zw lk hcd S len λA outer s H vs Q E hr hsp=>?_;obtain⟨t,h,q⟩:=hbody cdv A outer s H vs Q E hr hsp;exact⟨t,h.nox,q⟩
def Fun.binds{x qual:Str}{st:Stmt}{f:Addr}{fd:HH}{ps:List Str}(F:Fun K x qual st f fd)
  (h:∀(kV doc pm:Value) (an:Option Addr) (cdv ct:Value) (us:List Value),us.length=ps.length->bindArgs (Hb x qual (bC st) (aS st) (ag st) .none kV doc pm an cdv ct) ⟨us,[]⟩=pure (ps.zip us)):iK K fd ps []:=by
 obtain⟨oc,od,kV,doc,pm,an,cdv,ct,osl,rfl,lk,hcd⟩:=F.ex;exact .all (h kV doc pm an cdv ct)
def ku{x qual:Str}{st:Stmt}{f:Addr}{oc:Value}{od an:Option Addr}{osl:Array (Option Value)}{kV doc pm cdv ct:Value}(l:K.lookup f=some ⟨oc,od,.func (Hb x qual (bC st) (aS st) (ag st) .none kV doc pm an cdv ct),osl⟩)
  (c:HF K cdv qual=true) (k:u_ K (.ref f)=true):Fun K x qual st f (Hb x qual (bC st) (aS st) (ag st) .none kV doc pm an cdv ct):=⟨⟨oc,od,kV,doc,pm,an,cdv,ct,osl,rfl,l,c⟩,k⟩
end
section
variable {X:Cx}
theorem pv(i:Nat){x:Str}{pos:Pos}(hN:X.N[i]?=some x:=by rfl)(hv:Vis X.env.scope x:=by first|exact Lv rfl|exact Or.inr (Lv rfl)|exact Or.inr (Or.inr rfl))(hd:(x == ("__debug__":Str))=false:=by decide)
  (hcd:(x == ("__classdict__":Str))=false:=by decide):PE X (.Name x pos) (bw i):=Bp hN hv hd hcd
end
def S(l:List Nat):Str:=⟨l.toArray⟩
def GI(x:Str):S x.cps.toList=x:=by cases x;rfl
def dC(l:List Nat):(S l).length=l.length:=by simp [S,Str.length]
def tu(a b:List Nat):S a++S b=S (a++b):=by
 show (⟨a.toArray++b.toArray⟩:Str)=⟨(a++b).toArray⟩
 rw [append_toArray]
def BM{a b:List Nat}(h:S a=S b):a=b:=by
 have h':=congrArg (λx:Str=>x.cps.toList) h;simpa [S] using h'
def GJ{a b:List Nat}(h:a≠b):S a≠S b:=λe=>h (BM e)
def BN{a b:List Nat}:V.str (S a)=V.str (S b) ↔ a=b:=⟨λh=>BM (V.str.inj h),λh=>by rw [h]⟩
def BO(a b:List Nat):decide (V.str (S a)=V.str (S b))=decide (a=b):=by
 by_cases h:a=b
 .rw [decide_eq_true h,decide_eq_true (BN.mpr h)]
 .rw [decide_eq_false h,decide_eq_false (λz=>h (BN.mp z))]
noncomputable def dU{α:Type}(xs:List α)(lo hi:Option Int):List α:=(xs.drop (HT.sIx xs.length 0 lo)).take (HT.sIx xs.length xs.length hi - HT.sIx xs.length 0 lo)
def gN{α:Type}(xs:List α)(lo hi:Option Int):(dU xs lo hi).length<=xs.length:=by
 unfold dU;rw [length_take,length_drop];omega
def uU(xs:List V)(lo hi:Option Int):zx xs lo hi=dU xs lo hi:=rfl
def BP(lo hi:Option Int)(n:Nat):HW lo hi 1 n=(i_ (HT.sIx n n hi - HT.sIx n 0 lo)).map (λk=>HT.sIx n 0 lo+k):=by
 have key:∀(o:Option Int) (d:Nat),d<=n->(match o with|none=>(d:Int)|some i=>max 0 (min (if i<0 then i+(n:Int) else i) (n:Int)))=((HT.sIx n d o:Nat):Int):=by
  intro o d hd
  cases o with
  | none=>rfl
  | some i =>
   show max 0 (min (if i<0 then i+(n:Int) else i) (n:Int))=_;rw [<- HT.clip_eq i n d]
   by_cases h:i<0
   .rw [if_pos h,if_pos h];omega
   .rw [if_neg h,if_neg h];omega
 have k1:=key lo 0 (Iy _);have k2:=key hi n (so _);unfold HW;simp only [show (1:Int) > 0 by decide,if_true];refine Eq.trans (congrArg (λa=>sliceRange a _ 1) k1) (Eq.trans (congrArg (λb=>sliceRange _ b 1) k2) ?_);unfold sliceRange;simp only [show (1:Int) > 0 by decide,if_true];generalize HT.sIx n 0 lo=a;generalize HT.sIx n n hi=b
 have ec:(if (a:Int)<(b:Int) then ((b:Int) - (a:Int)+1 - 1) / 1 else 0).toNat=b - a:=by
  split <;> omega
 rw [ec];apply La;intro k _;omega
def uV{α:Type}(l:List α)(a m:Nat):((i_ m).map (λk=>a+k)).filterMap (λi=>l[i]?)=(l.drop a).take m:=by
 induction m generalizing a with
 | zero=>simp
 | succ m ih =>
  rw [range_succ_eq_map,map_cons,map_map,Ir];have e:((λk=>a+k) ∘ Nat.succ)=λk=>(a+1)+k:=by funext k;simp;omega
  rw [e,ih (a+1)]
  cases h:l[a+0]? with
  | none =>
   have hl:l.length<=a:=by simpa using List.getElem?_eq_none_iff.mp h
   rw [Jb hl,Jb (by omega)];simp
  | some v =>
   have hl:a<l.length:=by simpa using (j_.mp h).1
   have hv:l[a]=v:=by simpa using (j_.mp h).2
   rw [drop_eq_getElem_cons hl,hv];rfl
def zG(l:List Nat)(lo hi:Option Int):Txt.slice (S l) lo hi=S (dU l lo hi):=by
 have e1:(HW lo hi 1 (S l).length).filterMap ((S l).cps[·]?)=dU l lo hi:=by
  rw [BP,dC];have e:(λi:Nat=>(S l).cps[i]?)=λi:Nat=>l[i]?:=by funext i;simp [S]
  rw [e];exact uV l _ _
 unfold Txt.slice
 split
 .rename_i h;have h2:(HW lo hi 1 (S l).length).length=(S l).length:=by simpa using h
  rw [BP,dC,length_map,Hs] at h2;have a0:=HT.sIx_le l.length 0 (Iy _) lo;have b0:=HT.sIx_le l.length l.length (so _) hi;unfold dU
  by_cases hz:l.length=0
  .have:l=[]:=IU.mp hz;subst this;simp
  .have ha:HT.sIx l.length 0 lo=0:=by omega
   have hb:HT.sIx l.length l.length hi=l.length:=by omega
   rw [ha,hb];simp
 .rw [e1];rfl
def kv{α:Type}(l:List α)(k:Nat):dU l none (some (k:Int))=l.take k:=by
 unfold dU;rw [HT.sIx_nat];show (l.drop 0).take (min k l.length - 0)=l.take k;rw [drop_zero,Ls]
 by_cases h:k<=l.length
 .rw [Lb h]
 .rw [KZ (by omega),Ig (so _),Ig (by omega)]
def uW{α:Type}(l:List α)(k:Nat):dU l (some (k:Int)) none=l.drop k:=by
 unfold dU;rw [HT.sIx_nat];show (l.drop (min k l.length)).take (l.length - min k l.length)=l.drop k
 by_cases h:k<=l.length
 .rw [Lb h,Ig (by rw [length_drop];exact so _)]
 .rw [KZ (by omega),sub_self,take_zero,Jb (by omega)]
def uX{α:Type}(l:List α)(i j:Nat):dU l (some (i:Int)) (some (j:Int))=(l.drop i).take (j - i):=by
 unfold dU;rw [HT.sIx_nat,HT.sIx_nat]
 by_cases h:i<=l.length
 .rw [Lb h]
  by_cases h2:j<=l.length
  .rw [Lb h2]
  .rw [KZ (by omega),Ig (by rw [length_drop];omega),Ig (by rw [length_drop];omega)]
 .have e:min i l.length=l.length:=KZ (by omega);rw [e,Jb (so _),Jb (by omega),take_nil,take_nil]
section
variable {X:Cx}
noncomputable def Gb:V->Option Int->Option Int->Hp->VK->Prop:=λx lo hi H Q=>∃l,x=.str (S l)/\l.length<=sizeLine/\Q (.str (S (dU l lo hi))) H
def BQ:SlR X Gb:=by
 intro pins s σ H x v vl vu lo hi sl Q I rx hs pl pu h;obtain⟨l,rfl,hz,q⟩:=h;obtain⟨t,rfl⟩:=rx;refine⟨"str",_,slot_str_getitem.lookup,typeIs_str s _ t,?_⟩
 obtain⟨l',hl',el⟩:∃l':Option (Int×Tok),vl=partValue l'/\l'.map (·.1)=lo:=by
  cases pl with
  | none=>exact⟨none,rfl,rfl⟩
  | int i t=>exact⟨some (i,t),rfl,rfl⟩
 obtain⟨u',hu',eu⟩:∃l':Option (Int×Tok),vu=partValue l'/\l'.map (·.1)=hi:=by
  cases pu with
  | none=>exact⟨none,rfl,rfl⟩
  | int i t=>exact⟨some (i,t),rfl,rfl⟩
 subst hl' hu';refine wpAny_getItem_str_slice (l:=l') (u:=u') (st:=none) hs rfl ?_;have hm:∀t' k,EP X pins σ Q (.str (Txt.slice (S l) lo hi) t') { s with toks:=k }:=λt' k=>⟨.str (S (dU l lo hi)),H,I.tok _,⟨t',by rw [zG]⟩,q⟩
 have hlen:(Txt.slice (S l) lo hi).length<=sizeLine:=E_ (Txt.slice_le _ _ _) (by rw [dC];exact hz);subst el eu;exact post_val_or_str ⟨hlen,hm⟩
noncomputable def uk{α:Type}(l:List α)(n:Int):List α:=(B_ n.toNat l).flatten
def uY(k:Nat)(l acc:List Nat):(B_ k l.toArray).foldl (·++·) acc.toArray=(acc++(B_ k l).flatten).toArray:=by
 induction k generalizing acc with
 | zero=>simp
 | succ k ih =>
  rw [replicate_succ,foldl_cons,append_toArray,ih (acc++l),replicate_succ,flatten_cons,KY]
def Ex(l:List Nat)(n:Int):Txt.mul (S l) n=S (uk l n):=by
 unfold Txt.mul uk
 by_cases h:n<1
 .rw [if_pos h];have:n.toNat=0:=by omega
  rw [this];rfl
 .rw [if_neg h]
  split
  .rename_i h2;rw [dC] at h2;simp only [or_eq_true,beq_iff_eq] at h2
   rcases h2 with h2|h2
   .subst h2;simp [S]
   .have:l=[]:=IU.mp h2;subst this;simp [S]
  .have e:=uY n.toNat l [];show (⟨_⟩:Str)=_
   have e':(B_ n.toNat (S l).cps).foldl (·++·) #[]=((B_ n.toNat l).flatten).toArray:=by
    simpa [S] using e
   rw [e'];rfl
def ip{α:Type}(l:List α)(n:Int):(uk l n).length=n.toNat*l.length:=by
 unfold uk;rw [length_flatten,map_replicate,sum_replicate_nat]
def tw:OpR X (binaryOp .Mult) (λx y H Q=>∃l n,x=.str (S l)/\y=.int n/\-1000000<=n/\n<=1000000/\n.toNat*l.length<=sizeLine/\Q (.str (S (uk l n))) H):=by
 intro pins s σ H x y v u Q I rx ry h;obtain⟨l,n,rfl,rfl,h1,h2,hz,q⟩:=h;obtain⟨t,rfl⟩:=rx;obtain⟨t',rfl⟩:=ry;have hs:sizeLine=16777216:=Jw;have hz':n.toNat*l.length<=16777216:=by rw [<- hs];exact hz
 refine SB.mul ⟨?_,λhn hc=>?_,λhn hc=>?_⟩ λt' k=>⟨.str (S (uk l n)),H,I.tok _,⟨t',by rw [Ex]⟩,q⟩
 .rw [decide_eq_false (by omega),decide_eq_false (by omega)];rfl
 .rw [dC];intro hgt
  have hl:l.length<=16777216:=by
   have:1*l.length<=n.toNat*l.length:=mul_le_mul_right _ (by omega);omega
  have hdiv:(2^63 - 1:Int) / 1000000<=(2^63 - 1) / n:=by
   apply le_ediv_of_mul_le (by omega);have:=mul_le_mul_of_nonneg_left h2 (show (0:Int)<=(2^63 - 1) / 1000000 by decide);have e2:((2^63 - 1:Int) / 1000000)*1000000<=2^63 - 1:=by decide
   omega
  have e3:(2^63 - 1:Int) / 1000000=9223372036854:=by decide
  omega
 .rw [dC];have:l.length*n.toNat<=16777216:=by rw [mul_comm];exact hz'
  exact decide_eq_false (by omega)
def uZ:OpR X (compareOp .LtE) (λx y H Q=>∃i j,x=.str i/\y=.str j/\Q (.bl (!decide (j.cps.toList<i.cps.toList))) H):=by
 intro pins s σ H x y v u Q I rx ry h;obtain⟨i,j,rfl,rfl,q⟩:=h;obtain⟨t,rfl⟩:=rx;obtain⟨t',rfl⟩:=ry;exact PySem.P.le_str ⟨.bl _,H,I,rfl,q⟩
end
noncomputable def Its(xs:List V):It:=⟨λi _=>i<xs.length,λi H x H'=>H'=H/\xs[i]?=some x,λi _=>xs.length=i⟩
def u0{M:Model}{A:w_}{E:Value->d_->Prop}{s:d_}{tg:Expr}{it:Addr}{u:Value}{Q:Unit->d_->Prop}(hu:∀a,u≠.ref a)(hQ:Q () s):wpAny M A (letOwnedTupleGo tg (.ref it) u) Q E s:=by
 unfold letOwnedTupleGo
 cases tg <;> first
  | exact e_ hQ
  | (cases u <;> first
    | exact e_ hQ
    | exact absurd rfl (hu _))
def ky{P:r_}{w:World}{K:b_}{tg:Expr}{it:Addr}{xs:List V}{n:Nat}{Pt:Nat->Value->Prop}{St:Nat->Heap->Prop}
  (W:∀A:w_,A.handled=none->Walks P w A it [it] [it] n Pt St) (hn:xs.length=n)
  (hv:∀i v,i<n->Pt i v->∃x,xs[i]?=some x/\c4 x v) (hsc:∀i v,Pt i v->∀a,v≠.ref a)
  (hobj:∀i h,St i h->∃o,h.get? it=some o/\∀v,o.data≠.cell v)
  (hfr:∀i h h',St i h->(∀b∈[it],∀o,h.get? b=some o->h'.get? b=some o)->St i h')
  (hself:∀(A:w_) (i:Nat) (s:d_) (Q:Value->d_->Prop) (E:Value->d_->Prop),St i s.heap->Q (.ref it) s->wpAny (model P w) A (pyIter (.ref it)) Q E s) :
  yA P w K tg (Its xs) [it] it St where
 mem:=by simp
 obj:=λi h st b hb=>by
  have e:b=it:=by simpa using hb
  subst e;exact hobj i h st
 keep:=λi h h' st k=>hfr i h h' st k
 item:=by
  intro X hP hw hK hc i pins s σ H E I hf st hg;subst hP hw hK;obtain⟨f0,f1,f2,f3,f4,f5⟩:=hf it (by simp);refine (W X.A (I.ok.hd hc)).item i s _ _ (by rw [<- hn];exact hg) st λv h' tk hp st' kk=>?_;obtain⟨x,hx,rx⟩:=hv i v (by rw [<- hn];exact hg) hp;have I1:Inv X pins σ H { s with heap:=h',toks:=tk }:=I.turned (λb o hb e=>kk b o (by simpa using hb) e) f0 f1 f3 f4 f5;exact⟨v,rfl,u0 (s:={ s with heap:=h',toks:=tk }) (hsc i v hp) ⟨x,H,I1,rx,⟨rfl,hx⟩,st',λb hb=>(hf b hb).1⟩⟩
 done:=by
  intro X hP hw hK hc i pins s σ H E I hf st hg;subst hP hw hK;obtain⟨f0,f1,f2,f3,f4,f5⟩:=hf it (by simp);have e:n=i:=hn.symm.trans hg;subst e;exact (W X.A (I.ok.hd hc)).done s _ _ st λh' tk kk=>⟨rfl,I.turned (λb o hb e=>kk b o (by simpa using hb) e) f0 f1 f3 f4 f5⟩
 self:=hself
section
variable {X:Cx}{tg:Expr}
noncomputable def f7(l:List Nat):List V:=l.map λc=>V.str (S [c])
def tz{l:List Nat}{i:Nat}{x:V}(h:(f7 l)[i]?=some x):∃c,l[i]?=some c/\x=.str (S [c]):=by
 unfold f7 at h;rw [q_] at h
 cases e:l[i]? with
 | none=>rw [e] at h;cases h
 | some c=>rw [e] at h;exact⟨c,rfl,(we h).symm⟩
def ji(l:List Nat):(f7 l).length=l.length:=length_map _
noncomputable def nE(i:Int)(n:Nat):List V:=(i_ n).map λ(k:Nat)=>V.int (i - k)
def kz(i:Int)(n:Nat):(nE i n).length=n:=by simp [nE]
def u4{i:Int}{n k:Nat}{x:V}(h:(nE i n)[k]?=some x):k<n/\x=.int (i - k):=by
 unfold nE at h;rw [q_] at h
 by_cases hk:k<n
 .rw [Ie hk] at h;exact⟨hk,(we h).symm⟩
 .rw [G_ (by simp;omega)] at h;cases h
noncomputable def BR(ta:TA):TI:=λσ H R=>ta σ H λvs H1=>∃i j:Int,vs=[.int i,.int j,.int (-1)]/\(-(2^60)<=i/\i<2^60/\-(2^60)<=j/\j<2^60)/\R (Its (nE i (i - j).toNat)) H1
def gO(i j:Int):HU i j (-1)=(((i - j).toNat:Nat):Int):=by
 unfold HU;rw [if_neg (by decide)];simp only [neg_neg,ediv_one];split <;> omega
def o9{a b c:Expr}{ta:TA}{p pos:Pos}(hg:Gl X "range")(hm:X.mg "range"=none)(ha:PA X [a,b,c] ta)
  (hs:starEach [a,b,c] X.env=[(false,eval a X.env),(false,eval b X.env),(false,eval c X.env)]:=by rfl) (hs2:starEach [b,c] X.env=[(false,eval b X.env),(false,eval c X.env)]:=by rfl) :
  PI X tg (.Call (.Name "range" p) [a,b,c] [] pos) (BR ta):=by
 intro pins s σ H R I h;refine Call_ (iI I hg hm boot_range (Hv (thn (ha pos pins s σ H _ I h) λus s1 ⟨vs,H1,I1,r1,q1⟩=>?_) (by rw [hs,hs2]) (by rw [hs2];rfl)));obtain⟨i,j,e,⟨q1,q2,q3,q4⟩,q⟩:=q1;subst e
 cases r1 with
 | cons r rr =>
  cases rr with
  | cons r' rr =>
   cases rr with
   | cons r'' rr =>
    cases rr;obtain⟨t,rfl⟩:=r;obtain⟨t',rfl⟩:=r';obtain⟨t'',rfl⟩:=r'';refine call_range_3 (by decide) ?_ (.inl (KP (by decide)))
    refine wpAny_pyIter_range (IsRange.new ..) ?_ ?_
    .unfold Jl;rw [gO];simp only [Kh,and_eq_true,or_eq_true,decide_eq_true_eq,beq_iff_eq,show ¬ (-1:Int) > 0 by decide,if_false];omega
    have I2:Inv X pins σ H1 { s1 with heap:=s1.heap.push { cls:=.type "range",data:=.fields #[.int i t,.int j t',.int (-1) t''] },toks:=s1.toks }:=I1.kept λb o e=>c_ _ e
    refine⟨_,[(s1.heap.push { cls:=.type "range",data:=.fields #[.int i t,.int j t',.int (-1) t''] }).objs.size],_,Its (nE i (i - j).toNat),H1,rfl,I2.kept (t':=s1.toks) λb o e=>c_ _ e,
     ky (λA hA=>Walks.range hA _ i (-1) (i - j).toNat) (kz _ _) ?_ ?_ ?_ ?_ (λA i s Q E st q=>wpAny_pyIter_rangeiter st q),?_,λb hb=>?_,q⟩
    .rintro k v hk ⟨t,rfl⟩
     refine⟨.int (i - k),?_,t,?_⟩
     .unfold nE;rw [q_,Ie hk];rfl
     .have e:i+(k:Int)*(-1)=i - k:=by omega
      rw [e]
    .rintro k v ⟨t,rfl⟩ a z;cases z
    .exact λk h st=>⟨_,st,λv z=>by
      have z':Data.fields _=Data.cell v:=z;cases z'⟩
    .exact λk h h' st kk=>kk _ (by simp) _ st
    .show IsRangeIter _ _ (i+((0:Nat):Int)*(-1)) ((((i - j).toNat:Nat):Int) - ((0:Nat):Int)) (-1);rw [<- gO];simp only [natCast_zero,zero_mul,add_zero,Int.sub_zero];exact h_ _ rfl
    .have e:b=(s1.heap.push { cls:=.type "range",data:=.fields #[.int i t,.int j t',.int (-1) t''] }).objs.size:=by simpa using hb
     subst e;exact I2.fpOk (so _) (I2.hok.fresh (so _))
end
section
variable {X:Cx}
def qx:bj X (.builtin "isinstance") (λxs H Q=>∃x n t b,xs=[x,.ty n]/\oM X.K H x t/\Hm X.K t (.type n)=some b/\Q (.bl b) H):=by
 intro pins s σ H xs us Q I r h;obtain⟨x,n,t,b,rfl,ty,e,q⟩:=h;obtain⟨u,w',rfl,rx,ry⟩:=qu r;cases (show w'=Jd n from ry);exact uL I rx ty e λtk=>⟨.bl b,H,I.tok _,rfl,q⟩
mutual
inductive DV (K:b_) (H:Hp):V->JF->Prop
 | non:DV K H .non .none
 | bl (b:Bool):DV K H (.bl b) (.bool b)
 | int (i:Int):DV K H (.int i) (.int i)
 | str (x:Str):DV K H (.str x) (.str x)
 | lst {a:Addr}{xs:List V}{ds:List JF}:SqL K H a xs->DVs K H xs ds->DV K H (.ref a) (.list ds)
 | tup {a:Addr}{xs:List V}{ds:List JF}:SqT K H a xs->DVs K H xs ds->DV K H (.ref a) (.tuple ds)
inductive DVs (K:b_) (H:Hp):List V->List JF->Prop
 | nil:DVs K H [] []
 | cons {x:V}{d:JF}{xs:List V}{ds:List JF}:DV K H x d->DVs K H xs ds->DVs K H (x::xs) (d::ds)
end
mutual
theorem DV.reads{pins:List (Addr×Obj)}{σ:St}{H:Hp}{s:d_}(I:Inv X pins σ H s):∀{x:V}{d:JF}{u:Value},DV X.K H x d->c4 x u->∃as,Reads s.heap u d as
 | _,_,u,.non,r=>by cases (show u=HC from r);exact⟨_,.none⟩
 | _,_,u,.bl b,r=>by cases (show u=Ih b from r);exact⟨_,.bool b⟩
 | _,_,u,.int i,r=>by obtain⟨t,e⟩:=(show ∃t,u=Km i t from r);subst e;exact⟨_,.int i t⟩
 | _,_,u,.str x,r=>by obtain⟨t,e⟩:=(show ∃t,u=Jv x t from r);subst e;exact⟨_,.str x t⟩
 | _,_,u,.lst (a:=a) hq hs,r=>by
  cases (show u=k_ a from r);obtain⟨its,rv,pl,_⟩:=I.list hq;obtain⟨o,ho,hc,n,hd⟩:=pl.isList;obtain⟨as,ra⟩:=DVs.reads I hs rv;exact⟨_,.list ho hc hd ra⟩
 | _,_,u,.tup (a:=a) hq hs,r=>by
  cases (show u=k_ a from r);obtain⟨its,rv,pl,_⟩:=I.tuple hq;obtain⟨o,ho,hc,n,hd⟩:=pl;obtain⟨as,ra⟩:=DVs.reads I hs rv;exact⟨_,.tuple ho hc hd ra⟩
theorem DVs.reads{pins:List (Addr×Obj)}{σ:St}{H:Hp}{s:d_}(I:Inv X pins σ H s):∀{xs:List V}{ds:List JF}{us:List Value},DVs X.K H xs ds->bB xs us->∃as,ReadsAll s.heap us ds as
 | _,_,_,.nil,.nil=>⟨_,.nil⟩
 | _,_,_,.cons h hs,.cons r rs=>by
  obtain⟨as,ra⟩:=DV.reads I h r;obtain⟨bs,rb⟩:=DVs.reads I hs rs;exact⟨_,.cons ra rb⟩
end
noncomputable def Ey(K:b_)(neg:Bool):R2:=λx y H Q=>∃da db,DV K H x da/\DV K H y db/\IG da=true/\IG db=true/\Q (.bl (if neg then !JO da db else JO da db)) H
def BS(hu:X.A.units+64<cLine):OpR X (compareOp .Eq) (Ey X.K false):=by
 intro pins s σ H x y v u Q I rx ry h;obtain⟨da,db,ha,hb,sa,sb,q⟩:=h;obtain⟨as,ra⟩:=DV.reads I ha rx;obtain⟨bs,rb⟩:=DV.reads I hb ry;exact eq_dataH ra rb sa sb hu ⟨.bl _,H,I,rfl,q⟩
def BU(hu:X.A.units+64<cLine):OpR X (compareOp .NotEq) (Ey X.K true):=by
 intro pins s σ H x y v u Q I rx ry h;obtain⟨da,db,ha,hb,sa,sb,q⟩:=h;obtain⟨as,ra⟩:=DV.reads I ha rx;obtain⟨bs,rb⟩:=DV.reads I hb ry;exact ne_dataH ra rb sa sb hu ⟨.bl _,H,I,rfl,q⟩
theorem DVs.ints{K:b_}{H:Hp}:∀ns:List Int,DVs K H (ns.map V.int) (ns.map K0)
 | []=>.nil
 | n::ns=>.cons (.int n) (DVs.ints ns)
theorem kA:∀ns ms:List Int,JU (ns.map K0) (ms.map K0)=decide (ns=ms)
 | [],[]=>by simp [JU]
 | [],_::_=>by simp [JU]
 | _::_,[]=>by simp [JU]
 | a::r,b::t=>by
  simp only [map_cons,JU,JO,kA r t]
  by_cases h:a=b <;> by_cases h':r=t <;> simp [h,h']
def qy:MtR X "str.endswith" (λx xs H Q=>∃a b,x=.str (S a)/\xs=[.str (S b)]/\Q (.bl (decide (b <:+ a))) H):=by
 intro pins s σ H x xs v us Q I rx rs h;obtain⟨a,b,rfl,rfl,q⟩:=h;obtain⟨t,rfl⟩:=rx;obtain⟨u,rfl,t',rfl⟩:=gK rs
 have e:Txt.endswith (S a) (S b)=decide (b <:+ a):=by
  unfold Txt.endswith JG;rw [dC,dC]
  have e1:((S a).cps.extract (a.length - b.length) (a.length - b.length+b.length))=((a.drop (a.length - b.length)).take b.length).toArray:=by
   show a.toArray.extract _ _=_;rw [extract_toArray,extract_eq_take_drop];have e2:a.length - b.length+b.length - (a.length - b.length)=b.length:=by omega
   rw [e2]
  rw [e1]
  by_cases h:b <:+ a
  .rw [decide_eq_true h];have hl:=h.length_le;have hd:a.drop (a.length - b.length)=b:=(Kx.mp h).symm;rw [hd];simp [S,hl]
  .rw [decide_eq_false h]
   by_cases hl:b.length<=a.length
   .have hne:¬ (a.drop (a.length - b.length)).take b.length=b:=λz=>h (by
     rw [Ig (by rw [length_drop];omega)] at z;exact Kx.mpr z.symm)
    simp only [and_eq_false_imp];intro _;show (((a.drop (a.length - b.length)).take b.length).toArray == b.toArray)=false;rw [beq_eq_false_iff_ne];intro z;exact hne (by simpa using congrArg KO z)
   .rw [decide_eq_false (by omega)];rfl
 exact SC.endswith ⟨.bl _,H,I,rfl,by rw [e];exact q⟩
end
section
variable {X:Cx}{a b:Expr}{ta tb:TE}{pos:Pos}
def bQ{x:Str}{l:List Nat}{j:Nat}(h:x=S l):PE X (.Constant (.str x) j pos) (tC (.str (S l))):=by
 subst h;exact Bq
def u8:bj X (.builtin "len") (λxs H Q=>∃l,xs=[.str (S l)]/\l.length<=sizeLine/\Q (.int l.length) H):=by
 intro pins s σ H xs us Q I r h;obtain⟨l,rfl,hz,q⟩:=h;exact oZ pins s σ H _ us Q I r ⟨S l,rfl,by rw [dC];exact hz,by rw [dC];exact q⟩
noncomputable def BV:R2:=λx y H Q=>∃l i c,x=.str (S l)/\y=.int i/\l.length<=sizeLine/\atI l i=some c/\Q (.str (S [c])) H
def zH:IxR X BV:=by
 intro value slice pins s σ H x y v u Q I rx ry q hs;obtain⟨l,i,c,rfl,rfl,hz,ha,q⟩:=q;exact BH value slice pins s σ H _ _ v u Q I rx ry ⟨S l,i,c,rfl,rfl,by rw [dC];exact hz,ha,q⟩ hs
def zI:OpR X (binaryOp .Add) (λx y H Q=>∃i j,x=.str (S i)/\y=.str (S j)/\i.length+j.length<=sizeLine/\Q (.str (S (i++j))) H):=by
 intro pins s σ H x y v u Q I rx ry h;obtain⟨i,j,rfl,rfl,hz,q⟩:=h;exact sR pins s σ H _ _ v u Q I rx ry ⟨S i,S j,rfl,rfl,by rw [dC,dC];exact hz,by rw [tu];exact q⟩
def BW:OpR X (compareOp .Eq) (λx y H Q=>∃i j,x=.str (S i)/\y=.str (S j)/\Q (.bl (decide (i=j))) H):=by
 intro pins s σ H x y v u Q I rx ry h;obtain⟨i,j,rfl,rfl,q⟩:=h;exact El pins s σ H _ _ v u Q I rx ry ⟨rfl,by rw [BO];exact q⟩
def BX:OpR X (compareOp .NotEq) (λx y H Q=>∃i j,x=.str (S i)/\y=.str (S j)/\Q (.bl (!decide (i=j))) H):=by
 intro pins s σ H x y v u Q I rx ry h;obtain⟨i,j,rfl,rfl,q⟩:=h;exact Em pins s σ H _ _ v u Q I rx ry ⟨rfl,by rw [BO];exact q⟩
def BY:OpR X (compareOp .Eq) (rI0 λi j=>.bl (decide (i=j))):=A5 λ_ _ _ _ _ _ _ q=>eq_int (by rw [beq_eq_decide_eq];exact q)
def BZ:OpR X (compareOp .NotEq) (rI0 λi j=>.bl (!decide (i=j))):=A5 λ_ _ _ _ _ _ _ q=>ne_int (by rw [bne,beq_eq_decide_eq];exact q)
def u9:bj X (.builtin "len") (λxs H Q=>∃p ys,xs=[.ref p]/\SqL X.K H p ys/\Q (.int ys.length) H):=by
 intro pins s σ H xs us Q I r h;obtain⟨p,ys,e,hq,q⟩:=h;exact jP pins s σ H xs us Q I r ⟨p,ys,e,.inl hq,q⟩
def va:bj X (.builtin "len") (λxs H Q=>∃p ys,xs=[.ref p]/\SqT X.K H p ys/\Q (.int ys.length) H):=by
 intro pins s σ H xs us Q I r h;obtain⟨p,ys,e,hq,q⟩:=h;exact jP pins s σ H xs us Q I r ⟨p,ys,e,.inr hq,q⟩
end
structure Cal (P:r_) (w:World) (K:b_) (mg:Str->Option Value) (base:Heap) (k:Nat) (x:Str) (ps:List Str) (sp:Sp):Prop where
 ex:∃(f:Addr) (fd:HH),lL P w K mg base CX0 k f fd ps sp/\iK K fd ps []/\u_ K (.ref f)=true/\mg x=some (.ref f)/\∃oc od osl,K.lookup f=some ⟨oc,od,.func fd,osl⟩
structure bh (K:b_) (mg:Str->Option Value) (x:Str) (st:Stmt):Prop where
 ex:∃(f:Addr) (fd:HH),Fun K x x st f fd/\mg x=some (.ref f)
section
variable {P:r_}{w:World}{K:b_}{mg:Str->Option Value}{base:Heap}{x:Str}{st:Stmt}{N ps:List Str}{k:Nat}{sp:Sp}
def bh.ok(D:bh K mg x st)(S:aD N ps (ag st))
  (hb:∀(kV doc pm:Value) (an:Option Addr) (cdv ct:Value) (us:List Value),us.length=ps.length->bindArgs (Hb x x (bC st) (aS st) (ag st) .none kV doc pm an cdv ct) ⟨us,[]⟩=pure (ps.zip us))
  (len:∀vs H Q E,sp vs H Q E->vs.length=ps.length)
  (hbody:∀(f:Addr) (cdv:Value) (A:w_) (outer:List Env) (s:d_) (H:Hp) (vs:List V) (Q:VK) (E:XK),dR k (A.deeper (envOfC x (ag st) s.heap.objs.size f cdv))->sp vs H Q E ->
   ∃t,PSs (lM CX0 P w K mg base N x (ag st) f cdv A outer s H E).nox (aS st) t/\t { nx:=λ_ H'=>Q .non H',rt:=Q } (start N vs) H):Cal P w K mg base (k+1) x ps sp:=by
 obtain⟨f,fd,F,hm⟩:=D.ex
 have lk:∃oc od osl,K.lookup f=some ⟨oc,od,.func fd,osl⟩:=by
  obtain⟨oc,od,kV,doc,pm,an,cdv,ct,osl,rfl,lk,hcd⟩:=F.ex;exact⟨oc,od,osl,lk⟩
 exact⟨f,fd,F.ok S len λcdv A outer s H vs Q E hr h=>hbody f cdv A outer s H vs Q E hr h,F.binds hb,F.kp,hm,lk⟩
def bh.mk'{K:b_}{h:Heap}{mg:Str->Option Value}{x:Str}{st:Stmt}{f:Addr}{oc:Value}{od an:Option Addr}{osl:Array (Option Value)}{kV doc pm cdv ct:Value}(X:K.In h)(G:h.Ns mainGlobals mg)
  (a:v_ K mainGlobals x=some (some (.ref f))) (l:K.lookup f=some ⟨oc,od,.func (Hb x x (bC st) (aS st) (ag st) .none kV doc pm an cdv ct),osl⟩)
  (c:HF K cdv x=true) (k:u_ K (.ref f)=true):bh K mg x st:=⟨f,_,ku (st:=st) l c k,Hr X G a⟩
end
section
variable {X:Cx}{k:Nat}{x:Str}{ps:List Str}{sp:Sp}{p pos:Pos}{e:Expr}{es:List Expr}{t:TA}
def B0(C:Cal X.prog X.w X.K X.mg X.base k x ps sp)(hr:dR k X.A)(ha:PA X (e::es) t)(hg:Gl X x:=by rfl)(hdb:(x == ("__debug__":Str))=false:=by decide)(he:starEach (e::es) X.env=(false,eval e X.env)::starEach es X.env:=by rfl)
  (hpl:(backTo pos (starEach es X.env)).any (·.1)=false:=by rfl):PE X (.Call (.Name x p) (e::es) [] pos) (dB sp [] E0 t):=by
 obtain⟨f,fd,F,hb,hk,hm,_⟩:=C.ex;exact uM F hr hg hm hk hb .nil xB ha hdb he hpl
end
noncomputable def tD(K:b_):Sp:=λvs H Q _=>∃(a:Addr) (ns:List Int),vs=[.ref a]/\SqL K H a (ns.map V.int)/\ns.length<=63/\∀H',Q (.bl true) H'
def B1{P:r_}{w:World}{K:b_}{mg:Str->Option Value}{fa:Addr}{st:Stmt}{k:Nat}{x:Str}(hfa:mg "law"=some (.ref fa))(D:bh K mg "law" st)
  (hbind:∀(kV doc pm:Value) (an:Option Addr) (cdv ct:Value) (s:d_) (v:Value),KQ s (Hb "law" "law" (bC st) (aS st) (ag st) .none kV doc pm an cdv ct) ⟨[v],[]⟩ [(x,v)])
  (h:∀base:Heap,Cal P w K mg base k "law" [x] (tD K)) :
  ∃fd:HH,(∀(s:d_) (v:Value),KQ s fd ⟨[v],[]⟩ [(x,v)])/\∀base:Heap,K.In base->base.Ns mainGlobals mg->lL P w K mg base CX0 k fa fd [x] (tD K):=by
 obtain⟨f,fd,F,hm⟩:=D.ex;have e:=hfa.symm.trans hm;cases e;obtain⟨oc,od,kV,doc,pm,an,cdv,ct,osl,rfl,lk,hcd⟩:=F.ex;refine⟨_,λs v=>hbind kV doc pm an cdv ct s v,λbase kb nb=>?_⟩;obtain⟨f',fd',F',_,_,hm',oc',od',osl',lk'⟩:=(h base).ex;have e:=hfa.symm.trans hm';cases e;rw [lk] at lk';cases lk';exact F'
def B2{l:K6}{q:r_}{loose:List Str}{XP:(Str->Option Value)->Heap->Prop}{YP:World->Heap->Prop}{d:DefRec}{K:Kn->b_}{k:Nat}{x:Str}(hn:l.most=some 63)(hdf:d.params.defaults=[])(hr:dR k callerA)
  (hY:∀(w:World) (h:Heap),YP w h->(K w.params).In h)
  (F:∀(w:World) (mg:Str->Option Value) (fa:Addr) (h:Heap),(K w.params).In h->h.Ns mainGlobals mg->mg d.name=some (.ref fa) ->
   ∃fd:HH,(∀(s:d_) (u:Value),KQ s fd ⟨[u],[]⟩ [(x,u)])/\∀base:Heap,(K w.params).In base->base.Ns mainGlobals mg->lL l.prog w (K w.params) mg base CX0 k fa fd [x] (tD (K w.params))) :
  PySem.W.WalkO q loose XP YP l.row.toRowW d [] (λf vs=>PySem.call f vs) :=
 zF (n:=63) (k:=k) (x:=x) (CX:=λ_=>CX0) (sp:=λw=>tD (K w.params)) hn (by decide) hdf hr hY F (λ_ _ a ns hl _ hS=>⟨a,ns,rfl,hS,hl,λ_=>rfl⟩) λ_ _ _ _ _ z=>z
def zJ{α β:Type}{f:α->β}{xs:List α}{i:Int}{v:α}(h:atI xs i=some v):atI (xs.map f) i=some (f v):=by
 unfold atI at h ⊢;rw [length_map]
 cases e:ixN xs.length i with
 | none=>rw [e] at h;cases h
 | some j =>
  rw [e] at h;show (xs.map f)[j]?=some (f v);have h':xs[j]?=some v:=h;rw [q_,h'];rfl
def kB{α:Type}{xs:List α}{i:Int}{j:Nat}{v:α}(h:xs[j]?=some v)(e:i=(j:Int)):atI xs i=some v:=by subst e;exact zA h
noncomputable def fn(l:List Nat)(t:Nat):Nat:=l.getD t 0
def yF{l:List Nat}{t:Nat}(h:t<l.length):l[t]?=some (fn l t):=by
 unfold fn;rw [o_,gV h];rfl
def sz(n:Nat)(h:n<=1000000):n<=sizeLine:=by rw [Jw];omega
def xC{ns:List Int}{i:Nat}{x:V}(h:(ns.map V.int)[i]?=some x):∃z,ns[i]?=some z/\x=.int z:=by
 rw [q_] at h
 cases e:ns[i]? with
 | none=>rw [e] at h;cases h
 | some z=>rw [e] at h;exact⟨z,rfl,(we h).symm⟩
section
variable {X:Cx}{st:Stmt}{t:TS}
noncomputable def B3(t:TS):TS:=λD σ H=>∃J:St->Hp->Prop,t { D with nx:=J } σ H/\∀σ' H',J σ' H'->D.nx σ' H'
def nF(h:PS X st t):PS X st (B3 t):=by
 intro pins s σ H D I q;obtain⟨J,q1,q2⟩:=q;refine thn (h pins s σ H _ I q1) λf s' r=>?_
 cases f with
 | next=>obtain⟨σ',H',I',r'⟩:=r;exact⟨σ',H',I',q2 σ' H' r'⟩
 | brk=>exact r
 | cont=>exact r
 | ret u=>exact r
end
def xD{α β:Type}(f:α->β)(xs:List α)(lo hi:Option Int):dU (xs.map f) lo hi=(dU xs lo hi).map f:=by
 unfold dU;rw [length_map,map_take,map_drop]
def xE{α:Type}(l:List α){k:Int}(h:0<=k):dU l none (some k)=l.take k.toNat:=by
 have e:k=((k.toNat:Nat):Int):=by omega
 rw [e,kv];rfl
theorem dD{x:Str}{c:Addr}:∀(names:List (Str×HX)) (n:Nat) (acc:List (Str×Addr)),(cellsFrom n names acc).lookup x=some c->(n<=c/\(x,IY)∈names)\/acc.lookup x=some c
 | [],n,acc,h=>.inr h
 | (y,k)::r,n,acc,h=>by
  unfold cellsFrom at h
  split at h
  .rename_i hk;have hk':k=.cell:=by simpa using hk
   subst hk'
   rcases dD r (n+1) ((y,n)::acc) h with ⟨h1,h2⟩|h1
   .exact .inl ⟨by omega,p_ _ h2⟩
   .rw [HZ] at h1
    cases e:x == y with
    | true =>
     rw [e] at h1;have:n=c:=we h1;have ex:x=y:=by simpa using e
     subst ex;exact .inl ⟨by omega,mem_cons_self⟩
    | false=>rw [e] at h1;exact .inr h1
  .rcases dD r n acc h with ⟨h1,h2⟩|h1
   .exact .inl ⟨h1,p_ _ h2⟩
   .exact .inr h1
theorem fc{x:Str}:∀(names:List (Str×HX)) (n:Nat) (acc:List (Str×Addr)),(x,IY)∉names->(cellsFrom n names acc).lookup x=acc.lookup x
 | [],_,_,_=>rfl
 | (y,k)::r,n,acc,h=>by
  unfold cellsFrom
  split
  .rename_i hk;have hk':k=.cell:=by simpa using hk
   subst hk';rw [fc r (n+1) _ (λz=>h (p_ _ z)),HZ]
   have:(x == y)=false:=by
    rw [beq_eq_false_iff_ne];intro e;subst e;exact h mem_cons_self
   rw [this]
  .exact fc r n acc (λz=>h (p_ _ z))
theorem fe{x y:Str}{c:Addr}:∀(names:List (Str×HX)) (n:Nat) (acc:List (Str×Addr)),(∀z d,acc.lookup z=some d->d<n) ->
  (cellsFrom n names acc).lookup x=some c->(cellsFrom n names acc).lookup y=some c->n<=c->x=y
 | [],n,acc,ha,h1,h2,hc=>absurd (ha x c h1) (not_lt.mpr hc)
 | (z,k)::r,n,acc,ha,h1,h2,hc=>by
  unfold cellsFrom at h1 h2
  split at h1
  .rename_i hk;rw [if_pos hk] at h2
   have ha':∀w d,((z,n)::acc).lookup w=some d->d<n+1:=λw d e=>by
    rw [HZ] at e
    cases q:w == z with
    | true=>rw [q] at e;cases e;exact Kf _
    | false=>rw [q] at e;exact JV (ha w d e)
   by_cases hcn:n+1<=c
   .exact fe r (n+1) _ ha' h1 h2 hcn
   .have e:c=n:=le_antisymm (not_lt.mp hcn) hc;subst e
    have key:∀w:Str,(cellsFrom (c+1) r ((z,c)::acc)).lookup w=some c->w=z:=λw hw=>by
     rcases dD r (c+1) _ hw with ⟨q,_⟩|q
     .exact absurd q (not_succ_le_self _)
     .rw [HZ] at q
      cases q2:w == z with
      | true=>simpa using q2
      | false=>rw [q2] at q;exact absurd (ha w c q) (HA _)
    rw [key x h1,key y h2]
  .rename_i hk;rw [if_neg hk] at h2;exact fe r n acc ha h1 h2 hc
noncomputable def iq(env:Env):List (Str×HX)->List (Str×Addr)->List (Str×Addr)
 | [],acc=>acc
 | (n,k)::r,acc=>if (k == .free)=true then iq env r ((n,(env.cells.lookup n).getD 0)::acc) else iq env r acc
theorem fh{env:Env}{x:Str}{c:Addr}:∀(names:List (Str×HX)) (acc:List (Str×Addr)),(iq env names acc).lookup x=some c->((x,Jq)∈names/\c=(env.cells.lookup x).getD 0)\/acc.lookup x=some c
 | [],acc,h=>.inr h
 | (y,k)::r,acc,h=>by
  unfold iq at h
  split at h
  .rename_i hk;have hk':k=.free:=by simpa using hk
   subst hk'
   rcases fh r _ h with ⟨h1,h2⟩|h1
   .exact .inl ⟨p_ _ h1,h2⟩
   .rw [HZ] at h1
    cases e:x == y with
    | true =>
     rw [e] at h1;have ex:x=y:=by simpa using e
     subst ex;exact .inl ⟨mem_cons_self,(we h1).symm⟩
    | false=>rw [e] at h1;exact .inr h1
  .rcases fh r acc h with ⟨h1,h2⟩|h1
   .exact .inl ⟨p_ _ h1,h2⟩
   .exact .inr h1
theorem iM{env:Env}{x:Str}:∀(names:List (Str×HX)) (acc:List (Str×Addr)),((x,Jq)∈names\/(acc.lookup x).isSome=true)->((iq env names acc).lookup x).isSome=true
 | [],acc,h=>h.elim (λz=>nomatch z) id
 | (y,k)::r,acc,h=>by
  unfold iq
  split
  .rename_i hk;refine iM r _ ?_
   by_cases e:(x == y)=true
   .exact .inr (by rw [HZ,e];rfl)
   .rcases h with h|h
    .rcases mem_cons.mp h with z|z
     .cases z;exact absurd (by simp) e
     .exact .inl z
    .exact .inr (by rw [HZ];rw [not_eq_true] at e;rw [e];exact h)
  .rename_i hk;refine iM r acc ?_
   rcases h with h|h
   .rcases mem_cons.mp h with z|z
    .cases z;exact absurd rfl hk
    .exact .inl z
   .exact .inr h
def fR{scope:Scope}{env:Env}(h:∀x∈scope.names,x.2=.free->∃c,env.cells.lookup x.1=some c):closureFor scope env=pure (iq env scope.names []):=by
 unfold closureFor
 have key:∀(names:List (Str×HX)) (acc:List (Str×Addr)),(∀x∈names,x.2=.free->∃c,env.cells.lookup x.1=some c) ->
   (forIn names acc λ(x:Str×HX) (r:List (Str×Addr))=>(if (x.2 == Jq)=true then do let y <- cellOf env x.1;pure (HS ((x.1,y)::r)) else pure (HS r):Sem _))=pure (iq env names acc):=by
  intro names
  induction names with
  | nil=>intro acc _;rfl
  | cons p r ih =>
   intro acc hp;obtain⟨n,k⟩:=p;rw [forIn_cons];have hr:∀x∈r,x.2=.free->∃c,env.cells.lookup x.1=some c:=λx hx=>hp x (p_ _ hx);unfold iq
   by_cases hk:(k == Jq)=true
   .obtain⟨c,hc⟩:=hp (n,k) mem_cons_self (by simpa using hk);have hc':env.cells.lookup n=some c:=hc;have e1:cellOf env n=pure c:=by unfold cellOf;rw [hc']
    simp only [hk,if_true];rw [e1,hc'];simp only [pure_bind];exact ih _ hr
   .rw [if_neg hk,if_neg hk];simp only [pure_bind];exact ih _ hr
 have e:=key scope.names [] h;have e2:∀(m:Sem (List (Str×Addr))),(m >>= λr=>pure r)=m:=λm=>bind_pure m;rw [<- e]
 first
  | rfl
  | exact (e2 _)
noncomputable def nG(scope:Scope)(C:Addr)(env:Env):Env :=
 { scope:=relabel scope env,locals:=C,globals:=env.globals,cells:=cellsFrom (C+1) scope.names (iq env scope.names []),qual:=env.qual,func:=none,code:=env.code,frame:=env.frame,builtins:=env.builtins }
noncomputable def aY(X:Cx)(N':List Str)(scope:Scope)(s:d_)(H:Hp)(fp:List Addr)(pins:List (Addr×Obj)):Cx :=
 { X with N:=N',s₀:=s,H₀:=H,env:=nG scope s.heap.objs.size X.env,outer:=X.stack,stack:=X.stack,ex:=fp,fn:=λx=>decide ((x,IY)∈scope.names),pn:=X.pn++pins,xe:=λ_ _=>False }
noncomputable def kC(sc0:Scope)(N:List Str)(scope:Scope)(N':List Str)(ix:List (Option Nat)):Bool :=
 decide (scope.kind=.function) && scope.names.all (λy=>(!decide (y.2=.local) || decide (scope.names.lookup y.1=some .local)) &&
  (!decide (y.2=.free) || ((decide (sc0.names.lookup y.1=some .cell) || decide (sc0.names.lookup y.1=some .free)) && !decide ((y.1,IY)∈scope.names)))) &&
 decide (N'.length=ix.length) && (N'.zip ix).all (λp=>match p.2 with|none=>true|some j=>decide (N[j]?=some p.1) && decide (scope.names.lookup p.1=some .free))
structure rV (env:Env) (N:List Str) (scope:Scope) (N':List Str) (ix:List (Option Nat)):Prop where
 kind:scope.kind=.function
 loc:∀y∈scope.names,y.2=.local->scope.names.lookup y.1=some .local
 free:∀y∈scope.names,y.2=.free->(env.kindOf y.1=some .cell\/env.kindOf y.1=some .free)/\(y.1,IY)∉scope.names
 len:N'.length=ix.length
 slot:∀(i:Nat) (x:Str) (j:Nat),N'[i]?=some x->ix[i]?=some (some j)->N[j]?=some x/\scope.names.lookup x=some .free
def kE{env:Env}{N:List Str}{scope:Scope}{N':List Str}{ix:List (Option Nat)}(h:kC env.scope N scope N' ix=true):rV env N scope N' ix:=by
 unfold kC at h;simp only [and_eq_true,decide_eq_true_eq,Hj] at h;obtain⟨⟨⟨h1,h2⟩,h3⟩,h4⟩:=h
 refine⟨h1,λy hy e=>?_,λy hy e=>?_,h3,λi x j e1 e2=>?_⟩
 .have:=(h2 y hy).1;rw [e] at this;simpa using this
 .have:=(h2 y hy).2;rw [e] at this;simpa [Env.kindOf] using this
 .have hm:(x,some j)∈N'.zip ix:=by
   refine F_ (i:=i) ?_;rw [getElem?_zip_eq_some];exact⟨e1,e2⟩
  have:=h4 _ hm;simpa using this
noncomputable def rlf(env:Env)(p:Str×HX):Str×HX:=match p with|(n,k)=>if (k == Jq && env.scope.kind == .function && env.kindOf n == some .cell) then (n,.cell) else (n,k)
def vb(env:Env)(n:Str)(k:HX):∃k',rlf env (n,k)=(n,k')/\(k'=k\/(k=.free/\k'=.cell)):=by
 unfold rlf
 by_cases c:(k == Jq && env.scope.kind == .function && env.kindOf n == some .cell)=true
 .refine⟨.cell,if_pos c,.inr ⟨?_,rfl⟩⟩;simp only [and_eq_true,beq_iff_eq] at c;exact c.1.1
 .exact⟨k,if_neg c,.inl rfl⟩
theorem rW{env:Env}:∀{names:List (Str×HX)}{x:Str},names.lookup x=some .free->(names.map (rlf env)).lookup x=some .cell\/(names.map (rlf env)).lookup x=some .free
 | [],_,h=>by simp at h
 | (n,k)::r,x,h=>by
  have ih:=@rW env r x;obtain⟨k',e,hk'⟩:=vb env n k;rw [map_cons,e]
  cases hx:x == n with
  | true =>
   simp only [HZ,hx] at h ⊢;have hk:k=.free:=we h
   rcases hk' with z|z
   .right;rw [z,hk]
   .left;rw [z.2]
  | false =>
   simp only [HZ,hx] at h ⊢;exact ih h
theorem nH{env:Env}:∀{names:List (Str×HX)}{x:Str}{k':HX},(names.map (rlf env)).lookup x=some k'->k'=.cell\/k'=.free->names.lookup x=some .cell\/names.lookup x=some .free
 | [],_,_,h,_=>by simp at h
 | (n,k)::r,x,k',h,hk'=>by
  have ih:=@nH env r x k';obtain⟨k2,e,hk2⟩:=vb env n k;rw [map_cons,e] at h
  cases hx:x == n with
  | true =>
   simp only [HZ,hx] at h ⊢;have:k2=k':=we h;subst this
   rcases hk2 with z|z
   .rw [<- z]
    rcases hk' with q|q
    .left;rw [q]
    .right;rw [q]
   .right;rw [z.1]
  | false =>
   simp only [HZ,hx] at h ⊢;exact ih h hk'
def pd{x:Str}{c:Addr}:∀(names:List (Str×HX)) (n:Nat) (acc:List (Str×Addr)),(cellsFrom n names acc).lookup x=some c->(x,c)∈cellsFrom n names []\/acc.lookup x=some c:=by
 have app:∀(names:List (Str×HX)) (n:Nat) (acc:List (Str×Addr)),cellsFrom n names acc=cellsFrom n names []++acc:=by
  intro names
  induction names with
  | nil=>intro n acc;rfl
  | cons p r ih =>
   intro n acc;obtain⟨y,k⟩:=p;unfold cellsFrom
   split
   .rw [ih (n+1) ((y,n)::acc),ih (n+1) [(y,n)],KY];rfl
   .exact ih n acc
 intro names n acc h;rw [app] at h;rw [lookup_append] at h
 cases e:(cellsFrom n names []).lookup x with
 | some d =>
  rw [e] at h;have:d=c:=by simpa using h
  subst this;exact .inl (mem_of_lookup e)
 | none=>rw [e] at h;exact .inr (by simpa using h)
noncomputable def pq(ix:List (Option Nat))(σ:St):St:=ix.map λo=>match o with
 | none=>none
 | some j=>match σ[j]? with
  | some v=>v
  | none=>none
section
variable {X:Cx}{pins:List (Addr×Obj)}{σ:St}{H:Hp}{s:d_}
def rX{N':List Str}{ix:List (Option Nat)}{scope:Scope}{fp:List Addr}(ok:rV X.env X.N scope N' ix)(I:Inv X pins σ H s)(hf:∀b∈fp,qq X pins H b)(hfl:∀b∈fp,b<s.heap.objs.size) :
  Inv (aY X N' scope s H fp pins) [] (pq ix σ) H { s with heap:=pushCells (s.heap.push { cls:=.type "dict",data:=.dict #[] }) scope.names }:=by
 have hk4:∀b o,s.heap.get? b=some o->(pushCells (s.heap.push { cls:=.type "dict",data:=.dict #[] }) scope.names).get? b=some o:=λb o e=>J8 _ _ b o (c_ _ e)
 have hclo:∀x c,(iq X.env scope.names []).lookup x=some c->X.env.cells.lookup x=some c:=λx c e=>by
  rcases fh scope.names [] e with ⟨h1,h2⟩|h1
  .obtain⟨d,hd⟩:=I.ok.has x (ok.free _ h1 rfl).1;rw [hd] at h2 ⊢;rw [h2];rfl
  .cases h1
 have hcl:∀x c,X.env.cells.lookup x=some c->c<s.heap.objs.size:=λx c e=>by
  obtain⟨v,q⟩:=I.cell x c e;exact q.lt
 have own:=cellsFrom_ok scope.names (s.heap.push { cls:=.type "dict",data:=.dict #[] }) (s.heap.objs.size+1) [] ⟨λ_ _ hm=>(nomatch hm),List.Pairwise.nil⟩ (by rw [Hc];exact so _);rw [Hc] at own
 have cases:∀x c,(cellsFrom (s.heap.objs.size+1) scope.names (iq X.env scope.names [])).lookup x=some c ->
   ((pushCells (s.heap.push { cls:=.type "dict",data:=.dict #[] }) scope.names).IsCell c none/\s.heap.objs.size+1<=c)\/X.env.cells.lookup x=some c:=λx c e=>by
  rcases pd _ _ _ e with h|h
  .exact .inl (own.empty x c h)
  .exact .inr (hclo x c h)
 have fs':∀b,b∈frs X.stack->b<s.heap.objs.size:=λb hb=>by
  rcases mem_cons.mp (I.stkSub b hb) with z|z
  .rw [z];exact I.lt
  .by_cases q:b<s.heap.objs.size
   .exact q
   .exact absurd z (I.nofs (not_lt.mp q))
 have cix:(aY X N' scope s H fp pins).Ok:=by
  refine⟨I.ok.mod,ok.kind,I.ok.glob,I.ok.blt,so _,λx y c h1 h2=>?_,λx hx=>?_,λx c hx e=>?_,I.ok.hd,I.ok.frames,.inl rfl,λb hb=>⟨Hi (hfl b hb),λx c e=>?_⟩,λb o e=>I.bs b o e,E_ I.ok.bsz I.sz,λb o e hb=>?_,λb hb=>?_,I.stack,I.stkFree,I.ok.tb.un I.base⟩
  .rcases cases x c h1 with ⟨_,z⟩|z
   .exact fe scope.names _ _ (λw d e=>JV (hcl w d (hclo w d e))) h1 h2 z
   .rcases cases y c h2 with ⟨_,z2⟩|z2
    .exact absurd (hcl x c z) (not_lt.mpr (JW z2))
    .exact I.ok.inj x y c z z2
  .have hx':scope.names.lookup x=some .cell\/scope.names.lookup x=some .free:=by
    rcases hx with z|z
    .exact nH (env:=X.env) z (.inl rfl)
    .exact nH (env:=X.env) z (.inr rfl)
   rcases hx' with z|z
   .exact II.mp (IT scope.names _ _ (.inl z))
   .exact II.mp (IT scope.names _ _ (.inr (iM _ _ (.inl (mem_of_lookup z)))))
  .have hx':(x,IY)∈scope.names:=of_decide_eq_true hx
   rcases cases x c e with ⟨_,z⟩|z
   .exact JW z
   .rcases pd _ _ _ e with h|h
    .exact JW (own.empty x c h).2
    .rcases fh scope.names [] h with ⟨h1,_⟩|h1
     .exact absurd hx' (ok.free _ h1 rfl).2
     .cases h1
  .intro z
   rcases cases x c e with ⟨_,z2⟩|z2
   .rw [z] at z2;exact absurd (hfl b hb) (not_lt.mpr (JW z2))
   .exact (hf b hb).2.2.2.2.1 x c z2 z
  .rcases (hf b hb).2.2.2.1 with z|z
   .exact I.ok.noex b o e z
   .exact absurd (l_ (I.ok.bs b o e).1) (not_lt.mpr z)
  .intro z
   rcases mem_cons.mp (I.stkSub b z) with q|q
   .exact (hf b hb).2.1 q
   .exact (hf b hb).2.2.1 q
 refine⟨cix,rfl,I.bare,Un.kept hk4,⟨λ_=>none,?_,λi x v e1 e2 e3=>?_⟩,λx c e=>?_,I.hok.fresh (so _),λx c e=>?_,λp hp=>?_,I.hok.kept hk4,?_⟩
 .exact (Heap.Ns.new s.heap (.type "dict")).keeps (J8 _ _)
 .have e2':∃j,ix[i]?=some (some j)/\σ[j]?=some (some v):=by
   unfold pq at e2;rw [q_] at e2
   cases q:ix[i]? with
   | none=>rw [q] at e2;cases e2
   | some o =>
    rw [q] at e2
    cases o with
    | none=>cases (we e2)
    | some j =>
     refine⟨j,rfl,?_⟩;have e2'':(match σ[j]? with|some v=>v|none=>none)=some v:=we e2
     cases r:σ[j]? with
     | none=>rw [r] at e2'';cases e2''
     | some w=>rw [r] at e2'';exact congrArg some e2''
  obtain⟨j,hj,hv⟩:=e2';obtain⟨hN,hfr⟩:=ok.slot i x j e1 hj;have hk:=(ok.free _ (mem_of_lookup hfr) rfl).1
  have hvis:Vis X.env.scope x:=by
   rcases hk with z|z
   .exact .inr (.inl z)
   .exact .inr (.inr z)
  obtain⟨m,hn,hl⟩:=I.loc;obtain⟨u,ru,lk⟩:=hl j x v hN hv hvis
  refine⟨u,ru,.inr ⟨?_,?_⟩⟩
  .exact rW (env:=X.env) hfr
  .rcases lk with ⟨z,_⟩|⟨_,c,hc,hcell⟩
   .rcases hk with q|q
    .rw [z] at q;cases q
    .rw [z] at q;cases q
   .refine⟨c,?_,hcell.keeps hk4⟩;show (cellsFrom (s.heap.objs.size+1) scope.names (iq X.env scope.names [])).lookup x=some c;rw [fc scope.names _ _ (ok.free _ (mem_of_lookup hfr) rfl).2];obtain⟨d,hd⟩:=II.mp (iM (env:=X.env) scope.names [] (.inl (mem_of_lookup hfr)));rw [hd,<- hclo x d hd,hc]
 .rcases cases x c e with ⟨z,_⟩|z
  .exact⟨none,z⟩
  .obtain⟨v,q⟩:=I.cell x c z;exact⟨v,q.keeps hk4⟩
 .rcases cases x c e with ⟨_,z⟩|z
  .exact I.hok.fresh (JW z)
  .exact I.freeC x c z
 .have hp':p∈X.pn++pins:=by simpa [aY] using hp
  obtain⟨q1,q2,q3,q4,q5⟩:=I.pin p hp';refine⟨hk4 _ _ q1,q2,Hi (l_ q1),λz=>?_,q5⟩
  rcases mem_cons.mp (I.stkSub p.1 z) with q|q
  .exact q3 q
  .exact q4 q
 .unfold pq;rw [length_map];exact ok.len.symm
end
section
variable {M:Model}{A:w_}{E:Value->d_->Prop}{s:d_}
def dE{scope:Scope}{globals:Addr}{cl:List (Str×Addr)}{qual:Str}{func:Option Addr}{code:Value}{env:Env}{Q:Env->d_->Prop}
  (hQ:Q { scope:=scope,locals:=s.heap.objs.size,globals:=globals,cells:=cellsFrom (s.heap.objs.size+1) scope.names cl,qual:=qual,func:=func,code:=env.code,frame:=env.frame,builtins:=env.builtins }
   { s with heap:=pushCells (s.heap.push { cls:=.type "dict",data:=.dict #[] }) scope.names }) :
  wpAny M A (newFunctionEnv scope globals cl [] qual func code (some env)) Q E s:=by
 simp only [newFunctionEnv,Option.isSome_some,if_true];refine cy (wpAny_alloc ?_);refine cy (wpAny_layCells _ (λname kind cells=>by cases hkc:kind == IY <;> simp [hkc]) _ _ _ _ ?_);rw [show ({ s with heap:=s.heap.push { cls:=.type "dict",data:=.dict #[] } }:d_).heap.objs.size=s.heap.objs.size+1 from Hc ..];simp only [Lm];exact cy (e_ (e_ hQ))
end
section
variable {prog:r_}{w:World}{A:w_}{R:Result->d_->Prop}{s:d_}
theorem pz{elt target iter:Expr}{ifs:List Expr}{scope:Scope}{pos:Pos}{it acc:Value}{env:Env}(I:Nat->d_->Prop)
  (turn:∀n s,I n s->wpAny (model prog w) A (pyNext it) (λr s₁=>match r with
   | none=>R (.ok .next) s₁
   | some v=>wpAny (model prog w) A (letOwnedTupleGo target it v) (λ_ s₂=>wpAny (model prog w) A (assign target env v) (λ_ s₃ =>
     wpAny (model prog w) A (forIn ifs true λc r=>if r=true then do let ok <- isTrue c env (eval c env);pure (HS ok) else pure (HS r)) (λok s₄ =>
      if ok=true then wpAny (model prog w) A (eval elt env) (λx s₅ =>
       wpAny (model prog w) A (call (.builtin "list.append") [acc,x]) (λ_ s₆=>∃m,m<n/\I m s₆) (λ_ _=>False) s₅) (λ_ _=>False) s₄
      else ∃m,m<n/\I m s₄) (λ_ _=>False) s₃) (λ_ _=>False) s₂) (λ_ _=>False) s₁) (λ_ _=>False) s)
  (n:Nat) (h:I n s) :
  codeAny (model prog w) A (.compLoop (.ListComp elt [⟨target,iter,ifs,0⟩] scope pos) 0 it acc env) R s:=by
 refine codeAny_loop rfl I (λn s hI=>?_) n h;show wpAny _ A ((compTurn (.ListComp elt [⟨target,iter,ifs,0⟩] scope pos) 0 it acc env).onRaise (λx=>do noteFrame x env;theTreesLotGoes x)) _ _ s;refine wpAny_noted ?_;rw [compTurn_list];refine cy (HP (cy (Hg (turn n s hI) (λr s₁ h₁=>?_) λ_ _ h'=>h'.elim)))
 cases r with
 | none=>exact e_ h₁
 | some v =>
  refine cy (Hg h₁ (λ_ s₂ h₂=>?_) λ_ _ h'=>h'.elim);refine cy (Hg h₂ (λ_ s₃ h₃=>cy (Hg h₃ (λok s₄ h₄=>?_) λ_ _ h'=>h'.elim)) λ_ _ h'=>h'.elim)
  cases ok with
  | false=>exact e_ ⟨rfl,h₄⟩
  | true =>
   exact cy (cy (Hg h₄ (λx s₅ h₅=>cy (Hg h₅ (λ_ s₆ h₆=>e_ (e_ ⟨rfl,h₆⟩)) λ_ _ h'=>h'.elim)) λ_ _ h'=>h'.elim))
end
noncomputable def PIf(X:Cx)(ifs:List Expr)(t:TT):Prop :=
 ∀(pins:List (Addr×Obj)) (s:d_) (σ:St) (H:Hp) (Q:Bool->Hp->Prop),Inv X pins σ H s->t σ H Q ->
  wpAny (model X.prog X.w) X.A (forIn ifs true λc r=>if r=true then do let ok <- isTrue c X.env (eval c X.env);pure (HS ok) else pure (HS r)) (TP X pins σ Q) X.xe s
def oN:TT:=λ_ H Q=>Q true H
section
variable {X:Cx}
def cE:PIf X [] oN:=λ_ _ _ H _ I h=>wpAny_tests_nil ⟨H,I,h⟩
def jj{c:Expr}{t:TT}(h:PT X c t):PIf X [c] t:=λpins s σ H Q I q=>wpAny_tests_one (h pins s σ H Q I q)
end
noncomputable def vc(ix:List (Option Nat))(wi:TI)(g:TG)(tts:TT)(te:TE):TE:=λσ H Q=>wi σ H λJ H1=>∀D,H1 D=none->∃W:Nat->Nat->St->Hp->Prop,(∃m,W 0 m (pq ix σ) (upd H1 D (.lst [])))/\∀i m τ H2,W i m τ H2 ->
 (J.stop i H2/\Q (.ref D) H2)\/(J.go i H2/\∀x H3,J.yld i H2 x H3->g x τ H3 λτ2 H4=>tts τ2 H4 λok H5=>if ok=true then te τ2 H5 λv H6=>∃ys,H6 D=some (.lst ys)/\ys.length<sizeLine/\∃m',m'<m/\W (i+1) m' τ2 (upd H6 D (.lst (ys++[v])))
  else ∃m',m'<m/\W (i+1) m' τ2 H5)
section
variable {X:Cx}{tg iter elt:Expr}{ifs:List Expr}{scope:Scope}{N':List Str}{ix:List (Option Nat)}{wi:TI}{g:TG}{tts:TT}{te:TE}
def pA{use:Option (Value->Sem Unit)}{Qf:Value->d_->Prop}{pos p':Pos}{pins:List (Addr×Obj)}{σ:St}{H:Hp}{s:d_}{Q:VK}(hc:X.calm=true)(ok:rV X.env X.N scope N' ix)(hi:PI X tg iter wi)
  (blk:∀s H fp pn,PG (aY X N' scope s H fp pn) tg g/\PIf (aY X N' scope s H fp pn) ifs tts/\PE (aY X N' scope s H fp pn) elt te)
  (hs:∀x,foldedSetIterable iter X.env x=pure x) (I:Inv X pins σ H s) (hw:vc ix wi g tts te σ H Q)
  (fin:∀D C H' s',Inv X pins σ H' s'->Q (.ref D) H'->(∃m,s'.heap.Ns C m)->H' C=none->X.s₀.heap.objs.size<=C->C≠X.env.locals->(∀x c,X.env.cells.lookup x=some c->c≠C)->C∉X.fs->(∀p∈X.pn++pins,p.1≠C) ->
   compPost (model X.prog X.w) X.A X.xe use Qf (.ref D) C (.ok .next) s') :
  wpAny (model X.prog X.w) X.A (comprehension (.ListComp elt [⟨tg,iter,ifs,0⟩] scope pos) scope X.env p' (newList []) false (eval iter X.env) use) Qf X.xe s:=by
 have hclos:closureFor scope X.env=pure (iq X.env scope.names []):=fR λy hy e=>I.ok.has y.1 (ok.free y hy e).1;refine wpAny_comprehension_free (use:=use) rfl hs hclos ok.kind ok.loc (thn (hi pins s σ H _ I hw) λv s1 h1=>thn h1 λitv s2 h2=>?_);obtain⟨it,fp,tn,J,H2,e,I2,T,st2,f2,hW⟩:=h2;subst e;obtain⟨W,⟨m0,w0⟩,turn⟩:=hW s2.heap.objs.size (I2.hok.fresh (so _))
 have hfl:∀b∈fp,b<s2.heap.objs.size:=λb hb=>by
  obtain⟨o,e,_⟩:=T.obj 0 _ st2 b hb;exact l_ e
 refine HM ?_
 have I3:Inv X pins σ (upd H2 s2.heap.objs.size (.lst [])) { s2 with heap:=s2.heap.push { cls:=.type "list",dict:=none,data:=.seq ([]:List Value).toArray } } :=
  I2.laid (t':=s2.toks) (λb o e=>c_ _ e) (so _) (show bu X.prog X.w _ _ _ (.lst []) from ⟨Iy _,[],0,.nil,h_ _ rfl⟩)
 have st3:tn 0 (s2.heap.push { cls:=.type "list",dict:=none,data:=.seq ([]:List Value).toArray }):=T.keep 0 _ _ st2 λb _ o e=>c_ _ e;have f3:∀b∈fp,qq X pins (upd H2 s2.heap.objs.size (.lst [])) b:=λb hb=>⟨by rw [ar (Hi (hfl b hb))];exact (f2 b hb).1,(f2 b hb).2⟩
 have hfl3:∀b∈fp,b<(s2.heap.push { cls:=.type "list",dict:=none,data:=.seq ([]:List Value).toArray }).objs.size:=λb hb=>by rw [Hc];exact JV (hfl b hb)
 generalize hs3:({ s2 with heap:=s2.heap.push { cls:=.type "list",dict:=none,data:=.seq ([]:List Value).toArray } }:d_)=s3 at I3 ⊢;have eh3:s3.heap=s2.heap.push { cls:=.type "list",dict:=none,data:=.seq ([]:List Value).toArray }:=by rw [<- hs3]
 rw [<- eh3] at st3 hfl3;generalize hH3:upd H2 s2.heap.objs.size (.lst [])=H3 at I3 f3 w0;generalize hD:s2.heap.objs.size=D at *;refine dE ?_;have I4:=rX ok I3 f3 hfl3;obtain⟨hg,ht,he⟩:=blk s3 H3 fp pins;have st4:tn 0 (pushCells (s3.heap.push { cls:=.type "dict",data:=.dict #[] }) scope.names):=T.keep 0 _ _ st3 λb _ o e=>J8 _ _ b o (c_ _ e)
 have stat:∀{H':Hp},(∀b∈fp,H' b=none)->∀b∈fp,qq (aY X N' scope s3 H3 fp pins) [] H' b:=λhn b hb=>by
  refine⟨hn b hb,Hi (hfl3 b hb),I4.ok.exfs b hb,.inl hb,(I4.ok.exf b hb).2,λp hp=>?_⟩;have hp':p∈X.pn++pins:=by simpa [aY] using hp
  exact (f2 b hb).2.2.2.2.2 p hp'
 have loop:∀(s4:d_),Inv (aY X N' scope s3 H3 fp pins) [] (pq ix σ) H3 s4->tn 0 s4.heap ->
   codeAny (model X.prog X.w) X.A (.compLoop (.ListComp elt [⟨tg,iter,ifs,0⟩] scope pos) 0 (.ref it) (.ref D) (nG scope s3.heap.objs.size X.env)) (compPost (model X.prog X.w) X.A X.xe use Qf (.ref D) s3.heap.objs.size) s4:=by
  intro s4 I4 st4;refine pz (λn s'=>∃i τ H',Inv (aY X N' scope s3 H3 fp pins) [] τ H' s'/\tn i s'.heap/\(∀b∈fp,H' b=none)/\W i n τ H') ?_ m0 ⟨0,_,H3,I4,st4,λb hb=>(f3 b hb).1,w0⟩;rintro n s5 ⟨i,τ,H5,I5,st5,fr5,w5⟩
  rcases turn i n τ H5 w5 with ⟨stop,qn⟩|⟨go,step⟩
  .refine thn (T.done (aY X N' scope s3 H3 fp pins) rfl rfl rfl hc i [] s5 τ H5 (λ_ _=>False) I5 (stat fr5) st5 stop) λr s6 ⟨hr,I6⟩=>?_;subst hr;have I7:Inv X pins σ H5 s6:=I3.call' (ch:=fp) I6.os I6.base I6.hok I6.bare λb hb=>⟨(f2 b hb).2.2.2.1,(f2 b hb).2.1,(f2 b hb).2.2.2.2.1,(f2 b hb).2.2.2.2.2⟩
   obtain⟨m6,hn6,_⟩:=I6.loc
   refine fin D s3.heap.objs.size H5 s6 I7 qn ⟨m6,hn6⟩ I6.free ?_ ?_ ?_ ?_ ?_
   .exact I3.sz
   .exact Je I3.lt
   .intro x c e z;obtain⟨v,q⟩:=I3.cell x c e;have:=q.lt;rw [z] at this;exact HA _ this
   .exact I3.nofs (so _)
   .intro p hp z;have:=l_ (I3.pin p hp).1;rw [z] at this;exact HA _ this
  .refine thn (T.item (aY X N' scope s3 H3 fp pins) rfl rfl rfl hc i [] s5 τ H5 (λ_ _=>False) I5 (stat fr5) st5 go) λr s6 ⟨u,hr,h6⟩=>?_;subst hr;refine thn h6 λ_ s7 ⟨x,H7,I7,r7,y7,st7,fr7⟩=>?_;have I7':=I7.pinned (stat fr7) (T.obj _ _ st7)
   have again:∀{s8:d_}{τ8:St}{H8:Hp},Inv (aY X N' scope s3 H3 fp pins) ([]++ki fp s7.heap) τ8 H8 s8->(∃m',m'<n/\W (i+1) m' τ8 H8) ->
     ∃m,m<n/\∃i τ H',Inv (aY X N' scope s3 H3 fp pins) [] τ H' s8/\tn i s8.heap/\(∀b∈fp,H' b=none)/\W i m τ H':=λ{s8 τ8 H8} I8 ⟨m',hm,w8⟩=>by
    refine⟨m',hm,i+1,τ8,H8,I8.unpinned,T.keep _ _ _ st7 λb hb o e=>(I8.pin (b,o) (t_ _ (t_ _ (cG hb e)))).1,λb hb=>?_,w8⟩;obtain⟨o,e,d⟩:=T.obj _ _ st7 b hb;exact (I8.pin (b,o) (t_ _ (t_ _ (cG hb e)))).2.1
   refine thn (hg _ s7 τ H7 x u _ I7' r7 (step x H7 y7)) λ_ s8 ⟨τ8,H8,I8,q8⟩=>?_;refine thn (ht _ s8 τ8 H8 _ I8 q8) λokb s9 ⟨H9,I9,q9⟩=>?_
   cases okb with
   | false =>
    rw [if_neg n_] at q9;rw [if_neg n_];exact again I9 q9
   | true =>
    rw [if_pos rfl] at q9;rw [if_pos rfl];refine thn (he _ s9 τ8 H9 _ I9 q9) λv10 s10 ⟨x10,H10,I10,r10,q10⟩=>?_;obtain⟨ys,hD10,hz,m',hm,w10⟩:=q10;refine thn (bU (X:=aY X N' scope s3 H3 fp pins) _ s10 τ8 H10 (.ref D) [x10] (.ref D) [v10] (λ_ H'=>∃m',m'<n/\W (i+1) m' τ8 H') I10 rfl (.cons r10 .nil) ⟨D,ys,x10,rfl,rfl,hD10,hz,m',hm,w10⟩) λ_ s11 ⟨_,H11,I11,_,q11⟩=>?_;exact again I11 q11
 exact codeAny_compStart_list (loop _ I4 st4) (T.self X.A 0 _ _ _ st4 (loop _ I4 st4))
def cr{pos:Pos}(N':List Str)(ix:List (Option Nat))(hc:X.calm=true)(hi:PI X tg iter wi)
  (blk:∀s H fp pn,PG (aY X N' scope s H fp pn) tg g/\PIf (aY X N' scope s H fp pn) ifs tts/\PE (aY X N' scope s H fp pn) elt te)
  (chk:kC X.env.scope X.N scope N' ix=true) (hs:∀x,foldedSetIterable iter X.env x=pure x:=by intro _;rfl) :
  PE X (.ListComp elt [⟨tg,iter,ifs,0⟩] scope pos) (vc ix wi g tts te):=by
 intro pins s σ H Q I hw;rw [eval_ListComp];refine pA (use:=none) hc (kE chk) hi blk hs I hw λD C H' s' I' q hm hn h1 h2 h3 h4 h5=>?_;obtain⟨m,hm⟩:=hm;refine⟨m,hm,λh' sb=>⟨.ref D,H',?_,rfl,q⟩⟩;exact I'.turned (t':=s'.toks) (λb o hb e=>(sb.2 b hb).trans e) hn h2 (.inr h1) h3 h5
end
section
variable {X:Cx}{tg iter elt:Expr}{ifs:List Expr}{scope:Scope}{N':List Str}{ix:List (Option Nat)}{wi:TI}{g:TG}{tts:TT}{te:TE}
theorem qz{i:Nat}{x:Str}{pos pos' cpos:Pos}(N':List Str)(ix:List (Option Nat))(hN:X.N.Nodup)(hi:X.N[i]?=some x)(hx:Loc X.env.scope x)(hc:X.calm=true)(hit:PI X tg iter wi)
  (blk:∀s H fp pn,PG (aY X N' scope s H fp pn) tg g/\PIf (aY X N' scope s H fp pn) ifs tts/\PE (aY X N' scope s H fp pn) elt te)
  (chk:kC X.env.scope X.N scope N' ix=true) (hsw:swapsWith (.ListComp elt [⟨tg,iter,ifs,0⟩] scope cpos) (some (.Name x pos')) pos.line X.env=pure true:=by rfl)
  (hs:∀x,foldedSetIterable iter X.env x=pure x:=by intro _;rfl) (hf:X.fn x=true\/X.env.scope.names.lookup x=some .local:=by first|exact .inl rfl|exact .inr rfl|assumption) :
  PS X (.Assign [.Name x pos'] (.ListComp elt [⟨tg,iter,ifs,0⟩] scope cpos) pos) (xl (vc ix wi g tts te) (cC i)):=by
 intro pins s σ H D I hw;rw [exec_Assign_Name_used _ _ _ _ hsw];refine cy (HP (cy ?_));show wpAny _ X.A (do let _ <- comprehension (.ListComp elt [⟨tg,iter,ifs,0⟩] scope cpos) scope X.env _ (newList []) false (eval iter X.env) (some (assign (.Name x pos') X.env))) _ _ s;refine cy (thn (pA (use:=some (assign (.Name x pos') X.env)) (Qf:=λ_ s'=>SP X pins D .next s') hc (kE chk) hit blk hs I hw λD' C H' s' I' q hm hn h1 h2 h3 h4 h5=>?_) λ_ s' q=>e_ (e_ q))
 obtain⟨m,oC,es,ep,hoC,hdC,hrC⟩:=hm
 have Ip:Inv X (pins++[(C,oC)]) σ H' s':=I'.pins_of λp hp=>(Ij.mp hp).elim (λz=>I'.pin p (t_ _ z)) λz=>by
  have e:p=(C,oC):=by simpa using z
  subst e;exact⟨hoC,hn,h2,h4,λv z=>by rw [hdC] at z;cases z⟩
 refine wpAny_assign_Name (iH (v:=.ref D') Ip hN hi hx rfl (λs2 I2=>?_) hf);have hC2:s2.heap.get? C=some oC:=(I2.pin (C,oC) (by simp)).1;have I2':Inv X pins (σ.set i (some (.ref D'))) H' s2:=I2.pins_of λp hp=>I2.pin p (t_ _ (IW _ hp));refine⟨m,⟨oC,es,ep,hC2,hdC,hrC⟩,λh' sb=>⟨_,H',?_,q⟩⟩;exact I2'.turned (t':=s2.toks) (λb o hb e=>(sb.2 b hb).trans e) hn h2 (.inr h1) h3 h5
end
noncomputable def yG(p:Addr)(a b c:Int):HO:=.ext λh=>∃t u v,IsRange h p a b c t u v
noncomputable def qA(a c:Int)(n:Nat):List V:=(i_ n).map λ(k:Nat)=>V.int (a+k*c)
def tE{a c:Int}{n:Nat}{acc:Array Value}(h:ItemsOf (λi v=>∃t,v=.int (a+i*c) t) acc n):bB (qA a c n) acc.toList:=by
 obtain⟨hn,hi⟩:=h
 have key:∀(m:Nat) (us:List Value) (f:Nat->Int),us.length=m->(∀i u,us[i]?=some u->∃t,u=Km (f i) t)->bB ((i_ m).map λk=>V.int (f k)) us:=by
  intro m
  induction m with
  | zero=>intro us f hl _;rw [IU] at hl;subst hl;exact .nil
  | succ m ih =>
   intro us f hl hu
   cases us with
   | nil=>simp at hl
   | cons u r =>
    rw [range_succ_eq_map,map_cons,map_map];refine .cons (hu 0 u rfl) (ih r (λk=>f (k+1)) (by simpa using hl) λi v e=>hu (i+1) v (by simpa using e))
 refine key n acc.toList (λk=>a+k*c) (by simpa using hn) λi u e=>?_;exact hi i u (by simpa using e)
def vd(a c:Int)(n:Nat):(qA a c n).length=n:=by simp [qA]
section
variable {X:Cx}
def xF{pins:List (Addr×Obj)}{σ:St}{H:Hp}{s:d_}{a b c:Int}{t u v:Tok}{tk:Nat}(I:Inv X pins σ H s) :
  Inv X pins σ (upd H s.heap.objs.size (yG s.heap.objs.size a b c)) { s with heap:=s.heap.push { cls:=.type "range",data:=.fields #[.int a t,.int b u,.int c v] },toks:=tk }:=by
 refine I.laid (λb o e=>c_ _ e) (so _) ⟨⟨t,u,v,IsRange.new ..⟩,⟨_,h_ _ rfl⟩,λh1 h2 ⟨t,u,v,z⟩ k=>⟨t,u,v,k _ z⟩⟩
def pD{a:Expr}{ta:TA}{p pos:Pos}(hg:Gl X "range")(hm:X.mg "range"=none)(ha:PA X [a] ta)(hs:starEach [a] X.env=[(false,eval a X.env)]:=by rfl) :
  PE X (.Call (.Name "range" p) [a] [] pos) (λσ H Q=>ta σ H λvs H1=>∃j:Int,vs=[.int j]/\∀p,H1 p=none->Q (.ref p) (upd H1 p (yG p 0 j 1))):=by
 intro pins s σ H Q I h;refine Call_ (iI I hg hm boot_range (Hv (thn (ha pos pins s σ H _ I h) λus s1 ⟨vs,H1,I1,r1,q1⟩=>?_) hs rfl));obtain⟨j,e,q⟩:=q1;subst e
 cases r1 with
 | cons r rr =>
  cases rr;obtain⟨t,rfl⟩:=r;exact call_range_1 ⟨.ref s1.heap.objs.size,_,xF I1,rfl,q _ (I1.hok.fresh (so _))⟩
noncomputable def Ez(K:b_)(mk:List V->HO):List V->Hp->VK->Prop:=λxs H Q=>∃p a b c n,xs=[.ref p]/\H p=some (yG p a b c)/\Jl a b c=true/\HU a b c=((n:Nat):Int)/\n<=1000000/\∀l,H l=none->Q (.ref l) (upd H l (mk (qA a c n)))
def tF(hc:X.calm=true):bj X (.type "list") (Ez X.K .lst):=by
 intro pins s σ H xs us Q I r h;obtain⟨p,a,b,c,n,rfl,hp,hsm,hsz,hn,q⟩:=h;obtain⟨u,rfl,rx⟩:=gK r;cases rx;obtain⟨⟨t,u,v,hr⟩,_,_⟩:=(show bu X.prog X.w H s.heap p (yG p a b c) from I.hok p _ hp)
 have hs:sizeLine=16777216:=Jw;refine call_list_range (I.ok.hd hc) hr hsm hsz (by omega) λh' tk acc c' hk e hacc=>?_;exact⟨.ref s.heap.objs.size,_,I.laid (t':=tk) hk (so _) (show bu X.prog X.w _ h' _ (.lst (qA a c n)) from ⟨by rw [vd];omega,acc.toList,c',tE hacc,by simpa using e⟩),rfl,q _ (I.hok.fresh (so _))⟩
theorem iN{α β:Type}{g:α->Option β}{h:α->β}:∀{xs:List α},(∀x∈xs,g x=some (h x))->xs.filterMap g=xs.map h
 | [],_=>rfl
 | x::r,hx=>by rw [Ir,hx x mem_cons_self,map_cons,iN λy hy=>hx y (p_ _ hy)]
def EA(l:List Nat)(u:Tok):Txt.sliceBy (S l) none none (-1,u)=S l.reverse:=by
 have e1:((slicePicked (S l) none none (some (-1,u))).filterMap ((S l).cps[·]?))=l.reverse:=by
  unfold slicePicked HW sliceRange;simp only [Option.map_some,Option.getD_some,Option.map_none,show ¬ ((-1:Int) > 0) by decide,if_false];rw [dC]
  have ec:(if ((l.length:Int) - 1 > -1) then ((l.length:Int) - 1 - -1 - -1 - 1) / (- -1) else 0).toNat=l.length:=by
   have:(- -1:Int)=1:=by decide
   rw [this,ediv_one];split <;> omega
  rw [ec]
  have e:((i_ l.length).map λ(k:Nat)=>((l.length:Int) - 1+-1*(k:Int)).toNat)=(i_ l.length).map λk=>l.length - 1 - k:=by
   apply La;intro k _;omega
  rw [e];have e2:(λi:Nat=>(S l).cps[i]?)=λi:Nat=>l[i]?:=by funext i;simp [S]
  rw [e2];apply JH;intro i;rw [Jo]
  have hall:∀x∈i_ l.length,((λi:Nat=>l[i]?) ∘ λk=>l.length - 1 - k) x=some (fn l (l.length - 1 - x)):=λx hx=>by
   have hx':x<l.length:=Jh.mp hx;have hx2:l.length - 1 - x<l.length:=by omega
   exact yF hx2
  rw [iN hall]
  by_cases hi:i<l.length
  .rw [q_,Ie hi,getElem?_reverse hi,yF (by omega)];rfl
  .rw [G_ (by simp;omega),G_ (by simp;omega)]
 unfold Txt.sliceBy;rw [if_neg (by simp),e1];rfl
end
noncomputable def cb(k:Bool)(h:Heap)(a:Addr)(its:Array Value):Prop:=∃o,h.get? a=some o/\o.cls=.type (cond k "tuple" "list")/\∃n,o.data=.seq its n
noncomputable def bf(k:Bool)(h:Heap)(it a:Addr)(i:Nat):Prop:=∃o,h.get? it=some o/\o.cls=.type (cond k "tuple_iterator" "list_iterator")/\o.data=.fields #[.ref a,.int i 0]
def cb.mv{k:Bool}{h h':Heap}{a:Addr}{its:Array Value}(r:cb k h a its)(f:∀o,h.get? a=some o->h'.get? a=some o):cb k h' a its:=let ⟨o,e,q⟩:=r;⟨o,f o e,q⟩
def bf.mv{k:Bool}{h h':Heap}{it a:Addr}{i:Nat}(r:bf k h it a i)(f:∀o,h.get? it=some o->h'.get? it=some o):bf k h' it a i:=let ⟨o,e,q⟩:=r;⟨o,f o e,q⟩
section
variable {P:r_}{w:World}{A:w_}{E:Value->d_->Prop}{s:d_}{k:Bool}{it a:Addr}{i:Nat}{its:Array Value}
def pE{x:Value}{Q:Value->d_->Prop}(W:s.heap.IsTupleIter it a i)(R:s.heap.IsTuple a its)(hx:its[i]?=some x)
  (hQ:∀h',h'.IsTupleIter it a (i+1)->Ji it s.heap h'->Q x { s with heap:=h' }):wpAny (model P w) A (s_ (.ref it)) Q E s:=by
 have hT:=W.typeIs;obtain⟨o,ho,c,d⟩:=W;obtain⟨ol,hol,_,nl,dl⟩:=R;unfold s_;refine cy (Ho (name:=IF "__next__") hT F.slot_tuple_iterator_next (HV F.slot_tuple_iterator_next hT F.entry_tuple_iterator_next ?_ (F.args_tuple_iterator_next_1 _)));refine cy (m:=field (.ref it) 0) (D_ ho d (x:=.ref a) rfl ?_);have nn:¬ ((k_ a == HC)=true):=n_
 show wpAny _ _ (if (k_ a == HC)=true then _ else _) _ _ s;rw [if_neg nn];refine cy (m:=field (.ref it) 1) (D_ ho d (x:=.int i 0) rfl ?_);refine cy (m:=seqItems? (.ref a)) (Hy hol dl ?_);simp only [toNat_natCast,hx];exact cy (JI ho d (by simp) (e_ ⟨x,rfl,e_ (hQ _ ⟨_,H_ _ ho (JN (Js d _)),(Obj.cls_mapFields ..).trans c,by rw [Js d];simp [rawInt]⟩ (Ka ..))⟩))
def qB{Q:Value->d_->Prop}(hh:A.handled=none)(W:s.heap.IsTupleIter it a i)(R:s.heap.IsTuple a its)(hx:its[i]?=none)
  (hE:∀h' e,Lc it s.heap h'->(∃o,h'.get? e=some o/\o.cls=.type "StopIteration")->E (.ref e) { s with heap:=h' }):wpAny (model P w) A (s_ (.ref it)) Q E s:=by
 have hT:=W.typeIs;obtain⟨o,ho,c,d⟩:=W;obtain⟨ol,hol,_,nl,dl⟩:=R;unfold s_;refine cy (Ho (name:=IF "__next__") hT F.slot_tuple_iterator_next (HV F.slot_tuple_iterator_next hT F.entry_tuple_iterator_next ?_ (F.args_tuple_iterator_next_1 _)));refine cy (m:=field (.ref it) 0) (D_ ho d (x:=.ref a) rfl ?_);have nn:¬ ((k_ a == HC)=true):=n_
 show wpAny _ _ (if (k_ a == HC)=true then _ else _) _ _ s;rw [if_neg nn];refine cy (m:=field (.ref it) 1) (D_ ho d (x:=.int i 0) rfl ?_);refine cy (m:=seqItems? (.ref a)) (Hy hol dl ?_);simp only [toNat_natCast,hx];refine cy (JP (cy (JI ho d (by simp) (cy (m:=newExc (.type "StopIteration") []) ?_))));simp only [newExc,newTuple]
 refine cy (HM (cy (m:=firstArgMember _ _) (Ld (a:=HC) (by first|rfl|(simp only [firstArgMember];rfl)) (HM ?_ (by size_fits)))) (by size_fits));simp only [raiseNew];refine cy (wpAny_handled ?_)
 first|rw [show A.in1.handled=none from hh]|rw [hh]
 exact cy (e_ (wpAny_throw (hE _ _ (((Ka ..).extBut.push _).push _) ⟨_,h_ _ rfl,rfl⟩)))
def bV{x:Value}{Q:Value->d_->Prop}(W:bf k s.heap it a i)(R:cb k s.heap a its)(hx:its[i]?=some x)
  (hQ:∀h',bf k h' it a (i+1)->Ji it s.heap h'->Q x { s with heap:=h' }):wpAny (model P w) A (s_ (.ref it)) Q E s:=by
 cases k with
 | false=>exact wpAny_nextOf_list_item W R hx hQ
 | true=>exact pE W R hx hQ
def dF{Q:Value->d_->Prop}(hh:A.handled=none)(W:bf k s.heap it a i)(R:cb k s.heap a its)(hx:its[i]?=none)
  (hE:∀h' e,Lc it s.heap h'->(∃o,h'.get? e=some o/\o.cls=.type "StopIteration")->E (.ref e) { s with heap:=h' }):wpAny (model P w) A (s_ (.ref it)) Q E s:=by
 cases k with
 | false=>exact wpAny_nextOf_list_end hh W R hx hE
 | true=>exact qB hh W R hx hE
end
structure ZA (z U V i j:Addr):Prop where
 Uz:U≠z
 Vz:V≠z
 iz:i≠z
 jz:j≠z
 UV:U≠V
 Ui:U≠i
 Uj:U≠j
 Vi:V≠i
 Vj:V≠j
 ij:i≠j
section
variable {P:r_}{w:World}{A:w_}{E:Value->d_->Prop}{s:d_}{k l:Bool}{z U V i j a c:Addr}{n:Nat}{xs ys:Array Value}{x y u v:Value}
def zK{Q:Value->d_->Prop}(D:ZA z U V i j)(az:a≠z)(cz:c≠z)(ci:c≠i)(cV:c≠V)(hz:IsZip s.heap z U V .none)(hU:Jt s.heap U (.ref i) (.ref j))(hV:Jt s.heap V u v)
  (W1:bf k s.heap i a n) (W2:bf l s.heap j c n) (R1:cb k s.heap a xs) (R2:cb l s.heap c ys) (hx:xs[n]?=some x) (hy:ys[n]?=some y)
  (hQ:∀h',IsZip h' z U V (rawInt s.heap.objs.size)->Jt h' V x y->bf k h' i a (n+1)->bf l h' j c (n+1)->Jt h' s.heap.objs.size x y->h'.objs.size=s.heap.objs.size+1 ->
   (∀b o,b≠z->b≠V->b≠i->b≠j->s.heap.get? b=some o->h'.get? b=some o)->Q (.ref s.heap.objs.size) { s with heap:=h' }) :
  wpAny (model P w) A (IM.«zip.__next__» ⟨[.ref z],[]⟩) (λf s'=>∃r,f=.done (.ret r)/\Q r s') E s:=by
 refine cy (m:=field (.ref z) 2) (D_ hz rfl (x:=.bool false) rfl (cy (m:=field (.ref z) 3) (D_ hz rfl (x:=.ref U) rfl (cy (Hy hU rfl ?_)))));refine cy (m:=C_ (.ref z)) ?_;unfold C_;refine cy (D_ hz rfl (x:=.none) rfl (e_ ?_));simp only [if_true];refine cy (JP (cy (D_ hz rfl (x:=.ref V) rfl (cy (Ht hz (by simp) λg1 z1 b1=>cy ?_)))))
 replace z1:IsZip g1 z U V .ellipsis:=z1
 simp only [Le,zipIdx_nil,forIn_cons,Lm];have e1:=b1.extBut;refine cy (cy (Ia (cy (m:=s_ (.ref i)) (bV (W1.mv λo e=>e1 _ o D.iz e) (R1.mv λo e=>e1 _ o az e) hx λg2 w1 b2=>e_ ?_))));have e2:=b2.extBut;have v2:Jt g2 V u v:=e2 _ _ D.Vi (e1 _ _ D.Vz hV);refine cy (Hy v2 rfl (cy (J1 v2 λg3 v3 b3=>cy (J3 (e_ ?_)))))
 replace v3:Jt g3 V x v:=v3
 have e3:=b3.extBut;refine cy (cy (Ia (cy (m:=s_ (.ref j)) (bV (W2.mv λo e=>e3 _ o D.Vj.symm (e2 _ o D.ij.symm (e1 _ o D.jz e))) (R2.mv λo e=>e3 _ o cV (e2 _ o ci (e1 _ o cz e))) hy λg4 w2 b4=>e_ ?_))));have e4:=b4.extBut;have v4:Jt g4 V x v:=e4 _ _ D.Vj v3;refine cy (Hy v4 rfl (cy (J1 v4 λg5 v5 b5=>cy (J3 (e_ (e_ ?_))))))
 replace v5:Jt g5 V x y:=v5
 have e5:=b5.extBut;refine cy (Hy v5 rfl (cy (wpAny_newTuple ?_)));have sz:g5.objs.size=s.heap.objs.size:=by rw [b5.1,b4.1,b3.1,b2.1,b1.1]
 have z5:IsZip g5 z U V .ellipsis:=e5 _ _ D.Vz.symm (e4 _ _ D.jz.symm (e3 _ _ D.Vz.symm (e2 _ _ D.iz.symm z1)));have k5:∀b o,b≠z->b≠V->b≠i->b≠j->s.heap.get? b=some o->g5.get? b=some o:=λb o q1 q2 q3 q4 e=>e5 _ _ q2 (e4 _ _ q4 (e3 _ _ q2 (e2 _ _ q3 (e1 _ _ q1 e))));have w15:bf k g5 i a (n+1):=w1.mv λo e=>e5 _ o D.Vi.symm (e4 _ o D.ij (e3 _ o D.Vi.symm e));have w25:bf l g5 j c (n+1):=w2.mv λo e=>e5 _ o D.Vj.symm e
 have zlt:z<g5.objs.size:=l_ z5;refine cy (m:=HJ (.ref z) (.ref g5.objs.size)) ?_;unfold HJ;have z6:IsZip (g5.push { cls:=.type "tuple",data:=.seq #[x,y] }) z U V .ellipsis:=c_ _ z5;refine cy (Ht z6 (by simp) λg7 z7 b7=>?_)
 replace z7:IsZip g7 z U V (rawInt g5.objs.size):=z7
 refine Ht z7 (by simp) λg8 z8 b8=>?_
 replace z8:IsZip g8 z U V (rawInt g5.objs.size):=z8
 have up:∀b o,b≠z->g5.get? b=some o->g8.get? b=some o:=λb o q e=>b8.extBut _ _ q (b7.extBut _ _ q (c_ _ e));have t8:Jt g8 g5.objs.size x y:=b8.extBut _ _ (Je zlt) (b7.extBut _ _ (Je zlt) (h_ _ rfl));have s8:g8.objs.size=g5.objs.size+1:=by rw [b8.1,b7.1,Hc]
 rw [sz] at z8 t8 s8;refine e_ ⟨_,rfl,?_⟩;show Q (.ref g5.objs.size) _;rw [sz];exact hQ g8 z8 (up _ _ D.Vz v5) (w15.mv λo e=>up _ o D.iz e) (w25.mv λo e=>up _ o D.jz e) t8 s8 λb o q1 q2 q3 q4 e=>up b o q1 (k5 b o q1 q2 q3 q4 e)
def B4{Q:Fin->d_->Prop}(hh:A.handled=none)(D:ZA z U V i j)(az:a≠z)(cz:c≠z)(ci:c≠i)(cV:c≠V)(hz:IsZip s.heap z U V .none)(hU:Jt s.heap U (.ref i) (.ref j))(hV:Jt s.heap V u v)
  (W1:bf k s.heap i a n) (W2:bf l s.heap j c n) (R1:cb k s.heap a xs) (R2:cb l s.heap c ys) (hend:xs[n]?=none\/ys[n]?=none)
  (hE:∀h' e,(∀b o,b≠z->b≠V->b≠i->b≠j->s.heap.get? b=some o->h'.get? b=some o)->(∃o,h'.get? e=some o/\o.cls=.type "StopIteration")->E (.ref e) { s with heap:=h' }) :
  wpAny (model P w) A (IM.«zip.__next__» ⟨[.ref z],[]⟩) Q E s:=by
 refine cy (m:=field (.ref z) 2) (D_ hz rfl (x:=.bool false) rfl (cy (m:=field (.ref z) 3) (D_ hz rfl (x:=.ref U) rfl (cy (Hy hU rfl ?_)))));refine cy (m:=C_ (.ref z)) ?_;unfold C_;refine cy (D_ hz rfl (x:=.none) rfl (e_ ?_));simp only [if_true];refine cy (JP (cy (D_ hz rfl (x:=.ref V) rfl (cy (Ht hz (by simp) λg1 z1 b1=>cy ?_)))))
 replace z1:IsZip g1 z U V .ellipsis:=z1
 simp only [Le,zipIdx_nil,forIn_cons,Lm];have e1:=b1.extBut
 cases hx:xs[n]? with
 | none =>
  refine cy (cy (Ia (cy (m:=s_ (.ref i)) (dF hh (W1.mv λo e=>e1 _ o D.iz e) (R1.mv λo e=>e1 _ o az e) hx λg2 e b2 he=>?_))));obtain⟨oe,ge,ce⟩:=he;have z2:IsZip g2 z U V .ellipsis:=b2 _ _ D.iz.symm z1;have ez:e≠z:=λq=>by subst q;rw [z2] at ge;cases ge;simp at ce
  exact Ht z2 (by simp) λg3 _ b3=>hE g3 e (λb o q1 _ q3 _ q=>b3.extBut _ _ q1 (b2 _ _ q3 (e1 _ _ q1 q))) ⟨oe,b3.extBut _ _ ez ge,ce⟩
 | some x =>
  have hy:ys[n]?=none:=by
   rcases hend with q|q
   .rw [hx] at q;cases q
   .exact q
  refine cy (cy (Ia (cy (m:=s_ (.ref i)) (bV (W1.mv λo e=>e1 _ o D.iz e) (R1.mv λo e=>e1 _ o az e) hx λg2 w1 b2=>e_ ?_))));have e2:=b2.extBut;have v2:Jt g2 V u v:=e2 _ _ D.Vi (e1 _ _ D.Vz hV);refine cy (Hy v2 rfl (cy (J1 v2 λg3 v3 b3=>cy (J3 (e_ ?_)))))
  have e3:=b3.extBut;refine cy (cy (Ia (cy (m:=s_ (.ref j)) (dF hh (W2.mv λo e=>e3 _ o D.Vj.symm (e2 _ o D.ij.symm (e1 _ o D.jz e))) (R2.mv λo e=>e3 _ o cV (e2 _ o ci (e1 _ o cz e))) hy λg4 e b4 he=>?_))));obtain⟨oe,ge,ce⟩:=he;have z4:IsZip g4 z U V .ellipsis:=b4 _ _ D.jz.symm (e3 _ _ D.Vz.symm (e2 _ _ D.iz.symm z1));have ez:e≠z:=λq=>by subst q;rw [z4] at ge;cases ge;simp at ce
  exact Ht z4 (by simp) λg5 _ b5=>hE g5 e (λb o q1 q2 q3 q4 q=>b5.extBut _ _ q1 (b4 _ _ q4 (e3 _ _ q2 (e2 _ _ q3 (e1 _ _ q1 q))))) ⟨oe,b5.extBut _ _ ez ge,ce⟩
end
noncomputable def Sq(k:Bool)(K:b_)(H:Hp)(a:Addr)(xs:List V):Prop:=cond k (SqT K H a xs) (SqL K H a xs)
section
variable {X:Cx}{pins:List (Addr×Obj)}{σ:St}{H:Hp}{s:d_}{k l:Bool}{a b c:Addr}{xs ys:List V}
def Inv.row(I:Inv X pins σ H s)(h:Sq k X.K H a xs):∃its:List Value,bB xs its/\cb k s.heap a its.toArray/\xs.length<=sizeLine:=by
 cases k with
 | false=>obtain⟨its,r,p,z⟩:=I.list h;exact⟨its,r,p.isList,z⟩
 | true=>obtain⟨its,r,p,z⟩:=I.tuple h;exact⟨its,r,p,z⟩
def Inv.row_inj(I:Inv X pins σ H s)(h:Sq k X.K H a xs)(h':Sq k X.K H a ys):xs=ys:=by
 cases k with
 | false=>exact I.list_inj h h'
 | true=>exact I.tuple_inj h h'
def ve{u:HO}(r:Rd H a u):∃v,H a=some v:=by
 rcases r with r|⟨o,r⟩ <;> exact⟨_,r⟩
def Inv.row_ne(I:Inv X pins σ H s)(h:Sq k X.K H a xs)(f:qq X pins H b):a≠b:=by
 have kk:∀o,X.K.lookup a=some o->a≠b:=λo e z=>by
  have e1:=I.ok.mod.kin a o e
  rcases f.2.2.2.1 with q|q
  .exact I.ok.noex a o e1 (z ▸ q)
  .exact absurd (tf (l_ (I.ok.bs a o e1).1) (z ▸ q)) (HA _)
 have hh:∀u,H a=some u->a≠b:=λu e z=>by rw [z,f.1] at e;cases e
 cases k with
 | false =>
  rcases h with r|⟨o,its,n,e,_⟩
  .obtain⟨v,e⟩:=ve r;exact hh v e
  .exact kk o e
 | true =>
  rcases h with r|⟨o,its,n,e,_⟩
  .obtain⟨v,e⟩:=ve r;exact hh v e
  .exact kk o e
def Inv.yielded{h':Heap}{T:Addr}{zs:List V}{t':Nat}{ch:List Addr}(I:Inv X pins σ H s)(hf:∀b∈ch,qq X pins H b)(hT:s.heap.objs.size<=T)
  (kp:∀b o,b∉ch->s.heap.get? b=some o->h'.get? b=some o) (new:bu X.prog X.w (upd H T (.tup zs)) h' T (.tup zs)):Inv X pins σ (upd H T (.tup zs)) { s with heap:=h',toks:=t' }:=by
 have hn:H T=none:=I.hok.fresh hT;have nT:∀b u,H b=some u->b≠T:=λb u e z=>by rw [z,hn] at e;cases e
 have oT:∀b o,s.heap.get? b=some o->b≠T:=λb o e z=>absurd (tf (l_ e) (z ▸ hT)) (HA _);have nc:∀b u,H b=some u->b∉ch:=λb u e z=>by rw [(hf b z).1] at e;cases e
 refine I.step (g':=s.gens) (d':=s.drawn) (ch:=ch) (λb hb=>⟨(hf b hb).2.2.2.1,(hf b hb).2.1,(hf b hb).2.2.2.2.1,(hf b hb).2.2.2.2.2⟩) (λb o _ _ hc e _=>kp b o hc e) (λb o _ _ hc e _=>⟨o.slots,kp b o hc e⟩)
  (λb o _ e n=>by rw [ar (oT b o e)];exact n) (λb o hc e=>⟨o,kp b o hc e⟩) (λb xs e=>by rw [ar (nT b _ e)];exact e) (λb o u e=>by rw [ar (nT b _ e)];exact e)
  (λb ps e=>⟨#[],by rw [ar (nT b _ e),e];simp⟩) (λm hm=>?_) (λb u e=>?_) I.bare
 .obtain⟨o,es,ep,ho,r⟩:=hm;exact⟨o,es,ep,kp _ o (λz=>(hf _ z).2.1 rfl) ho,r⟩
 .by_cases hb:b=T
  .subst hb;rw [aB] at e;cases e;exact new
  .rw [ar hb] at e;refine (I.hok b u e).stay (λc v hc q=>kp c v ?_ q) (λc q=>by rw [ar (nT c _ q)];exact q) λc xs q=>by rw [ar (nT c _ q)];exact q
   rcases hc with z|z
   .rw [z];exact nc b u e
   .exact nc c _ z
end
noncomputable def Itz(k l:Bool)(K:b_)(a c:Addr):It :=
  ⟨λi H=>∃xs ys x y,Sq k K H a xs/\Sq l K H c ys/\xs[i]?=some x/\ys[i]?=some y,
   λi H p H'=>∃T x y,H T=none/\p=.ref T/\(∀xs,Sq k K H a xs->xs[i]?=some x)/\(∀ys,Sq l K H c ys->ys[i]?=some y)/\H'=upd H T (.tup [x,y]),
   λi H=>∃xs ys,Sq k K H a xs/\Sq l K H c ys/\(xs.length<=i\/ys.length<=i)⟩
def xG{P:r_}{w:World}{K:b_}{es:List Expr}{ct:Nat}{tp:Pos}{k l:Bool}{a c z U V i j:Addr}(D:ZA z U V i j) :
  yA P w K (.Tuple es ct tp) (Itz k l K a c) [z,U,V,i,j] z (λn h=>IsZip h z U V .none/\Jt h U (.ref i) (.ref j)/\(∃u v,Jt h V u v)/\bf k h i a n/\bf l h j c n) where
 mem:=by simp
 obj:=λn h st b hb=>by
  obtain⟨hz,hU,⟨u,v,hV⟩,⟨o1,g1,c1,d1⟩,⟨o2,g2,c2,d2⟩⟩:=st;simp only [mem_cons,not_mem_nil,or_false] at hb
  rcases hb with rfl|rfl|rfl|rfl|rfl
  .exact⟨_,hz,λv q=>by cases q⟩
  .exact⟨_,hU,λv q=>by cases q⟩
  .exact⟨_,hV,λv q=>by cases q⟩
  .exact⟨_,g1,λv q=>by rw [d1] at q;cases q⟩
  .exact⟨_,g2,λv q=>by rw [d2] at q;cases q⟩
 keep:=λn h h' st kk=>by
  obtain⟨hz,hU,⟨u,v,hV⟩,w1,w2⟩:=st;exact⟨kk z (by simp) _ hz,kk U (by simp) _ hU,⟨u,v,kk V (by simp) _ hV⟩,w1.mv λo e=>kk i (by simp) o e,w2.mv λo e=>kk j (by simp) o e⟩
 item:=by
  intro X hP hw hK hc n pins s σ H E I hf st hg;subst hP hw hK;obtain⟨xs,ys,x,y,q1,q2,hx,hy⟩:=hg;obtain⟨hz,hU,⟨u,v,hV⟩,w1,w2⟩:=st;obtain⟨its,rv,p,_⟩:=I.row q1;obtain⟨jts,rv',p',_⟩:=I.row q2;obtain⟨ux,hux,rx⟩:=rv.get hx;obtain⟨uy,huy,ry⟩:=rv'.get hy;have hT:s.TypeIs (.ref z) "zip":=⟨_,hz,rfl⟩
  have nz:=I.row_ne q1 (hf z (by simp));have mz:=I.row_ne q2 (hf z (by simp));have mi:=I.row_ne q2 (hf i (by simp));have mV:=I.row_ne q2 (hf V (by simp));unfold pyNext
  refine cy (IZ (Ho (name:=IF "__next__") hT F.slot_zip_next (HV F.slot_zip_next hT F.entry_zip_next
   (zK (x:=ux) (y:=uy) D nz mz mi mV hz hU hV w1 w2 p p' (by simpa using hux) (by simpa using huy) λh' a1 a2 a3 a4 a5 a6 a7=>e_ ?_) (F.args_zip_next_1 _))))
  refine⟨_,rfl,wpAny_letOwnedTupleGo_zip a1 λg gz gs=>?_⟩;have lt:∀{b o},s.heap.get? b=some o->s.heap.objs.size≠b:=λe=>Je (l_ e)
  have kp:∀b o,b∉[z,V,i,j]->s.heap.get? b=some o->g.get? b=some o:=λb o hb e=>by
   simp only [mem_cons,not_mem_nil,or_false,not_or] at hb;exact gs.extBut _ _ hb.1 (a7 b o hb.1 hb.2.1 hb.2.2.1 hb.2.2.2 e)
  have I2:Inv X pins σ (upd H s.heap.objs.size (.tup [x,y])) { s with heap:=g,toks:=s.toks }:=I.yielded (ch:=[z,V,i,j]) (λb hb=>hf b (by
   simp only [mem_cons,not_mem_nil,or_false] at hb ⊢;rcases hb with q|q|q|q <;> simp [q])) (so _) kp ⟨by show 2<=sizeLine;decide,[ux,uy],.cons rx (.cons ry .nil),_,gs.extBut _ _ (lt hz) a5,rfl,_,rfl⟩
  refine⟨.ref s.heap.objs.size,_,I2,rfl,⟨_,x,y,I.hok.fresh (so _),rfl,λxs' q=>by rw [I.row_inj q q1];exact hx,λys' q=>by rw [I.row_inj q q2];exact hy,rfl⟩,
   ⟨gz,gs.extBut _ _ D.Uz (a7 _ _ D.Uz D.UV D.Ui D.Uj hU),⟨_,_,gs.extBut _ _ D.Vz a2⟩,a3.mv λo e=>gs.extBut _ o D.iz e,a4.mv λo e=>gs.extBut _ o D.jz e⟩,λb hb=>?_⟩
  rw [ar ?_]
  .exact (hf b hb).1
  .intro q;subst q;simp only [mem_cons,not_mem_nil,or_false] at hb;obtain⟨o1,g1,_⟩:=w1;obtain⟨o2,g2,_⟩:=w2
   rcases hb with q|q|q|q|q
   .exact lt hz q
   .exact lt hU q
   .exact lt hV q
   .exact lt g1 q
   .exact lt g2 q
 done:=by
  intro X hP hw hK hc n pins s σ H E I hf st hg;subst hP hw hK;obtain⟨xs,ys,q1,q2,hend⟩:=hg;obtain⟨hz,hU,⟨u,v,hV⟩,w1,w2⟩:=st;obtain⟨its,rv,p,_⟩:=I.row q1;obtain⟨jts,rv',p',_⟩:=I.row q2;have e1:=rv.length;have e2:=rv'.length;have hT:s.TypeIs (.ref z) "zip":=⟨_,hz,rfl⟩
  unfold pyNext
  refine cy (IZ (Ho (name:=IF "__next__") hT F.slot_zip_next (HV F.slot_zip_next hT F.entry_zip_next
   (B4 (I.ok.hd hc) D (I.row_ne q1 (hf z (by simp))) (I.row_ne q2 (hf z (by simp))) (I.row_ne q2 (hf i (by simp))) (I.row_ne q2 (hf V (by simp))) hz hU hV w1 w2 p p' ?_ λh' e hk he=>?_) (F.args_zip_next_1 _))))
  .rcases hend with q|q
   .exact .inl (by simp;omega)
   .exact .inr (by simp;omega)
  .obtain⟨o,ho,hcl⟩:=he;refine cy (KM (T:="StopIteration") (b:=true) ⟨o,ho,hcl⟩ isSubtype_stop (e_ ⟨rfl,?_⟩))
   exact I.step (g':=s.gens) (d':=s.drawn) (t':=s.toks) (ch:=[z,V,i,j]) (λb hb=>by
     have q:=hf b (by
      simp only [mem_cons,not_mem_nil,or_false] at hb ⊢;rcases hb with q|q|q|q <;> simp [q])
     exact⟨q.2.2.2.1,q.2.1,q.2.2.2.2.1,q.2.2.2.2.2⟩) (λb o _ _ hc e _=>by
     simp only [mem_cons,not_mem_nil,or_false,not_or] at hc;exact hk b o hc.1 hc.2.1 hc.2.2.1 hc.2.2.2 e) (λb o _ _ hc e _=>⟨o.slots,by
     simp only [mem_cons,not_mem_nil,or_false,not_or] at hc;exact hk b o hc.1 hc.2.1 hc.2.2.1 hc.2.2.2 e⟩) (λ_ _ _ _ q=>q) (λb o hc e=>⟨o,by
     simp only [mem_cons,not_mem_nil,or_false,not_or] at hc;exact hk b o hc.1 hc.2.1 hc.2.2.1 hc.2.2.2 e⟩) (λ_ _ e=>e) (λ_ _ _ e=>e) (λb ps e=>⟨#[],by rw [e];simp⟩) (λm hm=>by
     obtain⟨o,es,ep,ho,r⟩:=hm;exact⟨o,es,ep,hk _ o (hf z (by simp)).2.1.symm (hf V (by simp)).2.1.symm (hf i (by simp)).2.1.symm (hf j (by simp)).2.1.symm ho,r⟩) (λb u e=>by
     have nn:∀b u,H b=some u->b≠z/\b≠V/\b≠i/\b≠j:=λb u e=>⟨λq=>(by rw [q,(hf z (by simp)).1] at e;cases e),λq=>(by rw [q,(hf V (by simp)).1] at e;cases e),λq=>(by rw [q,(hf i (by simp)).1] at e;cases e),λq=>(by rw [q,(hf j (by simp)).1] at e;cases e)⟩
     refine (I.hok b u e).stay (λc v hc q=>?_) (λ_ q=>q) λ_ _ q=>q
     have n4:c≠z/\c≠V/\c≠i/\c≠j:=by
      rcases hc with q|q
      .rw [q];exact nn b u e
      .exact nn c _ q
     exact hk c v n4.1 n4.2.1 n4.2.2.1 n4.2.2.2 q) I.bare
 self:=λ_ _ _ _ _ st h=>JQ st.1 h
def EB(n:Nat):ZA (n+4) (n+2) (n+3) n (n+1):=by
 refine⟨?_,?_,?_,?_,?_,?_,?_,?_,?_,?_⟩ <;> (intro h;have h2:@Eq Nat _ _:=h;omega)
section
variable {P:r_}{w:World}{A:w_}{E:Value->d_->Prop}{s:d_}{k l:Bool}
abbrev fi(k:Bool)(a:Addr):Obj:={ cls:=.type (cond k "tuple_iterator" "list_iterator"),data:=.fields #[.ref a,.int 0 0] }
def cH{a:Addr}{its:Array Value}{Q:Value->d_->Prop}(R:cb k s.heap a its)(hQ:Q (.ref s.heap.objs.size) { s with heap:=s.heap.push (fi k a) }):wpAny (model P w) A (pyIter (.ref a)) Q E s:=by
 cases k with
 | false=>exact Jc R hQ
 | true=>exact Ky R hQ
abbrev zg1(h:Heap)(k:Bool)(a:Addr):Heap:=h.push (fi k a)
abbrev zg2(h:Heap)(k l:Bool)(a c:Addr):Heap:=(zg1 h k a).push (fi l c)
abbrev zg3(h:Heap)(k l:Bool)(a c:Addr):Heap:=(zg2 h k l a c).push { cls:=.type "tuple",data:=.seq #[.ref h.objs.size,.ref (zg1 h k a).objs.size] }
abbrev zg4(h:Heap)(k l:Bool)(a c:Addr):Heap:=(zg3 h k l a c).push { cls:=.type "tuple",data:=.seq #[.none,.none] }
abbrev zg5(h:Heap)(k l:Bool)(a c:Addr):Heap:=(zg4 h k l a c).push { cls:=.type "zip",data:=.fields #[.none,.bool false,.bool false,.ref (zg2 h k l a c).objs.size,.ref (zg3 h k l a c).objs.size] }
def zL(k l:Bool)(a c:Addr)(xs ys:Array Value):Meets (IM.«zip.__new__» ⟨[.type "zip",.ref a,.ref c],[]⟩) (λ_ R s=>cb k s.heap a xs/\cb l s.heap c ys /\
   R (.ok (.ret (.ref (zg4 s.heap k l a c).objs.size))) { s with heap:=zg5 s.heap k l a c }) :=
 .of_wp λprog w A R s h=>by
  obtain⟨hp,g,d,tk,os⟩:=s;obtain⟨r1,r2,h⟩:=h;have hsub:=sub_zip;have R1:cb k (J4 ⟨hp,g,d,tk,os⟩) a xs:=r1;have R2:cb l (J4 ⟨hp.push (fi k a),g,d,tk,os⟩) c ys:=r2.mv λo e=>c_ _ e
  wp_walk using cH R1,cH R2
  exact⟨_,rfl,h⟩
def zM{a c:Addr}{xs ys:Array Value}{Q:Value->d_->Prop}(r1:cb k s.heap a xs)(r2:cb l s.heap c ys)
  (h:∀h',IsZip h' (s.heap.objs.size+4) (s.heap.objs.size+2) (s.heap.objs.size+3) .none->Jt h' (s.heap.objs.size+2) (.ref s.heap.objs.size) (.ref (s.heap.objs.size+1)) ->
   Jt h' (s.heap.objs.size+3) .none .none->bf k h' s.heap.objs.size a 0->bf l h' (s.heap.objs.size+1) c 0->(∀b o,s.heap.get? b=some o->h'.get? b=some o)->Q (.ref (s.heap.objs.size+4)) { s with heap:=h' }) :
  wpAny (model P w) A (call (.type "zip") [.ref a,.ref c]) Q E s:=by
 refine callType_new F.called_zip (by decide) (F.typeCall_zip_2 _ _) (F.newCall_zip_2 _ _) (λobj=>F.args_object_init_3 obj _ _) F.entry_zip_new (zL k l a c xs ys) ⟨r1,r2,?_⟩;have z1:(zg1 s.heap k a).objs.size=s.heap.objs.size+1:=Hc ..;have z2:(zg2 s.heap k l a c).objs.size=s.heap.objs.size+2:=by rw [Hc,z1]
 have z3:(zg3 s.heap k l a c).objs.size=s.heap.objs.size+3:=by rw [Hc,z2]
 have z4:(zg4 s.heap k l a c).objs.size=s.heap.objs.size+4:=by rw [Hc,z3]
 have m4:∀b o,(zg4 s.heap k l a c).get? b=some o->(zg5 s.heap k l a c).get? b=some o:=λb o e=>c_ _ e;have m3:∀b o,(zg3 s.heap k l a c).get? b=some o->(zg5 s.heap k l a c).get? b=some o:=λb o e=>m4 b o (c_ _ e);have m2:∀b o,(zg2 s.heap k l a c).get? b=some o->(zg5 s.heap k l a c).get? b=some o:=λb o e=>m3 b o (c_ _ e);have m1:∀b o,(zg1 s.heap k a).get? b=some o->(zg5 s.heap k l a c).get? b=some o:=λb o e=>m2 b o (c_ _ e)
 have g5:(zg5 s.heap k l a c).get? (zg4 s.heap k l a c).objs.size=some _:=h_ _ rfl;have g4:=m4 _ _ (h_ (zg3 s.heap k l a c) (o:={ cls:=.type "tuple",data:=.seq #[.none,.none] }) rfl);have g3:=m3 _ _ (h_ (zg2 s.heap k l a c) (o:={ cls:=.type "tuple",data:=.seq #[.ref s.heap.objs.size,.ref (zg1 s.heap k a).objs.size] }) rfl);have g2:=m2 _ _ (h_ (zg1 s.heap k a) (o:=fi l c) rfl)
 have g1:=m1 _ _ (h_ s.heap (o:=fi k a) rfl);show _/\_;rw [z2,z3,z4] at g5;rw [z1,z2] at g3;rw [z3] at g4;rw [z1] at g2;rw [z4];exact⟨⟨_,g5,rfl⟩,h _ g5 g3 g4 ⟨_,g1,rfl,rfl⟩ ⟨_,g2,rfl,rfl⟩ λb o e=>m1 b o (c_ _ e)⟩
end
noncomputable def stA(a b:List Nat)(i:Nat):Bool:=decide (i+b.length<=a.length/\(a.drop i).take b.length=b)
noncomputable def fnd(a b:List Nat)(lo:Nat):Int:=match (Jy lo (a.length+1 - lo)).find? (stA a b) with|some k=>(k:Int)|none=>-1
theorem pF(s sub:Str)(hi:Nat):∀(l:List Nat) (st:Array Nat×Nat),st.fst.size=1->(forIn l st (J9 s sub hi 1)).run.fst=st.fst
 | [],_,_=>rfl
 | x::l,st,h=>by
  rw [forIn_cons];unfold J9;rw [if_neg (λz=>by have:=z.1.1.1;omega)];exact pF s sub hi l (st.fst,st.snd) h
theorem pG(s sub:Str)(hi:Nat)(p:Nat->Bool)(hp:∀i,p i=true ↔ (i+sub.length<=hi/\JG s sub i=true)):∀(l:List Nat) (free:Nat),(∀i∈l,free<=i) ->
  (forIn l ((#[]:Array Nat),free) (J9 s sub hi 1)).run.fst=(match l.find? p with|some k=>#[k]|none=>#[])
 | [],_,_=>rfl
 | x::l,free,hf=>by
  rw [forIn_cons,find?_cons];unfold J9;have hx:free<=x:=hf x (mem_cons_self ..)
  cases c:p x with
  | true =>
   have hc:=(hp x).mp c;rw [if_pos ⟨⟨⟨by simp,hx⟩,hc.1⟩,hc.2⟩];exact pF s sub hi l (#[x],x+sub.length) rfl
  | false =>
   rw [if_neg (λz=>by
    have:=(hp x).mpr ⟨z.1.2,z.2⟩;rw [c] at this;cases this)]
   exact pG s sub hi p hp l free λi h=>hf i (p_ _ h)
def zN(a b:List Nat)(i:Nat):JG (S a) (S b) i=decide ((a.drop i).take b.length=b):=by
 unfold JG;rw [dC]
 have e1:((S a).cps.extract i (i+b.length))=((a.drop i).take b.length).toArray:=by
  show a.toArray.extract _ _=_;rw [extract_toArray,extract_eq_take_drop];congr 2;omega
 rw [e1];show (((a.drop i).take b.length).toArray == b.toArray)=_
 by_cases h:(a.drop i).take b.length=b
 .rw [decide_eq_true h,h];simp
 .rw [decide_eq_false h,beq_eq_false_iff_ne];intro z;exact h (by simpa using congrArg KO z)
theorem vf(a b:List Nat)(lo:Nat):(match Jz (S a) (S b) lo (S a).length 1 with|k::_=>(k:Int)|[]=>-1)=fnd a b lo:=by
 rw [StrLaws.occ_eq,dC,pG (S a) (S b) a.length (stA a b) (λi=>?_) _ lo (λi hi=>(Ki.mp hi).1)]
 .unfold fnd;cases (Jy lo (a.length+1 - lo)).find? (stA a b) <;> rfl
 .unfold stA;rw [zN,dC];simp
section
variable {X:Cx}
def xH:MtR X "str.find" (λx xs H Q=>∃a b,x=.str (S a)/\xs=[.str (S b)]/\Q (.int (fnd a b 0)) H):=by
 intro pins s σ H x xs v us Q I rx rs h;obtain⟨a,b,rfl,rfl,q⟩:=h;obtain⟨t,rfl⟩:=rx;obtain⟨u,rfl,t',rfl⟩:=gK rs;have e:Txt.find (S a) (S b)=fnd a b 0:=vf a b 0;exact SC.find ⟨.int _,H,I.tok _,⟨_,rfl⟩,by rw [e];exact q⟩
end
def rY{a b:List Nat}{lo:Nat}(h:fnd a b lo≠-1):∃k:Nat,fnd a b lo=(k:Int)/\lo<=k/\stA a b k=true/\∀j,lo<=j->j<k->stA a b j=false:=by
 unfold fnd at h ⊢
 cases e:(Jy lo (a.length+1 - lo)).find? (stA a b) with
 | none=>rw [e] at h;exact absurd rfl h
 | some k =>
  obtain⟨h1,h2⟩:=find?_eq_some_iff_append.mp e;obtain⟨as,bs,hl,hn⟩:=h2;have hk:k∈Jy lo (a.length+1 - lo):=by rw [hl];simp
  refine⟨k,rfl,(Ki.mp hk).1,h1,λj hj1 hj2=>?_⟩;have hj:j∈Jy lo (a.length+1 - lo):=Ki.mpr ⟨hj1,by have:=(Ki.mp hk).2;omega⟩;have hs:(Jy lo (a.length+1 - lo)).Pairwise (·<·):=List.pairwise_lt_range';rw [hl] at hj hs
  rcases Ij.mp hj with z|z
  .have:=hn j z;simpa using this
  .rcases mem_cons.mp z with z|z
   .omega
   .have:=(pairwise_cons.mp (pairwise_append.mp hs).2.1).1 j z;omega
def xI{a b:List Nat}{lo:Nat}(h:fnd a b lo=-1):∀j,lo<=j->stA a b j=false:=by
 unfold fnd at h
 cases e:(Jy lo (a.length+1 - lo)).find? (stA a b) with
 | some k=>rw [e] at h;simp only at h;omega
 | none =>
  intro j hj
  by_cases hlt:j<a.length+1
  .have:=find?_eq_none.mp e j (Ki.mpr ⟨hj,by omega⟩);simpa using this
  .unfold stA;rw [decide_eq_false (λz=>by have:=z.1;omega)]
section
variable {X:Cx}{tg:Expr}
noncomputable def Itk(k:Bool)(K:b_)(a:Addr):It:=cond k (Itt K a) (Itl K a)
noncomputable def B5(K:b_):R2:=λx y H Q=>∃l b xs zs,x=.ref l/\y=.ref b/\SqL K H l xs/\SqL K H b zs/\xs.length+zs.length<=sizeLine/\∀p,H p=none->Q (.ref p) (upd H p (.lst (xs++zs)))
def zO:OpR X (binaryOp .Add) (B5 X.K):=by
 intro pins s σ H x y v u Q I rx ry h;obtain⟨l,b,xs,zs,rfl,rfl,hH,hB,hz,q⟩:=h;cases rx;cases ry;obtain⟨its,r,pl,hl⟩:=I.list hH;obtain⟨its2,r2,pl2,hl2⟩:=I.list hB;obtain⟨⟨cls,dd,data,sl⟩,ho,hc,n,hd⟩:=pl.isList;obtain⟨⟨cls2,dd2,data2,sl2⟩,ho2,hc2,n2,hd2⟩:=pl2.isList;simp only at hc hd hc2 hd2;subst hc hd hc2 hd2;have n1:=r.length;have n2':=r2.length;have ea:its.toArray++its2.toArray=(its++its2).toArray:=by simp
 have fin:EP X pins σ Q (.ref s.heap.objs.size) { s with heap:=s.heap.push { cls:=.type "list",data:=.seq (its.toArray++its2.toArray) } }:=by
  rw [ea];exact⟨.ref _,_,I.lnew (t':=s.toks) (r.append r2) (by rw [length_append];omega),rfl,q _ I.fresh⟩
 exact KS ⟨_,ho,rfl⟩ ⟨_,ho2,rfl⟩ noFill_list_add seq_list_add PySem.F.slot_list_add PySem.F.entry_list_add (PySem.F.args_list_add_2 _ _) (list_addW l b its.toArray its2.toArray n n2 dd dd2 sl sl2 (by simp;omega)) ⟨ho,ho2,fin⟩
end
def tx(l:List Nat):V:=.str (S l)
noncomputable def qC(n:Nat)(d:JF):Prop:=d.canLay0=true/\d.depth<=n
def qC.shaped{n:Nat}{d:JF}(h:qC n d)(hn:n<=64):IG d=true:=by
 unfold IG;rw [h.1,decide_eq_true (E_ h.2 hn)];rfl
theorem vg{n:Nat}:∀{ds:List JF},(∀d∈ds,qC n d)->PyData.canLayAll0 ds=true/\PyData.depthAll ds<=n
 | [],_=>⟨rfl,Iy _⟩
 | d::ds,h=>by
  obtain⟨a,b⟩:=vg (ds:=ds) λx hx=>h x (p_ _ hx);obtain⟨c,e⟩:=h d mem_cons_self;simp only [PyData.canLayAll0,PyData.depthAll,a,c];exact⟨rfl,max_le.mpr ⟨e,b⟩⟩
def qC.list{n:Nat}{ds:List JF}(h:∀d∈ds,qC n d):qC (n+1) (.list ds):=by
 obtain⟨a,b⟩:=vg h;exact⟨by simp only [JJ];exact a,by simp only [Kj];omega⟩
def qC.int(i:Int):qC 0 (.int i):=⟨by simp [JJ],by simp [Kj]⟩
noncomputable def Lts(l:List Nat):Prop:=∀c∈l,97<=c/\c<=122
def Lts.nil:Lts []:=λc h=>nomatch h
def Lts.app{a b:List Nat}(x:Lts a)(y:Lts b):Lts (a++b):=λc h=>(Ij.mp h).elim (x c) (y c)
def Lts.one{c:Nat}(h:97<=c/\c<=122):Lts [c]:=λd hd=>by
 have:d=c:=by simpa using hd
 subst this;exact h
def Lts.take{a:List Nat}(x:Lts a)(n:Nat):Lts (a.take n):=λc h=>x c (mem_of_mem_take h)
def Lts.drop{a:List Nat}(x:Lts a)(n:Nat):Lts (a.drop n):=λc h=>x c (mem_of_mem_drop h)
def Lts.cut{a:List Nat}(x:Lts a)(lo hi:Option Int):Lts (dU a lo hi):=(x.drop _).take _
def Lts.rep{a:List Nat}(x:Lts a)(n:Int):Lts (uk a n):=λc h=>by
 unfold uk at h;obtain⟨l,h1,h2⟩:=mem_flatten.mp h;rw [eq_of_mem_replicate h1] at h2;exact x c h2
def vh(ns:List Int):∀d∈ns.map K0,qC 0 d:=λd hd=>by
 obtain⟨i,_,rfl⟩:=Iz.mp hd;exact qC.int i
def xJ{d:JF}(h:IG d=true):JO d d=true:=SeqAt.eqv_refl d (SeqAt.canLay_of_shaped h)
theorem kF(p:Nat->Prop)(h0:p 0):∀n,0<n->∃k,k<n/\p k/\∀j,j<n->p j->j<=k
 | 0,h=>absurd h (by decide)
 | 1,_=>⟨0,by decide,h0,λj hj _=>by omega⟩
 | n+2,_=>by
  obtain⟨k,h1,h2,h3⟩:=kF p h0 (n+1) (by omega)
  by_cases c:p (n+1)
  .exact⟨n+1,by omega,c,λj hj _=>by omega⟩
  .refine⟨k,by omega,h2,λj hj hp=>?_⟩
   by_cases e:j=n+1
   .subst e;exact absurd hp c
   .exact h3 j (by omega) hp
section
variable {κ:Type} [DecidableEq κ]
def KV.length{kvs:List (κ×V)}{vs:List (κ×Value)}(r:KV kvs vs):kvs.length=vs.length:=Paired.length r
end
section
variable {P:r_}{w:World}{H:Hp}{h:Heap}{a:Addr}
def EC{u:HO}(ok:HOk P w H h)(e:Rd H a u):bu P w H h a u:=e.ok ok
def B6{kvs:List (Key×V)}(ok:HOk P w H h)(e:Rd H a (.dK kvs)):kvs.length<=sizeLine/\(a == sysModules)=false/\∃vs,KV kvs vs/\h.DictOf (nq P w) a vs :=
 show bu P w H h a (.dK kvs) from EC ok e
def ED{kvs:List (Key×V)}(ok:HOk P w H h)(e:H a=some (.dK kvs)):kvs.length<=sizeLine/\(a == sysModules)=false/\∃vs,KV kvs vs/\h.DictOf (nq P w) a vs:=B6 ok (.inl e)
end
section
variable {X:Cx}{pins:List (Addr×Obj)}{σ:St}{H:Hp}{s:d_}{a:Addr}{y v:V}{u r:Value}{o:Option V}{A:w_}{E:Value->d_->Prop}
def Inv.big(I:Inv X pins σ H s):sysModules<s.heap.objs.size:=by
 have h:mainGlobals<s.heap.objs.size:=(I.mod.glob.keeps I.bk).lt;exact lt_trans (by decide) h
end
section
variable {X:Cx}{pins:List (Addr×Obj)}{σ:St}{H:Hp}{s:d_}{a:Addr}{kvs:List (Key×V)}{k:Key}{u:Value}{A:w_}{E:Value->d_->Prop}
def EE{Q:Value->d_->Prop}(I:Inv X pins σ H s)(e:Rd H a (.dK kvs))(h:∀t s',Inv X pins σ H s'->Q (.int kvs.length t) s'):wpAny (model X.prog X.w) A (call (.builtin "len") [.ref a]) Q E s:=by
 obtain⟨z,hd,vs,rel,dd⟩:=B6 I.hok e;refine call_len_dict hd dd (by rw [<- rel.length];rw [Jw] at z;omega) ?_;rw [<- rel.length];exact h _ _ (I.tok _)
end
def xK{P:r_}{w:World}{H:Hp}(h:Heap)(hb:sysModules<h.objs.size):bu P w H (h.push { cls:=.type "dict",data:=.dict #[] }) h.objs.size (.dK []) :=
 ⟨Iy _,beq_eq_false_iff_ne.mpr (HR (Hi hb)),[],.nil,Heap.DictOf.new h⟩
noncomputable def yH:TE:=λ_ H Q=>∀p,H p=none->Q (.ref p) (upd H p (.dK []))
section
variable {X:Cx}{pos:Pos}
def xL:PE X (.Dict [] [] pos) yH:=λpins s σ H Q I h =>
 wpAny_Dict_empty ⟨.ref s.heap.objs.size,_,I.laid (a:=s.heap.objs.size) (o:=.dK []) (t':=s.toks) (λ_ _ q=>c_ _ q) (so _) (xK s.heap I.big),rfl,h _ (I.hok.fresh (so _))⟩
end
section
variable {X:Cx}
def rZ{x:Str}{i:Int}{pos:Pos}(hg:Gl X x)(h:∃t,X.mg x=some (.int i t))(hd:(x == ("__debug__":Str))=false:=by decide):PE X (.Name x pos) (tC (.int i)):=by
 obtain⟨t,e⟩:=h;exact zi (u:=.int i t) hg e ⟨t,rfl⟩ hd
end
structure B7 (P:r_) (w:World) (K:b_) (mg:Str->Option Value) (base:Heap) (k:Nat) (x:Str) (ps:List Str) (dvs:List V) (sp:Sp):Prop where
 ex:∃(f:Addr) (fd:HH),lL P w K mg base CX0 k f fd ps sp/\(∀n,n<=dvs.length->∃ds,bB (dvs.drop n) ds/\iK K fd ps ds)/\u_ K (.ref f)=true/\mg x=some (.ref f)
structure r8 (K:b_) (mg:Str->Option Value) (x:Str) (st:Stmt) (dvs:List V):Prop where
 ex:∃(f dT:Addr) (oc:Value) (od an dd:Option Addr) (kV doc pm cdv ct:Value) (osl sl:Array (Option Value)) (items:List Value) (n:Nat),
  K.lookup f=some ⟨oc,od,.func (Hb x x (bC st) (aS st) (ag st) (.ref dT) kV doc pm an cdv ct),osl⟩/\HF K cdv x=true/\u_ K (.ref f)=true/\mg x=some (.ref f) /\
  K.lookup dT=some ⟨.type "tuple",dd,.seq items.toArray n,sl⟩/\bB dvs items
section
variable {P:r_}{w:World}{K:b_}{mg:Str->Option Value}{base:Heap}{x:Str}{st:Stmt}{N ps:List Str}{k:Nat}{sp:Sp}{dvs:List V}
def r8.ok(D:r8 K mg x st dvs)(S:aD N ps (ag st))
  (hb:∀(dT:Addr) (kV doc pm:Value) (an:Option Addr) (cdv ct:Value) (items:List Value) (us:List Value) (n:Nat),items.length=dvs.length->n<=dvs.length->(us++items.drop n).length=ps.length ->
   ∃k,bindArgs (Hb x x (bC st) (aS st) (ag st) (.ref dT) kV doc pm an cdv ct) ⟨us,[]⟩=seqItems? (.ref dT) >>= k/\k (some items.toArray)=pure (ps.zip (us++items.drop n)))
  (len:∀vs H Q E,sp vs H Q E->vs.length=ps.length)
  (hbody:∀(f:Addr) (cdv:Value) (A:w_) (outer:List Env) (s:d_) (H:Hp) (vs:List V) (Q:VK) (E:XK),dR k (A.deeper (envOfC x (ag st) s.heap.objs.size f cdv))->sp vs H Q E ->
   ∃t,PSs (lM CX0 P w K mg base N x (ag st) f cdv A outer s H E).nox (aS st) t/\t { nx:=λ_ H'=>Q .non H',rt:=Q } (start N vs) H):B7 P w K mg base (k+1) x ps dvs sp:=by
 obtain⟨f,dT,oc,od,an,dd,kV,doc,pm,cdv,ct,osl,sl,items,n,lk,hcd,kp,hm,lt,rv⟩:=D.ex;have hl:=rv.length
 refine⟨f,_,zw lk hcd S len λA outer s H vs Q E hr hsp=>?_,λj hj=>⟨items.drop j,rv.drop j,λs us X hlen=>?_⟩,kp,hm⟩
 .obtain⟨t,h,q⟩:=hbody f cdv A outer s H vs Q E hr hsp;exact⟨t,h.nox,q⟩
 .obtain⟨k,h1,h2⟩:=hb dT kV doc pm an cdv ct items us j hl.symm hj hlen;exact BindsTo.of_defaults rfl (X dT _ lt) rfl h1 h2
end
section
variable {X:Cx}{k:Nat}{x:Str}{ps:List Str}{sp:Sp}{p pos:Pos}{e:Expr}{es:List Expr}{t:TA}{dvs:List V}
def zP(j:Nat)(C:B7 X.prog X.w X.K X.mg X.base k x ps dvs sp)(hr:dR k X.A)(hj:j<=dvs.length)(ha:PA X (e::es) t)(hg:Gl X x:=by rfl)(hdb:(x == ("__debug__":Str))=false:=by decide)(he:starEach (e::es) X.env=(false,eval e X.env)::starEach es X.env:=by rfl)
  (hpl:(backTo pos (starEach es X.env)).any (·.1)=false:=by rfl):PE X (.Call (.Name x p) (e::es) [] pos) (dB sp (dvs.drop j) E0 t):=by
 obtain⟨f,fd,F,hb,hk,hm⟩:=C.ex;obtain⟨ds,rv,hb⟩:=hb j hj;exact uM F hr hg hm hk hb rv xB ha hdb he hpl
def B8{pins:List (Addr×Obj)}{σ:St}{H:Hp}{s:d_}{x:V}{u t:Value}(I:Inv X pins σ H s)(rx:c4 x u)(ty:oM X.K H x t) :
  ∃Hq:Heap->Prop,PySem.W.KitX X.K u t Hq/\Hq s.heap/\u≠.builtin "__main__.__loader__#opaque":=by
 cases ty with
 | non=>cases (show u=HC from rx);exact⟨_,PySem.W.kitx_none,Ik,λz=>nomatch z⟩
 | bl y=>cases (show u=Ih y from rx);exact⟨_,PySem.W.kitx_bool,Ik,λz=>nomatch z⟩
 | int i=>obtain⟨t,q⟩:=(show ∃t,u=Km i t from rx);cases q;exact⟨_,PySem.W.kitx_int,Ik,λz=>nomatch z⟩
 | str y=>obtain⟨t,q⟩:=(show ∃t,u=Jv y t from rx);cases q;exact⟨_,PySem.W.kitx_str,Ik,λz=>nomatch z⟩
 | flt y=>obtain⟨t,q⟩:=(show ∃t,u=K_ y t from rx);cases q;exact⟨_,PySem.W.kitx_float,Ik,λz=>nomatch z⟩
 | @lst a xs ea =>
  cases (show u=k_ a from rx);obtain⟨_,_,n,_,h1⟩:=(show bu X.prog X.w H s.heap a (.lst xs) from I.hok a _ ea)
  exact⟨_,JC,⟨_,h1,rfl⟩,λz=>nomatch z⟩
 | @frz a ob xs ea =>
  cases (show u=k_ a from rx);obtain⟨_,_,_,n,_,h1⟩:=(show bu X.prog X.w H s.heap a (.frz ob (.lst xs)) from I.hok a _ ea)
  exact⟨_,JC,⟨_,h1,rfl⟩,λz=>nomatch z⟩
 | @tup a xs ea =>
  cases (show u=k_ a from rx);obtain⟨_,_,_,p⟩:=(show bu X.prog X.w H s.heap a (.tup xs) from I.hok a _ ea)
  obtain⟨o,h1,h2,_⟩:=p;exact⟨_,PySem.W.kitx_tuple,⟨o,h1,h2⟩,λz=>nomatch z⟩
 | @dK a kvs ea =>
  cases (show u=k_ a from rx);obtain⟨_,_,vs,_,p⟩:=(show bu X.prog X.w H s.heap a (.dK kvs) from I.hok a _ ea)
  obtain⟨o,es,ep,h1,h2,_⟩:=p;exact⟨_,JD,⟨o,h1,h2.1⟩,λz=>nomatch z⟩
 | @dT a kvs ea =>
  cases (show u=k_ a from rx);obtain⟨_,_,xs,_,o,es,ep,h1,h2,_⟩:=(show bu X.prog X.w H s.heap a (.dT kvs) from I.hok a _ ea)
  exact⟨_,JD,⟨o,h1,h2.1⟩,λz=>nomatch z⟩
 | @ins a C dx fs ea cl ha hn htk hm =>
  cases (show u=k_ a from rx);obtain⟨mA,O,_⟩:=ko I.hok ea;obtain⟨od,J,_⟩:=O.look;exact⟨_,PySem.W.kitx_own (cl.get _) cl.hd ha hn htk hm,J,λz=>nomatch z⟩
theorem sd:∀{ts:List String}{us:List Value},bB (ts.map V.ty) us->us=ts.map Jd
 | [],_,.nil=>rfl
 | t::ts,_,.cons r rr=>by rw [sd rr,show _=Jd t from r];rfl
def pH:bj X (.builtin "isinstance") (λxs H Q=>∃(x:V) (p:Addr) (ts:List String) (t:Value) (b:Bool),xs=[x,.ref p]/\oM X.K H x t/\H p=some (.tup (ts.map V.ty))/\Iv X.K t (ts.map Jd)=some b/\Q (.bl b) H):=by
 intro pins s σ H xs us Q I r h;obtain⟨x,p,ts,t,b,rfl,ty,hp,e,q⟩:=h;obtain⟨u,w',rfl,rx,ry⟩:=qu r;cases (show w'=k_ p from ry);obtain⟨Hq,Z,hq,hx⟩:=B8 I rx ty;obtain⟨its,rv,⟨⟨cls,dd,data,sl⟩,ho,hc,n,hd⟩,_⟩:=I.tuple (SqT.of hp);simp only at hc hd;subst hc hd;exact PySem.W.kia_tup Z I.kIn hq ho (by rw [sd rv];exact e) hx λtk=>⟨.bl b,H,I.tok _,rfl,q⟩
def B9:OpR X (compareOp .Is) (λx y H Q=>∃b c,x=.bl b/\y=.bl c/\Q (.bl (decide (b=c))) H):=by
 intro pins s σ H x y v u Q I rx ry h;obtain⟨b,c,rfl,rfl,q⟩:=h;cases (show v=Ih b from rx);cases (show u=Ih c from ry);cases b <;> cases c <;> exact e_ (bn I q (by first|rfl|decide))
def nI(bs:List Bool):(i_ bs.length).all (λi=>bs.getD i false)=bs.all id:=by
 induction bs with
 | nil=>rfl
 | cons b bs ih=>rw [length_cons,range_succ_eq_map,all_cons,all_map,all_cons,<- ih];rfl
def nJ(bs:List Bool):(i_ bs.length).any (λi=>bs.getD i false)=bs.any id:=by
 induction bs with
 | nil=>rfl
 | cons b bs ih=>rw [length_cons,range_succ_eq_map,any_cons,any_map,any_cons,<- ih];rfl
def vj{bs:List Bool}{its:List Value}(r:bB (bs.map V.bl) its){i:Nat}{v:Value}(h:its.toArray[i]?=some v):v=.bool (bs.getD i false):=by
 have h':its[i]?=some v:=by simpa using h
 have hl:=r.length;rw [length_map] at hl;have hi:i<bs.length:=by have:=(j_.mp h').1;omega
 obtain⟨u,e1,e2⟩:=r.get (i:=i) (x:=V.bl bs[i]) (by rw [q_,gV hi];rfl);rw [h'] at e1;cases e1;rw [show v=Ih bs[i] from e2,o_,gV hi];rfl
def xM(hc:X.calm=true):bj X (.builtin "all") (λxs H Q=>∃(p:Addr) (bs:List Bool),xs=[.ref p]/\SqL X.K H p (bs.map V.bl)/\Q (.bl (bs.all id)) H):=by
 intro pins s σ H xs us Q I r h;obtain⟨p,bs,rfl,hS,q⟩:=h;obtain⟨u,rfl,ru⟩:=gK r;cases (show u=k_ p from ru);obtain⟨its,rv,pl,hz⟩:=I.list hS;have hl:=rv.length;rw [length_map] at hl;have hps:p<s.heap.objs.size:=let ⟨o,ho,_⟩:=pl.isList;l_ ho
 obtain⟨f0,f1,f2,f3,f4,f5⟩:=I.fpOk (H':=H) (so s.heap.objs.size) (I.hok.fresh (so _))
 refine call_all_walk (Jc pl.isList ⟨s.heap.objs.size,_,_,its.toArray.size,_,_,λi=>bs.getD i false,rfl,Walks.list (by exact I.ok.hd hc) s.heap.objs.size p (Hi hps) its.toArray,⟨⟨_,h_ _ rfl,rfl,rfl⟩,pl.isList.push _⟩,λi v s Q E hP hQ=>?_,λh' tk hk=>?_⟩)
 .rw [vj rv hP];exact HK hQ
 .have I1:Inv X pins σ H { s with heap:=s.heap.push { cls:=.type "list_iterator",data:=.fields #[.ref p,.int 0 0] } }:=I.kept (t':=s.toks) λb o e=>c_ _ e;have I2:=I1.turned (h':=h') (t':=tk) (it:=s.heap.objs.size) (λb o hb e=>hk b o (by simpa using hb) e) f0 f1 f3 f4 f5;refine⟨.bl (bs.all id),H,I2,?_,q⟩;show Ih _=Ih _;rw [x_,<- hl,nI]
def xN(hc:X.calm=true):bj X (.builtin "any") (λxs H Q=>∃(p:Addr) (bs:List Bool),xs=[.ref p]/\SqL X.K H p (bs.map V.bl)/\Q (.bl (bs.any id)) H):=by
 intro pins s σ H xs us Q I r h;obtain⟨p,bs,rfl,hS,q⟩:=h;obtain⟨u,rfl,ru⟩:=gK r;cases (show u=k_ p from ru);obtain⟨its,rv,pl,hz⟩:=I.list hS;have hl:=rv.length;rw [length_map] at hl;have hps:p<s.heap.objs.size:=let ⟨o,ho,_⟩:=pl.isList;l_ ho
 obtain⟨f0,f1,f2,f3,f4,f5⟩:=I.fpOk (H':=H) (so s.heap.objs.size) (I.hok.fresh (so _))
 refine call_any_walk (Jc pl.isList ⟨s.heap.objs.size,_,_,its.toArray.size,_,_,λi=>bs.getD i false,rfl,Walks.list (by exact I.ok.hd hc) s.heap.objs.size p (Hi hps) its.toArray,⟨⟨_,h_ _ rfl,rfl,rfl⟩,pl.isList.push _⟩,λi v s Q E hP hQ=>?_,λh' tk hk=>?_⟩)
 .rw [vj rv hP];exact HK hQ
 .have I1:Inv X pins σ H { s with heap:=s.heap.push { cls:=.type "list_iterator",data:=.fields #[.ref p,.int 0 0] } }:=I.kept (t':=s.toks) λb o e=>c_ _ e;have I2:=I1.turned (h':=h') (t':=tk) (it:=s.heap.objs.size) (λb o hb e=>hk b o (by simpa using hb) e) f0 f1 f3 f4 f5;refine⟨.bl (bs.any id),H,I2,?_,q⟩;show Ih _=Ih _;rw [x_,<- hl,nJ]
end
section
variable {X:Cx}{o e f:Expr}{apos cpos:Pos}{td ty tx:TE}
def vk:bj X (.builtin "len") (λxs H Q=>∃p kvs,xs=[.ref p]/\Rd H p (.dK kvs)/\Q (.int kvs.length) H):=by
 intro pins s σ H xs us Q I r h;obtain⟨p,kvs,rfl,hd,q⟩:=h;obtain⟨u,rfl,ru⟩:=gK r;cases (show u=k_ p from ru);exact EE I hd λt s' I'=>⟨.int kvs.length,H,I',⟨t,rfl⟩,q⟩
end
noncomputable def aI(K:b_)(x:Str):Addr:=match v_ K mainGlobals x with
 | some (some (.ref C))=>C
 | _=>0
def dw{K:b_}{x:Str}{C:Addr}(h:v_ K mainGlobals x=some (some (.ref C))):aI K x=C:=by unfold aI;rw [h]
structure D0 (P:r_) (w:World) (K:b_) (mg:Str->Option Value) (base:Heap) (k:Nat) (C:Addr) (m:Str) (ps:List Str) (sp:Sp):Prop where
 ex:∃(f:Addr) (fd:HH),lL P w K mg base CX0 k f fd ps sp/\iK K fd ps []/\DZ K C m f
structure Ca (P:r_) (w:World) (K:b_) (mg:Str->Option Value) (base:Heap) (k:Nat) (C:Addr) (x:Str) (ps:List Str) (sp:Sp):Prop where
 ex:∃(f:Addr) (fd:HH),lL P w K mg base CX0 k f fd ps sp/\iK K fd ps []/\Mk K C f/\mg x=some (.ref C)
structure se (K:b_) (C:Addr) (m qual:Str) (st:Stmt):Prop where
 ex:∃(f:Addr) (fd:HH),Fun K m qual st f fd/\DZ K C m f
structure sg (K:b_) (mg:Str->Option Value) (C:Addr) (x qual:Str) (st:Stmt):Prop where
 ex:∃(f:Addr) (fd:HH),Fun K "__init__" qual st f fd/\Mk K C f/\mg x=some (.ref C)
section
variable {P:r_}{w:World}{K:b_}{mg:Str->Option Value}{base:Heap}{x m qual:Str}{C:Addr}{st:Stmt}{N ps:List Str}{k:Nat}{sp:Sp}
def se.ok(D:se K C m qual st)(S:aD N ps (ag st))
  (hb:∀(kV doc pm:Value) (an:Option Addr) (cdv ct:Value) (us:List Value),us.length=ps.length->bindArgs (Hb m qual (bC st) (aS st) (ag st) .none kV doc pm an cdv ct) ⟨us,[]⟩=pure (ps.zip us))
  (len:∀vs H Q E,sp vs H Q E->vs.length=ps.length)
  (hbody:∀(f:Addr) (cdv:Value) (A:w_) (outer:List Env) (s:d_) (H:Hp) (vs:List V) (Q:VK) (E:XK),dR k (A.deeper (envOfC qual (ag st) s.heap.objs.size f cdv))->sp vs H Q E ->
   ∃t,PSs (lM CX0 P w K mg base N qual (ag st) f cdv A outer s H E).nox (aS st) t/\t { nx:=λ_ H'=>Q .non H',rt:=Q } (start N vs) H):D0 P w K mg base (k+1) C m ps sp:=by
 obtain⟨f,fd,F,hm⟩:=D.ex;exact⟨f,fd,F.ok S len λcdv A outer s H vs Q E hr h=>hbody f cdv A outer s H vs Q E hr h,F.binds hb,hm⟩
def sg.ok(D:sg K mg C x qual st)(S:aD N ps (ag st))
  (hb:∀(kV doc pm:Value) (an:Option Addr) (cdv ct:Value) (us:List Value),us.length=ps.length->bindArgs (Hb "__init__" qual (bC st) (aS st) (ag st) .none kV doc pm an cdv ct) ⟨us,[]⟩=pure (ps.zip us))
  (len:∀vs H Q E,sp vs H Q E->vs.length=ps.length)
  (hbody:∀(f:Addr) (cdv:Value) (A:w_) (outer:List Env) (s:d_) (H:Hp) (vs:List V) (Q:VK) (E:XK),dR k (A.deeper (envOfC qual (ag st) s.heap.objs.size f cdv))->sp vs H Q E ->
   ∃t,PSs (lM CX0 P w K mg base N qual (ag st) f cdv A outer s H E).nox (aS st) t/\t { nx:=λ_ H'=>Q .non H',rt:=Q } (start N vs) H):Ca P w K mg base (k+1) C x ps sp:=by
 obtain⟨f,fd,F,hm,e⟩:=D.ex;exact⟨f,fd,F.ok S len λcdv A outer s H vs Q E hr h=>hbody f cdv A outer s H vs Q E hr h,F.binds hb,hm,e⟩
end
section
variable {X:Cx}{k:Nat}{x m:Str}{C:Addr}{ps:List Str}{sp:Sp}{p pos apos:Pos}{o e:Expr}{es:List Expr}{ta:TE}{t:TA}
def zQ(M:Ca X.prog X.w X.K X.mg X.base k C x ps sp)(hr:dR (k+1) X.A)(ha:PA X (e::es) t)(hg:Gl X x:=by rfl)(hdb:(x == ("__debug__":Str))=false:=by decide)(he:starEach (e::es) X.env=(false,eval e X.env)::starEach es X.env:=by rfl)
  (hpl:(backTo pos (starEach es X.env)).any (·.1)=false:=by rfl):PE X (.Call (.Name x p) (e::es) [] pos) (xt C sp [] E0 t):=by
 obtain⟨f,fd,F,hb,hk,hm⟩:=M.ex;exact zv hk F hr hg hm hb .nil xB ha hdb he hpl
def xO{pl:Sem Bool}(he:PE X o ta)(c:Cls X.K C)(M:D0 X.prog X.w X.K X.mg X.base k C m ps sp)(hr:dR k X.A)
  (ht:eval (.Call (.Attribute o m apos) [] [] pos) X.env=(do
   let ov <- eval o X.env
   standAt apos.atName
   let (f,first) <- holding [ov] (getMethod ov m pl)
   callWith pos f first (backTo pos (starEach [] X.env)) (backToKw pos (keywordEach [] X.env))):=by rfl) :
  PE X (.Call (.Attribute o m apos) [] [] pos) (zu C m sp [] E0 ta eR):=by
 obtain⟨f,fd,F,hb,hm⟩:=M.ex;exact xu (pl:=pl) he c hm F hr hb .nil xB ht
end
def vm{prog:r_}{w:World}{A:w_}(k:Bool)(hh:A.handled=none)(it a:Addr)(hne:a≠it)(its:Array Value) :
  Draws prog w A it [it,a] its.size (λi v=>its[i]?=some v) (λi h=>bf k h it a i/\cb k h a its) where
 live:=λ_ _ st=>let ⟨o,ho,_⟩:=st.1;⟨o,ho⟩
 frame:=λ_ _ _ st hk=>⟨st.1.mv λo e=>hk it (by simp) o e,st.2.mv λo e=>hk a (by simp) o e⟩
 item:=λi s Q E hi st hQ=>by
  refine bV st.1 st.2 (x:=its[i]) (by simp [hi]) λh' hit' hs'=>?_;exact hQ _ h' s.toks (by simp [hi]) ⟨hit',st.2.mv λo e=>hs'.extBut _ o hne e⟩ hs'
 done:=λs Q E st hE=>dF hh st.1 st.2 (by simp) hE
noncomputable def Ite(k:Bool)(K:b_)(a:Addr):It :=
  ⟨λi H=>∃xs x,Sq k K H a xs/\xs[i]?=some x,
   λi H p H'=>∃T x,H T=none/\p=.ref T/\(∀xs,Sq k K H a xs->xs[i]?=some x)/\H'=upd H T (.tup [.int (i:Int),x]),
   λi H=>∃xs,Sq k K H a xs/\xs.length<=i⟩
def vn{P:r_}{w:World}{K:b_}{es:List Expr}{ct:Nat}{tp:Pos}{k:Bool}{a e it:Addr}(hei:e≠it) :
  yA P w K (.Tuple es ct tp) (Ite k K a) [e,it] e (λn h=>(∃old,IsEnum h e it ((n:Nat):Int) old)/\bf k h it a n) where
 mem:=by simp
 obj:=λn h st b hb=>by
  obtain⟨⟨old,he⟩,o1,g1,c1,d1⟩:=st;simp only [mem_cons,not_mem_nil,or_false] at hb
  rcases hb with rfl|rfl
  .exact⟨_,he,λv q=>by cases q⟩
  .exact⟨_,g1,λv q=>by rw [d1] at q;cases q⟩
 keep:=λn h h' st kk=>by
  obtain⟨⟨old,he⟩,w1⟩:=st;exact⟨⟨old,kk e (by simp) _ he⟩,w1.mv λo q=>kk it (by simp) o q⟩
 item:=by
  intro X hP hw hK hc n pins s σ H E I hf st hg;subst hP hw hK;obtain⟨xs,x,q1,hx⟩:=hg;obtain⟨⟨old,he⟩,w1⟩:=st;obtain⟨its,rv,p,_⟩:=I.row q1;obtain⟨ux,hux,rx⟩:=rv.get hx;have ne:=I.row_ne q1 (hf e (by simp));have ni:=I.row_ne q1 (hf it (by simp))
  have hlt:n<its.toArray.size:=by
   have:=(j_.mp hux).1;simpa using this
  have hhd:X.A.in1.handled=none:=by exact I.ok.hd hc
  refine wpAny_pyNext_enum_itemD (vm k hhd it a ni its.toArray) he ⟨w1,p⟩ hlt hei (by simp [hei,HR ne]) λy h' tk hP ho hst ht hsz hk=>?_
  have hy:y=ux:=by
   have h1:its[n]?=some y:=by simpa using hP
   rw [hux] at h1;exact (we h1).symm
  subst hy;refine⟨_,rfl,wpAny_letOwnedTupleGo_enum ho λg ge gs=>?_⟩;have lt:∀{b o},s.heap.get? b=some o->s.heap.objs.size≠b:=λq=>Je (l_ q)
  have kp:∀b o,b∉[e,it]->s.heap.get? b=some o->g.get? b=some o:=λb o hb q=>by
   simp only [mem_cons,not_mem_nil,or_false,not_or] at hb;exact gs.extBut _ _ hb.1 (hk b o hb.1 hb.2 q)
  have I2:Inv X pins σ (upd H s.heap.objs.size (.tup [.int (n:Int),x])) { s with heap:=g,toks:=tk+1 }:=I.yielded (ch:=[e,it]) (λb hb=>hf b hb) (so _) kp
   ⟨by show 2<=sizeLine;decide,[.int (n:Int) tk,y],.cons ⟨tk,rfl⟩ (.cons rx .nil),_,gs.extBut _ _ (lt he) ht,rfl,_,rfl⟩
  refine⟨.ref s.heap.objs.size,_,I2,rfl,⟨_,x,I.hok.fresh (so _),rfl,λxs' q=>by rw [I.row_inj q q1];exact hx,rfl⟩,⟨⟨y,by simpa using ge⟩,hst.1.mv λo q=>gs.extBut _ o (HR hei) q⟩,λb hb=>?_⟩
  rw [ar ?_]
  .exact (hf b hb).1
  .intro q;subst q;simp only [mem_cons,not_mem_nil,or_false] at hb;obtain⟨o1,g1,_⟩:=w1
   rcases hb with q|q
   .exact lt he q
   .exact lt g1 q
 done:=by
  intro X hP hw hK hc n pins s σ H E I hf st hg;subst hP hw hK;obtain⟨xs,q1,hend⟩:=hg;obtain⟨⟨old,he⟩,w1⟩:=st;obtain⟨its,rv,p,_⟩:=I.row q1;have e1:=rv.length;have ni:=I.row_ne q1 (hf it (by simp));have hhd:X.A.in1.handled=none:=by exact I.ok.hd hc
  obtain⟨f0,f1,f2,f3,f4,f5⟩:=hf it (by simp)
  -- the walk's end is wherever the row has no item
  have hT:s.TypeIs (.ref e) "enumerate":=⟨_,he,rfl⟩
  unfold pyNext
  refine cy (IZ (Ho (name:=IF "__next__") hT F.slot_enumerate_next
   (HV F.slot_enumerate_next hT F.entry_enumerate_next ?_ (F.args_enumerate_next_1 _))))
  show wpAny _ _ (field (.ref e) 2 >>= _) _ _ _;refine cy (D_ he rfl (x:=.ref it) rfl ?_);refine cy (dF hhd w1 p (by simp;omega) λh' x he' hx'=>?_);obtain⟨o,ho,hcl⟩:=hx';refine cy (KM (T:="StopIteration") (b:=true) ⟨o,ho,hcl⟩ isSubtype_stop ?_);exact e_ ⟨rfl,I.turned (t':=s.toks) (λb o hb q=>he' b o hb q) f0 f1 f3 f4 f5⟩
 self:=λ_ _ _ _ _ st h=>let ⟨⟨_,he⟩,_⟩:=st;wpAny_pyIter_enum he h
section
variable {P:r_}{w:World}{A:w_}{E:Value->d_->Prop}{s:d_}{k:Bool}
def xP(k:Bool)(a:Addr)(xs:Array Value):Meets (IM.«enumerate.__new__» ⟨[.type "enumerate",.ref a],[]⟩) (λ_ R s=>cb k s.heap a xs /\
   R (.ok (.ret (.ref (s.heap.push (fi k a)).objs.size))) { s with heap:=(s.heap.push (fi k a)).push { cls:=.type "enumerate",data:=.fields #[.none,.bool false,.ref s.heap.objs.size,rawInt 0,.none,.none] } }) :=
 .of_wp λprog w A R s h=>by
  obtain⟨hp,g,d,tk,os⟩:=s;obtain⟨r1,h⟩:=h;have hsub:=sub_enumerate;have R1:cb k (J4 ⟨hp,g,d,tk,os⟩) a xs:=r1;obtain⟨⟨cls,dd,data,sl⟩,ho,hc,n,hd⟩:=id r1;simp only at hc hd;subst hc hd
  wp_walk using IK ho
  refine wpAny_stack_any λst=>e_ ?_
  split
  .rename_i c _ _ _ _ _
   cases (c == Jd "enumerate")
   .wp_walk using IK ho,cH R1
    exact⟨_,rfl,h⟩
   .wp_walk using IK ho,cH R1
    exact⟨_,rfl,h⟩
  .wp_walk using IK ho,cH R1
   exact⟨_,rfl,h⟩
def xQ{a:Addr}{xs:Array Value}{Q:Value->d_->Prop}(r1:cb k s.heap a xs)
  (h:∀h',IsEnum h' (s.heap.objs.size+1) s.heap.objs.size 0 .none->bf k h' s.heap.objs.size a 0->(∀b o,s.heap.get? b=some o->h'.get? b=some o)->Q (.ref (s.heap.objs.size+1)) { s with heap:=h' }) :
  wpAny (model P w) A (call (.type "enumerate") [.ref a]) Q E s:=by
 refine callType_new F.called_enumerate (by decide) (F.typeCall_enumerate_1 _) (F.newCall_enumerate_1 _) (λobj=>F.args_object_init_2 obj _) F.entry_enumerate_new (xP k a xs) ⟨r1,?_⟩;have z1:(s.heap.push (fi k a)).objs.size=s.heap.objs.size+1:=Hc ..;have g2:((s.heap.push (fi k a)).push { cls:=.type "enumerate",data:=.fields #[.none,.bool false,.ref s.heap.objs.size,rawInt 0,.none,.none] }).get? (s.heap.push (fi k a)).objs.size=some _:=h_ _ rfl
 have g1:=c_ { cls:=.type "enumerate",data:=.fields #[.none,.bool false,.ref s.heap.objs.size,rawInt 0,.none,.none] } (h_ s.heap (o:=fi k a) rfl);show _/\_;rw [z1] at g2 ⊢;exact⟨⟨_,g2,rfl⟩,h _ g2 ⟨_,g1,rfl,rfl⟩ λb o q=>c_ _ (c_ _ q)⟩
end
section
variable {X:Cx}{es:List Expr}{ct:Nat}{tp:Pos}
noncomputable def zR(K:b_)(ta:TA):TI:=λσ H R=>ta σ H λvs H1=>∃k a,vs=[.ref a]/\(∃xs,Sq k K H1 a xs)/\R (Ite k K a) H1
def zS{a:Expr}{ta:TA}{p pos:Pos}(hg:Gl X "enumerate")(hm:X.mg "enumerate"=none)(ha:PA X [a] ta)(hs:starEach [a] X.env=[(false,eval a X.env)]:=by rfl) :
  PI X (.Tuple es ct tp) (.Call (.Name "enumerate" p) [a] [] pos) (zR X.K ta):=by
 intro pins s σ H R I h;refine Call_ (iI I hg hm boot_enumerate (Hv (thn (ha pos pins s σ H _ I h) λus s1 ⟨vs,H1,I1,r1,q1⟩=>?_) hs rfl));obtain⟨k,a,e,⟨xs,q1⟩,q⟩:=q1;subst e
 cases r1 with
 | cons r rr =>
  cases rr;cases r;obtain⟨its,rv,p,_⟩:=I1.row q1;refine xQ p λh' g1 g2 kk=>wpAny_pyIter_enum g1 ?_;have I2:Inv X pins σ H1 { s1 with heap:=h',toks:=s1.toks }:=I1.kept kk;refine⟨s1.heap.objs.size+1,[s1.heap.objs.size+1,s1.heap.objs.size],_,_,H1,rfl,I2,vn (k:=k) (a:=a) (it:=s1.heap.objs.size) (Je (Kf _)),⟨⟨_,g1⟩,g2⟩,λb hb=>?_,q⟩
  have hle:s1.heap.objs.size<=b:=by
   simp only [mem_cons,not_mem_nil,or_false] at hb
   rcases hb with e|e
   .rw [e];exact Io _ _
   .rw [e];exact so _
  exact I1.fpOk hle (I1.hok.fresh hle)
end
section
variable {X:Cx}
def vo(hc:X.calm=true):bj X (.builtin "min") (λxs H Q=>∃(p:Addr) (ns:List Int),xs=[.ref p]/\SqL X.K H p (ns.map V.int)/\0<ns.length/\∀m:Int,m∈ns->(∀a∈ns,m<=a)->Q (.int m) H):=by
 intro pins s σ H xs us Q I r h;obtain⟨p,ns,rfl,hS,hne,q⟩:=h;obtain⟨u,rfl,ru⟩:=gK r;cases (show u=k_ p from ru);obtain⟨its,rv,pl,hz⟩:=I.list hS;have hi:=je rv;have hl:=pl.isList;obtain⟨ys,e⟩:=hi.allInts.items;have hns:ns=ys.toList.map (·.1):=by rw [<- hi.numsOf,<- nums_intItems,<- e]
 have hsz:0<ys.size:=by
  have h3:=hne;rw [hns,length_map,HI] at h3;exact h3
 rw [e] at hl;refine min_intList (by exact I.ok.hd hc) hl hsz λv h' tk hv hk=>?_;obtain⟨t,rfl⟩:=intItems_at hv;obtain⟨h1,h2⟩:=argBest_lt (numAt ys) (ys.size - 1)
 refine⟨.int _,H,I.kept (t':=tk) hk,⟨t,rfl⟩,q _ ?_ λa ha=>?_⟩
 .rw [hns,numAt_eq];exact getD_mem (by rw [length_map,HI];omega)
 .rw [hns] at ha;obtain⟨j,hj,rfl⟩:=mem_getD ha;rw [length_map,HI] at hj;rw [<- numAt_eq];exact h2 j (by omega)
theorem jk(ns:List Int):∀k,k<=ns.length->preSum (λi=>ns.getD i 0) k=(ns.take k).sum
 | 0,_=>rfl
 | k+1,h=>by
  rw [preSum,jk ns k (by omega),take_add_one,gV (by omega),sum_append,o_,gV (by omega)];simp
def pI(hc:X.calm=true):bj X (.builtin "sum") (λxs H Q=>∃(p:Addr) (ns:List Int),xs=[.ref p]/\SqL X.K H p (ns.map V.int)/\Q (.int ns.sum) H):=by
 intro pins s σ H xs us Q I r h;obtain⟨p,ns,rfl,hS,q⟩:=h;obtain⟨u,rfl,ru⟩:=gK r;cases (show u=k_ p from ru);obtain⟨its,rv,pl,hz⟩:=I.list hS;have hi:=je rv;have hl:=pl.isList;obtain⟨ys,e⟩:=hi.allInts.items;have hns:ns=ys.toList.map (·.1):=by rw [<- hi.numsOf,<- nums_intItems,<- e]
 rw [e] at hl;refine sum_intListG (by exact I.ok.hd hc) hl λh' tk t' hk=>⟨.int ns.sum,H,I.kept (t':=tk) hk,⟨t',?_⟩,q⟩
 have hlen:ys.size=ns.length:=by rw [hns,length_map,HI]
 have hnum:numAt ys=λi=>ns.getD i 0:=by
  funext i;rw [numAt_eq,hns]
 rw [hnum,hlen,jk ns ns.length (so _),KE]
theorem vp:∀{ws:List (List Nat)}{us:List Value},bB (ws.map tx) us->StrsAre us (ws.map S)
 | [],_,.nil=>.nil
 | w::ws,_,.cons r rr=>by
  obtain⟨t,e⟩:=r;subst e;exact .cons _ _ (vp rr)
end
section
variable {X:Cx}{es:List Expr}{ct:Nat}{tp:Pos}
noncomputable def zT(K:b_)(ta:TA):TI:=λσ H R=>ta σ H λvs H1=>∃k l a c,vs=[.ref a,.ref c]/\(∃xs ys,Sq k K H1 a xs/\Sq l K H1 c ys)/\R (Itz k l K a c) H1
def zU{a b:Expr}{ta:TA}{p pos:Pos}(hg:Gl X "zip")(hm:X.mg "zip"=none)(ha:PA X [a,b] ta)
  (hs:starEach [a,b] X.env=[(false,eval a X.env),(false,eval b X.env)]:=by rfl) (hs2:starEach [b] X.env=[(false,eval b X.env)]:=by rfl) :
  PI X (.Tuple es ct tp) (.Call (.Name "zip" p) [a,b] [] pos) (zT X.K ta):=by
 intro pins s σ H R I h;refine Call_ (iI I hg hm boot_zip (Hv (thn (ha pos pins s σ H _ I h) λus s1 ⟨vs,H1,I1,r1,q1⟩=>?_) (by rw [hs,hs2]) (by rw [hs2];rfl)));obtain⟨k,l,a,c,e,⟨xs,ys,q1,q2⟩,q⟩:=q1;subst e
 cases r1 with
 | cons r rr =>
  cases rr with
  | cons r' rr =>
   cases rr;cases r;cases r';obtain⟨its,rv,p,_⟩:=I1.row q1;obtain⟨jts,rv',p',_⟩:=I1.row q2;refine zM p p' λh' g1 g2 g3 g4 g5 kk=>JQ g1 ?_;have I2:Inv X pins σ H1 { s1 with heap:=h',toks:=s1.toks }:=I1.kept kk
   refine⟨s1.heap.objs.size+4,[s1.heap.objs.size+4,s1.heap.objs.size+2,s1.heap.objs.size+3,s1.heap.objs.size,s1.heap.objs.size+1],_,_,H1,rfl,I2,xG (i:=s1.heap.objs.size) (j:=s1.heap.objs.size+1)
    (EB _),⟨g1,g2,⟨_,_,g3⟩,g4,g5⟩,λb hb=>?_,q⟩
   have hle:s1.heap.objs.size<=b:=by
    simp only [mem_cons,not_mem_nil,or_false] at hb
    rcases hb with e|e|e|e|e
    .rw [e];exact Io _ _
    .rw [e];exact Io _ _
    .rw [e];exact Io _ _
    .rw [e];exact so _
    .rw [e];exact Io _ _
   exact I1.fpOk hle (I1.hok.fresh hle)
end
section
variable {X:Cx}{e:Expr}{ta:TE}{f:Str}{pos:Pos}
def cK(K:b_)(eK:X.K=K)(he:PE X e ta)(hb:attributeBase e f X.env (eval e X.env)=eval e X.env):PE X (.Attribute e f pos) (xc K ta f):=eK ▸ BB he hb
noncomputable def EF(K:b_):List V->Hp->VK->Prop:=λxs H Q=>∃p ys,xs=[.ref p]/\SqL K H p ys/\Q (.int ys.length) H
noncomputable def EG(K:b_):List V->Hp->VK->Prop:=λxs H Q=>∃p ys,xs=[.ref p]/\SqT K H p ys/\Q (.int ys.length) H
noncomputable def Gc(K:b_):List V->Hp->VK->Prop:=λxs H Q=>∃x n t b,xs=[x,.ty n]/\oM K H x t/\Hm K t (.type n)=some b/\Q (.bl b) H
noncomputable def nK(K:b_):List V->Hp->VK->Prop:=λxs H Q=>∃p ys,xs=[.ref p]/\(SqL K H p ys\/SqT K H p ys)/\∀l,H l=none->Q (.ref l) (upd H l (.lst ys))
end
section
variable {X:Cx}{o e:Expr}{es:List Expr}{to:TE}{t:TA}{name:Str}{apos cpos:Pos}{T id:String}{r:V->List V->Hp->VK->Prop}
def cZ(K:b_)(eK:X.K=K)(pa:PlainAttrs T)(slot:Slot T name id)(hty:typeOf (.builtin id)=pure (.type "method_descriptor"))(hm:MtR X id r)(ho:PE X o to)(ha:PA X (e::es) t)
  (hbase:attributeBase o name X.env (eval o X.env)=eval o X.env:=by rfl)
  (hfew:((backTo cpos (starEach (e::es) X.env)).all (λx=>!x.1) && (backToKw cpos (keywordEach [] X.env)).all (λx=>x.1.isSome)
   && decide ((e::es).length+([]:List Keyword).length+(if ([]:List Keyword).isEmpty then 0 else 1)<30))=true:=by rfl)
  (hline:(apos.endLine == cpos.line)=true:=by rfl) (hs:starEach (e::es) X.env=(false,eval e X.env)::starEach es X.env:=by rfl) (hplain:(backTo cpos (starEach es X.env)).any (·.1)=false:=by rfl) :
  PE X (.Call (.Attribute o name apos) (e::es) [] cpos) (tBM K T r to t):=eK ▸ Ev pa slot hty hm ho ha hbase hfew hline hs hplain
end
noncomputable def iG(c:Bool)(A B:Prop):Prop:=match c with|true=>A|false=>B
def vq{c:Bool}{A B:Prop}(h1:c=true->A)(h2:c=false->B):iG c A B:=by
 cases c with
 | true=>exact h1 rfl
 | false=>exact h2 rfl
def cM{p:Prop}[Decidable p]{A B:Prop}(h1:p->A)(h2:¬ p->B):iG (decide p) A B:=vq (λh=>h1 (of_decide_eq_true h)) (λh=>h2 (of_decide_eq_false h))
def vt{p:Prop}[Decidable p]{A B:Prop}(h1:¬ p->A)(h2:p->B):iG (!decide p) A B:=vq (λh=>h1 λz=>by rw [decide_eq_true z] at h;cases h) (λh=>h2 (by
 by_cases z:p
 .exact z
 .rw [decide_eq_false z] at h;cases h))
def EH{p:Prop}[Decidable p]{A B:Prop}(h:p)(hA:A):iG (decide p) A B:=cM (λ_=>hA) (λz=>absurd h z)
def EI{p:Prop}[Decidable p]{A B:Prop}(h:¬ p)(hB:B):iG (decide p) A B:=cM (λz=>absurd z h) (λ_=>hB)
def Cb{p:Prop}[Decidable p]{A B:Prop}(h:¬ p)(hA:A):iG (!decide p) A B:=vt (λ_=>hA) (λz=>absurd z h)
def Cc{p:Prop}[Decidable p]{A B:Prop}(h:p)(hB:B):iG (!decide p) A B:=vt (λz=>absurd h z) (λ_=>hB)
def f9{c:Bool}{A B:Prop}(h:iG c B A):iG (!c) A B:=by
 cases c <;> exact h
def GK{c:Bool}{A B:Prop}(h:c=true)(hA:A):iG c A B:=by subst h;exact hA
def GL{c:Bool}{A B:Prop}(h:c=false)(hB:B):iG c A B:=by subst h;exact hB
def EJ{c:Bool}{A B:Prop}(h:c=false)(hA:A):iG (!c) A B:=by subst h;exact hA
def zV{c:Bool}{A B:Prop}(h:c=true)(hB:B):iG (!c) A B:=by subst h;exact hB
inductive D where
 | non|bl (b:Bool)|int (i:Int)|str (l:List Nat)|ty (n:String)
 | lst (ds:List D)|tup (ds:List D)|scr (ns:List Int)|dic (ks:List Key) (ds:List D)|obj (c:Str) (ns:List Str) (ds:List D)|exc (c:Str) (ns:List Str) (ds:List D)
noncomputable def XAt(x C:Addr)(dd:Option Addr)(new:Bool)(h:Heap):Prop:=∃o vs,h.get? x=some o/\o.cls=.ref C/\o.dict=dd/\o.data=.fields vs/\1<vs.size/\(new=true->vs[1]?=some .none)
noncomputable def cJ(A:Addr->Prop)(a:Addr):Addr->Prop:=λb=>A b\/b=a
noncomputable def A6(K:b_)(O:Addr->Prop)(H:Hp)(a:Addr)(xs:List V):Prop :=
 (¬ O a/\Rd H a (.lst xs))\/∃(o:Obj) (its:Array Value) (n:Nat),K.lookup a=some o/\o.cls=.type "list"/\o.dict=none/\o.data=.seq its n/\its.size<=sizeLine/\bB xs its.toList
def A6.sq{K:b_}{O:Addr->Prop}{H:Hp}{a:Addr}{xs:List V}(h:A6 K O H a xs):SqL K H a xs:=h.elim (λz=>.inl z.2) .inr
noncomputable def aF(O:Addr->Prop)(H:Hp)(O':Addr->Prop)(H':Hp):Prop:=∀b o,¬ O b->H b=some o->¬ O' b/\H' b=some o
def Rd.keeps{O O':Addr->Prop}{H H':Hp}{a:Addr}{u:HO}(k:aF O H O' H')(n:¬ O a)(r:Rd H a u):¬ O' a/\Rd H' a u:=by
 rcases r with e|⟨o,e⟩
 .exact⟨(k _ _ n e).1,.inl (k _ _ n e).2⟩
 .exact⟨(k _ _ n e).1,.inr ⟨o,(k _ _ n e).2⟩⟩
def A6.keeps{K:b_}{O O':Addr->Prop}{H H':Hp}{a:Addr}{xs:List V}(k:aF O H O' H')(h:A6 K O H a xs):A6 K O' H' a xs:=by
 rcases h with ⟨n,r⟩|r
 .exact .inl (r.keeps k n)
 .exact .inr r
mutual
inductive FV (K:b_) (O:Addr->Prop) (H:Hp):V->D->Prop
 | non:FV K O H .non .non
 | bl (b:Bool):FV K O H (.bl b) (.bl b)
 | int (i:Int):FV K O H (.int i) (.int i)
 | str (l:List Nat):l.length<=1000000->FV K O H (.str (S l)) (.str l)
 | ty (n:String):FV K O H (.ty n) (.ty n)
 | scr {a:Addr}{ns:List Int}:A6 K O H a (ns.map V.int)->FV K O H (.ref a) (.scr ns)
 | lst {a:Addr}{xs:List V}{ds:List D}:¬ O a->H a=some (.lst xs)->FVs K O H xs ds->FV K O H (.ref a) (.lst ds)
 | tup {a:Addr}{xs:List V}{ds:List D}:¬ O a->H a=some (.tup xs)->FVs K O H xs ds->FV K O H (.ref a) (.tup ds)
 | dic {a:Addr}{kvs:List (Key×V)}{ks:List Key}{ds:List D}:¬ O a->H a=some (.dK kvs)->kvs.map Hh=ks->FVs K O H (kvs.map IR) ds->FV K O H (.ref a) (.dic ks ds)
 | obj {a dx:Addr}{c:Str}{fs:List (Str×V)}{ns:List Str}{ds:List D}:¬ O a->H a=some (.ins (aI K c) dx fs)->fs.map Hh=ns->FVs K O H (fs.map IR) ds->FV K O H (.ref a) (.obj c ns ds)
 | exc0 {a:Addr}{c:Str}{new:Bool}:¬ O a->H a=some (.ext (XAt a (aI K c) none new))->FV K O H (.ref a) (.exc c [] [])
 | exc1 {a dx:Addr}{c:Str}{new:Bool}{fs:List (Str×V)}{ns:List Str}{ds:List D}:¬ O a->¬ O dx->H a=some (.ext (XAt a (aI K c) (some dx) new))->H dx=some (.xd fs)->fs.map Hh=ns->FVs K O H (fs.map IR) ds->FV K O H (.ref a) (.exc c ns ds)
inductive FVs (K:b_) (O:Addr->Prop) (H:Hp):List V->List D->Prop
 | nil:FVs K O H [] []
 | cons {x:V}{d:D}{xs:List V}{ds:List D}:FV K O H x d->FVs K O H xs ds->FVs K O H (x::xs) (d::ds)
end
section
variable {K:b_}{O O':Addr->Prop}{H H':Hp}
mutual
theorem FV.keeps(k:aF O H O' H'):∀{v:V}{d:D},FV K O H v d->FV K O' H' v d
 | _,_,.non=>.non
 | _,_,.bl b=>.bl b
 | _,_,.int i=>.int i
 | _,_,.str l h=>.str l h
 | _,_,.ty n=>.ty n
 | _,_,.scr s=>.scr (s.keeps k)
 | _,_,.lst n e f=>.lst (k _ _ n e).1 (k _ _ n e).2 (FVs.keeps k f)
 | _,_,.tup n e f=>.tup (k _ _ n e).1 (k _ _ n e).2 (FVs.keeps k f)
 | _,_,.dic n e m f=>.dic (k _ _ n e).1 (k _ _ n e).2 m (FVs.keeps k f)
 | _,_,.obj n e m f=>.obj (k _ _ n e).1 (k _ _ n e).2 m (FVs.keeps k f)
 | _,_,.exc0 n e=>.exc0 (k _ _ n e).1 (k _ _ n e).2
 | _,_,.exc1 n n2 e e2 m f=>.exc1 (k _ _ n e).1 (k _ _ n2 e2).1 (k _ _ n e).2 (k _ _ n2 e2).2 m (FVs.keeps k f)
theorem FVs.keeps(k:aF O H O' H'):∀{vs:List V}{ds:List D},FVs K O H vs ds->FVs K O' H' vs ds
 | _,_,.nil=>.nil
 | _,_,.cons a b=>.cons (FV.keeps k a) (FVs.keeps k b)
end
theorem FVs.length:∀{vs:List V}{ds:List D},FVs K O H vs ds->vs.length=ds.length
 | _,_,.nil=>rfl
 | _,_,.cons _ b=>by rw [length_cons,length_cons,b.length]
theorem FVs.get:∀{vs:List V}{ds:List D}{i:Nat}{v:V},FVs K O H vs ds->vs[i]?=some v->∃d,ds[i]?=some d/\FV K O H v d
 | _,_,0,_,.cons a _,e=>by simp at e;subst e;exact⟨_,rfl,a⟩
 | _,_,i+1,v,.cons _ b,e=>by
  obtain⟨d,h1,h2⟩:=b.get (i:=i) (v:=v) (by simpa using e);exact⟨d,by simpa using h1,h2⟩
theorem FVs.getD:∀{vs:List V}{ds:List D}{i:Nat}{d:D},FVs K O H vs ds->ds[i]?=some d->∃v,vs[i]?=some v/\FV K O H v d
 | _,_,0,_,.cons a _,e=>by simp at e;subst e;exact⟨_,rfl,a⟩
 | _,_,i+1,v,.cons _ b,e=>by
  obtain⟨d,h1,h2⟩:=b.getD (i:=i) (d:=v) (by simpa using e);exact⟨d,by simpa using h1,h2⟩
theorem FVs.append:∀{vs ws:List V}{ds es:List D},FVs K O H vs ds->FVs K O H ws es->FVs K O H (vs++ws) (ds++es)
 | _,_,_,_,.nil,s=>s
 | _,_,_,_,.cons a b,s=>.cons a (b.append s)
theorem FVs.set{v:V}{d:D}(f:FV K O H v d):∀{vs:List V}{ds:List D} (i:Nat),FVs K O H vs ds->FVs K O H (vs.set i v) (ds.set i d)
 | _,_,_,.nil=>.nil
 | _,_,0,.cons _ t=>.cons f t
 | _,_,i+1,.cons q t=>.cons q (FVs.set f i t)
theorem FVs.take:∀{vs:List V}{ds:List D} (n:Nat),FVs K O H vs ds->FVs K O H (vs.take n) (ds.take n)
 | _,_,0,_=>.nil
 | _,_,_+1,.nil=>.nil
 | _,_,n+1,.cons r t=>.cons r (t.take n)
theorem FVs.drop:∀{vs:List V}{ds:List D} (n:Nat),FVs K O H vs ds->FVs K O H (vs.drop n) (ds.drop n)
 | _,_,0,r=>r
 | _,_,_+1,.nil=>.nil
 | _,_,n+1,.cons _ t=>t.drop n
theorem FVs.reverse:∀{vs:List V}{ds:List D},FVs K O H vs ds->FVs K O H vs.reverse ds.reverse
 | _,_,.nil=>.nil
 | _,_,.cons r t=>by rw [KW,KW];exact t.reverse.append (.cons r .nil)
theorem FVs.ints:∀{vs:List V}{ns:List Int},FVs K O H vs (ns.map D.int)->vs=ns.map V.int
 | _,[],.nil=>rfl
 | _,n::r,h=>by
  cases h with
  | cons a b=>cases a;rw [FVs.ints b];rfl
theorem FVs.of_ints:∀ns:List Int,FVs K O H (ns.map V.int) (ns.map D.int)
 | []=>.nil
 | n::r=>.cons (.int n) (FVs.of_ints r)
theorem FVs.strs:∀{vs:List V}{ws:List (List Nat)},FVs K O H vs (ws.map D.str)->vs=ws.map tx
 | _,[],.nil=>rfl
 | _,n::r,h=>by
  cases h with
  | cons a b=>cases a;rw [FVs.strs b];rfl
theorem FVs.bls:∀{vs:List V}{bs:List Bool},FVs K O H vs (bs.map D.bl)->vs=bs.map V.bl
 | _,[],.nil=>rfl
 | _,n::r,h=>by
  cases h with
  | cons a b=>cases a;rw [FVs.bls b];rfl
end
inductive PV where
 | dat (d:D)|own (ds:List D)|ins (c:Str) (ns:List Str) (ds:List D)|odc (ks:List Key) (ds:List D)
noncomputable def PV.isOwn:PV->Bool
 | .dat _=>false
 | _=>true
noncomputable def PV.d:PV->D
 | .dat d=>d
 | .own ds=>.lst ds
 | .ins c ns ds=>.obj c ns ds
 | .odc ks ds=>.dic ks ds
abbrev PSt:=List (Option PV)
noncomputable def Wr(ρ:PSt)(σ:St)(b:Addr):Prop:=∃(i:Nat) (p:PV),ρ[i]?=some (some p)/\p.isOwn=true/\σ[i]?=some (some (.ref b))
noncomputable def OO(A:Addr->Prop)(ρ:PSt)(σ:St)(b:Addr):Prop:=A b\/Wr ρ σ b
noncomputable def RS(K:b_)(O:Addr->Prop)(H:Hp):PV->V->Prop
 | .dat d,v=>FV K O H v d
 | .own ds,v=>∃a xs,v=.ref a/\H a=some (.lst xs)/\FVs K O H xs ds
 | .ins c ns ds,v=>∃a dx fs,v=.ref a/\H a=some (.ins (aI K c) dx fs)/\fs.map Hh=ns/\FVs K O H (fs.map IR) ds
 | .odc ks ds,v=>∃a kvs,v=.ref a/\H a=some (.dK kvs)/\kvs.map Hh=ks/\FVs K O H (kvs.map IR) ds
structure Rel (K:b_) (A:Addr->Prop) (ρ:PSt) (σ:St) (H:Hp):Prop where
 len:ρ.length=σ.length
 get:∀(i:Nat) (p:PV),ρ[i]?=some (some p)->∃v,σ[i]?=some (some v)/\RS K (OO A ρ σ) H p v
 dj:∀(i j:Nat) (p q:PV) (v:V),ρ[i]?=some (some p)->ρ[j]?=some (some q)->p.isOwn=true->q.isOwn=true->σ[i]?=some (some v)->σ[j]?=some (some v)->i=j
 dom:∀b,A b->H b≠none
 sep:∀b,A b->¬ Wr ρ σ b
structure Fr (ρ:PSt) (σ:St) (H:Hp) (ρ':PSt) (H':Hp):Prop where
 kp:∀b o,¬ Wr ρ σ b->H b=some o->H' b=some o
 dm:∀b,H b≠none->H' b≠none
 ow:∀b,Wr ρ' σ b->Wr ρ σ b
def Fr.refl(ρ:PSt)(σ:St)(H:Hp):Fr ρ σ H ρ H:=⟨λ_ _ _ h=>h,λ_ h=>h,λ_ h=>h⟩
def Fr.trans{ρ ρ1 ρ2:PSt}{σ:St}{H H1 H2:Hp}(a:Fr ρ σ H ρ1 H1)(b:Fr ρ1 σ H1 ρ2 H2):Fr ρ σ H ρ2 H2 :=
 ⟨λc o n h=>b.kp c o (λz=>n (a.ow c z)) (a.kp c o n h),λc h=>b.dm c (a.dm c h),λc h=>a.ow c (b.ow c h)⟩
def Fr.keeps{ρ ρ':PSt}{σ:St}{H H':Hp}{A:Addr->Prop}(f:Fr ρ σ H ρ' H'):aF (OO A ρ σ) H (OO A ρ' σ) H':=λb o n h =>
 ⟨λz=>z.elim (λz=>n (.inl z)) (λz=>n (.inr (f.ow b z))),f.kp b o (λz=>n (.inr z)) h⟩
def Fr.new{ρ:PSt}{σ:St}{H:Hp}{p:Addr}{o:HO}(h:H p=none):Fr ρ σ H ρ (upd H p o) :=
 ⟨λb u _ e=>by rw [ar (aH e h)];exact e,λb e=>by
  by_cases z:b=p
  .rw [z,aB];exact nofun
  .rw [ar z];exact e,λ_ h=>h⟩
def aF.fresh{O:Addr->Prop}{H:Hp}{p:Addr}{o:HO}(h:H p=none):aF O H (cJ O p) (upd H p o):=λb u n e =>
 ⟨λz=>z.elim n (λz=>by rw [z,h] at e;cases e),by rw [ar (aH e h)];exact e⟩
def aF.less{O O':Addr->Prop}{H:Hp}(h:∀b,O' b->O b):aF O H O' H:=λb o n e=>⟨λz=>n (h b z),e⟩
def RS.keeps{K:b_}{O O':Addr->Prop}{H H':Hp}{p:PV}{v:V}(k:aF O H O' H')(w:p.isOwn=true->∀a,v=.ref a->H' a=H a)(h:RS K O H p v):RS K O' H' p v:=by
 cases p with
 | dat d=>exact FV.keeps k h
 | own ds =>
  obtain⟨a,xs,e,g,f⟩:=h;exact⟨a,xs,e,by rw [w rfl a e];exact g,f.keeps k⟩
 | ins c ns ds =>
  obtain⟨a,dx,fs,e,g,m,f⟩:=h;exact⟨a,dx,fs,e,by rw [w rfl a e];exact g,m,f.keeps k⟩
 | odc ks ds =>
  obtain⟨a,kvs,e,g,m,f⟩:=h;exact⟨a,kvs,e,by rw [w rfl a e];exact g,m,f.keeps k⟩
def RS.ref{K:b_}{O:Addr->Prop}{H:Hp}{p:PV}{v:V}(h:RS K O H p v)(o:p.isOwn=true):∃a u,v=.ref a/\H a=some u:=by
 cases p with
 | dat d=>cases o
 | own ds=>obtain⟨a,xs,e,g,f⟩:=h;exact⟨a,_,e,g⟩
 | ins c ns ds=>obtain⟨a,dx,fs,e,g,m,f⟩:=h;exact⟨a,_,e,g⟩
 | odc ks ds=>obtain⟨a,kvs,e,g,m,f⟩:=h;exact⟨a,_,e,g⟩
def Rel.wr{K:b_}{A:Addr->Prop}{ρ:PSt}{σ:St}{H:Hp}(R:Rel K A ρ σ H){b:Addr}(h:Wr ρ σ b):H b≠none:=by
 obtain⟨i,p,e,o,s⟩:=h;obtain⟨v,s',r⟩:=R.get i p e;rw [s] at s';cases s';obtain⟨a,u,e1,e2⟩:=r.ref o;cases e1;rw [e2];exact nofun
def Rel.oo{K:b_}{A:Addr->Prop}{ρ:PSt}{σ:St}{H:Hp}(R:Rel K A ρ σ H){b:Addr}(h:H b=none):¬ OO A ρ σ b:=λz=>z.elim (λz=>R.dom b z h) (λz=>R.wr z h)
def Rel.grow{K:b_}{A:Addr->Prop}{ρ:PSt}{σ:St}{H:Hp}(R:Rel K A ρ σ H){p:Addr}{o:HO}(h:H p=none):Rel K A ρ σ (upd H p o):=by
 have k:aF (OO A ρ σ) H (OO A ρ σ) (upd H p o):=Fr.keeps (Fr.new h);refine⟨R.len,λi q e=>?_,R.dj,λb z=>(Fr.new (ρ:=ρ) (σ:=σ) h).dm b (R.dom b z),R.sep⟩;obtain⟨v,s,r⟩:=R.get i q e;refine⟨v,s,r.keeps k λow a ea=>?_⟩;obtain⟨a',u,e1,e2⟩:=r.ref ow;rw [ea] at e1;cases e1;rw [ar (aH e2 h)]
def Rel.less{K:b_}{A A':Addr->Prop}{ρ:PSt}{σ:St}{H:Hp}(R:Rel K A ρ σ H)(h:∀b,A' b->A b):Rel K A' ρ σ H:=by
 refine⟨R.len,λi q e=>?_,R.dj,λb z=>R.dom b (h b z),λb z=>R.sep b (h b z)⟩;obtain⟨v,s,r⟩:=R.get i q e;exact⟨v,s,r.keeps (aF.less λb z=>z.imp (h b) id) λ_ _ _=>rfl⟩
def Rel.write{K:b_}{A:Addr->Prop}{ρ:PSt}{σ:St}{H:Hp}(R:Rel K A ρ σ H){i:Nat}{p q:PV}{a:Addr}{o:HO}(e:ρ[i]?=some (some p))(ow:p.isOwn=true)(ow':q.isOwn=true)(es:σ[i]?=some (some (.ref a)))
  (new:RS K (OO A ρ σ) (upd H a o) q (.ref a)):Rel K A (ρ.set i (some q)) σ (upd H a o)/\Fr ρ σ H (ρ.set i (some q)) (upd H a o):=by
 have hi:i<ρ.length:=(j_.mp e).1;have wa:Wr ρ σ a:=⟨i,p,e,ow,es⟩
 have weq:∀b,Wr (ρ.set i (some q)) σ b ↔ Wr ρ σ b:=λb=>by
  constructor
  .rintro⟨j,r,e1,o1,s1⟩
   by_cases z:i=j
   .subst z;exact⟨i,p,e,ow,s1⟩
   .rw [g_ z] at e1;exact⟨j,r,e1,o1,s1⟩
  .rintro⟨j,r,e1,o1,s1⟩
   by_cases z:i=j
   .subst z;exact⟨i,q,m_ hi,ow',s1⟩
   .exact⟨j,r,by rw [g_ z];exact e1,o1,s1⟩
 have oeq:OO A (ρ.set i (some q)) σ=OO A ρ σ:=funext λb=>propext (or_congr Iff.rfl (weq b));have kp:∀b u,¬ Wr ρ σ b->H b=some u->upd H a o b=some u:=λb u n h=>by rw [ar (λz=>n (by rw [z];exact wa))];exact h
 have k:aF (OO A ρ σ) H (OO A ρ σ) (upd H a o):=λb u n h=>⟨n,kp b u (λz=>n (.inr z)) h⟩
 have dm:∀b,H b≠none->upd H a o b≠none:=λb n=>by
  by_cases z:b=a
  .rw [z,aB];exact nofun
  .rw [ar z];exact n
 refine⟨⟨by rw [Hn];exact R.len,λj r e1=>?_,λj l p1 q1 v e1 e2 o1 o2 s1 s2=>?_,λb z=>dm b (R.dom b z),λb z w=>R.sep b z ((weq b).mp w)⟩,⟨kp,dm,λb w=>(weq b).mp w⟩⟩
 .rw [oeq]
  by_cases z:i=j
  .subst z;rw [m_ hi] at e1;cases e1;exact⟨_,es,new⟩
  .rw [g_ z] at e1;obtain⟨v,s,rr⟩:=R.get j r e1;refine⟨v,s,rr.keeps k λow2 b eb=>?_⟩;rw [ar];intro zz;subst zz;rw [eb] at s;exact z (R.dj i j p r _ e e1 ow ow2 es s)
 .have ex:∀(m:Nat) (x:PV),(ρ.set i (some q))[m]?=some (some x)->x.isOwn=true->∃y:PV,ρ[m]?=some (some y)/\y.isOwn=true:=λm x em ox=>by
   by_cases z:i=m
   .subst z;exact⟨p,e,ow⟩
   .rw [g_ z] at em;exact⟨x,em,ox⟩
  obtain⟨y1,h1,h2⟩:=ex j p1 e1 o1;obtain⟨y2,h3,h4⟩:=ex l q1 e2 o2;exact R.dj j l y1 y2 v h1 h3 h2 h4 s1 s2
def Rel.frz{K:b_}{A:Addr->Prop}{ρ:PSt}{σ:St}{H:Hp}(R:Rel K A ρ σ H){i:Nat}{p:PV}(e:ρ[i]?=some (some p)) :
  Rel K A (ρ.set i (some (.dat p.d))) σ H/\Fr ρ σ H (ρ.set i (some (.dat p.d))) H:=by
 have hi:i<ρ.length:=(j_.mp e).1
 have ex:∀(m:Nat) (x:PV),(ρ.set i (some (.dat p.d)))[m]?=some (some x)->x.isOwn=true->m≠i/\ρ[m]?=some (some x):=λm x em ox=>by
  by_cases z:i=m
  .subst z;rw [m_ hi] at em;cases em;cases ox
  .rw [g_ z] at em;exact⟨λq=>z q.symm,em⟩
 have ow:∀b,Wr (ρ.set i (some (.dat p.d))) σ b->Wr ρ σ b:=λb ⟨j,r,e1,o1,s1⟩=>⟨j,r,(ex j r e1 o1).2,o1,s1⟩
 have k:aF (OO A ρ σ) H (OO A (ρ.set i (some (.dat p.d))) σ) H:=aF.less λb z=>z.imp id (ow b);refine⟨⟨by rw [Hn];exact R.len,λj r e1=>?_,λj l p1 q1 v e1 e2 o1 o2 s1 s2=>R.dj j l p1 q1 v (ex j p1 e1 o1).2 (ex l q1 e2 o2).2 o1 o2 s1 s2,R.dom,λb z w=>R.sep b z (ow b w)⟩,⟨λ_ _ _ h=>h,λ_ h=>h,ow⟩⟩
 by_cases z:i=j
 .subst z;rw [m_ hi] at e1;cases e1;obtain⟨v,s,r⟩:=R.get i p e;refine⟨v,s,?_⟩
  have na:∀a,v=.ref a->p.isOwn=true->¬ OO A (ρ.set i (some (.dat p.d))) σ a:=λa ea oo z=>by
   subst ea
   rcases z with z|⟨j,r,e1,o1,s1⟩
   .exact R.sep a z ⟨i,p,e,oo,s⟩
   .obtain⟨n1,n2⟩:=ex j r e1 o1;exact n1 (R.dj j i r p _ n2 e o1 oo s1 s)
  cases p with
  | dat d=>exact FV.keeps k r
  | own ds =>
   obtain⟨a,xs,rfl,g,f⟩:=r;exact .lst (na a rfl rfl) g (f.keeps k)
  | ins c ns ds =>
   obtain⟨a,dx,fs,rfl,g,m,f⟩:=r;exact .obj (na a rfl rfl) g m (f.keeps k)
  | odc ks ds =>
   obtain⟨a,kvs,rfl,g,m,f⟩:=r;exact .dic (na a rfl rfl) g m (f.keeps k)
 .rw [g_ z] at e1;obtain⟨v,s,r⟩:=R.get j _ e1;exact⟨v,s,r.keeps k λ_ _ _=>rfl⟩
abbrev PKt:=PV->PSt->Prop
abbrev PTE:=PSt->PKt->Prop
abbrev PTT:=PSt->(Bool->PSt->Prop)->Prop
inductive AV where
 | v (d:D)|sl (i:Nat)
abbrev PA1:=PSt->(AV->PSt->Prop)->Prop
abbrev PTA:=PSt->(List AV->PSt->Prop)->Prop
noncomputable def Out(K:b_)(A:Addr->Prop)(ρ:PSt)(σ:St)(H0 H:Hp):PV->V->Prop
 | .dat d,v=>Rel K A ρ σ H/\FV K (OO A ρ σ) H v d
 | .own ds,v=>∃a xs,v=.ref a/\¬ A a/\H0 a=none/\H a=some (.lst xs)/\Rel K (cJ A a) ρ σ H/\FVs K (OO (cJ A a) ρ σ) H xs ds
 | .ins c ns ds,v=>∃a dx fs,v=.ref a/\¬ A a/\H0 a=none/\H a=some (.ins (aI K c) dx fs)/\fs.map Hh=ns/\Rel K (cJ A a) ρ σ H/\FVs K (OO (cJ A a) ρ σ) H (fs.map IR) ds
 | .odc ks ds,v=>∃a kvs,v=.ref a/\¬ A a/\H0 a=none/\H a=some (.dK kvs)/\kvs.map Hh=ks/\Rel K (cJ A a) ρ σ H/\FVs K (OO (cJ A a) ρ σ) H (kvs.map IR) ds
noncomputable def LE(K:b_)(te:TE)(pe:PTE):Prop:=∀(A:Addr->Prop) (ρ:PSt) (σ:St) (H:Hp) (Q:PKt) (Q':VK),Rel K A ρ σ H->pe ρ Q ->
 (∀v H' p ρ',Q p ρ'->Fr ρ σ H ρ' H'->Out K A ρ' σ H H' p v->Q' v H')->te σ H Q'
noncomputable def LT(K:b_)(tt:TT)(pt:PTT):Prop:=∀(A:Addr->Prop) (ρ:PSt) (σ:St) (H:Hp) (Q:Bool->PSt->Prop) (Q':Bool->Hp->Prop),Rel K A ρ σ H->pt ρ Q ->
 (∀b H' ρ',Q b ρ'->Fr ρ σ H ρ' H'->Rel K A ρ' σ H'->Q' b H')->tt σ H Q'
noncomputable def AOk(K:b_)(O:Addr->Prop)(σ:St)(H:Hp):AV->V->Prop
 | .v d,v=>FV K O H v d
 | .sl i,v=>σ[i]?=some (some v)
noncomputable def LA1(K:b_)(te:TE)(pa:PA1):Prop:=∀(A:Addr->Prop) (ρ:PSt) (σ:St) (H:Hp) (Q:AV->PSt->Prop) (Q':VK),Rel K A ρ σ H->pa ρ Q ->
 (∀v H' av ρ',Q av ρ'->Fr ρ σ H ρ' H'->Rel K A ρ' σ H'->AOk K (OO A ρ' σ) σ H' av v->Q' v H')->te σ H Q'
inductive zW (K:b_) (O:Addr->Prop) (σ:St) (H:Hp):List AV->List V->Prop
 | nil:zW K O σ H [] []
 | cons {a:AV}{v:V}{as:List AV}{vs:List V}:AOk K O σ H a v->zW K O σ H as vs->zW K O σ H (a::as) (v::vs)
noncomputable def LAs(K:b_)(ta:TA)(pa:PTA):Prop:=∀(A:Addr->Prop) (ρ:PSt) (σ:St) (H:Hp) (Q:List AV->PSt->Prop) (Q':List V->Hp->Prop),Rel K A ρ σ H->pa ρ Q ->
 (∀vs H' as ρ',Q as ρ'->Fr ρ σ H ρ' H'->Rel K A ρ' σ H'->zW K (OO A ρ' σ) σ H' as vs->Q' vs H')->ta σ H Q'
section
variable {K:b_}{A O O':Addr->Prop}{ρ ρ':PSt}{σ:St}{H H' H0:Hp}
def AOk.keeps{a:AV}{v:V}(k:aF O H O' H')(h:AOk K O σ H a v):AOk K O' σ H' a v:=by
 cases a with
 | v d=>exact FV.keeps k h
 | sl i=>exact h
def Out.frz{p:PV}{v:V}(h:Out K A ρ σ H0 H p v):Rel K A ρ σ H/\FV K (OO A ρ σ) H v p.d:=by
 cases p with
 | dat d=>exact h
 | own ds =>
  obtain⟨a,xs,rfl,na,_,e,R,f⟩:=h;refine⟨R.less λb z=>.inl z,.lst (λz=>?_) e (f.keeps (aF.less λb z=>z.imp .inl id))⟩;exact z.elim na (λz=>R.sep a (.inr rfl) z)
 | ins c ns ds =>
  obtain⟨a,dx,fs,rfl,na,_,e,m,R,f⟩:=h;refine⟨R.less λb z=>.inl z,.obj (λz=>?_) e m (f.keeps (aF.less λb z=>z.imp .inl id))⟩;exact z.elim na (λz=>R.sep a (.inr rfl) z)
 | odc ks ds =>
  obtain⟨a,kvs,rfl,na,_,e,m,R,f⟩:=h;refine⟨R.less λb z=>.inl z,.dic (λz=>?_) e m (f.keeps (aF.less λb z=>z.imp .inl id))⟩;exact z.elim na (λz=>R.sep a (.inr rfl) z)
def Out.h0{p:PV}{v:V}{H1:Hp}(h:Out K A ρ σ H0 H p v)(dm:∀b,H1 b≠none->H0 b≠none):Out K A ρ σ H1 H p v:=by
 have k:∀a,H0 a=none->H1 a=none:=λa e=>by
  cases z:H1 a with
  | none=>rfl
  | some o=>exact absurd e (dm a (by rw [z];exact nofun))
 cases p with
 | dat d=>exact h
 | own ds=>obtain⟨a,xs,e1,na,e2,r⟩:=h;exact⟨a,xs,e1,na,k a e2,r⟩
 | ins c ns ds=>obtain⟨a,dx,fs,e1,na,e2,r⟩:=h;exact⟨a,dx,fs,e1,na,k a e2,r⟩
 | odc ks ds=>obtain⟨a,kvs,e1,na,e2,r⟩:=h;exact⟨a,kvs,e1,na,k a e2,r⟩
noncomputable def Gr(H H':Hp):Prop:=∀b o,H b=some o->H' b=some o
def Gr.fr(g:Gr H H'):Fr ρ σ H ρ H':=⟨λb o _ h=>g b o h,λb h=>by
 cases e:H b with
 | none=>exact absurd e h
 | some o=>rw [g b o e];exact nofun,λ_ h=>h⟩
def Gr.new{p:Addr}{o:HO}(h:H p=none):Gr H (upd H p o):=λb u e=>by rw [ar (aH e h)];exact e
def Gr.refl(H:Hp):Gr H H:=λ_ _ h=>h
def Rel.gr(R:Rel K A ρ σ H)(g:Gr H H'):Rel K A ρ σ H':=by
 refine⟨R.len,λi q e=>?_,R.dj,λb z=>(g.fr (ρ:=ρ) (σ:=σ)).dm b (R.dom b z),R.sep⟩;obtain⟨v,s,r⟩:=R.get i q e;refine⟨v,s,r.keeps (g.fr (ρ:=ρ) (σ:=σ)).keeps λow a ea=>?_⟩;obtain⟨a',u,e1,e2⟩:=r.ref ow;rw [ea] at e1;cases e1;rw [e2];exact g _ _ e2
def Rel.grA(R:Rel K A ρ σ H)(g:Gr H H'){p:Addr}(h:H p=none)(h':H' p≠none):Rel K (cJ A p) ρ σ H':=by
 have k:aF (OO A ρ σ) H (OO (cJ A p) ρ σ) H':=λb u n e=>by
  refine⟨λz=>?_,g _ _ e⟩
  rcases z with (z|z)|z
  .exact n (.inl z)
  .rw [z,h] at e;cases e
  .exact n (.inr z)
 refine⟨R.len,λi q e=>?_,R.dj,λb z=>?_,λb z w=>?_⟩
 .obtain⟨v,s,r⟩:=R.get i q e;refine⟨v,s,r.keeps k λow a ea=>?_⟩;obtain⟨a',u,e1,e2⟩:=r.ref ow;rw [ea] at e1;cases e1;rw [e2];exact g _ _ e2
 .rcases z with z|z
  .exact (g.fr (ρ:=ρ) (σ:=σ)).dm b (R.dom b z)
  .rw [z];exact h'
 .rcases z with z|z
  .exact R.sep b z w
  .exact R.wr w (by rw [z];exact h)
noncomputable def qs(K:b_)(O:Addr->Prop)(H0 H:Hp):PV->V->Prop
 | .dat d,v=>FV K O H v d
 | .own ds,v=>∃a xs,v=.ref a/\H0 a=none/\H a=some (.lst xs)/\FVs K (cJ O a) H xs ds
 | .ins c ns ds,v=>∃a dx fs,v=.ref a/\H0 a=none/\H a=some (.ins (aI K c) dx fs)/\fs.map Hh=ns/\FVs K (cJ O a) H (fs.map IR) ds
 | .odc ks ds,v=>∃a kvs,v=.ref a/\H0 a=none/\H a=some (.dK kvs)/\kvs.map Hh=ks/\FVs K (cJ O a) H (kvs.map IR) ds
def qs.out{p:PV}{v:V}(R:Rel K A ρ σ H)(g:Gr H H')(h:qs K (OO A ρ σ) H H' p v):Out K A ρ σ H H' p v:=by
 cases p with
 | dat d=>exact⟨R.gr g,h⟩
 | own ds =>
  obtain⟨a,xs,rfl,e0,e,f⟩:=h;refine⟨a,xs,rfl,λz=>R.dom a z e0,e0,e,R.grA g e0 (by rw [e];exact nofun),f.keeps (aF.less λb z=>?_)⟩
  rcases z with (z|z)|z
  .exact .inl (.inl z)
  .exact .inr z
  .exact .inl (.inr z)
 | ins c ns ds =>
  obtain⟨a,dx,fs,rfl,e0,e,m,f⟩:=h;refine⟨a,dx,fs,rfl,λz=>R.dom a z e0,e0,e,m,R.grA g e0 (by rw [e];exact nofun),f.keeps (aF.less λb z=>?_)⟩
  rcases z with (z|z)|z
  .exact .inl (.inl z)
  .exact .inr z
  .exact .inl (.inr z)
 | odc ks ds =>
  obtain⟨a,kvs,rfl,e0,e,m,f⟩:=h;refine⟨a,kvs,rfl,λz=>R.dom a z e0,e0,e,m,R.grA g e0 (by rw [e];exact nofun),f.keeps (aF.less λb z=>?_)⟩
  rcases z with (z|z)|z
  .exact .inl (.inl z)
  .exact .inr z
  .exact .inl (.inr z)
noncomputable def FVc(K:b_)(O:Addr->Prop)(H:Hp)(v:V)(d:D):Prop:=FV K O H v d\/(∃a xs ds,v=.ref a/\d=.lst ds/\H a=some (.lst xs)/\FVs K O H xs ds) \/
 (∃a dx c fs ns ds,v=.ref a/\d=.obj c ns ds/\H a=some (.ins (aI K c) dx fs)/\fs.map Hh=ns/\FVs K O H (fs.map IR) ds) \/
 ∃a kvs ks ds,v=.ref a/\d=.dic ks ds/\H a=some (.dK kvs)/\kvs.map Hh=ks/\FVs K O H (kvs.map IR) ds
noncomputable def cont(ρ:PSt):AV->Option D
 | .v d=>some d
 | .sl i=>match ρ[i]? with|some (some p)=>some p.d|_=>none
def Rel.cont{av:AV}{v:V}{d:D}(R:Rel K A ρ σ H)(h:AOk K (OO A ρ σ) σ H av v)(e:L2.cont ρ av=some d):FVc K (OO A ρ σ) H v d:=by
 cases av with
 | v d'=>cases e;exact .inl h
 | sl i =>
  have h:σ[i]?=some (some v):=h;simp only [L2.cont] at e
  split at e
  .rename_i p ep;cases e;obtain⟨v',s,r⟩:=R.get i p ep;rw [h] at s;cases s
   cases p with
   | dat d=>exact .inl r
   | own ds=>obtain⟨a,xs,e1,e2,f⟩:=r;exact .inr (.inl ⟨a,xs,ds,e1,rfl,e2,f⟩)
   | ins c ns ds=>obtain⟨a,dx,fs,e1,e2,m,f⟩:=r;exact .inr (.inr (.inl ⟨a,dx,c,fs,ns,ds,e1,rfl,e2,m,f⟩))
   | odc ks ds=>obtain⟨a,kvs,e1,e2,m,f⟩:=r;exact .inr (.inr (.inr ⟨a,kvs,ks,ds,e1,rfl,e2,m,f⟩))
  .cases e
def FVc.lst{v:V}{ds:List D}(h:FVc K O H v (.lst ds)):∃a xs,v=.ref a/\H a=some (.lst xs)/\FVs K O H xs ds:=by
 rcases h with h|⟨a,xs,ds',e1,e2,e3,f⟩|⟨a,dx,c,fs,ns,ds',e1,e2,_⟩|⟨a,kvs,ks,ds',e1,e2,_⟩
 .cases h with
  | lst n s f=>exact⟨_,_,rfl,s,f⟩
 .cases e2;exact⟨a,xs,e1,e3,f⟩
 .cases e2
 .cases e2
def FVc.fv{v:V}{d:D}(h:FVc K O H v d)(n:∀ds,d≠.lst ds)(n':∀c ns ds,d≠.obj c ns ds)(n'':∀ks ds,d≠.dic ks ds:=by nofun):FV K O H v d:=by
 rcases h with h|⟨a,xs,ds',e1,e2,e3,f⟩|⟨a,dx,c,fs,ns,ds',e1,e2,_⟩|⟨a,kvs,ks,ds',e1,e2,_⟩
 .exact h
 .exact absurd e2 (n _)
 .exact absurd e2 (n' _ _ _)
 .exact absurd e2 (n'' _ _)
def FVc.dic{v:V}{ks:List Key}{ds:List D}(h:FVc K O H v (.dic ks ds)):∃a kvs,v=.ref a/\H a=some (.dK kvs)/\kvs.map Hh=ks/\FVs K O H (kvs.map IR) ds:=by
 rcases h with h|⟨_,_,_,_,e2,_⟩|⟨_,_,_,_,_,_,_,e2,_⟩|⟨a,kvs,_,_,e1,e2,e3,m,f⟩
 .cases h with
  | dic n e m f=>exact⟨_,_,rfl,e,m,f⟩
 .cases e2
 .cases e2
 .cases e2;exact⟨a,kvs,e1,e3,m,f⟩
def FVc.tup{v:V}{ds:List D}(h:FVc K O H v (.tup ds)):∃a xs,v=.ref a/\¬ O a/\H a=some (.tup xs)/\FVs K O H xs ds:=by
 cases h.fv nofun nofun with
 | tup n s f=>exact⟨_,_,rfl,n,s,f⟩
def FVc.scr{v:V}{ns:List Int}(h:FVc K O H v (.scr ns)):∃a,v=.ref a/\SqL K H a (ns.map V.int):=by
 cases h.fv nofun nofun with
 | scr s=>exact⟨_,rfl,s.sq⟩
def FVc.int{v:V}{i:Int}(h:FVc K O H v (.int i)):v=.int i:=by cases h.fv nofun nofun;rfl
def FVc.bl{v:V}{i:Bool}(h:FVc K O H v (.bl i)):v=.bl i:=by cases h.fv nofun nofun;rfl
def FVc.str{v:V}{i:List Nat}(h:FVc K O H v (.str i)):v=.str (S i)/\i.length<=1000000:=by
 cases h.fv nofun nofun with
 | str _ z=>exact⟨rfl,z⟩
def FVc.non{v:V}(h:FVc K O H v .non):v=.non:=by cases h.fv nofun nofun;rfl
end
def pC(d:D):PTE:=λρ Q=>Q (.dat d) ρ
noncomputable def xR(i:Nat):PTE:=λρ Q=>match ρ[i]? with
 | some (some (.dat d))=>Q (.dat d) ρ
 | some (some (.own ds))=>Q (.dat (.lst ds)) (ρ.set i (some (.dat (.lst ds))))
 | some (some (.ins c ns ds))=>Q (.dat (.obj c ns ds)) (ρ.set i (some (.dat (.obj c ns ds))))
 | _=>False
noncomputable def pSl(i:Nat):PA1:=λρ Q=>match ρ[i]? with
 | some (some (.dat d))=>Q (.v d) ρ
 | some (some (.own _))=>Q (.sl i) ρ
 | some (some (.ins _ _ _))=>Q (.sl i) ρ
 | _=>False
noncomputable def pFz(pe:PTE):PA1:=λρ Q=>pe ρ λp ρ1=>Q (.v p.d) ρ1
def gL:PTA:=λρ Q=>Q [] ρ
noncomputable def cP(pa:PA1)(pr:PTA):PTA:=λρ Q=>pa ρ λa ρ1=>pr ρ1 λas ρ2=>Q (a::as) ρ2
section
variable {K:b_}{ta tb tc:TE}{pa pb pc:PA1}{pe pe':PTE}{tr:TA}{pr:PTA}
def D1{v:V}{d:D}(h:∀O H,FV K O H v d):LE K (tC v) (pC d):=λA ρ σ H Q Q' R q k=>k v H (.dat d) ρ q (Fr.refl _ _ _) ⟨R,h _ _⟩
def le_int{i:Int}:LE K (tC (.int i)) (pC (.int i)):=D1 λ_ _=>.int i
def gc{i:Bool}:LE K (tC (.bl i)) (pC (.bl i)):=D1 λ_ _=>.bl i
def mJ:LE K (tC .non) (pC .non):=D1 λ_ _=>.non
def le_str{l:List Nat}(h:l.length<=1000000:=by decide):LE K (tC (.str (S l))) (pC (.str l)):=D1 λ_ _=>.str l h
def ao{i:Nat}:LE K (bw i) (xR i):=by
 intro A ρ σ H Q Q' R q k;unfold xR at q
 split at q
 .rename_i d e;obtain⟨v,s,r⟩:=R.get i _ e;exact⟨v,s,k v H (.dat d) ρ q (Fr.refl _ _ _) ⟨R,r⟩⟩
 .rename_i ds e;obtain⟨R',f⟩:=R.frz e;obtain⟨v,s,r⟩:=R'.get i _ (m_ (j_.mp e).1);exact⟨v,s,k v H (.dat (.lst ds)) _ q f ⟨R',r⟩⟩
 .rename_i c ns ds e;obtain⟨R',f⟩:=R.frz e;obtain⟨v,s,r⟩:=R'.get i _ (m_ (j_.mp e).1);exact⟨v,s,k v H (.dat (.obj c ns ds)) _ q f ⟨R',r⟩⟩
 .exact q.elim
def al{i:Nat}:LA1 K (bw i) (pSl i):=by
 intro A ρ σ H Q Q' R q k;unfold pSl at q
 split at q
 .rename_i d e;obtain⟨v,s,r⟩:=R.get i _ e;exact⟨v,s,k v H _ ρ q (Fr.refl _ _ _) R r⟩
 .rename_i e;obtain⟨v,s,r⟩:=R.get i _ e;exact⟨v,s,k v H _ ρ q (Fr.refl _ _ _) R s⟩
 .rename_i e;obtain⟨v,s,r⟩:=R.get i _ e;exact⟨v,s,k v H _ ρ q (Fr.refl _ _ _) R s⟩
 .exact q.elim
def ae(h:LE K ta pe):LA1 K ta (pFz pe):=λA ρ σ H Q Q' R q k=>h A ρ σ H _ Q' R q λv H' p ρ' q f o=>k v H' _ ρ' q f o.frz.1 o.frz.2
def ac:LAs K eR gL:=λA ρ σ H Q Q' R q k=>k [] H [] ρ q (Fr.refl _ _ _) R .nil
def aa(h:LA1 K ta pa)(hr:LAs K tr pr):LAs K (aW ta tr) (cP pa pr):=λA ρ σ H Q Q' R q k =>
 h A ρ σ H _ _ R q λv H1 a ρ1 q1 f1 R1 o1=>hr A ρ1 σ H1 _ _ R1 q1 λvs H2 as ρ2 q2 f2 R2 o2=>k _ H2 _ ρ2 q2 (f1.trans f2) R2 (.cons (o1.keeps f2.keeps) o2)
noncomputable def LO(K:b_)(r:R2)(f:D->D->(PV->Prop)->Prop):Prop:=∀(O:Addr->Prop) (H:Hp) (x y:V) (a b:D) (Q:PV->Prop) (Q':VK),(∀b,O b->H b≠none)->FVc K O H x a->FVc K O H y b->f a b Q ->
 (∀v H' p,Q p->Gr H H'->qs K O H H' p v->Q' v H')->r x y H Q'
noncomputable def op2(f:D->D->(PV->Prop)->Prop)(ρ:PSt)(x y:AV)(Q:PKt):Prop:=match cont ρ x,cont ρ y with
 | some a,some b=>f a b λp=>Q p ρ
 | _,_=>False
noncomputable def pOp(f:D->D->(PV->Prop)->Prop)(pa pb:PA1):PTE:=λρ Q=>pa ρ λx ρ1=>pb ρ1 λy ρ2=>op2 f ρ2 x y Q
def Rel.dom2{A:Addr->Prop}{ρ:PSt}{σ:St}{H:Hp}(R:Rel K A ρ σ H):∀b,OO A ρ σ b->H b≠none:=λb z=>z.elim (R.dom b) R.wr
def aw{r:R2}{f:D->D->(PV->Prop)->Prop}(o:LO K r f)(ha:LA1 K ta pa)(hb:LA1 K tb pb):LE K (tOp r ta tb) (pOp f pa pb):=λA ρ σ H Q Q' R q k =>
 ha A ρ σ H _ _ R q λv H1 a ρ1 q1 f1 R1 o1=>hb A ρ1 σ H1 _ _ R1 q1 λw H2 b ρ2 q2 f2 R2 o2=>by
  unfold op2 at q2
  split at q2
  .rename_i da db e1 e2;exact o _ H2 v w da db _ _ R2.dom2 (R2.cont (o1.keeps f2.keeps) e1) (R2.cont o2 e2) q2 λz H3 p q3 g ov=>k z H3 p ρ2 q3 ((f1.trans f2).trans g.fr) ((ov.out R2 g).h0 λb z=>f2.dm b (f1.dm b z))
  .exact q2.elim
noncomputable def LU(K:b_)(r:V->Hp->VK->Prop)(f:D->(PV->Prop)->Prop):Prop:=∀(O:Addr->Prop) (H:Hp) (x:V) (a:D) (Q:PV->Prop) (Q':VK),(∀b,O b->H b≠none)->FVc K O H x a->f a Q ->
 (∀v H' p,Q p->Gr H H'->qs K O H H' p v->Q' v H')->r x H Q'
noncomputable def op1(f:D->(PV->Prop)->Prop)(ρ:PSt)(x:AV)(Q:PKt):Prop:=match cont ρ x with
 | some a=>f a λp=>Q p ρ
 | _=>False
noncomputable def pUn(f:D->(PV->Prop)->Prop)(pa:PA1):PTE:=λρ Q=>pa ρ λx ρ1=>op1 f ρ1 x Q
def tG{r:V->Hp->VK->Prop}{f:D->(PV->Prop)->Prop}(o:LU K r f)(ha:LA1 K ta pa):LE K (tUn r ta) (pUn f pa):=λA ρ σ H Q Q' R q k =>
 ha A ρ σ H _ _ R q λv H1 a ρ1 q1 f1 R1 o1=>by
  unfold op1 at q1
  split at q1
  .rename_i da e1;exact o _ H1 v da _ _ R1.dom2 (R1.cont o1 e1) q1 λz H3 p q3 g ov=>k z H3 p ρ1 q3 (f1.trans g.fr) ((ov.out R1 g).h0 λb z=>f1.dm b z)
  .exact q1.elim
inductive A7 (K:b_) (O:Addr->Prop) (H:Hp):List V->List D->Prop
 | nil:A7 K O H [] []
 | cons {x:V}{d:D}{xs:List V}{ds:List D}:FVc K O H x d->A7 K O H xs ds->A7 K O H (x::xs) (d::ds)
noncomputable def conts(ρ:PSt):List AV->Option (List D)
 | []=>some []
 | a::r=>match cont ρ a,conts ρ r with
  | some d,some ds=>some (d::ds)
  | _,_=>none
theorem Rel.conts{A:Addr->Prop}{ρ:PSt}{σ:St}{H:Hp}(R:Rel K A ρ σ H):∀{as:List AV}{vs:List V}{ds:List D},zW K (OO A ρ σ) σ H as vs->L2.conts ρ as=some ds->A7 K (OO A ρ σ) H vs ds
 | _,_,_,.nil,e=>by cases e;exact .nil
 | _,_,_,.cons a b,e=>by
  unfold L2.conts at e
  split at e
  .rename_i e1 e2;cases e;exact .cons (R.cont a e1) (R.conts b e2)
  .cases e
noncomputable def LC(K:b_)(r:List V->Hp->VK->Prop)(f:List D->(PV->Prop)->Prop):Prop:=∀(O:Addr->Prop) (H:Hp) (xs:List V) (as:List D) (Q:PV->Prop) (Q':VK),(∀b,O b->H b≠none)->A7 K O H xs as->f as Q ->
 (∀v H' p,Q p->Gr H H'->qs K O H H' p v->Q' v H')->r xs H Q'
noncomputable def opN(f:List D->(PV->Prop)->Prop)(ρ:PSt)(as:List AV)(Q:PKt):Prop:=match conts ρ as with
 | some ds=>f ds λp=>Q p ρ
 | _=>False
noncomputable def pCB(f:List D->(PV->Prop)->Prop)(pr:PTA):PTE:=λρ Q=>pr ρ λas ρ1=>opN f ρ1 as Q
def aP{r:List V->Hp->VK->Prop}{f:List D->(PV->Prop)->Prop}(o:LC K r f)(ha:LAs K tr pr):LE K (tCB r tr) (pCB f pr):=λA ρ σ H Q Q' R q k =>
 ha A ρ σ H _ _ R q λvs H1 as ρ1 q1 f1 R1 o1=>by
  unfold opN at q1
  split at q1
  .rename_i ds e1;exact o _ H1 vs ds _ _ R1.dom2 (R1.conts o1 e1) q1 λz H3 p q3 g ov=>k z H3 p ρ1 q3 (f1.trans g.fr) ((ov.out R1 g).h0 λb z=>f1.dm b z)
  .exact q1.elim
noncomputable def avD:List AV->Option (List D)
 | []=>some []
 | .v d::r=>match avD r with|some ds=>some (d::ds)|none=>none
 | .sl _::_=>none
theorem zW.avD{O:Addr->Prop}{σ:St}{H:Hp}:∀{as:List AV}{vs:List V}{ds:List D},zW K O σ H as vs->L2.avD as=some ds->FVs K O H vs ds
 | _,_,_,.nil,e=>by cases e;exact .nil
 | .v d::r,_,_,.cons a b,e=>by
  simp only [L2.avD] at e
  split at e
  .rename_i e1;cases e;exact .cons a (b.avD e1)
  .cases e
 | .sl i::r,_,_,.cons a b,e=>by cases e
noncomputable def GM(pr:PTA):PTE:=λρ Q=>pr ρ λas ρ1=>match avD as with
 | some ds=>ds.length<=1000000/\Q (.own ds) ρ1
 | _=>False
noncomputable def GN(pr:PTA):PTE:=λρ Q=>pr ρ λas ρ1=>match avD as with
 | some ds=>ds.length<=1000000/\Q (.dat (.tup ds)) ρ1
 | _=>False
def bF(ha:LAs K tr pr):LE K (Eu tr) (GM pr):=λA ρ σ H Q Q' R q k =>
 ha A ρ σ H _ _ R q λvs H1 as ρ1 q1 f1 R1 o1=>by
  split at q1
  .rename_i ds e1;have fs:=o1.avD e1;refine⟨sz _ (by rw [fs.length];exact q1.1),λp hp=>k _ _ (.own ds) ρ1 q1.2 (f1.trans (Fr.new hp)) ?_⟩;have g:Gr H1 (upd H1 p (.lst vs)):=Gr.new hp;exact (qs.out (p:=.own ds) R1 g ⟨p,vs,rfl,hp,aB,fs.keeps (aF.fresh hp)⟩).h0 λb z=>f1.dm b z
  .exact q1.elim
def kG(ha:LAs K tr pr):LE K (BC tr) (GN pr):=λA ρ σ H Q Q' R q k =>
 ha A ρ σ H _ _ R q λvs H1 as ρ1 q1 f1 R1 o1=>by
  split at q1
  .rename_i ds e1;have fs:=o1.avD e1;refine⟨sz _ (by rw [fs.length];exact q1.1),λp hp=>k _ _ (.dat (.tup ds)) ρ1 q1.2 (f1.trans (Fr.new hp)) ⟨R1.grow hp,?_⟩⟩;exact .tup (R1.oo hp) aB (fs.keeps (Fr.new hp).keeps)
  .exact q1.elim
noncomputable def pB(pe:PTE):PTT:=λρ Q=>pe ρ λp ρ1=>match p with
 | .dat (.bl b)=>Q b ρ1
 | _=>False
def mK(h:LE K ta pe):LT K (tB ta) (pB pe):=λA ρ σ H Q Q' R q k=>h A ρ σ H _ _ R q λv H1 p ρ1 q1 f1 o1=>by
 split at q1
 .rename_i b;obtain⟨R1,f⟩:=o1;cases f;exact⟨b,rfl,k b H1 ρ1 q1 f1 R1⟩
 .exact q1.elim
def gF(h:LE K ta pe):LT K (sQ ta) (pB pe):=mK h
noncomputable def GO(a b:PTT):PTT:=λρ Q=>a ρ λc ρ1=>iG c (b ρ1 Q) (Q false ρ1)
noncomputable def pOr(a b:PTT):PTT:=λρ Q=>a ρ λc ρ1=>iG c (Q true ρ1) (b ρ1 Q)
noncomputable def EK(a:PTT):PTT:=λρ Q=>a ρ λc ρ1=>Q (!c) ρ1
variable {tta ttb:TT}{pta ptb:PTT}
def si(ha:LT K tta pta)(hb:LT K ttb ptb):LT K (FL tta ttb) (GO pta ptb):=λA ρ σ H Q Q' R q k=>ha A ρ σ H _ _ R q λc H1 ρ1 q1 f1 R1=>by
 cases c with
 | true=>exact hb A ρ1 σ H1 _ _ R1 q1 λb H2 ρ2 q2 f2 R2=>k b H2 ρ2 q2 (f1.trans f2) R2
 | false=>exact k false H1 ρ1 q1 f1 R1
def nL(ha:LT K tta pta)(hb:LT K ttb ptb):LT K (tOr tta ttb) (pOr pta ptb):=λA ρ σ H Q Q' R q k=>ha A ρ σ H _ _ R q λc H1 ρ1 q1 f1 R1=>by
 cases c with
 | false=>exact hb A ρ1 σ H1 _ _ R1 q1 λb H2 ρ2 q2 f2 R2=>k b H2 ρ2 q2 (f1.trans f2) R2
 | true=>exact k true H1 ρ1 q1 f1 R1
def dr(ha:LT K tta pta):LT K (Ed tta) (EK pta):=λA ρ σ H Q Q' R q k=>ha A ρ σ H _ _ R q λc H1 ρ1 q1 f1 R1=>k _ H1 ρ1 q1 f1 R1
noncomputable def EL(a b:PTE):PTE:=λρ Q=>a ρ λp ρ1=>match p with
 | .dat (.bl c)=>iG c (b ρ1 Q) (Q (.dat (.bl false)) ρ1)
 | _=>False
noncomputable def EM(a:PTE):PTE:=λρ Q=>a ρ λp ρ1=>match p with
 | .dat (.bl c)=>Q (.dat (.bl (!c))) ρ1
 | _=>False
def jQ(ha:LE K ta pe)(hb:LE K tb pe'):LE K (Bs ta tb) (EL pe pe'):=λA ρ σ H Q Q' R q k=>ha A ρ σ H _ _ R q λv H1 p ρ1 q1 f1 o1=>by
 split at q1
 .rename_i c;obtain⟨R1,f⟩:=o1;cases f;refine⟨c,rfl,?_⟩
  cases c with
  | true=>exact hb A ρ1 σ H1 _ _ R1 q1 λb H2 p2 ρ2 q2 f2 o2=>k b H2 p2 ρ2 q2 (f1.trans f2) (o2.h0 λb z=>f1.dm b z)
  | false=>exact k _ H1 _ ρ1 q1 f1 ⟨R1,.bl false⟩
 .exact q1.elim
def vv(ha:LE K ta pe):LE K (Bt ta) (EM pe):=λA ρ σ H Q Q' R q k=>ha A ρ σ H _ _ R q λv H1 p ρ1 q1 f1 o1=>by
 split at q1
 .rename_i c;obtain⟨R1,f⟩:=o1;cases f;exact⟨c,rfl,k _ H1 _ ρ1 q1 f1 ⟨R1,.bl (!c)⟩⟩
 .exact q1.elim
end
abbrev F2:=D->D->(PV->Prop)->Prop
noncomputable def fI0(g:Int->Int->D):F2
 | .int i,.int j,Q=>Q (.dat (g i j))
 | _,_,_=>False
noncomputable def fI(C:Int->Int->Prop)(g:Int->Int->D):F2
 | .int i,.int j,Q=>C i j/\Q (.dat (g i j))
 | _,_,_=>False
section
variable {K:b_}{X:Cx}
def zX{g:Int->Int->V}{g':Int->Int->D}(h:∀i j O H,FV K O H (g i j) (g' i j)):LO K (rI0 g) (fI0 g'):=by
 intro O H x y a b Q Q' dom fx fy q k;unfold fI0 at q
 split at q
 .rename_i i j;exact⟨i,j,fx.int,fy.int,k _ H _ q (Gr.refl _) (h i j _ _)⟩
 .exact q.elim
def EN{C:Int->Int->Prop}{g:Int->Int->V}{g':Int->Int->D}(h:∀i j O H,FV K O H (g i j) (g' i j)):LO K (rI C g) (fI C g'):=by
 intro O H x y a b Q Q' dom fx fy q k;unfold fI at q
 split at q
 .rename_i i j;exact⟨i,j,fx.int,fy.int,q.1,k _ H _ q.2 (Gr.refl _) (h i j _ _)⟩
 .exact q.elim
def eh{O:Addr->Prop}{H:Hp}{xs:List V}{ds:List D}{p:Addr}(hp:H p=none)(f:FVs K O H xs ds):qs K O H (upd H p (.lst xs)) (.own ds) (.ref p) :=
 ⟨p,xs,rfl,hp,aB,f.keeps (aF.fresh hp)⟩
def kH{O:Addr->Prop}{H:Hp}{xs:List V}{ds:List D}{p:Addr}(dom:∀b,O b->H b≠none)(hp:H p=none)(f:FVs K O H xs ds):qs K O H (upd H p (.tup xs)) (.dat (.tup ds)) (.ref p) :=
 .tup (λz=>dom p z hp) aB (f.keeps λb o n e=>⟨n,by rw [ar (aH e hp)];exact e⟩)
noncomputable def EO:R2:=λx y H Q=>∃i j,x=.str (S i)/\y=.str (S j)/\i.length+j.length<=sizeLine/\Q (.str (S (i++j))) H
noncomputable def zY(K:b_):R2:=λx y H Q=>rI0 (λi j=>.int (i+j)) x y H Q\/EO x y H Q\/B5 K x y H Q\/BF K x y H Q
def EQ(K:b_)(e:X.K=K):OpR X (binaryOp .Add) (zY K):=by
 subst e;exact OpR.or Bv (OpR.or zI (OpR.or zO zy))
noncomputable def ER:F2
 | .int i,.int j,Q=>Q (.dat (.int (i+j)))
 | .str a,.str b,Q=>a.length+b.length<=1000000/\Q (.dat (.str (a++b)))
 | .lst a,.lst b,Q=>a.length+b.length<=1000000/\Q (.own (a++b))
 | .scr a,.lst b,Q=>a.length+b.length<=1000000/\Q (.own (a.map .int++b))
 | .tup a,.tup b,Q=>a≠[]/\a.length+b.length<=1000000/\Q (.dat (.tup (a++b)))
 | _,_,_=>False
def yI:LO K (zY K) ER:=by
 intro O H x y a b Q Q' dom fx fy q k;unfold ER at q
 split at q
 .rename_i i j;exact .inl ⟨i,j,fx.int,fy.int,k _ H _ q (Gr.refl _) (.int _)⟩
 .rename_i i j;exact .inr (.inl ⟨i,j,fx.str.1,fy.str.1,sz _ q.1,k _ H _ q.2 (Gr.refl _) (.str _ (by rw [length_append];exact q.1))⟩)
 .rename_i i j;obtain⟨a,xs,rfl,e1,f1⟩:=fx.lst;obtain⟨b,ys,rfl,e2,f2⟩:=fy.lst;exact .inr (.inr (.inl ⟨a,b,xs,ys,rfl,rfl,SqL.of e1,SqL.of e2,sz _ (by rw [f1.length,f2.length];exact q.1),λp hp=>k _ _ _ q.2 (Gr.new hp) (eh hp (f1.append f2))⟩))
 .rename_i i j;obtain⟨a,rfl,e1⟩:=fx.scr;obtain⟨b,ys,rfl,e2,f2⟩:=fy.lst;exact .inr (.inr (.inl ⟨a,b,_,ys,rfl,rfl,e1,SqL.of e2,sz _ (by rw [length_map,f2.length];exact q.1),λp hp=>k _ _ _ q.2 (Gr.new hp) (eh hp ((FVs.of_ints i).append f2))⟩))
 .rename_i i j;obtain⟨a,xs,rfl,n1,e1,f1⟩:=fx.tup;obtain⟨b,ys,rfl,n2,e2,f2⟩:=fy.tup;have l1:=f1.length;have l2:=f2.length
  refine .inr (.inr (.inr ⟨a,b,xs,ys,rfl,rfl,SqT.of e1,SqT.of e2,λz=>q.1 ?_,sz _ (by rw [l1,l2];exact q.2.1),λz=>?_,λ_ p hp=>k _ _ _ q.2.2 (Gr.new hp) (kH dom hp (f1.append f2))⟩))
  .exact IU.mp (by rw [<- l1,z];rfl)
  .have:j=[]:=IU.mp (by rw [<- l2,z];rfl);subst this;exact k _ H _ q.2.2 (Gr.refl _) (by rw [HE];exact .tup n1 e1 f1)
 .exact q.elim
def gP:LO K (rI0 λi j=>.int (i - j)) (fI0 λi j=>.int (i - j)):=zX λ_ _ _ _=>.int _
def kI:LO K (rI (λ_ j=>0<j) λi j=>.int (i % j)) (fI (λ_ j=>0<j) λi j=>.int (i % j)):=EN λ_ _ _ _=>.int _
def zZ:LO K (rI Ej λi j=>.int (i / j)) (fI (λ_ j=>0<j/\j<1073741824) λi j=>.int (i / j)):=EN λ_ _ _ _=>.int _
def vw:LO K (rI Ek λi j=>.int (i^j.toNat)) (fI (λi j=>0<=j/\j<=1000000/\i.natAbs<2^64) λi j=>.int (i^j.toNat)):=EN λ_ _ _ _=>.int _
noncomputable def ES:R2:=λx y H Q=>∃l n,x=.str (S l)/\y=.int n/\-1000000<=n/\n<=1000000/\n.toNat*l.length<=sizeLine/\Q (.str (S (uk l n))) H
noncomputable def Cd:R2:=λx y H Q=>rI DY (λi j=>.int (i*j)) x y H Q\/ES x y H Q\/Ga x y H Q
def pK:OpR X (binaryOp .Mult) Cd:=OpR.or Bx (OpR.or tw BL)
noncomputable def Gd:F2
 | .int i,.int j,Q=>((-(2^64)<i/\i<2^64)\/(-(2^64)<j/\j<2^64))/\Q (.dat (.int (i*j)))
 | .str a,.int n,Q=>(-1000000<=n/\n<=1000000/\n.toNat*a.length<=1000000)/\Q (.dat (.str (uk a n)))
 | .lst a,.int n,Q=>(-1000000<=n/\n<=1000000/\a.length*n.toNat<=1000000)/\Q (.own (uk a n))
 | _,_,_=>False
theorem FVs.rep{O:Addr->Prop}{H:Hp}{xs:List V}{ds:List D}(f:FVs K O H xs ds):∀n,FVs K O H (B_ n xs).flatten (B_ n ds).flatten
 | 0=>.nil
 | n+1=>by rw [replicate_succ,replicate_succ,flatten_cons,flatten_cons];exact f.append (f.rep n)
def jR:LO K Cd Gd:=by
 intro O H x y a b Q Q' dom fx fy q k;unfold Gd at q
 split at q
 .rename_i i j;exact .inl ⟨i,j,fx.int,fy.int,q.1,k _ H _ q.2 (Gr.refl _) (.int _)⟩
 .rename_i i j;exact .inr (.inl ⟨i,j,fx.str.1,fy.int,q.1.1,q.1.2.1,sz _ q.1.2.2,k _ H _ q.2 (Gr.refl _) (.str _ (by rw [ip];exact q.1.2.2))⟩)
 .rename_i i j;obtain⟨a,xs,rfl,e1,f1⟩:=fx.lst;exact .inr (.inr ⟨a,j,xs,rfl,fy.int,e1,by omega,by omega,sz _ (by rw [f1.length];exact q.1.2.2),λp hp=>k _ _ _ q.2 (Gr.new hp) (eh hp (f1.rep _))⟩)
 .exact q.elim
noncomputable def Ge:R2:=λx y H Q=>rI0 (λi j=>.bl (decide (i<j))) x y H Q\/∃i j,x=.str i/\y=.str j/\Q (.bl (decide (i.cps.toList<j.cps.toList))) H
noncomputable def D2:R2:=λx y H Q=>rI0 (λi j=>.bl (decide (i<=j))) x y H Q\/∃i j,x=.str i/\y=.str j/\Q (.bl (!decide (j.cps.toList<i.cps.toList))) H
def Ce:OpR X (compareOp .Lt) Ge:=OpR.or En uG
def D3:OpR X (compareOp .LtE) D2:=OpR.or Ep uZ
noncomputable def fLt:F2
 | .int i,.int j,Q=>Q (.dat (.bl (decide (i<j))))
 | .str i,.str j,Q=>Q (.dat (.bl (decide (i<j))))
 | _,_,_=>False
noncomputable def fLe:F2
 | .int i,.int j,Q=>Q (.dat (.bl (decide (i<=j))))
 | .str i,.str j,Q=>Q (.dat (.bl (!decide (j<i))))
 | _,_,_=>False
def vx:LO K Ge fLt:=by
 intro O H x y a b Q Q' dom fx fy q k;unfold fLt at q
 split at q
 .rename_i i j;exact .inl ⟨i,j,fx.int,fy.int,k _ H _ q (Gr.refl _) (.bl _)⟩
 .rename_i i j;exact .inr ⟨_,_,fx.str.1,fy.str.1,k _ H _ q (Gr.refl _) (.bl _)⟩
 .exact q.elim
def xS:LO K D2 fLe:=by
 intro O H x y a b Q Q' dom fx fy q k;unfold fLe at q
 split at q
 .rename_i i j;exact .inl ⟨i,j,fx.int,fy.int,k _ H _ q (Gr.refl _) (.bl _)⟩
 .rename_i i j;exact .inr ⟨_,_,fx.str.1,fy.str.1,k _ H _ q (Gr.refl _) (.bl _)⟩
 .exact q.elim
def tH:LO K (rI0 λi j=>.bl (decide (j<i))) (fI0 λi j=>.bl (decide (j<i))):=zX λ_ _ _ _=>.bl _
def tI:LO K (rI0 λi j=>.bl (decide (j<=i))) (fI0 λi j=>.bl (decide (j<=i))):=zX λ_ _ _ _=>.bl _
mutual
noncomputable def D.py:D->JF
 | .non=>.none|.bl b=>.bool b|.int i=>.int i|.str l=>.str (S l)|.ty _=>.none
 | .lst ds=>.list (D.pys ds)|.tup ds=>.tuple (D.pys ds)|.scr ns=>.list (ns.map .int)|.dic _ _=>.none|.obj _ _ _=>.none|.exc _ _ _=>.none
noncomputable def D.pys:List D->List JF
 | []=>[]
 | d::r=>d.py::D.pys r
end
mutual
noncomputable def D.plain:D->Bool
 | .non=>true|.bl _=>true|.int _=>true|.str _=>true|.ty _=>false
 | .lst ds=>D.plains ds|.tup ds=>D.plains ds|.scr _=>true|.dic _ _=>false|.obj _ _ _=>false|.exc _ _ _=>false
noncomputable def D.plains:List D->Bool
 | []=>true
 | d::r=>d.plain && D.plains r
end
mutual
theorem FV.dv{O:Addr->Prop}{H:Hp}:∀{v:V}{d:D},FV K O H v d->d.plain=true->DV K H v d.py
 | _,_,.non,_=>.non
 | _,_,.bl b,_=>.bl b
 | _,_,.int i,_=>.int i
 | _,_,.str l h,_=>.str (S l)
 | _,_,.ty n,p=>nomatch p
 | _,_,.scr s,_=>.lst s.sq (DVs.ints _)
 | _,_,.lst n e f,p=>.lst (SqL.of e) (FVs.dvs f p)
 | _,_,.tup n e f,p=>.tup (SqT.of e) (FVs.dvs f p)
 | _,_,.dic _ _ _ _,p=>nomatch p
 | _,_,.obj _ _ _ _,p=>nomatch p
 | _,_,.exc0 _ _,p=>nomatch p
 | _,_,.exc1 _ _ _ _ _ _,p=>nomatch p
theorem FVs.dvs{O:Addr->Prop}{H:Hp}:∀{vs:List V}{ds:List D},FVs K O H vs ds->D.plains ds=true->DVs K H vs (D.pys ds)
 | _,_,.nil,_=>.nil
 | _,_,.cons a b,p=>by
  have p:(_ && _)=true:=p;rw [and_eq_true] at p;exact .cons (FV.dv a p.1) (FVs.dvs b p.2)
end
def FVc.dv{O:Addr->Prop}{H:Hp}{v:V}{d:D}(h:FVc K O H v d)(p:d.plain=true):DV K H v d.py:=by
 rcases h with h|⟨a,xs,ds',rfl,rfl,e3,f⟩|⟨a,dx,c,fs,ns,ds',e1,rfl,_⟩|⟨a,kvs,ks,ds',e1,rfl,_⟩
 .exact h.dv p
 .exact .lst (SqL.of e3) (f.dvs p)
 .cases p
 .cases p
noncomputable def Cf(K:b_)(neg:Bool):R2:=λx y H Q=>rI0 (λi j=>.bl (if neg then !decide (i=j) else decide (i=j))) x y H Q\/(∃i j,x=.str (S i)/\y=.str (S j)/\Q (.bl (if neg then !decide (i=j) else decide (i=j))) H)\/Ey K neg x y H Q
def GP(K:b_)(e:X.K=K)(hu:X.A.units+64<cLine):OpR X (compareOp .Eq) (Cf K false):=by
 subst e;exact OpR.or BY (OpR.or BW (BS hu))
def GQ(K:b_)(e:X.K=K)(hu:X.A.units+64<cLine):OpR X (compareOp .NotEq) (Cf K true):=by
 subst e;exact OpR.or BZ (OpR.or BX (BU hu))
noncomputable def vy(a b:D):Prop:=a.plain=true/\b.plain=true/\IG a.py=true/\IG b.py=true
def deq(a b:D):Bool:=JO a.py b.py
noncomputable def fEq:F2
 | .int i,.int j,Q=>Q (.dat (.bl (decide (i=j))))
 | .str i,.str j,Q=>Q (.dat (.bl (decide (i=j))))
 | a,b,Q=>vy a b/\Q (.dat (.bl (deq a b)))
noncomputable def fNe:F2
 | .int i,.int j,Q=>Q (.dat (.bl (!decide (i=j))))
 | .str i,.str j,Q=>Q (.dat (.bl (!decide (i=j))))
 | a,b,Q=>vy a b/\Q (.dat (.bl (!deq a b)))
def ET:LO K (Cf K false) fEq:=by
 intro O H x y a b Q Q' dom fx fy q k;unfold fEq at q
 split at q
 .rename_i i j;exact .inl ⟨i,j,fx.int,fy.int,k _ H _ q (Gr.refl _) (.bl _)⟩
 .rename_i i j;exact .inr (.inl ⟨i,j,fx.str.1,fy.str.1,k _ H _ q (Gr.refl _) (.bl _)⟩)
 .exact .inr (.inr ⟨_,_,fx.dv q.1.1,fy.dv q.1.2.1,q.1.2.2.1,q.1.2.2.2,k _ H _ q.2 (Gr.refl _) (.bl _)⟩)
def EU:LO K (Cf K true) fNe:=by
 intro O H x y a b Q Q' dom fx fy q k;unfold fNe at q
 split at q
 .rename_i i j;exact .inl ⟨i,j,fx.int,fy.int,k _ H _ q (Gr.refl _) (.bl _)⟩
 .rename_i i j;exact .inr (.inl ⟨i,j,fx.str.1,fy.str.1,k _ H _ q (Gr.refl _) (.bl _)⟩)
 .exact .inr (.inr ⟨_,_,fx.dv q.1.1,fy.dv q.1.2.1,q.1.2.2.1,q.1.2.2.2,k _ H _ q.2 (Gr.refl _) (.bl _)⟩)
noncomputable def Gf(neg:Bool):R2:=λx y H Q=>(∃b c,x=.bl b/\y=.bl c/\Q (.bl (if neg then !decide (b=c) else decide (b=c))) H)\/(y=.non/\Q (.bl (if neg then !decide (x=.non) else decide (x=.non))) H)
def GR:OpR X (compareOp .Is) (Gf false):=OpR.or B9 BA
noncomputable def D.isNon:D->Bool
 | .non=>true
 | _=>false
def FVc.isNon{O:Addr->Prop}{H:Hp}{v:V}{d:D}(h:FVc K O H v d):decide (v=.non)=d.isNon:=by
 rcases h with h|⟨a,xs,ds',rfl,rfl,e3,f⟩|⟨a,dx,c,fs,ns,ds',rfl,rfl,_⟩|⟨a,kvs,ks,ds',rfl,rfl,_⟩
 .cases h <;> rfl
 .rfl
 .rfl
 .rfl
noncomputable def fIs(neg:Bool):F2
 | .bl b,.bl c,Q=>Q (.dat (.bl (if neg then !decide (b=c) else decide (b=c))))
 | a,.non,Q=>Q (.dat (.bl (if neg then !a.isNon else a.isNon)))
 | _,_,_=>False
def EV{neg:Bool}:LO K (Gf neg) (fIs neg):=by
 intro O H x y a b Q Q' dom fx fy q k;unfold fIs at q
 split at q
 .rename_i b c;exact .inl ⟨b,c,fx.bl,fy.bl,k _ H _ q (Gr.refl _) (.bl _)⟩
 .exact .inr ⟨fy.non,by rw [fx.isNon];exact k _ H _ q (Gr.refl _) (.bl _)⟩
 .exact q.elim
noncomputable def D.fl:D->Bool
 | .non=>true|.bl _=>true|.int _=>true|.str _=>true
 | _=>false
noncomputable def eqF:D->D->Bool
 | .non,.non=>true
 | .bl a,.bl b=>a == b
 | .bl a,.int b=>(if a then 1 else 0) == b
 | .int a,.bl b=>a == (if b then 1 else 0)
 | .int a,.int b=>a == b
 | .str a,.str b=>a == b
 | _,_=>false
noncomputable def inD(x:D)(xs:List D):Bool:=xs.any λy=>eqF y x
def FV.fl{O:Addr->Prop}{H:Hp}{v:V}{d:D}(h:FV K O H v d)(f:d.fl=true):lN v=true:=by cases h <;> first|rfl|cases f
def Cg(a b:List Nat):(S a == S b)=(a == b):=by
 by_cases h:a=b
 .subst h;rw [beq_self_eq_true,beq_self_eq_true]
 .rw [beq_eq_false_iff_ne.mpr h,beq_eq_false_iff_ne.mpr (GJ h)]
def FV.eqF{O:Addr->Prop}{H:Hp}{v w:V}{d e:D}(h:FV K O H v d)(f:d.fl=true)(h':FV K O H w e)(f':e.fl=true):eqV v w=L2.eqF d e:=by
 cases h <;> first|(cases f;done)|(cases h' <;> first|(cases f';done)|rfl|exact Cg _ _)
theorem FVs.inD{O:Addr->Prop}{H:Hp}{v:V}{d:D}(h:FV K O H v d)(f:d.fl=true):∀{xs:List V}{ds:List D},FVs K O H xs ds->ds.all D.fl=true->xs.all lN=true/\inV v xs=L2.inD d ds
 | _,_,.nil,_=>⟨rfl,rfl⟩
 | _,_,.cons a b,g=>by
  rw [all_cons,and_eq_true] at g;obtain⟨i1,i2⟩:=b.inD h f g.2;refine⟨by rw [all_cons,a.fl g.1,i1];rfl,?_⟩;unfold inV L2.inD at i2 ⊢;rw [any_cons,any_cons,i2,a.eqF g.1 h f]
noncomputable def fIn(neg:Bool):F2
 | a,.lst ds,Q=>(a.fl=true/\ds.all D.fl=true)/\Q (.dat (.bl (if neg then !inD a ds else inD a ds)))
 | a,.tup ds,Q=>(a.fl=true/\ds.all D.fl=true)/\Q (.dat (.bl (if neg then !inD a ds else inD a ds)))
 | _,_,_=>False
def FVc.fl{O:Addr->Prop}{H:Hp}{v:V}{d:D}(h:FVc K O H v d)(f:d.fl=true):FV K O H v d:=h.fv (λ_ z=>by rw [z] at f;cases f) (λ_ _ _ z=>by rw [z] at f;cases f) (λ_ _ z=>by rw [z] at f;cases f)
def GS(K:b_)(e:X.K=K):OpR X (compareOp .In) (rIn K false):=by subst e;exact uQ
def z0(K:b_)(e:X.K=K):OpR X (compareOp .NotIn) (rIn K true):=by subst e;exact oY
def Ch{neg:Bool}:LO K (rIn K neg) (fIn neg):=by
 intro O H x y a b Q Q' dom fx fy q k;unfold fIn at q
 split at q
 .obtain⟨p,xs,rfl,e1,f1⟩:=fy.lst;obtain⟨g1,g2⟩:=f1.inD (fx.fl q.1.1) q.1.1 q.1.2;exact⟨p,xs,rfl,.inl (SqL.of e1),(fx.fl q.1.1).fl q.1.1,g1,by rw [g2];exact k _ H _ q.2 (Gr.refl _) (.bl _)⟩
 .obtain⟨p,xs,rfl,n1,e1,f1⟩:=fy.tup;obtain⟨g1,g2⟩:=f1.inD (fx.fl q.1.1) q.1.1 q.1.2;exact⟨p,xs,rfl,.inr (SqT.of e1),(fx.fl q.1.1).fl q.1.1,g1,by rw [g2];exact k _ H _ q.2 (Gr.refl _) (.bl _)⟩
 .exact q.elim
noncomputable def sj(K:b_):R2:=λx y H Q=>FZ K x y H Q\/F4 K x y H Q\/BV x y H Q
def e8(K:b_)(e:X.K=K):IxR X (sj K):=by
 subst e;exact IxR.or zC (IxR.or BG zH)
noncomputable def fIx:F2
 | .lst ds,.int i,Q=>∃d,atI ds i=some d/\Q (.dat d)
 | .tup ds,.int i,Q=>∃d,atI ds i=some d/\Q (.dat d)
 | .scr ns,.int i,Q=>∃d,atI ns i=some d/\Q (.dat (.int d))
 | .str l,.int i,Q=>∃c,atI l i=some c/\Q (.dat (.str [c]))
 | _,_,_=>False
def FVs.atI{O:Addr->Prop}{H:Hp}{vs:List V}{ds:List D}{i:Int}{d:D}(f:FVs K O H vs ds)(h:L2.atI ds i=some d):∃v,L2.atI vs i=some v/\FV K O H v d:=by
 unfold L2.atI at h ⊢;rw [f.length]
 cases e:ixN ds.length i with
 | none=>rw [e] at h;cases h
 | some j=>rw [e] at h;exact f.getD h
def bH:LO K (sj K) fIx:=by
 intro O H x y a b Q Q' dom fx fy q k;unfold fIx at q
 split at q
 .obtain⟨d,hd,q⟩:=q;obtain⟨p,xs,rfl,e1,f1⟩:=fx.lst;obtain⟨v,hv,fv⟩:=f1.atI hd;exact .inl ⟨p,xs,_,v,rfl,fy.int,SqL.of e1,hv,k _ H _ q (Gr.refl _) fv⟩
 .obtain⟨d,hd,q⟩:=q;obtain⟨p,xs,rfl,n1,e1,f1⟩:=fx.tup;obtain⟨v,hv,fv⟩:=f1.atI hd;exact .inr (.inl ⟨p,xs,_,v,rfl,fy.int,SqT.of e1,hv,k _ H _ q (Gr.refl _) fv⟩)
 .obtain⟨d,hd,q⟩:=q;obtain⟨p,rfl,e1⟩:=fx.scr;exact .inl ⟨p,_,_,_,rfl,fy.int,e1,zJ hd,k _ H _ q (Gr.refl _) (.int d)⟩
 .obtain⟨c,hc,q⟩:=q;exact .inr (.inr ⟨_,_,c,fx.str.1,fy.int,sz _ fx.str.2,hc,k _ H _ q (Gr.refl _) (.str _ (by show 1<=1000000;decide))⟩)
 .exact q.elim
end
end L2
namespace L2
open PySem PySem.Spec PyProof.Rows _root_.HT
section
variable {prog:r_}{w:World}{A:w_}{E:Value->d_->Prop}{s:d_}
def jl{t sl:Addr}{items:Array Value}{vl vu:Value}{lo hi:Option Int}{Q:Value->d_->Prop}(ht:IsTup s.heap t items)(hs:s.heap.IsSliceOf sl vl vu .none)(pl:KU vl lo)(pu:KU vu hi)
  (hw:sIx items.size 0 lo=0/\sIx items.size items.size hi=items.size)
  (h:Q (.ref t) s):wpAny (model prog w) A (getItem (.ref t) (.ref sl)) Q E s:=by
 obtain⟨os,hos,hcs,hds⟩:=id hs;have hTs:s.TypeIs (.ref sl) "slice":=⟨os,hos,hcs⟩
 unfold getItem
 try with_reducible refine HB ?_
 first|refine cy (e_ ?_)|skip
 refine cy (wpAny_sequenceKey ht.typeIs (by decide) ?_)
 refine cy (Ho (name:=IF "__getitem__") ht.typeIs Hw
  (HV Hw ht.typeIs entry_tuple_getitem ?_ (args_tuple_getitem _ _)))
 show wpAny _ _ (Ku (.ref t) >>= _) _ _ s;refine cy (tupleItemsOf_ ht ?_);refine cy (wpAny_typeOf hTs ?_);rw [if_pos (by decide)];refine cy (fQ hs pl pu ?_)
 have hyes:(((sIx items.size 0 lo:Nat):Int) == 0 && (1:Int) == 1 && (sIx items.size items.size hi - sIx items.size 0 lo) == items.size)=true:=by
  rw [hw.1,hw.2,Ls];simp
 show wpAny _ _ (if (((sIx items.size 0 lo:Nat):Int) == 0 && (1:Int) == 1 && (sIx items.size items.size hi - sIx items.size 0 lo) == items.size)=true then _ else _) _ _ s;rw [if_pos hyes];refine cy (m:=Builtin.Tuple.tupleIsExact _) (cy (wpAny_typeOf ht.typeIs (e_ ?_)));rw [if_pos (by decide)]
 first
  | exact cy (m:=rule _) (e_ (e_ ⟨_,rfl,e_ h⟩))
  | exact e_ ⟨_,rfl,e_ h⟩
  | exact cy (JP (e_ ⟨_,rfl,e_ h⟩))
noncomputable def Ci(K:b_):V->Option Int->Option Int->Hp->VK->Prop:=λx lo hi H Q=>∃a xs,x=.ref a/\SqT K H a xs/\(sIx xs.length 0 lo=0/\sIx xs.length xs.length hi=xs.length)/\Q (.ref a) H
def Aa{X:Cx}:SlR X (Ci X.K):=by
 intro pins s σ H x v vl vu lo hi sl Q I rx hs pl pu h;obtain⟨a,xs,rfl,hx,hw,q⟩:=h;cases rx;obtain⟨its,r,ht,hz⟩:=I.tuple hx;have hlen:its.toArray.size=xs.length:=by rw [x_];exact r.length.symm
 refine⟨"tuple",_,Hw.lookup,ht.typeIs,?_⟩;exact jl ht hs pl pu (by rw [hlen];exact hw) ⟨.ref a,H,I,rfl,q⟩
end
end L2
namespace L2
open PySem PySem.Spec PyProof.Rows
section
variable {K:b_}{X:Cx}{ta tb tc to:TE}{pa pb pc:PA1}{pe:PTE}{tr:TA}{pr:PTA}
noncomputable def vz(f f':F2)(pa pb pc:PA1):PTE:=λρ Q=>pa ρ λx ρ1=>pb ρ1 λy ρ2=>op2 f ρ2 x y λp ρ3=>match p with
 | .dat (.bl k)=>iG k (pc ρ3 λz ρ4=>op2 f' ρ4 y z Q) (Q (.dat (.bl false)) ρ3)
 | _=>False
def sk{r r':R2}{f f':F2}(o:LO K r f)(o':LO K r' f')(ha:LA1 K ta pa)(hb:LA1 K tb pb)(hc:LA1 K tc pc):LE K (rS r r' ta tb tc) (vz f f' pa pb pc):=λA ρ σ H Q Q' R q k =>
 ha A ρ σ H _ _ R q λv H1 a ρ1 q1 f1 R1 o1=>hb A ρ1 σ H1 _ _ R1 q1 λw H2 b ρ2 q2 f2 R2 o2=>by
  unfold op2 at q2
  split at q2
  .rename_i da db e1 e2;refine o _ H2 v w da db _ _ R2.dom2 (R2.cont (o1.keeps f2.keeps) e1) (R2.cont o2 e2) q2 λz H3 p q3 g ov=>?_;dsimp only at q3
   split at q3
   .rename_i c;cases ov;refine⟨c,rfl,?_⟩;have R3:=R2.gr g
    cases c with
    | true =>
     refine hc A ρ2 σ H3 _ _ R3 q3 λu H4 cc ρ4 q4 f4 R4 o4=>?_
     try unfold op2 at q4
     split at q4
     .rename_i dc dd e3 e4;have o2':AOk K (OO A ρ4 σ) σ H4 b w:=(o2.keeps (g.fr (ρ:=ρ2) (σ:=σ)).keeps).keeps f4.keeps;exact o' _ H4 w u _ _ _ _ R4.dom2 (R4.cont o2' e3) (R4.cont o4 e4) q4 λz H5 p q5 g5 ov=>k z H5 p ρ4 q5 ((((f1.trans f2).trans g.fr).trans f4).trans g5.fr) ((ov.out R4 g5).h0 λb z=>f4.dm b ((g.fr (ρ:=ρ2) (σ:=σ)).dm b (f2.dm b (f1.dm b z))))
     .exact q4.elim
    | false=>exact k _ H3 _ ρ2 q3 ((f1.trans f2).trans g.fr) ⟨R3,.bl false⟩
   .exact q3.elim
  .exact q2.elim
abbrev PTO:=PSt->(Option Int->PSt->Prop)->Prop
noncomputable def LPo(K:b_)(t:TO)(p:PTO):Prop:=∀(A:Addr->Prop) (ρ:PSt) (σ:St) (H:Hp) (Q:Option Int->PSt->Prop) (Q':Option Int->Hp->Prop),Rel K A ρ σ H->p ρ Q ->
 (∀b H' ρ',Q b ρ'->Fr ρ σ H ρ' H'->Rel K A ρ' σ H'->Q' b H')->t σ H Q'
def Cj:PTO:=λρ Q=>Q none ρ
noncomputable def Ck(pe:PTE):PTO:=λρ Q=>pe ρ λp ρ1=>match p with
 | .dat (.int i)=>Q (some i) ρ1
 | _=>False
def gG:LPo K uP Cj:=λA ρ σ H Q Q' R q k=>k none H ρ q (Fr.refl _ _ _) R
def dW(h:LE K ta pe):LPo K (BD ta) (Ck pe):=λA ρ σ H Q Q' R q k=>h A ρ σ H _ _ R q λv H1 p ρ1 q1 f1 o1=>by
 split at q1
 .rename_i i;obtain⟨R1,f⟩:=o1;cases f;exact⟨i,rfl,k _ H1 ρ1 q1 f1 R1⟩
 .exact q1.elim
noncomputable def EW(K:b_):V->Option Int->Option Int->Hp->VK->Prop:=λx lo hi H Q=>F8 K x lo hi H Q\/Gb x lo hi H Q\/FY K x lo hi H Q\/Ci K x lo hi H Q
def Ab(K:b_)(e:X.K=K):SlR X (EW K):=by
 subst e;exact SlR.or zD (SlR.or BQ (SlR.or BE Aa))
noncomputable def fSl:D->Option Int->Option Int->(PV->Prop)->Prop
 | .lst ds,lo,hi,Q=>Q (.own (dU ds lo hi))
 | .scr ns,lo,hi,Q=>Q (.own ((dU ns lo hi).map .int))
 | .str l,lo,hi,Q=>Q (.dat (.str (dU l lo hi)))
 | .tup ds,lo,hi,Q=>Q (.dat (.tup (dU ds lo hi)))
 | _,_,_,_=>False
def FVs.cut{O:Addr->Prop}{H:Hp}{xs:List V}{ds:List D}(f:FVs K O H xs ds)(lo hi:Option Int):FVs K O H (dU xs lo hi) (dU ds lo hi):=by
 unfold dU;rw [f.length];exact (f.drop _).take _
noncomputable def Cm(pa:PA1)(pl ph:PTO):PTE:=λρ Q=>pa ρ λx ρ1=>pl ρ1 λlo ρ2=>ph ρ2 λhi ρ3=>match cont ρ3 x with
 | some d=>fSl d lo hi λp=>Q p ρ3
 | _=>False
def Ac{α:Type}{ds:List α}{lo hi:Option Int}{n:Nat}(h:n=ds.length)(hw:HT.sIx n 0 lo=0/\HT.sIx n n hi=n):dU ds lo hi=ds:=by
 subst h;unfold dU;rw [hw.1,hw.2,drop_zero,Ls,KE]
def lsl{O:Addr->Prop}{H:Hp}{x:V}{d:D}{lo hi:Option Int}{Q:PV->Prop}{Q':VK}(dom:∀b,O b->H b≠none)(fx:FVc K O H x d)(q:fSl d lo hi Q)(k:∀v H' p,Q p->Gr H H'->qs K O H H' p v->Q' v H'):EW K x lo hi H Q':=by
 unfold fSl at q
 split at q
 .obtain⟨a,xs,rfl,e1,f1⟩:=fx.lst;exact .inl ⟨a,xs,rfl,SqL.of e1,λp hp=>k _ _ _ q (Gr.new hp) (eh hp (f1.cut _ _))⟩
 .obtain⟨a,rfl,e1⟩:=fx.scr;exact .inl ⟨a,_,rfl,e1,λp hp=>k _ _ _ q (Gr.new hp) (eh hp (by rw [uU,xD];exact FVs.of_ints _))⟩
 .exact .inr (.inl ⟨_,fx.str.1,sz _ fx.str.2,k _ H _ q (Gr.refl _) (.str _ (E_ (gN _ _ _) fx.str.2))⟩)
 .obtain⟨a,xs,rfl,n1,e1,f1⟩:=fx.tup
  by_cases hw:HT.sIx xs.length 0 lo=0/\HT.sIx xs.length xs.length hi=xs.length
  .refine .inr (.inr (.inr ⟨a,xs,rfl,SqT.of e1,hw,k _ H _ q (Gr.refl _) ?_⟩));rw [Ac f1.length hw];exact .tup n1 e1 f1
  .exact .inr (.inr (.inl ⟨a,xs,rfl,SqT.of e1,hw,λp hp=>k _ _ _ q (Gr.new hp) (kH dom hp (f1.cut _ _))⟩))
 .exact q.elim
def fj{tl th:TO}{pl ph:PTO}(ha:LA1 K ta pa)(hl:LPo K tl pl)(hh:LPo K th ph):LE K (tSl (EW K) ta tl th) (Cm pa pl ph):=λA ρ σ H Q Q' R q k =>
 ha A ρ σ H _ _ R q λv H1 a ρ1 q1 f1 R1 o1=>hl A ρ1 σ H1 _ _ R1 q1 λlo H2 ρ2 q2 f2 R2=>hh A ρ2 σ H2 _ _ R2 q2 λhi H3 ρ3 q3 f3 R3=>by
  split at q3
  .rename_i d e1;exact lsl R3.dom2 (R3.cont (o1.keeps (f2.trans f3).keeps) e1) q3 λz H4 p q4 g ov=>k z H4 p ρ3 q4 (((f1.trans f2).trans f3).trans g.fr) ((ov.out R3 g).h0 λb z=>f3.dm b (f2.dm b (f1.dm b z)))
  .exact q3.elim
abbrev FN:=List D->(PV->Prop)->Prop
noncomputable def qD(K:b_):List V->Hp->VK->Prop:=λxs H Q=>(∃l,xs=[.str (S l)]/\l.length<=sizeLine/\Q (.int l.length) H)\/EF K xs H Q\/EG K xs H Q\/∃p kvs,xs=[.ref p]/\Rd H p (.dK kvs)/\Q (.int kvs.length) H
def bN(K:b_)(e:X.K=K):bj X (.builtin "len") (qD K):=by
 subst e;exact bj.or u8 (bj.or u9 (bj.or va vk))
noncomputable def A8:FN
 | [.str l],Q=>Q (.dat (.int l.length))
 | [.lst l],Q=>Q (.dat (.int l.length))
 | [.tup l],Q=>Q (.dat (.int l.length))
 | [.scr l],Q=>Q (.dat (.int l.length))
 | [.dic ks _],Q=>Q (.dat (.int ks.length))
 | _,_=>False
def bc:LC K (qD K) A8:=by
 intro O H xs as Q Q' dom fs q k;unfold A8 at q
 split at q
 .cases fs with|cons a b=>cases b;rw [a.str.1];exact .inl ⟨_,rfl,sz _ a.str.2,k _ H _ q (Gr.refl _) (.int _)⟩
 .cases fs with
  | cons a b =>
   cases b;obtain⟨p,ys,rfl,e1,f1⟩:=a.lst;exact .inr (.inl ⟨p,ys,rfl,SqL.of e1,by rw [f1.length];exact k _ H _ q (Gr.refl _) (.int _)⟩)
 .cases fs with
  | cons a b =>
   cases b;obtain⟨p,ys,rfl,n1,e1,f1⟩:=a.tup;exact .inr (.inr (.inl ⟨p,ys,rfl,SqT.of e1,by rw [f1.length];exact k _ H _ q (Gr.refl _) (.int _)⟩))
 .cases fs with
  | cons a b =>
   cases b;obtain⟨p,rfl,e1⟩:=a.scr;exact .inr (.inl ⟨p,_,rfl,e1,by rw [length_map];exact k _ H _ q (Gr.refl _) (.int _)⟩)
 .cases fs with
  | cons a b =>
   cases b;obtain⟨p,kvs,rfl,e,m,f⟩:=a.dic;subst m;exact .inr (.inr (.inr ⟨_,_,rfl,.inl e,k _ H _ q (Gr.refl _) (by rw [length_map];exact .int _)⟩))
 .exact q.elim
inductive Kd where
 | int|bool|str|list|tuple|dict
noncomputable def Kd.nm:Kd->String
 | .int=>"int"|.bool=>"bool"|.str=>"str"|.list=>"list"|.tuple=>"tuple"|.dict=>"dict"
noncomputable def isK:Kd->D->Bool
 | .int,.int _=>true
 | .int,.bl _=>true
 | .bool,.bl _=>true
 | .str,.str _=>true
 | .list,.lst _=>true
 | .tuple,.tup _=>true
 | .dict,.dic _ _=>true
 | _,_=>false
noncomputable def D.sort:D->Bool
 | .obj _ _ _=>false
 | .exc _ _ _=>false
 | .scr _=>false
 | .ty _=>false
 | _=>true
def FVc.ty{O:Addr->Prop}{H:Hp}{v:V}{d:D}(h:FVc K O H v d)(s:d.sort=true):∃t,oM K H v t/\∀k:Kd,Hm K t (.type k.nm)=some (isK k d):=by
 rcases h with h|⟨a,xs,ds',rfl,rfl,e3,f⟩|⟨a,dx,c,fs,ns,ds',rfl,rfl,_⟩|⟨a,kvs,ks,ds',rfl,rfl,e3,_⟩
 .cases h with
  | non=>exact⟨_,.non,λk=>by cases k <;> rfl⟩
  | bl b=>exact⟨_,.bl b,λk=>by cases k <;> rfl⟩
  | int i=>exact⟨_,.int i,λk=>by cases k <;> rfl⟩
  | str l h=>exact⟨_,.str _,λk=>by cases k <;> rfl⟩
  | ty n=>cases s
  | scr _=>cases s
  | lst n e f=>exact⟨_,.lst e,λk=>by cases k <;> rfl⟩
  | tup n e f=>exact⟨_,.tup e,λk=>by cases k <;> rfl⟩
  | dic n e m f=>exact⟨_,.dK e,λk=>by cases k <;> rfl⟩
  | obj _ _ _ _=>cases s
  | exc0 _ _=>cases s
  | exc1 _ _ _ _ _ _=>cases s
 .exact⟨_,.lst e3,λk=>by cases k <;> rfl⟩
 .cases s
 .exact⟨_,.dK e3,λk=>by cases k <;> rfl⟩
def qE(K:b_)(e:X.K=K):bj X (.builtin "isinstance") (Gc K):=by subst e;exact qx
noncomputable def Gg(k:Kd)(pa:PA1):PTE:=λρ Q=>pa ρ λx ρ1=>match cont ρ1 x with
 | some d=>iG d.sort (Q (.dat (.bl (isK k d))) ρ1) False
 | _=>False
def kJ(k:Kd)(ha:LA1 K ta pa):LE K (tCB (Gc K) (aW ta (aW (tC (.ty k.nm)) eR))) (Gg k pa):=λA ρ σ H Q Q' R q kk =>
 ha A ρ σ H _ _ R q λv H1 a ρ1 q1 f1 R1 o1=>by
  split at q1
  .rename_i d e1
   cases hs:d.sort with
   | false=>rw [hs] at q1;exact q1.elim
   | true =>
    rw [hs] at q1;obtain⟨t,ty,hk⟩:=(R1.cont o1 e1).ty hs;exact⟨v,k.nm,t,isK k d,rfl,ty,hk k,kk _ H1 _ ρ1 q1 f1 ⟨R1,.bl _⟩⟩
  .exact q1.elim
noncomputable def Gh(K:b_):List V->Hp->VK->Prop:=λxs H Q=>∃(x:V) (p:Addr) (ts:List String) (t:Value) (b:Bool),xs=[x,.ref p]/\oM K H x t/\H p=some (.tup (ts.map V.ty))/\Iv K t (ts.map Jd)=some b/\Q (.bl b) H
def EX(K:b_)(e:X.K=K):bj X (.builtin "isinstance") (Gh K):=by subst e;exact pH
noncomputable def GT(k l:Kd)(pa:PA1):PTE:=λρ Q=>pa ρ λx ρ1=>match cont ρ1 x with
 | some d=>iG d.sort (Q (.dat (.bl (isK k d || isK l d))) ρ1) False
 | _=>False
def FVc.keeps{O O':Addr->Prop}{H H':Hp}{v:V}{d:D}(k:aF O H O' H')(g:Gr H H')(h:FVc K O H v d):FVc K O' H' v d:=by
 rcases h with h|⟨a,xs,ds',e1,e2,e3,f⟩|⟨a,dx,c,fs,ns,ds',e1,e2,e3,m,f⟩|⟨a,kvs,ks,ds',e1,e2,e3,m,f⟩
 .exact .inl (h.keeps k)
 .exact .inr (.inl ⟨a,xs,ds',e1,e2,g _ _ e3,f.keeps k⟩)
 .exact .inr (.inr (.inl ⟨a,dx,c,fs,ns,ds',e1,e2,g _ _ e3,m,f.keeps k⟩))
 .exact .inr (.inr (.inr ⟨a,kvs,ks,ds',e1,e2,g _ _ e3,m,f.keeps k⟩))
def Cn(k l:Kd)(hkl:∀t b c,Hm K t (.type k.nm)=some b->Hm K t (.type l.nm)=some c->Iv K t [.type k.nm,.type l.nm]=some (b || c))(ha:LA1 K ta pa):LE K (tCB (Gh K) (aW ta (aW (BC (aW (tC (.ty k.nm)) (aW (tC (.ty l.nm)) eR))) eR))) (GT k l pa):=λA ρ σ H Q Q' R q kk =>
 ha A ρ σ H _ _ R q λv H1 a ρ1 q1 f1 R1 o1=>by
  split at q1
  .rename_i d e1
   cases hs:d.sort with
   | false=>rw [hs] at q1;exact q1.elim
   | true =>
    rw [hs] at q1;refine⟨by show 2<=sizeLine;decide,λp hp=>?_⟩;have g:Gr H1 (upd H1 p (.tup [V.ty k.nm,V.ty l.nm])):=Gr.new hp;obtain⟨t,ty,hk⟩:=((R1.cont o1 e1).keeps (g.fr (ρ:=ρ1) (σ:=σ)).keeps g).ty hs;exact⟨v,p,[k.nm,l.nm],t,_,rfl,ty,aB,hkl _ _ _ (hk k) (hk l),kk _ _ _ ρ1 q1 (f1.trans g.fr) ⟨R1.gr g,.bl _⟩⟩
  .exact q1.elim
end
structure xT where
 nx:PSt->Prop
 rt:PV->PSt->Prop
 bk:PSt->Prop:=λ_=>False
 ct:PSt->Prop:=λ_=>False
abbrev PTS:=xT->PSt->Prop
structure cg (fx:List (Nat×V)) (R:Addr->Prop) (H0:Hp) (ρ:PSt) (σ:St) (H:Hp):Prop where
 kp:∀b o,¬ R b->H0 b=some o->H b=some o
 dm:∀b,H0 b≠none->H b≠none
 ow:∀b,Wr ρ σ b->R b\/H0 b=none
 fx:∀p∈fx,σ[p.1]?=some (some p.2)
section
variable {K:b_}{fx:List (Nat×V)}{A R:Addr->Prop}{H0 H H':Hp}{ρ ρ':PSt}{σ:St}
def cg.fr(F:cg fx R H0 ρ σ H)(f:Fr ρ σ H ρ' H'):cg fx R H0 ρ' σ H' :=
 ⟨λb o n e=>f.kp b o (λw=>(F.ow b w).elim n (λz=>by rw [z] at e;cases e)) (F.kp b o n e),λb z=>f.dm b (F.dm b z),λb w=>F.ow b (f.ow b w),F.fx⟩
def cg.start(hfx:∀p∈fx,σ[p.1]?=some (some p.2)):cg fx (Wr ρ σ) H ρ σ H:=⟨λ_ _ _ h=>h,λ_ h=>h,λ_ h=>.inl h,hfx⟩
def cg.keepsR{ρ1:PSt}{σ1:St}{H1:Hp}(F:cg fx R H1 ρ σ H)(hR:∀b,R b->OO A ρ1 σ1 b):aF (OO A ρ1 σ1) H1 (OO A ρ σ) H:=λb o n e=>by
 refine⟨λz=>?_,F.kp b o (λz=>n (hR b z)) e⟩
 rcases z with z|z
 .exact n (.inl z)
 .rcases F.ow b z with z|z
  .exact n (hR b z)
  .rw [z] at e;cases e
def cg.keeps{ρ1:PSt}{σ1:St}{H1:Hp}(F:cg fx (Wr ρ1 σ1) H1 ρ σ H):aF (OO A ρ1 σ1) H1 (OO A ρ σ) H:=F.keepsR λb z=>.inr z
def cg.trans{fx':List (Nat×V)}{ρ1:PSt}{σ1:St}{H1:Hp}(F:cg fx R H0 ρ1 σ1 H1)(G:cg fx' (Wr ρ1 σ1) H1 ρ σ H)(hfx:∀p∈fx,σ[p.1]?=some (some p.2)):cg fx R H0 ρ σ H:=by
 refine⟨λb o n e=>G.kp b o (λw=>(F.ow b w).elim n (λz=>by rw [z] at e;cases e)) (F.kp b o n e),λb z=>G.dm b (F.dm b z),λb w=>?_,hfx⟩
 rcases G.ow b w with z|z
 .exact F.ow b z
 .refine .inr ?_
  cases e:H0 b with
  | none=>rfl
  | some o=>exact absurd z (F.dm b (by rw [e];exact nofun))
def Out.put{p:PV}{v:V}{i:Nat}(h:Out K A ρ σ H0 H p v):Rel K A (ρ.set i (some p)) (σ.set i (some v)) H/\∀b,Wr (ρ.set i (some p)) (σ.set i (some v)) b->Wr ρ σ b\/H0 b=none:=by
 have get:∀(j:Nat) (q:PV),(ρ.set i (some p))[j]?=some (some q)->(j=i/\q=p/\i<ρ.length)\/(j≠i/\ρ[j]?=some (some q)):=λj q e=>by
  by_cases z:i=j
  .subst z
   by_cases hi:i<ρ.length
   .rw [m_ hi] at e;cases e;exact .inl ⟨rfl,rfl,hi⟩
   .rw [G_ (by rw [Hn];omega)] at e;cases e
  .rw [g_ z] at e;exact .inr ⟨λq=>z q.symm,e⟩
 cases p with
 | dat d =>
  obtain⟨R1,f⟩:=h
  have ow:∀b,Wr (ρ.set i (some (.dat d))) (σ.set i (some v)) b->Wr ρ σ b:=λb ⟨j,r,e1,o1,s1⟩=>by
   rcases get j r e1 with ⟨_,rfl,_⟩|⟨n,e⟩
   .cases o1
   .rw [g_ (λz=>n z.symm)] at s1;exact⟨j,r,e,o1,s1⟩
  have k:aF (OO A ρ σ) H (OO A (ρ.set i (some (.dat d))) (σ.set i (some v))) H:=aF.less λb z=>z.imp id (ow b)
  refine⟨⟨by rw [Hn,Hn];exact R1.len,λj r e1=>?_,λj l p1 q1 v' e1 e2 o1 o2 s1 s2=>?_,R1.dom,λb z w=>R1.sep b z (ow b w)⟩,λb w=>.inl (ow b w)⟩
  .rcases get j r e1 with ⟨rfl,rfl,hi⟩|⟨n,e⟩
   .exact⟨v,m_ (by rw [<- R1.len];exact hi),f.keeps k⟩
   .obtain⟨u,s,r'⟩:=R1.get j r e;exact⟨u,by rw [g_ (λz=>n z.symm)];exact s,r'.keeps k λ_ _ _=>rfl⟩
  .rcases get j p1 e1 with ⟨_,rfl,_⟩|⟨n1,e1⟩
   .cases o1
   .rcases get l q1 e2 with ⟨_,rfl,_⟩|⟨n2,e2⟩
    .cases o2
    .rw [g_ (λz=>n1 z.symm)] at s1;rw [g_ (λz=>n2 z.symm)] at s2;exact R1.dj j l p1 q1 v' e1 e2 o1 o2 s1 s2
 | own ds =>
  obtain⟨a,xs,rfl,na,hn,e0,R1,f⟩:=h
  have ow:∀b,Wr (ρ.set i (some (.own ds))) (σ.set i (some (.ref a))) b->Wr ρ σ b\/b=a:=λb ⟨j,r,e1,o1,s1⟩=>by
   rcases get j r e1 with ⟨rfl,rfl,hi⟩|⟨n,e⟩
   .rw [m_ (by rw [<- R1.len];exact hi)] at s1;cases s1;exact .inr rfl
   .rw [g_ (λz=>n z.symm)] at s1;exact .inl ⟨j,r,e,o1,s1⟩
  have k:aF (OO (cJ A a) ρ σ) H (OO A (ρ.set i (some (.own ds))) (σ.set i (some (.ref a)))) H:=aF.less λb z=>by
   rcases z with z|z
   .exact .inl (.inl z)
   .rcases ow b z with z|z
    .exact .inr z
    .exact .inl (.inr z)
  refine⟨⟨by rw [Hn,Hn];exact R1.len,λj r e1=>?_,λj l p1 q1 v' e1 e2 o1 o2 s1 s2=>?_,λb z=>R1.dom b (.inl z),λb z w=>?_⟩,λb w=>(ow b w).imp id λz=>by rw [z];exact hn⟩
  .rcases get j r e1 with ⟨rfl,rfl,hi⟩|⟨n,e⟩
   .exact⟨_,m_ (by rw [<- R1.len];exact hi),a,xs,rfl,e0,f.keeps k⟩
   .obtain⟨u,s,r'⟩:=R1.get j r e;exact⟨u,by rw [g_ (λz=>n z.symm)];exact s,r'.keeps k λ_ _ _=>rfl⟩
  .rcases get j p1 e1 with ⟨rfl,rfl,hi⟩|⟨n1,e1'⟩
   .rw [m_ (by rw [<- R1.len];exact hi)] at s1;cases s1
    rcases get l q1 e2 with ⟨rfl,rfl,_⟩|⟨n2,e2⟩
    .rfl
    .rw [g_ (λz=>n2 z.symm)] at s2;exact absurd ⟨l,q1,e2,o2,s2⟩ (R1.sep a (.inr rfl))
   .rw [g_ (λz=>n1 z.symm)] at s1
    rcases get l q1 e2 with ⟨rfl,rfl,hi⟩|⟨n2,e2⟩
    .rw [m_ (by rw [<- R1.len];exact hi)] at s2;cases s2;exact absurd ⟨j,p1,e1',o1,s1⟩ (R1.sep a (.inr rfl))
    .rw [g_ (λz=>n2 z.symm)] at s2;exact R1.dj j l p1 q1 v' e1' e2 o1 o2 s1 s2
  .rcases ow b w with w|w
   .exact R1.sep b (.inl z) w
   .rw [w] at z;exact na z
 | ins c ns ds =>
  obtain⟨a,dx,fs,rfl,na,hn,e0,m,R1,f⟩:=h
  have ow:∀b,Wr (ρ.set i (some (.ins c ns ds))) (σ.set i (some (.ref a))) b->Wr ρ σ b\/b=a:=λb ⟨j,r,e1,o1,s1⟩=>by
   rcases get j r e1 with ⟨rfl,rfl,hi⟩|⟨n,e⟩
   .rw [m_ (by rw [<- R1.len];exact hi)] at s1;cases s1;exact .inr rfl
   .rw [g_ (λz=>n z.symm)] at s1;exact .inl ⟨j,r,e,o1,s1⟩
  have k:aF (OO (cJ A a) ρ σ) H (OO A (ρ.set i (some (.ins c ns ds))) (σ.set i (some (.ref a)))) H:=aF.less λb z=>by
   rcases z with z|z
   .exact .inl (.inl z)
   .rcases ow b z with z|z
    .exact .inr z
    .exact .inl (.inr z)
  refine⟨⟨by rw [Hn,Hn];exact R1.len,λj r e1=>?_,λj l p1 q1 v' e1 e2 o1 o2 s1 s2=>?_,λb z=>R1.dom b (.inl z),λb z w=>?_⟩,λb w=>(ow b w).imp id λz=>by rw [z];exact hn⟩
  .rcases get j r e1 with ⟨rfl,rfl,hi⟩|⟨n,e⟩
   .exact⟨_,m_ (by rw [<- R1.len];exact hi),a,dx,fs,rfl,e0,m,f.keeps k⟩
   .obtain⟨u,s,r'⟩:=R1.get j r e;exact⟨u,by rw [g_ (λz=>n z.symm)];exact s,r'.keeps k λ_ _ _=>rfl⟩
  .rcases get j p1 e1 with ⟨rfl,rfl,hi⟩|⟨n1,e1'⟩
   .rw [m_ (by rw [<- R1.len];exact hi)] at s1;cases s1
    rcases get l q1 e2 with ⟨rfl,rfl,_⟩|⟨n2,e2⟩
    .rfl
    .rw [g_ (λz=>n2 z.symm)] at s2;exact absurd ⟨l,q1,e2,o2,s2⟩ (R1.sep a (.inr rfl))
   .rw [g_ (λz=>n1 z.symm)] at s1
    rcases get l q1 e2 with ⟨rfl,rfl,hi⟩|⟨n2,e2⟩
    .rw [m_ (by rw [<- R1.len];exact hi)] at s2;cases s2;exact absurd ⟨j,p1,e1',o1,s1⟩ (R1.sep a (.inr rfl))
    .rw [g_ (λz=>n2 z.symm)] at s2;exact R1.dj j l p1 q1 v' e1' e2 o1 o2 s1 s2
  .rcases ow b w with w|w
   .exact R1.sep b (.inl z) w
   .rw [w] at z;exact na z
 | odc ks ds =>
  obtain⟨a,kvs,rfl,na,hn,e0,m,R1,f⟩:=h
  have ow:∀b,Wr (ρ.set i (some (.odc ks ds))) (σ.set i (some (.ref a))) b->Wr ρ σ b\/b=a:=λb ⟨j,r,e1,o1,s1⟩=>by
   rcases get j r e1 with ⟨rfl,rfl,hi⟩|⟨n,e⟩
   .rw [m_ (by rw [<- R1.len];exact hi)] at s1;cases s1;exact .inr rfl
   .rw [g_ (λz=>n z.symm)] at s1;exact .inl ⟨j,r,e,o1,s1⟩
  have k:aF (OO (cJ A a) ρ σ) H (OO A (ρ.set i (some (.odc ks ds))) (σ.set i (some (.ref a)))) H:=aF.less λb z=>by
   rcases z with z|z
   .exact .inl (.inl z)
   .rcases ow b z with z|z
    .exact .inr z
    .exact .inl (.inr z)
  refine⟨⟨by rw [Hn,Hn];exact R1.len,λj r e1=>?_,λj l p1 q1 v' e1 e2 o1 o2 s1 s2=>?_,λb z=>R1.dom b (.inl z),λb z w=>?_⟩,λb w=>(ow b w).imp id λz=>by rw [z];exact hn⟩
  .rcases get j r e1 with ⟨rfl,rfl,hi⟩|⟨n,e⟩
   .exact⟨_,m_ (by rw [<- R1.len];exact hi),a,kvs,rfl,e0,m,f.keeps k⟩
   .obtain⟨u,s,r'⟩:=R1.get j r e;exact⟨u,by rw [g_ (λz=>n z.symm)];exact s,r'.keeps k λ_ _ _=>rfl⟩
  .rcases get j p1 e1 with ⟨rfl,rfl,hi⟩|⟨n1,e1'⟩
   .rw [m_ (by rw [<- R1.len];exact hi)] at s1;cases s1
    rcases get l q1 e2 with ⟨rfl,rfl,_⟩|⟨n2,e2⟩
    .rfl
    .rw [g_ (λz=>n2 z.symm)] at s2;exact absurd ⟨l,q1,e2,o2,s2⟩ (R1.sep a (.inr rfl))
   .rw [g_ (λz=>n1 z.symm)] at s1
    rcases get l q1 e2 with ⟨rfl,rfl,hi⟩|⟨n2,e2⟩
    .rw [m_ (by rw [<- R1.len];exact hi)] at s2;cases s2;exact absurd ⟨j,p1,e1',o1,s1⟩ (R1.sep a (.inr rfl))
    .rw [g_ (λz=>n2 z.symm)] at s2;exact R1.dj j l p1 q1 v' e1' e2 o1 o2 s1 s2
  .rcases ow b w with w|w
   .exact R1.sep b (.inl z) w
   .rw [w] at z;exact na z
end
abbrev PTG:=PV->PSt->(PSt->Prop)->Prop
abbrev xU:=List D->PSt->(PSt->Prop)->Prop
noncomputable def LG(K:b_)(fs:List Nat)(g:TG)(pg:PTG):Prop:=∀(fx:List (Nat×V)) (A R:Addr->Prop) (H0:Hp) (ρ:PSt) (σ:St) (H:Hp) (p:PV) (v:V) (Q:PSt->Prop) (Q':St->Hp->Prop),fx.map Hh=fs->cg fx R H0 ρ σ H->Out K A ρ σ H0 H p v->pg p ρ Q ->
 (∀ρ' σ' H',Q ρ'->Rel K A ρ' σ' H'->cg fx R H0 ρ' σ' H'->Q' σ' H')->g v σ H Q'
noncomputable def LGs(K:b_)(fs:List Nat)(g:TGs)(pg:xU):Prop:=∀(fx:List (Nat×V)) (A R:Addr->Prop) (H0:Hp) (ρ:PSt) (σ:St) (H:Hp) (ds:List D) (vs:List V) (Q:PSt->Prop) (Q':St->Hp->Prop),fx.map Hh=fs->cg fx R H0 ρ σ H->Rel K A ρ σ H->FVs K (OO A ρ σ) H vs ds->pg ds ρ Q ->
 (∀ρ' σ',Q ρ'->Rel K A ρ' σ' H->cg fx R H0 ρ' σ' H->(∀b,Wr ρ' σ' b->Wr ρ σ b)->Q' σ' H)->g vs σ H Q'
noncomputable def LGd(K:b_)(fs:List Nat)(g:TG)(pg:PTG):Prop:=∀(fx:List (Nat×V)) (A R:Addr->Prop) (H0:Hp) (ρ:PSt) (σ:St) (H:Hp) (d:D) (v:V) (Q:PSt->Prop) (Q':St->Hp->Prop),fx.map Hh=fs->cg fx R H0 ρ σ H->Rel K A ρ σ H->FV K (OO A ρ σ) H v d->pg (.dat d) ρ Q ->
 (∀ρ' σ',Q ρ'->Rel K A ρ' σ' H->cg fx R H0 ρ' σ' H->(∀b,Wr ρ' σ' b->Wr ρ σ b)->Q' σ' H)->g v σ H Q'
noncomputable def jS(i:Nat):PTG:=λp ρ Q=>Q (ρ.set i (some p))
noncomputable def Co:xU:=λds ρ Q=>match ds with|[]=>Q ρ|_=>False
noncomputable def yJ(g:PTG)(gs:xU):xU:=λds ρ Q=>match ds with|d::r=>g (.dat d) ρ λρ1=>gs r ρ1 Q|[]=>False
section
variable {K:b_}{fs:List Nat}
def cg.put{fx:List (Nat×V)}{R:Addr->Prop}{H0 H:Hp}{ρ:PSt}{σ:St}{i:Nat}{p:PV}{v:V}(hf:fx.map Hh=fs)(hi:fs.contains i=false)(F:cg fx R H0 ρ σ H)(ow:∀b,Wr (ρ.set i (some p)) (σ.set i (some v)) b->Wr ρ σ b\/H0 b=none):cg fx R H0 (ρ.set i (some p)) (σ.set i (some v)) H :=
 ⟨F.kp,F.dm,λb w=>(ow b w).elim (F.ow b) .inr,λq hq=>by
  have:q.1≠i:=λz=>by
   have h1:i∈fs:=by rw [<- hf,<- z];exact JK hq
   rw [Hd.mpr h1] at hi;cases hi
  rw [g_ (λz=>this z.symm)];exact F.fx q hq⟩
def aK{i:Nat}(hi:fs.contains i=false):LG K fs (cC i) (jS i):=λfx A R H0 ρ σ H p v Q Q' hf F o q k=>k _ _ _ q o.put.1 (F.put hf hi o.put.2)
def fk:LGs K fs Eg Co:=λfx A R H0 ρ σ H ds vs Q Q' hf F r fv q k=>by
 unfold Co at q
 split at q
 .cases fv;exact⟨rfl,k _ _ q r F λ_ h=>h⟩
 .exact q.elim
def au{i:Nat}(hi:fs.contains i=false):LGd K fs (cC i) (jS i):=λfx A R H0 ρ σ H d v Q Q' hf F r fv q k=>by
 have o:Out K A ρ σ H0 H (.dat d) v:=⟨r,fv⟩
 have ow:∀b,Wr (ρ.set i (some (.dat d))) (σ.set i (some v)) b->Wr ρ σ b:=λb ⟨j,p,e1,o1,s1⟩=>by
  by_cases z:i=j
  .subst z
   by_cases hl:i<ρ.length
   .rw [m_ hl] at e1;cases e1;cases o1
   .rw [G_ (by rw [Hn];omega)] at e1;cases e1
  .rw [g_ z] at e1 s1;exact⟨j,p,e1,o1,s1⟩
 exact k _ _ q o.put.1 (F.put hf hi o.put.2) ow
def bq{g:TG}{pg:PTG}{gs:TGs}{pgs:xU}(hg:LGd K fs g pg)(h:LGs K fs gs pgs):LGs K fs (xk g gs) (yJ pg pgs):=λfx A R H0 ρ σ H ds vs Q Q' hf F r fv q k=>by
 unfold yJ at q
 split at q
 .cases fv with
  | cons a b =>
   exact⟨_,_,rfl,hg fx A R H0 ρ σ H _ _ _ _ hf F r a q λρ1 σ1 q1 r1 F1 w1=>h fx A R H0 ρ1 σ1 H _ _ _ _ hf F1 r1 (b.keeps (aF.less λb z=>z.imp id (w1 b))) q1 λρ2 σ2 q2 r2 F2 w2=>k ρ2 σ2 q2 r2 F2 λb z=>w1 b (w2 b z)⟩
 .exact q.elim
end
noncomputable def LS(K:b_)(fs:List Nat)(ts:TS)(ps:PTS):Prop:=∀(fx:List (Nat×V)) (A R:Addr->Prop) (H0:Hp) (ρ:PSt) (σ:St) (H:Hp) (D:xT) (D':ur),fx.map Hh=fs->Rel K A ρ σ H->cg fx R H0 ρ σ H->ps D ρ ->
 (∀ρ' σ' H',D.nx ρ'->Rel K A ρ' σ' H'->cg fx R H0 ρ' σ' H'->D'.nx σ' H') ->
 (∀v p ρ' σ' H',D.rt p ρ'->Out K A ρ' σ' H0 H' p v->cg fx R H0 ρ' σ' H'->D'.rt v H') ->
 (∀ρ' σ' H',D.bk ρ'->Rel K A ρ' σ' H'->cg fx R H0 ρ' σ' H'->D'.bk σ' H') ->
 (∀ρ' σ' H',D.ct ρ'->Rel K A ρ' σ' H'->cg fx R H0 ρ' σ' H'->D'.ct σ' H')->ts D' σ H
def yK:PTS:=λD ρ=>D.nx ρ
noncomputable def kK(a b:PTS):PTS:=λD ρ=>a { D with nx:=b D } ρ
noncomputable def yL(pe:PTE):PTS:=λD ρ=>pe ρ λ_ ρ1=>D.nx ρ1
def xV(pe:PTE):PTS:=λD ρ=>pe ρ D.rt
noncomputable def EY(t:PTT)(a b:PTS):PTS:=λD ρ=>t ρ λc ρ1=>iG c (a D ρ1) (b D ρ1)
def Ad:PTS:=λ_ _=>False
noncomputable def Cq(pe:PTE)(g:PTG):PTS:=λD ρ=>pe ρ λp ρ1=>g p ρ1 D.nx
noncomputable def Cr(a:PTS):PTS:=λD ρ=>∃J:PSt->Prop,a { D with nx:=J } ρ/\∀ρ',J ρ'->D.nx ρ'
section
variable {K:b_}{fs:List Nat}{ta tb:TS}{pa pb:PTS}{te:TE}{pe:PTE}{tt:TT}{pt:PTT}
def bd:LS K fs zj yK:=λfx A R H0 ρ σ H D D' hf r F q k1 k2 k3 k4=>k1 _ _ _ q r F
def iO:LS K fs uw Ad:=λfx A R H0 ρ σ H D D' hf r F q k1 k2 k3 k4=>q
def aA(ha:LS K fs ta pa)(hb:LS K fs tb pb):LS K fs (uu ta tb) (kK pa pb):=λfx A R H0 ρ σ H D D' hf r F q k1 k2 k3 k4 =>
 ha fx A R H0 ρ σ H _ _ hf r F q (λρ1 σ1 H1 q1 r1 F1=>hb fx A R H0 ρ1 σ1 H1 _ _ hf r1 F1 q1 k1 k2 k3 k4) k2 k3 k4
def dG(h:LE K te pe):LS K fs (zk te) (yL pe):=λfx A R H0 ρ σ H D D' hf r F q k1 k2 k3 k4=>h A ρ σ H _ _ r q λv H1 p ρ1 q1 f1 o1=>k1 _ _ _ q1 o1.frz.1 (F.fr f1)
def aO(h:LE K te pe):LS K fs (FO te) (xV pe):=λfx A R H0 ρ σ H D D' hf r F q k1 k2 k3 k4=>h A ρ σ H _ _ r q λv H1 p ρ1 q1 f1 o1=>k2 v p ρ1 σ H1 q1 (o1.h0 F.dm) (F.fr f1)
def cF(ht:LT K tt pt)(ha:LS K fs ta pa)(hb:LS K fs tb pb):LS K fs (Ee tt ta tb) (EY pt pa pb):=λfx A R H0 ρ σ H D D' hf r F q k1 k2 k3 k4=>ht A ρ σ H _ _ r q λc H1 ρ1 q1 f1 r1=>by
 cases c with
 | true=>exact ha fx A R H0 ρ1 σ H1 D D' hf r1 (F.fr f1) q1 k1 k2 k3 k4
 | false=>exact hb fx A R H0 ρ1 σ H1 D D' hf r1 (F.fr f1) q1 k1 k2 k3 k4
def aR{g:TG}{pg:PTG}(h:LE K te pe)(hg:LG K fs g pg):LS K fs (xl te g) (Cq pe pg):=λfx A R H0 ρ σ H D D' hf r F q k1 k2 k3 k4=>h A ρ σ H _ _ r q λv H1 p ρ1 q1 f1 o1 =>
 hg fx A R H0 ρ1 σ H1 p v _ _ hf (F.fr f1) (o1.h0 F.dm) q1 k1
def nM(h:LS K fs ta pa):LS K fs (B3 ta) (Cr pa):=λfx A R H0 ρ σ H D D' hf r F q k1 k2 k3 k4=>by
 obtain⟨J,q1,q2⟩:=q;refine⟨λσ' H'=>∃ρ',J ρ'/\Rel K A ρ' σ' H'/\cg fx R H0 ρ' σ' H',?_,λσ' H' ⟨ρ',j,r',F'⟩=>k1 ρ' σ' H' (q2 ρ' j) r' F'⟩;exact h fx A R H0 ρ σ H _ _ hf r F q1 (λρ' σ' H' j r' F'=>⟨ρ',j,r',F'⟩) k2 k3 k4
end
noncomputable def lI(K:b_)(tl:TE):TI:=λσ H R=>tl σ H λx H1=>(∃k a xs,x=.ref a/\Sq k K H1 a xs/\R (Itk k K a) H1)\/∃l,x=.str (S l)/\R (Its (f7 l)) H1
section
variable {X:Cx}{tg:Expr}
def Ae{l:Expr}{tl:TE}(hl:PE X l tl):PI X tg l (lI X.K tl):=by
 intro pins s σ H R I h;refine thn (hl pins s σ H _ I h) λv s1 ⟨x,H1,I1,r1,q1⟩=>?_
 have fin:∀b∈[s1.heap.objs.size],qq X pins H1 b:=λb hb=>by
  have e:b=s1.heap.objs.size:=by simpa using hb
  subst e;exact I1.fpOk (so _) (I1.hok.fresh (so _))
 rcases q1 with ⟨k,a,xs,e,hq,q⟩|⟨l,e,q⟩
 .subst e;cases r1
  cases k with
  | false =>
   obtain⟨its,rv,p,hz⟩:=I1.list hq;refine Jc p.isList ?_;exact⟨s1.heap.objs.size,[s1.heap.objs.size],_,_,H1,rfl,I1.kept (t':=s1.toks) λb o e=>c_ _ e,uA a _,⟨_,h_ _ rfl,rfl,rfl⟩,fin,q⟩
  | true =>
   obtain⟨its,rv,p,hz⟩:=I1.tuple hq;refine Ky (show s1.heap.IsTuple a its.toArray from p) ?_;exact⟨s1.heap.objs.size,[s1.heap.objs.size],_,_,H1,rfl,I1.kept (t':=s1.toks) λb o e=>c_ _ e,sN a _,⟨_,h_ _ rfl,rfl,rfl⟩,fin,q⟩
 .subst e;obtain⟨t,rfl⟩:=r1
  have hv:∀i v,i<(S l).cps.size->SignAt (S l) i v->∃x,(f7 l)[i]?=some x/\c4 x v:=λi v _ ⟨c,u,hc,e⟩=>by
   subst e;have hc':l[i]?=some c:=by simpa [S] using hc
   exact⟨.str (S [c]),by unfold f7;rw [q_,hc'];rfl,u,rfl⟩
  have hsc:∀i v,SignAt (S l) i v->∀a,v≠.ref a:=λi v ⟨c,u,hc,e⟩ a z=>by subst e;cases z
  have hn:(f7 l).length=(S l).cps.size:=by rw [ji];simp [S]
  have hobj:∀ty i (h:Heap),h.IsStrIter s1.heap.objs.size ty (S l) t i->∃o,h.get? s1.heap.objs.size=some o/\∀v,o.data≠.cell v:=λty i h ⟨o,ho,_,hd⟩=>⟨o,ho,λv z=>by rw [hd] at z;cases z⟩
  have hfr:∀ty i (h h':Heap),h.IsStrIter s1.heap.objs.size ty (S l) t i->(∀b∈[s1.heap.objs.size],∀o,h.get? b=some o->h'.get? b=some o)->h'.IsStrIter s1.heap.objs.size ty (S l) t i:=λty i h h' ⟨o,ho,r⟩ k=>⟨o,k _ (by simp) o ho,r⟩
  cases ha:(S l).cps.all (·<128)
  .refine wpAny_pyIter_wide ha ⟨s1.heap.objs.size,[s1.heap.objs.size],_,Its (f7 l),H1,rfl,I1.kept (t':=s1.toks) λb o e=>c_ _ e,
    ky (λA hA=>Walks.strWide hA _ (S l) t) hn hv hsc (hobj _) (hfr _) (λA i s Q E st q=>wpAny_pyIter_striter_wide st q),⟨_,h_ _ rfl,rfl,rfl⟩,fin,q⟩
  .refine wpAny_pyIter_ascii ha ⟨s1.heap.objs.size,[s1.heap.objs.size],_,Its (f7 l),H1,rfl,I1.kept (t':=s1.toks) λb o e=>c_ _ e,
    ky (λA hA=>Walks.strAscii hA _ (S l) t) hn hv hsc (hobj _) (hfr _) (λA i s Q E st q=>wpAny_pyIter_striter_ascii st q),⟨_,h_ _ rfl,rfl,rfl⟩,fin,q⟩
def ck(K:b_)(e:X.K=K){l:Expr}{tl:TE}(hl:PE X l tl):PI X tg l (lI K tl):=by subst e;exact Ae hl
end
abbrev PTI:=PSt->(Nat->(Nat->D)->PSt->Prop)->Prop
noncomputable def Wlk(K:b_)(O:Addr->Prop)(H:Hp)(J:It)(n:Nat)(it:Nat->D):Prop:=∀(O':Addr->Prop) (H':Hp),aF O H O' H'->(∀b,O' b->H' b≠none) ->
 (∀k,k<n->J.go k H'/\∀x H'',J.yld k H' x H''->Gr H' H''/\FV K O' H'' x (it k))/\J.stop n H'
noncomputable def LI(K:b_)(wi:TI)(pi:PTI):Prop:=∀(A:Addr->Prop) (ρ:PSt) (σ:St) (H:Hp) (Q:Nat->(Nat->D)->PSt->Prop) (Q':It->Hp->Prop),Rel K A ρ σ H->pi ρ Q ->
 (∀J H' n it ρ',Q n it ρ'->Fr ρ σ H ρ' H'->Rel K A ρ' σ H'->Wlk K (OO A ρ' σ) H' J n it->Q' J H')->wi σ H Q'
noncomputable def itD(ds:List D)(k:Nat):D:=ds.getD k .non
def vA{ds:List D}{k:Nat}(h:k<ds.length):ds[k]?=some (itD ds k):=by unfold itD;rw [o_,gV h];rfl
def fS{ds:List D}{k:Nat}{d:D}(h:ds[k]?=some d):itD ds k=d:=by unfold itD;rw [o_,h];rfl
noncomputable def Gi:D->Option (Nat×(Nat->D))
 | .lst ds=>some (ds.length,itD ds)
 | .tup ds=>some (ds.length,itD ds)
 | .scr ns=>some (ns.length,λk=>.int (ns.getD k 0))
 | .str l=>some (l.length,λk=>.str [l.getD k 0])
 | _=>none
noncomputable def tK(pe:PTE):PTI:=λρ Q=>pe ρ λp ρ1=>match Gi p.d with
 | some (n,it)=>Q n it ρ1
 | none=>False
section
variable {K:b_}{te:TE}{pe:PTE}{ta:TA}{pa:PTA}
def FV.row{O:Addr->Prop}{H:Hp}{v:V}{d:D}{n:Nat}{it:Nat->D}(h:FV K O H v d)(e:Gi d=some (n,it)) :
  (∃k a xs,v=.ref a/\xs.length=n/\(∀O' H',aF O H O' H'->Sq k K H' a xs/\∀j x,xs[j]?=some x->FV K O' H' x (it j)))\/∃l,v=.str (S l)/\l.length=n/\(∀k,it k=.str [l.getD k 0]):=by
 cases h with
 | lst nn e0 f =>
  cases e;refine .inl ⟨false,_,_,rfl,f.length,λO' H' k=>⟨SqL.of (k _ _ nn e0).2,λj x hx=>?_⟩⟩;obtain⟨d,hd,fd⟩:=f.get hx;rw [fS hd];exact fd.keeps k
 | tup nn e0 f =>
  cases e;refine .inl ⟨true,_,_,rfl,f.length,λO' H' k=>⟨SqT.of (k _ _ nn e0).2,λj x hx=>?_⟩⟩;obtain⟨d,hd,fd⟩:=f.get hx;rw [fS hd];exact fd.keeps k
 | scr s =>
  cases e;refine .inl ⟨false,_,_,rfl,length_map _,λO' H' k=>⟨(s.keeps k).sq,λj x hx=>?_⟩⟩;obtain⟨z,hz,rfl⟩:=xC hx;show FV K O' H' (V.int z) (D.int (List.getD _ j 0));rw [o_,hz];exact .int z
 | str l hl=>cases e;exact .inr ⟨l,rfl,rfl,λ_=>rfl⟩
 | non=>cases e
 | bl b=>cases e
 | int i=>cases e
 | ty n=>cases e
 | dic _ _ _ _=>cases e
 | obj _ _ _ _=>cases e
 | exc0 _ _=>cases e
 | exc1 _ _ _ _ _ _=>cases e
def cq(h:LE K te pe):LI K (lI K te) (tK pe):=λA ρ σ H Q Q' R q k=>h A ρ σ H _ _ R q λv H1 p ρ1 q1 f1 o1=>by
 obtain⟨R1,fv⟩:=o1.frz
 split at q1
 .rename_i n it e
  rcases fv.row e with ⟨b,a,xs,rfl,hl,hr⟩|⟨l,rfl,hl,hi⟩
  .refine .inl ⟨b,a,xs,rfl,(hr _ H1 (λb o n h=>⟨n,h⟩)).1,k _ H1 n it ρ1 q1 f1 R1 λO' H' kk dom=>?_⟩;obtain⟨sq,hx⟩:=hr O' H' kk
   cases b with
   | false =>
    refine⟨λj hj=>⟨⟨xs,_,sq,gV (by rw [hl];exact hj)⟩,λx H'' ⟨e,y⟩=>?_⟩,⟨xs,sq,by rw [hl];exact so _⟩⟩;subst e;exact⟨Gr.refl _,hx j x (y xs sq)⟩
   | true =>
    refine⟨λj hj=>⟨⟨xs,_,sq,gV (by rw [hl];exact hj)⟩,λx H'' ⟨e,y⟩=>?_⟩,⟨xs,sq,by rw [hl];exact so _⟩⟩;subst e;exact⟨Gr.refl _,hx j x (y xs sq)⟩
  .refine .inr ⟨l,rfl,k _ H1 n it ρ1 q1 f1 R1 λO' H' kk dom=>?_⟩;refine⟨λj hj=>⟨by show j<(f7 l).length;rw [ji,hl];exact hj,λx H'' ⟨e,y⟩=>?_⟩,by show (f7 l).length=n;rw [ji,hl]⟩;subst e;obtain⟨c,hc,rfl⟩:=tz y;rw [hi,o_,hc];exact⟨Gr.refl _,.str _ (by show 1<=1000000;decide)⟩
 .exact q1.elim
noncomputable def GU(pa:PTA):PTI:=λρ Q=>pa ρ λas ρ1=>match as with
 | [.v (.int j)]=>(-(2^60)<=j/\j<2^60)/\Q j.toNat (λk=>.int (k:Int)) ρ1
 | _=>False
noncomputable def GV(pa:PTA):PTI:=λρ Q=>pa ρ λas ρ1=>match as with
 | [.v (.int i),.v (.int j),.v (.int (-1))]=>(-(2^60)<=i/\i<2^60/\-(2^60)<=j/\j<2^60)/\Q (i - j).toNat (λk=>.int (i - (k:Int))) ρ1
 | _=>False
def EZ{O:Addr->Prop}{H:Hp}{lo:Int}{n:Nat}{it:Nat->D}(h:∀k:Nat,it k=.int (lo+k)):Wlk K O H (Itr lo n) n it:=λO' H' _ _ =>
 ⟨λj hj=>⟨hj,λx H'' ⟨e,y⟩=>by subst e y;rw [h];exact⟨Gr.refl _,.int _⟩⟩,so _⟩
def E2{O:Addr->Prop}{H:Hp}{lo:Int}{n:Nat}:Wlk K O H (Its (nE lo n)) n (λk=>.int (lo - (k:Int))):=λO' H' _ _ =>
 ⟨λj hj=>⟨by show j<(nE lo n).length;rw [kz];exact hj,λx H'' ⟨e,y⟩=>by subst e;rw [(u4 y).2];exact⟨Gr.refl _,.int _⟩⟩,kz _ _⟩
def kL(h:LAs K ta pa):LI K (uB ta) (GU pa):=λA ρ σ H Q Q' R q k=>h A ρ σ H _ _ R q λvs H1 as ρ1 q1 f1 R1 o1=>by
 split at q1
 .rename_i j
  cases o1 with
  | cons a b =>
   cases b;cases a;exact⟨j,rfl,by omega,by omega,k _ H1 _ _ ρ1 q1.2 f1 R1 (EZ λk=>by rw [Int.zero_add])⟩
 .exact q1.elim
def Cs(h:LAs K ta pa):LI K (BR ta) (GV pa):=λA ρ σ H Q Q' R q k=>h A ρ σ H _ _ R q λvs H1 as ρ1 q1 f1 R1 o1=>by
 split at q1
 .rename_i i j
  cases o1 with
  | cons a b =>
   cases b with
   | cons c d =>
    cases d with
    | cons e f =>
     cases f;cases a;cases c;cases e;exact⟨i,j,rfl,q1.1,k _ H1 _ _ ρ1 q1.2 f1 R1 E2⟩
 .exact q1.elim
noncomputable def rowD:D->Option (List D)
 | .lst ds=>some ds
 | .tup ds=>some ds
 | .scr ns=>some (ns.map .int)
 | _=>none
def FV.rowD{O:Addr->Prop}{H:Hp}{v:V}{d:D}{ds:List D}(h:FV K O H v d)(e:L2.rowD d=some ds) :
  ∃k a xs,v=.ref a/\xs.length=ds.length/\(∀O' H',aF O H O' H'->Sq k K H' a xs/\FVs K O' H' xs ds):=by
 cases h with
 | lst nn e0 f=>cases e;exact⟨false,_,_,rfl,f.length,λO' H' k=>⟨SqL.of (k _ _ nn e0).2,f.keeps k⟩⟩
 | tup nn e0 f=>cases e;exact⟨true,_,_,rfl,f.length,λO' H' k=>⟨SqT.of (k _ _ nn e0).2,f.keeps k⟩⟩
 | scr s=>cases e;exact⟨false,_,_,rfl,by rw [length_map,length_map],λO' H' k=>⟨(s.keeps k).sq,FVs.of_ints _⟩⟩
 | str l hl=>cases e
 | non=>cases e
 | bl b=>cases e
 | int i=>cases e
 | ty n=>cases e
 | dic _ _ _ _=>cases e
 | obj _ _ _ _=>cases e
 | exc0 _ _=>cases e
 | exc1 _ _ _ _ _ _=>cases e
noncomputable def E3(pa:PTA):PTI:=λρ Q=>pa ρ λas ρ1=>match as with
 | [.v a,.v b]=>(match rowD a,rowD b with
  | some xs,some ys=>Q (min xs.length ys.length) (λk=>.tup [itD xs k,itD ys k]) ρ1
  | _,_=>False)
 | _=>False
noncomputable def Ct(pa:PTA):PTI:=λρ Q=>pa ρ λas ρ1=>match as with
 | [.v a]=>(match rowD a with
  | some xs=>Q xs.length (λk=>.tup [.int (k:Int),itD xs k]) ρ1
  | _=>False)
 | _=>False
def Cu(h:LAs K ta pa):LI K (zT K ta) (E3 pa):=λA ρ σ H Q Q' R q k=>h A ρ σ H _ _ R q λvs H1 as ρ1 q1 f1 R1 o1=>by
 split at q1
 .rename_i da db
  cases o1 with
  | cons o1 o2 =>
   cases o2 with
   | cons o2 o3 =>
    cases o3
    split at q1
    .rename_i xs ys ex ey;obtain⟨b1,a1,us,rfl,l1,w1⟩:=FV.rowD (show FV K _ H1 _ da from o1) ex;obtain⟨b2,a2,ws,rfl,l2,w2⟩:=FV.rowD (show FV K _ H1 _ db from o2) ey;have t1:=w1 _ H1 (λb o n h=>⟨n,h⟩);have t2:=w2 _ H1 (λb o n h=>⟨n,h⟩);refine⟨b1,b2,a1,a2,rfl,⟨us,ws,t1.1,t2.1⟩,k _ H1 _ _ ρ1 q1 f1 R1 λO' H' kk dom=>?_⟩;obtain⟨s1,g1⟩:=w1 O' H' kk;obtain⟨s2,g2⟩:=w2 O' H' kk;refine⟨λj hj=>?_,⟨us,ws,s1,s2,by omega⟩⟩
     have h1:j<us.length:=by omega
     have h2:j<ws.length:=by omega
     refine⟨⟨us,ws,_,_,s1,s2,gV h1,gV h2⟩,λx H'' ⟨T,u,w,hT,e,y1,y2,e2⟩=>?_⟩;subst e e2;obtain⟨d1,hd1,fd1⟩:=g1.get (y1 us s1);obtain⟨d2,hd2,fd2⟩:=g2.get (y2 ws s2);have e1:itD xs j=d1:=by unfold itD;rw [o_,hd1];rfl
     have e2:itD ys j=d2:=by unfold itD;rw [o_,hd2];rfl
     rw [e1,e2];have kk2:aF O' H' O' (upd H' T (.tup [u,w])):=λb o n e=>⟨n,by rw [ar (aH e hT)];exact e⟩
     exact⟨Gr.new hT,.tup (λz=>dom T z hT) aB (.cons (fd1.keeps kk2) (.cons (fd2.keeps kk2) .nil))⟩
    .exact q1.elim
 .exact q1.elim
def Af(h:LAs K ta pa):LI K (zR K ta) (Ct pa):=λA ρ σ H Q Q' R q k=>h A ρ σ H _ _ R q λvs H1 as ρ1 q1 f1 R1 o1=>by
 split at q1
 .rename_i da
  cases o1 with
  | cons o1 o3 =>
   cases o3
   split at q1
   .rename_i xs ex;obtain⟨b1,a1,us,rfl,l1,w1⟩:=FV.rowD (show FV K _ H1 _ da from o1) ex;have t1:=w1 _ H1 (λb o n h=>⟨n,h⟩);refine⟨b1,a1,rfl,⟨us,t1.1⟩,k _ H1 _ _ ρ1 q1 f1 R1 λO' H' kk dom=>?_⟩;obtain⟨s1,g1⟩:=w1 O' H' kk;refine⟨λj hj=>?_,⟨us,s1,by omega⟩⟩;have h1:j<us.length:=by omega
    refine⟨⟨us,_,s1,gV h1⟩,λx H'' ⟨T,u,hT,e,y1,e2⟩=>?_⟩;subst e e2;obtain⟨d1,hd1,fd1⟩:=g1.get (y1 us s1);have e1:itD xs j=d1:=by unfold itD;rw [o_,hd1];rfl
    rw [e1];have kk2:aF O' H' O' (upd H' T (.tup [.int (j:Int),u])):=λb o n e=>⟨n,by rw [ar (aH e hT)];exact e⟩
    exact⟨Gr.new hT,.tup (λz=>dom T z hT) aB (.cons (.int _) (.cons (fd1.keeps kk2) .nil))⟩
   .exact q1.elim
 .exact q1.elim
end
noncomputable def Cv(pi:PTI)(g:PTG)(pb:PTS):PTS:=λD ρ=>pi ρ λn it ρ1=>∃I:Nat->PSt->Prop,I 0 ρ1/\(∀k ρ d,k<n->d=it k->I k ρ->g (.dat d) ρ λρ2=>pb { D with nx:=I (k+1),ct:=I (k+1),bk:=D.nx } ρ2)/\∀ρ,I n ρ->D.nx ρ
noncomputable def Ag(pt:PTT)(pb:PTS):PTS:=λD ρ=>∃I:Nat->PSt->Prop,(∃m,I m ρ)/\∀m ρ,I m ρ->pt ρ λb ρ1=>iG b (pb { D with nx:=λρ'=>∃m',m'<m/\I m' ρ',ct:=λρ'=>∃m',m'<m/\I m' ρ',bk:=D.nx } ρ1) (D.nx ρ1)
section
variable {K:b_}{fs:List Nat}{wi:TI}{pi:PTI}{g:TG}{pg:PTG}{tb:TS}{pb:PTS}{tt:TT}{pt:PTT}
def du(hi:LI K wi pi)(hg:LGd K fs g pg)(hb:LS K fs tb pb):LS K fs (Eh wi g tb) (Cv pi pg pb):=λfx A R H0 ρ σ H D D' hf r F q k1 k2 k3 k4=>hi A ρ σ H _ _ r q λJ H1 n it ρ1 q1 f1 r1 W=>by
 obtain⟨I,i0,turn,after⟩:=q1;have F1:=F.fr f1;refine⟨λi m σ' H'=>i+m=n/\∃ρ',I i ρ'/\Rel K A ρ' σ' H'/\cg fx (Wr ρ1 σ) H1 ρ' σ' H',⟨n,Kk n,ρ1,i0,r1,cg.start F1.fx⟩,λi m σ' H' ⟨him,ρ',iv,r',F'⟩=>?_⟩;obtain⟨go,stop⟩:=W _ H' F'.keeps r'.dom2
 by_cases hk:i<n
 .obtain⟨g1,g2⟩:=go i hk;refine .inr ⟨g1,λσ'' H''=>∃ρ'',I (i+1) ρ''/\Rel K A ρ'' σ'' H''/\cg fx (Wr ρ1 σ) H1 ρ'' σ'' H'',λσ'' H'' z=>⟨m - 1,by omega,by omega,z⟩,λx H'' y=>?_⟩;obtain⟨gr,fv⟩:=g2 x H'' y;refine hg fx A (Wr ρ1 σ) H1 ρ' σ' H'' _ x _ _ hf (F'.fr gr.fr) (r'.gr gr) fv (turn i ρ' _ hk rfl iv) λρ2 σ2 q2 r2 F2 _=>?_;refine hb fx A (Wr ρ1 σ) H1 ρ2 σ2 H'' _ _ hf r2 F2 q2 (λρ3 σ3 H3 q3 r3 F3=>⟨ρ3,q3,r3,F3⟩) (λv p ρ3 σ3 H3 q3 o3 F3=>k2 v p ρ3 σ3 H3 q3 (o3.h0 F1.dm) (F1.trans F3 F3.fx)) (λρ3 σ3 H3 q3 r3 F3=>k1 ρ3 σ3 H3 q3 r3 (F1.trans F3 F3.fx)) (λρ3 σ3 H3 q3 r3 F3=>⟨ρ3,q3,r3,F3⟩)
 .have e:i=n:=by omega
  subst e;exact .inl ⟨stop,k1 ρ' σ' H' (after ρ' iv) r' (F1.trans F' F'.fx)⟩
def sm(ht:LT K tt pt)(hb:LS K fs tb pb):LS K fs (yz tt tb) (Ag pt pb):=λfx A R H0 ρ σ H D D' hf r F q k1 k2 k3 k4=>by
 obtain⟨I,⟨m0,i0⟩,turn⟩:=q;refine⟨λm σ' H'=>∃ρ',I m ρ'/\Rel K A ρ' σ' H'/\cg fx R H0 ρ' σ' H',⟨m0,ρ,i0,r,F⟩,λm σ' H' ⟨ρ',iv,r',F'⟩=>?_⟩;refine ht A ρ' σ' H' _ _ r' (turn m ρ' iv) λb H1 ρ1 q1 f1 r1=>?_
 cases b with
 | true =>
  refine⟨λσ'' H''=>∃ρ'' m',m'<m/\I m' ρ''/\Rel K A ρ'' σ'' H''/\cg fx R H0 ρ'' σ'' H'',λσ'' H'' ⟨ρ'',m',h1,h2⟩=>⟨m',h1,ρ'',h2⟩,?_⟩;exact hb fx A R H0 ρ1 σ' H1 _ _ hf r1 (F'.fr f1) q1 (λρ3 σ3 H3 ⟨m',h1,h2⟩ r3 F3=>⟨ρ3,m',h1,h2,r3,F3⟩) k2 k1 (λρ3 σ3 H3 ⟨m',h1,h2⟩ r3 F3=>⟨ρ3,m',h1,h2,r3,F3⟩)
 | false=>exact k1 ρ1 σ' H1 q1 r1 (F'.fr f1)
end
noncomputable def bO(ix:List (Option Nat))(ρ:PSt):PSt:=ix.map λo=>match o with
 | none=>none
 | some j=>match ρ[j]? with
  | some v=>v
  | none=>none
noncomputable def ei:List (Option Nat)->PSt->PSt->PSt
 | some j::ix,ρ,t::τ=>ei ix (ρ.set j t) τ
 | none::ix,ρ,_::τ=>ei ix ρ τ
 | _,ρ,_=>ρ
noncomputable def yM:List (Option Nat)->Bool
 | []=>true
 | none::r=>yM r
 | some j::r=>!r.contains (some j) && yM r
theorem ka:∀(ix:List (Option Nat)) (ρ τ:PSt),(ei ix ρ τ).length=ρ.length
 | [],ρ,τ=>by unfold ei;rfl
 | some j::ix,ρ,t::τ=>by show (ei ix (ρ.set j t) τ).length=_;rw [ka ix,Hn]
 | none::ix,ρ,t::τ=>by show (ei ix ρ τ).length=_;exact ka ix ρ τ
 | some j::ix,ρ,[]=>by unfold ei;rfl
 | none::ix,ρ,[]=>by unfold ei;rfl
theorem iP:∀(ix:List (Option Nat)) (ρ τ:PSt) (j:Nat),some j∉ix->(ei ix ρ τ)[j]?=ρ[j]?
 | [],ρ,τ,j,_=>by unfold ei;rfl
 | some i::ix,ρ,t::τ,j,h=>by
  show (ei ix (ρ.set i t) τ)[j]?=_;rw [iP ix _ τ j (λz=>h (p_ _ z)),g_ (λz=>h (by rw [z];exact mem_cons_self ..))]
 | none::ix,ρ,t::τ,j,h=>by show (ei ix ρ τ)[j]?=_;exact iP ix ρ τ j λz=>h (p_ _ z)
 | some i::ix,ρ,[],j,_=>by unfold ei;rfl
 | none::ix,ρ,[],j,_=>by unfold ei;rfl
theorem nN:∀(ix:List (Option Nat)) (ρ τ:PSt) (j k:Nat),yM ix=true->ix[k]?=some (some j)->k<τ.length->j<ρ.length->(ei ix ρ τ)[j]?=τ[k]?
 | some i::ix,ρ,t::τ,j,k,h,e,hk,hj=>by
  have h:(!ix.contains (some i) && yM ix)=true:=h;rw [and_eq_true] at h;show (ei ix (ρ.set i t) τ)[j]?=_
  cases k with
  | zero =>
   have e:some (some i)=some (some j):=e;cases e
   have hn:some i∉ix:=λz=>by
    have:=h.1;rw [Hd.mpr z] at this;cases this
   rw [iP ix _ τ i hn,m_ hj];rfl
  | succ k =>
   have e:ix[k]?=some (some j):=by simpa using e
   rw [nN ix _ τ j k h.2 e (by simpa using hk) (by rw [Hn];exact hj)];simp
 | none::ix,ρ,t::τ,j,k,h,e,hk,hj=>by
  show (ei ix ρ τ)[j]?=_
  cases k with
  | zero=>cases e
  | succ k =>
   have e:ix[k]?=some (some j):=by simpa using e
   rw [nN ix _ τ j k h e (by simpa using hk) hj];simp
 | [],ρ,τ,j,k,h,e,hk,hj=>by simp at e
 | some i::ix,ρ,[],j,k,h,e,hk,hj=>absurd hk (KF _)
 | none::ix,ρ,[],j,k,h,e,hk,hj=>absurd hk (KF _)
theorem kc:∀{ix:List (Option Nat)}{k l j:Nat},yM ix=true->ix[k]?=some (some j)->ix[l]?=some (some j)->k=l
 | some i::ix,k,l,j,h,e1,e2=>by
  have h:(!ix.contains (some i) && yM ix)=true:=h;rw [and_eq_true] at h
  have no:∀m,ix[m]?≠some (some i):=λm z=>by
   have:=h.1;rw [Hd.mpr (F_ z)] at this;cases this
  cases k with
  | zero =>
   have e1:some (some i)=some (some j):=e1;cases e1
   cases l with
   | zero=>rfl
   | succ l=>exact absurd (by simpa using e2) (no l)
  | succ k =>
   cases l with
   | zero =>
    have e2:some (some i)=some (some j):=e2;cases e2;exact absurd (by simpa using e1) (no k)
   | succ l=>rw [kc (k:=k) (l:=l) h.2 (by simpa using e1) (by simpa using e2)]
 | none::ix,k,l,j,h,e1,e2=>by
  cases k with
  | zero=>cases e1
  | succ k =>
   cases l with
   | zero=>cases e2
   | succ l=>rw [kc (ix:=ix) (k:=k) (l:=l) (j:=j) h (by simpa using e1) (by simpa using e2)]
 | [],k,l,j,h,e1,e2=>by simp at e1
def cv{ix:List (Option Nat)}{ρ:PSt}{k:Nat}{p:PV}(h:(bO ix ρ)[k]?=some (some p)):∃j,ix[k]?=some (some j)/\ρ[j]?=some (some p):=by
 unfold bO at h;rw [q_] at h
 cases e:ix[k]? with
 | none=>rw [e] at h;cases h
 | some o =>
  rw [e] at h
  cases o with
  | none=>cases h
  | some j =>
   refine⟨j,rfl,?_⟩;have h:some (match ρ[j]? with|some v=>v|none=>none)=some (some p):=h
   cases e2:ρ[j]? with
   | none=>rw [e2] at h;cases h
   | some v=>rw [e2] at h;exact h
def cB{ix:List (Option Nat)}{σ:St}{k j:Nat}{v:V}(h:ix[k]?=some (some j))(e:σ[j]?=some (some v)):(pq ix σ)[k]?=some (some v):=by
 unfold pq;rw [q_,h];show some (match σ[j]? with|some v=>v|none=>none)=some (some v);rw [e]
def Rel.amb{K:b_}{A:Addr->Prop}{ρ:PSt}{σ:St}{H:Hp}{a:Addr}{o:HO}(R:Rel K A ρ σ H)(ha:A a):Rel K A ρ σ (upd H a o):=by
 have k:aF (OO A ρ σ) H (OO A ρ σ) (upd H a o):=λb u n e=>⟨n,by rw [ar (λz=>n (by rw [z];exact .inl ha))];exact e⟩
 refine⟨R.len,λi q e=>?_,R.dj,λb z=>?_,R.sep⟩
 .obtain⟨v,s,r⟩:=R.get i q e;refine⟨v,s,r.keeps k λow b eb=>?_⟩;rw [ar];intro z;subst z eb;exact R.sep b ha ⟨i,q,e,ow,s⟩
 .by_cases z':b=a
  .rw [z',aB];exact nofun
  .rw [ar z'];exact R.dom b z
noncomputable def Cw(ix:List (Option Nat))(ρ:PSt):Bool:=ix.all λo=>match o with|none=>true|some j=>(match ρ[j]? with|some (some _)=>true|_=>false)
structure pL (ix:List (Option Nat)) (ρ1:PSt) (n:Nat) (it:Nat->D) (g:PTG) (pt:PTT) (pe:PTE) (Q:PKt):Prop where
 ex:∃I:Nat->List D->PSt->Prop,I 0 [] (bO ix ρ1) /\
  (∀k ys τ d,k<n->d=it k->I k ys τ->g (.dat d) τ λτ2=>pt τ2 λok τ3=>iG ok (pe τ3 λp τ4=>I (k+1) (ys++[p.d]) τ4) (I (k+1) ys τ3))/\∀ys τ,I n ys τ->Q (.own ys) (ei ix ρ1 τ)
noncomputable def tL(ix:List (Option Nat))(pi:PTI)(g:PTG)(pt:PTT)(pe:PTE):PTE:=λρ Q=>pi ρ λn it ρ1=>Cw ix ρ1=true/\n<=1000000/\pL ix ρ1 n it g pt pe Q
def yN:PTT:=λρ Q=>Q true ρ
def dH{K:b_}:LT K oN yN:=λA ρ σ H Q Q' R q k=>k true H ρ q (Fr.refl _ _ _) R
noncomputable def vB(ix:List (Option Nat)):List Nat:=(i_ ix.length).filter λk=>(ix.getD k none).isSome
def bI{K:b_}{ix:List (Option Nat)}{wi:TI}{pi:PTI}{g:TG}{pg:PTG}{tts:TT}{pt:PTT}{te:TE}{pe:PTE}(hix:yM ix=true)(hi:LI K wi pi)(hg:∀fs:List Nat,(∀k∈fs,k∈vB ix)->LGd K fs g pg)(ht:LT K tts pt)(he:LE K te pe) :
  LE K (vc ix wi g tts te) (tL ix pi pg pt pe):=λA ρ σ H Q Q' R q k=>hi A ρ σ H _ _ R q λJ H1 n it ρ1 q1 f1 R1 W D hD=>by
 obtain⟨hcap,hn,⟨I,i0,turn,after⟩⟩:=q1
 let τρ0:=bO ix ρ1
 let τσ0:=pq ix σ
 let Ai:Addr->Prop:=λb=>A b\/b=D\/(Wr ρ1 σ b/\¬ Wr τρ0 τσ0 b)
 let H0':=upd H1 D (.lst [])
 have wsub:∀b,Wr τρ0 τσ0 b->Wr ρ1 σ b:=λb ⟨m,p,e,o,s⟩=>by
  obtain⟨j,h1,h2⟩:=cv e;obtain⟨v,hv,_⟩:=R1.get j p h2;have:=cB h1 hv;rw [s] at this;cases this;exact⟨j,p,h2,o,hv⟩
 have nD:¬ Wr ρ1 σ D:=λz=>R1.wr z hD
 have oosub:∀b,OO Ai τρ0 τσ0 b->OO A ρ1 σ b\/b=D:=λb z=>by
  rcases z with (z|z|z)|z
  .exact .inl (.inl z)
  .exact .inr z
  .exact .inl (.inr z.1)
  .exact .inl (.inr (wsub b z))
 have kD:aF (OO A ρ1 σ) H1 (OO Ai τρ0 τσ0) H0':=λb o nn e=>by
  refine⟨λz=>?_,?_⟩
  .rcases oosub b z with z|z
   .exact nn z
   .rw [z,hD] at e;cases e
  .rw [show H0' b=H1 b from ar (aH e hD)];exact e
 have Ri:Rel K Ai τρ0 τσ0 H0':=by
  refine⟨by show (bO ix ρ1).length=(pq ix σ).length;unfold bO pq;rw [length_map,length_map],λm p e=>?_,λm l p q v e1 e2 o1 o2 s1 s2=>?_,λb z=>?_,λb z w=>?_⟩
  .obtain⟨j,h1,h2⟩:=cv e;obtain⟨v,hv,r⟩:=R1.get j p h2;refine⟨v,cB h1 hv,r.keeps kD λow a ea=>?_⟩;subst ea;exact ar (λz=>nD (by rw [<- z];exact⟨j,p,h2,ow,hv⟩))
  .obtain⟨j,h1,h2⟩:=cv e1;obtain⟨j',h3,h4⟩:=cv e2;obtain⟨v1,hv1,_⟩:=R1.get j p h2;obtain⟨v2,hv2,_⟩:=R1.get j' q h4;have t1:=cB h1 hv1;have t2:=cB h3 hv2;rw [s1] at t1;rw [s2] at t2;cases t1;cases t2;have:=R1.dj j j' p q _ h2 h4 o1 o2 hv1 hv2;subst this;exact kc hix h1 h3
  .rcases z with z|z|z
   .intro e
    by_cases zz:b=D
    .exact R1.dom b z (by rw [zz];exact hD)
    .rw [show H0' b=H1 b from ar zz] at e;exact R1.dom b z e
   .rw [z];show upd H1 D _ D≠none;rw [aB];exact nofun
   .intro e;rw [show H0' b=H1 b from ar (λzz=>nD (by rw [<- zz];exact z.1))] at e;exact R1.wr z.1 e
  .rcases z with z|z|z
   .exact R1.sep b z (wsub b w)
   .rw [z] at w;exact nD (wsub D w)
   .exact z.2 w
 let fxi:List (Nat×V):=(vB ix).filterMap λm=>match (τσ0[m]?) with|some (some v)=>some (m,v)|_=>none
 have hfx:∀p∈fxi,τσ0[p.1]?=some (some p.2):=λp hp=>by
  obtain⟨m,hm,e⟩:=IH.mp hp
  split at e
  .rename_i v ev;cases e;exact ev
  .cases e
 have hfs:∀m∈fxi.map Hh,m∈vB ix:=λm hm=>by
  obtain⟨p,hp,rfl⟩:=Iz.mp hm;obtain⟨m',hm',e⟩:=IH.mp hp
  split at e
  .cases e;exact hm'
  .cases e
 have hgi:=hg (fxi.map Hh) hfs
 have fxget:∀(m j:Nat) (v:V),ix[m]?=some (some j)->σ[j]?=some (some v)->(m,v)∈fxi:=λm j v h1 h2=>by
  refine IH.mpr ⟨m,?_,?_⟩
  .unfold vB;refine Iq.mpr ⟨Jh.mpr (j_.mp h1).1,?_⟩;rw [o_,h1];rfl
  .show (match (pq ix σ)[m]? with|some (some v)=>some (m,v)|_=>none)=_;rw [cB h1 h2]
 let Rr:Addr->Prop:=λb=>Wr τρ0 τσ0 b\/b=D
 have hRr:∀b,Rr b->OO Ai τρ0 τσ0 b:=λb z=>z.elim (λz=>.inr z) (λz=>.inl (.inr (.inl z)));have F0:cg fxi Rr H0' τρ0 τσ0 H0':=⟨λ_ _ _ h=>h,λ_ h=>h,λb w=>.inl (.inl w),hfx⟩
 refine⟨λi m τ H2=>i+m=n/\∃ys τρ xs,I i ys τρ/\ys.length<=i/\Rel K Ai τρ τ H2/\cg fxi Rr H0' τρ τ H2/\H2 D=some (.lst xs)/\FVs K (OO Ai τρ τ) H2 xs ys/\∀b,Wr τρ τ b->Wr τρ0 τσ0 b,
  ⟨n,Kk n,[],τρ0,[],i0,so _,Ri,F0,aB,.nil,λ_ h=>h⟩,λi m τ H2 ⟨him,ys,τρ,xs,iv,hy,r2,F2,eD,fD,hw⟩=>?_⟩
 have kk:aF (OO A ρ1 σ) H1 (OO Ai τρ τ) H2:=λb o nn e=>(F2.keepsR hRr) b o (kD b o nn e).1 (kD b o nn e).2;obtain⟨go,stop⟩:=W _ H2 kk r2.dom2
 by_cases hk:i<n
 .obtain⟨g1,g2⟩:=go i hk;refine .inr ⟨g1,λx H3 y=>?_⟩;obtain⟨gr,fv⟩:=g2 x H3 y;have AiD:Ai D:=.inr (.inl rfl);refine hgi fxi Ai Rr H0' τρ τ H3 _ x _ _ rfl (F2.fr gr.fr) (r2.gr gr) fv (turn i ys τρ _ hk rfl iv) λτρ2 τ2 q2 r3 F3 w3=>?_;refine ht Ai τρ2 τ2 H3 _ _ r3 q2 λok H5 τρ3 q3 f5 r5=>?_;have F5:=F3.fr f5;have fD5:FVs K (OO Ai τρ3 τ2) H5 xs ys:=((fD.keeps (gr.fr (ρ:=τρ) (σ:=τ)).keeps).keeps (aF.less λb z=>z.imp id (w3 b))).keeps f5.keeps
  have eD5:H5 D=some (.lst xs):=f5.kp D _ (r3.sep D AiD) (gr D _ eD)
  cases ok with
  | true =>
   refine he Ai τρ3 τ2 H5 _ _ r5 q3 λv H6 p τρ4 q4 f6 o6=>?_;obtain⟨r6,fv6⟩:=o6.frz;have F6:=F5.fr f6;have eD6:H6 D=some (.lst xs):=f6.kp D _ (r5.sep D AiD) eD5;have kw:aF (OO Ai τρ4 τ2) H6 (OO Ai τρ4 τ2) (upd H6 D (.lst (xs++[v]))):=λb o nn e=>⟨nn,by rw [ar (λz=>nn (by rw [z];exact .inl AiD))];exact e⟩
   refine⟨xs,eD6,?_,m - 1,by omega,by omega,ys++[p.d],τρ4,xs++[v],q4,by rw [length_append];show _+1<=_;omega,r6.amb AiD,⟨λb o nn e=>?_,λb z=>?_,F6.ow,F6.fx⟩,aB,((fD5.keeps f6.keeps).append (.cons fv6 .nil)).keeps kw,λb z=>hw b (w3 b (f5.ow b (f6.ow b z)))⟩
   .have:xs.length=ys.length:=fD.length;exact tf (by omega:xs.length<1000000) (sz _ (so _))
   .rw [ar (λz=>nn (.inr z))];exact F6.kp b o nn e
   .by_cases zz:b=D
    .rw [zz,aB];exact nofun
    .rw [ar zz];exact F6.dm b z
  | false=>exact⟨m - 1,by omega,by omega,ys,τρ3,xs,q3,by omega,r5,F5,eD5,fD5,λb z=>hw b (w3 b (f5.ow b z))⟩
 .have e:i=n:=by omega
  subst e;refine .inl ⟨stop,?_⟩;have q':=after ys τρ iv
  have cap:∀(m j:Nat),ix[m]?=some (some j)->∃p v,ρ1[j]?=some (some p)/\σ[j]?=some (some v)/\τ[m]?=some (some v):=λm j e=>by
   have h1:=Hj.mp hcap _ (F_ e);have h1:(match ρ1[j]? with|some (some _)=>true|_=>false)=true:=h1
   split at h1
   .rename_i p ep;obtain⟨v,hv,_⟩:=R1.get j p ep;exact⟨p,v,ep,hv,F2.fx _ (fxget m j v e hv)⟩
   .cases h1
  have get':∀(j:Nat) (p:PV),(ei ix ρ1 τρ)[j]?=some (some p)->(∃m v,ix[m]?=some (some j)/\σ[j]?=some (some v)/\τ[m]?=some (some v)/\τρ[m]?=some (some p))\/(some j∉ix/\ρ1[j]?=some (some p)):=λj p e=>by
   by_cases hj:some j∈ix
   .obtain⟨m,hm,em⟩:=Lf hj;have em':ix[m]?=some (some j):=by rw [gV hm,em]
    obtain⟨p0,v,h1,h2,h3⟩:=cap m j em';rw [nN ix ρ1 τρ j m hix em' (by rw [r2.len];exact (j_.mp h3).1) (j_.mp h1).1] at e;exact .inl ⟨m,v,em',h2,h3,e⟩
   .rw [iP ix ρ1 τρ j hj] at e;exact .inr ⟨hj,e⟩
  have nocap:∀(j:Nat) (p:PV) (b:Addr),some j∉ix->ρ1[j]?=some (some p)->p.isOwn=true->σ[j]?=some (some (.ref b))->¬ Wr τρ0 τσ0 b:=λj p b hj e o s ⟨m,q,e1,o1,s1⟩=>by
   obtain⟨j',h1,h2⟩:=cv e1;obtain⟨v,hv,_⟩:=R1.get j' q h2;have:=cB h1 hv;rw [s1] at this;cases this;have:=R1.dj j j' p q _ e h2 o o1 s hv;subst this;exact hj (F_ h1)
  have w':∀b,Wr (ei ix ρ1 τρ) σ b->Wr τρ τ b\/(Wr ρ1 σ b/\¬ Wr τρ0 τσ0 b):=λb ⟨j,p,e,o,s⟩=>by
   rcases get' j p e with ⟨m,v,h1,h2,h3,h4⟩|⟨hj,h1⟩
   .rw [s] at h2;cases h2;exact .inl ⟨m,p,h4,o,h3⟩
   .exact .inr ⟨⟨j,p,h1,o,s⟩,nocap j p b hj h1 o s⟩
  have oo':∀b,OO (cJ A D) (ei ix ρ1 τρ) σ b->OO Ai τρ τ b:=λb z=>by
   rcases z with (z|z)|z
   .exact .inl (.inl z)
   .exact .inl (.inr (.inl z))
   .rcases w' b z with z|z
    .exact .inr z
    .exact .inl (.inr (.inr z))
  have kp1:∀b o,¬ Wr τρ0 τσ0 b->b≠D->H1 b=some o->H2 b=some o:=λb o n1 n2 e=>F2.kp b o (λz=>z.elim n1 n2) (by rw [show H0' b=H1 b from ar n2];exact e);have k1:aF (OO A ρ1 σ) H1 (OO (cJ A D) (ei ix ρ1 τρ) σ) H2:=λb o nn e=>⟨λz=>(kk b o nn e).1 (oo' b z),(kk b o nn e).2⟩
  have AiD:Ai D:=.inr (.inl rfl)
  have R':Rel K (cJ A D) (ei ix ρ1 τρ) σ H2:=by
   refine⟨by rw [ka];exact R1.len,λj p e=>?_,λj l p q v e1 e2 o1 o2 s1 s2=>?_,λb z=>?_,λb z w=>?_⟩
   .rcases get' j p e with ⟨m,v,h1,h2,h3,h4⟩|⟨hj,h1⟩
    .obtain⟨v',hv',r⟩:=r2.get m p h4;rw [h3] at hv';cases hv';exact⟨v,h2,r.keeps (aF.less oo') λ_ _ _=>rfl⟩
    .obtain⟨v,hv,r⟩:=R1.get j p h1;refine⟨v,hv,r.keeps k1 λow a ea=>?_⟩;subst ea;obtain⟨a',u,e1,e2⟩:=r.ref ow;cases e1;rw [e2];exact kp1 a u (nocap j p a hj h1 ow hv) (λz=>by rw [z,hD] at e2;cases e2) e2
   .rcases get' j p e1 with ⟨m,v1,h1,h2,h3,h4⟩|⟨hj,h1⟩
    .rw [s1] at h2;cases h2
     rcases get' l q e2 with ⟨m',v2,g1,g2,g3,g4⟩|⟨hl,g1⟩
     .rw [s2] at g2;cases g2;have:=r2.dj m m' p q _ h4 g4 o1 o2 h3 g3;subst this;rw [h1] at g1;cases g1;rfl
     .exfalso;obtain⟨v',hv',r⟩:=r2.get m p h4;rw [h3] at hv';cases hv';obtain⟨a,u,ea,_⟩:=r.ref o1;subst ea;exact nocap l q a hl g1 o2 s2 (hw a ⟨m,p,h4,o1,h3⟩)
    .rcases get' l q e2 with ⟨m',v2,g1,g2,g3,g4⟩|⟨hl,g1⟩
     .rw [s2] at g2;cases g2;exfalso;obtain⟨v',hv',r⟩:=r2.get m' q g4;rw [g3] at hv';cases hv';obtain⟨a,u,ea,_⟩:=r.ref o2;subst ea;exact nocap j p a hj h1 o1 s1 (hw a ⟨m',q,g4,o2,g3⟩)
     .exact R1.dj j l p q v h1 g1 o1 o2 s1 s2
   .rcases z with z|z
    .exact r2.dom b (.inl z)
    .rw [z,eD];exact nofun
   .rcases w' b w with w|w
    .rcases z with z|z
     .exact r2.sep b (.inl z) w
     .rw [z] at w;exact r2.sep D AiD w
    .rcases z with z|z
     .exact R1.sep b z w.1
     .rw [z] at w;exact nD w.1
  have f2:Fr ρ1 σ H1 (ei ix ρ1 τρ) H2:=by
   refine⟨λb o nn e=>kp1 b o (λz=>nn (wsub b z)) (λz=>by rw [z,hD] at e;cases e) e,λb z=>F2.dm b ?_,λb z=>?_⟩
   .intro e
    by_cases zz:b=D
    .exact z (by rw [zz];exact hD)
    .rw [show H0' b=H1 b from ar zz] at e;exact z e
   .rcases w' b z with z|z
    .exact wsub b (hw b z)
    .exact z.1
  have hD0:H D=none:=by
   cases e:H D with
   | none=>rfl
   | some o=>exact absurd hD (f1.dm D (by rw [e];exact nofun))
  exact k _ H2 (.own ys) _ q' (f1.trans f2) ⟨D,xs,rfl,λz=>R1.dom D z hD,hD0,eD,R',fD.keeps (aF.less oo')⟩
section
variable {K:b_}{A A':Addr->Prop}{ρ:PSt}{σ:St}{H H':Hp}
def Rel.step(R:Rel K A ρ σ H){i:Nat}{p q:PV}{a:Addr}(e:ρ[i]?=some (some p))(ow:p.isOwn=true)(ow':q.isOwn=true)(es:σ[i]?=some (some (.ref a)))
  (kp:∀b o,b≠a->H b=some o->H' b=some o) (ha:H' a≠none) (h1:∀b,A b->A' b) (h2:∀b,A' b->A b\/H b=none) (dom':∀b,A' b->H' b≠none)
  (new:RS K (OO A' ρ σ) H' q (.ref a)):Rel K A' (ρ.set i (some q)) σ H'/\Fr ρ σ H (ρ.set i (some q)) H':=by
 have hi:i<ρ.length:=(j_.mp e).1;have wa:Wr ρ σ a:=⟨i,p,e,ow,es⟩
 have weq:∀b,Wr (ρ.set i (some q)) σ b ↔ Wr ρ σ b:=λb=>by
  constructor
  .rintro⟨j,r,e1,o1,s1⟩
   by_cases z:i=j
   .subst z;exact⟨i,p,e,ow,s1⟩
   .rw [g_ z] at e1;exact⟨j,r,e1,o1,s1⟩
  .rintro⟨j,r,e1,o1,s1⟩
   by_cases z:i=j
   .subst z;exact⟨i,q,m_ hi,ow',s1⟩
   .exact⟨j,r,by rw [g_ z];exact e1,o1,s1⟩
 have oeq:OO A' (ρ.set i (some q)) σ=OO A' ρ σ:=funext λb=>propext (or_congr Iff.rfl (weq b));have kp1:∀b u,¬ Wr ρ σ b->H b=some u->H' b=some u:=λb u n h=>kp b u (λz=>n (by rw [z];exact wa)) h
 have k:aF (OO A ρ σ) H (OO A' ρ σ) H':=λb u n h=>by
  refine⟨λz=>?_,kp1 b u (λz=>n (.inr z)) h⟩
  rcases z with z|z
  .rcases h2 b z with z|z
   .exact n (.inl z)
   .rw [z] at h;cases h
  .exact n (.inr z)
 have dm:∀b,H b≠none->H' b≠none:=λb n=>by
  by_cases z:b=a
  .rw [z];exact ha
  .cases eb:H b with
   | none=>exact absurd eb n
   | some o=>rw [kp b o z eb];exact nofun
 refine⟨⟨by rw [Hn];exact R.len,λj r e1=>?_,λj l p1 q1 v e1 e2 o1 o2 s1 s2=>?_,dom',λb z w=>?_⟩,⟨kp1,dm,λb w=>(weq b).mp w⟩⟩
 .rw [oeq]
  by_cases z:i=j
  .subst z;rw [m_ hi] at e1;cases e1;exact⟨_,es,new⟩
  .rw [g_ z] at e1;obtain⟨v,s,rr⟩:=R.get j r e1;refine⟨v,s,rr.keeps k λow2 b eb=>?_⟩;obtain⟨b',u,e3,e4⟩:=rr.ref ow2;rw [eb] at e3;cases e3;rw [e4];refine kp b u (λzz=>?_) e4;subst zz;rw [eb] at s;exact z (R.dj i j p r _ e e1 ow ow2 es s)
 .have ex:∀(m:Nat) (x:PV),(ρ.set i (some q))[m]?=some (some x)->x.isOwn=true->∃y:PV,ρ[m]?=some (some y)/\y.isOwn=true:=λm x em ox=>by
   by_cases z:i=m
   .subst z;exact⟨p,e,ow⟩
   .rw [g_ z] at em;exact⟨x,em,ox⟩
  obtain⟨y1,g1,g2⟩:=ex j p1 e1 o1;obtain⟨y2,g3,g4⟩:=ex l q1 e2 o2;exact R.dj j l y1 y2 v g1 g3 g2 g4 s1 s2
 .rcases h2 b z with z|z
  .exact R.sep b z ((weq b).mp w)
  .exact R.wr ((weq b).mp w) z
def Rel.lstw(R:Rel K A ρ σ H){i:Nat}{ds es:List D}{a:Addr}{ys:List V}(e:ρ[i]?=some (some (.own ds)))(es':σ[i]?=some (some (.ref a)))(f:FVs K (OO A ρ σ) H ys es) :
  Rel K A (ρ.set i (some (.own es))) σ (upd H a (.lst ys))/\Fr ρ σ H (ρ.set i (some (.own es))) (upd H a (.lst ys)):=by
 have wa:OO A ρ σ a:=.inr ⟨i,_,e,rfl,es'⟩;exact R.write (q:=.own es) e rfl rfl es' ⟨a,ys,rfl,aB,f.keeps λb u n h=>⟨n,by rw [ar (λz=>n (by rw [z];exact wa))];exact h⟩⟩
def Rel.ownAt(R:Rel K A ρ σ H){i:Nat}{ds:List D}(e:ρ[i]?=some (some (.own ds))):∃a xs,σ[i]?=some (some (.ref a))/\H a=some (.lst xs)/\FVs K (OO A ρ σ) H xs ds:=by
 obtain⟨v,s,a,xs,rfl,g,f⟩:=R.get i _ e;exact⟨a,xs,s,g,f⟩
end
noncomputable def Gj(i:Nat)(pe:PTE):PTE:=λρ Q=>match ρ[i]? with
 | some (some (.own _))=>pe ρ λp ρ1=>(match ρ1[i]? with
  | some (some (.own ds))=>ds.length<1000000/\Q (.dat .non) (ρ1.set i (some (.own (ds++[p.d]))))
  | _=>False)
 | _=>False
noncomputable def Cy(i:Nat)(pe pk:PTE):PTS:=λD ρ=>pe ρ λp ρ1=>(match ρ1[i]? with
 | some (some (.own _))=>pk ρ1 λkp ρ2=>(match ρ2[i]?,kp with
  | some (some (.own ds)),.dat (.int k)=>∃j,ixN ds.length k=some j/\D.nx (ρ2.set i (some (.own (ds.set j p.d))))
  | _,_=>False)
 | _=>False)
section
variable {K:b_}{te tk:TE}{pe pk:PTE}{fs:List Nat}
def iQ{i:Nat}(h:LE K te pe):LE K (tBM K "list" uR (bw i) (aW te eR)) (Gj i pe):=λA ρ σ H Q Q' R q k=>by
 unfold Gj at q
 split at q
 .rename_i ds0 e0;obtain⟨a0,xs0,s0,g0,f0⟩:=R.ownAt e0;refine⟨_,s0,.inl ⟨rfl,xs0,SqL.of g0⟩,h A ρ σ H _ _ R q λv H1 p ρ1 q1 f1 o1=>?_⟩;obtain⟨R1,fv⟩:=o1.frz
  split at q1
  .rename_i ds e1;obtain⟨a,xs,s,g,f⟩:=R1.ownAt e1;rw [s0] at s;cases s;obtain⟨R2,f2⟩:=R1.lstw e1 s0 (f.append (.cons fv .nil));exact⟨a0,xs,v,rfl,rfl,g,tf (by rw [f.length];exact q1.1) (sz _ (so _)),k _ _ _ _ q1.2 (f1.trans f2) ⟨R2,.non⟩⟩
  .exact q1.elim
 .exact q.elim
def qF{i:Nat}(h:LE K te pe)(hk:LE K tk pk):LS K fs (xl te (FS (bw i) tk BI)) (Cy i pe pk):=λfx A R H0 ρ σ H D D' hf r F q k1 k2 k3 k4=>h A ρ σ H _ _ r q λv H1 p ρ1 q1 f1 o1=>by
 obtain⟨R1,fv⟩:=o1.frz
 split at q1
 .rename_i ds0 e0;obtain⟨a0,xs0,s0,g0,f0⟩:=R1.ownAt e0;refine⟨_,s0,hk A ρ1 σ H1 _ _ R1 q1 λw H2 kp ρ2 q2 f2 o2=>?_⟩
  split at q2
  .rename_i ds j e2;obtain⟨n,hn,q2⟩:=q2;obtain⟨R2,fw⟩:=o2;cases fw;obtain⟨a,xs,s,g,f⟩:=R2.ownAt e2;rw [s0] at s;cases s;obtain⟨R3,f3⟩:=R2.lstw e2 s0 (FVs.set (fv.keeps f2.keeps) n f);exact⟨a0,xs,j,n,rfl,rfl,g,by rw [f.length];exact hn,k1 _ _ _ q2 R3 (((F.fr f1).fr f2).fr f3)⟩
  .exact q2.elim
 .exact q1.elim
end
noncomputable def spP(K:b_)(c:FN):Sp:=λvs H Q _=>∃(O:Addr->Prop) (ds:List D) (Qc:PV->Prop),(∀b,O b->H b≠none)/\FVs K O H vs ds/\c ds Qc/\∀r,Qc r->∀v H',Gr H H'->qs K O H H' r v->Q v H'
noncomputable def pM(c:FN)(pr:PTA):PTE:=λρ Q=>pr ρ λas ρ1=>match avD as with
 | some ds=>c ds λr=>Q r ρ1
 | none=>False
def iR{N:List Str}{vs:List V}{i:Nat}{v:V}(h:vs[i]?=some v):(start N vs)[i]?=some (some v):=by
 unfold start;rw [J0 (by rw [length_map];exact (j_.mp h).1),q_,h];rfl
noncomputable def cw(n:Nat)(ps:List PV):PSt:=ps.map some++B_ (n - ps.length) none
def cQ{n:Nat}{ps:List PV}{i:Nat}{p:PV}(h:(cw n ps)[i]?=some (some p)):ps[i]?=some p:=by
 unfold cw at h
 by_cases hi:i<ps.length
 .rw [J0 (by rw [length_map];exact hi),q_] at h
  cases e:ps[i]? with
  | none=>rw [e] at h;cases h
  | some q=>rw [e] at h;cases h;rfl
 .rw [getElem?_append_right (by rw [length_map];omega)] at h;have:=F_ h;rw [mem_replicate] at this;cases this.2
section
variable {K:b_}{tr:TA}{pr:PTA}{ts:TS}{ps:PTS}
def aJ{c:FN}(h:LAs K tr pr):LE K (dB (spP K c) [] E0 tr) (pM c pr):=λA ρ σ H Q Q' R q k=>h A ρ σ H _ _ R q λvs H1 as ρ1 q1 f1 R1 o1=>by
 split at q1
 .rename_i ds e;rw [HE];exact⟨OO A ρ1 σ,ds,_,R1.dom2,o1.avD e,q1,λr qr v H' g ov=>k v H' r ρ1 qr (f1.trans g.fr) ((ov.out R1 g).h0 f1.dm)⟩
 .exact q1.elim
def Out.outV{O:Addr->Prop}{ρ:PSt}{σ:St}{H H':Hp}{p:PV}{v:V}(h:Out K O ρ σ H H' p v):qs K O H H' p v:=by
 cases p with
 | dat d=>exact h.2.keeps (aF.less λb z=>.inl z)
 | own ds =>
  obtain⟨a,xs,e1,na,e2,e3,R,f⟩:=h;exact⟨a,xs,e1,e2,e3,f.keeps (aF.less λb z=>.inl z)⟩
 | ins c ns ds =>
  obtain⟨a,dx,fs,e1,na,e2,e3,m,R,f⟩:=h;exact⟨a,dx,fs,e1,e2,e3,m,f.keeps (aF.less λb z=>.inl z)⟩
 | odc ks ds =>
  obtain⟨a,kvs,e1,na,e2,e3,m,R,f⟩:=h;exact⟨a,kvs,e1,e2,e3,m,f.keeps (aF.less λb z=>.inl z)⟩
def fnP{c:FN}{N:List Str}(hl:LS K [] ts ps)(hn:∀ds Q,c ds Q->ds.length<=N.length)(hc:∀ds Q,c ds Q->ps { nx:=λ_=>Q (.dat .non),rt:=λp _=>Q p } (cw N.length (ds.map .dat)))
  {vs:List V}{H:Hp}{Q:VK}{E:XK} (h:spP K c vs H Q E):ts { nx:=λ_ H'=>Q .non H',rt:=Q } (start N vs) H:=by
 obtain⟨O,ds,Qc,dom,fv,hq,k⟩:=h
 have nw:∀(ρ:PSt) (b:Addr),ρ=cw N.length (ds.map .dat)->¬ Wr ρ (start N vs) b:=λρ b e ⟨i,p,e1,o1,s1⟩=>by
  rw [e] at e1;have:=cQ e1;rw [q_] at this
  cases e2:ds[i]? with
  | none=>rw [e2] at this;cases this
  | some d=>rw [e2] at this;cases this;cases o1
 have lenv:=fv.length;have hle:=hn ds Qc hq
 have R0:Rel K O (cw N.length (ds.map .dat)) (start N vs) H:=by
  refine⟨?_,λi p e=>?_,λi j p q v e1 e2 o1 o2 s1 s2=>?_,dom,λb _ w=>nw _ b rfl w⟩
  .unfold cw start;rw [length_append,length_append,length_map,length_map,length_map,length_replicate,length_replicate,lenv]
  .have:=cQ e;rw [q_] at this
   cases e2:ds[i]? with
   | none=>rw [e2] at this;cases this
   | some d =>
    rw [e2] at this;cases this;obtain⟨v,hv,f⟩:=fv.getD e2;exact⟨v,iR hv,f.keeps (aF.less λb z=>z.elim id λw=>absurd w (nw _ b rfl))⟩
  .have:=cQ e1;rw [q_] at this
   cases e3:ds[i]? with
   | none=>rw [e3] at this;cases this
   | some d=>rw [e3] at this;cases this;cases o1
 refine hl [] O (λ_=>False) H _ _ H _ _ rfl R0 ⟨λ_ _ _ h=>h,λ_ h=>h,λb w=>absurd w (nw _ b rfl),λp hp=>nomatch hp⟩ (hc ds Qc hq) (λρ' σ' H' q r F=>?_) (λv p ρ' σ' H' q o F=>?_) (λ_ _ _ z=>z.elim) (λ_ _ _ z=>z.elim)
 .exact k _ q .non H' (λb o e=>F.kp b o id e) .non
 .exact k _ q v H' (λb o e=>F.kp b o id e) o.outV
abbrev FR:=PV->List D->(PV->PV->Prop)->Prop
noncomputable def spR(K:b_)(c:FR):Sp:=λvs H Q _=>∃(A:Addr->Prop) (a:Addr) (p:PV) (ws:List V) (ds:List D) (Qc:PV->PV->Prop),vs=.ref a::ws/\p.isOwn=true/\(∀b,A b->H b≠none)/\¬ A a/\RS K (cJ A a) H p (.ref a)/\FVs K (cJ A a) H ws ds/\c p ds Qc /\
 ∀r p',Qc r p'->p'.isOwn=true->∀v H',(∀b o,b≠a->H b=some o->H' b=some o)->H' a≠none->RS K (cJ A a) H' p' (.ref a)->qs K (cJ A a) H H' r v->(∀a',v=.ref a'->r.isOwn=true->RS K (cJ (cJ A a) a') H' p' (.ref a))->Q v H'
noncomputable def yO(c:FR)(i:Nat)(pr:PTA):PTE:=λρ Q=>match ρ[i]? with
 | some (some _)=>pr ρ λas ρ1=>(match ρ1[i]?,avD as with
  | some (some p),some ds=>p.isOwn=true/\c p ds λr p'=>Q r (ρ1.set i (some p'))
  | _,_=>False)
 | _=>False
def aQ{c:FR}{i:Nat}(h:LAs K tr pr):LE K (dB (spR K c) [] E0 (aW (bw i) tr)) (yO c i pr):=λA ρ σ H Q Q' R q k=>by
 unfold yO at q
 split at q
 .rename_i p0 e0;obtain⟨v0,s0,_⟩:=R.get i p0 e0;refine⟨v0,s0,h A ρ σ H _ _ R q λvs H1 as ρ1 q1 f1 R1 o1=>?_⟩
  split at q1
  .rename_i p ds e1 ed;obtain⟨ow,q1⟩:=q1;obtain⟨v1,s1,rs⟩:=R1.get i p e1;rw [s0] at s1;cases s1;obtain⟨a,u,rfl,ea⟩:=rs.ref ow;rw [HE];have wa:Wr ρ1 σ a:=⟨i,p,e1,ow,s0⟩
   have oeq:cJ (λb=>(OO A ρ1 σ b)/\b≠a) a=OO A ρ1 σ:=funext λb=>propext ⟨λz=>z.elim (λz=>z.1) (λz=>by rw [z];exact .inr wa),λz=>by
    by_cases e:b=a
    .exact .inr e
    .exact .inl ⟨z,e⟩⟩
   refine⟨λb=>(OO A ρ1 σ b)/\b≠a,a,p,vs,ds,_,rfl,ow,λb z=>R1.dom2 b z.1,λz=>z.2 rfl,by rw [oeq];exact rs,by rw [oeq];exact o1.avD ed,q1,λr p' qr ow' v H' kp ha rs' ov hx=>?_⟩;rw [oeq] at rs' ov hx
   have domA:∀b,A b->H' b≠none:=λb z=>by
    have:b≠a:=λe=>R1.sep b z (by rw [e];exact wa)
    cases eb:H1 b with
    | none=>exact absurd eb (R1.dom b z)
    | some o=>rw [kp b o this eb];exact nofun
   cases r with
   | dat d =>
    obtain⟨R2,f2⟩:=R1.step (A':=A) e1 ow ow' s0 kp ha (λ_ h=>h) (λ_ h=>.inl h) domA rs';exact k v H' _ _ qr (f1.trans f2) ⟨R2,FV.keeps (aF.less λb z=>z.imp id (f2.ow b)) ov⟩
   | own es =>
    obtain⟨a',xs,rfl,n1,e2,f⟩:=ov;have hx:=hx a' rfl rfl;have na:a'≠a:=λe=>by rw [e,ea] at n1;cases n1
    have oo2:∀b,OO (cJ A a') ρ1 σ b ↔ cJ (OO A ρ1 σ) a' b:=λb=>⟨λz=>by
     rcases z with (z|z)|z
     .exact .inl (.inl z)
     .exact .inr z
     .exact .inl (.inr z),λz=>by
     rcases z with (z|z)|z
     .exact .inl (.inl z)
     .exact .inr z
     .exact .inl (.inr z)⟩
    have oo2':OO (cJ A a') ρ1 σ=cJ (OO A ρ1 σ) a':=funext λb=>propext (oo2 b)
    obtain⟨R2,f2⟩:=R1.step (A':=cJ A a') e1 ow ow' s0 kp ha (λ_ h=>.inl h) (λb z=>z.imp id λz=>by rw [z];exact n1) (λb z=>z.elim (domA b) λz=>by rw [z,e2];exact nofun) (by rw [oo2'];exact hx)
    .refine k _ H' (.own es) _ qr (f1.trans f2) ⟨a',xs,rfl,λz=>R1.dom a' z n1,?_,e2,R2,f.keeps (aF.less λb z=>?_)⟩
     .cases eb:H a' with
      | none=>rfl
      | some o=>exact absurd n1 (f1.dm a' (by rw [eb];exact nofun))
     .rw [<- oo2'];exact z.imp id (f2.ow b)
   | ins c ns es =>
    obtain⟨a',dx,fs,rfl,n1,e2,m,f⟩:=ov;have hx:=hx a' rfl rfl
    have oo2':OO (cJ A a') ρ1 σ=cJ (OO A ρ1 σ) a':=funext λb=>propext ⟨λz=>by
     rcases z with (z|z)|z
     .exact .inl (.inl z)
     .exact .inr z
     .exact .inl (.inr z),λz=>by
     rcases z with (z|z)|z
     .exact .inl (.inl z)
     .exact .inr z
     .exact .inl (.inr z)⟩
    obtain⟨R2,f2⟩:=R1.step (A':=cJ A a') e1 ow ow' s0 kp ha (λ_ h=>.inl h) (λb z=>z.imp id λz=>by rw [z];exact n1) (λb z=>z.elim (domA b) λz=>by rw [z,e2];exact nofun) (by rw [oo2'];exact hx)
    .refine k _ H' (.ins c ns es) _ qr (f1.trans f2) ⟨a',dx,fs,rfl,λz=>R1.dom a' z n1,?_,e2,m,R2,f.keeps (aF.less λb z=>?_)⟩
     .cases eb:H a' with
      | none=>rfl
      | some o=>exact absurd n1 (f1.dm a' (by rw [eb];exact nofun))
     .rw [<- oo2'];exact z.imp id (f2.ow b)
   | odc ks es =>
    obtain⟨a',kvs,rfl,n1,e2,m,f⟩:=ov;have hx:=hx a' rfl rfl
    have oo2':OO (cJ A a') ρ1 σ=cJ (OO A ρ1 σ) a':=funext λb=>propext ⟨λz=>by
     rcases z with (z|z)|z
     .exact .inl (.inl z)
     .exact .inr z
     .exact .inl (.inr z),λz=>by
     rcases z with (z|z)|z
     .exact .inl (.inl z)
     .exact .inr z
     .exact .inl (.inr z)⟩
    obtain⟨R2,f2⟩:=R1.step (A':=cJ A a') e1 ow ow' s0 kp ha (λ_ h=>.inl h) (λb z=>z.imp id λz=>by rw [z];exact n1) (λb z=>z.elim (domA b) λz=>by rw [z,e2];exact nofun) (by rw [oo2'];exact hx)
    .refine k _ H' (.odc ks es) _ qr (f1.trans f2) ⟨a',kvs,rfl,λz=>R1.dom a' z n1,?_,e2,m,R2,f.keeps (aF.less λb z=>?_)⟩
     .cases eb:H a' with
      | none=>rfl
      | some o=>exact absurd n1 (f1.dm a' (by rw [eb];exact nofun))
     .rw [<- oo2'];exact z.imp id (f2.ow b)
  .exact q1.elim
 .exact q.elim
noncomputable def A9(Q:PV->PV->Prop)(r:PV)(ρ:PSt):Prop:=match ρ[0]? with
 | some (some p)=>p.isOwn=true/\Q r p
 | _=>False
def fnR{c:FR}{N:List Str}(hl:LS K [0] ts ps)(hn:∀p ds Q,c p ds Q->ds.length+1<=N.length)(hc:∀p ds Q,p.isOwn=true->c p ds Q->ps { nx:=A9 Q (.dat .non),rt:=A9 Q } (cw N.length (p::ds.map .dat)))
  {vs:List V}{H:Hp}{Q:VK}{E:XK} (h:spR K c vs H Q E):ts { nx:=λ_ H'=>Q .non H',rt:=Q } (start N vs) H:=by
 obtain⟨A,a,p,ws,ds,Qc,rfl,ow,dom,na,rs,fv,hq,k⟩:=h;have s0:(start N (V.ref a::ws))[0]?=some (some (.ref a)):=iR rfl;have b0:(cw N.length (p::ds.map .dat))[0]?=some (some p):=rfl
 have wr:∀b,Wr (cw N.length (p::ds.map .dat)) (start N (.ref a::ws)) b->b=a:=λb ⟨i,q,e1,o1,s1⟩=>by
  have:=cQ e1
  cases i with
  | zero=>rw [s0] at s1;cases s1;rfl
  | succ i =>
   rw [Ju,q_] at this
   cases e2:ds[i]? with
   | none=>rw [e2] at this;cases this
   | some d=>rw [e2] at this;cases this;cases o1
 have wa:Wr (cw N.length (p::ds.map .dat)) (start N (.ref a::ws)) a:=⟨0,p,b0,ow,s0⟩
 have oeq:OO A (cw N.length (p::ds.map .dat)) (start N (.ref a::ws))=cJ A a:=funext λb=>propext ⟨λz=>z.imp id (wr b),λz=>z.imp id λz=>by rw [z];exact wa⟩;have lenv:=fv.length;have hle:=hn p ds Qc hq
 have R0:Rel K A (cw N.length (p::ds.map .dat)) (start N (.ref a::ws)) H:=by
  refine⟨?_,λi q e=>?_,λi j q1 q2 v e1 e2 o1 o2 s1 s2=>?_,dom,λb z w=>?_⟩
  .unfold cw start;simp only [length_append,length_map,length_replicate,length_cons,lenv]
  .have:=cQ e;rw [oeq]
   cases i with
   | zero=>cases this;exact⟨_,s0,rs⟩
   | succ i =>
    rw [Ju,q_] at this
    cases e2:ds[i]? with
    | none=>rw [e2] at this;cases this
    | some d =>
     rw [e2] at this;cases this;obtain⟨v,hv,f⟩:=fv.getD e2;exact⟨v,iR (by rw [Ju];exact hv),f⟩
  .have own0:∀(i:Nat) (q:PV),(cw N.length (p::ds.map .dat))[i]?=some (some q)->q.isOwn=true->i=0:=λi q e o=>by
    have:=cQ e
    cases i with
    | zero=>rfl
    | succ i =>
     rw [Ju,q_] at this
     cases e2:ds[i]? with
     | none=>rw [e2] at this;cases this
     | some d=>rw [e2] at this;cases this;cases o
   rw [own0 i q1 e1 o1,own0 j q2 e2 o2]
  .rw [wr b w] at z;exact na z
 have fin:∀(v:V) (r:PV) (ρ':PSt) (σ':St) (H':Hp),A9 Qc r ρ'->Out K A ρ' σ' H H' r v->cg [(0,.ref a)] (λb=>b=a) H ρ' σ' H'->Q v H':=λv r ρ' σ' H' q o F=>by
  unfold A9 at q
  split at q
  .rename_i p' e';obtain⟨ow',q⟩:=q;have sa:=F.fx (0,.ref a) (y_.mpr rfl);have wa':Wr ρ' σ' a:=⟨0,p',e',ow',sa⟩
   have kpa:∀b o,b≠a->H b=some o->H' b=some o:=λb o n e=>F.kp b o n e
   cases r with
   | dat d =>
    obtain⟨R1,f1⟩:=o;obtain⟨v1,s1,rs1⟩:=R1.get 0 p' e';rw [sa] at s1;cases s1;have less:∀b,cJ A a b->OO A ρ' σ' b:=λb z=>z.imp id λz=>by rw [z];exact wa'
    exact k _ p' q ow' v H' kpa (R1.wr wa') (rs1.keeps (aF.less less) λ_ _ _=>rfl) (f1.keeps (aF.less less)) (λ_ _ z=>nomatch z)
   | own es =>
    obtain⟨a',xs,rfl,n1,n2,e3,R1,f1⟩:=o;obtain⟨v1,s1,rs1⟩:=R1.get 0 p' e';rw [sa] at s1;cases s1
    have less:∀b,cJ (cJ A a) a' b->OO (cJ A a') ρ' σ' b:=λb z=>by
     rcases z with (z|z)|z
     .exact .inl (.inl z)
     .exact .inr (by rw [z];exact wa')
     .exact .inl (.inr z)
    exact k _ p' q ow' _ H' kpa (R1.wr wa') (rs1.keeps (aF.less λb z=>less b (.inl z)) λ_ _ _=>rfl) ⟨a',xs,rfl,n2,e3,f1.keeps (aF.less less)⟩ (λa'' e _=>by cases e;exact rs1.keeps (aF.less less) λ_ _ _=>rfl)
   | ins c ns es =>
    obtain⟨a',dx,fs,rfl,n1,n2,e3,m,R1,f1⟩:=o;obtain⟨v1,s1,rs1⟩:=R1.get 0 p' e';rw [sa] at s1;cases s1
    have less:∀b,cJ (cJ A a) a' b->OO (cJ A a') ρ' σ' b:=λb z=>by
     rcases z with (z|z)|z
     .exact .inl (.inl z)
     .exact .inr (by rw [z];exact wa')
     .exact .inl (.inr z)
    exact k _ p' q ow' _ H' kpa (R1.wr wa') (rs1.keeps (aF.less λb z=>less b (.inl z)) λ_ _ _=>rfl) ⟨a',dx,fs,rfl,n2,e3,m,f1.keeps (aF.less less)⟩ (λa'' e _=>by cases e;exact rs1.keeps (aF.less less) λ_ _ _=>rfl)
   | odc ks es =>
    obtain⟨a',kvs,rfl,n1,n2,e3,m,R1,f1⟩:=o;obtain⟨v1,s1,rs1⟩:=R1.get 0 p' e';rw [sa] at s1;cases s1
    have less:∀b,cJ (cJ A a) a' b->OO (cJ A a') ρ' σ' b:=λb z=>by
     rcases z with (z|z)|z
     .exact .inl (.inl z)
     .exact .inr (by rw [z];exact wa')
     .exact .inl (.inr z)
    exact k _ p' q ow' _ H' kpa (R1.wr wa') (rs1.keeps (aF.less λb z=>less b (.inl z)) λ_ _ _=>rfl) ⟨a',kvs,rfl,n2,e3,m,f1.keeps (aF.less less)⟩ (λa'' e _=>by cases e;exact rs1.keeps (aF.less less) λ_ _ _=>rfl)
  .exact q.elim
 refine hl [(0,.ref a)] A (λb=>b=a) H _ _ H _ _ rfl R0 ⟨λ_ _ _ h=>h,λ_ h=>h,λb w=>.inl (wr b w),λq hq=>by rw [y_.mp hq];exact s0⟩ (hc p ds Qc ow hq) (λρ' σ' H' q r F=>fin .non (.dat .non) ρ' σ' H' q ⟨r,.non⟩ F) (λv p ρ' σ' H' q o F=>fin v p ρ' σ' H' q o F) (λ_ _ _ z=>z.elim) (λ_ _ _ z=>z.elim)
end
noncomputable def Gk:FN:=λas Q=>∃ns:List Int,as=[.scr ns]/\ns.length<=63/\Q (.dat (.bl true))
def Ah{K:b_}{vs:List V}{H:Hp}{Q:VK}{E:XK}(h:tD K vs H Q E):spP K Gk vs H Q E:=by
 obtain⟨a,ns,rfl,hS,h63,q⟩:=h
 refine⟨λ_=>False,[.scr ns],λr=>r=.dat (.bl true),nofun,.cons (.scr ?_) .nil,⟨ns,rfl,h63,rfl⟩,λr e v H' g o=>?_⟩
 .rcases hS with h|h
  .exact .inl ⟨id,h⟩
  .exact .inr h
 .subst e;cases o;exact q H'
section
variable {K:b_}{X:Cx}
noncomputable def Gm:List V->Hp->VK->Prop:=λxs H Q=>∃i,xs=[.int i]/\Q (.int (if i<0 then -i else i)) H
noncomputable def Cz:List V->Hp->VK->Prop:=λxs H Q=>∃i j,xs=[.int i,.int j]/\Q (.int (if j<i then j else i)) H
noncomputable def CA:List V->Hp->VK->Prop:=λxs H Q=>∃i j,xs=[.int i,.int j]/\Q (.int (if j > i then j else i)) H
def E4:bj X (.builtin "abs") Gm:=xp
def vC(hc:X.calm=true):bj X (.builtin "min") Cz:=uI hc
def yP(hc:X.calm=true):bj X (.builtin "max") CA:=uH hc
noncomputable def Gn:FN
 | [.int i],Q=>Q (.dat (.int (if i<0 then -i else i)))
 | _,_=>False
noncomputable def CB:FN
 | [.int i,.int j],Q=>Q (.dat (.int (if j<i then j else i)))
 | _,_=>False
noncomputable def CC:FN
 | [.int i,.int j],Q=>Q (.dat (.int (if j > i then j else i)))
 | _,_=>False
def CD:LC K Gm Gn:=by
 intro O H xs as Q Q' dom fs q k;unfold Gn at q
 split at q
 .cases fs with|cons a b=>cases b;rw [a.int];exact⟨_,rfl,k _ H _ q (Gr.refl _) (.int _)⟩
 .exact q.elim
def qG:LC K Cz CB:=by
 intro O H xs as Q Q' dom fs q k;unfold CB at q
 split at q
 .cases fs with
  | cons a b=>cases b with|cons b c=>cases c;rw [a.int,b.int];exact⟨_,_,rfl,k _ H _ q (Gr.refl _) (.int _)⟩
 .exact q.elim
def vD:LC K CA CC:=by
 intro O H xs as Q Q' dom fs q k;unfold CC at q
 split at q
 .cases fs with
  | cons a b=>cases b with|cons b c=>cases c;rw [a.int,b.int];exact⟨_,_,rfl,k _ H _ q (Gr.refl _) (.int _)⟩
 .exact q.elim
noncomputable def CF(K:b_):List V->Hp->VK->Prop:=λxs H Q=>∃(p:Addr) (ns:List Int),xs=[.ref p]/\SqL K H p (ns.map V.int)/\0<ns.length/\∀m:Int,m∈ns->(∀a∈ns,m<=a)->Q (.int m) H
noncomputable def CG(K:b_):List V->Hp->VK->Prop:=λxs H Q=>∃(p:Addr) (ns:List Int),xs=[.ref p]/\SqL K H p (ns.map V.int)/\Q (.int ns.sum) H
noncomputable def Go(K:b_):List V->Hp->VK->Prop:=λxs H Q=>∃(p:Addr) (bs:List Bool),xs=[.ref p]/\SqL K H p (bs.map V.bl)/\Q (.bl (bs.all id)) H
noncomputable def Gp(K:b_):List V->Hp->VK->Prop:=λxs H Q=>∃(p:Addr) (bs:List Bool),xs=[.ref p]/\SqL K H p (bs.map V.bl)/\Q (.bl (bs.any id)) H
def CH(K:b_)(e:X.K=K)(hc:X.calm=true):bj X (.builtin "min") (CF K):=by subst e;exact vo hc
def vE(K:b_)(e:X.K=K)(hc:X.calm=true):bj X (.builtin "sum") (CG K):=by subst e;exact pI hc
def vF(K:b_)(e:X.K=K)(hc:X.calm=true):bj X (.builtin "all") (Go K):=by subst e;exact xM hc
def E5(K:b_)(e:X.K=K)(hc:X.calm=true):bj X (.builtin "any") (Gp K):=by subst e;exact xN hc
noncomputable def CI:FN
 | [.lst ds],Q=>∃ns:List Int,ds=ns.map .int/\0<ns.length/\∀m:Int,m∈ns->(∀a∈ns,m<=a)->Q (.dat (.int m))
 | _,_=>False
noncomputable def Aj:FN
 | [.lst ds],Q=>∃ns:List Int,ds=ns.map .int/\Q (.dat (.int ns.sum))
 | _,_=>False
noncomputable def E6:FN
 | [.lst ds],Q=>∃bs:List Bool,ds=bs.map .bl/\Q (.dat (.bl (bs.all id)))
 | _,_=>False
noncomputable def Gq:FN
 | [.lst ds],Q=>∃bs:List Bool,ds=bs.map .bl/\Q (.dat (.bl (bs.any id)))
 | _,_=>False
def Ak:LC K (CF K) CI:=by
 intro O H xs as Q Q' dom fs q k;unfold CI at q
 split at q
 .obtain⟨ns,rfl,h0,q⟩:=q
  cases fs with
  | cons a b =>
   cases b;obtain⟨p,ys,rfl,e1,f1⟩:=a.lst;rw [f1.ints] at e1;exact⟨p,ns,rfl,SqL.of e1,h0,λm hm hle=>k _ H _ (q m hm hle) (Gr.refl _) (.int _)⟩
 .exact q.elim
def qH:LC K (CG K) Aj:=by
 intro O H xs as Q Q' dom fs q k;unfold Aj at q
 split at q
 .obtain⟨ns,rfl,q⟩:=q
  cases fs with
  | cons a b =>
   cases b;obtain⟨p,ys,rfl,e1,f1⟩:=a.lst;rw [f1.ints] at e1;exact⟨p,ns,rfl,SqL.of e1,k _ H _ q (Gr.refl _) (.int _)⟩
 .exact q.elim
def pN:LC K (Go K) E6:=by
 intro O H xs as Q Q' dom fs q k;unfold E6 at q
 split at q
 .obtain⟨ns,rfl,q⟩:=q
  cases fs with
  | cons a b =>
   cases b;obtain⟨p,ys,rfl,e1,f1⟩:=a.lst;rw [f1.bls] at e1;exact⟨p,ns,rfl,SqL.of e1,k _ H _ q (Gr.refl _) (.bl _)⟩
 .exact q.elim
def CJ:LC K (Gp K) Gq:=by
 intro O H xs as Q Q' dom fs q k;unfold Gq at q
 split at q
 .obtain⟨ns,rfl,q⟩:=q
  cases fs with
  | cons a b =>
   cases b;obtain⟨p,ys,rfl,e1,f1⟩:=a.lst;rw [f1.bls] at e1;exact⟨p,ns,rfl,SqL.of e1,k _ H _ q (Gr.refl _) (.bl _)⟩
 .exact q.elim
noncomputable def Al(K:b_):List V->Hp->VK->Prop:=λxs H Q=>∃p ys,xs=[.ref p]/\((SqL K H p ys/\∀l,H l=none->Q (.ref l) (upd H l (.tup ys)))\/(SqT K H p ys/\Q (.ref p) H))
def fm(K:b_)(e:X.K=K):bj X (.type "tuple") (Al K):=by subst e;exact nC
def mL(K:b_)(e:X.K=K):bj X (.type "list") (nK K):=by subst e;exact o0
noncomputable def mM:FN
 | [.lst ds],Q=>Q (.dat (.tup ds))
 | [.tup ds],Q=>Q (.dat (.tup ds))
 | [.scr ns],Q=>Q (.dat (.tup (ns.map .int)))
 | _,_=>False
noncomputable def CK:FN
 | [.lst ds],Q=>Q (.own ds)
 | [.tup ds],Q=>Q (.own ds)
 | [.scr ns],Q=>Q (.own (ns.map .int))
 | _,_=>False
def dy:LC K (Al K) mM:=by
 intro O H xs as Q Q' dom fs q k;unfold mM at q
 split at q
 .cases fs with
  | cons a b =>
   cases b;obtain⟨p,ys,rfl,e1,f1⟩:=a.lst;exact⟨p,ys,rfl,.inl ⟨SqL.of e1,λl hl=>k _ _ _ q (Gr.new hl) (kH dom hl f1)⟩⟩
 .cases fs with
  | cons a b =>
   cases b;obtain⟨p,ys,rfl,n1,e1,f1⟩:=a.tup;exact⟨p,ys,rfl,.inr ⟨SqT.of e1,k _ H _ q (Gr.refl _) (.tup n1 e1 f1)⟩⟩
 .cases fs with
  | cons a b =>
   cases b;obtain⟨p,rfl,e1⟩:=a.scr;exact⟨p,_,rfl,.inl ⟨e1,λl hl=>k _ _ _ q (Gr.new hl) (kH dom hl (FVs.of_ints _))⟩⟩
 .exact q.elim
def nO:LC K (nK K) CK:=by
 intro O H xs as Q Q' dom fs q k;unfold CK at q
 split at q
 .cases fs with
  | cons a b =>
   cases b;obtain⟨p,ys,rfl,e1,f1⟩:=a.lst;exact⟨p,ys,rfl,.inl (SqL.of e1),λl hl=>k _ _ _ q (Gr.new hl) (eh hl f1)⟩
 .cases fs with
  | cons a b =>
   cases b;obtain⟨p,ys,rfl,n1,e1,f1⟩:=a.tup;exact⟨p,ys,rfl,.inr (SqT.of e1),λl hl=>k _ _ _ q (Gr.new hl) (eh hl f1)⟩
 .cases fs with
  | cons a b =>
   cases b;obtain⟨p,rfl,e1⟩:=a.scr;exact⟨p,_,rfl,.inl e1,λl hl=>k _ _ _ q (Gr.new hl) (eh hl (FVs.of_ints _))⟩
 .exact q.elim
variable {ta:TE}{pa:PA1}{tr:TA}{pr:PTA}{pe:PTE}
noncomputable def qI(i:Int)(n:Nat):List D:=(i_ n).map λ(k:Nat)=>D.int (i+(k:Int))
noncomputable def mkL(tup:Bool)(ds:List D):PV:=match tup with|true=>.dat (.tup ds)|false=>.own ds
noncomputable def CL(tup:Bool)(pr:PTA):PTE:=λρ Q=>pr ρ λas ρ1=>match as with
 | [.v (.int j)]=>(0<=j/\j<=1000000)/\Q (mkL tup (qI 0 j.toNat)) ρ1
 | _=>False
def CM{O:Addr->Prop}{H:Hp}(i:Int)(n:Nat):FVs K O H (qA i 1 n) (qI i n):=by
 have e:∀l:List Nat,FVs K O H (l.map λ(k:Nat)=>V.int (i+k*1)) (l.map λ(k:Nat)=>D.int (i+(k:Int))):=λl=>by
  induction l with
  | nil=>exact .nil
  | cons a r ih=>exact .cons (by show FV K O H (V.int (i+(a:Int)*1)) (D.int (i+(a:Int)));rw [show i+(a:Int)*1=i+(a:Int) by omega];exact .int _) ih
 exact e _
def mO{i j:Int}(h:i<=j):HU i j 1=(((j - i).toNat:Nat):Int):=by
 unfold HU;rw [if_pos (by decide)];simp only [ediv_one];split <;> omega
def tM{i j:Int}(h0:-1000000<=i)(h1:i<=j)(h2:j<=1000000):Jl i j 1=true:=by
 unfold Jl;rw [mO h1];simp only [Kh,and_eq_true,or_eq_true,decide_eq_true_eq,beq_iff_eq,show (1:Int) > 0 by decide,if_true];omega
noncomputable def mkO(tup:Bool):List V->HO:=match tup with|true=>.tup|false=>.lst
def CN{O:Addr->Prop}{H:Hp}{xs:List V}{ds:List D}{p:Addr}(tup:Bool)(dom:∀b,O b->H b≠none)(hp:H p=none)(f:FVs K O H xs ds):qs K O H (upd H p (mkO tup xs)) (mkL tup ds) (.ref p):=by
 cases tup with
 | true=>exact kH dom hp f
 | false=>exact eh hp f
def ss(tup:Bool)(h:LAs K tr pr):LE K (tCB (Ez K (mkO tup)) (aW (λσ H Q=>tr σ H λvs H1=>∃j:Int,vs=[.int j]/\∀p,H1 p=none->Q (.ref p) (upd H1 p (yG p 0 j 1))) eR)) (CL tup pr):=λA ρ σ H Q Q' R q k=>h A ρ σ H _ _ R q λvs H1 as ρ1 q1 f1 R1 o1=>by
 split at q1
 .rename_i j
  cases o1 with
  | cons a b =>
   cases b;cases a;refine⟨j,rfl,λp hp=>⟨p,0,j,1,j.toNat,rfl,aB,tM (by decide) q1.1.1 q1.1.2,by rw [mO q1.1.1,Int.sub_zero],by omega,λl hl=>?_⟩⟩;have g:Gr H1 (upd H1 p (yG p 0 j 1)):=Gr.new hp;have R2:=R1.gr g;have g2:Gr (upd H1 p (yG p 0 j 1)) (upd (upd H1 p (yG p 0 j 1)) l (mkO tup (qA 0 1 j.toNat))):=Gr.new hl;exact k _ _ _ ρ1 q1.2 (f1.trans (g.fr.trans g2.fr)) ((qs.out R2 g2 (CN tup R2.dom2 hl (CM 0 _))).h0 λb z=>(g.fr (ρ:=ρ1) (σ:=σ)).dm b (f1.dm b z))
 .exact q1.elim
def yQ(K:b_)(e:X.K=K)(hc:X.calm=true):bj X (.type "list") (Ez K (mkO false)):=by subst e;exact tF hc
abbrev FM:=List Nat->List D->(PV->Prop)->Prop
noncomputable def LM(K:b_)(r:V->List V->Hp->VK->Prop)(f:FM):Prop:=∀(O:Addr->Prop) (H:Hp) (l:List Nat) (xs:List V) (as:List D) (Q:PV->Prop) (Q':VK),(∀b,O b->H b≠none)->l.length<=1000000->A7 K O H xs as->f l as Q ->
 (∀v H' p,Q p->Gr H H'->qs K O H H' p v->Q' v H')->r (.str (S l)) xs H Q'
noncomputable def pSM(f:FM)(pe:PTE)(pr:PTA):PTE:=λρ Q=>pe ρ λp ρ1=>match p with
 | .dat (.str l)=>pr ρ1 λas ρ2=>(match conts ρ2 as with
  | some ds=>f l ds λr=>Q r ρ2
  | none=>False)
 | _=>False
def pO{r:V->List V->Hp->VK->Prop}{f:FM}(o:LM K r f)(he:LE K ta pe)(hr:LAs K tr pr):LE K (tBM K "str" r ta tr) (pSM f pe pr):=λA ρ σ H Q Q' R q k=>he A ρ σ H _ _ R q λv H1 p ρ1 q1 f1 o1=>by
 split at q1
 .rename_i l;obtain⟨R1,fv⟩:=o1
  cases fv with
  | str _ hl =>
   refine⟨rfl,hr A ρ1 σ H1 _ _ R1 q1 λvs H2 as ρ2 q2 f2 R2 o2=>?_⟩
   split at q2
   .rename_i ds e;exact o _ H2 l vs ds _ _ R2.dom2 hl (R2.conts o2 e) q2 λz H3 p q3 g ov=>k z H3 p ρ2 q3 ((f1.trans f2).trans g.fr) ((ov.out R2 g).h0 λb z=>f2.dm b (f1.dm b z))
   .exact q2.elim
 .exact q1.elim
noncomputable def CO:V->List V->Hp->VK->Prop:=λx xs H Q=>∃a b,x=.str (S a)/\xs=[.str (S b)]/\Q (.bl (decide (b <:+ a))) H
noncomputable def yR:V->List V->Hp->VK->Prop:=λx xs H Q=>∃a b,x=.str (S a)/\xs=[.str (S b)]/\Q (.int (fnd a b 0)) H
def Am:MtR X "str.endswith" CO:=qy
def su:MtR X "str.find" yR:=xH
noncomputable def CP:FM
 | a,[.str b],Q=>Q (.dat (.bl (decide (b <:+ a))))
 | _,_,_=>False
noncomputable def yS:FM
 | a,[.str b],Q=>Q (.dat (.int (fnd a b 0)))
 | _,_,_=>False
def An:LM K CO CP:=by
 intro O H l xs as Q Q' dom hl fs q k;unfold CP at q
 split at q
 .cases fs with|cons a b=>cases b;rw [a.str.1];exact⟨_,_,rfl,rfl,k _ H _ q (Gr.refl _) (.bl _)⟩
 .exact q.elim
def sv:LM K yR yS:=by
 intro O H l xs as Q Q' dom hl fs q k;unfold yS at q
 split at q
 .cases fs with|cons a b=>cases b;rw [a.str.1];exact⟨_,_,rfl,rfl,k _ H _ q (Gr.refl _) (.int _)⟩
 .exact q.elim
noncomputable def dX(f:Str):List Str->Option Nat
 | []=>none
 | n::r=>if n=f then some 0 else (dX f r).map (·+1)
theorem pP{f:Str}:∀{fs:List (Str×V)}{k:Nat},dX f (fs.map Hh)=some k->fs.lookup f=(fs.map IR)[k]?
 | [],k,h=>by cases h
 | (n,v)::r,k,h=>by
  unfold dX at h;rw [map_cons] at h;simp only at h;rw [HZ]
  by_cases e:n=f
  .rw [if_pos e] at h;cases h;rw [show (f == n)=true by rw [e];exact beq_self_eq_true _];rfl
  .rw [if_neg e] at h;rw [show (f == n)=false from beq_eq_false_iff_ne.mpr λz=>e z.symm]
   cases e2:dX f (r.map Hh) with
   | none=>rw [e2] at h;cases h
   | some j=>rw [e2] at h;cases h;show Ic f r=_;rw [pP e2];simp
theorem kM{f:Str}:∀{fs:List (Str×V)},dX f (fs.map Hh)=none->fs.lookup f=none
 | [],h=>rfl
 | (n,v)::r,h=>by
  unfold dX at h;rw [map_cons] at h;simp only at h;rw [HZ]
  by_cases e:n=f
  .rw [if_pos e] at h;cases h
  .rw [if_neg e] at h;rw [show (f == n)=false from beq_eq_false_iff_ne.mpr λz=>e z.symm]
   cases e2:dX f (r.map Hh) with
   | none=>exact kM e2
   | some j=>rw [e2] at h;cases h
theorem nP{f:Str}{v:V}:∀{fs:List (Str×V)},dX f (fs.map Hh)=none->mF f v fs=fs++[(f,v)]
 | [],h=>rfl
 | (n,x)::r,h=>by
  unfold dX at h;rw [map_cons] at h;simp only at h
  by_cases e:n=f
  .rw [if_pos e] at h;cases h
  .rw [if_neg e] at h
   cases e2:dX f (r.map Hh) with
   | none=>unfold mF;rw [if_neg e,nP e2];rfl
   | some j=>rw [e2] at h;cases h
def FVc.obj{O:Addr->Prop}{H:Hp}{v:V}{c:Str}{ns:List Str}{ds:List D}(h:FVc K O H v (.obj c ns ds)):∃a dx fs,v=.ref a/\H a=some (.ins (aI K c) dx fs)/\fs.map Hh=ns/\FVs K O H (fs.map IR) ds:=by
 rcases h with h|⟨a,xs,ds',e1,e2,e3,f⟩|⟨a,dx,c,fs,ns,ds',e1,e2,e3,m,f⟩|⟨a,kvs,ks,ds',e1,e2,_⟩
 .cases h with
  | obj n e m f=>exact⟨_,_,_,rfl,e,m,f⟩
 .cases e2
 .cases e2;exact⟨a,dx,fs,e1,e3,m,f⟩
 .cases e2
noncomputable def vG(c0:Str)(ns0:List Str)(k:Nat)(pa:PA1):PTE:=λρ Q=>pa ρ λx ρ1=>match cont ρ1 x with
 | some (.obj c ns ds)=>(c=c0/\ns=ns0)/\∃d,ds[k]?=some d/\Q (.dat d) ρ1
 | _=>False
def dY{c0 f:Str}{ns0:List Str}{i:Nat}(hc:Cls K (aI K c0))(hn:dS K (aI K c0) f)(hk:dX f ns0=some i)(h:LA1 K ta pa):LE K (xc K ta f) (vG c0 ns0 i pa):=λA ρ σ H Q Q' R q k=>h A ρ σ H _ _ R q λv H1 a ρ1 q1 f1 R1 o1=>by
 split at q1
 .rename_i c ns ds e;obtain⟨⟨rfl,rfl⟩,d,hd,q1⟩:=q1;obtain⟨a,dx,fs,rfl,e1,m,f⟩:=(R1.cont o1 e).obj;obtain⟨v,hv,fv⟩:=f.getD hd;exact⟨a,_,dx,fs,v,rfl,e1,hc,hn,by rw [pP (k:=i) (by rw [m];exact hk)];exact hv,k v H1 _ ρ1 q1 f1 ⟨R1,fv⟩⟩
 .exact q1.elim
noncomputable def kN(c0:Str)(ns0:List Str)(f:Str)(i:Nat)(pe:PTE):PTS:=λD ρ=>pe ρ λp ρ1=>match ρ1[i]? with
 | some (some (.ins c ns ds))=>(c=c0/\ns=ns0/\ns0.length<1000)/\D.nx (ρ1.set i (some (.ins c0 (ns0++[f]) (ds++[p.d]))))
 | _=>False
def jn{fs':List Nat}{c0 f:Str}{ns0:List Str}{i:Nat}(hc:Cls K (aI K c0))(hn:dS K (aI K c0) f)(hk:dX f ns0=none)(h:LE K ta pe):LS K fs' (FW K (bw i) ta f) (kN c0 ns0 f i pe):=λfx A R H0 ρ σ H D D' hf r F q k1 k2 k3 k4=>h A ρ σ H _ _ r q λv H1 p ρ1 q1 f1 o1=>by
 obtain⟨R1,fv⟩:=o1.frz
 split at q1
 .rename_i c ns ds e;obtain⟨⟨rfl,rfl,hl⟩,q1⟩:=q1;obtain⟨w,s,a,dx,fs,rfl,g,m,ff⟩:=R1.get i _ e;have hk':dX f (fs.map Hh)=none:=by rw [m];exact hk
  have wa:OO A ρ1 σ a:=.inr ⟨i,_,e,rfl,s⟩;have kw:∀o,aF (OO A ρ1 σ) H1 (OO A ρ1 σ) (upd H1 a o):=λo b u n h=>⟨n,by rw [ar (λz=>n (by rw [z];exact wa))];exact h⟩
  obtain⟨R2,f2⟩:=R1.write (o:=.ins (aI K c) dx (mF f v fs)) (q:=.ins c (ns++[f]) (ds++[p.d])) e rfl rfl s ⟨a,dx,mF f v fs,rfl,aB,by rw [nP hk',map_append,m];rfl,by rw [nP hk',map_append];exact (ff.append (.cons fv .nil)).keeps (kw _)⟩;refine⟨_,s,a,_,dx,fs,rfl,g,hc,hn,?_,k1 _ _ _ q1 R2 ((F.fr f1).fr f2)⟩;have:fs.length=ns.length:=by rw [<- m,length_map]
  omega
 .exact q1.elim
noncomputable def E7(c0:Str)(c:FR)(pr:PTA):PTE:=λρ Q=>pr ρ λas ρ1=>match avD as with
 | some ds=>c (.ins c0 [] []) ds λr p'=>(match r,p' with
  | .dat .non,.ins c1 ns es=>c1=c0/\Q (.ins c1 ns es) ρ1
  | _,_=>False)
 | none=>False
def vH{c0:Str}{c:FR}(h:LAs K tr pr):LE K (xt (aI K c0) (spR K c) [] E0 tr) (E7 c0 c pr):=λA ρ σ H Q Q' R q k=>h A ρ σ H _ _ R q λvs H1 as ρ1 q1 f1 R1 o1=>by
 split at q1
 .rename_i ds e;intro x dx hx hdx hne;rw [HE]
  let H2:=upd (upd H1 dx (.own x)) x (.ins (aI K c0) dx [])
  have g2:Gr H1 H2:=λb o z=>by
   show upd (upd H1 dx (.own x)) x _ b=_;rw [ar (aH z hx),ar (aH z hdx)];exact z
  have nx:¬ OO A ρ1 σ x:=R1.oo hx
  have keep2:aF (OO A ρ1 σ) H1 (cJ (OO A ρ1 σ) x) H2:=λb o n z=>by
   refine⟨λy=>?_,g2 b o z⟩
   rcases y with y|y
   .exact n y
   .rw [y,hx] at z;cases z
  refine⟨OO A ρ1 σ,x,.ins c0 [] [],vs,ds,_,rfl,rfl,λb z=>(g2.fr (ρ:=ρ1) (σ:=σ)).dm b (R1.dom2 b z),nx,⟨x,dx,[],rfl,aB,rfl,.nil⟩,(o1.avD e).keeps keep2,q1,λr p' qr ow' v H' kp ha rs ov _=>?_⟩
  split at qr
  .obtain⟨rfl,qr⟩:=qr;cases ov;refine⟨rfl,?_⟩;obtain⟨a',dx',fs,ea,e2,m,f⟩:=rs;cases ea;have g:Gr H1 H':=λb o z=>kp b o (aH z hx) (g2 b o z)
   have hx0:H x=none:=by
    cases eb:H x with
    | none=>rfl
    | some o=>exact absurd hx (f1.dm x (by rw [eb];exact nofun))
   refine k _ H' _ ρ1 qr (f1.trans g.fr) ⟨x,dx',fs,rfl,λz=>nx (.inl z),hx0,e2,m,R1.grA g hx (by rw [e2];exact nofun),f.keeps (aF.less λb z=>?_)⟩
   rcases z with (z|z)|z
   .exact .inl (.inl z)
   .exact .inr z
   .exact .inl (.inr z)
  .exact qr.elim
 .exact q1.elim
noncomputable def CQ(c0:Str)(ns0:List Str)(c:FN)(pe:PTE)(pr:PTA):PTE:=λρ Q=>pe ρ λp ρ1=>match p.d with
 | .obj c1 ns ds=>(c1=c0/\ns=ns0)/\pr ρ1 λas ρ2=>(match avD as with
  | some es=>c (.obj c1 ns ds::es) λr=>Q r ρ2
  | none=>False)
 | _=>False
def xW{c0 m:Str}{ns0:List Str}{c:FN}(hm:dX m ns0=none)(he:LE K ta pe)(hr:LAs K tr pr):LE K (zu (aI K c0) m (spP K c) [] E0 ta tr) (CQ c0 ns0 c pe pr):=λA ρ σ H Q Q' R q k=>he A ρ σ H _ _ R q λv H1 p ρ1 q1 f1 o1=>by
 obtain⟨R1,fv⟩:=o1.frz
 split at q1
 .rename_i c1 ns ds e;rw [e] at fv;obtain⟨⟨rfl,rfl⟩,q1⟩:=q1;obtain⟨a,dx,fs,rfl,e1,mm,f⟩:=FVc.obj (.inl fv);refine⟨a,dx,fs,rfl,e1,kM (by rw [mm];exact hm),hr A ρ1 σ H1 _ _ R1 q1 λvs H2 as ρ2 q2 f2 R2 o2=>?_⟩
  split at q2
  .rename_i es e3;rw [HE];exact⟨OO A ρ2 σ,_::es,_,R2.dom2,.cons (fv.keeps f2.keeps) (o2.avD e3),q2,λr qr v H' g ov=>k v H' r ρ2 qr ((f1.trans f2).trans g.fr) ((ov.out R2 g).h0 λb z=>f2.dm b (f1.dm b z))⟩
  .exact q2.elim
 .exact q1.elim
end
abbrev E8:R2:=rI0 λi j=>.int (i - j)
abbrev CS:R2:=rI (λ_ j=>0<j) λi j=>.int (i % j)
abbrev E9:R2:=rI Ej λi j=>.int (i / j)
abbrev Fa:R2:=rI Ek λi j=>.int (i^j.toNat)
abbrev Gs:R2:=rI0 λi j=>.bl (decide (j<i))
abbrev Fb:R2:=rI0 λi j=>.bl (decide (j<=i))
abbrev Fc:V->Hp->VK->Prop:=rU λi=>.int (-i)
noncomputable def Gu:D->(PV->Prop)->Prop
 | .int i,Q=>Q (.dat (.int (-i)))
 | _,_=>False
section
variable {K:b_}{X:Cx}{ta:TE}{tr:TA}{pr:PTA}{ts:TS}{ps:PTS}
def lO:OpR X (binaryOp .Sub) E8:=Bw
def qJ:OpR X (binaryOp .Mod) CS:=By
def CT:OpR X (binaryOp .FloorDiv) E9:=zm
def Ao:OpR X (binaryOp .Pow) Fa:=Bz
def Ba:OpR X (compareOp .Gt) Gs:=Es
def Bb:OpR X (compareOp .GtE) Fb:=Et
def mP:LU K Fc Gu:=by
 intro O H x a Q Q' dom fx q k;unfold Gu at q
 split at q
 .rename_i i;exact⟨i,fx.int,k _ H _ q (Gr.refl _) (.int _)⟩
 .exact q.elim
def xX{es:List Expr}{ct:Nat}{tp:Pos}(K:b_)(e:X.K=K){a:Expr}{ta:TA}{p pos:Pos}(hg:Gl X "enumerate")(hm:X.mg "enumerate"=none)(ha:PA X [a] ta)(hs:starEach [a] X.env=[(false,eval a X.env)]:=by rfl) :
  PI X (.Tuple es ct tp) (.Call (.Name "enumerate" p) [a] [] pos) (zR K ta):=by subst e;exact zS hg hm ha hs
def Ap{es:List Expr}{ct:Nat}{tp:Pos}(K:b_)(e:X.K=K){a b:Expr}{ta:TA}{p pos:Pos}(hg:Gl X "zip")(hm:X.mg "zip"=none)(ha:PA X [a,b] ta)
  (hs:starEach [a,b] X.env=[(false,eval a X.env),(false,eval b X.env)]:=by rfl) (hs2:starEach [b] X.env=[(false,eval b X.env)]:=by rfl) :
  PI X (.Tuple es ct tp) (.Call (.Name "zip" p) [a,b] [] pos) (zT K ta):=by subst e;exact zU hg hm ha hs hs2
def lJ{ix:List (Option Nat)}{fs:List Nat}{i:Nat}(h:∀k∈fs,k∈vB ix)(hi:(vB ix).contains i=false):fs.contains i=false:=by
 cases e:fs.contains i with
 | false=>rfl
 | true =>
  have:=h i (Hd.mp e);rw [Hd.mpr this] at hi;cases hi
def lP(t:Value)(b c:Bool)(h1:Hm K t (.type "list")=some b)(h2:Hm K t (.type "tuple")=some c):Iv K t [.type "list",.type "tuple"]=some (b || c):=by
 simp only [Iv,h1,h2];cases b <;> cases c <;> rfl
noncomputable def CU(c:FN)(es:List D)(pr:PTA):PTE:=λρ Q=>pr ρ λas ρ1=>match avD as with
 | some ds=>c (ds++es) λr=>Q r ρ1
 | none=>False
def xY{c:FN}{vs0:List V}{ds:List D}(hd:∀{O:Addr->Prop}{H:Hp},FVs K O H vs0 ds)(h:LAs K tr pr):LE K (dB (spP K c) vs0 E0 tr) (CU c ds pr):=λA ρ σ H Q Q' R q k=>h A ρ σ H _ _ R q λvs H1 as ρ1 q1 f1 R1 o1=>by
 split at q1
 .rename_i es e;exact⟨OO A ρ1 σ,_,_,R1.dom2,(o1.avD e).append hd,q1,λr qr v H' g ov=>k v H' r ρ1 qr (f1.trans g.fr) ((ov.out R1 g).h0 f1.dm)⟩
 .exact q1.elim
def Fd{c:FN}{n:Nat}(hn:∀ds Q,c ds Q->ds.length=n){vs:List V}{H:Hp}{Q:VK}{E:XK}(h:spP K c vs H Q E):vs.length=n:=by
 obtain⟨O,ds,Qc,_,f,hq,_⟩:=h;rw [f.length];exact hn ds Qc hq
def Gv{c:FR}{n:Nat}(hn:∀p ds Q,c p ds Q->ds.length+1=n){vs:List V}{H:Hp}{Q:VK}{E:XK}(h:spR K c vs H Q E):vs.length=n:=by
 obtain⟨A,a,p,ws,ds,Qc,rfl,_,_,_,_,f,hq,_⟩:=h;rw [length_cons,f.length];exact hn p ds Qc hq
abbrev CV(pp:PTS)(n:Nat)(ds:List D)(Q:PV->Prop):Prop:=pp { nx:=λ_=>Q (.dat .non),rt:=λp _=>Q p } (cw n (ds.map .dat))
abbrev Fe(pp:PTS)(n:Nat)(p:PV)(ds:List D)(Q:PV->PV->Prop):Prop:=pp { nx:=A9 Q (.dat .non),rt:=A9 Q } (cw n (p::ds.map .dat))
end
end L2
namespace L2
def Cal.imp{P:PySem.Program}{w:PySem.World}{K:b_}{mg:PySem.Str->Option PySem.Value}{base:PySem.Heap}{k:Nat}{x:PySem.Str}{ps:List PySem.Str}{sp sp':Sp}(C:Cal P w K mg base k x ps sp)(h:∀vs H Q E,sp' vs H Q E->sp vs H Q E):Cal P w K mg base k x ps sp':=by
 obtain⟨f,fd,F,r⟩:=C.ex;exact⟨f,fd,F.imp h,r⟩
end L2
namespace L2
open PySem PySem.Spec PyProof.Rows
def cfm{ix:List (Option Nat)}{ρ1:PSt}{n:Nat}{it:Nat->D}{g:PTG}{pt:PTT}{pe:PTE}{Q:PKt}(T:PSt->Prop)(f:Nat->Option D)(h0:T (bO ix ρ1))
  (hs:∀k τ d,k<n->d=it k->T τ->∀(K1:D->PSt->Prop) (K2:PSt->Prop),(∀d τ',f k=some d->T τ'->K1 d τ')->(∀τ',f k=none->T τ'->K2 τ')->g (.dat d) τ λτ2=>pt τ2 λok τ3=>iG ok (pe τ3 λp τ4=>K1 p.d τ4) (K2 τ3))
  (hq:∀τ,T τ->Q (.own ((i_ n).filterMap f)) (ei ix ρ1 τ)) :
  pL ix ρ1 n it g pt pe Q:=by
 refine⟨λk ys τ=>ys=(i_ k).filterMap f/\T τ,⟨rfl,h0⟩,λk ys τ dd hk ed ⟨e,t⟩=>?_,λys τ ⟨e,t⟩=>by rw [e];exact hq τ t⟩
 have r:(i_ (k+1)).filterMap f=(i_ k).filterMap f++(f k).toList:=by
  rw [Kz,filterMap_append]
  cases e:f k with
  | none=>rw [show [k].filterMap f=[] by simp [e]];rfl
  | some d=>rw [show [k].filterMap f=[d] by simp [e]];rfl
 refine hs k τ dd hk ed t (λd τ'=>(ys++[d]=(i_ (k+1)).filterMap f/\T τ')) (λτ'=>(ys=(i_ (k+1)).filterMap f/\T τ')) (λd τ' h t'=>⟨?_,t'⟩) (λτ' h t'=>⟨?_,t'⟩)
 .rw [r,e,h];rfl
 .rw [r,e,h];simp
def tN{ix:List (Option Nat)}{ρ1:PSt}{n:Nat}{it:Nat->D}{g:PTG}{pe:PTE}{Q:PKt}(T:PSt->Prop)(f:Nat->D)(h0:T (bO ix ρ1))
  (hs:∀k τ d,k<n->d=it k->T τ->∀K1:D->PSt->Prop,(∀τ',T τ'->K1 (f k) τ')->g (.dat d) τ λτ2=>pe τ2 λp τ4=>K1 p.d τ4)
  (hq:∀τ,T τ->Q (.own ((i_ n).map f)) (ei ix ρ1 τ)) :
  pL ix ρ1 n it g yN pe Q:=by
 refine cfm T (λk=>some (f k)) h0 (λk τ d hk ed t K1 K2 k1 k2=>?_) λτ t=>?_
 .exact hs k τ d hk ed t K1 λτ' t'=>k1 _ τ' rfl t'
 .have:(i_ n).filterMap (λk=>some (f k))=(i_ n).map f:=by rw [<- filterMap_eq_map];rfl
  rw [this];exact hq τ t
def iS{β:Type}(f:D->β)(ds:List D):(i_ ds.length).map (λk=>f (itD ds k))=ds.map f:=by
 apply JH;intro i;rw [q_,q_]
 by_cases h:i<ds.length
 .rw [Ie h,vA h];rfl
 .rw [G_ (by rw [Hs];omega),G_ (by omega)];rfl
def fo{β:Type}(f:Nat->β)(l:List Nat):(i_ l.length).map (λk=>f (l.getD k 0))=l.map f:=by
 apply JH;intro i;rw [q_,q_]
 by_cases h:i<l.length
 .rw [Ie h];show some (f (l.getD i 0))=_;rw [o_,gV h];rfl
 .rw [G_ (by rw [Hs];omega),G_ (by omega)];rfl
noncomputable def pw(ws:List (List Nat))(k:Nat):List Nat:=ws.getD k []
def gQ{ws:List (List Nat)}{k:Nat}(h:k<ws.length):ws[k]?=some (pw ws k):=by unfold pw;rw [o_,gV h];rfl
def fT{ws:List (List Nat)}{k:Nat}(h:k<ws.length):pw ws k∈ws:=F_ (gQ h)
def gf{ws:List (List Nat)}{k:Nat}(h:k<(ws.map D.str).length):itD (ws.map D.str) k=.str (pw ws k):=fS (by rw [q_,gQ (by rwa [length_map] at h)];rfl)
def nQ{ns:List Int}{k:Nat}(h:k<(ns.map D.int).length):itD (ns.map D.int) k=.int (ns.getD k 0):=fS (by
 have h:k<ns.length:=by rwa [length_map] at h
 rw [q_,o_,gV h];rfl)
def bW{ws:List (List Nat)}{i:Int}{k:Nat}(h:k<ws.length)(e:i=(k:Int)):atI (ws.map D.str) i=some (.str (pw ws k)):=kB (j:=k) (by rw [q_,gQ h];rfl) e
noncomputable def Pc(m:Nat)(w:List Nat):Prop:=0<w.length/\w.length<=m/\Lts w
noncomputable def Pcs(m:Nat)(ws:List (List Nat)):Prop:=∀w∈ws,Pc m w
def Pcs.app{m:Nat}{ws:List (List Nat)}{w:List Nat}(h:Pcs m ws)(h':Pc m w):Pcs m (ws++[w]):=λv hv=>by
 rcases Ij.mp hv with z|z
 .exact h v z
 .rw [y_.mp z];exact h'
noncomputable def ltB(c:Nat):Bool:=decide (97<=c) && decide (c<=122)
noncomputable def xZ:D->Int->Int->Bool
 | .str l,a,b=>(decide (a<=(l.length:Int)) && decide ((l.length:Int)<=b)) && l.all ltB
 | _,_,_=>false
def nR(l:List Nat)(a b:Int):xZ (.str l) a b=((decide (a<=(l.length:Int)) && decide ((l.length:Int)<=b)) && l.all ltB):=rfl
noncomputable def Ff:D->Nat
 | .str l=>l.length
 | _=>0
def vI{l:List Nat}:l.all ltB=true ↔ Lts l:=by
 rw [Hj];unfold Lts ltB
 constructor
 .intro h c hc;have:=h c hc;rw [and_eq_true,decide_eq_true_eq,decide_eq_true_eq] at this;exact this
 .intro h c hc;rw [and_eq_true,decide_eq_true_eq,decide_eq_true_eq];exact h c hc
def vJ{w:List Nat}:xZ (.str w) 1 60=true ↔ Pc 60 w:=by
 unfold xZ Pc;rw [and_eq_true,and_eq_true,decide_eq_true_eq,decide_eq_true_eq,vI]
 constructor
 .rintro⟨⟨h1,h2⟩,h3⟩;exact⟨by omega,by omega,h3⟩
 .rintro⟨h1,h2,h3⟩;exact⟨⟨by omega,by omega⟩,h3⟩
def dZ(ls:List Nat):(ls.map λc=>[c]).flatten=ls:=by
 induction ls with
 | nil=>rfl
 | cons c r ih=>rw [map_cons,flatten_cons,ih];rfl
def sw(ls:List Nat):ls.map (λc=>D.str [c])=(ls.map λc=>[c]).map D.str:=by rw [map_map];rfl
def qK(i j:Nat):(!decide (([j]:List Nat)<[i]))=decide (i<=j):=by
 by_cases h:i<=j
 .rw [decide_eq_true h]
  have:¬ ([j]:List Nat)<[i]:=by
   rw [cons_lt_cons_iff]
   rintro (z|⟨_,z⟩)
   .omega
   .exact absurd z (List.lt_irrefl _)
  rw [decide_eq_false this];rfl
 .rw [decide_eq_false h]
  have:([j]:List Nat)<[i]:=by
   rw [cons_lt_cons_iff];exact .inl (by omega)
  rw [decide_eq_true this];rfl
theorem nS:∀ns:List Int,D.pys (ns.map .int)=ns.map K0
 | []=>rfl
 | n::r=>by rw [map_cons,map_cons,<- nS r];rfl
theorem mQ:∀ns:List Int,D.plains (ns.map .int)=true
 | []=>rfl
 | n::r=>by rw [map_cons];show (true && D.plains (r.map .int))=true;rw [mQ r];rfl
noncomputable def Sh(d:D):Prop:=d.plain=true/\IG d.py=true
def vy.of{a b:D}(h:Sh a)(h':Sh b):vy a b:=⟨h.1,h'.1,h.2,h'.2⟩
def Sh.lstI(ns:List Int):Sh (.lst (ns.map .int)):=⟨mQ ns,by show IG (.list (D.pys _))=true;rw [nS];exact (qC.list (vh ns)).shaped (by decide)⟩
def sy{d:D}(h:Sh d):deq d d=true:=xJ h.2
noncomputable def lQ(sep:List Nat):List (List Nat)->List Nat
 | []=>[]
 | [w]=>w
 | w::v::r=>w++sep++lQ sep (v::r)
theorem vK(sep:List Nat):∀ws:List (List Nat),PySem.Str.join (S sep) (ws.map S)=S (lQ sep ws)
 | []=>rfl
 | [w]=>rfl
 | w::v::r=>by
  show S w++S sep++PySem.Str.join (S sep) ((v::r).map S)=S (w++sep++lQ sep (v::r));rw [vK sep (v::r),tu,tu]
theorem pQ(sep:List Nat):∀ws:List (List Nat),(lQ sep ws).length<=ws.flatten.length+ws.length*sep.length
 | []=>Iy _
 | [w]=>by show w.length<=_;rw [flatten_cons,flatten_nil,HE];omega
 | w::v::r=>by
  have ih:=pQ sep (v::r);show (w++sep++lQ sep (v::r)).length<=_;rw [flatten_cons,length_append,length_append,length_append];rw [length_cons (as:=v::r),succ_mul];omega
section
variable {K:b_}{X:Cx}
noncomputable def yT(K:b_):V->List V->Hp->VK->Prop:=λx xs H Q=>∃(p:Addr) (sep:List Nat) (ws:List (List Nat)),x=.str (S sep)/\xs=[.ref p]/\SqL K H p (ws.map tx)/\ws.flatten.length+ws.length*sep.length<=1000000/\Q (.str (S (lQ sep ws))) H
def iT(K:b_)(e:X.K=K):MtR X "str.join" (yT K):=by
 subst e;intro pins s σ H x xs v us Q I rx rs h;obtain⟨p,sep,ws,rfl,rfl,hS,hz,q⟩:=h;obtain⟨t,rfl⟩:=rx;obtain⟨u,rfl,ru⟩:=gK rs;cases (show u=k_ p from ru);obtain⟨its,rv,pl,_⟩:=I.list hS
 refine join_list pl.isList (by simpa using vp rv) ?_ λt' k=>?_
 .rw [map_map,dC]
  have e1:(ws.map ((λy:Str=>y.length) ∘ S)).sum=ws.flatten.length:=by
   rw [length_flatten];exact congrArg List.sum (La λw _=>dC w)
  rw [e1];simp only [length_map];omega
 .refine⟨.str (S (lQ sep ws)),H,I.tok _,⟨t',?_⟩,q⟩;rw [<- vK];exact congrArg (λz=>Jv z t') (StrLaws.glued_eq_join _ _)
noncomputable def yU:FM
 | [],[.lst ds],Q=>∃ws:List (List Nat),ds=ws.map .str/\ws.flatten.length<=1000000/\Q (.dat (.str ws.flatten))
 | c::sep,[.lst ds],Q=>∃ws:List (List Nat),ds=ws.map .str/\ws.flatten.length+ws.length*(c::sep).length<=1000000/\Q (.dat (.str (lQ (c::sep) ws)))
 | _,_,_=>False
theorem pR:∀ws:List (List Nat),lQ [] ws=ws.flatten
 | []=>rfl
 | [w]=>by show w=w++[];rw [HE]
 | w::v::r=>by show w++[]++lQ [] (v::r)=_;rw [pR (v::r),HE];rfl
def iU:LM K (yT K) yU:=by
 intro O H l xs as Q Q' dom hl fs q k;unfold yU at q
 split at q
 .obtain⟨ws,rfl,hw,q⟩:=q
  cases fs with
  | cons a b =>
   cases b;obtain⟨p,ys,rfl,e1,f1⟩:=a.lst;rw [f1.strs] at e1;refine⟨p,[],ws,rfl,rfl,SqL.of e1,by rw [length_nil,mul_zero];exact hw,?_⟩;rw [pR];exact k _ H _ q (Gr.refl _) (.str _ hw)
 .obtain⟨ws,rfl,hw,q⟩:=q
  cases fs with
  | cons a b =>
   cases b;obtain⟨p,ys,rfl,e1,f1⟩:=a.lst;rw [f1.strs] at e1;exact⟨p,_,ws,rfl,rfl,SqL.of e1,hw,k _ H _ q (Gr.refl _) (.str _ (E_ (pQ _ _) hw))⟩
 .exact q.elim
end
section
variable {X:Cx}{K:b_}
noncomputable def Fg:PTE:=λρ Q=>Q (.dat (.dic [] [])) ρ
def Aq:LE K yH Fg:=λA ρ σ H Q Q' R q k=>λp hp =>
 k _ _ (.dat (.dic [] [])) ρ q (Fr.new hp) ⟨R.grow hp,.dic (R.oo hp) aB rfl .nil⟩
noncomputable def vL(neg:Bool):R2:=λx y H Q=>∃a b,x=.ref a/\y=.ref b/\H a=some (.dK [])/\H b=some (.dK [])/\Q (.bl (!neg)) H
def x0(hu:X.A.units+64<cLine):OpR X (compareOp .Eq) (vL false):=by
 intro pins s σ H x y v u Q I rx ry ⟨a,b,e1,e2,h1,h2,q⟩;subst e1 e2;cases rx;cases ry;obtain⟨_,y1,vs,r1,p1⟩:=(show bu X.prog X.w H s.heap a (.dK []) from I.hok a _ h1)
 obtain⟨_,y2,ws,r2,p2⟩:=(show bu X.prog X.w H s.heap b (.dK []) from I.hok b _ h2)
 cases r1;cases r2;exact PySem.W.keq_eq (r:=true) y1 y2 p1 p2 (by omega) (λ_=>.nil) ⟨.bl true,H,I,rfl,q⟩
def x4(hu:X.A.units+64<cLine):OpR X (compareOp .NotEq) (vL true):=by
 intro pins s σ H x y v u Q I rx ry ⟨a,b,e1,e2,h1,h2,q⟩;subst e1 e2;cases rx;cases ry;obtain⟨_,y1,vs,r1,p1⟩:=(show bu X.prog X.w H s.heap a (.dK []) from I.hok a _ h1)
 obtain⟨_,y2,ws,r2,p2⟩:=(show bu X.prog X.w H s.heap b (.dK []) from I.hok b _ h2)
 cases r1;cases r2;exact PySem.W.keq_ne (r:=true) y1 y2 p1 p2 (by omega) (λ_=>.nil) ⟨.bl false,H,I,rfl,q⟩
noncomputable def tO(K:b_)(neg:Bool):R2:=λx y H Q=>Cf K neg x y H Q\/vL neg x y H Q
def kO(K:b_)(e:X.K=K)(hu:X.A.units+64<cLine):OpR X (compareOp .Eq) (tO K false):=OpR.or (GP K e hu) (x0 hu)
def pS(K:b_)(e:X.K=K)(hu:X.A.units+64<cLine):OpR X (compareOp .NotEq) (tO K true):=OpR.or (GQ K e hu) (x4 hu)
noncomputable def Gw:F2
 | .dic [] [],.dic [] [],Q=>Q (.dat (.bl true))
 | a,b,Q=>fEq a b Q
noncomputable def D4:F2
 | .dic [] [],.dic [] [],Q=>Q (.dat (.bl false))
 | a,b,Q=>fNe a b Q
def FVc.dic0{O:Addr->Prop}{H:Hp}{v:V}(h:FVc K O H v (.dic [] [])):∃a,v=.ref a/\H a=some (.dK []):=by
 obtain⟨a,kvs,rfl,e,m,f⟩:=h.dic
 cases kvs with
 | nil=>exact⟨a,rfl,e⟩
 | cons x r=>cases m
def gi:LO K (tO K false) Gw:=by
 intro O H x y a b Q Q' dom fx fy q k;unfold Gw at q
 split at q
 .obtain⟨a,rfl,e1⟩:=fx.dic0;obtain⟨b,rfl,e2⟩:=fy.dic0;exact .inr ⟨a,b,rfl,rfl,e1,e2,k _ H _ q (Gr.refl _) (.bl _)⟩
 .exact .inl (ET O H x y _ _ Q Q' dom fx fy q k)
def jT:LO K (tO K true) D4:=by
 intro O H x y a b Q Q' dom fx fy q k;unfold D4 at q
 split at q
 .obtain⟨a,rfl,e1⟩:=fx.dic0;obtain⟨b,rfl,e2⟩:=fy.dic0;exact .inr ⟨a,b,rfl,rfl,e1,e2,k _ H _ q (Gr.refl _) (.bl _)⟩
 .exact .inl (EU O H x y _ _ Q Q' dom fx fy q k)
end
theorem vM:∀ds:List D,D.pys ds=ds.map D.py
 | []=>rfl
 | d::r=>by rw [map_cons,<- vM r];rfl
theorem mR:∀ds:List D,D.plains ds=ds.all D.plain
 | []=>rfl
 | d::r=>by rw [all_cons,<- mR r];rfl
noncomputable def Fl(n:Nat)(d:D):Prop:=d.plain=true/\qC n d.py
def Fl.sh{n:Nat}{d:D}(h:Fl n d)(hn:n<=64):Sh d:=⟨h.1,h.2.shaped hn⟩
def Fl.mono{n m:Nat}{d:D}(h:Fl n d)(hn:n<=m):Fl m d:=⟨h.1,h.2.1,E_ h.2.2 hn⟩
def Fl.int{n:Nat}(i:Int):Fl n (.int i):=(show Fl 0 (.int i) from ⟨rfl,qC.int i⟩).mono (Iy _)
def Fl.bl{n:Nat}(b:Bool):Fl n (.bl b):=⟨rfl,by simp [D.py,JJ],by simp [D.py,Kj]⟩
def Fl.non{n:Nat}:Fl n .non:=⟨rfl,by simp [D.py,JJ],by simp [D.py,Kj]⟩
def Fl.str{n:Nat}{l:List Nat}(h:∀c∈l,c<128):Fl n (.str l):=by
 refine⟨rfl,?_,by simp [D.py,Kj]⟩;simp only [D.py,JJ,PyData.strOk,S];rw [Array.all_eq_true];intro i hi;have:=h l[i] (getElem_mem _);simp only [getElem_toArray,decide_eq_true_eq];omega
def Fl.lst{n:Nat}{ds:List D}(h:∀d∈ds,Fl n d):Fl (n+1) (.lst ds):=by
 refine⟨?_,?_⟩
 .show D.plains ds=true;rw [mR,Hj];exact λd hd=>(h d hd).1
 .show qC (n+1) (.list (D.pys ds));rw [vM];refine qC.list λd hd=>?_;obtain⟨x,hx,rfl⟩:=Iz.mp hd;exact (h x hx).2
def Fl.ints{n:Nat}(zs:List Int):∀d∈zs.map D.int,Fl n d:=λd hd=>by
 obtain⟨i,_,rfl⟩:=Iz.mp hd;exact Fl.int i
noncomputable def lR:D->Bool
 | .int _=>true
 | _=>false
noncomputable def vN:D->Bool
 | .lst _=>true
 | .tup _=>true
 | _=>false
noncomputable def aC:D->List D
 | .lst ds=>ds
 | .tup ds=>ds
 | _=>[]
def toI:D->Int
 | .int i=>i
 | _=>0
noncomputable def c5(d:D)(m:Int):Bool:=vN d && (decide (((aC d).length:Int)=m) && (aC d).all lR)
noncomputable def Srt(d:D):Prop:=d.sort=true/\∀x∈aC d,x.sort=true
theorem nU:∀{ds:List D},ds.all lR=true->ds=(ds.map toI).map D.int
 | [],_=>rfl
 | d::r,h=>by
  rw [all_cons,and_eq_true] at h;rw [map_cons,map_cons,<- nU h.2];cases d <;> first|rfl|cases h.1
def fq{ds:List D}{k:Nat}(h:k<ds.length):itD ds k∈ds:=F_ (vA h)
section
variable {K:b_}{te:TE}{pe:PTE}{tr:TA}{pr:PTA}
noncomputable def Ar(c:FR)(pe:PTE)(pr:PTA):PTE:=λρ Q=>pe ρ λp ρ1=>match p with
 | .own es=>pr ρ1 λas ρ2=>(match avD as with
  | some ds=>c (.own es) ds λr _=>Q (.dat r.d) ρ2
  | none=>False)
 | _=>False
def vO{c:FR}(h1:LE K te pe)(h2:LAs K tr pr):LE K (dB (spR K c) [] E0 (aW te tr)) (Ar c pe pr):=λA ρ σ H Q Q' R q k=>h1 A ρ σ H _ _ R q λv H1 p ρ1 q1 f1 o1=>by
 cases p with
 | dat d=>exact q1.elim
 | ins c ns ds=>exact q1.elim
 | odc ks ds=>exact q1.elim
 | own es =>
  obtain⟨a,xs,rfl,na,n0,e,R1,fv⟩:=o1;refine h2 (cJ A a) ρ1 σ H1 _ _ R1 q1 λvs H2 as ρ2 q2 f2 R2 o2=>?_
  split at q2
  .rename_i ds ed;have e2:H2 a=some (.lst xs):=f2.kp a _ (R1.sep a (.inr rfl)) e;have fv2:=fv.keeps (f2.keeps (A:=cJ A a));have nw:¬ Wr ρ2 σ a:=R2.sep a (.inr rfl)
   have oeq:cJ (OO A ρ2 σ) a=OO (cJ A a) ρ2 σ:=funext λb=>propext ⟨λz=>by
    rcases z with (z|z)|z
    .exact .inl (.inl z)
    .exact .inr z
    .exact .inl (.inr z),λz=>by
    rcases z with (z|z)|z
    .exact .inl (.inl z)
    .exact .inr z
    .exact .inl (.inr z)⟩
   rw [HE];refine⟨OO A ρ2 σ,a,.own es,vs,ds,_,rfl,rfl,λb z=>R2.dom2 b (z.imp .inl id),λz=>z.elim na nw,by rw [oeq];exact⟨a,xs,rfl,e2,fv2⟩,by rw [oeq];exact o2.avD ed,q2,λr p' qr ow' v H' kp ha rs' ov hx=>?_⟩;rw [oeq] at ov
   have fvr:FV K (OO (cJ A a) ρ2 σ) H' v r.d:=by
    cases r with
    | dat d=>exact ov
    | own es =>
     obtain⟨w,ys,rfl,ew0,ew,f⟩:=ov;exact .lst (λz=>R2.dom2 w z ew0) ew (f.keeps (aF.less λb z=>.inl z))
    | ins c ns es =>
     obtain⟨w,dx,fs,rfl,ew0,ew,m,f⟩:=ov;exact .obj (λz=>R2.dom2 w z ew0) ew m (f.keeps (aF.less λb z=>.inl z))
    | odc ks es =>
     obtain⟨w,kvs,rfl,ew0,ew,m,f⟩:=ov;exact .dic (λz=>R2.dom2 w z ew0) ew m (f.keeps (aF.less λb z=>.inl z))
   have kk:aF (OO (cJ A a) ρ2 σ) H2 (OO A ρ2 σ) H':=λb o n hb=>⟨λz=>n (z.imp .inl id),kp b o (λz=>n (.inl (.inr z))) hb⟩
   have kl:aF (OO (cJ A a) ρ2 σ) H' (OO A ρ2 σ) H':=aF.less λb z=>z.imp .inl id;have ne:∀b,Wr ρ2 σ b->b≠a:=λb z e=>nw (by rw [<- e];exact z)
   have R3:Rel K A ρ2 σ H':=by
    refine⟨R2.len,λi p e=>?_,R2.dj,λb z=>?_,λb z=>R2.sep b (.inl z)⟩
    .obtain⟨v,s,rs⟩:=R2.get i p e;refine⟨v,s,?_⟩
     cases p with
     | dat d=>exact FV.keeps kk rs
     | own es =>
      obtain⟨w,ys,rfl,ew,f⟩:=rs;exact⟨w,ys,rfl,kp w _ (ne w ⟨i,_,e,rfl,s⟩) ew,f.keeps kk⟩
     | ins c ns es =>
      obtain⟨w,dx,fs,rfl,ew,m,f⟩:=rs;exact⟨w,dx,fs,rfl,kp w _ (ne w ⟨i,_,e,rfl,s⟩) ew,m,f.keeps kk⟩
     | odc ks es =>
      obtain⟨w,kvs,rfl,ew,m,f⟩:=rs;exact⟨w,kvs,rfl,kp w _ (ne w ⟨i,_,e,rfl,s⟩) ew,m,f.keeps kk⟩
    .cases eb:H2 b with
     | none=>exact absurd eb (R2.dom b (.inl z))
     | some o=>rw [kp b o (λy=>na (by rw [<- y];exact z)) eb];exact nofun
   have f12:=f1.trans f2
   refine k v H' (.dat r.d) ρ2 qr ⟨λb o n hb=>?_,λb hb=>?_,f12.ow⟩ ⟨R3,FV.keeps kl fvr⟩
   .exact kp b o (aH hb n0) (f12.kp b o n hb)
   .cases eb:H2 b with
    | none=>exact absurd eb (f12.dm b hb)
    | some o=>rw [kp b o (λy=>hb (by rw [y];exact n0)) eb];exact nofun
  .exact q2.elim
end
section
variable {X:Cx}{K:b_}{te:TE}{pe:PTE}
noncomputable def yV(i:Nat)(pe:PTE):PTE:=λρ Q=>match ρ[i]? with
 | some (some (.own _))=>pe ρ λp ρ1=>(match ρ1[i]?,p with
  | some (some (.own ds)),.dat (.int j)=>∃k d,(ixN ds.length j=some k/\ds.length<=1000000)/\ds[k]?=some d/\Q (.dat d) (ρ1.set i (some (.own (ds.eraseIdx k))))
  | _,_=>False)
 | _=>False
theorem FVs.eraseIdx{O:Addr->Prop}{H:Hp}:∀{xs:List V}{ds:List D} (k:Nat),FVs K O H xs ds->FVs K O H (xs.eraseIdx k) (ds.eraseIdx k)
 | _,_,_,.nil=>.nil
 | _,_,0,.cons a b=>b
 | _,_,k+1,.cons a b=>.cons a (FVs.eraseIdx k b)
def x5{i:Nat}(h:LE K te pe):LE K (tBM K "list" yE (bw i) (aW te eR)) (yV i pe):=λA ρ σ H Q Q' R q k=>by
 unfold yV at q
 split at q
 .rename_i ds0 e0;obtain⟨a0,xs0,s0,g0,f0⟩:=R.ownAt e0;refine⟨_,s0,.inl ⟨rfl,xs0,SqL.of g0⟩,h A ρ σ H _ _ R q λv H1 p ρ1 q1 f1 o1=>?_⟩;obtain⟨R1,fv⟩:=o1.frz
  split at q1
  .rename_i ds j e1;obtain⟨a,xs,s,g,f⟩:=R1.ownAt e1;rw [s0] at s;cases s;obtain⟨m,d,⟨hm,hl⟩,hd,q1⟩:=q1;obtain⟨w,hw,fw⟩:=f.getD hd;cases (show FV K _ H1 v (.int j) from fv);obtain⟨t1,t2,t3,t4⟩:=qv hm;obtain⟨R2,f2⟩:=R1.lstw (es:=ds.eraseIdx m) (ys:=xs.eraseIdx m) e1 s0 (f.eraseIdx m);have hx:xs.length=ds.length:=f.length;exact⟨a0,xs,j,m,w,rfl,rfl,g,by omega,by omega,by rw [hx];exact t1,hw,k _ _ _ _ q1 (f1.trans f2) ⟨R2,(fw.keeps f2.keeps)⟩⟩
  .exact q1.elim
 .exact q.elim
end
abbrev lc2(elt t1 i1:Expr)(f1:List Expr)(t2 i2:Expr)(f2:List Expr)(scope:Scope)(pos:Pos):Expr:=.ListComp elt [⟨t1,i1,f1,0⟩,⟨t2,i2,f2,0⟩] scope pos
noncomputable def tP(e i2:Expr)(acc:Value)(env:Env):Sem Unit:=do
 let x <- eval i2 env
 standAt i2.pos
 let x <- foldedSetIterable i2 env x
 let _ <- runOwn (.compStart e 1 (<- holding [x] (pyIter x)) acc env) env
noncomputable def vP(elt:Expr)(acc:Value)(env:Env):Sem Unit:=do let _ <- call (.builtin "list.append") [acc,<- eval elt env]
theorem tQ(elt t1 i1:Expr)(f1:List Expr)(t2 i2:Expr)(f2:List Expr)(scope:Scope)(pos:Pos)(it acc:Value)(env:Env) :
  compTurn (lc2 elt t1 i1 f1 t2 i2 f2 scope pos) 0 it acc env=(do
   standAt i1.pos
   match <- pyNext it with
   | none=>pure (.done .next)
   | some v =>
    letOwnedTupleGo t1 it v
    assign t1 env v
    let mut ok:=true
    for c in f1 do
     if ok then ok <- isTrue c env (eval c env)
    if ok then
     let x <- eval i2 env
     standAt i2.pos
     let x <- foldedSetIterable i2 env x
     let _ <- runOwn (.compStart (lc2 elt t1 i1 f1 t2 i2 f2 scope pos) 1 (<- holding [x] (pyIter x)) acc env) env
    again (.compLoop (lc2 elt t1 i1 f1 t2 i2 f2 scope pos) 0 it acc env)):=by rfl
def tR{α:Type}(e i2:Expr)(acc:Value)(env:Env)(k:Sem α):(eval i2 env >>= λx=>standAt i2.pos >>= λ_=>foldedSetIterable i2 env x >>= λx=>holding [x] (pyIter x) >>= λit=>runOwn (.compStart e 1 it acc env) env >>= λ_=>k)=(tP e i2 acc env >>= λ_=>k):=by
 unfold tP;simp only [bind_assoc,pure_bind]
theorem tS(elt t1 i1:Expr)(f1:List Expr)(t2 i2:Expr)(f2:List Expr)(scope:Scope)(pos:Pos)(it acc:Value)(env:Env) :
  compTurn (lc2 elt t1 i1 f1 t2 i2 f2 scope pos) 1 it acc env=(do
   standAt i2.pos
   match <- pyNext it with
   | none=>pure (.done .next)
   | some v =>
    letOwnedTupleGo t2 it v
    assign t2 env v
    let mut ok:=true
    for c in f2 do
     if ok then ok <- isTrue c env (eval c env)
    if ok then
     (vP elt acc env)
    again (.compLoop (lc2 elt t1 i1 f1 t2 i2 f2 scope pos) 1 it acc env)):=by rfl
section
variable {prog:r_}{w:World}{A:w_}{R:Result->d_->Prop}{s:d_}
theorem lS{elt t1 i1 t2 i2:Expr}{f1 f2:List Expr}{scope:Scope}{pos:Pos}{it acc:Value}{env:Env}(I:Nat->d_->Prop)
  (turn:∀n s,I n s->wpAny (model prog w) A (pyNext it) (λr s₁=>match r with
   | none=>R (.ok .next) s₁
   | some v=>wpAny (model prog w) A (letOwnedTupleGo t1 it v) (λ_ s₂=>wpAny (model prog w) A (assign t1 env v) (λ_ s₃ =>
     wpAny (model prog w) A (forIn f1 true λc r=>if r=true then do let ok <- isTrue c env (eval c env);pure (HS ok) else pure (HS r)) (λok s₄ =>
      if ok=true then wpAny (model prog w) A (tP (lc2 elt t1 i1 f1 t2 i2 f2 scope pos) i2 acc env) (λ_ s₆=>∃m,m<n/\I m s₆) (λ_ _=>False) s₄
      else ∃m,m<n/\I m s₄) (λ_ _=>False) s₃) (λ_ _=>False) s₂) (λ_ _=>False) s₁) (λ_ _=>False) s)
  (n:Nat) (h:I n s) :
  codeAny (model prog w) A (.compLoop (lc2 elt t1 i1 f1 t2 i2 f2 scope pos) 0 it acc env) R s:=by
 refine codeAny_loop rfl I (λn s hI=>?_) n h;show wpAny _ A ((compTurn (lc2 elt t1 i1 f1 t2 i2 f2 scope pos) 0 it acc env).onRaise (λx=>do noteFrame x env;theTreesLotGoes x)) _ _ s;refine wpAny_noted ?_;rw [tQ];refine cy (HP (cy (Hg (turn n s hI) (λr s₁ h₁=>?_) λ_ _ h'=>h'.elim)))
 cases r with
 | none=>exact e_ h₁
 | some v =>
  refine cy (Hg h₁ (λ_ s₂ h₂=>?_) λ_ _ h'=>h'.elim);refine cy (Hg h₂ (λ_ s₃ h₃=>cy (Hg h₃ (λok s₄ h₄=>?_) λ_ _ h'=>h'.elim)) λ_ _ h'=>h'.elim)
  cases ok with
  | false=>exact e_ ⟨rfl,h₄⟩
  | true =>
   have e:=tR (lc2 elt t1 i1 f1 t2 i2 f2 scope pos) i2 acc env (again (.compLoop (lc2 elt t1 i1 f1 t2 i2 f2 scope pos) 0 it acc env));show wpAny _ _ (eval i2 env >>= λx=>standAt i2.pos >>= λ_=>foldedSetIterable i2 env x >>= λx=>holding [x] (pyIter x) >>= λit'=>runOwn (.compStart (lc2 elt t1 i1 f1 t2 i2 f2 scope pos) 1 it' acc env) env >>= λ_=>again (.compLoop (lc2 elt t1 i1 f1 t2 i2 f2 scope pos) 0 it acc env)) _ _ _
   rw [e];exact cy (Hg h₄ (λ_ s₆ h₆=>e_ ⟨rfl,h₆⟩) λ_ _ h'=>h'.elim)
theorem lT{elt t1 i1 t2 i2:Expr}{f1 f2:List Expr}{scope:Scope}{pos:Pos}{it acc:Value}{env:Env}(I:Nat->d_->Prop)
  (turn:∀n s,I n s->wpAny (model prog w) A (pyNext it) (λr s₁=>match r with
   | none=>R (.ok .next) s₁
   | some v=>wpAny (model prog w) A (letOwnedTupleGo t2 it v) (λ_ s₂=>wpAny (model prog w) A (assign t2 env v) (λ_ s₃ =>
     wpAny (model prog w) A (forIn f2 true λc r=>if r=true then do let ok <- isTrue c env (eval c env);pure (HS ok) else pure (HS r)) (λok s₄ =>
      if ok=true then wpAny (model prog w) A (vP elt acc env) (λ_ s₆=>∃m,m<n/\I m s₆) (λ_ _=>False) s₄
      else ∃m,m<n/\I m s₄) (λ_ _=>False) s₃) (λ_ _=>False) s₂) (λ_ _=>False) s₁) (λ_ _=>False) s)
  (n:Nat) (h:I n s) :
  codeAny (model prog w) A (.compLoop (lc2 elt t1 i1 f1 t2 i2 f2 scope pos) 1 it acc env) R s:=by
 refine codeAny_loop rfl I (λn s hI=>?_) n h;show wpAny _ A ((compTurn (lc2 elt t1 i1 f1 t2 i2 f2 scope pos) 1 it acc env).onRaise (λx=>do noteFrame x env;theTreesLotGoes x)) _ _ s;refine wpAny_noted ?_;rw [tS];refine cy (HP (cy (Hg (turn n s hI) (λr s₁ h₁=>?_) λ_ _ h'=>h'.elim)))
 cases r with
 | none=>exact e_ h₁
 | some v =>
  refine cy (Hg h₁ (λ_ s₂ h₂=>?_) λ_ _ h'=>h'.elim);refine cy (Hg h₂ (λ_ s₃ h₃=>cy (Hg h₃ (λok s₄ h₄=>?_) λ_ _ h'=>h'.elim)) λ_ _ h'=>h'.elim)
  cases ok with
  | false=>exact e_ ⟨rfl,h₄⟩
  | true=>exact cy (Hg h₄ (λ_ s₆ h₆=>e_ ⟨rfl,h₆⟩) λ_ _ h'=>h'.elim)
def iV{elt t1 i1 t2 i2:Expr}{f1 f2:List Expr}{scope:Scope}{pos:Pos}{it acc:Value}{env:Env}
  (h0:codeAny (model prog w) A (.compLoop (lc2 elt t1 i1 f1 t2 i2 f2 scope pos) 1 it acc env) R s)
  (h:wpAny (model prog w) A (pyIter it) (λit' s'=>codeAny (model prog w) A (.compLoop (lc2 elt t1 i1 f1 t2 i2 f2 scope pos) 1 it' acc env) R s')
   (notedBy (model prog w) A env λx s'=>R (.error x) s') s) :
  codeAny (model prog w) A (.compStart (lc2 elt t1 i1 f1 t2 i2 f2 scope pos) 1 it acc env) R s:=by
 refine codeAny_of_tree ?_;show wpAny _ _ ((compStart (lc2 elt t1 i1 f1 t2 i2 f2 scope pos) 1 it acc env).onRaise (λx=>do noteFrame x env;standAt theWindowsPlace)) _ _ s;refine wpAny_notedAt ?_;unfold compStart;show wpAny _ _ (ask >>= _) _ _ s;refine cy (wpAny_askSetting (wpAny_ite ?_))
 split
 .first
   | exact cy (e_ (e_ (A_ rfl h0)))
   | exact e_ (A_ rfl h0)
 .first
   | exact cy (JP (cy (HP (cy (Hg h (λit' s' h'=>e_ (A_ rfl h')) λ_ _ x=>x)))))
end
abbrev TB:=St->Hp->(St->Hp->Prop)->Prop
noncomputable def PB(Y:Cx)(emit:Sem Unit)(tb:TB):Prop:=∀(pins:List (Addr×Obj)) (s:d_) (τ:St) (H:Hp) (N:St->Hp->Prop),Inv Y pins τ H s->tb τ H N ->
 wpAny (model Y.prog Y.w) Y.A emit (λ_ s'=>∃τ' H',Inv Y pins τ' H' s'/\N τ' H') (λ_ _=>False) s
noncomputable def As(te:TE)(D:Addr):TB:=λτ H N=>te τ H λv H6=>∃ys,H6 D=some (.lst ys)/\ys.length<sizeLine/\N τ (upd H6 D (.lst (ys++[v])))
noncomputable def At(wi:TI)(g:TG)(tts:TT)(tb:TB):TB:=λτ H N=>wi τ H λJ H6=>∃W:Nat->Nat->St->Hp->Prop,(∃n,W 0 n τ H6)/\∀j n τ3 H7,W j n τ3 H7 ->
 (J.stop j H7/\N τ3 H7)\/(J.go j H7/\∀y H8,J.yld j H7 y H8->g y τ3 H8 λτ4 H9=>tts τ4 H9 λok H10=>if ok=true then tb τ4 H10 (λτ5 H11=>∃n',n'<n/\W (j+1) n' τ5 H11) else ∃n',n'<n/\W (j+1) n' τ4 H10)
noncomputable def vQ(ix:List (Option Nat))(wi:TI)(g:TG)(tts:TT)(tb:Addr->TB):TE:=λσ H Q=>wi σ H λJ H1=>∀D,H1 D=none->∃W:Nat->Nat->St->Hp->Prop,(∃m,W 0 m (pq ix σ) (upd H1 D (.lst [])))/\∀i m τ H2,W i m τ H2 ->
 (J.stop i H2/\Q (.ref D) H2)\/(J.go i H2/\∀x H3,J.yld i H2 x H3->g x τ H3 λτ2 H4=>tts τ2 H4 λok H5=>if ok=true then tb D τ2 H5 (λτ6 H6=>∃m',m'<m/\W (i+1) m' τ6 H6)
  else ∃m',m'<m/\W (i+1) m' τ2 H5)
section
variable {Y:Cx}{elt t1 i1 t2 i2:Expr}{f1 f2:List Expr}{scope:Scope}{pos:Pos}{te:TE}{D:Addr}{wi:TI}{g:TG}{tts:TT}{tb:TB}
def Au(hx:Y.xe=λ_ _=>False)(he:PE Y elt te):PB Y (vP elt (.ref D) Y.env) (As te D):=by
 intro pins s τ H N I h;have h1:=he pins s τ H _ I h;rw [hx] at h1;unfold vP;refine cy (thn h1 λv s1 ⟨x,H1,I1,r1,ys,hD,hz,q⟩=>?_);have h2:=bU (X:=Y) pins s1 τ H1 (.ref D) [x] (.ref D) [v] (λ_ H'=>N τ H') I1 rfl (.cons r1 .nil) ⟨D,ys,x,rfl,rfl,hD,hz,q⟩;rw [hx] at h2;exact cy (thn h2 λ_ s2 ⟨_,H2,I2,_,q2⟩=>e_ ⟨τ,H2,I2,q2⟩)
def Av(hx:Y.xe=λ_ _=>False)(hc:Y.calm=true)(hi:PI Y t2 i2 wi)(hg:PG Y t2 g)(ht:PIf Y f2 tts)(hb:PB Y (vP elt (.ref D) Y.env) tb)(hs:∀x,foldedSetIterable i2 Y.env x=pure x:=by intro _;rfl) :
  PB Y (tP (lc2 elt t1 i1 f1 t2 i2 f2 scope pos) i2 (.ref D) Y.env) (At wi g tts tb):=by
 intro pins s τ H N I h;have h1:=hi pins s τ H _ I h;rw [hx] at h1;unfold tP;refine cy (thn h1 λv s1 h1=>cy (HP (cy (Ld (hs v) (cy (HB (thn h1 λitv s2 h2=>cy (wpAny_runOwn ?_))))))));obtain⟨it,fp,tn,J,H2,e,I2,T,st2,f2',W,⟨m0,w0⟩,turn⟩:=h2;subst e;have stat:∀{H':Hp},(∀b∈fp,H' b=none)->∀b∈fp,qq Y pins H' b:=λhn b hb=>⟨hn b hb,(f2' b hb).2⟩
 have loop:∀s3:d_,Inv Y pins τ H2 s3->tn 0 s3.heap->codeAny (model Y.prog Y.w) Y.A (.compLoop (lc2 elt t1 i1 f1 t2 i2 f2 scope pos) 1 (.ref it) (.ref D) Y.env)
   (λr s'=>match r with|.ok f=>wpAny (model Y.prog Y.w) Y.A (pure ()) (λ_ s'=>∃τ' H',Inv Y pins τ' H' s'/\N τ' H') (λ_ _=>False) s'|.error e=>cameBackBy (model Y.prog Y.w) Y.A Y.env (λ_ _=>False) e s') s3:=by
  intro s3 I3 st3;refine lT (λn s'=>∃i τ' H',Inv Y pins τ' H' s'/\tn i s'.heap/\(∀b∈fp,H' b=none)/\W i n τ' H') ?_ m0 ⟨0,τ,H2,I3,st3,λb hb=>(f2' b hb).1,w0⟩;rintro n s5 ⟨i,τ5,H5,I5,st5,fr5,w5⟩
  rcases turn i n τ5 H5 w5 with ⟨stop,qn⟩|⟨go,step⟩
  .refine thn (T.done Y rfl rfl rfl hc i pins s5 τ5 H5 (λ_ _=>False) I5 (stat fr5) st5 stop) λr s6 ⟨hr,I6⟩=>?_;subst hr;exact e_ ⟨τ5,H5,I6,qn⟩
  .refine thn (T.item Y rfl rfl rfl hc i pins s5 τ5 H5 (λ_ _=>False) I5 (stat fr5) st5 go) λr s6 ⟨u,hr,h6⟩=>?_;subst hr;refine thn h6 λ_ s7 ⟨x,H7,I7,r7,y7,st7,fr7⟩=>?_;have I7':=I7.pinned (stat fr7) (T.obj _ _ st7)
   have again:∀{s8:d_}{τ8:St}{H8:Hp},Inv Y (pins++ki fp s7.heap) τ8 H8 s8->(∃m',m'<n/\W (i+1) m' τ8 H8) ->
     ∃m,m<n/\∃i τ' H',Inv Y pins τ' H' s8/\tn i s8.heap/\(∀b∈fp,H' b=none)/\W i m τ' H':=λ{s8 τ8 H8} I8 ⟨m',hm,w8⟩=>by
    refine⟨m',hm,i+1,τ8,H8,I8.unpinned,T.keep _ _ _ st7 λb hb o e=>(I8.pin (b,o) (t_ _ (t_ _ (cG hb e)))).1,λb hb=>?_,w8⟩;obtain⟨o,e,d⟩:=T.obj _ _ st7 b hb;exact (I8.pin (b,o) (t_ _ (t_ _ (cG hb e)))).2.1
   have h8:=hg _ s7 τ5 H7 x u _ I7' r7 (step x H7 y7);rw [hx] at h8;refine thn h8 λ_ s8 ⟨τ8,H8,I8,q8⟩=>?_;have h9:=ht _ s8 τ8 H8 _ I8 q8;rw [hx] at h9;refine thn h9 λokb s9 ⟨H9,I9,q9⟩=>?_
   cases okb with
   | false =>
    rw [if_neg n_] at q9;rw [if_neg n_];exact again I9 q9
   | true =>
    rw [if_pos rfl] at q9;rw [if_pos rfl];exact thn (hb _ s9 τ8 H9 _ I9 q9) λ_ s10 ⟨τ10,H10,I10,q10⟩=>again I10 q10
 exact iV (loop _ I2 st2) (T.self Y.A 0 _ _ _ st2 (loop _ I2 st2))
end
section
variable {X:Cx}{elt t1 i1 t2 i2:Expr}{f1 f2:List Expr}{scope:Scope}{N':List Str}{ix:List (Option Nat)}{wi:TI}{g:TG}{tts:TT}{tb:Addr->TB}
def tT{use:Option (Value->Sem Unit)}{Qf:Value->d_->Prop}{pos p':Pos}{pins:List (Addr×Obj)}{σ:St}{H:Hp}{s:d_}{Q:VK}(hc:X.calm=true)(ok:rV X.env X.N scope N' ix)(hi:PI X t1 i1 wi)
  (blk:∀s H fp pn D,PG (aY X N' scope s H fp pn) t1 g/\PIf (aY X N' scope s H fp pn) f1 tts/\PB (aY X N' scope s H fp pn) (tP (lc2 elt t1 i1 f1 t2 i2 f2 scope pos) i2 (.ref D) (nG scope s.heap.objs.size X.env)) (tb D))
  (hs:∀x,foldedSetIterable i1 X.env x=pure x) (I:Inv X pins σ H s) (hw:vQ ix wi g tts tb σ H Q)
  (fin:∀D C H' s',Inv X pins σ H' s'->Q (.ref D) H'->(∃m,s'.heap.Ns C m)->H' C=none->X.s₀.heap.objs.size<=C->C≠X.env.locals->(∀x c,X.env.cells.lookup x=some c->c≠C)->C∉X.fs->(∀p∈X.pn++pins,p.1≠C) ->
   compPost (model X.prog X.w) X.A X.xe use Qf (.ref D) C (.ok .next) s') :
  wpAny (model X.prog X.w) X.A (comprehension (lc2 elt t1 i1 f1 t2 i2 f2 scope pos) scope X.env p' (newList []) false (eval i1 X.env) use) Qf X.xe s:=by
 have hclos:closureFor scope X.env=pure (iq X.env scope.names []):=fR λy hy e=>I.ok.has y.1 (ok.free y hy e).1;refine wpAny_comprehension_free (use:=use) rfl hs hclos ok.kind ok.loc (thn (hi pins s σ H _ I hw) λv s1 h1=>thn h1 λitv s2 h2=>?_);obtain⟨it,fp,tn,J,H2,e,I2,T,st2,fq2,hW⟩:=h2;subst e;obtain⟨W,⟨m0,w0⟩,turn⟩:=hW s2.heap.objs.size (I2.hok.fresh (so _))
 have hfl:∀b∈fp,b<s2.heap.objs.size:=λb hb=>by
  obtain⟨o,e,_⟩:=T.obj 0 _ st2 b hb;exact l_ e
 refine HM ?_
 have I3:Inv X pins σ (upd H2 s2.heap.objs.size (.lst [])) { s2 with heap:=s2.heap.push { cls:=.type "list",dict:=none,data:=.seq ([]:List Value).toArray } } :=
  I2.laid (t':=s2.toks) (λb o e=>c_ _ e) (so _) (show bu X.prog X.w _ _ _ (.lst []) from ⟨Iy _,[],0,.nil,h_ _ rfl⟩)
 have st3:tn 0 (s2.heap.push { cls:=.type "list",dict:=none,data:=.seq ([]:List Value).toArray }):=T.keep 0 _ _ st2 λb _ o e=>c_ _ e;have f3:∀b∈fp,qq X pins (upd H2 s2.heap.objs.size (.lst [])) b:=λb hb=>⟨by rw [ar (Hi (hfl b hb))];exact (fq2 b hb).1,(fq2 b hb).2⟩
 have hfl3:∀b∈fp,b<(s2.heap.push { cls:=.type "list",dict:=none,data:=.seq ([]:List Value).toArray }).objs.size:=λb hb=>by rw [Hc];exact JV (hfl b hb)
 generalize hs3:({ s2 with heap:=s2.heap.push { cls:=.type "list",dict:=none,data:=.seq ([]:List Value).toArray } }:d_)=s3 at I3 ⊢;have eh3:s3.heap=s2.heap.push { cls:=.type "list",dict:=none,data:=.seq ([]:List Value).toArray }:=by rw [<- hs3]
 rw [<- eh3] at st3 hfl3;generalize hH3:upd H2 s2.heap.objs.size (.lst [])=H3 at I3 f3 w0;generalize hD:s2.heap.objs.size=D at *;refine dE ?_;have I4:=rX ok I3 f3 hfl3;obtain⟨hg,ht,he⟩:=blk s3 H3 fp pins D;have st4:tn 0 (pushCells (s3.heap.push { cls:=.type "dict",data:=.dict #[] }) scope.names):=T.keep 0 _ _ st3 λb _ o e=>J8 _ _ b o (c_ _ e)
 have stat:∀{H':Hp},(∀b∈fp,H' b=none)->∀b∈fp,qq (aY X N' scope s3 H3 fp pins) [] H' b:=λhn b hb=>by
  refine⟨hn b hb,Hi (hfl3 b hb),I4.ok.exfs b hb,.inl hb,(I4.ok.exf b hb).2,λp hp=>?_⟩;have hp':p∈X.pn++pins:=by simpa [aY] using hp
  exact (fq2 b hb).2.2.2.2.2 p hp'
 have loop:∀(s4:d_),Inv (aY X N' scope s3 H3 fp pins) [] (pq ix σ) H3 s4->tn 0 s4.heap ->
   codeAny (model X.prog X.w) X.A (.compLoop (lc2 elt t1 i1 f1 t2 i2 f2 scope pos) 0 (.ref it) (.ref D) (nG scope s3.heap.objs.size X.env)) (compPost (model X.prog X.w) X.A X.xe use Qf (.ref D) s3.heap.objs.size) s4:=by
  intro s4 I4 st4;refine lS (λn s'=>∃i τ H',Inv (aY X N' scope s3 H3 fp pins) [] τ H' s'/\tn i s'.heap/\(∀b∈fp,H' b=none)/\W i n τ H') ?_ m0 ⟨0,_,H3,I4,st4,λb hb=>(f3 b hb).1,w0⟩;rintro n s5 ⟨i,τ,H5,I5,st5,fr5,w5⟩
  rcases turn i n τ H5 w5 with ⟨stop,qn⟩|⟨go,step⟩
  .refine thn (T.done (aY X N' scope s3 H3 fp pins) rfl rfl rfl hc i [] s5 τ H5 (λ_ _=>False) I5 (stat fr5) st5 stop) λr s6 ⟨hr,I6⟩=>?_;subst hr;have I7:Inv X pins σ H5 s6:=I3.call' (ch:=fp) I6.os I6.base I6.hok I6.bare λb hb=>⟨(fq2 b hb).2.2.2.1,(fq2 b hb).2.1,(fq2 b hb).2.2.2.2.1,(fq2 b hb).2.2.2.2.2⟩
   obtain⟨m6,hn6,_⟩:=I6.loc
   refine fin D s3.heap.objs.size H5 s6 I7 qn ⟨m6,hn6⟩ I6.free ?_ ?_ ?_ ?_ ?_
   .exact I3.sz
   .exact Je I3.lt
   .intro x c e z;obtain⟨v,q⟩:=I3.cell x c e;have:=q.lt;rw [z] at this;exact HA _ this
   .exact I3.nofs (so _)
   .intro p hp z;have:=l_ (I3.pin p hp).1;rw [z] at this;exact HA _ this
  .refine thn (T.item (aY X N' scope s3 H3 fp pins) rfl rfl rfl hc i [] s5 τ H5 (λ_ _=>False) I5 (stat fr5) st5 go) λr s6 ⟨u,hr,h6⟩=>?_;subst hr;refine thn h6 λ_ s7 ⟨x,H7,I7,r7,y7,st7,fr7⟩=>?_;have I7':=I7.pinned (stat fr7) (T.obj _ _ st7)
   have again:∀{s8:d_}{τ8:St}{H8:Hp},Inv (aY X N' scope s3 H3 fp pins) ([]++ki fp s7.heap) τ8 H8 s8->(∃m',m'<n/\W (i+1) m' τ8 H8) ->
     ∃m,m<n/\∃i τ H',Inv (aY X N' scope s3 H3 fp pins) [] τ H' s8/\tn i s8.heap/\(∀b∈fp,H' b=none)/\W i m τ H':=λ{s8 τ8 H8} I8 ⟨m',hm,w8⟩=>by
    refine⟨m',hm,i+1,τ8,H8,I8.unpinned,T.keep _ _ _ st7 λb hb o e=>(I8.pin (b,o) (t_ _ (t_ _ (cG hb e)))).1,λb hb=>?_,w8⟩;obtain⟨o,e,d⟩:=T.obj _ _ st7 b hb;exact (I8.pin (b,o) (t_ _ (t_ _ (cG hb e)))).2.1
   refine thn (hg _ s7 τ H7 x u _ I7' r7 (step x H7 y7)) λ_ s8 ⟨τ8,H8,I8,q8⟩=>?_;refine thn (ht _ s8 τ8 H8 _ I8 q8) λokb s9 ⟨H9,I9,q9⟩=>?_
   cases okb with
   | false =>
    rw [if_neg n_] at q9;rw [if_neg n_];exact again I9 q9
   | true =>
    rw [if_pos rfl] at q9;rw [if_pos rfl];refine thn (he _ s9 τ8 H9 _ I9 q9) λ_ s10 ⟨τ10,H10,I10,q10⟩=>?_;exact again I10 q10
 exact codeAny_compStart_list (loop _ I4 st4) (T.self X.A 0 _ _ _ st4 (loop _ I4 st4))
def x6{pos:Pos}{wi2:TI}{g2:TG}{tts2:TT}{te:TE}(N':List Str)(ix:List (Option Nat))(hc:X.calm=true)(hi:PI X t1 i1 wi)
  (blk:∀s H fp pn,PG (aY X N' scope s H fp pn) t1 g/\PIf (aY X N' scope s H fp pn) f1 tts/\PI (aY X N' scope s H fp pn) t2 i2 wi2/\PG (aY X N' scope s H fp pn) t2 g2/\PIf (aY X N' scope s H fp pn) f2 tts2/\PE (aY X N' scope s H fp pn) elt te)
  (chk:kC X.env.scope X.N scope N' ix=true) (hs:∀x,foldedSetIterable i1 X.env x=pure x:=by intro _;rfl) (hs2:∀(env:Env) x,foldedSetIterable i2 env x=pure x:=by intro _ _;rfl) :
  PE X (.ListComp elt [⟨t1,i1,f1,0⟩,⟨t2,i2,f2,0⟩] scope pos) (vQ ix wi g tts λD=>At wi2 g2 tts2 (As te D)):=by
 intro pins s σ H Q I hw;rw [eval_ListComp]
 refine tT (use:=none) hc (kE chk) hi (λs H fp pn D=>?_) hs I hw λD C H' s' I' q hm hn h1 h2 h3 h4 h5=>?_
 .obtain⟨b1,b2,b3,b4,b5,b6⟩:=blk s H fp pn;exact⟨b1,b2,Av (Y:=aY X N' scope s H fp pn) rfl hc b3 b4 b5 (Au rfl b6) (hs2 _)⟩
 .obtain⟨m,hm⟩:=hm;refine⟨m,hm,λh' sb=>⟨.ref D,H',?_,rfl,q⟩⟩;exact I'.turned (t':=s'.toks) (λb o hb e=>(sb.2 b hb).trans e) hn h2 (.inr h1) h3 h5
end
def kpt{O O1 O2:Addr->Prop}{H H1 H2:Hp}(a:aF O H O1 H1)(b:aF O1 H1 O2 H2):aF O H O2 H2:=λc o n e=>b c o (a c o n e).1 (a c o n e).2
structure CW (ix:List (Option Nat)) (ρ1:PSt) (n:Nat) (it:Nat->D) (g:PTG) (pt:PTT) (pi2:PTI) (g2:PTG) (pt2:PTT) (pe:PTE) (Q:PKt):Prop where
 ex:∃I:Nat->List D->PSt->Prop,I 0 [] (bO ix ρ1) /\
  (∀k ys τ d,k<n->d=it k->I k ys τ->g (.dat d) τ λτ2=>pt τ2 λok τ3=>iG ok (pi2 τ3 λn2 it2 τ4=>∃I2:Nat->List D->PSt->Prop,I2 0 ys τ4 /\
   (∀j zs τ d,j<n2->d=it2 j->I2 j zs τ->g2 (.dat d) τ λτ5=>pt2 τ5 λok τ6=>iG ok (pe τ6 λp τ7=>zs.length<1000000/\I2 (j+1) (zs++[p.d]) τ7) (I2 (j+1) zs τ6))/\∀zs τ,I2 n2 zs τ->I (k+1) zs τ) (I (k+1) ys τ3)) /\
  ∀ys τ,I n ys τ->Q (.own ys) (ei ix ρ1 τ)
noncomputable def CY(ix:List (Option Nat))(pi:PTI)(g:PTG)(pt:PTT)(pi2:PTI)(g2:PTG)(pt2:PTT)(pe:PTE):PTE:=λρ Q=>pi ρ λn it ρ1=>Cw ix ρ1=true/\CW ix ρ1 n it g pt pi2 g2 pt2 pe Q
def x8{K:b_}{ix:List (Option Nat)}{wi wi2:TI}{pi pi2:PTI}{g g2:TG}{pg pg2:PTG}{tts tts2:TT}{pt pt2:PTT}{te:TE}{pe:PTE}(hix:yM ix=true)(hi:LI K wi pi)(hg:∀fs:List Nat,(∀k∈fs,k∈vB ix)->LGd K fs g pg)(ht:LT K tts pt)
  (hi2:LI K wi2 pi2) (hg2:∀fs:List Nat,(∀k∈fs,k∈vB ix)->LGd K fs g2 pg2) (ht2:LT K tts2 pt2) (he:LE K te pe) :
  LE K (vQ ix wi g tts λD=>At wi2 g2 tts2 (As te D)) (CY ix pi pg pt pi2 pg2 pt2 pe):=λA ρ σ H Q Q' R q k=>hi A ρ σ H _ _ R q λJ H1 n it ρ1 q1 f1 R1 W D hD=>by
 obtain⟨hcap,⟨I,i0,turn,after⟩⟩:=q1
 let τρ0:=bO ix ρ1
 let τσ0:=pq ix σ
 let Ai:Addr->Prop:=λb=>A b\/b=D\/(Wr ρ1 σ b/\¬ Wr τρ0 τσ0 b)
 let H0':=upd H1 D (.lst [])
 have wsub:∀b,Wr τρ0 τσ0 b->Wr ρ1 σ b:=λb ⟨m,p,e,o,s⟩=>by
  obtain⟨j,h1,h2⟩:=cv e;obtain⟨v,hv,_⟩:=R1.get j p h2;have:=cB h1 hv;rw [s] at this;cases this;exact⟨j,p,h2,o,hv⟩
 have nD:¬ Wr ρ1 σ D:=λz=>R1.wr z hD
 have oosub:∀b,OO Ai τρ0 τσ0 b->OO A ρ1 σ b\/b=D:=λb z=>by
  rcases z with (z|z|z)|z
  .exact .inl (.inl z)
  .exact .inr z
  .exact .inl (.inr z.1)
  .exact .inl (.inr (wsub b z))
 have kD:aF (OO A ρ1 σ) H1 (OO Ai τρ0 τσ0) H0':=λb o nn e=>by
  refine⟨λz=>?_,?_⟩
  .rcases oosub b z with z|z
   .exact nn z
   .rw [z,hD] at e;cases e
  .rw [show H0' b=H1 b from ar (aH e hD)];exact e
 have Ri:Rel K Ai τρ0 τσ0 H0':=by
  refine⟨by show (bO ix ρ1).length=(pq ix σ).length;unfold bO pq;rw [length_map,length_map],λm p e=>?_,λm l p q v e1 e2 o1 o2 s1 s2=>?_,λb z=>?_,λb z w=>?_⟩
  .obtain⟨j,h1,h2⟩:=cv e;obtain⟨v,hv,r⟩:=R1.get j p h2;refine⟨v,cB h1 hv,r.keeps kD λow a ea=>?_⟩;subst ea;exact ar (λz=>nD (by rw [<- z];exact⟨j,p,h2,ow,hv⟩))
  .obtain⟨j,h1,h2⟩:=cv e1;obtain⟨j',h3,h4⟩:=cv e2;obtain⟨v1,hv1,_⟩:=R1.get j p h2;obtain⟨v2,hv2,_⟩:=R1.get j' q h4;have t1:=cB h1 hv1;have t2:=cB h3 hv2;rw [s1] at t1;rw [s2] at t2;cases t1;cases t2;have:=R1.dj j j' p q _ h2 h4 o1 o2 hv1 hv2;subst this;exact kc hix h1 h3
  .rcases z with z|z|z
   .intro e
    by_cases zz:b=D
    .exact R1.dom b z (by rw [zz];exact hD)
    .rw [show H0' b=H1 b from ar zz] at e;exact R1.dom b z e
   .rw [z];show upd H1 D _ D≠none;rw [aB];exact nofun
   .intro e;rw [show H0' b=H1 b from ar (λzz=>nD (by rw [<- zz];exact z.1))] at e;exact R1.wr z.1 e
  .rcases z with z|z|z
   .exact R1.sep b z (wsub b w)
   .rw [z] at w;exact nD (wsub D w)
   .exact z.2 w
 let fxi:List (Nat×V):=(vB ix).filterMap λm=>match (τσ0[m]?) with|some (some v)=>some (m,v)|_=>none
 have hfx:∀p∈fxi,τσ0[p.1]?=some (some p.2):=λp hp=>by
  obtain⟨m,hm,e⟩:=IH.mp hp
  split at e
  .rename_i v ev;cases e;exact ev
  .cases e
 have hfs:∀m∈fxi.map Hh,m∈vB ix:=λm hm=>by
  obtain⟨p,hp,rfl⟩:=Iz.mp hm;obtain⟨m',hm',e⟩:=IH.mp hp
  split at e
  .cases e;exact hm'
  .cases e
 have hgi:=hg (fxi.map Hh) hfs;have hgi2:=hg2 (fxi.map Hh) hfs
 have fxget:∀(m j:Nat) (v:V),ix[m]?=some (some j)->σ[j]?=some (some v)->(m,v)∈fxi:=λm j v h1 h2=>by
  refine IH.mpr ⟨m,?_,?_⟩
  .unfold vB;refine Iq.mpr ⟨Jh.mpr (j_.mp h1).1,?_⟩;rw [o_,h1];rfl
  .show (match (pq ix σ)[m]? with|some (some v)=>some (m,v)|_=>none)=_;rw [cB h1 h2]
 let Rr:Addr->Prop:=λb=>Wr τρ0 τσ0 b\/b=D
 have hRr:∀b,Rr b->OO Ai τρ0 τσ0 b:=λb z=>z.elim (λz=>.inr z) (λz=>.inl (.inr (.inl z)));have F0:cg fxi Rr H0' τρ0 τσ0 H0':=⟨λ_ _ _ h=>h,λ_ h=>h,λb w=>.inl (.inl w),hfx⟩
 refine⟨λi m τ H2=>i+m=n/\∃ys τρ xs,I i ys τρ/\Rel K Ai τρ τ H2/\cg fxi Rr H0' τρ τ H2/\H2 D=some (.lst xs)/\FVs K (OO Ai τρ τ) H2 xs ys/\∀b,Wr τρ τ b->Wr τρ0 τσ0 b,
  ⟨n,Kk n,[],τρ0,[],i0,Ri,F0,aB,.nil,λ_ h=>h⟩,λi m τ H2 ⟨him,ys,τρ,xs,iv,r2,F2,eD,fD,hw⟩=>?_⟩
 have kk:aF (OO A ρ1 σ) H1 (OO Ai τρ τ) H2:=λb o nn e=>(F2.keepsR hRr) b o (kD b o nn e).1 (kD b o nn e).2;obtain⟨go,stop⟩:=W _ H2 kk r2.dom2
 by_cases hk:i<n
 .obtain⟨g1,g2⟩:=go i hk;refine .inr ⟨g1,λx H3 y=>?_⟩;obtain⟨gr,fv⟩:=g2 x H3 y;have AiD:Ai D:=.inr (.inl rfl);refine hgi fxi Ai Rr H0' τρ τ H3 _ x _ _ rfl (F2.fr gr.fr) (r2.gr gr) fv (turn i ys τρ _ hk rfl iv) λτρ2 τ2 q2 r3 F3 w3=>?_;refine ht Ai τρ2 τ2 H3 _ _ r3 q2 λok H5 τρ3 q3 f5 r5=>?_;have F5:=F3.fr f5;have fD5:FVs K (OO Ai τρ3 τ2) H5 xs ys:=((fD.keeps (gr.fr (ρ:=τρ) (σ:=τ)).keeps).keeps (aF.less λb z=>z.imp id (w3 b))).keeps f5.keeps
  have eD5:H5 D=some (.lst xs):=f5.kp D _ (r3.sep D AiD) (gr D _ eD)
  cases ok with
  | true =>
   refine hi2 Ai τρ3 τ2 H5 _ _ r5 q3 λJ2 H6 n2 it2 τρ4 q4 f6 r6 W2=>?_;obtain⟨I2,j0,turn2,after2⟩:=q4;have F6:=F5.fr f6;have eD6:H6 D=some (.lst xs):=f6.kp D _ (r5.sep D AiD) eD5;have fD6:=fD5.keeps (f6.keeps (A:=Ai));have hw6:∀b,Wr τρ4 τ2 b->Wr τρ0 τσ0 b:=λb z=>hw b (w3 b (f5.ow b (f6.ow b z)))
   refine⟨λj l τ' H'=>j+l=n2/\∃zs τρ' xs',I2 j zs τρ'/\Rel K Ai τρ' τ' H'/\cg fxi Rr H0' τρ' τ' H'/\H' D=some (.lst xs')/\FVs K (OO Ai τρ' τ') H' xs' zs/\(∀b,Wr τρ' τ' b->Wr τρ0 τσ0 b)/\aF (OO Ai τρ4 τ2) H6 (OO Ai τρ' τ') H',
    ⟨n2,Kk n2,ys,τρ4,xs,j0,r6,F6,eD6,fD6,hw6,λb o n e=>⟨n,e⟩⟩,λj l τ' H7 ⟨hjl,zs,τρ',xs',jv,r7,F7,eD7,fD7,hw7,kk7⟩=>?_⟩
   obtain⟨go2,stop2⟩:=W2 _ H7 kk7 r7.dom2
   by_cases hj:j<n2
   .obtain⟨g1',g2'⟩:=go2 j hj;refine .inr ⟨g1',λy H8 yy=>?_⟩;obtain⟨gr8,fv8⟩:=g2' y H8 yy;refine hgi2 fxi Ai Rr H0' τρ' τ' H8 _ y _ _ rfl (F7.fr gr8.fr) (r7.gr gr8) fv8 (turn2 j zs τρ' _ hj rfl jv) λτρ9 τ9 q9 r9 F9 w9=>?_;refine ht2 Ai τρ9 τ9 H8 _ _ r9 q9 λok2 H10 τρ10 q10 f10 r10=>?_;have F10:=F9.fr f10;have k1:=(gr8.fr (ρ:=τρ') (σ:=τ')).keeps (A:=Ai);have k2:aF (OO Ai τρ' τ') H8 (OO Ai τρ9 τ9) H8:=aF.less λb z=>z.imp id (w9 b)
    have k3:=f10.keeps (A:=Ai);have fD10:FVs K (OO Ai τρ10 τ9) H10 xs' zs:=fD7.keeps (kpt k1 (kpt k2 k3));have eD10:H10 D=some (.lst xs'):=f10.kp D _ (r9.sep D AiD) (gr8 D _ eD7)
    cases ok2 with
    | true =>
     refine he Ai τρ10 τ9 H10 _ _ r10 q10 λv H11 p τρ11 q11 f11 o11=>?_;obtain⟨r11,fv11⟩:=o11.frz;have F11:=F10.fr f11;have eD11:H11 D=some (.lst xs'):=f11.kp D _ (r10.sep D AiD) eD10;have kw:aF (OO Ai τρ11 τ9) H11 (OO Ai τρ11 τ9) (upd H11 D (.lst (xs'++[v]))):=λb o nn e=>⟨nn,by rw [ar (λz=>nn (by rw [z];exact .inl AiD))];exact e⟩
     refine⟨xs',eD11,?_,l - 1,by omega,by omega,zs++[p.d],τρ11,xs'++[v],q11.2,r11.amb AiD,⟨λb o nn e=>?_,λb z=>?_,F11.ow,F11.fx⟩,aB,((fD10.keeps f11.keeps).append (.cons fv11 .nil)).keeps kw,λb z=>hw7 b (w9 b (f10.ow b (f11.ow b z))),kpt kk7 (kpt k1 (kpt k2 (kpt k3 (kpt f11.keeps kw))))⟩
     .have:xs'.length=zs.length:=fD10.length;have:=q11.1;exact tf (by omega:xs'.length<1000000) (sz _ (so _))
     .rw [ar (λz=>nn (.inr z))];exact F11.kp b o nn e
     .by_cases zz:b=D
      .rw [zz,aB];exact nofun
      .rw [ar zz];exact F11.dm b z
    | false=>exact⟨l - 1,by omega,by omega,zs,τρ10,xs',q10,r10,F10,eD10,fD10,λb z=>hw7 b (w9 b (f10.ow b z)),kpt kk7 (kpt k1 (kpt k2 k3))⟩
   .have e:j=n2:=by omega
    subst e;exact .inl ⟨stop2,m - 1,by omega,by omega,zs,τρ',xs',after2 zs τρ' jv,r7,F7,eD7,fD7,hw7⟩
  | false=>exact⟨m - 1,by omega,by omega,ys,τρ3,xs,q3,r5,F5,eD5,fD5,λb z=>hw b (w3 b (f5.ow b z))⟩
 .have e:i=n:=by omega
  subst e;refine .inl ⟨stop,?_⟩;have q':=after ys τρ iv
  have cap:∀(m j:Nat),ix[m]?=some (some j)->∃p v,ρ1[j]?=some (some p)/\σ[j]?=some (some v)/\τ[m]?=some (some v):=λm j e=>by
   have h1:=Hj.mp hcap _ (F_ e);have h1:(match ρ1[j]? with|some (some _)=>true|_=>false)=true:=h1
   split at h1
   .rename_i p ep;obtain⟨v,hv,_⟩:=R1.get j p ep;exact⟨p,v,ep,hv,F2.fx _ (fxget m j v e hv)⟩
   .cases h1
  have get':∀(j:Nat) (p:PV),(ei ix ρ1 τρ)[j]?=some (some p)->(∃m v,ix[m]?=some (some j)/\σ[j]?=some (some v)/\τ[m]?=some (some v)/\τρ[m]?=some (some p))\/(some j∉ix/\ρ1[j]?=some (some p)):=λj p e=>by
   by_cases hj:some j∈ix
   .obtain⟨m,hm,em⟩:=Lf hj;have em':ix[m]?=some (some j):=by rw [gV hm,em]
    obtain⟨p0,v,h1,h2,h3⟩:=cap m j em';rw [nN ix ρ1 τρ j m hix em' (by rw [r2.len];exact (j_.mp h3).1) (j_.mp h1).1] at e;exact .inl ⟨m,v,em',h2,h3,e⟩
   .rw [iP ix ρ1 τρ j hj] at e;exact .inr ⟨hj,e⟩
  have nocap:∀(j:Nat) (p:PV) (b:Addr),some j∉ix->ρ1[j]?=some (some p)->p.isOwn=true->σ[j]?=some (some (.ref b))->¬ Wr τρ0 τσ0 b:=λj p b hj e o s ⟨m,q,e1,o1,s1⟩=>by
   obtain⟨j',h1,h2⟩:=cv e1;obtain⟨v,hv,_⟩:=R1.get j' q h2;have:=cB h1 hv;rw [s1] at this;cases this;have:=R1.dj j j' p q _ e h2 o o1 s hv;subst this;exact hj (F_ h1)
  have w':∀b,Wr (ei ix ρ1 τρ) σ b->Wr τρ τ b\/(Wr ρ1 σ b/\¬ Wr τρ0 τσ0 b):=λb ⟨j,p,e,o,s⟩=>by
   rcases get' j p e with ⟨m,v,h1,h2,h3,h4⟩|⟨hj,h1⟩
   .rw [s] at h2;cases h2;exact .inl ⟨m,p,h4,o,h3⟩
   .exact .inr ⟨⟨j,p,h1,o,s⟩,nocap j p b hj h1 o s⟩
  have oo':∀b,OO (cJ A D) (ei ix ρ1 τρ) σ b->OO Ai τρ τ b:=λb z=>by
   rcases z with (z|z)|z
   .exact .inl (.inl z)
   .exact .inl (.inr (.inl z))
   .rcases w' b z with z|z
    .exact .inr z
    .exact .inl (.inr (.inr z))
  have kp1:∀b o,¬ Wr τρ0 τσ0 b->b≠D->H1 b=some o->H2 b=some o:=λb o n1 n2 e=>F2.kp b o (λz=>z.elim n1 n2) (by rw [show H0' b=H1 b from ar n2];exact e);have k1:aF (OO A ρ1 σ) H1 (OO (cJ A D) (ei ix ρ1 τρ) σ) H2:=λb o nn e=>⟨λz=>(kk b o nn e).1 (oo' b z),(kk b o nn e).2⟩
  have AiD:Ai D:=.inr (.inl rfl)
  have R':Rel K (cJ A D) (ei ix ρ1 τρ) σ H2:=by
   refine⟨by rw [ka];exact R1.len,λj p e=>?_,λj l p q v e1 e2 o1 o2 s1 s2=>?_,λb z=>?_,λb z w=>?_⟩
   .rcases get' j p e with ⟨m,v,h1,h2,h3,h4⟩|⟨hj,h1⟩
    .obtain⟨v',hv',r⟩:=r2.get m p h4;rw [h3] at hv';cases hv';exact⟨v,h2,r.keeps (aF.less oo') λ_ _ _=>rfl⟩
    .obtain⟨v,hv,r⟩:=R1.get j p h1;refine⟨v,hv,r.keeps k1 λow a ea=>?_⟩;subst ea;obtain⟨a',u,e1,e2⟩:=r.ref ow;cases e1;rw [e2];exact kp1 a u (nocap j p a hj h1 ow hv) (λz=>by rw [z,hD] at e2;cases e2) e2
   .rcases get' j p e1 with ⟨m,v1,h1,h2,h3,h4⟩|⟨hj,h1⟩
    .rw [s1] at h2;cases h2
     rcases get' l q e2 with ⟨m',v2,g1,g2,g3,g4⟩|⟨hl,g1⟩
     .rw [s2] at g2;cases g2;have:=r2.dj m m' p q _ h4 g4 o1 o2 h3 g3;subst this;rw [h1] at g1;cases g1;rfl
     .exfalso;obtain⟨v',hv',r⟩:=r2.get m p h4;rw [h3] at hv';cases hv';obtain⟨a,u,ea,_⟩:=r.ref o1;subst ea;exact nocap l q a hl g1 o2 s2 (hw a ⟨m,p,h4,o1,h3⟩)
    .rcases get' l q e2 with ⟨m',v2,g1,g2,g3,g4⟩|⟨hl,g1⟩
     .rw [s2] at g2;cases g2;exfalso;obtain⟨v',hv',r⟩:=r2.get m' q g4;rw [g3] at hv';cases hv';obtain⟨a,u,ea,_⟩:=r.ref o2;subst ea;exact nocap j p a hj h1 o1 s1 (hw a ⟨m',q,g4,o2,g3⟩)
     .exact R1.dj j l p q v h1 g1 o1 o2 s1 s2
   .rcases z with z|z
    .exact r2.dom b (.inl z)
    .rw [z,eD];exact nofun
   .rcases w' b w with w|w
    .rcases z with z|z
     .exact r2.sep b (.inl z) w
     .rw [z] at w;exact r2.sep D AiD w
    .rcases z with z|z
     .exact R1.sep b z w.1
     .rw [z] at w;exact nD w.1
  have f2:Fr ρ1 σ H1 (ei ix ρ1 τρ) H2:=by
   refine⟨λb o nn e=>kp1 b o (λz=>nn (wsub b z)) (λz=>by rw [z,hD] at e;cases e) e,λb z=>F2.dm b ?_,λb z=>?_⟩
   .intro e
    by_cases zz:b=D
    .exact z (by rw [zz];exact hD)
    .rw [show H0' b=H1 b from ar zz] at e;exact z e
   .rcases w' b z with z|z
    .exact wsub b (hw b z)
    .exact z.1
  have hD0:H D=none:=by
   cases e:H D with
   | none=>rfl
   | some o=>exact absurd hD (f1.dm D (by rw [e];exact nofun))
  exact k _ H2 (.own ys) _ q' (f1.trans f2) ⟨D,xs,rfl,λz=>R1.dom D z hD,hD0,eD,R',fD.keeps (aF.less oo')⟩
section
variable {prog:r_}{w:World}{A:w_}{E:Value->d_->Prop}{s:d_}
theorem pT{it t:Addr}{items:Array Value}(hne:t≠it):∀(n i:Nat) (s:d_) (Q:List Value->d_->Prop),s.heap.IsListIter it t i->s.heap.IsList t items->i+n<=items.size ->
  (∀h',h'.IsListIter it t (i+n)->Ji it s.heap h'->Q ((items.toList.drop i).take n) { s with heap:=h' })->wpAny (model prog w) A (draw (.ref it) n) Q E s
 | 0,i,s,Q,hit,_,_,hQ=>by
  show wpAny _ _ (pure []) Q E s;exact e_ (by simpa using hQ s.heap hit (Heap.SameBut.refl ..))
 | n+1,i,s,Q,hit,ht,hle,hQ=>by
  have hlt:i<items.size:=by omega
  show wpAny _ _ (pyNext (.ref it) >>= _) Q E s;refine cy (wpAny_pyNext_list_item hit ht (x:=items[i]) (by simp [hlt]) λh₁ hit₁ hs₁=>?_);refine cy (HB (pT hne n (i+1) _ _ hit₁ (ht.extBut hs₁.extBut hne) (by omega) λh₂ hit₂ hs₂=>e_ ?_));have hd:items.toList.drop i=items[i]::items.toList.drop (i+1):=by simp [drop_eq_getElem_cons,hlt]
  have:=hQ h₂ (by rw [show i+(n+1)=i+1+n by omega];exact hit₂) (hs₁.trans hs₂);rw [hd,take_succ_cons] at this;exact this
def j2{t:Addr}{items:Array Value}{Q:List Value->d_->Prop}(hh:A.handled=none)(ht:s.heap.IsList t items)
  (hQ:∀h',Lc s.heap.objs.size s.heap h'->Q items.toList { s with heap:=h' }):wpAny (model prog w) A (unpackItems (.ref t) items.size none) Q E s:=by
 have hlt:t≠s.heap.objs.size:=by obtain⟨o,ho,_⟩:=ht;exact Hi (l_ ho)
 unfold unpackItems
 refine cy ?_
 .unfold notIterableAtAll;refine cy (wpAny_specialOf ht.typeIs PySem.F.slot_list_iter.lookup ?_);refine e_ ?_;simp only [false_eq_true,if_false];refine cy (HB (Jc ht ?_));refine cy (HB (pT hlt items.size 0 _ _ ⟨_,h_ _ rfl,rfl,rfl⟩ (ht.push _) (by omega) λh₁ hit₁ hs₁=>?_))
  have hall:List.take items.size (List.drop 0 items.toList)=items.toList:=by
   rw [drop_zero];exact Ig (by simp)
  rw [hall];rw [if_neg (by simp)];have ht₁:h₁.IsList t items:=(ht.push _).extBut hs₁.extBut hlt;refine cy (HB (wpAny_pyNext_list_end hh hit₁ ht₁ (by simp) λh₂ he₂=>?_));simp only [Option.isSome_none,false_eq_true,if_false];refine e_ (hQ h₂ λb o hb e=>he₂ b o hb (hs₁.extBut b o hb (c_ _ e)))
def jo{env:Env}{elts:List Expr}{x1}{pos:Pos}{t:Addr}{items:Array Value}{Q:Unit->d_->Prop}(hh:A.handled=none)(ht:s.heap.IsList t items)
  (hn:(assignEach elts env).length=items.size) (hstar:(assignEach elts env).findIdx? (·.1)=none)
  (h:∀h',Lc s.heap.objs.size s.heap h'->wpAny (model prog w) A (assignInOrder ((assignEach elts env).map (·.2)) items.toList) Q E { s with heap:=h' }) :
  wpAny (model prog w) A (assign (.Tuple elts x1 pos) env (.ref t)) Q E s:=by
 rw [assign_Tuple];refine cy (HP ?_);unfold unpack;rw [hn,hstar];exact cy (HB (j2 hh ht h))
end
noncomputable def D5(K:b_)(n:Nat)(t:TGs):TG:=λv σ H Q=>∃b a xs,v=.ref a/\Sq b K H a xs/\xs.length=n/\t xs σ H Q
section
variable {X:Cx}
def iW(K:b_)(eK:X.K=K){es:List Expr}{k:Nat}{t:TGs}{n:Nat}{pos:Pos}(hc:X.calm=true)(h:PGs X es t)
  (hn:(assignEach es X.env).length=n:=by rfl) (hst:(assignEach es X.env).findIdx? (·.1)=none:=by rfl):PG X (.Tuple es k pos) (D5 K n t):=by
 subst eK;intro pins s σ H v u Q I r hw;obtain⟨b,a,xs,e1,hq,hl,hw⟩:=hw
 cases b with
 | true=>exact Bu hc h hn hst pins s σ H v u Q I r ⟨a,xs,e1,hq,hl,hw⟩
 | false =>
  subst e1;cases r;obtain⟨its,rv,ht,hz⟩:=I.list hq;refine jo (I.ok.hd hc) ht.isList (by simp [hn,<- hl,rv.length]) hst λh' hx=>?_;have I1:Inv X pins σ H { s with heap:=h' }:=I.kept (t':=s.toks) λb o e=>hx b o (Hi (l_ e)) e;exact h pins _ σ H xs _ Q I1 (by simpa using rv) hw
noncomputable def vR(n:Nat)(gs:xU):PTG:=λp ρ Q=>match p with|.dat (.tup ds)=>ds.length=n/\gs ds ρ Q|.dat (.lst ds)=>ds.length=n/\gs ds ρ Q|.own ds=>ds.length=n/\gs ds ρ Q|_=>False
end
section
variable {K:b_}{fs:List Nat}
def nV{n:Nat}{gs:TGs}{pgs:xU}(h:LGs K fs gs pgs):LGd K fs (D5 K n gs) (vR n pgs):=λfx A R H0 ρ σ H d v Q Q' hf F r fv q k=>by
 unfold vR at q
 split at q
 .rename_i e;cases e
  cases fv with
  | tup nn e f=>exact⟨true,_,_,rfl,SqT.of e,by rw [f.length];exact q.1,h fx A R H0 ρ σ H _ _ Q Q' hf F r f q.2 k⟩
 .rename_i e;cases e
  cases fv with
  | lst nn e f=>exact⟨false,_,_,rfl,SqL.of e,by rw [f.length];exact q.1,h fx A R H0 ρ σ H _ _ Q Q' hf F r f q.2 k⟩
 .rename_i e;cases e
 .exact q.elim
def pU{n:Nat}{gs:TGs}{pgs:xU}(h:LGs K fs gs pgs):LG K fs (D5 K n gs) (vR n pgs):=λfx A R H0 ρ σ H p v Q Q' hf F o q k=>by
 unfold vR at q
 split at q
 .obtain⟨r,fv⟩:=o
  cases fv with
  | tup nn e f=>exact⟨true,_,_,rfl,SqT.of e,by rw [f.length];exact q.1,h fx A R H0 ρ σ H _ _ Q Q' hf F r f q.2 λρ' σ' q' r' F' _=>k ρ' σ' H q' r' F'⟩
 .obtain⟨r,fv⟩:=o
  cases fv with
  | lst nn e f=>exact⟨false,_,_,rfl,SqL.of e,by rw [f.length];exact q.1,h fx A R H0 ρ σ H _ _ Q Q' hf F r f q.2 λρ' σ' q' r' F' _=>k ρ' σ' H q' r' F'⟩
 .obtain⟨r,fv⟩:=o.frz
  cases fv with
  | lst nn e f=>exact⟨false,_,_,rfl,SqL.of e,by rw [f.length];exact q.1,h fx A R H0 ρ σ H _ _ Q Q' hf F r f q.2 λρ' σ' q' r' F' _=>k ρ' σ' H q' r' F'⟩
 .exact q.elim
end
noncomputable def iX(d:D)(xs:List D):Prop:=d=.lst xs\/d=.tup xs
def CZ{d:D}{xs:List D}{i:Int}{Q:PV->Prop}(h:iX d xs)(q:∃x,atI xs i=some x/\Q (.dat x)):fIx d (.int i) Q:=by
 rcases h with rfl|rfl <;> exact q
def vS{d:D}{xs:List D}{n:Nat}{gs:xU}{ρ:PSt}{Q:PSt->Prop}(h:iX d xs)(q:xs.length=n/\gs xs ρ Q):vR n gs (.dat d) ρ Q:=by
 rcases h with rfl|rfl <;> exact q
def iX.lst(xs:List D):iX (.lst xs) xs:=.inl rfl
def iX.tup(xs:List D):iX (.tup xs) xs:=.inr rfl
def iX.items{d:D}{xs:List D}(h:iX d xs):aC d=xs:=by rcases h with rfl|rfl <;> rfl
noncomputable def nSt:Expr->Bool
 | .Starred _ _=>false
 | _=>true
def gj{e:Expr}{es:List Expr}{env:Env}(h:nSt e=true):starEach (e::es) env=(false,eval e env)::starEach es env:=by
 cases e <;> first|rfl|cases h
theorem fu{env:Env}{pos:Pos}:∀{es:List Expr},es.all nSt=true->(backTo pos (starEach es env)).any (·.1)=false
 | [],_=>rfl
 | e::es,h=>by
  rw [all_cons,and_eq_true] at h;rw [gj h.1];show (false || (backTo pos (starEach es env)).any (·.1))=false;rw [fu h.2];rfl
section
variable {X:Cx}{k:Nat}{x:Str}{ps:List Str}{sp:Sp}{e:Expr}{es:List Expr}{te:TE}{t:TA}{p pos:Pos}{dvs:List V}{C:Addr}{id T:String}{r:List V->Hp->VK->Prop}
def paC(ha:PE X e te)(hr:PA X es t)(hn:nSt e=true:=by rfl):PA X (e::es) (aW te t):=zr ha hr (gj hn)
def ax(C:Cal X.prog X.w X.K X.mg X.base k x ps sp)(hr:dR k X.A)(ha:PA X (e::es) t)(hg:Gl X x:=by rfl)(hdb:(x == ("__debug__":Str))=false:=by decide)(hn:nSt e=true:=by rfl)(hp:es.all nSt=true:=by rfl) :
  PE X (.Call (.Name x p) (e::es) [] pos) (dB sp [] E0 t):=B0 C hr ha hg hdb (gj hn) (fu hp)
def x9(j:Nat)(C:B7 X.prog X.w X.K X.mg X.base k x ps dvs sp)(hr:dR k X.A)(hj:j<=dvs.length)(ha:PA X (e::es) t)(hg:Gl X x:=by rfl)(hdb:(x == ("__debug__":Str))=false:=by decide)(hn:nSt e=true:=by rfl)(hp:es.all nSt=true:=by rfl) :
  PE X (.Call (.Name x p) (e::es) [] pos) (dB sp (dvs.drop j) E0 t):=zP j C hr hj ha hg hdb (gj hn) (fu hp)
def sA(M:Ca X.prog X.w X.K X.mg X.base k C x ps sp)(hr:dR (k+1) X.A)(ha:PA X (e::es) t)(hg:Gl X x:=by rfl)(hdb:(x == ("__debug__":Str))=false:=by decide)(hn:nSt e=true:=by rfl)(hp:es.all nSt=true:=by rfl) :
  PE X (.Call (.Name x p) (e::es) [] pos) (xt C sp [] E0 t):=zQ M hr ha hg hdb (gj hn) (fu hp)
def ak(hc:bj X (.builtin id) r)(hg:Gl X x)(hm:X.mg x=none)(hv:bootBuiltins x=some (.builtin id))(ha:PA X (e::es) t)(hnn:x≠"__name__":=by decide)(hdb:(x == ("__debug__":Str))=false:=by decide)(hn:nSt e=true:=by rfl)(hp:es.all nSt=true:=by rfl) :
  PE X (.Call (.Name x p) (e::es) [] pos) (tCB r t):=xw hc hg hm hv ha hnn hdb (gj hn) (fu hp)
def aL(hc:bj X (.type T) r)(hg:Gl X x)(hm:X.mg x=none)(hv:bootBuiltins x=some (.type T))(ha:PA X (e::es) t)(hnn:x≠"__name__":=by decide)(hdb:(x == ("__debug__":Str))=false:=by decide)(hn:nSt e=true:=by rfl)(hp:es.all nSt=true:=by rfl) :
  PE X (.Call (.Name x p) (e::es) [] pos) (tCB r t):=uO hc hg hm hv ha hnn hdb (gj hn) (fu hp)
end
noncomputable def plT:Expr->Bool
 | .Call _ _ _ _=>true
 | .Name _ _=>true
 | .Subscript _ _ _=>true
 | .Attribute _ _ _=>true
 | _=>false
def Aw{e:Expr}{env:Env}(h:plT e=true):∀whole,isTrue e env whole=(do let v <- whole;standAt e.pos;holding [v] (truthy v)):=by
 cases e <;> first|(intro _;rfl)|cases h
def bJ{X:Cx}{e:Expr}{t:TE}(h:PE X e t)(hp:plT e=true:=by rfl):PT X e (tB t):=Br h (Aw hp)
noncomputable def fW(a b:List Nat):Bool:=decide (0<=fnd b a 0)
noncomputable def dI(ps:List (List Nat))(i:Nat):Bool:=!decide (pw ps i∈ps.take i) && !(ps.filter λo=>decide ((pw ps i).length<o.length)).any λo=>fW (pw ps i) o
def nW{a b:List Nat}:fW a b=true ↔ ∃k,stA b a k=true:=by
 unfold fW
 constructor
 .intro h;have h0:fnd b a 0≠-1:=λz=>by rw [z] at h;exact absurd (of_decide_eq_true h) (by decide)
  obtain⟨k,_,_,h1,_⟩:=rY h0;exact⟨k,h1⟩
 .rintro⟨k,hk⟩
  by_cases h0:fnd b a 0=-1
  .rw [xI h0 k (Iy _)] at hk;cases hk
  .obtain⟨j,e,_⟩:=rY h0;rw [e];exact decide_eq_true (by omega)
def ya(a:List Nat):fW a a=true:=nW.mpr ⟨0,decide_eq_true ⟨by omega,by rw [drop_zero,KE]⟩⟩
def vT{a b c:List Nat}(h1:fW a b=true)(h2:fW b c=true):fW a c=true:=by
 obtain⟨k1,e1⟩:=nW.mp h1;obtain⟨k2,e2⟩:=nW.mp h2;obtain⟨l1,t1⟩:=of_decide_eq_true e1;obtain⟨l2,t2⟩:=of_decide_eq_true e2;refine nW.mpr ⟨k2+k1,decide_eq_true ⟨by omega,?_⟩⟩
 have hb:b.drop k1=(c.drop (k2+k1)).take (b.length - k1):=by
  rw [<- t2,drop_take,drop_drop,t2]
 have ha:a=((c.drop (k2+k1)).take (b.length - k1)).take a.length:=by rw [<- hb,t1]
 rw [take_take,show min a.length (b.length - k1)=a.length by omega] at ha;exact ha.symm
def kd{ps:List (List Nat)}{i:Nat}:dI ps i=true ↔ pw ps i∉ps.take i/\∀o∈ps,(pw ps i).length<o.length->fW (pw ps i) o=false:=by
 unfold dI;rw [and_eq_true,KG,KG,decide_eq_false_iff_not,any_eq_false]
 constructor
 .rintro⟨h1,h2⟩;refine⟨h1,λo ho hl=>?_⟩;have:=h2 o (Iq.mpr ⟨ho,decide_eq_true hl⟩);simpa using this
 .rintro⟨h1,h2⟩;refine⟨h1,λo ho=>?_⟩;obtain⟨m1,m2⟩:=Iq.mp ho;rw [h2 o m1 (of_decide_eq_true m2)];decide
def vU{ps:List (List Nat)}(hw:∀w∈ps,w.length<=60):∀(m i:Nat),i<ps.length->(61 - (pw ps i).length)*(ps.length+1)+i<=m->∃j,j<ps.length/\dI ps j=true/\fW (pw ps i) (pw ps j)=true:=by
 intro m
 induction m with
 | zero =>
  intro i hi h;have hl:=hw _ (F_ (gQ hi));have:0<(61 - (pw ps i).length)*(ps.length+1):=mul_pos (by omega) (by omega);omega
 | succ m ih =>
  intro i hi h;have hl:=hw _ (F_ (gQ hi))
  by_cases hk:dI ps i=true
  .exact⟨i,hi,hk,ya _⟩
  .by_cases h1:pw ps i∈ps.take i
   .obtain⟨i',hi'⟩:=mem_iff_getElem?.mp h1
    have hlt:i'<i:=by
     have:=(j_.mp hi').1;rw [length_take] at this;omega
    have he:pw ps i'=pw ps i:=by
     rw [getElem?_take,if_pos hlt] at hi';have:=gQ (ws:=ps) (k:=i') (by omega);rw [hi'] at this;exact (we this).symm
    obtain⟨j,a1,a2,a3⟩:=ih i' (by omega) (by rw [he];omega);exact⟨j,a1,a2,by rw [<- he];exact a3⟩
   .have h2:∃o∈ps,(pw ps i).length<o.length/\fW (pw ps i) o=true:=by
     apply Classical.byContradiction;intro z;refine hk (kd.mpr ⟨h1,λo ho hlo=>?_⟩)
     cases hs:fW (pw ps i) o with
     | false=>rfl
     | true=>exact absurd ⟨o,ho,hlo,hs⟩ z
    obtain⟨o,ho,hlo,hs⟩:=h2;obtain⟨i',hi'⟩:=mem_iff_getElem?.mp ho;have hlt:i'<ps.length:=(j_.mp hi').1
    have he:pw ps i'=o:=by
     have:=gQ hlt;rw [hi'] at this;exact (we this).symm
    have hm:(61 - o.length+1)*(ps.length+1)<=(61 - (pw ps i).length)*(ps.length+1):=mul_le_mul_right _ (by have:=hw o ho;omega);rw [add_mul,one_mul] at hm;obtain⟨j,a1,a2,a3⟩:=ih i' hlt (by rw [he];omega);rw [he] at a3;exact⟨j,a1,a2,vT hs a3⟩
noncomputable def qL(a b:List Nat)(k:Nat):Prop:=k<min a.length b.length/\b.take k <:+ a/\∀j,j<min a.length b.length->b.take j <:+ a->j<=k
def qL.uniq{a b:List Nat}{j k:Nat}(x:qL a b j)(y:qL a b k):j=k:=le_antisymm (y.2.2 j x.1 x.2.1) (x.2.2 k y.1 y.2.1)
noncomputable def j3(a b:List Nat):Nat:=open Classical in if h:∃k,qL a b k then Classical.choose h else 0
def vV{a b:List Nat}(ha:0<a.length)(hb:0<b.length):qL a b (j3 a b):=by
 obtain⟨k,h1,h2,h3⟩:=kF (λk=>b.take k <:+ a) (by rw [take_zero];exact nil_suffix) (min a.length b.length) (by omega);have h:∃k,qL a b k:=⟨k,h1,h2,h3⟩
 unfold j3;rw [dif_pos h];exact Classical.choose_spec h
def nX{a b:List Nat}{k:Nat}(h:qL a b k):j3 a b=k:=(vV (by have:=h.1;omega) (by have:=h.1;omega)).uniq h
noncomputable def aM(ps:List (List Nat)):List Nat:=(i_ ps.length).filter (dI ps)
noncomputable def vW(ps:List (List Nat)):List Nat:=(i_ ps.length).filter λi=>!decide (i∈aM ps)
noncomputable def aq(ps:List (List Nat)):List (List Nat):=(aM ps).map (pw ps)
def eS{ps:List (List Nat)}{i:Nat}(h:i∈aM ps):i<ps.length:=Jh.mp (Iq.mp h).1
def gH(ps:List (List Nat)):(aM ps).length<=ps.length:=E_ (JR ..) (by rw [Hs];omega)
def jp{m:Nat}{ps:List (List Nat)}(h:Pcs m ps):Pcs m (aq ps):=λw hw=>by
 obtain⟨i,hi,rfl⟩:=Iz.mp hw;exact h _ (fT (eS hi))
def eT(ps:List (List Nat)):(aq ps).length<=ps.length:=by unfold aq;rw [length_map];exact gH ps
noncomputable def kP(ps:List (List Nat))(i:Nat):List Nat:=(aM ps).filter λj=>fW (pw ps i) (pw ps j)
noncomputable def sB(ps:List (List Nat))(i:Nat):Nat:=(kP ps i).headD 0
def yb{l:List Nat}(h:l.Pairwise (·<·)){m:Nat}(hm:m∈l)(hle:∀a∈l,m<=a):l.headD 0=m:=by
 cases l with
 | nil=>cases hm
 | cons x r =>
  show x=m;have h1:=hle x (mem_cons_self ..)
  rcases mem_cons.mp hm with e|e
  .exact e.symm
  .have:=(pairwise_cons.mp h).1 m e;omega
def pV(ps:List (List Nat)):(aM ps).Pairwise (·<·):=pairwise_lt_range.filter _
def vX{ps:List (List Nat)}{i m:Nat}(hm:m∈kP ps i)(hle:∀a∈kP ps i,m<=a):sB ps i=m:=yb ((pV ps).filter _) hm hle
def tU{ps:List (List Nat)}(hw:∀w∈ps,w.length<=60){i:Nat}(hi:i<ps.length):∃j,j∈kP ps i:=by
 obtain⟨j,h1,h2,h3⟩:=vU hw _ i hi (so _);exact⟨j,Iq.mpr ⟨Iq.mpr ⟨Jh.mpr h1,h2⟩,h3⟩⟩
noncomputable def dJ(ps:List (List Nat))(i:Nat):D:=.tup [.int (i:Int),.int (sB ps i:Int),.int (fnd (pw ps (sB ps i)) (pw ps i) 0)]
noncomputable def C1(ws:List (List Nat)):D:=.tup (ws.map λw=>.tup (ws.map λv=>.int (j3 w v:Int)))
noncomputable def kQ(ps:List (List Nat)):Int:=((aq ps).map λw=>(w.length:Int)).sum
def nD(k:Nat):D:=.int (k:Int)
noncomputable def j4:List Str:=["pieces","kept","words","left","laps","total"]
noncomputable def j5(ps:List (List Nat)):List D:=[.tup (ps.map .str),.tup ((aM ps).map nD),.tup ((aq ps).map .str),.tup ((vW ps).map (dJ ps)),C1 (aq ps),.int (kQ ps)]
def vY{ks:List Nat}{k:Nat}(h:k<(ks.map nD).length):itD (ks.map nD) k=.int ((ks.getD k 0:Nat):Int):=fS (by
 have h:k<ks.length:=by rwa [length_map] at h
 rw [q_,o_,gV h];rfl)
theorem nY(w:List Nat):∀ws:List (List Nat),inD (.str w) (ws.map .str)=decide (w∈ws)
 | []=>by simp [inD]
 | v::r=>by
  have ih:=nY w r;unfold inD at ih ⊢;rw [map_cons,any_cons,ih];show ((v == w) || decide (w∈r))=_
  by_cases h:v=w
  .subst h;simp
  .rw [beq_eq_false_iff_ne.mpr h,JX]
   by_cases h2:w∈r
   .rw [decide_eq_true h2,decide_eq_true (p_ _ h2)]
   .rw [decide_eq_false h2,decide_eq_false (λz=>(mem_cons.mp z).elim (λe=>h e.symm) h2)]
theorem vZ(k:Nat):∀ks:List Nat,inD (.int (k:Int)) (ks.map nD)=decide (k∈ks)
 | []=>by simp [inD]
 | v::r=>by
  have ih:=vZ k r;unfold inD at ih ⊢;rw [map_cons,any_cons,ih];show (((v:Int) == (k:Int)) || decide (k∈r))=_
  by_cases h:v=k
  .subst h;simp
  .rw [show ((v:Int) == (k:Int))=false from beq_eq_false_iff_ne.mpr (by omega),JX]
   by_cases h2:k∈r
   .rw [decide_eq_true h2,decide_eq_true (p_ _ h2)]
   .rw [decide_eq_false h2,decide_eq_false (λz=>(mem_cons.mp z).elim (λe=>h e.symm) h2)]
def wb(ws:List (List Nat)):(ws.map D.str).all D.fl=true:=by rw [all_map];exact Hj.mpr λ_ _=>rfl
def C3(ks:List Nat):(ks.map nD).all D.fl=true:=by rw [all_map];exact Hj.mpr λ_ _=>rfl
def sC(ws:List (List Nat)):(i_ ws.length).map (pw ws)=ws:=by
 apply JH;intro k;rw [q_]
 by_cases hk:k<ws.length
 .rw [Ie hk,gQ hk];rfl
 .rw [G_ (by rw [Hs];omega),G_ (by omega)];rfl
def yc{β:Type}(f:List Nat->Option β)(ws:List (List Nat)):(i_ ws.length).filterMap (λk=>f (pw ws k))=ws.filterMap f:=by
 conv=>rhs;rw [<- sC ws]
 rw [Jo];rfl
theorem cU{α β:Type}(p:α->Bool)(g:α->β):∀l:List α,l.filterMap (λa=>if p a=true then some (g a) else none)=(l.filter p).map g
 | []=>rfl
 | a::r=>by
  rw [Ir,filter_cons]
  cases h:p a with
  | true=>simp [cU p g r]
  | false=>simp [cU p g r]
def ye{β:Type}(f:Nat->Option β)(ks:List Nat):(i_ ks.length).filterMap (λk=>f (ks.getD k 0))=ks.filterMap f:=by
 have e:(i_ ks.length).map (λk=>ks.getD k 0)=ks:=by
  have:=fo (λk=>k) ks;rw [Lu] at this;exact this
 conv=>rhs;rw [<- e]
 rw [Jo];rfl
def ir(n:Nat):(qI 0 n).length=n:=by unfold qI;rw [length_map,Hs]
def jq{n j:Nat}(h:j<(qI 0 n).length):itD (qI 0 n) j=.int (j:Int):=fS (by
 rw [ir] at h;unfold qI;rw [q_,Ie h];show some (D.int (0+(j:Int)))=_;rw [Int.zero_add])
def yf(a b:List Int):deq (.lst (a.map .int)) (.lst (b.map .int))=decide (a=b):=by
 unfold deq;show JO (.list (D.pys _)) (.list (D.pys _))=_;rw [nS,nS];simp only [JO];exact kA a b
abbrev vmB:List Value:=[.type "ValueError",.type "Exception",.type "BaseException",.type "object"]
open PySem.Builtin PySem.Builtin.ObjectAttr
section
variable {prog:r_}{w:World}{A:w_}{E:Value->d_->Prop}{K:b_}{h:Heap}{g:Array Ko}{d:Drawn}{t:Nat}{os:Ja}
variable {nm q:Str}{C G N x:Addr}{bs:List Value}{sn:List Str}{sub:List Value}{ab:Bool}{col:Option Bool}{k0 k1 k2 k3 k5:Option Value}{name:Str}{v:Value}{o:Obj}{vs:Array Value}
noncomputable def Gx(h h':Heap)(x:Addr)(o:Obj)(name:Str)(v:Value)(dx:Addr):Prop :=
 h'.get? x=some { o with dict:=some dx }/\h.objs.size<=dx/\dx≠x/\h'.Ns1 dx (λy=>if y=name then some v else none)/\∀b ob,b≠x->h.get? b=some ob->h'.get? b=some ob
def nZ{tk:Tok}{Q:Fin->d_->Prop}(X:K.In h)(hC:h.get? C=some (excClassObj nm q C N bs (.ref G::vmB) true sn sub ab col none k0 k1 k2 k3 k5 "ValueError.__new__"))
  (hna:f_ K (.ref C) name=some none) (hx:h.get? x=some o) (hc:o.cls=.ref C) (hd:o.data=.fields vs) (hdn:o.dict=none)
  (hq:∀h' tk' dx,Gx h h' x o name v dx->Q (.done (.ret .none)) ⟨h',g,d,tk',os⟩) :
  wpAny (model prog w) A (IM.«object.__setattr__» ⟨[.ref x,.str name tk,v],[]⟩) Q E ⟨h,g,d,t,os⟩:=by
 have hpass:=KH.passes (.ref x);unfold IM.«object.__setattr__»
 repeat (first
  | rw [refuse_eq]
  | (rw [refuseLoop_ref,refuseLoop_ref,hpass])
  | (with_reducible refine HN hx ?_;rw [hc])
  | with_reducible refine wpAny_mroOf_exc hC ?_
  | (with_reducible refine (IE X hna).at ?_)
  | wp_step)
 rw [hdn,if_neg (by simp [typeHasDict])]
 split
 .rename_i hcd;cases hcd
 split
 .rename_i c hcd;rw [hd] at hcd;cases hcd
 .have hx1:(h.push { cls:=.type "dict",data:=.dict #[] }).get? x=some o:=c_ _ hx;have hxs:x≠h.objs.size:=Hi (l_ hx);refine cy (wpAny_alloc' ?_);refine cy (wpAny_update' hx1 ?_);refine e_ ?_;generalize hg2:((h.push { cls:=.type "dict",data:=.dict #[] }).update x λo=>{ cls:=o.cls,dict:=some h.objs.size,data:=o.data,slots:=o.slots })=h2
  have gd:h2.get? h.objs.size=some { cls:=.type "dict",data:=.dict #[] }:=by
   rw [<- hg2];exact (Il _ _ _ _ hxs.symm).trans (Heap.get?_push_at rfl rfl)
  have gx:h2.get? x=some { o with dict:=some h.objs.size }:=by
   rw [<- hg2];refine H_ _ hx1 ?_;have hfr:=(Heap.get?_some_iff.mp hx).2;obtain⟨oc,od,odt,osl⟩:=o;cases odt <;> first|rfl|exact hfr
  have kp:∀b ob,b≠x->h.get? b=some ob->h2.get? b=some ob:=λb ob hb e=>by
   rw [<- hg2];exact (Il _ _ _ _ hb).trans (c_ _ e)
  have hnd:h2.Ns h.objs.size (λ_=>none):=⟨_,#[],_,gd,rfl,λe he=>absurd he (by simp),λ_=>rfl⟩
  show wpAny _ _ (storeInDict h.objs.size (.str name tk) name v) _ _ _;unfold storeInDict newKeyGuard;refine cy (e_ (cy (wpAny_nsSet1 (Heap.Ns1.of_empty hnd) λh' hn' hs=>?_)));obtain⟨oD,esD,epD,hoD,hdD,hcD⟩:=hn'.count (Within.cons name v Within.nil)
  refine cy (wpAny_lookBehind hoD (by
   rw [hdD];exact pastItsLine_dict (E_ hcD (by rw [length_cons,length_nil,Jw];omega))) ?_)
  wp_walk
  exact hq h' _ h.objs.size ⟨(hs.2 x hxs).trans gx,so _,hxs.symm,hn',λb ob hb e=>(hs.2 b (Hi (l_ e))).trans (kp b ob hb e)⟩
def Ax{Q:Unit->d_->Prop}(X:K.In h)(hC:h.get? C=some (excClassObj nm q C N bs (.ref G::vmB) true sn sub ab col none k0 k1 k2 k3 k5 "ValueError.__new__"))
  (hsa:f_ K (.ref C) "__setattr__"=some (some (.builtin "object.__setattr__"))) (hna:f_ K (.ref C) name=some none)
  (hx:h.get? x=some o) (hc:o.cls=.ref C) (hd:o.data=.fields vs) (hdn:o.dict=none)
  (hq:∀h' tk' dx,Gx h h' x o name v dx->Q () ⟨h',g,d,tk',os⟩) :
  wpAny (model prog w) A (setAttr (.ref x) name v) Q E ⟨h,g,d,t,os⟩:=by
 have SF:=KH;have u3:=SF.slot.bind (.ref x);unfold setAttr callSpecial? specialOf;refine cy (wpAny_mkText (cy (cy (cy (JS hx ?_)))));rw [hc];refine (IE X hsa).at ?_;refine HB (cy (Ld u3 (cy (KR ?_))))
 have own:(k_ C::.ref G::vmB).contains (.type "object")=true:=by
  rw [contains_cons,contains_cons,SF.hasOwner,K3,K3]
 refine J5 SF.slot.plain SF.entry ?_;simp only [checkBuiltinCall,SF.kind,SF.split];have ha:=SF.args (.ref x) (.str name t) v;show wpAny _ _ (isInstance (.ref x) (.type "object") >>= _) _ _ _;refine cy ?_;unfold isInstance;refine cy (JS hx ?_);rw [hc];refine Im hC ?_;rw [own]
 have step:∀{Q':Fin->d_->Prop},(∀s',Q () s'->Q' (.done (.ret .none)) s')->wpAny (model prog w) A.in1 (IM.«object.__setattr__» ⟨[.ref x,.str name t,v],[]⟩) Q' E ⟨h,g,d,t+1,os⟩:=λk =>
  nZ X hC hna hx hc hd hdn λh' tk' dx z=>k _ (hq h' tk' dx z)
 show wpAny _ _ (match Jm "object.__setattr__" with|some sig=>Jg "object.__setattr__" sig { pos:=[k_ x]++[Jv name t,v] }|x=>pure ()) _ _ _
 cases hsig:Jm "object.__setattr__" with
 | none=>exact e_ (step λs' z=>e_ (e_ z))
 | some sig =>
  simp only [argsOk,hsig] at ha;have h2:Jg "object.__setattr__" sig ⟨[.ref x,.str name t,v],[]⟩=pure ():=ha;show wpAny _ _ (Jg "object.__setattr__" sig ⟨[.ref x,.str name t,v],[]⟩) _ _ _;rw [h2];exact e_ (step λs' z=>e_ (e_ z))
end
open PySem.Builtin PySem.Builtin.ObjectAttr
open PySem.Builtin PySem.Builtin.ObjectAttr
section
variable {prog:r_}{w:World}{A:w_}{E:Value->d_->Prop}{K:b_}{h:Heap}{g:Array Ko}{d:Drawn}{t:Nat}{os:Ja}
variable {nm q:Str}{C G N x dx:Addr}{bs:List Value}{sn:List Str}{sub:List Value}{ab:Bool}{col:Option Bool}{k0 k1 k2 k3 k5:Option Value}{name:Str}{v:Value}{o:Obj}{vs:Array Value}{mA:Str->Option Value}
def wc{R:Result->d_->Prop}(hC:h.get? C=some (excClassObj nm q C N bs (.ref G::vmB) true sn sub ab col none k0 k1 k2 k3 k5 "ValueError.__new__"))(hx:h.get? x=some o)(hc:o.cls=.ref C)
  (hq:R (.ok (.ret (.ref C))) ⟨h,g,d,t,os⟩):codeAny (model prog w) A (.call (.builtin "getset_descriptor.__get__") ⟨[.builtin "object.__class__",.ref x,.ref C],[]⟩) R ⟨h,g,d,t,os⟩:=by
 have hT5:(⟨h,g,d,t,os⟩:d_).TypeIs (.builtin "object.__class__") "getset_descriptor":=Kl
 have own:(k_ C::.ref G::vmB).contains (.type (".".intercalate ("object.__class__".cutAt '.').dropLast))=true:=by
  rw [PySem.F.owner_object_class];rfl
 refine J5 Kb.plain PySem.F.entry_gs_get ?_;refine Kb.check _ _ _ _ _ _ _ _ hT5 (PySem.F.args_gs_get _ _ _) ?_
 repeat (any_goals (first
  | assumption
  | (with_reducible refine HN hx ?_;rw [hc])
  | (with_reducible refine Im hC ?_;rw [own])
  | wp_step))
 refine⟨Code.quiet_builtin _ (by decide +kernel),codeAny_builtin PySem.F.entry_object_class ?_⟩
 repeat (any_goals (first
  | assumption
  | (with_reducible refine HN hx ?_;rw [hc])
  | wp_step))
def qM{tk:Tok}{Q:Fin->d_->Prop}(X:K.In h)(hC:h.get? C=some (excClassObj nm q C N bs (.ref G::vmB) true sn sub ab col none k0 k1 k2 k3 k5 "ValueError.__new__"))(hx:h.get? x=some o)(hc:o.cls=.ref C)
  (hcl:f_ K (.ref C) "__class__"=some (some (.builtin "object.__class__"))) (hq:Q (.done (.ret (.ref C))) ⟨h,g,d,t,os⟩) :
  wpAny (model prog w) A (IM.«object.__getattribute__» ⟨[.ref x,.str "__class__" tk],[]⟩) Q E ⟨h,g,d,t,os⟩:=by
 have u5:=Kl;have u6:=Kb.lookup;have u7:=PySem.F.slot_gs_set.lookup;unfold IM.«object.__getattribute__»
 repeat (any_goals (first
  | assumption
  | (with_reducible refine HN hx ?_;rw [hc])
  | (with_reducible refine (IE X hcl).at ?_)
  | wp_step))
 refine wc hC hx hc ?_
 repeat (any_goals (first
  | assumption
  | wp_step))
end
open PySem.Builtin PySem.Builtin.ObjectAttr
section
variable {prog:r_}{w:World}{A:w_}{E:Value->d_->Prop}{K:b_}{h:Heap}{g:Array Ko}{d:Drawn}{t:Nat}{os:Ja}
variable {nm q:Str}{C G N x dx:Addr}{bs:List Value}{sn:List Str}{sub:List Value}{ab:Bool}{col:Option Bool}{k0 k1 k2 k3 k5:Option Value}{name:Str}{v:Value}{o:Obj}{vs:Array Value}{mA:Str->Option Value}
def GW{fill expr:Bool}{tk:Tok}{Q:Value->d_->Prop}(X:K.In h)(hC:h.get? C=some (excClassObj nm q C N bs (.ref G::vmB) true sn sub ab col none k0 k1 k2 k3 k5 "ValueError.__new__"))
  (hga:f_ K (.ref C) "__getattribute__"=some (some (.builtin "BaseException.__getattribute__"))) (hgh:f_ K (.ref C) "__getattr__"=some none)
  (hx:h.get? x=some o) (hc:o.cls=.ref C) (hh:handedOut v=pure v)
  (step:∀{Q':Fin->d_->Prop}{E':Value->d_->Prop},Q' (.done (.ret v)) ⟨h,g,d,t,os⟩->wpAny (model prog w) A.in1 (IM.«object.__getattribute__» ⟨[.ref x,.str name tk],[]⟩) Q' E' ⟨h,g,d,t,os⟩)
  (hq:Q v ⟨h,g,d,t,os⟩):wpAny (model prog w) A (getAttrBy (.ref x) (.str name tk) fill expr) Q E ⟨h,g,d,t,os⟩:=by
 unfold getAttrBy;refine HB (cy (JS hx ?_));rw [hc];refine cy ((IE X hga).at ?_);have hx2:(KI "BaseException.__getattribute__" == KI "object.__getattribute__")=false:=by decide +kernel
 show wpAny _ _ (if (onTheHeap (.ref C) && (KI "BaseException.__getattribute__" == KI "object.__getattribute__"))=true then _ else _) _ _ _;rw [hx2,HY,if_neg (by decide)];unfold getAttrByItsOwn;refine cy ((PySem.W.looks_hook X (r:=none) (by rw [if_pos (by rfl)];exact hgh)).at ?_);refine cy (IZ ?_);unfold callGetattribute;refine HB ?_
 rw [if_neg (by cases expr <;> decide)];unfold boundAndCalled;have FB:=PySem.F.attrBase_ValueError
 have own:(k_ C::.ref G::vmB).contains (.type "BaseException")=true:=by
  rw [contains_cons,contains_cons,FB.hasBase,K3,K3]
 have ha:=PySem.F.args_bexc_ga (.ref x) (.str name tk);have hk:builtinKind "BaseException.__getattribute__"=some .slot:=by decide +kernel
 have hsp:splitId "BaseException.__getattribute__"=some ("BaseException","__getattribute__"):=by decide +kernel
 refine cy (Ld (FB.ga.bind (.ref x)) ?_);refine KR (J5 FB.ga.plain PySem.F.entry_bexc_ga ?_);simp only [checkBuiltinCall,hk,hsp];show wpAny _ _ (isInstance (.ref x) (.type "BaseException") >>= _) _ _ _;refine cy ?_;unfold isInstance;refine cy (JS hx ?_);rw [hc];refine Im hC ?_;rw [own];have done:wpAny (model prog w) A (handedOut v) Q E ⟨h,g,d,t,os⟩:=by rw [hh];exact e_ hq
 show wpAny _ _ (match Jm "BaseException.__getattribute__" with|some sig=>Jg "BaseException.__getattribute__" sig { pos:=[k_ x]++[Jv name tk] }|x=>pure ()) _ _ _
 cases hsig:Jm "BaseException.__getattribute__" with
 | none=>exact e_ (step done)
 | some sig =>
  simp only [argsOk,hsig] at ha;have h2:Jg "BaseException.__getattribute__" sig ⟨[.ref x,.str name tk],[]⟩=pure ():=ha;show wpAny _ _ (Jg "BaseException.__getattribute__" sig ⟨[.ref x,.str name tk],[]⟩) _ _ _;rw [h2];exact e_ (step done)
def Ay{Q:Option Value->d_->Prop}(X:K.In h)(hC:h.get? C=some (excClassObj nm q C N bs (.ref G::vmB) true sn sub ab col none k0 k1 k2 k3 k5 "ValueError.__new__"))
  (hga:f_ K (.ref C) "__getattribute__"=some (some (.builtin "BaseException.__getattribute__"))) (hgh:f_ K (.ref C) "__getattr__"=some none)
  (hcl:f_ K (.ref C) "__class__"=some (some (.builtin "object.__class__"))) (hx:h.get? x=some o) (hc:o.cls=.ref C) (hq:Q (some (.ref C)) ⟨h,g,d,t+1,os⟩) :
  wpAny (model prog w) A (getAttr? (.ref x) "__class__") Q E ⟨h,g,d,t,os⟩:=by
 unfold getAttr? getAttrBy?;refine cy (wpAny_mkText (cy (IZ ?_)));exact GW X hC hga hgh hx hc rfl (λk=>qM X hC hx hc hcl k) (e_ hq)
structure XC (K:b_) (C G:Addr):Prop where
 obj:∃nm q N bs sn sub ab col k0 k1 k2 k3 k5,K.lookup C=some (excClassObj nm q C N bs (.ref G::vmB) true sn sub ab col none k0 k1 k2 k3 k5 "ValueError.__new__")
 ga:f_ K (.ref C) "__getattribute__"=some (some (.builtin "BaseException.__getattribute__"))
 gh:f_ K (.ref C) "__getattr__"=some none
 sa:f_ K (.ref C) "__setattr__"=some (some (.builtin "object.__setattr__"))
 cl:f_ K (.ref C) "__class__"=some (some (.builtin "object.__class__"))
def n5{dd:Option Addr}{new:Bool}(c:XC K C G):PySem.W.KitX K (.ref x) (.ref C) (XAt x C dd new) where
 ty:=λM h X p=>by
  obtain⟨o,vs,h1,h2,_⟩:=p;exact h2 ▸ (PySem.W.Looks.ld h1).andThen .now
 it:=λM h X p=>by
  obtain⟨nm,q,N,bs,sn,sub,ab,col,k0,k1,k2,k3,k5,e⟩:=c.obj;intro A' Q' E' s' k q;unfold isType loadHead;exact cy (wpAny_loadPart (k _ _ (X _ _ e)) (e_ q))
 ne:=λh tp dd its n sl X htp=>by
  obtain⟨nm,q,N,bs,sn,sub,ab,col,k0,k1,k2,k3,k5,e⟩:=c.obj;refine eq_false_iff.mpr λz=>?_;have e2:C=tp:=JY (beq_iff_eq.mp z);subst e2;have e3:=congrArg Obj.data (we ((X _ _ e).symm.trans htp));cases e3
 ca:=λ{prog w A E Q s} X p k=>by
  obtain⟨h,g,d,t,os⟩:=s;obtain⟨o,vs,h1,h2,_⟩:=p;obtain⟨nm,q,N,bs,sn,sub,ab,col,k0,k1,k2,k3,k5,e⟩:=c.obj;exact Ay X (X _ _ e) c.ga c.gh c.cl h1 h2 k
end
def XAt.ok{P:r_}{w:World}{H:Hp}{h:Heap}{x C:Addr}{dd:Option Addr}{new:Bool}(p:XAt x C dd new h):bu P w H h x (.ext (XAt x C dd new)):=by
 obtain⟨o,vs,h1,h2,h3,h4⟩:=id p;exact⟨p,⟨o,h1⟩,λg1 g2 ⟨o',vs',a1,a2⟩ k=>⟨o',vs',k _ a1,a2⟩⟩
section
variable {X:Cx}{pins:List (Addr×Obj)}{σ:St}{H:Hp}{s:d_}{a dx C G:Addr}{f:Str}{v:V}{fs:List (Str×V)}{A:w_}{E:Value->d_->Prop}
def Un.setX{h h':Heap}{fs ex:List Addr}{o:HO}{o2:HO}(mu:Mut (H a))(hx:H dx=none)(hd:h.get? dx=none)(k:∀b ob,b≠a->h.get? b=some ob->h'.get? b=some ob)(ha:∃o,h'.get? a=some o):Un fs ex H (upd (upd H dx o) a o2) h h':=by
 have na:∀b,H b=none->b≠a:=λb n z=>by subst z;rw [n] at mu;exact mu
 have nd:∀b ob,h.get? b=some ob->b≠dx:=λb ob e z=>by rw [z,hd] at e;cases e
 have hm:∀b u,H b=some u->¬ Mut (some u)->b≠a/\b≠dx:=λb u q nm=>⟨λz=>by subst z;rw [q] at mu;exact nm mu,λz=>by subst z;rw [hx] at q;cases q⟩
 refine⟨λb u q n _ _=>k b u (na b n) q,λb u q n _ _=>⟨u.slots,k b u (na b n) q⟩,λb u q n _=>by rw [ar (na b n),ar (nd b u q)];exact n,λb u q _=>?_,
  λb xs q=>by rw [ar (hm b _ q λz=>z).1,ar (hm b _ q λz=>z).2];exact q,λb u xs q=>by rw [ar (hm b _ q λz=>z).1,ar (hm b _ q λz=>z).2];exact q,
  λb ps q=>⟨#[],by rw [ar (hm b _ q λz=>z).1,ar (hm b _ q λz=>z).2,q];simp⟩⟩
 by_cases hb:b=a
 .subst hb;exact ha
 .exact⟨u,k b u hb q⟩
def setX{new:Bool}{y:V}{u:Value}{Q:Unit->d_->Prop}(I:Inv X pins σ H s)(ea:H a=some (.ext (XAt a C none new)))(c:XC X.K C G)(n:f_ X.K (.ref C) f=some none)(ry:c4 y u)
  (h:∀dx s',H dx=none->Inv X pins σ (upd (upd H dx (.xd [(f,y)])) a (.ext (XAt a C (some dx) new))) s'->Q () s'):wpAny (model X.prog X.w) A (setAttr (.ref a) f u) Q E s:=by
 obtain⟨⟨o,vs,h1,h2,h3,h4,h5⟩,_,_⟩:=(show bu X.prog X.w H s.heap a (.ext (XAt a C none new)) from I.hok a _ ea)
 obtain⟨nm,q,N,bs,sn,sub,ab,col,k0,k1,k2,k3,k5,e⟩:=c.obj;have X2:=I.kIn;obtain⟨hh,g,d,t,os⟩:=s;refine Ax X2 (X2 _ _ e) c.sa n h1 h2 h4 h3 λh' tk' dx z=>?_;obtain⟨z1,z2,z3,z4,z5⟩:=z;have hdx:H dx=none:=I.hok.fresh z2;have hg0:hh.get? dx=none:=Heap.get?_none_of_le z2;have hne:dx≠a:=z3;have mu:Mut (H a):=by rw [ea];exact Ik
 refine h dx _ hdx (I.un (t':=tk') (Un.setX mu hdx hg0 z5 ⟨_,z1⟩) λb ob eb=>?_)
 by_cases hb:b=a
 .subst hb;rw [aB] at eb;cases eb;exact XAt.ok ⟨_,vs,z1,h2,rfl,h4,h5⟩
 .rw [ar hb] at eb
  by_cases hb2:b=dx
  .subst hb2;rw [aB] at eb;cases eb;refine⟨_,z4,λy'=>?_⟩;show uj (Ic y' [(f,y)]) _
   by_cases q:y'=f
   .subst q;rw [if_pos rfl];have e1:Ic y' [(y',y)]=some y:=by simp [Ic]
    rw [e1];exact ry
   .rw [if_neg q];have:(y' == f)=false:=beq_eq_false_iff_ne.mpr q;simp [Ic,this,uj]
  .rw [ar hb2] at eb
   refine (I.hok b ob eb).stay (λc w hc e=>?_) (λc e=>?_) λc xs e=>?_
   .refine z5 c w ?_ e;rintro rfl
    rcases hc with hc|hc
    .exact hb hc.symm
    .rw [ea] at hc;cases hc
   .rw [ar,ar]
    .exact e
    .rintro rfl;rw [hdx] at e;cases e
    .rintro rfl;rw [ea] at e;cases e
   .rw [ar,ar]
    .exact e
    .rintro rfl;rw [hdx] at e;cases e
    .rintro rfl;rw [ea] at e;cases e
end
section
variable {X:Cx}{o e value:Expr}{f:Str}{pos pos':Pos}{ta tv:TE}
noncomputable def Az(K:b_)(ta tv:TE)(f:Str):TS:=λD σ H=>tv σ H λy H1=>ta σ H1 λx H2=>∃a C G new,x=.ref a/\H2 a=some (.ext (XAt a C none new))/\XC K C G/\f_ K (.ref C) f=some none /\
 ∀dx,H2 dx=none->D.nx σ (upd (upd H2 dx (.xd [(f,y)])) a (.ext (XAt a C (some dx) new)))
def AA(ha:PE X o ta)(hv:PE X value tv)(hs:swapsWith value (some (.Attribute o f pos')) pos.line X.env=pure false):PS X (.Assign [.Attribute o f pos'] value pos) (Az X.K ta tv f):=by
 intro pins s σ H D I h;refine JM (thn (hv pins s σ H _ I h) λu s1 z=>?_) hs;obtain⟨y,H1,I1,ry,q⟩:=z;refine thn (ha pins s1 σ H1 _ I1 q) λov s2 z=>?_;obtain⟨x,H2,I2,rx,a,C,G,new,ex,ea,c,n,q2⟩:=z;subst ex;obtain rfl:ov=k_ a:=rx;exact setX I2 ea c n ry λdx s3 hdx I3=>⟨σ,_,I3,q2 dx hdx⟩
end
def bu.there{P:r_}{w:World}{H:Hp}{h:Heap}{a:Addr}{o:HO}(x:bu P w H h a o):∃ob,h.get? a=some ob:=by
 cases o with
 | lst xs=>obtain⟨_,_,_,_,e⟩:=x;exact⟨_,e⟩
 | tup xs=>obtain⟨_,_,_,ob,e,_⟩:=x;exact⟨ob,e⟩
 | dK kvs=>obtain⟨_,_,_,_,o,_,_,e,_⟩:=x;exact⟨o,e⟩
 | dT kvs=>obtain⟨_,_,_,_,o,_,_,e,_⟩:=x;exact⟨o,e⟩
 | set S n=>obtain⟨o,_,_,_,e,_⟩:=x;exact⟨o,e⟩
 | ins C dx fs=>obtain⟨_,_,_,e,_⟩:=x;exact⟨_,e⟩
 | own y=>exact x
 | xd fs=>obtain⟨_,⟨o,_,_,e,_⟩,_⟩:=x;exact⟨o,e⟩
 | rng lo hi=>obtain⟨_,_,_,e⟩:=x;exact⟨_,e⟩
 | frz ob u=>obtain⟨e,_⟩:=x;exact⟨ob,e⟩
 | tbl ps=>obtain⟨_,_,_,_,_,e,_⟩:=x;exact⟨_,e⟩
 | met f y=>exact⟨_,(show h.get? a=some _ from x)⟩
 | ext φ=>exact x.2.1
def HOk.not{P:r_}{w:World}{H:Hp}{h:Heap}{a:Addr}(x:HOk P w H h)(e:h.get? a=none):H a=none:=by
 cases q:H a with
 | none=>rfl
 | some u=>obtain⟨ob,e2⟩:=(x a u q).there;rw [e] at e2;cases e2
section
variable {X:Cx}{pins:List (Addr×Obj)}{σ:St}{H:Hp}{s:d_}{h':Heap}{a:Addr}{o:HO}
def Inv.news{t':Nat}(I:Inv X pins σ H s)(k:∀b u,s.heap.get? b=some u->h'.get? b=some u)(hn:s.heap.get? a=none)(new:bu X.prog X.w (upd H a o) h' a o):Inv X pins σ (upd H a o) { s with heap:=h',toks:=t' }:=by
 have ha:=I.hok.not hn
 refine I.un ⟨λb u q _ _ _=>k b u q,λb u q _ _ _=>⟨u.slots,k b u q⟩,λb u q n _=>?_,λb u q _=>⟨u,k b u q⟩,λb xs q=>?_,λb u xs q=>?_,λb ps q=>⟨#[],?_⟩⟩ λb u q=>?_
 .rw [ar (λz=>by rw [z,hn] at q;cases q)];exact n
 .rw [ar (aH q ha)];exact q
 .rw [ar (aH q ha)];exact q
 .rw [ar (aH q ha),q];simp
 .by_cases hb:b=a
  .subst hb;rw [aB] at q;cases q;exact new
  .rw [ar hb] at q;exact (I.hok b u q).stay (λc v _ e=>k c v e) (λc e=>by rw [ar (aH e ha)];exact e) λc xs e=>by rw [ar (aH e ha)];exact e
end
structure XM (K:b_) (C G fI:Addr):Prop where
 c:XC K C G
 tail:∀h:Heap,K.In h->OwnTail h vmB (.ref G::vmB)
 init:f_ K (.ref C) "__init__"=some (some (.ref fI))
 fn:IQ K (.ref fI)=some (.type "function")
 kp:u_ K (.ref C)=true
noncomputable def C4(K:b_)(f:Str):Sp:=λvs H Q _=>∃a C G new v,vs=[.ref a,v]/\H a=some (.ext (XAt a C none new))/\XC K C G/\f_ K (.ref C) f=some none/\∀dx,H dx=none->Q .non (upd (upd H dx (.xd [(f,v)])) a (.ext (XAt a C (some dx) new)))
structure C5 (P:r_) (w:World) (K:b_) (mg:Str->Option Value) (base:Heap) (k:Nat) (C:Addr) (x f:Str):Prop where
 ex:∃(G fI:Addr) (fd:HH) (ps:List Str),lL P w K mg base CX0 k fI fd ps (C4 K f)/\iK K fd ps []/\XM K C G fI/\f_ K (.ref C) f=some none/\mg x=some (.ref C)
noncomputable def X0(K:b_)(C:Addr):Prop:=∀h:Heap,K.In h->∃bm N nm q bs hd sn sub ab col dd k0 k1 k2 k3 k5 mN,
 h.get? C=some (excClassObj nm q C N bs bm hd sn sub ab col dd k0 k1 k2 k3 k5 "ValueError.__new__")/\h.Ns N mN/\mN "__init__"=none/\OwnTail h vmB bm
def yg{K:b_}{C:Addr}(q:I_ K C vmB "ValueError.__new__"=true):X0 K C:=λh X=>by
 unfold I_ at q;split at q
 case h_2=>cases q
 case h_1 dd cd sl ho =>
  split at q
  case h_2=>cases q
  case h_1 C' bm k0 k1 k2 k3 n k5 hm hs =>
   simp only [and_eq_true,beq_iff_eq,KG] at q;obtain⟨⟨⟨⟨⟨e1,e2⟩,hdel⟩,ht⟩,hok⟩,hni⟩:=q;subst e1 e2
   cases cd with
   | mk nm bs mro ns qn hd sn sub ab col del =>
    cases sl with
    | mk l =>
     have hs:l=[k0,k1,k2,k3,some (.builtin "ValueError.__new__"),k5]:=hs;have hm:mro=.ref C'::bm:=hm;have hdel:del=false:=hdel;subst hs hm hdel;refine⟨bm,ns,nm,qn,bs,hd,sn,sub,ab,col,dd,k0,k1,k2,k3,k5,_,X _ _ ho,.of_isNs (PySem.W.isNs_of_in X hok),PySem.W.nsMap_none_of_in X hok hni,PySem.W.tail_of_in X ht⟩
def AB{K:b_}{G:Addr}(q:I_ K G vmB "ValueError.__new__"=true)(hg:∃nm q N bs sn sub ab col k0 k1 k2 k3 k5,K.lookup G=some (excClassObj nm q G N bs vmB true sn sub ab col none k0 k1 k2 k3 k5 "ValueError.__new__")) :
  ∀h:Heap,K.In h->OwnTail h vmB (.ref G::vmB):=λh X=>by
 obtain⟨bm,N,nm,qn,bs,hd,sn,sub,ab,col,dd,k0,k1,k2,k3,k5,mN,h1,h2,h3,_⟩:=yg q h X;exact .own h1 h2 h3 .base
noncomputable def C6(C:Addr):TE:=λσ H Q=>∀e,H e=none->Q (.ref e) (upd H e (.ext (XAt e C none true)))
section
variable {X:Cx}{C:Addr}{x:Str}{p pos:Pos}
def AC(z:X0 X.K C)(kp:u_ X.K (.ref C)=true)(hm:X.mg x=some (.ref C))(hg:Gl X x:=by rfl)(hdb:(x == ("__debug__":Str))=false:=by decide):PE X (.Call (.Name x p) [] [] pos) (C6 C):=by
 intro pins s σ H Q I h;refine Iu (io I hg hm ?_ hdb);refine PySem.W.callWith_K0 I.kIn kp ?_;obtain⟨bm,N,nm,qn,bs,hd,sn,sub,ab,col,dd,k0,k1,k2,k3,k5,mN,h1,h2,h3,h4⟩:=z s.heap I.kIn;have I0:=I;obtain⟨hh,g,d,tk,os⟩:=s;refine wpAny_call_exc_subT PySem.F.excBase_ValueError h4 h1 h2 h3 (λh' e made=>?_) (by show 0<=sizeLine;exact Iy _);obtain⟨tt,m1,m2,m3⟩:=made.there;have new:XAt e C none true h':=⟨_,_,m1,rfl,rfl,rfl,(by show 1<6;decide),λ_=>rfl⟩
 exact⟨V.ref e,_,I0.news (t':=tk) made.keeps made.new new.ok,rfl,h e (I0.hok.not made.new)⟩
noncomputable def Fh(K:b_)(D:Addr):List V->Hp->VK->Prop:=λxs H Q=>∃a C G dd new b,xs=[.ref a,.ref D]/\H a=some (.ext (XAt a C dd new))/\XC K C G/\Hm K (.ref C) (.ref D)=some b/\Q (.bl b) H
def yh{D:Addr}:bj X (.builtin "isinstance") (Fh X.K D):=by
 intro pins s σ H xs us Q I r h;obtain⟨a,C,G,dd,new,b,rfl,ea,c,e,q⟩:=h;obtain⟨u,w',rfl,rx,ry⟩:=qu r;cases (show u=k_ a from rx);cases (show w'=k_ D from ry);have ok:=(show bu X.prog X.w H s.heap a (.ext (XAt a C dd new)) from I.hok a _ ea)
 exact Hx (n5 c) I.kIn ok.1 e (λz=>nomatch z) λtk=>⟨.bl b,H,I.tok _,rfl,q⟩
noncomputable def AD(K:b_):List V->Hp->VK->Prop:=λxs H Q=>∃a C G dd new n b,xs=[.ref a,.ty n]/\H a=some (.ext (XAt a C dd new))/\XC K C G/\Hm K (.ref C) (.type n)=some b/\Q (.bl b) H
def wd:bj X (.builtin "isinstance") (AD X.K):=by
 intro pins s σ H xs us Q I r h;obtain⟨a,C,G,dd,new,n,b,rfl,ea,c,e,q⟩:=h;obtain⟨u,w',rfl,rx,ry⟩:=qu r;cases (show u=k_ a from rx);cases (show w'=Jd n from ry);have ok:=(show bu X.prog X.w H s.heap a (.ext (XAt a C dd new)) from I.hok a _ ea)
 exact Hx (n5 c) I.kIn ok.1 e (λz=>nomatch z) λtk=>⟨.bl b,H,I.tok _,rfl,q⟩
end
noncomputable def XCl(K:b_)(c:Str):Prop:=∃dd cd sl,K.lookup (aI K c)=some ⟨.type "type",dd,.cls cd,sl⟩/\cd.name=c
structure yi (K:b_) (cs:List Str):Prop where
 g:XCl K "GlueError"
 n:∀c∈cs,XCl K c
 c:∀c∈cs,XC K (aI K c) (aI K "GlueError")
section
variable {K:b_}{C G D:Addr}{c d:Str}
def XCl.ne(h1:XCl K c)(h2:XCl K d)(n:c≠d):aI K c≠aI K d:=λe=>by
 obtain⟨_,cd,_,l1,n1⟩:=h1;obtain⟨_,cd2,_,l2,n2⟩:=h2;rw [e,l2] at l1;cases l1;exact n (n1.symm.trans n2)
def wf(x:XC K C G)(base:Value):Lp K (.ref C) base=some ((k_ C::.ref G::vmB).contains base):=by
 obtain⟨nm,q,N,bs,sn,sub,ab,col,k0,k1,k2,k3,k5,e⟩:=x.obj;show Ln K C base=_;unfold Ln JZ;rw [e];rfl
def AE(x:XC K C G)(y:∃dd cd sl,K.lookup D=some ⟨.type "type",dd,.cls cd,sl⟩):Hm K (.ref C) (.ref D)=some (decide (C=D) || decide (D=G)):=by
 obtain⟨dd,cd,sl,e⟩:=y;unfold Hm
 by_cases h:C=D
 .subst h;simp
 .rw [if_neg (λz=>h (JY (beq_iff_eq.mp z)))];unfold PySem.W.kitCls
  have e1:((JZ K D).isSome && IQ K (.ref D) == some (.type "type"))=true:=by
   have e2:JZ K D=some cd:=by unfold JZ;rw [e]
   have e3:IQ K (.ref D)=some (.type "type"):=by show (K.lookup D).map (·.cls)=_;rw [e];rfl
   rw [e2,e3];rfl
  show (if ((JZ K D).isSome && IQ K (.ref D) == some (.type "type"))=true then Lp K (.ref C) (.ref D) else none)=_;rw [if_pos e1,wf x,decide_eq_false h,JX];congr 1;rw [contains_cons,contains_cons];have t1:(k_ D == k_ C)=false:=beq_eq_false_iff_ne.mpr λz=>h (JY z).symm;have t2:vmB.contains (k_ D)=false:=rfl;rw [t1,t2,JX,Lo]
  by_cases g:D=G
  .subst g;simp
  .rw [decide_eq_false g];exact beq_eq_false_iff_ne.mpr λz=>g (JY z)
def AF(x:XC K C G):Hm K (.ref C) (.type "ValueError")=some true:=by
 unfold Hm;rw [if_neg (by intro z;cases beq_iff_eq.mp z)];unfold PySem.W.kitCls;show (if PySem.W.kitMeta "ValueError"=true then Lp K (.ref C) (.type "ValueError") else none)=_;rw [if_pos (by decide +kernel),wf x];rfl
end
noncomputable def ul(c d:Str):Bool:=decide (c=d) || decide (d="GlueError")
def wg{K:b_}{cs:List Str}(X:yi K cs){c d:Str}(hc:c∈cs)(hd:d∈cs\/d="GlueError"):Hm K (.ref (aI K c)) (.ref (aI K d))=some (ul c d):=by
 have yd:XCl K d:=hd.elim (X.n d) λe=>by rw [e];exact X.g
 obtain⟨dd,cd,sl,e1,e2⟩:=id yd;rw [AE (X.c c hc) ⟨dd,cd,sl,e1⟩];unfold ul
 congr 2
 .by_cases h:c=d
  .subst h;rw [decide_eq_true rfl,decide_eq_true rfl]
  .rw [decide_eq_false h,decide_eq_false ((X.n c hc).ne yd h)]
 .by_cases h:d="GlueError"
  .subst h;rw [decide_eq_true rfl,decide_eq_true rfl]
  .rw [decide_eq_false h,decide_eq_false (yd.ne X.g h)]
section
variable {K:b_}{ta:TA}{te:TE}{pa:PTA}{pe:PA1}{cs:List Str}
def FVc.exc{O:Addr->Prop}{H:Hp}{v:V}{c:Str}{ns:List Str}{ds:List D}(h:FVc K O H v (.exc c ns ds)):FV K O H v (.exc c ns ds):=h.fv nofun nofun
noncomputable def Fi(c:Str):PTE:=λρ Q=>Q (.dat (.exc c [] [])) ρ
noncomputable def GX(cs:List Str)(d:Str)(pa:PA1):PTE:=λρ Q=>pa ρ λx ρ1=>match cont ρ1 x with
 | some (.exc c ns ds)=>cs.contains c=true/\Q (.dat (.bl (ul c d))) ρ1
 | _=>False
def C7{d:Str}(X:yi K cs)(hd:d∈cs\/d="GlueError")(h:LA1 K te pe):LE K (tCB (Fh K (aI K d)) (aW te (aW (tC (.ref (aI K d))) eR))) (GX cs d pe):=λA ρ σ H Q Q' R q k=>h A ρ σ H _ _ R q λv H1 a ρ1 q1 f1 R1 o1=>by
 split at q1
 .rename_i c ns ds e;obtain⟨hc,q1⟩:=q1;have hc:c∈cs:=Hd.mp hc;have ek:=wg X hc hd
  cases (R1.cont o1 e).exc with
  | exc0 n1 e1=>exact⟨_,_,_,_,_,_,rfl,e1,X.c c hc,ek,k _ H1 _ ρ1 q1 f1 ⟨R1,.bl _⟩⟩
  | exc1 n1 n2 e1 e2 m f=>exact⟨_,_,_,_,_,_,rfl,e1,X.c c hc,ek,k _ H1 _ ρ1 q1 f1 ⟨R1,.bl _⟩⟩
 .exact q1.elim
noncomputable def GY(cs:List Str)(pa:PA1):PTE:=λρ Q=>pa ρ λx ρ1=>match cont ρ1 x with
 | some (.exc c ns ds)=>cs.contains c=true/\Q (.dat (.bl true)) ρ1
 | _=>False
def C8(X:yi K cs)(h:LA1 K te pe):LE K (tCB (AD K) (aW te (aW (tC (.ty "ValueError")) eR))) (GY cs pe):=λA ρ σ H Q Q' R q k=>h A ρ σ H _ _ R q λv H1 a ρ1 q1 f1 R1 o1=>by
 split at q1
 .rename_i c ns ds e;obtain⟨hc,q1⟩:=q1;have hc:c∈cs:=Hd.mp hc;have ek:=AF (X.c c hc)
  cases (R1.cont o1 e).exc with
  | exc0 n1 e1=>exact⟨_,_,_,_,_,_,_,rfl,e1,X.c c hc,ek,k _ H1 _ ρ1 q1 f1 ⟨R1,.bl _⟩⟩
  | exc1 n1 n2 e1 e2 m f=>exact⟨_,_,_,_,_,_,_,rfl,e1,X.c c hc,ek,k _ H1 _ ρ1 q1 f1 ⟨R1,.bl _⟩⟩
 .exact q1.elim
end
section
variable {X:Cx}
def Fj(K:b_)(e:X.K=K){D:Addr}:bj X (.builtin "isinstance") (Fh K D):=by subst e;exact yh
def Fk(K:b_)(e:X.K=K):bj X (.builtin "isinstance") (AD K):=by subst e;exact wd
def jr{x:Str}{C:Addr}{p:Pos}(hm:X.mg x=some (.ref C))(hg:Gl X x:=by rfl)(hdb:(x == ("__debug__":Str))=false:=by decide):PE X (.Name x p) (tC (.ref C)):=by
 intro pins s σ H Q I h;exact io I hg hm ⟨.ref C,H,I,rfl,h⟩ hdb
end
section
variable {P:r_}{w:World}{K:b_}{mg:Str->Option Value}{base:Heap}{x qual nm:Str}{C G fI:Addr}{st:Stmt}{fd:HH}{N ps:List Str}
def n6(F:Fun K "__init__" qual st fI fd)(S:aD N ps (ag st))(hl:ps.length=2)
  (hb:∀(kV doc pm:Value) (an:Option Addr) (cdv ct:Value) (us:List Value),us.length=ps.length->bindArgs (Hb "__init__" qual (bC st) (aS st) (ag st) .none kV doc pm an cdv ct) ⟨us,[]⟩=pure (ps.zip us))
  (hp:∀(cdv:Value) (A:w_) (outer:List Env) (s:d_) (H:Hp) (E:XK),PSs (lM CX0 P w K mg base N qual (ag st) fI cdv A outer s H E).nox (aS st) (Az K (bw 0) (bw 1) nm))
  (m:XM K C G fI) (na:f_ K (.ref C) nm=some none) (hm:mg x=some (.ref C)):C5 P w K mg base 1 C x nm:=by
 refine⟨G,fI,fd,ps,F.ok (k:=0) S (λvs H Q E h=>?_) (λcdv A outer s H vs Q E hr h=>⟨_,hp cdv A outer s H E,?_⟩),F.binds hb,m,na,hm⟩
 .obtain⟨a,C,G,new,v,rfl,_⟩:=h;exact hl.symm
 .obtain⟨a,C,G,new,v,rfl,ea,c,n,q⟩:=h;exact⟨v,rfl,.ref a,rfl,a,C,G,new,rfl,ea,c,n,λdx hdx=>q dx hdx⟩
end
section
variable {X:Cx}{e:Expr}{f:Str}{pos:Pos}{ta:TE}
def ke(K:b_)(ek:X.K=K){o value:Expr}{pos':Pos}{tv:TE}(ha:PE X o ta)(hv:PE X value tv)(hs:swapsWith value (some (.Attribute o f pos')) pos.line X.env=pure false):PS X (.Assign [.Attribute o f pos'] value pos) (Az K ta tv f):=by subst ek;exact AA ha hv hs
end
noncomputable def xf(h:Heap)(e T:Addr)(fl:Value):Prop:=∃oe vs oT ts,h.get? e=some oe/\oe.data=.fields vs/\vs[1]?=some (.ref T)/\T≠e/\h.get? T=some oT/\oT.data=.fields ts/\ts[3]?=some fl
structure wj (fs:List Addr) (e:Addr) (T0:Option Addr) (h h':Heap):Prop where
 kp:∀b o,b∉fs->b≠e->T0≠some b->h.get? b=some o->h'.get? b=some o
 sl:∀b o,b∈fs->h.get? b=some o->∃sl,h'.get? b=some { o with slots:=sl }
 ex:∀oe vs,h.get? e=some oe->oe.data=.fields vs->∃oe' vs',h'.get? e=some oe'/\oe'.cls=oe.cls/\oe'.dict=oe.dict/\oe'.data=.fields vs'/\vs'.size=vs.size
section
variable {M:Model}{A:w_}{E:Value->d_->Prop}{s:d_}{base:Heap}{env:Env}{outer:List Env}{L e T0:Addr}{oe:Obj}{vs:Array Value}
def wl{head:Value}{hadNext:Bool}{Q:Unit->d_->Prop}(hfr:A.frames=some (env::outer))(hl:s.heap.FunFrames base (env::outer))(hf:env.frame=some L)
  (he:s.heap.get? e=some oe) (hd:oe.data=.fields vs) (hsz:1<vs.size)
  (h:∀h' T,s.heap.objs.size<=T->wj (frs (env::outer)) e none s.heap h'->xf h' e T (rawInt L)->Q () { s with heap:=h' }) :
  wpAny M A (do let a <- frameOf env;let pl <- entryPlaceOf L hadNext;let b <- EntryCells.newEntry head a .none (rawInt L) .none pl;setField (.ref e) 1 b) Q E s:=by
 have nf:e∉frs (env::outer):=λhm=>by
  obtain⟨_,o,ho,hn⟩:=hl.mem hm;rw [he] at ho;cases ho;exact hn vs hd
 refine cy (wpAny_frameOf_fun hfr hl hf λg1 hs1=>?_);refine cy (wpAny_entryPlaceOf λpl hpl=>?_);have e1:g1.get? e=some oe:=(hs1.2.1 e nf).trans he;unfold EntryCells.newEntry newFields;refine cy (HM ?_ (hpl.sizeOk5 _ _ _ _ _))
 have hts:∃ts:Array Value,([head,.ref L,.none,rawInt L,.none]++(if pl.isEmpty then B_ 6 HC else pl)).toArray=ts/\ts[3]?=some (rawInt L):=⟨_,rfl,by
  rcases hpl with rfl|⟨_,_,_,_,_,_,_,rfl⟩ <;> simp⟩
 obtain⟨ts,ets,t3⟩:=hts;rw [ets];generalize hg2:g1.push { cls:=.type "traceback",dict:=none,data:=.fields ts }=g2;have sz1:g1.objs.size=s.heap.objs.size:=hs1.1;have k2:∀b o,g1.get? b=some o->g2.get? b=some o:=λb o q=>by rw [<- hg2];exact c_ _ q
 have gT:g2.get? g1.objs.size=some { cls:=.type "traceback",dict:=none,data:=.fields ts }:=by rw [<- hg2];exact h_ _ rfl
 refine JI (k2 _ _ e1) hd hsz ?_;have ne:g1.objs.size≠e:=Je (l_ e1);generalize hg3:g2.update e (KJ (·.setIfInBounds 1 (k_ g1.objs.size)))=g3;have d3:=Js hd (·.setIfInBounds 1 (k_ g1.objs.size));have e3:g3.get? e=some (oe.mapFields (·.setIfInBounds 1 (k_ g1.objs.size))):=by rw [<- hg3];exact H_ _ (k2 _ _ e1) (JN d3)
 have k3:∀b o,b≠e->g2.get? b=some o->g3.get? b=some o:=λb o hb q=>by rw [<- hg3];exact (Il _ _ _ _ hb).trans q
 refine h g3 g1.objs.size (by rw [sz1];exact so _) ⟨λb o hb hbe _ q=>k3 b o hbe (k2 b o ((hs1.2.1 b hb).trans q)),λb o hb q=>?_,λoe' vs' q1 q2=>?_⟩ ⟨_,_,_,ts,e3,d3,by simp [hsz],ne,k3 _ _ ne gT,rfl,t3⟩
 .obtain⟨sl,q'⟩:=hs1.2.2 b o q;exact⟨sl,k3 b _ (λz=>nf (by rw [<- z];exact hb)) (k2 b _ q')⟩
 .rw [he] at q1;cases q1;rw [hd] at q2;cases q2;obtain⟨c,dc,dt,sl⟩:=oe;cases hd;exact⟨_,_,e3,rfl,rfl,d3,by simp⟩
def AG{Q:Unit->d_->Prop}(hfr:A.frames=some (env::outer))(hl:s.heap.FunFrames base (env::outer))(hf:env.frame=some L)
  (he:s.heap.get? e=some oe) (hd:oe.data=.fields vs) (h1:vs[1]?=some .none)
  (h:∀h' T,s.heap.objs.size<=T->wj (frs (env::outer)) e none s.heap h'->xf h' e T (rawInt L)->Q () { s with heap:=h' }):wpAny M A (noteFrame (.ref e) env) Q E s:=by
 unfold noteFrame;simp only [hf];refine cy (D_ he hd h1 ?_);rw [if_neg (by decide)];exact wl hfr hl hf he hd (Iw.mp h1).1 h
def AH{Q:Unit->d_->Prop}(hfr:A.frames=some (env::outer))(hl:s.heap.FunFrames base (env::outer))(hf:env.frame=some L)(fly:xf s.heap e T0 .none)(nT:T0∉frs (env::outer))
  (h:∀h' T,s.heap.objs.size<=T->wj (frs (env::outer)) e (some T0) s.heap h'->xf h' e T (rawInt L)->Q () { s with heap:=h' }):wpAny M A (noteFrame (.ref e) env) Q E s:=by
 obtain⟨oe,vs,oT,ts,he,hd,h1,ne,hT,hdT,h3⟩:=fly;have hsz:1<vs.size:=(Iw.mp h1).1;unfold noteFrame;simp only [hf];refine cy (D_ he hd h1 ?_);rw [if_pos (show (k_ T0 != HC)=true by simp)];refine cy (D_ hT hdT h3 ?_);rw [if_neg (show ¬ ((HC == rawInt L)=true) by simp [rawInt])];refine cy (JI hT hdT (Iw.mp h3).1 ?_)
 have ot:∀b,b≠T0->(s.heap.update T0 (KJ (·.setIfInBounds 3 HC))).get? b=s.heap.get? b:=λb hb=>Il _ _ _ _ hb;have sz:(s.heap.update T0 (KJ (·.setIfInBounds 3 HC))).objs.size=s.heap.objs.size:=by simp [Heap.update]
 have hl2:(s.heap.update T0 (KJ (·.setIfInBounds 3 HC))).FunFrames base (env::outer):=hl.of_keeps λb o q nf=>⟨o,(ot b (λz=>by rw [z,hT] at q;cases q;exact nf ts hdT)).trans q,rfl⟩
 refine wl hfr hl2 hf ((ot e (HR ne)).trans he) hd hsz λh' T hT' mv fly=>h h' T (by rw [<- sz];exact hT') ⟨λb o h1 h2 h3 q=>mv.kp b o h1 h2 (by simp) ((ot b (λz=>h3 (by rw [z]))).trans q),λb o h1 q=>mv.sl b o h1 ((ot b (λz=>nT (by rw [<- z];exact h1))).trans q),λoe' vs' q1 q2=>mv.ex oe' vs' ((ot e (HR ne)).trans q1) q2⟩ fly
def qN{fl:Value}{T:Addr}{Q:Unit->d_->Prop}(fly:xf s.heap e T fl)(h:∀h',(∀b o,b≠T->s.heap.get? b=some o->h'.get? b=some o)->xf h' e T .none->Q () { s with heap:=h' }):wpAny M A (setFlight (.ref e) none) Q E s:=by
 obtain⟨oe,vs,oT,ts,he,hd,h1,ne,hT,hdT,h3⟩:=fly;unfold setFlight;refine cy (D_ he hd h1 ?_);rw [if_pos (show (k_ T != HC)=true by simp)];have hs3:3<ts.size:=(Iw.mp h3).1;refine JI hT hdT hs3 (h _ (λb o hb q=>(Il _ _ _ _ hb).trans q) ?_);have dT:=Js hdT (·.setIfInBounds 3 ((none:Option Addr).elim HC λf=>rawInt f))
 exact⟨oe,vs,_,_,(Il _ _ _ _ (HR ne)).trans he,hd,h1,ne,H_ _ hT (JN dT),dT,by simp [hs3]⟩
end
noncomputable def CXe(P:r_)(w:World):CXT:=λouter H s E e s'=>∃(ea C:Addr) (dd:Option Addr) (H':Hp) (T:Addr),e=.ref ea/\s'.os=s.os/\Kc s'.gens/\Un (frs outer) [] H H' s.heap s'.heap/\HOk P w H' s'.heap /\
 H' ea=some (.ext (XAt ea C dd false))/\xf s'.heap ea T .none/\s.heap.get? T=none/\H' T=none/\E (.ref ea) dd H'
def wn{l:List Env}{h base:Heap}(hl:h.FunFrames base l){b:Addr}(hb:b∈frs l):∃o,h.get? b=some o:=by
 obtain⟨_,o,ho,_⟩:=hl.mem hb;exact⟨o,ho⟩
def XAt.moved{fs:List Addr}{ea C:Addr}{dd:Option Addr}{new:Bool}{T0:Option Addr}{h h':Heap}(x:XAt ea C dd new h)(mv:wj fs ea T0 h h'):XAt ea C dd false h':=by
 obtain⟨o,vs,h1,h2,h3,h4,h5,_⟩:=x;obtain⟨o',vs',q1,q2,q3,q4,q5⟩:=mv.ex o vs h1 h4;exact⟨o',vs',q1,q2.trans h2,q3.trans h3,q4,by rw [q5];exact h5,nofun⟩
def HOk.moved{P:r_}{w:World}{H H':Hp}{h h1 h2:Heap}{fs:List Addr}{ea C T:Addr}{dd:Option Addr}{new:Bool}{T0:Option Addr}(ok:HOk P w H h)(hea:H ea=some (.ext (XAt ea C dd new)))(mv:wj fs ea T0 h h1)(hT:h.objs.size<=T)(un:∀b o,b≠T->h1.get? b=some o->h2.get? b=some o)
  (hfs:∀b∈fs,H b=none) (hT0:∀b,T0=some b->H b=none) (fly:xf h2 ea T .none) (hH:H'=upd H ea (.ext (XAt ea C dd false))):HOk P w H' h2:=λb o eb=>by
 subst hH;have ne:∀c u,H c=some u->c≠T:=λc u q=>Hi (tf (ok.lt q) hT);have kp:∀c u,c≠ea->H c=some u->∀v,h.get? c=some v->h2.get? c=some v:=λc u hc q v z=>un c v (ne c u q) (mv.kp c v (λm=>by rw [hfs c m] at q;cases q) hc (λe=>by rw [hT0 c e] at q;cases q) z)
 by_cases hb:b=ea
 .subst hb;rw [aB] at eb;cases eb;have x:XAt b C dd new h:=(ok b _ hea).1;obtain⟨o',vs',q1,q2,q3,q4,q5,q6⟩:=x.moved mv;exact XAt.ok ⟨o',vs',un b o' (ne b _ hea) q1,q2,q3,q4,q5,q6⟩
 .rw [ar hb] at eb
  refine (ok b o eb).stay (λc v hc q=>?_) (λc q=>?_) λc xs q=>?_
  .rcases hc with rfl|hc
   .exact kp c o hb eb v q
   .exact kp c _ (λz=>by rw [z,hea] at hc;cases hc) hc v q
  .rw [ar (λz=>by rw [z,hea] at q;cases q)];exact q
  .rw [ar (λz=>by rw [z,hea] at q;cases q)];exact q
section
variable {P:r_}{w:World}{K:b_}{mg:Str->Option Value}{base:Heap}{N:List Str}{qual:Str}{scope:Scope}{f:Addr}{cd:Value}{A:w_}{outer:List Env}{s0:d_}{H0:Hp}{E:XK}{pins:List (Addr×Obj)}{σ:St}{H:Hp}{s:d_}
def wo{ea C:Addr}{dd:Option Addr}(I:Inv (lM (CXe P w) P w K mg base N qual scope f cd A outer s0 H0 E) pins σ H s)(hea:H ea=some (.ext (XAt ea C dd true)))(hE:E (.ref ea) dd (upd H ea (.ext (XAt ea C dd false)))) :
  (lM (CXe P w) P w K mg base N qual scope f cd A outer s0 H0 E).xe (.ref ea) s:=by
 obtain⟨⟨o,vs,h1,h2,h3,h4,h5,h6⟩,_,_⟩:=(show bu P w H s.heap ea (.ext (XAt ea C dd true)) from I.hok ea _ hea)
 show wpAny (model P w) _ (leaving _ (.ref ea)) _ _ s;unfold leaving;refine cy (AG I.ok.frames I.stack rfl h1 h4 (h6 rfl) λg1 T hT mv fly=>?_);refine qN fly λg2 un fly2=>?_;have hf2:∀b∈frs (envOfC qual scope s0.heap.objs.size f cd::outer),H b=none:=I.stkFree;have hok:=I.hok.moved hea mv hT un hf2 (λb e=>nomatch e) fly2 rfl;have old:∀b o,s0.heap.get? b=some o->b≠s0.heap.objs.size:=λb o q=>Hi (l_ q)
 have bT:∀b o,s.heap.get? b=some o->b≠T:=λb o q=>Hi (tf (l_ q) hT);have nea:∀b,H b=none->b≠ea:=λb n z=>by rw [z,hea] at n;cases n
 have sub:∀b,b∈frs outer->b∈frs (envOfC qual scope s0.heap.objs.size f cd::outer):=λb hb=>p_ _ hb
 have nsub:∀b o,s0.heap.get? b=some o->b∉frs outer->b∉frs (envOfC qual scope s0.heap.objs.size f cd::outer):=λb o q hb z=>by
  rcases mem_cons.mp (show b∈s0.heap.objs.size::frs outer from z) with z|z
  .exact old b o q z
  .exact hb z
 have un0:Un (frs outer) [] H0 (upd H ea (.ext (XAt ea C dd false))) s0.heap g2:=by
  refine⟨λb ob q n hb hx=>?_,λb ob q n hb hx=>?_,λb ob q n hx=>?_,λb ob q hx=>?_,λb xs q=>?_,λb ob u q=>?_,λb ps q=>?_⟩
  .have q1:=I.base.keep b ob q n hb hx;have n1:=I.base.free b ob q n hx;exact un b ob (bT b ob q1) (mv.kp b ob (nsub b ob q hb) (nea b n1) (by simp) q1)
  .obtain⟨sl,q1⟩:=I.base.slot b ob q n hb hx;obtain⟨sl2,q2⟩:=mv.sl b _ (sub b hb) q1;exact⟨sl2,un b _ (bT b _ q1) q2⟩
  .have n1:=I.base.free b ob q n hx;rw [ar (nea b n1)];exact n1
  .obtain⟨o1,q1⟩:=I.base.there b ob q hx
   by_cases hbe:b=ea
   .subst hbe;obtain⟨o2,vs2,q2,_⟩:=mv.ex o vs h1 h4;exact⟨o2,un b o2 (bT b _ q1) q2⟩
   .by_cases hb:b∈frs (envOfC qual scope s0.heap.objs.size f cd::outer)
    .obtain⟨sl2,q2⟩:=mv.sl b _ hb q1;exact⟨_,un b _ (bT b _ q1) q2⟩
    .exact⟨o1,un b o1 (bT b _ q1) (mv.kp b o1 hb hbe (by simp) q1)⟩
  .have q1:=I.base.tups b xs q;rw [ar (λz=>by rw [z,hea] at q1;cases q1)];exact q1
  .have q1:=I.base.frzs b ob u q;rw [ar (λz=>by rw [z,hea] at q1;cases q1)];exact q1
  .obtain⟨m,q1⟩:=I.base.tbls b ps q;exact⟨m,by rw [ar (λz=>by rw [z,hea] at q1;cases q1)];exact q1⟩
 refine⟨ea,C,dd,_,T,rfl,I.os,I.bare,un0,hok,aB,fly2,?_,?_,hE⟩
 .cases q:s0.heap.get? T with
  | none=>rfl
  | some ob =>
   obtain⟨o1,q1⟩:=I.base.there T ob q (show T∉([]:List Addr) by simp);exact absurd rfl (bT T o1 q1)
 .rw [ar (λz=>by
   have:=I.hok.lt hea;rw [<- z] at this;exact absurd (tf this hT) (HA _))]
  exact I.hok.fresh hT
end
section
variable {prog:r_}{w:World}{A:w_}{E:Value->d_->Prop}{K:b_}{env:Env}
def AI{Q:Flow->d_->Prop}{x:Sem Value}{s:d_}(hh:A.handled=none)
  (hx:wpAny (model prog w) A x (λv s₁=>∃ea C G dd,v=.ref ea/\K.In s₁.heap/\XC K C G/\XAt ea C dd true s₁.heap/\E (.ref ea) s₁) E s):wpAny (model prog w) A (raiseStmt env (some x) none) Q E s:=by
 unfold raiseStmt;refine cy (Hg hx (λv s1 h1=>?_) λ_ _ z=>z);obtain⟨ea,C,G,dd,rfl,X,c,⟨o,vs,q1,q2,q3,q4,q5,q6⟩,hE⟩:=h1;obtain⟨nm,q,N,bs,sn,sub,ab,col,k0,k1,k2,k3,k5,e⟩:=c.obj;have hC:=X _ _ e;obtain⟨hp,g,d,tk,os⟩:=s1;have own:(k_ C::.ref G::vmB).contains (.type "BaseException")=true:=rfl;have qn:=q6 rfl
 repeat (first
  | (with_reducible refine HN q1 ?_;first | rw [q2] | rw [q4] | skip)
  | with_reducible refine HN hC ?_
  | (with_reducible refine Im hC ?_;rw [own])
  | with_reducible refine D_ q1 q4 qn ?_
  | wp_step)
 exact wpAny_raiseNew_none hh hE
end
noncomputable def RX(X:Cx)(J:St->XK):Prop:=∀(pins:List (Addr×Obj)) (σ:St) (H:Hp) (s:d_) (ea C:Addr) (dd:Option Addr),Inv X pins σ H s->H ea=some (.ext (XAt ea C dd true))->J σ (.ref ea) dd (upd H ea (.ext (XAt ea C dd false)))->X.xe (.ref ea) s
noncomputable def yW(K:b_)(te:TE)(J:St->XK):TS:=λD σ H=>te σ H λv H1=>∃ea C G dd,v=.ref ea/\H1 ea=some (.ext (XAt ea C dd true))/\XC K C G/\J σ (.ref ea) dd (upd H1 ea (.ext (XAt ea C dd false)))
section
variable {X:Cx}{J:St->XK}{x:Expr}{pos:Pos}{te:TE}
def yj(K:b_)(ek:X.K=K)(hc:X.calm=true)(hx:RX X J)(he:PE X x te):PS X (.Raise (some x) none pos) (yW K te J):=by
 subst ek;intro pins s σ H D I h
 have key:wpAny (model X.prog X.w) X.A (raiseStmt X.env (some (do let v <- eval x X.env;standAt pos;pure v)) none) (SP X pins D) X.xe s:=by
  refine AI (K:=X.K) (I.ok.hd hc) (cy (Hg (he pins s σ H _ I h) (λu s1 ⟨v,H1,I1,rv,ea,C,G,dd,ev,hea,c,hj⟩=>cy (HP (e_ ?_))) λ_ _ z=>z));subst ev;obtain rfl:u=k_ ea:=rv;have ok:=(show bu X.prog X.w H1 s1.heap ea (.ext (XAt ea C dd true)) from I1.hok ea _ hea)
  exact⟨ea,C,G,dd,rfl,I1.kIn,c,ok.1,hx pins σ H1 s1 ea C dd I1 hea hj⟩
 rw [arm_exec_Raise]
 first
  | exact cy (HP key)
  | (simp only [evalOpt,Option.map];exact cy (HP key))
  | (show wpAny _ _ (do standAt pos;raiseStmt X.env (some (do let v <- eval x X.env;standAt pos;pure v)) none) _ _ s;exact cy (HP key))
def C9{P:r_}{w:World}{K:b_}{mg:Str->Option Value}{base:Heap}{N:List Str}{qual:Str}{scope:Scope}{f:Addr}{cd:Value}{A:w_}{outer:List Env}{s0:d_}{H0:Hp}{E:XK} :
  RX (lM (CXe P w) P w K mg base N qual scope f cd A outer s0 H0 E) (λ_=>E):=λpins σ H s ea C dd I hea hj=>wo I hea hj
end
noncomputable def PX(CX:CXT)(X:Cx)(J:St->XK):Prop:=∀(pins:List (Addr×Obj)) (σ:St) (H:Hp) (s:d_) (e:Value) (s':d_),Inv X pins σ H s->CX X.stack H s (J σ) e s'->X.xe e s'
noncomputable def wp(sp:Sp)(J:St->XK)(t:TA):TE:=λσ H Q=>t σ H λvs H1=>sp vs H1 Q (J σ)
structure Db (P:r_) (w:World) (K:b_) (mg:Str->Option Value) (base:Heap) (k:Nat) (x:Str) (ps:List Str) (sp:Sp):Prop where
 ex:∃(f:Addr) (fd:HH),lL P w K mg base (CXe P w) k f fd ps sp/\iK K fd ps []/\u_ K (.ref f)=true/\mg x=some (.ref f)
section
variable {X:Cx}{k:Nat}{x:Str}{ps:List Str}{sp:Sp}{p pos:Pos}{e:Expr}{es:List Expr}{t:TA}{J:St->XK}
def qO(C:Db X.prog X.w X.K X.mg X.base k x ps sp)(hr:dR k X.A)(hx:PX (CXe X.prog X.w) X J)(ha:PA X (e::es) t)(hg:Gl X x:=by rfl)(hdb:(x == ("__debug__":Str))=false:=by decide)(hn:nSt e=true:=by rfl)(hp:es.all nSt=true:=by rfl) :
  PE X (.Call (.Name x p) (e::es) [] pos) (wp sp J t):=by
 obtain⟨f,fd,F,hb,hk,hm⟩:=C.ex;intro pins s σ H Q I h;refine Iu (io I hg hm ?_ hdb);refine Ks (h₀:=X.base) I.ok.mod.kin hk (thn (ha pos pins s σ H _ I h) λus s1 ⟨vs,H1,I1,r,q⟩=>⟨I1.kIn,?_⟩) (gj hn) (fu hp);have hl:us.length=ps.length:=by rw [<- r.length];exact F.len _ _ _ _ q
 refine KR (Kg (F.run X.A X.stack s1 H1 ⟨us,[]⟩ us vs Q (J σ) hr I1.env0 ?_ r q) λr s' hq=>?_)
 .have:=hb s1 us I1.kIn (by rw [HE];exact hl);rw [HE] at this;exact this
 .cases r with
  | error e=>exact hx pins σ H1 s1 e s' I1 hq
  | ok fl =>
   cases fl with
   | ret u=>exact I1.after hq
   | next=>exact HD hq
   | brk=>exact HD hq
   | cont=>exact HD hq
end
section
variable {X:Cx}{pins:List (Addr×Obj)}{σ:St}{H:Hp}{s:d_}
abbrev Cx.mk'(X:Cx)(e:Value):Cx:={ X with A:=X.A.mark (some e),calm:=false }
def Inv.mark(I:Inv X pins σ H s)(e:Value):Inv (X.mk' e) pins σ H s :=
 ⟨⟨I.ok.mod,I.ok.kind,I.ok.glob,I.ok.blt,I.ok.above,I.ok.inj,I.ok.has,I.ok.cab,nofun,I.ok.frames,I.ok.stk,I.ok.exf,I.ok.bs,I.ok.bsz,I.ok.noex,I.ok.exfs,I.ok.funs,I.ok.frf,I.ok.tb⟩,I.os,I.bare,I.base,I.loc,I.cell,I.free,I.freeC,I.pin,I.hok,I.len⟩
def Inv.unmark{e:Value}(I:Inv (X.mk' e) pins σ H s)(hd:X.calm=true->X.A.handled=none):Inv X pins σ H s :=
 ⟨⟨I.ok.mod,I.ok.kind,I.ok.glob,I.ok.blt,I.ok.above,I.ok.inj,I.ok.has,I.ok.cab,hd,I.ok.frames,I.ok.stk,I.ok.exf,I.ok.bs,I.ok.bsz,I.ok.noex,I.ok.exfs,I.ok.funs,I.ok.frf,I.ok.tb⟩,I.os,I.bare,I.base,I.loc,I.cell,I.free,I.freeC,I.pin,I.hok,I.len⟩
def iY{M:Model}{A:w_}{E:Value->d_->Prop}{i:Nat}{x:Str}{pos:Pos}{Q:Unit->d_->Prop}(I:Inv X pins σ H s)(hN:X.N.Nodup)(hi:X.N[i]?=some x)(hk:X.env.scope.names.lookup x=some .local)
  (h:∀s',Inv X pins (σ.set i none) H s'->Q () s'):wpAny M A (do bindName X.env x .none;unbindBehindTheSuite X.env x pos) Q E s:=by
 refine cy (wpAny_bindName (iH I hN hi (.inl hk) (v:=.non) rfl (λs1 I1=>?_) (.inr hk)));have hiσ:i<σ.length:=by rw [I.len];exact (j_.mp hi).1
 obtain⟨m,hn,hl⟩:=id I1.loc;obtain⟨u,ru,lk⟩:=hl i x .non hi (m_ hiσ) (.inl hk)
 have hm:m x=some u:=by
  rcases lk with ⟨_,z⟩|⟨z,_⟩
  .exact z
  .have z':X.env.scope.names.lookup x=some .cell\/X.env.scope.names.lookup x=some .free:=z;rw [hk] at z';rcases z' with z'|z' <;> cases z'
 unfold unbindBehindTheSuite;refine Ia (wpAny_unbindName_local hk hn hm (by rw [I.ok.kind];rfl) λh' u' hn' hs=>?_);have cne:=I1.cne;obtain⟨oL,_,_,hoL,_⟩:=id hn;have big:∀b o,X.s₀.heap.get? b=some o->b≠X.env.locals:=λb o q=>Hi (tf (l_ q) I.ok.above)
 refine h _ ⟨I1.ok,I1.os,I1.bare,⟨λb o q n hb hx=>(hs.2 b (big b o q)).trans (I1.base.keep b o q n hb hx),λb o q n hb hx=>?_,I1.base.free,λb o q hx=>?_,I1.base.tups,I1.base.frzs,I1.base.tbls⟩,⟨_,hn',λj y v' e1 e2 e3=>?_⟩,λy c q=>?_,I1.free,I1.freeC,λp hp=>?_,λb ob q=>?_,by simpa using I.len⟩
 .obtain⟨sl,q1⟩:=I1.base.slot b o q n hb hx;exact⟨sl,(hs.2 b (big b o q)).trans q1⟩
 .obtain⟨o',q1⟩:=I1.base.there b o q hx;exact⟨o',(hs.2 b (big b o q)).trans q1⟩
 .by_cases hj:j=i
  .subst hj;rw [m_ hiσ] at e2;cases e2
  .rw [g_ (HR hj)] at e2;obtain⟨u2,r2,q⟩:=hl j y v' e1 (by rw [g_ (HR hj)];exact e2) e3;refine⟨u2,r2,?_⟩
   rcases q with ⟨k,z⟩|⟨k,c,z1,z2⟩
   .have:y≠x:=λz=>hj (nr hN e1 (z ▸ hi));exact .inl ⟨k,by simp [this,z]⟩
   .exact .inr ⟨k,c,z1,z2.sameBut hs (cne y c z1)⟩
 .obtain⟨w',z⟩:=I1.cell y c q;exact⟨w',z.sameBut hs (cne y c q)⟩
 .obtain⟨q,n,ne,nf,dd⟩:=I1.pin p hp;exact⟨(hs.2 p.1 ne).trans q,n,ne,nf,dd⟩
 .refine (I1.hok b ob q).stay (λc w' hc z=>(hs.2 c ?_).trans z) (λ_ z=>z) λ_ _ z=>z;rintro rfl
  rcases hc with hc|hc
  .rw [<- hc,I1.free] at q;cases q
  .rw [I1.free] at hc;cases hc
end
section
variable {M:Model}{A:w_}{E:Value->d_->Prop}{K:b_}{C G D:Addr}
def wq{h:Heap}{g:Array Ko}{d:Drawn}{t:Nat}{os:Ja}{ea:Addr}{dd:Option Addr}{new:Bool}{Q:Bool->d_->Prop}(X:K.In h)(c:XC K C G)(x:XAt ea C dd new h)
  (hD:∃nm q N bs bm hd sn sub ab col d0 k0 k1 k2 k3 k5 nw,K.lookup D=some (excClassObj nm q D N bs bm hd sn sub ab col d0 k0 k1 k2 k3 k5 nw)/\(k_ D::bm).contains (.type "BaseException")=true)
  (hq:Q ((k_ C::.ref G::vmB).contains (.ref D)) ⟨h,g,d,t,os⟩):wpAny M A (excMatches (.ref ea) (.ref D)) Q E ⟨h,g,d,t,os⟩:=by
 obtain⟨nm,q,N,bs,sn,sub,ab,col,k0,k1,k2,k3,k5,e⟩:=c.obj;obtain⟨nm',q',N',bs',bm',hd',sn',sub',ab',col',d0',k0',k1',k2',k3',k5',nw',e2,hb⟩:=hD;obtain⟨o,vs,q1,q2,_⟩:=x;have hC:=X _ _ e;have hDo:=X _ _ e2;have f:=tc_notTuple;generalize hbb:(k_ C::.ref G::vmB).contains (.ref D)=b at hq;unfold excMatches
 repeat (first
  | (with_reducible refine HN q1 ?_;rw [q2])
  | with_reducible refine HN hDo ?_
  | with_reducible refine HN hC ?_
  | (with_reducible refine Im hDo ?_;rw [hb])
  | (with_reducible refine Im hC ?_;rw [hbb])
  | wp_step)
 cases b <;> (wp_walk;exact hq)
end
structure FTk (X:Cx) (pins:List (Addr×Obj)) (H:Hp) (T:Addr):Prop where
 nt:H T=none
 sz:X.s₀.heap.objs.size<=T
 nl:T≠X.env.locals
 nc:∀x c,X.env.cells.lookup x=some c->c≠T
 np:∀p∈X.pn++pins,p.1≠T
section
variable {X:Cx}{pins:List (Addr×Obj)}{σ:St}{H:Hp}{s:d_}
def GZ{M:Model}{Er:Value->d_->Prop}{E1:XK}{e:Value}{s':d_}{Q:Unit->d_->Prop}(hst:X.stack=X.env::X.outer)(hfm:X.env.frame=some X.env.locals)(I:Inv X pins σ H s)(h:CXe X.prog X.w X.stack H s E1 e s')
  (k:∀ea C dd H' T s2,e=.ref ea->Inv X pins σ H' s2->H' ea=some (.ext (XAt ea C dd false))->xf s2.heap ea T .none->FTk X pins H' T->E1 (.ref ea) dd H'->Q () s2) :
  wpAny M X.A (noteFrame e X.env) (λ_ s1=>wpAny M X.A (setFlight e none) Q Er s1) Er s':=by
 obtain⟨ea,C,dd,H',T0,rfl,os,bare,un1,hok1,hea,fly0,hT0,hT0',hE1⟩:=h;have hf1:∀b∈frs X.stack,H b=none:=I.stkFree;have hss:=I.stack
 have hl:s'.heap.FunFrames X.base X.stack:=by
  have all:∀l:List Env,(∀b∈frs l,b∈frs X.stack)->s.heap.FunFrames X.base l->s'.heap.FunFrames X.base l:=by
   intro l
   induction l with
   | nil=>intro _ _;trivial
   | cons en r ih =>
    intro hs hl;obtain⟨hk,⟨L,o,hf,hn,ho,hd⟩,hr⟩:=hl;have hL:L∈frs (en::r):=by unfold frs;rw [Ir,hf];exact mem_cons_self
    obtain⟨sl,q⟩:=un1.slot L o ho (hf1 L (hs L hL)) (hs L hL) (by simp);exact⟨hk,⟨L,_,hf,hn,q,hd⟩,ih (λb hb=>hs b (by unfold frs;rw [Ir,hf];exact p_ _ hb)) hr⟩
  exact all _ (λ_ hb=>hb) hss
 have nT0:T0∉frs X.stack:=λz=>by
  obtain⟨o,q⟩:=wn hss z;rw [hT0] at q;cases q
 have hf2:∀b∈frs X.stack,H' b=none:=λb hb=>by
  obtain⟨o,q⟩:=wn hss hb;exact un1.free b o q (hf1 b hb) (by simp)
 have fr:=I.ok.frames;rw [hst] at fr hl nT0 hf2;refine AH fr hl hfm fly0 nT0 λg1 T hT mv fly=>?_;refine qN fly λg2 un fly2=>?_;have hok:=hok1.moved hea mv hT un hf2 (λb e=>by cases e;exact hT0') fly2 rfl
 have upe:upd H' ea (.ext (XAt ea C dd false))=H':=by
  funext b
  by_cases z:b=ea
  .subst z;rw [aB,hea]
  .rw [ar z]
 rw [upe] at hok;have bT:∀b o,s'.heap.get? b=some o->b≠T:=λb o q=>Hi (tf (l_ q) hT);have bT0:∀b o,s.heap.get? b=some o->some T0≠some b:=λb o q z=>by cases z;rw [hT0] at q;cases q
 have nea:∀b,H' b=none->b≠ea:=λb n z=>by rw [z,hea] at n;cases n
 obtain⟨oe,vs,oT,ts,he1,he2,_⟩:=id fly0
 have u:Un (frs X.stack) [] H H' s.heap g2:=by
  rw [hst] at un1 ⊢
  refine⟨λb ob q n hb hx=>?_,λb ob q n hb hx=>?_,un1.free,λb ob q hx=>?_,un1.tups,un1.frzs,un1.tbls⟩
  .have q2:=un1.keep b ob q n hb hx;exact un b ob (bT b ob q2) (mv.kp b ob hb (nea b (un1.free b ob q n hx)) (bT0 b ob q) q2)
  .obtain⟨sl1,q2⟩:=un1.slot b ob q n hb hx;obtain⟨sl2,q3⟩:=mv.sl b _ hb q2;exact⟨sl2,un b _ (bT b _ q2) q3⟩
  .obtain⟨o2,q2⟩:=un1.there b ob q hx
   by_cases hbe:b=ea
   .subst hbe;obtain⟨o3,vs3,q3,_⟩:=mv.ex oe vs he1 he2;exact⟨o3,un b o3 (bT b _ q2) q3⟩
   .by_cases hb:b∈frs (X.env::X.outer)
    .obtain⟨sl2,q3⟩:=mv.sl b _ hb q2;exact⟨_,un b _ (bT b _ q2) q3⟩
    .exact⟨o2,un b o2 (bT b _ q2) (mv.kp b o2 hb hbe (bT0 b ob q) q2)⟩
 have far:∀b o,s.heap.get? b=some o->b<T:=λb o q=>by
  obtain⟨o2,q2⟩:=un1.there b o q (by simp);exact tf (l_ q2) hT
 have hL:X.env.locals<T:=by
  obtain⟨m,⟨o,_,_,ho,_⟩,_⟩:=I.loc;exact far _ o ho
 refine k ea C dd H' T { s' with heap:=g2 } rfl (I.call' (s':={ s' with heap:=g2 }) os u hok bare (λb z=>nomatch z)) hea fly2 ⟨hok1.fresh hT,le_of_lt (Lg I.ok.above hL),HR (Hi hL),λx c q=>?_,λp hp=>?_⟩ hE1
 .obtain⟨v,o,ho,_⟩:=I.cell x c q;exact Hi (far c o ho)
 .exact Hi (far _ _ (I.pin p hp).1)
end
abbrev THd:=Addr->Addr->Option Addr->ur->St->Hp->Prop
noncomputable def PH(X:Cx)(hs:List Jr)(th:THd):Prop:=∀(pins:List (Addr×Obj)) (s:d_) (σ:St) (H:Hp) (ea C:Addr) (dd:Option Addr) (T:Addr) (D:ur),Inv X pins σ H s->H ea=some (.ext (XAt ea C dd false))->xf s.heap ea T .none->FTk X pins H T->th ea C dd D σ H ->
 wpAny (model X.prog X.w) X.A (handleBy (.ref ea) X.env hs) (SP X pins D) X.xe s
noncomputable def hAs(K:b_)(C0:Addr)(i:Nat)(ts:TS)(tr:THd):THd:=λea C dd D σ H=>∃G,XC K C G /\
 ((k_ C::.ref G::vmB).contains (.ref C0)=true->ts { nx:=λσ' H'=>D.nx (σ'.set i none) H',bk:=λσ' H'=>D.bk (σ'.set i none) H',ct:=λσ' H'=>D.ct (σ'.set i none) H',rt:=D.rt } (σ.set i (some (.ref ea))) H) /\
 ((k_ C::.ref G::vmB).contains (.ref C0)=false->tr ea C dd D σ H)
noncomputable def XD(K:b_)(D:Addr):Prop:=∃nm q N bs bm hd sn sub ab col d0 k0 k1 k2 k3 k5 nw,K.lookup D=some (excClassObj nm q D N bs bm hd sn sub ab col d0 k0 k1 k2 k3 k5 nw)/\(k_ D::bm).contains (.type "BaseException")=true
section
variable {X:Cx}{C0:Addr}{cn n:Str}{np pos:Pos}{b0:Stmt}{suite:List Stmt}{rest:List Jr}{i:Nat}{ts:TS}{tr:THd}
def Fm(K:b_)(ek:X.K=K)(hx:XD K C0)(hm:X.mg cn=some (.ref C0))(hN:X.N.Nodup)(hi:X.N[i]?=some n)(hk:X.env.scope.names.lookup n=some .local)(hs:∀e,PSs (X.mk' e).nox (b0::suite) ts)(hr:PH X rest tr)
  (hg:Gl X cn:=by rfl) (hdb:(cn == ("__debug__":Str))=false:=by decide):PH X (.ExceptHandler (some (.Name cn np)) (some n) (b0::suite) pos::rest) (hAs K C0 i ts tr):=by
 subst ek;intro pins s σ H ea C dd T D I hea fly ft h;obtain⟨G,c,h1,h2⟩:=h;have xa:XAt ea C dd false s.heap:=(show bu X.prog X.w H s.heap ea (.ext (XAt ea C dd false)) from I.hok ea _ hea).1;refine wpAny_handleBy_cons (codeAny_handlers_test ?_) (by intro z;cases z);refine io (X:=X.mk' (.ref ea)) (I.mark (.ref ea)) hg hm ?_ hdb;have X2:=I.kIn;have I0:=I;obtain⟨hh,g,d,tk,os⟩:=s;refine wq X2 c xa hx ?_
 cases hb:(k_ C::.ref G::vmB).contains (.ref C0) with
 | false=>exact hr pins _ σ H ea C dd T D I0 hea fly ft (h2 hb)
 | true =>
  refine codeAny_handlers_suite_as ?_;refine qN fly λg2 un fly2=>?_;have I1:Inv X pins σ H { heap:=g2,gens:=g,drawn:=d,toks:=tk,os:=os }:=I0.turned (it:=T) (t':=tk) un ft.nt ft.nl (.inr ft.sz) ft.nc ft.np;refine iH (X:=X) (v:=.ref ea) I1 hN hi (.inl hk) rfl (λs2 I2=>?_) (.inr hk);refine Hg (hs (.ref ea) pins s2 _ H _ ((I2.mark (.ref ea)).wish _) (h1 hb)) (λf s3 hf=>?_) λ_ _ z=>HD z
  have un1:∀{σ' H'},Inv (X.mk' (.ref ea)).nox pins σ' H' s3->Inv X pins σ' H' s3:=λJ=>(Inv.unwish J).unmark I0.ok.hd;show wpAny _ X.A (do bindName X.env n .none;unbindBehindTheSuite X.env n pos) (λ_ s4=>SP X pins D f s4) X.xe s3
  cases f with
  | next =>
   obtain⟨σ',H',J,q⟩:=hf;exact iY (un1 J) hN hi hk λs4 I4=>⟨_,H',I4,q⟩
  | brk =>
   obtain⟨σ',H',J,q⟩:=hf;exact iY (un1 J) hN hi hk λs4 I4=>⟨_,H',I4,q⟩
  | cont =>
   obtain⟨σ',H',J,q⟩:=hf;exact iY (un1 J) hN hi hk λs4 I4=>⟨_,H',I4,q⟩
  | ret u =>
   obtain⟨v,σ',H',J,r,q⟩:=hf;exact iY (un1 J) hN hi hk λs4 I4=>⟨v,_,H',I4,r,q⟩
def Dc:PH X [] (λ_ _ _ _ _ _=>False):=λ_ _ _ _ _ _ _ _ _ _ _ _ _ h=>h.elim
end
abbrev Cx.tryb(X:Cx)(pn:List (Addr×Obj))(E:Value->d_->Prop):Cx:={ X with pn:=pn,xe:=E }
noncomputable def Gy(tb:(St->XK)->TS)(th:THd):TS:=λD σ H=>∃J:St->XK,tb J D σ H/\∀(σ':St) (ea:Addr) (dd:Option Addr) (H':Hp),J σ' (.ref ea) dd H'->∃C,H' ea=some (.ext (XAt ea C dd false))/\th ea C dd D σ' H'
section
variable {X:Cx}{C0:Addr}{cn n:Str}{np pos:Pos}{b0:Stmt}{suite body:List Stmt}{rest:List Jr}{h0:Jr}{hs:List Jr}{i:Nat}{ts:TS}{tr th:THd}{tb:(St->XK)->TS}
def Dd(hst:X.stack=X.env::X.outer)(hfm:X.env.frame=some X.env.locals)
  (hb:∀J pn E,PX (CXe X.prog X.w) (X.tryb pn E) J->PSs (X.tryb pn E) body (tb J)) (hh:PH X (h0::hs) th):PS X (.Try body (h0::hs) [] [] pos) (Gy tb th):=by
 intro pins s σ H D I h;obtain⟨J,h1,h2⟩:=h
 have mk:∀{E σ H s},Inv X pins σ H s->Inv (X.tryb (X.pn++pins) E) [] σ H s:=λI =>
  ⟨⟨I.ok.mod,I.ok.kind,I.ok.glob,I.ok.blt,I.ok.above,I.ok.inj,I.ok.has,I.ok.cab,I.ok.hd,I.ok.frames,I.ok.stk,I.ok.exf,I.ok.bs,I.ok.bsz,I.ok.noex,I.ok.exfs,I.ok.funs,I.ok.frf,I.ok.tb⟩,I.os,I.bare,I.base,I.loc,I.cell,I.free,I.freeC,λp hp=>I.pin p (by simpa using hp),I.hok,I.len⟩
 have un:∀{E pins' σ H s},Inv (X.tryb (X.pn++pins) E) pins' σ H s->Inv X pins σ H s:=λ{E pins' σ H s} I =>
  ⟨⟨I.ok.mod,I.ok.kind,I.ok.glob,I.ok.blt,I.ok.above,I.ok.inj,I.ok.has,I.ok.cab,I.ok.hd,I.ok.frames,I.ok.stk,I.ok.exf,I.ok.bs,I.ok.bsz,I.ok.noex,I.ok.exfs,I.ok.funs,I.ok.frf,I.ok.tb⟩,I.os,I.bare,I.base,I.loc,I.cell,I.free,I.freeC,λp hp=>I.pin p (IW pins' hp),I.hok,I.len⟩
 let XE:Value->d_->Prop:=λe s1=>∃σ H s,Inv X pins σ H s/\CXe X.prog X.w X.stack H s (J σ) e s1
 have px:PX (CXe X.prog X.w) (X.tryb (X.pn++pins) XE) J:=λpins' σ' H' s' e s1 I' h=>⟨σ',H',s',un I',h⟩
 refine wpAny_Try_except (Hg (hb J _ _ px [] s σ H D (mk I) h1) (λf s1 hf=>?_) λe s1 he=>?_)
 .cases f with
  | next =>
   obtain⟨σ',H',I',q⟩:=hf;rw [arm_execs_nil];exact e_ ⟨σ',H',un I',q⟩
  | brk =>
   obtain⟨σ',H',I',q⟩:=hf;exact⟨σ',H',un I',q⟩
  | cont =>
   obtain⟨σ',H',I',q⟩:=hf;exact⟨σ',H',un I',q⟩
  | ret u =>
   obtain⟨v,σ',H',I',r,q⟩:=hf;exact⟨v,σ',H',un I',r,q⟩
 .obtain⟨σ',H',s',I',cx⟩:=he;refine GZ hst hfm I' cx λea C dd H2 T s2 ee I2 hea fly ft hJ=>?_;subst ee;obtain⟨C2,hea2,ht⟩:=h2 σ' ea dd H2 hJ;exact hh pins s2 σ' H2 ea C2 dd T D I2 hea2 fly ft ht
end
noncomputable def XR(K:b_)(O:Addr->Prop)(H:Hp)(ea:Addr)(dd:Option Addr)(d:D):Prop:=∃c ns ds,d=.exc c ns ds/\H ea=some (.ext (XAt ea (aI K c) dd false))/\FV K O H (.ref ea) d
def XR.keeps{K:b_}{O O':Addr->Prop}{H H':Hp}{ea:Addr}{dd:Option Addr}{d:D}(k:aF O H O' H')(h:XR K O H ea dd d):XR K O' H' ea dd d:=by
 obtain⟨c,ns,ds,rfl,e,f⟩:=h
 have n:¬ O ea:=by cases f with
  | exc0 n _=>exact n
  | exc1 n _ _ _ _ _=>exact n
 exact⟨c,ns,ds,rfl,(k _ _ n e).2,f.keeps k⟩
noncomputable def LSX(K:b_)(E:D->Prop)(Eo:XK)(fs:List Nat)(ts:TS)(ps:PTS):Prop:=∀(fx:List (Nat×V)) (A R:Addr->Prop) (H0:Hp) (ρ:PSt) (σ:St) (H:Hp) (D:xT) (D':ur),fx.map Hh=fs->Rel K A ρ σ H->cg fx R H0 ρ σ H->ps D ρ ->
 (∀ρ' σ' H',D.nx ρ'->Rel K A ρ' σ' H'->cg fx R H0 ρ' σ' H'->D'.nx σ' H') ->
 (∀v p ρ' σ' H',D.rt p ρ'->Out K A ρ' σ' H0 H' p v->cg fx R H0 ρ' σ' H'->D'.rt v H') ->
 (∀ρ' σ' H',D.bk ρ'->Rel K A ρ' σ' H'->cg fx R H0 ρ' σ' H'->D'.bk σ' H') ->
 (∀ρ' σ' H',D.ct ρ'->Rel K A ρ' σ' H'->cg fx R H0 ρ' σ' H'->D'.ct σ' H') ->
 (∀ρ' σ' H' ea dd d,E d->Rel K A ρ' σ' H'->cg fx R H0 ρ' σ' H'->H0 ea=none->XR K (OO A ρ' σ') H' ea dd d->Eo (.ref ea) dd H')->ts D' σ H
def cg.nn{fx:List (Nat×V)}{R:Addr->Prop}{H0 H:Hp}{ρ:PSt}{σ:St}(F:cg fx R H0 ρ σ H){b:Addr}(h:H b=none):H0 b=none:=by
 cases e:H0 b with
 | none=>rfl
 | some o=>exact absurd h (F.dm b (by rw [e];exact nofun))
section
variable {K:b_}{E:D->Prop}{Eo:XK}{fs:List Nat}{ta tb ts:TS}{pa pb ps:PTS}{te:TE}{pe:PTE}{tt:TT}{pt:PTT}{wi:TI}{pi:PTI}{g:TG}{pg:PTG}
def LS.x(h:LS K fs ts ps):LSX K E Eo fs ts ps:=λfx A R H0 ρ σ H D D' hf r F q k1 k2 k3 k4 _=>h fx A R H0 ρ σ H D D' hf r F q k1 k2 k3 k4
def mS(ha:LSX K E Eo fs ta pa)(hb:LSX K E Eo fs tb pb):LSX K E Eo fs (uu ta tb) (kK pa pb):=λfx A R H0 ρ σ H D D' hf r F q k1 k2 k3 k4 k5 =>
 ha fx A R H0 ρ σ H _ _ hf r F q (λρ1 σ1 H1 q1 r1 F1=>hb fx A R H0 ρ1 σ1 H1 _ _ hf r1 F1 q1 k1 k2 k3 k4 k5) k2 k3 k4 k5
def Fn(ht:LT K tt pt)(ha:LSX K E Eo fs ta pa)(hb:LSX K E Eo fs tb pb):LSX K E Eo fs (Ee tt ta tb) (EY pt pa pb):=λfx A R H0 ρ σ H D D' hf r F q k1 k2 k3 k4 k5=>ht A ρ σ H _ _ r q λc H1 ρ1 q1 f1 r1=>by
 cases c with
 | true=>exact ha fx A R H0 ρ1 σ H1 D D' hf r1 (F.fr f1) q1 k1 k2 k3 k4 k5
 | false=>exact hb fx A R H0 ρ1 σ H1 D D' hf r1 (F.fr f1) q1 k1 k2 k3 k4 k5
def De(hi:LI K wi pi)(hg:LGd K fs g pg)(hb:LSX K E Eo fs tb pb):LSX K E Eo fs (Eh wi g tb) (Cv pi pg pb):=λfx A R H0 ρ σ H D D' hf r F q k1 k2 k3 k4 k5=>hi A ρ σ H _ _ r q λJ H1 n it ρ1 q1 f1 r1 W=>by
 obtain⟨I,i0,turn,after⟩:=q1;have F1:=F.fr f1;refine⟨λi m σ' H'=>i+m=n/\∃ρ',I i ρ'/\Rel K A ρ' σ' H'/\cg fx (Wr ρ1 σ) H1 ρ' σ' H',⟨n,Kk n,ρ1,i0,r1,cg.start F1.fx⟩,λi m σ' H' ⟨him,ρ',iv,r',F'⟩=>?_⟩;obtain⟨go,stop⟩:=W _ H' F'.keeps r'.dom2
 by_cases hk:i<n
 .obtain⟨g1,g2⟩:=go i hk;refine .inr ⟨g1,λσ'' H''=>∃ρ'',I (i+1) ρ''/\Rel K A ρ'' σ'' H''/\cg fx (Wr ρ1 σ) H1 ρ'' σ'' H'',λσ'' H'' z=>⟨m - 1,by omega,by omega,z⟩,λx H'' y=>?_⟩;obtain⟨gr,fv⟩:=g2 x H'' y;refine hg fx A (Wr ρ1 σ) H1 ρ' σ' H'' _ x _ _ hf (F'.fr gr.fr) (r'.gr gr) fv (turn i ρ' _ hk rfl iv) λρ2 σ2 q2 r2 F2 _=>?_
  refine hb fx A (Wr ρ1 σ) H1 ρ2 σ2 H'' _ _ hf r2 F2 q2 (λρ3 σ3 H3 q3 r3 F3=>⟨ρ3,q3,r3,F3⟩) (λv p ρ3 σ3 H3 q3 o3 F3=>k2 v p ρ3 σ3 H3 q3 (o3.h0 F1.dm) (F1.trans F3 F3.fx)) (λρ3 σ3 H3 q3 r3 F3=>k1 ρ3 σ3 H3 q3 r3 (F1.trans F3 F3.fx)) (λρ3 σ3 H3 q3 r3 F3=>⟨ρ3,q3,r3,F3⟩)
   (λρ3 σ3 H3 ea dd d q3 r3 F3 n3 x3=>k5 ρ3 σ3 H3 ea dd d q3 r3 (F1.trans F3 F3.fx) (F1.nn n3) x3)
 .have e:i=n:=by omega
  subst e;exact .inl ⟨stop,k1 ρ' σ' H' (after ρ' iv) r' (F1.trans F' F'.fx)⟩
end
noncomputable def AJ(E:D->Prop)(pe:PTE):PTS:=λ_ ρ=>pe ρ λp _=>match p with
 | .dat d=>E d
 | _=>False
section
variable {K:b_}{E:D->Prop}{Eo:XK}{fs:List Nat}{ta:TA}{pa:PTA}{cs:List Str}{c f:Str}
def Fo{H:Hp}{a:Addr}{o o':HO}:upd (upd H a o) a o'=upd H a o':=by
 funext b
 by_cases z:b=a
 .subst z;rw [aB,aB]
 .rw [ar z,ar z,ar z]
def wt(X:yi K cs)(hc:c∈cs):LSX K E Eo fs (yW K (C6 (aI K c)) (λ_=>Eo)) (AJ E (Fi c)):=λfx A R H0 ρ σ H D D' hf r F q k1 k2 k3 k4 k5 e he=>by
 refine⟨e,aI K c,aI K "GlueError",none,rfl,aB,X.c c hc,?_⟩;rw [Fo];have g:Gr H (upd H e (.ext (XAt e (aI K c) none false))):=Gr.new he;exact k5 ρ σ _ e _ _ q (r.gr g) (F.fr g.fr) (F.nn he) ⟨_,_,_,rfl,aB,.exc0 (λz=>r.dom2 e z he) aB⟩
end
abbrev FX:=List D->(PV->Prop)->(D->Prop)->Prop
noncomputable def spX(K:b_)(c:FX):Sp:=λvs H Q E=>∃(O:Addr->Prop) (ds:List D) (Qc:PV->Prop) (Ec:D->Prop),(∀b,O b->H b≠none)/\FVs K O H vs ds/\c ds Qc Ec/\(∀r,Qc r->∀v H',Gr H H'->qs K O H H' r v->Q v H') /\
 ∀d,Ec d->∀ea dd H',Gr H H'->H ea=none->XR K O H' ea dd d->E (.ref ea) dd H'
section
variable {K:b_}{tr:TA}{pr:PTA}{ts:XK->TS}{ps:(D->Prop)->PTS}
noncomputable def Df(c:FX)(pr:PTA):PTE:=λρ Q=>pr ρ λas ρ1=>match avD as with
 | some ds=>c ds (λr=>Q r ρ1) (λ_=>False)
 | none=>False
def sD{c:FX}(h:LAs K tr pr):LE K (wp (spX K c) (λ_=>E0) tr) (Df c pr):=λA ρ σ H Q Q' R q k=>h A ρ σ H _ _ R q λvs H1 as ρ1 q1 f1 R1 o1=>by
 split at q1
 .rename_i ds e;exact⟨OO A ρ1 σ,ds,_,_,R1.dom2,o1.avD e,q1,λr qr v H' g ov=>k v H' r ρ1 qr (f1.trans g.fr) ((ov.out R1 g).h0 f1.dm),λd z=>z.elim⟩
 .exact q1.elim
end
section
variable {K:b_}{cs:List Str}
def pW(X:yi K cs){c d:Str}(hc:c∈cs)(hd:d∈cs\/d="GlueError"):(k_ (aI K c)::.ref (aI K "GlueError")::vmB).contains (.ref (aI K d))=ul c d:=by
 have yd:XCl K d:=hd.elim (X.n d) λe=>by rw [e];exact X.g
 have rr:∀a b:Addr,(k_ a == k_ b)=decide (a=b):=λa b=>by
  by_cases h:a=b
  .subst h;simp
  .rw [decide_eq_false h];exact beq_eq_false_iff_ne.mpr λz=>h (JY z)
 rw [contains_cons,contains_cons,rr,rr];have t2:vmB.contains (k_ (aI K d))=false:=rfl;rw [t2,Lo];unfold ul
 congr 1
 .by_cases h:c=d
  .subst h;rw [decide_eq_true rfl,decide_eq_true rfl]
  .rw [decide_eq_false h,decide_eq_false λz=>(X.n c hc).ne yd h z.symm]
 .by_cases h:d="GlueError"
  .subst h;rw [decide_eq_true rfl,decide_eq_true rfl]
  .rw [decide_eq_false h,decide_eq_false (yd.ne X.g h)]
end
section
variable {K:b_}{A R:Addr->Prop}{fx:List (Nat×V)}{fs:List Nat}{H0 H:Hp}{ρ:PSt}{σ:St}{i:Nat}
def iZ{j:Nat}{q:PV}(e:(ρ.set i none)[j]?=some (some q)):j≠i/\ρ[j]?=some (some q):=by
 by_cases z:i=j
 .subst z
  by_cases hi:i<ρ.length
  .rw [m_ hi] at e;cases e
  .rw [G_ (by rw [Hn];omega)] at e;cases e
 .rw [g_ z] at e;exact⟨λq=>z q.symm,e⟩
def n8{b:Addr}(h:Wr (ρ.set i none) (σ.set i none) b):Wr ρ σ b:=by
 obtain⟨j,r,e1,o1,s1⟩:=h;obtain⟨n,e⟩:=iZ e1;rw [g_ (λz=>n z.symm)] at s1;exact⟨j,r,e,o1,s1⟩
def Rel.unset(R1:Rel K A ρ σ H):Rel K A (ρ.set i none) (σ.set i none) H:=by
 have k:aF (OO A ρ σ) H (OO A (ρ.set i none) (σ.set i none)) H:=aF.less λb z=>z.imp id n8
 refine⟨by rw [Hn,Hn];exact R1.len,λj r e1=>?_,λj l p1 q1 v' e1 e2 o1 o2 s1 s2=>?_,R1.dom,λb z w=>R1.sep b z (n8 w)⟩
 .obtain⟨n,e⟩:=iZ e1;obtain⟨u,s,r'⟩:=R1.get j r e;exact⟨u,by rw [g_ (λz=>n z.symm)];exact s,r'.keeps k λ_ _ _=>rfl⟩
 .obtain⟨n1,e1⟩:=iZ e1;obtain⟨n2,e2⟩:=iZ e2;rw [g_ (λz=>n1 z.symm)] at s1;rw [g_ (λz=>n2 z.symm)] at s2;exact R1.dj j l p1 q1 v' e1 e2 o1 o2 s1 s2
def cg.unset(hf:fx.map Hh=fs)(hi:fs.contains i=false)(F:cg fx R H0 ρ σ H):cg fx R H0 (ρ.set i none) (σ.set i none) H :=
 ⟨F.kp,F.dm,λb w=>F.ow b (n8 w),λq hq=>by
  have:q.1≠i:=λz=>by
   have h1:i∈fs:=by rw [<- hf,<- z];exact JK hq
   rw [Hd.mpr h1] at hi;cases hi
  rw [g_ (λz=>this z.symm)];exact F.fx q hq⟩
end
abbrev PTH:=D->PTS
noncomputable def LH(K:b_)(fs:List Nat)(th:THd)(ph:PTH):Prop:=∀(fx:List (Nat×V)) (A R:Addr->Prop) (H0:Hp) (ρ:PSt) (σ:St) (H:Hp) (D:xT) (D':ur) (ea:Addr) (dd:Option Addr) (c:Str) (ns:List Str) (ds:List L2.D),fx.map Hh=fs->Rel K A ρ σ H->cg fx R H0 ρ σ H ->
 H ea=some (.ext (XAt ea (aI K c) dd false))->FV K (OO A ρ σ) H (.ref ea) (.exc c ns ds)->ph (.exc c ns ds) D ρ ->
 (∀ρ' σ' H',D.nx ρ'->Rel K A ρ' σ' H'->cg fx R H0 ρ' σ' H'->D'.nx σ' H') ->
 (∀v p ρ' σ' H',D.rt p ρ'->Out K A ρ' σ' H0 H' p v->cg fx R H0 ρ' σ' H'->D'.rt v H') ->
 (∀ρ' σ' H',D.bk ρ'->Rel K A ρ' σ' H'->cg fx R H0 ρ' σ' H'->D'.bk σ' H') ->
 (∀ρ' σ' H',D.ct ρ'->Rel K A ρ' σ' H'->cg fx R H0 ρ' σ' H'->D'.ct σ' H')->th ea (aI K c) dd D' σ H
def Fp:PTH:=λ_ _ _=>False
noncomputable def G0(cs:List Str)(c0:Str)(i:Nat)(pb:PTS)(rest:PTH):PTH:=λd D ρ=>match d with
 | .exc c _ _=>cs.contains c=true/\iG (ul c c0) (pb { nx:=λρ'=>D.nx (ρ'.set i none),bk:=λρ'=>D.bk (ρ'.set i none),ct:=λρ'=>D.ct (ρ'.set i none),rt:=D.rt } (ρ.set i (some (.dat d)))) (rest d D ρ)
 | _=>False
section
variable {K:b_}{cs:List Str}{fs:List Nat}{ts:TS}{ps:PTS}{tr:THd}{pr:PTH}{c0:Str}{i:Nat}
def Dg:LH K fs (λ_ _ _ _ _ _=>False) Fp:=λ_ _ _ _ _ _ _ _ _ _ _ _ _ _ _ _ _ _ _ h _ _ _ _=>h
def Fq(X:yi K cs)(h0:c0∈cs\/c0="GlueError")(hi:fs.contains i=false)(hs:LS K fs ts ps)(hr:LH K fs tr pr):LH K fs (hAs K (aI K c0) i ts tr) (G0 cs c0 i ps pr):=λfx A R H0 ρ σ H D D' ea dd c ns ds hf r F hea fv q k1 k2 k3 k4=>by
 obtain⟨hc,q⟩:=(show cs.contains c=true/\_ from q)
 have hc:c∈cs:=Hd.mp hc;have ek:=pW X hc h0
 refine⟨aI K "GlueError",X.c c hc,λe=>?_,λe=>?_⟩
 .rw [ek] at e;rw [e] at q;have o:Out K A ρ σ H0 H (.dat (.exc c ns ds)) (.ref ea):=⟨r,fv⟩
  exact hs fx A R H0 _ _ H _ _ hf (o.put (i:=i)).1 (F.put hf hi o.put.2) q (λρ' σ' H' q' r' F'=>k1 _ _ _ q' r'.unset (F'.unset hf hi)) k2 (λρ' σ' H' q' r' F'=>k3 _ _ _ q' r'.unset (F'.unset hf hi)) (λρ' σ' H' q' r' F'=>k4 _ _ _ q' r'.unset (F'.unset hf hi))
 .rw [ek] at e;rw [e] at q;exact hr fx A R H0 ρ σ H D D' ea dd c ns ds hf r F hea fv q k1 k2 k3 k4
end
noncomputable def Fs(c:FX)(pa:PTA)(ph:PTH):PTS:=λD ρ=>pa ρ λas ρ1=>match avD as with
 | some ds=>c ds (λ_=>D.nx ρ1) (λd=>ph d D ρ1)
 | none=>False
section
variable {K:b_}{fs:List Nat}{ta:TA}{pa:PTA}{th:THd}{ph:PTH}{c:FX}
def Dh(ha:LAs K ta pa)(hh:LH K fs th ph):LS K fs (Gy (λJ=>uu (zk (wp (spX K c) J ta)) zj) th) (Fs c pa ph):=λfx A R H0 ρ σ H D D' hf r F q k1 k2 k3 k4=>by
 refine⟨λσ' v dd H'=>∃ρ1 ea d,v=.ref ea/\σ'=σ/\Rel K A ρ1 σ H'/\cg fx R H0 ρ1 σ H'/\XR K (OO A ρ1 σ) H' ea dd d/\ph d D ρ1,?_,λσ' ea dd H' ⟨ρ1,ea',d,ev,es,r1,F1,x1,q1⟩=>?_⟩
 .refine ha A ρ σ H _ _ r q λvs H1 as ρ1 q1 f1 R1 o1=>?_
  split at q1
  .rename_i ds e;exact⟨OO A ρ1 σ,ds,_,_,R1.dom2,o1.avD e,q1,λr qr v H' g ov=>k1 ρ1 σ H' qr (ov.out R1 g).frz.1 ((F.fr f1).fr g.fr),λd qd ea dd H' g n x=>⟨ρ1,ea,d,rfl,rfl,R1.gr g,(F.fr f1).fr g.fr,x,qd⟩⟩
  .exact q1.elim
 .cases ev;subst es;obtain⟨c,ns,ds,rfl,hea,fv⟩:=x1;exact⟨_,hea,hh fx A R H0 ρ1 σ' H' D D' ea dd c ns ds hf r1 F1 hea fv q1 k1 k2 k3 k4⟩
end
section
variable {X:Cx}{st:Stmt}{t:TS}
def PS.nox(h:PS X.nox st t):PS X st t:=λpins s σ H D I hw =>
 Hg (h pins s σ H D (I.wish _) hw) (λf s' hs=>by
  cases f with
  | next=>obtain⟨σ',H',J,q⟩:=hs;exact⟨σ',H',J.unwish,q⟩
  | brk=>obtain⟨σ',H',J,q⟩:=hs;exact⟨σ',H',J.unwish,q⟩
  | cont=>obtain⟨σ',H',J,q⟩:=hs;exact⟨σ',H',J.unwish,q⟩
  | ret u=>obtain⟨v,σ',H',J,r,q⟩:=hs;exact⟨v,σ',H',J.unwish,r,q⟩) λ_ _ z=>z.elim
end
section
variable {P:r_}{w:World}{K:b_}{mg:Str->Option Value}{base:Heap}{x:Str}{st:Stmt}{N ps:List Str}{k:Nat}{sp:Sp}
def bh.okE(D:bh K mg x st)(S:aD N ps (ag st))
  (hb:∀(kV doc pm:Value) (an:Option Addr) (cdv ct:Value) (us:List Value),us.length=ps.length->bindArgs (Hb x x (bC st) (aS st) (ag st) .none kV doc pm an cdv ct) ⟨us,[]⟩=pure (ps.zip us))
  (len:∀vs H Q E,sp vs H Q E->vs.length=ps.length)
  (hbody:∀(f:Addr) (cdv:Value) (A:w_) (outer:List Env) (s:d_) (H:Hp) (vs:List V) (Q:VK) (E:XK),dR k (A.deeper (envOfC x (ag st) s.heap.objs.size f cdv))->sp vs H Q E ->
   ∃t,PSs (lM (CXe P w) P w K mg base N x (ag st) f cdv A outer s H E) (aS st) t/\t { nx:=λ_ H'=>Q .non H',rt:=Q } (start N vs) H):Db P w K mg base (k+1) x ps sp:=by
 obtain⟨f,fd,F,hm⟩:=D.ex;refine⟨f,fd,?_,F.binds hb,F.kp,hm⟩;obtain⟨oc,od,kV,doc,pm,an,cdv,ct,osl,rfl,lk,hcd⟩:=F.ex;exact zw lk hcd S len λA outer s H vs Q E hr hsp=>hbody f cdv A outer s H vs Q E hr hsp
end
def px0{P:r_}{w:World}{X:Cx}:PX (CXe P w) X (λ_=>E0):=λpins σ H s e s' I h=>by
 obtain⟨_,_,_,_,_,_,_,_,_,_,_,_,_,_,z⟩:=h;exact z.elim
abbrev D6(pp:(D->Prop)->PTS)(n:Nat)(ds:List D)(Q:PV->Prop)(E:D->Prop):Prop:=pp E { nx:=λ_=>Q (.dat .non),rt:=λp _=>Q p } (cw n (ds.map .dat))
section
variable {K:b_}{ts:TS}{ps:(D->Prop)->PTS}
def G1{c:FX}{n:Nat}(hn:∀ds Q E,c ds Q E->ds.length=n){vs:List V}{H:Hp}{Q:VK}{E:XK}(h:spX K c vs H Q E):vs.length=n:=by
 obtain⟨O,ds,Qc,Ec,_,fv,hq,_⟩:=h;rw [fv.length];exact hn ds Qc Ec hq
def G2{c:FX}{N:List Str}{vs:List V}{H:Hp}{Q:VK}{E:XK}(hl:∀Ec,LSX K Ec E [] ts (ps Ec))(hn:∀ds Q E,c ds Q E->ds.length<=N.length)(hc:∀ds Q E,c ds Q E->D6 ps N.length ds Q E)
  (h:spX K c vs H Q E):ts { nx:=λ_ H'=>Q .non H',rt:=Q } (start N vs) H:=by
 obtain⟨O,ds,Qc,Ec,dom,fv,hq,k,kx⟩:=h
 have nw:∀(ρ:PSt) (b:Addr),ρ=cw N.length (ds.map .dat)->¬ Wr ρ (start N vs) b:=λρ b e ⟨i,p,e1,o1,s1⟩=>by
  rw [e] at e1;have:=cQ e1;rw [q_] at this
  cases e2:ds[i]? with
  | none=>rw [e2] at this;cases this
  | some d=>rw [e2] at this;cases this;cases o1
 have lenv:=fv.length;have hle:=hn ds Qc Ec hq
 have R0:Rel K O (cw N.length (ds.map .dat)) (start N vs) H:=by
  refine⟨?_,λi p e=>?_,λi j p q v e1 e2 o1 o2 s1 s2=>?_,dom,λb _ w=>nw _ b rfl w⟩
  .unfold cw start;rw [length_append,length_append,length_map,length_map,length_map,length_replicate,length_replicate,lenv]
  .have:=cQ e;rw [q_] at this
   cases e2:ds[i]? with
   | none=>rw [e2] at this;cases this
   | some d =>
    rw [e2] at this;cases this;obtain⟨v,hv,f⟩:=fv.getD e2;exact⟨v,iR hv,f.keeps (aF.less λb z=>z.elim id λw=>absurd w (nw _ b rfl))⟩
  .have:=cQ e1;rw [q_] at this
   cases e3:ds[i]? with
   | none=>rw [e3] at this;cases this
   | some d=>rw [e3] at this;cases this;cases o1
 refine hl Ec [] O (λ_=>False) H _ _ H _ _ rfl R0 ⟨λ_ _ _ h=>h,λ_ h=>h,λb w=>absurd w (nw _ b rfl),λp hp=>nomatch hp⟩ (hc ds Qc Ec hq) (λρ' σ' H' q r F=>?_) (λv p ρ' σ' H' q o F=>?_) (λ_ _ _ z=>z.elim) (λ_ _ _ z=>z.elim) (λρ' σ' H' ea dd d q r F n x=>?_)
 .exact k _ q .non H' (λb o e=>F.kp b o id e) .non
 .exact k _ q v H' (λb o e=>F.kp b o id e) o.outV
 .exact kx d q ea dd H' (λb o e=>F.kp b o id e) n (x.keeps (aF.less λb z=>.inl z))
end
def Di{X:Cx}{c0 cn n:Str}{np pos:Pos}{b0:Stmt}{suite:List Stmt}{rest:List Jr}{ts:TS}{tr:THd}(i:Nat)(K:b_)(ek:X.K=K)(hx:XD K (aI K c0))(hm:X.mg cn=some (.ref (aI K c0)))(hN:X.N.Nodup)(hi:X.N[i]?=some n)(hk:X.env.scope.names.lookup n=some .local)(hs:∀e,PSs (X.mk' e).nox (b0::suite) ts)(hr:PH X rest tr)
  (hg:Gl X cn:=by rfl) (hdb:(cn == ("__debug__":Str))=false:=by decide):PH X (.ExceptHandler (some (.Name cn np)) (some n) (b0::suite) pos::rest) (hAs K (aI K c0) i ts tr):=Fm K ek hx hm hN hi hk hs hr hg hdb
theorem pX:∀{ds:List Addr}{us:List Value},bB (ds.map V.ref) us->us=ds.map k_
 | [],_,.nil=>rfl
 | d::ds,_,.cons (l₂:=us) r rs=>by
  rw [pX rs];cases (show _=k_ d from r);rfl
noncomputable def AK(K:b_):List V->Hp->VK->Prop:=λxs H Q=>∃a C G dd new p ds b,xs=[.ref a,.ref p]/\H a=some (.ext (XAt a C dd new))/\XC K C G/\H p=some (.tup (List.map V.ref ds))/\Iv K (.ref C) (List.map k_ ds)=some b/\Q (.bl b) H
section
variable {X:Cx}
def wu:bj X (.builtin "isinstance") (AK X.K):=by
 intro pins s σ H xs us Q I r h;obtain⟨a,C,G,dd,new,p,ds,b,rfl,ea,c,hp,e,q⟩:=h;obtain⟨u,w',rfl,rx,ry⟩:=qu r;cases (show u=k_ a from rx);cases (show w'=k_ p from ry);have ok:=(show bu X.prog X.w H s.heap a (.ext (XAt a C dd new)) from I.hok a _ ea)
 obtain⟨its,rv,⟨⟨cls,d1,data,sl⟩,ho,hc,n,hd⟩,_⟩:=I.tuple (SqT.of hp);simp only at hc hd;subst hc hd;exact PySem.W.kia_tup (n5 c) I.kIn ok.1 ho (by rw [pX rv];exact e) (λz=>nomatch z) λtk=>⟨.bl b,H,I.tok _,rfl,q⟩
def Dj(K:b_)(e:X.K=K):bj X (.builtin "isinstance") (AK K):=by subst e;exact wu
end
noncomputable def yk:List Addr->TA
 | []=>eR
 | a::r=>aW (tC (.ref a)) (yk r)
theorem pY{σ:St}{H:Hp}:∀{ds:List Addr}{Q:List V->Hp->Prop},Q (ds.map V.ref) H->yk ds σ H Q
 | [],Q,h=>h
 | d::ds,Q,h=>by
  show yk ds σ H λvs H2=>Q (V.ref d::vs) H2;exact pY h
theorem wv{K:b_}{cs:List Str}(X:yi K cs){c:Str}(hc:c∈cs):∀{ds:List Str},(∀d∈ds,d∈cs\/d="GlueError")->Iv K (.ref (aI K c)) (List.map k_ (ds.map (aI K)))=some (ds.any (ul c))
 | [],_=>rfl
 | d::ds,h=>by
  have ih:=wv X hc (ds:=ds) λx hx=>h x (p_ _ hx);show (match Hm K (.ref (aI K c)) (.ref (aI K d)) with|some true=>some true|some false=>Iv K (.ref (aI K c)) (List.map k_ (ds.map (aI K)))|none=>none)=_;rw [wg X hc (h d (mem_cons_self ..)),any_cons]
  cases ul c d with
  | true=>rfl
  | false=>rw [JX];exact ih
noncomputable def Ft(cs ds:List Str)(pa:PA1):PTE:=λρ Q=>pa ρ λx ρ1=>match cont ρ1 x with
 | some (.exc c _ _)=>cs.contains c=true/\Q (.dat (.bl (ds.any (ul c)))) ρ1
 | _=>False
section
variable {K:b_}{te:TE}{pe:PA1}{cs:List Str}
def AL(ds:List Str)(X:yi K cs)(hd:ds.all (λd=>cs.contains d || decide (d="GlueError"))=true)(hz:ds.length<=1000)(h:LA1 K te pe):LE K (tCB (AK K) (aW te (aW (BC (yk (ds.map (aI K)))) eR))) (Ft cs ds pe):=λA ρ σ H Q Q' R q k=>h A ρ σ H _ _ R q λv H1 a ρ1 q1 f1 R1 o1=>by
 split at q1
 .rename_i c ns es e;obtain⟨hc,q1⟩:=q1;have hc:c∈cs:=Hd.mp hc
  have ek:=wv X hc (ds:=ds) λd hd'=>by
   have:=Hj.mp hd d hd'
   rcases or_eq_true_iff.mp this with z|z
   .exact .inl (Hd.mp z)
   .exact .inr (of_decide_eq_true z)
  refine pY ⟨by rw [length_map,length_map];exact E_ hz (by decide),λp hp=>?_⟩;have g:Gr H1 (upd H1 p (.tup ((ds.map (aI K)).map V.ref))):=Gr.new hp;have fin:Q' (.bl (ds.any (ul c))) (upd H1 p (.tup ((ds.map (aI K)).map V.ref))):=k _ _ _ ρ1 q1 (f1.trans g.fr) ⟨R1.gr g,.bl _⟩
  cases (R1.cont o1 e).exc with
  | exc0 n1 e1=>exact⟨_,_,_,_,_,p,_,_,rfl,g _ _ e1,X.c c hc,aB,ek,fin⟩
  | exc1 n1 n2 e1 e2 m f=>exact⟨_,_,_,_,_,p,_,_,rfl,g _ _ e1,X.c c hc,aB,ek,fin⟩
 .exact q1.elim
end
def ww(d:D):(PV.dat d).d=d:=rfl
def wx(ds:List D):(PV.own ds).d=.lst ds:=rfl
def wy(ks:List Key)(ds:List D):(PV.odc ks ds).d=.dic ks ds:=rfl
def wz(c:Str)(ns:List Str)(ds:List D):(PV.ins c ns ds).d=.obj c ns ds:=rfl
def Dk(ds:List D):mkL false ds=.own ds:=rfl
def Dl(ds:List D):mkL true ds=.dat (.tup ds):=rfl
noncomputable def pkm(ρ:PSt)(j:Nat):Option PV:=match ρ[j]? with
 | some v=>v
 | none=>none
def sE(v:Option PV)(r:PSt):pkm (v::r) 0=v:=rfl
def sF(v:Option PV)(r:PSt)(n:Nat):pkm (v::r) (n+1)=pkm r n:=rfl
def pZ(ρ:PSt):bO [] ρ=[]:=rfl
def mT(ix:List (Option Nat))(ρ:PSt):bO (none::ix) ρ=none::bO ix ρ:=rfl
def mU(j:Nat)(ix:List (Option Nat))(ρ:PSt):bO (some j::ix) ρ=pkm ρ j::bO ix ρ:=rfl
def p3(j:Nat)(ix:List (Option Nat))(ρ:PSt)(t:Option PV)(τ:PSt):ei (some j::ix) ρ (t::τ)=ei ix (ρ.set j t) τ:=rfl
def p4(ix:List (Option Nat))(ρ:PSt)(t:Option PV)(τ:PSt):ei (none::ix) ρ (t::τ)=ei ix ρ τ:=rfl
def sG(ρ τ:PSt):ei [] ρ τ=ρ:=rfl
noncomputable def G3(pe:PTE):PTE:=λρ Q=>pe ρ λp ρ1=>Q (.dat p.d) ρ1
def Dm{K:b_}{ta:TE}{pe:PTE}(h:LE K ta pe):LE K ta (G3 pe):=λA ρ σ H Q Q' R q k=>h A ρ σ H _ Q' R q λv H' p ρ' q f o=>k v H' (.dat p.d) ρ' q f o.frz
def wA{α:Type}{e:α->D}{xs:List α}{k:Nat}(h:k<xs.length):itD (xs.map e) k=e xs[k]:=fS (by rw [q_,gV h];rfl)
def wB{α β:Type}(f:α->β)(xs:List α)(g:Nat->β)(h:∀k (hk:k<xs.length),g k=f xs[k]):(i_ xs.length).map g=xs.map f:=by
 apply JH;intro i;rw [q_,q_]
 by_cases hi:i<xs.length
 .rw [Ie hi,gV hi];exact congrArg some (h i hi)
 .rw [G_ (by rw [Hs];omega),G_ (by omega)];rfl
section
variable {α:Type}{e:α->D}{xs:List α}{ix:List (Option Nat)}{ρ1:PSt}{g:PTG}{pt:PTT}{pe:PTE}{Q:PKt}
def G4(T:PSt->Prop)(f:α->Option D)(h0:T (bO ix ρ1))
  (hs:∀x∈xs,∀τ,T τ->∀(K1:D->PSt->Prop) (K2:PSt->Prop),(∀d τ',f x=some d->T τ'->K1 d τ')->(∀τ',f x=none->T τ'->K2 τ')->g (.dat (e x)) τ λτ2=>pt τ2 λok τ3=>iG ok (pe τ3 λp τ4=>K1 p.d τ4) (K2 τ3))
  (hq:∀τ,T τ->Q (.own (xs.filterMap f)) (ei ix ρ1 τ)):pL ix ρ1 (xs.map e).length (itD (xs.map e)) g pt pe Q:=by
 refine cfm T (λk=>(xs[k]?).bind f) h0 (λk τ d hk ed t K1 K2 k1 k2=>?_) λτ t=>?_
 .rw [length_map] at hk;rw [wA hk] at ed;subst ed;have eg:(xs[k]?).bind f=f xs[k]:=by rw [gV hk];rfl
  rw [eg] at k1 k2;exact hs _ (getElem_mem hk) τ t K1 K2 k1 k2
 .have e1:(i_ (xs.map e).length).filterMap (λk=>(xs[k]?).bind f)=xs.filterMap f:=by
   rw [length_map];have h1:(i_ xs.length).map (λk=>(xs[k]?).bind f)=xs.map f:=wB f xs _ λk hk=>by rw [gV hk];rfl
   have h2:∀l:List Nat,l.filterMap (λk=>(xs[k]?).bind f)=(l.map λk=>(xs[k]?).bind f).filterMap id:=λl=>by rw [Jo];rfl
   rw [h2,h1,Jo];rfl
  rw [e1];exact hq τ t
def Dn(T:PSt->Prop)(f:α->D)(h0:T (bO ix ρ1))
  (hs:∀x∈xs,∀τ,T τ->∀K1:D->PSt->Prop,(∀τ',T τ'->K1 (f x) τ')->g (.dat (e x)) τ λτ2=>pe τ2 λp τ4=>K1 p.d τ4)
  (hq:∀τ,T τ->Q (.own (xs.map f)) (ei ix ρ1 τ)):pL ix ρ1 (xs.map e).length (itD (xs.map e)) g yN pe Q:=by
 refine G4 T (λx=>some (f x)) h0 (λx hx τ t K1 K2 k1 k2=>?_) λτ t=>?_
 .exact hs x hx τ t K1 λτ' t'=>k1 _ τ' rfl t'
 .rw [show xs.filterMap (λx=>some (f x))=xs.map f by rw [<- filterMap_eq_map];rfl];exact hq τ t
def cm1(f:α->D)
  (hs:∀x∈xs,∀(v:Option PV) (K1:D->PSt->Prop),(∀v',K1 (f x) (v'::(bO ix ρ1).tail))->g (.dat (e x)) (v::(bO ix ρ1).tail) λτ2=>pe τ2 λp τ4=>K1 p.d τ4)
  (hq:∀v:Option PV,Q (.own (xs.map f)) (ei ix ρ1 (v::(bO ix ρ1).tail))) (hx:bO ix ρ1=none::(bO ix ρ1).tail:=by rfl):pL ix ρ1 (xs.map e).length (itD (xs.map e)) g yN pe Q:=by
 refine Dn (λτ=>∃v,τ=v::(bO ix ρ1).tail) f ⟨none,hx⟩ ?_ ?_
 .rintro x hx τ ⟨v,rfl⟩ K1 k1;exact hs x hx v K1 λv'=>k1 _ ⟨v',rfl⟩
 .rintro τ ⟨v,rfl⟩;exact hq v
end
def cfR{ix:List (Option Nat)}{ρ1:PSt}{g:PTG}{pt:PTT}{pe:PTE}{Q:PKt}{n:Nat}{it:Nat->D}(p:Nat->Bool)(f:Nat->D)
  (hs:∀k,k<n->∀(v:Option PV) (K1:D->PSt->Prop) (K2:PSt->Prop),(∀v',p k=true->K1 (f k) (v'::(bO ix ρ1).tail))->(∀v',p k=false->K2 (v'::(bO ix ρ1).tail))->g (.dat (it k)) (v::(bO ix ρ1).tail) λτ2=>pt τ2 λok τ3=>iG ok (pe τ3 λp τ4=>K1 p.d τ4) (K2 τ3))
  (hq:∀v:Option PV,Q (.own (((i_ n).filter p).map f)) (ei ix ρ1 (v::(bO ix ρ1).tail))) (hx:bO ix ρ1=none::(bO ix ρ1).tail:=by rfl):pL ix ρ1 n it g pt pe Q:=by
 refine cfm (λτ=>∃v,τ=v::(bO ix ρ1).tail) (λk=>if p k=true then some (f k) else none) ⟨none,hx⟩ ?_ ?_
 .rintro k τ d hk rfl ⟨v,rfl⟩ K1 K2 k1 k2;exact hs k hk v K1 K2 (λv' h=>k1 _ _ (by rw [if_pos h]) ⟨v',rfl⟩) λv' h=>k2 _ (by rw [if_neg (by rw [h];decide)]) ⟨v',rfl⟩
 .rintro τ ⟨v,rfl⟩;rw [cU];exact hq v
section
variable {α:Type}{e:α->D}{xs:List α}{ρ1:PSt}{g:PTG}{pb:PTS}{nx bk:PSt->Prop}{rt:PV->PSt->Prop}
def G5(J:List α->PSt->Prop)(h0:J [] ρ1)
  (hs:∀pre x suf ρ,xs=pre++x::suf->J pre ρ->g (.dat (e x)) ρ λρ2=>pb { nx:=J (pre++[x]),rt:=rt,bk:=bk,ct:=J (pre++[x]) } ρ2) (hq:∀ρ,J xs ρ->nx ρ) :
  ∃I:Nat->PSt->Prop,I 0 ρ1/\(∀k ρ d,k<(xs.map e).length->d=itD (xs.map e) k->I k ρ->g (.dat d) ρ λρ2=>pb { nx:=I (k+1),rt:=rt,bk:=bk,ct:=I (k+1) } ρ2)/\∀ρ,I (xs.map e).length ρ->nx ρ:=by
 refine⟨λk ρ=>J (xs.take k) ρ,by show J (xs.take 0) ρ1;rw [take_zero];exact h0,λk ρ d hk ed hJ=>?_,λρ h=>hq ρ (by have h:J (xs.take (xs.map e).length) ρ:=h;rw [length_map,KE] at h;exact h)⟩;rw [length_map] at hk;rw [wA hk] at ed;subst ed;have ht:xs.take (k+1)=xs.take k++[xs[k]]:=by rw [take_succ,gV hk];rfl
 show g _ ρ λρ2=>pb { nx:=J (xs.take (k+1)),rt:=rt,bk:=bk,ct:=J (xs.take (k+1)) } ρ2;rw [ht];exact hs _ _ (xs.drop (k+1)) ρ (by rw [getElem_cons_drop,take_append_drop]) hJ
end
def AM{a b:List Nat}:fW a b=true ↔ 0<=fnd b a 0:=by unfold fW;exact decide_eq_true_iff
def yl{a b:List Nat}:fW a b=false ↔ fnd b a 0<0:=by
 unfold fW;rw [decide_eq_false_iff_not];omega
def Fu{n i:Nat}(h:i<n):ixN n (i:Int)=some i:=by
 unfold ixN;rw [if_pos (by omega),if_pos (by omega),toNat_natCast]
def cm2{α:Type}{e:α->D}{xs:List α}{ix:List (Option Nat)}{ρ1:PSt}{g:PTG}{pe:PTE}{Q:PKt}(f:α->D)
  (hs:∀x∈xs,∀(v w:Option PV) (K1:D->PSt->Prop),(∀v' w',K1 (f x) (v'::w'::(bO ix ρ1).tail.tail))->g (.dat (e x)) (v::w::(bO ix ρ1).tail.tail) λτ2=>pe τ2 λp τ4=>K1 p.d τ4)
  (hq:∀v w:Option PV,Q (.own (xs.map f)) (ei ix ρ1 (v::w::(bO ix ρ1).tail.tail))) (hx:bO ix ρ1=none::none::(bO ix ρ1).tail.tail:=by rfl):pL ix ρ1 (xs.map e).length (itD (xs.map e)) g yN pe Q:=by
 refine Dn (λτ=>∃v w,τ=v::w::(bO ix ρ1).tail.tail) f ⟨none,none,hx⟩ ?_ ?_
 .rintro x hx τ ⟨v,w,rfl⟩ K1 k1;exact hs x hx v w K1 λv' w'=>k1 _ ⟨v',w',rfl⟩
 .rintro τ ⟨v,w,rfl⟩;exact hq v w
def wC(a b:List Nat):(!(Jz (S b) (S a) 0 (S b).length 1).isEmpty)=fW a b:=by
 have e:=vf b a 0;unfold fW;rw [<- e]
 cases Jz (S b) (S a) 0 (S b).length 1 with
 | nil=>rfl
 | cons k r=>exact (decide_eq_true (by omega:(0:Int)<=(k:Int))).symm
section
variable {X:Cx}{K:b_}
noncomputable def Fv(neg:Bool):R2:=λx y H Q=>∃a b,x=.str (S a)/\y=.str (S b)/\Q (.bl (if neg then !fW a b else fW a b)) H
def Do:OpR X (compareOp .In) (Fv false):=by
 intro pins s σ H x y v u Q I rx ry h;obtain⟨a,b,rfl,rfl,q⟩:=h;obtain⟨t,rfl⟩:=rx;obtain⟨t',rfl⟩:=ry;exact P.in_str ⟨.bl _,H,I,rfl,by rw [wC];exact q⟩
def wD:OpR X (compareOp .NotIn) (Fv true):=by
 intro pins s σ H x y v u Q I rx ry h;obtain⟨a,b,rfl,rfl,q⟩:=h;obtain⟨t,rfl⟩:=rx;obtain⟨t',rfl⟩:=ry;exact P.notIn_str ⟨.bl _,H,I,rfl,by rw [wC];exact q⟩
noncomputable def D7(K:b_)(neg:Bool):R2:=λx y H Q=>rIn K neg x y H Q\/Fv neg x y H Q
def Fw(K:b_)(e:X.K=K):OpR X (compareOp .In) (D7 K false):=OpR.or (GS K e) Do
def sH(K:b_)(e:X.K=K):OpR X (compareOp .NotIn) (D7 K true):=OpR.or (z0 K e) wD
noncomputable def Fx(neg:Bool):F2
 | .str a,.str b,Q=>Q (.dat (.bl (if neg then !fW a b else fW a b)))
 | a,.lst ds,Q=>(a.fl=true/\ds.all D.fl=true)/\Q (.dat (.bl (if neg then !inD a ds else inD a ds)))
 | a,.tup ds,Q=>(a.fl=true/\ds.all D.fl=true)/\Q (.dat (.bl (if neg then !inD a ds else inD a ds)))
 | _,_,_=>False
def wE{neg:Bool}:LO K (D7 K neg) (Fx neg):=by
 intro O H x y a b Q Q' dom fx fy q k;unfold Fx at q
 split at q
 .obtain⟨rfl,_⟩:=fx.str;obtain⟨rfl,_⟩:=fy.str;exact .inr ⟨_,_,rfl,rfl,k _ H _ q (Gr.refl _) (.bl _)⟩
 .exact .inl (Ch O H x y _ _ Q Q' dom fx fy q k)
 .exact .inl (Ch O H x y _ _ Q Q' dom fx fy q k)
 .exact q.elim
end
section
variable {X:Cx}{K:b_}
noncomputable def yX(K:b_):R2:=λx y H Q=>∃a b ys,x=.ref a/\y=.ref b/\SqT K H a []/\SqT K H b ys/\Q (.ref b) H
def ym:OpR X (binaryOp .Add) (yX X.K):=by
 intro pins s σ H x y v u Q I rx ry h;obtain⟨a,b,ys,rfl,rfl,ha,hb,q⟩:=h;cases rx;cases ry;obtain⟨its,r1,p1,_⟩:=I.tuple ha;obtain⟨its2,r2,p2,_⟩:=I.tuple hb;have e0:its=[]:=r1.nil_iff.mpr rfl;subst e0;obtain⟨⟨cls,dd,data,sl⟩,ho,hc,n,hd⟩:=id p1;obtain⟨⟨cls2,dd2,data2,sl2⟩,ho2,hc2,n2,hd2⟩:=id p2;simp only at hc hd hc2 hd2;subst hc hd hc2 hd2;exact KS ⟨_,ho,rfl⟩ ⟨_,ho2,rfl⟩ KL seq_tuple_add JE Jx (Jn _ _) (tuple_addW0 a b _ _ n n2 dd dd2 sl sl2 rfl) ⟨ho,ho2,.ref b,H,I,rfl,q⟩
noncomputable def wF(K:b_):R2:=λx y H Q=>zY K x y H Q\/yX K x y H Q
def bR(K:b_)(e:X.K=K):OpR X (binaryOp .Add) (wF K):=OpR.or (EQ K e) (by subst e;exact ym)
noncomputable def Dp:F2
 | .tup a,.tup b,Q=>a.length+b.length<=1000000/\Q (.dat (.tup (a++b)))
 | a,b,Q=>ER a b Q
def br:LO K (wF K) Dp:=by
 intro O H x y a b Q Q' dom fx fy q k;unfold Dp at q
 split at q
 .rename_i Q ds es
  cases ds with
  | cons d ds=>exact .inl (yI O H x y _ _ _ Q' dom fx fy ⟨nofun,q⟩ k)
  | nil =>
   obtain⟨p1,xs1,rfl,n1,e1,f1⟩:=fx.tup;obtain⟨p2,xs2,rfl,n2,e2,f2⟩:=fy.tup;cases f1;exact .inr ⟨p1,p2,xs2,rfl,rfl,SqT.of e1,SqT.of e2,k _ H _ q.2 (Gr.refl _) (.tup n2 e2 f2)⟩
 .exact .inl (yI O H x y _ _ _ Q' dom fx fy q k)
end
section
variable {X:Cx}{K:b_}
noncomputable def lK(i:Int):List Nat:=(((toString i:String):Str)).cps.toList
def yY(i:Int):S (lK i)=((toString i:String):Str):=GI _
noncomputable def D8:V->Str->Prop
 | .int i,y=>i.natAbs.log2<1920/\y=((toString i:String):Str)
 | .str z,y=>z.length<=sizeLine/\y=z
 | _,_=>False
inductive FP where
 | lit (z:Str)|ex (t:TE)
noncomputable def tJ:List FP->Str->TE
 | [],acc=>λ_ H Q=>acc.length<=sizeLine/\Q (.str acc) H
 | .lit z::r,acc=>λσ H Q=>(acc++z).length<=sizeLine/\tJ r (acc++z) σ H Q
 | .ex t::r,acc=>λσ H Q=>t σ H λv H1=>∃y,D8 v y/\(acc++y).length<=sizeLine/\tJ r (acc++y) σ H1 Q
inductive PJ (X:Cx):List Expr->List FP->Prop
 | nil:PJ X [] []
 | lit {z:Str}{k pos}{es:List Expr}{ps:List FP}:PJ X es ps->PJ X (.Constant (.str z) k pos::es) (.lit z::ps)
 | ex {e:Expr}{t:TE}{pos}{es:List Expr}{ps:List FP}:PE X e t->PJ X es ps->PJ X (.FormattedValue e (-1) none pos::es) (.ex t::ps)
def PJ.litS{x:Str}{l:List Nat}{k pos}{es:List Expr}{ps:List FP}(h:x=S l)(r:PJ X es ps):PJ X (.Constant (.str x) k pos::es) (.lit (S l)::ps):=by subst h;exact .lit r
def Dq{pins:List (Addr×Obj)}{σ:St}{H:Hp}{s:d_}{v:V}{u:Value}{y:Str}{Q:Value->d_->Prop}(I:Inv X pins σ H s)(r:c4 v u)(h:D8 v y)
  (q:∀t s',Inv X pins σ H s'->Q (.str y t) s'):wpAny (model X.prog X.w) X.A (formatField u Ll) Q X.xe s:=by
 cases v with
 | int i =>
  obtain⟨t,rfl⟩:=r;obtain⟨h1,rfl⟩:=h;exact wpAny_formatField_int h1 (q _ _ (I.tok _))
 | str z =>
  obtain⟨t,rfl⟩:=r;obtain⟨h1,rfl⟩:=h;exact wpAny_formatField_str (q _ _ I) (q _ _ (I.tok _)) h1
 | _=>exact h.elim
def yn{pins:List (Addr×Obj)}{σ:St}{Q:VK}{es:List Expr}{ps:List FP}(h:PJ X es ps):∀(acc:Str) (s:d_) (H:Hp),Inv X pins σ H s->tJ ps acc σ H Q ->
  Joins (model X.prog X.w) X.A X.xe (evalEach es X.env) acc (λout s₁=>out.length<=sizeLine/\EP X pins σ Q (.str out s₁.toks) { s₁ with toks:=s₁.toks+1 }) s:=by
 induction h with
 | nil=>exact λacc s H I q=>⟨q.1,.str acc,H,I.tok _,⟨_,rfl⟩,q.2⟩
 | @lit z k pos es ps _ ih =>
  intro acc s H I q;show wpAny _ _ (eval (.Constant (.str z) k pos) X.env) _ _ _;exact Calls.Constant_str ⟨z,_,rfl,q.1,ih (acc++z) _ H (I.tok _) q.2⟩
 | @ex e t pos es ps he _ ih =>
  intro acc s H I q;show wpAny _ _ (eval (.FormattedValue e (-1) none pos) X.env) _ _ _;refine wpAny_FormattedValue_plain (thn (he pins s σ H _ I q) λu s1 ⟨v,H1,I1,r1,y,hf,hl,q1⟩=>?_);exact Dq I1 r1 hf λtk s' I'=>⟨y,tk,rfl,hl,ih (acc++y) s' H1 I' q1⟩
def wG{v₁ v₂:Expr}{rest:List Expr}{pos:Pos}{ps:List FP}(h:PJ X (v₁::v₂::rest) ps):PE X (.JoinedStr (v₁::v₂::rest) pos) (tJ ps Ll):=λpins s σ H Q I q =>
 wpAny_JoinedStr (yn h _ s H I q)
inductive PP where
 | lit (l:List Nat)|ex (pe:PTE)
noncomputable def pJ:List PP->List Nat->PTE
 | [],acc=>λρ Q=>Q (.dat (.str acc)) ρ
 | .lit z::r,acc=>λρ Q=>acc.length+z.length<=1000000/\pJ r (acc++z) ρ Q
 | .ex pe::r,acc=>λρ Q=>pe ρ λp ρ1=>match p with
  | .dat (.int i)=>(0<=i/\i<=1000)/\acc.length+4<=1000000/\pJ r (acc++lK i) ρ1 Q
  | .dat (.str l)=>acc.length+l.length<=1000000/\pJ r (acc++l) ρ1 Q
  | _=>False
inductive LJ (K:b_):List FP->List PP->Prop
 | nil:LJ K [] []
 | lit {l:List Nat}{z:Str}{ts:List FP}{ps:List PP}:z=S l->LJ K ts ps->LJ K (.lit z::ts) (.lit l::ps)
 | ex {t:TE}{pe:PTE}{ts:List FP}{ps:List PP}:LE K t pe->LJ K ts ps->LJ K (.ex t::ts) (.ex pe::ps)
def yo{i:Int}(h:0<=i/\i<=1000):(lK i).length<=4:=by
 have:∀n:Fin 1001,(lK (n.1:Int)).length<=4:=by decide +kernel
 have:=this ⟨i.toNat,by omega⟩
 rwa [show ((i.toNat:Nat):Int)=i by omega] at this
def wH{i:Int}(h:0<=i/\i<=1000):i.natAbs.log2<1920:=by
 have:∀n:Fin 1001,(n.1).log2<1920:=by decide +kernel
 have:=this ⟨i.toNat,by omega⟩
 rwa [show i.natAbs=i.toNat by omega]
def Dr(a b:List Nat):(S a++S b).length=a.length+b.length:=by rw [tu,dC,length_append]
def Fy{ts:List FP}{ps:List PP}(h:LJ K ts ps):∀(acc:List Nat),acc.length<=1000000->LE K (tJ ts (S acc)) (pJ ps acc):=by
 induction h with
 | nil=>exact λacc hl A ρ σ H Q Q' R q k=>⟨by rw [dC];exact E_ hl (by decide),k _ H (.dat (.str acc)) ρ q (Fr.refl _ _ _) ⟨R,.str acc hl⟩⟩
 | @lit l z ts ps e _ ih =>
  intro acc hl A ρ σ H Q Q' R q k;subst e;have hq:acc.length+l.length<=1000000:=q.1;have q2:pJ ps (acc++l) ρ Q:=q.2;refine⟨by rw [Dr];exact E_ hq (by decide),?_⟩;rw [tu];exact ih (acc++l) (by rw [length_append];exact hq) A ρ σ H Q Q' R q2 k
 | @ex t pe ts ps he _ ih =>
  intro acc hl A ρ σ H Q Q' R q k;refine he A ρ σ H _ _ R q λv H1 p ρ1 q1 f1 o1=>?_
  have go:∀(l:List Nat) (y:Str),y=S l->D8 v y->acc.length+l.length<=1000000->Rel K A ρ1 σ H1->pJ ps (acc++l) ρ1 Q->∃y,D8 v y/\(S acc++y).length<=sizeLine/\tJ ts (S acc++y) σ H1 Q':=λl y ey fy hn R1 q2=>by
   refine⟨y,fy,?_,?_⟩
   .rw [ey,Dr];exact E_ hn (by decide)
   .rw [ey,tu];exact ih (acc++l) (by rw [length_append];exact hn) A ρ1 σ H1 Q Q' R1 q2 λv H' p ρ' q3 f3 o3=>k v H' p ρ' q3 (f1.trans f3) (o3.h0 f1.dm)
  match p,q1,o1 with
  | .dat (.int i),q1,o1 =>
   obtain⟨R1,fv⟩:=o1;cases fv;have hi:0<=i/\i<=1000:=q1.1;have h4:acc.length+4<=1000000:=q1.2.1;have:=yo hi;exact go (lK i) _ (yY i).symm ⟨wH hi,rfl⟩ (by omega) R1 q1.2.2
  | .dat (.str l),q1,o1 =>
   obtain⟨R1,fv⟩:=o1
   cases fv with
   | str _ hl2 =>
   exact go l _ rfl ⟨by rw [dC];exact E_ hl2 (by decide),rfl⟩ q1.1 R1 q1.2
def wI{ts:List FP}{ps:List PP}(h:LJ K ts ps):LE K (tJ ts Ll) (pJ ps []):=Fy h [] (by decide)
end
section
variable {X:Cx}{K:b_}
noncomputable def Ds:List V->Hp->VK->Prop:=λxs H Q=>∃i:Int,xs=[.int i]/\i.natAbs.log2<1920/\Q (.str ((toString i:String):Str)) H
def kR:bj X (.type "str") Ds:=by
 intro pins s σ H xs us Q I r h;obtain⟨i,rfl,hi,q⟩:=h;obtain⟨u,rfl,t,rfl⟩:=gK r;exact PySem.P.str_of_int hi ⟨.str _,H,I.tok _,⟨_,rfl⟩,q⟩
end
section
variable {X:Cx}
noncomputable def Gz:Expr->Bool
 | .ListComp ..|.SetComp ..|.DictComp ..=>false
 | _=>true
def wJ{o i e:Expr}{p:Pos}{l:Nat}{env:Env}(h:Gz e=true):swapsWithSole [.Subscript o i p] e l env=pure false:=by
 show swapsWith e (some (.Subscript o i p)) l env=pure false;cases e <;> first|rfl|cases h
def qP{o i e:Expr}{p:Pos}{env:Env}:swappedStores [.Subscript o i p] e env=pure none:=rfl
def qQ{o i e:Expr}{p:Pos}{te:TE}{g:TG}{pos:Pos}(he:PE X e te)(hg:PG X (.Subscript o i p) g)(hn:Gz e=true:=by rfl):PS X (.Assign [.Subscript o i p] e pos) (xl te g) :=
 mC he hg (wJ hn) qP rfl
end
def qR(a b c d:Value):argsOk "object.__init__" ⟨[a,b,c,d],[]⟩:=by
 unfold argsOk;rw [signature?_of (id:="object.__init__") (n:=['_','_','t','i','n','i','_','_']) (o:=['t','c','e','j','b','o']) (by kernel_rfl) F.owner_object];kernel_rfl
def tV(a b c:Value):checkTypeCall "zip" ⟨[a,b,c],[]⟩=pure ():=by kernel_rfl
def tW(a b c:Value):checkBuiltinCall "zip.__new__" ⟨[.type "zip",a,b,c],[]⟩=pure ():=by kernel_rfl
abbrev gk(h:Heap)(T:Addr)(a b c:Value):Prop:=h.get? T=some { cls:=.type "tuple",data:=.seq #[a,b,c] }
structure ZB (z U V i j m:Addr):Prop where
 Uz:U≠z
 Vz:V≠z
 iz:i≠z
 jz:j≠z
 mz:m≠z
 UV:U≠V
 Ui:U≠i
 Uj:U≠j
 Um:U≠m
 Vi:V≠i
 Vj:V≠j
 Vm:V≠m
 ij:i≠j
 im:i≠m
 jm:j≠m
def Fz(n:Nat):ZB (n+5) (n+3) (n+4) n (n+1) (n+2):=by
 refine⟨?_,?_,?_,?_,?_,?_,?_,?_,?_,?_,?_,?_,?_,?_,?_⟩ <;> (intro h;have h2:@Eq Nat _ _:=h;omega)
section
variable {P:r_}{w:World}{A:w_}{E:Value->d_->Prop}{s:d_}{k l q:Bool}{z U V i j m a c d:Addr}{n:Nat}{xs ys zs:Array Value}{x y v u1 u2 u3:Value}
def js{T:Addr}{a b c x:Value}{k:Nat}{Q:Unit->d_->Prop}(hT:gk s.heap T a b c)
  (h:∀h',h'.get? T=some { cls:=.type "tuple",data:=.seq ((#[a,b,c]:Array Value).setIfInBounds k x) }->Ji T s.heap h'->Q () { s with heap:=h' }) :
  wpAny (model P w) A (updateSeq T (·.setIfInBounds k x)) Q E s:=by
 refine wpAny_updateSeq hT rfl (h _ ?_ (Ka ..));rw [H_ _ hT rfl];simp [Kv]
def AN{Q:Value->d_->Prop}(D:ZB z U V i j m)(na:∀b∈[z,V,i,j,m],a≠b)(nc:∀b∈[z,V,i,j,m],c≠b)(nd:∀b∈[z,V,i,j,m],d≠b)
  (hz:IsZip s.heap z U V .none) (hU:gk s.heap U (.ref i) (.ref j) (.ref m)) (hV:gk s.heap V u1 u2 u3)
  (W1:bf k s.heap i a n) (W2:bf l s.heap j c n) (W3:bf q s.heap m d n) (R1:cb k s.heap a xs) (R2:cb l s.heap c ys) (R3:cb q s.heap d zs) (hx:xs[n]?=some x) (hy:ys[n]?=some y) (hv:zs[n]?=some v)
  (hQ:∀h',IsZip h' z U V (rawInt s.heap.objs.size)->gk h' V x y v->bf k h' i a (n+1)->bf l h' j c (n+1)->bf q h' m d (n+1)->gk h' s.heap.objs.size x y v ->
   (∀b o,b∉[z,V,i,j,m]->s.heap.get? b=some o->h'.get? b=some o)->Q (.ref s.heap.objs.size) { s with heap:=h' }) :
  wpAny (model P w) A (IM.«zip.__next__» ⟨[.ref z],[]⟩) (λf s'=>∃r,f=.done (.ret r)/\Q r s') E s:=by
 simp only [mem_cons,not_mem_nil,or_false,forall_eq_or_imp,forall_eq] at na nc nd;obtain⟨az,aV,ai,aj,am⟩:=na;obtain⟨cz,cV,ci,cj,cm⟩:=nc;obtain⟨dz,dV,di,dj,dm⟩:=nd;refine cy (m:=field (.ref z) 2) (D_ hz rfl (x:=.bool false) rfl (cy (m:=field (.ref z) 3) (D_ hz rfl (x:=.ref U) rfl (cy (Hy hU rfl ?_)))));refine cy (m:=C_ (.ref z)) ?_
 unfold C_;refine cy (D_ hz rfl (x:=.none) rfl (e_ ?_));simp only [if_true];refine cy (JP (cy (D_ hz rfl (x:=.ref V) rfl (cy (Ht hz (by simp) λg1 z1 b1=>cy ?_)))))
 replace z1:IsZip g1 z U V .ellipsis:=z1
 simp only [Le,zipIdx_nil,forIn_cons,Lm];have e1:=b1.extBut;refine cy (cy (Ia (cy (m:=s_ (.ref i)) (bV (W1.mv λo e=>e1 _ o D.iz e) (R1.mv λo e=>e1 _ o az e) hx λg2 w1 b2=>e_ ?_))));have e2:=b2.extBut;have v2:gk g2 V u1 u2 u3:=e2 _ _ D.Vi (e1 _ _ D.Vz hV);refine cy (Hy v2 rfl (cy (js v2 λg3 v3 b3=>cy (J3 (e_ ?_)))))
 replace v3:gk g3 V x u2 u3:=v3
 have e3:=b3.extBut;refine cy (cy (Ia (cy (m:=s_ (.ref j)) (bV (W2.mv λo e=>e3 _ o D.Vj.symm (e2 _ o D.ij.symm (e1 _ o D.jz e))) (R2.mv λo e=>e3 _ o cV (e2 _ o ci (e1 _ o cz e))) hy λg4 w2 b4=>e_ ?_))));have e4:=b4.extBut;have v4:gk g4 V x u2 u3:=e4 _ _ D.Vj v3;refine cy (Hy v4 rfl (cy (js v4 λg5 v5 b5=>cy (J3 (e_ ?_)))))
 replace v5:gk g5 V x y u3:=v5
 have e5:=b5.extBut;refine cy (cy (Ia (cy (m:=s_ (.ref m)) (bV (W3.mv λo e=>e5 _ o D.Vm.symm (e4 _ o D.jm.symm (e3 _ o D.Vm.symm (e2 _ o D.im.symm (e1 _ o D.mz e))))) (R3.mv λo e=>e5 _ o dV (e4 _ o dj (e3 _ o dV (e2 _ o di (e1 _ o dz e))))) hv λg6 w3 b6=>e_ ?_))));have e6:=b6.extBut;have v6:gk g6 V x y u3:=e6 _ _ D.Vm v5;refine cy (Hy v6 rfl (cy (js v6 λg7 v7 b7=>cy (J3 (e_ (e_ ?_))))))
 replace v7:gk g7 V x y v:=v7
 have e7:=b7.extBut;refine cy (Hy v7 rfl (cy (wpAny_newTuple ?_)));have sz:g7.objs.size=s.heap.objs.size:=by rw [b7.1,b6.1,b5.1,b4.1,b3.1,b2.1,b1.1]
 have z7:IsZip g7 z U V .ellipsis:=e7 _ _ D.Vz.symm (e6 _ _ D.mz.symm (e5 _ _ D.Vz.symm (e4 _ _ D.jz.symm (e3 _ _ D.Vz.symm (e2 _ _ D.iz.symm z1)))))
 have k7:∀b o,b∉[z,V,i,j,m]->s.heap.get? b=some o->g7.get? b=some o:=λb o hb e=>by
  simp only [mem_cons,not_mem_nil,or_false,not_or] at hb;obtain⟨q1,q2,q3,q4,q5⟩:=hb;exact e7 _ _ q2 (e6 _ _ q5 (e5 _ _ q2 (e4 _ _ q4 (e3 _ _ q2 (e2 _ _ q3 (e1 _ _ q1 e))))))
 have w17:bf k g7 i a (n+1):=w1.mv λo e=>e7 _ o D.Vi.symm (e6 _ o D.im (e5 _ o D.Vi.symm (e4 _ o D.ij (e3 _ o D.Vi.symm e))));have w27:bf l g7 j c (n+1):=w2.mv λo e=>e7 _ o D.Vj.symm (e6 _ o D.jm (e5 _ o D.Vj.symm e));have w37:bf q g7 m d (n+1):=w3.mv λo e=>e7 _ o D.Vm.symm e;have zlt:z<g7.objs.size:=l_ z7;refine cy (m:=HJ (.ref z) (.ref g7.objs.size)) ?_
 unfold HJ;have z8:IsZip (g7.push { cls:=.type "tuple",data:=.seq #[x,y,v] }) z U V .ellipsis:=c_ _ z7;refine cy (Ht z8 (by simp) λg9 z9 b9=>?_)
 replace z9:IsZip g9 z U V (rawInt g7.objs.size):=z9
 refine Ht z9 (by simp) λg10 z10 b10=>?_
 replace z10:IsZip g10 z U V (rawInt g7.objs.size):=z10
 have up:∀b o,b≠z->g7.get? b=some o->g10.get? b=some o:=λb o q e=>b10.extBut _ _ q (b9.extBut _ _ q (c_ _ e));have t10:gk g10 g7.objs.size x y v:=b10.extBut _ _ (Je zlt) (b9.extBut _ _ (Je zlt) (h_ _ rfl));rw [sz] at z10 t10;refine e_ ⟨_,rfl,?_⟩;show Q (.ref g7.objs.size) _;rw [sz];exact hQ g10 z10 (up _ _ D.Vz v7) (w17.mv λo e=>up _ o D.iz e) (w27.mv λo e=>up _ o D.jz e) (w37.mv λo e=>up _ o D.mz e) t10 λb o hb e=>up b o (λz=>hb (by rw [z];exact mem_cons_self ..)) (k7 b o hb e)
def Dt{Q:Fin->d_->Prop}(hh:A.handled=none)(D:ZB z U V i j m)(az:a≠z)(hz:IsZip s.heap z U V .none)(hU:gk s.heap U (.ref i) (.ref j) (.ref m))
  (W1:bf k s.heap i a n) (R1:cb k s.heap a xs) (hend:xs[n]?=none)
  (hE:∀h' e,(∀b o,b∉[z,i]->s.heap.get? b=some o->h'.get? b=some o)->(∃o,h'.get? e=some o/\o.cls=.type "StopIteration")->E (.ref e) { s with heap:=h' }) :
  wpAny (model P w) A (IM.«zip.__next__» ⟨[.ref z],[]⟩) Q E s:=by
 refine cy (m:=field (.ref z) 2) (D_ hz rfl (x:=.bool false) rfl (cy (m:=field (.ref z) 3) (D_ hz rfl (x:=.ref U) rfl (cy (Hy hU rfl ?_)))));refine cy (m:=C_ (.ref z)) ?_;unfold C_;refine cy (D_ hz rfl (x:=.none) rfl (e_ ?_));simp only [if_true];refine cy (JP (cy (D_ hz rfl (x:=.ref V) rfl (cy (Ht hz (by simp) λg1 z1 b1=>cy ?_)))))
 replace z1:IsZip g1 z U V .ellipsis:=z1
 simp only [Le,zipIdx_nil,forIn_cons,Lm];have e1:=b1.extBut;refine cy (cy (Ia (cy (m:=s_ (.ref i)) (dF hh (W1.mv λo e=>e1 _ o D.iz e) (R1.mv λo e=>e1 _ o az e) hend λg2 e b2 he=>?_))));obtain⟨oe,ge,ce⟩:=he;have z2:IsZip g2 z U V .ellipsis:=b2 _ _ D.iz.symm z1;have ez:e≠z:=λq=>by subst q;rw [z2] at ge;cases ge;simp at ce
 exact Ht z2 (by simp) λg3 _ b3=>hE g3 e (λb o hb q=>by
  simp only [mem_cons,not_mem_nil,or_false,not_or] at hb;exact b3.extBut _ _ hb.1 (b2 _ _ hb.2 (e1 _ _ hb.1 q))) ⟨oe,b3.extBut _ _ ez ge,ce⟩
end
noncomputable def GA(k l q:Bool)(K:b_)(a c d:Addr):It :=
  ⟨λi H=>∃xs ys zs x y v,Sq k K H a xs/\Sq l K H c ys/\Sq q K H d zs/\xs[i]?=some x/\ys[i]?=some y/\zs[i]?=some v,
   λi H p H'=>∃T x y v,H T=none/\p=.ref T/\(∀xs,Sq k K H a xs->xs[i]?=some x)/\(∀ys,Sq l K H c ys->ys[i]?=some y)/\(∀zs,Sq q K H d zs->zs[i]?=some v)/\H'=upd H T (.tup [x,y,v]),
   λi H=>∃xs,Sq k K H a xs/\xs.length<=i⟩
def wK{P:r_}{w:World}{K:b_}{es:List Expr}{ct:Nat}{tp:Pos}{k l q:Bool}{a c d z U V i j m:Addr}(D:ZB z U V i j m) :
  yA P w K (.Tuple es ct tp) (GA k l q K a c d) [z,U,V,i,j,m] z (λn h=>IsZip h z U V .none/\gk h U (.ref i) (.ref j) (.ref m)/\(∃u v w,gk h V u v w)/\bf k h i a n/\bf l h j c n/\bf q h m d n) where
 mem:=by simp
 obj:=λn h st b hb=>by
  obtain⟨hz,hU,⟨u,v,w,hV⟩,⟨o1,g1,c1,d1⟩,⟨o2,g2,c2,d2⟩,⟨o3,g3,c3,d3⟩⟩:=st;simp only [mem_cons,not_mem_nil,or_false] at hb
  rcases hb with rfl|rfl|rfl|rfl|rfl|rfl
  .exact⟨_,hz,λv q=>by cases q⟩
  .exact⟨_,hU,λv q=>by cases q⟩
  .exact⟨_,hV,λv q=>by cases q⟩
  .exact⟨_,g1,λv q=>by rw [d1] at q;cases q⟩
  .exact⟨_,g2,λv q=>by rw [d2] at q;cases q⟩
  .exact⟨_,g3,λv q=>by rw [d3] at q;cases q⟩
 keep:=λn h h' st kk=>by
  obtain⟨hz,hU,⟨u,v,w,hV⟩,w1,w2,w3⟩:=st;exact⟨kk z (by simp) _ hz,kk U (by simp) _ hU,⟨u,v,w,kk V (by simp) _ hV⟩,w1.mv λo e=>kk i (by simp) o e,w2.mv λo e=>kk j (by simp) o e,w3.mv λo e=>kk m (by simp) o e⟩
 item:=by
  intro X hP hw hK hc n pins s σ H E I hf st hg;subst hP hw hK;obtain⟨xs,ys,zs,x,y,v,q1,q2,q3,hx,hy,hv⟩:=hg;obtain⟨hz,hU,⟨u1,u2,u3,hV⟩,w1,w2,w3⟩:=st;obtain⟨its,rv,p,_⟩:=I.row q1;obtain⟨jts,rv',p',_⟩:=I.row q2;obtain⟨mts,rv'',p'',_⟩:=I.row q3;obtain⟨ux,hux,rx⟩:=rv.get hx;obtain⟨uy,huy,ry⟩:=rv'.get hy;obtain⟨uv,huv,rvv⟩:=rv''.get hv;have hT:s.TypeIs (.ref z) "zip":=⟨_,hz,rfl⟩
  have sub:∀b,b∈[z,V,i,j,m]->b∈[z,U,V,i,j,m]:=λb hb=>by
   simp only [mem_cons,not_mem_nil,or_false] at hb ⊢;rcases hb with q|q|q|q|q <;> simp [q]
  unfold pyNext
  refine cy (IZ (Ho (name:=IF "__next__") hT F.slot_zip_next (HV F.slot_zip_next hT F.entry_zip_next
   (AN (x:=ux) (y:=uy) (v:=uv) D (λb hb=>I.row_ne q1 (hf b (sub b hb))) (λb hb=>I.row_ne q2 (hf b (sub b hb))) (λb hb=>I.row_ne q3 (hf b (sub b hb))) hz hU hV w1 w2 w3 p p' p'' (by simpa using hux) (by simpa using huy) (by simpa using huv) λh' a1 a2 a3 a4 a5 a6 a7=>e_ ?_) (F.args_zip_next_1 _))))
  refine⟨_,rfl,wpAny_letOwnedTupleGo_zip a1 λg gz gs=>?_⟩;have lt:∀{b o},s.heap.get? b=some o->s.heap.objs.size≠b:=λe=>Je (l_ e);have kp:∀b o,b∉[z,V,i,j,m]->s.heap.get? b=some o->g.get? b=some o:=λb o hb e=>gs.extBut _ _ (λz=>hb (by rw [z];exact mem_cons_self ..)) (a7 b o hb e);have I2:Inv X pins σ (upd H s.heap.objs.size (.tup [x,y,v])) { s with heap:=g,toks:=s.toks }:=I.yielded (ch:=[z,V,i,j,m]) (λb hb=>hf b (sub b hb)) (so _) kp ⟨by show 3<=sizeLine;decide,[ux,uy,uv],.cons rx (.cons ry (.cons rvv .nil)),_,gs.extBut _ _ (lt hz) a6,rfl,_,rfl⟩
  refine⟨.ref s.heap.objs.size,_,I2,rfl,⟨_,x,y,v,I.hok.fresh (so _),rfl,λxs' q=>by rw [I.row_inj q q1];exact hx,λys' q=>by rw [I.row_inj q q2];exact hy,λzs' q=>by rw [I.row_inj q q3];exact hv,rfl⟩,
   ⟨gz,kp _ _ (by simp [D.Uz,D.UV,D.Ui,D.Uj,D.Um]) hU,⟨_,_,_,gs.extBut _ _ D.Vz a2⟩,a3.mv λo e=>gs.extBut _ o D.iz e,a4.mv λo e=>gs.extBut _ o D.jz e,a5.mv λo e=>gs.extBut _ o D.mz e⟩,λb hb=>?_⟩
  rw [ar ?_]
  .exact (hf b hb).1
  .intro q;subst q;simp only [mem_cons,not_mem_nil,or_false] at hb;obtain⟨o1,g1,_⟩:=w1;obtain⟨o2,g2,_⟩:=w2;obtain⟨o3,g3,_⟩:=w3
   rcases hb with q|q|q|q|q|q
   .exact lt hz q
   .exact lt hU q
   .exact lt hV q
   .exact lt g1 q
   .exact lt g2 q
   .exact lt g3 q
 done:=by
  intro X hP hw hK hc n pins s σ H E I hf st hg;subst hP hw hK;obtain⟨xs,q1,hend⟩:=hg;obtain⟨hz,hU,_,w1,_,_⟩:=st;obtain⟨its,rv,p,_⟩:=I.row q1;have e1:=rv.length;have hT:s.TypeIs (.ref z) "zip":=⟨_,hz,rfl⟩
  unfold pyNext
  refine cy (IZ (Ho (name:=IF "__next__") hT F.slot_zip_next (HV F.slot_zip_next hT F.entry_zip_next
   (Dt (I.ok.hd hc) D (I.row_ne q1 (hf z (by simp))) hz hU w1 p (by simp;omega) λh' e hk he=>?_) (F.args_zip_next_1 _))))
  obtain⟨o,ho,hcl⟩:=he;refine cy (KM (T:="StopIteration") (b:=true) ⟨o,ho,hcl⟩ isSubtype_stop (e_ ⟨rfl,?_⟩))
  have hfz:∀b∈[z,i],b∈[z,U,V,i,j,m]:=λb hb=>by
   simp only [mem_cons,not_mem_nil,or_false] at hb ⊢;rcases hb with q|q <;> simp [q]
  have nn:∀b u,H b=some u->b∉[z,i]:=λb u e hb=>by rw [(hf b (hfz b hb)).1] at e;cases e
  exact I.step (g':=s.gens) (d':=s.drawn) (t':=s.toks) (ch:=[z,i]) (λb hb=>by
    have q:=hf b (hfz b hb);exact⟨q.2.2.2.1,q.2.1,q.2.2.2.2.1,q.2.2.2.2.2⟩) (λb o _ _ hc e _=>hk b o hc e) (λb o _ _ hc e _=>⟨o.slots,hk b o hc e⟩) (λ_ _ _ _ q=>q) (λb o hc e=>⟨o,hk b o hc e⟩) (λ_ _ e=>e) (λ_ _ _ e=>e) (λb ps e=>⟨#[],by rw [e];simp⟩) (λm hm=>by
    obtain⟨o,es,ep,ho,r⟩:=hm;exact⟨o,es,ep,hk _ o (λhb=>(hf _ (hfz _ hb)).2.1 rfl) ho,r⟩) (λb u e=>by
    refine (I.hok b u e).stay (λc v hc q=>?_) (λ_ q=>q) λ_ _ q=>q;refine hk c v ?_ q
    rcases hc with q|q
    .rw [q];exact nn b u e
    .exact nn c _ q) I.bare
 self:=λ_ _ _ _ _ st h=>JQ st.1 h
section
variable {P:r_}{w:World}{A:w_}{E:Value->d_->Prop}{s:d_}{k l q:Bool}
abbrev xg3(h:Heap)(k l q:Bool)(a c d:Addr):Heap:=(zg2 h k l a c).push (fi q d)
abbrev xg4(h:Heap)(k l q:Bool)(a c d:Addr):Heap:=(xg3 h k l q a c d).push { cls:=.type "tuple",data:=.seq #[.ref h.objs.size,.ref (zg1 h k a).objs.size,.ref (zg2 h k l a c).objs.size] }
abbrev xg5(h:Heap)(k l q:Bool)(a c d:Addr):Heap:=(xg4 h k l q a c d).push { cls:=.type "tuple",data:=.seq #[.none,.none,.none] }
abbrev xg6(h:Heap)(k l q:Bool)(a c d:Addr):Heap:=(xg5 h k l q a c d).push { cls:=.type "zip",data:=.fields #[.none,.bool false,.bool false,.ref (xg3 h k l q a c d).objs.size,.ref (xg4 h k l q a c d).objs.size] }
set_option maxHeartbeats 8000000 in
def yp(k l q:Bool)(a c d:Addr)(xs ys zs:Array Value):Meets (IM.«zip.__new__» ⟨[.type "zip",.ref a,.ref c,.ref d],[]⟩) (λ_ R s=>cb k s.heap a xs/\cb l s.heap c ys/\cb q s.heap d zs /\
   R (.ok (.ret (.ref (xg5 s.heap k l q a c d).objs.size))) { s with heap:=xg6 s.heap k l q a c d }) :=
 .of_wp λprog w A R s h=>by
  obtain⟨hp,g,dd,tk,os⟩:=s;obtain⟨r1,r2,r3,h⟩:=h;have hsub:=sub_zip;have R1:cb k (J4 ⟨hp,g,dd,tk,os⟩) a xs:=r1;have R2:cb l (J4 ⟨hp.push (fi k a),g,dd,tk,os⟩) c ys:=r2.mv λo e=>c_ _ e;have R3:cb q (J4 ⟨(hp.push (fi k a)).push (fi l c),g,dd,tk,os⟩) d zs:=r3.mv λo e=>c_ _ (c_ _ e)
  wp_walk using cH R1,cH R2,cH R3
  exact⟨_,rfl,h⟩
def yq{a c d:Addr}{xs ys zs:Array Value}{Q:Value->d_->Prop}(r1:cb k s.heap a xs)(r2:cb l s.heap c ys)(r3:cb q s.heap d zs)
  (h:∀h',IsZip h' (s.heap.objs.size+5) (s.heap.objs.size+3) (s.heap.objs.size+4) .none->gk h' (s.heap.objs.size+3) (.ref s.heap.objs.size) (.ref (s.heap.objs.size+1)) (.ref (s.heap.objs.size+2)) ->
   gk h' (s.heap.objs.size+4) .none .none .none->bf k h' s.heap.objs.size a 0->bf l h' (s.heap.objs.size+1) c 0->bf q h' (s.heap.objs.size+2) d 0->(∀b o,s.heap.get? b=some o->h'.get? b=some o)->Q (.ref (s.heap.objs.size+5)) { s with heap:=h' }) :
  wpAny (model P w) A (call (.type "zip") [.ref a,.ref c,.ref d]) Q E s:=by
 refine callType_new F.called_zip (by decide) (tV _ _ _) (tW _ _ _) (λobj=>qR obj _ _ _) F.entry_zip_new (yp k l q a c d xs ys zs) ⟨r1,r2,r3,?_⟩;have z1:(zg1 s.heap k a).objs.size=s.heap.objs.size+1:=Hc ..;have z2:(zg2 s.heap k l a c).objs.size=s.heap.objs.size+2:=by rw [Hc,z1]
 have z3:(xg3 s.heap k l q a c d).objs.size=s.heap.objs.size+3:=by rw [Hc,z2]
 have z4:(xg4 s.heap k l q a c d).objs.size=s.heap.objs.size+4:=by rw [Hc,z3]
 have z5:(xg5 s.heap k l q a c d).objs.size=s.heap.objs.size+5:=by rw [Hc,z4]
 have m5:∀b o,(xg5 s.heap k l q a c d).get? b=some o->(xg6 s.heap k l q a c d).get? b=some o:=λb o e=>c_ _ e;have m4:∀b o,(xg4 s.heap k l q a c d).get? b=some o->(xg6 s.heap k l q a c d).get? b=some o:=λb o e=>m5 b o (c_ _ e);have m3:∀b o,(xg3 s.heap k l q a c d).get? b=some o->(xg6 s.heap k l q a c d).get? b=some o:=λb o e=>m4 b o (c_ _ e)
 have m2:∀b o,(zg2 s.heap k l a c).get? b=some o->(xg6 s.heap k l q a c d).get? b=some o:=λb o e=>m3 b o (c_ _ e);have m1:∀b o,(zg1 s.heap k a).get? b=some o->(xg6 s.heap k l q a c d).get? b=some o:=λb o e=>m2 b o (c_ _ e);have g6:(xg6 s.heap k l q a c d).get? (xg5 s.heap k l q a c d).objs.size=some _:=h_ _ rfl;have g5:=m5 _ _ (h_ (xg4 s.heap k l q a c d) (o:={ cls:=.type "tuple",data:=.seq #[.none,.none,.none] }) rfl)
 have g4:=m4 _ _ (h_ (xg3 s.heap k l q a c d) (o:={ cls:=.type "tuple",data:=.seq #[.ref s.heap.objs.size,.ref (zg1 s.heap k a).objs.size,.ref (zg2 s.heap k l a c).objs.size] }) rfl);have g3:=m3 _ _ (h_ (zg2 s.heap k l a c) (o:=fi q d) rfl);have g2:=m2 _ _ (h_ (zg1 s.heap k a) (o:=fi l c) rfl);have g1:=m1 _ _ (h_ s.heap (o:=fi k a) rfl)
 show _/\_;rw [z3,z4,z5] at g6;rw [z1,z2,z3] at g4;rw [z4] at g5;rw [z1] at g2;rw [z2] at g3;rw [z5];exact⟨⟨_,g6,rfl⟩,h _ g6 g4 g5 ⟨_,g1,rfl,rfl⟩ ⟨_,g2,rfl,rfl⟩ ⟨_,g3,rfl,rfl⟩ λb o e=>m1 b o (c_ _ e)⟩
end
section
variable {X:Cx}{es:List Expr}{ct:Nat}{tp:Pos}
noncomputable def Du(K:b_)(ta:TA):TI:=λσ H R=>ta σ H λvs H1=>∃k l q a c d,vs=[.ref a,.ref c,.ref d]/\(∃xs ys zs,Sq k K H1 a xs/\Sq l K H1 c ys/\Sq q K H1 d zs)/\R (GA k l q K a c d) H1
def AO(K:b_)(e:X.K=K){a b c:Expr}{ta:TA}{p pos:Pos}(hg:Gl X "zip")(hm:X.mg "zip"=none)(ha:PA X [a,b,c] ta)
  (hs:starEach [a,b,c] X.env=[(false,eval a X.env),(false,eval b X.env),(false,eval c X.env)]:=by rfl) (hs2:starEach [b,c] X.env=[(false,eval b X.env),(false,eval c X.env)]:=by rfl) :
  PI X (.Tuple es ct tp) (.Call (.Name "zip" p) [a,b,c] [] pos) (Du K ta):=by
 subst e;intro pins s σ H R I h;refine Call_ (iI I hg hm boot_zip (Hv (thn (ha pos pins s σ H _ I h) λus s1 ⟨vs,H1,I1,r1,q1⟩=>?_) (by rw [hs,hs2]) (by rw [hs2];rfl)))
 have fin:∀b∈[s1.heap.objs.size+5,s1.heap.objs.size+3,s1.heap.objs.size+4,s1.heap.objs.size,s1.heap.objs.size+1,s1.heap.objs.size+2],qq X pins H1 b:=λb hb=>by
  have hle:s1.heap.objs.size<=b:=by
   simp only [mem_cons,not_mem_nil,or_false] at hb
   rcases hb with e|e|e|e|e|e
   .rw [e];exact Io _ _
   .rw [e];exact Io _ _
   .rw [e];exact Io _ _
   .rw [e];exact so _
   .rw [e];exact Io _ _
   .rw [e];exact Io _ _
  exact I1.fpOk hle (I1.hok.fresh hle)
 obtain⟨k,l,q',a,c,d,e,⟨xs,ys,zs,q1,q2,q3⟩,q⟩:=q1;subst e
 cases r1 with
 | cons r rr =>
  cases rr with
  | cons r' rr =>
   cases rr with
   | cons r'' rr =>
    cases rr;cases r;cases r';cases r'';obtain⟨its,rv,p,_⟩:=I1.row q1;obtain⟨jts,rv',p',_⟩:=I1.row q2;obtain⟨mts,rv'',p'',_⟩:=I1.row q3;refine yq p p' p'' λh' g1 g2 g3 g4 g5 g6 kk=>JQ g1 ?_;have I2:Inv X pins σ H1 { s1 with heap:=h',toks:=s1.toks }:=I1.kept kk
    exact⟨s1.heap.objs.size+5,[s1.heap.objs.size+5,s1.heap.objs.size+3,s1.heap.objs.size+4,s1.heap.objs.size,s1.heap.objs.size+1,s1.heap.objs.size+2],_,_,H1,rfl,I2,wK (i:=s1.heap.objs.size) (j:=s1.heap.objs.size+1) (m:=s1.heap.objs.size+2)
     (Fz _),⟨g1,g2,⟨_,_,_,g3⟩,g4,g5,g6⟩,fin,q⟩
noncomputable def Dv(pa:PTA):PTI:=λρ Q=>pa ρ λas ρ1=>match as with
 | [.v a,.v b,.v c]=>(match rowD a,rowD b,rowD c with
  | some xs,some ys,some zs=>(xs.length<=ys.length/\xs.length<=zs.length)/\Q xs.length (λk=>.tup [itD xs k,itD ys k,itD zs k]) ρ1
  | _,_,_=>False)
 | _=>False
end
section
variable {K:b_}{ta:TA}{pa:PTA}
def AQ(h:LAs K ta pa):LI K (Du K ta) (Dv pa):=λA ρ σ H Q Q' R q k=>h A ρ σ H _ _ R q λvs H1 as ρ1 q1 f1 R1 o1=>by
 split at q1
 .rename_i da db dc
  cases o1 with
  | cons o1 o2 =>
   cases o2 with
   | cons o2 o3 =>
    cases o3 with
    | cons o3 o4 =>
     cases o4
     split at q1
     .rename_i xs ys zs ex ey ez;obtain⟨⟨le1,le2⟩,q1⟩:=q1;obtain⟨b1,a1,us,rfl,l1,w1⟩:=FV.rowD (show FV K _ H1 _ da from o1) ex;obtain⟨b2,a2,ws,rfl,l2,w2⟩:=FV.rowD (show FV K _ H1 _ db from o2) ey;obtain⟨b3,a3,ts,rfl,l3,w3⟩:=FV.rowD (show FV K _ H1 _ dc from o3) ez;have t1:=w1 _ H1 (λb o n h=>⟨n,h⟩);have t2:=w2 _ H1 (λb o n h=>⟨n,h⟩);have t3:=w3 _ H1 (λb o n h=>⟨n,h⟩);refine⟨b1,b2,b3,a1,a2,a3,rfl,⟨us,ws,ts,t1.1,t2.1,t3.1⟩,k _ H1 _ _ ρ1 q1 f1 R1 λO' H' kk dom=>?_⟩
      obtain⟨s1,g1⟩:=w1 O' H' kk;obtain⟨s2,g2⟩:=w2 O' H' kk;obtain⟨s3,g3⟩:=w3 O' H' kk;refine⟨λj hj=>?_,⟨us,s1,by omega⟩⟩;have h1:j<us.length:=by omega
      have h2:j<ws.length:=by omega
      have h3:j<ts.length:=by omega
      refine⟨⟨us,ws,ts,_,_,_,s1,s2,s3,gV h1,gV h2,gV h3⟩,λx H'' ⟨T,u,w,v,hT,e,y1,y2,y3,e2⟩=>?_⟩;subst e e2;obtain⟨d1,hd1,fd1⟩:=g1.get (y1 us s1);obtain⟨d2,hd2,fd2⟩:=g2.get (y2 ws s2);obtain⟨d3,hd3,fd3⟩:=g3.get (y3 ts s3);rw [fS hd1,fS hd2,fS hd3];have kk2:aF O' H' O' (upd H' T (.tup [u,w,v])):=λb o n e=>⟨n,by rw [ar (aH e hT)];exact e⟩
      exact⟨Gr.new hT,.tup (λz=>dom T z hT) aB (.cons (fd1.keeps kk2) (.cons (fd2.keeps kk2) (.cons (fd3.keeps kk2) .nil)))⟩
     .exact q1.elim
 .exact q1.elim
end
noncomputable def gn(K:b_)(x:Str)(st:Stmt):Prop:=∃(f:Addr) (oc kV dc pm cd ct:Value) (od an:Option Addr) (sl:Array (Option Value)),v_ K mainGlobals x=some (some (.ref f)) /\
 K.lookup f=some ⟨oc,od,.func (Hb x x (bC st) (aS st) (ag st) .none kV dc pm an cd ct),sl⟩/\HF K cd x=true/\u_ K (.ref f)=true
def Dw{K:b_}{x:Str}{st:Stmt}{f:Addr}{oc kV dc pm cd ct:Value}{od an:Option Addr}{sl:Array (Option Value)}(a:v_ K mainGlobals x=some (some (.ref f)))(l:K.lookup f=some ⟨oc,od,.func (Hb x x (bC st) (aS st) (ag st) .none kV dc pm an cd ct),sl⟩)
  (c:HF K cd x=true) (k:u_ K (.ref f)=true):gn K x st:=⟨f,oc,kV,dc,pm,cd,ct,od,an,sl,a,l,c,k⟩
def bo{K:b_}{h:Heap}{mg:Str->Option Value}{x:Str}{st:Stmt}(q:gn K x st)(X:K.In h)(G:h.Ns mainGlobals mg):bh K mg x st:=by
 obtain⟨f,oc,kV,dc,pm,cd,ct,od,an,sl,a,l,c,k⟩:=q;exact .mk' X G a l c k
section
variable {X:Cx}{K:b_}
noncomputable def Dx(K:b_)(te ts:TE):TE:=λσ H Q=>te σ H λx H1=>ts σ H1 λy H2=>y=.int (-1)/\((∃l,x=.str (S l)/\l.length<=sizeLine/\Q (.str (S l.reverse)) H2)\/∃a xs,x=.ref a/\SqL K H2 a xs/\∀p,H2 p=none->Q (.ref p) (upd H2 p (.lst xs.reverse)))
def wM(K:b_)(e0:X.K=K){e st:Expr}{te:TE}{ts:TE}{p2 pos:Pos}(he:PE X e te)(hst:PE X st ts) :
  PE X (.Subscript e (.Slice none none (some st) p2) pos) (Dx K te ts):=by
 subst e0;intro pins s σ H Q I h;refine Subscript_ (thn (he pins s σ H _ I h) λv s1 ⟨x,H1,I1,r1,q1⟩=>?_);refine wpAny_Slice ?_;rw [evalPart_none];refine e_ (e_ ?_);rw [evalPart_some];refine thn (hst pins s1 σ H1 _ I1 q1) λvs s2 ⟨y,H2,I2,r2,q2⟩=>?_;obtain⟨rfl,q2⟩:=q2;obtain⟨t',rfl⟩:=r2;have I3:Inv X pins σ H2 { s2 with heap:=s2.heap.push { cls:=.type "slice",data:=.fields #[.none,.none,.int (-1) t'] } }:=I2.kept (t':=s2.toks) λb ob q=>c_ _ q
 rcases q2 with ⟨l,rfl,hz,q⟩|⟨a,xs,rfl,hx,q⟩
 .obtain⟨t,rfl⟩:=r1;have hm:∀t2 k,EP X pins σ Q (.str (Txt.sliceBy (S l) none none (-1,t')) t2) { { s2 with heap:=s2.heap.push { cls:=.type "slice",data:=.fields #[.none,.none,.int (-1) t'] } } with toks:=k }:=λt2 k=>⟨.str (S l.reverse),H2,I3.tok _,⟨t2,by rw [EA]⟩,q⟩
  refine tail_any (ops:=[.ref s2.heap.objs.size,.str (S l) t]) (typeIs_str _ _ t) slot_str_getitem.lookup (wpAny_getItem_str_slice (l:=none) (u:=none) (st:=some (-1,t')) ⟨_,h_ _ rfl,rfl,rfl⟩ rfl ?_) (by with_unfolding_all rfl);exact post_val_or_str ⟨E_ (Txt.sliceBy_le _ _ _ (-1,t') (by show (-1:Int)≠0;decide)) (by rw [dC];exact hz),hm⟩
 .cases r1;obtain⟨its,r,ht,hz⟩:=I3.list hx;have hlen:=r.length;refine tail_any (ops:=[.ref a,.ref s2.heap.objs.size]) ht.isList.typeIs KD.lookup (wpAny_getItem_list_slice ht.isList ⟨_,h_ _ rfl,rfl,rfl⟩ .none .none (st:=some (-1)) (.int _ _) (by simp) ?_ (by rw [x_] <;> omega)) (by first|with_unfolding_all rfl|rfl);rw [PySem.W.krv_pick];refine⟨.ref _,_,I3.laid (t':=s2.toks) (o:=.lst xs.reverse) (λb ob q=>c_ _ q) (so _) ?_,rfl,q _ (I3.hok.fresh (so _))⟩
  exact⟨by rw [length_reverse];exact hz,_,0,r.reverse,h_ _ rfl⟩
end
section
variable {K:b_}{ta tb:TE}{pa:PA1}{pe:PTE}
noncomputable def FA(pa:PA1)(pe:PTE):PTE:=λρ Q=>pa ρ λx ρ1=>pe ρ1 λp ρ2=>match cont ρ2 x,p with
 | some (.str l),.dat (.int (-1))=>Q (.dat (.str l.reverse)) ρ2
 | some (.lst ds),.dat (.int (-1))=>Q (.own ds.reverse) ρ2
 | _,_=>False
def wN(ha:LA1 K ta pa)(hb:LE K tb pe):LE K (Dx K ta tb) (FA pa pe):=λA ρ σ H Q Q' R q k =>
 ha A ρ σ H _ _ R q λv H1 a ρ1 q1 f1 R1 o1=>hb A ρ1 σ H1 _ _ R1 q1 λw H2 p ρ2 q2 f2 o2=>by
  split at q2
  .rename_i l e1;obtain⟨R2,fw⟩:=o2;cases fw;have fx:=R2.cont (o1.keeps f2.keeps) e1;exact⟨rfl,.inl ⟨l,fx.str.1,sz _ fx.str.2,k _ H2 _ ρ2 q2 (f1.trans f2) ⟨R2,.str _ (by rw [length_reverse];exact fx.str.2)⟩⟩⟩
  .rename_i ds e1;obtain⟨R2,fw⟩:=o2;cases fw;obtain⟨a,xs,rfl,e2,f3⟩:=(R2.cont (o1.keeps f2.keeps) e1).lst;exact⟨rfl,.inr ⟨a,xs,rfl,SqL.of e2,λp hp=>k _ _ _ ρ2 q2 ((f1.trans f2).trans (Gr.new hp).fr) (((eh hp f3.reverse).out R2 (Gr.new hp)).h0 λb z=>f2.dm b (f1.dm b z))⟩⟩
  .exact q2.elim
end
section
variable {K:b_}{c:FX}{C x dx:Addr}{H:Hp}{E:XK}{vs:List V}
def qS{X:Cx}{st:List Stmt}:PSs X st uw:=λ_ _ _ _ _ _ h=>h.elim
end
section
open PySem.AutoSeq1 (wpAny_loadPart')
open PySem.MeetsSeq PySem.MeetsSeq2 PySem.MeetsSeq3
variable {P:r_}{w:World}{A:w_}
end
section
variable {K:b_}{A:Addr->Prop}{ρ:PSt}{σ:St}{H H':Hp}{O O':Addr->Prop}
inductive Cp (K:b_) (O:Addr->Prop) (H0 H:Hp):List Addr->List (List D)->Prop
 | nil:Cp K O H0 H [] []
 | cons {a:Addr}{xs:List V}{r:List D}{as:List Addr}{rows:List (List D)}:H a=some (.lst xs)->FVs K O H0 xs r->Cp K O H0 H as rows->Cp K O H0 H (a::as) (r::rows)
theorem Cp.length{H0:Hp}:∀{as:List Addr}{rows:List (List D)},Cp K O H0 H as rows->as.length=rows.length
 | _,_,.nil=>rfl
 | _,_,.cons _ _ t=>by rw [length_cons,length_cons,t.length]
theorem Cp.get{H0:Hp}:∀{as:List Addr}{rows:List (List D)}{n:Nat}{r:List D},Cp K O H0 H as rows->rows[n]?=some r->∃a xs,as[n]?=some a/\H a=some (.lst xs)/\FVs K O H0 xs r
 | _,_,n,_,.nil,e=>by simp at e
 | _,_,0,_,.cons p q t,e=>by simp at e;subst e;exact⟨_,_,rfl,p,q⟩
 | _,_,n+1,r,.cons p q t,e=>by
  obtain⟨a,xs,h1,h2,h3⟩:=Cp.get (n:=n) (r:=r) t (by simpa using e);exact⟨a,xs,by simpa using h1,h2,h3⟩
theorem Cp.dom{H0:Hp}:∀{as:List Addr}{rows:List (List D)},Cp K O H0 H as rows->∀a∈as,∃o,H a=some o
 | _,_,.nil,_,h=>nomatch h
 | _,_,.cons p q t,a,h=>by
  rcases mem_cons.mp h with rfl|h
  .exact⟨_,p⟩
  .exact t.dom a h
theorem Cp.fvs{H0:Hp}(g:Gr H0 H)(ho:∀b,O' b->O b\/H0 b=none):∀{as:List Addr}{rows:List (List D)},(∀a∈as,¬ O' a)->Cp K O H0 H as rows->FVs K O' H (as.map V.ref) (rows.map D.lst)
 | _,_,_,.nil=>.nil
 | _,_,k,.cons p q t=>.cons (.lst (k _ mem_cons_self) p (q.keeps λb o n e=>⟨λz=>(ho b z).elim n (λz=>by rw [z] at e;cases e),g b o e⟩)) (t.fvs g ho λa ha=>k a (p_ _ ha))
def FV.sq{v:V}{d:D}{ds:List D}(h:FV K O H v d)(s:iX d ds):∃(k:Bool) (a:Addr) (xs:List V),v=.ref a/\H a=some (if k then .tup xs else .lst xs)/\FVs K O H xs ds:=by
 rcases s with rfl|rfl
 .cases h with
  | lst n e f=>exact⟨false,_,_,rfl,e,f⟩
 .cases h with
  | tup n e f=>exact⟨true,_,_,rfl,e,f⟩
structure Opn (K:b_) (A:Addr->Prop) (ρ:PSt) (σ:St) (H:Hp) (D:Addr) (as:List Addr) (H1:Hp) (rows:List (List L2.D)):Prop where
 gr:Gr H H1
 hD:H D=none
 nd:as.Nodup
 fr:∀a∈as,H a=none/\a≠D
 eD:H1 D=some (.lst (as.map V.ref))
 cp:Cp K (OO A ρ σ) H H1 as rows
end
def yr{P:r_}{w:World}{A:w_}{z:d_}{l:Addr}{xs:Array (Int×Tok)}{Q:Value->d_->Prop}{E:Value->d_->Prop}(hh:A.handled=none)(hl:z.heap.IsTuple l (intItems xs))
  (h:∀h' tk t',(∀b o,z.heap.get? b=some o->h'.get? b=some o)->Q (.int (preSum (numAt xs) xs.size) t') { z with heap:=h',toks:=tk }):wpAny (model P w) A (call (.builtin "sum") [.ref l]) Q E z:=by
 have hlt:l<z.heap.objs.size:=by obtain⟨_,e,_⟩:=hl;exact l_ e
 refine call_sum_walkG (Ky hl ?_)
 refine⟨z.heap.objs.size,[z.heap.objs.size,l],[z.heap.objs.size],_,_,_,numAt xs,rfl,Walks.tuple (A:=A.in1) hh _ l (Hi hlt) (intItems xs),⟨⟨_,h_ _ rfl,rfl,rfl⟩,hl.push _⟩,λb hb=>?_,(λ_ _=>intItems_at),λh' tk t' hk=>?_⟩
 .show b<(z.heap.push _).objs.size;rw [Hc]
  rcases mem_cons.mp hb with e|hb
  .rw [e];exact Kf _
  .rw [y_.mp hb];exact JV hlt
 .have:=h h' tk t' λb o e=>hk b o (λm=>by have y:=l_ e;rw [y_.mp m] at y;exact absurd y (HA _)) (c_ _ e);simpa [intItems] using this
section
variable {X:Cx}{K:b_}
def wO(hc:X.calm=true):bj X (.builtin "sum") (λxs H Q=>∃(p:Addr) (ns:List Int),xs=[.ref p]/\SqT X.K H p (ns.map V.int)/\Q (.int ns.sum) H):=by
 intro pins s σ H xs us Q I r h;obtain⟨p,ns,rfl,hS,q⟩:=h;obtain⟨u,rfl,ru⟩:=gK r;cases (show u=k_ p from ru);obtain⟨its,rv,pl,hz⟩:=I.tuple hS;have hi:=je rv;have hl:s.heap.IsTuple p its.toArray:=pl;obtain⟨ys,e⟩:=hi.allInts.items;have hns:ns=ys.toList.map (·.1):=by rw [<- hi.numsOf,<- nums_intItems,<- e]
 rw [e] at hl;refine yr (by exact I.ok.hd hc) hl λh' tk t' hk=>⟨.int ns.sum,H,I.kept (t':=tk) hk,⟨t',?_⟩,q⟩
 have hlen:ys.size=ns.length:=by rw [hns,length_map,HI]
 have hnum:numAt ys=λi=>ns.getD i 0:=by
  funext i;rw [numAt_eq,hns]
 rw [hnum,hlen,jk ns ns.length (so _),KE]
noncomputable def Dy(K:b_):List V->Hp->VK->Prop:=λxs H Q=>∃(p:Addr) (ns:List Int),xs=[.ref p]/\(SqL K H p (ns.map V.int)\/SqT K H p (ns.map V.int))/\Q (.int ns.sum) H
def sI(K:b_)(e:X.K=K)(hc:X.calm=true):bj X (.builtin "sum") (Dy K):=by
 subst e;intro pins s σ H xs us Q I r ⟨p,ns,e,h,q⟩
 rcases h with h|h
 .exact pI hc pins s σ H xs us Q I r ⟨p,ns,e,h,q⟩
 .exact wO hc pins s σ H xs us Q I r ⟨p,ns,e,h,q⟩
noncomputable def Dz:FN
 | [.lst ds],Q=>∃ns:List Int,ds=ns.map .int/\Q (.dat (.int ns.sum))
 | [.tup ds],Q=>∃ns:List Int,ds=ns.map .int/\Q (.dat (.int ns.sum))
 | _,_=>False
def n9:LC K (Dy K) Dz:=by
 intro O H xs as Q Q' dom fs q k;unfold Dz at q
 split at q
 .obtain⟨ns,rfl,q⟩:=q
  cases fs with
  | cons a b =>
   cases b;obtain⟨p,ys,rfl,e1,f1⟩:=a.lst;exact⟨p,ns,rfl,.inl (SqL.of (by rw [e1,f1.ints])),k _ H _ q (Gr.refl _) (.int _)⟩
 .obtain⟨ns,rfl,q⟩:=q
  cases fs with
  | cons a b =>
   cases b;obtain⟨p,ys,rfl,n1,e1,f1⟩:=a.tup;exact⟨p,ns,rfl,.inr (SqT.of (by rw [e1,f1.ints])),k _ H _ q (Gr.refl _) (.int _)⟩
 .exact q.elim
end
noncomputable def apart(A:Addr->Prop)(Da:Addr)(as:List Addr):Addr->Prop:=λb=>A b\/b=Da\/b∈as
section
variable {K:b_}{A O O':Addr->Prop}{fx:List (Nat×V)}{R:Addr->Prop}{H0 H0' H H':Hp}{ρ ρ':PSt}{σ:St}{x:Nat}{Da:Addr}{as:List Addr}{rows:List (List D)}
theorem Cp.mv:∀{as:List Addr}{rows:List (List D)},(∀a∈as,∀o,H a=some o->H' a=some o)->aF O H0 O' H0'->Cp K O H0 H as rows->Cp K O' H0' H' as rows
 | _,_,_,_,.nil=>.nil
 | _,_,k,kk,.cons p q t=>.cons (k _ mem_cons_self _ p) (q.keeps kk) (t.mv (λa ha=>k a (p_ _ ha)) kk)
structure Opd (K:b_) (A R:Addr->Prop) (H0:Hp) (ρ:PSt) (σ:St) (H:Hp) (x:Nat) (Da:Addr) (as:List Addr) (rows:List (List D)):Prop where
 sx:σ[x]?=some (some (.ref Da))
 nA:∀a,a=Da\/a∈as->¬ A a
 h0:∀a,a=Da\/a∈as->R a\/H0 a=none
 nd:as.Nodup
 ne:Da∉as
 eD:H Da=some (.lst (as.map V.ref))
 cp:Cp K (OO (apart A Da as) ρ σ) H H as rows
def Opd.keep{σ':St}(o:Opd K A R H0 ρ σ H x Da as rows)(hs:σ'[x]?=some (some (.ref Da)))(kk:aF (OO (apart A Da as) ρ σ) H (OO (apart A Da as) ρ' σ') H')(kp:∀a,a=Da\/a∈as->∀u,H a=some u->H' a=some u):Opd K A R H0 ρ' σ' H' x Da as rows :=
 ⟨hs,o.nA,o.h0,o.nd,o.ne,kp _ (.inl rfl) _ o.eD,o.cp.mv (λa ha u e=>kp a (.inr ha) u e) kk⟩
def Opd.fr(o:Opd K A R H0 ρ σ H x Da as rows)(r:Rel K (apart A Da as) ρ σ H)(f:Fr ρ σ H ρ' H'):Opd K A R H0 ρ' σ H' x Da as rows :=
 o.keep o.sx f.keeps λa ha u e=>f.kp a u (r.sep a (.inr ha)) e
noncomputable def cl(x:Nat)(ρ:PSt):Option (List (List D))->PSt
 | none=>ρ
 | some rows=>ρ.set x (some (.own (rows.map D.lst)))
def wP(x:Nat)(ρ:PSt):cl x ρ none=ρ:=rfl
def wQ(x:Nat)(ρ:PSt)(rows:List (List D)):cl x ρ (some rows)=ρ.set x (some (.own (rows.map D.lst))):=rfl
noncomputable def InO(K:b_)(x:Nat)(fx:List (Nat×V))(A R:Addr->Prop)(H0:Hp)(ρ:PSt)(σ:St)(H:Hp):Option (List (List D))->Prop
 | none=>Rel K A ρ σ H/\cg fx R H0 ρ σ H
 | some rows=>∃Da as,Rel K (apart A Da as) ρ σ H/\cg fx R H0 ρ σ H/\Opd K A R H0 ρ σ H x Da as rows
theorem sJ{α:Type}:∀{l:List α}{i:Nat}{v:α},l[i]?=some v->l.set i v=l
 | [],_,_,e=>by simp at e
 | a::l,0,v,e=>by simp at e;rw [e];rfl
 | a::l,i+1,v,e=>by rw [set_cons_succ,sJ (by simpa using e)]
def InO.cl{m:Option (List (List D))}(h:InO K x fx A R H0 ρ σ H m):Rel K A (L2.cl x ρ m) σ H/\cg fx R H0 (L2.cl x ρ m) σ H:=by
 cases m with
 | none=>exact h
 | some rows =>
  obtain⟨Da,as,r,F,o⟩:=h;have r1:Rel K (cJ A Da) ρ σ H:=r.less λb z=>z.imp id .inl
  have out:Out K A ρ σ (λ_=>none) H (.own (rows.map D.lst)) (.ref Da):=by
   refine⟨Da,as.map V.ref,rfl,o.nA _ (.inl rfl),rfl,o.eD,r1,o.cp.fvs (Gr.refl H) (λb z=>.inl ?_) λa ha z=>?_⟩
   .rcases z with (z|z)|z
    .exact .inl (.inl z)
    .exact .inl (.inr (.inl z))
    .exact .inr z
   .rcases z with (z|z)|z
    .exact o.nA a (.inr ha) z
    .exact o.ne (by rw [<- z];exact ha)
    .exact r.sep a (.inr (.inr ha)) z
  have pt:=(out.put (i:=x)).1;rw [sJ o.sx] at pt;refine⟨pt,F.kp,F.dm,λb w=>?_,F.fx⟩;obtain⟨j,p,e,ow,s⟩:=w
  by_cases z:x=j
  .subst z;rw [o.sx] at s;cases s;exact o.h0 _ (.inl rfl)
  .have e:(ρ.set x (some (.own (rows.map D.lst))))[j]?=some (some p):=e;rw [g_ z] at e;exact F.ow b ⟨j,p,e,ow,s⟩
def Rel.grB(r:Rel K A ρ σ H)(g:Gr H H'){B:Addr->Prop}(hB:∀b,B b->H b=none/\H' b≠none):Rel K (λb=>A b\/B b) ρ σ H':=by
 have k:aF (OO A ρ σ) H (OO (λb=>A b\/B b) ρ σ) H':=λb u n e=>by
  refine⟨λz=>?_,g _ _ e⟩
  rcases z with (z|z)|z
  .exact n (.inl z)
  .rw [(hB b z).1] at e;cases e
  .exact n (.inr z)
 refine⟨r.len,λi q e=>?_,r.dj,λb z=>?_,λb z w=>?_⟩
 .obtain⟨v,s,rr⟩:=r.get i q e;refine⟨v,s,rr.keeps k λow a ea=>?_⟩;obtain⟨a',u,e1,e2⟩:=rr.ref ow;rw [ea] at e1;cases e1;rw [e2];exact g _ _ e2
 .rcases z with z|z
  .exact (g.fr (ρ:=ρ) (σ:=σ)).dm b (r.dom b z)
  .exact (hB b z).2
 .rcases z with z|z
  .exact r.sep b z w
  .exact r.wr w (hB b z).1
def et{i j:Nat}{p:PV}(e:(ρ.set i none)[j]?=some (some p)):j≠i/\ρ[j]?=some (some p):=by
 by_cases z:i=j
 .subst z
  by_cases h:i<ρ.length
  .rw [m_ h] at e;cases e
  .rw [G_ (by rw [Hn];omega)] at e;cases e
 .rw [g_ z] at e;exact⟨λq=>z q.symm,e⟩
def sK{v:Option V}{b:Addr}(w:Wr (ρ.set x none) (σ.set x v) b):Wr ρ σ b:=by
 obtain⟨j,p,e,o,s⟩:=w;obtain⟨n,e⟩:=et e;rw [g_ (HR n)] at s;exact⟨j,p,e,o,s⟩
def Rel.clr{v:Option V}(r:Rel K A ρ σ H):Rel K A (ρ.set x none) (σ.set x v) H:=by
 have k:aF (OO A ρ σ) H (OO A (ρ.set x none) (σ.set x v)) H:=aF.less λb z=>z.imp id sK
 refine⟨by rw [Hn,Hn];exact r.len,λj p e=>?_,λi j p q u e1 e2 o1 o2 s1 s2=>?_,r.dom,λb z w=>r.sep b z (sK w)⟩
 .obtain⟨n,e⟩:=et e;obtain⟨u,s,rr⟩:=r.get j p e;exact⟨u,by rw [g_ (HR n)];exact s,rr.keeps k λ_ _ _=>rfl⟩
 .obtain⟨n1,e1⟩:=et e1;obtain⟨n2,e2⟩:=et e2;rw [g_ (HR n1)] at s1;rw [g_ (HR n2)] at s2;exact r.dj i j p q u e1 e2 o1 o2 s1 s2
def Opn.opd{H1:Hp}(o:Opn K A ρ σ H Da as H1 rows)(r:Rel K A ρ σ H)(F:cg fx R H0 ρ σ H)(hx:x<σ.length):Rel K (apart A Da as) (ρ.set x none) (σ.set x (some (.ref Da))) H1/\Opd K A R H0 (ρ.set x none) (σ.set x (some (.ref Da))) H1 x Da as rows:=by
 have nn:∀a,a=Da\/a∈as->H a=none:=λa z=>z.elim (λz=>by rw [z];exact o.hD) λz=>(o.fr a z).1
 have r1:Rel K (apart A Da as) ρ σ H1:=r.grB o.gr (B:=λb=>b=Da\/b∈as) λb z=>⟨nn b z,by
  rcases z with z|z
  .rw [z,o.eD];exact nofun
  .obtain⟨u,e⟩:=o.cp.dom b z;rw [e];exact nofun⟩
 refine⟨r1.clr,m_ hx,λa z w=>r.dom a w (nn a z),λa z=>.inr ?_,o.nd,λz=>(o.fr _ z).2 rfl,o.eD,o.cp.mv (λ_ _ _ e=>e) λb u n e=>⟨λz=>?_,o.gr b u e⟩⟩
 .cases e:H0 a with
  | none=>rfl
  | some u=>exact absurd (nn a z) (F.dm a (by rw [e];exact nofun))
 .rcases z with z|z
  .rcases z with z|z
   .exact n (.inl z)
   .rw [nn b z] at e;cases e
  .exact n (.inr (sK z))
end
structure PEO where
 nx:PSt->Option (List (List D))->Prop
 rt:PV->PSt->Prop
abbrev POT:=PEO->PSt->Option (List (List D))->Prop
noncomputable def LSO(K:b_)(fs:List Nat)(x:Nat)(ts:TS)(po:POT):Prop:=∀(fx:List (Nat×V)) (A R:Addr->Prop) (H0:Hp) (ρ:PSt) (σ:St) (H:Hp) (m:Option (List (List D))) (D:PEO) (D':ur),fx.map Hh=fs->InO K x fx A R H0 ρ σ H m->po D ρ m ->
 (∀ρ' σ' H' m',D.nx ρ' m'->InO K x fx A R H0 ρ' σ' H' m'->D'.nx σ' H') ->
 (∀v p ρ' σ' H',D.rt p ρ'->Out K A ρ' σ' H0 H' p v->cg fx R H0 ρ' σ' H'->D'.rt v H')->ts D' σ H
noncomputable def G6(x:Nat)(p:PTS):POT:=λD ρ m=>p ⟨λρ'=>D.nx ρ' none,D.rt,λ_=>False,λ_=>False⟩ (cl x ρ m)
section
variable {K:b_}{fs:List Nat}{x:Nat}{ta tb ts:TS}{pa pb:POT}{tt:TT}{pt:PTT}{p:PTS}{te ti tj:TE}{pe pi pj:PTE}
def DA(h:LS K fs ts p):LSO K fs x ts (G6 x p):=λfx A R H0 ρ σ H m D D' hf r q k1 k2 =>
 h fx A R H0 _ σ H _ D' hf r.cl.1 r.cl.2 q (λρ' σ' H' q' r' F'=>k1 ρ' σ' H' none q' ⟨r',F'⟩) k2 (λ_ _ _ z=>(z:False).elim) (λ_ _ _ z=>(z:False).elim)
noncomputable def LOp(K:b_)(te:TE)(po:PSt->(List (List D)->Prop)->Prop):Prop:=∀(A:Addr->Prop) (ρ:PSt) (σ:St) (H:Hp) (Q:List (List D)->Prop) (Q':VK),Rel K A ρ σ H->po ρ Q->(∀Da as H1 rows,Q rows->Opn K A ρ σ H Da as H1 rows->Q' (.ref Da) H1)->te σ H Q'
noncomputable def FC(x:Nat)(op:PSt->(List (List D)->Prop)->Prop)(po:POT):PTS:=λD ρ=>x<ρ.length/\op ρ λrows=>po ⟨λρ' m=>D.nx (cl x ρ' m),D.rt⟩ (ρ.set x none) (some rows)
def DB{op:PSt->(List (List D)->Prop)->Prop}{tr:TS}{po:POT}(hx:fs.contains x=false)(h:LOp K te op)(hr:LSO K fs x tr po):LS K fs (uu (xl te (cC x)) tr) (FC x op po):=λfx A R H0 ρ σ H D D' hf r F q k1 k2 k3 k4=>by
 obtain⟨hxl,q⟩:=q;have hxs:x<σ.length:=by rw [<- r.len];exact hxl
 refine h A ρ σ H _ _ r q λDa as H1 rows q1 o=>?_;obtain⟨r1,od⟩:=o.opd r F hxs
 have F1:cg fx R H0 (ρ.set x none) (σ.set x (some (.ref Da))) H1:=by
  have F0:=F.fr (o.gr.fr (ρ:=ρ) (σ:=σ));refine⟨F0.kp,F0.dm,λb w=>F0.ow b (sK w),λp hp=>?_⟩
  have:p.1≠x:=λz=>by
   have h1:x∈fs:=by rw [<- hf,<- z];exact JK hp
   rw [Hd.mpr h1] at hx;cases hx
  rw [g_ (HR this)];exact F0.fx p hp
 exact hr fx A R H0 _ _ H1 (some rows) _ _ hf ⟨Da,as,r1,F1,od⟩ q1 (λρ' σ' H' m' q' r'=>k1 _ σ' H' q' r'.cl.1 r'.cl.2) k2
noncomputable def FD(y z:Nat):PSt->(List (List D)->Prop)->Prop:=λρ Q=>∃p q ds es,ρ[y]?=some (some p)/\ρ[z]?=some (some q)/\iX p.d ds/\iX q.d es/\Q [ds,es]
def Rel.sqAt{A:Addr->Prop}{ρ:PSt}{σ:St}{H:Hp}{y:Nat}{p:PV}{ds:List D}(r:Rel K A ρ σ H)(hy:ρ[y]?=some (some p))(sq:iX p.d ds):∃(k:Bool) (a:Addr) (xs:List V),σ[y]?=some (some (.ref a))/\H a=some (if k then .tup xs else .lst xs)/\FVs K (OO A ρ σ) H xs ds:=by
 obtain⟨v,hv,rr⟩:=r.get y p hy
 cases p with
 | dat d=>obtain⟨k,a,xs,rfl,e,f⟩:=FV.sq rr sq;exact⟨k,a,xs,hv,e,f⟩
 | own es =>
  obtain⟨a,xs,rfl,e,f⟩:=rr
  rcases sq with sq|sq
  .cases sq;exact⟨false,a,xs,hv,e,f⟩
  .cases sq
 | ins c ns es=>rcases sq with sq|sq <;> cases sq
 | odc ks es=>rcases sq with sq|sq <;> cases sq
def AR{y z:Nat}:LOp K (Eu (aW (tCB (nK K) (aW (bw y) eR)) (aW (tCB (nK K) (aW (bw z) eR)) eR))) (FD y z):=λA ρ σ H Q Q' r q k=>by
 obtain⟨p,q0,ds,es,hy,hz,sq1,sq2,q⟩:=q;obtain⟨k1,a1,xs,s1,e1,f1⟩:=r.sqAt hy sq1;obtain⟨k2,a2,ys,s2,e2,f2⟩:=r.sqAt hz sq2
 have sq:∀{k:Bool}{a:Addr}{xs:List V}{H':Hp},H' a=some (if k then .tup xs else .lst xs)->SqL K H' a xs\/SqT K H' a xs:=λ{k}{a}{xs}{H'} e=>by
  cases k with
  | false=>exact .inl (SqL.of e)
  | true=>exact .inr (SqT.of e)
 refine⟨_,s1,a1,xs,rfl,sq e1,λl1 hl1=>⟨_,s2,a2,ys,rfl,sq (by rw [ar (aH e2 hl1)];exact e2),λl2 hl2=>⟨sz _ (by show 2<=1000000;decide),λd hd=>?_⟩⟩⟩;have n21:l2≠l1:=λz=>by rw [z,aB] at hl2;cases hl2
 have h2:H l2=none:=by rw [ar n21] at hl2;exact hl2
 have nd2:d≠l2:=λz=>by rw [z,aB] at hd;cases hd
 have nd1:d≠l1:=λz=>by rw [ar nd2,z,aB] at hd;cases hd
 have hd':H d=none:=by rw [ar nd2,ar nd1] at hd;exact hd
 refine k d [l1,l2] _ [ds,es] q ⟨λb o e=>?_,hd',?_,λa ha=>?_,aB,?_⟩
 .rw [ar (aH e hd'),ar (aH e h2),ar (aH e hl1)];exact e
 .exact Jf.mpr ⟨λh=>n21 (y_.mp h).symm,Jf.mpr ⟨(λh=>nomatch h),.nil⟩⟩
 .rcases mem_cons.mp ha with rfl|ha
  .exact⟨hl1,HR nd1⟩
  .rw [y_.mp ha];exact⟨h2,HR nd2⟩
 .exact .cons (by rw [ar (HR nd1),ar (HR n21),aB]) f1 (.cons (by rw [ar (HR nd2),aB]) f2 .nil)
end
section
variable {K:b_}{A:Addr->Prop}{fx:List (Nat×V)}{R:Addr->Prop}{H0 H:Hp}{ρ:PSt}{σ:St}
noncomputable def mvd(ρ:PSt)(g r:Nat)(ds:List D):PSt:=(ρ.set r (some (.own ds))).set g none
def yZ(ρ:PSt)(g r:Nat)(ds:List D):mvd ρ g r ds=(ρ.set r (some (.own ds))).set g none:=rfl
end
noncomputable def XI(K:b_)(G:Addr)(nm:String)(C:Addr):Prop:=v_ K mainGlobals nm=some (some (.ref C))/\(∃(q:Str) (N:Addr) (bs sub:List Value) (sn:List Str) (ab:Bool) (col:Option Bool) (k0 k1 k2 k3 k5:Option Value),K.lookup C=some (excClassObj nm q C N bs (.ref G::[.type "ValueError",.type "Exception",.type "BaseException",.type "object"]) true sn sub ab col none k0 k1 k2 k3 k5 "ValueError.__new__")) /\
 f_ K (.ref C) "__getattribute__"=some (some (.builtin "BaseException.__getattribute__"))/\f_ K (.ref C) "__getattr__"=some none/\f_ K (.ref C) "__setattr__"=some (some (.builtin "object.__setattr__"))/\f_ K (.ref C) "__class__"=some (some (.builtin "object.__class__"))/\u_ K (.ref C)=true
def FE{K:b_}{G:Addr}{nm:String}{C:Addr}{q:Str}{N:Addr}{bs sub:List Value}{sn:List Str}{ab:Bool}{col:Option Bool}{k0 k1 k2 k3 k5:Option Value}(a:v_ K mainGlobals nm=some (some (.ref C)))
  (l:K.lookup C=some (excClassObj nm q C N bs (.ref G::[.type "ValueError",.type "Exception",.type "BaseException",.type "object"]) true sn sub ab col none k0 k1 k2 k3 k5 "ValueError.__new__"))
  (g:f_ K (.ref C) "__getattribute__"=some (some (.builtin "BaseException.__getattribute__"))) (h:f_ K (.ref C) "__getattr__"=some none) (s:f_ K (.ref C) "__setattr__"=some (some (.builtin "object.__setattr__"))) (c:f_ K (.ref C) "__class__"=some (some (.builtin "object.__class__"))) (k:u_ K (.ref C)=true):XI K G nm C :=
 ⟨a,⟨_,_,_,_,_,_,_,_,_,_,_,_,l⟩,g,h,s,c,k⟩
noncomputable def XJ(K:b_)(C:Addr)(qn at_:String)(st:Stmt):Prop:=∃(fx:Addr) (oc kV dc pm cd ct:Value) (od an:Option Addr) (sl:Array (Option Value)),f_ K (.ref C) "__init__"=some (some (.ref fx))/\IQ K (.ref fx)=some (.type "function")/\K.lookup fx=some ⟨oc,od,.func (Hb "__init__" qn (bC st) (aS st) (ag st) .none kV dc pm an cd ct),sl⟩/\HF K cd qn=true/\u_ K (.ref fx)=true/\f_ K (.ref C) at_=some none
def FF{K:b_}{C:Addr}{qn at_:String}{st:Stmt}{fx:Addr}{oc kV dc pm cd ct:Value}{od an:Option Addr}{sl:Array (Option Value)}(i:f_ K (.ref C) "__init__"=some (some (.ref fx)))(t:IQ K (.ref fx)=some (.type "function"))(l:K.lookup fx=some ⟨oc,od,.func (Hb "__init__" qn (bC st) (aS st) (ag st) .none kV dc pm an cd ct),sl⟩)(c:HF K cd qn=true)(k:u_ K (.ref fx)=true)(n:f_ K (.ref C) at_=some none):XJ K C qn at_ st :=
 ⟨_,_,_,_,_,_,_,_,_,_,i,t,l,c,k,n⟩
section
open PySem.AutoSeq1 (wpAny_loadPart')
open PySem.MeetsSeq PySem.MeetsSeq2 PySem.MeetsSeq3
variable {P:r_}{w:World}{A:w_}
end
def dR.m{j k:Nat}{A:w_}(r:dR k A)(h:KA j k=true):dR j A:=r.mono (JL h)
section
variable {P:r_}{w:World}{K:b_}{mg:Str->Option Value}{base:Heap}{x:Str}{st:Stmt}{N ps:List Str}{k n:Nat}
abbrev tX(x:Str)(st:Stmt)(ps:List Str):Prop:=∀(kV doc pm:Value) (an:Option Addr) (cdv ct:Value) (us:List Value),us.length=ps.length->bindArgs (Hb x x (bC st) (aS st) (ag st) .none kV doc pm an cdv ct) ⟨us,[]⟩=pure (ps.zip us)
def bh.oP{c:FN}{pp:PTS}(D:bh K mg x st)(S:aD N ps (ag st))(hb:tX x st ps)(ln:∀ds Q,c ds Q->ds.length=n)(h1:n=ps.length)(h2:KA n N.length=true)(rd:∀ds Q,c ds Q->CV pp N.length ds Q)
  (hbody:∀(f:Addr) (cdv:Value) (A:w_) (outer:List Env) (s:d_) (H:Hp) (E:XK),dR k (A.deeper (envOfC x (ag st) s.heap.objs.size f cdv))->(A.deeper (envOfC x (ag st) s.heap.objs.size f cdv)).units+64<cLine ->
   ∃t,PSs (lM CX0 P w K mg base N x (ag st) f cdv A outer s H E).nox (aS st) t/\LS K [] t pp):Cal P w K mg base (k+1) x ps (spP K c):=by
 refine D.ok S hb (λvs H Q E h=>(Fd ln h).trans h1) λf cdv A outer s H vs Q E hr h=>?_;obtain⟨t,h3,h4⟩:=hbody f cdv A outer s H E hr hr.units;exact⟨t,h3,fnP h4 (λds Q h=>E_ (Kr (ln ds Q h)) (JL h2)) rd h⟩
def bh.oR{c:FR}{pp:PTS}(D:bh K mg x st)(S:aD N ps (ag st))(hb:tX x st ps)(ln:∀p ds Q,c p ds Q->ds.length+1=n)(h1:n=ps.length)(h2:KA n N.length=true)(rd:∀p ds Q,p.isOwn=true->c p ds Q->Fe pp N.length p ds Q)
  (hbody:∀(f:Addr) (cdv:Value) (A:w_) (outer:List Env) (s:d_) (H:Hp) (E:XK),dR k (A.deeper (envOfC x (ag st) s.heap.objs.size f cdv))->(A.deeper (envOfC x (ag st) s.heap.objs.size f cdv)).units+64<cLine ->
   ∃t,PSs (lM CX0 P w K mg base N x (ag st) f cdv A outer s H E).nox (aS st) t/\LS K [0] t pp):Cal P w K mg base (k+1) x ps (spR K c):=by
 refine D.ok S hb (λvs H Q E h=>(Gv ln h).trans h1) λf cdv A outer s H vs Q E hr h=>?_;obtain⟨t,h3,h4⟩:=hbody f cdv A outer s H E hr hr.units;exact⟨t,h3,fnR h4 (λp ds Q h=>E_ (Kr (ln p ds Q h)) (JL h2)) rd h⟩
def bh.oX{c:FX}{pp:(D->Prop)->PTS}(D:bh K mg x st)(S:aD N ps (ag st))(hb:tX x st ps)(ln:∀ds Q E,c ds Q E->ds.length=n)(h1:n=ps.length)(h2:KA n N.length=true)(rd:∀ds Q E,c ds Q E->D6 pp N.length ds Q E)
  (hbody:∀(f:Addr) (cdv:Value) (A:w_) (outer:List Env) (s:d_) (H:Hp) (E:XK),dR k (A.deeper (envOfC x (ag st) s.heap.objs.size f cdv))->(A.deeper (envOfC x (ag st) s.heap.objs.size f cdv)).units+64<cLine ->
   ∃t,PSs (lM (CXe P w) P w K mg base N x (ag st) f cdv A outer s H E) (aS st) t/\∀Ec,LSX K Ec E [] t (pp Ec)):Db P w K mg base (k+1) x ps (spX K c):=by
 refine D.okE S hb (λvs H Q E h=>(G1 ln h).trans h1) λf cdv A outer s H vs Q E hr h=>?_;obtain⟨t,h3,h4⟩:=hbody f cdv A outer s H E hr hr.units;exact⟨t,h3,G2 h4 (λds Q E h=>E_ (Kr (ln ds Q E h)) (JL h2)) rd h⟩
end
noncomputable def psO{fs:List Nat}{A:b_->(Str->Option Value)->Prop}{ts:b_->(Str->Option Value)->TS}{ps:PTS}(_:∀K mg,A K mg->LS K fs (ts K mg) ps):PTS:=ps
noncomputable def psX{A:b_->(Str->Option Value)->Prop}{ts:b_->(Str->Option Value)->(D->Prop)->XK->TS}{ps:(D->Prop)->PTS}(_:∀K mg,A K mg->∀Ec E,LSX K Ec E [] (ts K mg Ec E) (ps Ec)):(D->Prop)->PTS:=ps
noncomputable def cN(p:Prop):List D->Prop|[]=>p|_=>False
noncomputable def cD(f:D->List D->Prop):List D->Prop|d::r=>f d r|_=>False
noncomputable def cS(f:List Nat->List D->Prop):List D->Prop|.str t::r=>f t r|_=>False
noncomputable def cI(f:Int->List D->Prop):List D->Prop|.int t::r=>f t r|_=>False
noncomputable def cL(f:List D->List D->Prop):List D->Prop|.lst t::r=>f t r|_=>False
noncomputable def cT(f:List D->List D->Prop):List D->Prop|.tup t::r=>f t r|_=>False
noncomputable def cR(f:List Int->List D->Prop):List D->Prop|.scr t::r=>f t r|_=>False
noncomputable def cO(f:Str->List Str->List D->List D->Prop):List D->Prop|.obj c ns fs::r=>f c ns fs r|_=>False
noncomputable def oL(f:List D->Prop):PV->Prop|.own ds=>f ds|_=>False
def FG{α:Type}{l:List α}(h:l.length=1):∃a,l=[a]:=match l,h with|[a],_=>⟨a,rfl⟩
def DC{α:Type}{l:List α}(h:l.length=2):∃a b,l=[a,b]:=match l,h with|[a,b],_=>⟨a,b,rfl⟩
def FH{α:Type}{l:List α}(h:l.length=3):∃a b c,l=[a,b,c]:=match l,h with|[a,b,c],_=>⟨a,b,c,rfl⟩
noncomputable def oI(c:Str)(f:Prop):PV->Prop|.ins c' ns ds=>c'=c/\ns=[]/\ds=[]/\f|_=>False
section
variable {P:List D->Prop}{ds:List D}
@[elab_as_elim] theorem eA {p:Prop} (h:cN p ds) (k:p->P []):P ds:=match ds,h with|[],h=>k h
@[elab_as_elim] theorem um {f:D->List D->Prop} (h:cD f ds) (k:∀d r,f d r->P (d::r)):P ds:=match ds,h with|d::r,h=>k d r h
@[elab_as_elim] theorem xg {f:List Nat->List D->Prop} (h:cS f ds) (k:∀t r,f t r->P (.str t::r)):P ds:=match ds,h with|.str t::r,h=>k t r h
@[elab_as_elim] theorem gM {f:Int->List D->Prop} (h:cI f ds) (k:∀t r,f t r->P (.int t::r)):P ds:=match ds,h with|.int t::r,h=>k t r h
@[elab_as_elim] theorem yt {f:List D->List D->Prop} (h:cL f ds) (k:∀t r,f t r->P (.lst t::r)):P ds:=match ds,h with|.lst t::r,h=>k t r h
@[elab_as_elim] theorem DD {f:List D->List D->Prop} (h:cT f ds) (k:∀t r,f t r->P (.tup t::r)):P ds:=match ds,h with|.tup t::r,h=>k t r h
@[elab_as_elim] theorem G7 {f:List Int->List D->Prop} (h:cR f ds) (k:∀t r,f t r->P (.scr t::r)):P ds:=match ds,h with|.scr t::r,h=>k t r h
@[elab_as_elim] theorem D9 {f:Str->List Str->List D->List D->Prop} (h:cO f ds) (k:∀c ns fs r,f c ns fs r->P (.obj c ns fs::r)):P ds:=match ds,h with|.obj c ns fs::r,h=>k c ns fs r h
@[elab_as_elim] theorem y0 {P:PV->Prop}{p:PV}{f:List D->Prop} (h:oL f p) (k:∀es,f es->P (.own es)):P p:=match p,h with|.own es,h=>k es h
@[elab_as_elim] theorem G8 {P:PV->Prop}{p:PV}{c:Str}{f:Prop} (h:oI c f p) (k:f->P (.ins c [] [])):P p:=match p,h with|.ins _ _ _,⟨e1,e2,e3,hf⟩=>by subst e1 e2 e3;exact k hf
end
abbrev PRl(c:FN)(pp:PTS)(m n:Nat):Prop:=∀ds Q,c ds Q->ds.length=n/\CV pp m ds Q
abbrev RRl(c:FR)(pp:PTS)(m n:Nat):Prop:=∀p ds Q,c p ds Q->ds.length+1=n/\Fe pp m p ds Q
abbrev XRl(c:FX)(pp:(D->Prop)->PTS)(m n:Nat):Prop:=∀ds Q E,c ds Q E->ds.length=n/\D6 pp m ds Q E
section
variable {P:r_}{w:World}{K:b_}{mg:Str->Option Value}{base:Heap}{x:Str}{st:Stmt}{N ps:List Str}{k n:Nat}
def bh.oP2{c:FN}{pp:PTS}(D:bh K mg x st)(S:aD N ps (ag st))(hb:tX x st ps)(rl:PRl c pp N.length n)(h1:n=ps.length)(h2:KA n N.length=true)
  (hbody:∀(f:Addr) (cdv:Value) (A:w_) (outer:List Env) (s:d_) (H:Hp) (E:XK),dR k (A.deeper (envOfC x (ag st) s.heap.objs.size f cdv))->(A.deeper (envOfC x (ag st) s.heap.objs.size f cdv)).units+64<cLine ->
   ∃t,PSs (lM CX0 P w K mg base N x (ag st) f cdv A outer s H E).nox (aS st) t/\LS K [] t pp):Cal P w K mg base (k+1) x ps (spP K c):=D.oP S hb (λds Q h=>(rl ds Q h).1) h1 h2 (λds Q h=>(rl ds Q h).2) hbody
def bh.oR2{c:FR}{pp:PTS}(D:bh K mg x st)(S:aD N ps (ag st))(hb:tX x st ps)(rl:RRl c pp N.length n)(h1:n=ps.length)(h2:KA n N.length=true)
  (hbody:∀(f:Addr) (cdv:Value) (A:w_) (outer:List Env) (s:d_) (H:Hp) (E:XK),dR k (A.deeper (envOfC x (ag st) s.heap.objs.size f cdv))->(A.deeper (envOfC x (ag st) s.heap.objs.size f cdv)).units+64<cLine ->
   ∃t,PSs (lM CX0 P w K mg base N x (ag st) f cdv A outer s H E).nox (aS st) t/\LS K [0] t pp):Cal P w K mg base (k+1) x ps (spR K c):=D.oR S hb (λp ds Q h=>(rl p ds Q h).1) h1 h2 (λp ds Q _ h=>(rl p ds Q h).2) hbody
def bh.oX2{c:FX}{pp:(D->Prop)->PTS}(D:bh K mg x st)(S:aD N ps (ag st))(hb:tX x st ps)(rl:XRl c pp N.length n)(h1:n=ps.length)(h2:KA n N.length=true)
  (hbody:∀(f:Addr) (cdv:Value) (A:w_) (outer:List Env) (s:d_) (H:Hp) (E:XK),dR k (A.deeper (envOfC x (ag st) s.heap.objs.size f cdv))->(A.deeper (envOfC x (ag st) s.heap.objs.size f cdv)).units+64<cLine ->
   ∃t,PSs (lM (CXe P w) P w K mg base N x (ag st) f cdv A outer s H E) (aS st) t/\∀Ec,LSX K Ec E [] t (pp Ec)):Db P w K mg base (k+1) x ps (spX K c):=D.oX S hb (λds Q E h=>(rl ds Q E h).1) h1 h2 (λds Q E h=>(rl ds Q E h).2) hbody
end
section
variable {K:b_}{O O':Addr->Prop}{H H' H0 H0':Hp}{fs:List Nat}{x r:Nat}{te:TE}{pe:PTE}{tb tr:TS}{pb:PTS}{pr:POT}
theorem Cp.put2{a:Addr}{xs:List V}{row:List D}(ea:H' a=some (.lst xs))(h2:FVs K O' H0' xs row)(kk:aF O H0 O' H0'):∀{as:List Addr}{rows:List (List D)}{n:Nat},as.Nodup->as[n]?=some a->(∀b∈as,b≠a->∀o,H b=some o->H' b=some o)->Cp K O H0 H as rows->Cp K O' H0' H' as (rows.set n row)
 | [],_,n,_,e,_,_=>by simp at e
 | b::as,_,0,nd,e,k,.cons p q t=>by
  simp at e;subst e;exact .cons ea h2 (t.mv (λc hc=>k c (p_ _ hc) λz=>(Jf.mp nd).1 (by rw [<- z];exact hc)) kk)
 | b::as,_,n+1,nd,e,k,.cons p q t=>by
  have e:as[n]?=some a:=by simpa using e
  refine .cons (k b mem_cons_self (λz=>(Jf.mp nd).1 (by rw [z];exact F_ e)) _ p) (q.keeps kk) (Cp.put2 ea h2 kk (Jf.mp nd).2 e (λc hc=>k c (p_ _ hc)) t)
noncomputable def GB(r:Nat)(pe:PTE)(pb:PTS)(pr:POT):POT:=λE ρ m=>match m with
 | none=>False
 | some rows=>pe ρ λvi ρ1=>(match vi with
  | .dat (.int i)=>∃n row,ixN rows.length i=some n/\rows[n]?=some row/\ρ1[r]?=some none/\pb ⟨λρ'=>∃row',ρ'[r]?=some (some (.own row'))/\pr E (ρ'.set r none) (some (rows.set n row')),λ_ _=>False,λ_=>False,λ_=>False⟩ (ρ1.set r (some (.own row)))
  | _=>False)
def DE(hx:fs.contains r=false)(hrx:r≠x)(he:LE K te pe)(hb:LS K (r::x::fs) tb pb)(hr:LSO K fs x tr pr):LSO K fs x (uu (xl (tOp (sj K) (bw x) te) (cC r)) (uu tb tr)) (GB r pe pb pr):=λfx A R H0 ρ σ H m E D' hf rel q k1 k2=>by
 cases m with
 | none=>exact q.elim
 | some rows =>
  obtain⟨Da,as,r0,F,o⟩:=rel;refine⟨.ref Da,o.sx,he _ ρ σ H _ _ r0 q λvi H1 p1 ρ1 q1 f1 o1=>?_⟩
  split at q1
  .rename_i i;obtain⟨n,row,hn,hrow,hnone,q1⟩:=q1;obtain⟨r1,e1⟩:=o1;cases e1;have od:=o.fr r0 f1;have F1:=F.fr f1;obtain⟨a,xs,ha,hxs,fxs⟩:=od.cp.get hrow;have hl:(as.map V.ref).length=rows.length:=by rw [length_map,od.cp.length]
   have hin:a∈as:=F_ ha;have hDa:Da≠a:=λz=>od.ne (by rw [z];exact hin);have hrl:r<ρ1.length:=(j_.mp hnone).1
   refine .inl ⟨Da,as.map V.ref,i,.ref a,rfl,rfl,SqL.of od.eD,?_,?_⟩
   .unfold atI;rw [hl,hn];show (as.map V.ref)[n]?=_;rw [q_,ha];rfl
   let A':Addr->Prop:=λb=>apart A Da as b/\b≠a
   have pe_:cJ A' a=apart A Da as:=funext λb=>propext ⟨λz=>z.elim (λz=>z.1) λz=>by rw [z];exact .inr (.inr hin),λz=>by
    by_cases e:b=a
    .exact .inr e
    .exact .inl ⟨z,e⟩⟩
   have out:Out K A' ρ1 σ (λb=>if b=a then none else some (.lst [])) H1 (.own row) (.ref a):=by
    refine⟨a,xs,rfl,λz=>z.2 rfl,if_pos rfl,hxs,?_,?_⟩
    .rw [pe_];exact r1
    .rw [pe_];exact fxs
   obtain⟨r2,w2⟩:=out.put (i:=r)
   have w3:∀b,Wr (ρ1.set r (some (.own row))) (σ.set r (some (.ref a))) b->Wr ρ1 σ b\/b=a:=λb z=>(w2 b z).imp id λe=>by
    by_cases y:b=a
    .exact y
    .rw [if_neg y] at e;cases e
   have sr:(σ.set r (some (.ref a)))[r]?=some (some (.ref a)):=m_ (by rw [<- r1.len];exact hrl);have sx:(σ.set r (some (.ref a)))[x]?=some (some (.ref Da)):=by rw [g_ hrx];exact od.sx
   have sf:∀p∈fx,(σ.set r (some (.ref a)))[p.1]?=some (some p.2):=λp hp=>by
    have:r≠p.1:=λz=>by
     have h1:r∈fs:=by rw [<- hf,z];exact JK hp
     rw [Hd.mpr h1] at hx;cases hx
    rw [g_ this];exact F1.fx p hp
   have F2:cg fx R H0 (ρ1.set r (some (.own row))) (σ.set r (some (.ref a))) H1:=⟨F1.kp,F1.dm,λb w=>(w3 b w).elim (F1.ow b) λz=>by rw [z];exact od.h0 a (.inr hin),sf⟩
   have st:cg ((r,V.ref a)::(x,V.ref Da)::fx) (Wr (ρ1.set r (some (.own row))) (σ.set r (some (.ref a)))) H1 (ρ1.set r (some (.own row))) (σ.set r (some (.ref a))) H1:=cg.start λp hp=>by
    rcases mem_cons.mp hp with rfl|hp
    .exact sr
    .rcases mem_cons.mp hp with rfl|hp
     .exact sx
     .exact sf p hp
   refine hb ((r,V.ref a)::(x,V.ref Da)::fx) A' _ H1 _ _ H1 _ _ (by rw [map_cons,map_cons,hf]) r2 st q1 (λρ' σ' H' q' r' F'=>?_) (λ_ _ _ _ _ z=>(z:False).elim) (λ_ _ _ z=>(z:False).elim) (λ_ _ _ z=>(z:False).elim);obtain⟨row',er,q'⟩:=q';have sr':=F'.fx _ mem_cons_self;have sx':=F'.fx (x,V.ref Da) (p_ _ mem_cons_self);obtain⟨a',xs',s',ea,fa⟩:=r'.ownAt er;rw [sr'] at s';cases s'
   have sub:∀b,OO (apart A Da as) (ρ'.set r none) σ' b->OO A' ρ' σ' b:=λb z=>by
    rcases z with z|⟨j,p,e,ow,s⟩
    .by_cases y:b=a
     .rw [y];exact .inr ⟨r,_,er,rfl,sr'⟩
     .exact .inl ⟨z,y⟩
    .exact .inr ⟨j,p,(et e).2,ow,s⟩
   have R2:Rel K (apart A Da as) (ρ'.set r none) σ' H':=by
    refine⟨by rw [Hn];exact r'.len,λj p e=>?_,λi j p q v e1 e2 o1 o2 s1 s2=>r'.dj i j p q v (et e1).2 (et e2).2 o1 o2 s1 s2,λb z=>?_,λb z w=>?_⟩
    .obtain⟨v,s,rr⟩:=r'.get j p (et e).2;exact⟨v,s,rr.keeps (aF.less sub) λ_ _ _=>rfl⟩
    .by_cases y:b=a
     .rw [y,ea];exact nofun
     .exact r'.dom b ⟨z,y⟩
    .obtain⟨j,p,e,ow,s⟩:=w;obtain⟨nj,e⟩:=et e
     by_cases y:b=a
     .rw [y] at s;exact nj (r'.dj j r p _ _ e er ow rfl s sr')
     .exact r'.sep b ⟨z,y⟩ ⟨j,p,e,ow,s⟩
   have F3:=F2.trans F' λp hp=>F'.fx p (p_ _ (p_ _ hp));have nw:∀b,b=Da\/b∈as->b≠a->¬ Wr (ρ1.set r (some (.own row))) (σ.set r (some (.ref a))) b:=λb hb ne w=>r2.sep b ⟨.inr hb,ne⟩ w
   have kk:aF (OO (apart A Da as) ρ1 σ) H1 (OO (apart A Da as) (ρ'.set r none) σ') H':=λb u nn e=>by
    have n1:¬ OO A' (ρ1.set r (some (.own row))) (σ.set r (some (.ref a))) b:=λz=>by
     rcases z with z|z
     .exact nn (.inl z.1)
     .rcases w3 b z with z|z
      .exact nn (.inr z)
      .exact nn (.inl (by rw [z];exact .inr (.inr hin)))
    obtain⟨n2,e2⟩:=F'.keeps (A:=A') b u n1 e;exact⟨λz=>n2 (sub b z),e2⟩
   refine hr fx A R H0 (ρ'.set r none) σ' H' (some (rows.set n row')) E D' hf ⟨Da,as,R2,⟨F3.kp,F3.dm,λb w=>F3.ow b ?_,F3.fx⟩,⟨sx',od.nA,od.h0,od.nd,od.ne,F'.kp Da _ (nw Da (.inl rfl) hDa) od.eD,?_⟩⟩ q' k1 k2
   .obtain⟨j,p,e,ow,s⟩:=w;exact⟨j,p,(et e).2,ow,s⟩
   .exact Cp.put2 ea (fa.keeps (aF.less sub)) kk od.nd ha (λb hb ne u e=>F'.kp b u (nw b (.inr hb) ne) e) od.cp
  .exact q1.elim
def AS{t1 t2:TS}{p1 p2:PTS}(hx:fs.contains r=false)(hrx:r≠x)(he:LE K te pe)(h1:LS K (r::x::fs) t1 p1)(h2:LS K (r::x::fs) t2 p2)(hr:LSO K fs x tr pr):LSO K fs x (uu (xl (tOp (sj K) (bw x) te) (cC r)) (uu t1 (uu t2 tr))) (GB r pe (kK p1 p2) pr) :=
 DE (tb:=uu t1 t2) hx hrx he (aA h1 h2) hr
end
section
variable {K:b_}
def yu(n:Nat):lK (n:Int)=(Nat.toDigits 10 n).map Lq:=by
 unfold lK;rw [IX];show (((Nat.repr n).toList.map Lq).toArray).toList=_;rw [toList_toArray,repr_eq_ofList_toDigits,String.toList_ofList]
def sL(n:Nat):lK (-((n+1:Nat):Int))=45::lK ((n+1:Nat):Int):=by
 unfold lK;rw [IX,IX];show ((("-"++Nat.repr (n+1)).toList.map Lq).toArray).toList=45::(((Nat.repr (n+1)).toList.map Lq).toArray).toList;rw [toList_toArray,toList_toArray,String.toList_append,map_append];rfl
def kS{n:Nat}(h:n<=10^15):(lK (n:Int)).length<=16:=by
 rw [yu,length_map];exact (length_toDigits_le_iff (by decide) (by decide)).mpr (Lg h (by decide))
def cW{i:Int}(h:-(10^15)<=i/\i<=10^15):(lK i).length<=17:=by
 rcases le_total 0 i with z|z
 .obtain⟨n,rfl⟩:∃n:Nat,i=n:=⟨i.toNat,by omega⟩
  have:=kS (n:=n) (by omega);omega
 .by_cases e:i=0
  .subst e;decide
  .obtain⟨n,rfl⟩:∃n:Nat,i=-((n+1:Nat):Int):=⟨(-i).toNat - 1,by omega⟩
   rw [sL,length_cons];have:=kS (n:=n+1) (by omega);omega
noncomputable def DF:FN
 | [.int i],Q=>(-(10^15)<=i/\i<=10^15)/\Q (.dat (.str (lK i)))
 | _,_=>False
def iu:LC K Ds DF:=by
 intro O H xs as Q Q' dom fs q k;unfold DF at q
 split at q
 .cases fs with
  | cons a b =>
   cases b
   refine⟨_,by rw [a.int],?_,k _ H _ q.2 (Gr.refl _) ?_⟩
   .rename_i i _;have h:=q.1
    by_cases z:i.natAbs=0
    .rw [z];decide
    .exact (log2_lt z).mpr (Lg (show i.natAbs<=10^15 by omega) (by decide))
   .rw [<- yY];exact .str _ (E_ (cW q.1) (by decide))
 .exact q.elim
end
section
open PySem.SeqAt
def p5(l b:Addr)(items:Array Value)(n:Nat)(dd:Option Addr)(sl:Array (Option Value))(o:Obj)(hc:o.cls=.type "dict") :
  Meets (IM.«list.__ne__» ⟨[.ref l,.ref b],[]⟩) (λ_ R s=>s.heap.get? l=some { cls:=.type "list",dict:=dd,data:=.seq items n,slots:=sl }/\s.heap.get? b=some o/\R (.ok (.ret .notImplemented)) s):=by
 obtain⟨cls,dd2,da2,sl2⟩:=o;cases hc;exact .of_wp λprog w A R s h=>by obtain⟨hp,g,d,tk,os⟩:=s;obtain⟨hl,hb,h⟩:=h;have f1:=F.sub_dict_list;wp_walk using K7 hl;exact⟨_,rfl,h⟩
def p6(l b:Addr)(items:Array Value)(n:Nat)(dd:Option Addr)(sl:Array (Option Value))(o:Obj)(hc:o.cls=.type "dict") :
  Meets (IM.«dict.__ne__» ⟨[.ref b,.ref l],[]⟩) (λ_ R s=>s.heap.get? b=some o/\s.heap.get? l=some { cls:=.type "list",dict:=dd,data:=.seq items n,slots:=sl }/\R (.ok (.ret .notImplemented)) s):=by
 obtain⟨cls,dd2,da2,sl2⟩:=o;cases hc;exact .of_wp λprog w A R s h=>by obtain⟨hp,g,d,tk,os⟩:=s;obtain⟨hb,hl,h⟩:=h;have f1:=F.sub_list_dict;wp_walk using K7 hb,K7 hl;exact⟨_,rfl,h⟩
end
section
variable {X:Cx}{K:b_}
noncomputable def DG(K:b_):R2:=λx y H Q=>∃(a b:Addr) (kvs:List (Key×V)) (ys:List V),x=.ref a/\y=.ref b/\H a=some (.dK kvs)/\H b=some (.lst ys)/\Q (.bl true) H
def DH(K:b_)(e:X.K=K)(hu:X.A.units+64<cLine):OpR X (compareOp .NotEq) (DG K):=by
 subst e;intro pins s σ H x y v u Q I rx ry ⟨a,b,kvs,ys,e1,e2,h1,h2,q⟩;subst e1 e2;cases rx;cases ry;obtain⟨z,hd,vs,rel,o,es,ep,ho,hc0,h3,h4,h5⟩:=ED I.hok h1;have hc:o.cls=.type "dict":=hc0.1;obtain⟨its,rv,p,hz⟩:=I.list (SqL.of h2);obtain⟨⟨cls2,dd2,data2,sl2⟩,ho2,hc2,n2,hd2⟩:=p.isList;simp only at hc2 hd2;subst hc2 hd2;have hne:a≠b:=λz=>by rw [z,h2] at h1;cases h1
 show wpAny _ X.A (richCompare .NotEq (.ref a) (.ref b)) _ _ s
 exact SeqAt.rc_ne_decline_or (k:=false) ⟨_,ho,hc⟩ ⟨_,ho2,rfl⟩ (by decide) F.sub_list_dict F.slot_dict_ne F.slot_list_ne_refl
  (λ_ hq=>Kw F.slot_dict_ne ⟨_,ho,hc⟩ F.entry_dict_ne (F.args_dict_ne_2 _ _) (p6 b a _ n2 dd2 sl2 o hc) ⟨ho,ho2,hq⟩)
  (λ_ hq=>Kw F.slot_list_ne_refl ⟨_,ho2,rfl⟩ F.entry_list_ne (F.args_list_ne_2 _ _) (p5 b a _ n2 dd2 sl2 o hc) ⟨ho2,ho,hq⟩)
  (λ_ hq=>wpAny_isSame_ref_other hne ho ho2 (by simp [hc]) hq) (.inr (by omega)) ⟨.bl true,H,I,rfl,q⟩
noncomputable def DI(K:b_):R2:=λx y H Q=>DG K x y H Q\/tO K true x y H Q
def DJ(K:b_)(e:X.K=K)(hu:X.A.units+64<cLine):OpR X (compareOp .NotEq) (DI K):=OpR.or (DH K e hu) (pS K e hu)
noncomputable def Ea:F2
 | .dic _ _,.lst _,Q=>Q (.dat (.bl true))
 | a,b,Q=>D4 a b Q
def y4:LO K (DI K) Ea:=by
 intro O H x y a b Q Q' dom fx fy q k;unfold Ea at q
 split at q
 .obtain⟨p,kvs,rfl,e,m,f⟩:=fx.dic;obtain⟨p2,ys,rfl,e2,f2⟩:=fy.lst;exact .inl ⟨p,p2,kvs,ys,rfl,rfl,e,e2,k _ H _ q (Gr.refl _) (.bl _)⟩
 .exact .inr (jT O H x y _ _ Q Q' dom fx fy q k)
end
end L2
namespace K69
open PySem PySem.Spec PyProof.Rows L2
noncomputable def top(i:Nat):Stmt:=PySem.Challenge.pw_shortglue_k69_why_rows.main.body.getD i (.Pass ⟨0,0,0,0⟩)
abbrev oa:Stmt:=top 10
abbrev iw:Stmt:=top 11
abbrev fz:Stmt:=top 12
abbrev gp:Stmt:=top 13
abbrev dk:Stmt:=top 14
abbrev eU:Stmt:=top 19
abbrev fA:Stmt:=top 20
abbrev fB:Stmt:=top 22
abbrev iy:Stmt:=top 23
abbrev fC:Stmt:=top 24
abbrev jt:Stmt:=top 26
abbrev og:Stmt:=top 26
abbrev ju:Stmt:=top 27
abbrev AT:Stmt:=top 29
abbrev jw:Stmt:=top 30
abbrev eB:Stmt:=top 32
abbrev dL:Stmt:=top 33
abbrev kT:Stmt:=top 34
abbrev jx:Stmt:=top 35
abbrev bK:Stmt:=jg (top 36) 0
abbrev bM:Stmt:=jg (top 36) 1
abbrev gq:Stmt:=top 38
abbrev jy:Stmt:=top 39
abbrev fE:Stmt:=top 40
abbrev jA:Stmt:=top 41
abbrev kU:Stmt:=top 42
abbrev gu:Stmt:=top 43
abbrev fF:Stmt:=top 44
abbrev jB:Stmt:=top 45
abbrev kW:Stmt:=top 46
abbrev gv:Stmt:=top 47
abbrev iA:Stmt:=top 48
abbrev jC:Stmt:=top 49
abbrev eC:Stmt:=top 50
abbrev jD:Stmt:=top 51
abbrev kX:Stmt:=top 52
abbrev yv:Stmt:=top 53
def wR:aD ["thing"] ["thing"] (ag oa):=⟨rfl,rfl,rfl,by decide +kernel,rfl,by decide +kernel,by decide +kernel⟩
def p7:aD ["thing"] ["thing"] (ag iw):=⟨rfl,rfl,rfl,by decide +kernel,rfl,by decide +kernel,by decide +kernel⟩
def lU:aD ["thing","many"] ["thing","many"] (ag fz):=⟨rfl,rfl,rfl,by decide +kernel,rfl,by decide +kernel,by decide +kernel⟩
def oh:aD ["thing","many"] ["thing","many"] (ag gp):=⟨rfl,rfl,rfl,by decide +kernel,rfl,by decide +kernel,by decide +kernel⟩
def jE:aD ["thing","many"] ["thing","many"] (ag dk):=⟨rfl,rfl,rfl,by decide +kernel,rfl,by decide +kernel,by decide +kernel⟩
def tY:aD ["thing","least","most"] ["thing","least","most"] (ag eU):=⟨rfl,rfl,rfl,by decide +kernel,rfl,by decide +kernel,by decide +kernel⟩
def lV:aD ["text","piece"] ["text","piece"] (ag fA):=⟨rfl,rfl,rfl,by decide +kernel,rfl,by decide +kernel,by decide +kernel⟩
def gR:aD ["many","numbers"] ["many"] (ag fB):=⟨rfl,rfl,rfl,by decide +kernel,rfl,by decide +kernel,by decide +kernel⟩
def gw:aD ["paper","laps","pairs","gives","takes"] ["paper","laps","pairs"] (ag iy):=⟨rfl,rfl,rfl,by decide +kernel,rfl,by decide +kernel,by decide +kernel⟩
def eE:aD ["family","paper","gives","takes"] ["family","paper"] (ag fC):=⟨rfl,rfl,rfl,by decide +kernel,rfl,by decide +kernel,by decide +kernel⟩
def iB:aD ["number","parts","rest","part"] ["number"] (ag jt):=⟨rfl,rfl,rfl,by decide +kernel,rfl,by decide +kernel,by decide +kernel⟩
def kY:aD ["number","parts","rest","part"] ["number"] (ag og):=⟨rfl,rfl,rfl,by decide +kernel,rfl,by decide +kernel,by decide +kernel⟩
def bX:aD ["family","paper","bound","gives","takes","rows","word","give","take"] ["family","paper"] (ag ju):=⟨rfl,rfl,rfl,by decide +kernel,rfl,by decide +kernel,by decide +kernel⟩
def y6:aD ["one","other","k"] ["one","other"] (ag AT):=⟨rfl,rfl,rfl,by decide +kernel,rfl,by decide +kernel,by decide +kernel⟩
def qT:aD ["words"] ["words"] (ag jw):=⟨rfl,rfl,rfl,by decide +kernel,rfl,by decide +kernel,by decide +kernel⟩
def dM:aD ["things","at","thing"] ["things"] (ag eB):=⟨rfl,rfl,rfl,by decide +kernel,rfl,by decide +kernel,by decide +kernel⟩
def j6:aD ["piece","other"] ["piece","other"] (ag dL):=⟨rfl,rfl,rfl,by decide +kernel,rfl,by decide +kernel,by decide +kernel⟩
def jF:aD ["pieces","at","piece","longer"] ["pieces","at"] (ag kT):=⟨rfl,rfl,rfl,by decide +kernel,rfl,by decide +kernel,by decide +kernel⟩
def kZ:aD ["pieces","kept","at","holder"] ["pieces","kept","at"] (ag jx):=⟨rfl,rfl,rfl,by decide +kernel,rfl,by decide +kernel,by decide +kernel⟩
def gS:aD ["self","pieces","indexes"] ["self","pieces"] (ag bK):=⟨rfl,rfl,rfl,by decide +kernel,rfl,by decide +kernel,by decide +kernel⟩
def lW:aD ["self"] ["self"] (ag bM):=⟨rfl,rfl,rfl,by decide +kernel,rfl,by decide +kernel,by decide +kernel⟩
def fG:aD ["_law_script","_law_k","_law_cell"] ["_law_script","_law_k"] (ag gq):=⟨rfl,rfl,rfl,by decide +kernel,rfl,by decide +kernel,by decide +kernel⟩
def k6:aD ["_law_stream_here","_law_most","_law_digit"] ["_law_stream_here","_law_most"] (ag jy):=⟨rfl,rfl,rfl,by decide +kernel,rfl,by decide +kernel,by decide +kernel⟩
def eF:aD ["_law_stream_here","_law_alphabet","_law_way"] ["_law_stream_here"] (ag fE):=⟨rfl,rfl,rfl,by decide +kernel,rfl,by decide +kernel,by decide +kernel⟩
def qU:aD ["_law_stream_here","_law_letters_here","_law_most"] ["_law_stream_here","_law_letters_here","_law_most"] (ag jA):=⟨rfl,rfl,rfl,by decide +kernel,rfl,by decide +kernel,by decide +kernel⟩
def mW:aD ["_law_stream_here","_law_text","_law_most","_law_at"] ["_law_stream_here","_law_text","_law_most"] (ag kU):=⟨rfl,rfl,rfl,by decide +kernel,rfl,by decide +kernel,by decide +kernel⟩
def aZ:aD ["_law_stream_here","_law_many","_law_most","_law_letters_here","_law_base","_law_found","_law_k","_law_way","_law_piece"] ["_law_stream_here","_law_many","_law_most"] (ag gu):=⟨rfl,rfl,rfl,by decide +kernel,rfl,by decide +kernel,by decide +kernel⟩
def gU:aD ["_law_pieces_here","_law_k","_law_other"] ["_law_pieces_here","_law_k"] (ag fF):=⟨rfl,rfl,rfl,by decide +kernel,rfl,by decide +kernel,by decide +kernel⟩
def qV:aD ["_law_pieces_here"] ["_law_pieces_here"] (ag jB):=⟨rfl,rfl,rfl,by decide +kernel,rfl,by decide +kernel,by decide +kernel⟩
def mX:aD ["_law_one_here","_law_other","_law_k"] ["_law_one_here","_law_other"] (ag kW):=⟨rfl,rfl,rfl,by decide +kernel,rfl,by decide +kernel,by decide +kernel⟩
def bA:aD ["_law_stream_here","_law_words","_law_most","_law_gives","_law_takes","_law_j","_law_least","_law_i"] ["_law_stream_here","_law_words"] (ag gv):=⟨rfl,rfl,rfl,by decide +kernel,rfl,by decide +kernel,by decide +kernel⟩
def d6:aD ["_law_words","_law_gives","_law_takes","_law_number","_law_i","_law_j"] ["_law_words","_law_gives","_law_takes"] (ag iA):=⟨rfl,rfl,rfl,by decide +kernel,rfl,by decide +kernel,by decide +kernel⟩
def dN:aD ["_law_stream_here","_law_gives","_law_takes","_law_rows","_law_row","_law_way","_law_at"] ["_law_stream_here","_law_gives","_law_takes"] (ag jC):=⟨rfl,rfl,rfl,by decide +kernel,rfl,by decide +kernel,by decide +kernel⟩
def cX:aD ["_law_family","_law_paper","_law_caught","error"] ["_law_family","_law_paper"] (ag eC):=⟨rfl,rfl,rfl,by decide +kernel,rfl,by decide +kernel,by decide +kernel⟩
def bv:aD ["_law_family","_law_words","_law_paper","_law_gives","_law_takes","_law_due","_law_k","_law_total","_law_prices_here","_law_other","_law_found","_law_row","_law_told_here"] ["_law_family","_law_words","_law_paper"] (ag jD):=⟨rfl,rfl,rfl,by decide +kernel,rfl,by decide +kernel,by decide +kernel⟩
def cf:aD ["_law_stream_here","_law_pieces_here","_law_words","_law_family","_law_gives","_law_takes","_law_handed","_law_k","_law_thing"] ["_law_stream_here"] (ag kX):=⟨rfl,rfl,rfl,by decide +kernel,rfl,by decide +kernel,by decide +kernel⟩
def y8:aD ["_law_script","_law_k"] ["_law_script"] (ag yv):=⟨rfl,rfl,rfl,by decide +kernel,rfl,by decide +kernel,by decide +kernel⟩
structure Txt (mg:Str->Option Value):Prop where
 b_ValueError:mg "ValueError"=none
 b_abs:mg "abs"=none
 b_all:mg "all"=none
 b_any:mg "any"=none
 b_bool:mg "bool"=none
 b_enumerate:mg "enumerate"=none
 b_int:mg "int"=none
 b_isinstance:mg "isinstance"=none
 b_len:mg "len"=none
 b_list:mg "list"=none
 b_max:mg "max"=none
 b_min:mg "min"=none
 b_range:mg "range"=none
 b_str:mg "str"=none
 b_sum:mg "sum"=none
 b_tuple:mg "tuple"=none
 b_zip:mg "zip"=none
 g_MOST_PIECES:∃t,mg "MOST_PIECES"=some (.int 40 t)
 g_MOST_SIGNS:∃t,mg "MOST_SIGNS"=some (.int 60 t)
abbrev eG:Stmt:=jg (top 2) 0
def k9:aD ["self","most"] ["self","most"] (ag eG):=⟨rfl,rfl,rfl,by decide +kernel,rfl,by decide +kernel,by decide +kernel⟩
abbrev eH:Stmt:=jg (top 3) 0
def la:aD ["self","at"] ["self","at"] (ag eH):=⟨rfl,rfl,rfl,by decide +kernel,rfl,by decide +kernel,by decide +kernel⟩
abbrev eI:Stmt:=jg (top 5) 0
def lb:aD ["self","at"] ["self","at"] (ag eI):=⟨rfl,rfl,rfl,by decide +kernel,rfl,by decide +kernel,by decide +kernel⟩
abbrev fH:Stmt:=jg (top 7) 0
def lX:aD ["self","at"] ["self","at"] (ag fH):=⟨rfl,rfl,rfl,by decide +kernel,rfl,by decide +kernel,by decide +kernel⟩
abbrev xcs:List Str:=["TooMany","NoPiece","NotHeld","NoLine","NoOrder","NoTable","NoPaper"]
abbrev GC:List (Str×Str):=[("TooMany","most"),("NoPiece","at"),("NotHeld","at"),("NoLine","at")]
structure TxX (K:b_) (mg:Str->Option Value):Prop where
 all:yi K xcs
 at_:∀c g,(c,g)∈GC->f_ K (.ref (aI K c)) g=some none
 m'b:mg "TooMany"=some (.ref (aI K "TooMany"))
 m'c:mg "NoPiece"=some (.ref (aI K "NoPiece"))
 m'f:mg "NotHeld"=some (.ref (aI K "NotHeld"))
 m'n:mg "NoLine"=some (.ref (aI K "NoLine"))
 m'e:mg "NoOrder"=some (.ref (aI K "NoOrder"))
 m'g:mg "NoTable"=some (.ref (aI K "NoTable"))
 m'o:mg "NoPaper"=some (.ref (aI K "NoPaper"))
 m'a:mg "GlueError"=some (.ref (aI K "GlueError"))
 d'b:XD K (aI K "TooMany")
 d'c:XD K (aI K "NoPiece")
 d'f:XD K (aI K "NotHeld")
 d'n:XD K (aI K "NoLine")
 d'e:XD K (aI K "NoOrder")
 d'g:XD K (aI K "NoTable")
 d'o:XD K (aI K "NoPaper")
 d'a:XD K (aI K "GlueError")
 z'e:X0 K (aI K "NoOrder")
 kp'e:u_ K (.ref (aI K "NoOrder"))=true
 z'g:X0 K (aI K "NoTable")
 kp'g:u_ K (.ref (aI K "NoTable"))=true
 z'o:X0 K (aI K "NoPaper")
 kp'o:u_ K (.ref (aI K "NoPaper"))=true
structure TxC (K:b_):Prop where
 cl_Family:Cls K (aI K "Family")
 n_Family_pieces:dS K (aI K "Family") "pieces"
 n_Family_kept:dS K (aI K "Family") "kept"
 n_Family_words:dS K (aI K "Family") "words"
 n_Family_left:dS K (aI K "Family") "left"
 n_Family_laps:dS K (aI K "Family") "laps"
 n_Family_total:dS K (aI K "Family") "total"
local macro_rules | `(tactic| walk_at "s")=>`(tactic| first | (with_reducible omega) | (with_reducible assumption) | (with_reducible rfl) | exact le_of_ble_eq_true rfl | (simp only [length_cons,length_nil,length_append,length_map];(with_reducible omega)) | assumption | rfl | (refine ⟨?_,?_⟩ <;> first | (with_reducible omega) | (with_reducible assumption) | (with_reducible rfl) | exact le_of_ble_eq_true rfl | assumption | rfl | (refine ⟨?_,?_⟩ <;> first | (with_reducible omega) | (with_reducible assumption) | (with_reducible rfl) | exact le_of_ble_eq_true rfl | assumption | rfl | (refine ⟨?_,?_⟩ <;> first | (with_reducible omega) | (with_reducible assumption) | (with_reducible rfl) | exact le_of_ble_eq_true rfl | assumption | rfl | fail) | fail) | fail) | omega | fail)
local macro_rules | `(tactic| walk_at "r")=>`(tactic| ((try dsimp only [set_cons_zero,set_cons_succ,ww,wx,wz,wy,Dk,Dl,pZ,mT,mU,sE,sF,tail_cons,p3,p4,sG,wP,wQ,yZ]);(conv=>whnf);(repeat (first | ((with_reducible refine And.intro ?_ ?_);(next=>walk_at "s");(conv=>whnf)) | ((with_reducible refine (show Exists _ from ?_));(first | (refine ⟨_,rfl,?_⟩) | (refine ⟨_,iX.lst _,?_⟩) | (refine ⟨_,iX.tup _,?_⟩));(conv=>whnf)) | ((refine (show iG _ _ _ from ?_));(first | (with_reducible refine GK (by assumption) ?_) | (with_reducible refine GL (by assumption) ?_) | (with_reducible refine EJ (by assumption) ?_) | (with_reducible refine zV (by assumption) ?_) | ((with_reducible refine EH ?_ ?_);(next=>(first | (with_reducible rfl) | (with_reducible assumption) | (with_reducible omega)))) | ((with_reducible refine EI ?_ ?_);(next=>(first | (with_reducible rfl) | (with_reducible assumption) | (with_reducible omega)))) | ((with_reducible refine Cb ?_ ?_);(next=>(first | (with_reducible rfl) | (with_reducible assumption) | (with_reducible omega)))) | ((with_reducible refine Cc ?_ ?_);(next=>(first | (with_reducible rfl) | (with_reducible assumption) | (with_reducible omega)))));(conv=>whnf))));(try refine (show iG _ _ _ from ?_));(try dsimp only [set_cons_zero,set_cons_succ,ww,wx,wz,wy,Dk,Dl,pZ,mT,mU,sE,sF,tail_cons,p3,p4,sG,wP,wQ,yZ])))
local macro_rules | `(tactic| walk_at "z")=>`(tactic| dsimp only [CV,Fe,D6,cw,List.map,List.length,List.replicate,cons_append,nil_append,Nat.reduceSub,Nat.reduceAdd,Nat.zero_add])
noncomputable def stv(s:Int×Int):PV:=.own [.int s.1,.int s.2]
noncomputable def SOk:Int×Int->Prop
 | (a,b)=>0<=a/\0<=b/\b < 2 ^ 60
noncomputable def i3:FN:=λa_ Q=>cD (λd=>cN (d.sort=true/\Q (.dat (.bl (vN d))))) a_
noncomputable def d8:FN:=λa_ Q=>cD (λd=>cN (d.sort=true/\Q (.dat (.bl (lR d))))) a_
noncomputable def eJ:FN:=λa_ Q=>cD (λd=>cI (λm=>cN (Srt d/\(aC d).length<=1000000/\Q (.dat (.bl (c5 d m)))))) a_
def DK{α:Type}(f:Int->α)(zs:List Int):(i_ zs.length).map (λk=>f (zs.getD k 0))=zs.map f:=by
 refine ext_getElem (by rw [length_map,length_map,Hs]) λi h1 h2=>?_;rw [length_map,Hs] at h1;rw [getElem_map,getElem_map,getElem_range,o_,gV h1];rfl
noncomputable def prB(d:D)(m:Int):Bool:=c5 d m && (aC d).all λx=>decide (0<=toI x)
def wS{d:D}{m:Int}(c:c5 d m=true):∃zs:List Int,iX d (zs.map .int)/\(zs.length:Int)=m:=by
 unfold c5 at c;rw [and_eq_true,and_eq_true] at c;obtain⟨c1,c2,c3⟩:=c
 cases d with
 | lst ds=>exact⟨ds.map toI,.inl (congrArg _ (nU c3)),by rw [length_map];exact of_decide_eq_true c2⟩
 | tup ds=>exact⟨ds.map toI,.inr (congrArg _ (nU c3)),by rw [length_map];exact of_decide_eq_true c2⟩
 | _=>cases c1
def tZ{d:D}{zs:List Int}(h:iX d (zs.map .int)):c5 d zs.length=true:=by
 unfold c5;rw [h.items,length_map,decide_eq_true rfl,Ib,and_eq_true];refine⟨by rcases h with rfl|rfl <;> rfl,?_⟩;rw [all_map];exact Hj.mpr λ_ _=>rfl
def oi{d:D}{zs:List Int}(h:iX d (zs.map .int)):prB d zs.length=zs.all λz=>decide (0<=z):=by
 unfold prB;rw [tZ h,Ib,h.items,all_map];rfl
noncomputable def dA:FN:=λa_ Q=>cD (λd=>cI (λm=>cN (Srt d/\(aC d).length<=1000000/\Q (.dat (.bl (prB d m)))))) a_
noncomputable def G9(d:D):Prop:=d.sort=true/\∀r∈aC d,r.sort=true/\∀x∈aC r,x.sort=true
def DL{d:D}(h:vN d=true):iX d (aC d):=by
 cases d with
 | lst ds=>exact .inl rfl
 | tup ds=>exact .inr rfl
 | _=>cases h
def getElem?_itD{ds:List D}{k:Nat}(h:k<ds.length):ds[k]?=some (itD ds k):=by
 unfold itD;rw [o_,gV h];rfl
noncomputable def ppB(d:D)(m:Int):Bool:=vN d && (decide ((aC d).length=2) && (aC d).all λr=>prB r m)
noncomputable def okP(d:D):Prop:=G9 d/\(aC d).length<=1000/\∀r∈aC d,(aC r).length<=1000
noncomputable def c6:FN:=λa_ Q=>cD (λd=>cI (λm=>cN (okP d/\Q (.dat (.bl (ppB d m)))))) a_
noncomputable def eV:FN:=λa_ Q=>cD (λd=>cI (λa=>cI (λb=>cN (d.sort=true/\Ff d<=1000000/\Q (.dat (.bl (xZ d a b))))))) a_
noncomputable def c9:FN:=λa_ Q=>cS (λa=>cS (λb=>cN (Q (.dat (.int (fnd a b 0)))))) a_
abbrev prT(p:Nat×Nat):D:=.tup [.int (p.1:Int),.int (p.2:Int)]
noncomputable def wT(n:Nat):List (Nat×Nat):=(i_ n).flatMap λi=>((i_ n).filter λj=>decide (i≠j)).map λj=>(i,j)
def oj{n:Nat}{p:Nat×Nat}:p∈wT n ↔ p.1<n/\p.2<n/\p.1≠p.2:=by
 unfold wT;rw [mem_flatMap]
 constructor
 .rintro⟨i,hi,h⟩;obtain⟨j,hj,rfl⟩:=Iz.mp h;rw [Iq] at hj;exact⟨Jh.mp hi,Jh.mp hj.1,of_decide_eq_true hj.2⟩
 .rintro⟨h1,h2,h3⟩;exact⟨p.1,Jh.mpr h1,Iz.mpr ⟨p.2,Iq.mpr ⟨Jh.mpr h2,decide_eq_true h3⟩,rfl⟩⟩
theorem om(n:Nat):∀L:List Nat,(L.flatMap λi=>((i_ n).filter λj=>decide (i≠j)).map λj=>(i,j)).length<=L.length*n
 | []=>by simp
 | i::L=>by
  rw [flatMap_cons,length_append,length_map,length_cons,succ_mul];have h1:=om n L;have h2:((i_ n).filter λj=>decide (i≠j)).length<=n:=E_ (JR ..) (by rw [Hs];exact so _);omega
noncomputable def eL:FN:=λa_ Q=>cI (λm=>cN ((0<=m/\m<=40)/\Q (.own ((wT m.toNat).map prT)))) a_
noncomputable def nmb(d:D)(i:Nat):Int:=toI (itD (aC d) i)
def fV{d:D}{zs:List Int}(h:iX d (zs.map .int)){i:Nat}(hi:i<zs.length):nmb d i=zs.getD i 0/\atI (zs.map D.int) (i:Int)=some (.int (nmb d i)):=by
 have e:itD (zs.map D.int) i=.int (zs.getD i 0):=nQ (by rw [length_map];exact hi);have e2:nmb d i=zs.getD i 0:=by unfold nmb;rw [h.items,e];rfl
 refine⟨e2,kB (j:=i) ?_ rfl⟩;rw [getElem?_itD (by rw [length_map];exact hi),e,e2]
abbrev Eb(ws:List (List Nat))(w:List Nat):D:=.tup (ws.map λv=>.int (j3 w v:Int))
noncomputable def gW(e:D)(ws:List (List Nat)):Bool:=ppB e ws.length && (wT ws.length).all λp=>decide ((j3 (pw ws p.1) (pw ws p.2):Int)<=nmb (itD (aC e) 0) p.1+nmb (itD (aC e) 1) p.2)
def AU{ws:List (List Nat)}{i:Nat}(h:i<ws.length):atI (ws.map (Eb ws)) (i:Int)=some (Eb ws (pw ws i)):=by
 refine kB (j:=i) ?_ rfl;rw [q_,gV h];unfold pw;rw [o_,gV h];rfl
def DM{ws:List (List Nat)}{w:List Nat}{i:Nat}(h:i<ws.length):atI (ws.map λv=>D.int (j3 w v:Int)) (i:Int)=some (.int (j3 w (pw ws i):Int)):=by
 refine kB (j:=i) ?_ rfl;rw [q_,gV h];unfold pw;rw [o_,gV h];rfl
def AW{e:D}{n:Nat}(h:ppB e n=true):∃(g t:D) (gs ts:List Int),iX e [g,t]/\iX g (gs.map .int)/\iX t (ts.map .int)/\gs.length=n/\ts.length=n/\itD (aC e) 0=g/\itD (aC e) 1=t:=by
 unfold ppB at h;rw [and_eq_true,and_eq_true,decide_eq_true_eq] at h;obtain⟨h1,h2,h3⟩:=h;have he:=DL h1;generalize aC e=es at h2 h3 he
 obtain⟨g,t,rfl⟩:∃g t,es=[g,t]:=by
  match es,h2 with
  | [g,t],_=>exact⟨g,t,rfl⟩
 have hg:=Hj.mp h3 g (by simp);have ht:=Hj.mp h3 t (by simp);have num:∀x:D,prB x n=true->∃zs:List Int,iX x (zs.map .int)/\(zs.length:Int)=(n:Int):=λx hx=>wS (by unfold prB at hx;rw [and_eq_true] at hx;exact hx.1);obtain⟨gs,hgs,gl⟩:=num g hg;obtain⟨ts,hts,tl⟩:=num t ht;exact⟨g,t,gs,ts,he,hgs,hts,by omega,by omega,rfl,rfl⟩
noncomputable def gy:FN:=λa_ Q=>cD (λe=>cT (λls=>cL (λps=>cN (∃ws:List (List Nat),ls=ws.map (Eb ws)/\ps=(wT ws.length).map prT/\(okP e/\ws.length<=40)/\Q (.dat (.bl (gW e ws))))))) a_
def Bc(d:D):Int:=((aC d).map toI).sum
def kf{d:D}{zs:List Int}(h:iX d (zs.map .int)):Bc d=zs.sum:=by
 unfold Bc;rw [h.items,map_map];exact congrArg List.sum (Lu _)
noncomputable def FI(e:D)(ps:List (List Nat)):D:=if gW e (aq ps)=true then .int (kQ ps - Bc (itD (aC e) 0) - Bc (itD (aC e) 1)) else .non
noncomputable def eM:FN:=λa_ Q=>cO (λc ns fs=>cD (λe=>cN (c="Family"/\ns=j4/\∃ps:List (List Nat),fs=j5 ps/\(okP e/\(aq ps).length<=40)/\Q (.dat (FI e ps))))) a_
noncomputable def iC:FN:=λa_ Q=>cI (λn=>cN ((0<=n/\n<=10^15)/\Q (.dat (.str (lK n))))) a_
noncomputable def eW:FN:=λa_ Q=>cI (λn=>cN ((-(10^15)<=n/\n<=10^15)/\Q (.dat (.str (lK n))))) a_
noncomputable def AX(ws:List (List Nat))(gs ts:List Int)(k:Nat):List Nat:=[]++pw ws k++[32,103,105,118,101,115,32]++lK (gs.getD k 0)++[32,116,97,107,101,115,32]++lK (ts.getD k 0)
noncomputable def AY(ws:List (List Nat))(gs ts:List Int):List Nat:=[]++lK ((ws.map λw=>(w.length:Int)).sum)++[32,108,101,115,115,32]++lK (gs.sum+ts.sum)++[32,105,115,32]++lK ((ws.map λw=>(w.length:Int)).sum - gs.sum - ts.sum)
noncomputable def AZ(ws:List (List Nat))(gs ts:List Int):List D:=((i_ ws.length).map λk=>D.str (AX ws gs ts k))++[.str (AY ws gs ts)]
def jG(zs:List Int):(zs.map D.int).map toI=zs:=by rw [map_map];exact Lu _
def DN{e g t:D}{gs ts:List Int}{n:Nat}(h:ppB e n=true)(he:iX e [g,t])(hg:iX g (gs.map .int))(ht:iX t (ts.map .int))(gl:gs.length=n)(tl:ts.length=n):(∀x∈gs,0<=x)/\∀x∈ts,0<=x:=by
 unfold ppB at h;rw [he.items,and_eq_true,and_eq_true,Hj] at h;have h1:=h.2.2 g mem_cons_self;have h2:=h.2.2 t (p_ _ mem_cons_self);rw [<- gl,oi hg,Hj] at h1;rw [<- tl,oi ht,Hj] at h2;exact⟨λx hx=>of_decide_eq_true (h1 x hx),λx hx=>of_decide_eq_true (h2 x hx)⟩
theorem iD{m:Int}:∀{zs:List Int},(∀x∈zs,0<=x)->(∀x∈zs,x<=m)->0<=zs.sum/\zs.sum<=m*zs.length
 | [],_,_=>by simp
 | z::zs,h,k=>by
  obtain⟨a,b⟩:=iD (λx hx=>h x (p_ _ hx)) λx hx=>k x (p_ _ hx);have c:=h z mem_cons_self;have d:=k z mem_cons_self;rw [sum_cons,length_cons];have e:m*((zs.length+1:Nat):Int)=m*zs.length+m:=by rw [natCast_add,mul_add];simp
  omega
def jU{α:Type}{l:List α}{k:Nat}{d:α}(h:k<l.length):l.getD k d∈l:=F_ (show l[k]?=some (l.getD k d) by rw [o_,gV h];rfl)
noncomputable def dO:FX:=λa_ Q E=>cO (λc ns fs=>cD (λe=>cN (c="Family"/\ns=j4/\∃ps:List (List Nat),fs=j5 ps/\(okP e/\ps.length<=10/\(∀w∈aq ps,w.length<=60)/\∀r∈aC e,∀x∈aC r,toI x<=10^7)/\(gW e (aq ps)=true->Q (.dat (.tup (AZ (aq ps) ((aC (itD (aC e) 0)).map toI) ((aC (itD (aC e) 1)).map toI)))))/\(gW e (aq ps)=false->E (.exc "NoPaper" [] []))))) a_
noncomputable def p8:FN:=λa_ Q=>cS (λa=>cS (λb=>cN ((0<a.length/\a.length<=10000)/\(0<b.length/\b.length<=10000)/\Q (.dat (.int (j3 a b:Int)))))) a_
noncomputable def fJ:FN:=λa_ Q=>cT (λds=>cN (∃ws:List (List Nat),ds=ws.map .str/\(ws.length<=1000/\∀w∈ws,0<w.length/\w.length<=10000)/\Q (.dat (C1 ws)))) a_
noncomputable def cY:FN:=λa_ Q=>cD (λd=>cN (∃ws:List (List Nat),iX d (ws.map .str)/\(ws.length<=40/\Pcs 60 ws)/\Q (.dat .non))) a_
noncomputable def bx:FN:=λa_ Q=>cS (λa=>cS (λb=>cN (Q (.dat (.bl (fW a b)))))) a_
noncomputable def eX:FN:=λa_ Q=>cT (λds=>cI (λi=>cN (∃ws:List (List Nat),ds=ws.map .str/\(ws.length<=1000/\∀w∈ws,w.length<=10000)/\(0<=i/\i<(ws.length:Int))/\Q (.dat (.bl (dI ws i.toNat)))))) a_
noncomputable def dP:FN:=λa_ Q=>cT (λds=>cT (λks=>cI (λi=>cN (∃ws:List (List Nat),ds=ws.map .str/\ks=(aM ws).map nD/\(ws.length<=1000/\∀w∈ws,w.length<=60)/\(0<=i/\i<(ws.length:Int))/\Q (.dat (dJ ws i.toNat)))))) a_
noncomputable def bP:FR:=λp a_ Q=>oI "Family" (cD (λd=>cN (∃ws:List (List Nat),iX d (ws.map .str)/\(ws.length<=40/\Pcs 60 ws)/\Q (.dat .non) (.ins "Family" j4 (j5 ws)))) a_) p
noncomputable def cA:FN:=λa_ Q=>cO (λc ns fs=>cN (c="Family"/\ns=j4/\∃ws:List (List Nat),fs=j5 ws/\Q (.dat (.int ((aq ws).length:Int))))) a_
noncomputable def fK:FN:=λa_ Q=>cR (λns=>cI (λk=>cN (0<=k/\k<=1000/\∀s:Int×Int,SOk s->Q (stv s)))) a_
noncomputable def aE:FR:=λp a_ Q=>oL (λes_=>cI (λc0=>cI (λc1=>cN (cI (λm=>cN (SOk (c0,c1)/\0<m/\m<=1000000/\∀(x:Int) (s:Int×Int),SOk s->0<=x->x<m->Q (.dat (.int x)) (stv s))) a_))) es_) p
noncomputable def eN:FR:=λp a_ Q=>oL (λes_=>cI (λc0=>cI (λc1=>cN (cN (SOk (c0,c1)/\∀(ls:List Nat) (s:Int×Int),SOk s->2<=ls.length->ls.length<=26->Lts ls->Q (.dat (.str ls)) (stv s)) a_))) es_) p
noncomputable def fL:FR:=λp a_ Q=>oL (λes_=>cI (λc0=>cI (λc1=>cN (cS (λls=>cI (λm=>cN (SOk (c0,c1)/\(0<ls.length/\ls.length<=10000/\Lts ls)/\(0<m/\m<=10000)/\∀(w:List Nat) (s:Int×Int),SOk s->0<w.length->w.length<=m.toNat->Lts w->Q (.dat (.str w)) (stv s)))) a_))) es_) p
noncomputable def gI:FR:=λp a_ Q=>oL (λes_=>cI (λc0=>cI (λc1=>cN (cS (λt=>cI (λm=>cN (SOk (c0,c1)/\(0<t.length/\t.length<=100000/\Lts t)/\(0<m/\m<=10000)/\∀(w:List Nat) (s:Int×Int),SOk s->0<w.length->w.length<=m.toNat->Lts w->Q (.dat (.str w)) (stv s)))) a_))) es_) p
noncomputable def fM:FR:=λp a_ Q=>oL (λes_=>cI (λc0=>cI (λc1=>cN (cI (λn=>cI (λm=>cN (SOk (c0,c1)/\(0<=n/\n<=40)/\(0<m/\m<=60)/\∀(ps:List (List Nat)) (s:Int×Int),SOk s->ps.length=n.toNat->Pcs m.toNat ps->Q (.dat (.lst (ps.map .str))) (stv s)))) a_))) es_) p
noncomputable def de:FN:=λa_ Q=>cL (λds=>cI (λi=>cN (∃ps:List (List Nat),ds=ps.map .str/\(ps.length<=60/\∀w∈ps,w.length<=60)/\(0<=i/\i<(ps.length:Int))/\Q (.dat (.bl (!dI ps i.toNat)))))) a_
noncomputable def fN:FN:=λa_ Q=>cL (λds=>cN (∃ps:List (List Nat),ds=ps.map .str/\(ps.length<=60/\∀w∈ps,w.length<=60)/\Q (.own ((aM ps).map nD)))) a_
noncomputable def gJ:FN:=λa_ Q=>cS (λa=>cS (λb=>cN ((0<a.length/\a.length<=10000)/\(0<b.length/\b.length<=10000)/\Q (.dat (.int (j3 a b:Int)))))) a_
noncomputable def Bnd(zs:List Int):Prop:=zs.length<=10/\∀z∈zs,0<=z/\z<=10^7
noncomputable def fO:FR:=λp a_ Q=>oL (λes_=>cI (λc0=>cI (λc1=>cN (cL (λds=>cN (SOk (c0,c1)/\∃ws:List (List Nat),ds=ws.map .str/\(ws.length<=10/\Pcs 60 ws)/\∀(gs ts:List Int) (s:Int×Int),SOk s->gs.length=ws.length->ts.length=ws.length->Bnd gs->Bnd ts->Q (.dat (.lst [.lst (gs.map .int),.lst (ts.map .int)])) (stv s))) a_))) es_) p
noncomputable def gX(ds:List D):Prop:=ds.length<=20/\∀d∈ds,d.sort=true/\(aC d).length<=20/\toI d<=10^7
noncomputable def gA(d:D):Bool:=lR d && decide (0<=toI d)
theorem sM(p q:D->Bool):∀ds:List D,(ds.all p && ds.all q)=ds.all λd=>p d && q d
 | []=>rfl
 | d::ds=>by
  rw [all_cons,all_cons,all_cons,<- sM p q ds];cases p d <;> cases q d <;> cases ds.all p <;> cases ds.all q <;> rfl
def p9{g t:List D}{n:Nat}:ppB (.lst [.lst g,.lst t]) n=((decide (g.length=n) && g.all gA) && (decide (t.length=n) && t.all gA)):=by
 have e:∀ds:List D,prB (.lst ds) n=(decide (ds.length=n) && ds.all gA):=λds=>by
  unfold prB c5;show ((true && (decide ((ds.length:Int)=n) && ds.all lR)) && ds.all (λx=>decide (0<=toI x)))=_;rw [Ib,Bool.and_assoc,sM];rw [show decide ((ds.length:Int)=n)=decide (ds.length=n) from decide_eq_decide.mpr (by omega)];rfl
 unfold ppB;show (true && (decide ((2:Nat)=2) && (prB (.lst g) n && (prB (.lst t) n && true))))=_;rw [e,e,decide_eq_true rfl,Ib,Ib,Bool.and_true]
def wU{g t:List D}{ws:List (List Nat)}(h:ppB (.lst [.lst g,.lst t]) ws.length=false):gW (.lst [.lst g,.lst t]) ws=false:=by unfold gW;rw [h,HQ]
def wV{g t:List D}{ws:List (List Nat)}{d:D}(h:d∈g++t)(hb:gA d=false):gW (.lst [.lst g,.lst t]) ws=false:=by
 refine wU ?_;rw [p9]
 rcases Ij.mp h with h|h
 .rw [show g.all gA=false from all_eq_false.mpr ⟨d,h,by rw [hb];decide⟩,HY,HQ]
 .rw [show t.all gA=false from all_eq_false.mpr ⟨d,h,by rw [hb];decide⟩,HY,HY]
def i4{g:List D}(h:∀d∈g,gA d=true):∃gs:List Int,g=gs.map .int:=⟨g.map toI,nU (Hj.mpr λd hd=>by have:=h d hd;unfold gA at this;rw [and_eq_true] at this;exact this.1)⟩
def DO{gs ts:List Int}{ws:List (List Nat)}(hl:gs.length=ws.length)(tl:ts.length=ws.length)(hg:∀d∈gs.map D.int++ts.map D.int,gA d=true):gW (.lst [.lst (gs.map .int),.lst (ts.map .int)]) ws=true ↔ ∀i j,i<ws.length->j<ws.length->i≠j->(j3 (pw ws i) (pw ws j):Int)<=gs.getD i 0+ts.getD j 0:=by
 unfold gW;rw [p9,length_map,length_map,decide_eq_true hl,decide_eq_true tl,Hj.mpr λd hd=>hg d (IW _ hd),Hj.mpr λd hd=>hg d (t_ _ hd)];show (true && (wT ws.length).all λp=>decide ((j3 (pw ws p.1) (pw ws p.2):Int)<=nmb (.lst (gs.map .int)) p.1+nmb (.lst (ts.map .int)) p.2))=true ↔ _;rw [Ib,Hj]
 constructor
 .intro h i j hi hj hij;have:=of_decide_eq_true (h (i,j) (oj.mpr ⟨hi,hj,hij⟩));rw [(fV (.lst _) (by omega)).1,(fV (.lst _) (by omega)).1] at this;exact this
 .intro h p hp;obtain⟨h1,h2,h3⟩:=oj.mp hp;rw [(fV (.lst _) (by omega)).1,(fV (.lst _) (by omega)).1];exact decide_eq_true (h p.1 p.2 h1 h2 h3)
def gX.ints{zs:List Int}(h:Bnd zs):gX (zs.map .int):=⟨by rw [length_map];have:=h.1;omega,λd hd=>by obtain⟨z,hz,rfl⟩:=Iz.mp hd;exact⟨rfl,Iy _,(h.2 z hz).2⟩⟩
def gX.put{ds:List D}(h:gX ds){i:Nat}{d:D}(hs:d.sort=true/\(aC d).length<=20/\toI d<=10^7):gX (ds.set i d):=⟨by rw [Hn];exact h.1,λx hx=>(mem_or_eq_of_mem_set hx).elim (h.2 x) λz=>by rw [z];exact hs⟩
def gX.del{ds:List D}(h:gX ds)(i:Nat):gX (ds.eraseIdx i):=⟨E_ (length_eraseIdx_le ..) h.1,λx hx=>h.2 x (mem_of_mem_eraseIdx hx)⟩
noncomputable def gB:FN:=λa_ Q=>cL (λds=>cL (λg=>cL (λt=>cN (∃ws:List (List Nat),ds=ws.map .str/\(ws.length<=40/\Pcs 60 ws)/\(gX g/\gX t)/\Q (.dat (.bl (gW (.lst [.lst g,.lst t]) ws))))))) a_
noncomputable def iE:FR:=λp a_ Q=>oL (λes_=>cI (λc0=>cI (λc1=>cN (cL (λg=>cL (λt=>cN (SOk (c0,c1)/\∃gs ts:List Int,g=gs.map .int/\t=ts.map .int/\(Bnd gs/\Bnd ts)/\∀(ds es:List D) (s:Int×Int),SOk s->gX ds->gX es->Q (.dat (.lst [.lst ds,.lst es])) (stv s)))) a_))) es_) p
noncomputable def bY:FN:=λa_ Q=>cO (λc ns fs=>cD (λe=>cN (c="Family"/\ns=j4/\∃ps:List (List Nat),fs=j5 ps/\(okP e/\ps.length<=10/\(∀w∈aq ps,w.length<=60)/\∀r∈aC e,∀x∈aC r,toI x<=10^7)/\gW e (aq ps)=false/\Q (.dat (.bl true))))) a_
def qW:Nat:=13
def A0{g t:List D}(hg:gX g)(ht:gX t):okP (.lst [.lst g,.lst t])/\∀r∈([.lst g,.lst t]:List D),∀x∈aC r,toI x<=10^7:=by
 refine⟨⟨⟨rfl,λr hr=>?_⟩,by show 2<=1000;decide,λr hr=>?_⟩,λr hr=>?_⟩ <;> rcases mem_cons.mp hr with rfl|hr
 .exact⟨rfl,λx hx=>(hg.2 x hx).1⟩
 .rw [y_.mp hr];exact⟨rfl,λx hx=>(ht.2 x hx).1⟩
 .exact E_ hg.1 (by decide)
 .rw [y_.mp hr];exact E_ ht.1 (by decide)
 .exact λx hx=>(hg.2 x hx).2.2
 .rw [y_.mp hr];exact λx hx=>(ht.2 x hx).2.2
def A1{g t:List D}(hg:gX g)(ht:gX t):okP (.tup [.tup g,.lst t])/\∀r∈([.tup g,.lst t]:List D),∀x∈aC r,toI x<=10^7:=by
 refine⟨⟨⟨rfl,λr hr=>?_⟩,by show 2<=1000;decide,λr hr=>?_⟩,λr hr=>?_⟩ <;> rcases mem_cons.mp hr with rfl|hr
 .exact⟨rfl,λx hx=>(hg.2 x hx).1⟩
 .rw [y_.mp hr];exact⟨rfl,λx hx=>(ht.2 x hx).1⟩
 .exact E_ hg.1 (by decide)
 .rw [y_.mp hr];exact E_ ht.1 (by decide)
 .exact λx hx=>(hg.2 x hx).2.2
 .rw [y_.mp hr];exact λx hx=>(ht.2 x hx).2.2
def yw(ws:List (List Nat)):(ws.flatten.length:Int)=(ws.map λw=>(w.length:Int)).sum:=by
 induction ws with
 | nil=>rfl
 | cons w ws ih=>rw [flatten_cons,length_append,map_cons,sum_cons,<- ih,natCast_add]
noncomputable def c7:FN
 | [.obj c ns fs,.lst ds,.lst [.lst g,.lst t]],Q=>c="Family"/\ns=j4/\∃ps:List (List Nat),fs=j5 ps/\ds=(aq ps).map .str/\(ps.length<=10/\Pcs 60 (aq ps))/\(gX g/\gX t)/\Q (.dat (.bl true))
 | _,_=>False
def DP(gs ts:List Int):Sh (.lst [.lst (gs.map .int),.lst (ts.map .int)]):=(Fl.lst (n:=1) λd hd=>by
 rcases mem_cons.mp hd with rfl|hd
 .exact Fl.lst (n:=0) (Fl.ints gs)
 .rw [y_.mp hd];exact Fl.lst (n:=0) (Fl.ints ts)).sh (by decide)
noncomputable def yx(ws:List (List Nat))(d:D):Prop:=okP d/\(∀r∈aC d,∀x∈aC r,toI x<=10^7)/\gW d ws=false
def yx.flat{ws:List (List Nat)}{d:D}(h:d.sort=true)(hi:aC d=[])(hp:ppB d ws.length=false):yx ws d:=by
 have hn:∀{P:D->Prop},∀r∈aC d,P r:=λr hr=>by rw [hi] at hr;cases hr
 exact⟨⟨⟨h,hn⟩,by rw [hi];exact Iy _,hn⟩,hn,by unfold gW;rw [hp];rfl⟩
def A2{d:D}{ys:List D}{Q:PV->Prop}(h:Sh d\/d=.dic [] [])(hl:Sh (.lst ys))(q:∀b,Q (.dat (.bl b))):Ea d (.lst ys) Q:=by
 rcases h with h|rfl
 .cases d <;> first|exact q _|exact⟨vy.of h hl,q _⟩|exact (by unfold Ea D4 fNe;exact⟨vy.of h hl,q _⟩)
 .exact q _
def A3{ws:List (List Nat)}{gs ts:List Int}(bg:Bnd gs)(bt:Bnd ts):∀d∈[D.non,D.bl true,D.int 7,D.str [97,98],D.lst [],D.lst [D.lst (gs.map .int)],D.lst [D.lst (gs.map .int),D.lst (ts.map .int),D.lst []],D.dic [] [],D.lst [D.lst (gs.map .int),D.non],D.lst [D.str [],D.str []]],(Sh d\/d=.dic [] [])/\yx ws d:=by
 have rg:=gX.ints bg;have rt:=gX.ints bt;have fg:Fl 1 (.lst (gs.map .int)):=Fl.lst (n:=0) (Fl.ints gs);have ft:Fl 1 (.lst (ts.map .int)):=Fl.lst (n:=0) (Fl.ints ts)
 have rows:∀ds:List D,ds.length<=1000->(∀d∈ds,d=.lst (gs.map .int)\/d=.lst (ts.map .int)\/(d.sort=true/\aC d=[]/\Fl 1 d))->ppB (.lst ds) ws.length=false->(Sh (.lst ds)\/D.lst ds=.dic [] [])/\yx ws (.lst ds):=λds hl h hp=>by
  refine⟨.inl ((Fl.lst (n:=1) λd hd=>?_).sh (by decide)),⟨⟨rfl,λr hr=>?_⟩,hl,λr hr=>?_⟩,λr hr=>?_,by unfold gW;rw [hp];rfl⟩
  .rcases h d hd with rfl|rfl|h
   .exact fg
   .exact ft
   .exact h.2.2
  .rcases h r hr with rfl|rfl|h
   .exact⟨rfl,λx hx=>(rg.2 x hx).1⟩
   .exact⟨rfl,λx hx=>(rt.2 x hx).1⟩
   .exact⟨h.1,λx hx=>by rw [h.2.1] at hx;cases hx⟩
  .rcases h r hr with rfl|rfl|h
   .exact E_ rg.1 (by decide)
   .exact E_ rt.1 (by decide)
   .rw [h.2.1];exact Iy _
  .rcases h r hr with rfl|rfl|h
   .exact λx hx=>(rg.2 x hx).2.2
   .exact λx hx=>(rt.2 x hx).2.2
   .exact λx hx=>by rw [h.2.1] at hx;cases hx
 intro d hd
 rcases mem_cons.mp hd with rfl|hd
 .exact⟨.inl ((Fl.non (n:=0)).sh (by decide)),yx.flat rfl rfl rfl⟩
 rcases mem_cons.mp hd with rfl|hd
 .exact⟨.inl ((Fl.bl (n:=0) true).sh (by decide)),yx.flat rfl rfl rfl⟩
 rcases mem_cons.mp hd with rfl|hd
 .exact⟨.inl ((Fl.int (n:=0) 7).sh (by decide)),yx.flat rfl rfl rfl⟩
 rcases mem_cons.mp hd with rfl|hd
 .exact⟨.inl ((Fl.str (n:=0) (by decide)).sh (by decide)),yx.flat rfl rfl rfl⟩
 rcases mem_cons.mp hd with rfl|hd
 .exact rows [] (by decide) (λd hd=>nomatch hd) rfl
 rcases mem_cons.mp hd with rfl|hd
 .exact rows [_] (by show 1<=_;decide) (λd hd=>by rw [y_.mp hd];exact .inl rfl) rfl
 rcases mem_cons.mp hd with rfl|hd
 .exact rows [_,_,_] (by show 3<=_;decide) (λd hd=>by
   rcases mem_cons.mp hd with rfl|hd
   .exact .inl rfl
   rcases mem_cons.mp hd with rfl|hd
   .exact .inr (.inl rfl)
   rw [y_.mp hd];exact .inr (.inr ⟨rfl,rfl,Fl.lst (n:=0) λd hd=>nomatch hd⟩)) rfl
 rcases mem_cons.mp hd with rfl|hd
 .exact⟨.inr rfl,yx.flat rfl rfl rfl⟩
 rcases mem_cons.mp hd with rfl|hd
 .exact rows [_,_] (by show 2<=_;decide) (λd hd=>by
   rcases mem_cons.mp hd with rfl|hd
   .exact .inl rfl
   rw [y_.mp hd];exact .inr (.inr ⟨rfl,rfl,Fl.non⟩)) (by
   unfold ppB;show (true && (true && (prB (.lst (gs.map .int)) ws.length && (prB .non ws.length && true))))=false;rw [show prB .non ws.length=false from rfl,HQ,HY];rfl)
 rw [y_.mp hd]
 exact rows [_,_] (by show 2<=_;decide) (λd hd=>by
   have:d=.str []:=(mem_cons.mp hd).elim id λh=>y_.mp h;rw [this];exact .inr (.inr ⟨rfl,rfl,Fl.str (by decide)⟩)) rfl
noncomputable def jH:FR:=λp a_ Q=>oL (λes_=>cI (λc0=>cI (λc1=>cN (cN (SOk (c0,c1)/\∀s:Int×Int,SOk s->Q (.dat (.bl true)) (stv s)) a_))) es_) p
def y9:Nat:=2
abbrev za:FN:=Gk
noncomputable def qa(K:b_)(mg:Str->Option Value)(t:TxC K/\TxX K mg):=(have TC:=t.1;have TX:=t.2;show LS K [] _ _ from (aO (Cn .list .tuple lP (al (i:=0)))))
def wW:PTS:=psO qa
def wX:PRl i3 wW 1 1:=λ_ Q h=>um h λd _ h=>eA h λh=>A_ rfl <| by
 walk_at "z";obtain⟨hd,q⟩:=h;cases d <;> first|(cases hd;done)|(walk_at "r";exact q)
noncomputable def jV(K:b_)(mg:Str->Option Value)(t:TxC K/\TxX K mg):=(have TC:=t.1;have TX:=t.2;show LS K [] _ _ from (aO (jQ (kJ .int (al (i:=0))) (vv (kJ .bool (al (i:=0)))))))
def qb:PTS:=psO jV
def qc:PRl d8 qb 1 1:=λ_ Q h=>um h λd _ h=>eA h λh=>A_ rfl <| by
 walk_at "z";obtain⟨hd,q⟩:=h;cases d <;> first|(cases hd;done)|(walk_at "r";exact q)
noncomputable def gY(K:b_)(mg:Str->Option Value)(t:TxC K/\TxX K mg):=(have TC:=t.1;have TX:=t.2;show LS K [] _ _ from (aO (jQ (aJ (c:=i3) (aa (ae (ao (i:=0))) ac)) (jQ (aw gi (ae (aP bc (aa (al (i:=0)) ac))) (al (i:=1))) (aP pN (aa (ae (bI (ix:=[none]) rfl (cq (ao (i:=0))) (λfs hc=>(au (i:=0) (lJ hc (by decide)))) dH (aJ (c:=d8) (aa (ae (ao (i:=0))) ac)))) ac))))))
def lY:PTS:=psO gY
def lZ:PRl eJ lY 2 2:=λ_ Q h=>um h λd _ h=>gM h λm _ h=>eA h λh=>A_ rfl <| by
 walk_at "z";obtain⟨⟨hd,hs⟩,hl,q⟩:=h
 have body:∀ds:List D,aC d=ds->vN d=true->(ds.length:Int)=m->c5 d m=(ds.map lR).all id:=λds e1 e2 e3=>by
  unfold c5;rw [e1,e2,decide_eq_true e3,Ib,Ib,all_map];rfl
 have no:∀ds:List D,aC d=ds->¬ (ds.length:Int)=m->c5 d m=false:=λds e1 e3=>by
  unfold c5;rw [e1,decide_eq_false e3,HQ,HY]
 cases d with
 | lst ds =>
  have hl:ds.length<=1000000:=hl;walk_at "r"
  refine cM (λc=>?_) (λc=>?_)
  .walk_at "r"
   refine tN (λτ=>∃v,τ=[v]) (λk=>.bl (lR (itD ds k))) ?_ ?_ ?_
   .exact⟨_,rfl⟩
   .rintro k τ _ hk rfl ⟨v,rfl⟩ K1 k1;walk_at "r";exact⟨hs _ (fq hk),k1 _ ⟨_,rfl⟩⟩
   .rintro τ ⟨v,rfl⟩;walk_at "r";refine⟨(i_ ds.length).map λk=>lR (itD ds k),by rw [map_map];rfl,?_⟩;rw [body ds rfl rfl c] at q;rw [iS];exact q
  .walk_at "r";rw [no ds rfl c] at q;exact q
 | tup ds =>
  have hl:ds.length<=1000000:=hl;walk_at "r"
  refine cM (λc=>?_) (λc=>?_)
  .walk_at "r"
   refine tN (λτ=>∃v,τ=[v]) (λk=>.bl (lR (itD ds k))) ?_ ?_ ?_
   .exact⟨_,rfl⟩
   .rintro k τ _ hk rfl ⟨v,rfl⟩ K1 k1;walk_at "r";exact⟨hs _ (fq hk),k1 _ ⟨_,rfl⟩⟩
   .rintro τ ⟨v,rfl⟩;walk_at "r";refine⟨(i_ ds.length).map λk=>lR (itD ds k),by rw [map_map];rfl,?_⟩;rw [body ds rfl rfl c] at q;rw [iS];exact q
  .walk_at "r";rw [no ds rfl c] at q;exact q
 | str l=>walk_at "r";exact q
 | non=>walk_at "r";exact q
 | bl b=>walk_at "r";exact q
 | int i=>walk_at "r";exact q
 | ty n=>cases hd
 | scr ns=>cases hd
 | dic ks ds=>walk_at "r";exact q
 | obj c ns ds=>cases hd
 | exc c ns ds=>cases hd
noncomputable def i5(K:b_)(mg:Str->Option Value)(t:TxC K/\TxX K mg):=(have TC:=t.1;have TX:=t.2;show LS K [] _ _ from (aO (jQ (aJ (c:=eJ) (aa (ae (ao (i:=0))) (aa (ae (ao (i:=1))) ac))) (aP pN (aa (ae (bI (ix:=[none]) rfl (cq (ao (i:=0))) (λfs hc=>(au (i:=0) (lJ hc (by decide)))) dH (aw tI (al (i:=0)) (ae (le_int (i:=0)))))) ac)))))
def oq:PTS:=psO i5
def ou:PRl dA oq 2 2:=λ_ Q h=>um h λd _ h=>gM h λm _ h=>eA h λh=>A_ rfl <| by
 walk_at "z";obtain⟨hd,hl,q⟩:=h;walk_at "r"
 refine vq (λc=>?_) (λc=>?_)
 .have c:c5 d m=true:=c;obtain⟨zs,hz,rfl⟩:=wS c;rw [oi hz] at q;have hzl:(zs.map D.int).length=zs.length:=length_map _;rw [hz.items,hzl] at hl
  rcases hz with rfl|rfl <;> (
   walk_at "r"
   refine tN (λτ=>∃v,τ=[v]) (λk=>.bl (decide (0<=zs.getD k 0))) ?_ ?_ ?_
   .exact⟨_,rfl⟩
   .rintro k τ d hk ed ⟨v,rfl⟩ K1 k1;rw [nQ hk] at ed;subst ed;walk_at "r";exact k1 _ ⟨_,rfl⟩
   .rintro τ ⟨v,rfl⟩;walk_at "r";refine⟨(i_ (zs.map D.int).length).map λk=>decide (0<=zs.getD k 0),by rw [map_map];rfl,?_⟩;rw [hzl,DK (λz=>decide (0<=z)) zs,all_map];exact q)
 .have c:c5 d m=false:=c;walk_at "r";rw [show prB d m=false by unfold prB;rw [c];rfl] at q;exact q
noncomputable def eY(K:b_)(mg:Str->Option Value)(t:TxC K/\TxX K mg):=(have TC:=t.1;have TX:=t.2;show LS K [] _ _ from (aO (jQ (aJ (c:=i3) (aa (ae (ao (i:=0))) ac)) (jQ (aw gi (ae (aP bc (aa (al (i:=0)) ac))) (ae (le_int (i:=2)))) (aP pN (aa (ae (bI (ix:=[none,some 1]) rfl (cq (ao (i:=0))) (λfs hc=>(au (i:=0) (lJ hc (by decide)))) dH (aJ (c:=dA) (aa (ae (ao (i:=0))) (aa (ae (ao (i:=1))) ac))))) ac))))))
def jI:PTS:=psO eY
def jJ:PRl c6 jI 2 2:=λ_ Q h=>um h λd _ h=>gM h λm _ h=>eA h λh=>A_ rfl <| by
 walk_at "z";obtain⟨⟨⟨hd,hs⟩,hl,hl2⟩,q⟩:=h
 cases d with
 | lst ds =>
  have hl:ds.length<=1000:=hl;have hs:∀r∈ds,r.sort=true/\∀x∈aC r,x.sort=true:=hs;have hl2:∀r∈ds,(aC r).length<=1000:=hl2;walk_at "r"
  refine cM (λc=>?_) (λc=>?_)
  .rw [show ppB (.lst ds) m=(ds.all λr=>prB r m) by unfold ppB;rw [decide_eq_true (show (aC (.lst ds)).length=2 by show ds.length=2;omega)];rfl] at q;walk_at "r"
   refine tN (λτ=>∃v,τ=[v,some (.dat (.int m))]) (λk=>.bl (prB (itD ds k) m)) ?_ ?_ ?_
   .exact⟨_,rfl⟩
   .rintro k τ _ hk rfl ⟨v,rfl⟩ K1 k1;have h1:Srt (itD ds k):=hs _ (fq hk);have h2:(aC (itD ds k)).length<=1000000:=E_ (hl2 _ (fq hk)) (by decide);walk_at "r";exact k1 _ ⟨_,rfl⟩
   .rintro τ ⟨v,rfl⟩;walk_at "r";refine⟨(i_ ds.length).map λk=>prB (itD ds k) m,by rw [map_map];rfl,?_⟩;rw [iS (λr=>prB r m) ds,all_map];exact q
  .rw [show ppB (.lst ds) m=false by unfold ppB;rw [decide_eq_false (show ¬ (aC (.lst ds)).length=2 by show ¬ ds.length=2;omega),HQ,HY]] at q;walk_at "r";exact q
 | tup ds =>
  have hl:ds.length<=1000:=hl;have hs:∀r∈ds,r.sort=true/\∀x∈aC r,x.sort=true:=hs;have hl2:∀r∈ds,(aC r).length<=1000:=hl2;walk_at "r"
  refine cM (λc=>?_) (λc=>?_)
  .rw [show ppB (.tup ds) m=(ds.all λr=>prB r m) by unfold ppB;rw [decide_eq_true (show (aC (.tup ds)).length=2 by show ds.length=2;omega)];rfl] at q;walk_at "r"
   refine tN (λτ=>∃v,τ=[v,some (.dat (.int m))]) (λk=>.bl (prB (itD ds k) m)) ?_ ?_ ?_
   .exact⟨_,rfl⟩
   .rintro k τ _ hk rfl ⟨v,rfl⟩ K1 k1;have h1:Srt (itD ds k):=hs _ (fq hk);have h2:(aC (itD ds k)).length<=1000000:=E_ (hl2 _ (fq hk)) (by decide);walk_at "r";exact k1 _ ⟨_,rfl⟩
   .rintro τ ⟨v,rfl⟩;walk_at "r";refine⟨(i_ ds.length).map λk=>prB (itD ds k) m,by rw [map_map];rfl,?_⟩;rw [iS (λr=>prB r m) ds,all_map];exact q
  .rw [show ppB (.tup ds) m=false by unfold ppB;rw [decide_eq_false (show ¬ (aC (.tup ds)).length=2 by show ¬ ds.length=2;omega),HQ,HY]] at q;walk_at "r";exact q
 | str l=>walk_at "r";exact q
 | non=>walk_at "r";exact q
 | bl b=>walk_at "r";exact q
 | int i=>walk_at "r";exact q
 | ty n=>cases hd
 | scr ns=>cases hd
 | dic ks ds=>walk_at "r";exact q
 | obj c ns ds=>cases hd
 | exc c ns ds=>cases hd
noncomputable def mY:PTS:=(kK (EY (pOr (EK (pB (Gg .str (pSl 0)))) (EK (pB (vz fLe fLe (pSl 1) (pFz (pCB A8 (cP (pSl 0) gL))) (pSl 2))))) (xV (pC (.bl false))) yK) (xV (pCB E6 (cP (pFz (tL [none] (tK (xR 0)) (jS 0) yN (vz fLe fLe (pFz (pC (.str [97]))) (pSl 0) (pFz (pC (.str [122])))))) gL))))
def jK:PRl eV mY 3 3:=λ_ Q h=>um h λd _ h=>gM h λa _ h=>gM h λb _ h=>eA h λh=>A_ rfl <| by
 walk_at "z";obtain⟨hd,hl,q⟩:=h
 cases d with
 | str l =>
  have hl:l.length<=1000000:=hl;walk_at "r"
  refine cM (λc1=>?_) (λc1=>?_)
  .walk_at "r"
   refine vt (λc2=>?_) (λc2=>?_)
   .walk_at "r";rw [show xZ (.str l) a b=false by rw [nR,decide_eq_false c2,HY];rfl] at q;exact q
   .walk_at "r"
    refine tN (λτ=>∃v,τ=[v]) (λk=>.bl (ltB (l.getD k 0))) ?_ ?_ ?_
    .exact⟨_,rfl⟩
    .rintro k τ _ hk rfl ⟨v,rfl⟩ K1 k1;walk_at "r"
     refine vt (λc=>?_) (λc=>?_)
     .have hc:97<=l.getD k 0:=of_decide_eq_true (by rw [<- qK];rw [decide_eq_false c];rfl);walk_at "r";show K1 (.bl (!decide (([122]:List Nat)<[l.getD k 0]))) _;rw [qK];rw [show ltB (l.getD k 0)=decide (l.getD k 0<=122) by unfold ltB;rw [decide_eq_true hc];rfl] at k1;exact k1 _ ⟨_,rfl⟩
     .have hc:¬ 97<=l.getD k 0:=of_decide_eq_false (by rw [<- qK,decide_eq_true c];rfl);walk_at "r";rw [show ltB (l.getD k 0)=false by unfold ltB;rw [decide_eq_false hc];rfl] at k1;exact k1 _ ⟨_,rfl⟩
    .rintro τ ⟨v,rfl⟩;walk_at "r";refine⟨(i_ l.length).map λk=>ltB (l.getD k 0),by rw [map_map];rfl,?_⟩
     have e:xZ (.str l) a b=(((i_ l.length).map λk=>ltB (l.getD k 0)).all id):=by
      rw [nR,decide_eq_true c1,decide_eq_true c2,Bool.and_self,Ib,fo];rw [all_map];rfl
     rw [e] at q;exact q
  .walk_at "r";rw [show xZ (.str l) a b=false by rw [nR,decide_eq_false c1,HQ];rfl] at q;exact q
 | non=>walk_at "r";exact q
 | bl b=>walk_at "r";exact q
 | int i=>walk_at "r";exact q
 | ty n=>cases hd
 | lst ds=>walk_at "r";exact q
 | tup ds=>walk_at "r";exact q
 | scr ns=>cases hd
 | dic ks ds=>walk_at "r";exact q
 | obj c ns ds=>cases hd
 | exc c ns ds=>cases hd
noncomputable def gZ(K:b_)(mg:Str->Option Value)(t:TxC K/\TxX K mg):=(have TC:=t.1;have TX:=t.2;show LS K [] _ _ from (aO (pO sv (ao (i:=0)) (aa (al (i:=1)) ac))))
def l0:PTS:=psO gZ
def l4:PRl c9 l0 2 2:=λ_ Q h=>xg h λa _ h=>xg h λb _ h=>eA h λh=>A_ rfl <| by
 walk_at "z";walk_at "r";exact h
noncomputable def hG(K:b_)(mg:Str->Option Value)(t:TxC K/\TxX K mg):=(have TC:=t.1;have TX:=t.2;show LS K [] _ _ from (aA (aR (ss false (aa (ae (ao (i:=0))) ac)) (aK (i:=1) rfl)) (aO (x8 (ix:=[none,none,some 1]) rfl (cq (ao (i:=1))) (λfs hc=>(au (i:=0) (lJ hc (by decide)))) dH (cq (ao (i:=2))) (λfs hc=>(au (i:=1) (lJ hc (by decide)))) (gF (aw jT (al (i:=0)) (al (i:=1)))) (kG (aa (ae (ao (i:=0))) (aa (ae (ao (i:=1))) ac)))))))
def l5:PTS:=psO hG
def l6:PRl eL l5 2 1:=λ_ Q h=>gM h λm _ h=>eA h λh=>A_ rfl <| by
 walk_at "z";obtain⟨⟨h0,h1⟩,q⟩:=h;obtain⟨n,rfl⟩:∃n:Nat,m=(n:Int):=⟨m.toNat,by omega⟩
 rw [toNat_natCast] at q;have hrl:(qI 0 n).length=n:=ir n;walk_at "r";rw [toNat_natCast,hrl]
 refine⟨⟨λk ys τ=>ys=((i_ k).flatMap λi=>((i_ n).filter λj=>decide (i≠j)).map λj=>(i,j)).map prT/\∃v w,τ=[v,w,some (.dat (.lst (qI 0 n)))],⟨rfl,_,_,rfl⟩,?_,?_⟩⟩
 .rintro k ys τ _ hk rfl ⟨rfl,v,w,rfl⟩;rw [jq (by rw [hrl];exact hk)];walk_at "r";rw [hrl]
  refine⟨λj zs τ=>zs=((i_ k).flatMap λi=>((i_ n).filter λj=>decide (i≠j)).map λj=>(i,j)).map prT++(((i_ j).filter λj=>decide (k≠j)).map λj=>(k,j)).map prT/\∃w,τ=[some (.dat (.int (k:Int))),w,some (.dat (.lst (qI 0 n)))],⟨(HE _).symm,w,rfl⟩,?_,?_⟩
  .rintro j zs τ _ hj rfl ⟨rfl,w,rfl⟩;rw [jq (by rw [hrl];exact hj)];have hlen:=om n (i_ k);have hkn:k*n<=40*40:=Lh (by omega) (by omega);walk_at "r"
   refine vt (λc=>?_) (λc=>?_)
   .walk_at "r"
    refine⟨?_,?_,_,rfl⟩
    .rw [length_append,length_map,length_map,length_map];have h2:((i_ j).filter λj=>decide (k≠j)).length<=j:=E_ (JR ..) (by rw [Hs];exact so _);rw [Hs] at hlen;omega
    .rw [Kz,filter_append,map_append,map_append,<- KY,filter_cons,if_pos (decide_eq_true (show k≠j by omega))];rfl
   .refine⟨?_,_,rfl⟩;rw [Kz,filter_append,filter_cons,if_neg (by rw [decide_eq_true_eq];omega)];simp
  .rintro zs τ ⟨rfl,w,rfl⟩;refine⟨?_,_,_,rfl⟩;rw [Kz,flatMap_append,map_append,flatMap_cons,flatMap_nil,HE]
 .rintro ys τ ⟨rfl,v,w,rfl⟩;walk_at "r";exact q
noncomputable def jW(K:b_)(mg:Str->Option Value)(t:TxC K/\TxX K mg):=(have TC:=t.1;have TX:=t.2;show LS K [] _ _ from (aA (cF (dr (mK (aJ (c:=c6) (aa (ae (ao (i:=0))) (aa (ae (aP bc (aa (al (i:=1)) ac))) ac))))) (aO (gc (i:=false))) bd) (aA (aR (ao (i:=0)) (pU (n:=2) (bq (au (i:=3) rfl) (bq (au (i:=4) rfl) fk)))) (aO (aP pN (aa (ae (bI (ix:=[none,none,some 3,some 4,some 1]) rfl (cq (ao (i:=2))) (λfs hc=>(nV (n:=2) (bq (au (i:=0) (lJ hc (by decide))) (bq (au (i:=1) (lJ hc (by decide))) fk)))) dH (aw tI (ae (aw br (ae (aw bH (al (i:=2)) (al (i:=0)))) (ae (aw bH (al (i:=3)) (al (i:=1)))))) (ae (aw bH (ae (aw bH (al (i:=4)) (al (i:=0)))) (al (i:=1))))))) ac))))))
def qe:PTS:=psO jW
def qf:PRl gy qe 5 3:=λ_ Q h=>um h λe _ h=>DD h λls _ h=>yt h λps _ h=>eA h λh=>A_ rfl <| by
 walk_at "z";obtain⟨ws,rfl,rfl,⟨oe,hn⟩,q⟩:=h;have hlm:(ws.map (Eb ws)).length=ws.length:=length_map _
 have hpl:((wT ws.length).map prT).length<=1600:=by
  rw [length_map];have:=om ws.length (i_ ws.length);rw [Hs] at this;have:ws.length*ws.length<=40*40:=Lh hn hn;unfold wT;omega
 walk_at "r";rw [hlm]
 refine f9 (vq (λc=>?_) (λc=>?_))
 .have c:ppB e ws.length=true:=c;obtain⟨g,t,gs,ts,he,hg,ht,gl,tl,e0,e1⟩:=AW c;rw [show gW e ws=((wT ws.length).all λp=>decide ((j3 (pw ws p.1) (pw ws p.2):Int)<=nmb g p.1+nmb t p.2)) by unfold gW;rw [c,e0,e1];rfl] at q;walk_at "r";refine vS he ⟨rfl,?_⟩;walk_at "r"
  refine cm2 (e:=prT) (xs:=wT ws.length) (λp=>.bl (decide ((j3 (pw ws p.1) (pw ws p.2):Int)<=nmb g p.1+nmb t p.2))) (λp hp v w K1 k1=>?_) (λv w=>?_)
  .obtain⟨h1,h2,h3⟩:=oj.mp hp;walk_at "r";refine CZ hg ⟨_,(fV hg (by omega)).2,?_⟩;walk_at "r";refine CZ ht ⟨_,(fV ht (by omega)).2,?_⟩;walk_at "r";refine⟨_,AU h1,?_⟩;walk_at "r";refine⟨_,DM h2,?_⟩;walk_at "r";exact k1 _ _
  .walk_at "r";refine⟨(wT ws.length).map λp=>decide ((j3 (pw ws p.1) (pw ws p.2):Int)<=nmb g p.1+nmb t p.2),by rw [map_map];rfl,?_⟩;rw [all_map];exact q
 .rw [show gW e ws=false by unfold gW;rw [show ppB e ws.length=false from c];rfl] at q;walk_at "r";exact q
noncomputable def hX(K:b_)(mg:Str->Option Value)(t:TxC K/\TxX K mg):=(have TC:=t.1;have TX:=t.2;show LS K [] _ _ from (aA (cF (dr (mK (aJ (c:=gy) (aa (ae (ao (i:=1))) (aa (ae (dY (ns0:=["pieces","kept","words","left","laps","total"]) TC.cl_Family TC.n_Family_laps (i:=4) (by decide +kernel) (al (i:=0)))) (aa (ae (aJ (c:=eL) (aa (ae (xW (c0:="Family") (m:="many") (ns0:=["pieces","kept","words","left","laps","total"]) (c:=cA) (by decide +kernel) (ao (i:=0)) ac)) ac))) ac)))))) (aO mJ) bd) (aA (aR (ao (i:=1)) (pU (n:=2) (bq (au (i:=2) rfl) (bq (au (i:=3) rfl) fk)))) (aO (aw gP (ae (aw gP (ae (dY (ns0:=["pieces","kept","words","left","laps","total"]) TC.cl_Family TC.n_Family_total (i:=5) (by decide +kernel) (al (i:=0)))) (ae (aP n9 (aa (al (i:=2)) ac))))) (ae (aP n9 (aa (al (i:=3)) ac))))))))
def l7:PTS:=psO hX
def l9:PRl eM l7 4 2:=λ_ Q h=>D9 h λc ns fs _ h=>um h λe _ h=>eA h λh=>A_ rfl <| by
 walk_at "z";obtain⟨rfl,rfl,ps,rfl,⟨oe,hn⟩,q⟩:=h;unfold FI at q;have hM:0<=((aq ps).length:Int)/\((aq ps).length:Int)<=40:=⟨by omega,by omega⟩
 walk_at "r"
 refine f9 (vq (λc=>?_) (λc=>?_))
 .have c:gW e (aq ps)=true:=c;rw [if_pos c] at q;obtain⟨g,t,gs,ts,he,hg,ht,gl,tl,e0,e1⟩:=AW (show ppB e (aq ps).length=true by unfold gW at c;rw [and_eq_true] at c;exact c.1);rw [e0,e1,kf hg,kf ht] at q;walk_at "r";refine vS he ⟨rfl,?_⟩;walk_at "r";rcases hg with rfl|rfl <;> rcases ht with rfl|rfl <;> (walk_at "r";exact q)
 .rw [if_neg (by rw [show gW e (aq ps)=false from c];decide)] at q;walk_at "r";exact q
noncomputable def lc(K:b_)(mg:Str->Option Value)(t:TxC K/\TxX K mg):=(have TC:=t.1;have TX:=t.2;show LS K [] _ _ from (aA (cF (gF (aw vx (al (i:=0)) (ae (le_int (i:=0))))) iO bd) (aA (aR (bF ac) (aK (i:=1) rfl)) (aA (aR (ao (i:=0)) (aK (i:=2) rfl)) (aA (sm (gF (aw tI (al (i:=2)) (ae (aw vw (ae (le_int (i:=10))) (ae (le_int (i:=64))))))) iO) (aA (dG (iQ (i:=1) (aP iu (aa (al (i:=2)) ac)))) (aO (pO iU (le_str (l:=[])) (aa (ae (wN (al (i:=1)) (tG mP (ae (le_int (i:=1)))))) ac)))))))))
def qX:PTS:=psO lc
def qY:PRl iC qX 4 1:=λ_ Q h=>gM h λn _ h=>eA h λh=>A_ rfl <| by
 walk_at "z";obtain⟨⟨h0,h1⟩,q⟩:=h;have hp:(10:Int)^Lw 64=10000000000000000000000000000000000000000000000000000000000000000:=by decide +kernel
 have hd:=cW (i:=n) ⟨by omega,h1⟩;walk_at "r";refine⟨λ_ ρ=>ρ=[some (.dat (.int n)),some (.own []),some (.dat (.int n)),none],⟨0,rfl⟩,?_⟩;rintro m ρ rfl;walk_at "r";exact⟨[lK n],rfl,by rw [flatten_cons,flatten_nil,HE];omega,by rw [flatten_cons,flatten_nil,HE];exact q⟩
noncomputable def qg(K:b_)(mg:Str->Option Value)(t:TxC K/\TxX K mg):=(have TC:=t.1;have TX:=t.2;show LS K [] _ _ from (aA (cF (gF (aw vx (al (i:=0)) (ae (le_int (i:=0))))) (aO (aw br (ae (le_str (l:=[45]))) (ae (aJ (c:=iC) (aa (ae (tG mP (al (i:=0)))) ac))))) bd) (aA (aR (bF ac) (aK (i:=1) rfl)) (aA (aR (ao (i:=0)) (aK (i:=2) rfl)) (aA (sm (gF (aw tI (al (i:=2)) (ae (aw vw (ae (le_int (i:=10))) (ae (le_int (i:=64))))))) iO) (aA (dG (iQ (i:=1) (aP iu (aa (al (i:=2)) ac)))) (aO (pO iU (le_str (l:=[])) (aa (ae (wN (al (i:=1)) (tG mP (ae (le_int (i:=1)))))) ac)))))))))
def wY:PTS:=psO qg
def wZ:PRl eW wY 4 1:=λ_ Q h=>gM h λn _ h=>eA h λh=>A_ rfl <| by
 walk_at "z";obtain⟨⟨h0,h1⟩,q⟩:=h;have hp:(10:Int)^Lw 64=10000000000000000000000000000000000000000000000000000000000000000:=by decide +kernel
 have hd:=cW (i:=n) ⟨by omega,h1⟩;walk_at "r"
 refine cM (λc=>?_) (λc=>?_)
 .have hl:=cW (i:=-n) ⟨by omega,by omega⟩;have g:0<=-n/\-n<=10^15:=⟨by omega,by omega⟩
  walk_at "r";obtain⟨m,rfl⟩:∃m:Nat,n=-((m+1:Nat):Int):=⟨(-n).toNat - 1,by omega⟩
  rw [sL] at q;rw [neg_neg];exact q
 .walk_at "r";refine⟨λ_ ρ=>ρ=[some (.dat (.int n)),some (.own []),some (.dat (.int n)),none],⟨0,rfl⟩,?_⟩;rintro m ρ rfl;walk_at "r";exact⟨[lK n],rfl,by rw [flatten_cons,flatten_nil,HE];omega,by rw [flatten_cons,flatten_nil,HE];exact q⟩
noncomputable def lf(K:b_)(mg:Str->Option Value)(t:TxC K/\TxX K mg)(Ec:D->Prop)(E:XK):=(have TC:=t.1;have TX:=t.2;show LSX K Ec E [] _ _ from (mS (LS.x (aR (aJ (c:=eM) (aa (ae (ao (i:=0))) (aa (ae (ao (i:=1))) ac))) (aK (i:=2) rfl))) (mS (Fn (gF (aw (EV (neg:=false)) (al (i:=2)) (ae mJ))) (wt (c:="NoPaper") TX.all (Hd.mp (by decide +kernel))) (LS.x bd)) (mS (LS.x (aR (ao (i:=1)) (pU (n:=2) (bq (au (i:=3) rfl) (bq (au (i:=4) rfl) fk))))) (mS (LS.x (aR (bF ac) (aK (i:=5) rfl))) (mS (De (AQ (aa (ae (dY (ns0:=["pieces","kept","words","left","laps","total"]) TC.cl_Family TC.n_Family_words (i:=2) (by decide +kernel) (al (i:=0)))) (aa (ae (ao (i:=3))) (aa (ae (ao (i:=4))) ac)))) (nV (n:=3) (bq (au (i:=6) rfl) (bq (au (i:=7) rfl) (bq (au (i:=8) rfl) fk)))) (LS.x (dG (iQ (i:=5) (wI (LJ.ex (ao (i:=6)) (LJ.lit (l:=[32,103,105,118,101,115,32]) rfl (LJ.ex (aJ (c:=eW) (aa (ae (ao (i:=7))) ac)) (LJ.lit (l:=[32,116,97,107,101,115,32]) rfl (LJ.ex (aJ (c:=eW) (aa (ae (ao (i:=8))) ac)) LJ.nil)))))))))) (mS (LS.x (dG (iQ (i:=5) (wI (LJ.ex (dY (ns0:=["pieces","kept","words","left","laps","total"]) TC.cl_Family TC.n_Family_total (i:=5) (by decide +kernel) (al (i:=0))) (LJ.lit (l:=[32,108,101,115,115,32]) rfl (LJ.ex (aJ (c:=eW) (aa (ae (aw br (ae (aP n9 (aa (al (i:=3)) ac))) (ae (aP n9 (aa (al (i:=4)) ac))))) ac)) (LJ.lit (l:=[32,105,115,32]) rfl (LJ.ex (aJ (c:=eW) (aa (ae (ao (i:=2))) ac)) LJ.nil))))))))) (LS.x (aO (aP dy (aa (al (i:=5)) ac)))))))))))
def qZ:(D->Prop)->PTS:=psX lf
def rc:XRl dO qZ 9 2:=λ_ Q E h=>D9 h λc ns fs _ h=>um h λe _ h=>eA h λh=>A_ rfl <| by
 walk_at "z";obtain⟨rfl,rfl,ps,rfl,⟨oe,hn,hw,hm⟩,q1,q2⟩:=h;have hwn:=eT ps;have h1:okP e/\(aq ps).length<=40:=⟨oe,by omega⟩
 have hb:FI e ps=if gW e (aq ps)=true then .int (kQ ps - Bc (itD (aC e) 0) - Bc (itD (aC e) 1)) else .non:=rfl
 have hsum:kQ ps=((aq ps).map λw=>(w.length:Int)).sum:=rfl
 cases hp:gW e (aq ps) with
 | false =>
  have q2:=q2 hp;rw [hp,if_neg (by decide)] at hb;walk_at "r";rw [hb];walk_at "r";exact q2
 | true =>
  have q1:=q1 hp;rw [hp,if_pos rfl] at hb;obtain⟨g,t,gs,ts,he,hg,ht,gl,tl,e0,e1⟩:=AW (show ppB e (aq ps).length=true by unfold gW at hp;rw [and_eq_true] at hp;exact hp.1);rw [e0,e1,kf hg,kf ht,hsum] at hb;rw [e0,e1,hg.items,ht.items,jG,jG] at q1;have hgi:∀x∈gs,x<=10^7:=λx hx=>hm g (by rw [he.items];exact mem_cons_self) (.int x) (by rw [hg.items];exact Iz.mpr ⟨x,hx,rfl⟩);have hti:∀x∈ts,x<=10^7:=λx hx=>hm t (by rw [he.items];exact p_ _ mem_cons_self) (.int x) (by rw [ht.items];exact Iz.mpr ⟨x,hx,rfl⟩)
  obtain⟨hg0,ht0⟩:=DN (show ppB e (aq ps).length=true by unfold gW at hp;rw [and_eq_true] at hp;exact hp.1) he hg ht gl tl;obtain⟨sg0,sg1⟩:=iD (m:=10^7) hg0 hgi;obtain⟨st0,st1⟩:=iD (m:=10^7) ht0 hti;have hws:=iD (m:=60) (zs:=(aq ps).map λw=>(w.length:Int)) (λx hx=>by obtain⟨w,_,rfl⟩:=Iz.mp hx;omega) (λx hx=>by obtain⟨w,hy,rfl⟩:=Iz.mp hx;have:=hw w hy;omega);rw [length_map] at hws
  have gm:(gs.map D.int).length=gs.length:=length_map _;have tm:(ts.map D.int).length=ts.length:=length_map _;have wm:((aq ps).map D.str).length=(aq ps).length:=length_map _;walk_at "r";rw [hb];walk_at "r";refine vS he ⟨rfl,?_⟩;walk_at "r";have rg:rowD g=some (gs.map .int):=by rcases hg with rfl|rfl <;> rfl
  have rt:rowD t=some (ts.map .int):=by rcases ht with rfl|rfl <;> rfl
  rw [show rowD (.tup ((aq ps).map D.str))=some ((aq ps).map D.str) from rfl,rg,rt]
  refine⟨⟨by omega,by omega⟩,λk ρ=>∃v6 v7 v8:Option PV,ρ=[some (.dat (.obj "Family" j4 (j5 ps))),some (.dat e),some (.dat (.int (((aq ps).map λw=>(w.length:Int)).sum - gs.sum - ts.sum))),some (.dat g),some (.dat t),some (.own ((i_ k).map λk=>D.str (AX (aq ps) gs ts k))),v6,v7,v8],⟨_,_,_,rfl⟩,?_,?_⟩
  .rintro k ρ d hk ed ⟨v6,v7,v8,rfl⟩;have hk:k<(aq ps).length:=by rw [wm] at hk;exact hk
   rw [fS (show ((aq ps).map D.str)[k]?=some (.str (pw (aq ps) k)) by rw [q_,gQ hk];rfl),nQ (by omega),nQ (by omega)] at ed;subst ed;have g1:=hgi _ (jU (k:=k) (d:=0) (by omega));have g2:=hg0 _ (jU (k:=k) (d:=0) (by omega));have t1:=hti _ (jU (k:=k) (d:=0) (by omega));have t2:=ht0 _ (jU (k:=k) (d:=0) (by omega));have wk:=hw _ (fT hk);have hrm:((i_ k).map λk=>D.str (AX (aq ps) gs ts k)).length=k:=by rw [length_map,Hs]
   have dg:=cW (i:=gs.getD k 0) ⟨by omega,by omega⟩;have dt:=cW (i:=ts.getD k 0) ⟨by omega,by omega⟩;walk_at "r";rw [Kz,map_append];exact⟨_,_,_,rfl⟩
  .rintro ρ ⟨v6,v7,v8,rfl⟩;rw [wm];have hrm:((i_ (aq ps).length).map λk=>D.str (AX (aq ps) gs ts k)).length=(aq ps).length:=by rw [length_map,Hs]
   have dl:=cW (i:=kQ ps) ⟨by omega,by omega⟩;have d2:=cW (i:=gs.sum+ts.sum) ⟨by omega,by omega⟩;have d3:=cW (i:=((aq ps).map λw=>(w.length:Int)).sum - gs.sum - ts.sum) ⟨by omega,by omega⟩;walk_at "r";rcases hg with rfl|rfl <;> rcases ht with rfl|rfl <;> (walk_at "r";exact q1)
noncomputable def zb(K:b_)(mg:Str->Option Value)(t:TxC K/\TxX K mg):=(have TC:=t.1;have TX:=t.2;show LS K [] _ _ from (aA (du (Cs (aa (ae (aw gP (ae (aP qG (aa (ae (aP bc (aa (al (i:=0)) ac))) (aa (ae (aP bc (aa (al (i:=1)) ac))) ac)))) (ae (le_int (i:=1))))) (aa (ae (le_int (i:=0))) (aa (ae (tG mP (ae (le_int (i:=1))))) ac)))) (au (i:=2) rfl) (cF (mK (pO An (ao (i:=0)) (aa (ae (fj (al (i:=1)) gG (dW (ao (i:=2))))) ac))) (aO (ao (i:=2))) bd)) (aO (le_int (i:=0)))))
def DQ:PTS:=psO zb
def DR:PRl p8 DQ 3 2:=λ_ Q h=>xg h λa _ h=>xg h λb _ h=>eA h λh=>A_ rfl <| by
 walk_at "z";obtain⟨⟨a0,a1⟩,⟨b0,b1⟩,q⟩:=h;have hm:(if (b.length:Int)<(a.length:Int) then (b.length:Int) else (a.length:Int))=((min a.length b.length:Nat):Int):=by split <;> omega
 walk_at "r"
 refine⟨λi ρ=>(∃v2:Option PV,ρ=[some (.dat (.str a)),some (.dat (.str b)),v2])/\∀j,min a.length b.length - i<=j->j<min a.length b.length->¬ b.take j <:+ a,⟨⟨_,rfl⟩,λj h1 h2=>by omega⟩,?_,?_⟩
 .rintro i ρ d hi ed ⟨⟨v2,rfl⟩,ih⟩;have hi:i<(((if (b.length:Int)<(a.length:Int) then (b.length:Int) else (a.length:Int)) - 1) - 0).toNat:=hi;have ed:d=.int (((if (b.length:Int)<(a.length:Int) then (b.length:Int) else (a.length:Int)) - 1) - (i:Int)):=ed;rw [hm] at hi ed;obtain⟨k,hk,hk2⟩:∃k:Nat,(((min a.length b.length:Nat):Int) - 1) - (i:Int)=(k:Int)/\k=min a.length b.length - 1 - i:=⟨min a.length b.length - 1 - i,by omega,rfl⟩
  rw [hk] at ed;subst ed;walk_at "r";rw [kv]
  refine cM (λc=>?_) (λc=>?_)
  .walk_at "r"
   rw [show j3 a b=k from nX ⟨by omega,c,λj h1 h2=>by
    rcases lt_or_ge k j with h|h
    .exact absurd h2 (ih j (by omega) h1)
    .exact h⟩] at q
   exact q
  .refine⟨⟨_,rfl⟩,λj h1 h2=>?_⟩
   by_cases hj:j=k
   .rw [hj];exact c
   .exact ih j (by omega) h2
 .rintro ρ ⟨⟨v2,rfl⟩,ih⟩;rw [hm] at ih;walk_at "r"
  rw [show j3 a b=0 from nX ⟨by omega,by rw [take_zero];exact nil_suffix,λj h1 h2=>by
   rcases eq_zero_or_pos j with h|h
   .omega
   .exact absurd h2 (ih j (by omega) h1)⟩] at q
  exact q
noncomputable def lg(K:b_)(mg:Str->Option Value)(t:TxC K/\TxX K mg):=(have TC:=t.1;have TX:=t.2;show LS K [] _ _ from (aO (aP dy (aa (ae (bI (ix:=[none,some 0]) rfl (cq (ao (i:=0))) (λfs hc=>(au (i:=0) (lJ hc (by decide)))) dH (aP dy (aa (ae (bI (ix:=[none,some 0]) rfl (cq (ao (i:=1))) (λfs hc=>(au (i:=0) (lJ hc (by decide)))) dH (aJ (c:=p8) (aa (ae (ao (i:=1))) (aa (ae (ao (i:=0))) ac))))) ac)))) ac))))
def re:PTS:=psO lg
def rf:PRl fJ re 1 1:=λ_ Q h=>DD h λds _ h=>eA h λh=>A_ rfl <| by
 walk_at "z";obtain⟨ws,rfl,⟨hn,hw⟩,q⟩:=h;have hlm:(ws.map D.str).length=ws.length:=length_map _
 have rr:∀f:List Nat->D,(i_ (ws.map D.str).length).map (λk=>f (pw ws k))=ws.map f:=λf=>by
  rw [hlm];apply JH;intro k;rw [q_,q_]
  by_cases hk:k<ws.length
  .rw [Ie hk,gQ hk];rfl
  .rw [G_ (by rw [Hs];omega),G_ (by omega)];rfl
 walk_at "r"
 refine tN (λτ=>∃v,τ=[v,some (.dat (.tup (ws.map .str)))]) (λk=>.tup (ws.map λv=>.int (j3 (pw ws k) v:Int))) ?_ ?_ ?_
 .exact⟨_,rfl⟩
 .rintro k τ d hk ed ⟨v,rfl⟩ K1 k1;rw [gf hk] at ed;subst ed;have w1:=hw _ (fT (show k<ws.length by omega));walk_at "r"
  refine tN (λτ=>∃v,τ=[v,some (.dat (.str (pw ws k)))]) (λj=>.int (j3 (pw ws k) (pw ws j):Int)) ?_ ?_ ?_
  .exact⟨_,rfl⟩
  .rintro j τ d hj ed ⟨v,rfl⟩ K2 k2;rw [gf hj] at ed;subst ed;have w2:=hw _ (fT (show j<ws.length by omega));walk_at "r";exact k2 _ ⟨_,rfl⟩
  .rintro τ ⟨v,rfl⟩;rw [rr (λw=>D.int (j3 (pw ws k) w:Int))];walk_at "r";exact k1 _ ⟨_,rfl⟩
 .rintro τ ⟨v,rfl⟩;rw [rr (λw=>D.tup (ws.map λv=>.int (j3 w v:Int)))];walk_at "r";exact q
noncomputable def gC(K:b_)(mg:Str->Option Value)(t:TxC K/\TxX K mg):=(have TC:=t.1;have TX:=t.2;show LS K [] _ _ from (aA (cF (gF (aw tH (ae (aP bc (aa (al (i:=0)) ac))) (ae (le_int (i:=40))))) iO bd) (du (Af (aa (ae (ao (i:=0))) ac)) (nV (n:=2) (bq (au (i:=1) rfl) (bq (au (i:=2) rfl) fk))) (cF (dr (mK (xY (c:=eV) (vs0:=[]) (ds:=[]) (by repeat (first|exact .nil|exact .cons (.int _) .nil|refine .cons (.int _) ?_)) (aa (ae (ao (i:=2))) (aa (ae (le_int (i:=1))) (aa (ae (le_int (i:=60))) ac)))))) iO bd))))
def lh:PTS:=psO gC
def ll:PRl cY lh 3 1:=λ_ Q h=>um h λd _ h=>eA h λh=>A_ rfl <| by
 walk_at "z";obtain⟨ws,hd,⟨hn,hp⟩,q⟩:=h;have hlm:(ws.map D.str).length=ws.length:=length_map _
 rcases hd with rfl|rfl
 .walk_at "r"
  refine⟨λk ρ=>∃v1 v2:Option PV,ρ=[some (.dat (.lst (ws.map .str))),v1,v2],⟨_,_,rfl⟩,?_,?_⟩
  .rintro k ρ d hk ed ⟨v1,v2,rfl⟩;have ed:d=.tup [.int k,itD (ws.map D.str) k]:=ed;rw [gf hk] at ed;subst ed;have hw:=hp _ (fT (show k<ws.length by omega));have ht:xZ (.str (pw ws k)) 1 60=true:=vJ.mpr hw;have h1:(pw ws k).length<=1000000:=by have:=hw.2.1;omega
   walk_at "r";refine zV ht ?_;exact⟨_,_,rfl⟩
  .rintro ρ ⟨v1,v2,rfl⟩;exact q
 .walk_at "r"
  refine⟨λk ρ=>∃v1 v2:Option PV,ρ=[some (.dat (.tup (ws.map .str))),v1,v2],⟨_,_,rfl⟩,?_,?_⟩
  .rintro k ρ d hk ed ⟨v1,v2,rfl⟩;have ed:d=.tup [.int k,itD (ws.map D.str) k]:=ed;rw [gf hk] at ed;subst ed;have hw:=hp _ (fT (show k<ws.length by omega));have ht:xZ (.str (pw ws k)) 1 60=true:=vJ.mpr hw;have h1:(pw ws k).length<=1000000:=by have:=hw.2.1;omega
   walk_at "r";refine zV ht ?_;exact⟨_,_,rfl⟩
  .rintro ρ ⟨v1,v2,rfl⟩;exact q
noncomputable def fU(K:b_)(mg:Str->Option Value)(t:TxC K/\TxX K mg):=(have TC:=t.1;have TX:=t.2;show LS K [] _ _ from (aO (aw tI (ae (aJ (c:=c9) (aa (ae (ao (i:=1))) (aa (ae (ao (i:=0))) ac)))) (ae (le_int (i:=0))))))
def j7:PTS:=psO fU
def j8:PRl bx j7 2 2:=λ_ Q h=>xg h λa _ h=>xg h λb _ h=>eA h λh=>A_ rfl <| by
 walk_at "z";walk_at "r";exact h
noncomputable def mZ(K:b_)(mg:Str->Option Value)(t:TxC K/\TxX K mg):=(have TC:=t.1;have TX:=t.2;show LS K [] _ _ from (aA (aR (aw bH (al (i:=0)) (al (i:=1))) (aK (i:=2) rfl)) (aA (aR (bI (ix:=[none,some 2]) rfl (cq (ao (i:=0))) (λfs hc=>(au (i:=0) (lJ hc (by decide)))) (gF (aw tH (ae (aP bc (aa (al (i:=0)) ac))) (ae (aP bc (aa (al (i:=1)) ac))))) (ao (i:=0))) (aK (i:=3) rfl)) (aO (jQ (aw (wE (neg:=true)) (al (i:=2)) (ae (fj (al (i:=0)) gG (dW (ao (i:=1)))))) (vv (aP CJ (aa (ae (bI (ix:=[none,some 2]) rfl (cq (ao (i:=3))) (λfs hc=>(au (i:=0) (lJ hc (by decide)))) dH (aJ (c:=bx) (aa (ae (ao (i:=1))) (aa (ae (ao (i:=0))) ac))))) ac))))))))
def t0:PTS:=psO mZ
def t5:PRl eX t0 4 2:=λ_ Q h=>DD h λds _ h=>gM h λi _ h=>eA h λh=>A_ rfl <| by
 walk_at "z";obtain⟨ws,rfl,⟨hn,hw⟩,hi,q⟩:=h;obtain⟨k,rfl⟩:∃k:Nat,i=(k:Int):=⟨i.toNat,by omega⟩
 have hk:k<ws.length:=by omega
 have hlm:(ws.map D.str).length=ws.length:=length_map _;have w1:=hw _ (fT hk);walk_at "r";refine⟨_,bW hk rfl,?_⟩;walk_at "r"
 refine cfm (λτ=>∃v,τ=[v,some (.dat (.str (pw ws k)))]) (λj=>if (pw ws k).length<(pw ws j).length then some (.str (pw ws j)) else none) ?_ ?_ ?_
 .exact⟨_,rfl⟩
 .rintro j τ d hj ed ⟨v,rfl⟩ K1 K2 k1 k2;rw [gf hj] at ed;subst ed;have w2:=hw _ (fT (show j<ws.length by omega));walk_at "r"
  refine cM (λc=>?_) (λc=>?_)
  .walk_at "r";exact k1 _ _ (by rw [if_pos (by omega)]) ⟨_,rfl⟩
  .exact k2 _ (by rw [if_neg (by omega)]) ⟨_,rfl⟩
 .rintro τ ⟨v,rfl⟩
  have e1:(i_ (ws.map D.str).length).filterMap (λj=>if (pw ws k).length<(pw ws j).length then some (D.str (pw ws j)) else none)=(ws.filter λo=>decide ((pw ws k).length<o.length)).map D.str:=by
   rw [hlm,yc (λw=>if (pw ws k).length<w.length then some (D.str w) else none) ws,<- cU];congr 1;funext w
   by_cases h:(pw ws k).length<w.length
   .rw [if_pos h,if_pos (decide_eq_true h)]
   .rw [if_neg h,if_neg (by rw [decide_eq_false h];decide)]
  rw [e1];have hll:(ws.filter λo=>decide ((pw ws k).length<o.length)).length<=ws.length:=JR ..;generalize hL:(ws.filter λo=>decide ((pw ws k).length<o.length))=ls at hll ⊢;have hlm2:(ls.map D.str).length=ls.length:=length_map _;have c1:dU (ws.map D.str) none (some (k:Int))=(ws.take k).map D.str:=by rw [kv,map_take]
  have hfl:(dU (ws.map D.str) none (some (k:Int))).all D.fl=true:=by rw [c1];exact wb _
  have hin:inD (.str (pw ws k)) (dU (ws.map D.str) none (some (k:Int)))=decide (pw ws k∈ws.take k):=by rw [c1];exact nY _ _
  have hkb:dI ws k=(!inD (.str (pw ws k)) (dU (ws.map D.str) none (some (k:Int))) && !ls.any λo=>fW (pw ws k) o):=by
   unfold dI;rw [hin,hL]
  rw [toNat_natCast,hkb] at q;walk_at "r"
  refine f9 (vq (λc=>?_) (λc=>?_))
  .walk_at "r";have c:inD (.str (pw ws k)) (dU (ws.map D.str) none (some (k:Int)))=true:=c;rw [c] at q;exact q
  .have c:inD (.str (pw ws k)) (dU (ws.map D.str) none (some (k:Int)))=false:=c;rw [c,Bool.not_false,Ib] at q;walk_at "r"
   refine tN (λτ=>∃v,τ=[v,some (.dat (.str (pw ws k)))]) (λj=>.bl (fW (pw ws k) (pw ls j))) ?_ ?_ ?_
   .exact⟨_,rfl⟩
   .rintro j τ d hj ed ⟨v,rfl⟩ K1 k1;rw [gf hj] at ed;subst ed;walk_at "r";exact k1 _ ⟨_,rfl⟩
   .rintro τ ⟨v,rfl⟩;walk_at "r"
    refine⟨ls.map λo=>fW (pw ws k) o,?_,?_⟩
    .rw [hlm2,map_map]
     conv=>rhs;rw [<- sC ls,map_map]
     rfl
    .rw [show ((ls.map λo=>fW (pw ws k) o).any id)=ls.any (λo=>fW (pw ws k) o) by rw [any_map];rfl];walk_at "r";exact q
noncomputable def lm(K:b_)(mg:Str->Option Value)(t:TxC K/\TxX K mg):=(have TC:=t.1;have TX:=t.2;show LS K [] _ _ from (aA (aR (aP Ak (aa (ae (bI (ix:=[none,some 0,some 2]) rfl (cq (ao (i:=1))) (λfs hc=>(au (i:=0) (lJ hc (by decide)))) (mK (aJ (c:=bx) (aa (ae (aw bH (al (i:=1)) (al (i:=2)))) (aa (ae (aw bH (al (i:=1)) (al (i:=0)))) ac)))) (ao (i:=0)))) ac)) (aK (i:=3) rfl)) (aO (kG (aa (ae (ao (i:=2))) (aa (ae (ao (i:=3))) (aa (ae (aJ (c:=c9) (aa (ae (aw bH (al (i:=0)) (al (i:=3)))) (aa (ae (aw bH (al (i:=0)) (al (i:=2)))) ac)))) ac)))))))
def rh:PTS:=psO lm
def rj:PRl dP rh 4 3:=λ_ Q h=>DD h λds _ h=>DD h λks _ h=>gM h λi _ h=>eA h λh=>A_ rfl <| by
 walk_at "z";obtain⟨ws,rfl,rfl,⟨hn,hw⟩,hi,q⟩:=h;obtain⟨k,rfl⟩:∃k:Nat,i=(k:Int):=⟨i.toNat,by omega⟩
 have hk:k<ws.length:=by omega
 rw [toNat_natCast] at q;have hkl:=gH ws;have hkm:((aM ws).map nD).length=(aM ws).length:=length_map _;walk_at "r"
 refine cfm (λτ=>∃v,τ=[v,some (.dat (.tup (ws.map .str))),some (.dat (.int (k:Int)))]) (λj=>if fW (pw ws k) (pw ws ((aM ws).getD j 0))=true then some (nD ((aM ws).getD j 0)) else none) ?_ ?_ ?_
 .exact⟨_,rfl⟩
 .rintro j τ d hj ed ⟨v,rfl⟩ K1 K2 k1 k2;have hj2:(aM ws).getD j 0<ws.length:=eS (F_ (by rw [o_,gV (show j<(aM ws).length by omega)];rfl));rw [vY hj] at ed;subst ed;generalize (aM ws).getD j 0=z at hj2 k1 k2 ⊢;walk_at "r";refine⟨_,bW hk rfl,?_⟩;walk_at "r";refine⟨_,bW hj2 rfl,?_⟩;walk_at "r"
  cases hc:fW (pw ws k) (pw ws z) with
  | true=>walk_at "r";exact k1 _ _ (by rw [if_pos hc];rfl) ⟨_,rfl⟩
  | false=>walk_at "r";exact k2 _ (by rw [if_neg (by rw [hc];decide)]) ⟨_,rfl⟩
 .rintro τ ⟨v,rfl⟩
  have e1:(i_ ((aM ws).map nD).length).filterMap (λj=>if fW (pw ws k) (pw ws ((aM ws).getD j 0))=true then some (nD ((aM ws).getD j 0)) else none)=((kP ws k).map λj=>((j:Nat):Int)).map D.int:=by
   rw [hkm,ye (λj=>if fW (pw ws k) (pw ws j)=true then some (nD j) else none) (aM ws),cU (λj=>fW (pw ws k) (pw ws j)) nD,map_map];rfl
  rw [e1];obtain⟨h0,hh0⟩:=tU hw hk;walk_at "r";refine⟨by rw [length_map];exact length_pos_of_mem hh0,λm hm hle=>?_⟩;obtain⟨z,hz,rfl⟩:=Iz.mp hm;have hz2:z<ws.length:=eS (Iq.mp hz).1;have hho:sB ws k=z:=vX hz λa ha=>by have:=hle _ (JK ha);omega
  walk_at "r";refine⟨_,bW hz2 rfl,?_⟩;walk_at "r";refine⟨_,bW hk rfl,?_⟩;walk_at "r";unfold dJ at q;rw [hho] at q;exact q
noncomputable def hZ:PTS:=(kK (yL (pM cY (cP (pFz (xR 1)) gL))) (kK (kN "Family" [] "pieces" 0 (pCB mM (cP (pSl 1) gL))) (kK (Cq (CL false (cP (pFz (pCB A8 (cP (pFz (vG "Family" ["pieces"] 0 (pSl 0))) gL))) gL)) (jS 2)) (kK (kN "Family" ["pieces"] "kept" 0 (pCB mM (cP (pFz (tL [none,some 0] (tK (xR 2)) (jS 0) (pB (pM eX (cP (pFz (vG "Family" ["pieces"] 0 (pSl 1))) (cP (pFz (xR 0)) gL)))) (xR 0))) gL))) (kK (kN "Family" ["pieces","kept"] "words" 0 (pCB mM (cP (pFz (tL [none,some 0] (tK (vG "Family" ["pieces","kept"] 1 (pSl 0))) (jS 0) yN (pOp fIx (pFz (vG "Family" ["pieces","kept"] 0 (pSl 1))) (pSl 0)))) gL))) (kK (kN "Family" ["pieces","kept","words"] "left" 0 (pCB mM (cP (pFz (tL [none,some 0] (tK (xR 2)) (jS 0) (pB (pOp (Fx true) (pSl 0) (pFz (vG "Family" ["pieces","kept","words"] 1 (pSl 1))))) (pM dP (cP (pFz (vG "Family" ["pieces","kept","words"] 0 (pSl 1))) (cP (pFz (vG "Family" ["pieces","kept","words"] 1 (pSl 1))) (cP (pFz (xR 0)) gL)))))) gL))) (kK (kN "Family" ["pieces","kept","words","left"] "laps" 0 (pM fJ (cP (pFz (vG "Family" ["pieces","kept","words","left"] 2 (pSl 0))) gL))) (kN "Family" ["pieces","kept","words","left","laps"] "total" 0 (pCB Aj (cP (pFz (tL [none] (tK (vG "Family" ["pieces","kept","words","left","laps"] 2 (pSl 0))) (jS 0) yN (pCB A8 (cP (pSl 0) gL)))) gL))))))))))
def eO:RRl bP hZ 3 2:=λ_ _ Q h=>G8 h λh=>um h λd _ h=>eA h λh=>A_ rfl <| by
 walk_at "z";obtain⟨ws,hd,⟨hn,hp⟩,q⟩:=h;have hlm:(ws.map D.str).length=ws.length:=length_map _;have hkl:=gH ws;have hkm:((aM ws).map nD).length=(aM ws).length:=length_map _;have hrl:(qI 0 (((ws.map D.str).length:Nat):Int).toNat).length=ws.length:=by rw [ir];omega
 have hk1:ws.length<=1000/\∀w∈ws,w.length<=10000:=⟨by omega,λw hw=>by have:=(hp w hw).2.1;omega⟩
 have hk2:ws.length<=1000/\∀w∈ws,w.length<=60:=⟨by omega,λw hw=>(hp w hw).2.1⟩
 walk_at "r";refine⟨ws,hd,⟨hn,hp⟩,?_⟩
 rcases hd with rfl|rfl
 .walk_at "r"
  refine cfm (λτ=>∃v,τ=[v,some (.ins "Family" ["pieces"] [.tup (ws.map .str)])]) (λj=>if dI ws j=true then some (nD j) else none) ?_ ?_ ?_
  .exact⟨_,rfl⟩
  .rintro j τ d hj ed ⟨v,rfl⟩ K1 K2 k1 k2;have hj2:j<ws.length:=by rw [ir] at hj;omega
   rw [jq hj] at ed;subst ed;walk_at "r";rw [toNat_natCast]
   cases hc:dI ws j with
   | true=>walk_at "r";exact k1 _ _ (by rw [if_pos hc];rfl) ⟨_,rfl⟩
   | false=>walk_at "r";exact k2 _ (by rw [if_neg (by rw [hc];decide)]) ⟨_,rfl⟩
  .rintro τ ⟨v,rfl⟩
   have e1:(i_ (qI 0 (((ws.map D.str).length:Nat):Int).toNat).length).filterMap (λj=>if dI ws j=true then some (nD j) else none)=(aM ws).map nD:=by
    rw [ir,hlm,toNat_natCast,cU (dI ws) nD];rfl
   rw [e1];walk_at "r"
   refine tN (λτ=>∃v,τ=[v,some (.ins "Family" ["pieces","kept"] [.tup (ws.map .str),.tup ((aM ws).map nD)])]) (λk=>.str (pw ws ((aM ws).getD k 0))) ?_ ?_ ?_
   .exact⟨_,rfl⟩
   .rintro j τ d hj ed ⟨v,rfl⟩ K1 k1;have hj2:(aM ws).getD j 0<ws.length:=eS (F_ (by rw [o_,gV (show j<(aM ws).length by omega)];rfl));rw [vY hj] at ed;subst ed;walk_at "r";refine⟨_,bW hj2 rfl,?_⟩;walk_at "r";exact k1 _ ⟨_,rfl⟩
   .rintro τ ⟨v,rfl⟩
    have e2:(i_ ((aM ws).map nD).length).map (λk=>D.str (pw ws ((aM ws).getD k 0)))=(aq ws).map D.str:=by
     rw [hkm,fo (λj=>D.str (pw ws j)) (aM ws)];unfold aq;rw [map_map];rfl
    rw [e2];have hwl:=eT ws;have hwm:((aq ws).map D.str).length=(aq ws).length:=length_map _;have hwp:=jp hp;have hwq:(aq ws).length<=1000/\∀w∈aq ws,0<w.length/\w.length<=10000:=⟨by omega,λw hw=>⟨(hwp w hw).1,by have:=(hwp w hw).2.1;omega⟩⟩
    have hfl:((aM ws).map nD).all D.fl=true:=C3 _;walk_at "r"
    refine cfm (λτ=>∃v,τ=[v,some (.ins "Family" ["pieces","kept","words"] [.tup (ws.map .str),.tup ((aM ws).map nD),.tup ((aq ws).map .str)])]) (λj=>if (!decide (j∈aM ws))=true then some (dJ ws j) else none) ?_ ?_ ?_
    .exact⟨_,rfl⟩
    .rintro j τ d hj ed ⟨v,rfl⟩ K1 K2 k1 k2;have hj2:j<ws.length:=by omega
     rw [jq hj] at ed;subst ed;have hin:=vZ j (aM ws);walk_at "r"
     refine f9 (vq (λc=>?_) (λc=>?_))
     .have c:inD (.int (j:Int)) ((aM ws).map nD)=true:=c;rw [hin] at c;exact k2 _ (by rw [c];rfl) ⟨_,rfl⟩
     .have c:inD (.int (j:Int)) ((aM ws).map nD)=false:=c;rw [hin] at c;walk_at "r";rw [toNat_natCast];exact k1 _ _ (by rw [c];rfl) ⟨_,rfl⟩
    .rintro τ ⟨v,rfl⟩
     have e3:(i_ (qI 0 (((ws.map D.str).length:Nat):Int).toNat).length).filterMap (λj=>if (!decide (j∈aM ws))=true then some (dJ ws j) else none)=(vW ws).map (dJ ws):=by
      rw [hrl,cU (λj=>!decide (j∈aM ws)) (dJ ws)];rfl
     rw [e3];walk_at "r"
     refine tN (λτ=>∃v,τ=[v]) (λk=>.int ((pw (aq ws) k).length:Int)) ?_ ?_ ?_
     .exact⟨_,rfl⟩
     .rintro j τ d hj ed ⟨v,rfl⟩ K1 k1;rw [gf hj] at ed;subst ed;walk_at "r";exact k1 _ ⟨_,rfl⟩
     .rintro τ ⟨v,rfl⟩
      have e4:(i_ ((aq ws).map D.str).length).map (λk=>D.int ((pw (aq ws) k).length:Int))=((aq ws).map λw=>(w.length:Int)).map D.int:=by
       rw [hwm,map_map]
       conv=>rhs;rw [<- sC (aq ws),map_map]
       rfl
      rw [e4];walk_at "r";exact q
 .walk_at "r"
  refine cfm (λτ=>∃v,τ=[v,some (.ins "Family" ["pieces"] [.tup (ws.map .str)])]) (λj=>if dI ws j=true then some (nD j) else none) ?_ ?_ ?_
  .exact⟨_,rfl⟩
  .rintro j τ d hj ed ⟨v,rfl⟩ K1 K2 k1 k2;have hj2:j<ws.length:=by rw [ir] at hj;omega
   rw [jq hj] at ed;subst ed;walk_at "r";rw [toNat_natCast]
   cases hc:dI ws j with
   | true=>walk_at "r";exact k1 _ _ (by rw [if_pos hc];rfl) ⟨_,rfl⟩
   | false=>walk_at "r";exact k2 _ (by rw [if_neg (by rw [hc];decide)]) ⟨_,rfl⟩
  .rintro τ ⟨v,rfl⟩
   have e1:(i_ (qI 0 (((ws.map D.str).length:Nat):Int).toNat).length).filterMap (λj=>if dI ws j=true then some (nD j) else none)=(aM ws).map nD:=by
    rw [ir,hlm,toNat_natCast,cU (dI ws) nD];rfl
   rw [e1];walk_at "r"
   refine tN (λτ=>∃v,τ=[v,some (.ins "Family" ["pieces","kept"] [.tup (ws.map .str),.tup ((aM ws).map nD)])]) (λk=>.str (pw ws ((aM ws).getD k 0))) ?_ ?_ ?_
   .exact⟨_,rfl⟩
   .rintro j τ d hj ed ⟨v,rfl⟩ K1 k1;have hj2:(aM ws).getD j 0<ws.length:=eS (F_ (by rw [o_,gV (show j<(aM ws).length by omega)];rfl));rw [vY hj] at ed;subst ed;walk_at "r";refine⟨_,bW hj2 rfl,?_⟩;walk_at "r";exact k1 _ ⟨_,rfl⟩
   .rintro τ ⟨v,rfl⟩
    have e2:(i_ ((aM ws).map nD).length).map (λk=>D.str (pw ws ((aM ws).getD k 0)))=(aq ws).map D.str:=by
     rw [hkm,fo (λj=>D.str (pw ws j)) (aM ws)];unfold aq;rw [map_map];rfl
    rw [e2];have hwl:=eT ws;have hwm:((aq ws).map D.str).length=(aq ws).length:=length_map _;have hwp:=jp hp;have hwq:(aq ws).length<=1000/\∀w∈aq ws,0<w.length/\w.length<=10000:=⟨by omega,λw hw=>⟨(hwp w hw).1,by have:=(hwp w hw).2.1;omega⟩⟩
    have hfl:((aM ws).map nD).all D.fl=true:=C3 _;walk_at "r"
    refine cfm (λτ=>∃v,τ=[v,some (.ins "Family" ["pieces","kept","words"] [.tup (ws.map .str),.tup ((aM ws).map nD),.tup ((aq ws).map .str)])]) (λj=>if (!decide (j∈aM ws))=true then some (dJ ws j) else none) ?_ ?_ ?_
    .exact⟨_,rfl⟩
    .rintro j τ d hj ed ⟨v,rfl⟩ K1 K2 k1 k2;have hj2:j<ws.length:=by omega
     rw [jq hj] at ed;subst ed;have hin:=vZ j (aM ws);walk_at "r"
     refine f9 (vq (λc=>?_) (λc=>?_))
     .have c:inD (.int (j:Int)) ((aM ws).map nD)=true:=c;rw [hin] at c;exact k2 _ (by rw [c];rfl) ⟨_,rfl⟩
     .have c:inD (.int (j:Int)) ((aM ws).map nD)=false:=c;rw [hin] at c;walk_at "r";rw [toNat_natCast];exact k1 _ _ (by rw [c];rfl) ⟨_,rfl⟩
    .rintro τ ⟨v,rfl⟩
     have e3:(i_ (qI 0 (((ws.map D.str).length:Nat):Int).toNat).length).filterMap (λj=>if (!decide (j∈aM ws))=true then some (dJ ws j) else none)=(vW ws).map (dJ ws):=by
      rw [hrl,cU (λj=>!decide (j∈aM ws)) (dJ ws)];rfl
     rw [e3];walk_at "r"
     refine tN (λτ=>∃v,τ=[v]) (λk=>.int ((pw (aq ws) k).length:Int)) ?_ ?_ ?_
     .exact⟨_,rfl⟩
     .rintro j τ d hj ed ⟨v,rfl⟩ K1 k1;rw [gf hj] at ed;subst ed;walk_at "r";exact k1 _ ⟨_,rfl⟩
     .rintro τ ⟨v,rfl⟩
      have e4:(i_ ((aq ws).map D.str).length).map (λk=>D.int ((pw (aq ws) k).length:Int))=((aq ws).map λw=>(w.length:Int)).map D.int:=by
       rw [hwm,map_map]
       conv=>rhs;rw [<- sC (aq ws),map_map]
       rfl
      rw [e4];walk_at "r";exact q
noncomputable def h7:PTS:=(xV (pCB A8 (cP (pFz (vG "Family" ["pieces","kept","words","left","laps","total"] 2 (pSl 0))) gL)))
def eP:PRl cA h7 1 1:=λ_ Q h=>D9 h λc ns fs _ h=>eA h λh=>A_ rfl <| by
 walk_at "z";obtain⟨rfl,rfl,ws,rfl,q⟩:=h;walk_at "r";rw [length_map];exact q
noncomputable def i6(K:b_)(mg:Str->Option Value)(t:TxC K/\TxX K mg):=(have TC:=t.1;have TX:=t.2;show LS K [] _ _ from (aA (aR (aw br (ae (aw jR (ae (aw jR (al (i:=1)) (al (i:=1)))) (ae (le_int (i:=7919))))) (ae (le_int (i:=5)))) (aK (i:=2) rfl)) (aA (nM (cF (gF (aw vx (al (i:=1)) (ae (aP bc (aa (al (i:=0)) ac))))) (aR (aP CD (aa (ae (aw bH (al (i:=0)) (al (i:=1)))) ac)) (aK (i:=2) rfl)) bd)) (aO (bF (aa (ae (ao (i:=2))) (aa (ae (aw br (ae (aw br (ae (aw kI (al (i:=2)) (ae (le_int (i:=2147483629))))) (ae (aw jR (al (i:=1)) (ae (le_int (i:=7919))))))) (ae (le_int (i:=1))))) ac)))))))
def oy:PTS:=psO i6
def oz:PRl fK oy 3 2:=λ_ Q h=>G7 h λns _ h=>gM h λk _ h=>eA h λh=>A_ rfl <| by
 walk_at "z";obtain⟨hk0,hk1,q⟩:=h;have hkk:k*k<=1000*1000/\0<=k*k:=⟨Int.mul_le_mul hk1 hk1 hk0 (by decide),mul_nonneg hk0 hk0⟩
 walk_at "r"
 refine⟨λρ=>∃c:Int,ρ=[some (.dat (.scr ns)),some (.dat (.int k)),some (.dat (.int c))]/\0<=c,?_,?_⟩
 .walk_at "r";refine cM (λc=>?_) (λc=>⟨_,rfl,by omega⟩);obtain⟨n,rfl⟩:∃n:Nat,k=(n:Int):=⟨k.toNat,by omega⟩
  have hn:n<ns.length:=by omega
  walk_at "r";refine⟨ns[n],kB (gV hn) rfl,?_⟩;exact⟨_,rfl,by split <;> omega⟩
 .rintro ρ ⟨c,rfl,hc⟩;walk_at "r";exact q (c,c % 2147483629+k*7919+1) ⟨hc,by omega,by omega⟩
noncomputable def lp(K:b_)(mg:Str->Option Value)(t:TxC K/\TxX K mg):=(have TC:=t.1;have TX:=t.2;show LS K [0] _ _ from (aA (cF (gF (aw tH (ae (aw bH (al (i:=0)) (ae (le_int (i:=0))))) (ae (le_int (i:=0))))) (aA (aR (aw kI (ae (aw bH (al (i:=0)) (ae (le_int (i:=0))))) (al (i:=1))) (aK (i:=2) rfl)) (aA (qF (i:=0) (aw zZ (ae (aw bH (al (i:=0)) (ae (le_int (i:=0))))) (al (i:=1))) (le_int (i:=0))) (aO (ao (i:=2))))) bd) (aA (qF (i:=0) (aw kI (ae (aw br (ae (aw jR (ae (aw bH (al (i:=0)) (ae (le_int (i:=1))))) (ae (le_int (i:=48271))))) (ae (le_int (i:=12345))))) (ae (le_int (i:=2147483647)))) (le_int (i:=1))) (aO (aw kI (ae (aw kI (ae (aw jR (ae (aw bH (al (i:=0)) (ae (le_int (i:=1))))) (ae (aw bH (al (i:=0)) (ae (le_int (i:=1))))))) (ae (le_int (i:=2147483629))))) (al (i:=1)))))))
def rk:PTS:=psO lp
def rm:RRl aE rk 3 2:=λ_ _ Q h=>y0 h λ_ h=>gM h λc0 _ h=>gM h λc1 _ h=>eA h λh=>gM h λm _ h=>eA h λh=>A_ rfl <| by
 walk_at "z";obtain⟨⟨g0,g1,g2⟩,hm,hm2,q⟩:=h;have mod:∀z:Int,0<=z % m/\z % m<m:=λz=>⟨emod_nonneg z (by omega),emod_lt_of_pos z hm⟩
 walk_at "r"
 refine cM (λc=>?_) (λc=>?_)
 .walk_at "r";exact q _ (_,_) ⟨ediv_nonneg g0 (by omega),g1,g2⟩ (mod c0).1 (mod c0).2
 .have n0:0<=(c1*48271+12345) % 2147483647:=emod_nonneg _ (by decide);have n1:(c1*48271+12345) % 2147483647<2147483647:=emod_lt_of_pos _ (by decide);walk_at "r";exact q _ (_,_) ⟨g0,n0,by omega⟩ (mod _).1 (mod _).2
noncomputable def ia(K:b_)(mg:Str->Option Value)(t:TxC K/\TxX K mg):=(have TC:=t.1;have TX:=t.2;show LS K [0] _ _ from (aA (aR (le_str (l:=[97,98,99,100,101,102,103,104,105,106,107,108,109,110,111,112,113,114,115,116,117,118,119,120,121,122])) (aK (i:=1) rfl)) (aA (aR (aQ (c:=aE) (i:=0) (aa (ae (le_int (i:=4))) ac)) (aK (i:=2) rfl)) (aA (cF (gF (aw gi (al (i:=2)) (ae (le_int (i:=3))))) (aO (ao (i:=1))) bd) (aO (pO iU (le_str (l:=[])) (aa (ae (bI (ix:=[none,some 1,some 0]) rfl (kL (aa (ae (aw br (ae (le_int (i:=2))) (ae (aw kI (al (i:=2)) (ae (le_int (i:=2))))))) ac)) (λfs hc=>(au (i:=0) (lJ hc (by decide)))) dH (aw bH (al (i:=1)) (ae (aQ (c:=aE) (i:=2) (aa (ae (le_int (i:=26))) ac)))))) ac)))))))
def ma:PTS:=psO ia
def md:RRl eN ma 3 1:=λ_ _ Q h=>y0 h λ_ h=>gM h λc0 _ h=>gM h λc1 _ h=>eA h λh=>eA h λh=>A_ rfl <| by
 walk_at "z";obtain⟨g,q⟩:=h;walk_at "r";intro x s hs hx0 hx1;walk_at "r"
 refine cM (λc=>?_) (λc=>?_)
 .walk_at "r";exact q _ s hs (by decide) (by decide) (vI.mp (by decide))
 .walk_at "r"
  refine⟨λk ys τ=>∃(v:Option PV) (s:Int×Int) (ls:List Nat),τ=[v,some (.dat (.str [97,98,99,100,101,102,103,104,105,106,107,108,109,110,111,112,113,114,115,116,117,118,119,120,121,122])),some (stv s)]/\SOk s/\ys=ls.map (λc=>.str [c])/\ls.length=k/\Lts ls,⟨none,s,[],rfl,hs,rfl,rfl,Lts.nil⟩,?_,?_⟩
  .rintro k ys τ _ hk rfl ⟨v,⟨a,b⟩,ls,rfl,hs,rfl,hl,hL⟩;walk_at "r";intro z s2 hs2 hz0 hz1;obtain⟨j,rfl⟩:∃j:Nat,z=(j:Int):=⟨z.toNat,by omega⟩
   have hj:j<26:=by omega
   walk_at "r";obtain⟨ch,hch⟩:∃ch,([97,98,99,100,101,102,103,104,105,106,107,108,109,110,111,112,113,114,115,116,117,118,119,120,121,122]:List Nat)[j]?=some ch:=⟨_,gV hj⟩
   refine⟨ch,kB hch rfl,?_⟩;have hm:=F_ hch;exact⟨_,s2,ls++[ch],rfl,hs2,by rw [map_append];rfl,by rw [length_append,hl];rfl,hL.app (Lts.one (by simp only [mem_cons,not_mem_nil,or_false] at hm;omega))⟩
  .rintro ys τ ⟨v,s2,ls,rfl,hs2,rfl,hl,hL⟩;walk_at "r"
   refine⟨ls.map λc=>[c],sw ls,?_,?_⟩
   .rw [dZ];omega
   .rw [dZ];walk_at "r";exact q ls s2 hs2 (by omega) (by omega) hL
noncomputable def lq(K:b_)(mg:Str->Option Value)(t:TxC K/\TxX K mg):=(have TC:=t.1;have TX:=t.2;show LS K [0] _ _ from (aO (pO iU (le_str (l:=[])) (aa (ae (bI (ix:=[none,some 1,some 0]) rfl (kL (aa (ae (aw br (ae (le_int (i:=1))) (ae (aQ (c:=aE) (i:=0) (aa (ae (ao (i:=2))) ac))))) ac)) (λfs hc=>(au (i:=0) (lJ hc (by decide)))) dH (aw bH (al (i:=1)) (ae (aQ (c:=aE) (i:=2) (aa (ae (aP bc (aa (al (i:=1)) ac))) ac)))))) ac))))
def rn:PTS:=psO lq
def rp:RRl fL rn 3 3:=λ_ _ Q h=>y0 h λ_ h=>gM h λc0 _ h=>gM h λc1 _ h=>eA h λh=>xg h λls _ h=>gM h λm _ h=>eA h λh=>A_ rfl <| by
 walk_at "z";obtain⟨g,⟨h0,h26,hls⟩,⟨hm,hm2⟩,q⟩:=h;walk_at "r";intro x s hs hx0 hx1;walk_at "r"
 refine⟨λk ys τ=>∃(v:Option PV) (s:Int×Int) (ws:List Nat),τ=[v,some (.dat (.str ls)),some (stv s)]/\SOk s/\ys=ws.map (λc=>.str [c])/\ws.length=k/\Lts ws,⟨none,s,[],rfl,hs,rfl,rfl,Lts.nil⟩,?_,?_⟩
 .rintro k ys τ _ hk rfl ⟨v,⟨a,b⟩,ws,rfl,hs,rfl,hl,hL⟩;walk_at "r";intro z s2 hs2 hz0 hz1;obtain⟨j,rfl⟩:∃j:Nat,z=(j:Int):=⟨z.toNat,by omega⟩
  have hj:j<ls.length:=by omega
  walk_at "r";refine⟨_,kB (gV hj) rfl,?_⟩;exact⟨_,s2,ws++[ls[j]],rfl,hs2,by rw [map_append];rfl,by rw [length_append,hl];rfl,hL.app (Lts.one (hls _ (getElem_mem hj)))⟩
 .rintro ys τ ⟨v,s2,ws,rfl,hs2,rfl,hl,hL⟩;walk_at "r"
  refine⟨ws.map λc=>[c],sw ws,?_,?_⟩
  .rw [dZ];omega
  .rw [dZ];walk_at "r";exact q ws s2 hs2 (by omega) (by omega) hL
noncomputable def m7(K:b_)(mg:Str->Option Value)(t:TxC K/\TxX K mg):=(have TC:=t.1;have TX:=t.2;show LS K [0] _ _ from (aA (aR (aQ (c:=aE) (i:=0) (aa (ae (aP bc (aa (al (i:=1)) ac))) ac)) (aK (i:=3) rfl)) (aO (fj (al (i:=1)) (dW (ao (i:=3))) (dW (aw br (ae (aw br (al (i:=3)) (ae (le_int (i:=1))))) (ae (aQ (c:=aE) (i:=0) (aa (ae (ao (i:=2))) ac)))))))))
def t6:PTS:=psO m7
def t7:RRl gI t6 4 3:=λ_ _ Q h=>y0 h λ_ h=>gM h λc0 _ h=>gM h λc1 _ h=>eA h λh=>xg h λt _ h=>gM h λm _ h=>eA h λh=>A_ rfl <| by
 walk_at "z";obtain⟨g,⟨h0,h1,ht⟩,⟨hm,hm2⟩,q⟩:=h;walk_at "r";rintro x ⟨a,b⟩ hs hx0 hx1;walk_at "r";intro y s2 hs2 hy0 hy1;walk_at "r";obtain⟨i,rfl⟩:∃i:Nat,x=(i:Int):=⟨x.toNat,by omega⟩
 obtain⟨j,rfl⟩:∃j:Nat,y=(j:Int):=⟨y.toNat,by omega⟩
 show Q (.dat (.str (dU t (some (i:Int)) (some ((i:Int)+1+(j:Int)))))) _;rw [show (i:Int)+1+(j:Int)=((i+1+j:Nat):Int) by omega,uX];exact q _ s2 hs2 (by rw [length_take,length_drop];omega) (by rw [length_take,length_drop];omega) ((ht.drop _).take _)
noncomputable def i7(K:b_)(mg:Str->Option Value)(t:TxC K/\TxX K mg):=(have TC:=t.1;have TX:=t.2;show LS K [0] _ _ from (aA (aR (aQ (c:=eN) (i:=0) ac) (aK (i:=3) rfl)) (aA (aR (aQ (c:=fL) (i:=0) (aa (ae (ao (i:=3))) (aa (ae (aw jR (ae (le_int (i:=3))) (al (i:=2)))) ac))) (aK (i:=4) rfl)) (aA (nM (cF (gF (aw gi (ae (aQ (c:=aE) (i:=0) (aa (ae (le_int (i:=3))) ac))) (ae (le_int (i:=0))))) (aR (aw jR (ae (fj (al (i:=4)) gG (dW (aw br (ae (le_int (i:=1))) (ae (aQ (c:=aE) (i:=0) (aa (ae (le_int (i:=4))) ac))))))) (al (i:=2))) (aK (i:=4) rfl)) bd)) (aA (aR (bF ac) (aK (i:=5) rfl)) (aA (du (kL (aa (ae (ao (i:=1))) ac)) (au (i:=6) rfl) (aA (aR (aQ (c:=aE) (i:=0) (aa (ae (le_int (i:=5))) ac)) (aK (i:=7) rfl)) (aA (nM (cF (si (gF (aw tH (al (i:=7)) (ae (le_int (i:=2))))) (gF (aw tH (ae (aP bc (aa (al (i:=5)) ac))) (ae (le_int (i:=0)))))) (aA (aR (aw bH (al (i:=5)) (ae (aQ (c:=aE) (i:=0) (aa (ae (aP bc (aa (al (i:=5)) ac))) ac)))) (aK (i:=8) rfl)) (cF (gF (aw gi (al (i:=7)) (ae (le_int (i:=3))))) (aR (aQ (c:=gI) (i:=0) (aa (ae (ao (i:=8))) (aa (ae (ao (i:=2))) ac))) (aK (i:=8) rfl)) bd)) (cF (gF (aw gi (ae (aw kI (al (i:=7)) (ae (le_int (i:=2))))) (ae (le_int (i:=1))))) (aR (aQ (c:=gI) (i:=0) (aa (ae (ao (i:=4))) (aa (ae (ao (i:=2))) ac))) (aK (i:=8) rfl)) (aR (aQ (c:=fL) (i:=0) (aa (ae (ao (i:=3))) (aa (ae (ao (i:=2))) ac))) (aK (i:=8) rfl))))) (dG (iQ (i:=5) (ao (i:=8))))))) (aO (ao (i:=5)))))))))
def oA:PTS:=psO i7
def oB:RRl fM oA 9 3:=λ_ _ Q h=>y0 h λ_ h=>gM h λc0 _ h=>gM h λc1 _ h=>eA h λh=>gM h λn _ h=>gM h λm _ h=>eA h λh=>A_ rfl <| by
 walk_at "z";obtain⟨g,⟨hn0,hn⟩,⟨hm,hm60⟩,q⟩:=h;walk_at "r";rintro ls ⟨a,b⟩ hs hl2 hl26 hL;walk_at "r";rintro ba ⟨a,b⟩ hs ba0 bam baL;walk_at "r"
 refine⟨λρ=>∃(bs:List Nat) (s:Int×Int),ρ=[some (stv s),some (.dat (.int n)),some (.dat (.int m)),some (.dat (.str ls)),some (.dat (.str bs)),none,none,none,none]/\SOk s/\0<bs.length/\bs.length<=20000/\Lts bs,?_,?_⟩
 .walk_at "r";rintro z ⟨a,b⟩ hs hz0 hz1;walk_at "r";refine cM (λc=>?_) (λc=>⟨ba,(a,b),rfl,hs,ba0,by omega,baL⟩);walk_at "r";rintro y s2 hs2 hy0 hy1;walk_at "r";have h1:=gN ba none (some (1+y));have h3:m.toNat*(dU ba none (some (1+y))).length<=60*180:=Lh (by omega) (by omega)
  have h4:0<(dU ba none (some (1+y))).length:=by
   rw [xE _ (by omega),length_take];omega
  have h5:0<m.toNat*(dU ba none (some (1+y))).length:=mul_pos (by omega) h4;refine⟨⟨by omega,by omega,by omega⟩,?_⟩;exact⟨uk (dU ba none (some (1+y))) m,s2,rfl,hs2,by rw [ip];exact h5,by rw [ip];omega,(baL.cut _ _).rep _⟩
 rintro ρ ⟨bs,s3,rfl,hs3,b0,bm,bL⟩;walk_at "r"
 refine⟨λk ρ=>∃(ps:List (List Nat)) (s:Int×Int) (v6 v7 v8:Option PV),ρ=[some (stv s),some (.dat (.int n)),some (.dat (.int m)),some (.dat (.str ls)),some (.dat (.str bs)),some (.own (ps.map .str)),v6,v7,v8]/\SOk s/\ps.length=k/\Pcs m.toNat ps,⟨[],s3,none,none,none,rfl,hs3,rfl,nofun⟩,?_,?_⟩
 .rintro k ρ _ hk rfl ⟨ps,⟨a,b⟩,v6,v7,v8,rfl,hs,hpl,hps⟩;have hlm:(ps.map D.str).length=ps.length:=length_map _;walk_at "r";rintro way ⟨a,b⟩ hs hw0 hw1;walk_at "r"
  refine⟨λρ=>∃(w:List Nat) (s:Int×Int) (v6 v7:Option PV),ρ=[some (stv s),some (.dat (.int n)),some (.dat (.int m)),some (.dat (.str ls)),some (.dat (.str bs)),some (.own (ps.map .str)),v6,v7,some (.dat (.str w))]/\SOk s/\Pc m.toNat w,?_,?_⟩
  .walk_at "r"
   refine cM (λc=>?_) (λc=>?_)
   .walk_at "r"
    refine cM (λc2=>?_) (λc2=>?_)
    .walk_at "r";rintro z ⟨a,b⟩ hs hz0 hz1;obtain⟨j,rfl⟩:∃j:Nat,z=(j:Int):=⟨z.toNat,by omega⟩
     have hj:j<ps.length:=by omega
     have ho:=hps _ (fT hj);obtain⟨ho1,ho2,ho3⟩:=id ho;walk_at "r";refine⟨_,bW hj rfl,?_⟩;walk_at "r";refine cM (λ_=>?_) (λ_=>⟨pw ps j,(a,b),_,_,rfl,hs,ho⟩);walk_at "r";rintro w s hs w0 wm wL;exact⟨w,s,_,_,rfl,hs,w0,wm,wL⟩
    .walk_at "r"
     refine cM (λ_=>?_) (λ_=>?_)
     .walk_at "r";rintro w s hs w0 wm wL;exact⟨w,s,_,_,rfl,hs,w0,wm,wL⟩
     .walk_at "r";rintro w s hs w0 wm wL;exact⟨w,s,_,_,rfl,hs,w0,wm,wL⟩
   .walk_at "r"
    refine cM (λ_=>?_) (λ_=>?_)
    .walk_at "r";rintro w s hs w0 wm wL;exact⟨w,s,_,_,rfl,hs,w0,wm,wL⟩
    .walk_at "r";rintro w s hs w0 wm wL;exact⟨w,s,_,_,rfl,hs,w0,wm,wL⟩
  .rintro ρ ⟨w,s,v6,v7,rfl,hs,hw⟩;walk_at "r";exact⟨ps++[w],s,_,_,_,by rw [map_append];rfl,hs,by rw [length_append,hpl];rfl,hps.app hw⟩
 .rintro ρ ⟨ps,s,v6,v7,v8,rfl,hs,hpl,hps⟩;walk_at "r";exact q ps s hs hpl hps
noncomputable def ib(K:b_)(mg:Str->Option Value)(t:TxC K/\TxX K mg):=(have TC:=t.1;have TX:=t.2;show LS K [] _ _ from (aA (du (cq (ao (i:=0))) (au (i:=2) rfl) (cF (si (gF (aw tH (ae (aP bc (aa (al (i:=2)) ac))) (ae (aP bc (aa (ae (aw bH (al (i:=0)) (al (i:=1)))) ac))))) (gF (aw tI (ae (pO sv (ao (i:=2)) (aa (ae (aw bH (al (i:=0)) (al (i:=1)))) ac))) (ae (le_int (i:=0)))))) (aO (gc (i:=true))) bd)) (aO (aw (wE (neg:=false)) (ae (aw bH (al (i:=0)) (al (i:=1)))) (ae (fj (al (i:=0)) gG (dW (ao (i:=1)))))))))
def me:PTS:=psO ib
def mf:PRl de me 3 2:=λ_ Q h=>yt h λds _ h=>gM h λi _ h=>eA h λh=>A_ rfl <| by
 walk_at "z";obtain⟨ps,rfl,⟨hn,hw⟩,hi,q⟩:=h;obtain⟨k,rfl⟩:∃k:Nat,i=(k:Int):=⟨i.toNat,by omega⟩
 rw [toNat_natCast] at q;have hk:k<ps.length:=by omega
 have hlm:(ps.map D.str).length=ps.length:=length_map _;walk_at "r"
 refine G5 (α:=List Nat) (λ(pre:List (List Nat)) ρ=>∃v2:Option PV,ρ=[some (.dat (.lst (ps.map .str))),some (.dat (.int (k:Int))),v2]/\∀o∈pre,(pw ps k).length<o.length->fW (pw ps k) o=false) ⟨_,rfl,nofun⟩ ?_ ?_
 .rintro pre o suf ρ ej ⟨v2,rfl,hf⟩;have ho:o∈ps:=by rw [ej];simp
  have go:((pw ps k).length<o.length->fW (pw ps k) o=false)->∀u∈pre++[o],(pw ps k).length<u.length->fW (pw ps k) u=false:=λh u hu=>by
   rcases Ij.mp hu with z|z
   .exact hf u z
   .rw [y_.mp z];exact h
  walk_at "r";refine⟨_,bW hk rfl,?_⟩;walk_at "r"
  refine cM (λc=>?_) (λc=>?_)
  .walk_at "r";refine⟨_,bW hk rfl,?_⟩;walk_at "r"
   refine cM (λc2=>?_) (λc2=>?_)
   .walk_at "r"
    have e:dI ps k=false:=by
     cases hb:dI ps k with
     | false=>rfl
     | true =>
      have:=(kd.mp hb).2 o ho (by omega);rw [AM.mpr c2] at this;cases this
    rw [e] at q;exact q
   .exact⟨_,rfl,go λ_=>yl.mpr (by omega)⟩
  .exact⟨_,rfl,go λz=>absurd z (by omega)⟩
 .rintro ρ ⟨v2,rfl,hf⟩;have c1:dU (ps.map D.str) none (some (k:Int))=(ps.take k).map D.str:=by rw [kv,map_take]
  have hfl:(dU (ps.map D.str) none (some (k:Int))).all D.fl=true:=by rw [c1];exact wb _
  have hin:inD (.str (pw ps k)) (dU (ps.map D.str) none (some (k:Int)))=decide (pw ps k∈ps.take k):=by rw [c1];exact nY _ _
  have e:(!dI ps k)=decide (pw ps k∈ps.take k):=by
   by_cases z:pw ps k∈ps.take k
   .rw [decide_eq_true z]
    cases hb:dI ps k with
    | false=>rfl
    | true=>exact absurd z (kd.mp hb).1
   .rw [decide_eq_false z,kd.mpr ⟨z,hf⟩];rfl
  rw [e,<- hin] at q;walk_at "r";refine⟨_,bW hk rfl,?_⟩;walk_at "r";exact q
noncomputable def lr(K:b_)(mg:Str->Option Value)(t:TxC K/\TxX K mg):=(have TC:=t.1;have TX:=t.2;show LS K [] _ _ from (aO (bI (ix:=[none,some 0]) rfl (kL (aa (ae (aP bc (aa (al (i:=0)) ac))) ac)) (λfs hc=>(au (i:=0) (lJ hc (by decide)))) (dr (mK (aJ (c:=de) (aa (ae (ao (i:=1))) (aa (ae (ao (i:=0))) ac))))) (ao (i:=0)))))
def rq:PTS:=psO lr
def rA:PRl fN rq 1 1:=λ_ Q h=>yt h λds _ h=>eA h λh=>A_ rfl <| by
 walk_at "z";obtain⟨ps,rfl,hn,q⟩:=h;have hlm:(ps.map D.str).length=ps.length:=length_map _;have hn1:=hn.1;walk_at "r"
 refine cfR (dI ps) nD (λk hk v K1 K2 k1 k2=>?_) (λv=>?_)
 .rw [hlm,toNat_natCast] at hk;walk_at "r";rw [toNat_natCast]
  cases hb:dI ps k with
  | true=>exact k1 _ hb
  | false=>exact k2 _ hb
 .rw [hlm,toNat_natCast];exact q
noncomputable def m8(K:b_)(mg:Str->Option Value)(t:TxC K/\TxX K mg):=(have TC:=t.1;have TX:=t.2;show LS K [] _ _ from (aA (du (Cs (aa (ae (aw gP (ae (aP qG (aa (ae (aP bc (aa (al (i:=0)) ac))) (aa (ae (aP bc (aa (al (i:=1)) ac))) ac)))) (ae (le_int (i:=1))))) (aa (ae (le_int (i:=0))) (aa (ae (tG mP (ae (le_int (i:=1))))) ac)))) (au (i:=2) rfl) (cF (gF (aw gi (ae (fj (al (i:=0)) (dW (aw gP (ae (aP bc (aa (al (i:=0)) ac))) (al (i:=2)))) gG)) (ae (fj (al (i:=1)) gG (dW (ao (i:=2))))))) (aO (ao (i:=2))) bd)) (aO (le_int (i:=0)))))
def t9:PTS:=psO m8
def ua:PRl gJ t9 3 2:=λ_ Q h=>xg h λa _ h=>xg h λb _ h=>eA h λh=>A_ rfl <| by
 walk_at "z";obtain⟨⟨a0,a1⟩,⟨b0,b1⟩,q⟩:=h;have hm:(if (b.length:Int)<(a.length:Int) then (b.length:Int) else (a.length:Int))=((min a.length b.length:Nat):Int):=by split <;> omega
 walk_at "r"
 refine⟨λi ρ=>(∃v2:Option PV,ρ=[some (.dat (.str a)),some (.dat (.str b)),v2])/\∀j,min a.length b.length - i<=j->j<min a.length b.length->¬ b.take j <:+ a,⟨⟨_,rfl⟩,λj h1 h2=>by omega⟩,?_,?_⟩
 .rintro i ρ d hi ed ⟨⟨v2,rfl⟩,ih⟩;have hi:i<(((if (b.length:Int)<(a.length:Int) then (b.length:Int) else (a.length:Int)) - 1) - 0).toNat:=hi;have ed:d=.int (((if (b.length:Int)<(a.length:Int) then (b.length:Int) else (a.length:Int)) - 1) - (i:Int)):=ed;rw [hm] at hi ed;obtain⟨k,hk,hk2⟩:∃k:Nat,(((min a.length b.length:Nat):Int) - 1) - (i:Int)=(k:Int)/\k=min a.length b.length - 1 - i:=⟨min a.length b.length - 1 - i,by omega,rfl⟩
  rw [hk] at ed;subst ed;walk_at "r"
  have e1:dU a (some ((a.length:Int) - (k:Int))) none=a.drop (a.length - k):=by
   rw [show (a.length:Int) - (k:Int)=((a.length - k:Nat):Int) by omega,uW]
  have e2:dU b none (some (k:Int))=b.take k:=kv b k
  have sfx:a.drop (a.length - k)=b.take k ↔ b.take k <:+ a:=by
   rw [Kx,length_take,show min k b.length=k by omega];exact⟨λh=>h.symm,λh=>h.symm⟩
  rw [e1,e2]
  refine cM (λc=>?_) (λc=>?_)
  .walk_at "r"
   rw [show j3 a b=k from nX ⟨by omega,sfx.mp c,λj h1 h2=>by
    rcases lt_or_ge k j with h|h
    .exact absurd h2 (ih j (by omega) h1)
    .exact h⟩] at q
   exact q
  .refine⟨⟨_,rfl⟩,λj h1 h2=>?_⟩
   by_cases hj:j=k
   .rw [hj];exact λz=>c (sfx.mpr z)
   .exact ih j (by omega) h2
 .rintro ρ ⟨⟨v2,rfl⟩,ih⟩;rw [hm] at ih;walk_at "r"
  rw [show j3 a b=0 from nX ⟨by omega,by rw [take_zero];exact nil_suffix,λj h1 h2=>by
   rcases eq_zero_or_pos j with h|h
   .omega
   .exact absurd h2 (ih j (by omega) h1)⟩] at q
  exact q
noncomputable def i9(K:b_)(mg:Str->Option Value)(t:TxC K/\TxX K mg):=(have TC:=t.1;have TX:=t.2;show LS K [0] _ _ from (aA (aR (aw bH (ae (bF (aa (ae (le_int (i:=7))) (aa (ae (le_int (i:=7))) (aa (ae (le_int (i:=7))) (aa (ae (aw vw (ae (le_int (i:=10))) (ae (le_int (i:=6))))) ac)))))) (ae (aQ (c:=aE) (i:=0) (aa (ae (le_int (i:=4))) ac)))) (aK (i:=2) rfl)) (aA (aR (bI (ix:=[none,some 0,some 2]) rfl (cq (ao (i:=1))) (λfs hc=>(au (i:=0) (lJ hc (by decide)))) dH (aQ (c:=aE) (i:=1) (aa (ae (ao (i:=2))) ac))) (aK (i:=3) rfl)) (aA (aR (bF ac) (aK (i:=4) rfl)) (aA (du (kL (aa (ae (aP bc (aa (al (i:=1)) ac))) ac)) (au (i:=5) rfl) (aA (aR (le_int (i:=0)) (aK (i:=6) rfl)) (aA (du (kL (aa (ae (aP bc (aa (al (i:=1)) ac))) ac)) (au (i:=7) rfl) (cF (gF (aw jT (al (i:=7)) (al (i:=5)))) (aR (aP vD (aa (al (i:=6)) (aa (ae (aw gP (ae (aJ (c:=gJ) (aa (ae (aw bH (al (i:=1)) (al (i:=7)))) (aa (ae (aw bH (al (i:=1)) (al (i:=5)))) ac)))) (ae (aw bH (al (i:=3)) (al (i:=7)))))) ac))) (aK (i:=6) rfl)) bd)) (dG (iQ (i:=4) (aw br (al (i:=6)) (ae (aw jR (ae (aQ (c:=aE) (i:=0) (aa (ae (le_int (i:=3))) ac))) (ae (aQ (c:=aE) (i:=0) (aa (ae (le_int (i:=2))) ac))))))))))) (aO (Dm (bF (aa (ae (ao (i:=3))) (aa (ae (ao (i:=4))) ac))))))))))
def oE:PTS:=psO i9
def oF:RRl fO oE 8 2:=λ_ _ Q h=>y0 h λ_ h=>gM h λc0 _ h=>gM h λc1 _ h=>eA h λh=>yt h λds _ h=>eA h λh=>A_ rfl <| by
 walk_at "z";obtain⟨g,ws,rfl,⟨hn,hp⟩,q⟩:=h;have hlm:(ws.map D.str).length=ws.length:=length_map _;have lat:∀i,i<ws.length->0<(pw ws i).length/\(pw ws i).length<=10000:=λi hi=>by have:=hp _ (fT hi);exact⟨this.1,by have:=this.2.1;omega⟩
 walk_at "r";rintro x ⟨a,b⟩ hs hx0 hx1
 have hm:∃n:Int,atI [D.int 7,D.int 7,D.int 7,D.int (10^Lw 6)] x=some (.int n)/\0<n/\n<=1000000:=by
  rcases (show x=0\/x=1\/x=2\/x=3 by omega) with rfl|rfl|rfl|rfl
  .exact⟨7,rfl,by decide,by decide⟩
  .exact⟨7,rfl,by decide,by decide⟩
  .exact⟨7,rfl,by decide,by decide⟩
  .exact⟨10^Lw 6,rfl,by decide,by decide⟩
 obtain⟨n,en,hn0,hn1⟩:=hm;refine⟨_,en,?_⟩;walk_at "r"
 refine⟨λk ys τ=>∃(v:Option PV) (s:Int×Int) (gs:List Int),τ=[v,some (stv s),some (.dat (.int n))]/\SOk s/\ys=gs.map .int/\gs.length=k/\∀z∈gs,0<=z/\z<=10^7,⟨none,(a,b),[],rfl,hs,rfl,rfl,(λz hz=>nomatch hz)⟩,?_,?_⟩
 .rintro k ys τ _ hk rfl ⟨v,⟨a,b⟩,gs,rfl,hs,rfl,hl,hL⟩;walk_at "r";intro z s2 hs2 hz0 hz1;refine⟨_,s2,gs++[z],rfl,hs2,by rw [map_append];rfl,by rw [length_append,hl];rfl,λy hy=>?_⟩
  rcases Ij.mp hy with hy|hy
  .exact hL y hy
  .rw [y_.mp hy];exact⟨hz0,by omega⟩
 .rintro ys τ ⟨v,s2,gs,rfl,hs2,rfl,hl,hL⟩;rw [hlm] at hl;have atg:∀i,i<ws.length->atI (gs.map D.int) (i:Int)=some (.int (gs.getD i 0)):=λi hi=>by rw [(fV (d:=.lst (gs.map .int)) (.lst _) (by omega)).2,(fV (.lst _) (by omega)).1]
  walk_at "r"
  refine⟨λk ρ=>∃(ts:List Int) (s:Int×Int) (v5 v6 v7:Option PV),SOk s/\ts.length=k/\(∀z∈ts,0<=z/\z<=10^7)/\ρ=[some (stv s),some (.dat (.lst (ws.map .str))),some (.dat (.int n)),some (.own (gs.map .int)),some (.own (ts.map .int)),v5,v6,v7],⟨[],s2,_,_,_,hs2,rfl,(λz hz=>nomatch hz),rfl⟩,?_,?_⟩
  .rintro j ρ _ hj rfl ⟨ts,s,v5,v6,v7,hs,tl,tb,rfl⟩;have hj:j<ws.length:=by rw [hlm,toNat_natCast] at hj;exact hj
   have lj:=lat j hj;walk_at "r"
   refine⟨λi ρ=>∃(m:Int) (v7:Option PV),(0<=m/\m<=10000)/\ρ=[some (stv s),some (.dat (.lst (ws.map .str))),some (.dat (.int n)),some (.own (gs.map .int)),some (.own (ts.map .int)),some (.dat (.int (j:Int))),some (.dat (.int m)),v7],⟨0,_,by decide,rfl⟩,?_,?_⟩
   .rintro i ρ _ hi rfl ⟨m,v7,⟨hm0,hm1⟩,rfl⟩;have hi:i<ws.length:=by rw [hlm,toNat_natCast] at hi;exact hi
    have li:=lat i hi;have lap:=(vV li.1 lj.1).1;have gb:=hL _ (jU (l:=gs) (k:=i) (d:=0) (by omega));walk_at "r"
    refine f9 (cM (λe=>?_) (λe=>?_))
    .exact⟨m,_,⟨hm0,hm1⟩,rfl⟩
    .walk_at "r";refine⟨_,bW hi rfl,?_⟩;walk_at "r";refine⟨_,bW hj rfl,?_⟩;walk_at "r";refine⟨_,atg i hi,?_⟩;walk_at "r";refine⟨_,_,?_,rfl⟩;split <;> omega
   .rintro ρ ⟨m,v7,⟨hm0,hm1⟩,rfl⟩;walk_at "r";rintro y ⟨a,b⟩ hs hy0 hy1;walk_at "r";rintro z ⟨a,b⟩ hs hz0 hz1;walk_at "r"
    have hyz:0<=y*z/\y*z<=2:=by
     rcases (show z=0\/z=1 by omega) with rfl|rfl <;> omega
    refine⟨ts++[m+y*z],(a,b),_,_,_,hs,by rw [length_append,tl];rfl,λx hx=>?_,by rw [map_append];rfl⟩
    rcases Ij.mp hx with hx|hx
    .exact tb x hx
    .rw [y_.mp hx];exact⟨by omega,by omega⟩
  .rintro ρ ⟨ts,s,v5,v6,v7,hs,tl,tb,rfl⟩;rw [hlm,toNat_natCast] at tl;walk_at "r";exact q gs ts s hs hl tl ⟨by omega,hL⟩ ⟨by omega,tb⟩
noncomputable def jX(K:b_)(mg:Str->Option Value)(t:TxC K/\TxX K mg):=(have TC:=t.1;have TX:=t.2;show LS K [] _ _ from (aA (cF (nL (gF (aw jT (ae (aP bc (aa (al (i:=1)) ac))) (ae (aP bc (aa (al (i:=0)) ac))))) (gF (aw jT (ae (aP bc (aa (al (i:=2)) ac))) (ae (aP bc (aa (al (i:=0)) ac)))))) (aO (gc (i:=false))) bd) (aA (du (cq (aw br (al (i:=1)) (al (i:=2)))) (au (i:=3) rfl) (cF (nL (dr (mK (kJ .int (al (i:=3))))) (nL (mK (kJ .bool (al (i:=3)))) (gF (aw vx (al (i:=3)) (ae (le_int (i:=0))))))) (aO (gc (i:=false))) bd)) (aA (du (kL (aa (ae (aP bc (aa (al (i:=0)) ac))) ac)) (au (i:=4) rfl) (du (kL (aa (ae (aP bc (aa (al (i:=0)) ac))) ac)) (au (i:=5) rfl) (cF (si (gF (aw jT (al (i:=4)) (al (i:=5)))) (gF (aw vx (ae (aw br (ae (aw bH (al (i:=1)) (al (i:=4)))) (ae (aw bH (al (i:=2)) (al (i:=5)))))) (ae (aJ (c:=gJ) (aa (ae (aw bH (al (i:=0)) (al (i:=4)))) (aa (ae (aw bH (al (i:=0)) (al (i:=5)))) ac))))))) (aO (gc (i:=false))) bd))) (aO (gc (i:=true)))))))
def qh:PTS:=psO jX
def qi:PRl gB qh 6 3:=λ_ Q h=>yt h λds _ h=>yt h λg _ h=>yt h λt _ h=>eA h λh=>A_ rfl <| by
 walk_at "z";obtain⟨ws,rfl,⟨hn,hp⟩,⟨hg,ht⟩,q⟩:=h;have hlm:(ws.map D.str).length=ws.length:=length_map _;have hg1:=hg.1;have ht1:=ht.1;have hcl:(g++t).length=g.length+t.length:=length_append;have lat:∀i,i<ws.length->0<(pw ws i).length/\(pw ws i).length<=10000:=λi hi=>by have:=hp _ (fT hi);exact⟨this.1,by have:=this.2.1;omega⟩
 walk_at "r"
 refine vq (λc=>?_) (λc=>?_)
 .rw [wU (by rw [p9,decide_eq_false (λz=>by rw [hlm,decide_eq_true (by omega)] at c;cases c),HQ,HQ])] at q;walk_at "r";exact q
 have c:g.length=ws.length:=by
  rcases Nat.decEq g.length ws.length with z|z
  .rw [hlm,decide_eq_false (by omega)] at c;cases c
  .exact z
 refine vq (λc2=>?_) (λc2=>?_)
 .rw [wU (by rw [p9,decide_eq_false (p:=t.length=ws.length) (λz=>by rw [hlm,decide_eq_true (by omega)] at c2;cases c2),HQ,HY])] at q;walk_at "r";exact q
 have c2:t.length=ws.length:=by
  rcases Nat.decEq t.length ws.length with z|z
  .rw [hlm,decide_eq_false (by omega)] at c2;cases c2
  .exact z
 walk_at "r"
 refine⟨λk ρ=>(∃v3:Option PV,ρ=[some (.dat (.lst (ws.map .str))),some (.dat (.lst g)),some (.dat (.lst t)),v3,none,none])/\∀j,j<k->gA (itD (g++t) j)=true,⟨⟨_,rfl⟩,λj hj=>absurd hj (KF _)⟩,?_,?_⟩
 .rintro k ρ d hk ed ⟨⟨v3,rfl⟩,hd⟩;have hm:d∈g++t:=by rw [ed];exact fq hk
  have hs:d.sort=true:=(Ij.mp hm).elim (λz=>(hg.2 d z).1) λz=>(ht.2 d z).1
  have nx:gA d=true->∀j,j<k+1->gA (itD (g++t) j)=true:=λz j hj=>by
   rcases lt_or_ge j k with y|y
   .exact hd j y
   .rw [show j=k by omega,<- ed];exact z
  clear ed
  cases d with
  | int i =>
   walk_at "r"
   refine cM (λc=>?_) (λc=>?_)
   .rw [wV hm (by show (true && decide (0<=i))=false;rw [decide_eq_false (by omega)];rfl)] at q;walk_at "r";exact q
   .exact⟨⟨_,rfl⟩,nx (by show (true && decide (0<=i))=true;rw [decide_eq_true (by omega)];rfl)⟩
  | obj _ _ _=>cases hs
  | exc _ _ _=>cases hs
  | scr _=>cases hs
  | ty _=>cases hs
  | _ =>
   rw [wV hm rfl] at q;walk_at "r";exact q
 .rintro ρ ⟨⟨v3,rfl⟩,hd⟩
  have hgood:∀d∈g++t,gA d=true:=λd h=>by
   obtain⟨j,hj,e⟩:=Lf h;have:=hd j hj;rw [fS (by rw [gV hj,e])] at this;exact this
  clear hd;obtain⟨gs,rfl⟩:=i4 λd h=>hgood d (IW _ h);obtain⟨ts,rfl⟩:=i4 λd h=>hgood d (t_ _ h);rw [length_map] at c c2;have pis:=DO c c2 hgood;have atg:∀i,i<ws.length->atI (gs.map D.int) (i:Int)=some (.int (gs.getD i 0)):=λi hi=>by rw [(fV (d:=.lst (gs.map .int)) (.lst _) (by omega)).2,(fV (.lst _) (by omega)).1]
  have att:∀i,i<ws.length->atI (ts.map D.int) (i:Int)=some (.int (ts.getD i 0)):=λi hi=>by rw [(fV (d:=.lst (ts.map .int)) (.lst _) (by omega)).2,(fV (.lst _) (by omega)).1]
  clear hgood;walk_at "r"
  refine⟨λi ρ=>(∃v4 v5:Option PV,ρ=[some (.dat (.lst (ws.map .str))),some (.dat (.lst (gs.map .int))),some (.dat (.lst (ts.map .int))),v3,v4,v5])/\∀i',i'<i->∀j,j<ws.length->i'≠j->(j3 (pw ws i') (pw ws j):Int)<=gs.getD i' 0+ts.getD j 0,⟨⟨_,_,rfl⟩,λj hj=>absurd hj (KF _)⟩,?_,?_⟩
  .rintro i ρ _ hi rfl ⟨⟨v4,v5,rfl⟩,ih⟩;have hi:i<ws.length:=by rw [hlm,toNat_natCast] at hi;exact hi
   have li:=lat i hi;walk_at "r"
   refine⟨λj ρ=>(∃v5:Option PV,ρ=[some (.dat (.lst (ws.map .str))),some (.dat (.lst (gs.map .int))),some (.dat (.lst (ts.map .int))),v3,some (.dat (.int (i:Int))),v5])/\∀j',j'<j->i≠j'->(j3 (pw ws i) (pw ws j'):Int)<=gs.getD i 0+ts.getD j' 0,⟨⟨_,rfl⟩,λj hj=>absurd hj (KF _)⟩,?_,?_⟩
   .rintro j ρ _ hj rfl ⟨⟨v5,rfl⟩,jh⟩;have hj:j<ws.length:=by rw [hlm,toNat_natCast] at hj;exact hj
    have lj:=lat j hj;walk_at "r"
    refine f9 (cM (λe=>?_) (λe=>?_))
    .exact⟨⟨_,rfl⟩,λj' h1 h2=>jh j' (by omega) h2⟩
    .walk_at "r";refine⟨_,atg i hi,?_⟩;walk_at "r";refine⟨_,att j hj,?_⟩;walk_at "r";refine⟨_,bW hi rfl,?_⟩;walk_at "r";refine⟨_,bW hj rfl,?_⟩;walk_at "r"
     refine cM (λz=>?_) (λz=>?_)
     .rw [eq_false_iff.mpr λh=>absurd (pis.mp h i j hi hj (by omega)) (by omega)] at q;walk_at "r";exact q
     .refine⟨⟨_,rfl⟩,λj' h1 h2=>?_⟩
      rcases lt_or_ge j' j with y|y
      .exact jh j' y h2
      .rw [show j'=j by omega];omega
   .rintro ρ ⟨⟨v5,rfl⟩,jh⟩;rw [hlm,toNat_natCast] at jh;refine⟨⟨_,_,rfl⟩,λi' h1=>?_⟩
    rcases lt_or_ge i' i with y|y
    .exact ih i' y
    .rw [show i'=i by omega];exact jh
  .rintro ρ ⟨⟨v4,v5,rfl⟩,ih⟩;rw [hlm,toNat_natCast] at ih;rw [pis.mpr λi j hi hj hij=>ih i hi j hj hij] at q;walk_at "r";exact q
noncomputable def lu(K:b_)(mg:Str->Option Value)(t:TxC K/\TxX K mg):=(have TC:=t.1;have TX:=t.2;show LS K [0] _ _ from (DB (x:=3) rfl (AR (y:=1) (z:=2)) (AS (r:=4) (x:=3) rfl (by decide) (aQ (c:=aE) (i:=0) (aa (ae (le_int (i:=2))) ac)) (aR (aQ (c:=aE) (i:=0) (aa (ae (le_int (i:=5))) ac)) (aK (i:=5) rfl)) (nM (cF (nL (gF (aw gi (al (i:=5)) (ae (le_int (i:=0))))) (gF (aw gi (al (i:=4)) (ae (bF ac))))) (dG (iQ (i:=4) (aQ (c:=aE) (i:=0) (aa (ae (le_int (i:=3))) ac)))) (cF (gF (aw gi (al (i:=5)) (ae (le_int (i:=1))))) (dG (x5 (i:=4) (aQ (c:=aE) (i:=0) (aa (ae (aP bc (aa (al (i:=4)) ac))) ac)))) (aA (aR (aQ (c:=aE) (i:=0) (aa (ae (aP bc (aa (al (i:=4)) ac))) ac)) (aK (i:=6) rfl)) (qF (i:=4) (aw bH (ae (bF (aa (ae (aw gP (ae (aw bH (al (i:=4)) (al (i:=6)))) (ae (le_int (i:=1))))) (aa (ae (aw gP (ae (aw bH (al (i:=4)) (al (i:=6)))) (ae (le_int (i:=1))))) (aa (ae (aw bH (ae (bF (aa (ae mJ) (aa (ae (gc (i:=true))) (aa (ae (le_str (l:=[49]))) (aa (ae (bF ac)) (aa (ae (tG mP (ae (le_int (i:=1))))) ac))))))) (ae (aQ (c:=aE) (i:=0) (aa (ae (le_int (i:=5))) ac))))) ac))))) (ae (aw gP (al (i:=5)) (ae (le_int (i:=2)))))) (ao (i:=6))))))) (DA (x:=3) (aO (ao (i:=3)))))))
def rB:PTS:=psO lu
def rC:RRl iE rB 7 3:=λ_ _ Q h=>y0 h λ_ h=>gM h λc0 _ h=>gM h λc1 _ h=>eA h λh=>yt h λg _ h=>yt h λt _ h=>eA h λh=>A_ rfl <| by
 walk_at "z";obtain⟨h0,gs,ts,rfl,rfl,⟨bg,bt⟩,q⟩:=h;walk_at "r";refine⟨_,_,gs.map .int,ts.map .int,rfl,rfl,.inl rfl,.inl rfl,?_⟩;walk_at "r";rintro x ⟨a,b⟩ hs hx0 hx1;obtain⟨i,rfl⟩:∃i:Nat,x=(i:Int):=⟨x.toNat,by omega⟩
 have hi:i<2:=by omega
 obtain⟨zs,ez,bz⟩:∃zs:List Int,[gs,ts][i]?=some zs/\Bnd zs:=by
  rcases (show i=0\/i=1 by omega) with rfl|rfl
  .exact⟨gs,rfl,bg⟩
  .exact⟨ts,rfl,bt⟩
 refine⟨i,zs.map .int,Fu hi,?_,?_⟩
 .rcases (show i=0\/i=1 by omega) with rfl|rfl <;> cases ez <;> rfl
 have hzl:=bz.1;have hzm:(zs.map D.int).length=zs.length:=length_map _;have rz:=gX.ints bz;have rg:=gX.ints bg;have rt:=gX.ints bt;walk_at "r";rintro y ⟨a,b⟩ hs hy0 hy1;walk_at "r"
 refine⟨λρ=>∃(row:List D) (s:Int×Int) (v6:Option PV),SOk s/\gX row/\ρ=[some (stv s),some (.dat (.lst (gs.map .int))),some (.dat (.lst (ts.map .int))),none,some (.own row),some (.dat (.int y)),v6],?_,?_⟩
 .have ad:∀z:Int,0<=z->z<3->gX (zs.map D.int++[.int z]):=λz h0 h1=>⟨by rw [length_append,hzm];show _+1<=_;omega,λd hd=>(Ij.mp hd).elim (rz.2 d) λh=>by rw [y_.mp h];exact⟨rfl,Iy _,by show z<=_;omega⟩⟩
  have eo:vy (.lst (zs.map D.int)) (.lst []):=vy.of (Sh.lstI _) (Sh.lstI []);have ed:deq (.lst (zs.map D.int)) (.lst [])=decide (zs=[]):=yf zs [];walk_at "r"
  refine cM (λc=>?_) (λc=>?_)
  .walk_at "r";rintro z ⟨a,b⟩ hs hz0 hz1;walk_at "r";exact⟨_,(a,b),_,hs,ad z hz0 hz1,rfl⟩
  .walk_at "r";rw [ed]
   refine cM (λc2=>?_) (λc2=>?_)
   .walk_at "r";rintro z ⟨a,b⟩ hs hz0 hz1;walk_at "r";exact⟨_,(a,b),_,hs,ad z hz0 hz1,rfl⟩
   .have hzp:0<zs.length:=length_pos_iff.mpr c2;walk_at "r"
    refine cM (λc3=>?_) (λc3=>?_)
    .walk_at "r";rintro z ⟨a,b⟩ hs hz0 hz1;obtain⟨k,rfl⟩:∃k:Nat,z=(k:Int):=⟨z.toNat,by omega⟩
     have hk:k<zs.length:=by omega
     walk_at "r";exact⟨k,_,⟨by rw [hzm];exact Fu hk,by omega⟩,gV (by rw [hzm];exact hk),_,(a,b),_,hs,rz.del k,rfl⟩
    .walk_at "r";rintro z ⟨a,b⟩ hs hz0 hz1;obtain⟨k,rfl⟩:∃k:Nat,z=(k:Int):=⟨z.toNat,by omega⟩
     have hk:k<zs.length:=by omega
     have hz:=bz.2 _ (jU (d:=0) hk);have atz:atI (zs.map D.int) (k:Int)=some (.int (zs.getD k 0)):=by rw [(fV (d:=.lst (zs.map .int)) (.lst _) hk).2,(fV (.lst _) hk).1]
     walk_at "r";refine⟨_,atz,?_⟩;walk_at "r";refine⟨_,atz,?_⟩;walk_at "r";rintro w ⟨a,b⟩ hs hw0 hw1;have hsm:∀d:D,d.sort=true/\(aC d).length<=20/\toI d<=10^7->gX ((zs.map D.int).set k d):=λd h=>rz.put h
     obtain⟨d,ed,hd⟩:∃d,atI [D.non,D.bl true,D.str [49],D.lst [],D.int (-1)] w=some d/\d.sort=true/\(aC d).length<=20/\toI d<=10^7:=by
      rcases (show w=0\/w=1\/w=2\/w=3\/w=4 by omega) with rfl|rfl|rfl|rfl|rfl
      .exact⟨_,rfl,rfl,by decide,by decide⟩
      .exact⟨_,rfl,rfl,by decide,by decide⟩
      .exact⟨_,rfl,rfl,by decide,by decide⟩
      .exact⟨_,rfl,rfl,by decide,by decide⟩
      .exact⟨_,rfl,rfl,by decide,by decide⟩
     refine⟨_,ed,?_⟩;walk_at "r"
     obtain⟨d2,ed2,hd2⟩:∃d2,atI [D.int (zs.getD k 0 - 1),D.int (zs.getD k 0 - 1),d] (y - 2)=some d2/\d2.sort=true/\(aC d2).length<=20/\toI d2<=10^7:=by
      rcases (show y=2\/y=3\/y=4 by omega) with rfl|rfl|rfl
      .exact⟨_,rfl,rfl,Iy _,by show zs.getD k 0 - 1<=_;omega⟩
      .exact⟨_,rfl,rfl,Iy _,by show zs.getD k 0 - 1<=_;omega⟩
      .exact⟨_,rfl,hd⟩
     refine⟨_,ed2,?_⟩;walk_at "r";exact⟨k,by rw [hzm];exact Fu hk,_,(a,b),_,hs,rz.put hd2,rfl⟩
 .rintro ρ ⟨row,s,v6,hs,hrow,rfl⟩;refine⟨row,rfl,?_⟩;walk_at "r"
  rcases (show i=0\/i=1 by omega) with rfl|rfl
  .exact q row (ts.map .int) s hs hrow rt
  .exact q (gs.map .int) row s hs rg hrow
noncomputable def gD(K:b_)(mg:Str->Option Value)(t:TxC K/\TxX K mg):=(have TC:=t.1;have TX:=t.2;show LS K [] _ _ from (aA (aR mJ (aK (i:=2) rfl)) (aA (Dh (c:=dO) (aa (ae (ao (i:=0))) (aa (ae (ao (i:=1))) ac)) (Fq (c0:="GlueError") (i:=3) TX.all (by first|exact Or.inr rfl|exact Lv (Hd.mp (by decide +kernel))) rfl (aR (ao (i:=3)) (aK (i:=2) rfl)) Dg)) (aA (cF (nL (dr (mK (C7 (d:="NoPaper") TX.all (by first|exact Or.inr rfl|exact Lv (Hd.mp (by decide +kernel))) (al (i:=2))))) (dr (mK (C8 TX.all (al (i:=2)))))) (aO (gc (i:=false))) bd) (aO (vv (AL ["NoLine","NoOrder","NoPiece","NotHeld","NoTable"] TX.all (by decide +kernel) (by decide) (al (i:=2)))))))))
def lv:PTS:=psO gD
def lw:PRl bY lv 4 2:=λ_ Q h=>D9 h λc ns fs _ h=>um h λe _ h=>eA h λh=>A_ rfl <| by
 walk_at "z";obtain⟨rfl,rfl,ps,rfl,ho,hp,q⟩:=h;have i1:ul "NoPaper" "NoPaper"=true:=by decide +kernel
 have i2:(["NoLine","NoOrder","NoPiece","NotHeld","NoTable"]:List Str).any (ul "NoPaper")=false:=by decide +kernel
 walk_at "r";refine⟨λz=>absurd z (by rw [hp];decide),λ_=>?_⟩;walk_at "r";exact q
noncomputable def lx(K:b_)(mg:Str->Option Value)(t:TxC K/\TxX K mg):=(have TC:=t.1;have TX:=t.2;show LS K [] _ _ from (aA (aR (ao (i:=2)) (pU (n:=2) (bq (au (i:=3) rfl) (bq (au (i:=4) rfl) fk)))) (aA (cF (dr (mK (aJ (c:=gB) (aa (ae (ao (i:=1))) (aa (ae (ao (i:=3))) (aa (ae (ao (i:=4))) ac)))))) (aO (jQ (aJ (c:=bY) (aa (ae (ao (i:=0))) (aa (ae (ao (i:=2))) ac))) (aJ (c:=bY) (aa (ae (ao (i:=0))) (aa (ae (kG (aa (ae (aP dy (aa (al (i:=3)) ac))) (aa (ae (aP nO (aa (al (i:=4)) ac))) ac)))) ac))))) bd) (aA (aR (bF ac) (aK (i:=5) rfl)) (aA (du (kL (aa (ae (aP bc (aa (al (i:=1)) ac))) ac)) (au (i:=6) rfl) (dG (iQ (i:=5) (aw br (ae (aw br (ae (aw br (ae (aw br (ae (aw bH (al (i:=1)) (al (i:=6)))) (ae (le_str (l:=[32,103,105,118,101,115,32]))))) (ae (aP iu (aa (ae (aw bH (al (i:=3)) (al (i:=6)))) ac))))) (ae (le_str (l:=[32,116,97,107,101,115,32]))))) (ae (aP iu (aa (ae (aw bH (al (i:=4)) (al (i:=6)))) ac))))))) (aA (aR (aP bc (aa (ae (pO iU (le_str (l:=[])) (aa (al (i:=1)) ac))) ac)) (aK (i:=7) rfl)) (aA (aR (aw br (ae (aP qH (aa (al (i:=3)) ac))) (ae (aP qH (aa (al (i:=4)) ac)))) (aK (i:=8) rfl)) (aA (dG (iQ (i:=5) (aw br (ae (aw br (ae (aw br (ae (aw br (ae (aP iu (aa (al (i:=7)) ac))) (ae (le_str (l:=[32,108,101,115,115,32]))))) (ae (aP iu (aa (al (i:=8)) ac))))) (ae (le_str (l:=[32,105,115,32]))))) (ae (aP iu (aa (ae (aw gP (al (i:=7)) (al (i:=8)))) ac)))))) (aA (du (cq (bF (aa (ae (ao (i:=2))) (aa (ae (kG (aa (ae (aP dy (aa (al (i:=3)) ac))) (aa (ae (aP nO (aa (al (i:=4)) ac))) ac)))) ac)))) (au (i:=9) rfl) (aA (aR (sD (c:=dO) (aa (ae (ao (i:=0))) (aa (ae (ao (i:=9))) ac))) (aK (i:=10) rfl)) (aA (cF (nL (dr (mK (kJ .tuple (al (i:=10))))) (gF (aw jT (ae (aP bc (aa (al (i:=10)) ac))) (ae (aP bc (aa (al (i:=5)) ac)))))) (aO (gc (i:=false))) bd) (du (Cu (aa (ae (ao (i:=10))) (aa (ae (ao (i:=5))) ac))) (nV (n:=2) (bq (au (i:=11) rfl) (bq (au (i:=12) rfl) fk))) (cF (nL (dr (mK (kJ .str (al (i:=11))))) (gF (aw jT (al (i:=11)) (al (i:=12))))) (aO (gc (i:=false))) bd))))) (aO (gc (i:=true))))))))))))
def iF:PTS:=psO lx
def qj(c:Str)(ns:List Str)(fs:List D)(ds:List D)(g t:List D)(Q:PV->Prop)(h:c7 ([.obj c ns fs,.lst ds,.lst [.lst g,.lst t]]) Q):CV iF qW ([.obj c ns fs,.lst ds,.lst [.lst g,.lst t]]) Q:=by
 show iF _ [some (.dat (.obj c ns fs)),some (.dat (.lst ds)),some (.dat (.lst [.lst g,.lst t])),none,none,none,none,none,none,none,none,none,none];obtain⟨rfl,rfl,ps,rfl,rfl,⟨hn,hw⟩,⟨hg,ht⟩,q⟩:=h;have hwn:=eT ps;have wm:((aq ps).map D.str).length=(aq ps).length:=length_map _;have hw60:∀w∈aq ps,w.length<=60:=λw h=>(hw w h).2.1;have h40:(aq ps).length<=40/\Pcs 60 (aq ps):=⟨by omega,hw⟩
 obtain⟨o1,o2⟩:=A0 hg ht;obtain⟨o3,o4⟩:=A1 hg ht;have g1:okP (.lst [.lst g,.lst t])/\ps.length<=10/\(∀w∈aq ps,w.length<=60)/\∀r∈aC (.lst [.lst g,.lst t]),∀x∈aC r,toI x<=10^7:=⟨o1,hn,hw60,o2⟩
 have g2:okP (.tup [.tup g,.lst t])/\ps.length<=10/\(∀w∈aq ps,w.length<=60)/\∀r∈aC (.tup [.tup g,.lst t]),∀x∈aC r,toI x<=10^7:=⟨o3,hn,hw60,o4⟩
 have hgt:gX g/\gX t:=⟨hg,ht⟩
 have hgl:=hg.1;have htl:=ht.1;walk_at "r"
 refine f9 (vq (λc=>?_) (λc=>?_))
 .have c2:gW (.tup [.tup g,.lst t]) (aq ps)=true:=c
  obtain⟨⟨gl,ga⟩,tl,ta⟩:(g.length=(aq ps).length/\g.all gA=true)/\t.length=(aq ps).length/\t.all gA=true:=by
   have c1:=c2;unfold gW at c1;rw [show ppB (.tup [.tup g,.lst t]) (aq ps).length=ppB (.lst [.lst g,.lst t]) (aq ps).length from rfl,p9,and_eq_true,and_eq_true,and_eq_true,and_eq_true,decide_eq_true_eq,decide_eq_true_eq] at c1;exact c1.1
  have gb:∀d∈g,0<=toI d/\toI d<=10^7:=λd hd=>⟨by have:=Hj.mp ga d hd;unfold gA at this;rw [and_eq_true] at this;exact of_decide_eq_true this.2,(hg.2 d hd).2.2⟩
  have tb:∀d∈t,0<=toI d/\toI d<=10^7:=λd hd=>⟨by have:=Hj.mp ta d hd;unfold gA at this;rw [and_eq_true] at this;exact of_decide_eq_true this.2,(ht.2 d hd).2.2⟩
  obtain⟨gs,rfl⟩:=i4 λd h=>Hj.mp ga d h;obtain⟨ts,rfl⟩:=i4 λd h=>Hj.mp ta d h;have gb:∀z∈gs,0<=z/\z<=10^7:=λz hz=>gb (.int z) (Iz.mpr ⟨z,hz,rfl⟩);have tb:∀z∈ts,0<=z/\z<=10^7:=λz hz=>tb (.int z) (Iz.mpr ⟨z,hz,rfl⟩);have gm:(gs.map D.int).length=gs.length:=length_map _;have tm:(ts.map D.int).length=ts.length:=length_map _;have atg:∀i,i<(aq ps).length->atI (gs.map D.int) (i:Int)=some (.int (gs.getD i 0)):=λi hi=>by rw [(fV (d:=.lst (gs.map .int)) (.lst _) (by omega)).2,(fV (.lst _) (by omega)).1]
  have att:∀i,i<(aq ps).length->atI (ts.map D.int) (i:Int)=some (.int (ts.getD i 0)):=λi hi=>by rw [(fV (d:=.lst (ts.map .int)) (.lst _) (by omega)).2,(fV (.lst _) (by omega)).1]
  obtain⟨sg0,sg1⟩:=iD (m:=10^7) (λx hx=>(gb x hx).1) (λx hx=>(gb x hx).2);obtain⟨st0,st1⟩:=iD (m:=10^7) (λx hx=>(tb x hx).1) (λx hx=>(tb x hx).2);have hws:=iD (m:=60) (zs:=(aq ps).map λw=>(w.length:Int)) (λx hx=>by obtain⟨w,_,rfl⟩:=Iz.mp hx;omega) (λx hx=>by obtain⟨w,hy,rfl⟩:=Iz.mp hx;have:=hw60 w hy;omega);rw [length_map] at hws;have hfl:=yw (aq ps);have hfl2:(aq ps).flatten.length<=1000000:=by omega
  walk_at "r"
  refine⟨λk ρ=>∃v6:Option PV,ρ=[some (.dat (.obj "Family" j4 (j5 ps))),some (.dat (.lst ((aq ps).map .str))),some (.dat (.lst [.lst (gs.map .int),.lst (ts.map .int)])),some (.dat (.lst (gs.map .int))),some (.dat (.lst (ts.map .int))),some (.own ((i_ k).map λk=>D.str (AX (aq ps) gs ts k))),v6,none,none,none,none,none,none],⟨_,rfl⟩,?_,?_⟩
  .rintro k ρ _ hk rfl ⟨v6,rfl⟩;have hk:k<(aq ps).length:=by rw [wm,toNat_natCast] at hk;exact hk
   have hrm:((i_ k).map λk=>D.str (AX (aq ps) gs ts k)).length=k:=by rw [length_map,Hs]
   have g1:=gb _ (jU (l:=gs) (k:=k) (d:=0) (by omega));have t1:=tb _ (jU (l:=ts) (k:=k) (d:=0) (by omega));have dg:=cW (i:=gs.getD k 0) ⟨by omega,by omega⟩;have dt:=cW (i:=ts.getD k 0) ⟨by omega,by omega⟩;have wk:=hw60 _ (fT hk);walk_at "r";refine⟨_,bW hk rfl,?_⟩;walk_at "r";refine⟨_,atg k hk,?_⟩;walk_at "r";refine⟨_,att k hk,?_⟩;walk_at "r";rw [Kz,map_append];exact⟨_,rfl⟩
  rintro ρ ⟨v6,rfl⟩;rw [wm,toNat_natCast];have hrm:((i_ (aq ps).length).map λk=>D.str (AX (aq ps) gs ts k)).length=(aq ps).length:=by rw [length_map,Hs]
  have dl:=cW (i:=((aq ps).flatten.length:Int)) ⟨by omega,by omega⟩;have d2:=cW (i:=gs.sum+ts.sum) ⟨by omega,by omega⟩;have d3:=cW (i:=((aq ps).flatten.length:Int) - (gs.sum+ts.sum)) ⟨by omega,by omega⟩;walk_at "r";rw [hfl,show ((aq ps).map λw=>(w.length:Int)).sum - (gs.sum+ts.sum)=((aq ps).map λw=>(w.length:Int)).sum - gs.sum - ts.sum by omega]
  refine⟨λk ρ=>∃(p:PV) (v9 v10 v11 v12:Option PV),(p=.own (AZ (aq ps) gs ts)\/p=.dat (.lst (AZ (aq ps) gs ts)))/\ρ=[some (.dat (.obj "Family" j4 (j5 ps))),some (.dat (.lst ((aq ps).map .str))),some (.dat (.lst [.lst (gs.map .int),.lst (ts.map .int)])),some (.dat (.lst (gs.map .int))),some (.dat (.lst (ts.map .int))),some p,v6,some (.dat (.int ((aq ps).map λw=>(w.length:Int)).sum)),some (.dat (.int (gs.sum+ts.sum))),v9,v10,v11,v12],⟨_,_,_,_,_,.inl rfl,rfl⟩,?_,?_⟩
  .rintro k ρ d hk ed ⟨p,v9,v10,v11,v12,hp,rfl⟩;have hk:k<2:=hk
   obtain⟨h1,h2,h3,h4⟩:(okP d/\ps.length<=10/\(∀w∈aq ps,w.length<=60)/\∀r∈aC d,∀x∈aC r,toI x<=10^7)/\gW d (aq ps)=true/\(aC (itD (aC d) 0)).map toI=gs/\(aC (itD (aC d) 1)).map toI=ts:=by
    rcases (show k=0\/k=1 by omega) with rfl|rfl
    .rw [ed];exact⟨g1,c2,jG gs,jG ts⟩
    .rw [ed];exact⟨g2,c2,jG gs,jG ts⟩
   clear ed
   have hstr:∀k,k<(AZ (aq ps) gs ts).length->∃w,itD (AZ (aq ps) gs ts) k=.str w:=λk hk=>by
    rcases Ij.mp (fq hk) with h|h
    .obtain⟨i,_,e⟩:=Iz.mp h;exact⟨_,e.symm⟩
    .exact⟨_,y_.mp h⟩
   generalize hL:AZ (aq ps) gs ts=L at hp hstr;rcases hp with rfl|rfl
   all_goals
    walk_at "r";refine⟨λ_=>?_,λz=>by rw [h2] at z;cases z⟩;rw [h3,h4,hL];walk_at "r"
    refine⟨λk ρ=>∃v11 v12:Option PV,ρ=[some (.dat (.obj "Family" j4 (j5 ps))),some (.dat (.lst ((aq ps).map .str))),some (.dat (.lst [.lst (gs.map .int),.lst (ts.map .int)])),some (.dat (.lst (gs.map .int))),some (.dat (.lst (ts.map .int))),some (.dat (.lst L)),v6,some (.dat (.int ((aq ps).map λw=>(w.length:Int)).sum)),some (.dat (.int (gs.sum+ts.sum))),some (.dat d),some (.dat (.tup L)),v11,v12],⟨_,_,rfl⟩,?_,?_⟩
    .rintro k ρ _ hk rfl ⟨v11,v12,rfl⟩;obtain⟨w,ew⟩:=hstr k (by omega);rw [ew];walk_at "r";exact⟨_,_,rfl⟩
    .rintro ρ ⟨v11,v12,rfl⟩;exact⟨_,_,_,_,_,.inr rfl,rfl⟩
  .rintro ρ ⟨p,v9,v10,v11,v12,hp,rfl⟩;walk_at "r";exact q
 .have c:gW (.lst [.lst g,.lst t]) (aq ps)=false:=c;have c2:gW (.tup [.tup g,.lst t]) (aq ps)=false:=c;walk_at "r";exact q
theorem rD:PRl c7 iF 13 3
 | [.obj c ns fs,.lst ds,.lst [.lst g,.lst t]],Q,h=>⟨rfl,qj c ns fs ds g t Q h⟩
noncomputable def m9(K:b_)(mg:Str->Option Value)(t:TxC K/\TxX K mg):=(have TC:=t.1;have TX:=t.2;show LS K [0] _ _ from (aA (aR (aQ (c:=fM) (i:=0) (aa (ae (aQ (c:=aE) (i:=0) (aa (ae (le_int (i:=7))) ac))) (aa (ae (le_int (i:=9))) ac))) (aK (i:=1) rfl)) (aA (aR (bI (ix:=[none,some 1]) rfl (cq (aJ (c:=fN) (aa (ae (ao (i:=1))) ac))) (λfs hc=>(au (i:=0) (lJ hc (by decide)))) dH (aw bH (al (i:=1)) (al (i:=0)))) (aK (i:=2) rfl)) (aA (aR (vH (c0:="Family") (c:=bP) (aa (ae (ao (i:=1))) ac)) (aK (i:=3) rfl)) (aA (aR (aQ (c:=fO) (i:=0) (aa (ae (ao (i:=2))) ac)) (pU (n:=2) (bq (au (i:=4) rfl) (bq (au (i:=5) rfl) fk)))) (aA (aR (bF (aa (ae (aP nO (aa (al (i:=4)) ac))) (aa (ae (aP nO (aa (al (i:=5)) ac))) ac))) (aK (i:=6) rfl)) (aA (cF (nL (dr (mK (aJ (c:=c7) (aa (ae (ao (i:=3))) (aa (ae (ao (i:=2))) (aa (ae (ao (i:=6))) ac)))))) (gF (aw y4 (al (i:=6)) (ae (bF (aa (ae (ao (i:=4))) (aa (ae (ao (i:=5))) ac))))))) (aO (gc (i:=false))) bd) (aA (du (kL (aa (ae (le_int (i:=5))) ac)) (au (i:=7) rfl) (cF (dr (mK (aJ (c:=c7) (aa (ae (ao (i:=3))) (aa (ae (ao (i:=2))) (aa (ae (aQ (c:=iE) (i:=0) (aa (ae (ao (i:=4))) (aa (ae (ao (i:=5))) ac)))) ac)))))) (aO (gc (i:=false))) bd)) (aA (du (cq (bF (aa (ae mJ) (aa (ae (gc (i:=true))) (aa (ae (le_int (i:=7))) (aa (ae (le_str (l:=[97,98]))) (aa (ae (bF ac)) (aa (ae (bF (aa (ae (ao (i:=4))) ac))) (aa (ae (bF (aa (ae (ao (i:=4))) (aa (ae (ao (i:=5))) (aa (ae (bF ac)) ac))))) (aa (ae Aq) (aa (ae (bF (aa (ae (ao (i:=4))) (aa (ae mJ) ac)))) (aa (ae (bF (aa (ae (le_str (l:=[]))) (aa (ae (le_str (l:=[]))) ac)))) ac)))))))))))) (au (i:=8) rfl) (cF (si (gF (aw y4 (al (i:=8)) (ae (bF (aa (ae (ao (i:=4))) (aa (ae (ao (i:=5))) ac)))))) (dr (mK (aJ (c:=bY) (aa (ae (ao (i:=3))) (aa (ae (ao (i:=8))) ac)))))) (aO (gc (i:=false))) bd)) (aO (aJ (c:=c7) (aa (ae (ao (i:=3))) (aa (ae (ao (i:=2))) (aa (ae (ao (i:=6))) ac))))))))))))))
def ub:PTS:=psO m9
def uc:RRl jH ub 9 1:=λ_ _ Q h=>y0 h λ_ h=>gM h λc0 _ h=>gM h λc1 _ h=>eA h λh=>eA h λh=>A_ rfl <| by
 walk_at "z";obtain⟨g,q⟩:=h;walk_at "r";rintro x ⟨a,b⟩ hs hx0 hx1;walk_at "r";rintro ps ⟨a,b⟩ hs hpl hps0;have hps:Pcs 60 ps:=λw hw=>⟨(hps0 w hw).1,E_ (hps0 w hw).2.1 (by decide),(hps0 w hw).2.2⟩
 have hpl7:ps.length<=7:=by omega
 have hp6:ps.length<=40/\Pcs 60 ps:=⟨by omega,hps⟩
 have a0:ps.length<=60/\∀w∈ps,w.length<=60:=⟨by omega,λw hw=>(hps w hw).2.1⟩
 have hlm:(ps.map D.str).length=ps.length:=length_map _;have hwn:=eT ps;have hkn:=gH ps;have hwp:Pcs 60 (aq ps):=jp hps;have hkm:((aM ps).map nD).length=(aM ps).length:=length_map _;have h10:(aq ps).length<=10/\Pcs 60 (aq ps):=⟨by omega,hwp⟩
 have t10:ps.length<=10/\Pcs 60 (aq ps):=⟨by omega,hwp⟩
 walk_at "r"
 refine cm1 (λk=>.str (pw ps k)) (λk hk v K1 k1=>?_) (λv=>?_)
 .have hk2:=eS hk;have e1:nD k=.int (k:Int):=rfl;rw [e1];walk_at "r";refine⟨_,bW hk2 rfl,?_⟩;walk_at "r";exact k1 _
 rw [show (aM ps).map (λk=>D.str (pw ps k))=(aq ps).map D.str by unfold aq;rw [map_map];rfl];walk_at "r";rintro gs ts ⟨a,b⟩ hs gl tl bg bt;have rg:=gX.ints bg;have rt:=gX.ints bt;have hS:Sh (.lst [.lst (gs.map .int),.lst (ts.map .int)]):=DP gs ts;have eo:=vy.of hS hS;have ed:=sy hS;walk_at "r";rw [ed];walk_at "r"
 refine⟨λk ρ=>∃(s:Int×Int) (v7:Option PV),SOk s/\ρ=[some (stv s),some (.dat (.lst (ps.map .str))),some (.dat (.lst ((aq ps).map .str))),some (.dat (.obj "Family" j4 (j5 ps))),some (.dat (.lst (gs.map .int))),some (.dat (.lst (ts.map .int))),some (.dat (.lst [.lst (gs.map .int),.lst (ts.map .int)])),v7,none],⟨(a,b),_,hs,rfl⟩,?_,?_⟩
 .rintro k ρ _ hk rfl ⟨⟨a,b⟩,v7,hs,rfl⟩;clear hk;have bb:Bnd gs/\Bnd ts:=⟨bg,bt⟩
  walk_at "r";refine⟨gs,ts,rfl,rfl,bb,?_⟩;rintro es0 es1 ⟨a,b⟩ hs re0 re1;have rr:gX es0/\gX es1:=⟨re0,re1⟩
  walk_at "r";exact⟨_,_,hs,rfl⟩
 rintro ρ ⟨⟨a,b⟩,v7,hs,rfl⟩;have good:=A3 (ws:=aq ps) bg bt;walk_at "r";generalize hL:[D.non,D.bl true,D.int 7,D.str [97,98],D.lst [],D.lst [D.lst (gs.map .int)],D.lst [D.lst (gs.map .int),D.lst (ts.map .int),D.lst []],D.dic [] [],D.lst [D.lst (gs.map .int),D.non],D.lst [D.str [],D.str []]]=L at good ⊢
 refine⟨λk ρ=>∃v8:Option PV,ρ=[some (stv (a,b)),some (.dat (.lst (ps.map .str))),some (.dat (.lst ((aq ps).map .str))),some (.dat (.obj "Family" j4 (j5 ps))),some (.dat (.lst (gs.map .int))),some (.dat (.lst (ts.map .int))),some (.dat (.lst [.lst (gs.map .int),.lst (ts.map .int)])),v7,v8],⟨_,rfl⟩,?_,?_⟩
 .rintro k ρ d hk ed ⟨v8,rfl⟩;obtain⟨g1,g2,g3,g4⟩:=good d (by rw [ed];exact fq hk);clear ed;have gg:okP d/\ps.length<=10/\(∀w∈aq ps,w.length<=60)/\∀r∈aC d,∀x∈aC r,toI x<=10^7:=⟨g2,by omega,λw hw=>(hwp w hw).2.1,g3⟩
  walk_at "r";refine A2 g1 hS λbb=>?_;walk_at "r"
  cases bb with
  | false=>walk_at "r";exact⟨_,rfl⟩
  | true=>walk_at "r";exact⟨_,rfl⟩
 .rintro ρ ⟨v8,rfl⟩;clear good;walk_at "r";exact q (a,b) hs
noncomputable def zc(K:b_)(mg:Str->Option Value)(t:TxC K/\TxX K mg):=(have TC:=t.1;have TX:=t.2;show LS K [] _ _ from (aA (du (kL (aa (ae (aP vD (aa (ae (le_int (i:=2))) (aa (ae (aP qG (aa (ae (le_int (i:=4))) (aa (ae (aP bc (aa (al (i:=0)) ac))) ac)))) ac)))) ac)) (au (i:=1) rfl) (cF (dr (mK (vO (c:=jH) (aJ (c:=fK) (aa (ae (ao (i:=0))) (aa (ae (ao (i:=1))) ac))) ac))) (aO (gc (i:=false))) bd)) (aO (aw gi (ae (sD (c:=dO) (aa (ae (vH (c0:="Family") (c:=bP) (aa (ae (bF ac)) ac))) (aa (ae (kG (aa (ae (bF ac)) (aa (ae (kG ac)) ac)))) ac)))) (ae (kG (aa (ae (le_str (l:=[48,32,108,101,115,115,32,48,32,105,115,32,48]))) ac)))))))
def w4:PTS:=psO zc
def A4(ns:List Int)(h63:ns.length<=63)(Q:PV->Prop)(q:Q (.dat (.bl true))):CV w4 y9 [.scr ns] Q:=by
 show w4 _ [some (.dat (.scr ns)),none];have hw0:aq []=[]:=rfl;walk_at "r"
 have hmax:(if (if (ns.length:Int)<4 then (ns.length:Int) else 4) > 2 then if (ns.length:Int)<4 then (ns.length:Int) else 4 else 2).toNat<=4:=by
  split
  .split <;> omega
  .omega
 refine⟨λk ρ=>∃v1:Option PV,ρ=[some (.dat (.scr ns)),v1],⟨_,rfl⟩,?_,?_⟩
 .rintro k ρ _ hk rfl ⟨v1,rfl⟩;have hk4:k<6:=tf hk (E_ hmax (by decide));clear hk hmax;walk_at "r";rintro⟨a,b⟩ hs;walk_at "r";rintro⟨a',b'⟩ hs';walk_at "r";exact⟨_,rfl⟩
 .rintro ρ ⟨v1,rfl⟩;walk_at "r";refine⟨[],.lst _,⟨by decide,λw hw=>nomatch hw⟩,rfl,?_⟩
  have e0:(okP (.tup [.lst [],.tup []])/\([]:List (List Nat)).length<=10/\(∀w∈aq [],w.length<=60)/\∀r∈aC (.tup [.lst [],.tup []]),∀x∈aC r,toI x<=10^7):=by
   have m2:∀r∈aC (.tup [.lst [],.tup []]),r=.lst []\/r=.tup []:=λr hr=>(mem_cons.mp hr).imp id λh=>y_.mp h
   refine⟨⟨⟨rfl,λr hr=>?_⟩,by decide,λr hr=>?_⟩,by decide,(λw hw=>nomatch hw),λr hr x hx=>?_⟩ <;> rcases m2 r hr with rfl|rfl
   .exact⟨rfl,λx hx=>nomatch hx⟩
   .exact⟨rfl,λx hx=>nomatch hx⟩
   .exact Iy _
   .exact Iy _
   .exact nomatch hx
   .exact nomatch hx
  have e1:gW (.tup [.lst [],.tup []]) (aq [])=true:=by
   unfold gW;rw [show ppB (.tup [.lst [],.tup []]) (aq []).length=true by decide];rfl
  have e2:AZ (aq []) ((aC (itD (aC (.tup [.lst [],.tup []])) 0)).map toI) ((aC (itD (aC (.tup [.lst [],.tup []])) 1)).map toI)=[D.str [48,32,108,101,115,115,32,48,32,105,115,32,48]]:=by
   show [D.str (AY [] [] [])]=_;rw [show AY [] [] []=[48,32,108,101,115,115,32,48,32,105,115,32,48] by decide]
  walk_at "r";refine⟨λ_=>?_,λz=>by rw [e1] at z;cases z⟩;rw [e2];have hS:Sh (.tup ([[48,32,108,101,115,115,32,48,32,105,115,32,48]].map .str)):=⟨rfl,by decide +kernel⟩
  have e3:vy (.tup [.str [48,32,108,101,115,115,32,48,32,105,115,32,48]]) (.tup [.str [48,32,108,101,115,115,32,48,32,105,115,32,48]]):=vy.of hS hS;have e4:deq (.tup [.str [48,32,108,101,115,115,32,48,32,105,115,32,48]]) (.tup [.str [48,32,108,101,115,115,32,48,32,105,115,32,48]])=true:=sy hS;walk_at "r";rw [e4];exact q
def DS:PRl za w4 y9 1:=λ_ Q h=>match h with|⟨ns,e,h63,q⟩=>e ▸ ⟨rfl,A4 ns h63 Q q⟩
local macro_rules | `(tactic| walk_at "l")=>`(tactic| (intros;rename_i h;split at h <;> first | rfl | exact h.elim))
local macro_rules | `(tactic| walk_at "b0")=>`(tactic| exact fun _ _ _ _ _ _ us hl=>match us,hl with | [],_=>rfl)
local macro_rules | `(tactic| walk_at "b1")=>`(tactic| exact fun _ _ _ _ _ _ us hl=>match us,hl with | [_],_=>rfl)
local macro_rules | `(tactic| walk_at "b2")=>`(tactic| exact fun _ _ _ _ _ _ us hl=>match us,hl with | [_,_],_=>rfl)
local macro_rules | `(tactic| walk_at "b3")=>`(tactic| exact fun _ _ _ _ _ _ us hl=>match us,hl with | [_,_,_],_=>rfl)
local macro_rules | `(tactic| walk_at "b4")=>`(tactic| exact fun _ _ _ _ _ _ us hl=>match us,hl with | [_,_,_,_],_=>rfl)
local macro_rules | `(tactic| walk_at "b5")=>`(tactic| exact fun _ _ _ _ _ _ us hl=>match us,hl with | [_,_,_,_,_],_=>rfl)
local macro_rules | `(tactic| walk_at "b6")=>`(tactic| exact fun _ _ _ _ _ _ us hl=>match us,hl with | [_,_,_,_,_,_],_=>rfl)
local macro_rules | `(tactic| walk_at "b7")=>`(tactic| exact fun _ _ _ _ _ _ us hl=>match us,hl with | [_,_,_,_,_,_,_],_=>rfl)
section
variable (P:r_) (w:World) (K:b_) (mg:Str->Option Value) (base:Heap)
abbrev ly:=Cal P w K mg base 1 "is_row" ["thing"] (spP K i3)
abbrev jY:=Cal P w K mg base 1 "is_number" ["thing"] (spP K d8)
abbrev ic:=Cal P w K mg base 2 "are_numbers" ["thing","many"] (spP K eJ)
abbrev ja:=Cal P w K mg base 3 "are_prices" ["thing","many"] (spP K dA)
abbrev eZ:=Cal P w K mg base 4 "is_price_paper" ["thing","many"] (spP K c6)
abbrev eQ:=Cal P w K mg base 1 "first_place" ["text","piece"] (spP K c9)
abbrev ie:=Cal P w K mg base 1 "other_pairs" ["many"] (spP K eL)
abbrev jZ:=Cal P w K mg base 5 "pays_laps" ["paper","laps","pairs"] (spP K gy)
abbrev mh:=D0 P w K mg base 1 (aI K "Family") "many" ["self"] (spP K cA)
abbrev ig:=Cal P w K mg base 6 "price_bound" ["family","paper"] (spP K eM)
abbrev lz:=Cal P w K mg base 1 "digits" ["number"] (spP K iC)
abbrev qk:=Cal P w K mg base 2 "digits" ["number"] (spP K eW)
abbrev fP:=Db P w K mg base 7 "why_rows" ["family","paper"] (spX K dO)
abbrev zd:=Cal P w K mg base 1 "lap" ["one","other"] (spP K p8)
abbrev lA:=Cal P w K mg base 2 "all_laps" ["words"] (spP K fJ)
abbrev ud:=B7 P w K mg base 1 "is_text" ["thing","least","most"] [.int 0,.int 4000] (spP K eV)
abbrev gE:=Cal P w K mg base 2 "check_pieces" ["things"] (spP K cY)
abbrev dn:=Cal P w K mg base 2 "stands_within" ["piece","other"] (spP K bx)
abbrev ng:=Cal P w K mg base 3 "is_kept" ["pieces","at"] (spP K eX)
abbrev lB:=Cal P w K mg base 3 "left_row" ["pieces","kept","at"] (spP K dP)
abbrev jb:=Cal P w K mg base 1 "_law_stream" ["_law_script","_law_k"] (spP K fK)
abbrev bZ:=Cal P w K mg base 1 "_law_take" ["_law_stream_here","_law_most"] (spR K aE)
abbrev ii:=Cal P w K mg base 2 "_law_letters" ["_law_stream_here"] (spR K eN)
abbrev lC:=Cal P w K mg base 2 "_law_word" ["_law_stream_here","_law_letters_here","_law_most"] (spR K fL)
abbrev nh:=Cal P w K mg base 2 "_law_cut" ["_law_stream_here","_law_text","_law_most"] (spR K gI)
abbrev jc:=Cal P w K mg base 3 "_law_pieces" ["_law_stream_here","_law_many","_law_most"] (spR K fM)
abbrev ik:=Cal P w K mg base 1 "_law_is_left" ["_law_pieces_here","_law_k"] (spP K de)
abbrev lD:=Cal P w K mg base 2 "_law_kept" ["_law_pieces_here"] (spP K fN)
abbrev jL:=Cal P w K mg base 1 "_law_lap" ["_law_one_here","_law_other"] (spP K gJ)
abbrev jd:=Cal P w K mg base 2 "_law_prices" ["_law_stream_here","_law_words"] (spR K fO)
abbrev j1:=Cal P w K mg base 2 "_law_right" ["_law_words","_law_gives","_law_takes"] (spP K gB)
abbrev lE:=Cal P w K mg base 2 "_law_bent" ["_law_stream_here","_law_gives","_law_takes"] (spR K iE)
abbrev dQ:=Cal P w K mg base 8 "_law_no_paper" ["_law_family","_law_paper"] (spP K bY)
abbrev lF:=Cal P w K mg base 9 "_law_told" ["_law_family","_law_words","_law_paper"] (spP K c7)
abbrev il:=Ca P w K mg base 4 (aI K "Family") "Family" ["self","pieces"] (spR K bP)
abbrev nk:=Cal P w K mg base 10 "_law_one" ["_law_stream_here"] (spR K jH)
abbrev DT:=Cal P w K mg base 11 "law" ["_law_script"] (spP K za)
end
section
variable (P:r_) (w:World) {K:b_}{mg:Str->Option Value} (base:Heap)
def w6(D:bh K mg "is_row" oa)(T:Txt mg)(TC:TxC K)(TX:TxX K mg):ly P w K mg base:=D.oP2 wR (by walk_at "b1") wX rfl rfl λ_ _ _ _ _ _ _ hr hu=>⟨_,(ap (aN (ak (EX K rfl) rfl T.b_isinstance HG (paC (pv 0) (paC (iJ (paC (ef (v:=.ty "list") rfl T.b_list JA rfl) (paC (ef (v:=.ty "tuple") rfl T.b_tuple IL rfl) af))) af))))),(qa K mg ⟨TC,TX⟩)⟩
def ql(D:bh K mg "is_number" iw)(T:Txt mg)(TC:TxC K)(TX:TxX K mg):jY P w K mg base:=D.oP2 p7 (by walk_at "b1") qc rfl rfl λ_ _ _ _ _ _ _ hr hu=>⟨_,(ap (aN (jO (ak (qE K rfl) rfl T.b_isinstance HG (paC (pv 0) (paC (ef (v:=.ty "int") rfl T.b_int boot_int rfl) af))) (mB (ut (ak (qE K rfl) rfl T.b_isinstance HG (paC (pv 0) (paC (ef (v:=.ty "bool") rfl T.b_bool boot_bool rfl) af)))))))),(jV K mg ⟨TC,TX⟩)⟩
def mj(D:bh K mg "are_numbers" fz)(T:Txt mg)(TC:TxC K)(TX:TxX K mg)(C'1:jY P w K mg base)(C'0:ly P w K mg base):ic P w K mg base:=D.oP2 lU (by walk_at "b2") lZ rfl rfl λ_ _ _ _ _ _ _ hr hu=>⟨_,(ap (aN (jO (ax C'0 (hr.m rfl) (paC (pv 0) af)) (jO (fY (kO K rfl hu) (ak (bN K rfl) rfl T.b_len pf (paC (pv 0) af)) (pv 1) (a9 _)) (mB (ak (vF K rfl rfl) rfl T.b_all boot_all (paC (cr (wi:=(lI K (bw 0))) (g:=(cC 0)) (tts:=oN) (te:=(dB (spP K d8) [] E0 (aW (bw 0) eR))) ["item"] [none] rfl (ck K rfl (pv 0)) (λ_ _ _ _=>⟨(aG (i:=0) (by show Hu (["item"]:List Str);decide +kernel) rfl (by walk_at "o")),cE,(ax C'1 (hr.m rfl) (paC (pv 0) af))⟩) (by kernel_rfl)) af))))))),(gY K mg ⟨TC,TX⟩)⟩
def oG(D:bh K mg "are_prices" gp)(T:Txt mg)(TC:TxC K)(TX:TxX K mg)(C'2:ic P w K mg base):ja P w K mg base:=D.oP2 oh (by walk_at "b2") ou rfl rfl λ_ _ _ _ _ _ _ hr hu=>⟨_,(ap (aN (jO (ax C'2 (hr.m rfl) (paC (pv 0) (paC (pv 1) af))) (mB (ak (vF K rfl rfl) rfl T.b_all boot_all (paC (cr (wi:=(lI K (bw 0))) (g:=(cC 0)) (tts:=oN) (te:=(tOp Fb (bw 0) (tC (V.int 0)))) ["price"] [none] rfl (ck K rfl (pv 0)) (λ_ _ _ _=>⟨(aG (i:=0) (by show Hu (["price"]:List Str);decide +kernel) rfl (by walk_at "o")),cE,(fY Bb (pv 0) ay (a9 _))⟩) (by kernel_rfl)) af)))))),(i5 K mg ⟨TC,TX⟩)⟩
def jM(D:bh K mg "is_price_paper" dk)(T:Txt mg)(TC:TxC K)(TX:TxX K mg)(C'3:ja P w K mg base)(C'0:ly P w K mg base):eZ P w K mg base:=D.oP2 jE (by walk_at "b2") jJ rfl rfl λ_ _ _ _ _ _ _ hr hu=>⟨_,(ap (aN (jO (ax C'0 (hr.m rfl) (paC (pv 0) af)) (jO (fY (kO K rfl hu) (ak (bN K rfl) rfl T.b_len pf (paC (pv 0) af)) ay (a9 _)) (mB (ak (vF K rfl rfl) rfl T.b_all boot_all (paC (cr (wi:=(lI K (bw 0))) (g:=(cC 0)) (tts:=oN) (te:=(dB (spP K dA) [] E0 (aW (bw 0) (aW (bw 1) eR)))) ["row","many"] [none,some 1] rfl (ck K rfl (pv 0)) (λ_ _ _ _=>⟨(aG (i:=0) (by show Hu (["row","many"]:List Str);decide +kernel) rfl (by walk_at "o")),cE,(ax C'3 (hr.m rfl) (paC (pv 0) (paC (pv 1) af)))⟩) (by kernel_rfl)) af))))))),(eY K mg ⟨TC,TX⟩)⟩
def ue(D:r8 K mg "is_text" eU [.int 0,.int 4000])(T:Txt mg)(TC:TxC K)(TX:TxX K mg):B7 P w K mg base 1 "is_text" ["thing","least","most"] [.int 0,.int 4000] (spP K eV):=by
 refine D.ok tY (λdT kV doc pm an cdv ct items us n hi hn hl=>?_) (λvs H Q E h=>?_) (λf cdv A outer s H vs Q E hr h=>?_)
 .obtain⟨i0,i1,rfl⟩:=DC hi;have hn':n=0\/n=1\/n=2:=by (have:n<=2:=hn);omega
  rcases hn' with rfl|rfl|rfl
  .have hl2:us.length=1:=by (simp at hl;omega)
   obtain⟨_,rfl⟩:=FG hl2;exact⟨_,rfl,rfl⟩
  .have hl2:us.length=2:=by (simp at hl;omega)
   obtain⟨_,_,rfl⟩:=DC hl2;exact⟨_,rfl,rfl⟩
  .have hl2:us.length=3:=by (simp at hl;omega)
   obtain⟨_,_,_,rfl⟩:=FH hl2;exact⟨_,rfl,rfl⟩
 .exact Fd (λds Q h=>(jK ds Q h).1) h
 .have hu:=hr.units;exact⟨_,(ah (cu (PW.pt (nv (dq (bJ (ak (qE K rfl) rfl T.b_isinstance HG (paC (pv 0) (paC (ef (v:=.ty "str") rfl T.b_str boot_str rfl) af))))) (jN (dq (xo D3 D3 (pv 1) (ak (bN K rfl) rfl T.b_len pf (paC (pv 0) af)) (pv 2)))))) (ap (aN fX)) aX) (ap (aN (ak (vF K rfl rfl) rfl T.b_all boot_all (paC (cr (wi:=(lI K (bw 0))) (g:=(cC 0)) (tts:=oN) (te:=(rS D2 D2 (tC (V.str (S [97]))) (bw 0) (tC (V.str (S [122]))))) ["sign"] [none] rfl (ck K rfl (pv 0)) (λ_ _ _ _=>⟨(aG (i:=0) (by show Hu (["sign"]:List Str);decide +kernel) rfl (by walk_at "o")),cE,(xn D3 D3 (bQ (l:=[97]) (by decide +kernel)) (pv 0) (bQ (l:=[122]) (by decide +kernel)))⟩) (by kernel_rfl)) af))))),fnP (K:=K) (c:=eV) (ps:=mY) (N:=["thing","least","most"]) (aA (cF (nL (dr (mK (kJ .str (al (i:=0))))) (dr (gF (sk xS xS (al (i:=1)) (ae (aP bc (aa (al (i:=0)) ac))) (al (i:=2)))))) (aO (gc (i:=false))) bd) (aO (aP pN (aa (ae (bI (ix:=[none]) rfl (cq (ao (i:=0))) (λfs hc=>(au (i:=0) (lJ hc (by decide)))) dH (sk xS xS (ae (le_str (l:=[97]))) (al (i:=0)) (ae (le_str (l:=[122])))))) ac)))) (λds Q h=>E_ (Kr (jK ds Q h).1) (by decide)) (λds Q h=>(jK ds Q h).2) h⟩
def ml(D:bh K mg "first_place" fA)(T:Txt mg)(TC:TxC K)(TX:TxX K mg):eQ P w K mg base:=D.oP2 lV (by walk_at "b2") l4 rfl rfl λ_ _ _ _ _ _ _ hr hu=>⟨_,(ap (aN (cZ K rfl Hz K8 K9 su (pv 0) (paC (pv 1) af)))),(gZ K mg ⟨TC,TX⟩)⟩
def mn(D:bh K mg "other_pairs" fB)(T:Txt mg)(TC:TxC K)(TX:TxX K mg):ie P w K mg base:=D.oP2 gR (by walk_at "b1") l6 rfl rfl λ_ _ _ _ _ _ _ hr hu=>⟨_,(ah (aU (i:=1) gR.nd rfl (by walk_at "o") (aL (yQ K rfl rfl) rfl T.b_list JA (paC (pD rfl T.b_range (paC (pv 0) af)) af))) (ap (aN (x6 (wi:=(lI K (bw 1))) (g:=(cC 0)) (tts:=oN) (wi2:=(lI K (bw 2))) (g2:=(cC 1)) (tts2:=(sQ (tOp (tO K true) (bw 0) (bw 1)))) (te:=(BC (aW (bw 0) (aW (bw 1) eR)))) ["i","j","numbers"] [none,none,some 1] rfl (ck K rfl (pv 1)) (λ_ _ _ _=>⟨(aG (i:=0) (by show Hu (["i","j","numbers"]:List Str);decide +kernel) rfl (by walk_at "o")),cE,(ck K rfl (pv 2)),(aG (i:=1) (by show Hu (["i","j","numbers"]:List Str);decide +kernel) rfl (by walk_at "o")),(jj (aT (pS K rfl hu) (pv 0) (pv 1) (a9 _))),(iJ (paC (pv 0) (paC (pv 1) af)))⟩) (by kernel_rfl))))),(hG K mg ⟨TC,TX⟩)⟩
def qm(D:bh K mg "pays_laps" iy)(T:Txt mg)(TC:TxC K)(TX:TxX K mg)(C'4:eZ P w K mg base):jZ P w K mg base:=D.oP2 gw (by walk_at "b3") qf rfl rfl λ_ _ _ _ _ _ _ hr hu=>⟨_,(ah (cu (dq (bJ (ax C'4 (hr.m rfl) (paC (pv 0) (paC (ak (bN K rfl) rfl T.b_len pf (paC (pv 1) af)) af))))) (ap (aN fX)) aX) (ah (mC (pv 0) (iW K rfl (n:=2) rfl (bp (aG (i:=3) gw.nd rfl (by walk_at "o")) (bp (aG (i:=4) gw.nd rfl (by walk_at "o")) e9)))) (ap (aN (ak (vF K rfl rfl) rfl T.b_all boot_all (paC (cr (wi:=(lI K (bw 2))) (g:=(D5 K 2 (xk (cC 0) (xk (cC 1) Eg)))) (tts:=oN) (te:=(tOp Fb (tOp (wF K) (tOp (sj K) (bw 2) (bw 0)) (tOp (sj K) (bw 3) (bw 1))) (tOp (sj K) (tOp (sj K) (bw 4) (bw 0)) (bw 1)))) ["i","j","gives","takes","laps"] [none,none,some 3,some 4,some 1] rfl (ck K rfl (pv 2)) (λ_ _ _ _=>⟨(iW K rfl (n:=2) rfl (bp (aG (i:=0) (by show Hu (["i","j","gives","takes","laps"]:List Str);decide +kernel) rfl (by walk_at "o")) (bp (aG (i:=1) (by show Hu (["i","j","gives","takes","laps"]:List Str);decide +kernel) rfl (by walk_at "o")) e9))),cE,(fY Bb (bi (bR K rfl) (bE (e8 K rfl) (pv 2) (pv 0) (λ_ _=>rfl)) (bE (e8 K rfl) (pv 3) (pv 1) (λ_ _=>rfl))) (bE (e8 K rfl) (bE (e8 K rfl) (pv 4) (pv 0) (λ_ _=>rfl)) (pv 1) (λ_ _=>rfl)) (a9 _))⟩) (by kernel_rfl)) af)))))),(jW K mg ⟨TC,TX⟩)⟩
def mo(D:bh K mg "price_bound" fC)(T:Txt mg)(TC:TxC K)(TX:TxX K mg)(C'20:mh P w K mg base)(C'7:ie P w K mg base)(C'8:jZ P w K mg base):ig P w K mg base:=D.oP2 eE (by walk_at "b2") l9 rfl rfl λ_ _ _ _ _ _ _ hr hu=>⟨_,(ah (cu (dq (bJ (ax C'8 (hr.m rfl) (paC (pv 1) (paC (cK K rfl (pv 0) rfl) (paC (ax C'7 (hr.m rfl) (paC (xO (pv 0) TC.cl_Family C'20 (hr.m rfl)) af)) af)))))) (ap (aN my)) aX) (ah (mC (pv 1) (iW K rfl (n:=2) rfl (bp (aG (i:=2) eE.nd rfl (by walk_at "o")) (bp (aG (i:=3) eE.nd rfl (by walk_at "o")) e9)))) (ap (aN (bi lO (bi lO (cK K rfl (pv 0) rfl) (ak (sI K rfl rfl) rfl T.b_sum KN (paC (pv 2) af))) (ak (sI K rfl rfl) rfl T.b_sum KN (paC (pv 3) af))))))),(hX K mg ⟨TC,TX⟩)⟩
def rE(D:bh K mg "digits" jt)(T:Txt mg)(TC:TxC K)(TX:TxX K mg):lz P w K mg base:=D.oP2 iB (by walk_at "b1") qY rfl rfl λ_ _ _ _ _ _ _ hr hu=>⟨_,(ah (cu (aT Ce (pv 0) ay (a9 _)) qS aX) (ah (aU (i:=1) iB.nd rfl (by walk_at "o") (bD af)) (ah (aU (i:=2) iB.nd rfl (by walk_at "o") (pv 0)) (ah (rR Ha (aT Bb (pv 2) (bi Ao ay ay) (a9 _)) qS) (ah (dh (cZ K rfl Hf Hk Hl bU (pv 1) (paC (aL kR rfl T.b_str (by decide +kernel) (paC (pv 2) af)) af))) (ap (aN (cZ K rfl Hz IA IB (iT K rfl) (bQ (l:=[]) (by decide +kernel)) (paC (wM K rfl (pv 1) (sP mD ay)) af))))))))),(lc K mg ⟨TC,TX⟩)⟩
def xb(D:bh K mg "digits" og)(T:Txt mg)(TC:TxC K)(TX:TxX K mg)(C'10:lz P w K mg base):qk P w K mg base:=D.oP2 kY (by walk_at "b1") wZ rfl rfl λ_ _ _ _ _ _ _ hr hu=>⟨_,(ah (cu (aT Ce (pv 0) ay (a9 _)) (ap (aN (bi (bR K rfl) (bQ (l:=[45]) (by decide +kernel)) (ax C'10 (hr.m rfl) (paC (sP mD (pv 0)) af))))) aX) (ah (aU (i:=1) kY.nd rfl (by walk_at "o") (bD af)) (ah (aU (i:=2) kY.nd rfl (by walk_at "o") (pv 0)) (ah (rR Ha (aT Bb (pv 2) (bi Ao ay ay) (a9 _)) qS) (ah (dh (cZ K rfl Hf Hk Hl bU (pv 1) (paC (aL kR rfl T.b_str (by decide +kernel) (paC (pv 2) af)) af))) (ap (aN (cZ K rfl Hz IA IB (iT K rfl) (bQ (l:=[]) (by decide +kernel)) (paC (wM K rfl (pv 1) (sP mD ay)) af))))))))),(qg K mg ⟨TC,TX⟩)⟩
def rF(D:bh K mg "why_rows" ju)(T:Txt mg)(TC:TxC K)(TX:TxX K mg)(C'11:qk P w K mg base)(C'9:ig P w K mg base):fP P w K mg base:=D.oX2 bX (by walk_at "b2") rc rfl rfl λ_ _ _ _ _ _ _ hr hu=>⟨_,(ah (PS.nox (aU (i:=2) bX.nd rfl (by walk_at "o") (ax C'9 (hr.m rfl) (paC (pv 0) (paC (pv 1) af))))) (ah (cu (PT.nox (aT GR (pv 2) my (a9 _))) (ap (yj K rfl rfl C9 (AC TX.z'o TX.kp'o TX.m'o))) aX) (ah (PS.nox (mC (pv 1) (iW K rfl (n:=2) rfl (bp (aG (i:=3) bX.nd rfl (by walk_at "o")) (bp (aG (i:=4) bX.nd rfl (by walk_at "o")) e9))))) (ah (PS.nox (aU (i:=5) bX.nd rfl (by walk_at "o") (bD af))) (ah (df PassesOwn.leaving rfl (AO K rfl rfl T.b_zip (paC (cK K rfl (pv 0) rfl) (paC (pv 3) (paC (pv 4) af)))) (iW K rfl (n:=3) rfl (bp (aG (i:=6) bX.nd rfl (by walk_at "o")) (bp (aG (i:=7) bX.nd rfl (by walk_at "o")) (bp (aG (i:=8) bX.nd rfl (by walk_at "o")) e9)))) (ap (PS.nox (dh (cZ K rfl Hf Hk Hl bU (pv 5) (paC (wG (PJ.ex (pv 6) (PJ.litS (l:=[32,103,105,118,101,115,32]) (by decide +kernel) (PJ.ex (ax C'11 (hr.m rfl) (paC (pv 7) af)) (PJ.litS (l:=[32,116,97,107,101,115,32]) (by decide +kernel) (PJ.ex (ax C'11 (hr.m rfl) (paC (pv 8) af)) PJ.nil)))))) af)))))) (ah (PS.nox (dh (cZ K rfl Hf Hk Hl bU (pv 5) (paC (wG (PJ.ex (cK K rfl (pv 0) rfl) (PJ.litS (l:=[32,108,101,115,115,32]) (by decide +kernel) (PJ.ex (ax C'11 (hr.m rfl) (paC (bi (bR K rfl) (ak (sI K rfl rfl) rfl T.b_sum KN (paC (pv 3) af)) (ak (sI K rfl rfl) rfl T.b_sum KN (paC (pv 4) af))) af)) (PJ.litS (l:=[32,105,115,32]) (by decide +kernel) (PJ.ex (ax C'11 (hr.m rfl) (paC (pv 2) af)) PJ.nil)))))) af)))) (ap (PS.nox (aN (aL (fm K rfl) rfl T.b_tuple IL (paC (pv 5) af))))))))))),(λEc=>lf K mg ⟨TC,TX⟩ Ec _)⟩
def DU(D:bh K mg "lap" AT)(T:Txt mg)(TC:TxC K)(TX:TxX K mg):zd P w K mg base:=D.oP2 y6 (by walk_at "b2") DR rfl rfl λ_ _ _ _ _ _ _ hr hu=>⟨_,(ah (df Ha rfl (o9 rfl T.b_range (paC (bi lO (ak (vC rfl) rfl T.b_min boot_min (paC (ak (bN K rfl) rfl T.b_len pf (paC (pv 0) af)) (paC (ak (bN K rfl) rfl T.b_len pf (paC (pv 1) af)) af))) ay) (paC ay (paC (sP mD ay) af)))) (aG (i:=2) y6.nd rfl (by walk_at "o")) (ap (cu (bJ (cZ K rfl Hz PySem.F.slot_str_endswith PySem.F.type_str_endswith Am (pv 0) (paC (fb (Ab K rfl) (pv 1) jf (fZ (pv 2))) af))) (ap (aN (pv 2))) aX))) (ap (aN ay))),(zb K mg ⟨TC,TX⟩)⟩
def rG(D:bh K mg "all_laps" jw)(T:Txt mg)(TC:TxC K)(TX:TxX K mg)(C'13:zd P w K mg base):lA P w K mg base:=D.oP2 qT (by walk_at "b1") rf rfl rfl λ_ _ _ _ _ _ _ hr hu=>⟨_,(ap (aN (aL (fm K rfl) rfl T.b_tuple IL (paC (cr (wi:=(lI K (bw 0))) (g:=(cC 0)) (tts:=oN) (te:=(tCB (Al K) (aW (vc [none,some 0] (lI K (bw 1)) (cC 0) oN (dB (spP K p8) [] E0 (aW (bw 1) (aW (bw 0) eR)))) eR))) ["one","words"] [none,some 0] rfl (ck K rfl (pv 0)) (λ_ _ _ _=>⟨(aG (i:=0) (by show Hu (["one","words"]:List Str);decide +kernel) rfl (by walk_at "o")),cE,(aL (fm K rfl) rfl T.b_tuple IL (paC (cr (wi:=(lI K (bw 1))) (g:=(cC 0)) (tts:=oN) (te:=(dB (spP K p8) [] E0 (aW (bw 1) (aW (bw 0) eR)))) ["other","one"] [none,some 0] rfl (ck K rfl (pv 1)) (λ_ _ _ _=>⟨(aG (i:=0) (by show Hu (["other","one"]:List Str);decide +kernel) rfl (by walk_at "o")),cE,(ax C'13 (hr.m rfl) (paC (pv 1) (paC (pv 0) af)))⟩) (by kernel_rfl)) af))⟩) (by kernel_rfl)) af)))),(lg K mg ⟨TC,TX⟩)⟩
def lG(D:bh K mg "check_pieces" eB)(T:Txt mg)(TC:TxC K)(TX:TxX K mg)(C'5:ud P w K mg base):gE P w K mg base:=D.oP2 dM (by walk_at "b1") ll rfl rfl λ_ _ _ _ _ _ _ hr hu=>⟨_,(ah (cu (aT Ba (ak (bN K rfl) rfl T.b_len pf (paC (pv 0) af)) (rZ rfl T.g_MOST_PIECES) (a9 _)) (ap rQ) aX) (ap (df Ha rfl (xX K rfl rfl T.b_enumerate (paC (pv 0) af)) (iW K rfl (n:=2) rfl (bp (aG (i:=1) dM.nd rfl (by walk_at "o")) (bp (aG (i:=2) dM.nd rfl (by walk_at "o")) e9))) (ap (cu (dq (bJ (x9 2 C'5 (hr.m rfl) (by decide) (paC (pv 2) (paC ay (paC (rZ rfl T.g_MOST_SIGNS) af)))))) (ap rQ) aX))))),(gC K mg ⟨TC,TX⟩)⟩
def j9(D:bh K mg "stands_within" dL)(T:Txt mg)(TC:TxC K)(TX:TxX K mg)(C'6:eQ P w K mg base):dn P w K mg base:=D.oP2 j6 (by walk_at "b2") j8 rfl rfl λ_ _ _ _ _ _ _ hr hu=>⟨_,(ap (aN (fY Bb (ax C'6 (hr.m rfl) (paC (pv 1) (paC (pv 0) af))) ay (a9 _)))),(fU K mg ⟨TC,TX⟩)⟩
def uf(D:bh K mg "is_kept" kT)(T:Txt mg)(TC:TxC K)(TX:TxX K mg)(C'16:dn P w K mg base):ng P w K mg base:=D.oP2 jF (by walk_at "b2") t5 rfl rfl λ_ _ _ _ _ _ _ hr hu=>⟨_,(ah (aU (i:=2) jF.nd rfl (by walk_at "o") (bE (e8 K rfl) (pv 0) (pv 1) (λ_ _=>rfl))) (ah (qz (wi:=(lI K (bw 0))) (g:=(cC 0)) (tts:=(sQ (tOp Gs (tCB (qD K) (aW (bw 0) eR)) (tCB (qD K) (aW (bw 1) eR))))) (te:=(bw 0)) (i:=3) ["other","piece"] [none,some 2] jF.nd rfl (Lv rfl) rfl (ck K rfl (pv 0)) (λ_ _ _ _=>⟨(aG (i:=0) (by show Hu (["other","piece"]:List Str);decide +kernel) rfl (by walk_at "o")),(jj (aT Ba (ak (bN K rfl) rfl T.b_len pf (paC (pv 0) af)) (ak (bN K rfl) rfl T.b_len pf (paC (pv 1) af)) (a9 _))),(pv 0)⟩) (by kernel_rfl)) (ap (aN (jO (fY (sH K rfl) (pv 2) (fb (Ab K rfl) (pv 0) jf (fZ (pv 1))) (by with_unfolding_all rfl)) (mB (ut (ak (E5 K rfl rfl) rfl T.b_any boot_any (paC (cr (wi:=(lI K (bw 3))) (g:=(cC 0)) (tts:=oN) (te:=(dB (spP K bx) [] E0 (aW (bw 1) (aW (bw 0) eR)))) ["other","piece"] [none,some 2] rfl (ck K rfl (pv 3)) (λ_ _ _ _=>⟨(aG (i:=0) (by show Hu (["other","piece"]:List Str);decide +kernel) rfl (by walk_at "o")),cE,(ax C'16 (hr.m rfl) (paC (pv 1) (paC (pv 0) af)))⟩) (by kernel_rfl)) af))))))))),(mZ K mg ⟨TC,TX⟩)⟩
def rH(D:bh K mg "left_row" jx)(T:Txt mg)(TC:TxC K)(TX:TxX K mg)(C'6:eQ P w K mg base)(C'16:dn P w K mg base):lB P w K mg base:=D.oP2 kZ (by walk_at "b3") rj rfl rfl λ_ _ _ _ _ _ _ hr hu=>⟨_,(ah (aU (i:=3) kZ.nd rfl (by walk_at "o") (ak (CH K rfl rfl) rfl T.b_min boot_min (paC (cr (wi:=(lI K (bw 1))) (g:=(cC 0)) (tts:=(tB (dB (spP K bx) [] E0 (aW (tOp (sj K) (bw 1) (bw 2)) (aW (tOp (sj K) (bw 1) (bw 0)) eR))))) (te:=(bw 0)) ["one","pieces","at"] [none,some 0,some 2] rfl (ck K rfl (pv 1)) (λ_ _ _ _=>⟨(aG (i:=0) (by show Hu (["one","pieces","at"]:List Str);decide +kernel) rfl (by walk_at "o")),(jj (bJ (ax C'16 (hr.m rfl) (paC (bE (e8 K rfl) (pv 1) (pv 2) (λ_ _=>rfl)) (paC (bE (e8 K rfl) (pv 1) (pv 0) (λ_ _=>rfl)) af))))),(pv 0)⟩) (by kernel_rfl)) af))) (ap (aN (iJ (paC (pv 2) (paC (pv 3) (paC (ax C'6 (hr.m rfl) (paC (bE (e8 K rfl) (pv 0) (pv 3) (λ_ _=>rfl)) (paC (bE (e8 K rfl) (pv 0) (pv 2) (λ_ _=>rfl)) af))) af))))))),(lm K mg ⟨TC,TX⟩)⟩
def mq(D:sg K mg (aI K "Family") "Family" "Family.__init__" bK)(T:Txt mg)(TC:TxC K)(TX:TxX K mg)(C'14:lA P w K mg base)(C'15:gE P w K mg base)(C'17:ng P w K mg base)(C'18:lB P w K mg base):Ca P w K mg base 4 (aI K "Family") "Family" ["self","pieces"] (spR K bP):=by
 refine D.ok gS (λ_ _ _ _ _ _ us hl=>match us,hl with|[_,_],_=>rfl) (λvs H Q E h=>?_) (λf cdv A outer s H vs Q E hr h=>?_)
 .exact Gv (λp ds Q h=>(eO p ds Q h).1) h
 .have hu:=hr.units;exact⟨_,(ah (dh (ax C'15 (hr.mono (by decide)) (paC (pv 1) af))) (ah (mG (pv 0) (aL (fm K rfl) rfl T.b_tuple IL (paC (pv 1) af)) rfl) (ah (aU (i:=2) gS.nd rfl (by walk_at "o") (aL (yQ K rfl rfl) rfl T.b_list JA (paC (pD rfl T.b_range (paC (ak (bN K rfl) rfl T.b_len pf (paC (cK K rfl (pv 0) rfl) af)) af)) af))) (ah (mG (pv 0) (aL (fm K rfl) rfl T.b_tuple IL (paC (cr (wi:=(lI K (bw 2))) (g:=(cC 0)) (tts:=(tB (dB (spP K eX) [] E0 (aW (xc K (bw 1) "pieces") (aW (bw 0) eR))))) (te:=(bw 0)) ["at","self"] [none,some 0] rfl (ck K rfl (pv 2)) (λ_ _ _ _=>⟨(aG (i:=0) (by show Hu (["at","self"]:List Str);decide +kernel) rfl (by walk_at "o")),(jj (bJ (ax C'17 (hr.mono (by decide)) (paC (cK K rfl (pv 1) rfl) (paC (pv 0) af))))),(pv 0)⟩) (by kernel_rfl)) af)) rfl) (ah (mG (pv 0) (aL (fm K rfl) rfl T.b_tuple IL (paC (cr (wi:=(lI K (xc K (bw 0) "kept"))) (g:=(cC 0)) (tts:=oN) (te:=(tOp (sj K) (xc K (bw 1) "pieces") (bw 0))) ["at","self"] [none,some 0] rfl (ck K rfl (cK K rfl (pv 0) rfl)) (λ_ _ _ _=>⟨(aG (i:=0) (by show Hu (["at","self"]:List Str);decide +kernel) rfl (by walk_at "o")),cE,(bE (e8 K rfl) (cK K rfl (pv 1) rfl) (pv 0) (λ_ _=>rfl))⟩) (by kernel_rfl)) af)) rfl) (ah (mG (pv 0) (aL (fm K rfl) rfl T.b_tuple IL (paC (cr (wi:=(lI K (bw 2))) (g:=(cC 0)) (tts:=(sQ (tOp (D7 K true) (bw 0) (xc K (bw 1) "kept")))) (te:=(dB (spP K dP) [] E0 (aW (xc K (bw 1) "pieces") (aW (xc K (bw 1) "kept") (aW (bw 0) eR))))) ["at","self"] [none,some 0] rfl (ck K rfl (pv 2)) (λ_ _ _ _=>⟨(aG (i:=0) (by show Hu (["at","self"]:List Str);decide +kernel) rfl (by walk_at "o")),(jj (aT (sH K rfl) (pv 0) (cK K rfl (pv 1) rfl) (by with_unfolding_all rfl))),(ax C'18 (hr.mono (by decide)) (paC (cK K rfl (pv 1) rfl) (paC (cK K rfl (pv 1) rfl) (paC (pv 0) af))))⟩) (by kernel_rfl)) af)) rfl) (ah (mG (pv 0) (ax C'14 (hr.mono (by decide)) (paC (cK K rfl (pv 0) rfl) af)) rfl) (ap (mG (pv 0) (ak (vE K rfl rfl) rfl T.b_sum KN (paC (cr (wi:=(lI K (xc K (bw 0) "words"))) (g:=(cC 0)) (tts:=oN) (te:=(tCB (qD K) (aW (bw 0) eR))) ["word"] [none] rfl (ck K rfl (cK K rfl (pv 0) rfl)) (λ_ _ _ _=>⟨(aG (i:=0) (by show Hu (["word"]:List Str);decide +kernel) rfl (by walk_at "o")),cE,(ak (bN K rfl) rfl T.b_len pf (paC (pv 0) af))⟩) (by kernel_rfl)) af)) rfl))))))))),fnR (K:=K) (c:=bP) (ps:=hZ) (N:=["self","pieces","indexes"]) (aA (dG (aJ (c:=cY) (aa (ae (ao (i:=1))) ac))) (aA (jn (c0:="Family") (ns0:=[]) (i:=0) TC.cl_Family TC.n_Family_pieces (by decide +kernel) (aP dy (aa (al (i:=1)) ac))) (aA (aR (ss false (aa (ae (aP bc (aa (ae (dY (ns0:=["pieces"]) TC.cl_Family TC.n_Family_pieces (i:=0) (by decide +kernel) (al (i:=0)))) ac))) ac)) (aK (i:=2) rfl)) (aA (jn (c0:="Family") (ns0:=["pieces"]) (i:=0) TC.cl_Family TC.n_Family_kept (by decide +kernel) (aP dy (aa (ae (bI (ix:=[none,some 0]) rfl (cq (ao (i:=2))) (λfs hc=>(au (i:=0) (lJ hc (by decide)))) (mK (aJ (c:=eX) (aa (ae (dY (ns0:=["pieces"]) TC.cl_Family TC.n_Family_pieces (i:=0) (by decide +kernel) (al (i:=1)))) (aa (ae (ao (i:=0))) ac)))) (ao (i:=0)))) ac))) (aA (jn (c0:="Family") (ns0:=["pieces","kept"]) (i:=0) TC.cl_Family TC.n_Family_words (by decide +kernel) (aP dy (aa (ae (bI (ix:=[none,some 0]) rfl (cq (dY (ns0:=["pieces","kept"]) TC.cl_Family TC.n_Family_kept (i:=1) (by decide +kernel) (al (i:=0)))) (λfs hc=>(au (i:=0) (lJ hc (by decide)))) dH (aw bH (ae (dY (ns0:=["pieces","kept"]) TC.cl_Family TC.n_Family_pieces (i:=0) (by decide +kernel) (al (i:=1)))) (al (i:=0))))) ac))) (aA (jn (c0:="Family") (ns0:=["pieces","kept","words"]) (i:=0) TC.cl_Family TC.n_Family_left (by decide +kernel) (aP dy (aa (ae (bI (ix:=[none,some 0]) rfl (cq (ao (i:=2))) (λfs hc=>(au (i:=0) (lJ hc (by decide)))) (gF (aw (wE (neg:=true)) (al (i:=0)) (ae (dY (ns0:=["pieces","kept","words"]) TC.cl_Family TC.n_Family_kept (i:=1) (by decide +kernel) (al (i:=1)))))) (aJ (c:=dP) (aa (ae (dY (ns0:=["pieces","kept","words"]) TC.cl_Family TC.n_Family_pieces (i:=0) (by decide +kernel) (al (i:=1)))) (aa (ae (dY (ns0:=["pieces","kept","words"]) TC.cl_Family TC.n_Family_kept (i:=1) (by decide +kernel) (al (i:=1)))) (aa (ae (ao (i:=0))) ac)))))) ac))) (aA (jn (c0:="Family") (ns0:=["pieces","kept","words","left"]) (i:=0) TC.cl_Family TC.n_Family_laps (by decide +kernel) (aJ (c:=fJ) (aa (ae (dY (ns0:=["pieces","kept","words","left"]) TC.cl_Family TC.n_Family_words (i:=2) (by decide +kernel) (al (i:=0)))) ac))) (jn (c0:="Family") (ns0:=["pieces","kept","words","left","laps"]) (i:=0) TC.cl_Family TC.n_Family_total (by decide +kernel) (aP qH (aa (ae (bI (ix:=[none]) rfl (cq (dY (ns0:=["pieces","kept","words","left","laps"]) TC.cl_Family TC.n_Family_words (i:=2) (by decide +kernel) (al (i:=0)))) (λfs hc=>(au (i:=0) (lJ hc (by decide)))) dH (aP bc (aa (al (i:=0)) ac)))) ac)))))))))) (λp ds Q h=>E_ (Kr (eO p ds Q h).1) (by decide)) (λp ds Q _ h=>(eO p ds Q h).2) h⟩
def mr(D:se K (aI K "Family") "many" "Family.many" bM)(T:Txt mg)(TC:TxC K)(TX:TxX K mg):D0 P w K mg base 1 (aI K "Family") "many" ["self"] (spP K cA):=by
 refine D.ok lW (λ_ _ _ _ _ _ us hl=>match us,hl with|[_],_=>rfl) (λvs H Q E h=>?_) (λf cdv A outer s H vs Q E hr h=>?_)
 .exact Fd (λds Q h=>(eP ds Q h).1) h
 .have hu:=hr.units;exact⟨_,(ap (aN (ak (bN K rfl) rfl T.b_len pf (paC (cK K rfl (pv 0) rfl) af)))),fnP (K:=K) (c:=cA) (ps:=h7) (N:=["self"]) (aO (aP bc (aa (ae (dY (ns0:=["pieces","kept","words","left","laps","total"]) TC.cl_Family TC.n_Family_words (i:=2) (by decide +kernel) (al (i:=0)))) ac))) (λds Q h=>E_ (Kr (eP ds Q h).1) (by decide)) (λds Q h=>(eP ds Q h).2) h⟩
def oH(D:bh K mg "_law_stream" gq)(T:Txt mg)(TC:TxC K)(TX:TxX K mg):jb P w K mg base:=D.oP2 fG (by walk_at "b2") oz rfl rfl λ_ _ _ _ _ _ _ hr hu=>⟨_,(ah (aU (i:=2) fG.nd rfl (by walk_at "o") (bi (bR K rfl) (bi pK (bi pK (pv 1) (pv 1)) ay) ay)) (ah (nF (cu (aT Ce (pv 1) (ak (bN K rfl) rfl T.b_len pf (paC (pv 0) af)) (a9 _)) (ap (aU (i:=2) fG.nd rfl (by walk_at "o") (ak E4 rfl T.b_abs boot_abs (paC (bE (e8 K rfl) (pv 0) (pv 1) (λ_ _=>rfl)) af)))) aX)) (ap (aN (bD (paC (pv 2) (paC (bi (bR K rfl) (bi (bR K rfl) (bi qJ (pv 2) ay) (bi pK (pv 1) ay)) ay) af))))))),(i6 K mg ⟨TC,TX⟩)⟩
def rJ(D:bh K mg "_law_take" jy)(T:Txt mg)(TC:TxC K)(TX:TxX K mg):bZ P w K mg base:=D.oR2 k6 (by walk_at "b2") rm rfl rfl λ_ _ _ _ _ _ _ hr hu=>⟨_,(ah (cu (aT Ba (bE (e8 K rfl) (pv 0) ay (λ_ _=>rfl)) ay (a9 _)) (ah (aU (i:=2) k6.nd rfl (by walk_at "o") (bi qJ (bE (e8 K rfl) (pv 0) ay (λ_ _=>rfl)) (pv 1))) (ah (qQ (bi CT (bE (e8 K rfl) (pv 0) ay (λ_ _=>rfl)) (pv 1)) (uz (pv 0) ay ny)) (ap (aN (pv 2))))) aX) (ah (qQ (bi qJ (bi (bR K rfl) (bi pK (bE (e8 K rfl) (pv 0) ay (λ_ _=>rfl)) ay) ay) ay) (uz (pv 0) ay ny)) (ap (aN (bi qJ (bi qJ (bi pK (bE (e8 K rfl) (pv 0) ay (λ_ _=>rfl)) (bE (e8 K rfl) (pv 0) ay (λ_ _=>rfl))) ay) (pv 1)))))),(lp K mg ⟨TC,TX⟩)⟩
def mw(D:bh K mg "_law_letters" fE)(T:Txt mg)(TC:TxC K)(TX:TxX K mg)(C'22:bZ P w K mg base):ii P w K mg base:=D.oR2 eF (by walk_at "b1") md rfl rfl λ_ _ _ _ _ _ _ hr hu=>⟨_,(ah (aU (i:=1) eF.nd rfl (by walk_at "o") (bQ (l:=[97,98,99,100,101,102,103,104,105,106,107,108,109,110,111,112,113,114,115,116,117,118,119,120,121,122]) (by decide +kernel))) (ah (aU (i:=2) eF.nd rfl (by walk_at "o") (ax C'22 (hr.m rfl) (paC (pv 0) (paC ay af)))) (ah (cu (aT (kO K rfl hu) (pv 2) ay (a9 _)) (ap (aN (pv 1))) aX) (ap (aN (cZ K rfl Hz IA IB (iT K rfl) (bQ (l:=[]) (by decide +kernel)) (paC (cr (wi:=(uB (aW (tOp (wF K) (tC (V.int 2)) (tOp CS (bw 2) (tC (V.int 2)))) eR))) (g:=(cC 0)) (tts:=oN) (te:=(tOp (sj K) (bw 1) (dB (spR K aE) [] E0 (aW (bw 2) (aW (tC (V.int 26)) eR))))) ["_law_k","_law_alphabet","_law_stream_here"] [none,some 1,some 0] rfl (bS rfl T.b_range (paC (bi (bR K rfl) ay (bi qJ (pv 2) ay)) af)) (λ_ _ _ _=>⟨(aG (i:=0) (by show Hu (["_law_k","_law_alphabet","_law_stream_here"]:List Str);decide +kernel) rfl (by walk_at "o")),cE,(bE (e8 K rfl) (pv 1) (ax C'22 (hr.m rfl) (paC (pv 2) (paC ay af))) (λ_ _=>rfl))⟩) (by kernel_rfl)) af))))))),(ia K mg ⟨TC,TX⟩)⟩
def rK(D:bh K mg "_law_word" jA)(T:Txt mg)(TC:TxC K)(TX:TxX K mg)(C'22:bZ P w K mg base):lC P w K mg base:=D.oR2 qU (by walk_at "b3") rp rfl rfl λ_ _ _ _ _ _ _ hr hu=>⟨_,(ap (aN (cZ K rfl Hz IA IB (iT K rfl) (bQ (l:=[]) (by decide +kernel)) (paC (cr (wi:=(uB (aW (tOp (wF K) (tC (V.int 1)) (dB (spR K aE) [] E0 (aW (bw 0) (aW (bw 2) eR)))) eR))) (g:=(cC 0)) (tts:=oN) (te:=(tOp (sj K) (bw 1) (dB (spR K aE) [] E0 (aW (bw 2) (aW (tCB (qD K) (aW (bw 1) eR)) eR))))) ["_law_k","_law_letters_here","_law_stream_here"] [none,some 1,some 0] rfl (bS rfl T.b_range (paC (bi (bR K rfl) ay (ax C'22 (hr.m rfl) (paC (pv 0) (paC (pv 2) af)))) af)) (λ_ _ _ _=>⟨(aG (i:=0) (by show Hu (["_law_k","_law_letters_here","_law_stream_here"]:List Str);decide +kernel) rfl (by walk_at "o")),cE,(bE (e8 K rfl) (pv 1) (ax C'22 (hr.m rfl) (paC (pv 2) (paC (ak (bN K rfl) rfl T.b_len pf (paC (pv 1) af)) af))) (λ_ _=>rfl))⟩) (by kernel_rfl)) af)))),(lq K mg ⟨TC,TX⟩)⟩
def ug(D:bh K mg "_law_cut" kU)(T:Txt mg)(TC:TxC K)(TX:TxX K mg)(C'22:bZ P w K mg base):nh P w K mg base:=D.oR2 mW (by walk_at "b3") t7 rfl rfl λ_ _ _ _ _ _ _ hr hu=>⟨_,(ah (aU (i:=3) mW.nd rfl (by walk_at "o") (ax C'22 (hr.m rfl) (paC (pv 0) (paC (ak (bN K rfl) rfl T.b_len pf (paC (pv 1) af)) af)))) (ap (aN (fb (Ab K rfl) (pv 1) (fZ (pv 3)) (fZ (bi (bR K rfl) (bi (bR K rfl) (pv 3) ay) (ax C'22 (hr.m rfl) (paC (pv 0) (paC (pv 2) af))))))))),(m7 K mg ⟨TC,TX⟩)⟩
def oJ(D:bh K mg "_law_pieces" gu)(T:Txt mg)(TC:TxC K)(TX:TxX K mg)(C'25:nh P w K mg base)(C'23:ii P w K mg base)(C'22:bZ P w K mg base)(C'24:lC P w K mg base):jc P w K mg base:=D.oR2 aZ (by walk_at "b3") oB rfl rfl λ_ _ _ _ _ _ _ hr hu=>⟨_,(ah (aU (i:=3) aZ.nd rfl (by walk_at "o") (ax C'23 (hr.m rfl) (paC (pv 0) af))) (ah (aU (i:=4) aZ.nd rfl (by walk_at "o") (ax C'24 (hr.m rfl) (paC (pv 0) (paC (pv 3) (paC (bi pK ay (pv 2)) af))))) (ah (nF (cu (aT (kO K rfl hu) (ax C'22 (hr.m rfl) (paC (pv 0) (paC ay af))) ay (a9 _)) (ap (aU (i:=4) aZ.nd rfl (by walk_at "o") (bi pK (fb (Ab K rfl) (pv 4) jf (fZ (bi (bR K rfl) ay (ax C'22 (hr.m rfl) (paC (pv 0) (paC ay af)))))) (pv 2)))) aX)) (ah (aU (i:=5) aZ.nd rfl (by walk_at "o") (bD af)) (ah (df Ha rfl (bS rfl T.b_range (paC (pv 1) af)) (aG (i:=6) aZ.nd rfl (by walk_at "o")) (ah (aU (i:=7) aZ.nd rfl (by walk_at "o") (ax C'22 (hr.m rfl) (paC (pv 0) (paC ay af)))) (ah (nF (cu (PW.pt (rP (aT Ba (pv 7) ay (a9 _)) (nu (aT Ba (ak (bN K rfl) rfl T.b_len pf (paC (pv 5) af)) ay (a9 _))))) (ah (aU (i:=8) aZ.nd rfl (by walk_at "o") (bE (e8 K rfl) (pv 5) (ax C'22 (hr.m rfl) (paC (pv 0) (paC (ak (bN K rfl) rfl T.b_len pf (paC (pv 5) af)) af))) (λ_ _=>rfl))) (ap (cu (aT (kO K rfl hu) (pv 7) ay (a9 _)) (ap (aU (i:=8) aZ.nd rfl (by walk_at "o") (ax C'25 (hr.m rfl) (paC (pv 0) (paC (pv 8) (paC (pv 2) af)))))) aX))) (ap (cu (aT (kO K rfl hu) (bi qJ (pv 7) ay) ay (a9 _)) (ap (aU (i:=8) aZ.nd rfl (by walk_at "o") (ax C'25 (hr.m rfl) (paC (pv 0) (paC (pv 4) (paC (pv 2) af)))))) (ap (aU (i:=8) aZ.nd rfl (by walk_at "o") (ax C'24 (hr.m rfl) (paC (pv 0) (paC (pv 3) (paC (pv 2) af)))))))))) (ap (dh (cZ K rfl Hf Hk Hl bU (pv 5) (paC (pv 8) af))))))) (ap (aN (pv 5)))))))),(i7 K mg ⟨TC,TX⟩)⟩
def mx(D:bh K mg "_law_is_left" fF)(T:Txt mg)(TC:TxC K)(TX:TxX K mg):ik P w K mg base:=D.oP2 gU (by walk_at "b2") mf rfl rfl λ_ _ _ _ _ _ _ hr hu=>⟨_,(ah (df Ha rfl (ck K rfl (pv 0)) (aG (i:=2) gU.nd rfl (by walk_at "o")) (ap (cu (PW.pt (rP (aT Ba (ak (bN K rfl) rfl T.b_len pf (paC (pv 2) af)) (ak (bN K rfl) rfl T.b_len pf (paC (bE (e8 K rfl) (pv 0) (pv 1) (λ_ _=>rfl)) af)) (a9 _)) (nu (aT Bb (cZ K rfl Hz K8 K9 su (pv 2) (paC (bE (e8 K rfl) (pv 0) (pv 1) (λ_ _=>rfl)) af)) ay (a9 _))))) (ap (aN fX)) aX))) (ap (aN (fY (Fw K rfl) (bE (e8 K rfl) (pv 0) (pv 1) (λ_ _=>rfl)) (fb (Ab K rfl) (pv 0) jf (fZ (pv 1))) (by with_unfolding_all rfl))))),(ib K mg ⟨TC,TX⟩)⟩
def rL(D:bh K mg "_law_kept" jB)(T:Txt mg)(TC:TxC K)(TX:TxX K mg)(C'27:ik P w K mg base):lD P w K mg base:=D.oP2 qV (by walk_at "b1") rA rfl rfl λ_ _ _ _ _ _ _ hr hu=>⟨_,(ap (aN (cr (wi:=(uB (aW (tCB (qD K) (aW (bw 0) eR)) eR))) (g:=(cC 0)) (tts:=(Ed (tB (dB (spP K de) [] E0 (aW (bw 1) (aW (bw 0) eR)))))) (te:=(bw 0)) ["_law_k","_law_pieces_here"] [none,some 0] rfl (bS rfl T.b_range (paC (ak (bN K rfl) rfl T.b_len pf (paC (pv 0) af)) af)) (λ_ _ _ _=>⟨(aG (i:=0) (by show Hu (["_law_k","_law_pieces_here"]:List Str);decide +kernel) rfl (by walk_at "o")),(jj (dq (bJ (ax C'27 (hr.m rfl) (paC (pv 1) (paC (pv 0) af)))))),(pv 0)⟩) (by kernel_rfl)))),(lr K mg ⟨TC,TX⟩)⟩
def uh(D:bh K mg "_law_lap" kW)(T:Txt mg)(TC:TxC K)(TX:TxX K mg):jL P w K mg base:=D.oP2 mX (by walk_at "b2") ua rfl rfl λ_ _ _ _ _ _ _ hr hu=>⟨_,(ah (df Ha rfl (o9 rfl T.b_range (paC (bi lO (ak (vC rfl) rfl T.b_min boot_min (paC (ak (bN K rfl) rfl T.b_len pf (paC (pv 0) af)) (paC (ak (bN K rfl) rfl T.b_len pf (paC (pv 1) af)) af))) ay) (paC ay (paC (sP mD ay) af)))) (aG (i:=2) mX.nd rfl (by walk_at "o")) (ap (cu (aT (kO K rfl hu) (fb (Ab K rfl) (pv 0) (fZ (bi lO (ak (bN K rfl) rfl T.b_len pf (paC (pv 0) af)) (pv 2))) jf) (fb (Ab K rfl) (pv 1) jf (fZ (pv 2))) (a9 _)) (ap (aN (pv 2))) aX))) (ap (aN ay))),(m8 K mg ⟨TC,TX⟩)⟩
def oK(D:bh K mg "_law_prices" gv)(T:Txt mg)(TC:TxC K)(TX:TxX K mg)(C'29:jL P w K mg base)(C'22:bZ P w K mg base):jd P w K mg base:=D.oR2 bA (by walk_at "b2") oF rfl rfl λ_ _ _ _ _ _ _ hr hu=>⟨_,(ah (aU (i:=2) bA.nd rfl (by walk_at "o") (bE (e8 K rfl) (bD (paC ay (paC ay (paC ay (paC (bi Ao ay ay) af))))) (ax C'22 (hr.m rfl) (paC (pv 0) (paC ay af))) (λ_ _=>rfl))) (ah (qz (wi:=(lI K (bw 1))) (g:=(cC 0)) (tts:=oN) (te:=(dB (spR K aE) [] E0 (aW (bw 1) (aW (bw 2) eR)))) (i:=3) ["_law_word_here","_law_stream_here","_law_most"] [none,some 0,some 2] bA.nd rfl (Lv rfl) rfl (ck K rfl (pv 1)) (λ_ _ _ _=>⟨(aG (i:=0) (by show Hu (["_law_word_here","_law_stream_here","_law_most"]:List Str);decide +kernel) rfl (by walk_at "o")),cE,(ax C'22 (hr.m rfl) (paC (pv 1) (paC (pv 2) af)))⟩) (by kernel_rfl)) (ah (aU (i:=4) bA.nd rfl (by walk_at "o") (bD af)) (ah (df Ha rfl (bS rfl T.b_range (paC (ak (bN K rfl) rfl T.b_len pf (paC (pv 1) af)) af)) (aG (i:=5) bA.nd rfl (by walk_at "o")) (ah (aU (i:=6) bA.nd rfl (by walk_at "o") ay) (ah (df Ha rfl (bS rfl T.b_range (paC (ak (bN K rfl) rfl T.b_len pf (paC (pv 1) af)) af)) (aG (i:=7) bA.nd rfl (by walk_at "o")) (ap (cu (aT (pS K rfl hu) (pv 7) (pv 5) (a9 _)) (ap (aU (i:=6) bA.nd rfl (by walk_at "o") (ak (yP rfl) rfl T.b_max boot_max (paC (pv 6) (paC (bi lO (ax C'29 (hr.m rfl) (paC (bE (e8 K rfl) (pv 1) (pv 7) (λ_ _=>rfl)) (paC (bE (e8 K rfl) (pv 1) (pv 5) (λ_ _=>rfl)) af))) (bE (e8 K rfl) (pv 3) (pv 7) (λ_ _=>rfl))) af))))) aX))) (ap (dh (cZ K rfl Hf Hk Hl bU (pv 4) (paC (bi (bR K rfl) (pv 6) (bi pK (ax C'22 (hr.m rfl) (paC (pv 0) (paC ay af))) (ax C'22 (hr.m rfl) (paC (pv 0) (paC ay af))))) af))))))) (ap (aN (bD (paC (pv 3) (paC (pv 4) af))))))))),(i9 K mg ⟨TC,TX⟩)⟩
def qo(D:bh K mg "_law_right" iA)(T:Txt mg)(TC:TxC K)(TX:TxX K mg)(C'29:jL P w K mg base):j1 P w K mg base:=D.oP2 d6 (by walk_at "b3") qi rfl rfl λ_ _ _ _ _ _ _ hr hu=>⟨_,(ah (cu (PW.pt (nv (aT (pS K rfl hu) (ak (bN K rfl) rfl T.b_len pf (paC (pv 1) af)) (ak (bN K rfl) rfl T.b_len pf (paC (pv 0) af)) (a9 _)) (jN (aT (pS K rfl hu) (ak (bN K rfl) rfl T.b_len pf (paC (pv 2) af)) (ak (bN K rfl) rfl T.b_len pf (paC (pv 0) af)) (a9 _))))) (ap (aN fX)) aX) (ah (df Ha rfl (ck K rfl (bi (bR K rfl) (pv 1) (pv 2))) (aG (i:=3) d6.nd rfl (by walk_at "o")) (ap (cu (PW.pt (nv (dq (bJ (ak (qE K rfl) rfl T.b_isinstance HG (paC (pv 3) (paC (ef (v:=.ty "int") rfl T.b_int boot_int rfl) af))))) (nv (bJ (ak (qE K rfl) rfl T.b_isinstance HG (paC (pv 3) (paC (ef (v:=.ty "bool") rfl T.b_bool boot_bool rfl) af)))) (jN (aT Ce (pv 3) ay (a9 _)))))) (ap (aN fX)) aX))) (ah (df Ha rfl (bS rfl T.b_range (paC (ak (bN K rfl) rfl T.b_len pf (paC (pv 0) af)) af)) (aG (i:=4) d6.nd rfl (by walk_at "o")) (ap (df Ha rfl (bS rfl T.b_range (paC (ak (bN K rfl) rfl T.b_len pf (paC (pv 0) af)) af)) (aG (i:=5) d6.nd rfl (by walk_at "o")) (ap (cu (PW.pt (rP (aT (pS K rfl hu) (pv 4) (pv 5) (a9 _)) (nu (aT Ce (bi (bR K rfl) (bE (e8 K rfl) (pv 1) (pv 4) (λ_ _=>rfl)) (bE (e8 K rfl) (pv 2) (pv 5) (λ_ _=>rfl))) (ax C'29 (hr.m rfl) (paC (bE (e8 K rfl) (pv 0) (pv 4) (λ_ _=>rfl)) (paC (bE (e8 K rfl) (pv 0) (pv 5) (λ_ _=>rfl)) af))) (a9 _))))) (ap (aN fX)) aX))))) (ap (aN fX))))),(jX K mg ⟨TC,TX⟩)⟩
def rM(D:bh K mg "_law_bent" jC)(T:Txt mg)(TC:TxC K)(TX:TxX K mg)(C'22:bZ P w K mg base):lE P w K mg base:=D.oR2 dN (by walk_at "b3") rC rfl rfl λ_ _ _ _ _ _ _ hr hu=>⟨_,(ah (aU (i:=3) dN.nd rfl (by walk_at "o") (bD (paC (aL (mL K rfl) rfl T.b_list JA (paC (pv 1) af)) (paC (aL (mL K rfl) rfl T.b_list JA (paC (pv 2) af)) af)))) (ah (aU (i:=4) dN.nd rfl (by walk_at "o") (bE (e8 K rfl) (pv 3) (ax C'22 (hr.m rfl) (paC (pv 0) (paC ay af))) (λ_ _=>rfl))) (ah (aU (i:=5) dN.nd rfl (by walk_at "o") (ax C'22 (hr.m rfl) (paC (pv 0) (paC ay af)))) (ah (nF (cu (PW.pt (nv (aT (kO K rfl hu) (pv 5) ay (a9 _)) (jN (aT (kO K rfl hu) (pv 4) (bD af) (a9 _))))) (ap (dh (cZ K rfl Hf Hk Hl bU (pv 4) (paC (ax C'22 (hr.m rfl) (paC (pv 0) (paC ay af))) af)))) (ap (cu (aT (kO K rfl hu) (pv 5) ay (a9 _)) (ap (dh (cZ K rfl Hf PySem.F.slot_list_pop PySem.F.type_list_pop xz (pv 4) (paC (ax C'22 (hr.m rfl) (paC (pv 0) (paC (ak (bN K rfl) rfl T.b_len pf (paC (pv 4) af)) af))) af)))) (ah (aU (i:=6) dN.nd rfl (by walk_at "o") (ax C'22 (hr.m rfl) (paC (pv 0) (paC (ak (bN K rfl) rfl T.b_len pf (paC (pv 4) af)) af)))) (ap (qQ (bE (e8 K rfl) (bD (paC (bi lO (bE (e8 K rfl) (pv 4) (pv 6) (λ_ _=>rfl)) ay) (paC (bi lO (bE (e8 K rfl) (pv 4) (pv 6) (λ_ _=>rfl)) ay) (paC (bE (e8 K rfl) (bD (paC my (paC fX (paC (bQ (l:=[49]) (by decide +kernel)) (paC (bD af) (paC (sP mD ay) af)))))) (ax C'22 (hr.m rfl) (paC (pv 0) (paC ay af))) (λ_ _=>rfl)) af)))) (bi lO (pv 5) ay) (λ_ _=>rfl)) (uz (pv 4) (pv 6) ny)))))))) (ap (aN (pv 3))))))),(lu K mg ⟨TC,TX⟩)⟩
def lH(D:bh K mg "_law_no_paper" eC)(T:Txt mg)(TC:TxC K)(TX:TxX K mg)(C'12:fP P w K mg base):dQ P w K mg base:=D.oP2 cX (by walk_at "b2") lw rfl rfl λ_ _ _ _ _ _ _ hr hu=>⟨_,(ah (aU (i:=2) cX.nd rfl (by walk_at "o") my) (ah (Dd rfl rfl (λJ pn E px=>ah (dh (qO C'12 (hr.m rfl) px (paC (pv 0) (paC (pv 1) af)))) aX) (Di 3 K rfl TX.d'a TX.m'a cX.nd rfl rfl (λ_=>(ap (aU (i:=2) cX.nd rfl (by walk_at "o") (pv 3)))) Dc)) (ah (cu (PW.pt (nv (dq (bJ (ak (Fj K rfl) rfl T.b_isinstance HG (paC (pv 2) (paC (jr TX.m'o) af))))) (jN (dq (bJ (ak (Fk K rfl) rfl T.b_isinstance HG (paC (pv 2) (paC (ef (v:=.ty "ValueError") rfl T.b_ValueError PyProof.Rows.Boot.«ValueError» rfl) af)))))))) (ap (aN fX)) aX) (ap (aN (ut (ak (Dj K rfl) rfl T.b_isinstance HG (paC (pv 2) (paC (iJ (paC (jr TX.m'n) (paC (jr TX.m'e) (paC (jr TX.m'c) (paC (jr TX.m'f) (paC (jr TX.m'g) af)))))) af))))))))),(gD K mg ⟨TC,TX⟩)⟩
def rN(D:bh K mg "_law_told" jD)(T:Txt mg)(TC:TxC K)(TX:TxX K mg)(C'33:dQ P w K mg base)(C'31:j1 P w K mg base)(C'12:fP P w K mg base):lF P w K mg base:=D.oP2 bv (by walk_at "b3") rD rfl rfl λ_ _ _ _ _ _ _ hr hu=>⟨_,(ah (mC (pv 2) (iW K rfl (n:=2) rfl (bp (aG (i:=3) bv.nd rfl (by walk_at "o")) (bp (aG (i:=4) bv.nd rfl (by walk_at "o")) e9)))) (ah (cu (dq (bJ (ax C'31 (hr.m rfl) (paC (pv 1) (paC (pv 3) (paC (pv 4) af)))))) (ap (aN (jO (ax C'33 (hr.m rfl) (paC (pv 0) (paC (pv 2) af))) (mB (ax C'33 (hr.m rfl) (paC (pv 0) (paC (iJ (paC (aL (fm K rfl) rfl T.b_tuple IL (paC (pv 3) af)) (paC (aL (mL K rfl) rfl T.b_list JA (paC (pv 4) af)) af))) af))))))) aX) (ah (aU (i:=5) bv.nd rfl (by walk_at "o") (bD af)) (ah (df Ha rfl (bS rfl T.b_range (paC (ak (bN K rfl) rfl T.b_len pf (paC (pv 1) af)) af)) (aG (i:=6) bv.nd rfl (by walk_at "o")) (ap (dh (cZ K rfl Hf Hk Hl bU (pv 5) (paC (bi (bR K rfl) (bi (bR K rfl) (bi (bR K rfl) (bi (bR K rfl) (bE (e8 K rfl) (pv 1) (pv 6) (λ_ _=>rfl)) (bQ (l:=[32,103,105,118,101,115,32]) (by decide +kernel))) (aL kR rfl T.b_str (by decide +kernel) (paC (bE (e8 K rfl) (pv 3) (pv 6) (λ_ _=>rfl)) af))) (bQ (l:=[32,116,97,107,101,115,32]) (by decide +kernel))) (aL kR rfl T.b_str (by decide +kernel) (paC (bE (e8 K rfl) (pv 4) (pv 6) (λ_ _=>rfl)) af))) af))))) (ah (aU (i:=7) bv.nd rfl (by walk_at "o") (ak (bN K rfl) rfl T.b_len pf (paC (cZ K rfl Hz IA IB (iT K rfl) (bQ (l:=[]) (by decide +kernel)) (paC (pv 1) af)) af))) (ah (aU (i:=8) bv.nd rfl (by walk_at "o") (bi (bR K rfl) (ak (vE K rfl rfl) rfl T.b_sum KN (paC (pv 3) af)) (ak (vE K rfl rfl) rfl T.b_sum KN (paC (pv 4) af)))) (ah (dh (cZ K rfl Hf Hk Hl bU (pv 5) (paC (bi (bR K rfl) (bi (bR K rfl) (bi (bR K rfl) (bi (bR K rfl) (aL kR rfl T.b_str (by decide +kernel) (paC (pv 7) af)) (bQ (l:=[32,108,101,115,115,32]) (by decide +kernel))) (aL kR rfl T.b_str (by decide +kernel) (paC (pv 8) af))) (bQ (l:=[32,105,115,32]) (by decide +kernel))) (aL kR rfl T.b_str (by decide +kernel) (paC (bi lO (pv 7) (pv 8)) af))) af))) (ah (df Ha rfl (ck K rfl (bD (paC (pv 2) (paC (iJ (paC (aL (fm K rfl) rfl T.b_tuple IL (paC (pv 3) af)) (paC (aL (mL K rfl) rfl T.b_list JA (paC (pv 4) af)) af))) af)))) (aG (i:=9) bv.nd rfl (by walk_at "o")) (ah (aU (i:=10) bv.nd rfl (by walk_at "o") (qO C'12 (hr.m rfl) px0 (paC (pv 0) (paC (pv 9) af)))) (ah (cu (PW.pt (nv (dq (bJ (ak (qE K rfl) rfl T.b_isinstance HG (paC (pv 10) (paC (ef (v:=.ty "tuple") rfl T.b_tuple IL rfl) af))))) (jN (aT (pS K rfl hu) (ak (bN K rfl) rfl T.b_len pf (paC (pv 10) af)) (ak (bN K rfl) rfl T.b_len pf (paC (pv 5) af)) (a9 _))))) (ap (aN fX)) aX) (ap (df Ha rfl (Ap K rfl rfl T.b_zip (paC (pv 10) (paC (pv 5) af))) (iW K rfl (n:=2) rfl (bp (aG (i:=11) bv.nd rfl (by walk_at "o")) (bp (aG (i:=12) bv.nd rfl (by walk_at "o")) e9))) (ap (cu (PW.pt (nv (dq (bJ (ak (qE K rfl) rfl T.b_isinstance HG (paC (pv 11) (paC (ef (v:=.ty "str") rfl T.b_str boot_str rfl) af))))) (jN (aT (pS K rfl hu) (pv 11) (pv 12) (a9 _))))) (ap (aN fX)) aX))))))) (ap (aN fX)))))))))),(lx K mg ⟨TC,TX⟩)⟩
def ui(D:bh K mg "_law_one" kX)(T:Txt mg)(TC:TxC K)(TX:TxX K mg)(C'19:il P w K mg base)(C'32:lE P w K mg base)(C'28:lD P w K mg base)(C'33:dQ P w K mg base)(C'26:jc P w K mg base)(C'30:jd P w K mg base)(C'22:bZ P w K mg base)(C'34:lF P w K mg base):nk P w K mg base:=D.oR2 cf (by walk_at "b1") uc rfl rfl λ_ _ _ _ _ _ _ hr hu=>⟨_,(ah (aU (i:=1) cf.nd rfl (by walk_at "o") (ax C'26 (hr.m rfl) (paC (pv 0) (paC (ax C'22 (hr.m rfl) (paC (pv 0) (paC ay af))) (paC ay af))))) (ah (qz (wi:=(lI K (dB (spP K fN) [] E0 (aW (bw 1) eR)))) (g:=(cC 0)) (tts:=oN) (te:=(tOp (sj K) (bw 1) (bw 0))) (i:=2) ["_law_k","_law_pieces_here"] [none,some 1] cf.nd rfl (Lv rfl) rfl (ck K rfl (ax C'28 (hr.m rfl) (paC (pv 1) af))) (λ_ _ _ _=>⟨(aG (i:=0) (by show Hu (["_law_k","_law_pieces_here"]:List Str);decide +kernel) rfl (by walk_at "o")),cE,(bE (e8 K rfl) (pv 1) (pv 0) (λ_ _=>rfl))⟩) (by kernel_rfl)) (ah (aU (i:=3) cf.nd rfl (by walk_at "o") (sA C'19 (hr.m rfl) (paC (pv 1) af))) (ah (mC (ax C'30 (hr.m rfl) (paC (pv 0) (paC (pv 2) af))) (iW K rfl (n:=2) rfl (bp (aG (i:=4) cf.nd rfl (by walk_at "o")) (bp (aG (i:=5) cf.nd rfl (by walk_at "o")) e9)))) (ah (aU (i:=6) cf.nd rfl (by walk_at "o") (bD (paC (aL (mL K rfl) rfl T.b_list JA (paC (pv 4) af)) (paC (aL (mL K rfl) rfl T.b_list JA (paC (pv 5) af)) af)))) (ah (cu (PW.pt (nv (dq (bJ (ax C'34 (hr.m rfl) (paC (pv 3) (paC (pv 2) (paC (pv 6) af)))))) (jN (aT (DJ K rfl hu) (pv 6) (bD (paC (pv 4) (paC (pv 5) af))) (a9 _))))) (ap (aN fX)) aX) (ah (df Ha rfl (bS rfl T.b_range (paC ay af)) (aG (i:=7) cf.nd rfl (by walk_at "o")) (ap (cu (dq (bJ (ax C'34 (hr.m rfl) (paC (pv 3) (paC (pv 2) (paC (ax C'32 (hr.m rfl) (paC (pv 0) (paC (pv 4) (paC (pv 5) af)))) af)))))) (ap (aN fX)) aX))) (ah (df Ha rfl (ck K rfl (bD (paC my (paC fX (paC ay (paC (bQ (l:=[97,98]) (by decide +kernel)) (paC (bD af) (paC (bD (paC (pv 4) af)) (paC (bD (paC (pv 4) (paC (pv 5) (paC (bD af) af)))) (paC xL (paC (bD (paC (pv 4) (paC my af))) (paC (bD (paC (bQ (l:=[]) (by decide +kernel)) (paC (bQ (l:=[]) (by decide +kernel)) af))) af)))))))))))) (aG (i:=8) cf.nd rfl (by walk_at "o")) (ap (cu (PW.pt (rP (aT (DJ K rfl hu) (pv 8) (bD (paC (pv 4) (paC (pv 5) af))) (a9 _)) (nu (dq (bJ (ax C'33 (hr.m rfl) (paC (pv 3) (paC (pv 8) af)))))))) (ap (aN fX)) aX))) (ap (aN (ax C'34 (hr.m rfl) (paC (pv 3) (paC (pv 2) (paC (pv 6) af)))))))))))))),(m9 K mg ⟨TC,TX⟩)⟩
def DW(D:bh K mg "law" yv)(T:Txt mg)(TC:TxC K)(TX:TxX K mg)(C'19:il P w K mg base)(C'35:nk P w K mg base)(C'21:jb P w K mg base)(C'12:fP P w K mg base):DT P w K mg base:=D.oP2 y8 (by walk_at "b1") DS rfl rfl λ_ _ _ _ _ _ _ hr hu=>⟨_,(ah (df Ha rfl (bS rfl T.b_range (paC (ak (yP rfl) rfl T.b_max boot_max (paC ay (paC (ak (vC rfl) rfl T.b_min boot_min (paC ay (paC (ak (bN K rfl) rfl T.b_len pf (paC (pv 0) af)) af))) af))) af)) (aG (i:=1) y8.nd rfl (by walk_at "o")) (ap (cu (dq (bJ (ax C'35 (hr.m rfl) (paC (ax C'21 (hr.m rfl) (paC (pv 0) (paC (pv 1) af))) af)))) (ap (aN fX)) aX))) (ap (aN (fY (kO K rfl hu) (qO C'12 (hr.m rfl) px0 (paC (sA C'19 (hr.m rfl) (paC (bD af) af)) (paC (iJ (paC (bD af) (paC (iJ af) af))) af))) (iJ (paC (bQ (l:=[48,32,108,101,115,115,32,48,32,105,115,32,48]) (by decide +kernel)) af)) (a9 _))))),(zc K mg ⟨TC,TX⟩)⟩
end
def DX{l:K6}{w:World}{K:b_}{h:Heap}{mg:Str->Option Value}{fa:Addr}(X:K.In h)(G:h.Ns mainGlobals mg)(hfa:mg "law"=some (.ref fa))
  {C_Family:Addr} (aC_Family:v_ K mainGlobals "Family"=some (some (.ref C_Family))) (pg_Family:Jj K C_Family Ll=true) (hd_Family:JB K C_Family=true) (po_Family:KC K C_Family=true) (sa_Family:f_ K (.ref C_Family) "__setattr__"=some (some (.builtin "object.__setattr__"))) (mk_Family:K5 K C_Family=true) (kc_Family:u_ K (.ref C_Family)=true)
  (n_Family_pieces:f_ K (.ref C_Family) "pieces"=some none)
  (n_Family_kept:f_ K (.ref C_Family) "kept"=some none)
  (n_Family_words:f_ K (.ref C_Family) "words"=some none)
  (n_Family_left:f_ K (.ref C_Family) "left"=some none)
  (n_Family_laps:f_ K (.ref C_Family) "laps"=some none)
  (n_Family_total:f_ K (.ref C_Family) "total"=some none)
  {C'a:Addr} (aC'a:v_ K mainGlobals "GlueError"=some (some (.ref C'a))) {q'a:Str}{N'a:Addr}{bs'a sub'a:List Value}{sn'a:List Str}{ab'a:Bool}{col'a:Option Bool}{k0'a k1'a k2'a k3'a k5'a:Option Value} (lC'a:K.lookup C'a=some (excClassObj "GlueError" q'a C'a N'a bs'a [.type "ValueError",.type "Exception",.type "BaseException",.type "object"] true sn'a sub'a ab'a col'a none k0'a k1'a k2'a k3'a k5'a "ValueError.__new__")) (xq'a:I_ K C'a [.type "ValueError",.type "Exception",.type "BaseException",.type "object"] "ValueError.__new__"=true)
  {C'b:Addr} (b'b:XI K C'a "TooMany" C'b)
  (j'b:XJ K C'b "TooMany.__init__" "most" eG)
  {C'c:Addr} (b'c:XI K C'a "NoPiece" C'c)
  (j'c:XJ K C'c "NoPiece.__init__" "at" eH)
  {C'f:Addr} (b'f:XI K C'a "NotHeld" C'f)
  (j'f:XJ K C'f "NotHeld.__init__" "at" eI)
  {C'n:Addr} (b'n:XI K C'a "NoLine" C'n)
  (j'n:XJ K C'n "NoLine.__init__" "at" fH)
  {C'e:Addr} (b'e:XI K C'a "NoOrder" C'e)
  (xq'e:I_ K C'e [.type "ValueError",.type "Exception",.type "BaseException",.type "object"] "ValueError.__new__"=true)
  {C'g:Addr} (b'g:XI K C'a "NoTable" C'g)
  (xq'g:I_ K C'g [.type "ValueError",.type "Exception",.type "BaseException",.type "object"] "ValueError.__new__"=true)
  {C'o:Addr} (b'o:XI K C'a "NoPaper" C'o)
  (xq'o:I_ K C'o [.type "ValueError",.type "Exception",.type "BaseException",.type "object"] "ValueError.__new__"=true)
  (d1:gn K "is_row" oa)
  (d2:gn K "is_number" iw)
  {f3:Addr}{oc3 kV3 dc3 pm3 cd3 ct3:Value}{od3 an3 dd3:Option Addr}{sl3 st3:Array (Option Value)}{dT3:Addr}{n3:Nat}{u3_0 u3_1:Tok} (a3:v_ K mainGlobals "is_text"=some (some (.ref f3))) (l3:K.lookup f3=some ⟨oc3,od3,.func (Hb "is_text" "is_text" (bC eU) (aS eU) (ag eU) (.ref dT3) kV3 dc3 pm3 an3 cd3 ct3),sl3⟩) (c3:HF K cd3 "is_text"=true) (k3:u_ K (.ref f3)=true) (t3:K.lookup dT3=some ⟨.type "tuple",dd3,.seq [.int 0 u3_0,.int 4000 u3_1].toArray n3,st3⟩)
  (d4:gn K "first_place" fA)
  (d5:gn K "other_pairs" fB)
  (d7:gn K "lap" AT)
  {f8:Addr}{oc8 kV8 dc8 pm8 cd8 ct8:Value}{od8 an8:Option Addr}{sl8:Array (Option Value)} (a8:f_ K (.ref C_Family) "many"=some (some (.ref f8))) (i8:Ke K (.ref f8)=true) (l8:K.lookup f8=some ⟨oc8,od8,.func (Hb "many" "Family.many" (bC bM) (aS bM) (ag bM) .none kV8 dc8 pm8 an8 cd8 ct8),sl8⟩) (c8:HF K cd8 "Family.many"=true) (k8:u_ K (.ref f8)=true)
  (d9:gn K "_law_stream" gq)
  (d10:gn K "_law_take" jy)
  (d11:gn K "_law_is_left" fF)
  (d12:gn K "_law_lap" kW)
  (d13:gn K "are_numbers" fz)
  (d14:gn K "digits" og)
  (d15:gn K "all_laps" jw)
  (d16:gn K "check_pieces" eB)
  (d17:gn K "stands_within" dL)
  (d18:gn K "_law_letters" fE)
  (d19:gn K "_law_word" jA)
  (d20:gn K "_law_cut" kU)
  (d21:gn K "_law_kept" jB)
  (d22:gn K "_law_prices" gv)
  (d23:gn K "_law_right" iA)
  (d24:gn K "_law_bent" jC)
  (d25:gn K "are_prices" gp)
  (d26:gn K "is_kept" kT)
  (d27:gn K "left_row" jx)
  (d28:gn K "_law_pieces" gu)
  (d29:gn K "is_price_paper" dk)
  {f30:Addr}{oc30 kV30 dc30 pm30 cd30 ct30:Value}{od30 an30:Option Addr}{sl30:Array (Option Value)} (a30:f_ K (.ref C_Family) "__init__"=some (some (.ref f30))) (i30:Ke K (.ref f30)=true) (l30:K.lookup f30=some ⟨oc30,od30,.func (Hb "__init__" "Family.__init__" (bC bK) (aS bK) (ag bK) .none kV30 dc30 pm30 an30 cd30 ct30),sl30⟩) (c30:HF K cd30 "Family.__init__"=true) (k30:u_ K (.ref f30)=true)
  (d31:gn K "pays_laps" iy)
  (d32:gn K "price_bound" fC)
  (d33:gn K "why_rows" ju)
  (d34:gn K "_law_no_paper" eC)
  (d35:gn K "_law_told" jD)
  (d36:gn K "_law_one" kX)
  (d37:gn K "law" yv)
  (z1:v_ K mainGlobals "ValueError"=some none)
  (z2:v_ K mainGlobals "abs"=some none)
  (z3:v_ K mainGlobals "all"=some none)
  (z4:v_ K mainGlobals "any"=some none)
  (z5:v_ K mainGlobals "bool"=some none)
  (z6:v_ K mainGlobals "enumerate"=some none)
  (z7:v_ K mainGlobals "int"=some none)
  (z8:v_ K mainGlobals "isinstance"=some none)
  (z9:v_ K mainGlobals "len"=some none)
  (z10:v_ K mainGlobals "list"=some none)
  (z11:v_ K mainGlobals "max"=some none)
  (z12:v_ K mainGlobals "min"=some none)
  (z13:v_ K mainGlobals "range"=some none)
  (z14:v_ K mainGlobals "str"=some none)
  (z15:v_ K mainGlobals "sum"=some none)
  (z16:v_ K mainGlobals "tuple"=some none)
  (z17:v_ K mainGlobals "zip"=some none)
  {ty1:Tok} (y1:v_ K mainGlobals "MOST_PIECES"=some (some (.int 40 ty1)))
  {ty2:Tok} (y2:v_ K mainGlobals "MOST_SIGNS"=some (some (.int 60 ty2))) :
  ∃fd:HH,(∀(s:d_) (v:Value),KQ s fd ⟨[v],[]⟩ [("_law_script",v)])/\∀base:Heap,K.In base->base.Ns mainGlobals mg->lL l.prog w K mg base CX0 11 fa fd ["_law_script"] (tD K):=by
 have eC_Family:=dw aC_Family;have TC:TxC K:=⟨by rw [eC_Family];exact⟨pg_Family,hd_Family,po_Family,sa_Family⟩,by show f_ K (.ref (aI K "Family")) "pieces"=some none;rw [eC_Family];exact n_Family_pieces,by show f_ K (.ref (aI K "Family")) "kept"=some none;rw [eC_Family];exact n_Family_kept,by show f_ K (.ref (aI K "Family")) "words"=some none;rw [eC_Family];exact n_Family_words,by show f_ K (.ref (aI K "Family")) "left"=some none;rw [eC_Family];exact n_Family_left,by show f_ K (.ref (aI K "Family")) "laps"=some none;rw [eC_Family];exact n_Family_laps,by show f_ K (.ref (aI K "Family")) "total"=some none;rw [eC_Family];exact n_Family_total⟩
 have eC'a:=dw aC'a;have tl_:=AB xq'a ⟨_,_,_,_,_,_,_,_,_,_,_,_,_,lC'a⟩;obtain⟨aC'b,⟨_,_,_,_,_,_,_,_,_,_,_,_,lC'b⟩,ga'b,gh'b,sa'b,cl'b,kc'b⟩:=b'b;have eC'b:=dw aC'b;have xc'b:XC K C'b C'a:=⟨⟨_,_,_,_,_,_,_,_,_,_,_,_,_,lC'b⟩,ga'b,gh'b,sa'b,cl'b⟩
 obtain⟨_,_,_,_,_,_,_,_,_,_,xi'b,xt'b,xl'b,xc0'b,xk'b,xn'b⟩:=j'b;obtain⟨aC'c,⟨_,_,_,_,_,_,_,_,_,_,_,_,lC'c⟩,ga'c,gh'c,sa'c,cl'c,kc'c⟩:=b'c;have eC'c:=dw aC'c;have xc'c:XC K C'c C'a:=⟨⟨_,_,_,_,_,_,_,_,_,_,_,_,_,lC'c⟩,ga'c,gh'c,sa'c,cl'c⟩
 obtain⟨_,_,_,_,_,_,_,_,_,_,xi'c,xt'c,xl'c,xc0'c,xk'c,xn'c⟩:=j'c;obtain⟨aC'f,⟨_,_,_,_,_,_,_,_,_,_,_,_,lC'f⟩,ga'f,gh'f,sa'f,cl'f,kc'f⟩:=b'f;have eC'f:=dw aC'f;have xc'f:XC K C'f C'a:=⟨⟨_,_,_,_,_,_,_,_,_,_,_,_,_,lC'f⟩,ga'f,gh'f,sa'f,cl'f⟩
 obtain⟨_,_,_,_,_,_,_,_,_,_,xi'f,xt'f,xl'f,xc0'f,xk'f,xn'f⟩:=j'f;obtain⟨aC'n,⟨_,_,_,_,_,_,_,_,_,_,_,_,lC'n⟩,ga'n,gh'n,sa'n,cl'n,kc'n⟩:=b'n;have eC'n:=dw aC'n;have xc'n:XC K C'n C'a:=⟨⟨_,_,_,_,_,_,_,_,_,_,_,_,_,lC'n⟩,ga'n,gh'n,sa'n,cl'n⟩
 obtain⟨_,_,_,_,_,_,_,_,_,_,xi'n,xt'n,xl'n,xc0'n,xk'n,xn'n⟩:=j'n;obtain⟨aC'e,⟨_,_,_,_,_,_,_,_,_,_,_,_,lC'e⟩,ga'e,gh'e,sa'e,cl'e,kc'e⟩:=b'e;have eC'e:=dw aC'e;have xc'e:XC K C'e C'a:=⟨⟨_,_,_,_,_,_,_,_,_,_,_,_,_,lC'e⟩,ga'e,gh'e,sa'e,cl'e⟩
 obtain⟨aC'g,⟨_,_,_,_,_,_,_,_,_,_,_,_,lC'g⟩,ga'g,gh'g,sa'g,cl'g,kc'g⟩:=b'g;have eC'g:=dw aC'g;have xc'g:XC K C'g C'a:=⟨⟨_,_,_,_,_,_,_,_,_,_,_,_,_,lC'g⟩,ga'g,gh'g,sa'g,cl'g⟩
 obtain⟨aC'o,⟨_,_,_,_,_,_,_,_,_,_,_,_,lC'o⟩,ga'o,gh'o,sa'o,cl'o,kc'o⟩:=b'o;have eC'o:=dw aC'o;have xc'o:XC K C'o C'a:=⟨⟨_,_,_,_,_,_,_,_,_,_,_,_,_,lC'o⟩,ga'o,gh'o,sa'o,cl'o⟩
 have TX:TxX K mg:=⟨⟨by rw [XCl,eC'a];exact⟨_,_,_,lC'a,rfl⟩,λc hc=>by
  simp only [xcs,mem_cons,not_mem_nil,or_false] at hc
  rcases hc with rfl|rfl|rfl|rfl|rfl|rfl|rfl
  .rw [XCl,eC'b];exact⟨_,_,_,lC'b,rfl⟩
  .rw [XCl,eC'c];exact⟨_,_,_,lC'c,rfl⟩
  .rw [XCl,eC'f];exact⟨_,_,_,lC'f,rfl⟩
  .rw [XCl,eC'n];exact⟨_,_,_,lC'n,rfl⟩
  .rw [XCl,eC'e];exact⟨_,_,_,lC'e,rfl⟩
  .rw [XCl,eC'g];exact⟨_,_,_,lC'g,rfl⟩
  .rw [XCl,eC'o];exact⟨_,_,_,lC'o,rfl⟩,λc hc=>by
  simp only [xcs,mem_cons,not_mem_nil,or_false] at hc
  rcases hc with rfl|rfl|rfl|rfl|rfl|rfl|rfl
  .rw [eC'b,eC'a];exact xc'b
  .rw [eC'c,eC'a];exact xc'c
  .rw [eC'f,eC'a];exact xc'f
  .rw [eC'n,eC'a];exact xc'n
  .rw [eC'e,eC'a];exact xc'e
  .rw [eC'g,eC'a];exact xc'g
  .rw [eC'o,eC'a];exact xc'o⟩,λc g hc=>by
  simp only [GC,mem_cons,not_mem_nil,or_false,JT] at hc
  rcases hc with ⟨rfl,rfl⟩|⟨rfl,rfl⟩|⟨rfl,rfl⟩|⟨rfl,rfl⟩
  .rw [eC'b];exact xn'b
  .rw [eC'c];exact xn'c
  .rw [eC'f];exact xn'f
  .rw [eC'n];exact xn'n,by rw [eC'b];exact Hr X G aC'b,by rw [eC'c];exact Hr X G aC'c,by rw [eC'f];exact Hr X G aC'f,by rw [eC'n];exact Hr X G aC'n,by rw [eC'e];exact Hr X G aC'e,by rw [eC'g];exact Hr X G aC'g,by rw [eC'o];exact Hr X G aC'o,by rw [eC'a];exact Hr X G aC'a,by rw [eC'b];exact⟨_,_,_,_,_,_,_,_,_,_,_,_,_,_,_,_,_,lC'b,rfl⟩,by rw [eC'c];exact⟨_,_,_,_,_,_,_,_,_,_,_,_,_,_,_,_,_,lC'c,rfl⟩,by rw [eC'f];exact⟨_,_,_,_,_,_,_,_,_,_,_,_,_,_,_,_,_,lC'f,rfl⟩,by rw [eC'n];exact⟨_,_,_,_,_,_,_,_,_,_,_,_,_,_,_,_,_,lC'n,rfl⟩,by rw [eC'e];exact⟨_,_,_,_,_,_,_,_,_,_,_,_,_,_,_,_,_,lC'e,rfl⟩,by rw [eC'g];exact⟨_,_,_,_,_,_,_,_,_,_,_,_,_,_,_,_,_,lC'g,rfl⟩,by rw [eC'o];exact⟨_,_,_,_,_,_,_,_,_,_,_,_,_,_,_,_,_,lC'o,rfl⟩,by rw [eC'a];exact⟨_,_,_,_,_,_,_,_,_,_,_,_,_,_,_,_,_,lC'a,rfl⟩,by rw [eC'e];exact yg xq'e,by rw [eC'e];exact kc'e,by rw [eC'g];exact yg xq'g,by rw [eC'g];exact kc'g,by rw [eC'o];exact yg xq'o,by rw [eC'o];exact kc'o⟩
 have D'0:=bo d1 X G;have D'1:=bo d2 X G;have D'5:r8 K mg "is_text" eU [.int 0,.int 4000]:=⟨⟨f3,dT3,oc3,od3,an3,dd3,kV3,dc3,pm3,cd3,ct3,sl3,st3,[.int 0 u3_0,.int 4000 u3_1],n3,l3,c3,k3,Hr X G a3,t3,(.cons ⟨_,rfl⟩ (.cons ⟨_,rfl⟩ .nil))⟩⟩
 have D'6:=bo d4 X G;have D'7:=bo d5 X G;have D'13:=bo d7 X G;have D'20:se K (aI K "Family") "many" "Family.many" bM:=by rw [eC_Family];exact⟨⟨f8,_,ku (st:=bM) l8 c8 k8,⟨a8,i8,k8⟩⟩⟩
 have D'21:=bo d9 X G;have D'22:=bo d10 X G;have D'27:=bo d11 X G;have D'29:=bo d12 X G;have D'2:=bo d13 X G;have D'11:=bo d14 X G;have D'14:=bo d15 X G;have D'15:=bo d16 X G;have D'16:=bo d17 X G;have D'23:=bo d18 X G;have D'24:=bo d19 X G;have D'25:=bo d20 X G;have D'28:=bo d21 X G;have D'30:=bo d22 X G
 have D'31:=bo d23 X G;have D'32:=bo d24 X G;have D'3:=bo d25 X G;have D'17:=bo d26 X G;have D'18:=bo d27 X G;have D'26:=bo d28 X G;have D'4:=bo d29 X G;have D'19:sg K mg (aI K "Family") "Family" "Family.__init__" bK:=by rw [eC_Family];exact⟨⟨f30,_,ku (st:=bK) l30 c30 k30,⟨mk_Family,a30,i30,kc_Family⟩,Hr X G aC_Family⟩⟩
 have D'8:=bo d31 X G;have D'9:=bo d32 X G;have D'12:=bo d33 X G;have D'33:=bo d34 X G;have D'34:=bo d35 X G;have D'35:=bo d36 X G;have D'36:=bo d37 X G;have D'10:bh K mg "digits" jt:=D'11;have T:Txt mg:=⟨z_ X G z1,z_ X G z2,z_ X G z3,z_ X G z4,z_ X G z5,z_ X G z6,z_ X G z7,z_ X G z8,z_ X G z9,z_ X G z10,z_ X G z11,z_ X G z12,z_ X G z13,z_ X G z14,z_ X G z15,z_ X G z16,z_ X G z17,⟨_,Hr X G y1⟩,⟨_,Hr X G y2⟩⟩
 refine B1 (st:=yv) hfa D'36 (λ_ _ _ _ _ _ s v=>.of_eq rfl) λbase=>?_
 have C_TooMany_init:C5 l.prog w K mg base 1 (aI K "TooMany") "TooMany" "most":=by
  rw [eC'b];exact n6 (ku (st:=eG) xl'b xc0'b xk'b) k9 rfl (λ_ _ _ _ _ _ us hl=>match us,hl with|[_,_],_=>rfl) (λcdv A outer s H E=>ap (ke K rfl (pv 0) (pv 1) rfl)) ⟨xc'b,tl_,xi'b,xt'b,kc'b⟩ xn'b (Hr X G aC'b)
 have C_NoPiece_init:C5 l.prog w K mg base 1 (aI K "NoPiece") "NoPiece" "at":=by
  rw [eC'c];exact n6 (ku (st:=eH) xl'c xc0'c xk'c) la rfl (λ_ _ _ _ _ _ us hl=>match us,hl with|[_,_],_=>rfl) (λcdv A outer s H E=>ap (ke K rfl (pv 0) (pv 1) rfl)) ⟨xc'c,tl_,xi'c,xt'c,kc'c⟩ xn'c (Hr X G aC'c)
 have C_NotHeld_init:C5 l.prog w K mg base 1 (aI K "NotHeld") "NotHeld" "at":=by
  rw [eC'f];exact n6 (ku (st:=eI) xl'f xc0'f xk'f) lb rfl (λ_ _ _ _ _ _ us hl=>match us,hl with|[_,_],_=>rfl) (λcdv A outer s H E=>ap (ke K rfl (pv 0) (pv 1) rfl)) ⟨xc'f,tl_,xi'f,xt'f,kc'f⟩ xn'f (Hr X G aC'f)
 have C_NoLine_init:C5 l.prog w K mg base 1 (aI K "NoLine") "NoLine" "at":=by
  rw [eC'n];exact n6 (ku (st:=fH) xl'n xc0'n xk'n) lX rfl (λ_ _ _ _ _ _ us hl=>match us,hl with|[_,_],_=>rfl) (λcdv A outer s H E=>ap (ke K rfl (pv 0) (pv 1) rfl)) ⟨xc'n,tl_,xi'n,xt'n,kc'n⟩ xn'n (Hr X G aC'n)
 have C'0:=w6 l.prog w base D'0 T TC TX;have C'1:=ql l.prog w base D'1 T TC TX;have C'5:=ue l.prog w base D'5 T TC TX;have C'6:=ml l.prog w base D'6 T TC TX;have C'7:=mn l.prog w base D'7 T TC TX;have C'10:=rE l.prog w base D'10 T TC TX;have C'13:=DU l.prog w base D'13 T TC TX;have C'20:=mr l.prog w base D'20 T TC TX
 have C'21:=oH l.prog w base D'21 T TC TX;have C'22:=rJ l.prog w base D'22 T TC TX;have C'27:=mx l.prog w base D'27 T TC TX;have C'29:=uh l.prog w base D'29 T TC TX;have C'2:=mj l.prog w base D'2 T TC TX C'1 C'0;have C'11:=xb l.prog w base D'11 T TC TX C'10;have C'14:=rG l.prog w base D'14 T TC TX C'13
 have C'15:=lG l.prog w base D'15 T TC TX C'5;have C'16:=j9 l.prog w base D'16 T TC TX C'6;have C'23:=mw l.prog w base D'23 T TC TX C'22;have C'24:=rK l.prog w base D'24 T TC TX C'22;have C'25:=ug l.prog w base D'25 T TC TX C'22;have C'28:=rL l.prog w base D'28 T TC TX C'27
 have C'30:=oK l.prog w base D'30 T TC TX C'29 C'22;have C'31:=qo l.prog w base D'31 T TC TX C'29;have C'32:=rM l.prog w base D'32 T TC TX C'22;have C'3:=oG l.prog w base D'3 T TC TX C'2;have C'17:=uf l.prog w base D'17 T TC TX C'16;have C'18:=rH l.prog w base D'18 T TC TX C'6 C'16
 have C'26:=oJ l.prog w base D'26 T TC TX C'25 C'23 C'22 C'24;have C'4:=jM l.prog w base D'4 T TC TX C'3 C'0;have C'19:=mq l.prog w base D'19 T TC TX C'14 C'15 C'17 C'18;have C'8:=qm l.prog w base D'8 T TC TX C'4;have C'9:=mo l.prog w base D'9 T TC TX C'20 C'7 C'8
 have C'12:=rF l.prog w base D'12 T TC TX C'11 C'9;have C'33:=lH l.prog w base D'33 T TC TX C'12;have C'34:=rN l.prog w base D'34 T TC TX C'33 C'31 C'12;have C'35:=ui l.prog w base D'35 T TC TX C'19 C'32 C'28 C'33 C'26 C'30 C'22 C'34;exact (DW l.prog w base D'36 T TC TX C'19 C'35 C'21 C'12).imp λ_ _ _ _ h=>Ah h
end K69

open PySem PySem.W PyProof.Rows
local macro_rules | `(tactic| walk_at "fn") => `(tactic| (refine' L2.Dw ?a ?l ?c ?k; (case a => k_is); (case l => k_is); (case c => k_is); (case k => k_is)))
local macro_rules | `(tactic| walk_at "xi") => `(tactic| (refine' L2.FE ?a ?l ?g ?h ?s ?c ?k; (case a => k_is); (case l => k_is); (case g => k_is); (case h => k_is); (case s => k_is); (case c => k_is); (case k => k_is)))
local macro_rules | `(tactic| walk_at "xj") => `(tactic| (refine' L2.FF ?i ?t ?l ?c ?k ?n; (case i => k_is); (case t => k_is); (case l => k_is); (case c => k_is); (case k => k_is); (case n => k_is)))
set_option maxRecDepth 100000 in
set_option maxHeartbeats 0 in
theorem PySem.Challenge.cw_shortglue_k69_why_rows_holds : PySem.Challenge.rw_shortglue_k69_why_rows.Holds := by
  refine topHd ?_
  k_fill
  refine L2.B2 (l := PySem.Challenge.rw_shortglue_k69_why_rows) (k := 11) (x := "_law_script") rfl rfl ⟨rfl, by decide, by decide⟩ (fun w h Y => PySem.W.kIn_of Y) ?F
  case F =>
    intro w mg fa h KX G hmg
    refine' K69.DX KX G hmg ?aC_Family ?pg_Family ?hd_Family ?po_Family ?sa_Family ?mk_Family ?kc_Family ?n_Family_pieces ?n_Family_kept ?n_Family_words ?n_Family_left ?n_Family_laps ?n_Family_total ?aC'a ?lC'a ?xq'a ?b'b ?j'b ?b'c ?j'c ?b'f ?j'f ?b'n ?j'n ?b'e ?xq'e ?b'g ?xq'g ?b'o ?xq'o ?d1 ?d2 ?a3 ?l3 ?c3 ?k3 ?t3 ?d4 ?d5 ?d7 ?a8 ?i8 ?l8 ?c8 ?k8 ?d9 ?d10 ?d11 ?d12 ?d13 ?d14 ?d15 ?d16 ?d17 ?d18 ?d19 ?d20 ?d21 ?d22 ?d23 ?d24 ?d25 ?d26 ?d27 ?d28 ?d29 ?a30 ?i30 ?l30 ?c30 ?k30 ?d31 ?d32 ?d33 ?d34 ?d35 ?d36 ?d37 ?z1 ?z2 ?z3 ?z4 ?z5 ?z6 ?z7 ?z8 ?z9 ?z10 ?z11 ?z12 ?z13 ?z14 ?z15 ?z16 ?z17 ?y1 ?y2
    (case aC_Family => k_is)
    (case pg_Family => k_is)
    (case hd_Family => k_is)
    (case po_Family => k_is)
    (case sa_Family => k_is)
    (case mk_Family => k_is)
    (case kc_Family => k_is)
    (case n_Family_pieces => k_is)
    (case n_Family_kept => k_is)
    (case n_Family_words => k_is)
    (case n_Family_left => k_is)
    (case n_Family_laps => k_is)
    (case n_Family_total => k_is)
    (case aC'a => k_is)
    (case lC'a => k_is)
    (case xq'a => k_exc)
    (case b'b => walk_at "xi")
    (case j'b => walk_at "xj")
    (case b'c => walk_at "xi")
    (case j'c => walk_at "xj")
    (case b'f => walk_at "xi")
    (case j'f => walk_at "xj")
    (case b'n => walk_at "xi")
    (case j'n => walk_at "xj")
    (case b'e => walk_at "xi")
    (case xq'e => k_exc)
    (case b'g => walk_at "xi")
    (case xq'g => k_exc)
    (case b'o => walk_at "xi")
    (case xq'o => k_exc)
    (case d1 => walk_at "fn")
    (case d2 => walk_at "fn")
    (case a3 => k_is)
    (case l3 => k_is)
    (case c3 => k_is)
    (case k3 => k_is)
    (case t3 => k_is)
    (case d4 => walk_at "fn")
    (case d5 => walk_at "fn")
    (case d7 => walk_at "fn")
    (case a8 => k_is)
    (case i8 => k_is)
    (case l8 => k_is)
    (case c8 => k_is)
    (case k8 => k_is)
    (case d9 => walk_at "fn")
    (case d10 => walk_at "fn")
    (case d11 => walk_at "fn")
    (case d12 => walk_at "fn")
    (case d13 => walk_at "fn")
    (case d14 => walk_at "fn")
    (case d15 => walk_at "fn")
    (case d16 => walk_at "fn")
    (case d17 => walk_at "fn")
    (case d18 => walk_at "fn")
    (case d19 => walk_at "fn")
    (case d20 => walk_at "fn")
    (case d21 => walk_at "fn")
    (case d22 => walk_at "fn")
    (case d23 => walk_at "fn")
    (case d24 => walk_at "fn")
    (case d25 => walk_at "fn")
    (case d26 => walk_at "fn")
    (case d27 => walk_at "fn")
    (case d28 => walk_at "fn")
    (case d29 => walk_at "fn")
    (case a30 => k_is)
    (case i30 => k_is)
    (case l30 => k_is)
    (case c30 => k_is)
    (case k30 => k_is)
    (case d31 => walk_at "fn")
    (case d32 => walk_at "fn")
    (case d33 => walk_at "fn")
    (case d34 => walk_at "fn")
    (case d35 => walk_at "fn")
    (case d36 => walk_at "fn")
    (case d37 => walk_at "fn")
    (case z1 => k_is)
    (case z2 => k_is)
    (case z3 => k_is)
    (case z4 => k_is)
    (case z5 => k_is)
    (case z6 => k_is)
    (case z7 => k_is)
    (case z8 => k_is)
    (case z9 => k_is)
    (case z10 => k_is)
    (case z11 => k_is)
    (case z12 => k_is)
    (case z13 => k_is)
    (case z14 => k_is)
    (case z15 => k_is)
    (case z16 => k_is)
    (case z17 => k_is)
    (case y1 => k_is)
    (case y2 => k_is)
