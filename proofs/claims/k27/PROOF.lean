import PyProof.Rows.All
import Wide.All
import OpenK.AllK
import Wide.FinOn
import Lean
import PyProof.EqAt
import PyProof.EqKinds
import PyProof.TupleCall
import KE.KSortTup
import PyProof.FString
import PyProof.StrBlock
import KE.KRevSl
import PyProof.StrLawsReplace
import PyProof.StrCalls6
import PyProof.MinMaxWalk
import PyProof.WalkInts
import PyProof.NeKinds
import KE.KEqDict
import PyProof.Rows.SumAny
import KE.KMinKey
import PyProof.Rows.CallKwBuiltin
import KE.KIntText
import KE.KDictList
import PySem.Challenge.RW_shortglue_k27_whole_best_pairing
set_option Elab.async false
set_option linter.all false
set_option maxRecDepth 100000
set_option bootstrap.genMatcherCode false
set_option compiler.extract_closed false
open List (all_cons all_eq_true all_flatMap all_map any_cons any_eq_false any_eq_true any_flatMap any_map append_assoc append_eq_append_iff append_nil append_of_mem append_toArray cons_append contains_cons contains_iff_mem countP_cons dropLast_concat dropLast_concat_getLast dropLast_eq_take drop_eq_getElem_cons drop_zero eq_of_mem_replicate eraseIdxIfInBounds_toArray eraseIdx_cons_succ eraseIdx_eq_take_drop_succ ext_getElem ext_getElem? extract_eq_take_drop extract_toArray filterMap_append filterMap_cons filterMap_eq_map filterMap_map filter_congr filter_cons filter_eq_nil_iff filter_map find?_cons find?_cons_of_neg find?_cons_of_pos find?_map flatMap_append flatMap_cons flatMap_nil flatten_cons foldl_append foldl_cons forIn_cons forIn_nil getD_eq_getElem?_getD getElem?_append_left getElem?_append_right getElem?_cons_succ getElem?_eq_getElem getElem?_eq_none getElem?_map getElem?_of_mem getElem?_range getElem?_replicate getElem?_reverse getElem?_set getElem?_set_ne getElem?_set_self getElem?_take_of_lt getElem?_toArray getElem?_zip_eq_some getElem_cons_drop getElem_idxOf getElem_inj getElem_map getElem_mem getElem_of_mem getElem_range getLast?_append getLastD_eq_getLast? idxOf_lt_length_of_mem length_append length_cons length_dropLast length_eq_zero_iff length_eraseIdx length_erase_of_mem length_filter_le length_flatten length_map length_nil length_pos_iff length_range length_replicate length_reverse length_set length_singleton length_take lookup_append lookup_cons map_append map_congr_left map_cons map_drop map_eq_nil_iff map_flatMap map_id map_map map_nil map_replicate map_reverse map_set map_take mem_append mem_append_left mem_append_right mem_cons mem_cons_of_mem mem_cons_self mem_erase_of_ne mem_filter mem_filterMap mem_map mem_map_of_mem mem_of_getElem? mem_of_mem_erase mem_of_mem_take mem_or_eq_of_mem_set mem_range mem_range'_1 mem_replicate mem_reverse mem_singleton ne_nil_of_length_pos nil_append nodup_append nodup_cons nodup_nil nodup_range not_all_eq_any_not not_mem_nil of_mem_zip pairwise_lt_range pairwise_map perm_append_comm perm_append_singleton perm_cons_erase range_succ range_succ_eq_map replicate_succ reverse_cons set_comm set_cons_succ set_cons_zero size_toArray sum_append sum_cons sum_nil sum_replicate_nat tail_cons take_add_one take_append_drop take_length take_of_length_le take_sublist take_succ_cons take_zero zip_cons_cons zip_nil_left zip_nil_right)
open Nat (add_comm add_le_add_left le_add_right le_antisymm le_of_ble_eq_true le_of_eq le_of_not_lt le_of_succ_le le_succ le_trans log2_lt lt_irrefl lt_of_le_of_lt lt_or_ge lt_succ_of_lt lt_succ_self max_le mul_comm mul_le_mul_right ne_of_gt ne_of_lt not_lt not_lt_zero not_succ_le_self pow_le_pow_left pow_le_pow_right pow_succ sub_self succ_le_succ succ_mul succ_ne_self zero_le)
open Int (ediv_one emod_lt_of_pos emod_nonneg fdiv_eq_ediv_of_nonneg fmod_eq_emod_of_nonneg le_ediv_of_mul_le mul_le_mul_of_nonneg_left mul_nonneg mul_one mul_zero natCast_nonneg not_le sub_zero toNat_natCast)
open Bool (and_eq_true and_eq_true_iff beq_eq_decide_eq eq_false_iff false_eq_true not_eq_true not_not or_eq_true)
local macro_rules | `(tactic| walk_at "o")=>`(tactic| first | exact Or.inl rfl | exact Or.inr rfl | exact Or.inr (Or.inl rfl) | exact Or.inr (Or.inr rfl))
set_option maxHeartbeats 4000000
noncomputable section
open And renaming intro→Hr
open Array renaming getElem?_eq_some_iff→IF,getElem?_toList→JS,length_toList→HD,mk→IZ,toList→Lx
open Bool renaming and_false→Ih,eq_iff_iff→II,false_and→Hn,false_ne_true→m_,false_or→J1,not_eq_true'→KJ,or_false→KL,or_true→K9,true_and→Hi
open Classical renaming byContradiction→Kz
open False renaming elim→HB
open ForInStep renaming yield→HS
open Int renaming emod_lt_of_pos→HY,emod_nonneg→Iw,le_refl→Iv,natCast_nonneg→Lq,toNat→Jp,zero_add→K8
open List renaming Nodup→Ho,append_assoc→Io,append_nil→HK,contains_iff_mem→t_,countP_cons→Lo,ext_getElem?→Ki,filterMap_cons→Jd,find?_cons→IW,foldl→Lv,getD_eq_getElem?_getD→e_,getElem?_append_left→Je,getElem?_append_right→IG,getElem?_cons_succ→IX,getElem?_eq_getElem→d_,getElem?_eq_none→z_,getElem?_eq_some_iff→h_,getElem?_map→i_,getElem?_of_mem→Ld,getElem?_range→IE,getElem?_set_ne→j_,getElem?_set_self→n_,getElem_mem→Iu,getElem_of_mem→IT,length_eq_zero_iff→IC,length_pos_iff→Lp,length_reverse→Lj,length_take→KE,length→KC,lookup_cons→Ir,lookup→Ln,map_congr_left→IU,map_map→Hz,mem_append_left→Hm,mem_append_right→r_,mem_append→HA,mem_cons_of_mem→q_,mem_filterMap→IM,mem_filter→Ko,mem_map_of_mem→Ll,mem_map→Hx,mem_of_getElem?→B_,mem_range→Hl,mem_singleton→vx,nodup_append→JQ,nodup_cons→Iz,range_succ→Kw,range→gV,replicate→u_,reverse_cons→K3,take_add_one→Jo
open List.Pairwise renaming imp_of_mem→KQ
open List.Perm renaming eq_of_pairwise→KM
open Nat renaming ble→Jw,le_of_ble_eq_true→IL,le_of_eq→KU,le_of_lt→IV,le_of_succ_le→JZ,le_refl→g_,le_trans→HP,lt_irrefl→HN,lt_of_lt_of_le→s_,lt_succ_of_lt→JY,lt_succ_self→HX,mul_le_mul_right→Jl,mul_le_mul→JR,ne_of_gt→Kq,ne_of_lt→Hj,not_lt_zero→HZ,zero_add→Kj,zero_le→Jm
open Ne renaming symm→HL
open Option renaming isSome_iff_exists→IP,isSome_map→KI,map_eq_some_iff→Il,map_some→Lc,map→Lw
open Option.some renaming inj→we
open Or renaming inl→Iq,inr→Jb
open Prod renaming fst→v_,snd→Hv
open Prod.mk renaming injEq→JX
open PyProof.Rows renaming AllBare→Kf,IntsAre→Jk,assignInOrder_cons→Jy,boot_isinstance→y_,boot_list→Jn,boot_tuple→IY,callWith_type1→HG
open PySem renaming Around→w_,BindsTo→KB,Builtin→JG,DictEntry→KR,ExceptHandler→Jv,FuncData→H_,GenState→Kn,NameKind→HW,OsState→Jc,Params→Km,Program→so,PyData→JA,Shared→c_,boot_len→A_,call_meets→K4,codeAny_builtin→I_,codeAny_call_builtin→J6,codeAny_mono→Kg,concat_meets→KZ,mem_of_lookup→IR,noFill_tuple_add→KS,plainId_quiet→J0,pushCells_keeps→J9,seqIndex_neg→K0,seqIndex_of→Li,sizeLine_eq→J5,tupleKind_room_in1→Kv,wpAny_Call_Name_kw→Iy,wpAny_bindName→Kx,wpAny_bind→cy,wpAny_callSpecial?_slot→JE,wpAny_call_entry→JV,wpAny_call→KY,wpAny_execs_nil→J8,wpAny_field→IJ,wpAny_holding→Hu,wpAny_isSubtype_exc→Ik,wpAny_letGo→KF,wpAny_loadPart_at→HM,wpAny_mono→E_,wpAny_newFunctionEnv_cells→Ks,wpAny_newObj_type→Ii,wpAny_of_eq→KG,wpAny_passesOwn→IH,wpAny_pure→l_,wpAny_pyIter_list→IK,wpAny_pyIter_tuple→Kt,wpAny_seqItems→Jg,wpAny_setField→JN,wpAny_specialOf→J_,wpAny_standAt→HI,wpAny_truthy_bool→HV,wpAny_tryCatch→Ky,wpAny_typeOf_ref→JW,wpAny_updateSeq→Ka
open PySem.Around renaming under_plainId→J7
open PySem.AutoSeq1 renaming wpAny_loadPart'→IQ
open PySem.Bind renaming checkArgs→Ji
open PySem.Builtin.Builtins renaming bindParams→Kl
open PySem.Builtin.List renaming listExtendWith→HH,listLengthHint→Kh,listTooLong→Js
open PySem.Builtin.Range renaming rangeSize→IS,small→Kc
open PySem.Builtin.SmallTypes renaming nextOf→HJ
open PySem.Builtin.Str renaming occurrences→JF,subAt→KH
open PySem.Calls renaming Name_function_global→Kp,callWith_builtin→JM,spliced_cons→Jz,spliced_nil→JK
open PySem.F renaming args_tuple_add_2→Jr,entry_tuple_add→JD,plainAttrs_list→Hs,slot_dict_pop→Le,slot_gs_get→Ke,slot_list_append→HQ,slot_list_pop→Lf,slot_tuple_add→JL,store_ValueError→KN,typeOf_object_class→Kk,type_list_append→HR,type_list_pop→Lg
open PySem.Heap renaming ExtBut→Lk,SameBut→JH,get?_push_of_some→f_,get?_push_size→p_,get?_update_ne→Ij,get?_update_other→HC,get?_update_self→HF,lt_size→k_,size_push→ID
open PySem.Manifest renaming signature?→Jq
open PySem.NameKind renaming cell→Ja,free→Ju
open PySem.Obj renaming data_mapFields→JB,isFreed_of_fields→JT,mapFields→KP,mapSeq→IB
open PySem.PassesOwn renaming never→G_
open PySem.PyData renaming canLay0→Ku,canLayAll0→JO,depthAll→Jx,depth→K7,eqvAll→Jt,eqv→Jf,int→K5,weightAll→KW
open PySem.SeqAt renaming shaped→Ie
open PySem.Str renaming ofString→K6
open PySem.StrLaws renaming occBody→Kb
open PySem.Value renaming bool→Ia,builtin→KO,int→JU,none→HE,ref→o_,str→JC,type→Ib
open PySem.Value.ref renaming inj→J3
open PySem.W renaming Frag→b_,OpenLaw→Lb,boot_heap→Hk,callWith_K→Kr,cellsFrom_some→Im,clsIn→J4,codeIn→IA,excIn→Ig,findIn→tf,fnOf→Hw,instObj→K_,keepIn→C_,kia_one→Hy,kitAny→JP,kitOne→Ht,kitx_dict→JJ,kitx_list→JI,lookIn→Lh,looks_findIn→Jh,methodObj→KA,mg_none_of→F_,mg_of→x_,mroIn→Ls,nsIn→D_,subIn→Lu,typeIn→Jj
open Sum renaming inl→Ic,inr→Lr
open True renaming intro→HU
namespace L2
open PySem PySem.W
noncomputable def j4(tb:String->Option JG)(p:so)(w:World)(n₀:Nat)(ann:Option Value):Nat->SharedT->Thread->Option SharedT
 | 0,_,_=>none
 | n+1,s,t=>match through t with
  | true=>some s
  | false=>match stepOk n₀ ann t with
   | false=>none
   | true=>match stepT (denote tb) p w s t with
    | some (s',t')=>j4 tb p w n₀ ann n s' t'
    | none=>none
theorem j5{tb:String->Option JG}{p:so}{w:World}{n₀:Nat}{ann:Option Value}:∀{n:Nat}{s s':SharedT}{t:Thread},j4 tb p w n₀ ann n s t=some s'->topRun tb p w n₀ ann n s.abs t=some s'.abs
 | 0,_,_,_,h=>by cases h
 | n+1,s,s',t,h=>by
  unfold j4 at h;unfold topRun
  cases he:through t with
  | true=>rw [he] at h;cases h;rfl
  | false =>
   rw [he] at h
   cases hk:stepOk n₀ ann t with
   | false=>rw [hk] at h;cases h
   | true =>
    rw [hk] at h
    cases hs:stepT (denote tb) p w s t with
    | none=>rw [hs] at h;cases h
    | some r=>obtain⟨s₂,t₂⟩:=r;rw [hs] at h;rw [stepT_spec hs];exact j5 h
noncomputable def qT:List Obj->Nat->BT->BT
 | [],_,t=>t
 | o::r,i,t=>qT r (i+1) (t.ins i o)
noncomputable def ze(P:Km):BT:=qT (Hk P).objs.toList 0 .nil
theorem wC:∀P,absHeap (ze P) (Hk P).objs.size (Hk P).life=Hk P:=λP=>by kernel_rfl
theorem FO{p q:so}{loose:List Str}{Xt:c_->Bool}{α:Type}{Yf:c_->α}{Ya:World->α}{N:Nat}{g0:Bool}{m₀:Nat}{ann:Option Value}
  (e:opening p=plainProg p.main.scope.names) (hN:Jw 600 N=true) (f:∀s,fenceModules? p s=some s)
  (size:∀w:World,((Hk w.params).isNs mainGlobals && (IZ []:Array Kn).size == 0,(Hk w.params).objs.size,(Hk w.params).nsMap mainGlobals "__annotations__")=(true,m₀,ann))
  (run:∀(w:World) (os:Jc),(j4 treeTable p w m₀ ann N ⟨ze w.params,m₀,(Hk w.params).life,IZ [],boot_drawn,boot_toks,os⟩ (topStub p)).map (λsT=>((staticsOk (importedModules p.main.body) (Hk w.params) sT.abs.heap && namesBound p sT.abs.heap && gensDone sT.abs && laidKept (Hk w.params) sT.abs.heap),openSeen q loose (importedModules p.main.body) Xt g0 sT.abs,Yf sT.abs))=some (true,openGood q loose,Ya w)):LeftO p q loose Xt Yf Ya N g0:=λw=>by
 obtain⟨⟨h,gs,d,k,os⟩,e,e'⟩:=Il.mp (boot_open e hN f w);obtain⟨rfl,rfl,rfl,rfl⟩:h=Hk w.params/\gs=IZ []/\d=boot_drawn/\k=boot_toks:=by simpa using e'
 obtain⟨z1,z2,z3⟩:_/\_/\_:=by simpa only [JX] using size w
 obtain⟨sT,r,l⟩:=Il.mp (run w os);obtain⟨l1,l2,l3⟩:_/\_/\_:=by simpa only [JX] using l
 have r:=j5 r
 rw [show SharedT.abs ⟨ze w.params,m₀,(Hk w.params).life,IZ [],boot_drawn,boot_toks,os⟩=⟨Hk w.params,IZ [],boot_drawn,boot_toks,os⟩ by
  unfold SharedT.abs;dsimp only;rw [<- z2,wC]] at r
 have t:topFrom treeTable p w N ⟨Hk w.params,IZ [],boot_drawn,boot_toks,os⟩=some sT.abs:=by
  unfold topFrom;dsimp only;rw [z1,z2,z3,r];show (match staticsOk (importedModules p.main.body) (Hk w.params) sT.abs.heap && namesBound p sT.abs.heap && gensDone sT.abs && laidKept (Hk w.params) sT.abs.heap with|true=>_|false=>_)=_;rw [l1]
 unfold openEnds;rw [e];show (topFrom treeTable p w N _).map _=_;rw [t];exact congrArg some (Prod.ext l2 l3)
end L2
namespace L2
open PySem PySem.W
theorem zf{p q:so}{loose:List Str}{Xt:c_->Bool}{α:Type}{Yf:c_->α}{Ya:World->α}{N:Nat}{g0:Bool}{m₀:Nat}{ann:Option Value}{l rest:List Stmt}{env:Env}{c:Code}{qp pa pb p1:Pos}{n0 nb n1 n2:Nat}{SA S1:World->Jc->SharedT}
  (e:opening p=plainProg p.main.scope.names) (hN:Jw 600 N=true) (f:∀s,fenceModules? p s=some s)
  (size:∀w:World,((Hk w.params).isNs mainGlobals && (IZ []:Array Kn).size == 0,(Hk w.params).objs.size,(Hk w.params).nsMap mainGlobals "__annotations__")=(true,m₀,ann))
  (pre:∀(w:World) (os:Jc),topGo treeTable p w m₀ ann n0 ⟨Hk w.params,IZ [],boot_drawn,boot_toks,os⟩ (topStub p)=some ((SA w os).abs,⟨denote treeTable (.body (l++rest) env),c,pa,[topFrame qp]⟩))
  (blk:∀(w:World) (os:Jc),segRun treeTable p w m₀ ann 1 nb (SA w os).abs (blockOf (l++rest) env c pa [topFrame qp])=some (.next,(SA w os).abs,c,pb))
  (one:∀(w:World) (os:Jc),segRunT treeTable p w m₀ ann 1 n1 (SA w os) (piecesOf l env c pb [topFrame qp])=some (.next,S1 w os,c,p1))
  (hn:N=n0+(nb+(n1+n2)))
  (run:∀(w:World) (os:Jc),(j4 treeTable p w m₀ ann n2 (S1 w os) (restOf rest env c p1 [topFrame qp])).map (λsT=>((staticsOk (importedModules p.main.body) (Hk w.params) sT.abs.heap && namesBound p sT.abs.heap && gensDone sT.abs && laidKept (Hk w.params) sT.abs.heap),openSeen q loose (importedModules p.main.body) Xt g0 sT.abs,Yf sT.abs))=some (true,openGood q loose,Ya w)):LeftO p q loose Xt Yf Ya N g0:=λw=>by
 obtain⟨⟨h,gs,d,k,os⟩,e,e'⟩:=Il.mp (boot_open e hN f w);obtain⟨rfl,rfl,rfl,rfl⟩:h=Hk w.params/\gs=IZ []/\d=boot_drawn/\k=boot_toks:=by simpa using e'
 obtain⟨z1,z2,z3⟩:_/\_/\_:=by simpa only [JX] using size w
 obtain⟨sT,r,l⟩:=Il.mp (run w os);obtain⟨l1,l2,l3⟩:_/\_/\_:=by simpa only [JX] using l
 have r:=go_top (pre w os) (piece_block (blk w os) (piece_app (segRun_of (one w os)) (j5 r)));rw [<- hn] at r
 have t:topFrom treeTable p w N ⟨Hk w.params,IZ [],boot_drawn,boot_toks,os⟩=some sT.abs:=by
  unfold topFrom;dsimp only;rw [z1,z2,z3,r];show (match staticsOk (importedModules p.main.body) (Hk w.params) sT.abs.heap && namesBound p sT.abs.heap && gensDone sT.abs && laidKept (Hk w.params) sT.abs.heap with|true=>_|false=>_)=_;rw [l1]
 unfold openEnds;rw [e];show (topFrom treeTable p w N _).map _=_;rw [t];exact congrArg some (Prod.ext l2 l3)
noncomputable def zhE(P:Km)(x:Str)(t:Nat)(v:Value):KR:=⟨PyData.keyHash P x,.str x t,v⟩
noncomputable def zhT(xs:List Value):Obj:=⟨.type "tuple",none,.seq xs.toArray 0,#[]⟩
noncomputable def zhF(xs:List Value):Obj:=⟨.none,none,.fields xs.toArray,#[]⟩
noncomputable def zhD(es:List KR)(n:Nat):Obj:=⟨.type "dict",none,.dict es.toArray n,#[]⟩
noncomputable def zhG(c:Str)(xs:List Value):Obj:=⟨.type c.toString,none,.fields xs.toArray,#[]⟩
noncomputable def Bp(xs:List Obj):List (Nat×Obj)->List Obj
 | []=>xs
 | p::r=>Bp (xs.set p.1 p.2) r
noncomputable def zhM(p:so)(i j:Nat):Stmt:=match p.main.body.getD i (.Pass ⟨0,0,0,0⟩) with
 | .ClassDef _ _ _ body _ _ _ _ _ _ _=>body.getD j (.Pass ⟨0,0,0,0⟩)
 | s=>s
noncomputable def zhN(k:Value)(s:Stmt)(x q:Str)(g:Addr)(m c:Value):Obj:=match s with
 | .FunctionDef _ a b _ _ _ sc _ _ _=>⟨k,none,.func { name:=x,qualname:=q,params:=a,body:=.stmts b,scope:=sc,globals:=g,closure:=[],defaults:=.none,kwdefaults:=.none,pyModule:=m,code:=c },#[]⟩
 | _=>default
noncomputable def zhK(x q:Str)(t l n f e:Nat)(b:Bool)(j k r:Value)(u:Nat):Obj:=⟨.type "code",none,.fields #[.str x t,.str q (t+1),.str "/claim/cut.py" (t+2),.int l 0,.int n 0,.int 0 0,.int 0 0,.int f 0,.ref e,.bool b,.int 181 0,.ref (e+1),.none,j,k,r,.int u 0,.int l 0,.str "/claim/cut.py" (u+1)],#[]⟩
noncomputable def zhQ:Value:=.str "shortglue.errors" 187
noncomputable def zhU(P:Km)(x:Str)(a t l n:Nat)(es:List KR)(f:List Value):List Obj:=[zhT [.ref 24],zhG "builtin_function_or_method" [.builtin "type.__prepare__",.type "type"],zhD (zhE P "__module__" (t+7) zhQ::zhE P "__qualname__" (t+9) (.str x (t+8))::zhE P "__firstlineno__" (t+11) (.int l (t+10))::es) n,zhT [],zhF f,zhK x x (t+2) l 0 0 (a+3) false .none .none .none (t+5),⟨.type "frame",none,.plain,#[some (.ref (a+5)),some (.ref 3),some (.ref (a+2)),none,some zhQ,none,some (.ref 0)]⟩,zhT []]
noncomputable def zhV(P:Km)(x:Str)(a t l c:Nat)(es:List KR):List Obj:=[zhD (zhE P "__module__" (t+7) zhQ::zhE P "__firstlineno__" (t+11) (.int l (t+10))::es) 2,⟨.type "type",none,.cls { name:=x,bases:=[.ref 24],mro:=[.ref c,.ref 24,.type "ValueError",.type "Exception",.type "BaseException",.type "object"],ns:=c - 1,qualname:=x,hasDict:=true,slotNames:=[],subclasses:=[],abstract:=false,collection:=none,hasDel:=false },#[some (.ref a),none,some (.str x t),some (.str x (t+8)),some (.builtin "ValueError.__new__"),some (.bool true)]⟩,zhG "super" [.ref c,.ref c,.ref c],zhG "builtin_function_or_method" [.builtin "object.__init_subclass__",.ref c]]
noncomputable def zhX(P:Km)(x:Str)(a t l:Nat):List Obj:=zhU P x a t l 4 [zhE P "__static_attributes__" (t+12) (.ref (a+7))] []++zhV P x a t l (a+9) [zhE P "__static_attributes__" (t+12) (.ref (a+7)),zhE P "__doc__" (t+13) .none]
noncomputable def zhY(P:Km)(p:so)(x q f:Str)(i a t l:Nat):List Obj:=zhU P x a t l 5 [zhE P "__init__" (t+19) (.ref (a+13)),zhE P "__static_attributes__" (t+21) (.ref (a+14))] [.int (l+2:Nat) 0,.int 4 0,.ref (a+12)]++[zhF [],zhT [.str "self" (t+15),.str f (t+16)],zhT [],zhN .none (zhM p i 0) "__init__" q 0 .none .none,zhK "__init__" q (t+12) (l+2) 2 3 (a+7) true (.ref (a+9)) (.ref (a+10)) (.ref (a+11)) (t+17),zhN (.type "function") (zhM p i 0) "__init__" q 3 zhQ (.ref (a+12)),zhT [.str f (t+20)]]++zhV P x a t l (a+16) [zhE P "__init__" (t+19) (.ref (a+13)),zhE P "__static_attributes__" (t+21) (.ref (a+14)),zhE P "__doc__" (t+22) .none]
end L2
section
open PySem PySem.W PyProof.Rows L2
noncomputable def zzA(P:Km):BT:=qT ((Hk P).objs.toList++[zhT [],
  zhF [],
  ⟨(.type "code"),none,(.fields #[(.str "<module>" 182),(.str "<module>" 183),(.str "/claim/cut.py" 184),(.int (1) 0),(.int (0) 0),(.int (0) 0),(.int (0) 0),(.int (0) 0),(.ref 11),(.bool false),(.int (181) 0),(.ref 12),.none,.none,.none,.none,(.int (185) 0),(.int (1) 0),(.str "/claim/cut.py" 186)]),#[]⟩,
  ⟨(.type "frame"),none,.plain,#[(some (.ref 13)),(some (.ref 3)),(some (.ref 3)),none,(some (.str "__main__" 164)),none,(some (.ref 0))]⟩]) 0 .nil
noncomputable def zz1(P:Km):BT:=qT (Bp (Hk P).objs.toList [(3,zhD [zhE P "__name__" 165 (.str "shortglue.errors" 187),zhE P "__doc__" 166 .none,zhE P "__package__" 167 .none,zhE P "__loader__" 168 (.builtin "__main__.__loader__#opaque"),zhE P "__spec__" 169 .none,zhE P "__annotations__" 170 (.ref 6),zhE P "__builtins__" 171 (.ref 4),zhE P "__file__" 173 (.str "/claim/cut.py" 172),zhE P "__cached__" 174 .none,zhE P "GlueError" 206 (.ref 24),zhE P "TooMany" 231 (.ref 44),zhE P "NoPiece" 256 (.ref 63),zhE P "NoLap" 281 (.ref 82),zhE P "NoOrder" 297 (.ref 94),zhE P "NotHeld" 322 (.ref 113),zhE P "NoTable" 338 (.ref 125),zhE P "NoRing" 354 (.ref 137)] 17)]++[zhT [],
  zhF [(.int (2) 0),(.int (0) 0),(.ref 20),(.int (4) 0),(.int (0) 0),(.ref 33),(.int (8) 0),(.int (0) 0),(.ref 52),(.int (12) 0),(.int (0) 0),(.ref 71),(.int (16) 0),(.int (0) 0),(.ref 90),(.int (18) 0),(.int (0) 0),(.ref 102),(.int (22) 0),(.int (0) 0),(.ref 121),(.int (24) 0),(.int (0) 0),(.ref 133)],
  ⟨(.type "code"),none,(.fields #[(.str "<module>" 182),(.str "<module>" 183),(.str "/claim/cut.py" 184),(.int (1) 0),(.int (0) 0),(.int (0) 0),(.int (0) 0),(.int (0) 0),(.ref 11),(.bool false),(.int (181) 0),(.ref 12),.none,.none,.none,.none,(.int (185) 0),(.int (1) 0),(.str "/claim/cut.py" 186)]),#[]⟩,
  ⟨(.type "frame"),none,.plain,#[(some (.ref 13)),(some (.ref 3)),(some (.ref 3)),none,(some (.str "__main__" 164)),none,(some (.ref 0))]⟩,
  zhT [(.type "ValueError")],
  zhG "builtin_function_or_method" [(.builtin "type.__prepare__"),(.type "type")],
  zhD [zhE P "__module__" 196 (.str "shortglue.errors" 187),zhE P "__qualname__" 198 (.str "GlueError" 197),zhE P "__firstlineno__" 200 (.int (2) 199),zhE P "__static_attributes__" 201 (.ref 22)] 4,
  zhT [],
  zhF [],
  ⟨(.type "code"),none,(.fields #[(.str "GlueError" 191),(.str "GlueError" 192),(.str "/claim/cut.py" 193),(.int (2) 0),(.int (0) 0),(.int (0) 0),(.int (0) 0),(.int (0) 0),(.ref 18),(.bool false),(.int (181) 0),(.ref 19),.none,.none,.none,.none,(.int (194) 0),(.int (2) 0),(.str "/claim/cut.py" 195)]),#[]⟩,
  ⟨(.type "frame"),none,.plain,#[(some (.ref 20)),(some (.ref 3)),(some (.ref 17)),none,(some (.str "shortglue.errors" 187)),none,(some (.ref 0))]⟩,
  zhT [],
  zhD [zhE P "__module__" 196 (.str "shortglue.errors" 187),zhE P "__firstlineno__" 200 (.int (2) 199),zhE P "__static_attributes__" 201 (.ref 22),zhE P "__weakref__" 203 (.ref 25),zhE P "__doc__" 204 .none] 3,
  ⟨(.type "type"),none,(.cls { name:="GlueError",bases:=[(.type "ValueError")],mro:=[(.ref 24),(.type "ValueError"),(.type "Exception"),(.type "BaseException"),(.type "object")],ns:=23,qualname:="GlueError",hasDict:=true,slotNames:=[],subclasses:=[(.ref 44),(.ref 63),(.ref 82),(.ref 94),(.ref 113),(.ref 125),(.ref 137)],abstract:=false,collection:=none,hasDel:=false }),#[(some (.ref 15)),none,(some (.str "GlueError" 189)),(some (.str "GlueError" 197)),(some (.builtin "ValueError.__new__")),(some (.bool true))]⟩,
  ⟨(.type "getset_descriptor"),none,(.fields #[(.str "__weakref__" 202),(.ref 24),(.builtin "ExceptionGroup.__weakref__"),.none]),#[]⟩,
  zhG "super" [(.ref 24),(.ref 24),(.ref 24)],
  zhG "builtin_function_or_method" [(.builtin "object.__init_subclass__"),(.ref 24)]]++zhY P PySem.Challenge.pw_shortglue_k27_whole_best_pairing "TooMany" "TooMany.__init__" "most" 2 28 207 4++zhY P PySem.Challenge.pw_shortglue_k27_whole_best_pairing "NoPiece" "NoPiece.__init__" "at" 3 47 232 8++zhY P PySem.Challenge.pw_shortglue_k27_whole_best_pairing "NoLap" "NoLap.__init__" "k" 4 66 257 12++zhX P "NoOrder" 85 282 16++zhY P PySem.Challenge.pw_shortglue_k27_whole_best_pairing "NotHeld" "NotHeld.__init__" "at" 6 97 298 18++zhX P "NoTable" 116 323 22++zhX P "NoRing" 128 339 24) 0 .nil
noncomputable def zzV:Env:={ scope:=(PySem.Challenge.pw_shortglue_k27_whole_best_pairing).main.scope,locals:=mainNs,globals:=mainNs,cells:=[],code:=(.ref 13),frame:=some 14 }
abbrev zzC:Code:=.body ((behindTheImports PySem.Challenge.pw_shortglue_k27_whole_best_pairing).take 9++(behindTheImports PySem.Challenge.pw_shortglue_k27_whole_best_pairing).drop 9) zzV
abbrev Bq(w:World)(os:Jc):SharedT:=⟨zzA w.params,15,(Hk w.params).life,IZ [],boot_drawn,187,os⟩
abbrev FP(w:World)(os:Jc):SharedT:=⟨zz1 w.params,140,(Hk w.params).life,IZ [],boot_drawn,355,os⟩
theorem Br:∀(w:World) (os:Jc),topGo treeTable PySem.Challenge.pw_shortglue_k27_whole_best_pairing w 11 (some (.ref 6)) 12 ⟨Hk w.params,IZ [],boot_drawn,boot_toks,os⟩ (topStub PySem.Challenge.pw_shortglue_k27_whole_best_pairing)=some ((Bq w os).abs,⟨denote treeTable zzC,zzC,⟨0,0,0,0⟩,[topFrame ⟨0,0,0,0⟩]⟩):=by intro w os;kernel_rfl
theorem Bs:∀(w:World) (os:Jc),segRun treeTable PySem.Challenge.pw_shortglue_k27_whole_best_pairing w 11 (some (.ref 6)) 1 1 (Bq w os).abs (blockOf ((behindTheImports PySem.Challenge.pw_shortglue_k27_whole_best_pairing).take 9++(behindTheImports PySem.Challenge.pw_shortglue_k27_whole_best_pairing).drop 9) zzV zzC ⟨0,0,0,0⟩ [topFrame ⟨0,0,0,0⟩])=some (.next,(Bq w os).abs,zzC,⟨0,0,0,0⟩):=by intro w os;kernel_rfl
theorem Bt:∀(w:World) (os:Jc),segRunT treeTable PySem.Challenge.pw_shortglue_k27_whole_best_pairing w 11 (some (.ref 6)) 1 1815 (Bq w os) (piecesOf ((behindTheImports PySem.Challenge.pw_shortglue_k27_whole_best_pairing).take 9) zzV zzC ⟨0,0,0,0⟩ [topFrame ⟨0,0,0,0⟩])=some (.next,FP w os,zzC,⟨24,0,25,8⟩):=by intro w os;kernel_rfl
end
section
open PySem PySem.W PyProof.Rows
noncomputable def zg:so:=PySem.W.view PySem.Challenge.pw_shortglue_k27_whole_best_pairing [1,2,3,4,5,6,7,8,9,10,11,12,13,14,15,16,18,19,20,21,23,25,27,28,29,30,31,32,33,35,36,37,38,39,40,41,42,43,44,45,46,47,48,49,50]
local macro_rules | `(tactic| o_head $H)=>`(tactic| (refine holds_open (q:=zg) (loose:=[]) (Xt:=fun s=>xlAt zg [] s && recOk (RowW.records (OpenRow.toRowW (OpenLaw.row PySem.Challenge.rw_shortglue_k27_whole_best_pairing))) s) (XP:=XL zg []) (Yf:=Hook.obs $H) (Ya:=Hook.val $H) (YP:=Hook.says $H) (N:=4575) ?hl (Hook.of $H) (Hook.keeps $H) (fun s e=>xl_of s (and_eq_true_iff.mp e).1) XL.keeps (by rfl) (by rfl) (by rfl) (fun s e=>recFacts_of (and_eq_true_iff.mp e).2) (by rfl) (by first | assumption | decide +kernel) (by decide +kernel) ⟨rfl,rfl,rfl,rfl,rfl,by decide +kernel⟩ ?hw ?hc;(case hl=>(refine L2.zf (m₀:=11) (ann:=some (.ref 6)) (SA:=Bq) (S1:=FP) (n2:=2747) (by kernel_rfl) (by rfl) (fun s=>by kernel_rfl) (fun w=>by kernel_rfl) Br Bs Bt (by rfl) ?_;intro w os;kernel_rfl))))
set_option maxRecDepth 100000 in
set_option maxHeartbeats 0 in
open_top topHd for PySem.Challenge.rw_shortglue_k27_whole_best_pairing
end
-- CHANGE: your row's module here,as the last of these rows
namespace L2
open PySem PySem.Spec PyProof.Rows
abbrev Key:=Sum Int Str
noncomputable def r0:Key->Value->Bool
 | .inl k,v=>Value.isInt k v
 | .inr x,v=>Value.isStrOf x v
noncomputable def GJ(w:World):Key->Int
 | .inl k=>hashInt k
 | .inr x=>hashStr w x
theorem bx:∀{k:Key}{v:Value},r0 k v=true->(∃i t,k=Ic i/\v=JU i t)\/(∃x t,k=Lr x/\v=JC x t)
 | .inl i,v,h=>by
  obtain⟨t,e⟩:=Value.isInt_shape (k:=i) (v:=v) h;exact .inl ⟨i,t,rfl,e⟩
 | .inr x,v,h=>by
  obtain⟨t,e⟩:=Value.isStrOf_shape (x:=x) (v:=v) h;exact .inr ⟨x,t,rfl,e⟩
def tH(i:Int)(t:Tok):r0 (.inl i) (.int i t)=true:=by simp [r0,Value.isInt]
def tI(x:Str)(t:Tok):r0 (.inr x) (.str x t)=true:=by simp [r0,Value.isStrOf]
def Bu(a b:Int):decide ((Ic a:Key)=Ic b)=(a == b):=by
 by_cases e:a=b
 .subst e;simp
 .have h:¬ (Ic a:Key)=Ic b:=λq=>e (Sum.inl.inj q);rw [decide_eq_false h];exact (beq_eq_false_iff_ne.mpr e).symm
def Bv(a b:Str):decide ((Lr a:Key)=Lr b)=decide (a=b):=by
 by_cases e:a=b
 .subst e;simp
 .have h:¬ (Lr a:Key)=Lr b:=λq=>e (Sum.inr.inj q);rw [decide_eq_false h,decide_eq_false e]
def Bw(a:Int)(b:Str):decide ((Ic a:Key)=Lr b)=false:=decide_eq_false (λq=>nomatch q)
def Bx(a:Str)(b:Int):decide ((Lr a:Key)=Ic b)=false:=decide_eq_false (λq=>nomatch q)
noncomputable def bP(prog:so)(w:World):PySem.KeyKind prog w Key where
 is:=r0
 hash:=GJ w
 inj:=λv a b ha hb=>by
  rcases bx ha with ⟨i,t,rfl,rfl⟩|⟨x,t,rfl,rfl⟩
  .rcases bx hb with ⟨j,u,rfl,e⟩|⟨y,u,rfl,e⟩
   .injection e with e1 _;rw [e1]
   .exact nomatch e
  .rcases bx hb with ⟨j,u,rfl,e⟩|⟨y,u,rfl,e⟩
   .exact nomatch e
   .injection e with e1 _;rw [e1]
 byValue:=λk v h=>by
  rcases bx h with ⟨i,t,rfl,rfl⟩|⟨x,t,rfl,rfl⟩ <;> rfl
 pyHash:=λhv h=>by
  rcases bx hv with ⟨i,t,rfl,rfl⟩|⟨x,t,rfl,rfl⟩
  .exact wpAny_pyHash_int h
  .exact wpAny_pyHash_str h
 eqBool:=λhu hv h=>by
  rcases bx hu with ⟨i,t,rfl,rfl⟩|⟨x,t,rfl,rfl⟩
  .rcases bx hv with ⟨j,u,rfl,rfl⟩|⟨y,u,rfl,rfl⟩
   .rw [Bu] at h;exact wpAny_eqBool_int h
   .rw [Bw] at h;exact SeqAt.EqAt.int_str i t y u _ _ _ _ h
  .rcases bx hv with ⟨j,u,rfl,rfl⟩|⟨y,u,rfl,rfl⟩
   .rw [Bx] at h;exact SeqAt.EqAt.str_int x t j u _ _ _ _ h
   .rw [Bv] at h;exact wpAny_eqBool_str h
 «strs»:=λk x t v h=>by
  rcases bx h with ⟨i,u,rfl,e⟩|⟨y,u,rfl,e⟩
  .exact nomatch e
  .injection e with e1 _;subst e1;cases v <;> rfl
def pN(prog:so)(w:World)(i:Int)(t:Tok):(bP prog w).is (.inl i) (.int i t)=true:=tH i t
def pO(prog:so)(w:World)(x:Str)(t:Tok):(bP prog w).is (.inr x) (.str x t)=true:=tI x t
inductive V where
 | non|bl (b:Bool)|int (i:Int)|str (x:Str)|byt (b:Array UInt8)|flt (b:UInt64)|ref (a:Addr)|ty (n:String)
 deriving DecidableEq
noncomputable def bS:V->Value->Prop
 | .non,u=>u=HE
 | .bl b,u=>u=Ia b
 | .int i,u=>∃t,u=JU i t
 | .str x,u=>∃t,u=JC x t
 | .byt b,u=>∃t,u=Value.bytes b t
 | .flt b,u=>∃t,u=Value.float b t
 | .ref a,u=>u=o_ a
 | .ty n,u=>u=Ib n
abbrev bK:List V->List Value->Prop:=Paired bS
def bK.length{xs:List V}{us:List Value}(r:bK xs us):xs.length=us.length:=Paired.length r
theorem bK.get:∀{xs:List V}{us:List Value}{i:Nat}{x:V},bK xs us->xs[i]?=some x->∃u,us[i]?=some u/\bS x u
 | _,_,_,_,.nil,e=>by simp at e
 | _,_,0,_,.cons r _,e=>by simp at e;subst e;exact⟨_,rfl,r⟩
 | _,_,i+1,x,.cons _ t,e=>by
  obtain⟨u,h1,h2⟩:=bK.get (i:=i) (x:=x) t (by simpa using e);exact⟨u,by simpa using h1,h2⟩
theorem bK.set{x:V}{u:Value}(r:bS x u):∀{xs:List V}{us:List Value} (i:Nat),bK xs us->bK (xs.set i x) (us.set i u)
 | _,_,_,.nil=>.nil
 | _,_,0,.cons _ t=>.cons r t
 | _,_,i+1,.cons q t=>.cons q (bK.set r i t)
theorem bK.append:∀{xs ys:List V}{us ws:List Value},bK xs us->bK ys ws->bK (xs++ys) (us++ws)
 | _,_,_,_,.nil,s=>s
 | _,_,_,_,.cons r t,s=>.cons r (bK.append t s)
noncomputable def qU:Option V->Option Value->Prop
 | some v,some u=>bS v u
 | none,none=>True
 | _,_=>False
noncomputable def KV{κ:Type}:List (κ×V)->List (κ×Value)->Prop:=Paired λ(p:κ×V) (q:κ×Value)=>p.1=q.1/\bS p.2 q.2
noncomputable def kV:Key->V
 | .inl i=>.int i
 | .inr x=>.str x
inductive HO where
 | lst (xs:List V)
 | tup (xs:List V)
 | dK (kvs:List (Key×V))|dT (kvs:List (List Key×V))
 | set (S:Int->Bool) (n:Nat)
 | ins (C dx:Addr) (fs:List (Str×V))
 | own (x:Addr)
 | xd (fs:List (Str×V))
 | met (f x:Addr)
 | rng (lo hi:Int)
 | frz (o:Obj) (u:HO)
 | tbl (ps:Array Value)
 | ext (φ:Heap->Prop)
abbrev Hp:=Addr->Option HO
noncomputable def upd(H:Hp)(a:Addr)(o:HO):Hp:=λb=>if b=a then some o else H b
def aw{H:Hp}{a:Addr}{o:HO}:upd H a o a=some o:=by unfold upd;rw [if_pos rfl]
def ak{H:Hp}{a b:Addr}{o:HO}(h:b≠a):upd H a o b=H b:=by unfold upd;rw [if_neg h]
def Eb{H:Hp}{a b:Addr}{o u:HO}(h:H a=some o)(h':H b=some u)(d:o≠u):a≠b:=by
 intro e;subst e;rw [h] at h';exact d (we h')
def aK{H:Hp}{a b:Addr}{o:HO}(h:H a=some o)(h':H b=none):a≠b:=by
 intro e;subst e;rw [h] at h';cases h'
noncomputable def pP(H:Hp)(h:Heap)(a:Addr)(q:Str):List Value->Prop
 | []=>True
 | .int _ _::.int _ _::.ref c::r=>H c=some (.own a)/\(∃(oc:Obj) (vs:Array Value) (t:Tok),h.get? c=some oc/\oc.data=.fields vs/\vs[1]?=some (.str q t))/\pP H h a q r
 | _=>False
theorem pP.stay{H H':Hp}{h h':Heap}{a:Addr}{q:Str}(k:∀b u,H b=some (.own a)->h.get? b=some u->h'.get? b=some u)(ho:∀b,H b=some (.own a)->H' b=some (.own a)):∀l:List Value,pP H h a q l->pP H' h' a q l
 | [],_=>trivial
 | .int _ _::.int _ _::.ref c::r,x=>by
  obtain⟨x1,⟨oc,vs,t,e1,e2,e3⟩,x2⟩:=x;exact⟨ho _ x1,⟨oc,vs,t,k _ _ x1 e1,e2,e3⟩,pP.stay k ho r x2⟩
noncomputable def wD(H:Hp)(h:Heap)(a:Addr)(ps:Array Value):Prop:=∃(q:Str) (t:Tok) (more real:Array Value),ps=#[.str q t]++more/\h.get? a=some { cls:=.none,data:=.fields real }/\pP H h a q real.toList
section
variable (P:so) (w:World)
noncomputable def aW(H:Hp)(h:Heap)(a:Addr):HO->Prop
 | .lst xs=>xs.length<=sizeLine/\∃(its:List Value) (n:Nat),bK xs its/\h.get? a=some { cls:=.type "list",data:=.seq its.toArray n }
 | .tup xs=>xs.length<=sizeLine/\∃its:List Value,bK xs its/\IsTup h a its.toArray
 | .dK kvs=>kvs.length<=sizeLine/\(a == sysModules)=false/\∃vs,KV kvs vs/\h.DictOf (bP P w) a vs
 | .dT kvs=>kvs.length<=sizeLine/\(a == sysModules)=false/\∃xs:List (List Key×Addr×Value),
   Paired (λ(p:List Key×V) (q:List Key×Addr×Value)=>p.1=q.1/\H q.2.1=some (.tup (p.1.map kV))/\bS p.2 q.2.2) kvs xs /\
   ∃o es ep,h.get? a=some o/\o.ExactDict/\o.data=.dict es ep/\es.toList=xs.map (entryOfKey (tupleKind (bP P w)))/\(xs.map (·.1)).Nodup
 | .set S n=>h.SetOf (intKind P w) a S n
 | .ins C dx fs=>H dx=some (.own a)/\fs.length<=1000/\dx≠a/\h.get? a=some (K_ C dx) /\
   ∃mA,h.Ns1 dx mA/\(∀f,qU (fs.lookup f) (mA f))/\PySem.Within mA (fs.map (·.1))
 | .own _=>∃o,h.get? a=some o
 | .xd fs=>∃mA,h.Ns1 a mA/\∀f,qU (fs.lookup f) (mA f)
 | .rng lo hi=>∃t u v,h.get? a=some { cls:=.type "range",data:=.fields #[.int lo t,.int hi u,.int 1 v] }
 | .frz o u=>h.get? a=some o/\aW H h a u
 | .tbl ps=>wD H h a ps
 | .met f x=>h.get? a=some (KA (.ref f) (.ref x))
 | .ext φ=>φ h/\(∃o,h.get? a=some o)/\∀h1 h2:Heap,φ h1->(∀o,h1.get? a=some o->h2.get? a=some o)->φ h2
noncomputable def HOk(H:Hp)(h:Heap):Prop:=∀a o,H a=some o->aW P w H h a o
end
section
variable {P:so}{w:World}{H H':Hp}{h h':Heap}{a:Addr}{o:HO}
def aW.lt(x:aW P w H h a o):a<h.objs.size:=by
 cases o with
 | lst xs=>obtain⟨_,_,_,_,e⟩:=x;exact k_ e
 | tup xs=>obtain⟨_,_,_,p⟩:=x;exact p.lt
 | dK kvs=>obtain⟨_,_,_,_,o,_,_,e,_⟩:=x;exact k_ e
 | dT kvs=>obtain⟨_,_,_,_,o,_,_,e,_⟩:=x;exact k_ e
 | set S n=>obtain⟨o,_,_,_,e,_⟩:=x;exact k_ e
 | ins C dx fs=>obtain⟨_,_,_,e,_⟩:=x;exact k_ e
 | own y=>obtain⟨_,e⟩:=x;exact k_ e
 | xd fs=>obtain⟨_,⟨_,_,_,e,_⟩,_⟩:=x;exact k_ e
 | rng lo hi=>obtain⟨_,_,_,e⟩:=x;exact k_ e
 | frz ob u=>obtain⟨e,_⟩:=x;exact k_ e
 | tbl ps=>obtain⟨_,_,_,_,_,e,_⟩:=x;exact k_ e
 | met f y=>exact k_ (show h.get? a=some _ from x)
 | ext φ=>obtain⟨_,⟨_,e⟩,_⟩:=x;exact k_ e
theorem Paired.mapP{α β:Type}{F G:α->β->Prop}:∀{l₁:List α}{l₂:List β},Paired F l₁ l₂->(∀a b,F a b->G a b)->Paired G l₁ l₂
 | _,_,.nil,_=>.nil
 | _,_,.cons r t,f=>.cons (f _ _ r) (Paired.mapP t f)
def aW.stay(x:aW P w H h a o)(k:∀b u,(b=a\/H b=some (.own a))->h.get? b=some u->h'.get? b=some u)
  (ho:∀b,H b=some (.own a)->H' b=some (.own a)) (ht:∀b xs,H b=some (.tup xs)->H' b=some (.tup xs)):aW P w H' h' a o:=by
 induction o with
 | lst xs=>obtain⟨z,its,n,r,e⟩:=x;exact⟨z,its,n,r,k _ _ (.inl rfl) e⟩
 | tup xs=>obtain⟨z,its,r,ob,e,c⟩:=x;exact⟨z,its,r,ob,k _ _ (.inl rfl) e,c⟩
 | dK kvs=>obtain⟨z,y,vs,r,ob,es,ep,e,c⟩:=x;exact⟨z,y,vs,r,ob,es,ep,k _ _ (.inl rfl) e,c⟩
 | dT kvs =>
  obtain⟨z,y,xs,r,ob,es,ep,e,c⟩:=x;exact⟨z,y,xs,Paired.mapP r λp q z=>⟨z.1,ht _ _ z.2.1,z.2.2⟩,ob,es,ep,k _ _ (.inl rfl) e,c⟩
 | set S n=>obtain⟨ob,es,ep,t,e,c⟩:=x;exact⟨ob,es,ep,t,k _ _ (.inl rfl) e,c⟩
 | ins C dx fs =>
  obtain⟨d,z,ne,e,mA,⟨od,es,ep,e2,c⟩,r⟩:=x;exact⟨ho _ d,z,ne,k _ _ (.inl rfl) e,mA,⟨od,es,ep,k _ _ (.inr d) e2,c⟩,r⟩
 | own y=>obtain⟨ob,e⟩:=x;exact⟨ob,k _ _ (.inl rfl) e⟩
 | xd fs=>obtain⟨mA,⟨od,es,ep,e,c⟩,r⟩:=x;exact⟨mA,⟨od,es,ep,k _ _ (.inl rfl) e,c⟩,r⟩
 | rng lo hi=>obtain⟨t,u,v,e⟩:=x;exact⟨t,u,v,k _ _ (.inl rfl) e⟩
 | frz ob u ih=>obtain⟨e,q⟩:=x;exact⟨k _ _ (.inl rfl) e,ih q⟩
 | tbl ps =>
  obtain⟨q,t,more,real,e1,e,r⟩:=x;exact⟨q,t,more,real,e1,k a _ (.inl rfl) e,pP.stay (λb u z=>k b u (.inr z)) ho _ r⟩
 | met f y =>
  have e:h.get? a=some (KA (.ref f) (.ref y)):=x;show h'.get? a=some (KA (.ref f) (.ref y));exact k a _ (.inl rfl) e
 | ext φ=>obtain⟨p,⟨o,e⟩,st⟩:=x;exact⟨st _ _ p λo q=>k _ _ (.inl rfl) q,⟨o,k _ _ (.inl rfl) e⟩,st⟩
def HOk.lt(x:HOk P w H h)(e:H a=some o):a<h.objs.size:=(x a o e).lt
def HOk.fresh(x:HOk P w H h)(e:h.objs.size<=a):H a=none:=by
 cases q:H a with
 | none=>rfl
 | some u=>exact absurd (s_ (x.lt q) e) (HN _)
def HOk.kept(x:HOk P w H h)(k:∀b u,h.get? b=some u->h'.get? b=some u):HOk P w H h':=λa o e =>
 (x a o e).stay (λb u _ q=>k b u q) (λ_ q=>q) λ_ _ q=>q
def HOk.laid(x:HOk P w H h)(k:∀b u,h.get? b=some u->h'.get? b=some u)(hp:h.objs.size<=a)(new:aW P w (upd H a o) h' a o):HOk P w (upd H a o) h':=λb u e=>by
 have hn:=x.fresh hp
 by_cases hb:b=a
 .subst hb;rw [aw] at e;cases e;exact new
 .rw [ak hb] at e;exact (x b u e).stay (λc v _ q=>k c v q) (λc q=>by rw [ak (aK q hn)];exact q) λc xs q=>by rw [ak (aK q hn)];exact q
end
noncomputable def Rd(H:Hp)(a:Addr)(u:HO):Prop:=H a=some u\/∃o,H a=some (.frz o u)
def Rd.ok{P:so}{w:World}{H:Hp}{h:Heap}{a:Addr}{u:HO}(r:Rd H a u)(x:HOk P w H h):aW P w H h a u:=by
 rcases r with r|⟨o,r⟩
 .exact x a u r
 .obtain⟨_,q⟩:=x a _ r;exact q
noncomputable def Mut:Option HO->Prop
 | some (.lst _)=>True
 | some (.dK _)=>True
 | some (.dT _)=>True
 | some (.set _ _)=>True
 | some (.ins _ _ _)=>True
 | some (.ext _)=>True
 | _=>False
section
variable {P:so}{w:World}{H:Hp}{h h':Heap}{x e:Addr}{o':HO}
def HOk.write(ok:HOk P w H h)(mu:Mut (H x))(he:e=x\/H e=some (.own x))(k:∀b u,b≠e->h.get? b=some u->h'.get? b=some u)(heo:∃u,h'.get? e=some u)
  (new:aW P w (upd H x o') h' x o'):HOk P w (upd H x o') h':=λb u q=>by
 have nown:∀c y,H c=some (.own y)->c≠x:=λc y r z=>by subst z;rw [r] at mu;exact mu
 have ntup:∀c xs,H c=some (.tup xs)->c≠x:=λc xs r z=>by subst z;rw [r] at mu;exact mu
 by_cases hb:b=x
 .subst hb;rw [aw] at q;cases q;exact new
 .rw [ak hb] at q
  by_cases hbe:b=e
  .have q':H b=some (.own x):=by
    rcases he with z|z
    .exact absurd (hbe.trans z) hb
    .rw [hbe];exact z
   rw [q] at q';cases q';obtain⟨v,hv⟩:=heo;exact⟨v,by rw [hbe];exact hv⟩
  .refine (ok b u q).stay (λc v hc r=>k c v ?_ r) (λc r=>by rw [ak (nown c b r)];exact r) λc xs r=>by rw [ak (ntup c xs r)];exact r
   rcases hc with rfl|hc
   .exact hbe
   .rintro rfl
    rcases he with z|z
    .exact nown c b hc z
    .rw [hc] at z;cases z;exact hb rfl
end
structure Un (fs ex:List Addr) (H H':Hp) (h h':Heap):Prop where
 keep:∀b o,h.get? b=some o->H b=none->b∉fs->b∉ex->h'.get? b=some o
 slot:∀b o,h.get? b=some o->H b=none->b∈fs->b∉ex->∃sl,h'.get? b=some { o with slots:=sl }
 free:∀b o,h.get? b=some o->H b=none->b∉ex->H' b=none
 there:∀b o,h.get? b=some o->b∉ex->∃o',h'.get? b=some o'
 tups:∀b xs,H b=some (.tup xs)->H' b=some (.tup xs)
 frzs:∀b o u,H b=some (.frz o u)->H' b=some (.frz o u)
 tbls:∀b ps,H b=some (.tbl ps)->∃more,H' b=some (.tbl (ps++more))
section
variable {fs fs' ex ex':List Addr}{H H1 H2:Hp}{h h1 h2 h':Heap}{a x e:Addr}{o:HO}
def Un.any(u:Un fs ex H H1 h h1){b:Addr}{ob:Obj}(q:h.get? b=some ob)(n:H b=none)(hx:b∉ex):∃sl,h1.get? b=some { ob with slots:=sl }:=by
 by_cases hb:b∈fs
 .exact u.slot b ob q n hb hx
 .exact⟨ob.slots,u.keep b ob q n hb hx⟩
def Un.kept(k:∀b u,h.get? b=some u->h'.get? b=some u):Un fs ex H H h h' :=
 ⟨λb ob q _ _ _=>k b ob q,λb ob q _ _ _=>⟨ob.slots,k b ob q⟩,λ_ _ _ n _=>n,λb ob q _=>⟨ob,k b ob q⟩,λ_ _ q=>q,λ_ _ _ q=>q,λ_ ps q=>⟨#[],by rw [q];simp⟩⟩
def Un.refl:Un fs ex H H h h:=Un.kept λ_ _ q=>q
def Un.laid(k:∀b u,h.get? b=some u->h'.get? b=some u)(hp:h.objs.size<=a)(hn:H a=none):Un fs ex H (upd H a o) h h' where
 keep:=λb u q _ _ _=>k b u q
 slot:=λb u q _ _ _=>⟨u.slots,k b u q⟩
 free:=λb u q n _=>by rw [ak (Hj (s_ (k_ q) hp))];exact n
 there:=λb u q _=>⟨u,k b u q⟩
 tups:=λb xs q=>by rw [ak (aK q hn)];exact q
 frzs:=λb u xs q=>by rw [ak (aK q hn)];exact q
 tbls:=λb ps q=>⟨#[],by rw [ak (aK q hn),q];simp⟩
def Un.write(mu:Mut (H x))(he:e=x\/H e=some (.own x))(k:∀b u,b≠e->h.get? b=some u->h'.get? b=some u)(heo:∃u,h'.get? e=some u):Un fs ex H (upd H x o) h h':=by
 have hx:∀b,H b=none->b≠x:=λb n z=>by subst z;rw [n] at mu;exact mu
 have hb:∀b,H b=none->b≠e:=λb n z=>by
  subst z
  rcases he with r|r
  .exact hx b n r
  .rw [n] at r;cases r
 have hm:∀b u,H b=some u->¬ Mut (some u)->b≠x:=λb u q nm z=>by subst z;rw [q] at mu;exact nm mu
 refine⟨λb u q n _ _=>k b u (hb b n) q,λb u q n _ _=>⟨u.slots,k b u (hb b n) q⟩,λb u q n _=>by rw [ak (hx b n)];exact n,λb u q _=>?_,
  λb xs q=>by rw [ak (hm b _ q λz=>z)];exact q,λb u xs q=>by rw [ak (hm b _ q λz=>z)];exact q,λb ps q=>⟨#[],by rw [ak (hm b _ q λz=>z),q];simp⟩⟩
 by_cases hbe:b=e
 .subst hbe;exact heo
 .exact⟨u,k b u hbe q⟩
end
noncomputable def trk(h:Heap)(H:Hp):List Addr:=(gV h.objs.size).filter λa=>(H a).isSome
noncomputable def By(h:Heap)(H:Hp):Heap:=PySem.W.hideAll h (trk h H)
def tJ(h:Heap)(H:Hp):(By h H).objs.size=h.objs.size:=PySem.W.hideAll_size _ _
def wE{h:Heap}{H:Hp}{b:Addr}{o:Obj}(e:h.get? b=some o)(n:H b=none):(By h H).get? b=some o :=
 PySem.W.hideAll_get _ e λhm=>by
  have q:(H b).isSome=true:=(Ko.mp hm).2;rw [n] at q;simp at q
def zh{h:Heap}{H:Hp}{b:Addr}{o:Obj}(e:(By h H).get? b=some o):h.get? b=some o/\H b=none:=by
 have e':h.get? b=some o:=PySem.W.of_hideAll (trk h H) e;refine⟨e',?_⟩
 cases q:H b with
 | none=>rfl
 | some x =>
  have hm:b∈trk h H:=Ko.mpr ⟨Hl.mpr (k_ e'),by simp [q]⟩;have z:(By h H).get? b=none:=PySem.W.hideAll_none (trk h H) hm;rw [z] at e;cases e
noncomputable def nv(base:Heap)(H:Hp):Prop:=∀(P:Addr) (r:List Nat),base.life.registered=P::r->∃(t:Tok) (more:Array Value),H P=some (.tbl (#[.str ⟨r.toArray⟩ t]++more))
def nv.un{base:Heap}{fs ex:List Addr}{H H':Hp}{h h':Heap}(x:nv base H)(u:Un fs ex H H' h h'):nv base H':=λP r e=>by
 obtain⟨t,more,q⟩:=x P r e;obtain⟨m2,q2⟩:=u.tbls P _ q;exact⟨t,more++m2,by rw [q2,Array.append_assoc]⟩
noncomputable def Bz(h:Heap)(H:Hp):Heap:={ By h H with life:={} }
structure Mod (K:b_) (mg:Str->Option Value) (base:Heap):Prop where
 kin:K.In base
 glob:base.Ns mainGlobals mg
 blt:∃mb,base.Ns builtinsNs mb/\∀x:Str,x≠"__name__"->mb x=bootBuiltins x
 nolimit:base.NoLimit
structure Cx where
 prog:so
 w:World
 K:b_
 mg:Str->Option Value
 base:Heap
 A:w_
 N:List Str
 s₀:c_
 H₀:Hp
 env:Env
 outer:List Env
 stack:List Env
 ex:List Addr
 fn:Str->Bool
 calm:Bool
 pn:List (Addr×Obj)
 xe:Value->c_->Prop
noncomputable def frs(l:List Env):List Addr:=l.filterMap (·.frame)
abbrev Cx.fs(X:Cx):List Addr:=frs X.outer
noncomputable def Vis(sc:Scope)(x:Str):Prop:=sc.names.lookup x=some .local\/sc.names.lookup x=some .cell\/sc.names.lookup x=some .free
noncomputable def Loc(sc:Scope)(x:Str):Prop:=sc.names.lookup x=some .local\/sc.names.lookup x=some .cell
noncomputable def GK(env:Env)(h:Heap)(m:Str->Option Value)(x:Str)(u:Value):Prop :=
 (env.kindOf x=some .local/\m x=some u)\/((env.kindOf x=some .cell\/env.kindOf x=some .free)/\∃c,env.cells.lookup x=some c/\h.IsCell c (some u))
structure Cx.Ok (X:Cx):Prop where
 mod:Mod X.K X.mg X.base
 kind:X.env.scope.kind=.function
 glob:X.env.globals=mainGlobals
 blt:X.env.builtins=builtinsNs
 above:X.s₀.heap.objs.size<=X.env.locals
 inj:∀x y c,X.env.cells.lookup x=some c->X.env.cells.lookup y=some c->x=y
 has:∀x,(X.env.kindOf x=some .cell\/X.env.kindOf x=some .free)->∃c,X.env.cells.lookup x=some c
 cab:∀x c,X.fn x=true->X.env.cells.lookup x=some c->X.s₀.heap.objs.size<=c
 hd:X.calm=true->X.A.handled=none
 frames:X.A.frames=some X.stack
 stk:X.stack=X.outer\/(X.stack=X.env::X.outer/\X.env.frame=some X.env.locals)
 exf:∀b∈X.ex,b≠X.env.locals/\∀x c,X.env.cells.lookup x=some c->c≠b
 bs:∀b o,X.base.get? b=some o->X.s₀.heap.get? b=some o/\X.H₀ b=none
 bsz:X.base.objs.size<=X.s₀.heap.objs.size
 noex:∀b o,X.base.get? b=some o->b∉X.ex
 exfs:∀b∈X.ex,b∉X.fs
 funs:X.s₀.heap.FunFrames X.base X.outer
 frf:∀b∈X.fs,X.H₀ b=none
 tb:nv X.base X.H₀
structure Inv (X:Cx) (pins:List (Addr×Obj)) (σ:List (Option V)) (H:Hp) (s:c_):Prop where
 ok:X.Ok
 os:s.os=X.s₀.os
 bare:Kf s.gens
 base:Un X.fs X.ex X.H₀ H X.s₀.heap s.heap
 loc:∃m,s.heap.Ns X.env.locals m/\∀(i:Nat) (x:Str) (v:V),X.N[i]?=some x->σ[i]?=some (some v)->Vis X.env.scope x->∃u,bS v u/\GK X.env s.heap m x u
 cell:∀x c,X.env.cells.lookup x=some c->∃v,s.heap.IsCell c v
 free:H X.env.locals=none
 freeC:∀x c,X.env.cells.lookup x=some c->H c=none
 pin:∀p∈X.pn++pins,s.heap.get? p.1=some p.2/\H p.1=none/\p.1≠X.env.locals/\p.1∉X.fs/\∀v,p.2.data≠.cell v
 hok:HOk X.prog X.w H s.heap
 len:σ.length=X.N.length
section
variable {X:Cx}{pins:List (Addr×Obj)}{σ:List (Option V)}{H H':Hp}{s:c_}{h':Heap}
def Cx.Ok.nofr(ok:X.Ok){b:Addr}{o:Obj}(e:X.base.get? b=some o):b∉X.fs:=λhb=>by
 have:=(ok.funs.mem hb).1;rw [e] at this;cases this
def Inv.bs(I:Inv X pins σ H s):∀b o,X.base.get? b=some o->s.heap.get? b=some o/\H b=none:=λb o e =>
 ⟨I.base.keep b o (I.ok.bs b o e).1 (I.ok.bs b o e).2 (I.ok.nofr e) (I.ok.noex b o e),I.base.free b o (I.ok.bs b o e).1 (I.ok.bs b o e).2 (I.ok.noex b o e)⟩
def Inv.bk(I:Inv X pins σ H s):∀b o,X.base.get? b=some o->s.heap.get? b=some o:=λb o e=>(I.bs b o e).1
def Inv.mod(I:Inv X pins σ H s):Mod X.K X.mg X.base:=I.ok.mod
def Inv.kIn(I:Inv X pins σ H s):X.K.In s.heap:=I.ok.mod.kin.keeps I.bk
def Inv.lt(I:Inv X pins σ H s):X.env.locals<s.heap.objs.size:=let ⟨_,hn,_⟩:=I.loc;hn.lt
def Inv.sz(I:Inv X pins σ H s):X.s₀.heap.objs.size<=s.heap.objs.size:=HP I.ok.above (IV I.lt)
def Inv.nofs(I:Inv X pins σ H s){a:Addr}(h:s.heap.objs.size<=a):a∉X.fs:=λhb=>by
 obtain⟨_,o,ho,_⟩:=I.ok.funs.mem hb;exact absurd (s_ (k_ ho) (HP I.sz h)) (HN _)
def Inv.cne(I:Inv X pins σ H s):∀x c,X.env.cells.lookup x=some c->c≠X.env.locals:=λx c e z=>by
 obtain⟨v,o,ho,hd⟩:=I.cell x c e;obtain⟨m,⟨o',es,ep,ho',hd',_⟩,_⟩:=I.loc;rw [z,ho'] at ho;cases ho;rw [hd'] at hd;cases hd
def Inv.funs(I:Inv X pins σ H s):s.heap.FunFrames X.base X.outer:=by
 have all:∀(l:List Env),(∀b∈frs l,b∈X.fs)->X.s₀.heap.FunFrames X.base l->s.heap.FunFrames X.base l:=by
  intro l
  induction l with
  | nil=>intro _ _;trivial
  | cons env r ih =>
   intro hs hl;obtain⟨hk,⟨L,o,hf,hn,ho,hd⟩,hr⟩:=hl;have hL:L∈X.fs:=hs L (by unfold frs;rw [Jd,hf];exact mem_cons_self);obtain⟨sl,e⟩:=I.base.slot L o ho (I.ok.frf L hL) hL λz=>I.ok.exfs L z hL;exact⟨hk,⟨L,_,hf,hn,e,hd⟩,ih (λb hb=>hs b (by unfold frs;rw [Jd,hf];exact q_ _ hb)) hr⟩
 exact all X.outer (λ_ hb=>hb) I.ok.funs
def Inv.stack(I:Inv X pins σ H s):s.heap.FunFrames X.base X.stack:=by
 rcases I.ok.stk with e|⟨e,hf⟩
 .rw [e];exact I.funs
 .rw [e];obtain⟨m,hn,_⟩:=I.loc;refine .cons (by rw [I.ok.kind];decide) hf hn ?_ I.funs;exact Heap.get?_none_of_le (HP I.ok.bsz I.ok.above)
def Inv.stkSub(I:Inv X pins σ H s):∀b∈frs X.stack,b∈X.env.locals::X.fs:=λb hb=>by
 rcases I.ok.stk with e|⟨e,hf⟩
 .rw [e] at hb;exact q_ _ hb
 .rw [e] at hb;unfold frs at hb;rw [Jd,hf] at hb;exact hb
def Inv.stkFree(I:Inv X pins σ H s):∀b∈frs X.stack,H b=none:=λb hb=>by
 rcases mem_cons.mp (I.stkSub b hb) with e|hb
 .rw [e];exact I.free
 .obtain⟨_,o,ho,_⟩:=I.ok.funs.mem hb;exact I.base.free b o ho (I.ok.frf b hb) λz=>I.ok.exfs b z hb
def Inv.step{g':Array Kn}{t':Nat}{d':Drawn}{ch:List Addr}(I:Inv X pins σ H s)
  (hch:∀b∈ch,(b∈X.ex\/X.s₀.heap.objs.size<=b)/\b≠X.env.locals/\(∀x c,X.env.cells.lookup x=some c->c≠b)/\∀p∈X.pn++pins,p.1≠b)
  (keep:∀b o,b≠X.env.locals->b∉X.fs->b∉ch->s.heap.get? b=some o->H b=none->h'.get? b=some o)
  (slot:∀b o,b≠X.env.locals->b∈X.fs->b∉ch->s.heap.get? b=some o->H b=none->∃sl,h'.get? b=some { o with slots:=sl }) (free:∀b o,b∉ch->s.heap.get? b=some o->H b=none->H' b=none)
  (there:∀b o,b∉ch->s.heap.get? b=some o->∃o',h'.get? b=some o')
  (tups:∀b xs,H b=some (.tup xs)->H' b=some (.tup xs)) (frzs:∀b o u,H b=some (.frz o u)->H' b=some (.frz o u)) (tbls:∀b ps,H b=some (.tbl ps)->∃more,H' b=some (.tbl (ps++more)))
  (ns:∀m,s.heap.Ns X.env.locals m->h'.Ns X.env.locals m) (hok:HOk X.prog X.w H' h') (hg:Kf g') :
  Inv X pins σ H' { s with heap:=h',gens:=g',drawn:=d',toks:=t' }:=by
 have neL:∀b o,X.s₀.heap.get? b=some o->b≠X.env.locals:=λb o e=>Hj (s_ (k_ e) I.ok.above)
 have neC:∀b o,X.s₀.heap.get? b=some o->b∉X.ex->b∉ch:=λb o e hx hb=>by
  rcases (hch b hb).1 with z|z
  .exact hx z
  .exact absurd (s_ (k_ e) z) (HN _)
 have cellK:∀x c,X.env.cells.lookup x=some c->∀v,s.heap.IsCell c v->h'.IsCell c v:=λx c e v ⟨o,ho,hd⟩=>by
  have nch:c∉ch:=λz=>(hch c z).2.2.1 x c e rfl
  by_cases hc:c∈X.fs
  .obtain⟨sl,q⟩:=slot c o (I.cne x c e) hc nch ho (I.freeC x c e);exact⟨_,q,hd⟩
  .exact⟨o,keep c o (I.cne x c e) hc nch ho (I.freeC x c e),hd⟩
 refine⟨I.ok,I.os,hg,⟨λb o e n hb hx=>?_,λb o e n hb hx=>?_,λb o e n hx=>?_,λb o e hx=>?_,λb xs e=>tups b xs (I.base.tups b xs e),λb o xs e=>frzs b o xs (I.base.frzs b o xs e),λb ps e=>?_⟩,?_,λx c e=>?_,?_,λx c e=>?_,λp hp=>?_,hok,I.len⟩
 .exact keep b o (neL b o e) hb (neC b o e hx) (I.base.keep b o e n hb hx) (I.base.free b o e n hx)
 .obtain⟨sl,e1⟩:=I.base.slot b o e n hb hx;obtain⟨sl',e2⟩:=slot b _ (neL b o e) hb (neC b o e hx) e1 (I.base.free b o e n hx);exact⟨sl',e2⟩
 .obtain⟨o',e1⟩:=I.base.there b o e hx;exact free b o' (neC b o e hx) e1 (I.base.free b o e n hx)
 .obtain⟨o',e1⟩:=I.base.there b o e hx;exact there b o' (neC b o e hx) e1
 .obtain⟨m1,e1⟩:=I.base.tbls b ps e;obtain⟨m2,e2⟩:=tbls b _ e1;exact⟨m1++m2,by rw [e2,Array.append_assoc]⟩
 .obtain⟨m,hn,hl⟩:=I.loc;refine⟨m,ns m hn,λi x v e1 e2 e3=>?_⟩;obtain⟨u,r,l⟩:=hl i x v e1 e2 e3;refine⟨u,r,?_⟩
  rcases l with l|⟨k,c,e,z⟩
  .exact .inl l
  .exact .inr ⟨k,c,e,cellK x c e _ z⟩
 .obtain⟨v,z⟩:=I.cell x c e;exact⟨v,cellK x c e v z⟩
 .obtain⟨m,⟨o,_,_,ho,_⟩,_⟩:=I.loc;exact free _ o (λz=>(hch _ z).2.1 rfl) ho I.free
 .obtain⟨v,o,ho,hd⟩:=I.cell x c e;exact free c o (λz=>(hch c z).2.2.1 x c e rfl) ho (I.freeC x c e)
 .obtain⟨e,n,ne,nf,d⟩:=I.pin p hp;have nch:p.1∉ch:=λz=>(hch p.1 z).2.2.2 p hp rfl;exact⟨keep p.1 p.2 ne nf nch e n,free p.1 p.2 nch e n,ne,nf,d⟩
def Inv.un{t':Nat}(I:Inv X pins σ H s)(u:Un X.fs [] H H' s.heap h')(hok:HOk X.prog X.w H' h'):Inv X pins σ H' { s with heap:=h',toks:=t' }:=by
 obtain⟨m,⟨o,es,ep,ho,r⟩,_⟩:=id I.loc;obtain⟨sl,hL⟩:=u.any ho I.free (by simp)
 exact I.step (g':=s.gens) (d':=s.drawn) (ch:=[]) (λ_ z=>nomatch z) (λb o _ hb _ e n=>u.keep b o e n hb (by simp)) (λb o _ hb _ e n=>u.slot b o e n hb (by simp)) (λb o _ e n=>u.free b o e n (by simp)) (λb o _ e=>u.there b o e (by simp)) u.tups u.frzs u.tbls (λm' hm=>by
  obtain⟨o',es',ep',ho',r'⟩:=hm;rw [ho] at ho';cases ho';exact⟨_,es',ep',hL,r'⟩) hok I.bare
def Inv.call{g':Array Kn}{t':Nat}{d':Drawn}{ch:List Addr}(I:Inv X pins σ H s)(u:Un (frs X.stack) ch H H' s.heap h')(hok:HOk X.prog X.w H' h')(hg:Kf g')
  (hch:∀b∈ch,(b∈X.ex\/X.s₀.heap.objs.size<=b)/\b≠X.env.locals/\(∀x c,X.env.cells.lookup x=some c->c≠b)/\∀p∈X.pn++pins,p.1≠b) :
  Inv X pins σ H' { s with heap:=h',gens:=g',drawn:=d',toks:=t' }:=by
 obtain⟨m,⟨o,es,ep,ho,r⟩,_⟩:=id I.loc;obtain⟨sl,hL⟩:=u.any ho I.free λz=>(hch _ z).2.1 rfl
 exact I.step (ch:=ch) hch (λb o hL hb hc e n=>u.keep b o e n (λz=>(mem_cons.mp (I.stkSub b z)).elim hL hb) hc) (λb o _ _ hc e n=>u.any e n hc) (λb o hc e n=>u.free b o e n hc) (λb o hc e=>u.there b o e hc) u.tups u.frzs u.tbls (λm' hm=>by
  obtain⟨o',es',ep',ho',r'⟩:=hm;rw [ho] at ho';cases ho';exact⟨_,es',ep',hL,r'⟩) hok hg
def Inv.turned{t':Nat}{it:Addr}(I:Inv X pins σ H s)(k:∀b o,b≠it->s.heap.get? b=some o->h'.get? b=some o)(hn:H it=none)(hL:it≠X.env.locals)
  (h1:it∈X.ex\/X.s₀.heap.objs.size<=it) (h2:∀x c,X.env.cells.lookup x=some c->c≠it) (h3:∀p∈X.pn++pins,p.1≠it):Inv X pins σ H { s with heap:=h',toks:=t' }:=by
 have nit:∀b u,H b=some u->b≠it:=λb u e z=>by rw [z,hn] at e;cases e
 refine I.step (g':=s.gens) (d':=s.drawn) (ch:=[it]) (λb hb=>?_) (λb o _ _ hc e _=>k b o (λz=>hc (by simp [z])) e) (λb o _ _ hc e _=>⟨o.slots,k b o (λz=>hc (by simp [z])) e⟩) (λ_ _ _ _ n=>n)
  (λb o hc e=>⟨o,k b o (λz=>hc (by simp [z])) e⟩) (λ_ _ e=>e) (λ_ _ _ e=>e) (λb ps e=>⟨#[],by rw [e];simp⟩) (λm hm=>?_) (λb u e=>?_) I.bare
 .have e:b=it:=by simpa using hb
  subst e;exact⟨h1,hL,h2,h3⟩
 .obtain⟨o,es,ep,ho,r⟩:=hm;exact⟨o,es,ep,k _ o (HL hL) ho,r⟩
 .refine (I.hok b u e).stay (λc v hc q=>k c v ?_ q) (λ_ q=>q) λ_ _ q=>q
  rcases hc with z|z
  .rw [z];exact nit b u e
  .exact nit c _ z
def Inv.tok(I:Inv X pins σ H s)(t:Nat):Inv X pins σ H { s with toks:=t }:=I.un (h':=s.heap) (t':=t) Un.refl I.hok
def Inv.kept{t':Nat}(I:Inv X pins σ H s)(k:∀b u,s.heap.get? b=some u->h'.get? b=some u):Inv X pins σ H { s with heap:=h',toks:=t' }:=I.un (Un.kept k) (I.hok.kept k)
def Inv.laid{a:Addr}{o:HO}{t':Nat}(I:Inv X pins σ H s)(k:∀b u,s.heap.get? b=some u->h'.get? b=some u)(hp:s.heap.objs.size<=a)(new:aW X.prog X.w (upd H a o) h' a o) :
  Inv X pins σ (upd H a o) { s with heap:=h',toks:=t' }:=I.un (Un.laid k hp (I.hok.fresh hp)) (I.hok.laid k hp new)
def Inv.write{x e:Addr}{o:HO}{t':Nat}(I:Inv X pins σ H s)(mu:Mut (H x))(he:e=x\/H e=some (.own x))(k:∀b u,b≠e->s.heap.get? b=some u->h'.get? b=some u)(heo:∃u,h'.get? e=some u)
  (new:aW X.prog X.w (upd H x o) h' x o):Inv X pins σ (upd H x o) { s with heap:=h',toks:=t' }:=I.un (Un.write mu he k heo) (I.hok.write mu he k heo new)
def Inv.pins_of{pins':List (Addr×Obj)}(I:Inv X pins σ H s)(h:∀p∈pins',s.heap.get? p.1=some p.2/\H p.1=none/\p.1≠X.env.locals/\p.1∉X.fs/\∀v,p.2.data≠.cell v):Inv X pins' σ H s :=
 ⟨I.ok,I.os,I.bare,I.base,I.loc,I.cell,I.free,I.freeC,λp hp=>(HA.mp hp).elim (λz=>I.pin p (Hm _ z)) (h p),I.hok,I.len⟩
def mj{N:List Str}(hN:N.Nodup){i j:Nat}{x:Str}(a:N[i]?=some x)(b:N[j]?=some x):i=j:=by
 obtain⟨h1,e1⟩:=h_.mp a;obtain⟨h2,e2⟩:=h_.mp b;exact (getElem_inj hN).mp (e1.trans e2.symm)
theorem tK{M:Model}{A:w_}{E:Value->c_->Prop}{i:Nat}{x:Str}{v:V}{u:Value}{Q:Unit->c_->Prop}(I:Inv X pins σ H s)(hN:X.N.Nodup)(hi:X.N[i]?=some x)(hx:Loc X.env.scope x)(r:bS v u)
  (h:∀s',Inv X pins (σ.set i (some v)) H s'->(∃a,JH a s.heap s'.heap/\(a=X.env.locals\/X.env.cells.lookup x=some a))->Q () s') (hf:X.fn x=true\/X.env.scope.names.lookup x=some .local:=by first|exact .inl rfl|exact .inr rfl|assumption):wpAny M A (storeName X.env x u) Q E s:=by
 obtain⟨m,hn,hl⟩:=id I.loc;have hcls:(X.env.scope.kind == .class || (X.env.scope.kind == .module && X.env.locals != X.env.globals))=false:=by rw [I.ok.kind];rfl
 have hiσ:i<σ.length:=by rw [I.len];exact (h_.mp hi).1
 have cne:=I.cne
 have tracked:∀{a:Addr}{h':Heap},(∃o,s.heap.get? a=some o/\H a=none)->JH a s.heap h'->HOk X.prog X.w H h':=λ{a h'} ha hs b ob e=>by
  obtain⟨_,_,hfree⟩:=ha;refine (I.hok b ob e).stay (λc w' hc q=>(hs.2 c ?_).trans q) (λ_ q=>q) λ_ _ q=>q;rintro rfl
  rcases hc with rfl|hc
  .rw [hfree] at e;cases e
  .rw [hfree] at hc;cases hc
 rcases hx with hk|hk
 .refine wpAny_storeName_local hk hn (λh' hn' hs=>?_) hcls;obtain⟨oL,_,_,hoL,_⟩:=id hn
  refine h _ ⟨I.ok,I.os,I.bare,⟨λb o e n hb hx=>?_,λb o e n hb hx=>?_,I.base.free,λb o e hx=>?_,I.base.tups,I.base.frzs,I.base.tbls⟩,⟨_,hn',λj y v' e1 e2 e3=>?_⟩,λy c e=>?_,I.free,I.freeC,λp hp=>?_,tracked ⟨oL,hoL,I.free⟩ hs,by simpa using I.len⟩ ⟨_,hs,.inl rfl⟩
  .exact (hs.2 b (Hj (s_ (k_ e) I.ok.above))).trans (I.base.keep b o e n hb hx)
  .obtain⟨sl,e1⟩:=I.base.slot b o e n hb hx;exact⟨sl,(hs.2 b (Hj (s_ (k_ e) I.ok.above))).trans e1⟩
  .obtain⟨o',e1⟩:=I.base.there b o e hx;exact⟨o',(hs.2 b (Hj (s_ (k_ e) I.ok.above))).trans e1⟩
  .by_cases hj:j=i
   .subst hj;rw [hi] at e1;cases e1;rw [n_ hiσ] at e2;cases e2;exact⟨u,r,.inl ⟨hk,by simp⟩⟩
   .rw [j_ (HL hj)] at e2;obtain⟨u',r',q⟩:=hl j y v' e1 e2 e3;refine⟨u',r',?_⟩
    rcases q with ⟨k,e⟩|⟨k,c,e,z⟩
    .refine .inl ⟨k,?_⟩;have:y≠x:=λe=>hj (mj hN e1 (e ▸ hi));simp [this,e]
    .exact .inr ⟨k,c,e,z.sameBut hs (cne y c e)⟩
  .obtain⟨w',z⟩:=I.cell y c e;exact⟨w',z.sameBut hs (cne y c e)⟩
  .obtain⟨e,n,ne,nf,d⟩:=I.pin p hp;exact⟨(hs.2 p.1 ne).trans e,n,ne,nf,d⟩
 .have hfn:X.fn x=true:=by
   rcases hf with z|z
   .exact z
   .rw [z] at hk;cases hk
  obtain⟨c,hc⟩:=I.ok.has x (.inl hk);obtain⟨w',z⟩:=I.cell x c hc;refine wpAny_storeName_cell I.ok.kind hk hc z (λh' hc' hs=>?_);obtain⟨oc,hoc,hocd⟩:=id z
  refine h { s with heap:=h' } ⟨I.ok,I.os,I.bare,⟨λb o e n hb hx=>?_,λb o e n hb hx=>?_,I.base.free,λb o e hx=>?_,I.base.tups,I.base.frzs,I.base.tbls⟩,⟨m,hn.sameBut hs (HL (cne x c hc)),λj y v' e1 e2 e3=>?_⟩,λy c' e=>?_,I.free,I.freeC,λp hp=>?_,tracked ⟨oc,hoc,I.freeC x c hc⟩ hs,by simpa using I.len⟩ ⟨c,hs,.inr hc⟩
  .exact (hs.2 b (Hj (s_ (k_ e) (I.ok.cab x c hfn hc)))).trans (I.base.keep b o e n hb hx)
  .obtain⟨sl,e1⟩:=I.base.slot b o e n hb hx;exact⟨sl,(hs.2 b (Hj (s_ (k_ e) (I.ok.cab x c hfn hc)))).trans e1⟩
  .obtain⟨o',e1⟩:=I.base.there b o e hx;exact⟨o',(hs.2 b (Hj (s_ (k_ e) (I.ok.cab x c hfn hc)))).trans e1⟩
  .by_cases hj:j=i
   .subst hj;rw [hi] at e1;cases e1;rw [n_ hiσ] at e2;cases e2;exact⟨u,r,.inr ⟨.inl hk,c,hc,hc'⟩⟩
   .rw [j_ (HL hj)] at e2;obtain⟨u',r',q⟩:=hl j y v' e1 e2 e3;refine⟨u',r',?_⟩
    rcases q with q|⟨k,c',e,z'⟩
    .exact .inl q
    .refine .inr ⟨k,c',e,z'.sameBut hs ?_⟩;rintro rfl;exact hj (mj hN e1 (I.ok.inj _ _ _ e hc ▸ hi))
  .by_cases hcc:c'=c
   .subst hcc;exact⟨_,hc'⟩
   .obtain⟨w2,z2⟩:=I.cell y c' e;exact⟨w2,z2.sameBut hs hcc⟩
  .obtain⟨e,n,ne,nf,d⟩:=I.pin p hp;refine⟨(hs.2 p.1 ?_).trans e,n,ne,nf,d⟩;intro q;rw [q,hoc] at e;have q':oc=p.2:=we e;exact d w' (by rw [<- q'];exact hocd)
theorem et{M:Model}{A:w_}{E:Value->c_->Prop}{i:Nat}{x:Str}{v:V}{u:Value}{Q:Unit->c_->Prop}(I:Inv X pins σ H s)(hN:X.N.Nodup)(hi:X.N[i]?=some x)(hx:Loc X.env.scope x)(r:bS v u)
  (h:∀s',Inv X pins (σ.set i (some v)) H s'->Q () s') (hf:X.fn x=true\/X.env.scope.names.lookup x=some .local:=by first|exact .inl rfl|exact .inr rfl|assumption):wpAny M A (storeName X.env x u) Q E s :=
 tK I hN hi hx r (λs' I' _=>h s' I') hf
def Inv.call'{s':c_}{ch:List Addr}(I:Inv X pins σ H s)(ho:s'.os=s.os)(u:Un (frs X.stack) ch H H' s.heap s'.heap)(hok:HOk X.prog X.w H' s'.heap)(hg:Kf s'.gens)
  (hch:∀b∈ch,(b∈X.ex\/X.s₀.heap.objs.size<=b)/\b≠X.env.locals/\(∀x c,X.env.cells.lookup x=some c->c≠b)/\∀p∈X.pn++pins,p.1≠b):Inv X pins σ H' s':=by
 obtain⟨h',g',d',t',o'⟩:=s';have e:o'=s.os:=ho;subst e;exact I.call (g':=g') (t':=t') (d':=d') u hok hg hch
end
abbrev XK:=Value->Option Addr->Hp->Prop
abbrev St:=List (Option V)
abbrev VK:=V->Hp->Prop
abbrev TE:=St->Hp->VK->Prop
abbrev TT:=St->Hp->(Bool->Hp->Prop)->Prop
abbrev TA:=St->Hp->(List V->Hp->Prop)->Prop
structure tG where
 nx:St->Hp->Prop
 rt:VK
 bk:St->Hp->Prop:=λ_ _=>False
 ct:St->Hp->Prop:=λ_ _=>False
abbrev TS:=tG->St->Hp->Prop
noncomputable def EP(X:Cx)(pins:List (Addr×Obj))(σ:St)(Q:VK)(u:Value)(s':c_):Prop:=∃v H',Inv X pins σ H' s'/\bS v u/\Q v H'
noncomputable def TP(X:Cx)(pins:List (Addr×Obj))(σ:St)(Q:Bool->Hp->Prop)(b:Bool)(s':c_):Prop:=∃H',Inv X pins σ H' s'/\Q b H'
noncomputable def AP(X:Cx)(pins:List (Addr×Obj))(σ:St)(Q:List V->Hp->Prop)(us:List Value)(s':c_):Prop:=∃vs H',Inv X pins σ H' s'/\bK vs us/\Q vs H'
noncomputable def SP(X:Cx)(pins:List (Addr×Obj))(D:tG)(f:Flow)(s':c_):Prop :=
 match f with
 | .next=>∃σ' H',Inv X pins σ' H' s'/\D.nx σ' H'
 | .brk=>∃σ' H',Inv X pins σ' H' s'/\D.bk σ' H'
 | .cont=>∃σ' H',Inv X pins σ' H' s'/\D.ct σ' H'
 | .ret u=>∃v σ' H',Inv X pins σ' H' s'/\bS v u/\D.rt v H'
noncomputable def PE(X:Cx)(e:Expr)(t:TE):Prop :=
 ∀(pins:List (Addr×Obj)) (s:c_) (σ:St) (H:Hp) (Q:VK),Inv X pins σ H s->t σ H Q->wpAny (model X.prog X.w) X.A (eval e X.env) (EP X pins σ Q) X.xe s
noncomputable def PT(X:Cx)(e:Expr)(t:TT):Prop :=
 ∀(pins:List (Addr×Obj)) (s:c_) (σ:St) (H:Hp) (Q:Bool->Hp->Prop),Inv X pins σ H s->t σ H Q->wpAny (model X.prog X.w) X.A (isTrue e X.env (eval e X.env)) (TP X pins σ Q) X.xe s
noncomputable def PW(X:Cx)(e:Expr)(t:TT):Prop :=
 ∀(whole:Sem Value) (pins:List (Addr×Obj)) (s:c_) (σ:St) (H:Hp) (Q:Bool->Hp->Prop),Inv X pins σ H s->t σ H Q->wpAny (model X.prog X.w) X.A (isTrue e X.env whole) (TP X pins σ Q) X.xe s
def PW.pt{X:Cx}{e:Expr}{t:TT}(h:PW X e t):PT X e t:=h _
noncomputable def PA(X:Cx)(es:List Expr)(t:TA):Prop :=
 ∀(pos:Pos) (pins:List (Addr×Obj)) (s:c_) (σ:St) (H:Hp) (Q:List V->Hp->Prop),Inv X pins σ H s->t σ H Q->wpAny (model X.prog X.w) X.A (spliced (backTo pos (starEach es X.env))) (AP X pins σ Q) X.xe s
noncomputable def PS(X:Cx)(st:Stmt)(t:TS):Prop :=
 ∀(pins:List (Addr×Obj)) (s:c_) (σ:St) (H:Hp) (D:tG),Inv X pins σ H s->t D σ H->wpAny (model X.prog X.w) X.A (exec st X.env) (SP X pins D) X.xe s
noncomputable def PSs(X:Cx)(st:List Stmt)(t:TS):Prop :=
 ∀(pins:List (Addr×Obj)) (s:c_) (σ:St) (H:Hp) (D:tG),Inv X pins σ H s->t D σ H->wpAny (model X.prog X.w) X.A (execs st X.env) (SP X pins D) X.xe s
def thn{α:Type}{t:Sem α}{Q Q':α->c_->Prop}{M:Model}{A:w_}{E:Value->c_->Prop}{s:c_}(h:wpAny M A t Q E s)(hQ:∀a s,Q a s->Q' a s):wpAny M A t Q' E s:=E_ h hQ λ_ _ x=>x
section
variable {X:Cx}
noncomputable def bC(i:Nat):TE:=λσ H Q=>∃v,σ[i]?=some (some v)/\Q v H
def tC(v:V):TE:=λ_ H Q=>Q v H
def BA{i:Nat}{x:Str}{pos:Pos}(hN:X.N[i]?=some x)(hv:Vis X.env.scope x)(hd:(x == ("__debug__":Str))=false:=by decide)(hcd:(x == ("__classdict__":Str))=false:=by decide):PE X (.Name x pos) (bC i):=by
 intro pins s σ H Q I h;obtain⟨v,e,h⟩:=h;obtain⟨m,hn,hl⟩:=I.loc;obtain⟨u,r,l⟩:=hl i x v hN e hv;have fin:EP X pins σ Q u s:=⟨v,H,I,r,h⟩
 rcases l with ⟨hk,hm⟩|⟨hk,c,hc,hcell⟩
 .exact wpAny_Name (wpAny_loadName_local I.ok.kind hk hn hm fin) hd
 .rcases hk with hk|hk
  .exact wpAny_Name (wpAny_loadName_cell I.ok.kind hk hc hcell fin) hd
  .exact wpAny_Name (wpAny_loadName_free I.ok.kind hk hc hcell fin hcd) hd
def ax{i j pos}:PE X (.Constant (.int i) j pos) (tC (.int i)):=λ_ _ _ H _ I h=>wpAny_Constant_int ⟨.int i,H,I.tok _,⟨_,rfl⟩,h⟩
def eV{b j pos}:PE X (.Constant (.bool b) j pos) (tC (.bl b)):=λ_ _ _ H _ I h=>Constant_bool ⟨.bl b,H,I,rfl,h⟩
def tL{j pos}:PE X (.Constant .none j pos) (tC .non):=λ_ _ _ H _ I h=>Constant_none ⟨.non,H,I,rfl,h⟩
def BB{x j pos}:PE X (.Constant (.str x) j pos) (tC (.str x)):=λ_ _ _ H _ I h=>Calls.Constant_str ⟨.str x,H,I.tok _,⟨_,rfl⟩,h⟩
noncomputable def Gl(X:Cx)(x:Str):Prop:=X.env.kindOf x=some .globalImplicit
def gO{E:Value->c_->Prop}{pins:List (Addr×Obj)}{s:c_}{σ:St}{H:Hp}{x:Str}{u:Value}{pos:Pos}{Q:Value->c_->Prop}(I:Inv X pins σ H s)(hg:Gl X x)(hm:X.mg x=some u)(h:Q u s)
  (hd:(x == ("__debug__":Str))=false:=by decide):wpAny (model X.prog X.w) X.A (eval (.Name x pos) X.env) Q E s :=
 Kp I.ok.kind hg (Calls.loadGlobal_global (by rw [I.ok.glob];exact I.mod.glob.keeps I.bk) hm h) hd
def jn{E:Value->c_->Prop}{pins:List (Addr×Obj)}{s:c_}{σ:St}{H:Hp}{x:Str}{u:Value}{pos:Pos}{Q:Value->c_->Prop}(I:Inv X pins σ H s)(hg:Gl X x)(hm:X.mg x=none)(hv:bootBuiltins x=some u)(h:Q u s)
  (hn:x≠"__name__":=by decide) (hd:(x == ("__debug__":Str))=false:=by decide):wpAny (model X.prog X.w) X.A (eval (.Name x pos) X.env) Q E s:=by
 obtain⟨mb,h1,h2⟩:=I.mod.blt;exact Kp I.ok.kind hg (Calls.loadGlobal_builtin (by rw [I.ok.glob];exact I.mod.glob.keeps I.bk) hm (by rw [I.ok.blt];exact h1.keeps I.bk) ((h2 x hn).trans hv) h) hd
def zi{x:Str}{v:V}{u:Value}{pos:Pos}(hg:Gl X x)(hm:X.mg x=some u)(r:bS v u)(hd:(x == ("__debug__":Str))=false:=by decide):PE X (.Name x pos) (tC v) :=
 λ_ _ _ H _ I h=>gO I hg hm ⟨v,H,I,r,h⟩ hd
def fc{x:Str}{v:V}{u:Value}{pos:Pos}(hg:Gl X x)(hm:X.mg x=none)(hv:bootBuiltins x=some u)(r:bS v u)(hn:x≠"__name__":=by decide)(hd:(x == ("__debug__":Str))=false:=by decide):PE X (.Name x pos) (tC v) :=
 λ_ _ _ H _ I h=>jn I hg hm hv ⟨v,H,I,r,h⟩ hn hd
variable {a b:Expr}{ta tb:TE}{pos:Pos}
noncomputable def tB(t:TE):TT:=λσ H Q=>t σ H λx H1=>∃c,x=.bl c/\Q c H1
def BC{e:Expr}{t:TE}(h:PE X e t)(he:∀whole,isTrue e X.env whole=(do let v <- whole;standAt e.pos;holding [v] (truthy v)):=by intro _;rfl):PT X e (tB t):=by
 intro pins s σ H Q I hw;refine isTrue_plain (thn (h pins s σ H _ I hw) λv s1 ⟨x,H1,I1,r1,q1⟩=>?_) (he _);obtain⟨d,rfl,q⟩:=q1;cases r1;exact HV ⟨H1,I1,q⟩
variable {tA tB':TT}{rest:List Expr}
noncomputable def FQ(t u:TT):TT:=λσ H Q=>t σ H λc H1=>if c=true then u σ H1 Q else Q false H1
noncomputable def tOr(t u:TT):TT:=λσ H Q=>t σ H λc H1=>if c=true then Q true H1 else u σ H1 Q
noncomputable def Ed(t:TT):TT:=λσ H Q=>t σ H λc H1=>Q (!c) H1
def zj(ha:PT X a tA):PW X (.BoolOp .And [a] pos) tA:=by
 intro wh pins s σ H Q I h;refine isTrue_and (thn (ha pins s σ H Q I h) λc s1 e=>?_)
 cases c with
 | true=>exact isTrue_and_nil e
 | false=>exact e
def gC(ha:PT X a tA):PW X (.BoolOp .Or [a] pos) tA:=by
 intro wh pins s σ H Q I h;refine isTrue_or (thn (ha pins s σ H Q I h) λc s1 e=>?_)
 cases c with
 | false=>exact isTrue_or_nil e
 | true=>exact e
def BD(ha:PT X a tA)(hb:PW X (.BoolOp .And (b::rest) pos) tB'):PW X (.BoolOp .And (a::b::rest) pos) (FQ tA tB'):=by
 intro wh pins s σ H Q I h;refine isTrue_and (thn (ha pins s σ H _ I h) λc s1 ⟨H1,I1,q1⟩=>?_)
 cases c with
 | true=>exact hb wh pins s1 σ H1 Q I1 q1
 | false=>exact⟨H1,I1,q1⟩
def gw(ha:PT X a tA)(hb:PW X (.BoolOp .Or (b::rest) pos) tB'):PW X (.BoolOp .Or (a::b::rest) pos) (tOr tA tB'):=by
 intro wh pins s σ H Q I h;refine isTrue_or (thn (ha pins s σ H _ I h) λc s1 ⟨H1,I1,q1⟩=>?_)
 cases c with
 | true=>exact⟨H1,I1,q1⟩
 | false=>exact hb wh pins s1 σ H1 Q I1 q1
def dy(ha:PT X a tA):PT X (.UnaryOp .Not a pos) (Ed tA):=by
 intro pins s σ H Q I h;exact isTrue_not (ha pins s σ H (λc H1=>Q (!c) H1) I h)
noncomputable def zk(ta tb:TE):TE:=λσ H Q=>ta σ H λx H1=>∃c,x=.bl c/\if c=true then tb σ H1 Q else Q (.bl false) H1
noncomputable def BE(ta:TE):TE:=λσ H Q=>ta σ H λx H1=>∃c,x=.bl c/\Q (.bl (!c)) H1
def jo{op}{t:TE}(h:PE X a t):PE X (.BoolOp op [a] pos) t:=λpins s σ H Q I hw=>BoolOp_one (h pins s σ H Q I hw)
def io(ha:PE X a ta)(hb:PE X (.BoolOp .And (b::rest) pos) tb):PE X (.BoolOp .And (a::b::rest) pos) (zk ta tb):=by
 intro pins s σ H Q I h;refine BoolOp_and (thn (ha pins s σ H _ I h) λv s1 ⟨x,H1,I1,r1,q1⟩=>?_);obtain⟨c,rfl,q1⟩:=q1;cases r1;refine HV ?_
 cases c with
 | true=>exact hb pins s1 σ H1 Q I1 q1
 | false=>exact⟨.bl false,H1,I1,rfl,q1⟩
def yg(ha:PE X a ta):PE X (.UnaryOp .Not a pos) (BE ta):=by
 intro pins s σ H Q I h;refine UnaryOp_ (thn (ha pins s σ H _ I h) λv s1 ⟨x,H1,I1,r1,q1⟩=>?_);obtain⟨c,rfl,q1⟩:=q1;cases r1;exact not_of (HV ⟨.bl (!c),H1,I1,rfl,q1⟩)
noncomputable def tIf(t:TT)(ta tb:TE):TE:=λσ H Q=>t σ H λc H1=>if c=true then ta σ H1 Q else tb σ H1 Q
def wF{c:Expr}(hc:PT X c tA)(ha:PE X a ta)(hb:PE X b tb):PE X (.IfExp c a b pos) (tIf tA ta tb):=by
 intro pins s σ H Q I h;refine wpAny_IfExp (thn (hc pins s σ H _ I h) λd s1 ⟨H1,I1,q1⟩=>?_)
 cases d with
 | true=>exact ha pins s1 σ H1 Q I1 q1
 | false=>exact hb pins s1 σ H1 Q I1 q1
end
noncomputable def SqL(K:b_)(H:Hp)(a:Addr)(xs:List V):Prop :=
 Rd H a (.lst xs) \/
  ∃(o:Obj) (its:Array Value) (n:Nat),K.lookup a=some o/\o.cls=.type "list"/\o.dict=none/\o.data=.seq its n/\its.size<=sizeLine/\bK xs its.toList
noncomputable def SqT(K:b_)(H:Hp)(a:Addr)(xs:List V):Prop :=
 Rd H a (.tup xs) \/
  ∃(o:Obj) (its:Array Value) (n:Nat),K.lookup a=some o/\o.cls=.type "tuple"/\o.data=.seq its n/\its.size<=sizeLine/\bK xs its.toList
noncomputable def GL:Value->Option V
 | .none=>some .non
 | .bool b=>some (.bl b)
 | .int i _=>some (.int i)
 | .str x _=>some (.str x)
 | .bytes b _=>some (.byt b)
 | .float b _=>some (.flt b)
 | .ref a=>some (.ref a)
 | .type n=>some (.ty n)
 | _=>none
def bS.abs{x:V}{u:Value}(r:bS x u):GL u=some x:=by
 cases x with
 | non=>cases r;rfl
 | bl _=>cases r;rfl
 | int _=>obtain⟨t,rfl⟩:=r;rfl
 | str _=>obtain⟨t,rfl⟩:=r;rfl
 | byt _=>obtain⟨t,rfl⟩:=r;rfl
 | flt _=>obtain⟨t,rfl⟩:=r;rfl
 | ref _=>cases r;rfl
 | ty _=>cases r;rfl
def bS.inj{x y:V}{u:Value}(r:bS x u)(q:bS y u):x=y:=we (r.abs.symm.trans q.abs)
theorem bK.inj:∀{xs ys:List V}{us:List Value},bK xs us->bK ys us->xs=ys
 | _,_,_,.nil,.nil=>rfl
 | _,_,_,.cons r t,.cons r' t'=>by rw [r.inj r',bK.inj t t']
section
variable {X:Cx}{pins:List (Addr×Obj)}{σ:St}{H:Hp}{s:c_}{a:Addr}{xs ys:List V}
def SqL.of{K:b_}(h:H a=some (.lst xs)):SqL K H a xs:=.inl (.inl h)
def SqT.of{K:b_}(h:H a=some (.tup xs)):SqT K H a xs:=.inl (.inl h)
def Inv.list(I:Inv X pins σ H s)(h:SqL X.K H a xs):∃its:List Value,bK xs its/\PlainL s.heap a its.toArray/\xs.length<=sizeLine:=by
 rcases h with h|⟨o,its,n,hk,hc,hd,hs,hz,r⟩
 .obtain⟨z,its,n,r,e⟩:=h.ok I.hok;exact⟨its,r,⟨_,n,e,rfl,rfl,rfl⟩,z⟩
 .refine⟨its.toList,r,⟨o,n,I.kIn a o hk,hc,hd,by simpa using hs⟩,?_⟩;have e:=r.length;simp only [HD] at e;omega
def Inv.tuple(I:Inv X pins σ H s)(h:SqT X.K H a xs):∃its:List Value,bK xs its/\IsTup s.heap a its.toArray/\xs.length<=sizeLine:=by
 rcases h with h|⟨o,its,n,hk,hc,hs,hz,r⟩
 .obtain⟨z,its,r,p⟩:=h.ok I.hok;exact⟨its,r,p,z⟩
 .refine⟨its.toList,r,⟨o,I.kIn a o hk,hc,n,by simpa using hs⟩,?_⟩;have e:=r.length;simp only [HD] at e;omega
def Inv.list_inj(I:Inv X pins σ H s)(h:SqL X.K H a xs)(h':SqL X.K H a ys):xs=ys:=by
 obtain⟨its,r,⟨o,n,e,_,_,d⟩,_⟩:=I.list h;obtain⟨its',r',⟨o',n',e',_,_,d'⟩,_⟩:=I.list h';rw [e] at e';cases e';rw [d] at d';injection d' with d1 _;have:its=its':=by simpa using congrArg Lx d1
 subst this;exact r.inj r'
def Inv.tuple_inj(I:Inv X pins σ H s)(h:SqT X.K H a xs)(h':SqT X.K H a ys):xs=ys:=by
 obtain⟨its,r,⟨o,e,_,n,d⟩,_⟩:=I.tuple h;obtain⟨its',r',⟨o',e',_,n',d'⟩,_⟩:=I.tuple h';rw [e] at e';cases e';rw [d] at d';injection d' with d1 _;have:its=its':=by simpa using congrArg Lx d1
 subst this;exact r.inj r'
end
abbrev Cx.wish(X:Cx)(E:Value->c_->Prop):Cx:={ X with xe:=E }
abbrev Cx.nox(X:Cx):Cx:=X.wish λ_ _=>False
def Cx.Ok.wish{X:Cx}(ok:X.Ok)(E:Value->c_->Prop):(X.wish E).Ok :=
 ⟨ok.mod,ok.kind,ok.glob,ok.blt,ok.above,ok.inj,ok.has,ok.cab,ok.hd,ok.frames,ok.stk,ok.exf,ok.bs,ok.bsz,ok.noex,ok.exfs,ok.funs,ok.frf,ok.tb⟩
def Cx.Ok.unwish{X:Cx}{E:Value->c_->Prop}(ok:(X.wish E).Ok):X.Ok :=
 ⟨ok.mod,ok.kind,ok.glob,ok.blt,ok.above,ok.inj,ok.has,ok.cab,ok.hd,ok.frames,ok.stk,ok.exf,ok.bs,ok.bsz,ok.noex,ok.exfs,ok.funs,ok.frf,ok.tb⟩
section
variable {X:Cx}{pins:List (Addr×Obj)}{σ:St}{H:Hp}{s:c_}{E:Value->c_->Prop}
def Inv.wish(I:Inv X pins σ H s)(E:Value->c_->Prop):Inv (X.wish E) pins σ H s:=⟨I.ok.wish E,I.os,I.bare,I.base,I.loc,I.cell,I.free,I.freeC,I.pin,I.hok,I.len⟩
def Inv.unwish(I:Inv (X.wish E) pins σ H s):Inv X pins σ H s:=⟨I.ok.unwish,I.os,I.bare,I.base,I.loc,I.cell,I.free,I.freeC,I.pin,I.hok,I.len⟩
def SP.unwish{D:tG}{f:Flow}{s':c_}(h:SP (X.wish E) pins D f s'):SP X pins D f s':=by
 cases f with
 | next=>obtain⟨σ',H',I,q⟩:=h;exact⟨σ',H',I.unwish,q⟩
 | brk=>obtain⟨σ',H',I,q⟩:=h;exact⟨σ',H',I.unwish,q⟩
 | cont=>obtain⟨σ',H',I,q⟩:=h;exact⟨σ',H',I.unwish,q⟩
 | ret u=>obtain⟨v,σ',H',I,r,q⟩:=h;exact⟨v,σ',H',I.unwish,r,q⟩
def PT.nox{e:Expr}{t:TT}(h:PT X.nox e t):PT X e t:=λpins s σ H Q I hw =>
 E_ (h pins s σ H Q (I.wish _) hw) (λ_ _ ⟨H',I',q⟩=>⟨H',I'.unwish,q⟩) λ_ _ z=>HB z
def PSs.nox{st:List Stmt}{t:TS}(h:PSs X.nox st t):PSs X st t:=λpins s σ H D I hw =>
 E_ (h pins s σ H D (I.wish _) hw) (λ_ _ q=>q.unwish) λ_ _ z=>HB z
end
section
variable {X:Cx}{st:Stmt}{rest:List Stmt}{t u:TS}{e:Expr}{te:TE}{pos:Pos}
def zl:TS:=λD σ H=>D.nx σ H
noncomputable def yh(t u:TS):TS:=λD σ H=>t { D with nx:=u D } σ H
def aI:PSs X [] zl:=λ_ _ σ H _ I h=>J8 ⟨σ,H,I,h⟩
def aj(h1:PS X st t)(h2:PSs X rest u):PSs X (st::rest) (yh t u):=by
 intro pins s σ H D I h;refine wpAny_execs_cons (thn (h1 pins s σ H { D with nx:=u D } I h) λf s1 q=>?_)
 cases f with
 | next =>
  obtain⟨σ',H',I',q⟩:=q;exact h2 pins s1 σ' H' D I' q
 | ret v=>exact q
 | brk=>exact q
 | cont=>exact q
def ao(h1:PS X st t):PSs X [st] t:=by
 intro pins s σ H D I h;refine wpAny_execs_cons (thn (h1 pins s σ H D I h) λf s1 q=>?_)
 cases f with
 | next=>exact J8 q
 | ret v=>exact q
 | brk=>exact q
 | cont=>exact q
def Inv.quiet{pins:List (Addr×Obj)}{σ:St}{H:Hp}{s:c_}(I:Inv X pins σ H s):interactive X.env=false:=by simp [interactive,I.ok.kind]
noncomputable def zo(te:TE):TS:=λD σ H=>te σ H λ_ H1=>D.nx σ H1
def fQ(he:PE X e te)(hs:swapsWith e none pos.line X.env=pure false:=by rfl):PS X (.Expr e pos) (zo te):=by
 intro pins s σ H D I h;exact wpAny_Expr_any (thn (he pins s σ H _ I h) λv s1 ⟨x,H1,I1,r1,q1⟩=>⟨σ,H1,I1,q1⟩) I.quiet hs
def Ee(te:TE):TS:=λD σ H=>te σ H D.rt
def aQ(he:PE X e te):PS X (.Return (some e) pos) (Ee te):=by
 intro pins s σ H D I h;exact wpAny_Return_some (thn (he pins s σ H _ I h) λv s1 ⟨x,H1,I1,r1,q1⟩=>⟨x,σ,H1,I1,r1,q1⟩)
noncomputable def Ef(c:TT)(t u:TS):TS:=λD σ H=>c σ H λb H1=>if b=true then t D σ H1 else u D σ H1
def bQ{c:Expr}{a b:List Stmt}{tc:TT}(hc:PT X c tc)(ha:PSs X a t)(hb:PSs X b u):PS X (.If c a b pos) (Ef tc t u):=by
 intro pins s σ H D I h;refine wpAny_If (thn (hc pins s σ H _ I h) λd s1 ⟨H1,I1,q1⟩=>?_)
 cases d with
 | true=>exact ha pins s1 σ H1 D I1 q1
 | false=>exact hb pins s1 σ H1 D I1 q1
end
abbrev TG:=V->St->Hp->(St->Hp->Prop)->Prop
abbrev TGs:=List V->St->Hp->(St->Hp->Prop)->Prop
noncomputable def PG(X:Cx)(target:Expr)(t:TG):Prop :=
 ∀(pins:List (Addr×Obj)) (s:c_) (σ:St) (H:Hp) (v:V) (u:Value) (Q:St->Hp->Prop),Inv X pins σ H s->bS v u->t v σ H Q ->
  wpAny (model X.prog X.w) X.A (assign target X.env u) (λ_ s'=>∃σ' H',Inv X pins σ' H' s'/\Q σ' H') X.xe s
noncomputable def PGs(X:Cx)(ts:List Expr)(t:TGs):Prop :=
 ∀(pins:List (Addr×Obj)) (s:c_) (σ:St) (H:Hp) (vs:List V) (us:List Value) (Q:St->Hp->Prop),Inv X pins σ H s->bK vs us->t vs σ H Q ->
  wpAny (model X.prog X.w) X.A (assignInOrder ((assignEach ts X.env).map (·.2)) us) (λ_ s'=>∃σ' H',Inv X pins σ' H' s'/\Q σ' H') X.xe s
abbrev BF:=V->V->V->Hp->(Hp->Prop)->Prop
noncomputable def Eg(X:Cx)(t:BF):Prop :=
 ∀(pins:List (Addr×Obj)) (s:c_) (σ:St) (H:Hp) (o i v:V) (ov iv u:Value) (Q:Hp->Prop),Inv X pins σ H s->bS o ov->bS i iv->bS v u->t o i v H Q ->
  wpAny (model X.prog X.w) X.A (setItem ov iv u) (λ_ s'=>∃H',Inv X pins σ H' s'/\Q H') X.xe s
abbrev TIp:=V->V->Hp->VK->Prop
noncomputable def PIp(X:Cx)(op:Operator)(t:TIp):Prop :=
 ∀(pins:List (Addr×Obj)) (s:c_) (σ:St) (H:Hp) (x y:V) (v u:Value) (Q:VK),Inv X pins σ H s->bS x v->bS y u->t x y H Q ->
  wpAny (model X.prog X.w) X.A (inplaceOp op v u) (EP X pins σ Q) X.xe s
section
variable {X:Cx}{pos:Pos}
noncomputable def bN(i:Nat):TG:=λv σ H Q=>Q (σ.set i (some v)) H
theorem aD{i:Nat}{x:Str}(hN:X.N.Nodup)(hi:X.N[i]?=some x)(hx:Loc X.env.scope x)(hf:X.fn x=true\/X.env.scope.names.lookup x=some .local:=by first|exact .inl rfl|exact .inr rfl|assumption):PG X (.Name x pos) (bN i):=by
 intro pins s σ H v u Q I r h;exact wpAny_assign_Name (et I hN hi hx r (λs' I'=>⟨_,H,I',h⟩) hf)
def DX:TGs:=λvs σ H Q=>vs=[]/\Q σ H
noncomputable def pQ(t:TG)(u:TGs):TGs:=λvs σ H Q=>∃v r,vs=v::r/\t v σ H λσ' H'=>u r σ' H' Q
def ml:PGs X [] DX:=by
 intro pins s σ H vs us Q I r h;obtain⟨e,h⟩:=h;subst e;cases r;exact assignInOrder_nil ⟨σ,H,I,h⟩
def dC{e:Expr}{es:List Expr}{t:TG}{u:TGs}(h1:PG X e t)(h2:PGs X es u)
  (hs:(assignEach (e::es) X.env).map (·.2)=assign e X.env::(assignEach es X.env).map (·.2):=by rfl):PGs X (e::es) (pQ t u):=by
 intro pins s σ H vs us Q I r h;obtain⟨v,vr,e1,h⟩:=h;subst e1
 cases r with
 | cons r rr =>
  rw [hs];refine Jy (thn (h1 pins s σ H _ _ _ I r h) λ_ s1 ⟨σ1,H1,I1,q1⟩=>?_);exact h2 pins s1 σ1 H1 _ _ Q I1 rr q1
noncomputable def GM(K:b_)(n:Nat)(t:TGs):TG:=λv σ H Q=>∃a xs,v=.ref a/\SqT K H a xs/\xs.length=n/\t xs σ H Q
def BG{es:List Expr}{k:Nat}{t:TGs}{n:Nat}(hc:X.calm=true)(h:PGs X es t)
  (hn:(assignEach es X.env).length=n:=by rfl) (hst:(assignEach es X.env).findIdx? (·.1)=none:=by rfl):PG X (.Tuple es k pos) (GM X.K n t):=by
 intro pins s σ H v u Q I r hw;obtain⟨a,xs,e1,hq,hl,hw⟩:=hw;subst e1;cases r;obtain⟨its,rv,ht,hz⟩:=I.tuple hq;refine assign_Tuple_tuple (I.ok.hd hc) ht (by simp [hn,<- hl,rv.length]) hst λh' hx=>?_;have I1:Inv X pins σ H { s with heap:=h' }:=I.kept (t':=s.toks) λb o e=>hx b o (Hj (k_ e)) e;exact h pins _ σ H xs _ Q I1 (by simpa using rv) hw
noncomputable def DY(to ti:TE)(t:BF):TG:=λv σ H Q=>to σ H λo H1=>ti σ H1 λi H2=>t o i v H2 λH3=>Q σ H3
def tM{o i:Expr}{to ti:TE}{t:BF}(ho:PE X o to)(hi:PE X i ti)(hs:Eg X t)
  (ha:∀v,assign (.Subscript o i pos) X.env v=(do
   let ov <- holding [v] (eval o X.env)
   let iv <- holding [v,ov] (eval i X.env)
   standAt pos
   holding [v,ov,iv] (setItem ov iv v)
   release [v,ov,iv] []):=by intro _;rfl):PG X (.Subscript o i pos) (DY to ti t):=by
 intro pins s σ H v u Q I r h;rw [ha];refine cy (Hu (thn (ho pins s σ H _ I h) λov s1 ⟨x,H1,I1,r1,q1⟩=>?_));refine cy (Hu (thn (hi pins s1 σ H1 _ I1 q1) λiv s2 ⟨y,H2,I2,r2,q2⟩=>?_));refine cy (HI (cy (Hu (thn (hs pins s2 σ H2 x y v ov iv u _ I2 r1 r2 r q2) λ_ s3 ⟨H3,I3,q3⟩=>?_))));exact wpAny_release ⟨σ,H3,I3,q3⟩
noncomputable def wq(te:TE)(g:TG):TS:=λD σ H=>te σ H λx H1=>g x σ H1 D.nx
def tO{tg e:Expr}{te:TE}{g:TG}(he:PE X e te)(hg:PG X tg g)(hs:swapsWithSole [tg] e pos.line X.env=pure false:=by rfl)(hw:swappedStores [tg] e X.env=pure none:=by rfl)
  (h1:(assignEach [tg] X.env).map (·.2)=[assign tg X.env]:=by rfl):PS X (.Assign [tg] e pos) (wq te g):=by
 intro pins s σ H D I h;refine wpAny_Assign_stores (thn (he pins s σ H _ I h) λv s1 ⟨x,H1,I1,r1,q1⟩=>?_) hs hw;rw [h1];exact thn (hg pins s1 σ H1 x v _ I1 r1 q1) λ_ s2 q=>q
theorem aG{i:Nat}{x:Str}{e:Expr}{te:TE}{pos':Pos}(hN:X.N.Nodup)(hi:X.N[i]?=some x)(hx:Loc X.env.scope x)(he:PE X e te)(hs:swapsWith e (some (.Name x pos')) pos.line X.env=pure false:=by rfl)(hf:X.fn x=true\/X.env.scope.names.lookup x=some .local:=by first|exact .inl rfl|exact .inr rfl|assumption) :
  PS X (.Assign [.Name x pos'] e pos) (wq te (bN i)):=by
 intro pins s σ H D I h;refine wpAny_Assign_Name (thn (he pins s σ H _ I h) λv s1 ⟨y,H1,I1,r1,q1⟩=>?_) hs;exact et I1 hN hi hx r1 (λs2 I2=>⟨_,H1,I2,q1⟩) hf
noncomputable def BH(to ti te:TE)(tget:V->V->Hp->VK->Prop)(tip:TIp)(tset:BF):TS:=λD σ H=>to σ H λo H1=>ti σ H1 λi H2=>tget o i H2 λx H3=>te σ H3 λy H4=>tip x y H4 λz H5=>tset o i z H5 λH6=>D.nx σ H6
noncomputable def FS(X:Cx)(t:V->V->Hp->VK->Prop):Prop :=
 ∀(pins:List (Addr×Obj)) (s:c_) (σ:St) (H:Hp) (o i:V) (ov iv:Value) (Q:VK),Inv X pins σ H s->bS o ov->bS i iv->t o i H Q ->
  wpAny (model X.prog X.w) X.A (getItem ov iv) (EP X pins σ Q) X.xe s
def pR{o i e:Expr}{to ti te:TE}{tget:V->V->Hp->VK->Prop}{tip:TIp}{tset:BF}{op:Operator}{tpos:Pos}(ho:PE X o to)(hi:PE X i ti)(hg:FS X tget)(he:PE X e te)(hp:PIp X op tip)(hs:Eg X tset)
  (ha:∀ov iv new,augStore i ov iv new=(do holding [new,ov,iv] (setItem ov iv new);release [new,ov,iv] [];pure .next):=by intros;rfl):PS X (.AugAssign (.Subscript o i tpos) op e pos) (BH to ti te tget tip tset):=by
 intro pins s σ H D I h;refine wpAny_AugAssign_SubscriptAny (thn (ho pins s σ H _ I h) λov s1 ⟨x1,H1,I1,r1,q1⟩=>?_) ha;refine thn (hi pins s1 σ H1 _ I1 q1) λiv s2 ⟨x2,H2,I2,r2,q2⟩=>?_;refine thn (hg pins s2 σ H2 x1 x2 ov iv _ I2 r1 r2 q2) λold s3 ⟨x3,H3,I3,r3,q3⟩=>?_;refine thn (he pins s3 σ H3 _ I3 q3) λv s4 ⟨x4,H4,I4,r4,q4⟩=>?_;refine thn (hp pins s4 σ H4 x3 x4 old v _ I4 r3 r4 q4) λnew s5 ⟨x5,H5,I5,r5,q5⟩=>?_
 exact thn (hs pins s5 σ H5 x1 x2 x5 ov iv new _ I5 r1 r2 r5 q5) λ_ s6 ⟨H6,I6,q6⟩=>⟨σ,H6,I6,q6⟩
noncomputable def ipI(f:Int->Int->Int):TIp:=λx y H Q=>∃i j,x=.int i/\y=.int j/\Q (.int (f i j)) H
def BI:PIp X .Add (ipI λi j=>i+j):=by
 intro pins s σ H x y v u Q I r1 r2 h;obtain⟨i,j,e1,e2,q⟩:=h;subst e1;subst e2;obtain⟨t,rfl⟩:=r1;obtain⟨t',rfl⟩:=r2;exact iadd_int ⟨.int _,H,I.tok _,⟨_,rfl⟩,q⟩
def yi:PIp X .Sub (ipI λi j=>i - j):=by
 intro pins s σ H x y v u Q I r1 r2 h;obtain⟨i,j,e1,e2,q⟩:=h;subst e1;subst e2;obtain⟨t,rfl⟩:=r1;obtain⟨t',rfl⟩:=r2;exact isub_int ⟨.int _,H,I.tok _,⟨_,rfl⟩,q⟩
end
section
variable {X:Cx}{pos:Pos}
noncomputable def yj(c:TT)(tb:TS):TS:=λD σ H=>∃W:Nat->St->Hp->Prop,(∃m,W m σ H)/\∀m σ H,W m σ H ->
 c σ H λb H1=>if b=true then ∃N:St->Hp->Prop,(∀σ' H',N σ' H'->∃m',m'<m/\W m' σ' H')/\tb { D with nx:=N,ct:=N,bk:=D.nx } σ H1 else D.nx σ H1
def mm{c:Expr}{body:List Stmt}{tc:TT}{tb:TS}(hp:PassesOwn (model X.prog X.w) X.A X.env X.xe)(hc:PT X c tc)(hb:PSs X body tb):PS X (.While c body [] pos) (yj tc tb):=by
 intro pins s σ H D I h;obtain⟨W,⟨m0,w0⟩,turn⟩:=h;refine wpAny_While (codeAny_whileLoop (λn s'=>∃σ' H',Inv X pins σ' H' s'/\W n σ' H') ?_ m0 ⟨σ,H,I,w0⟩);rintro n s1 ⟨σ1,H1,I1,w1⟩;refine IH hp (thn (hc pins s1 σ1 H1 _ I1 (turn n σ1 H1 w1)) λb s2 ⟨H2,I2,q2⟩=>?_)
 cases b with
 | true =>
  obtain⟨N,hN,q2⟩:=q2;rw [if_pos rfl];refine IH hp (thn (hb pins s2 σ1 H2 _ I2 q2) λf s3 q3=>?_)
  cases f with
  | next =>
   obtain⟨σ3,H3,I3,n3⟩:=q3;obtain⟨m',hm,w3⟩:=hN σ3 H3 n3;exact⟨m',hm,σ3,H3,I3,w3⟩
  | cont =>
   obtain⟨σ3,H3,I3,n3⟩:=q3;obtain⟨m',hm,w3⟩:=hN σ3 H3 n3;exact⟨m',hm,σ3,H3,I3,w3⟩
  | brk=>exact q3
  | ret v=>exact q3
 | false =>
  rw [if_neg m_];exact J8 ⟨σ1,H2,I2,q2⟩
end
structure It where
 go:Nat->Hp->Prop
 yld:Nat->Hp->V->Hp->Prop
 stop:Nat->Hp->Prop
noncomputable def pS(X:Cx)(pins:List (Addr×Obj))(H:Hp)(b:Addr):Prop :=
 H b=none/\b≠X.env.locals/\b∉X.fs/\(b∈X.ex\/X.s₀.heap.objs.size<=b)/\(∀x c,X.env.cells.lookup x=some c->c≠b)/\∀p∈X.pn++pins,p.1≠b
def Inv.fpOk{X:Cx}{pins:List (Addr×Obj)}{σ:St}{H H':Hp}{s:c_}{b:Addr}(I:Inv X pins σ H s)(hb:s.heap.objs.size<=b)(hn:H' b=none):pS X pins H' b:=by
 refine⟨hn,Kq (s_ I.lt hb),I.nofs hb,.inr (HP I.sz hb),λx c e z=>?_,λp hp z=>?_⟩
 .obtain⟨v,q⟩:=I.cell x c e;exact absurd (s_ q.lt (by rw [z];exact hb)) (HN _)
 .exact absurd (s_ (k_ (I.pin p hp).1) (by rw [z];exact hb)) (HN _)
structure zp (P:so) (w:World) (K:b_) (tg:Expr) (J:It) (fp:List Addr) (it:Addr) (tn:Nat->Heap->Prop):Prop where
 mem:it∈fp
 obj:∀i h,tn i h->∀b∈fp,∃o,h.get? b=some o/\∀v,o.data≠.cell v
 keep:∀i h h',tn i h->(∀b∈fp,∀o,h.get? b=some o->h'.get? b=some o)->tn i h'
 item:∀(X:Cx),X.prog=P->X.w=w->X.K=K->X.calm=true->∀(i:Nat) (pins:List (Addr×Obj)) (s:c_) (σ:St) (H:Hp) (E:Value->c_->Prop),Inv X pins σ H s->(∀b∈fp,pS X pins H b)->tn i s.heap->J.go i H ->
  wpAny (model P w) X.A (pyNext (.ref it)) (λr s1=>∃u,r=some u /\
   wpAny (model P w) X.A (letOwnedTupleGo tg (.ref it) u) (λ_ s2=>∃x H',Inv X pins σ H' s2/\bS x u/\J.yld i H x H'/\tn (i+1) s2.heap/\∀b∈fp,H' b=none) E s1) E s
 done:∀(X:Cx),X.prog=P->X.w=w->X.K=K->X.calm=true->∀(i:Nat) (pins:List (Addr×Obj)) (s:c_) (σ:St) (H:Hp) (E:Value->c_->Prop),Inv X pins σ H s->(∀b∈fp,pS X pins H b)->tn i s.heap->J.stop i H ->
  wpAny (model P w) X.A (pyNext (.ref it)) (λr s1=>r=none/\Inv X pins σ H s1) E s
 self:∀(A:w_) (i:Nat) (s:c_) (Q:Value->c_->Prop) (E:Value->c_->Prop),tn i s.heap->Q (.ref it) s->wpAny (model P w) A (pyIter (.ref it)) Q E s
abbrev TI:=St->Hp->(It->Hp->Prop)->Prop
noncomputable def PIE(X:Cx)(pins:List (Addr×Obj))(σ:St)(tg:Expr)(R:It->Hp->Prop)(itv:Value)(s2:c_):Prop :=
 ∃(it:Addr) (fp:List Addr) (tn:Nat->Heap->Prop) (J:It) (H':Hp),itv=.ref it/\Inv X pins σ H' s2/\zp X.prog X.w X.K tg J fp it tn/\tn 0 s2.heap/\(∀b∈fp,pS X pins H' b)/\R J H'
noncomputable def PI(X:Cx)(tg iter:Expr)(wi:TI):Prop :=
 ∀(pins:List (Addr×Obj)) (s:c_) (σ:St) (H:Hp) (R:It->Hp->Prop),Inv X pins σ H s->wi σ H R ->
  wpAny (model X.prog X.w) X.A (eval iter X.env) (λv s1=>wpAny (model X.prog X.w) X.A (pyIter v) (PIE X pins σ tg R) X.xe s1) X.xe s
def wG{M:Model}{A:w_}{E:Value->c_->Prop}{s:c_}{tg:Expr}{it:Addr}{u:Value}{o:Obj}{n:String}{vs:Array Value}{Q:Unit->c_->Prop}(ho:s.heap.get? it=some o)(hc:o.cls=.type n)(hd:o.data=.fields vs)
    (hn:["enumerate","zip","dict_itemiterator","dict_reverseitemiterator","odict_iterator","itertools.zip_longest","itertools.pairwise"].contains n=false) (hQ:Q () s):wpAny M A (letOwnedTupleGo tg (.ref it) u) Q E s:=by
  unfold letOwnedTupleGo
  cases tg <;> first
    | exact l_ hQ
    | (cases u <;> first
        | exact l_ hQ
        | (refine cy (wpAny_load ho ?_)
           rw [hc,hd];show wpAny M A (if (["enumerate","zip","dict_itemiterator","dict_reverseitemiterator","odict_iterator","itertools.zip_longest","itertools.pairwise"].contains n && vs[0]? == some (rawInt _))=true then _ else _) Q E s;rw [if_neg (by intro h;rw [hn,Hn] at h;cases h)];exact l_ hQ))
noncomputable def Itl(K:b_)(a:Addr):It :=
 ⟨λi H=>∃xs x,SqL K H a xs/\xs[i]?=some x,λi H x H'=>H'=H/\∀xs,SqL K H a xs->xs[i]?=some x,λi H=>∃xs,SqL K H a xs/\xs.length<=i⟩
noncomputable def Itt(K:b_)(a:Addr):It :=
 ⟨λi H=>∃xs x,SqT K H a xs/\xs[i]?=some x,λi H x H'=>H'=H/\∀xs,SqT K H a xs->xs[i]?=some x,λi H=>∃xs,SqT K H a xs/\xs.length<=i⟩
noncomputable def Itr(lo:Int)(n:Nat):It:=⟨λi _=>i<n,λi H x H'=>H'=H/\x=.int (lo+i),λi _=>n<=i⟩
def tP{P:so}{w:World}{K:b_}{tg:Expr}(a it:Addr):zp P w K tg (Itl K a) [it] it (λi h=>h.IsListIter it a i) where
 mem:=by simp
 obj:=λi h st b hb=>by
  have e:b=it:=by simpa using hb
  subst e;obtain⟨o,e,c,d⟩:=st;exact⟨o,e,λv z=>by rw [d] at z;cases z⟩
 keep:=λi h h' st k=>st.at λo e=>k it (by simp) o e
 item:=by
  intro X hP hw hK hc i pins s σ H E I hf st hg;subst hP hw hK;obtain⟨xs,x,hq,hx⟩:=hg;obtain⟨its,rv,p,hz⟩:=I.list hq;obtain⟨u,hu,ru⟩:=rv.get hx;obtain⟨f0,f1,f2,f3,f4,f5⟩:=hf it (by simp);refine wpAny_pyNext_list_item st p.isList (x:=u) (by simpa using hu) λh' st' sb=>?_;have I1:Inv X pins σ H { s with heap:=h' }:=I.turned (t':=s.toks) (λb o hb e=>(sb.2 b hb).trans e) f0 f1 f3 f4 f5;obtain⟨o,e,c,d⟩:=id st'
  exact⟨u,rfl,wG (s:={ s with heap:=h' }) e c d (by decide) ⟨x,H,I1,ru,⟨rfl,λys hy=>by rw [I.list_inj hy hq];exact hx⟩,st',λb hb=>(hf b hb).1⟩⟩
 done:=by
  intro X hP hw hK hc i pins s σ H E I hf st hg;subst hP hw hK;obtain⟨xs,hq,hx⟩:=hg;obtain⟨its,rv,p,hz⟩:=I.list hq;obtain⟨f0,f1,f2,f3,f4,f5⟩:=hf it (by simp);have hl:=rv.length;exact wpAny_pyNext_list_end (I.ok.hd hc) st p.isList (by simp;omega) λh' eb=>⟨rfl,I.turned (t':=s.toks) (λb o hb e=>eb b o hb e) f0 f1 f3 f4 f5⟩
 self:=λ_ _ _ _ _ st h=>wpAny_pyIter_listiter st h
def r8{P:so}{w:World}{K:b_}{tg:Expr}(a it:Addr):zp P w K tg (Itt K a) [it] it (λi h=>h.IsTupleIter it a i) where
 mem:=by simp
 obj:=λi h st b hb=>by
  have e:b=it:=by simpa using hb
  subst e;obtain⟨o,e,c,d⟩:=st;exact⟨o,e,λv z=>by rw [d] at z;cases z⟩
 keep:=λi h h' st k=>st.at λo e=>k it (by simp) o e
 item:=by
  intro X hP hw hK hc i pins s σ H E I hf st hg;subst hP hw hK;obtain⟨xs,x,hq,hx⟩:=hg;obtain⟨its,rv,p,hz⟩:=I.tuple hq;obtain⟨u,hu,ru⟩:=rv.get hx;obtain⟨f0,f1,f2,f3,f4,f5⟩:=hf it (by simp);refine wpAny_pyNext_tuple_item st (show s.heap.IsTuple a its.toArray from p) (x:=u) (by simpa using hu) λh' st' sb=>?_;have I1:Inv X pins σ H { s with heap:=h' }:=I.turned (t':=s.toks) (λb o hb e=>(sb.2 b hb).trans e) f0 f1 f3 f4 f5
  obtain⟨o,e,c,d⟩:=id st';exact⟨u,rfl,wG (s:={ s with heap:=h' }) e c d (by decide) ⟨x,H,I1,ru,⟨rfl,λys hy=>by rw [I.tuple_inj hy hq];exact hx⟩,st',λb hb=>(hf b hb).1⟩⟩
 done:=by
  intro X hP hw hK hc i pins s σ H E I hf st hg;subst hP hw hK;obtain⟨xs,hq,hx⟩:=hg;obtain⟨its,rv,p,hz⟩:=I.tuple hq;obtain⟨f0,f1,f2,f3,f4,f5⟩:=hf it (by simp);have hl:=rv.length;exact wpAny_pyNext_tuple_end (I.ok.hd hc) st (show s.heap.IsTuple a its.toArray from p) (by simp;omega) λh' eb=>⟨rfl,I.turned (t':=s.toks) (λb o hb e=>eb b o hb e) f0 f1 f3 f4 f5⟩
 self:=λ_ _ _ _ _ st h=>wpAny_pyIter_tupleiter st h
def sh{P:so}{w:World}{K:b_}{tg:Expr}(it:Addr)(lo:Int)(n:Nat):zp P w K tg (Itr lo n) [it] it (λi h=>IsRangeIter h it (lo+(i:Nat)*1) ((n:Int) - (i:Nat)) 1) where
 mem:=by simp
 obj:=λi h st b hb=>by
  have e:b=it:=by simpa using hb
  subst e
  exact⟨_,st,λv z=>by
   have z':Data.fields _=Data.cell v:=z;cases z'⟩
 keep:=λi h h' st k=>k it (by simp) _ st
 item:=by
  intro X hP hw hK hc i pins s σ H E I hf st hg;subst hP hw hK;obtain⟨f0,f1,f2,f3,f4,f5⟩:=hf it (by simp);have W:=Walks.range (prog:=X.prog) (w:=X.w) (I.ok.hd hc) it lo 1 n;refine W.item i s _ _ hg st λv h' tk hv st' kk=>?_;obtain⟨t,rfl⟩:=hv;have I1:Inv X pins σ H { s with heap:=h',toks:=tk }:=I.turned (λb o hb e=>kk b o (by simpa using hb) e) f0 f1 f3 f4 f5;refine⟨_,rfl,wG (s:={ s with heap:=h',toks:=tk }) (n:="range_iterator") st' rfl rfl (by decide) ⟨.int (lo+i),H,I1,⟨t,?_⟩,⟨rfl,rfl⟩,st',λb hb=>(hf b hb).1⟩⟩
  rw [mul_one]
 done:=by
  intro X hP hw hK hc i pins s σ H E I hf st hg;subst hP hw hK;obtain⟨f0,f1,f2,f3,f4,f5⟩:=hf it (by simp);exact wpAny_pyNext_range_end (I.ok.hd hc) st (by have:n<=i:=hg;omega) λh' eb=>⟨rfl,I.turned (t':=s.toks) (λb o hb e=>eb b o hb e) f0 f1 f3 f4 f5⟩
 self:=λ_ _ _ _ _ st h=>wpAny_pyIter_rangeiter st h
section
variable {X:Cx}{tg:Expr}
def wH{pins:List (Addr×Obj)}{σ:St}{H:Hp}{s:c_}{R:It->Hp->Prop}{E:Value->c_->Prop}{lo hi:Int}{t u v:Tok}{tk:Nat}(I:Inv X pins σ H s)(h1:-(2^62)<=lo)(h2:lo<2^62)(h3:-(2^62)<=hi)(h4:hi<2^62)
  (q:R (Itr lo (hi - lo).toNat) H):wpAny (model X.prog X.w) X.A (pyIter (.ref s.heap.objs.size)) (PIE X pins σ tg R) E { s with heap:=s.heap.push { cls:=.type "range",data:=.fields #[.int lo t,.int hi u,.int 1 v] },toks:=tk }:=by
 refine wpAny_pyIter_range (IsRange.new ..) (small_one h1 h2 h3 h4) ?_;have I1:Inv X pins σ H { s with heap:=s.heap.push { cls:=.type "range",data:=.fields #[.int lo t,.int hi u,.int 1 v] },toks:=tk }:=I.kept λb o e=>f_ _ e
 refine⟨(s.heap.push { cls:=.type "range",data:=.fields #[.int lo t,.int hi u,.int 1 v] }).objs.size,[(s.heap.push { cls:=.type "range",data:=.fields #[.int lo t,.int hi u,.int 1 v] }).objs.size],_,_,H,rfl,
  I1.kept (t':=tk) λb o e=>f_ _ e,sh _ lo (hi - lo).toNat,?_,λb hb=>?_,q⟩
 .have e1:lo+((0:Nat):Int)*1=lo:=by simp
  have e2:(((hi - lo).toNat:Nat):Int) - ((0:Nat):Int)=IS lo hi 1:=by rw [rangeSize_one];split <;> omega
  show IsRangeIter _ _ (lo+((0:Nat):Int)*1) ((((hi - lo).toNat:Nat):Int) - ((0:Nat):Int)) 1;rw [e1,e2];exact p_ _ rfl
 .have e:b=(s.heap.push { cls:=.type "range",data:=.fields #[.int lo t,.int hi u,.int 1 v] }).objs.size:=by simpa using hb
  subst e;exact I1.fpOk (g_ _) (I1.hok.fresh (g_ _))
noncomputable def ny(ta:TA):TI:=λσ H R=>ta σ H λvs H1=>∃j:Int,vs=[.int j]/\-(2^62)<=j/\j<2^62/\R (Itr 0 j.toNat) H1
def bF{a:Expr}{ta:TA}{p pos:Pos}(hg:Gl X "range")(hm:X.mg "range"=none)(ha:PA X [a] ta)(hs:starEach [a] X.env=[(false,eval a X.env)]:=by rfl):PI X tg (.Call (.Name "range" p) [a] [] pos) (ny ta):=by
 intro pins s σ H R I h;refine Call_ (jn I hg hm boot_range (HG (thn (ha pos pins s σ H _ I h) λus s1 ⟨vs,H1,I1,r1,q1⟩=>?_) hs rfl));obtain⟨j,e,q1,q2,q⟩:=q1;subst e
 cases r1 with
 | cons r rr =>
  cases rr;obtain⟨t,rfl⟩:=r;exact call_range_1 (wH I1 (by omega) (by omega) q1 q2 (by simpa using q))
noncomputable def Eh(wi:TI)(g:TG)(tb:TS):TS:=λD σ H=>wi σ H λJ H1=>∃W:Nat->Nat->St->Hp->Prop,(∃m,W 0 m σ H1)/\∀i m σ H,W i m σ H ->
 (J.stop i H/\D.nx σ H)\/(J.go i H/\∃N:St->Hp->Prop,(∀σ' H',N σ' H'->∃m',m'<m/\W (i+1) m' σ' H')/\∀x H',J.yld i H x H'->g x σ H' λσ2 H2=>tb { D with nx:=N,ct:=N,bk:=D.nx } σ2 H2)
noncomputable def j6(fp:List Addr)(h:Heap):List (Addr×Obj):=fp.filterMap λb=>(h.get? b).map λo=>(b,o)
def cH{fp:List Addr}{h:Heap}{b:Addr}{o:Obj}(hb:b∈fp)(e:h.get? b=some o):(b,o)∈j6 fp h:=IM.mpr ⟨b,hb,by rw [e];rfl⟩
def tQ{fp:List Addr}{h:Heap}{p:Addr×Obj}(hp:p∈j6 fp h):p.1∈fp/\h.get? p.1=some p.2:=by
 obtain⟨b,hb,e⟩:=IM.mp hp
 cases q:h.get? b with
 | none=>rw [q] at e;cases e
 | some o =>
  rw [q] at e;have e':(b,o)=p:=we e;subst e';exact⟨hb,q⟩
def Inv.pinned{pins:List (Addr×Obj)}{σ:St}{H:Hp}{s:c_}{fp:List Addr}(I:Inv X pins σ H s)(hf:∀b∈fp,pS X pins H b)(ho:∀b∈fp,∃o,s.heap.get? b=some o/\∀v,o.data≠.cell v):Inv X (pins++j6 fp s.heap) σ H s :=
 I.pins_of λp hp=>(HA.mp hp).elim (λz=>I.pin p (r_ _ z)) λz=>by
  obtain⟨hb,e⟩:=tQ z;obtain⟨f0,f1,f2,_⟩:=hf p.1 hb;obtain⟨o,e',d⟩:=ho p.1 hb;rw [e] at e';cases e';exact⟨e,f0,f1,f2,d⟩
def Inv.unpinned{pins pl:List (Addr×Obj)}{σ:St}{H:Hp}{s:c_}(I:Inv X (pins++pl) σ H s):Inv X pins σ H s:=I.pins_of λp hp=>I.pin p (r_ _ (Hm _ hp))
def dz{iter:Expr}{body:List Stmt}{wi:TI}{g:TG}{tb:TS}{pos:Pos}(hp:PassesOwn (model X.prog X.w) X.A X.env X.xe)(hc:X.calm=true)(hi:PI X tg iter wi)(hg:PG X tg g)(hb:PSs X body tb)
  (hs:∀x,foldedSetIterable iter X.env x=pure x:=by intro _;rfl):PS X (.For tg iter body [] pos) (Eh wi g tb):=by
 intro pins s σ H D I h;refine wpAny_For (thn (hi pins s σ H _ I h) λv s1 h1=>thn h1 λitv s2 h2=>?_) hs;obtain⟨it,fp,tn,J,H2,e,I2,T,st2,f2,W,⟨m0,w0⟩,turn⟩:=h2;subst e
 -- what stays true of the iterator's objects through the loop
 have stat:∀{H':Hp},(∀b∈fp,H' b=none)->∀b∈fp,pS X pins H' b:=λhn b hb=>⟨hn b hb,(f2 b hb).2⟩
 refine codeAny_forLoop_any (λn s'=>∃i σ' H',Inv X pins σ' H' s'/\tn i s'.heap/\(∀b∈fp,H' b=none)/\W i n σ' H') ?_ m0 ⟨0,σ,H2,I2,st2,λb hb=>(f2 b hb).1,w0⟩;rintro n s3 ⟨i,σ3,H3,I3,st3,fr3,w3⟩
 rcases turn i n σ3 H3 w3 with ⟨stop,qn⟩|⟨go,N,hN,step⟩
 .refine IH hp (thn (T.done X rfl rfl rfl hc i pins s3 σ3 H3 X.xe I3 (stat fr3) st3 stop) λr s4 ⟨hr,I4⟩=>?_);subst hr;exact J8 ⟨σ3,H3,I4,qn⟩
 .refine IH hp (thn (T.item X rfl rfl rfl hc i pins s3 σ3 H3 X.xe I3 (stat fr3) st3 go) λr s4 ⟨u,hr,h4⟩=>?_);subst hr;refine IH hp (thn h4 λ_ s5 ⟨x,H5,I5,r5,y5,st5,fr5⟩=>?_);have I5':=I5.pinned (stat fr5) (T.obj _ _ st5);refine IH hp (thn (hg _ s5 σ3 H5 x u _ I5' r5 (step x H5 y5)) λ_ s6 ⟨σ6,H6,I6,q6⟩=>?_);refine IH hp (thn (hb _ s6 σ6 H6 _ I6 q6) λf s7 q7=>?_)
  have again:∀{σ7:St}{H7:Hp},Inv X (pins++j6 fp s5.heap) σ7 H7 s7->N σ7 H7->∃m,m<n/\∃i σ' H',Inv X pins σ' H' s7/\tn i s7.heap/\(∀b∈fp,H' b=none)/\W i m σ' H':=λ{σ7 H7} I7 n7=>by
   obtain⟨m',hm,w7⟩:=hN σ7 H7 n7;refine⟨m',hm,i+1,σ7,H7,I7.unpinned,T.keep _ _ _ st5 λb hb o e=>(I7.pin (b,o) (r_ _ (r_ _ (cH hb e)))).1,λb hb=>?_,w7⟩;obtain⟨o,e,d⟩:=T.obj _ _ st5 b hb;exact (I7.pin (b,o) (r_ _ (r_ _ (cH hb e)))).2.1
  cases f with
  | next=>obtain⟨σ7,H7,I7,n7⟩:=q7;exact again I7 n7
  | cont=>obtain⟨σ7,H7,I7,n7⟩:=q7;exact again I7 n7
  | brk=>obtain⟨σ7,H7,I7,q7⟩:=q7;exact⟨σ7,H7,I7.unpinned,q7⟩
  | ret v=>obtain⟨x7,σ7,H7,I7,r7,q7⟩:=q7;exact⟨x7,σ7,H7,I7.unpinned,r7,q7⟩
end
abbrev R2:=V->V->Hp->VK->Prop
noncomputable def OpR(X:Cx)(f:Value->Value->Sem Value)(r:R2):Prop :=
 ∀(pins:List (Addr×Obj)) (s:c_) (σ:St) (H:Hp) (x y:V) (v u:Value) (Q:VK),Inv X pins σ H s->bS x v->bS y u->r x y H Q ->
  wpAny (model X.prog X.w) X.A (f v u) (EP X pins σ Q) X.xe s
noncomputable def UnR(X:Cx)(f:Value->Sem Value)(r:V->Hp->VK->Prop):Prop :=
 ∀(pins:List (Addr×Obj)) (s:c_) (σ:St) (H:Hp) (x:V) (v:Value) (Q:VK),Inv X pins σ H s->bS x v->r x H Q ->
  wpAny (model X.prog X.w) X.A (f v) (EP X pins σ Q) X.xe s
noncomputable def bD(X:Cx)(f:Value)(r:List V->Hp->VK->Prop):Prop :=
 ∀(pins:List (Addr×Obj)) (s:c_) (σ:St) (H:Hp) (xs:List V) (us:List Value) (Q:VK),Inv X pins σ H s->bK xs us->r xs H Q ->
  wpAny (model X.prog X.w) X.A (call f us) (EP X pins σ Q) X.xe s
noncomputable def tOp(r:R2)(ta tb:TE):TE:=λσ H Q=>ta σ H λx H1=>tb σ H1 λy H2=>r x y H2 Q
noncomputable def tUn(r:V->Hp->VK->Prop)(ta:TE):TE:=λσ H Q=>ta σ H λx H1=>r x H1 Q
noncomputable def rI(C:Int->Int->Prop)(g:Int->Int->V):R2:=λx y H Q=>∃i j,x=.int i/\y=.int j/\C i j/\Q (g i j) H
noncomputable def rI0(g:Int->Int->V):R2:=λx y H Q=>∃i j,x=.int i/\y=.int j/\Q (g i j) H
noncomputable def rU(g:Int->V):V->Hp->VK->Prop:=λx H Q=>∃i,x=.int i/\Q (g i) H
section
variable {X:Cx}{a b c:Expr}{ta tb tc:TE}{pos:Pos}
def Ei(ha:PE X a ta)(hb:PE X b tb){pins:List (Addr×Obj)}{s:c_}{σ:St}{H:Hp}{R:V->V->Hp->Prop}(I:Inv X pins σ H s)
  (h:ta σ H λx H1=>tb σ H1 λy H2=>R x y H2) {Q:Value->c_->Prop}{f:Value->Value->Sem Value}
  (hf:∀v u s2 x y H2,Inv X pins σ H2 s2->bS x v->bS y u->R x y H2->wpAny (model X.prog X.w) X.A (f v u) Q X.xe s2) :
  wpAny (model X.prog X.w) X.A (eval a X.env) (λv s₁=>wpAny (model X.prog X.w) X.A (eval b X.env) (λu s₂=>wpAny (model X.prog X.w) X.A (f v u) Q X.xe s₂) X.xe s₁) X.xe s:=by
 refine thn (ha pins s σ H _ I h) λv s1 ⟨x,H1,I1,r1,q1⟩=>?_;refine thn (hb pins s1 σ H1 _ I1 q1) λu s2 ⟨y,H2,I2,r2,q2⟩=>?_;exact hf v u s2 x y H2 I2 r1 r2 q2
def aL{op:Operator}{r:R2}(ho:OpR X (binaryOp op) r)(ha:PE X a ta)(hb:PE X b tb):PE X (.BinOp a op b pos) (tOp r ta tb):=by
 intro pins s σ H Q I h;exact wpAny_BinOp (Ei ha hb I h λv u s2 x y H2 I2 rx ry q=>ho pins s2 σ H2 x y v u Q I2 rx ry q)
def wI{op:UnaryOp}{r:V->Hp->VK->Prop}(ho:UnR X (unaryOp op) r)(ha:PE X a ta):PE X (.UnaryOp op a pos) (tUn r ta):=by
 intro pins s σ H Q I h;exact UnaryOp_ (thn (ha pins s σ H _ I h) λv s1 ⟨x,H1,I1,r1,q1⟩=>ho pins s1 σ H1 x v Q I1 r1 q1)
def opI{f:Value->Value->Sem Value}{C:Int->Int->Prop}{g:Int->Int->Int}
  (rule:∀(i j:Int) (t u:Tok) (s:c_) (Q:Value->c_->Prop) (E:Value->c_->Prop),C i j->Q (.int (g i j) s.toks) { s with toks:=s.toks+1 }->wpAny (model X.prog X.w) X.A (f (.int i t) (.int j u)) Q E s) :
  OpR X f (rI C λi j=>.int (g i j)):=by
 intro pins s σ H x y v u Q I rx ry h;obtain⟨i,j,rfl,rfl,hc,q⟩:=h;obtain⟨t,rfl⟩:=rx;obtain⟨t',rfl⟩:=ry;exact rule i j t t' s _ _ hc ⟨.int (g i j),H,I.tok _,⟨_,rfl⟩,q⟩
def FT{f:Value->Value->Sem Value}{g:Int->Int->Int}
  (rule:∀(i j:Int) (t u:Tok) (s:c_) (Q:Value->c_->Prop) (E:Value->c_->Prop),Q (.int (g i j) s.toks) { s with toks:=s.toks+1 }->wpAny (model X.prog X.w) X.A (f (.int i t) (.int j u)) Q E s) :
  OpR X f (rI0 λi j=>.int (g i j)):=by
 intro pins s σ H x y v u Q I rx ry h;obtain⟨i,j,rfl,rfl,q⟩:=h;obtain⟨t,rfl⟩:=rx;obtain⟨t',rfl⟩:=ry;exact rule i j t t' s _ _ ⟨.int (g i j),H,I.tok _,⟨_,rfl⟩,q⟩
def Bh{f:Value->Value->Sem Value}{g:Int->Int->Bool}
  (rule:∀(i j:Int) (t u:Tok) (s:c_) (Q:Value->c_->Prop) (E:Value->c_->Prop),Q (.bool (g i j)) s->wpAny (model X.prog X.w) X.A (f (.int i t) (.int j u)) Q E s) :
  OpR X f (rI0 λi j=>.bl (g i j)):=by
 intro pins s σ H x y v u Q I rx ry h;obtain⟨i,j,rfl,rfl,q⟩:=h;obtain⟨t,rfl⟩:=rx;obtain⟨t',rfl⟩:=ry;exact rule i j t t' s _ _ ⟨.bl (g i j),H,I,rfl,q⟩
noncomputable def Ej(i j:Int):Prop:=0<j/\j<1073741824
noncomputable def Ek(i j:Int):Prop:=0<=j/\j<=1000000/\i.natAbs<2^64
noncomputable def DZ(i j:Int):Prop:=(-(2^64)<i/\i<2^64)\/(-(2^64)<j/\j<2^64)
def DZ.ok{i j:Int}(h:DZ i j):IntMulOk i j:=by
 rcases h with ⟨h1,h2⟩|⟨h1,h2⟩
 .exact .of_left (intBits_le_64 h1 h2)
 .exact .of_right (intBits_le_64 h1 h2)
def BJ:OpR X (binaryOp .Add) (rI0 λi j=>.int (i+j)):=FT λ_ _ _ _ _ _ _ q=>add_int q
def BK:OpR X (binaryOp .Sub) (rI0 λi j=>.int (i - j)):=FT λ_ _ _ _ _ _ _ q=>sub_int q
def BL:OpR X (binaryOp .Mult) (rI DZ λi j=>.int (i*j)):=opI λ_ _ _ _ _ _ _ hc q=>mul_int q hc.ok
def zq:OpR X (binaryOp .FloorDiv) (rI Ej λi j=>.int (i / j)):=opI λi j _ _ _ _ _ hc q=>by
 have h1:(0:Int)<j:=hc.1;have h2:j<1073741824:=hc.2;exact floordiv_int (by omega) (by rw [fdiv_eq_ediv_of_nonneg i (by omega)];exact q) (.inl (PyProof.noPylong_small (by omega)))
def BM:OpR X (binaryOp .Mod) (rI (λ_ j=>0<j) λi j=>.int (i % j)):=opI λi j _ _ _ _ _ hc q=>by
 have h1:(0:Int)<j:=hc;exact mod_int' (by omega) (by rw [fmod_eq_emod_of_nonneg i (by omega)];exact q)
def BN:OpR X (binaryOp .Pow) (rI Ek λi j=>.int (i^j.toNat)):=opI λ_ _ _ _ _ _ _ hc q=>pow_int_small hc.1 hc.2.1 hc.2.2 q
def unI{f:Value->Sem Value}{g:Int->Int}
  (rule:∀(i:Int) (t:Tok) (s:c_) (Q:Value->c_->Prop) (E:Value->c_->Prop),Q (.int (g i) s.toks) { s with toks:=s.toks+1 }->wpAny (model X.prog X.w) X.A (f (.int i t)) Q E s) :
  UnR X f (rU λi=>.int (g i)):=by
 intro pins s σ H x v Q I rx h;obtain⟨i,rfl,q⟩:=h;obtain⟨t,rfl⟩:=rx;exact rule i t s _ _ ⟨.int (g i),H,I.tok _,⟨_,rfl⟩,q⟩
def qV:UnR X (unaryOp .USub) (rU λi=>.int (-i)):=unI λ_ _ _ _ _ q=>neg_int q
end
noncomputable def FU:V->V->Bool
 | .non,.non=>true|.non,.int _=>true|.int _,.non=>true|.non,.bl _=>true|.bl _,.non=>true|.non,.str _=>true|.str _,.non=>true
 | .int _,.int _=>true|.bl _,.bl _=>true|.str _,.str _=>true|.byt _,.byt _=>true
 | .int _,.str _=>true|.str _,.int _=>true|.bl _,.str _=>true|.str _,.bl _=>true
 | _,_=>false
noncomputable def rEq:R2:=λx y H Q=>FU x y=true/\Q (.bl (decide (x=y))) H
noncomputable def rNe:R2:=λx y H Q=>FU x y=true/\Q (.bl (!decide (x=y))) H
def tS{i j:Int}:decide (V.int i=V.int j)=(i == j):=by
 rw [II];simp
def yk{i j:Bool}:decide (V.bl i=V.bl j)=(i == j):=by
 rw [II];simp
def tT{i j:Str}:decide (V.str i=V.str j)=(i == j):=by
 rw [II];simp
def tU{i j:Array UInt8}:decide (V.byt i=V.byt j)=(i.toList == j.toList):=by
 rw [II];cases i;cases j;simp
section
variable {X:Cx}{a b c:Expr}{ta tb tc:TE}{pos:Pos}
def bq{pins:List (Addr×Obj)}{σ:St}{H:Hp}{s:c_}{Q:VK}{k k':Bool}(I:Inv X pins σ H s)(q:Q (.bl k) H)(e:k=k'):EP X pins σ Q (.bool k') s:=by
 subst e;exact⟨.bl k,H,I,rfl,q⟩
def El:OpR X (compareOp .Eq) rEq:=by
 intro pins s σ H x y v u Q I rx ry h;obtain⟨hs,q⟩:=h
 cases x with
 | non =>
  cases rx
  cases y with
  | non=>cases ry;exact PySem.EqNone.eq_none_none (bq I q (by simp))
  | bl j=>cases ry;exact PySem.EqNone.eq_none_bool (bq I q (by simp))
  | int j=>obtain⟨t',rfl⟩:=ry;exact PySem.EqNone.eq_none_int (bq I q (by simp))
  | str j=>obtain⟨t',rfl⟩:=ry;exact PySem.EqNone.eq_none_str (bq I q (by simp))
  | _=>exact absurd (show false=true from hs) m_
 | bl i =>
  cases rx
  cases y with
  | non=>cases ry;exact PySem.EqNone.eq_bool_none (bq I q (by simp))
  | bl j=>cases ry;exact eq_bool (bq I q yk)
  | str j=>obtain⟨t',rfl⟩:=ry;exact PySem.EqMixed.eq_bool_str (bq I q (by simp))
  | _=>exact absurd (show false=true from hs) m_
 | int i =>
  obtain⟨t,rfl⟩:=rx
  cases y with
  | non=>cases ry;exact PySem.EqNone.eq_int_none (bq I q (by simp))
  | int j=>obtain⟨t',rfl⟩:=ry;exact eq_int (bq I q tS)
  | str j=>obtain⟨t',rfl⟩:=ry;exact PySem.EqMixed.eq_int_str (bq I q (by simp))
  | _=>exact absurd (show false=true from hs) m_
 | str i =>
  obtain⟨t,rfl⟩:=rx
  cases y with
  | non=>cases ry;exact PySem.EqNone.eq_str_none (bq I q (by simp))
  | bl j=>cases ry;exact PySem.EqMixed.eq_str_bool (bq I q (by simp))
  | int j=>obtain⟨t',rfl⟩:=ry;exact PySem.EqMixed.eq_str_int (bq I q (by simp))
  | str j=>obtain⟨t',rfl⟩:=ry;exact eq_str (bq I q tT)
  | _=>exact absurd (show false=true from hs) m_
 | byt i =>
  obtain⟨t,rfl⟩:=rx
  cases y with
  | byt j=>obtain⟨t',rfl⟩:=ry;exact PySem.W.eq_bytes (bq I q tU)
  | _=>exact absurd (show false=true from hs) m_
 | _=>cases y <;> exact absurd (show false=true from hs) m_
def Em:OpR X (compareOp .NotEq) rNe:=by
 intro pins s σ H x y v u Q I rx ry h;obtain⟨hs,q⟩:=h
 cases x with
 | non =>
  cases rx
  cases y with
  | non=>cases ry;exact PySem.EqNone.ne_none_none (bq I q (by simp))
  | bl j=>cases ry;exact PySem.EqNone.ne_none_bool (bq I q (by simp))
  | int j=>obtain⟨t',rfl⟩:=ry;exact PySem.EqNone.ne_none_int (bq I q (by simp))
  | str j=>obtain⟨t',rfl⟩:=ry;exact PySem.EqNone.ne_none_str (bq I q (by simp))
  | _=>exact absurd (show false=true from hs) m_
 | bl i =>
  cases rx
  cases y with
  | non=>cases ry;exact PySem.EqNone.ne_bool_none (bq I q (by simp))
  | bl j=>cases ry;exact ne_bool (bq I q (congrArg not yk))
  | str j=>obtain⟨t',rfl⟩:=ry;exact PySem.EqMixed.ne_bool_str (bq I q (by simp))
  | _=>exact absurd (show false=true from hs) m_
 | int i =>
  obtain⟨t,rfl⟩:=rx
  cases y with
  | non=>cases ry;exact PySem.EqNone.ne_int_none (bq I q (by simp))
  | int j=>obtain⟨t',rfl⟩:=ry;exact ne_int (bq I q (congrArg not tS))
  | str j=>obtain⟨t',rfl⟩:=ry;exact PySem.EqMixed.ne_int_str (bq I q (by simp))
  | _=>exact absurd (show false=true from hs) m_
 | str i =>
  obtain⟨t,rfl⟩:=rx
  cases y with
  | non=>cases ry;exact PySem.EqNone.ne_str_none (bq I q (by simp))
  | bl j=>cases ry;exact PySem.EqMixed.ne_str_bool (bq I q (by simp))
  | int j=>obtain⟨t',rfl⟩:=ry;exact PySem.EqMixed.ne_str_int (bq I q (by simp))
  | str j=>obtain⟨t',rfl⟩:=ry;exact ne_str (bq I q (congrArg not tT))
  | _=>exact absurd (show false=true from hs) m_
 | byt i =>
  obtain⟨t,rfl⟩:=rx
  cases y with
  | byt j=>obtain⟨t',rfl⟩:=ry;exact PySem.W.ne_bytes (bq I q (congrArg not tU))
  | _=>exact absurd (show false=true from hs) m_
 | _=>cases y <;> exact absurd (show false=true from hs) m_
def En:OpR X (compareOp .Lt) (rI0 λi j=>.bl (decide (i<j))):=Bh λ_ _ _ _ _ _ _ q=>lt_int q
def Ep:OpR X (compareOp .LtE) (rI0 λi j=>.bl (decide (i<=j))):=Bh λ_ _ _ _ _ _ _ q=>le_int q
def Es:OpR X (compareOp .Gt) (rI0 λi j=>.bl (decide (j<i))):=Bh λ_ _ _ _ _ _ _ q=>gt_int q
def Et:OpR X (compareOp .GtE) (rI0 λi j=>.bl (decide (j<=i))):=Bh λ_ _ _ _ _ _ _ q=>ge_int q
def tV:OpR X (compareOp .Lt) (λx y H Q=>∃i j,x=.str i/\y=.str j/\Q (.bl (decide (i.cps.toList<j.cps.toList))) H):=by
 intro pins s σ H x y v u Q I rx ry h;obtain⟨i,j,rfl,rfl,q⟩:=h;obtain⟨t,rfl⟩:=rx;obtain⟨t',rfl⟩:=ry;exact lt_str (bq I q rfl)
def zr:OpR X (compareOp .IsNot) (λx y H Q=>y=.non/\Q (.bl (!decide (x=.non))) H):=by
 intro pins s σ H x y v u Q I rx ry h;obtain⟨rfl,q⟩:=h;cases ry;refine isnot_none_gen (bq I q ?_)
 cases x <;> first
  | (cases rx;rfl)
  | (obtain ⟨t,rfl⟩:=rx;rfl)
def OpR.or{f:Value->Value->Sem Value}{r r':R2}(h:OpR X f r)(h':OpR X f r'):OpR X f (λx y H Q=>r x y H Q\/r' x y H Q):=by
 intro pins s σ H x y v u Q I rx ry q
 rcases q with q|q
 .exact h pins s σ H x y v u Q I rx ry q
 .exact h' pins s σ H x y v u Q I rx ry q
def aX(b:Expr){op:CmpOp}(h:op≠.In:=by decide)(h2:op≠.NotIn:=by decide):behindInMarks op b=false:=by
 have e1:(op == CmpOp.In)=false:=by cases op <;> first|rfl|exact absurd rfl h
 have e2:(op == CmpOp.NotIn)=false:=by cases op <;> first|rfl|exact absurd rfl h2
 cases b <;> simp [behindInMarks,e1,e2]
def cV{op:CmpOp}{r:R2}(ho:OpR X (compareOp op) r)(ha:PE X a ta)(hb:PE X b tb)(hm:behindInMarks op b=false):PE X (.Compare a [op] [b] pos) (tOp r ta tb):=by
 intro pins s σ H Q I h;exact wpAny_Compare1 (Ei ha hb I h λv u s2 x y H2 I2 rx ry q=>ho pins s2 σ H2 x y v u Q I2 rx ry q) hm
noncomputable def BO(t:TE):TT:=λσ H Q=>t σ H λx H'=>∃k,x=.bl k/\Q k H'
def aZ{op:CmpOp}{r:R2}(ho:OpR X (compareOp op) r)(ha:PE X a ta)(hb:PE X b tb)(hm:behindInMarks op b=false):PT X (.Compare a [op] [b] pos) (BO (tOp r ta tb)):=by
 intro pins s σ H Q I h
 refine wpAny_isTrue_Compare1 (thn (ha pins s σ H _ I h) λv s1 ⟨x,H1,I1,r1,q1⟩=>thn (hb pins s1 σ H1 _ I1 q1) λu s2 ⟨y,H2,I2,r2,q2⟩ =>
  thn (ho pins s2 σ H2 x y v u _ I2 r1 r2 q2) λc s3 ⟨z,H3,I3,r3,k,e,q3⟩=>?_) hm
 subst e;cases r3;exact HV ⟨H3,I3,q3⟩
noncomputable def yl(r r':R2)(ta tb tc:TE):TE:=λσ H Q=>ta σ H λx H1=>tb σ H1 λy H2=>r x y H2 λz H3=>∃k,z=.bl k /\
 (if k=true then tc σ H3 λw' H4=>r' y w' H4 Q else Q (.bl false) H3)
def wJ{op op':CmpOp}{r r':R2}(ho:OpR X (compareOp op) r)(ho':OpR X (compareOp op') r')(ha:PE X a ta)(hb:PE X b tb)(hc:PE X c tc)
  (hm:lastMarks [op,op'] [b,c]=false:=by with_unfolding_all rfl):PE X (.Compare a [op,op'] [b,c] pos) (yl r r' ta tb tc):=by
 intro pins s σ H Q I h
 refine Compare_chain (thn (ha pins s σ H _ I h) λv s1 ⟨x,H1,I1,r1,q1⟩=>chain_link (thn (hb pins s1 σ H1 _ I1 q1) λu s2 ⟨y,H2,I2,r2,q2⟩ =>
  thn (ho pins s2 σ H2 x y v u _ I2 r1 r2 q2) λd s3 ⟨z,H3,I3,r3,k,e,q3⟩=>?_)) hm
 subst e;cases r3;refine HV ?_
 cases k with
 | false=>exact ite_ff ⟨.bl false,H3,I3,rfl,q3⟩
 | true=>exact ite_tt (chain_last (thn (hc pins s3 σ H3 _ I3 q3) λw' s4 ⟨z',H4,I4,r4,q4⟩=>ho' pins s4 σ H4 y z' u w' Q I4 r2 r4 q4))
def j7:(sizeLine:Nat)<2^63:=by rw [J5];decide
def si:OpR X (binaryOp .Add) (λx y H Q=>∃i j,x=.str i/\y=.str j/\i.length+j.length<=sizeLine/\Q (.str (i++j)) H):=by
 intro pins s σ H x y v u Q I rx ry h;obtain⟨i,j,rfl,rfl,hz,q⟩:=h;obtain⟨t,rfl⟩:=rx;obtain⟨t',rfl⟩:=ry;exact add_str (λt' tk=>⟨.str (i++j),H,I.tok _,⟨_,rfl⟩,q⟩) hz
def fR{x:V}{us:List Value}(r:bK [x] us):∃u,us=[u]/\bS x u:=by
 cases r with
 | cons r1 r2=>cases r2;exact⟨_,rfl,r1⟩
def tW{x y:V}{us:List Value}(r:bK [x,y] us):∃u w',us=[u,w']/\bS x u/\bS y w':=by
 cases r with
 | cons r1 r2 =>
  cases r2 with
  | cons r3 r4=>cases r4;exact⟨_,_,rfl,r1,r3⟩
def tX(hc:X.calm=true):bD X (.builtin "min") (λxs H Q=>∃i j,xs=[.int i,.int j]/\Q (.int (if j<i then j else i)) H):=by
 intro pins s σ H xs us Q I r h;obtain⟨i,j,rfl,q⟩:=h;obtain⟨u,w',rfl,⟨t,rfl⟩,⟨t',rfl⟩⟩:=tW r;refine min_two_ints (I.ok.hd hc) λh' tk k=>⟨_,H,I.kept k,?_,q⟩
 by_cases hj:j<i
 .rw [if_pos hj,if_pos hj];exact⟨_,rfl⟩
 .rw [if_neg hj,if_neg hj];exact⟨_,rfl⟩
end
structure Eu (h:Heap) (x dx C:Addr) (mA:Str->Option Value):Prop where
 obj:h.get? x=some (K_ C dx)
 ns:h.Ns1 dx mA
 ne:dx≠x
def tY{h:Heap}{dx:Addr}{mA:Str->Option Value}(n:h.Ns1 dx mA):∃od,h.get? dx=some od/\∀name,Lh name od=some (mA name):=by
 obtain⟨o,es,ep,ho,hd,hk,_,hm⟩:=n;refine⟨o,ho,λname=>?_⟩;have e:=hm name;unfold nsFind findBy at e;rw [<- Array.find?_toList] at e;unfold Lh;rw [hd];dsimp only
 split
 .rename_i y q;rw [q] at e;exact congrArg some e
 .rename_i q;rw [q] at e
  have a:es.toList.any (·.refKey)=false:=by
   rw [any_eq_false];intro y hy;obtain⟨z,t,hkey⟩:=hk y (Array.mem_toList_iff.mp hy);simp [DictEntry.refKey,hkey]
  have a':¬ es.toList.any (·.refKey)=true:=by rw [a];exact m_
  rw [if_neg a'];exact congrArg some e
def Eu.look{h:Heap}{x dx C:Addr}{mA:Str->Option Value}(I:Eu h x dx C mA):∃od,PySem.W.InstAt h x (K_ C dx) C (some od)/\∀name,Lh name od=some (mA name) :=
 let ⟨od,ho,hl⟩:=tY I.ns
 ⟨od,⟨I.obj,rfl,rfl,ho⟩,hl⟩
def qU.some_of{v:V}{o:Option Value}(r:qU (some v) o):∃u,o=some u/\bS v u:=by
 cases o with
 | none=>exact (show False from r).elim
 | some u=>exact⟨u,rfl,r⟩
section
variable {P:so}{w:World}{H H':Hp}{h h':Heap}{a C dx:Addr}{fs fs':List (Str×V)}
def tZ(hok:HOk P w H h)(e:H a=some (.ins C dx fs)):∃mA,Eu h a dx C mA/\(∀f,qU (fs.lookup f) (mA f))/\PySem.Within mA (fs.map (·.1))/\fs.length<=1000/\H dx=some (.own a):=by
 obtain⟨d,z,ne,ob,mA,n,r,q⟩:=(show aW P w H h a (.ins C dx fs) from hok a _ e)
 exact⟨mA,⟨ob,n,ne⟩,r,q,z,d⟩
end
structure Cls (K:b_) (C:Addr):Prop where
 pg:PySem.W.plainGet K C Str.empty=true
 hd:PySem.W.hasDictIn K C=true
 po:PySem.W.plainOver K C=true
 sa:tf K (.ref C) "__setattr__"=some (some (.builtin "object.__setattr__"))
def Cls.get{K:b_}{C:Addr}(c:Cls K C)(f:Str):PySem.W.plainGet K C f=true:=c.pg
section
variable {X:Cx}{pins:List (Addr×Obj)}{σ:St}{H:Hp}{s:c_}{A:w_}{E:Value->c_->Prop}{Q:Value->c_->Prop}{c:Value}{b:Bool}
inductive nq (K:b_) (H:Hp):V->Value->Prop where
 | non:nq K H .non (.type "NoneType")
 | bl (x:Bool):nq K H (.bl x) (.type "bool")
 | int (i:Int):nq K H (.int i) (.type "int")
 | str (x:Str):nq K H (.str x) (.type "str")
 | flt (x:UInt64):nq K H (.flt x) (.type "float")
 | lst {a:Addr}{xs:List V} (e:H a=some (.lst xs)):nq K H (.ref a) (.type "list")
 | frz {a:Addr}{o:Obj}{xs:List V} (e:H a=some (.frz o (.lst xs))):nq K H (.ref a) (.type "list")
 | tup {a:Addr}{xs:List V} (e:H a=some (.tup xs)):nq K H (.ref a) (.type "tuple")
 | dK {a:Addr}{kvs:List (Key×V)} (e:H a=some (.dK kvs)):nq K H (.ref a) (.type "dict")
 | dT {a:Addr}{kvs:List (List Key×V)} (e:H a=some (.dT kvs)):nq K H (.ref a) (.type "dict")
 | ins {a C dx:Addr}{fs:List (Str×V)} (e:H a=some (.ins C dx fs)) (cl:Cls K C) (ha:tf K (.ref C) "__class__"=some (some (.builtin "object.__class__")))
   (hn:PySem.W.specialIn K (.builtin "object.__class__") "__get__"=some (some (.builtin "getset_descriptor.__get__"))) (htk:PySem.W.takesIn K (.builtin "object.__class__")=some true)
   (hm:Ls K C (.type "object")=some true):nq K H (.ref a) (.ref C)
def t7{x:V}{u t:Value}(I:Inv X pins σ H s)(rx:bS x u)(ty:nq X.K H x t)(e:Ht X.K t c=some b)(h:∀tk,Q (.bool b) { s with toks:=tk }) :
  wpAny (model X.prog X.w) A (call (.builtin "isinstance") [u,c]) Q E s:=by
 cases ty with
 | non=>cases (show u=HE from rx);exact Hy PySem.W.kitx_none I.kIn HU e (λz=>nomatch z) h
 | bl y=>cases (show u=Ia y from rx);exact Hy PySem.W.kitx_bool I.kIn HU e (λz=>nomatch z) h
 | int i=>obtain⟨t,q⟩:=(show ∃t,u=JU i t from rx);cases q;exact Hy PySem.W.kitx_int I.kIn HU e (λz=>nomatch z) h
 | str y=>obtain⟨t,q⟩:=(show ∃t,u=JC y t from rx);cases q;exact Hy PySem.W.kitx_str I.kIn HU e (λz=>nomatch z) h
 | flt y=>obtain⟨t,q⟩:=(show ∃t,u=Value.float y t from rx);cases q;exact Hy PySem.W.kitx_float I.kIn HU e (λz=>nomatch z) h
 | @lst a xs ea =>
  cases (show u=o_ a from rx);obtain⟨_,_,n,_,h1⟩:=(show aW X.prog X.w H s.heap a (.lst xs) from I.hok a _ ea)
  exact Hy JI I.kIn ⟨_,h1,rfl⟩ e (λz=>nomatch z) h
 | @frz a ob xs ea =>
  cases (show u=o_ a from rx);obtain⟨_,_,_,n,_,h1⟩:=(show aW X.prog X.w H s.heap a (.frz ob (.lst xs)) from I.hok a _ ea)
  exact Hy JI I.kIn ⟨_,h1,rfl⟩ e (λz=>nomatch z) h
 | @tup a xs ea =>
  cases (show u=o_ a from rx);obtain⟨_,_,_,p⟩:=(show aW X.prog X.w H s.heap a (.tup xs) from I.hok a _ ea)
  obtain⟨o,h1,h2,_⟩:=p;exact Hy PySem.W.kitx_tuple I.kIn ⟨o,h1,h2⟩ e (λz=>nomatch z) h
 | @dK a kvs ea =>
  cases (show u=o_ a from rx);obtain⟨_,_,vs,_,p⟩:=(show aW X.prog X.w H s.heap a (.dK kvs) from I.hok a _ ea)
  obtain⟨o,es,ep,h1,h2,_⟩:=p;exact Hy JJ I.kIn ⟨o,h1,h2.1⟩ e (λz=>nomatch z) h
 | @dT a kvs ea =>
  cases (show u=o_ a from rx);obtain⟨_,_,xs,_,o,es,ep,h1,h2,_⟩:=(show aW X.prog X.w H s.heap a (.dT kvs) from I.hok a _ ea)
  exact Hy JJ I.kIn ⟨o,h1,h2.1⟩ e (λz=>nomatch z) h
 | @ins a C dx fs ea cl ha hn htk hm =>
  cases (show u=o_ a from rx);obtain⟨mA,O,_⟩:=tZ I.hok ea;obtain⟨od,J,_⟩:=O.look;exact Hy (PySem.W.kitx_own (cl.get _) cl.hd ha hn htk hm) I.kIn J e (λz=>nomatch z) h
end
structure fJ (k:Nat) (A:w_):Prop where
 hd:A.handled=none
 dp:A.depth+3*k+5<recursionLimit
 un:A.units+16*k+200<cLine
def fJ.mono{j k:Nat}{A:w_}(r:fJ k A)(h:j<=k):fJ j A:=⟨r.hd,by have:=r.dp;omega,by have:=r.un;omega⟩
def fJ.deeper{k:Nat}{A:w_}(r:fJ (k+1) A)(env:Env):fJ k (A.deeper env) :=
 ⟨r.hd,by have:=r.dp;show A.depth+1+3*k+5<_;omega,by have:=r.un;show A.units+3+16*k+200<_;omega⟩
def fJ.depth{k:Nat}{A:w_}(r:fJ k A):A.depth<recursionLimit:=by have:=r.dp;omega
def fJ.units{k:Nat}{A:w_}(r:fJ k A):A.units+64<cLine:=by have:=r.un;omega
def eW:TA:=λ_ H Q=>Q [] H
noncomputable def bi(ta:TE)(tr:TA):TA:=λσ H Q=>ta σ H λx H1=>tr σ H1 λxs H2=>Q (x::xs) H2
section
variable {X:Cx}{e:Expr}{es:List Expr}{te:TE}{t:TA}{pos:Pos}
def af:PA X [] eW:=λ_ _ _ _ H Q I h=>JK ⟨[],H,I,.nil,h⟩
def zt(ha:PE X e te)(hr:PA X es t)(hs:starEach (e::es) X.env=(false,eval e X.env)::starEach es X.env:=by rfl):PA X (e::es) (bi te t):=by
 intro pos pins s σ H Q I h;rw [hs];show wpAny _ _ (spliced ((false,eval e X.env)::backTo pos (starEach es X.env))) _ _ s;refine Jz (thn (ha pins s σ H _ I h) λu s1 ⟨x,H1,I1,r1,q1⟩=>?_);exact thn (hr pos pins s1 σ H1 _ I1 q1) λus s2 ⟨xs,H2,I2,r2,q2⟩=>⟨x::xs,H2,I2,.cons r1 r2,q2⟩
noncomputable def D0(t:TA):TE:=λσ H Q=>t σ H λxs H1=>xs.length<=sizeLine/\∀p,H1 p=none->Q (.ref p) (upd H1 p (.tup xs))
noncomputable def FW(t:TA):TE:=λσ H Q=>t σ H λxs H1=>xs.length<=sizeLine/\∀p,H1 p=none->Q (.ref p) (upd H1 p (.lst xs))
def nz{x1}(h:PA X es t):PE X (.Tuple es x1 pos) (D0 t):=by
 intro pins s σ H Q I hq;refine wpAny_Tuple_spliced (thn (h pos pins s σ H _ I hq) λus s1 ⟨xs,H1,I1,r,z,q⟩=>⟨by rw [<- r.length];exact z,?_⟩);have hf:H1 s1.heap.objs.size=none:=I1.hok.fresh (g_ _);refine⟨.ref s1.heap.objs.size,upd H1 s1.heap.objs.size (.tup xs),I1.laid (t':=s1.toks) (λb u e=>f_ _ e) (g_ _) ?_,rfl,q _ hf⟩;exact⟨z,us,r,⟨_,p_ _ rfl,rfl,_,rfl⟩⟩
def br(h:PA X es t):PE X (.List es pos) (FW t):=by
 intro pins s σ H Q I hq;refine wpAny_List_spliced (thn (h pos pins s σ H _ I hq) λus s1 ⟨xs,H1,I1,r,z,q⟩=>⟨by rw [<- r.length];exact z,?_⟩);have hf:H1 s1.heap.objs.size=none:=I1.hok.fresh (g_ _);refine⟨.ref s1.heap.objs.size,upd H1 s1.heap.objs.size (.lst xs),I1.laid (t':=s1.toks) (λb u e=>f_ _ e) (g_ _) ?_,rfl,q _ hf⟩;exact⟨z,us,0,r,p_ _ rfl⟩
end
abbrev Sp:=List V->Hp->VK->XK->Prop
abbrev CXT:=List Env->Hp->c_->XK->Value->c_->Prop
structure Bi (P:so) (w:World) (K:b_) (mg:Str->Option Value) (base:Heap) (A:w_) (outer:List Env) (s:c_) (H:Hp):Prop where
 frames:A.frames=some outer
 mod:Mod K mg base
 bs:∀b o,base.get? b=some o->s.heap.get? b=some o/\H b=none
 bsz:base.objs.size<=s.heap.objs.size
 funs:s.heap.FunFrames base outer
 frf:∀b∈frs outer,H b=none
 hok:HOk P w H s.heap
 bare:Kf s.gens
 tb:nv base H
noncomputable def CE(outer:List Env)(P:so)(w:World)(H:Hp)(s:c_)(Q:VK)(u:Value)(s':c_):Prop :=
 ∃v H',s'.os=s.os/\Kf s'.gens/\Un (frs outer) [] H H' s.heap s'.heap/\HOk P w H' s'.heap/\bS v u/\Q v H'
noncomputable def CR(CX:CXT)(outer:List Env)(P:so)(w:World)(H:Hp)(s:c_)(Q:VK)(E:XK)(r:Result)(s':c_):Prop :=
 match r with
 | .ok (.ret u)=>CE outer P w H s Q u s'
 | .ok _=>False
 | .error e=>CX outer H s E e s'
structure pT (P:so) (w:World) (K:b_) (mg:Str->Option Value) (base:Heap) (CX:CXT) (k:Nat) (f:Addr) (fd:H_) (ps:List Str) (sp:Sp):Prop where
 len:∀vs H Q E,sp vs H Q E->vs.length=ps.length
 run:∀(A:w_) (outer:List Env) (s:c_) (H:Hp) (args:Args) (us:List Value) (vs:List V) (Q:VK) (E:XK),fJ k A->Bi P w K mg base A outer s H->KB s fd args (ps.zip us)->bK vs us->sp vs H Q E ->
  codeAny (model P w) A (.call (.ref f) args) (CR CX outer P w H s Q E) s
def pT.imp{P:so}{w:World}{K:b_}{mg:Str->Option Value}{base:Heap}{CX:CXT}{k:Nat}{f:Addr}{fd:H_}{ps:List Str}{sp sp':Sp}(F:pT P w K mg base CX k f fd ps sp)
  (h:∀vs H Q E,sp' vs H Q E->sp vs H Q E):pT P w K mg base CX k f fd ps sp' :=
 ⟨λvs H Q E q=>F.len vs H Q E (h _ _ _ _ q),λA outer s H args us vs Q E hr he hb hv hs=>F.run A outer s H args us vs Q E hr he hb hv (h _ _ _ _ hs)⟩
section
variable {X:Cx}{pins:List (Addr×Obj)}{σ:St}{H:Hp}{s s':c_}
def Inv.env0(I:Inv X pins σ H s):Bi X.prog X.w X.K X.mg X.base X.A X.stack s H :=
 ⟨I.ok.frames,I.ok.mod,I.bs,HP I.ok.bsz I.sz,I.stack,I.stkFree,I.hok,I.bare,I.ok.tb.un I.base⟩
def Inv.after{Q:VK}{u:Value}(I:Inv X pins σ H s)(h:CE X.stack X.prog X.w H s Q u s'):EP X pins σ Q u s':=by
 obtain⟨v,H',os,bare,un,hok,r,q⟩:=h;obtain⟨hh,g,d,t,os'⟩:=s';obtain rfl:os'=s.os:=os;exact⟨v,H',I.call (h':=hh) (g':=g) (d':=d) (t':=t) (ch:=[]) un hok bare (λb z=>absurd z (by simp)),r,q⟩
end
noncomputable def gP(sp:Sp)(dvs:List V)(E:XK)(t:TA):TE:=λσ H Q=>t σ H λvs H1=>sp (vs++dvs) H1 Q E
noncomputable def mn(K:b_)(fd:H_)(ps:List Str)(ds:List Value):Prop :=
 ∀(s:c_) (us:List Value),K.In s.heap->(us++ds).length=ps.length->KB s fd ⟨us,[]⟩ (ps.zip (us++ds))
def mn.all{K:b_}{fd:H_}{ps:List Str}(h:∀us:List Value,us.length=ps.length->bindArgs fd ⟨us,[]⟩=pure (ps.zip us)):mn K fd ps []:=λs us _ hl=>by
 rw [HK] at hl ⊢;exact .of_eq (h us hl)
noncomputable def t8(CX:CXT)(X:Cx)(E:XK):Prop:=∀(pins:List (Addr×Obj)) (σ:St) (H:Hp) (s:c_) (e:Value) (s':c_),Inv X pins σ H s->CX X.stack H s E e s'->X.xe e s'
section
variable {X:Cx}{CX:CXT}{k:Nat}{f C:Addr}{fd:H_}{ps:List Str}{sp:Sp}{dvs:List V}{ds:List Value}{E:XK}{x m:Str}{p pos apos:Pos}{e o:Expr}{es:List Expr}{ta:TE}{t:TA}
def BP{pins:List (Addr×Obj)}{σ:St}{H:Hp}{s:c_}{Q:VK}{us:List Value}{vs:List V}(F:pT X.prog X.w X.K X.mg X.base CX k f fd ps sp)(hr:fJ k X.A)(hb:mn X.K fd ps ds)(hd:bK dvs ds)(hx:t8 CX X E)
  (I:Inv X pins σ H s) (r:bK vs us) (h:sp (vs++dvs) H Q E):wpAny (model X.prog X.w) X.A (call (.ref f) us) (EP X pins σ Q) X.xe s:=by
 have r2:bK (vs++dvs) (us++ds):=r.append hd;have hl:(us++ds).length=ps.length:=by rw [<- r2.length];exact F.len _ _ _ _ h
 refine KY (Kg (F.run X.A X.stack s H ⟨us,[]⟩ (us++ds) (vs++dvs) Q E hr I.env0 (hb s us I.kIn hl) r2 h) λr s' hq=>?_)
 cases r with
 | error e=>exact hx pins σ H s e s' I hq
 | ok fl =>
  cases fl with
  | ret u=>exact I.after hq
  | next=>exact HB hq
  | brk=>exact HB hq
  | cont=>exact HB hq
def zu(F:pT X.prog X.w X.K X.mg X.base CX k f fd ps sp)(hr:fJ k X.A)(hg:Gl X x)(hm:X.mg x=some (.ref f))(hk:C_ X.K (.ref f)=true)(hb:mn X.K fd ps ds)(hd:bK dvs ds)(hx:t8 CX X E)
  (ha:PA X (e::es) t) (hdb:(x == ("__debug__":Str))=false:=by decide) (he:starEach (e::es) X.env=(false,eval e X.env)::starEach es X.env:=by rfl) (hpl:(backTo pos (starEach es X.env)).any (·.1)=false:=by rfl) :
  PE X (.Call (.Name x p) (e::es) [] pos) (gP sp dvs E t):=by
 intro pins s σ H Q I h;refine Iy (gO I hg hm ?_ hdb);refine Kr (h₀:=X.base) I.ok.mod.kin hk (thn (ha pos pins s σ H _ I h) λus s1 ⟨vs,H1,I1,r,q⟩=>⟨I1.kIn,?_⟩) he hpl;exact BP F hr hb hd hx I1 r q
end
structure aB (N P:List Str) (sc:Scope):Prop where
 kind:sc.kind=.function
 co:sc.isCoroutine=false
 gen:sc.isGenerator=false
 nd:N.Nodup
 pre:N.take P.length=P
 par:∀x∈P,sc.names.lookup x=some .local\/sc.names.lookup x=some .cell
 nofree:∀y∈sc.names,y.2≠.free
theorem nC{kindOf:Str->Option HW}{x:Str}:∀{binds:List (Str×Value)}{m:Str->Option Value},(∀v,(x,v)∉binds)->bindL kindOf binds m x=m x
 | [],_,_=>rfl
 | (n,v)::r,m,h=>by
  unfold bindL;rw [nC λw hw=>h w (q_ _ hw)]
  split
  .have:x≠n:=by rintro rfl;exact h v mem_cons_self
   simp [this]
  .rfl
theorem nE{kindOf:Str->Option HW}{x:Str}:∀{binds:List (Str×Value)}{m:Str->Option Value},(∀v,(x,v)∉binds)->bindC kindOf binds m x=m x
 | [],_,_=>rfl
 | (n,v)::r,m,h=>by
  unfold bindC;rw [nE λw hw=>h w (q_ _ hw)]
  split
  .rfl
  .have:x≠n:=by rintro rfl;exact h v mem_cons_self
   simp [this]
theorem nF{kindOf:Str->Option HW}{x:Str}{v:Value}:∀{P:List Str}{vs:List Value}{i:Nat}{m:Str->Option Value},P.Nodup->P[i]?=some x->vs[i]?=some v->kindOf x=some .local ->
  bindL kindOf (P.zip vs) m x=some v
 | [],_,_,_,_,h,_,_=>by simp at h
 | _::_,[],_,_,_,_,h,_=>by simp at h
 | p::P,w::vs,0,m,nd,h1,h2,hk=>by
  simp at h1 h2;subst h1;subst h2;show bindL kindOf ((p,w)::P.zip vs) m p=_;unfold bindL;rw [nC λv hv=>(Iz.mp nd).1 (of_mem_zip hv).1,if_pos hk];simp
 | p::P,w::vs,i+1,m,nd,h1,h2,hk=>by
  show bindL kindOf ((p,w)::P.zip vs) m x=_;unfold bindL;exact nF (i:=i) (Iz.mp nd).2 (by simpa using h1) (by simpa using h2) hk
theorem nG{kindOf:Str->Option HW}{x:Str}{v:Value}:∀{P:List Str}{vs:List Value}{i:Nat}{m:Str->Option Value},P.Nodup->P[i]?=some x->vs[i]?=some v->kindOf x≠some .local ->
  bindC kindOf (P.zip vs) m x=some v
 | [],_,_,_,_,h,_,_=>by simp at h
 | _::_,[],_,_,_,_,h,_=>by simp at h
 | p::P,w::vs,0,m,nd,h1,h2,hk=>by
  simp at h1 h2;subst h1;subst h2;show bindC kindOf ((p,w)::P.zip vs) m p=_;unfold bindC;rw [nE λv hv=>(Iz.mp nd).1 (of_mem_zip hv).1,if_neg hk];simp
 | p::P,w::vs,i+1,m,nd,h1,h2,hk=>by
  show bindC kindOf ((p,w)::P.zip vs) m x=_;unfold bindC;exact nG (i:=i) (Iz.mp nd).2 (by simpa using h1) (by simpa using h2) hk
noncomputable def start(N:List Str)(vs:List V):St:=vs.map some++u_ (N.length - vs.length) none
noncomputable def jR(CX:CXT)(P:so)(w:World)(K:b_)(mg:Str->Option Value)(base:Heap)(N:List Str)(qual:Str)(scope:Scope)(f:Addr)(cd:Value)(A:w_)(outer:List Env)(s:c_)(H:Hp)(E:XK):Cx where
 prog:=P
 w:=w
 K:=K
 mg:=mg
 base:=base
 A:=A.deeper (envOfC qual scope s.heap.objs.size f cd)
 N:=N
 s₀:=s
 H₀:=H
 env:=envOfC qual scope s.heap.objs.size f cd
 outer:=outer
 stack:=envOfC qual scope s.heap.objs.size f cd::outer
 ex:=[]
 calm:=true
 fn:=λ_=>true
 pn:=[]
 xe:=λe s'=>wpAny (model P w) (A.deeper (envOfC qual scope s.heap.objs.size f cd)) (leaving (envOfC qual scope s.heap.objs.size f cd) e) (λ_ s''=>CX outer H s E e s'') (λe' s''=>CX outer H s E e' s'') s'
def qW{sc:Scope}{n:Nat}{x:Str}(h:sc.names.lookup x=some .cell):∃c,(cellsFrom n sc.names []).lookup x=some c:=by
 have q:=Im sc.names n [] (.inl h);exact IP.mp q
def nH{CX:CXT}{P:so}{w:World}{K:b_}{mg:Str->Option Value}{base:Heap}{N ps:List Str}{qual:Str}{scope:Scope}{f:Addr}{cd:Value}{A:w_}{outer:List Env}{s s1:c_}{H:Hp}{E:XK}{us:List Value}{vs:List V}
  (S:aB N ps scope) (hd:A.handled=none) (e0:Bi P w K mg base A outer s H) (hl:vs.length=ps.length) (r:bK vs us)
  (x:InCallC s s.heap.objs.size (bindL (envOfC qual scope s.heap.objs.size f cd).kindOf (ps.zip us) λ_=>none) (cellsFrom (s.heap.objs.size+1) scope.names []) (bindC (envOfC qual scope s.heap.objs.size f cd).kindOf (ps.zip us) λ_=>none) s1) :
  Inv (jR CX P w K mg base N qual scope f cd A outer s H E) [] (start N vs) H s1:=by
 have hpl:ps.length<=N.length:=by have:=congrArg KC S.pre;rw [KE] at this;omega
 obtain⟨h1,tk,rfl,hk⟩:=x.done;have noA:∀b:Addr,b∉(jR CX P w K mg base N qual scope f cd A outer s H E).ex:=λb z=>absurd (show b∈([]:List Addr) from z) (by simp)
 refine⟨⟨e0.mod,S.kind,rfl,rfl,g_ _,λy z c h1 h2=>?_,λy hy=>?_,λy c _ h=>?_,λ_=>hd,Around.frames_deeper e0.frames,.inr ⟨rfl,rfl⟩,λb z=>absurd z (noA b),e0.bs,e0.bsz,λb _ _=>noA b,λb z=>absurd z (noA b),e0.funs,e0.frf,e0.tb⟩,
  rfl,e0.bare,Un.kept hk,⟨_,x.toInCall.ns,λi y v h1 h2 h3=>?_⟩,λy c h=>⟨_,x.cell y c h⟩,e0.hok.fresh (g_ _),λy c h=>?_,λp hp=>absurd (show p∈([]:List (Addr×Obj)) from hp) (by simp),e0.hok.kept hk,?_⟩
 .exact name_of_addr x.apart (IR h1) (IR h2)
 .have hy:scope.names.lookup y=some .cell\/scope.names.lookup y=some .free:=hy
  rcases hy with hy|hy
  .exact qW hy
  .exact absurd rfl (S.nofree _ (IR hy))
 .exact IV (x.above y c (IR h))
 .have hi:i<vs.length:=by
   unfold start at h2
   by_cases hi:i<vs.length
   .exact hi
   .rw [IG (by simpa using hi)] at h2;rw [getElem?_replicate] at h2;split at h2 <;> cases h2
  have ha:vs[i]?=some v:=by
   unfold start at h2;rw [Je (by simpa using hi),i_] at h2
   cases e:vs[i]? with
   | none=>rw [e] at h2;cases h2
   | some a=>rw [e] at h2;cases h2;rfl
  obtain⟨u,hu,rv⟩:=r.get ha
  have hp:ps[i]?=some y:=by
   rw [<- S.pre,getElem?_take_of_lt (by omega)];exact h1
  have ndP:ps.Nodup:=by rw [<- S.pre];exact S.nd.sublist (take_sublist _ _)
  refine⟨u,rv,?_⟩
  rcases S.par y (B_ hp) with k|k
  .exact .inl ⟨k,nF ndP hp hu k⟩
  .obtain⟨c,e⟩:=qW (n:=s.heap.objs.size+1) k;refine .inr ⟨.inl k,c,e,?_⟩;have q:=x.cell y c e;rw [nG ndP hp hu (by show scope.names.lookup y≠_;rw [k];decide)] at q;exact q
 .exact e0.hok.fresh (IV (x.above y c (IR h)))
 .unfold start;show _=N.length;rw [length_append,length_map,length_replicate];omega
def BQ{CX:CXT}{P:so}{w:World}{K:b_}{mg:Str->Option Value}{base:Heap}{k:Nat}{f:Addr}{name qual:Str}{params:Arguments}{body:List Stmt}{scope:Scope}{dV kV doc pm cdv ct oc:Value}{an od:Option Addr}
  {osl:Array (Option Value)}{N ps:List Str}{sp:Sp} (lk:K.lookup f=some ⟨oc,od,.func (Hw name qual params body scope dV kV doc pm an cdv ct),osl⟩) (hcd:IA K cdv qual=true) (S:aB N ps scope)
  (len:∀vs H Q E,sp vs H Q E->vs.length=ps.length)
  (hbody:∀(A:w_) (outer:List Env) (s:c_) (H:Hp) (vs:List V) (Q:VK) (E:XK),fJ k (A.deeper (envOfC qual scope s.heap.objs.size f cdv))->sp vs H Q E ->
   ∃t,PSs (jR CX P w K mg base N qual scope f cdv A outer s H E) body t/\t { nx:=λ_ H'=>Q .non H',rt:=Q } (start N vs) H) :
  pT P w K mg base CX (k+1) f (Hw name qual params body scope dV kV doc pm an cdv ct) ps sp:=by
 refine⟨len,λA outer s H args us vs Q E hr e0 hb r hsp=>?_⟩;have hl:=len _ _ _ _ hsp;have KX:K.In s.heap:=e0.mod.kin.keeps λb o e=>(e0.bs b o e).1;have lim:s.heap.NoLimit:=e0.mod.nolimit.keeps λb o e=>(e0.bs b o e).1
 have hkind:∀y∈ps.zip us,scope.names.lookup y.1=some .local\/(scope.names.lookup y.1=some .cell/\((cellsFrom (s.heap.objs.size+1) scope.names []).lookup y.1).isSome=true):=λ⟨n,v⟩ hy=>by
  rcases S.par n (of_mem_zip hy).1 with q|q
  .exact .inl q
  .exact .inr ⟨q,Im _ _ _ (.inl q)⟩
 refine codeAny_call_function hr.depth (KX _ _ lk) rfl S.co S.gen rfl (PySem.W.codeRec_of KX hcd) (hb _ _ _ _ ?_);refine Ks S.kind hkind λenv he s1 x=>?_;subst he;refine⟨lim.keeps x.toInCall.keep,codeAny_func ?_⟩;obtain⟨t,ht,hq⟩:=hbody A outer s H vs Q E (hr.deeper _) hsp;have I:Inv (jR CX P w K mg base N qual scope f cdv A outer s H E) [] (start N vs) H s1:=nH S hr.hd e0 hl r x
 refine E_ (ht [] s1 (start N vs) H _ I hq) (λfl s' hs=>?_) λe s' hs=>hs
 have fin:∀{σ':St}{H':Hp}{v:V}{u:Value},Inv (jR CX P w K mg base N qual scope f cdv A outer s H E) [] σ' H' s'->bS v u->Q v H'->CE outer P w H s Q u s' :=
  λ{σ' H' v u} J rv q=>⟨v,H',J.os,J.bare,J.base,J.hok,rv,q⟩
 cases fl with
 | ret u =>
  obtain⟨v,σ',H',J,rv,q⟩:=hs;exact fin J rv q
 | next =>
  obtain⟨σ',H',J,q⟩:=hs;exact fin (v:=V.non) (u:=HE) J rfl q
 | brk =>
  obtain⟨_,_,_,q⟩:=hs;exact HB q
 | cont =>
  obtain⟨_,_,_,q⟩:=hs;exact HB q
section
variable {X:Cx}{x:Str}{p pos:Pos}{e:Expr}{es:List Expr}{t:TA}{id T:String}{r:List V->Hp->VK->Prop}
noncomputable def tCB(r:List V->Hp->VK->Prop)(t:TA):TE:=λσ H Q=>t σ H λvs H1=>r vs H1 Q
def wK(hc:bD X (.builtin id) r)(hg:Gl X x)(hm:X.mg x=none)(hv:bootBuiltins x=some (.builtin id))(ha:PA X (e::es) t)(hn:x≠"__name__":=by decide)(hdb:(x == ("__debug__":Str))=false:=by decide)
  (he:starEach (e::es) X.env=(false,eval e X.env)::starEach es X.env:=by rfl) (hpl:(backTo pos (starEach es X.env)).any (·.1)=false:=by rfl):PE X (.Call (.Name x p) (e::es) [] pos) (tCB r t):=by
 intro pins s σ H Q I h;refine Iy (jn I hg hm hv ?_ hn hdb);exact PyProof.Rows.callWith_builtin1 (thn (ha pos pins s σ H _ I h) λus s1 ⟨vs,H1,I1,r1,q1⟩=>hc pins s1 σ H1 vs us Q I1 r1 q1) he hpl
def t9(hc:bD X (.type T) r)(hg:Gl X x)(hm:X.mg x=none)(hv:bootBuiltins x=some (.type T))(ha:PA X (e::es) t)(hn:x≠"__name__":=by decide)(hdb:(x == ("__debug__":Str))=false:=by decide)
  (he:starEach (e::es) X.env=(false,eval e X.env)::starEach es X.env:=by rfl) (hpl:(backTo pos (starEach es X.env)).any (·.1)=false:=by rfl):PE X (.Call (.Name x p) (e::es) [] pos) (tCB r t):=by
 intro pins s σ H Q I h;refine Iy (jn I hg hm hv ?_ hn hdb);exact HG (thn (ha pos pins s σ H _ I h) λus s1 ⟨vs,H1,I1,r1,q1⟩=>hc pins s1 σ H1 vs us Q I1 r1 q1) he hpl
end
end L2
namespace HT
open PySem PyProof.Rows
noncomputable def lexLt:List Int->List Int->Bool
 | [],[]=>false
 | [],_::_=>true
 | _::_,[]=>false
 | x::xs,y::ys=>if x=y then lexLt xs ys else decide (x<y)
def lexLt_cons(x y:Int)(xs ys:List Int):lexLt (x::xs) (y::ys)=if x=y then lexLt xs ys else decide (x<y):=rfl
def mr:lexLt [] []=false:=rfl
def lx(y:Int)(ys:List Int):lexLt [] (y::ys)=true:=rfl
def ly(x:Int)(xs:List Int):lexLt (x::xs) []=false:=rfl
def wL(A:w_)(s:c_)(a:Int)(t:Tok)(c:Int)(u:Tok):∃e,SeqAt.EqAt A s (.int a t) (.int c u) e/\(e=true ↔ a=c) :=
 ⟨(a == c),SeqAt.EqAt.int_int a t c u,by simp⟩
def wM(A:w_)(s:c_)(a:Int)(t:Tok)(c:Int)(u:Tok)(prog:so)(w:World)(E:Value->c_->Prop)(Q:Value->c_->Prop)(h:Q (.bool (decide (a<c))) s) :
  wpAny (model prog w) A (richCompare .Lt (.int a t) (.int c u)) Q E s :=
 (PyProof.Rows.lt_int h:wpAny (model prog w) A (compareOp .Lt (.int a t) (.int c u)) Q E s)
section
open PySem.SeqAt
open PySem.AutoSeq1 (wpAny_loadPart')
open PySem.MeetsSeq PySem.MeetsSeq2 PySem.MeetsSeq3
def mw(l b:Addr)(items items2:Array Value)(n n2:Nat)(dd dd2:Option Addr)(sl sl2:Array (Option Value))(ns ms:List Int)(hi:Jk items.toList ns)(hj:Jk items2.toList ms) :
  Meets (JG.«tuple.__lt__» ⟨[.ref l,.ref b],[]⟩)
   (λ_ R s=>s.heap.get? l=some { cls:=.type "tuple",dict:=dd,data:=.seq items n,slots:=sl }/\s.heap.get? b=some { cls:=.type "tuple",dict:=dd2,data:=.seq items2 n2,slots:=sl2 } /\
    R (.ok (.ret (.bool (lexLt ns ms)))) s) :=
 .of_wp λprog w A R s h=>by
  obtain⟨hp,g,d,tk,os⟩:=s;obtain⟨hl,hb,h⟩:=h;have f2:=AutoSeq1.sub_tuple_tuple;have z1:items.size=ns.length:=by rw [<- hi.length];simp
  have z2:items2.size=ms.length:=by rw [<- hj.length];simp
  wp_walk using wpAny_loadPart' hl,wpAny_loadPart' hb,wpAny_forIn_list _ (λrest b s'=>b.1=none/\s'=⟨hp,g,d,tk,os⟩/\∃(vs ws:List Value) (ns' ms':List Int),rest=vs.zip ws /\
   Jk vs ns'/\Jk ws ms'/\ns'.length+items2.size=ms'.length+items.size/\R (.ok (.ret (.bool (lexLt ns' ms')))) ⟨hp,g,d,tk,os⟩) _
  case turn =>
   rintro⟨y,x⟩ rest b s' ⟨hb',rfl,vs,ws,ns',ms',hz,hvi,hwi,hlen,hR⟩
   cases hvi with
   | nil=>rw [zip_nil_left] at hz;cases hz
   | cons a t hvi' =>
    cases hwi with
    | nil=>rw [zip_nil_right] at hz;cases hz
    | cons c u hwi' =>
     rw [zip_cons_cons] at hz;injection hz with hyx hrest;injection hyx with hy hx;subst hy hx;rw [lexLt_cons] at hR;simp only [length_cons] at hlen;obtain⟨e,he,hiff⟩:=wL A.in1 ⟨hp,g,d,tk,os⟩ a t c u;refine cy (he prog w _ _ ?_)
     cases e with
     | true =>
      rw [if_pos (hiff.mp rfl)] at hR
      wp_walk
      exact⟨rfl,rfl,_,_,_,_,hrest,hvi',hwi',by omega,hR⟩
     | false =>
      rw [if_neg (λq=>absurd (hiff.mpr q) m_)] at hR;have hri:=wM A.in1 ⟨hp,g,d,tk,os⟩ a t c u prog w
      wp_walk using hri
      exact⟨_,rfl,by simpa using hR⟩
  case fin =>
   rintro⟨b1,b2⟩ s' ⟨hb',rfl,vs,ws,ns',ms',hz,hvi,hwi,hlen,hR⟩;simp only at hb';subst hb'
   have hv:lexLt ns' ms'=decide (items.size<items2.size):=by
    cases hvi with
    | nil =>
     cases hwi with
     | nil =>
      simp only [length_nil] at hlen;rw [mr];exact (decide_eq_false (by omega)).symm
     | cons c u hw =>
      simp only [length_nil,length_cons] at hlen;rw [lx];exact (decide_eq_true (by omega)).symm
    | cons a t hv =>
     cases hwi with
     | nil =>
      simp only [length_nil,length_cons] at hlen;rw [ly];exact (decide_eq_false (by omega)).symm
     | cons c u hw =>
      rw [zip_cons_cons] at hz;cases hz
   rw [hv] at hR
   wp_walk
   exact⟨_,rfl,by simpa [Builtin.Tuple.tupleCompareSizes] using hR⟩
  case h =>
   exact⟨rfl,rfl,items.toList,items2.toList,ns,ms,rfl,hi,hj,by omega,h⟩
end
section
variable {prog:so}{w:World}{A:w_}{E:Value->c_->Prop}{s:c_}
def lt_tupInts{l b:Addr}{items items2:Array Value}{ns ms:List Int}{Q:Value->c_->Prop}(hl:IsTup s.heap l items)(hb:IsTup s.heap b items2)(hi:Jk items.toList ns)(hj:Jk items2.toList ms)
  (hu:A.units<cLine) (h:Q (.bool (lexLt ns ms)) s):wpAny (model prog w) A (compareOp .Lt (.ref l) (.ref b)) Q E s:=by
 obtain⟨⟨cls,dd,data,sl⟩,ho,hc,n,hd⟩:=id hl;obtain⟨⟨cls2,dd2,data2,sl2⟩,ho2,hc2,n2,hd2⟩:=id hb;simp only at hc hd hc2 hd2;subst hc hd hc2 hd2
 exact richCompare_meets_room (op:=.Lt) ⟨_,ho,rfl⟩ ⟨_,ho2,rfl⟩ PySem.F.slot_tuple_lt PySem.F.entry_tuple_lt (PySem.F.args_tuple_lt_2 _ _) (mw l b items items2 n n2 dd dd2 sl sl2 ns ms hi hj)
  ⟨ho,ho2,show Ia (lexLt ns ms)≠Value.notImplemented/\Q (.bool (lexLt ns ms)) s from ⟨(λx=>nomatch x),h⟩⟩ hu
def cat_tup{t b:Addr}{vs ws:List Value}{Q:Value->c_->Prop}(ht:IsTup s.heap t vs.toArray)(hb:IsTup s.heap b ws.toArray)(hv:vs≠[])
  (h1:ws=[]->Q (.ref t) s) (h2:ws≠[]->Q (.ref s.heap.objs.size) { s with heap:=s.heap.push { cls:=.type "tuple",data:=.seq (vs++ws).toArray } })
  (hsz:vs.length+ws.length<=sizeLine):wpAny (model prog w) A (binaryOp .Add (.ref t) (.ref b)) Q E s:=by
 obtain⟨⟨cls,dd,data,sl⟩,ho,hc,n,hd⟩:=id ht;obtain⟨⟨cls2,dd2,data2,sl2⟩,ho2,hc2,n2,hd2⟩:=id hb;simp only at hc hd hc2 hd2;subst hc hd hc2 hd2;have e:vs.toArray++ws.toArray=(vs++ws).toArray:=by simp
 by_cases hw:ws=[]
 .exact KZ ⟨_,ho,rfl⟩ ⟨_,ho2,rfl⟩ KS seq_tuple_add JL JD (Jr _ _)
   (tuple_addW1 t b vs.toArray ws.toArray n n2 dd dd2 sl sl2 (by simpa using hv) (by simp [hw])) ⟨ho,ho2,h1 hw⟩
 .refine KZ ⟨_,ho,rfl⟩ ⟨_,ho2,rfl⟩ KS seq_tuple_add JL JD (Jr _ _)
   (tuple_addW2 t b vs.toArray ws.toArray n n2 dd dd2 sl sl2 (by simpa using hv) (by simpa using hw) (by rw [size_toArray,size_toArray];exact hsz)) ⟨ho,ho2,?_⟩
  rw [e];exact h2 hw
end
end HT
namespace L2
open PySem PySem.Spec PyProof.Rows
def cW{ns:List Int}:∀{us:List Value},bK (ns.map V.int) us->Jk us ns:=by
 induction ns with
 | nil=>intro us r;rw [map_nil] at r;cases r;exact .nil
 | cons n ns ih =>
  intro us r;rw [map_cons] at r
  cases r with
  | cons r1 r2 =>
   obtain⟨t,e⟩:=r1;subst e;exact .cons n t (ih r2)
section
variable {X:Cx}{e:Expr}{te:TE}{lo hi:Option Expr}{tl th:TO}{pos p2:Pos}
noncomputable def BR(K:b_):R2:=λx y H Q=>∃a b xs ys,x=.ref a/\y=.ref b/\SqT K H a xs/\SqT K H b ys/\xs≠[]/\xs.length+ys.length<=sizeLine /\
 (ys=[]->Q (.ref a) H)/\(ys≠[]->∀p,H p=none->Q (.ref p) (upd H p (.tup (xs++ys))))
def bK.nil_iff{xs:List V}{us:List Value}(r:bK xs us):us=[] ↔ xs=[]:=by
 cases r with
 | nil=>simp
 | cons _ _=>simp
def zv:OpR X (binaryOp .Add) (BR X.K):=by
 intro pins s σ H x y v u Q I rx ry h;obtain⟨a,b,xs,ys,rfl,rfl,ha,hb,hx,hz,q1,q2⟩:=h;cases rx;cases ry;obtain⟨its,r1,p1,_⟩:=I.tuple ha;obtain⟨its2,r2,p2,_⟩:=I.tuple hb;refine HT.cat_tup p1 p2 (λz=>hx (r1.nil_iff.mp z)) (λz=>⟨.ref a,H,I,rfl,q1 (r2.nil_iff.mp z)⟩) (λz=>?_) (by rw [<- r1.length,<- r2.length];exact hz);refine⟨.ref s.heap.objs.size,_,I.laid (t':=s.toks) (o:=.tup (xs++ys)) (λb ob q=>f_ _ q) (g_ _) ?_,rfl,q2 (λw=>z (r2.nil_iff.mpr w)) _ (I.hok.fresh (g_ _))⟩
 exact⟨by rw [length_append];exact hz,_,r1.append r2,IsTup.new _ _⟩
end
noncomputable def ixN(n:Nat)(i:Int):Option Nat:=if 0<=i then (if i<n then some i.toNat else none) else if -(n:Int)<=i then some (i+n).toNat else none
noncomputable def atI{α:Type}(xs:List α)(i:Int):Option α:=(ixN xs.length i).bind λj=>xs[j]?
def pU{n:Nat}{i:Int}{j:Nat}(h:ixN n i=some j):seqIndex? i n=some j/\j<n/\-(n:Int)<=i/\i<n:=by
 unfold ixN at h
 by_cases h0:0<=i
 .rw [if_pos h0] at h
  by_cases h1:i<n
  .rw [if_pos h1] at h;have e:i.toNat=j:=we h;exact⟨by rw [Li h0 h1,e],by omega,by omega,h1⟩
  .rw [if_neg h1] at h;cases h
 .rw [if_neg h0] at h
  by_cases h1:-(n:Int)<=i
  .rw [if_pos h1] at h;have e:(i+n).toNat=j:=we h;exact⟨by rw [K0 (by omega) h1,e],by omega,h1,by omega⟩
  .rw [if_neg h1] at h;cases h
def mx{α:Type}{xs:List α}{i:Int}{v:α}(h:atI xs i=some v):∃j,seqIndex? i xs.length=some j/\xs[j]?=some v/\j<xs.length/\-(xs.length:Int)<=i/\i<xs.length:=by
 unfold atI at h
 cases e:ixN xs.length i with
 | none=>rw [e] at h;cases h
 | some j =>
  rw [e] at h;obtain⟨h1,h2,h3,h4⟩:=pU e;exact⟨j,h1,h,h2,h3,h4⟩
def zw{α:Type}{xs:List α}{j:Nat}{v:α}(h:xs[j]?=some v):atI xs (j:Int)=some v:=by
 have hj:j<xs.length:=(h_.mp h).1
 have e:ixN xs.length (j:Int)=some j:=by
  unfold ixN;rw [if_pos (by omega),if_pos (by omega)];simp
 unfold atI;rw [e];exact h
noncomputable def zx(b:Expr):Prop:=∀o i,subscripted b false o i=operate [o,i] (getItem o i)
noncomputable def IxR(X:Cx)(r:R2):Prop :=
 ∀(value slice:Expr) (pins:List (Addr×Obj)) (s:c_) (σ:St) (H:Hp) (x y:V) (v u:Value) (Q:VK),Inv X pins σ H s->bS x v->bS y u->r x y H Q ->
  subscripted slice false v u=operate [v,u] (getItem v u)->wpAny (model X.prog X.w) X.A (subscriptTail value slice v u) (EP X pins σ Q) X.xe s
noncomputable def MtR(X:Cx)(id:String)(r:V->List V->Hp->VK->Prop):Prop :=
 ∀(pins:List (Addr×Obj)) (s:c_) (σ:St) (H:Hp) (x:V) (xs:List V) (v:Value) (us:List Value) (Q:VK),Inv X pins σ H s->bS x v->bK xs us->r x xs H Q ->
  wpAny (model X.prog X.w) X.A (call (.builtin id) (v::us)) (EP X pins σ Q) X.xe s
section
variable {X:Cx}{a b:Expr}{ta tb:TE}{pos:Pos}
def IxR.or{r r':R2}(h:IxR X r)(h':IxR X r'):IxR X (λx y H Q=>r x y H Q\/r' x y H Q):=by
 intro value slice pins s σ H x y v u Q I rx ry q hs
 rcases q with q|q
 .exact h value slice pins s σ H x y v u Q I rx ry q hs
 .exact h' value slice pins s σ H x y v u Q I rx ry q hs
def bf{r:R2}(hr:IxR X r)(ha:PE X a ta)(hb:PE X b tb)(hs:zx b):PE X (.Subscript a b pos) (tOp r ta tb):=by
 intro pins s σ H Q I h;exact Subscript_ (Ei ha hb I h λv u s2 x y H2 I2 rx ry q=>hr a b pins s2 σ H2 x y v u Q I2 rx ry q (hs _ _))
noncomputable def D1(K:b_):R2:=λx y H Q=>∃p xs i v,x=.ref p/\y=.int i/\SqL K H p xs/\atI xs i=some v/\Q v H
noncomputable def FY(K:b_):R2:=λx y H Q=>∃p xs i v,x=.ref p/\y=.int i/\SqT K H p xs/\atI xs i=some v/\Q v H
noncomputable def GN:R2:=λx y H Q=>∃z i c,x=.str z/\y=.int i/\z.length<=sizeLine/\atI z.cps.toList i=some c/\Q (.str ⟨#[c]⟩) H
def zy:IxR X (D1 X.K):=by
 intro value slice pins s σ H x y v u Q I rx ry h hs;obtain⟨p,xs,i,z,rfl,rfl,hq,he,q⟩:=h;cases rx;obtain⟨t,rfl⟩:=ry;obtain⟨its,r,pl,hz⟩:=I.list hq;obtain⟨j,h1,h2,h3,h4,h5⟩:=mx he;obtain⟨w,ew,rw'⟩:=r.get h2;have hl:=r.length;have hn:=j7;have fin:EP X pins σ Q w s:=⟨z,H,I,rw',q⟩
 by_cases h0:0<=i
 .have hj:i.toNat=j:=by
   rw [Li h0 h5] at h1;exact we h1
  exact item_listR pl.isList h0 (by omega) (by rw [hj];simpa using ew) fin hs
 .have hj:(i+(its.toArray.size:Int)).toNat=j:=by
   rw [K0 (by omega) h4] at h1;rw [size_toArray,<- hl];exact we h1
  exact subscriptTail_builtinR (x:=w) pl.isList.typeIs slot_list_getitem.lookup
   (wpAny_getItem_list_neg (Q:=λr s'=>r=w/\EP X pins σ Q r s') pl.isList (by omega) (by rw [size_toArray] <;> omega) (by omega) (by rw [hj];simpa using ew) ⟨rfl,fin⟩) hs
def BS:IxR X (FY X.K):=by
 intro value slice pins s σ H x y v u Q I rx ry h hs;obtain⟨p,xs,i,z,rfl,rfl,hq,he,q⟩:=h;cases rx;obtain⟨t,rfl⟩:=ry;obtain⟨its,r,pl,hz⟩:=I.tuple hq;obtain⟨j,h1,h2,h3,h4,h5⟩:=mx he;obtain⟨w,ew,rw'⟩:=r.get h2;have hl:=r.length;have hn:=j7;have fin:EP X pins σ Q w s:=⟨z,H,I,rw',q⟩
 exact subscriptTail_builtinR (x:=w) pl.typeIs slot_tuple_getitem.lookup
  (getItem_tuple (j:=j) (Q:=λr s'=>r=w/\EP X pins σ Q r s') pl (by omega) (by omega) (by rw [size_toArray,<- hl];exact h1) (by simpa using ew) ⟨rfl,fin⟩) hs
def BU:IxR X GN:=by
 intro value slice pins s σ H x y v u Q I rx ry h hs;obtain⟨z,i,c,rfl,rfl,hz,he,q⟩:=h;obtain⟨t,rfl⟩:=rx;obtain⟨t',rfl⟩:=ry;obtain⟨j,h1,h2,h3,h4,h5⟩:=mx he;have hl:z.cps.toList.length=z.length:=by simp [Str.length]
 rw [hl] at h1 h4 h5;have hn:=j7
 exact tail_any (typeIs_str s z t) slot_str_getitem.lookup (getItem_str (c:=c) (by
  have e1:decide (i < -(2^63:Int))=false:=decide_eq_false (by omega);have e2:decide (i >= 2^63)=false:=decide_eq_false (by omega);rw [e1,e2,KL]) (by rw [h1];simpa using h2) ⟨.str ⟨#[c]⟩,H,I.tok _,⟨_,rfl⟩,q⟩) hs
def sj(its:List Value)(n j:Nat)(u:Value):IB (·.setIfInBounds j u) { cls:=.type "list",data:=.seq its.toArray n }={ cls:=.type "list",data:=.seq (its.set j u).toArray n }:=by
 simp [IB]
def Inv.lst{pins:List (Addr×Obj)}{σ:St}{H:Hp}{s:c_}{p:Addr}{xs:List V}(I:Inv X pins σ H s)(h:H p=some (.lst xs)) :
  ∃(its:List Value) (n:Nat),bK xs its/\s.heap.get? p=some { cls:=.type "list",data:=.seq its.toArray n }/\xs.length<=sizeLine:=by
 obtain⟨z,its,n,r,e⟩:=I.hok p _ h;exact⟨its,n,r,e,z⟩
def Inv.lstUpd{pins:List (Addr×Obj)}{σ:St}{H:Hp}{s:c_}{p:Addr}{xs ys:List V}{its its':List Value}{n n':Nat}{f:Obj->Obj}(I:Inv X pins σ H s)(h:H p=some (.lst xs))
  (ho:s.heap.get? p=some { cls:=.type "list",data:=.seq its.toArray n }) (hf:f { cls:=.type "list",data:=.seq its.toArray n }={ cls:=.type "list",data:=.seq its'.toArray n' }) (r:bK ys its') (hz:ys.length<=sizeLine) (t:Nat) :
  Inv X pins σ (upd H p (.lst ys)) { s with heap:=s.heap.update p f,toks:=t }:=by
 have e:(s.heap.update p f).get? p=some { cls:=.type "list",data:=.seq its'.toArray n' }:=by
  rw [HF f ho (by rw [hf] <;> rfl),hf]
 refine I.write (x:=p) (e:=p) (by rw [h];trivial) (.inl rfl) (λb u hb q=>(HC _ _ (HL hb)).trans q) ⟨_,e⟩ ?_;exact⟨hz,its',n',r,e⟩
noncomputable def ua:V->V->V->Hp->(Hp->Prop)->Prop:=λo i v H Q=>∃p xs k j,o=.ref p/\i=.int k/\H p=some (.lst xs)/\ixN xs.length k=some j/\Q (upd H p (.lst (xs.set j v)))
def gk:Eg X ua:=by
 intro pins s σ H o i v ov iv u Q I ro ri rv h;obtain⟨p,xs,k,j,rfl,rfl,hp,hj,q⟩:=h;cases ro;obtain⟨t,rfl⟩:=ri;obtain⟨its,n,r,ho,hz⟩:=I.lst hp;obtain⟨h1,h2,h3,h4⟩:=pU hj;have hl:=r.length;have hn:=j7
 have I':Inv X pins σ (upd H p (.lst (xs.set j v))) { s with heap:=s.heap.update p (IB (·.setIfInBounds j u)) } :=
  I.lstUpd hp ho (sj its n j u) (r.set rv j) (by rw [length_set];exact hz) s.toks
 by_cases h0:0<=k
 .have hk:k.toNat=j:=by
   rw [Li h0 h4] at h1;exact we h1
  exact PySem.W.ki_setAt ho h0 (by omega) (by rw [size_toArray,<- hl];exact h4) (by rw [hk];exact⟨_,I',q⟩)
 .have hk:(k+(its.toArray.size:Int)).toNat=j:=by
   rw [K0 (by omega) h3] at h1;rw [size_toArray,<- hl];exact we h1
  exact PySem.W.ki_setBack ho (by omega) (by rw [size_toArray,<- hl];exact h3) (by omega) (by rw [hk];exact⟨_,I',q⟩)
noncomputable def lA:V->Bool
 | .non=>true
 | .bl _=>true
 | .int _=>true
 | .str _=>true
 | _=>false
noncomputable def eqV:V->V->Bool
 | .non,.non=>true
 | .bl a,.bl b=>a == b
 | .bl a,.int b=>(if a then 1 else 0) == b
 | .int a,.bl b=>a == (if b then 1 else 0)
 | .int a,.int b=>a == b
 | .str a,.str b=>a == b
 | _,_=>false
def BV{A:w_}{s:c_}{y x:V}{u v:Value}(ry:bS y u)(rx:bS x v)(fy:lA y=true)(fx:lA x=true):SeqAt.EqAt A s u v (eqV y x):=by
 cases y with
 | non =>
  cases ry
  cases x with
  | non=>cases rx;exact SeqAt.EqAt.same _
  | bl b=>cases rx;exact SeqAt.EqAt.none_bool b
  | int b=>obtain⟨t,rfl⟩:=rx;exact SeqAt.EqAt.none_int b t
  | str b=>obtain⟨t,rfl⟩:=rx;exact SeqAt.EqAt.none_str b t
  | _=>exact absurd (show false=true from fx) m_
 | bl a =>
  cases ry
  cases x with
  | non=>cases rx;exact SeqAt.EqAt.bool_none a
  | bl b=>cases rx;exact SeqAt.EqAt.bool_bool a b
  | int b=>obtain⟨t,rfl⟩:=rx;exact SeqAt.EqAt.bool_int a b t
  | str b=>obtain⟨t,rfl⟩:=rx;exact SeqAt.EqAt.bool_str a b t
  | _=>exact absurd (show false=true from fx) m_
 | int a =>
  obtain⟨t',rfl⟩:=ry
  cases x with
  | non=>cases rx;exact SeqAt.EqAt.int_none a t'
  | bl b=>cases rx;exact SeqAt.EqAt.int_bool a t' b
  | int b=>obtain⟨t,rfl⟩:=rx;exact SeqAt.EqAt.int_int a t' b t
  | str b=>obtain⟨t,rfl⟩:=rx;exact SeqAt.EqAt.int_str a t' b t
  | _=>exact absurd (show false=true from fx) m_
 | str a =>
  obtain⟨t',rfl⟩:=ry
  cases x with
  | non=>cases rx;exact SeqAt.EqAt.str_none a t'
  | bl b=>cases rx;exact SeqAt.EqAt.str_bool a t' b
  | int b=>obtain⟨t,rfl⟩:=rx;exact SeqAt.EqAt.str_int a t' b t
  | str b=>obtain⟨t,rfl⟩:=rx;exact SeqAt.EqAt.str_str a t' b t
  | _=>exact absurd (show false=true from fx) m_
 | _=>exact absurd (show false=true from fy) m_
noncomputable def eqU(x:V)(u:Value):Bool:=match u with
 | .none=>eqV .non x
 | .bool b=>eqV (.bl b) x
 | .int i _=>eqV (.int i) x
 | .str z _=>eqV (.str z) x
 | _=>false
def ym{x y:V}{u:Value}(r:bS y u)(f:lA y=true):eqU x u=eqV y x:=by
 cases y with
 | non=>cases r;rfl
 | bl b=>cases r;rfl
 | int i=>obtain⟨t,rfl⟩:=r;rfl
 | str z=>obtain⟨t,rfl⟩:=r;rfl
 | _=>exact absurd (show false=true from f) m_
theorem pV{x:V}:∀{xs:List V}{us:List Value},bK xs us->xs.all lA=true->us.any (eqU x)=xs.any λy=>eqV y x
 | _,_,.nil,_=>rfl
 | y::xs,u::us,.cons r t,f=>by
  rw [all_cons,and_eq_true] at f;rw [any_cons,any_cons,ym r f.1,pV t f.2]
theorem my{A:w_}{s:c_}{x:V}{v:Value}(rx:bS x v)(fx:lA x=true):∀{xs:List V}{us:List Value},bK xs us->xs.all lA=true->∀u∈us,SeqAt.EqAt A s u v (eqU x u)
 | _,_,.nil,_=>λu hu=>by cases hu
 | y::xs,u::us,.cons r t,f=>λu' hu=>by
  rw [all_cons,and_eq_true] at f
  rcases mem_cons.mp hu with rfl|hu
  .rw [ym r f.1];exact BV r rx f.1 fx
  .exact my rx fx t f.2 u' hu
noncomputable def inV(x:V)(xs:List V):Bool:=xs.any λy=>eqV y x
noncomputable def rIn(K:b_)(neg:Bool):R2:=λx y H Q=>∃p xs,y=.ref p/\(SqL K H p xs\/SqT K H p xs)/\lA x=true/\xs.all lA=true/\Q (.bl (if neg then !inV x xs else inV x xs)) H
def nI:OpR X (compareOp .NotIn) (rIn X.K true):=by
 intro pins s σ H x y v u Q I rx ry h;obtain⟨p,xs,rfl,hq,fx,fs,q⟩:=h;cases ry
 rcases hq with hq|hq
 .obtain⟨its,r,pl,hz⟩:=I.list hq;refine SeqAt.notIn_listAt (eqU x) pl.isList (λw hw=>my rx fx r fs w (by simpa using hw)) ⟨.bl _,H,I,rfl,?_⟩;rw [show its.toArray.any (eqU x)=its.any (eqU x) by simp,pV r fs];exact q
 .obtain⟨its,r,pl,hz⟩:=I.tuple hq;refine SeqAt.notIn_tupleAt (eqU x) pl (λw hw=>my rx fx r fs w (by simpa using hw)) ⟨.bl _,H,I,rfl,?_⟩;rw [show its.toArray.any (eqU x)=its.any (eqU x) by simp,pV r fs];exact q
def jp:bD X (.builtin "len") (λxs H Q=>∃p ys,xs=[.ref p]/\(SqL X.K H p ys\/SqT X.K H p ys)/\Q (.int ys.length) H):=by
 intro pins s σ H xs us Q I r h;obtain⟨p,ys,rfl,hq,q⟩:=h;obtain⟨u,rfl,rx⟩:=fR r;cases rx;have hn:=j7
 rcases hq with hq|hq
 .obtain⟨its,r',pl,hz⟩:=I.list hq;have hlen:=r'.length;exact Calls.call_len_list pl.isList (by simp only [size_toArray] <;> omega) ⟨.int ys.length,H,I.tok _,⟨s.toks+1,by rw [size_toArray,hlen]⟩,q⟩
 .obtain⟨its,r',pl,hz⟩:=I.tuple hq;have hlen:=r'.length;exact len_tuple pl (by simp only [size_toArray] <;> omega) ⟨.int ys.length,H,I.tok _,⟨s.toks+1,by rw [size_toArray,hlen]⟩,q⟩
def nJ:bD X (.builtin "len") (λxs H Q=>∃z,xs=[.str z]/\z.length<=sizeLine/\Q (.int z.length) H):=by
 intro pins s σ H xs us Q I r h;obtain⟨z,rfl,hz,q⟩:=h;obtain⟨u,rfl,t,rfl⟩:=fR r;have hn:=j7;exact len_str (by omega) ⟨.int z.length,H,I.tok _,⟨_,rfl⟩,q⟩
def bD.or{f:Value}{r r':List V->Hp->VK->Prop}(h:bD X f r)(h':bD X f r'):bD X f (λxs H Q=>r xs H Q\/r' xs H Q):=by
 intro pins s σ H xs us Q I rs q
 rcases q with q|q
 .exact h pins s σ H xs us Q I rs q
 .exact h' pins s σ H xs us Q I rs q
def nK:bD X (.type "list") (λxs H Q=>∃p ys,xs=[.ref p]/\(SqL X.K H p ys\/SqT X.K H p ys)/\∀l,H l=none->Q (.ref l) (upd H l (.lst ys))):=by
 intro pins s σ H xs us Q I r h;obtain⟨p,ys,rfl,hq,q⟩:=h;obtain⟨u,rfl,rx⟩:=fR r;cases rx
 have fin:∀(its:List Value),bK ys its->ys.length<=sizeLine->∀(h':Heap) (c':Nat),(∀b o',s.heap.get? b=some o'->h'.get? b=some o') ->
   h'.get? s.heap.objs.size=some { cls:=.type "list",dict:=none,data:=.seq its.toArray c',slots:=#[] }->EP X pins σ Q (.ref s.heap.objs.size) { s with heap:=h' }:=λits r' hz h' c' kp e =>
  ⟨.ref s.heap.objs.size,_,I.laid (t':=s.toks) kp (g_ _) (show aW X.prog X.w _ h' _ (.lst ys) from ⟨hz,its,c',r',e⟩),rfl,q _ (I.hok.fresh (g_ _))⟩
 rcases hq with hq|hq
 .obtain⟨its,r',pl,hz⟩:=I.list hq;have hlen:=r'.length;obtain⟨o,ho,hc,n,hd⟩:=pl.isList;exact call_list_seq p (.inl rfl) ho hc hd (λh' c' kp e=>fin its r' hz h' c' kp e) (by simp only [size_toArray] <;> omega)
 .obtain⟨its,r',pl,hz⟩:=I.tuple hq;have hlen:=r'.length;obtain⟨o,ho,hc,n,hd⟩:=pl;exact call_list_seq p (.inr rfl) ho hc hd (λh' c' kp e=>fin its r' hz h' c' kp e) (by simp only [size_toArray] <;> omega)
def mz:bD X (.type "tuple") (λxs H Q=>∃p ys,xs=[.ref p]/\((SqL X.K H p ys/\∀l,H l=none->Q (.ref l) (upd H l (.tup ys)))\/(SqT X.K H p ys/\Q (.ref p) H))):=by
 intro pins s σ H xs us Q I r h;obtain⟨p,ys,rfl,h⟩:=h;obtain⟨u,rfl,rx⟩:=fR r;cases rx
 rcases h with ⟨hq,q⟩|⟨hq,q⟩
 .obtain⟨its,r',pl,hz⟩:=I.list hq;have hlen:=r'.length;refine call_tuple_list pl.isList (λh' kp=>?_) (by simp only [size_toArray] <;> omega);have I1:Inv X pins σ H { s with heap:=h' }:=I.kept (t':=s.toks) kp
  have I2:Inv X pins σ (upd H h'.objs.size (.tup ys)) { s with heap:=h'.push { cls:=.type "tuple",data:=.seq its.toArray } } :=
   I1.laid (t':=s.toks) (λb o e=>f_ _ e) (g_ _) (show aW X.prog X.w _ _ _ (.tup ys) from ⟨hz,its,r',IsTup.new _ _⟩)
  exact⟨.ref h'.objs.size,_,I2,rfl,q _ (I1.hok.fresh (g_ _))⟩
 .obtain⟨its,r',pl,hz⟩:=I.tuple hq;exact call_tuple_same pl ⟨.ref p,H,I,rfl,q⟩
noncomputable def tyV(K:b_)(T:String)(x:V)(H:Hp):Prop:=match x with
 | .str _=>T="str"
 | .int _=>T="int"
 | .ref p=>(T="list"/\∃xs,SqL K H p xs)\/(T="tuple"/\∃o,K.lookup p=some o/\o.cls=.type "tuple"/\o.dict=none) \/
   (T="dict"/\((∃kvs,H p=some (.dK kvs))\/∃kvs,H p=some (.dT kvs)))\/(T="set"/\∃S n,H p=some (.set S n))
 | _=>False
def yn{pins:List (Addr×Obj)}{σ:St}{H:Hp}{s:c_}{T:String}{x:V}{v:Value}(I:Inv X pins σ H s)(r:bS x v)(ty:tyV X.K T x H) :
  s.TypeIs v T/\∀a,v=.ref a->∃ob,s.heap.get? a=some ob/\ob.dict=none:=by
 cases x with
 | str z =>
  obtain⟨t,rfl⟩:=r;cases (show T="str" from ty);exact⟨typeIs_str s z t,λ_ e=>nomatch e⟩
 | int i =>
  obtain⟨t,rfl⟩:=r;cases (show T="int" from ty);exact⟨typeIs_int s i t,λ_ e=>nomatch e⟩
 | ref p =>
  cases r
  rcases ty with ⟨rfl,xs,hq⟩|⟨rfl,o,hk,hc,hd⟩|⟨rfl,hk⟩|⟨rfl,S,n,hk⟩
  .obtain⟨its,_,pl,_⟩:=I.list hq;refine⟨pl.isList.typeIs,λa e=>?_⟩;cases e;obtain⟨o,n,e,c,hd,_⟩:=pl;exact⟨o,e,hd⟩
  .refine⟨⟨o,I.kIn p o hk,hc⟩,λa e=>?_⟩;cases e;exact⟨o,I.kIn _ o hk,hd⟩
  .have z:∃o,s.heap.get? p=some o/\o.ExactDict:=by
    rcases hk with ⟨kvs,hk⟩|⟨kvs,hk⟩
    .obtain⟨_,_,_,_,o,_,_,e,ex,_⟩:=I.hok p _ hk;exact⟨o,e,ex⟩
    .obtain⟨_,_,_,_,o,_,_,e,ex,_⟩:=I.hok p _ hk;exact⟨o,e,ex⟩
   obtain⟨o,e,ex⟩:=z;refine⟨⟨o,e,ex.1⟩,λa e2=>?_⟩;cases e2;exact⟨o,e,ex.2.1⟩
  .obtain⟨o,_,_,_,e,ex,_⟩:=I.hok p _ hk;refine⟨⟨o,e,ex.1⟩,λa e2=>?_⟩;cases e2;exact⟨o,e,ex.2.1⟩
 | _=>exact HB ty
noncomputable def FZ(K:b_)(T:String)(r:V->List V->Hp->VK->Prop)(to:TE):TE:=λσ H Q=>to σ H λx H1=>tyV K T x H1/\r x [] H1 Q
noncomputable def tBM(K:b_)(T:String)(r:V->List V->Hp->VK->Prop)(to:TE)(t:TA):TE:=λσ H Q=>to σ H λx H1=>tyV K T x H1/\t σ H1 λxs H2=>r x xs H2 Q
variable {o e:Expr}{es:List Expr}{to:TE}{t:TA}{name:Str}{apos cpos:Pos}{T id:String}{r:V->List V->Hp->VK->Prop}
def BW(pa:PlainAttrs T)(slot:Slot T name id)(hty:typeOf (.builtin id)=pure (.type "method_descriptor"))(hm:MtR X id r)(ho:PE X o to)
  (hbase:attributeBase o name X.env (eval o X.env)=eval o X.env:=by rfl) (hline:(apos.endLine == cpos.line)=true:=by rfl):PE X (.Call (.Attribute o name apos) [] [] cpos) (FZ X.K T r to):=by
 intro pins s σ H Q I h;refine wpAny_Call_method0_late hbase hline (thn (ho pins s σ H _ I h) λv s1 ⟨x,H1,I1,r1,ty,q1⟩=>?_);obtain⟨h1,h2⟩:=yn I1 r1 ty;exact⟨T,id,pa,slot,hty,h1,h2,JM rfl (PySem.evalArgs_none (hm pins s1 σ H1 x [] v [] Q I1 r1 .nil q1))⟩
def Ev(pa:PlainAttrs T)(slot:Slot T name id)(hty:typeOf (.builtin id)=pure (.type "method_descriptor"))(hm:MtR X id r)(ho:PE X o to)(ha:PA X (e::es) t)
  (hbase:attributeBase o name X.env (eval o X.env)=eval o X.env:=by rfl)
  (hfew:((backTo cpos (starEach (e::es) X.env)).all (λx=>!x.1) && (backToKw cpos (keywordEach [] X.env)).all (λx=>x.1.isSome)
   && decide ((e::es).length+([]:List Keyword).length+(if ([]:List Keyword).isEmpty then 0 else 1)<30))=true:=by rfl)
  (hline:(apos.endLine == cpos.line)=true:=by rfl) (hs:starEach (e::es) X.env=(false,eval e X.env)::starEach es X.env:=by rfl) (hplain:(backTo cpos (starEach es X.env)).any (·.1)=false:=by rfl) :
  PE X (.Call (.Attribute o name apos) (e::es) [] cpos) (tBM X.K T r to t):=by
 intro pins s σ H Q I h;refine wpAny_Call_method_late hbase hfew hline rfl (thn (ho pins s σ H _ I h) λv s1 ⟨x,H1,I1,r1,ty,q1⟩=>?_);obtain⟨h1,h2⟩:=yn I1 r1 ty;refine⟨T,id,pa,slot,hty,h1,h2,?_⟩;have hA:=ha cpos pins s1 σ H1 _ I1 q1;rw [hs] at hA ⊢;refine JM (by show (false || (backTo cpos (starEach es X.env)).any (·.1))=false;rw [hplain] <;> rfl) (Calls.evalArgs_plain ?_);exact thn hA λus s2 ⟨vs,H2,I2,r2,q2⟩=>hm pins s2 σ H2 x vs v us Q I2 r1 r2 q2
end
noncomputable def MtM(X:Cx)(id:String)(r:V->List V->Hp->VK->Prop):Prop :=
 ∀(pins:List (Addr×Obj)) (s:c_) (σ:St) (H:Hp) (x:V) (xs:List V) (v:Value) (us:List Value) (Q:VK),Inv X pins σ H s->bS x v->bK xs us->r x xs H Q ->
  wpAny (model X.prog X.w) X.A (call (.builtin id) (v::us)) (EP X pins σ Q) X.xe s
theorem bK.one:∀{x:V}{us:List Value},bK [x] us->∃u,us=[u]/\bS x u
 | _,_,.cons r .nil=>⟨_,rfl,r⟩
theorem bK.zero:∀{us:List Value},bK [] us->us=[]
 | _,.nil=>rfl
def bK.dropLast{xs:List V}{us:List Value}(h:bK xs us):bK xs.dropLast us.dropLast:=by
 induction h with
 | nil=>exact .nil
 | cons r t ih =>
  cases t with
  | nil=>exact .nil
  | cons q t'=>exact .cons r ih
theorem bK.eraseIdx:∀{xs:List V}{us:List Value} (i:Nat),bK xs us->bK (xs.eraseIdx i) (us.eraseIdx i)
 | _,_,_,.nil=>.nil
 | _,_,0,.cons _ t=>t
 | _,_,i+1,.cons r t=>.cons r (bK.eraseIdx i t)
def bK.reverse{xs:List V}{us:List Value}(h:bK xs us):bK xs.reverse us.reverse:=by
 induction h with
 | nil=>exact .nil
 | cons r t ih=>rw [K3,K3];exact bK.append ih (.cons r .nil)
theorem bK.rep{xs:List V}{us:List Value}(h:bK xs us):∀k:Nat,bK (u_ k xs).flatten (u_ k us).flatten
 | 0=>.nil
 | k+1=>by
  rw [replicate_succ,replicate_succ,flatten_cons,flatten_cons];exact bK.append h (bK.rep h k)
def sm{α:Type}(l:List α):l.eraseIdx (l.length - 1)=l.dropLast:=by
 induction l with
 | nil=>rfl
 | cons a r ih =>
  cases r with
  | nil=>rfl
  | cons b r =>
   have e:(a::b::r).length - 1=((b::r).length - 1)+1:=by
    have h1:(a::b::r).length=r.length+2:=rfl;have h2:(b::r).length=r.length+1:=rfl;omega
   rw [e,eraseIdx_cons_succ,ih]
   all_goals rfl
theorem nL{α:Type}:∀(l:List α) (i:Nat),(l.eraseIdx i).length<=l.length
 | [],_=>g_ _
 | _::_,0=>le_succ _
 | _::r,i+1=>succ_le_succ (nL r i)
theorem nM(its:List Value):∀(k:Nat) (acc:List Value),
  Lv (λx1 x2=>x1++x2) acc.toArray (u_ k its.toArray)=(acc++(u_ k its).flatten).toArray
 | 0,acc=>by simp
 | k+1,acc=>by
  have e:acc.toArray++its.toArray=(acc++its).toArray:=by simp
  have e2:(acc++its)++(u_ k its).flatten=acc++(u_ (k+1) its).flatten:=by
   rw [replicate_succ,flatten_cons,Io]
  rw [<- e2,<- nM its k (acc++its),<- e,replicate_succ,foldl_cons]
section
variable {X:Cx}{pins:List (Addr×Obj)}{σ:St}{H:Hp}{s:c_}{l b:Addr}{xs ys zs:List V}
def Inv.lset{its its':List Value}{n:Nat}{f:Array Value->Array Value}{t':Nat}(I:Inv X pins σ H s)(hH:H l=some (.lst xs))
  (e:s.heap.get? l=some { cls:=.type "list",data:=.seq its.toArray n }) (hf:f its.toArray=its'.toArray) (hv:bK ys its') (hz:ys.length<=sizeLine) :
  Inv X pins σ (upd H l (.lst ys)) { s with heap:=s.heap.update l (IB f),toks:=t' }:=by
 have q:=PySem.IsL.update e f;rw [hf] at q;refine I.write (x:=l) (e:=l) (by rw [hH];exact trivial) (.inl rfl) (λb' u hb hu=>(HC s.heap (IB f) (HL hb)).trans hu) ⟨_,q⟩ ?_;exact⟨hz,its',_,hv,q⟩
def Inv.lnew{its:List Value}{t':Nat}(I:Inv X pins σ H s)(hv:bK ys its)(hz:ys.length<=sizeLine) :
  Inv X pins σ (upd H s.heap.objs.size (.lst ys)) { s with heap:=s.heap.push { cls:=.type "list",data:=.seq its.toArray },toks:=t' } :=
 I.laid (λ_ _ q=>f_ _ q) (g_ _) ⟨hz,its,0,hv,p_ _ rfl⟩
def Inv.fresh(I:Inv X pins σ H s):H s.heap.objs.size=none:=I.hok.fresh (g_ _)
def Inv.lstM(I:Inv X pins σ H s)(hH:H l=some (.lst xs)):xs.length<=sizeLine/\∃(its:List Value) (n:Nat),bK xs its/\xs.length=its.length/\s.heap.get? l=some { cls:=.type "list",data:=.seq its.toArray n }:=by
 obtain⟨z,its,n,r,e⟩:=I.hok l _ hH;exact⟨z,its,n,r,r.length,e⟩
def wN{n:Nat}(h:n<=sizeLine):Js n=false:=by
 unfold Js;exact decide_eq_false (by omega)
end
section
variable {X:Cx}
noncomputable def ub:V->List V->Hp->VK->Prop:=λx vs H Q=>∃l xs y,x=.ref l/\vs=[y]/\H l=some (.lst xs)/\xs.length<sizeLine/\Q .non (upd H l (.lst (xs++[y])))
def dk:MtM X "list.append" ub:=by
 intro pins s σ H x vs v us Q I rx rv h;obtain⟨l,xs,y,rfl,rfl,hH,hz,q⟩:=h;cases rx;obtain⟨u,rfl,ru⟩:=rv.one;obtain⟨z,its,n,r,hl,e⟩:=I.lstM hH;refine K4 F.slot_list_append ⟨_,e,rfl⟩ F.entry_list_append (F.args_list_append_2 _ _) (PySem.list_append l its.toArray n u (by rw [size_toArray];omega)) ⟨e,?_⟩;refine⟨.non,_,I.lset (its':=its++[u]) hH e (by simp) (r.append (.cons ru .nil)) ?_,rfl,q⟩;rw [length_append,length_singleton]
 omega
noncomputable def F4:V->List V->Hp->VK->Prop:=λx vs H Q=>∃l xs y,x=.ref l/\vs=[]/\H l=some (.lst xs)/\xs[xs.length - 1]?=some y/\Q y (upd H l (.lst xs.dropLast))
def BX:MtM X "list.pop" F4:=by
 intro pins s σ H x vs v us Q I rx rv h;obtain⟨l,xs,y,rfl,rfl,hH,hy,q⟩:=h;cases rx;have hus:=rv.zero;subst hus;obtain⟨z,its,n,r,hl,e⟩:=I.lstM hH;obtain⟨u,hu,ru⟩:=r.get hy
 have hy':its.toArray[its.toArray.size - 1]?=some u:=by
  show its.toArray[its.length - 1]?=some u;rw [<- JS,<- hl];exact hu
 refine K4 F.slot_list_pop ⟨_,e,rfl⟩ F.entry_list_pop (F.args_list_pop_1 _) (MeetsSeq.list_pop_last l its.toArray n u hy' (by rw [size_toArray];omega)) ⟨e,?_⟩
 refine⟨y,_,I.lset (its':=its.dropLast) hH e ?_ r.dropLast ?_,ru,q⟩
 .show its.toArray.eraseIdxIfInBounds (its.toArray.size - 1)=its.dropLast.toArray;rw [size_toArray,eraseIdxIfInBounds_toArray,sm]
 .rw [length_dropLast];omega
noncomputable def yo:V->List V->Hp->VK->Prop:=λx vs H Q=>∃l xs i k y,x=.ref l/\vs=[.int i]/\H l=some (.lst xs)/\-(2^63)<=i/\i<2^63/\seqIndex? i xs.length=some k/\xs[k]?=some y/\Q y (upd H l (.lst (xs.eraseIdx k)))
def wO:MtM X "list.pop" yo:=by
 intro pins s σ H x vs v us Q I rx rv h;obtain⟨l,xs,i,k,y,rfl,rfl,hH,h1,h2,hk,hy,q⟩:=h;cases rx;obtain⟨u,rfl,ru⟩:=rv.one;obtain⟨t,rfl⟩:=ru;obtain⟨z,its,n,r,hl,e⟩:=I.lstM hH;obtain⟨w,hw,rw'⟩:=r.get hy
 refine K4 F.slot_list_pop ⟨_,e,rfl⟩ F.entry_list_pop (F.args_list_pop_2 _ _)
  (MeetsSeq.list_pop_at l its.toArray n i t k w (fitsIndex_both h1 h2) (by rw [size_toArray,<- hl];exact hk) (by rw [<- JS];exact hw) (by rw [size_toArray];omega)) ⟨e,?_⟩
 refine⟨y,_,I.lset (its':=its.eraseIdx k) hH e ?_ (r.eraseIdx k) ?_,rw',q⟩
 .show its.toArray.eraseIdxIfInBounds k=(its.eraseIdx k).toArray;rw [eraseIdxIfInBounds_toArray]
 .have:=nL xs k;omega
noncomputable def F8:R2:=λx y H Q=>∃l k xs,x=.ref l/\y=.int k/\H l=some (.lst xs)/\-(2^63)<=k/\k<2^63/\xs.length*k.toNat<=sizeLine /\
 ∀p,H p=none->Q (.ref p) (upd H p (.lst (u_ k.toNat xs).flatten))
def zA{α:Type}(xs:List α)(k:Nat):(u_ k xs).flatten.length=k*xs.length:=by
 induction k with
 | zero=>simp
 | succ k ih=>rw [replicate_succ,flatten_cons,length_append,ih,succ_mul,add_comm]
def BY:OpR X (binaryOp .Mult) F8:=by
 intro pins s σ H x y v u Q I rx ry h;obtain⟨l,k,xs,rfl,rfl,hH,h1,h2,hz,q⟩:=h;cases rx;obtain⟨t,rfl⟩:=ry;obtain⟨z,its,n,r,hl,e⟩:=I.lstM hH;have hlen:its.toArray.size*k.toNat<=sizeLine:=by rw [size_toArray,<- hl];exact hz
 have hcap:¬ its.toArray.size*k.toNat > (2^63 - 1) / 8:=by
  have:(sizeLine:Nat)<=(2^63 - 1) / 8:=by decide
  omega
 have hfit:¬ (!Builtin.List.listFitsIndex k)=true:=by
  rw [fitsIndex_both h1 h2];exact m_
 have hlong:¬ Js (its.toArray.size*k.toNat)=true:=by
  rw [wN hlen];exact m_
 have hnew:Lv (λx1 x2=>x1++x2) #[] (u_ (if its.toArray.isEmpty=true then 0 else k.toNat) its.toArray)=(u_ k.toNat its).flatten.toArray:=by
  have f0:∀m:Nat,Lv (λx1 x2=>x1++x2) #[] (u_ m its.toArray)=(u_ m its).flatten.toArray:=λm=>by
   have:=nM its m [];rw [nil_append] at this;exact this
  rw [f0]
  cases its with
  | nil=>simp
  | cons a r'=>rw [if_neg (by simp)]
 refine wpAny_binaryOp_repeat_ref (T:="list") (U:="int") (by decide) ⟨_,e,rfl⟩ (λs'=>typeIs_int s' k t) noFill_list_mul F.fills_int_mul F.slot_int_rmul repeat_list F.slot_int_index.lookup
  (K4 F.slot_int_rmul (typeIs_int s k t) F.entry_int_rmul (F.args_int_rmul_2 _ _) (int___rmul___int_list k t l its.toArray n)
   ⟨e,rfl,⟨_,e,rfl⟩,K4 F.slot_list_mul ⟨_,e,rfl⟩ F.entry_list_mul (F.args_list_mul_2 _ _) (AutoListH.list___mul___list_int_3 l its.toArray n k t hfit hcap hlong) ⟨e,?_⟩⟩)
 rw [hnew];exact⟨.ref _,_,I.lnew (t':=s.toks) (r.rep k.toNat) (by rw [zA,mul_comm];exact hz),rfl,q _ I.fresh⟩
end
end L2
namespace Att
open PySem PySem.W PySem.Calls PyProof.Rows
def j8{P:Km}{h:Heap}:∀(ns:List Int) (vs:List Value),WellAll P h vs (ns.map WData.int)->Jk vs ns:=by
 intro ns
 induction ns with
 | nil =>
  intro vs w;rw [map_nil] at w;cases w;exact .nil
 | cons n ns ih =>
  intro vs w;rw [map_cons] at w
  cases w with
  | cons a b =>
   cases a;exact .cons _ _ (ih _ b)
def uc{l:OpenLaw}{n:Nat}(hn:l.most=some n){P:Km}{h:Heap}{args:List WData}{vals:List Value}
  (hpre:l.row.toRowW.claim.pre args=true) (hwl:WellAll P h vals args) :
  ∃a vs ns,vals=[o_ a]/\args=[WData.list (ns.map WData.int)]/\h.get? a=some { cls:=.type "list",data:=.seq vs.toArray }/\Jk vs ns/\ns.length<=n:=by
 have hsh:WShape.hasAll [] args [.list .int]=true:=(pre_splitW hpre).1;have hc:l.pre.holds [] { args:=args }=true:=(pre_splitW hpre).2;obtain⟨d,r,rfl,h1,h2⟩:=hasAllW_cons hsh;obtain rfl:=hasAllW_nil h2;obtain⟨xs,rfl,h3⟩:=hasW_list h1;obtain⟨ns,rfl⟩:=items_int h3
 have hlen:ns.length<=n:=by
  unfold OpenLaw.pre at hc
  have h4:(WTm.not (.lt (.lit (.int (n:Int))) (.len (.arg 0)))).holds [] { args:=[.list (ns.map .int)] }=true:=by
   have h4:=(holds_andW hc).1;rw [hn] at h4;exact h4
  have h5:=condW_of h4 (w_not (w_lt w_lit (w_len_list (w_arg rfl))));rw [length_map] at h5;refine le_of_not_lt λq=>?_;have q':(n:Int)<((ns.length:Nat):Int):=by omega
  first
   | (rw [decide_eq_true q'] at h5;exact absurd h5 (by decide))
   | (simp at h5;omega)
 cases hwl with
 | cons w1 w2 =>
  cases w2
  cases w1 with
  | list ho hall=>exact⟨_,_,ns,rfl,rfl,ho,j8 ns _ hall,hlen⟩
def ud(l:OpenLaw)(args:List WData):l.row.toRowW.claim.post args (.bool true) args=true :=
 postW_of (r:=l.row.toRowW) (X:=(true == true))
  (show WShape.has [] (.bool true) .bool=true by first|rfl|decide|simp [WShape.has,WShape.arms,WShape.armsAll])
  (show (WTm.eq .res (.lit (.bool true))).value [] { args:=args,res:=some (.bool true),after:=args }=some (.bool (true == true)) from w_eq_bool (w_res rfl) w_lit) rfl
def attach_call{l:OpenLaw}{n:Nat}{q:so}{loose:List Str}{XP:(Str->Option Value)->Heap->Prop}{YP:World->Heap->Prop}{d:DefRec}
  (hn:l.most=some n) (hdf:d.params.defaults=[])
  (call:∀(w:World) (s₀ s₁:c_) (mg mb:Str->Option Value) (fa:Addr) (o:Obj) (pm cd doc:Value) (a:Addr) (vs:List Value) (ns:List Int),
   Ground q loose [] XP w s₀ mg mb s₁.heap->YP w s₁.heap ->
   s₁.heap.get? fa=some o->o.data=.func (docDef d.name d.params d.body d.scope pm cd doc)->s₁.heap.CodeRec cd d.name->mg d.name=some (.ref fa) ->
   s₁.heap.get? a=some { cls:=.type "list",data:=.seq vs.toArray }->Jk vs ns->ns.length<=n->s₁.gens=#[] ->
   codeAny (model l.prog w) callerA (.call (.ref fa) ⟨[.ref a],[]⟩) (λr s'=>r=.ok (.ret (.bool true))/\OldK s₁.heap s'.heap/\s'.os=s₁.os/\Kf s'.gens) s₁) :
  WalkO q loose XP YP l.row.toRowW d [] (λf vs=>PySem.call f vs):=by
 intro w s₀ s₁ mg mb G Y fa o pm cd doc dV kV ho hd hcd hD hmg hg args vals as hpre hlay hrd hwl hlo;obtain rfl:dV=.none:=Dflts.none hD hdf;obtain rfl:kV=.none:=Dflts.noKw hD;obtain⟨a,vs,ns,rfl,rfl,hobj,hints,hlen⟩:=uc hn hpre hwl;refine enter_call (Kg (call w s₀ s₁ mg mb fa o pm cd doc a vs ns G Y ho (fd_plain hd) hcd hmg hobj hints hlen hg) λr s' hq=>?_);obtain⟨rfl,h2,h3,h4⟩:=hq;exact⟨.inl ⟨.bool true,.bool true,[],rfl,λ_=>rfl,.bool true,ud l _,λ_=>⟨List.Pairwise.nil,λ_ hm=>(nomatch hm)⟩⟩,h2,h3,h4⟩
end Att
namespace L2
open PySem PySem.Spec PyProof.Rows
theorem ip:∀{vs:List Value}{ns:List Int},Jk vs ns->bK (ns.map V.int) vs
 | _,_,.nil=>.nil
 | _,_,.cons n t h=>.cons ⟨t,rfl⟩ (ip h)
noncomputable def Ew(H:Hp):Prop:=∀b,H b=none\/∃o xs,H b=some (.frz o (.lst xs))
def wP{P:so}{w:World}{K:b_}{mg mb:Str->Option Value}{CX:CXT}{k:Nat}{fa a:Addr}{fd:H_}{x:Str}{sp:Sp}{s₁:c_}{vs:List Value}{ns:List Int}
  (KX:K.In s₁.heap) (hns:s₁.heap.Ns mainGlobals mg) (hb:s₁.heap.Ns builtinsNs mb) (hbb:∀x:Str,x≠"__name__"->mb x=bootBuiltins x) (hlim:s₁.heap.NoLimit) (hg:s₁.gens=#[])
  (ha:s₁.heap.get? a=some { cls:=.type "list",data:=.seq vs.toArray }) (hi:Jk vs ns) (hl:ns.length<=sizeLine) (hr:fJ k callerA)
  (F:∀base:Heap,K.In base->base.Ns mainGlobals mg->pT P w K mg base CX k fa fd [x] sp) (hbind:∀(s:c_) (u:Value),KB s fd ⟨[u],[]⟩ [(x,u)])
  (hsp:∀H:Hp,Ew H->SqL K H a (ns.map V.int)->sp [.ref a] H (λv _=>v=.bl true) λ_ _ _=>False)
  (hCX:∀H e s',CX [] H s₁ (λ_ _ _=>False) e s'->False) :
  codeAny (model P w) callerA (.call (.ref fa) ⟨[.ref a],[]⟩) (λr s'=>r=.ok (.ret (.bool true))/\OldK s₁.heap s'.heap/\s'.os=s₁.os/\Kf s'.gens) s₁:=by
 have rv:=ip hi;have lenV:=hi.length
 -- from an abstract heap in which nothing but the script may be tracked
 have core:∀H:Hp,Ew H->SqL K H a (ns.map V.int)->HOk P w H s₁.heap->(∀b,H b≠none->b=a)->(H a≠none->K.lookup a=none) ->
   codeAny (model P w) callerA (.call (.ref fa) ⟨[.ref a],[]⟩) (λr s'=>r=.ok (.ret (.bool true))/\OldK s₁.heap s'.heap/\s'.os=s₁.os/\Kf s'.gens) s₁:=by
  intro H hO hS hok hA hK;have base_of:∀{b:Addr}{o:Obj},s₁.heap.get? b=some o->H b=none->(Bz s₁.heap H).get? b=some o:=λe n=>wE e n
  have noA:∀{b:Addr}{o:Obj}{es:Array KR}{ep:Nat},s₁.heap.get? b=some o->o.data=.dict es ep->H b=none:=λ{b o es ep} e d=>by
   cases q:H b with
   | none=>rfl
   | some u =>
    have e':b=a:=hA b (by rw [q];simp);subst e';rw [ha] at e;cases e;have d':Data.seq vs.toArray _=Data.dict es ep:=d;cases d'
  have nsK:∀{b:Addr}{m:Str->Option Value},s₁.heap.Ns b m->(Bz s₁.heap H).Ns b m:=λ{b m} ⟨o,es,ep,e,d,r⟩=>⟨o,es,ep,base_of e (noA e d),d,r⟩
  have hKb:K.In (Bz s₁.heap H):=λb o e=>base_of (KX b o e) (by
   cases q:H b with
   | none=>rfl
   | some u =>
    have e':b=a:=hA b (by rw [q];simp);subst e';rw [hK (by rw [q];simp)] at e;cases e)
  have hM:Mod K mg (Bz s₁.heap H):=⟨hKb,nsK hns,⟨mb,nsK hb,hbb⟩,let ⟨mc,h1,h2⟩:=hlim;⟨mc,nsK h1,h2⟩⟩
  have e0:Bi P w K mg (Bz s₁.heap H) callerA [] s₁ H:=⟨rfl,hM,λb o e=>zh e,KU (tJ _ _),trivial,λb hb=>absurd (show b∈([]:List Addr) from hb) (by simp),hok,.of_eq hg,λ_ _ z=>nomatch (show ([]:List Addr)=_ from z)⟩
  refine Kg ((F _ hKb (nsK hns)).run callerA [] s₁ H ⟨[.ref a],[]⟩ [.ref a] [.ref a] _ _ hr e0 (hbind s₁ (.ref a)) (.cons rfl .nil) (hsp H hO hS)) λr s' h=>?_
  cases r with
  | error e=>exact (hCX H e s' h).elim
  | ok fl =>
   cases fl with
   | next=>exact HB h
   | brk=>exact HB h
   | cont=>exact HB h
   | ret u =>
    obtain⟨v,H',os,bare,un,hok',r',q⟩:=h;have q':v=.bl true:=q;subst q';obtain rfl:u=Ia true:=r';refine⟨rfl,OldK.of_keep λb o e=>?_,os,bare⟩
    cases q:H b with
    | none=>exact un.keep b o e q (by intro z;exact absurd (show b∈([]:List Addr) from z) (by simp)) (by simp)
    | some u =>
     rcases hO b with z|⟨ob,xs,z⟩
     .rw [q] at z;cases z
     .have z2:=un.frzs b ob _ z;obtain⟨e1,_⟩:=hok b _ z;obtain⟨e2,_⟩:=hok' b _ z2;rw [e] at e1;cases e1;exact e2
 cases hk:K.lookup a with
 | some o =>
  -- the script is one of the module's own objects
  have e:=KX a o hk;rw [ha] at e;cases e;refine core (λ_=>none) (λ_=>.inl rfl) (.inr ⟨_,vs.toArray,_,hk,rfl,rfl,rfl,by rw [size_toArray,lenV];exact hl,by simpa using rv⟩) (λb u z=>by have z':(none:Option HO)=some u:=z;cases z') (λb z=>absurd rfl z) λz=>absurd rfl z
 | none =>
  refine core (λb=>if b=a then some (.frz { cls:=.type "list",data:=.seq vs.toArray } (.lst (ns.map V.int))) else none) (λb=>?_) (.inl (.inr ⟨{ cls:=.type "list",data:=.seq vs.toArray },if_pos rfl⟩)) (λb u z=>?_) (λb z=>?_) λ_=>hk
  .by_cases hb:b=a
   .exact .inr ⟨_,_,if_pos hb⟩
   .exact .inl (if_neg hb)
  .by_cases hb:b=a
   .have z':=(if_pos hb).symm.trans z;cases z';subst hb;exact⟨ha,by rw [length_map];exact hl,vs,_,rv,ha⟩
   .have z':=(if_neg hb).symm.trans z;cases z'
  .by_cases hb:b=a
   .exact hb
   .exact absurd (if_neg hb) z
def zB{l:Lb}{n k:Nat}{q:so}{loose:List Str}{XP:(Str->Option Value)->Heap->Prop}{YP:World->Heap->Prop}{d:DefRec}{K:Km->b_}{CX:World->CXT}{sp:World->Sp}{x:Str}
  (hn:l.most=some n) (hn2:n<=sizeLine) (hdf:d.params.defaults=[]) (hr:fJ k callerA)
  (hY:∀(w:World) (h:Heap),YP w h->(K w.params).In h)
  (F:∀(w:World) (mg:Str->Option Value) (fa:Addr) (h:Heap),(K w.params).In h->h.Ns mainGlobals mg->mg d.name=some (.ref fa) ->
   ∃fd:H_,(∀(s:c_) (u:Value),KB s fd ⟨[u],[]⟩ [(x,u)]) /\
    ∀base:Heap,(K w.params).In base->base.Ns mainGlobals mg->pT l.prog w (K w.params) mg base (CX w) k fa fd [x] (sp w))
  (hsp:∀(w:World) (H:Hp) (a:Addr) (ns:List Int),ns.length<=n->Ew H->SqL (K w.params) H a (ns.map V.int)->sp w [.ref a] H (λv _=>v=.bl true) λ_ _ _=>False)
  (hCX:∀(w:World) (H:Hp) (s:c_) (e:Value) (s':c_),CX w [] H s (λ_ _ _=>False) e s'->False) :
  PySem.W.WalkO q loose XP YP l.row.toRowW d [] (λf vs=>PySem.call f vs):=by
 refine Att.attach_call hn hdf λw s₀ s₁ mg mb fa o pm cd doc a vs ns G Y ho hd hcd hmg hobj hints hlen hg=>?_;have KX:=hY w _ Y;obtain⟨fd,hb,hF⟩:=F w mg fa _ KX G.T.g hmg;exact wP KX G.T.g G.T.b G.T.builtins G.T.nolimit hg hobj hints (HP hlen hn2) hr hF hb (λH hO hS=>hsp w H a ns hlen hO hS) λH e s'=>hCX w H s₁ e s'
noncomputable def fe(s:Stmt)(j:Nat):Stmt:=match s with
 | .ClassDef _ _ _ body _ _ _ _ _ _ _=>body.getD j (.Pass ⟨0,0,0,0⟩)
 | _=>.Pass ⟨0,0,0,0⟩
noncomputable def cA(s:Stmt):Arguments:=match s with
 | .FunctionDef _ a _ _ _ _ _ _ _ _=>a
 | _=>{ posonlyargs:=[],args:=[],vararg:=none,kwonlyargs:=[],kw_defaults:=[],kwarg:=none,defaults:=[] }
noncomputable def aS(s:Stmt):List Stmt:=match s with
 | .FunctionDef _ _ b _ _ _ _ _ _ _=>b
 | _=>[]
noncomputable def ai(s:Stmt):Scope:=match s with
 | .FunctionDef _ _ _ _ _ _ sc _ _ _=>sc
 | _=>{ kind:=.function,names:=[],isGenerator:=false,isCoroutine:=false }
abbrev CX0:CXT:=λ_ _ _ _ _ _=>False
abbrev E0:XK:=λ_ _ _=>False
def Ex{X:Cx}:t8 CX0 X E0:=λ_ _ _ _ _ _ _ h=>h.elim
structure Fun (K:b_) (x qual:Str) (st:Stmt) (f:Addr) (fd:H_):Prop where
 ex:∃(oc:Value) (od:Option Addr) (kV doc pm:Value) (an:Option Addr) (cdv ct:Value) (osl:Array (Option Value)),
  fd=Hw x qual (cA st) (aS st) (ai st) .none kV doc pm an cdv ct/\K.lookup f=some ⟨oc,od,.func fd,osl⟩/\IA K cdv qual=true
 kp:C_ K (.ref f)=true
section
variable {P:so}{w:World}{K:b_}{mg:Str->Option Value}{base:Heap}
def Fun.ok{x qual:Str}{st:Stmt}{f:Addr}{fd:H_}{N ps:List Str}{k:Nat}{sp:Sp}(F:Fun K x qual st f fd)(S:aB N ps (ai st))(len:∀vs H Q E,sp vs H Q E->vs.length=ps.length)
  (hbody:∀(cdv:Value) (A:w_) (outer:List Env) (s:c_) (H:Hp) (vs:List V) (Q:VK) (E:XK),fJ k (A.deeper (envOfC qual (ai st) s.heap.objs.size f cdv))->sp vs H Q E ->
   ∃t,PSs (jR CX0 P w K mg base N qual (ai st) f cdv A outer s H E).nox (aS st) t/\t { nx:=λ_ H'=>Q .non H',rt:=Q } (start N vs) H):pT P w K mg base CX0 (k+1) f fd ps sp:=by
 obtain⟨oc,od,kV,doc,pm,an,cdv,ct,osl,rfl,lk,hcd⟩:=F.ex;refine BQ lk hcd S len λA outer s H vs Q E hr hsp=>?_;obtain⟨t,h,q⟩:=hbody cdv A outer s H vs Q E hr hsp;exact⟨t,h.nox,q⟩
def Fun.binds{x qual:Str}{st:Stmt}{f:Addr}{fd:H_}{ps:List Str}(F:Fun K x qual st f fd)
  (h:∀(kV doc pm:Value) (an:Option Addr) (cdv ct:Value) (us:List Value),us.length=ps.length->bindArgs (Hw x qual (cA st) (aS st) (ai st) .none kV doc pm an cdv ct) ⟨us,[]⟩=pure (ps.zip us)):mn K fd ps []:=by
 obtain⟨oc,od,kV,doc,pm,an,cdv,ct,osl,rfl,lk,hcd⟩:=F.ex;exact .all (h kV doc pm an cdv ct)
def gD{x qual:Str}{st:Stmt}{f:Addr}{oc:Value}{od an:Option Addr}{osl:Array (Option Value)}{kV doc pm cdv ct:Value}(l:K.lookup f=some ⟨oc,od,.func (Hw x qual (cA st) (aS st) (ai st) .none kV doc pm an cdv ct),osl⟩)
  (c:IA K cdv qual=true) (k:C_ K (.ref f)=true):Fun K x qual st f (Hw x qual (cA st) (aS st) (ai st) .none kV doc pm an cdv ct):=⟨⟨oc,od,kV,doc,pm,an,cdv,ct,osl,rfl,l,c⟩,k⟩
end
section
variable {X:Cx}
theorem pv(i:Nat){x:Str}{pos:Pos}(hN:X.N[i]?=some x:=by rfl)(hv:Vis X.env.scope x:=by first|exact Iq rfl|exact Jb (Iq rfl)|exact Jb (Jb rfl))(hd:(x == ("__debug__":Str))=false:=by decide)
  (hcd:(x == ("__classdict__":Str))=false:=by decide):PE X (.Name x pos) (bC i):=BA hN hv hd hcd
end
def S(l:List Nat):Str:=⟨l.toArray⟩
def j9(l:List Nat):(S l).length=l.length:=by simp [S,Str.length]
def Ey(a b:List Nat):S a++S b=S (a++b):=by
 show (⟨a.toArray++b.toArray⟩:Str)=⟨(a++b).toArray⟩
 rw [append_toArray]
def BZ{a b:List Nat}(h:S a=S b):a=b:=by
 have h':=congrArg (λx:Str=>x.cps.toList) h;simpa [S] using h'
def GO{a b:List Nat}(h:a≠b):S a≠S b:=λe=>h (BZ e)
def B0{a b:List Nat}:V.str (S a)=V.str (S b) ↔ a=b:=⟨λh=>BZ (V.str.inj h),λh=>by rw [h]⟩
def B1(a b:List Nat):decide (V.str (S a)=V.str (S b))=decide (a=b):=by
 by_cases h:a=b
 .rw [decide_eq_true h,decide_eq_true (B0.mpr h)]
 .rw [decide_eq_false h,decide_eq_false (λz=>h (B0.mp z))]
section
variable {X:Cx}
noncomputable def mB{α:Type}(l:List α)(n:Int):List α:=(u_ n.toNat l).flatten
def ue(k:Nat)(l acc:List Nat):(u_ k l.toArray).foldl (·++·) acc.toArray=(acc++(u_ k l).flatten).toArray:=by
 induction k generalizing acc with
 | zero=>simp
 | succ k ih =>
  rw [replicate_succ,foldl_cons,append_toArray,ih (acc++l),replicate_succ,flatten_cons,Io]
def Ez(l:List Nat)(n:Int):Txt.mul (S l) n=S (mB l n):=by
 unfold Txt.mul mB
 by_cases h:n<1
 .rw [if_pos h];have:n.toNat=0:=by omega
  rw [this];rfl
 .rw [if_neg h]
  split
  .rename_i h2;rw [j9] at h2;simp only [or_eq_true,beq_iff_eq] at h2
   rcases h2 with h2|h2
   .subst h2;simp [S]
   .have:l=[]:=IC.mp h2;subst this;simp [S]
  .have e:=ue n.toNat l [];show (⟨_⟩:Str)=_
   have e':(u_ n.toNat (S l).cps).foldl (·++·) #[]=((u_ n.toNat l).flatten).toArray:=by
    simpa [S] using e
   rw [e'];rfl
def pW{α:Type}(l:List α)(n:Int):(mB l n).length=n.toNat*l.length:=by
 unfold mB;rw [length_flatten,map_replicate,sum_replicate_nat]
def su:OpR X (binaryOp .Mult) (λx y H Q=>∃l n,x=.str (S l)/\y=.int n/\-1000000<=n/\n<=1000000/\n.toNat*l.length<=sizeLine/\Q (.str (S (mB l n))) H):=by
 intro pins s σ H x y v u Q I rx ry h;obtain⟨l,n,rfl,rfl,h1,h2,hz,q⟩:=h;obtain⟨t,rfl⟩:=rx;obtain⟨t',rfl⟩:=ry;have hs:sizeLine=16777216:=J5;have hz':n.toNat*l.length<=16777216:=by rw [<- hs];exact hz
 refine SB.mul ⟨?_,λhn hc=>?_,λhn hc=>?_⟩ λt' k=>⟨.str (S (mB l n)),H,I.tok _,⟨t',by rw [Ez]⟩,q⟩
 .rw [decide_eq_false (by omega),decide_eq_false (by omega)];rfl
 .rw [j9];intro hgt
  have hl:l.length<=16777216:=by
   have:1*l.length<=n.toNat*l.length:=Jl _ (by omega);omega
  have hdiv:(2^63 - 1:Int) / 1000000<=(2^63 - 1) / n:=by
   apply le_ediv_of_mul_le (by omega);have:=mul_le_mul_of_nonneg_left h2 (show (0:Int)<=(2^63 - 1) / 1000000 by decide);have e2:((2^63 - 1:Int) / 1000000)*1000000<=2^63 - 1:=by decide
   omega
  have e3:(2^63 - 1:Int) / 1000000=9223372036854:=by decide
  omega
 .rw [j9];have:l.length*n.toNat<=16777216:=by rw [mul_comm];exact hz'
  exact decide_eq_false (by omega)
def uf:OpR X (compareOp .LtE) (λx y H Q=>∃i j,x=.str i/\y=.str j/\Q (.bl (!decide (j.cps.toList<i.cps.toList))) H):=by
 intro pins s σ H x y v u Q I rx ry h;obtain⟨i,j,rfl,rfl,q⟩:=h;obtain⟨t,rfl⟩:=rx;obtain⟨t',rfl⟩:=ry;exact PySem.P.le_str ⟨.bl _,H,I,rfl,q⟩
end
noncomputable def Its(xs:List V):It:=⟨λi _=>i<xs.length,λi H x H'=>H'=H/\xs[i]?=some x,λi _=>xs.length=i⟩
def ug{M:Model}{A:w_}{E:Value->c_->Prop}{s:c_}{tg:Expr}{it:Addr}{u:Value}{Q:Unit->c_->Prop}(hu:∀a,u≠.ref a)(hQ:Q () s):wpAny M A (letOwnedTupleGo tg (.ref it) u) Q E s:=by
 unfold letOwnedTupleGo
 cases tg <;> first
  | exact l_ hQ
  | (cases u <;> first
    | exact l_ hQ
    | exact absurd rfl (hu _))
def nN{P:so}{w:World}{K:b_}{tg:Expr}{it:Addr}{xs:List V}{n:Nat}{Pt:Nat->Value->Prop}{St:Nat->Heap->Prop}
  (W:∀A:w_,A.handled=none->Walks P w A it [it] [it] n Pt St) (hn:xs.length=n)
  (hv:∀i v,i<n->Pt i v->∃x,xs[i]?=some x/\bS x v) (hsc:∀i v,Pt i v->∀a,v≠.ref a)
  (hobj:∀i h,St i h->∃o,h.get? it=some o/\∀v,o.data≠.cell v)
  (hfr:∀i h h',St i h->(∀b∈[it],∀o,h.get? b=some o->h'.get? b=some o)->St i h')
  (hself:∀(A:w_) (i:Nat) (s:c_) (Q:Value->c_->Prop) (E:Value->c_->Prop),St i s.heap->Q (.ref it) s->wpAny (model P w) A (pyIter (.ref it)) Q E s) :
  zp P w K tg (Its xs) [it] it St where
 mem:=by simp
 obj:=λi h st b hb=>by
  have e:b=it:=by simpa using hb
  subst e;exact hobj i h st
 keep:=λi h h' st k=>hfr i h h' st k
 item:=by
  intro X hP hw hK hc i pins s σ H E I hf st hg;subst hP hw hK;obtain⟨f0,f1,f2,f3,f4,f5⟩:=hf it (by simp);refine (W X.A (I.ok.hd hc)).item i s _ _ (by rw [<- hn];exact hg) st λv h' tk hp st' kk=>?_;obtain⟨x,hx,rx⟩:=hv i v (by rw [<- hn];exact hg) hp;have I1:Inv X pins σ H { s with heap:=h',toks:=tk }:=I.turned (λb o hb e=>kk b o (by simpa using hb) e) f0 f1 f3 f4 f5;exact⟨v,rfl,ug (s:={ s with heap:=h',toks:=tk }) (hsc i v hp) ⟨x,H,I1,rx,⟨rfl,hx⟩,st',λb hb=>(hf b hb).1⟩⟩
 done:=by
  intro X hP hw hK hc i pins s σ H E I hf st hg;subst hP hw hK;obtain⟨f0,f1,f2,f3,f4,f5⟩:=hf it (by simp);have e:n=i:=hn.symm.trans hg;subst e;exact (W X.A (I.ok.hd hc)).done s _ _ st λh' tk kk=>⟨rfl,I.turned (λb o hb e=>kk b o (by simpa using hb) e) f0 f1 f3 f4 f5⟩
 self:=hself
section
variable {X:Cx}{tg:Expr}
noncomputable def fS(l:List Nat):List V:=l.map λc=>V.str (S [c])
def sv{l:List Nat}{i:Nat}{x:V}(h:(fS l)[i]?=some x):∃c,l[i]?=some c/\x=.str (S [c]):=by
 unfold fS at h;rw [i_] at h
 cases e:l[i]? with
 | none=>rw [e] at h;cases h
 | some c=>rw [e] at h;exact⟨c,rfl,(we h).symm⟩
def iV(l:List Nat):(fS l).length=l.length:=length_map _
end
section
variable {X:Cx}
def pX:bD X (.builtin "isinstance") (λxs H Q=>∃x n t b,xs=[x,.ty n]/\nq X.K H x t/\Ht X.K t (.type n)=some b/\Q (.bl b) H):=by
 intro pins s σ H xs us Q I r h;obtain⟨x,n,t,b,rfl,ty,e,q⟩:=h;obtain⟨u,w',rfl,rx,ry⟩:=tW r;cases (show w'=Ib n from ry);exact t7 I rx ty e λtk=>⟨.bl b,H,I.tok _,rfl,q⟩
mutual
inductive DV (K:b_) (H:Hp):V->JA->Prop
 | non:DV K H .non .none
 | bl (b:Bool):DV K H (.bl b) (.bool b)
 | int (i:Int):DV K H (.int i) (.int i)
 | str (x:Str):DV K H (.str x) (.str x)
 | lst {a:Addr}{xs:List V}{ds:List JA}:SqL K H a xs->DVs K H xs ds->DV K H (.ref a) (.list ds)
 | tup {a:Addr}{xs:List V}{ds:List JA}:SqT K H a xs->DVs K H xs ds->DV K H (.ref a) (.tuple ds)
inductive DVs (K:b_) (H:Hp):List V->List JA->Prop
 | nil:DVs K H [] []
 | cons {x:V}{d:JA}{xs:List V}{ds:List JA}:DV K H x d->DVs K H xs ds->DVs K H (x::xs) (d::ds)
end
mutual
theorem DV.reads{pins:List (Addr×Obj)}{σ:St}{H:Hp}{s:c_}(I:Inv X pins σ H s):∀{x:V}{d:JA}{u:Value},DV X.K H x d->bS x u->∃as,Reads s.heap u d as
 | _,_,u,.non,r=>by cases (show u=HE from r);exact⟨_,.none⟩
 | _,_,u,.bl b,r=>by cases (show u=Ia b from r);exact⟨_,.bool b⟩
 | _,_,u,.int i,r=>by obtain⟨t,e⟩:=(show ∃t,u=JU i t from r);subst e;exact⟨_,.int i t⟩
 | _,_,u,.str x,r=>by obtain⟨t,e⟩:=(show ∃t,u=JC x t from r);subst e;exact⟨_,.str x t⟩
 | _,_,u,.lst (a:=a) hq hs,r=>by
  cases (show u=o_ a from r);obtain⟨its,rv,pl,_⟩:=I.list hq;obtain⟨o,ho,hc,n,hd⟩:=pl.isList;obtain⟨as,ra⟩:=DVs.reads I hs rv;exact⟨_,.list ho hc hd ra⟩
 | _,_,u,.tup (a:=a) hq hs,r=>by
  cases (show u=o_ a from r);obtain⟨its,rv,pl,_⟩:=I.tuple hq;obtain⟨o,ho,hc,n,hd⟩:=pl;obtain⟨as,ra⟩:=DVs.reads I hs rv;exact⟨_,.tuple ho hc hd ra⟩
theorem DVs.reads{pins:List (Addr×Obj)}{σ:St}{H:Hp}{s:c_}(I:Inv X pins σ H s):∀{xs:List V}{ds:List JA}{us:List Value},DVs X.K H xs ds->bK xs us->∃as,ReadsAll s.heap us ds as
 | _,_,_,.nil,.nil=>⟨_,.nil⟩
 | _,_,_,.cons h hs,.cons r rs=>by
  obtain⟨as,ra⟩:=DV.reads I h r;obtain⟨bs,rb⟩:=DVs.reads I hs rs;exact⟨_,.cons ra rb⟩
end
noncomputable def EA(K:b_)(neg:Bool):R2:=λx y H Q=>∃da db,DV K H x da/\DV K H y db/\Ie da=true/\Ie db=true/\Q (.bl (if neg then !Jf da db else Jf da db)) H
def B2(hu:X.A.units+64<cLine):OpR X (compareOp .Eq) (EA X.K false):=by
 intro pins s σ H x y v u Q I rx ry h;obtain⟨da,db,ha,hb,sa,sb,q⟩:=h;obtain⟨as,ra⟩:=DV.reads I ha rx;obtain⟨bs,rb⟩:=DV.reads I hb ry;exact eq_dataH ra rb sa sb hu ⟨.bl _,H,I,rfl,q⟩
def B3(hu:X.A.units+64<cLine):OpR X (compareOp .NotEq) (EA X.K true):=by
 intro pins s σ H x y v u Q I rx ry h;obtain⟨da,db,ha,hb,sa,sb,q⟩:=h;obtain⟨as,ra⟩:=DV.reads I ha rx;obtain⟨bs,rb⟩:=DV.reads I hb ry;exact ne_dataH ra rb sa sb hu ⟨.bl _,H,I,rfl,q⟩
theorem DVs.ints{K:b_}{H:Hp}:∀ns:List Int,DVs K H (ns.map V.int) (ns.map K5)
 | []=>.nil
 | n::ns=>.cons (.int n) (DVs.ints ns)
theorem ka:∀ns ms:List Int,Jt (ns.map K5) (ms.map K5)=decide (ns=ms)
 | [],[]=>by simp [Jt]
 | [],_::_=>by simp [Jt]
 | _::_,[]=>by simp [Jt]
 | a::r,b::t=>by
  simp only [map_cons,Jt,Jf,ka r t]
  by_cases h:a=b <;> by_cases h':r=t <;> simp [h,h']
end
section
variable {X:Cx}{a b:Expr}{ta tb:TE}{pos:Pos}
def bM{x:Str}{l:List Nat}{j:Nat}(h:x=S l):PE X (.Constant (.str x) j pos) (tC (.str (S l))):=by
 subst h;exact BB
def uh:bD X (.builtin "len") (λxs H Q=>∃l,xs=[.str (S l)]/\l.length<=sizeLine/\Q (.int l.length) H):=by
 intro pins s σ H xs us Q I r h;obtain⟨l,rfl,hz,q⟩:=h;exact nJ pins s σ H _ us Q I r ⟨S l,rfl,by rw [j9];exact hz,by rw [j9];exact q⟩
noncomputable def B4:R2:=λx y H Q=>∃l i c,x=.str (S l)/\y=.int i/\l.length<=sizeLine/\atI l i=some c/\Q (.str (S [c])) H
def zC:IxR X B4:=by
 intro value slice pins s σ H x y v u Q I rx ry q hs;obtain⟨l,i,c,rfl,rfl,hz,ha,q⟩:=q;exact BU value slice pins s σ H _ _ v u Q I rx ry ⟨S l,i,c,rfl,rfl,by rw [j9];exact hz,ha,q⟩ hs
def zD:OpR X (binaryOp .Add) (λx y H Q=>∃i j,x=.str (S i)/\y=.str (S j)/\i.length+j.length<=sizeLine/\Q (.str (S (i++j))) H):=by
 intro pins s σ H x y v u Q I rx ry h;obtain⟨i,j,rfl,rfl,hz,q⟩:=h;exact si pins s σ H _ _ v u Q I rx ry ⟨S i,S j,rfl,rfl,by rw [j9,j9];exact hz,by rw [Ey];exact q⟩
def B5:OpR X (compareOp .Eq) (λx y H Q=>∃i j,x=.str (S i)/\y=.str (S j)/\Q (.bl (decide (i=j))) H):=by
 intro pins s σ H x y v u Q I rx ry h;obtain⟨i,j,rfl,rfl,q⟩:=h;exact El pins s σ H _ _ v u Q I rx ry ⟨rfl,by rw [B1];exact q⟩
def B6:OpR X (compareOp .NotEq) (λx y H Q=>∃i j,x=.str (S i)/\y=.str (S j)/\Q (.bl (!decide (i=j))) H):=by
 intro pins s σ H x y v u Q I rx ry h;obtain⟨i,j,rfl,rfl,q⟩:=h;exact Em pins s σ H _ _ v u Q I rx ry ⟨rfl,by rw [B1];exact q⟩
def B7:OpR X (compareOp .Eq) (rI0 λi j=>.bl (decide (i=j))):=Bh λ_ _ _ _ _ _ _ q=>eq_int (by rw [beq_eq_decide_eq];exact q)
def B8:OpR X (compareOp .NotEq) (rI0 λi j=>.bl (!decide (i=j))):=Bh λ_ _ _ _ _ _ _ q=>ne_int (by rw [bne,beq_eq_decide_eq];exact q)
def ui:bD X (.builtin "len") (λxs H Q=>∃p ys,xs=[.ref p]/\SqL X.K H p ys/\Q (.int ys.length) H):=by
 intro pins s σ H xs us Q I r h;obtain⟨p,ys,e,hq,q⟩:=h;exact jp pins s σ H xs us Q I r ⟨p,ys,e,.inl hq,q⟩
def uj:bD X (.builtin "len") (λxs H Q=>∃p ys,xs=[.ref p]/\SqT X.K H p ys/\Q (.int ys.length) H):=by
 intro pins s σ H xs us Q I r h;obtain⟨p,ys,e,hq,q⟩:=h;exact jp pins s σ H xs us Q I r ⟨p,ys,e,.inr hq,q⟩
end
structure Cal (P:so) (w:World) (K:b_) (mg:Str->Option Value) (base:Heap) (k:Nat) (x:Str) (ps:List Str) (sp:Sp):Prop where
 ex:∃(f:Addr) (fd:H_),pT P w K mg base CX0 k f fd ps sp/\mn K fd ps []/\C_ K (.ref f)=true/\mg x=some (.ref f)/\∃oc od osl,K.lookup f=some ⟨oc,od,.func fd,osl⟩
structure aY (K:b_) (mg:Str->Option Value) (x:Str) (st:Stmt):Prop where
 ex:∃(f:Addr) (fd:H_),Fun K x x st f fd/\mg x=some (.ref f)
section
variable {P:so}{w:World}{K:b_}{mg:Str->Option Value}{base:Heap}{x:Str}{st:Stmt}{N ps:List Str}{k:Nat}{sp:Sp}
def aY.ok(D:aY K mg x st)(S:aB N ps (ai st))
  (hb:∀(kV doc pm:Value) (an:Option Addr) (cdv ct:Value) (us:List Value),us.length=ps.length->bindArgs (Hw x x (cA st) (aS st) (ai st) .none kV doc pm an cdv ct) ⟨us,[]⟩=pure (ps.zip us))
  (len:∀vs H Q E,sp vs H Q E->vs.length=ps.length)
  (hbody:∀(f:Addr) (cdv:Value) (A:w_) (outer:List Env) (s:c_) (H:Hp) (vs:List V) (Q:VK) (E:XK),fJ k (A.deeper (envOfC x (ai st) s.heap.objs.size f cdv))->sp vs H Q E ->
   ∃t,PSs (jR CX0 P w K mg base N x (ai st) f cdv A outer s H E).nox (aS st) t/\t { nx:=λ_ H'=>Q .non H',rt:=Q } (start N vs) H):Cal P w K mg base (k+1) x ps sp:=by
 obtain⟨f,fd,F,hm⟩:=D.ex
 have lk:∃oc od osl,K.lookup f=some ⟨oc,od,.func fd,osl⟩:=by
  obtain⟨oc,od,kV,doc,pm,an,cdv,ct,osl,rfl,lk,hcd⟩:=F.ex;exact⟨oc,od,osl,lk⟩
 exact⟨f,fd,F.ok S len λcdv A outer s H vs Q E hr h=>hbody f cdv A outer s H vs Q E hr h,F.binds hb,F.kp,hm,lk⟩
def aY.mk'{K:b_}{h:Heap}{mg:Str->Option Value}{x:Str}{st:Stmt}{f:Addr}{oc:Value}{od an:Option Addr}{osl:Array (Option Value)}{kV doc pm cdv ct:Value}(X:K.In h)(G:h.Ns mainGlobals mg)
  (a:D_ K mainGlobals x=some (some (.ref f))) (l:K.lookup f=some ⟨oc,od,.func (Hw x x (cA st) (aS st) (ai st) .none kV doc pm an cdv ct),osl⟩)
  (c:IA K cdv x=true) (k:C_ K (.ref f)=true):aY K mg x st:=⟨f,_,gD (st:=st) l c k,x_ X G a⟩
end
section
variable {X:Cx}{k:Nat}{x:Str}{ps:List Str}{sp:Sp}{p pos:Pos}{e:Expr}{es:List Expr}{t:TA}
def B9(C:Cal X.prog X.w X.K X.mg X.base k x ps sp)(hr:fJ k X.A)(ha:PA X (e::es) t)(hg:Gl X x:=by rfl)(hdb:(x == ("__debug__":Str))=false:=by decide)(he:starEach (e::es) X.env=(false,eval e X.env)::starEach es X.env:=by rfl)
  (hpl:(backTo pos (starEach es X.env)).any (·.1)=false:=by rfl):PE X (.Call (.Name x p) (e::es) [] pos) (gP sp [] E0 t):=by
 obtain⟨f,fd,F,hb,hk,hm,_⟩:=C.ex;exact zu F hr hg hm hk hb .nil Ex ha hdb he hpl
end
noncomputable def sx(K:b_):Sp:=λvs H Q _=>∃(a:Addr) (ns:List Int),vs=[.ref a]/\SqL K H a (ns.map V.int)/\ns.length<=63/\∀H',Q (.bl true) H'
def Ca{P:so}{w:World}{K:b_}{mg:Str->Option Value}{fa:Addr}{st:Stmt}{k:Nat}{x:Str}(hfa:mg "law"=some (.ref fa))(D:aY K mg "law" st)
  (hbind:∀(kV doc pm:Value) (an:Option Addr) (cdv ct:Value) (s:c_) (v:Value),KB s (Hw "law" "law" (cA st) (aS st) (ai st) .none kV doc pm an cdv ct) ⟨[v],[]⟩ [(x,v)])
  (h:∀base:Heap,Cal P w K mg base k "law" [x] (sx K)) :
  ∃fd:H_,(∀(s:c_) (v:Value),KB s fd ⟨[v],[]⟩ [(x,v)])/\∀base:Heap,K.In base->base.Ns mainGlobals mg->pT P w K mg base CX0 k fa fd [x] (sx K):=by
 obtain⟨f,fd,F,hm⟩:=D.ex;have e:=hfa.symm.trans hm;cases e;obtain⟨oc,od,kV,doc,pm,an,cdv,ct,osl,rfl,lk,hcd⟩:=F.ex;refine⟨_,λs v=>hbind kV doc pm an cdv ct s v,λbase kb nb=>?_⟩;obtain⟨f',fd',F',_,_,hm',oc',od',osl',lk'⟩:=(h base).ex;have e:=hfa.symm.trans hm';cases e;rw [lk] at lk';cases lk';exact F'
def Cb{l:Lb}{q:so}{loose:List Str}{XP:(Str->Option Value)->Heap->Prop}{YP:World->Heap->Prop}{d:DefRec}{K:Km->b_}{k:Nat}{x:Str}(hn:l.most=some 63)(hdf:d.params.defaults=[])(hr:fJ k callerA)
  (hY:∀(w:World) (h:Heap),YP w h->(K w.params).In h)
  (F:∀(w:World) (mg:Str->Option Value) (fa:Addr) (h:Heap),(K w.params).In h->h.Ns mainGlobals mg->mg d.name=some (.ref fa) ->
   ∃fd:H_,(∀(s:c_) (u:Value),KB s fd ⟨[u],[]⟩ [(x,u)])/\∀base:Heap,(K w.params).In base->base.Ns mainGlobals mg->pT l.prog w (K w.params) mg base CX0 k fa fd [x] (sx (K w.params))) :
  PySem.W.WalkO q loose XP YP l.row.toRowW d [] (λf vs=>PySem.call f vs) :=
 zB (n:=63) (k:=k) (x:=x) (CX:=λ_=>CX0) (sp:=λw=>sx (K w.params)) hn (by decide) hdf hr hY F (λ_ _ a ns hl _ hS=>⟨a,ns,rfl,hS,hl,λ_=>rfl⟩) λ_ _ _ _ _ z=>z
def zE{α β:Type}{f:α->β}{xs:List α}{i:Int}{v:α}(h:atI xs i=some v):atI (xs.map f) i=some (f v):=by
 unfold atI at h ⊢;rw [length_map]
 cases e:ixN xs.length i with
 | none=>rw [e] at h;cases h
 | some j =>
  rw [e] at h;show (xs.map f)[j]?=some (f v);have h':xs[j]?=some v:=h;rw [i_,h'];rfl
def eX{α:Type}{xs:List α}{i:Int}{j:Nat}{v:α}(h:xs[j]?=some v)(e:i=(j:Int)):atI xs i=some v:=by subst e;exact zw h
def sz(n:Nat)(h:n<=1000000):n<=sizeLine:=by rw [J5];omega
def wQ{ns:List Int}{i:Nat}{x:V}(h:(ns.map V.int)[i]?=some x):∃z,ns[i]?=some z/\x=.int z:=by
 rw [i_] at h
 cases e:ns[i]? with
 | none=>rw [e] at h;cases h
 | some z=>rw [e] at h;exact⟨z,rfl,(we h).symm⟩
section
variable {X:Cx}{st:Stmt}{t:TS}
noncomputable def Cc(t:TS):TS:=λD σ H=>∃J:St->Hp->Prop,t { D with nx:=J } σ H/\∀σ' H',J σ' H'->D.nx σ' H'
def bX(h:PS X st t):PS X st (Cc t):=by
 intro pins s σ H D I q;obtain⟨J,q1,q2⟩:=q;refine thn (h pins s σ H _ I q1) λf s' r=>?_
 cases f with
 | next=>obtain⟨σ',H',I',r'⟩:=r;exact⟨σ',H',I',q2 σ' H' r'⟩
 | brk=>exact r
 | cont=>exact r
 | ret u=>exact r
end
theorem dH{x:Str}{c:Addr}:∀(names:List (Str×HW)) (n:Nat) (acc:List (Str×Addr)),(cellsFrom n names acc).lookup x=some c->(n<=c/\(x,Ja)∈names)\/acc.lookup x=some c
 | [],n,acc,h=>.inr h
 | (y,k)::r,n,acc,h=>by
  unfold cellsFrom at h
  split at h
  .rename_i hk;have hk':k=.cell:=by simpa using hk
   subst hk'
   rcases dH r (n+1) ((y,n)::acc) h with ⟨h1,h2⟩|h1
   .exact .inl ⟨by omega,q_ _ h2⟩
   .rw [Ir] at h1
    cases e:x == y with
    | true =>
     rw [e] at h1;have:n=c:=we h1;have ex:x=y:=by simpa using e
     subst ex;exact .inl ⟨by omega,mem_cons_self⟩
    | false=>rw [e] at h1;exact .inr h1
  .rcases dH r n acc h with ⟨h1,h2⟩|h1
   .exact .inl ⟨h1,q_ _ h2⟩
   .exact .inr h1
theorem fg{x:Str}:∀(names:List (Str×HW)) (n:Nat) (acc:List (Str×Addr)),(x,Ja)∉names->(cellsFrom n names acc).lookup x=acc.lookup x
 | [],_,_,_=>rfl
 | (y,k)::r,n,acc,h=>by
  unfold cellsFrom
  split
  .rename_i hk;have hk':k=.cell:=by simpa using hk
   subst hk';rw [fg r (n+1) _ (λz=>h (q_ _ z)),Ir]
   have:(x == y)=false:=by
    rw [beq_eq_false_iff_ne];intro e;subst e;exact h mem_cons_self
   rw [this]
  .exact fg r n acc (λz=>h (q_ _ z))
theorem fh{x y:Str}{c:Addr}:∀(names:List (Str×HW)) (n:Nat) (acc:List (Str×Addr)),(∀z d,acc.lookup z=some d->d<n) ->
  (cellsFrom n names acc).lookup x=some c->(cellsFrom n names acc).lookup y=some c->n<=c->x=y
 | [],n,acc,ha,h1,h2,hc=>absurd (ha x c h1) (not_lt.mpr hc)
 | (z,k)::r,n,acc,ha,h1,h2,hc=>by
  unfold cellsFrom at h1 h2
  split at h1
  .rename_i hk;rw [if_pos hk] at h2
   have ha':∀w d,((z,n)::acc).lookup w=some d->d<n+1:=λw d e=>by
    rw [Ir] at e
    cases q:w == z with
    | true=>rw [q] at e;cases e;exact HX _
    | false=>rw [q] at e;exact JY (ha w d e)
   by_cases hcn:n+1<=c
   .exact fh r (n+1) _ ha' h1 h2 hcn
   .have e:c=n:=le_antisymm (not_lt.mp hcn) hc;subst e
    have key:∀w:Str,(cellsFrom (c+1) r ((z,c)::acc)).lookup w=some c->w=z:=λw hw=>by
     rcases dH r (c+1) _ hw with ⟨q,_⟩|q
     .exact absurd q (not_succ_le_self _)
     .rw [Ir] at q
      cases q2:w == z with
      | true=>simpa using q2
      | false=>rw [q2] at q;exact absurd (ha w c q) (HN _)
    rw [key x h1,key y h2]
  .rename_i hk;rw [if_neg hk] at h2;exact fh r n acc ha h1 h2 hc
noncomputable def gQ(env:Env):List (Str×HW)->List (Str×Addr)->List (Str×Addr)
 | [],acc=>acc
 | (n,k)::r,acc=>if (k == .free)=true then gQ env r ((n,(env.cells.lookup n).getD 0)::acc) else gQ env r acc
theorem fi{env:Env}{x:Str}{c:Addr}:∀(names:List (Str×HW)) (acc:List (Str×Addr)),(gQ env names acc).lookup x=some c->((x,Ju)∈names/\c=(env.cells.lookup x).getD 0)\/acc.lookup x=some c
 | [],acc,h=>.inr h
 | (y,k)::r,acc,h=>by
  unfold gQ at h
  split at h
  .rename_i hk;have hk':k=.free:=by simpa using hk
   subst hk'
   rcases fi r _ h with ⟨h1,h2⟩|h1
   .exact .inl ⟨q_ _ h1,h2⟩
   .rw [Ir] at h1
    cases e:x == y with
    | true =>
     rw [e] at h1;have ex:x=y:=by simpa using e
     subst ex;exact .inl ⟨mem_cons_self,(we h1).symm⟩
    | false=>rw [e] at h1;exact .inr h1
  .rcases fi r acc h with ⟨h1,h2⟩|h1
   .exact .inl ⟨q_ _ h1,h2⟩
   .exact .inr h1
theorem iq{env:Env}{x:Str}:∀(names:List (Str×HW)) (acc:List (Str×Addr)),((x,Ju)∈names\/(acc.lookup x).isSome=true)->((gQ env names acc).lookup x).isSome=true
 | [],acc,h=>h.elim (λz=>nomatch z) id
 | (y,k)::r,acc,h=>by
  unfold gQ
  split
  .rename_i hk;refine iq r _ ?_
   by_cases e:(x == y)=true
   .exact .inr (by rw [Ir,e];rfl)
   .rcases h with h|h
    .rcases mem_cons.mp h with z|z
     .cases z;exact absurd (by simp) e
     .exact .inl z
    .exact .inr (by rw [Ir];rw [not_eq_true] at e;rw [e];exact h)
  .rename_i hk;refine iq r acc ?_
   rcases h with h|h
   .rcases mem_cons.mp h with z|z
    .cases z;exact absurd rfl hk
    .exact .inl z
   .exact .inr h
def fK{scope:Scope}{env:Env}(h:∀x∈scope.names,x.2=.free->∃c,env.cells.lookup x.1=some c):closureFor scope env=pure (gQ env scope.names []):=by
 unfold closureFor
 have key:∀(names:List (Str×HW)) (acc:List (Str×Addr)),(∀x∈names,x.2=.free->∃c,env.cells.lookup x.1=some c) ->
   (forIn names acc λ(x:Str×HW) (r:List (Str×Addr))=>(if (x.2 == Ju)=true then do let y <- cellOf env x.1;pure (HS ((x.1,y)::r)) else pure (HS r):Sem _))=pure (gQ env names acc):=by
  intro names
  induction names with
  | nil=>intro acc _;rfl
  | cons p r ih =>
   intro acc hp;obtain⟨n,k⟩:=p;rw [forIn_cons];have hr:∀x∈r,x.2=.free->∃c,env.cells.lookup x.1=some c:=λx hx=>hp x (q_ _ hx);unfold gQ
   by_cases hk:(k == Ju)=true
   .obtain⟨c,hc⟩:=hp (n,k) mem_cons_self (by simpa using hk);have hc':env.cells.lookup n=some c:=hc;have e1:cellOf env n=pure c:=by unfold cellOf;rw [hc']
    simp only [hk,if_true];rw [e1,hc'];simp only [pure_bind];exact ih _ hr
   .rw [if_neg hk,if_neg hk];simp only [pure_bind];exact ih _ hr
 have e:=key scope.names [] h;have e2:∀(m:Sem (List (Str×Addr))),(m >>= λr=>pure r)=m:=λm=>bind_pure m;rw [<- e]
 first
  | rfl
  | exact (e2 _)
noncomputable def mC(scope:Scope)(C:Addr)(env:Env):Env :=
 { scope:=relabel scope env,locals:=C,globals:=env.globals,cells:=cellsFrom (C+1) scope.names (gQ env scope.names []),qual:=env.qual,func:=none,code:=env.code,frame:=env.frame,builtins:=env.builtins }
noncomputable def aU(X:Cx)(N':List Str)(scope:Scope)(s:c_)(H:Hp)(fp:List Addr)(pins:List (Addr×Obj)):Cx :=
 { X with N:=N',s₀:=s,H₀:=H,env:=mC scope s.heap.objs.size X.env,outer:=X.stack,stack:=X.stack,ex:=fp,fn:=λx=>decide ((x,Ja)∈scope.names),pn:=X.pn++pins,xe:=λ_ _=>False }
noncomputable def kc(sc0:Scope)(N:List Str)(scope:Scope)(N':List Str)(ix:List (Option Nat)):Bool :=
 decide (scope.kind=.function) && scope.names.all (λy=>(!decide (y.2=.local) || decide (scope.names.lookup y.1=some .local)) &&
  (!decide (y.2=.free) || ((decide (sc0.names.lookup y.1=some .cell) || decide (sc0.names.lookup y.1=some .free)) && !decide ((y.1,Ja)∈scope.names)))) &&
 decide (N'.length=ix.length) && (N'.zip ix).all (λp=>match p.2 with|none=>true|some j=>decide (N[j]?=some p.1) && decide (scope.names.lookup p.1=some .free))
structure qX (env:Env) (N:List Str) (scope:Scope) (N':List Str) (ix:List (Option Nat)):Prop where
 kind:scope.kind=.function
 loc:∀y∈scope.names,y.2=.local->scope.names.lookup y.1=some .local
 free:∀y∈scope.names,y.2=.free->(env.kindOf y.1=some .cell\/env.kindOf y.1=some .free)/\(y.1,Ja)∉scope.names
 len:N'.length=ix.length
 slot:∀(i:Nat) (x:Str) (j:Nat),N'[i]?=some x->ix[i]?=some (some j)->N[j]?=some x/\scope.names.lookup x=some .free
def ke{env:Env}{N:List Str}{scope:Scope}{N':List Str}{ix:List (Option Nat)}(h:kc env.scope N scope N' ix=true):qX env N scope N' ix:=by
 unfold kc at h;simp only [and_eq_true,decide_eq_true_eq,all_eq_true] at h;obtain⟨⟨⟨h1,h2⟩,h3⟩,h4⟩:=h
 refine⟨h1,λy hy e=>?_,λy hy e=>?_,h3,λi x j e1 e2=>?_⟩
 .have:=(h2 y hy).1;rw [e] at this;simpa using this
 .have:=(h2 y hy).2;rw [e] at this;simpa [Env.kindOf] using this
 .have hm:(x,some j)∈N'.zip ix:=by
   refine B_ (i:=i) ?_;rw [getElem?_zip_eq_some];exact⟨e1,e2⟩
  have:=h4 _ hm;simpa using this
noncomputable def rlf(env:Env)(p:Str×HW):Str×HW:=match p with|(n,k)=>if (k == Ju && env.scope.kind == .function && env.kindOf n == some .cell) then (n,.cell) else (n,k)
def uk(env:Env)(n:Str)(k:HW):∃k',rlf env (n,k)=(n,k')/\(k'=k\/(k=.free/\k'=.cell)):=by
 unfold rlf
 by_cases c:(k == Ju && env.scope.kind == .function && env.kindOf n == some .cell)=true
 .refine⟨.cell,if_pos c,.inr ⟨?_,rfl⟩⟩;simp only [and_eq_true,beq_iff_eq] at c;exact c.1.1
 .exact⟨k,if_neg c,.inl rfl⟩
theorem qY{env:Env}:∀{names:List (Str×HW)}{x:Str},names.lookup x=some .free->(names.map (rlf env)).lookup x=some .cell\/(names.map (rlf env)).lookup x=some .free
 | [],_,h=>by simp at h
 | (n,k)::r,x,h=>by
  have ih:=@qY env r x;obtain⟨k',e,hk'⟩:=uk env n k;rw [map_cons,e]
  cases hx:x == n with
  | true =>
   simp only [Ir,hx] at h ⊢;have hk:k=.free:=we h
   rcases hk' with z|z
   .right;rw [z,hk]
   .left;rw [z.2]
  | false =>
   simp only [Ir,hx] at h ⊢;exact ih h
theorem mD{env:Env}:∀{names:List (Str×HW)}{x:Str}{k':HW},(names.map (rlf env)).lookup x=some k'->k'=.cell\/k'=.free->names.lookup x=some .cell\/names.lookup x=some .free
 | [],_,_,h,_=>by simp at h
 | (n,k)::r,x,k',h,hk'=>by
  have ih:=@mD env r x k';obtain⟨k2,e,hk2⟩:=uk env n k;rw [map_cons,e] at h
  cases hx:x == n with
  | true =>
   simp only [Ir,hx] at h ⊢;have:k2=k':=we h;subst this
   rcases hk2 with z|z
   .rw [<- z]
    rcases hk' with q|q
    .left;rw [q]
    .right;rw [q]
   .right;rw [z.1]
  | false =>
   simp only [Ir,hx] at h ⊢;exact ih h hk'
def nO{x:Str}{c:Addr}:∀(names:List (Str×HW)) (n:Nat) (acc:List (Str×Addr)),(cellsFrom n names acc).lookup x=some c->(x,c)∈cellsFrom n names []\/acc.lookup x=some c:=by
 have app:∀(names:List (Str×HW)) (n:Nat) (acc:List (Str×Addr)),cellsFrom n names acc=cellsFrom n names []++acc:=by
  intro names
  induction names with
  | nil=>intro n acc;rfl
  | cons p r ih =>
   intro n acc;obtain⟨y,k⟩:=p;unfold cellsFrom
   split
   .rw [ih (n+1) ((y,n)::acc),ih (n+1) [(y,n)],Io];rfl
   .exact ih n acc
 intro names n acc h;rw [app] at h;rw [lookup_append] at h
 cases e:(cellsFrom n names []).lookup x with
 | some d =>
  rw [e] at h;have:d=c:=by simpa using h
  subst this;exact .inl (mem_of_lookup e)
 | none=>rw [e] at h;exact .inr (by simpa using h)
noncomputable def nP(ix:List (Option Nat))(σ:St):St:=ix.map λo=>match o with
 | none=>none
 | some j=>match σ[j]? with
  | some v=>v
  | none=>none
section
variable {X:Cx}{pins:List (Addr×Obj)}{σ:St}{H:Hp}{s:c_}
def qZ{N':List Str}{ix:List (Option Nat)}{scope:Scope}{fp:List Addr}(ok:qX X.env X.N scope N' ix)(I:Inv X pins σ H s)(hf:∀b∈fp,pS X pins H b)(hfl:∀b∈fp,b<s.heap.objs.size) :
  Inv (aU X N' scope s H fp pins) [] (nP ix σ) H { s with heap:=pushCells (s.heap.push { cls:=.type "dict",data:=.dict #[] }) scope.names }:=by
 have hk4:∀b o,s.heap.get? b=some o->(pushCells (s.heap.push { cls:=.type "dict",data:=.dict #[] }) scope.names).get? b=some o:=λb o e=>J9 _ _ b o (f_ _ e)
 have hclo:∀x c,(gQ X.env scope.names []).lookup x=some c->X.env.cells.lookup x=some c:=λx c e=>by
  rcases fi scope.names [] e with ⟨h1,h2⟩|h1
  .obtain⟨d,hd⟩:=I.ok.has x (ok.free _ h1 rfl).1;rw [hd] at h2 ⊢;rw [h2];rfl
  .cases h1
 have hcl:∀x c,X.env.cells.lookup x=some c->c<s.heap.objs.size:=λx c e=>by
  obtain⟨v,q⟩:=I.cell x c e;exact q.lt
 have own:=cellsFrom_ok scope.names (s.heap.push { cls:=.type "dict",data:=.dict #[] }) (s.heap.objs.size+1) [] ⟨λ_ _ hm=>(nomatch hm),List.Pairwise.nil⟩ (by rw [ID];exact g_ _);rw [ID] at own
 have cases:∀x c,(cellsFrom (s.heap.objs.size+1) scope.names (gQ X.env scope.names [])).lookup x=some c ->
   ((pushCells (s.heap.push { cls:=.type "dict",data:=.dict #[] }) scope.names).IsCell c none/\s.heap.objs.size+1<=c)\/X.env.cells.lookup x=some c:=λx c e=>by
  rcases nO _ _ _ e with h|h
  .exact .inl (own.empty x c h)
  .exact .inr (hclo x c h)
 have fs':∀b,b∈frs X.stack->b<s.heap.objs.size:=λb hb=>by
  rcases mem_cons.mp (I.stkSub b hb) with z|z
  .rw [z];exact I.lt
  .by_cases q:b<s.heap.objs.size
   .exact q
   .exact absurd z (I.nofs (not_lt.mp q))
 have cix:(aU X N' scope s H fp pins).Ok:=by
  refine⟨I.ok.mod,ok.kind,I.ok.glob,I.ok.blt,g_ _,λx y c h1 h2=>?_,λx hx=>?_,λx c hx e=>?_,I.ok.hd,I.ok.frames,.inl rfl,λb hb=>⟨Hj (hfl b hb),λx c e=>?_⟩,λb o e=>I.bs b o e,HP I.ok.bsz I.sz,λb o e hb=>?_,λb hb=>?_,I.stack,I.stkFree,I.ok.tb.un I.base⟩
  .rcases cases x c h1 with ⟨_,z⟩|z
   .exact fh scope.names _ _ (λw d e=>JY (hcl w d (hclo w d e))) h1 h2 z
   .rcases cases y c h2 with ⟨_,z2⟩|z2
    .exact absurd (hcl x c z) (not_lt.mpr (JZ z2))
    .exact I.ok.inj x y c z z2
  .have hx':scope.names.lookup x=some .cell\/scope.names.lookup x=some .free:=by
    rcases hx with z|z
    .exact mD (env:=X.env) z (.inl rfl)
    .exact mD (env:=X.env) z (.inr rfl)
   rcases hx' with z|z
   .exact IP.mp (Im scope.names _ _ (.inl z))
   .exact IP.mp (Im scope.names _ _ (.inr (iq _ _ (.inl (mem_of_lookup z)))))
  .have hx':(x,Ja)∈scope.names:=of_decide_eq_true hx
   rcases cases x c e with ⟨_,z⟩|z
   .exact JZ z
   .rcases nO _ _ _ e with h|h
    .exact JZ (own.empty x c h).2
    .rcases fi scope.names [] h with ⟨h1,_⟩|h1
     .exact absurd hx' (ok.free _ h1 rfl).2
     .cases h1
  .intro z
   rcases cases x c e with ⟨_,z2⟩|z2
   .rw [z] at z2;exact absurd (hfl b hb) (not_lt.mpr (JZ z2))
   .exact (hf b hb).2.2.2.2.1 x c z2 z
  .rcases (hf b hb).2.2.2.1 with z|z
   .exact I.ok.noex b o e z
   .exact absurd (k_ (I.ok.bs b o e).1) (not_lt.mpr z)
  .intro z
   rcases mem_cons.mp (I.stkSub b z) with q|q
   .exact (hf b hb).2.1 q
   .exact (hf b hb).2.2.1 q
 refine⟨cix,rfl,I.bare,Un.kept hk4,⟨λ_=>none,?_,λi x v e1 e2 e3=>?_⟩,λx c e=>?_,I.hok.fresh (g_ _),λx c e=>?_,λp hp=>?_,I.hok.kept hk4,?_⟩
 .exact (Heap.Ns.new s.heap (.type "dict")).keeps (J9 _ _)
 .have e2':∃j,ix[i]?=some (some j)/\σ[j]?=some (some v):=by
   unfold nP at e2;rw [i_] at e2
   cases q:ix[i]? with
   | none=>rw [q] at e2;cases e2
   | some o =>
    rw [q] at e2
    cases o with
    | none=>cases (we e2)
    | some j =>
     refine⟨j,rfl,?_⟩;have e2'':(match σ[j]? with|some v=>v|none=>none)=some v:=we e2
     cases r:σ[j]? with
     | none=>rw [r] at e2'';cases e2''
     | some w=>rw [r] at e2'';exact congrArg some e2''
  obtain⟨j,hj,hv⟩:=e2';obtain⟨hN,hfr⟩:=ok.slot i x j e1 hj;have hk:=(ok.free _ (mem_of_lookup hfr) rfl).1
  have hvis:Vis X.env.scope x:=by
   rcases hk with z|z
   .exact .inr (.inl z)
   .exact .inr (.inr z)
  obtain⟨m,hn,hl⟩:=I.loc;obtain⟨u,ru,lk⟩:=hl j x v hN hv hvis
  refine⟨u,ru,.inr ⟨?_,?_⟩⟩
  .exact qY (env:=X.env) hfr
  .rcases lk with ⟨z,_⟩|⟨_,c,hc,hcell⟩
   .rcases hk with q|q
    .rw [z] at q;cases q
    .rw [z] at q;cases q
   .refine⟨c,?_,hcell.keeps hk4⟩;show (cellsFrom (s.heap.objs.size+1) scope.names (gQ X.env scope.names [])).lookup x=some c;rw [fg scope.names _ _ (ok.free _ (mem_of_lookup hfr) rfl).2];obtain⟨d,hd⟩:=IP.mp (iq (env:=X.env) scope.names [] (.inl (mem_of_lookup hfr)));rw [hd,<- hclo x d hd,hc]
 .rcases cases x c e with ⟨z,_⟩|z
  .exact⟨none,z⟩
  .obtain⟨v,q⟩:=I.cell x c z;exact⟨v,q.keeps hk4⟩
 .rcases cases x c e with ⟨_,z⟩|z
  .exact I.hok.fresh (JZ z)
  .exact I.freeC x c z
 .have hp':p∈X.pn++pins:=by simpa [aU] using hp
  obtain⟨q1,q2,q3,q4,q5⟩:=I.pin p hp';refine⟨hk4 _ _ q1,q2,Hj (k_ q1),λz=>?_,q5⟩
  rcases mem_cons.mp (I.stkSub p.1 z) with q|q
  .exact q3 q
  .exact q4 q
 .unfold nP;rw [length_map];exact ok.len.symm
end
section
variable {M:Model}{A:w_}{E:Value->c_->Prop}{s:c_}
def dI{scope:Scope}{globals:Addr}{cl:List (Str×Addr)}{qual:Str}{func:Option Addr}{code:Value}{env:Env}{Q:Env->c_->Prop}
  (hQ:Q { scope:=scope,locals:=s.heap.objs.size,globals:=globals,cells:=cellsFrom (s.heap.objs.size+1) scope.names cl,qual:=qual,func:=func,code:=env.code,frame:=env.frame,builtins:=env.builtins }
   { s with heap:=pushCells (s.heap.push { cls:=.type "dict",data:=.dict #[] }) scope.names }) :
  wpAny M A (newFunctionEnv scope globals cl [] qual func code (some env)) Q E s:=by
 simp only [newFunctionEnv,Option.isSome_some,if_true];refine cy (wpAny_alloc ?_);refine cy (wpAny_layCells _ (λname kind cells=>by cases hkc:kind == Ja <;> simp [hkc]) _ _ _ _ ?_);rw [show ({ s with heap:=s.heap.push { cls:=.type "dict",data:=.dict #[] } }:c_).heap.objs.size=s.heap.objs.size+1 from ID ..];simp only [forIn_nil];exact cy (l_ (l_ hQ))
end
section
variable {prog:so}{w:World}{A:w_}{R:Result->c_->Prop}{s:c_}
theorem nQ{elt target iter:Expr}{ifs:List Expr}{scope:Scope}{pos:Pos}{it acc:Value}{env:Env}(I:Nat->c_->Prop)
  (turn:∀n s,I n s->wpAny (model prog w) A (pyNext it) (λr s₁=>match r with
   | none=>R (.ok .next) s₁
   | some v=>wpAny (model prog w) A (letOwnedTupleGo target it v) (λ_ s₂=>wpAny (model prog w) A (assign target env v) (λ_ s₃ =>
     wpAny (model prog w) A (forIn ifs true λc r=>if r=true then do let ok <- isTrue c env (eval c env);pure (HS ok) else pure (HS r)) (λok s₄ =>
      if ok=true then wpAny (model prog w) A (eval elt env) (λx s₅ =>
       wpAny (model prog w) A (call (.builtin "list.append") [acc,x]) (λ_ s₆=>∃m,m<n/\I m s₆) (λ_ _=>False) s₅) (λ_ _=>False) s₄
      else ∃m,m<n/\I m s₄) (λ_ _=>False) s₃) (λ_ _=>False) s₂) (λ_ _=>False) s₁) (λ_ _=>False) s)
  (n:Nat) (h:I n s) :
  codeAny (model prog w) A (.compLoop (.ListComp elt [⟨target,iter,ifs,0⟩] scope pos) 0 it acc env) R s:=by
 refine codeAny_loop rfl I (λn s hI=>?_) n h;show wpAny _ A ((compTurn (.ListComp elt [⟨target,iter,ifs,0⟩] scope pos) 0 it acc env).onRaise (λx=>do noteFrame x env;theTreesLotGoes x)) _ _ s;refine wpAny_noted ?_;rw [compTurn_list];refine cy (HI (cy (E_ (turn n s hI) (λr s₁ h₁=>?_) λ_ _ h'=>h'.elim)))
 cases r with
 | none=>exact l_ h₁
 | some v =>
  refine cy (E_ h₁ (λ_ s₂ h₂=>?_) λ_ _ h'=>h'.elim);refine cy (E_ h₂ (λ_ s₃ h₃=>cy (E_ h₃ (λok s₄ h₄=>?_) λ_ _ h'=>h'.elim)) λ_ _ h'=>h'.elim)
  cases ok with
  | false=>exact l_ ⟨rfl,h₄⟩
  | true =>
   exact cy (cy (E_ h₄ (λx s₅ h₅=>cy (E_ h₅ (λ_ s₆ h₆=>l_ (l_ ⟨rfl,h₆⟩)) λ_ _ h'=>h'.elim)) λ_ _ h'=>h'.elim))
end
noncomputable def PIf(X:Cx)(ifs:List Expr)(t:TT):Prop :=
 ∀(pins:List (Addr×Obj)) (s:c_) (σ:St) (H:Hp) (Q:Bool->Hp->Prop),Inv X pins σ H s->t σ H Q ->
  wpAny (model X.prog X.w) X.A (forIn ifs true λc r=>if r=true then do let ok <- isTrue c X.env (eval c X.env);pure (HS ok) else pure (HS r)) (TP X pins σ Q) X.xe s
def iS:TT:=λ_ H Q=>Q true H
section
variable {X:Cx}
def bE:PIf X [] iS:=λ_ _ _ H _ I h=>wpAny_tests_nil ⟨H,I,h⟩
def zF{c:Expr}{t:TT}(h:PT X c t):PIf X [c] t:=λpins s σ H Q I q=>wpAny_tests_one (h pins s σ H Q I q)
end
noncomputable def nR(ix:List (Option Nat))(wi:TI)(g:TG)(tts:TT)(te:TE):TE:=λσ H Q=>wi σ H λJ H1=>∀D,H1 D=none->∃W:Nat->Nat->St->Hp->Prop,(∃m,W 0 m (nP ix σ) (upd H1 D (.lst [])))/\∀i m τ H2,W i m τ H2 ->
 (J.stop i H2/\Q (.ref D) H2)\/(J.go i H2/\∀x H3,J.yld i H2 x H3->g x τ H3 λτ2 H4=>tts τ2 H4 λok H5=>if ok=true then te τ2 H5 λv H6=>∃ys,H6 D=some (.lst ys)/\ys.length<sizeLine/\∃m',m'<m/\W (i+1) m' τ2 (upd H6 D (.lst (ys++[v])))
  else ∃m',m'<m/\W (i+1) m' τ2 H5)
section
variable {X:Cx}{tg iter elt:Expr}{ifs:List Expr}{scope:Scope}{N':List Str}{ix:List (Option Nat)}{wi:TI}{g:TG}{tts:TT}{te:TE}
def nS{use:Option (Value->Sem Unit)}{Qf:Value->c_->Prop}{pos p':Pos}{pins:List (Addr×Obj)}{σ:St}{H:Hp}{s:c_}{Q:VK}(hc:X.calm=true)(ok:qX X.env X.N scope N' ix)(hi:PI X tg iter wi)
  (blk:∀s H fp pn,PG (aU X N' scope s H fp pn) tg g/\PIf (aU X N' scope s H fp pn) ifs tts/\PE (aU X N' scope s H fp pn) elt te)
  (hs:∀x,foldedSetIterable iter X.env x=pure x) (I:Inv X pins σ H s) (hw:nR ix wi g tts te σ H Q)
  (fin:∀D C H' s',Inv X pins σ H' s'->Q (.ref D) H'->(∃m,s'.heap.Ns C m)->H' C=none->X.s₀.heap.objs.size<=C->C≠X.env.locals->(∀x c,X.env.cells.lookup x=some c->c≠C)->C∉X.fs->(∀p∈X.pn++pins,p.1≠C) ->
   compPost (model X.prog X.w) X.A X.xe use Qf (.ref D) C (.ok .next) s') :
  wpAny (model X.prog X.w) X.A (comprehension (.ListComp elt [⟨tg,iter,ifs,0⟩] scope pos) scope X.env p' (newList []) false (eval iter X.env) use) Qf X.xe s:=by
 have hclos:closureFor scope X.env=pure (gQ X.env scope.names []):=fK λy hy e=>I.ok.has y.1 (ok.free y hy e).1;refine wpAny_comprehension_free (use:=use) rfl hs hclos ok.kind ok.loc (thn (hi pins s σ H _ I hw) λv s1 h1=>thn h1 λitv s2 h2=>?_);obtain⟨it,fp,tn,J,H2,e,I2,T,st2,f2,hW⟩:=h2;subst e;obtain⟨W,⟨m0,w0⟩,turn⟩:=hW s2.heap.objs.size (I2.hok.fresh (g_ _))
 have hfl:∀b∈fp,b<s2.heap.objs.size:=λb hb=>by
  obtain⟨o,e,_⟩:=T.obj 0 _ st2 b hb;exact k_ e
 refine Ii ?_
 have I3:Inv X pins σ (upd H2 s2.heap.objs.size (.lst [])) { s2 with heap:=s2.heap.push { cls:=.type "list",dict:=none,data:=.seq ([]:List Value).toArray } } :=
  I2.laid (t':=s2.toks) (λb o e=>f_ _ e) (g_ _) (show aW X.prog X.w _ _ _ (.lst []) from ⟨Jm _,[],0,.nil,p_ _ rfl⟩)
 have st3:tn 0 (s2.heap.push { cls:=.type "list",dict:=none,data:=.seq ([]:List Value).toArray }):=T.keep 0 _ _ st2 λb _ o e=>f_ _ e;have f3:∀b∈fp,pS X pins (upd H2 s2.heap.objs.size (.lst [])) b:=λb hb=>⟨by rw [ak (Hj (hfl b hb))];exact (f2 b hb).1,(f2 b hb).2⟩
 have hfl3:∀b∈fp,b<(s2.heap.push { cls:=.type "list",dict:=none,data:=.seq ([]:List Value).toArray }).objs.size:=λb hb=>by rw [ID];exact JY (hfl b hb)
 generalize hs3:({ s2 with heap:=s2.heap.push { cls:=.type "list",dict:=none,data:=.seq ([]:List Value).toArray } }:c_)=s3 at I3 ⊢;have eh3:s3.heap=s2.heap.push { cls:=.type "list",dict:=none,data:=.seq ([]:List Value).toArray }:=by rw [<- hs3]
 rw [<- eh3] at st3 hfl3;generalize hH3:upd H2 s2.heap.objs.size (.lst [])=H3 at I3 f3 w0;generalize hD:s2.heap.objs.size=D at *;refine dI ?_;have I4:=qZ ok I3 f3 hfl3;obtain⟨hg,ht,he⟩:=blk s3 H3 fp pins;have st4:tn 0 (pushCells (s3.heap.push { cls:=.type "dict",data:=.dict #[] }) scope.names):=T.keep 0 _ _ st3 λb _ o e=>J9 _ _ b o (f_ _ e)
 have stat:∀{H':Hp},(∀b∈fp,H' b=none)->∀b∈fp,pS (aU X N' scope s3 H3 fp pins) [] H' b:=λhn b hb=>by
  refine⟨hn b hb,Hj (hfl3 b hb),I4.ok.exfs b hb,.inl hb,(I4.ok.exf b hb).2,λp hp=>?_⟩;have hp':p∈X.pn++pins:=by simpa [aU] using hp
  exact (f2 b hb).2.2.2.2.2 p hp'
 have loop:∀(s4:c_),Inv (aU X N' scope s3 H3 fp pins) [] (nP ix σ) H3 s4->tn 0 s4.heap ->
   codeAny (model X.prog X.w) X.A (.compLoop (.ListComp elt [⟨tg,iter,ifs,0⟩] scope pos) 0 (.ref it) (.ref D) (mC scope s3.heap.objs.size X.env)) (compPost (model X.prog X.w) X.A X.xe use Qf (.ref D) s3.heap.objs.size) s4:=by
  intro s4 I4 st4;refine nQ (λn s'=>∃i τ H',Inv (aU X N' scope s3 H3 fp pins) [] τ H' s'/\tn i s'.heap/\(∀b∈fp,H' b=none)/\W i n τ H') ?_ m0 ⟨0,_,H3,I4,st4,λb hb=>(f3 b hb).1,w0⟩;rintro n s5 ⟨i,τ,H5,I5,st5,fr5,w5⟩
  rcases turn i n τ H5 w5 with ⟨stop,qn⟩|⟨go,step⟩
  .refine thn (T.done (aU X N' scope s3 H3 fp pins) rfl rfl rfl hc i [] s5 τ H5 (λ_ _=>False) I5 (stat fr5) st5 stop) λr s6 ⟨hr,I6⟩=>?_;subst hr;have I7:Inv X pins σ H5 s6:=I3.call' (ch:=fp) I6.os I6.base I6.hok I6.bare λb hb=>⟨(f2 b hb).2.2.2.1,(f2 b hb).2.1,(f2 b hb).2.2.2.2.1,(f2 b hb).2.2.2.2.2⟩
   obtain⟨m6,hn6,_⟩:=I6.loc
   refine fin D s3.heap.objs.size H5 s6 I7 qn ⟨m6,hn6⟩ I6.free ?_ ?_ ?_ ?_ ?_
   .exact I3.sz
   .exact Kq I3.lt
   .intro x c e z;obtain⟨v,q⟩:=I3.cell x c e;have:=q.lt;rw [z] at this;exact HN _ this
   .exact I3.nofs (g_ _)
   .intro p hp z;have:=k_ (I3.pin p hp).1;rw [z] at this;exact HN _ this
  .refine thn (T.item (aU X N' scope s3 H3 fp pins) rfl rfl rfl hc i [] s5 τ H5 (λ_ _=>False) I5 (stat fr5) st5 go) λr s6 ⟨u,hr,h6⟩=>?_;subst hr;refine thn h6 λ_ s7 ⟨x,H7,I7,r7,y7,st7,fr7⟩=>?_;have I7':=I7.pinned (stat fr7) (T.obj _ _ st7)
   have again:∀{s8:c_}{τ8:St}{H8:Hp},Inv (aU X N' scope s3 H3 fp pins) ([]++j6 fp s7.heap) τ8 H8 s8->(∃m',m'<n/\W (i+1) m' τ8 H8) ->
     ∃m,m<n/\∃i τ H',Inv (aU X N' scope s3 H3 fp pins) [] τ H' s8/\tn i s8.heap/\(∀b∈fp,H' b=none)/\W i m τ H':=λ{s8 τ8 H8} I8 ⟨m',hm,w8⟩=>by
    refine⟨m',hm,i+1,τ8,H8,I8.unpinned,T.keep _ _ _ st7 λb hb o e=>(I8.pin (b,o) (r_ _ (r_ _ (cH hb e)))).1,λb hb=>?_,w8⟩;obtain⟨o,e,d⟩:=T.obj _ _ st7 b hb;exact (I8.pin (b,o) (r_ _ (r_ _ (cH hb e)))).2.1
   refine thn (hg _ s7 τ H7 x u _ I7' r7 (step x H7 y7)) λ_ s8 ⟨τ8,H8,I8,q8⟩=>?_;refine thn (ht _ s8 τ8 H8 _ I8 q8) λokb s9 ⟨H9,I9,q9⟩=>?_
   cases okb with
   | false =>
    rw [if_neg m_] at q9;rw [if_neg m_];exact again I9 q9
   | true =>
    rw [if_pos rfl] at q9;rw [if_pos rfl];refine thn (he _ s9 τ8 H9 _ I9 q9) λv10 s10 ⟨x10,H10,I10,r10,q10⟩=>?_;obtain⟨ys,hD10,hz,m',hm,w10⟩:=q10;refine thn (dk (X:=aU X N' scope s3 H3 fp pins) _ s10 τ8 H10 (.ref D) [x10] (.ref D) [v10] (λ_ H'=>∃m',m'<n/\W (i+1) m' τ8 H') I10 rfl (.cons r10 .nil) ⟨D,ys,x10,rfl,rfl,hD10,hz,m',hm,w10⟩) λ_ s11 ⟨_,H11,I11,_,q11⟩=>?_;exact again I11 q11
 exact codeAny_compStart_list (loop _ I4 st4) (T.self X.A 0 _ _ _ st4 (loop _ I4 st4))
def dr{pos:Pos}(N':List Str)(ix:List (Option Nat))(hc:X.calm=true)(hi:PI X tg iter wi)
  (blk:∀s H fp pn,PG (aU X N' scope s H fp pn) tg g/\PIf (aU X N' scope s H fp pn) ifs tts/\PE (aU X N' scope s H fp pn) elt te)
  (chk:kc X.env.scope X.N scope N' ix=true) (hs:∀x,foldedSetIterable iter X.env x=pure x:=by intro _;rfl) :
  PE X (.ListComp elt [⟨tg,iter,ifs,0⟩] scope pos) (nR ix wi g tts te):=by
 intro pins s σ H Q I hw;rw [eval_ListComp];refine nS (use:=none) hc (ke chk) hi blk hs I hw λD C H' s' I' q hm hn h1 h2 h3 h4 h5=>?_;obtain⟨m,hm⟩:=hm;refine⟨m,hm,λh' sb=>⟨.ref D,H',?_,rfl,q⟩⟩;exact I'.turned (t':=s'.toks) (λb o hb e=>(sb.2 b hb).trans e) hn h2 (.inr h1) h3 h5
end
section
variable {X:Cx}{tg iter elt:Expr}{ifs:List Expr}{scope:Scope}{N':List Str}{ix:List (Option Nat)}{wi:TI}{g:TG}{tts:TT}{te:TE}
theorem gU{i:Nat}{x:Str}{pos pos' cpos:Pos}(N':List Str)(ix:List (Option Nat))(hN:X.N.Nodup)(hi:X.N[i]?=some x)(hx:Loc X.env.scope x)(hc:X.calm=true)(hit:PI X tg iter wi)
  (blk:∀s H fp pn,PG (aU X N' scope s H fp pn) tg g/\PIf (aU X N' scope s H fp pn) ifs tts/\PE (aU X N' scope s H fp pn) elt te)
  (chk:kc X.env.scope X.N scope N' ix=true) (hsw:swapsWith (.ListComp elt [⟨tg,iter,ifs,0⟩] scope cpos) (some (.Name x pos')) pos.line X.env=pure true:=by rfl)
  (hs:∀x,foldedSetIterable iter X.env x=pure x:=by intro _;rfl) (hf:X.fn x=true\/X.env.scope.names.lookup x=some .local:=by first|exact .inl rfl|exact .inr rfl|assumption) :
  PS X (.Assign [.Name x pos'] (.ListComp elt [⟨tg,iter,ifs,0⟩] scope cpos) pos) (wq (nR ix wi g tts te) (bN i)):=by
 intro pins s σ H D I hw;rw [exec_Assign_Name_used _ _ _ _ hsw];refine cy (HI (cy ?_));show wpAny _ X.A (do let _ <- comprehension (.ListComp elt [⟨tg,iter,ifs,0⟩] scope cpos) scope X.env _ (newList []) false (eval iter X.env) (some (assign (.Name x pos') X.env))) _ _ s;refine cy (thn (nS (use:=some (assign (.Name x pos') X.env)) (Qf:=λ_ s'=>SP X pins D .next s') hc (ke chk) hit blk hs I hw λD' C H' s' I' q hm hn h1 h2 h3 h4 h5=>?_) λ_ s' q=>l_ (l_ q))
 obtain⟨m,oC,es,ep,hoC,hdC,hrC⟩:=hm
 have Ip:Inv X (pins++[(C,oC)]) σ H' s':=I'.pins_of λp hp=>(HA.mp hp).elim (λz=>I'.pin p (r_ _ z)) λz=>by
  have e:p=(C,oC):=by simpa using z
  subst e;exact⟨hoC,hn,h2,h4,λv z=>by rw [hdC] at z;cases z⟩
 refine wpAny_assign_Name (et (v:=.ref D') Ip hN hi hx rfl (λs2 I2=>?_) hf);have hC2:s2.heap.get? C=some oC:=(I2.pin (C,oC) (by simp)).1;have I2':Inv X pins (σ.set i (some (.ref D'))) H' s2:=I2.pins_of λp hp=>I2.pin p (r_ _ (Hm _ hp));refine⟨m,⟨oC,es,ep,hC2,hdC,hrC⟩,λh' sb=>⟨_,H',?_,q⟩⟩;exact I2'.turned (t':=s2.toks) (λb o hb e=>(sb.2 b hb).trans e) hn h2 (.inr h1) h3 h5
end
abbrev jS(J:It)(D:Addr)(g:TG)(tts:TT)(te:TE)(τ0:St)(H0:Hp)(Q:Hp->Prop):Prop :=
  ∃W:Nat->Nat->St->Hp->Prop,(∃m,W 0 m τ0 (upd H0 D (.lst [])))/\∀i m τ H2,W i m τ H2 ->
   (J.stop i H2/\Q H2)\/(J.go i H2/\∀x H3,J.yld i H2 x H3->g x τ H3 λτ2 H4=>tts τ2 H4 λok H5=>if ok=true then te τ2 H5 λv H6=>∃ys,H6 D=some (.lst ys)/\ys.length<sizeLine/\∃m',m'<m/\W (i+1) m' τ2 (upd H6 D (.lst (ys++[v])))
    else ∃m',m'<m/\W (i+1) m' τ2 H5)
def ul{J:It}{n:Nat}{xs:Nat->V}{D:Addr}{g:TG}{tts:TT}{te:TE}{τ0:St}{H0:Hp}{Q:Hp->Prop}(Pv:Nat->List V->St->Hp->Prop)(h0:Pv 0 [] τ0 (upd H0 D (.lst [])))
  (hgo:∀i ys τ H,i<n->Pv i ys τ H->J.go i H) (hy:∀i ys τ H x H',i<n->Pv i ys τ H->J.yld i H x H'->H'=H/\x=xs i) (hst:∀ys τ H,Pv n ys τ H->J.stop n H)
  (hs:∀i ys τ H,i<n->Pv i ys τ H->∀(K1:St->V->Hp->Prop) (K2:St->Hp->Prop),(∀τ2 v H6,H6 D=some (.lst ys)->ys.length<sizeLine->Pv (i+1) (ys++[v]) τ2 (upd H6 D (.lst (ys++[v])))->K1 τ2 v H6) ->
   (∀τ2 H5,Pv (i+1) ys τ2 H5->K2 τ2 H5)->g (xs i) τ H λτ2 H4=>tts τ2 H4 λok H5=>if ok=true then te τ2 H5 (λv H6=>K1 τ2 v H6) else K2 τ2 H5)
  (hd:∀ys τ H,Pv n ys τ H->Q H) :
  jS J D g tts te τ0 H0 Q:=by
 refine⟨λi m τ H=>m=n - i/\i<=n/\∃ys,Pv i ys τ H,⟨n,by simp,Jm _,[],h0⟩,?_⟩;rintro i m τ H ⟨rfl,hi,ys,p⟩
 by_cases hlt:i<n
 .refine .inr ⟨hgo i ys τ H hlt p,λx H3 y=>?_⟩;obtain⟨e1,e2⟩:=hy i ys τ H x H3 hlt p y;subst e1 e2;exact hs i ys τ _ hlt p _ _ (λτ2 v H6 a b c=>⟨ys,a,b,n - (i+1),by omega,rfl,hlt,_,c⟩) (λτ2 H5 q=>⟨n - (i+1),by omega,rfl,hlt,ys,q⟩)
 .have e:i=n:=by omega
  subst e;exact .inl ⟨hst ys τ H p,hd ys τ H p⟩
def um{K:b_}{a:Addr}{xs:List V}{D:Addr}{g:TG}{tts:TT}{te:TE}{τ0:St}{H0:Hp}{Q:Hp->Prop}(Pv:Nat->List V->St->Hp->Prop)(h0:Pv 0 [] τ0 (upd H0 D (.lst [])))
  (hl:∀i ys τ H,i<=xs.length->Pv i ys τ H->SqL K H a xs)
  (hs:∀i x ys τ H,xs[i]?=some x->Pv i ys τ H->∀(K1:St->V->Hp->Prop) (K2:St->Hp->Prop),(∀τ2 v H6,H6 D=some (.lst ys)->ys.length<sizeLine->Pv (i+1) (ys++[v]) τ2 (upd H6 D (.lst (ys++[v])))->K1 τ2 v H6) ->
   (∀τ2 H5,Pv (i+1) ys τ2 H5->K2 τ2 H5)->g x τ H λτ2 H4=>tts τ2 H4 λok H5=>if ok=true then te τ2 H5 (λv H6=>K1 τ2 v H6) else K2 τ2 H5)
  (hd:∀ys τ H,Pv xs.length ys τ H->Q H):jS (Itl K a) D g tts te τ0 H0 Q :=
 ul (J:=Itl K a) (n:=xs.length) (xs:=λi=>xs.getD i .non) (D:=D) (g:=g) (tts:=tts) (te:=te) (τ0:=τ0) (H0:=H0) (Q:=Q) Pv h0 (λi ys τ H hi p=>⟨xs,xs[i],hl i ys τ H (IV hi) p,d_ hi⟩)
  (λi ys τ H x H' hi p y=>⟨y.1,by rw [e_,y.2 xs (hl i ys τ H (IV hi) p)];rfl⟩) (λys τ H p=>⟨xs,hl _ ys τ H (g_ _) p,g_ _⟩) (λi ys τ H hi p=>hs i _ ys τ H (by rw [e_,d_ hi];rfl) p) hd
def wR{K:b_}{a:Addr}{xs:List V}{D:Addr}{g:TG}{tts:TT}{te:TE}{τ0:St}{H0:Hp}{Q:Hp->Prop}(Pv:Nat->List V->St->Hp->Prop)(h0:Pv 0 [] τ0 (upd H0 D (.lst [])))
  (hl:∀i ys τ H,i<=xs.length->Pv i ys τ H->SqT K H a xs)
  (hs:∀i x ys τ H,xs[i]?=some x->Pv i ys τ H->∀(K1:St->V->Hp->Prop) (K2:St->Hp->Prop),(∀τ2 v H6,H6 D=some (.lst ys)->ys.length<sizeLine->Pv (i+1) (ys++[v]) τ2 (upd H6 D (.lst (ys++[v])))->K1 τ2 v H6) ->
   (∀τ2 H5,Pv (i+1) ys τ2 H5->K2 τ2 H5)->g x τ H λτ2 H4=>tts τ2 H4 λok H5=>if ok=true then te τ2 H5 (λv H6=>K1 τ2 v H6) else K2 τ2 H5)
  (hd:∀ys τ H,Pv xs.length ys τ H->Q H):jS (Itt K a) D g tts te τ0 H0 Q :=
 ul (J:=Itt K a) (n:=xs.length) (xs:=λi=>xs.getD i .non) (D:=D) (g:=g) (tts:=tts) (te:=te) (τ0:=τ0) (H0:=H0) (Q:=Q) Pv h0 (λi ys τ H hi p=>⟨xs,xs[i],hl i ys τ H (IV hi) p,d_ hi⟩)
  (λi ys τ H x H' hi p y=>⟨y.1,by rw [e_,y.2 xs (hl i ys τ H (IV hi) p)];rfl⟩) (λys τ H p=>⟨xs,hl _ ys τ H (g_ _) p,g_ _⟩) (λi ys τ H hi p=>hs i _ ys τ H (by rw [e_,d_ hi];rfl) p) hd
noncomputable def yp(p:Addr)(a b c:Int):HO:=.ext λh=>∃t u v,IsRange h p a b c t u v
noncomputable def pY(a c:Int)(n:Nat):List V:=(gV n).map λ(k:Nat)=>V.int (a+k*c)
def sy{a c:Int}{n:Nat}{acc:Array Value}(h:ItemsOf (λi v=>∃t,v=.int (a+i*c) t) acc n):bK (pY a c n) acc.toList:=by
 obtain⟨hn,hi⟩:=h
 have key:∀(m:Nat) (us:List Value) (f:Nat->Int),us.length=m->(∀i u,us[i]?=some u->∃t,u=JU (f i) t)->bK ((gV m).map λk=>V.int (f k)) us:=by
  intro m
  induction m with
  | zero=>intro us f hl _;rw [IC] at hl;subst hl;exact .nil
  | succ m ih =>
   intro us f hl hu
   cases us with
   | nil=>simp at hl
   | cons u r =>
    rw [range_succ_eq_map,map_cons,Hz];refine .cons (hu 0 u rfl) (ih r (λk=>f (k+1)) (by simpa using hl) λi v e=>hu (i+1) v (by simpa using e))
 refine key n acc.toList (λk=>a+k*c) (by simpa using hn) λi u e=>?_;exact hi i u (by simpa using e)
def uo(a c:Int)(n:Nat):(pY a c n).length=n:=by simp [pY]
section
variable {X:Cx}
def wS{pins:List (Addr×Obj)}{σ:St}{H:Hp}{s:c_}{a b c:Int}{t u v:Tok}{tk:Nat}(I:Inv X pins σ H s) :
  Inv X pins σ (upd H s.heap.objs.size (yp s.heap.objs.size a b c)) { s with heap:=s.heap.push { cls:=.type "range",data:=.fields #[.int a t,.int b u,.int c v] },toks:=tk }:=by
 refine I.laid (λb o e=>f_ _ e) (g_ _) ⟨⟨t,u,v,IsRange.new ..⟩,⟨_,p_ _ rfl⟩,λh1 h2 ⟨t,u,v,z⟩ k=>⟨t,u,v,k _ z⟩⟩
def ir{a:Expr}{ta:TA}{p pos:Pos}(hg:Gl X "range")(hm:X.mg "range"=none)(ha:PA X [a] ta)(hs:starEach [a] X.env=[(false,eval a X.env)]:=by rfl) :
  PE X (.Call (.Name "range" p) [a] [] pos) (λσ H Q=>ta σ H λvs H1=>∃j:Int,vs=[.int j]/\∀p,H1 p=none->Q (.ref p) (upd H1 p (yp p 0 j 1))):=by
 intro pins s σ H Q I h;refine Call_ (jn I hg hm boot_range (HG (thn (ha pos pins s σ H _ I h) λus s1 ⟨vs,H1,I1,r1,q1⟩=>?_) hs rfl));obtain⟨j,e,q⟩:=q1;subst e
 cases r1 with
 | cons r rr =>
  cases rr;obtain⟨t,rfl⟩:=r;exact call_range_1 ⟨.ref s1.heap.objs.size,_,wS I1,rfl,q _ (I1.hok.fresh (g_ _))⟩
noncomputable def EB(K:b_)(mk:List V->HO):List V->Hp->VK->Prop:=λxs H Q=>∃p a b c n,xs=[.ref p]/\H p=some (yp p a b c)/\Kc a b c=true/\IS a b c=((n:Nat):Int)/\n<=1000000/\∀l,H l=none->Q (.ref l) (upd H l (mk (pY a c n)))
def sA(hc:X.calm=true):bD X (.type "list") (EB X.K .lst):=by
 intro pins s σ H xs us Q I r h;obtain⟨p,a,b,c,n,rfl,hp,hsm,hsz,hn,q⟩:=h;obtain⟨u,rfl,rx⟩:=fR r;cases rx;obtain⟨⟨t,u,v,hr⟩,_,_⟩:=(show aW X.prog X.w H s.heap p (yp p a b c) from I.hok p _ hp)
 have hs:sizeLine=16777216:=J5;refine call_list_range (I.ok.hd hc) hr hsm hsz (by omega) λh' tk acc c' hk e hacc=>?_;exact⟨.ref s.heap.objs.size,_,I.laid (t':=tk) hk (g_ _) (show aW X.prog X.w _ h' _ (.lst (pY a c n)) from ⟨by rw [uo];omega,acc.toList,c',sy hacc,by simpa using e⟩),rfl,q _ (I.hok.fresh (g_ _))⟩
end
def uq:typeLookup (.type "list_reverseiterator") "__len__"=pure none:=by rw [typeLookup_type,builtinLookup_eq_fast];kernel_rfl
def wT:typeLookup (.type "list_reverseiterator") "__length_hint__"=pure (some (.builtin "list_reverseiterator.__length_hint__")):=by rw [typeLookup_type,builtinLookup_eq_fast];kernel_rfl
section
variable {prog:so}{w:World}{A:w_}{E:Value->c_->Prop}{s:c_}{I l:Addr}{items:Array Value}
def wU{Q:Bool->c_->Prop}{i:Int}(hit:s.heap.IsRevIter I l i)(h:Q false s):wpAny (model prog w) A (Kh (.ref I)) Q E s:=by
 unfold Kh;refine cy (J_ hit.typeIs uq ?_);show wpAny _ A (specialOf (o_ I) (K6 "__length_hint__") >>= _) _ _ _;refine cy (J_ hit.typeIs wT ?_)
 (generalize hid:("list_reverseiterator.__length_hint__":String)=id0;(fail_if_success (clear hid id0));wp_delta;rw [show splitId id0=some ("list_reverseiterator","__length_hint__") from by subst hid;decide +kernel];subst hid)
 refine cy (wpAny_isInstance (b:=true) hit.typeIs (by rw [isSubtype_type];kernel_rfl) ?_);exact l_ h
theorem sB{R:Result->c_->Prop}(hh:A.handled=none)(hit:s.heap.IsRevIter I l ((items.size:Int) - 1))(hl:s.heap.IsList l items)(hlI:l≠I)(hsz:items.size<=sizeLine)(Sx:Addr)(res:Value)(c₀:Nat)
  (hS:s.heap.get? Sx=some { cls:=.type "list",data:=.seq #[] c₀ }) (hSI:Sx≠I) (hSl:Sx≠l)
  (hR:∀h' tk acc' c',(∀b o,b≠Sx->b≠I->s.heap.get? b=some o->h'.get? b=some o)->h'.get? Sx=some { cls:=.type "list",dict:=none,data:=.seq acc' c',slots:=#[] } ->
   ItemsOf (λi v=>items[items.size - 1 - i]?=some v) acc' items.size->R (.ok (.ret res)) { s with heap:=h',toks:=tk }) :
  wpAny (model prog w) A.in1 (HH (.ref Sx) (.ref I) res)
   (λfin s'=>match fin with|.done f=>R (.ok f) s'|.again c'=>c'.quiet=true/\codeAny (model prog w) A c' R s') (λe s'=>R (.error e) s') s:=by
 have hSf:Sx∉[I,l]:=λhm=>by
  rcases mem_cons.mp hm with e|e
  .exact hSI e
  .exact hSl (vx.mp e)
 have W:=(Walks.listRev (prog:=prog) (w:=w) (A:=A.in1) hh I l hlI items).toS;unfold HH;refine cy (wpAny_typeOf (T:="list_reverseiterator") hit.typeIs ?_);have h1:Builtin.List.listSameRef (.ref Sx) (.ref I)=false:=by simp [Builtin.List.listSameRef,hSI]
 have h2:(Ib "list_reverseiterator" == Ib "list")=false:=by decide
 have h3:(Ib "list_reverseiterator" == Ib "tuple")=false:=by decide
 simp only [h1,h2,h3,KL,false_eq_true,if_false];refine cy (wpAny_pyIter_revIter hit ?_);refine cy (Hu (wU hit ?_));refine wpAny_ite_split (λhab=>absurd hab (by decide)) (λ_=>?_);refine l_ ⟨J0 F.plain_extend_loop _,codeAny_extend_loopS W hsz Sx hSf res items.size 0 _ #[] c₀ rfl (Jm _) ⟨Jm _,by simpa using hit,hl⟩ hS (ItemsOf.nil _) λs' acc' c' hm hS' hacc=>?_⟩
 rw [Moved.eq_with hm];refine hR s'.heap s'.toks acc' c' (λb o hb hbI e=>hm.heap b o (λhmem=>?_) e) hS' hacc
 rcases mem_cons.mp hmem with e'|hmem
 .exact hb e'
 .exact hbI (vx.mp hmem)
theorem mE{R:Result->c_->Prop}(hh:A.handled=none)(hit:s.heap.IsRevIter I l ((items.size:Int) - 1))(hl:s.heap.IsList l items)(hlI:l≠I)(hsz:items.size<=sizeLine)(Sx:Addr)
  (hS:s.heap.get? Sx=some { cls:=.type "list",data:=.seq #[] }) (hSI:Sx≠I) (hSl:Sx≠l)
  (hR:∀h' tk acc' c',(∀b o,b≠Sx->b≠I->s.heap.get? b=some o->h'.get? b=some o)->h'.get? Sx=some { cls:=.type "list",dict:=none,data:=.seq acc' c',slots:=#[] } ->
   ItemsOf (λi v=>items[items.size - 1 - i]?=some v) acc' items.size->R (.ok (.ret .none)) { s with heap:=h',toks:=tk }) :
  wpAny (model prog w) A.in1 (JG.«list.__init__» ⟨[.ref Sx,.ref I],[]⟩)
   (λfin s'=>match fin with|.done f=>R (.ok f) s'|.again c'=>c'.quiet=true/\codeAny (model prog w) A c' R s') (λe s'=>R (.error e) s') s:=by
 show wpAny _ _ (do let old <- Builtin.List.listItems (.ref Sx);Builtin.List.listUpdate (.ref Sx) (λ_=>#[]);letGo old.toList.reverse;HH (.ref Sx) (.ref I) .none) _ _ s;refine cy ?_;unfold Builtin.List.listItems;refine cy (Jg hS rfl (l_ ?_));show wpAny _ _ (updateSeq Sx (λ_=>#[]) >>= λ_=>letGo (#[]:Array Value).toList.reverse >>= λ_=>HH (.ref Sx) (.ref I) .none) _ _ s
 refine cy (Ka hS rfl ?_);have hS₂:=HF (IB (λ_=>(#[]:Array Value))) hS rfl
 have oth:∀b o,b≠Sx->s.heap.get? b=some o->(s.heap.update Sx (IB (λ_=>(#[]:Array Value)))).get? b=some o :=
  λb o hb e=>(HC _ _ (HL hb)).trans e
 refine cy (KF ?_);refine sB hh (hit.at λo e=>oth I o (HL hSI) e) (hl.at λo e=>oth l o (HL hSl) e) hlI hsz Sx .none _ hS₂ hSI hSl λh' tk acc' c' hk hS' hacc=>?_;exact hR h' tk acc' c' (λb o hb hbI e=>hk b o hb hbI (oth b o hb e)) hS' hacc
def mF{Q:Value->c_->Prop}(hh:A.handled=none)(hit:s.heap.IsRevIter I l ((items.size:Int) - 1))(hl:s.heap.IsList l items)(hlI:l≠I)(hsz:items.size<=sizeLine)
  (hQ:∀h' tk acc' c',(∀b o,b≠I->s.heap.get? b=some o->h'.get? b=some o) ->
   h'.get? s.heap.objs.size=some { cls:=.type "list",dict:=none,data:=.seq acc' c',slots:=#[] }->ItemsOf (λi v=>items[items.size - 1 - i]?=some v) acc' items.size->Q (.ref s.heap.objs.size) { s with heap:=h',toks:=tk }) :
  wpAny (model prog w) A (call (.type "list") [.ref I]) Q E s:=by
 refine callType_codes (Q₁:=λobj s₁=>obj=.ref s.heap.objs.size/\s₁={ s with heap:=s.heap.push { cls:=.type "list",data:=.seq #[] } }) F.called_list (F.typeCall_list_1 _) F.entry_list_init
  (code_list_new _ ⟨rfl,rfl⟩) λobj s₁ h₁=>?_
 obtain⟨rfl,rfl⟩:=h₁;have hS:(s.heap.push { cls:=.type "list",data:=.seq #[] }).get? s.heap.objs.size=some { cls:=.type "list",data:=.seq #[] }:=p_ _ rfl
 have hSI:s.heap.objs.size≠I:=by
  obtain⟨o,ho,_⟩:=hit;exact Kq (k_ ho)
 have hSl:s.heap.objs.size≠l:=by
  obtain⟨o,ho,_⟩:=hl;exact Kq (k_ ho)
 refine⟨⟨_,hS,rfl⟩,F.args_list_init_2 _ _,mE (A:=A.in1) hh (hit.at λo e=>f_ _ e) (hl.push _) hlI hsz _ hS hSI hSl λh' tk acc' c' hk hS' hacc=>?_⟩;exact⟨rfl,hQ h' tk acc' c' (λb o hb e=>hk b o (Hj (k_ e)) hb (f_ _ e)) hS' hacc⟩
end
def wV{xs:List V}{its:List Value}(r:bK xs its){acc:Array Value}(h:ItemsOf (λi v=>its.toArray[its.toArray.size - 1 - i]?=some v) acc its.toArray.size):bK xs.reverse acc.toList:=by
 have e:acc.toList=its.reverse:=by
  obtain⟨hn,hi⟩:=h;apply Ki;intro i
  by_cases hil:i<its.length
  .have hia:i<acc.size:=by rw [hn];simpa using hil
   have:=hi i acc[i] (by simp);rw [getElem?_reverse hil];have e1:acc.toList[i]?=some acc[i]:=by simp
   rw [e1,<- this];simp
  .have hna:acc.toList.length=its.length:=by simpa using hn
   rw [z_ (by omega),z_ (by rw [Lj];omega)]
 rw [e];exact r.reverse
section
variable {X:Cx}{e:Expr}{te:TE}{p p1 p2 pos:Pos}
def sC(hc:X.calm=true)(he:PE X e te)(hg1:Gl X "list")(hm1:X.mg "list"=none)(hg2:Gl X "reversed")(hm2:X.mg "reversed"=none)
  (hs:starEach [.Call (.Name "reversed" p1) [e] [] p2] X.env=[(false,eval (.Call (.Name "reversed" p1) [e] [] p2) X.env)]:=by rfl) (hs2:starEach [e] X.env=[(false,eval e X.env)]:=by rfl) :
  PE X (.Call (.Name "list" p) [.Call (.Name "reversed" p1) [e] [] p2] [] pos) (λσ H Q=>te σ H λx H1=>∃a xs,x=.ref a/\SqL X.K H1 a xs/\∀l,H1 l=none->Q (.ref l) (upd H1 l (.lst xs.reverse))):=by
 intro pins s σ H Q I h;refine Call_ (jn I hg1 hm1 Jn (HG ?_ hs rfl));rw [hs];show wpAny _ _ (spliced ((false,eval (.Call (.Name "reversed" p1) [e] [] p2) X.env)::backTo pos [])) _ _ s;refine Jz ?_;refine Call_ (jn I hg2 hm2 boot_reversed (HG ?_ hs2 rfl));rw [hs2];show wpAny _ _ (spliced ((false,eval e X.env)::backTo p2 [])) _ _ s
 refine Jz (thn (he pins s σ H _ I h) λu s1 ⟨x,H1,I1,r1,q1⟩=>JK ?_);obtain⟨a,xs,rfl,hS,q⟩:=q1;cases r1;obtain⟨its,rv,pl,hz⟩:=I1.list hS;have hlen:=rv.length;refine call_reversed_list pl.isList ?_;refine JK ?_
 have hal:a<s1.heap.objs.size:=by
  obtain⟨o,ho,_⟩:=pl.isList;exact k_ ho
 have I2:Inv X pins σ H1 { s1 with heap:=s1.heap.push (revObj a ((its.toArray.size:Int) - 1)) }:=I1.kept (t':=s1.toks) λb o e=>f_ _ e;refine mF (I1.ok.hd hc) (I:=s1.heap.objs.size) (l:=a) (items:=its.toArray) ⟨_,p_ _ rfl,rfl,rfl⟩ (pl.isList.push _) (Hj hal) (by rw [size_toArray];omega) λh' tk acc' c' hk eL hacc=>?_;have hfI:=I1.fpOk (H':=H1) (g_ s1.heap.objs.size) (I1.hok.fresh (g_ _))
 obtain⟨f0,f1,f2,f3,f4,f5⟩:=hfI;have hLn:H1 (s1.heap.push (revObj a ((its.toArray.size:Int) - 1))).objs.size=none:=I2.hok.fresh (g_ _);have hLlt:∀b o,(s1.heap.push (revObj a ((its.toArray.size:Int) - 1))).get? b=some o->b≠(s1.heap.push (revObj a ((its.toArray.size:Int) - 1))).objs.size:=λb o e=>Hj (k_ e);have nit:∀b u,H1 b=some u->b≠s1.heap.objs.size:=λb u e z=>by rw [z,f0] at e;cases e
 have neL:∀b u,H1 b=some u->b≠(s1.heap.push (revObj a ((its.toArray.size:Int) - 1))).objs.size:=λb u e z=>by rw [z,hLn] at e;cases e
 have hokT:HOk X.prog X.w H1 h':=λb u e=>by
  refine (I2.hok b u e).stay (λc v hc q=>hk c v ?_ q) (λ_ q=>q) λ_ _ q=>q
  rcases hc with z|z
  .rw [z];exact nit b u e
  .exact nit c _ z
 refine⟨.ref _,upd H1 (s1.heap.push (revObj a ((its.toArray.size:Int) - 1))).objs.size (.lst xs.reverse),?_,rfl,q _ hLn⟩
 refine I2.step (g':=s1.gens) (d':=s1.drawn) (t':=tk) (ch:=[s1.heap.objs.size]) (λb hb=>?_) (λb o _ _ hc e _=>hk b o (λz=>hc (by simp [z])) e) (λb o _ _ hc e _=>⟨o.slots,hk b o (λz=>hc (by simp [z])) e⟩)
  (λb o _ e n=>by rw [ak (hLlt b o e)];exact n) (λb o hc e=>⟨o,hk b o (λz=>hc (by simp [z])) e⟩) (λb ys e=>by rw [ak (neL b _ e)];exact e) (λb o u e=>by rw [ak (neL b _ e)];exact e)
  (λb ps e=>⟨#[],by rw [ak (neL b _ e),e];simp⟩) (λm hm=>?_) ?_ I2.bare
 .have e:b=s1.heap.objs.size:=by simpa using hb
  subst e;exact⟨f3,f1,f4,f5⟩
 .obtain⟨o,es,ep,ho,r⟩:=hm;exact⟨o,es,ep,hk _ o (HL f1) ho,r⟩
 .intro b u e
  by_cases hb:b=(s1.heap.push (revObj a ((its.toArray.size:Int) - 1))).objs.size
  .subst hb;rw [aw] at e;cases e;exact⟨by rw [Lj];exact hz,acc'.toList,c',wV rv hacc,by simpa using eL⟩
  .rw [ak hb] at e
   refine (hokT b u e).stay (λc v _ q=>q) (λc q=>?_) λc ys q=>?_
   .rw [ak (neL c _ q)];exact q
   .rw [ak (neL c _ q)];exact q
end
noncomputable def kf(k:Bool)(h:Heap)(a:Addr)(its:Array Value):Prop:=∃o,h.get? a=some o/\o.cls=.type (cond k "tuple" "list")/\∃n,o.data=.seq its n
noncomputable def iu(k:Bool)(h:Heap)(it a:Addr)(i:Nat):Prop:=∃o,h.get? it=some o/\o.cls=.type (cond k "tuple_iterator" "list_iterator")/\o.data=.fields #[.ref a,.int i 0]
def kf.mv{k:Bool}{h h':Heap}{a:Addr}{its:Array Value}(r:kf k h a its)(f:∀o,h.get? a=some o->h'.get? a=some o):kf k h' a its:=let ⟨o,e,q⟩:=r;⟨o,f o e,q⟩
def iu.mv{k:Bool}{h h':Heap}{it a:Addr}{i:Nat}(r:iu k h it a i)(f:∀o,h.get? it=some o->h'.get? it=some o):iu k h' it a i:=let ⟨o,e,q⟩:=r;⟨o,f o e,q⟩
section
variable {P:so}{w:World}{A:w_}{E:Value->c_->Prop}{s:c_}{k:Bool}{it a:Addr}{i:Nat}{its:Array Value}
def nU{x:Value}{Q:Value->c_->Prop}(W:s.heap.IsTupleIter it a i)(R:s.heap.IsTuple a its)(hx:its[i]?=some x)
  (hQ:∀h',h'.IsTupleIter it a (i+1)->JH it s.heap h'->Q x { s with heap:=h' }):wpAny (model P w) A (HJ (.ref it)) Q E s:=by
 have hT:=W.typeIs;obtain⟨o,ho,c,d⟩:=W;obtain⟨ol,hol,_,nl,dl⟩:=R;unfold HJ;refine cy (JE (name:=K6 "__next__") hT F.slot_tuple_iterator_next (JV F.slot_tuple_iterator_next hT F.entry_tuple_iterator_next ?_ (F.args_tuple_iterator_next_1 _)));refine cy (m:=field (.ref it) 0) (IJ ho d (x:=.ref a) rfl ?_);have nn:¬ ((o_ a == HE)=true):=m_
 show wpAny _ _ (if (o_ a == HE)=true then _ else _) _ _ s;rw [if_neg nn];refine cy (m:=field (.ref it) 1) (IJ ho d (x:=.int i 0) rfl ?_);refine cy (m:=seqItems? (.ref a)) (Jg hol dl ?_);simp only [toNat_natCast,hx];exact cy (JN ho d (by simp) (l_ ⟨x,rfl,l_ (hQ _ ⟨_,HF _ ho (JT (JB d _)),(Obj.cls_mapFields ..).trans c,by rw [JB d];simp [rawInt]⟩ (Heap.SameBut.update ..))⟩))
def pZ{Q:Value->c_->Prop}(hh:A.handled=none)(W:s.heap.IsTupleIter it a i)(R:s.heap.IsTuple a its)(hx:its[i]?=none)
  (hE:∀h' e,Lk it s.heap h'->(∃o,h'.get? e=some o/\o.cls=.type "StopIteration")->E (.ref e) { s with heap:=h' }):wpAny (model P w) A (HJ (.ref it)) Q E s:=by
 have hT:=W.typeIs;obtain⟨o,ho,c,d⟩:=W;obtain⟨ol,hol,_,nl,dl⟩:=R;unfold HJ;refine cy (JE (name:=K6 "__next__") hT F.slot_tuple_iterator_next (JV F.slot_tuple_iterator_next hT F.entry_tuple_iterator_next ?_ (F.args_tuple_iterator_next_1 _)));refine cy (m:=field (.ref it) 0) (IJ ho d (x:=.ref a) rfl ?_);have nn:¬ ((o_ a == HE)=true):=m_
 show wpAny _ _ (if (o_ a == HE)=true then _ else _) _ _ s;rw [if_neg nn];refine cy (m:=field (.ref it) 1) (IJ ho d (x:=.int i 0) rfl ?_);refine cy (m:=seqItems? (.ref a)) (Jg hol dl ?_);simp only [toNat_natCast,hx];refine cy (wpAny_rule (cy (JN ho d (by simp) (cy (m:=newExc (.type "StopIteration") []) ?_))));simp only [newExc,newTuple]
 refine cy (Ii (cy (m:=firstArgMember _ _) (KG (a:=HE) (by first|rfl|(simp only [firstArgMember];rfl)) (Ii ?_ (by size_fits)))) (by size_fits));simp only [raiseNew];refine cy (wpAny_handled ?_)
 first|rw [show A.in1.handled=none from hh]|rw [hh]
 exact cy (l_ (wpAny_throw (hE _ _ (((Heap.SameBut.update ..).extBut.push _).push _) ⟨_,p_ _ rfl,rfl⟩)))
def nV{x:Value}{Q:Value->c_->Prop}(W:iu k s.heap it a i)(R:kf k s.heap a its)(hx:its[i]?=some x)
  (hQ:∀h',iu k h' it a (i+1)->JH it s.heap h'->Q x { s with heap:=h' }):wpAny (model P w) A (HJ (.ref it)) Q E s:=by
 cases k with
 | false=>exact wpAny_nextOf_list_item W R hx hQ
 | true=>exact nU W R hx hQ
def kg{Q:Value->c_->Prop}(hh:A.handled=none)(W:iu k s.heap it a i)(R:kf k s.heap a its)(hx:its[i]?=none)
  (hE:∀h' e,Lk it s.heap h'->(∃o,h'.get? e=some o/\o.cls=.type "StopIteration")->E (.ref e) { s with heap:=h' }):wpAny (model P w) A (HJ (.ref it)) Q E s:=by
 cases k with
 | false=>exact wpAny_nextOf_list_end hh W R hx hE
 | true=>exact pZ hh W R hx hE
end
noncomputable def Sq(k:Bool)(K:b_)(H:Hp)(a:Addr)(xs:List V):Prop:=cond k (SqT K H a xs) (SqL K H a xs)
section
variable {X:Cx}{pins:List (Addr×Obj)}{σ:St}{H:Hp}{s:c_}{k l:Bool}{a b c:Addr}{xs ys:List V}
def Inv.row(I:Inv X pins σ H s)(h:Sq k X.K H a xs):∃its:List Value,bK xs its/\kf k s.heap a its.toArray/\xs.length<=sizeLine:=by
 cases k with
 | false=>obtain⟨its,r,p,z⟩:=I.list h;exact⟨its,r,p.isList,z⟩
 | true=>obtain⟨its,r,p,z⟩:=I.tuple h;exact⟨its,r,p,z⟩
def Inv.row_inj(I:Inv X pins σ H s)(h:Sq k X.K H a xs)(h':Sq k X.K H a ys):xs=ys:=by
 cases k with
 | false=>exact I.list_inj h h'
 | true=>exact I.tuple_inj h h'
def ur{u:HO}(r:Rd H a u):∃v,H a=some v:=by
 rcases r with r|⟨o,r⟩ <;> exact⟨_,r⟩
def Inv.row_ne(I:Inv X pins σ H s)(h:Sq k X.K H a xs)(f:pS X pins H b):a≠b:=by
 have kk:∀o,X.K.lookup a=some o->a≠b:=λo e z=>by
  have e1:=I.ok.mod.kin a o e
  rcases f.2.2.2.1 with q|q
  .exact I.ok.noex a o e1 (z ▸ q)
  .exact absurd (s_ (k_ (I.ok.bs a o e1).1) (z ▸ q)) (HN _)
 have hh:∀u,H a=some u->a≠b:=λu e z=>by rw [z,f.1] at e;cases e
 cases k with
 | false =>
  rcases h with r|⟨o,its,n,e,_⟩
  .obtain⟨v,e⟩:=ur r;exact hh v e
  .exact kk o e
 | true =>
  rcases h with r|⟨o,its,n,e,_⟩
  .obtain⟨v,e⟩:=ur r;exact hh v e
  .exact kk o e
def Inv.yielded{h':Heap}{T:Addr}{zs:List V}{t':Nat}{ch:List Addr}(I:Inv X pins σ H s)(hf:∀b∈ch,pS X pins H b)(hT:s.heap.objs.size<=T)
  (kp:∀b o,b∉ch->s.heap.get? b=some o->h'.get? b=some o) (new:aW X.prog X.w (upd H T (.tup zs)) h' T (.tup zs)):Inv X pins σ (upd H T (.tup zs)) { s with heap:=h',toks:=t' }:=by
 have hn:H T=none:=I.hok.fresh hT;have nT:∀b u,H b=some u->b≠T:=λb u e z=>by rw [z,hn] at e;cases e
 have oT:∀b o,s.heap.get? b=some o->b≠T:=λb o e z=>absurd (s_ (k_ e) (z ▸ hT)) (HN _);have nc:∀b u,H b=some u->b∉ch:=λb u e z=>by rw [(hf b z).1] at e;cases e
 refine I.step (g':=s.gens) (d':=s.drawn) (ch:=ch) (λb hb=>⟨(hf b hb).2.2.2.1,(hf b hb).2.1,(hf b hb).2.2.2.2.1,(hf b hb).2.2.2.2.2⟩) (λb o _ _ hc e _=>kp b o hc e) (λb o _ _ hc e _=>⟨o.slots,kp b o hc e⟩)
  (λb o _ e n=>by rw [ak (oT b o e)];exact n) (λb o hc e=>⟨o,kp b o hc e⟩) (λb xs e=>by rw [ak (nT b _ e)];exact e) (λb o u e=>by rw [ak (nT b _ e)];exact e)
  (λb ps e=>⟨#[],by rw [ak (nT b _ e),e];simp⟩) (λm hm=>?_) (λb u e=>?_) I.bare
 .obtain⟨o,es,ep,ho,r⟩:=hm;exact⟨o,es,ep,kp _ o (λz=>(hf _ z).2.1 rfl) ho,r⟩
 .by_cases hb:b=T
  .subst hb;rw [aw] at e;cases e;exact new
  .rw [ak hb] at e;refine (I.hok b u e).stay (λc v hc q=>kp c v ?_ q) (λc q=>by rw [ak (nT c _ q)];exact q) λc xs q=>by rw [ak (nT c _ q)];exact q
   rcases hc with z|z
   .rw [z];exact nc b u e
   .exact nc c _ z
end
section
variable {P:so}{w:World}{A:w_}{E:Value->c_->Prop}{s:c_}{k l:Bool}
abbrev p5(k:Bool)(a:Addr):Obj:={ cls:=.type (cond k "tuple_iterator" "list_iterator"),data:=.fields #[.ref a,.int 0 0] }
def iW{a:Addr}{its:Array Value}{Q:Value->c_->Prop}(R:kf k s.heap a its)(hQ:Q (.ref s.heap.objs.size) { s with heap:=s.heap.push (p5 k a) }):wpAny (model P w) A (pyIter (.ref a)) Q E s:=by
 cases k with
 | false=>exact IK R hQ
 | true=>exact Kt R hQ
end
noncomputable def stA(a b:List Nat)(i:Nat):Bool:=decide (i+b.length<=a.length/\(a.drop i).take b.length=b)
noncomputable def fnd(a b:List Nat)(lo:Nat):Int:=match (List.range' lo (a.length+1 - lo)).find? (stA a b) with|some k=>(k:Int)|none=>-1
theorem nW(s sub:Str)(hi:Nat):∀(l:List Nat) (st:Array Nat×Nat),st.fst.size=1->(forIn l st (Kb s sub hi 1)).run.fst=st.fst
 | [],_,_=>rfl
 | x::l,st,h=>by
  rw [forIn_cons];unfold Kb;rw [if_neg (λz=>by have:=z.1.1.1;omega)];exact nW s sub hi l (st.fst,st.snd) h
theorem nX(s sub:Str)(hi:Nat)(p:Nat->Bool)(hp:∀i,p i=true ↔ (i+sub.length<=hi/\KH s sub i=true)):∀(l:List Nat) (free:Nat),(∀i∈l,free<=i) ->
  (forIn l ((#[]:Array Nat),free) (Kb s sub hi 1)).run.fst=(match l.find? p with|some k=>#[k]|none=>#[])
 | [],_,_=>rfl
 | x::l,free,hf=>by
  rw [forIn_cons,IW];unfold Kb;have hx:free<=x:=hf x (mem_cons_self ..)
  cases c:p x with
  | true =>
   have hc:=(hp x).mp c;rw [if_pos ⟨⟨⟨by simp,hx⟩,hc.1⟩,hc.2⟩];exact nW s sub hi l (#[x],x+sub.length) rfl
  | false =>
   rw [if_neg (λz=>by
    have:=(hp x).mpr ⟨z.1.2,z.2⟩;rw [c] at this;cases this)]
   exact nX s sub hi p hp l free λi h=>hf i (q_ _ h)
def zG(a b:List Nat)(i:Nat):KH (S a) (S b) i=decide ((a.drop i).take b.length=b):=by
 unfold KH;rw [j9]
 have e1:((S a).cps.extract i (i+b.length))=((a.drop i).take b.length).toArray:=by
  show a.toArray.extract _ _=_;rw [extract_toArray,extract_eq_take_drop];congr 2;omega
 rw [e1];show (((a.drop i).take b.length).toArray == b.toArray)=_
 by_cases h:(a.drop i).take b.length=b
 .rw [decide_eq_true h,h];simp
 .rw [decide_eq_false h,beq_eq_false_iff_ne];intro z;exact h (by simpa using congrArg Lx z)
theorem zH(a b:List Nat)(lo:Nat):(match JF (S a) (S b) lo (S a).length 1 with|k::_=>(k:Int)|[]=>-1)=fnd a b lo:=by
 rw [StrLaws.occ_eq,j9,nX (S a) (S b) a.length (stA a b) (λi=>?_) _ lo (λi hi=>(mem_range'_1.mp hi).1)]
 .unfold fnd;cases (List.range' lo (a.length+1 - lo)).find? (stA a b) <;> rfl
 .unfold stA;rw [zG,j9];simp
section
variable {X:Cx}{tg:Expr}
noncomputable def Itk(k:Bool)(K:b_)(a:Addr):It:=cond k (Itt K a) (Itl K a)
noncomputable def Cd(K:b_):R2:=λx y H Q=>∃l b xs zs,x=.ref l/\y=.ref b/\SqL K H l xs/\SqL K H b zs/\xs.length+zs.length<=sizeLine/\∀p,H p=none->Q (.ref p) (upd H p (.lst (xs++zs)))
def zI:OpR X (binaryOp .Add) (Cd X.K):=by
 intro pins s σ H x y v u Q I rx ry h;obtain⟨l,b,xs,zs,rfl,rfl,hH,hB,hz,q⟩:=h;cases rx;cases ry;obtain⟨its,r,pl,hl⟩:=I.list hH;obtain⟨its2,r2,pl2,hl2⟩:=I.list hB;obtain⟨⟨cls,dd,data,sl⟩,ho,hc,n,hd⟩:=pl.isList;obtain⟨⟨cls2,dd2,data2,sl2⟩,ho2,hc2,n2,hd2⟩:=pl2.isList;simp only at hc hd hc2 hd2;subst hc hd hc2 hd2;have n1:=r.length;have n2':=r2.length;have ea:its.toArray++its2.toArray=(its++its2).toArray:=by simp
 have fin:EP X pins σ Q (.ref s.heap.objs.size) { s with heap:=s.heap.push { cls:=.type "list",data:=.seq (its.toArray++its2.toArray) } }:=by
  rw [ea];exact⟨.ref _,_,I.lnew (t':=s.toks) (r.append r2) (by rw [length_append];omega),rfl,q _ I.fresh⟩
 exact KZ ⟨_,ho,rfl⟩ ⟨_,ho2,rfl⟩ noFill_list_add seq_list_add PySem.F.slot_list_add PySem.F.entry_list_add (PySem.F.args_list_add_2 _ _) (list_addW l b its.toArray its2.toArray n n2 dd dd2 sl sl2 (by simp;omega)) ⟨ho,ho2,fin⟩
end
def wW{k:Bool}{K:b_}{a:Addr}{xs:List V}{D:Addr}{g:TG}{tts:TT}{te:TE}{τ0:St}{H0:Hp}{Q:Hp->Prop}(Pv:Nat->List V->St->Hp->Prop)(h0:Pv 0 [] τ0 (upd H0 D (.lst [])))
  (hl:∀i ys τ H,i<=xs.length->Pv i ys τ H->Sq k K H a xs)
  (hs:∀i x ys τ H,xs[i]?=some x->Pv i ys τ H->∀(K1:St->V->Hp->Prop) (K2:St->Hp->Prop),(∀τ2 v H6,H6 D=some (.lst ys)->ys.length<sizeLine->Pv (i+1) (ys++[v]) τ2 (upd H6 D (.lst (ys++[v])))->K1 τ2 v H6) ->
   (∀τ2 H5,Pv (i+1) ys τ2 H5->K2 τ2 H5)->g x τ H λτ2 H4=>tts τ2 H4 λok H5=>if ok=true then te τ2 H5 (λv H6=>K1 τ2 v H6) else K2 τ2 H5)
  (hd:∀ys τ H,Pv xs.length ys τ H->Q H):jS (Itk k K a) D g tts te τ0 H0 Q:=by
 cases k
 .exact um (K:=K) (a:=a) Pv h0 hl hs hd
 .exact wR (K:=K) (a:=a) Pv h0 hl hs hd
noncomputable def lu(n:Nat)(d:JA):Prop:=d.canLay0=true/\d.depth<=n
def lu.shaped{n:Nat}{d:JA}(h:lu n d)(hn:n<=64):Ie d=true:=by
 unfold Ie;rw [h.1,decide_eq_true (HP h.2 hn)];rfl
theorem p6{n:Nat}:∀{ds:List JA},(∀d∈ds,lu n d)->JO ds=true/\Jx ds<=n
 | [],_=>⟨rfl,Jm _⟩
 | d::ds,h=>by
  obtain⟨a,b⟩:=p6 (ds:=ds) λx hx=>h x (q_ _ hx);obtain⟨c,e⟩:=h d mem_cons_self;simp only [JO,Jx,a,c];exact⟨rfl,max_le.mpr ⟨e,b⟩⟩
def lu.list{n:Nat}{ds:List JA}(h:∀d∈ds,lu n d):lu (n+1) (.list ds):=by
 obtain⟨a,b⟩:=p6 h;exact⟨by simp only [Ku];exact a,by simp only [K7];omega⟩
def lu.tuple{n:Nat}{ds:List JA}(h:∀d∈ds,lu n d):lu (n+1) (.tuple ds):=by
 obtain⟨a,b⟩:=p6 h;exact⟨by simp only [Ku];exact a,by simp only [K7];omega⟩
def lu.int(i:Int):lu 0 (.int i):=⟨by simp [Ku],by simp [K7]⟩
def kh(ns:List Int):∀d∈ns.map K5,lu 0 d:=λd hd=>by
 obtain⟨i,_,rfl⟩:=Hx.mp hd;exact lu.int i
def wX{d:JA}(h:Ie d=true):Jf d d=true:=SeqAt.eqv_refl d (SeqAt.canLay_of_shaped h)
section
variable {κ:Type} [DecidableEq κ]
noncomputable def nr(kvs:List (κ×V))(k:κ):Option V:=(kvs.find? λkv=>decide (kv.1=k)).map (·.2)
noncomputable def sD(kvs:List (κ×V))(k:κ)(v:V):List (κ×V) :=
 if (kvs.any λkv=>decide (kv.1=k))=true then kvs.map (λkv=>if kv.1=k then (kv.1,v) else kv) else kvs++[(k,v)]
noncomputable def p7(kvs:List (κ×V))(k:κ):List (κ×V):=kvs.filter λkv=>decide (kv.1≠k)
def jT{p:κ×V}{r:List (κ×V)}{k:κ}(e:p.1=k):nr (p::r) k=some p.2:=by simp [nr,IW,e]
def jU{p:κ×V}{r:List (κ×V)}{k:κ}(e:¬ p.1=k):nr (p::r) k=nr r k:=by simp [nr,IW,e]
theorem rc(k:κ):∀kvs:List (κ×V),(kvs.any λkv=>decide (kv.1=k))=(nr kvs k).isSome
 | []=>rfl
 | p::r=>by
  rw [any_cons]
  by_cases e:p.1=k
  .simp only [jT e,decide_eq_true e,Bool.true_or,Option.isSome_some]
  .rw [jU e,decide_eq_false e,J1];exact rc k r
def ki(kvs:List (κ×V))(k:κ)(v:V):(sD kvs k v).length<=kvs.length+1:=by
 unfold sD
 split
 .rw [length_map];omega
 .rw [length_append,length_cons,length_nil];omega
def qU.isSome_eq{o:Option V}{u:Option Value}(r:qU o u):o.isSome=u.isSome:=by
 cases o with
 | none=>cases u with
  | none=>rfl
  | some _=>exact (show False from r).elim
 | some _=>cases u with
  | none=>exact (show False from r).elim
  | some _=>rfl
def KV.val{kvs:List (κ×V)}{vs:List (κ×Value)}(r:KV kvs vs)(k:κ):qU (nr kvs k) (valueAt vs k):=by
 unfold KV at r
 induction r with
 | nil=>exact HU
 | @cons p q ps qs h t ih =>
  obtain⟨h1,h2⟩:=h
  by_cases e:p.1=k
  .have e':q.1=k:=h1.symm.trans e;have b:valueAt (q::qs) k=some q.2:=by simp [valueAt,IW,e']
   rw [jT e,b];exact h2
  .have e':¬ q.1=k:=λz=>e (h1.trans z);have b:valueAt (q::qs) k=valueAt qs k:=by simp [valueAt,IW,e']
   rw [jU e,b];exact ih
def KV.any{kvs:List (κ×V)}{vs:List (κ×Value)}(r:KV kvs vs)(k:κ):(kvs.any λkv=>decide (kv.1=k))=vs.any λkv=>decide (kv.1=k):=by
 unfold KV at r
 induction r with
 | nil=>rfl
 | cons h t ih=>rw [any_cons,any_cons,ih,h.1]
def KV.repl{kvs:List (κ×V)}{vs:List (κ×Value)}(r:KV kvs vs)(k:κ){y:V}{u:Value}(ry:bS y u) :
  KV (kvs.map λkv=>if kv.1=k then (kv.1,y) else kv) (vs.map λkv=>if kv.1=k then (kv.1,u) else kv):=by
 unfold KV at r ⊢
 induction r with
 | nil=>exact .nil
 | @cons p q ps qs h t ih =>
  rw [map_cons,map_cons];refine .cons ?_ ih;obtain⟨h1,h2⟩:=h
  by_cases e:p.1=k
  .rw [if_pos e,if_pos (h1.symm.trans e)];exact⟨h1,ry⟩
  .rw [if_neg e,if_neg (λz=>e (h1.trans z))];exact⟨h1,h2⟩
def KV.put{kvs:List (κ×V)}{vs:List (κ×Value)}(r:KV kvs vs)(k:κ){y:V}{u:Value}(ry:bS y u):KV (sD kvs k y) (stored vs k u):=by
 unfold sD stored;rw [r.any k]
 by_cases e:(vs.any λkv=>decide (kv.1=k))=true
 .rw [if_pos e,if_pos e];exact r.repl k ry
 .rw [if_neg e,if_neg e];exact Paired.snoc r ⟨rfl,ry⟩
def KV.drop{kvs:List (κ×V)}{vs:List (κ×Value)}(r:KV kvs vs)(k:κ):KV (p7 kvs k) (without vs k):=by
 unfold KV at r ⊢;unfold p7 without
 induction r with
 | nil=>exact .nil
 | @cons p q ps qs h t ih =>
  obtain⟨h1,h2⟩:=h;rw [filter_cons,filter_cons]
  by_cases e:p.1=k
  .have a:¬ decide (p.1≠k)=true:=by simp [e]
   have b:¬ decide (q.1≠k)=true:=by simp [h1.symm.trans e]
   rw [if_neg a,if_neg b];exact ih
  .have e':¬ q.1=k:=λz=>e (h1.trans z);have a:decide (p.1≠k)=true:=by simp [e]
   have b:decide (q.1≠k)=true:=by simp [e']
   rw [if_pos a,if_pos b];exact .cons ⟨h1,h2⟩ ih
def KV.length{kvs:List (κ×V)}{vs:List (κ×Value)}(r:KV kvs vs):kvs.length=vs.length:=Paired.length r
def wY(kvs:List (κ×V))(k:κ):(p7 kvs k).length<=kvs.length:=length_filter_le _ _
end
def ut{P:so}{w:World}{k:Key}{u:Value}(r:bS (kV k) u):(bP P w).is k u=true:=by
 cases k with
 | inl i=>obtain⟨t,e⟩:=(show ∃t,u=JU i t from r);subst e;exact pN P w i t
 | inr x=>obtain⟨t,e⟩:=(show ∃t,u=JC x t from r);subst e;exact pO P w x t
theorem nY{P:so}{w:World}:∀{ks:List Key}{us:List Value},bK (ks.map kV) us->ItemsAre (bP P w) ks us
 | [],_,r=>by rw [map_nil] at r;cases r;exact .nil
 | k::ks,_,r=>by
  rw [map_cons] at r
  cases r with
  | cons h t=>exact .cons (ut h) (nY t)
abbrev KT(H:Hp):List (List Key×V)->List (List Key×Addr×Value)->Prop:=Paired λp q=>p.1=q.1/\H q.2.1=some (.tup (p.1.map kV))/\bS p.2 q.2.2
def KT.val{H:Hp}{kvs:List (List Key×V)}{xs:List (List Key×Addr×Value)}(r:KT H kvs xs)(k:List Key):qU (nr kvs k) ((atKey xs k).map (·.2)):=by
 induction r with
 | nil=>exact HU
 | @cons p q ps qs h t ih =>
  obtain⟨h1,_,h2⟩:=h
  by_cases e:p.1=k
  .have e':q.1=k:=h1.symm.trans e;have b:atKey (q::qs) k=some q.2:=by simp [atKey,IW,e']
   rw [jT e,b];exact h2
  .have e':¬ q.1=k:=λz=>e (h1.trans z);have b:atKey (q::qs) k=atKey qs k:=by simp [atKey,IW,e']
   rw [jU e,b];exact ih
def KT.repl{H:Hp}{kvs:List (List Key×V)}{xs:List (List Key×Addr×Value)}(r:KT H kvs xs)(k:List Key){y:V}{u:Value}(ry:bS y u) :
  KT H (kvs.map λkv=>if kv.1=k then (kv.1,y) else kv) (xs.map (putAt k u)):=by
 induction r with
 | nil=>exact .nil
 | @cons p q ps qs h t ih =>
  rw [map_cons,map_cons];refine .cons ?_ ih;obtain⟨h1,h2,h3⟩:=h;unfold putAt
  by_cases e:p.1=k
  .rw [if_pos e,if_pos (h1.symm.trans e)];exact⟨h1,h2,ry⟩
  .rw [if_neg e,if_neg (λz=>e (h1.trans z))];exact⟨h1,h2,h3⟩
def KT.put{H:Hp}{kvs:List (List Key×V)}{xs:List (List Key×Addr×Value)}(r:KT H kvs xs)(k:List Key){b:Addr}{y:V}{u:Value}(hb:H b=some (.tup (k.map kV)))(ry:bS y u) :
  KT H (sD kvs k y) (storedH xs k b u):=by
 have e:(kvs.any λkv=>decide (kv.1=k))=(atKey xs k).isSome:=by
  rw [rc,(r.val k).isSome_eq,KI]
 unfold sD storedH;rw [e]
 by_cases q:(atKey xs k).isSome=true
 .rw [if_pos q,if_pos q];exact r.repl k ry
 .rw [if_neg q,if_neg q];exact Paired.snoc r ⟨rfl,hb,ry⟩
def KT.keeps{H H':Hp}{kvs:List (List Key×V)}{xs:List (List Key×Addr×Value)}(r:KT H kvs xs)(ht:∀b ys,H b=some (.tup ys)->H' b=some (.tup ys)):KT H' kvs xs :=
 Paired.mapP r λ_ _ z=>⟨z.1,ht _ _ z.2.1,z.2.2⟩
section
variable {P:so}{w:World}{H:Hp}{h:Heap}{a:Addr}
def Ce{u:HO}(ok:HOk P w H h)(e:Rd H a u):aW P w H h a u:=e.ok ok
def sE{kvs:List (Key×V)}(ok:HOk P w H h)(e:Rd H a (.dK kvs)):kvs.length<=sizeLine/\(a == sysModules)=false/\∃vs,KV kvs vs/\h.DictOf (bP P w) a vs :=
 show aW P w H h a (.dK kvs) from Ce ok e
def wZ{kvs:List (Key×V)}(ok:HOk P w H h)(e:H a=some (.dK kvs)):kvs.length<=sizeLine/\(a == sysModules)=false/\∃vs,KV kvs vs/\h.DictOf (bP P w) a vs:=sE ok (.inl e)
def re{ks:List Key}(ok:HOk P w H h)(e:H a=some (.tup (ks.map kV))):(tupleKind (bP P w)).is h ks a:=by
 obtain⟨_,its,r,o,h1,h2,n,h3⟩:=(show aW P w H h a (.tup (ks.map kV)) from ok a _ e)
 exact⟨o,its.toArray,n,h1,h2,h3,by simpa using nY r⟩
def uu{kvs:List (List Key×V)}(ok:HOk P w H h)(e:Rd H a (.dT kvs)):kvs.length<=sizeLine/\(a == sysModules)=false /\
  ∃xs,KT H kvs xs/\h.DictOfH (tupleKind (bP P w)) a xs:=by
 obtain⟨z,y,xs,r,o,es,ep,h1,h2,h3,h4,h5⟩:=(show aW P w H h a (.dT kvs) from Ce ok e)
 refine⟨z,y,xs,r,o,es,ep,h1,h2,h3,h4,λx hx=>?_,h5⟩
 have all:∀{l:List (List Key×V)}{m:List (List Key×Addr×Value)},KT H l m->∀x∈m,(tupleKind (bP P w)).is h x.1 x.2.1:=by
  intro l m q
  induction q with
  | nil=>intro x hx;exact nomatch hx
  | @cons p q ps qs hq t ih =>
   intro x hx
   rcases mem_cons.mp hx with e|hx
   .subst e;exact re ok (by rw [<- hq.1];exact hq.2.1)
   .exact ih x hx
 exact all r x hx
def EC{kvs:List (List Key×V)}(ok:HOk P w H h)(e:H a=some (.dT kvs)):kvs.length<=sizeLine/\(a == sysModules)=false /\
  ∃xs,KT H kvs xs/\h.DictOfH (tupleKind (bP P w)) a xs:=uu ok (.inl e)
end
noncomputable def wt(H:Hp)(a:Addr)(y:V)(r:Option V):Prop :=
 (∃kvs k,Rd H a (.dK kvs)/\y=kV k/\r=nr kvs k)\/∃kvs k b,Rd H a (.dT kvs)/\y=.ref b/\H b=some (.tup (k.map kV))/\r=nr kvs k
noncomputable def Cf(H:Hp)(a:Addr)(y v:V)(H':Hp):Prop :=
 (∃kvs k,H a=some (.dK kvs)/\y=kV k/\kvs.length<sizeLine/\H'=upd H a (.dK (sD kvs k v))) \/
 ∃kvs k b,H a=some (.dT kvs)/\y=.ref b/\H b=some (.tup (k.map kV))/\kvs.length<sizeLine/\H'=upd H a (.dT (sD kvs k v))
def wt.k{H:Hp}{a:Addr}{kvs:List (Key×V)}{k:Key}(e:H a=some (.dK kvs)):wt H a (kV k) (nr kvs k):=.inl ⟨kvs,k,.inl e,rfl,rfl⟩
def Cf.k{H:Hp}{a:Addr}{kvs:List (Key×V)}{k:Key}{v:V}(e:H a=some (.dK kvs))(hl:kvs.length<sizeLine):Cf H a (kV k) v (upd H a (.dK (sD kvs k v))):=.inl ⟨kvs,k,e,rfl,hl,rfl⟩
section
variable {X:Cx}{pins:List (Addr×Obj)}{σ:St}{H:Hp}{s:c_}{a:Addr}{y v:V}{u r:Value}{o:Option V}{A:w_}{E:Value->c_->Prop}
def Inv.big(I:Inv X pins σ H s):sysModules<s.heap.objs.size:=by
 have h:mainGlobals<s.heap.objs.size:=(I.mod.glob.keeps I.bk).lt;exact Nat.lt_trans (by decide) h
def uv{Q:Value->c_->Prop}(hu:A.units+1<cLine)(I:Inv X pins σ H s)(g:wt H a y (some v))(ry:bS y u)(h:∀w' s',Inv X pins σ H s'->bS v w'->Q w' s') :
  wpAny (model X.prog X.w) A (getItem (.ref a) u) Q E s:=by
 rcases g with ⟨kvs,k,e,ey,l⟩|⟨kvs,k,b,e,ey,eb,l⟩
 .subst ey;obtain⟨z,hd,vs,rel,dd⟩:=sE I.hok e;obtain⟨w',hw,rw'⟩:=qU.some_of (v:=v) (o:=valueAt vs k) (by rw [l];exact rel.val k);exact wpAny_getItem_of (ut ry) dd.mapOf hw (h w' _ (I.tok _) rw')
 .subst ey;cases (show u=o_ b from ry);obtain⟨z,hd,xs,rel,dd⟩:=uu I.hok e;obtain⟨w',hw,rw'⟩:=qU.some_of (v:=v) (o:=(atKey xs k).map (·.2)) (by rw [l];exact rel.val k);obtain⟨p,hp,hp2⟩:=Il.mp hw;refine wpAny_getItem_heap (Kv hu) (re I.hok eb) dd hp ?_;rw [hp2];exact h w' _ (I.tok _) rw'
def zJ{Q:Value->c_->Prop}(hu:A.units+1<cLine)(I:Inv X pins σ H s)(g:wt H a y o)(ry:bS y u)(h:∀s',Inv X pins σ H s'->Q (.bool (!o.isSome)) s') :
  wpAny (model X.prog X.w) A (compareOp .NotIn u (.ref a)) Q E s:=by
 rcases g with ⟨kvs,k,e,ey,l⟩|⟨kvs,k,b,e,ey,eb,l⟩
 .subst ey;obtain⟨z,hd,vs,rel,dd⟩:=sE I.hok e;refine wpAny_notIn_of (ut ry) hd dd.mapOf ?_;rw [<- (rel.val k).isSome_eq,<- l];exact h _ (I.tok _)
 .subst ey;cases (show u=o_ b from ry);obtain⟨z,hd,xs,rel,dd⟩:=uu I.hok e;refine wpAny_notIn_heap (Kv hu) (re I.hok eb) hd dd ?_;have q:=(rel.val k).isSome_eq;rw [KI] at q;rw [<- q,<- l];exact h _ (I.tok _)
def p8{h':Heap}{t':Nat}{ob:HO}(I:Inv X pins σ H s)(mu:Mut (H a))(hs:JH a s.heap h')(he:∃q,h'.get? a=some q)(new:aW X.prog X.w (upd H a ob) h' a ob) :
  Inv X pins σ (upd H a ob) { s with heap:=h',toks:=t' } :=
 I.write (x:=a) (e:=a) mu (.inl rfl) (λb q hb z=>(hs.2 b hb).trans z) he new
def yq{P:so}{w:World}{H':Hp}{h':Heap}{kvs:List (Key×V)}{vs:List (Key×Value)}(z:kvs.length<=sizeLine)(hd:(a == sysModules)=false)(rel:KV kvs vs)(dd:h'.DictOf (bP P w) a vs) :
  aW P w H' h' a (.dK kvs):=⟨z,hd,vs,rel,dd⟩
def uw{H':Hp}{Q:Unit->c_->Prop}(hu:A.units+1<cLine)(I:Inv X pins σ H s)(g:Cf H a y v H')(ry:bS y u)(rv:bS v r)(h:∀s',Inv X pins σ H' s'->Q () s') :
  wpAny (model X.prog X.w) A (setItem (.ref a) u r) Q E s:=by
 rcases g with ⟨kvs,k,e,ey,l,eH⟩|⟨kvs,k,b,e,ey,eb,l,eH⟩
 .subst ey eH;obtain⟨z,hd,vs,rel,dd⟩:=wZ I.hok e;have hz:vs.length<=sizeLine:=by rw [<- rel.length];exact z
  have hl:(sD kvs k v).length<=sizeLine:=by have:=ki kvs k v;omega
  refine wpAny_setItem_pairs (hsz:=hz) (ut ry) dd λh' dd' hs=>h _ ?_;have he:∃q,h'.get? a=some q:=let ⟨q,_,_,hq,_⟩:=dd';⟨q,hq⟩
  exact p8 I (by rw [e];exact HU) hs he (yq hl hd (rel.put k rv) dd')
 .subst ey eH;cases (show u=o_ b from ry);obtain⟨z,hd,xs,rel,dd⟩:=EC I.hok e;have hz:xs.length<=sizeLine:=by rw [<- Paired.length rel];exact z
  have hl:(sD kvs k v).length<=sizeLine:=by have:=ki kvs k v;omega
  refine wpAny_setItem_heap (hsz:=hz) (Kv hu) (re I.hok eb) dd λh' dd' hs=>h _ ?_;obtain⟨q,es,ep,hq,h2,h3,h4,_,h5⟩:=dd';refine p8 I (by rw [e];exact HU) hs ⟨q,hq⟩ ⟨hl,hd,_,(rel.put k eb rv).keeps λc ys ec=>?_,q,es,ep,hq,h2,h3,h4,h5⟩;rw [ak (Eb ec e (λz=>nomatch z))];exact ec
end
section
variable {X:Cx}{pins:List (Addr×Obj)}{σ:St}{H:Hp}{s:c_}{a:Addr}{kvs:List (Key×V)}{k:Key}{u:Value}{A:w_}{E:Value->c_->Prop}
def ED{v:V}{more:List Value}{Q:Value->c_->Prop}(I:Inv X pins σ H s)(e:H a=some (.dK kvs))(ry:bS (kV k) u)(l:nr kvs k=some v)(hm:more=[]\/∃x,more=[x])
  (h:∀w' s',Inv X pins σ (upd H a (.dK (p7 kvs k))) s'->bS v w'->Q w' s'):wpAny (model X.prog X.w) A (call (.builtin "dict.pop") (.ref a::u::more)) Q E s:=by
 obtain⟨z,hd,vs,rel,dd⟩:=wZ I.hok e;obtain⟨w',hw,rw'⟩:=qU.some_of (v:=v) (o:=valueAt vs k) (by rw [<- l];exact rel.val k)
 have hp:(keyPart u).isSome=true:=by
  cases k with
  | inl i=>obtain⟨t,q⟩:=(show ∃t,u=JU i t from ry);subst q;rfl
  | inr x=>obtain⟨t,q⟩:=(show ∃t,u=JC x t from ry);subst q;rfl
 have ha:argsOk "dict.pop" ⟨.ref a::u::more,[]⟩:=by
  rcases hm with q|⟨x,q⟩
  .subst q;exact PySem.F.args_dict_pop_2 _ _
  .subst q;exact PySem.F.args_dict_pop_3 _ _ _
 refine call_meetsIn Le dd.typeIs PySem.F.entry_dict_pop ha (meets_dict_pop_there (bP X.prog X.w) a (ut ry) more hm hp)
  ⟨vs,w',dd,by rw [<- rel.length];exact z,hw,λh' dd' hs=>h w' _ ?_ rw'⟩
 have he:∃q,h'.get? a=some q:=let ⟨q,_,_,hq,_⟩:=dd';⟨q,hq⟩
 exact p8 I (by rw [e];exact HU) hs he (yq (HP (wY kvs k) z) hd (rel.drop k) dd')
def EE{Q:Value->c_->Prop}(I:Inv X pins σ H s)(e:Rd H a (.dK kvs))(h:∀t s',Inv X pins σ H s'->Q (.int kvs.length t) s'):wpAny (model X.prog X.w) A (call (.builtin "len") [.ref a]) Q E s:=by
 obtain⟨z,hd,vs,rel,dd⟩:=sE I.hok e;refine call_len_dict hd dd (by rw [<- rel.length];rw [J5] at z;omega) ?_;rw [<- rel.length];exact h _ _ (I.tok _)
end
noncomputable def EF(i:Expr):Prop:=∀ov iv,subscripted i false ov iv=operate [ov,iv] (getItem ov iv)
def zK{prog:so}{w:World}{A:w_}{E:Value->c_->Prop}{s:c_}{env:Env}{value slice:Expr}{pos:Pos}{T id:String}{Q:Value->c_->Prop}
  (hl:typeLookup (.type T) "__getitem__"=pure (some (.builtin id))) (hs:EF slice)
  (h:wpAny (model prog w) A (eval value env) (λo s₁=>wpAny (model prog w) A (eval slice env) (λi s₂=>s₂.TypeIs o T/\wpAny (model prog w) A (getItem o i) Q E s₂) E s₁) E s) :
  wpAny (model prog w) A (eval (.Subscript value slice pos) env) Q E s:=by
 refine Subscript_ (E_ h (λo s₁ h₁=>E_ h₁ (λi s₂ h₂=>?_) λ_ _ x=>x) λ_ _ x=>x);obtain⟨hT,h₂⟩:=h₂;unfold subscriptTail;refine cy ?_;rw [getitemInPython_of_ne hT.not_modules];refine cy (J_ hT hl ?_)
 have fin:wpAny (model prog w) A (subscripted slice false o i) (λr s₃=>wpAny (model prog w) A (letTemporaryGo value o r >>= λ_=>pure r) Q E s₃) E s₂:=by
  rw [hs o i];exact wpAny_operating (E_ h₂ (λr s₃ h₃=>cy (wpAny_letTemporaryGo (l_ h₃))) λ_ _ x=>x)
 first
  | exact l_ (cy fin)
  | exact cy (l_ (cy fin))
  | exact cy fin
def p9{X:Cx}{pins:List (Addr×Obj)}{σ:St}{H:Hp}{s:c_}{a:Addr}{y:V}{o:Option V}(I:Inv X pins σ H s)(g:wt H a y o):s.TypeIs (.ref a) "dict":=by
 rcases g with ⟨kvs,k,e,_,_⟩|⟨kvs,k,b,e,_,_,_⟩
 .obtain⟨_,_,vs,_,dd⟩:=sE I.hok e;exact dd.typeIs
 .obtain⟨_,_,xs,_,dd⟩:=uu I.hok e;exact dd.typeIs
noncomputable def EG(td ty:TE):TE:=λσ H Q=>td σ H λx H1=>ty σ H1 λy H2=>∃a v,x=.ref a/\wt H2 a y (some v)/\Q v H2
noncomputable def zL(td ty tv:TE):TS:=λD σ H=>tv σ H λv H1=>td σ H1 λx H2=>ty σ H2 λy H3=>∃a H4,x=.ref a/\Cf H3 a y v H4/\D.nx σ H4
section
variable {X:Cx}{o i e value:Expr}{pos pos' tpos:Pos}{td ty tv:TE}
def zM(hu:X.A.units+1<cLine)(ho:PE X o td)(hi:PE X i ty)(hs:EF i):PE X (.Subscript o i pos) (EG td ty):=by
 intro pins s σ H Q I h;refine zK PySem.F.slot_dict_getitem.lookup hs (thn (ho pins s σ H _ I h) λu s1 ⟨x,H1,I1,rx,q1⟩=>thn (hi pins s1 σ H1 _ I1 q1) λiv s2 ⟨y,H2,I2,ry,a,v,ex,g,q2⟩=>?_);subst ex;obtain rfl:u=o_ a:=rx;exact⟨p9 I2 g,uv hu I2 g ry λw' s3 I3 rw'=>⟨v,H2,I3,rw',q2⟩⟩
def zN(hu:X.A.units+1<cLine)(ho:PE X o td)(hi:PE X i ty)(hv:PE X value tv)(hs:swapsWith value (some (.Subscript o i pos')) pos.line X.env=pure false) :
  PS X (.Assign [.Subscript o i pos'] value pos) (zL td ty tv):=by
 intro pins s σ H D I h;refine wpAny_Assign_Subscript (thn (hv pins s σ H _ I h) λr s1 ⟨v,H1,I1,rv,q1⟩=>thn (ho pins s1 σ H1 _ I1 q1) λu s2 ⟨x,H2,I2,rx,q2⟩=>thn (hi pins s2 σ H2 _ I2 q2) λiv s3 ⟨y,H3,I3,ry,a,H4,ex,g,q3⟩=>?_) hs;subst ex;obtain rfl:u=o_ a:=rx;exact uw hu I3 g ry rv λs4 I4=>⟨σ,H4,I4,q3⟩
end
def w4{P:so}{w:World}{H:Hp}(h:Heap)(hb:sysModules<h.objs.size):aW P w H (h.push { cls:=.type "dict",data:=.dict #[] }) h.objs.size (.dK []) :=
 ⟨Jm _,beq_eq_false_iff_ne.mpr (HL (Hj hb)),[],.nil,Heap.DictOf.new h⟩
noncomputable def uy:TE:=λ_ H Q=>∀p,H p=none->Q (.ref p) (upd H p (.dK []))
section
variable {X:Cx}{pos:Pos}
def mG:PE X (.Dict [] [] pos) uy:=λpins s σ H Q I h =>
 wpAny_Dict_empty ⟨.ref s.heap.objs.size,_,I.laid (a:=s.heap.objs.size) (o:=.dK []) (t':=s.toks) (λ_ _ q=>f_ _ q) (g_ _) (w4 s.heap I.big),rfl,h _ (I.hok.fresh (g_ _))⟩
end
structure M1 (X:Cx) (o:Expr) (m:Str) (apos:Pos) (e:Expr) (cpos:Pos):Prop where
 base:attributeBase o m X.env (eval o X.env)=eval o X.env
 few:((backTo cpos (starEach [e] X.env)).all (λx=>!x.1) && (backToKw cpos (keywordEach [] X.env)).all (λx=>x.1.isSome)
  && decide (([e]:List Expr).length+([]:List Keyword).length+(if ([]:List Keyword).isEmpty then 0 else 1)<30))=true
 line:(apos.endLine == cpos.line)=true
 trees:backTo cpos (starEach [e] X.env)=[(false,eval e X.env)]
noncomputable def IsD(H:Hp)(a:Addr):Prop:=(∃kvs,Rd H a (.dK kvs))\/∃kvs,Rd H a (.dT kvs)
def Cg{X:Cx}{pins:List (Addr×Obj)}{σ:St}{H:Hp}{s:c_}{a:Addr}(I:Inv X pins σ H s)(d:IsD H a) :
  s.TypeIs (.ref a) "dict"/\(∀b,o_ a=.ref b->∃ob,s.heap.get? b=some ob/\ob.dict=none)/\(a == sysModules)=false:=by
 rcases d with ⟨kvs,e⟩|⟨kvs,e⟩
 .obtain⟨_,hd,vs,_,dd⟩:=sE I.hok e;refine⟨dd.typeIs,λb q=>?_,hd⟩;cases q;obtain⟨ob,_,_,h1,h2,_⟩:=dd;exact⟨ob,h1,h2.2.1⟩
 .obtain⟨_,hd,xs,_,dd⟩:=uu I.hok e;refine⟨dd.typeIs,λb q=>?_,hd⟩;cases q;obtain⟨ob,_,_,h1,h2,_⟩:=dd;exact⟨ob,h1,h2.2.1⟩
noncomputable def yr(td ty:TE):TE:=λσ H Q=>td σ H λx H1=>∃a,x=.ref a/\IsD H1 a/\ty σ H1 λy H2=>∃kvs k v,H2 a=some (.dK kvs)/\y=kV k/\nr kvs k=some v/\Q v (upd H2 a (.dK (p7 kvs k)))
section
variable {X:Cx}{o e f:Expr}{apos cpos:Pos}{td ty tx:TE}
def w6(ho:PE X o td)(he:PE X e ty)(m:M1 X o "pop" apos e cpos):PE X (.Call (.Attribute o "pop" apos) [e] [] cpos) (yr td ty):=by
 intro pins s σ H Q I h;refine wpAny_Call_method m.base m.few m.line PySem.F.plainAttrs_dict Le PySem.F.type_dict_pop (thn (ho pins s σ H _ I h) λu s1 ⟨x,H1,I1,rx,a,ex,d,q1⟩=>?_);subst ex;obtain rfl:u=o_ a:=rx;obtain⟨t1,t2,_⟩:=Cg I1 d;refine⟨t1,t2,?_⟩;rw [m.trees];refine JM rfl (Calls.evalArgs_plain (Jz (thn (he pins s1 σ H1 _ I1 q1) λiv s2 ⟨y,H2,I2,ry,kvs,k,v,ea,ey,l,q2⟩=>JK ?_)))
 subst ey;exact ED I2 ea ry l (.inl rfl) λw' s3 I3 rw'=>⟨v,_,I3,rw',q2⟩
end
section
variable {X:Cx}
def rf{x:Str}{i:Int}{pos:Pos}(hg:Gl X x)(h:∃t,X.mg x=some (.int i t))(hd:(x == ("__debug__":Str))=false:=by decide):PE X (.Name x pos) (tC (.int i)):=by
 obtain⟨t,e⟩:=h;exact zi (u:=.int i t) hg e ⟨t,rfl⟩ hd
end
section
variable {X:Cx}{k:Nat}{x:Str}{ps:List Str}{sp:Sp}{p pos:Pos}{e:Expr}{es:List Expr}{t:TA}{dvs:List V}
def Ch{pins:List (Addr×Obj)}{σ:St}{H:Hp}{s:c_}{x:V}{u t:Value}(I:Inv X pins σ H s)(rx:bS x u)(ty:nq X.K H x t) :
  ∃Hq:Heap->Prop,PySem.W.KitX X.K u t Hq/\Hq s.heap/\u≠.builtin "__main__.__loader__#opaque":=by
 cases ty with
 | non=>cases (show u=HE from rx);exact⟨_,PySem.W.kitx_none,HU,λz=>nomatch z⟩
 | bl y=>cases (show u=Ia y from rx);exact⟨_,PySem.W.kitx_bool,HU,λz=>nomatch z⟩
 | int i=>obtain⟨t,q⟩:=(show ∃t,u=JU i t from rx);cases q;exact⟨_,PySem.W.kitx_int,HU,λz=>nomatch z⟩
 | str y=>obtain⟨t,q⟩:=(show ∃t,u=JC y t from rx);cases q;exact⟨_,PySem.W.kitx_str,HU,λz=>nomatch z⟩
 | flt y=>obtain⟨t,q⟩:=(show ∃t,u=Value.float y t from rx);cases q;exact⟨_,PySem.W.kitx_float,HU,λz=>nomatch z⟩
 | @lst a xs ea =>
  cases (show u=o_ a from rx);obtain⟨_,_,n,_,h1⟩:=(show aW X.prog X.w H s.heap a (.lst xs) from I.hok a _ ea)
  exact⟨_,JI,⟨_,h1,rfl⟩,λz=>nomatch z⟩
 | @frz a ob xs ea =>
  cases (show u=o_ a from rx);obtain⟨_,_,_,n,_,h1⟩:=(show aW X.prog X.w H s.heap a (.frz ob (.lst xs)) from I.hok a _ ea)
  exact⟨_,JI,⟨_,h1,rfl⟩,λz=>nomatch z⟩
 | @tup a xs ea =>
  cases (show u=o_ a from rx);obtain⟨_,_,_,p⟩:=(show aW X.prog X.w H s.heap a (.tup xs) from I.hok a _ ea)
  obtain⟨o,h1,h2,_⟩:=p;exact⟨_,PySem.W.kitx_tuple,⟨o,h1,h2⟩,λz=>nomatch z⟩
 | @dK a kvs ea =>
  cases (show u=o_ a from rx);obtain⟨_,_,vs,_,p⟩:=(show aW X.prog X.w H s.heap a (.dK kvs) from I.hok a _ ea)
  obtain⟨o,es,ep,h1,h2,_⟩:=p;exact⟨_,JJ,⟨o,h1,h2.1⟩,λz=>nomatch z⟩
 | @dT a kvs ea =>
  cases (show u=o_ a from rx);obtain⟨_,_,xs,_,o,es,ep,h1,h2,_⟩:=(show aW X.prog X.w H s.heap a (.dT kvs) from I.hok a _ ea)
  exact⟨_,JJ,⟨o,h1,h2.1⟩,λz=>nomatch z⟩
 | @ins a C dx fs ea cl ha hn htk hm =>
  cases (show u=o_ a from rx);obtain⟨mA,O,_⟩:=tZ I.hok ea;obtain⟨od,J,_⟩:=O.look;exact⟨_,PySem.W.kitx_own (cl.get _) cl.hd ha hn htk hm,J,λz=>nomatch z⟩
theorem rg:∀{ts:List String}{us:List Value},bK (ts.map V.ty) us->us=ts.map Ib
 | [],_,.nil=>rfl
 | t::ts,_,.cons r rr=>by rw [rg rr,show _=Ib t from r];rfl
def nZ:bD X (.builtin "isinstance") (λxs H Q=>∃(x:V) (p:Addr) (ts:List String) (t:Value) (b:Bool),xs=[x,.ref p]/\nq X.K H x t/\H p=some (.tup (ts.map V.ty))/\JP X.K t (ts.map Ib)=some b/\Q (.bl b) H):=by
 intro pins s σ H xs us Q I r h;obtain⟨x,p,ts,t,b,rfl,ty,hp,e,q⟩:=h;obtain⟨u,w',rfl,rx,ry⟩:=tW r;cases (show w'=o_ p from ry);obtain⟨Hq,Z,hq,hx⟩:=Ch I rx ty;obtain⟨its,rv,⟨⟨cls,dd,data,sl⟩,ho,hc,n,hd⟩,_⟩:=I.tuple (SqT.of hp);simp only at hc hd;subst hc hd;exact PySem.W.kia_tup Z I.kIn hq ho (by rw [rg rv];exact e) hx λtk=>⟨.bl b,H,I.tok _,rfl,q⟩
def uz:OpR X (compareOp .IsNot) (λx y H Q=>∃b c,x=.bl b/\y=.bl c/\Q (.bl (!decide (b=c))) H):=by
 intro pins s σ H x y v u Q I rx ry h;obtain⟨b,c,rfl,rfl,q⟩:=h;cases (show v=Ia b from rx);cases (show u=Ia c from ry);cases b <;> cases c <;> exact l_ (bq I q (by first|rfl|decide))
def mH(bs:List Bool):(gV bs.length).all (λi=>bs.getD i false)=bs.all id:=by
 induction bs with
 | nil=>rfl
 | cons b bs ih=>rw [length_cons,range_succ_eq_map,all_cons,all_map,all_cons,<- ih];rfl
def mI(bs:List Bool):(gV bs.length).any (λi=>bs.getD i false)=bs.any id:=by
 induction bs with
 | nil=>rfl
 | cons b bs ih=>rw [length_cons,range_succ_eq_map,any_cons,any_map,any_cons,<- ih];rfl
def uA{bs:List Bool}{its:List Value}(r:bK (bs.map V.bl) its){i:Nat}{v:Value}(h:its.toArray[i]?=some v):v=.bool (bs.getD i false):=by
 have h':its[i]?=some v:=by simpa using h
 have hl:=r.length;rw [length_map] at hl;have hi:i<bs.length:=by have:=(h_.mp h').1;omega
 obtain⟨u,e1,e2⟩:=r.get (i:=i) (x:=V.bl bs[i]) (by rw [i_,d_ hi];rfl);rw [h'] at e1;cases e1;rw [show v=Ia bs[i] from e2,e_,d_ hi];rfl
def xb(hc:X.calm=true):bD X (.builtin "all") (λxs H Q=>∃(p:Addr) (bs:List Bool),xs=[.ref p]/\SqL X.K H p (bs.map V.bl)/\Q (.bl (bs.all id)) H):=by
 intro pins s σ H xs us Q I r h;obtain⟨p,bs,rfl,hS,q⟩:=h;obtain⟨u,rfl,ru⟩:=fR r;cases (show u=o_ p from ru);obtain⟨its,rv,pl,hz⟩:=I.list hS;have hl:=rv.length;rw [length_map] at hl;have hps:p<s.heap.objs.size:=let ⟨o,ho,_⟩:=pl.isList;k_ ho
 obtain⟨f0,f1,f2,f3,f4,f5⟩:=I.fpOk (H':=H) (g_ s.heap.objs.size) (I.hok.fresh (g_ _))
 refine call_all_walk (IK pl.isList ⟨s.heap.objs.size,_,_,its.toArray.size,_,_,λi=>bs.getD i false,rfl,Walks.list (by exact I.ok.hd hc) s.heap.objs.size p (Hj hps) its.toArray,⟨⟨_,p_ _ rfl,rfl,rfl⟩,pl.isList.push _⟩,λi v s Q E hP hQ=>?_,λh' tk hk=>?_⟩)
 .rw [uA rv hP];exact HV hQ
 .have I1:Inv X pins σ H { s with heap:=s.heap.push { cls:=.type "list_iterator",data:=.fields #[.ref p,.int 0 0] } }:=I.kept (t':=s.toks) λb o e=>f_ _ e;have I2:=I1.turned (h':=h') (t':=tk) (it:=s.heap.objs.size) (λb o hb e=>hk b o (by simpa using hb) e) f0 f1 f3 f4 f5;refine⟨.bl (bs.all id),H,I2,?_,q⟩;show Ia _=Ia _;rw [size_toArray,<- hl,mH]
def xc(hc:X.calm=true):bD X (.builtin "any") (λxs H Q=>∃(p:Addr) (bs:List Bool),xs=[.ref p]/\SqL X.K H p (bs.map V.bl)/\Q (.bl (bs.any id)) H):=by
 intro pins s σ H xs us Q I r h;obtain⟨p,bs,rfl,hS,q⟩:=h;obtain⟨u,rfl,ru⟩:=fR r;cases (show u=o_ p from ru);obtain⟨its,rv,pl,hz⟩:=I.list hS;have hl:=rv.length;rw [length_map] at hl;have hps:p<s.heap.objs.size:=let ⟨o,ho,_⟩:=pl.isList;k_ ho
 obtain⟨f0,f1,f2,f3,f4,f5⟩:=I.fpOk (H':=H) (g_ s.heap.objs.size) (I.hok.fresh (g_ _))
 refine call_any_walk (IK pl.isList ⟨s.heap.objs.size,_,_,its.toArray.size,_,_,λi=>bs.getD i false,rfl,Walks.list (by exact I.ok.hd hc) s.heap.objs.size p (Hj hps) its.toArray,⟨⟨_,p_ _ rfl,rfl,rfl⟩,pl.isList.push _⟩,λi v s Q E hP hQ=>?_,λh' tk hk=>?_⟩)
 .rw [uA rv hP];exact HV hQ
 .have I1:Inv X pins σ H { s with heap:=s.heap.push { cls:=.type "list_iterator",data:=.fields #[.ref p,.int 0 0] } }:=I.kept (t':=s.toks) λb o e=>f_ _ e;have I2:=I1.turned (h':=h') (t':=tk) (it:=s.heap.objs.size) (λb o hb e=>hk b o (by simpa using hb) e) f0 f1 f3 f4 f5;refine⟨.bl (bs.any id),H,I2,?_,q⟩;show Ia _=Ia _;rw [size_toArray,<- hl,mI]
end
section
variable {X:Cx}{o e f:Expr}{apos cpos:Pos}{td ty tx:TE}
def uB:bD X (.builtin "len") (λxs H Q=>∃p kvs,xs=[.ref p]/\Rd H p (.dK kvs)/\Q (.int kvs.length) H):=by
 intro pins s σ H xs us Q I r h;obtain⟨p,kvs,rfl,hd,q⟩:=h;obtain⟨u,rfl,ru⟩:=fR r;cases (show u=o_ p from ru);exact EE I hd λt s' I'=>⟨.int kvs.length,H,I',⟨t,rfl⟩,q⟩
end
noncomputable def aF(K:b_)(x:Str):Addr:=match D_ K mainGlobals x with
 | some (some (.ref C))=>C
 | _=>0
def bH{K:b_}{x:Str}{C:Addr}(h:D_ K mainGlobals x=some (some (.ref C))):aF K x=C:=by unfold aF;rw [h]
def uC{prog:so}{w:World}{A:w_}(k:Bool)(hh:A.handled=none)(it a:Addr)(hne:a≠it)(its:Array Value) :
  Draws prog w A it [it,a] its.size (λi v=>its[i]?=some v) (λi h=>iu k h it a i/\kf k h a its) where
 live:=λ_ _ st=>let ⟨o,ho,_⟩:=st.1;⟨o,ho⟩
 frame:=λ_ _ _ st hk=>⟨st.1.mv λo e=>hk it (by simp) o e,st.2.mv λo e=>hk a (by simp) o e⟩
 item:=λi s Q E hi st hQ=>by
  refine nV st.1 st.2 (x:=its[i]) (by simp [hi]) λh' hit' hs'=>?_;exact hQ _ h' s.toks (by simp [hi]) ⟨hit',st.2.mv λo e=>hs'.extBut _ o hne e⟩ hs'
 done:=λs Q E st hE=>kg hh st.1 st.2 (by simp) hE
noncomputable def Ite(k:Bool)(K:b_)(a:Addr):It :=
  ⟨λi H=>∃xs x,Sq k K H a xs/\xs[i]?=some x,
   λi H p H'=>∃T x,H T=none/\p=.ref T/\(∀xs,Sq k K H a xs->xs[i]?=some x)/\H'=upd H T (.tup [.int (i:Int),x]),
   λi H=>∃xs,Sq k K H a xs/\xs.length<=i⟩
def uD{P:so}{w:World}{K:b_}{es:List Expr}{ct:Nat}{tp:Pos}{k:Bool}{a e it:Addr}(hei:e≠it) :
  zp P w K (.Tuple es ct tp) (Ite k K a) [e,it] e (λn h=>(∃old,IsEnum h e it ((n:Nat):Int) old)/\iu k h it a n) where
 mem:=by simp
 obj:=λn h st b hb=>by
  obtain⟨⟨old,he⟩,o1,g1,c1,d1⟩:=st;simp only [mem_cons,not_mem_nil,or_false] at hb
  rcases hb with rfl|rfl
  .exact⟨_,he,λv q=>by cases q⟩
  .exact⟨_,g1,λv q=>by rw [d1] at q;cases q⟩
 keep:=λn h h' st kk=>by
  obtain⟨⟨old,he⟩,w1⟩:=st;exact⟨⟨old,kk e (by simp) _ he⟩,w1.mv λo q=>kk it (by simp) o q⟩
 item:=by
  intro X hP hw hK hc n pins s σ H E I hf st hg;subst hP hw hK;obtain⟨xs,x,q1,hx⟩:=hg;obtain⟨⟨old,he⟩,w1⟩:=st;obtain⟨its,rv,p,_⟩:=I.row q1;obtain⟨ux,hux,rx⟩:=rv.get hx;have ne:=I.row_ne q1 (hf e (by simp));have ni:=I.row_ne q1 (hf it (by simp))
  have hlt:n<its.toArray.size:=by
   have:=(h_.mp hux).1;simpa using this
  have hhd:X.A.in1.handled=none:=by exact I.ok.hd hc
  refine wpAny_pyNext_enum_itemD (uC k hhd it a ni its.toArray) he ⟨w1,p⟩ hlt hei (by simp [hei,HL ne]) λy h' tk hP ho hst ht hsz hk=>?_
  have hy:y=ux:=by
   have h1:its[n]?=some y:=by simpa using hP
   rw [hux] at h1;exact (we h1).symm
  subst hy;refine⟨_,rfl,wpAny_letOwnedTupleGo_enum ho λg ge gs=>?_⟩;have lt:∀{b o},s.heap.get? b=some o->s.heap.objs.size≠b:=λq=>Kq (k_ q)
  have kp:∀b o,b∉[e,it]->s.heap.get? b=some o->g.get? b=some o:=λb o hb q=>by
   simp only [mem_cons,not_mem_nil,or_false,not_or] at hb;exact gs.extBut _ _ hb.1 (hk b o hb.1 hb.2 q)
  have I2:Inv X pins σ (upd H s.heap.objs.size (.tup [.int (n:Int),x])) { s with heap:=g,toks:=tk+1 }:=I.yielded (ch:=[e,it]) (λb hb=>hf b hb) (g_ _) kp
   ⟨by show 2<=sizeLine;decide,[.int (n:Int) tk,y],.cons ⟨tk,rfl⟩ (.cons rx .nil),_,gs.extBut _ _ (lt he) ht,rfl,_,rfl⟩
  refine⟨.ref s.heap.objs.size,_,I2,rfl,⟨_,x,I.hok.fresh (g_ _),rfl,λxs' q=>by rw [I.row_inj q q1];exact hx,rfl⟩,⟨⟨y,by simpa using ge⟩,hst.1.mv λo q=>gs.extBut _ o (HL hei) q⟩,λb hb=>?_⟩
  rw [ak ?_]
  .exact (hf b hb).1
  .intro q;subst q;simp only [mem_cons,not_mem_nil,or_false] at hb;obtain⟨o1,g1,_⟩:=w1
   rcases hb with q|q
   .exact lt he q
   .exact lt g1 q
 done:=by
  intro X hP hw hK hc n pins s σ H E I hf st hg;subst hP hw hK;obtain⟨xs,q1,hend⟩:=hg;obtain⟨⟨old,he⟩,w1⟩:=st;obtain⟨its,rv,p,_⟩:=I.row q1;have e1:=rv.length;have ni:=I.row_ne q1 (hf it (by simp));have hhd:X.A.in1.handled=none:=by exact I.ok.hd hc
  obtain⟨f0,f1,f2,f3,f4,f5⟩:=hf it (by simp)
  -- the walk's end is wherever the row has no item
  have hT:s.TypeIs (.ref e) "enumerate":=⟨_,he,rfl⟩
  unfold pyNext
  refine cy (wpAny_attempt (JE (name:=K6 "__next__") hT F.slot_enumerate_next
   (JV F.slot_enumerate_next hT F.entry_enumerate_next ?_ (F.args_enumerate_next_1 _))))
  show wpAny _ _ (field (.ref e) 2 >>= _) _ _ _;refine cy (IJ he rfl (x:=.ref it) rfl ?_);refine cy (kg hhd w1 p (by simp;omega) λh' x he' hx'=>?_);obtain⟨o,ho,hcl⟩:=hx';refine cy (wpAny_isInstance (T:="StopIteration") (b:=true) ⟨o,ho,hcl⟩ isSubtype_stop ?_);exact l_ ⟨rfl,I.turned (t':=s.toks) (λb o hb q=>he' b o hb q) f0 f1 f3 f4 f5⟩
 self:=λ_ _ _ _ _ st h=>let ⟨⟨_,he⟩,_⟩:=st;wpAny_pyIter_enum he h
section
variable {P:so}{w:World}{A:w_}{E:Value->c_->Prop}{s:c_}{k:Bool}
def xf(k:Bool)(a:Addr)(xs:Array Value):Meets (JG.«enumerate.__new__» ⟨[.type "enumerate",.ref a],[]⟩) (λ_ R s=>kf k s.heap a xs /\
   R (.ok (.ret (.ref (s.heap.push (p5 k a)).objs.size))) { s with heap:=(s.heap.push (p5 k a)).push { cls:=.type "enumerate",data:=.fields #[.none,.bool false,.ref s.heap.objs.size,rawInt 0,.none,.none] } }) :=
 .of_wp λprog w A R s h=>by
  obtain⟨hp,g,d,tk,os⟩:=s;obtain⟨r1,h⟩:=h;have hsub:=sub_enumerate;have R1:kf k (Shared.heap ⟨hp,g,d,tk,os⟩) a xs:=r1;obtain⟨⟨cls,dd,data,sl⟩,ho,hc,n,hd⟩:=id r1;simp only at hc hd;subst hc hd
  wp_walk using IQ ho
  refine wpAny_stack_any λst=>l_ ?_
  split
  .rename_i c _ _ _ _ _
   cases (c == Ib "enumerate")
   .wp_walk using IQ ho,iW R1
    exact⟨_,rfl,h⟩
   .wp_walk using IQ ho,iW R1
    exact⟨_,rfl,h⟩
  .wp_walk using IQ ho,iW R1
   exact⟨_,rfl,h⟩
def xg{a:Addr}{xs:Array Value}{Q:Value->c_->Prop}(r1:kf k s.heap a xs)
  (h:∀h',IsEnum h' (s.heap.objs.size+1) s.heap.objs.size 0 .none->iu k h' s.heap.objs.size a 0->(∀b o,s.heap.get? b=some o->h'.get? b=some o)->Q (.ref (s.heap.objs.size+1)) { s with heap:=h' }) :
  wpAny (model P w) A (call (.type "enumerate") [.ref a]) Q E s:=by
 refine callType_new F.called_enumerate (by decide) (F.typeCall_enumerate_1 _) (F.newCall_enumerate_1 _) (λobj=>F.args_object_init_2 obj _) F.entry_enumerate_new (xf k a xs) ⟨r1,?_⟩;have z1:(s.heap.push (p5 k a)).objs.size=s.heap.objs.size+1:=ID ..;have g2:((s.heap.push (p5 k a)).push { cls:=.type "enumerate",data:=.fields #[.none,.bool false,.ref s.heap.objs.size,rawInt 0,.none,.none] }).get? (s.heap.push (p5 k a)).objs.size=some _:=p_ _ rfl
 have g1:=f_ { cls:=.type "enumerate",data:=.fields #[.none,.bool false,.ref s.heap.objs.size,rawInt 0,.none,.none] } (p_ s.heap (o:=p5 k a) rfl);show _/\_;rw [z1] at g2 ⊢;exact⟨⟨_,g2,rfl⟩,h _ g2 ⟨_,g1,rfl,rfl⟩ λb o q=>f_ _ (f_ _ q)⟩
end
section
variable {X:Cx}{es:List Expr}{ct:Nat}{tp:Pos}
noncomputable def xh(K:b_)(ta:TA):TI:=λσ H R=>ta σ H λvs H1=>∃k a,vs=[.ref a]/\(∃xs,Sq k K H1 a xs)/\R (Ite k K a) H1
def zO{a:Expr}{ta:TA}{p pos:Pos}(hg:Gl X "enumerate")(hm:X.mg "enumerate"=none)(ha:PA X [a] ta)(hs:starEach [a] X.env=[(false,eval a X.env)]:=by rfl) :
  PI X (.Tuple es ct tp) (.Call (.Name "enumerate" p) [a] [] pos) (xh X.K ta):=by
 intro pins s σ H R I h;refine Call_ (jn I hg hm boot_enumerate (HG (thn (ha pos pins s σ H _ I h) λus s1 ⟨vs,H1,I1,r1,q1⟩=>?_) hs rfl));obtain⟨k,a,e,⟨xs,q1⟩,q⟩:=q1;subst e
 cases r1 with
 | cons r rr =>
  cases rr;cases r;obtain⟨its,rv,p,_⟩:=I1.row q1;refine xg p λh' g1 g2 kk=>wpAny_pyIter_enum g1 ?_;have I2:Inv X pins σ H1 { s1 with heap:=h',toks:=s1.toks }:=I1.kept kk;refine⟨s1.heap.objs.size+1,[s1.heap.objs.size+1,s1.heap.objs.size],_,_,H1,rfl,I2,uD (k:=k) (a:=a) (it:=s1.heap.objs.size) (Kq (HX _)),⟨⟨_,g1⟩,g2⟩,λb hb=>?_,q⟩
  have hle:s1.heap.objs.size<=b:=by
   simp only [mem_cons,not_mem_nil,or_false] at hb
   rcases hb with e|e
   .rw [e];exact le_add_right _ _
   .rw [e];exact g_ _
  exact I1.fpOk hle (I1.hok.fresh hle)
end
section
variable {X:Cx}{e:Expr}{ta:TE}{f:Str}{pos:Pos}
noncomputable def EH(K:b_):List V->Hp->VK->Prop:=λxs H Q=>∃p ys,xs=[.ref p]/\SqL K H p ys/\Q (.int ys.length) H
noncomputable def EI(K:b_):List V->Hp->VK->Prop:=λxs H Q=>∃p ys,xs=[.ref p]/\SqT K H p ys/\Q (.int ys.length) H
noncomputable def Ga(K:b_):List V->Hp->VK->Prop:=λxs H Q=>∃x n t b,xs=[x,.ty n]/\nq K H x t/\Ht K t (.type n)=some b/\Q (.bl b) H
noncomputable def gW(K:b_):List V->Hp->VK->Prop:=λxs H Q=>∃p ys,xs=[.ref p]/\(SqL K H p ys\/SqT K H p ys)/\∀l,H l=none->Q (.ref l) (upd H l (.lst ys))
end
section
variable {X:Cx}{o e:Expr}{es:List Expr}{to:TE}{t:TA}{name:Str}{apos cpos:Pos}{T id:String}{r:V->List V->Hp->VK->Prop}
def jq(K:b_)(eK:X.K=K)(pa:PlainAttrs T)(slot:Slot T name id)(hty:typeOf (.builtin id)=pure (.type "method_descriptor"))(hm:MtR X id r)(ho:PE X o to)(ha:PA X (e::es) t)
  (hbase:attributeBase o name X.env (eval o X.env)=eval o X.env:=by rfl)
  (hfew:((backTo cpos (starEach (e::es) X.env)).all (λx=>!x.1) && (backToKw cpos (keywordEach [] X.env)).all (λx=>x.1.isSome)
   && decide ((e::es).length+([]:List Keyword).length+(if ([]:List Keyword).isEmpty then 0 else 1)<30))=true:=by rfl)
  (hline:(apos.endLine == cpos.line)=true:=by rfl) (hs:starEach (e::es) X.env=(false,eval e X.env)::starEach es X.env:=by rfl) (hplain:(backTo cpos (starEach es X.env)).any (·.1)=false:=by rfl) :
  PE X (.Call (.Attribute o name apos) (e::es) [] cpos) (tBM K T r to t):=eK ▸ Ev pa slot hty hm ho ha hbase hfew hline hs hplain
end
noncomputable def gE(c:Bool)(A B:Prop):Prop:=match c with|true=>A|false=>B
def kj{c:Bool}{A B:Prop}(h1:c=true->A)(h2:c=false->B):gE c A B:=by
 cases c with
 | true=>exact h1 rfl
 | false=>exact h2 rfl
def iw{p:Prop}[Decidable p]{A B:Prop}(h1:p->A)(h2:¬ p->B):gE (decide p) A B:=kj (λh=>h1 (of_decide_eq_true h)) (λh=>h2 (of_decide_eq_false h))
def sF{p:Prop}[Decidable p]{A B:Prop}(h1:¬ p->A)(h2:p->B):gE (!decide p) A B:=kj (λh=>h1 λz=>by rw [decide_eq_true z] at h;cases h) (λh=>h2 (by
 by_cases z:p
 .exact z
 .rw [decide_eq_false z] at h;cases h))
def EJ{p:Prop}[Decidable p]{A B:Prop}(h:p)(hA:A):gE (decide p) A B:=iw (λ_=>hA) (λz=>absurd h z)
def EK{p:Prop}[Decidable p]{A B:Prop}(h:¬ p)(hB:B):gE (decide p) A B:=iw (λz=>absurd z h) (λ_=>hB)
def Ci{p:Prop}[Decidable p]{A B:Prop}(h:¬ p)(hA:A):gE (!decide p) A B:=sF (λ_=>hA) (λz=>absurd z h)
def yt{p:Prop}[Decidable p]{A B:Prop}(h:p)(hB:B):gE (!decide p) A B:=sF (λz=>absurd h z) (λ_=>hB)
def fj{c:Bool}{A B:Prop}(h:gE c B A):gE (!c) A B:=by
 cases c <;> exact h
def GP{c:Bool}{A B:Prop}(h:c=true)(hA:A):gE c A B:=by subst h;exact hA
def GQ{c:Bool}{A B:Prop}(h:c=false)(hB:B):gE c A B:=by subst h;exact hB
def EL{c:Bool}{A B:Prop}(h:c=false)(hA:A):gE (!c) A B:=by subst h;exact hA
def EM{c:Bool}{A B:Prop}(h:c=true)(hB:B):gE (!c) A B:=by subst h;exact hB
inductive D where
 | non|bl (b:Bool)|int (i:Int)|str (l:List Nat)|ty (n:String)
 | lst (ds:List D)|tup (ds:List D)|scr (ns:List Int)|dic (ks:List Key) (ds:List D)|fdc (ks:List Key) (ds:List D)|obj (c:Str) (ns:List Str) (ds:List D)|exc (c:Str) (ns:List Str) (ds:List D)
noncomputable def XAt(x C:Addr)(dd:Option Addr)(new:Bool)(h:Heap):Prop:=∃o vs,h.get? x=some o/\o.cls=.ref C/\o.dict=dd/\o.data=.fields vs/\1<vs.size/\(new=true->vs[1]?=some .none)
noncomputable def cJ(A:Addr->Prop)(a:Addr):Addr->Prop:=λb=>A b\/b=a
noncomputable def Bj(K:b_)(O:Addr->Prop)(H:Hp)(a:Addr)(xs:List V):Prop :=
 (¬ O a/\Rd H a (.lst xs))\/∃(o:Obj) (its:Array Value) (n:Nat),K.lookup a=some o/\o.cls=.type "list"/\o.dict=none/\o.data=.seq its n/\its.size<=sizeLine/\bK xs its.toList
def Bj.sq{K:b_}{O:Addr->Prop}{H:Hp}{a:Addr}{xs:List V}(h:Bj K O H a xs):SqL K H a xs:=h.elim (λz=>.inl z.2) .inr
noncomputable def aA(O:Addr->Prop)(H:Hp)(O':Addr->Prop)(H':Hp):Prop:=∀b o,¬ O b->H b=some o->¬ O' b/\H' b=some o
def Rd.keeps{O O':Addr->Prop}{H H':Hp}{a:Addr}{u:HO}(k:aA O H O' H')(n:¬ O a)(r:Rd H a u):¬ O' a/\Rd H' a u:=by
 rcases r with e|⟨o,e⟩
 .exact⟨(k _ _ n e).1,.inl (k _ _ n e).2⟩
 .exact⟨(k _ _ n e).1,.inr ⟨o,(k _ _ n e).2⟩⟩
def Bj.keeps{K:b_}{O O':Addr->Prop}{H H':Hp}{a:Addr}{xs:List V}(k:aA O H O' H')(h:Bj K O H a xs):Bj K O' H' a xs:=by
 rcases h with ⟨n,r⟩|r
 .exact .inl (r.keeps k n)
 .exact .inr r
mutual
inductive FV (K:b_) (O:Addr->Prop) (H:Hp):V->D->Prop
 | non:FV K O H .non .non
 | bl (b:Bool):FV K O H (.bl b) (.bl b)
 | int (i:Int):FV K O H (.int i) (.int i)
 | str (l:List Nat):l.length<=1000000->FV K O H (.str (S l)) (.str l)
 | ty (n:String):FV K O H (.ty n) (.ty n)
 | scr {a:Addr}{ns:List Int}:Bj K O H a (ns.map V.int)->FV K O H (.ref a) (.scr ns)
 | lst {a:Addr}{xs:List V}{ds:List D}:¬ O a->H a=some (.lst xs)->FVs K O H xs ds->FV K O H (.ref a) (.lst ds)
 | tup {a:Addr}{xs:List V}{ds:List D}:¬ O a->H a=some (.tup xs)->FVs K O H xs ds->FV K O H (.ref a) (.tup ds)
 | dic {a:Addr}{kvs:List (Key×V)}{ks:List Key}{ds:List D}:¬ O a->H a=some (.dK kvs)->kvs.map v_=ks->FVs K O H (kvs.map Hv) ds->FV K O H (.ref a) (.dic ks ds)
 | fdc {a:Addr}{o:Obj}{kvs:List (Key×V)}{ks:List Key}{ds:List D}:¬ O a->H a=some (.frz o (.dK kvs))->kvs.map v_=ks->FVs K O H (kvs.map Hv) ds->FV K O H (.ref a) (.fdc ks ds)
 | obj {a dx:Addr}{c:Str}{fs:List (Str×V)}{ns:List Str}{ds:List D}:¬ O a->H a=some (.ins (aF K c) dx fs)->fs.map v_=ns->FVs K O H (fs.map Hv) ds->FV K O H (.ref a) (.obj c ns ds)
 | exc0 {a:Addr}{c:Str}{new:Bool}:¬ O a->H a=some (.ext (XAt a (aF K c) none new))->FV K O H (.ref a) (.exc c [] [])
 | exc1 {a dx:Addr}{c:Str}{new:Bool}{fs:List (Str×V)}{ns:List Str}{ds:List D}:¬ O a->¬ O dx->H a=some (.ext (XAt a (aF K c) (some dx) new))->H dx=some (.xd fs)->fs.map v_=ns->FVs K O H (fs.map Hv) ds->FV K O H (.ref a) (.exc c ns ds)
inductive FVs (K:b_) (O:Addr->Prop) (H:Hp):List V->List D->Prop
 | nil:FVs K O H [] []
 | cons {x:V}{d:D}{xs:List V}{ds:List D}:FV K O H x d->FVs K O H xs ds->FVs K O H (x::xs) (d::ds)
end
section
variable {K:b_}{O O':Addr->Prop}{H H':Hp}
mutual
theorem FV.keeps(k:aA O H O' H'):∀{v:V}{d:D},FV K O H v d->FV K O' H' v d
 | _,_,.non=>.non
 | _,_,.bl b=>.bl b
 | _,_,.int i=>.int i
 | _,_,.str l h=>.str l h
 | _,_,.ty n=>.ty n
 | _,_,.scr s=>.scr (s.keeps k)
 | _,_,.lst n e f=>.lst (k _ _ n e).1 (k _ _ n e).2 (FVs.keeps k f)
 | _,_,.tup n e f=>.tup (k _ _ n e).1 (k _ _ n e).2 (FVs.keeps k f)
 | _,_,.dic n e m f=>.dic (k _ _ n e).1 (k _ _ n e).2 m (FVs.keeps k f)
 | _,_,.fdc n e m f=>.fdc (k _ _ n e).1 (k _ _ n e).2 m (FVs.keeps k f)
 | _,_,.obj n e m f=>.obj (k _ _ n e).1 (k _ _ n e).2 m (FVs.keeps k f)
 | _,_,.exc0 n e=>.exc0 (k _ _ n e).1 (k _ _ n e).2
 | _,_,.exc1 n n2 e e2 m f=>.exc1 (k _ _ n e).1 (k _ _ n2 e2).1 (k _ _ n e).2 (k _ _ n2 e2).2 m (FVs.keeps k f)
theorem FVs.keeps(k:aA O H O' H'):∀{vs:List V}{ds:List D},FVs K O H vs ds->FVs K O' H' vs ds
 | _,_,.nil=>.nil
 | _,_,.cons a b=>.cons (FV.keeps k a) (FVs.keeps k b)
end
theorem FVs.length:∀{vs:List V}{ds:List D},FVs K O H vs ds->vs.length=ds.length
 | _,_,.nil=>rfl
 | _,_,.cons _ b=>by rw [length_cons,length_cons,b.length]
theorem FVs.get:∀{vs:List V}{ds:List D}{i:Nat}{v:V},FVs K O H vs ds->vs[i]?=some v->∃d,ds[i]?=some d/\FV K O H v d
 | _,_,0,_,.cons a _,e=>by simp at e;subst e;exact⟨_,rfl,a⟩
 | _,_,i+1,v,.cons _ b,e=>by
  obtain⟨d,h1,h2⟩:=b.get (i:=i) (v:=v) (by simpa using e);exact⟨d,by simpa using h1,h2⟩
theorem FVs.getD:∀{vs:List V}{ds:List D}{i:Nat}{d:D},FVs K O H vs ds->ds[i]?=some d->∃v,vs[i]?=some v/\FV K O H v d
 | _,_,0,_,.cons a _,e=>by simp at e;subst e;exact⟨_,rfl,a⟩
 | _,_,i+1,v,.cons _ b,e=>by
  obtain⟨d,h1,h2⟩:=b.getD (i:=i) (d:=v) (by simpa using e);exact⟨d,by simpa using h1,h2⟩
theorem FVs.append:∀{vs ws:List V}{ds es:List D},FVs K O H vs ds->FVs K O H ws es->FVs K O H (vs++ws) (ds++es)
 | _,_,_,_,.nil,s=>s
 | _,_,_,_,.cons a b,s=>.cons a (b.append s)
theorem FVs.set{v:V}{d:D}(f:FV K O H v d):∀{vs:List V}{ds:List D} (i:Nat),FVs K O H vs ds->FVs K O H (vs.set i v) (ds.set i d)
 | _,_,_,.nil=>.nil
 | _,_,0,.cons _ t=>.cons f t
 | _,_,i+1,.cons q t=>.cons q (FVs.set f i t)
theorem FVs.take:∀{vs:List V}{ds:List D} (n:Nat),FVs K O H vs ds->FVs K O H (vs.take n) (ds.take n)
 | _,_,0,_=>.nil
 | _,_,_+1,.nil=>.nil
 | _,_,n+1,.cons r t=>.cons r (t.take n)
theorem FVs.reverse:∀{vs:List V}{ds:List D},FVs K O H vs ds->FVs K O H vs.reverse ds.reverse
 | _,_,.nil=>.nil
 | _,_,.cons r t=>by rw [K3,K3];exact t.reverse.append (.cons r .nil)
theorem FVs.ints:∀{vs:List V}{ns:List Int},FVs K O H vs (ns.map D.int)->vs=ns.map V.int
 | _,[],.nil=>rfl
 | _,n::r,h=>by
  cases h with
  | cons a b=>cases a;rw [FVs.ints b];rfl
theorem FVs.of_ints:∀ns:List Int,FVs K O H (ns.map V.int) (ns.map D.int)
 | []=>.nil
 | n::r=>.cons (.int n) (FVs.of_ints r)
theorem FVs.bls:∀{vs:List V}{bs:List Bool},FVs K O H vs (bs.map D.bl)->vs=bs.map V.bl
 | _,[],.nil=>rfl
 | _,n::r,h=>by
  cases h with
  | cons a b=>cases a;rw [FVs.bls b];rfl
end
inductive PV where
 | dat (d:D)|own (ds:List D)|ins (c:Str) (ns:List Str) (ds:List D)|odc (ks:List Key) (ds:List D)
noncomputable def PV.isOwn:PV->Bool
 | .dat _=>false
 | _=>true
noncomputable def PV.d:PV->D
 | .dat d=>d
 | .own ds=>.lst ds
 | .ins c ns ds=>.obj c ns ds
 | .odc ks ds=>.dic ks ds
abbrev PSt:=List (Option PV)
noncomputable def Wr(ρ:PSt)(σ:St)(b:Addr):Prop:=∃(i:Nat) (p:PV),ρ[i]?=some (some p)/\p.isOwn=true/\σ[i]?=some (some (.ref b))
noncomputable def OO(A:Addr->Prop)(ρ:PSt)(σ:St)(b:Addr):Prop:=A b\/Wr ρ σ b
noncomputable def RS(K:b_)(O:Addr->Prop)(H:Hp):PV->V->Prop
 | .dat d,v=>FV K O H v d
 | .own ds,v=>∃a xs,v=.ref a/\H a=some (.lst xs)/\FVs K O H xs ds
 | .ins c ns ds,v=>∃a dx fs,v=.ref a/\H a=some (.ins (aF K c) dx fs)/\fs.map v_=ns/\FVs K O H (fs.map Hv) ds
 | .odc ks ds,v=>∃a kvs,v=.ref a/\H a=some (.dK kvs)/\kvs.map v_=ks/\FVs K O H (kvs.map Hv) ds
structure Rel (K:b_) (A:Addr->Prop) (ρ:PSt) (σ:St) (H:Hp):Prop where
 len:ρ.length=σ.length
 get:∀(i:Nat) (p:PV),ρ[i]?=some (some p)->∃v,σ[i]?=some (some v)/\RS K (OO A ρ σ) H p v
 dj:∀(i j:Nat) (p q:PV) (v:V),ρ[i]?=some (some p)->ρ[j]?=some (some q)->p.isOwn=true->q.isOwn=true->σ[i]?=some (some v)->σ[j]?=some (some v)->i=j
 dom:∀b,A b->H b≠none
 sep:∀b,A b->¬ Wr ρ σ b
structure Fr (ρ:PSt) (σ:St) (H:Hp) (ρ':PSt) (H':Hp):Prop where
 kp:∀b o,¬ Wr ρ σ b->H b=some o->H' b=some o
 dm:∀b,H b≠none->H' b≠none
 ow:∀b,Wr ρ' σ b->Wr ρ σ b
def Fr.refl(ρ:PSt)(σ:St)(H:Hp):Fr ρ σ H ρ H:=⟨λ_ _ _ h=>h,λ_ h=>h,λ_ h=>h⟩
def Fr.trans{ρ ρ1 ρ2:PSt}{σ:St}{H H1 H2:Hp}(a:Fr ρ σ H ρ1 H1)(b:Fr ρ1 σ H1 ρ2 H2):Fr ρ σ H ρ2 H2 :=
 ⟨λc o n h=>b.kp c o (λz=>n (a.ow c z)) (a.kp c o n h),λc h=>b.dm c (a.dm c h),λc h=>a.ow c (b.ow c h)⟩
def Fr.keeps{ρ ρ':PSt}{σ:St}{H H':Hp}{A:Addr->Prop}(f:Fr ρ σ H ρ' H'):aA (OO A ρ σ) H (OO A ρ' σ) H':=λb o n h =>
 ⟨λz=>z.elim (λz=>n (.inl z)) (λz=>n (.inr (f.ow b z))),f.kp b o (λz=>n (.inr z)) h⟩
def Fr.new{ρ:PSt}{σ:St}{H:Hp}{p:Addr}{o:HO}(h:H p=none):Fr ρ σ H ρ (upd H p o) :=
 ⟨λb u _ e=>by rw [ak (aK e h)];exact e,λb e=>by
  by_cases z:b=p
  .rw [z,aw];exact nofun
  .rw [ak z];exact e,λ_ h=>h⟩
def aA.fresh{O:Addr->Prop}{H:Hp}{p:Addr}{o:HO}(h:H p=none):aA O H (cJ O p) (upd H p o):=λb u n e =>
 ⟨λz=>z.elim n (λz=>by rw [z,h] at e;cases e),by rw [ak (aK e h)];exact e⟩
def aA.less{O O':Addr->Prop}{H:Hp}(h:∀b,O' b->O b):aA O H O' H:=λb o n e=>⟨λz=>n (h b z),e⟩
def RS.keeps{K:b_}{O O':Addr->Prop}{H H':Hp}{p:PV}{v:V}(k:aA O H O' H')(w:p.isOwn=true->∀a,v=.ref a->H' a=H a)(h:RS K O H p v):RS K O' H' p v:=by
 cases p with
 | dat d=>exact FV.keeps k h
 | own ds =>
  obtain⟨a,xs,e,g,f⟩:=h;exact⟨a,xs,e,by rw [w rfl a e];exact g,f.keeps k⟩
 | ins c ns ds =>
  obtain⟨a,dx,fs,e,g,m,f⟩:=h;exact⟨a,dx,fs,e,by rw [w rfl a e];exact g,m,f.keeps k⟩
 | odc ks ds =>
  obtain⟨a,kvs,e,g,m,f⟩:=h;exact⟨a,kvs,e,by rw [w rfl a e];exact g,m,f.keeps k⟩
def RS.ref{K:b_}{O:Addr->Prop}{H:Hp}{p:PV}{v:V}(h:RS K O H p v)(o:p.isOwn=true):∃a u,v=.ref a/\H a=some u:=by
 cases p with
 | dat d=>cases o
 | own ds=>obtain⟨a,xs,e,g,f⟩:=h;exact⟨a,_,e,g⟩
 | ins c ns ds=>obtain⟨a,dx,fs,e,g,m,f⟩:=h;exact⟨a,_,e,g⟩
 | odc ks ds=>obtain⟨a,kvs,e,g,m,f⟩:=h;exact⟨a,_,e,g⟩
def Rel.wr{K:b_}{A:Addr->Prop}{ρ:PSt}{σ:St}{H:Hp}(R:Rel K A ρ σ H){b:Addr}(h:Wr ρ σ b):H b≠none:=by
 obtain⟨i,p,e,o,s⟩:=h;obtain⟨v,s',r⟩:=R.get i p e;rw [s] at s';cases s';obtain⟨a,u,e1,e2⟩:=r.ref o;cases e1;rw [e2];exact nofun
def Rel.oo{K:b_}{A:Addr->Prop}{ρ:PSt}{σ:St}{H:Hp}(R:Rel K A ρ σ H){b:Addr}(h:H b=none):¬ OO A ρ σ b:=λz=>z.elim (λz=>R.dom b z h) (λz=>R.wr z h)
def Rel.grow{K:b_}{A:Addr->Prop}{ρ:PSt}{σ:St}{H:Hp}(R:Rel K A ρ σ H){p:Addr}{o:HO}(h:H p=none):Rel K A ρ σ (upd H p o):=by
 have k:aA (OO A ρ σ) H (OO A ρ σ) (upd H p o):=Fr.keeps (Fr.new h);refine⟨R.len,λi q e=>?_,R.dj,λb z=>(Fr.new (ρ:=ρ) (σ:=σ) h).dm b (R.dom b z),R.sep⟩;obtain⟨v,s,r⟩:=R.get i q e;refine⟨v,s,r.keeps k λow a ea=>?_⟩;obtain⟨a',u,e1,e2⟩:=r.ref ow;rw [ea] at e1;cases e1;rw [ak (aK e2 h)]
def Rel.growA{K:b_}{A:Addr->Prop}{ρ:PSt}{σ:St}{H:Hp}(R:Rel K A ρ σ H){p:Addr}{o:HO}(h:H p=none):Rel K (cJ A p) ρ σ (upd H p o):=by
 have k:aA (OO A ρ σ) H (OO (cJ A p) ρ σ) (upd H p o):=λb u n e=>by
  refine⟨λz=>?_,by rw [ak (aK e h)];exact e⟩
  rcases z with (z|z)|z
  .exact n (.inl z)
  .rw [z,h] at e;cases e
  .exact n (.inr z)
 refine⟨R.len,λi q e=>?_,R.dj,λb z=>?_,λb z w=>?_⟩
 .obtain⟨v,s,r⟩:=R.get i q e;refine⟨v,s,r.keeps k λow a ea=>?_⟩;obtain⟨a',u,e1,e2⟩:=r.ref ow;rw [ea] at e1;cases e1;rw [ak (aK e2 h)]
 .rcases z with z|z
  .exact (Fr.new (ρ:=ρ) (σ:=σ) h).dm b (R.dom b z)
  .rw [z,aw];exact nofun
 .rcases z with z|z
  .exact R.sep b z w
  .exact R.wr w (by rw [z];exact h)
def Rel.less{K:b_}{A A':Addr->Prop}{ρ:PSt}{σ:St}{H:Hp}(R:Rel K A ρ σ H)(h:∀b,A' b->A b):Rel K A' ρ σ H:=by
 refine⟨R.len,λi q e=>?_,R.dj,λb z=>R.dom b (h b z),λb z=>R.sep b (h b z)⟩;obtain⟨v,s,r⟩:=R.get i q e;exact⟨v,s,r.keeps (aA.less λb z=>z.imp (h b) id) λ_ _ _=>rfl⟩
def Rel.write{K:b_}{A:Addr->Prop}{ρ:PSt}{σ:St}{H:Hp}(R:Rel K A ρ σ H){i:Nat}{p q:PV}{a:Addr}{o:HO}(e:ρ[i]?=some (some p))(ow:p.isOwn=true)(ow':q.isOwn=true)(es:σ[i]?=some (some (.ref a)))
  (new:RS K (OO A ρ σ) (upd H a o) q (.ref a)):Rel K A (ρ.set i (some q)) σ (upd H a o)/\Fr ρ σ H (ρ.set i (some q)) (upd H a o):=by
 have hi:i<ρ.length:=(h_.mp e).1;have wa:Wr ρ σ a:=⟨i,p,e,ow,es⟩
 have weq:∀b,Wr (ρ.set i (some q)) σ b ↔ Wr ρ σ b:=λb=>by
  constructor
  .rintro⟨j,r,e1,o1,s1⟩
   by_cases z:i=j
   .subst z;exact⟨i,p,e,ow,s1⟩
   .rw [j_ z] at e1;exact⟨j,r,e1,o1,s1⟩
  .rintro⟨j,r,e1,o1,s1⟩
   by_cases z:i=j
   .subst z;exact⟨i,q,n_ hi,ow',s1⟩
   .exact⟨j,r,by rw [j_ z];exact e1,o1,s1⟩
 have oeq:OO A (ρ.set i (some q)) σ=OO A ρ σ:=funext λb=>propext (or_congr Iff.rfl (weq b));have kp:∀b u,¬ Wr ρ σ b->H b=some u->upd H a o b=some u:=λb u n h=>by rw [ak (λz=>n (by rw [z];exact wa))];exact h
 have k:aA (OO A ρ σ) H (OO A ρ σ) (upd H a o):=λb u n h=>⟨n,kp b u (λz=>n (.inr z)) h⟩
 have dm:∀b,H b≠none->upd H a o b≠none:=λb n=>by
  by_cases z:b=a
  .rw [z,aw];exact nofun
  .rw [ak z];exact n
 refine⟨⟨by rw [length_set];exact R.len,λj r e1=>?_,λj l p1 q1 v e1 e2 o1 o2 s1 s2=>?_,λb z=>dm b (R.dom b z),λb z w=>R.sep b z ((weq b).mp w)⟩,⟨kp,dm,λb w=>(weq b).mp w⟩⟩
 .rw [oeq]
  by_cases z:i=j
  .subst z;rw [n_ hi] at e1;cases e1;exact⟨_,es,new⟩
  .rw [j_ z] at e1;obtain⟨v,s,rr⟩:=R.get j r e1;refine⟨v,s,rr.keeps k λow2 b eb=>?_⟩;rw [ak];intro zz;subst zz;rw [eb] at s;exact z (R.dj i j p r _ e e1 ow ow2 es s)
 .have ex:∀(m:Nat) (x:PV),(ρ.set i (some q))[m]?=some (some x)->x.isOwn=true->∃y:PV,ρ[m]?=some (some y)/\y.isOwn=true:=λm x em ox=>by
   by_cases z:i=m
   .subst z;exact⟨p,e,ow⟩
   .rw [j_ z] at em;exact⟨x,em,ox⟩
  obtain⟨y1,h1,h2⟩:=ex j p1 e1 o1;obtain⟨y2,h3,h4⟩:=ex l q1 e2 o2;exact R.dj j l y1 y2 v h1 h3 h2 h4 s1 s2
def Rel.frz{K:b_}{A:Addr->Prop}{ρ:PSt}{σ:St}{H:Hp}(R:Rel K A ρ σ H){i:Nat}{p:PV}(e:ρ[i]?=some (some p)) :
  Rel K A (ρ.set i (some (.dat p.d))) σ H/\Fr ρ σ H (ρ.set i (some (.dat p.d))) H:=by
 have hi:i<ρ.length:=(h_.mp e).1
 have ex:∀(m:Nat) (x:PV),(ρ.set i (some (.dat p.d)))[m]?=some (some x)->x.isOwn=true->m≠i/\ρ[m]?=some (some x):=λm x em ox=>by
  by_cases z:i=m
  .subst z;rw [n_ hi] at em;cases em;cases ox
  .rw [j_ z] at em;exact⟨λq=>z q.symm,em⟩
 have ow:∀b,Wr (ρ.set i (some (.dat p.d))) σ b->Wr ρ σ b:=λb ⟨j,r,e1,o1,s1⟩=>⟨j,r,(ex j r e1 o1).2,o1,s1⟩
 have k:aA (OO A ρ σ) H (OO A (ρ.set i (some (.dat p.d))) σ) H:=aA.less λb z=>z.imp id (ow b);refine⟨⟨by rw [length_set];exact R.len,λj r e1=>?_,λj l p1 q1 v e1 e2 o1 o2 s1 s2=>R.dj j l p1 q1 v (ex j p1 e1 o1).2 (ex l q1 e2 o2).2 o1 o2 s1 s2,R.dom,λb z w=>R.sep b z (ow b w)⟩,⟨λ_ _ _ h=>h,λ_ h=>h,ow⟩⟩
 by_cases z:i=j
 .subst z;rw [n_ hi] at e1;cases e1;obtain⟨v,s,r⟩:=R.get i p e;refine⟨v,s,?_⟩
  have na:∀a,v=.ref a->p.isOwn=true->¬ OO A (ρ.set i (some (.dat p.d))) σ a:=λa ea oo z=>by
   subst ea
   rcases z with z|⟨j,r,e1,o1,s1⟩
   .exact R.sep a z ⟨i,p,e,oo,s⟩
   .obtain⟨n1,n2⟩:=ex j r e1 o1;exact n1 (R.dj j i r p _ n2 e o1 oo s1 s)
  cases p with
  | dat d=>exact FV.keeps k r
  | own ds =>
   obtain⟨a,xs,rfl,g,f⟩:=r;exact .lst (na a rfl rfl) g (f.keeps k)
  | ins c ns ds =>
   obtain⟨a,dx,fs,rfl,g,m,f⟩:=r;exact .obj (na a rfl rfl) g m (f.keeps k)
  | odc ks ds =>
   obtain⟨a,kvs,rfl,g,m,f⟩:=r;exact .dic (na a rfl rfl) g m (f.keeps k)
 .rw [j_ z] at e1;obtain⟨v,s,r⟩:=R.get j _ e1;exact⟨v,s,r.keeps k λ_ _ _=>rfl⟩
abbrev PKt:=PV->PSt->Prop
abbrev PTE:=PSt->PKt->Prop
abbrev PTT:=PSt->(Bool->PSt->Prop)->Prop
inductive AV where
 | v (d:D)|sl (i:Nat)
abbrev PA1:=PSt->(AV->PSt->Prop)->Prop
abbrev PTA:=PSt->(List AV->PSt->Prop)->Prop
noncomputable def Out(K:b_)(A:Addr->Prop)(ρ:PSt)(σ:St)(H0 H:Hp):PV->V->Prop
 | .dat d,v=>Rel K A ρ σ H/\FV K (OO A ρ σ) H v d
 | .own ds,v=>∃a xs,v=.ref a/\¬ A a/\H0 a=none/\H a=some (.lst xs)/\Rel K (cJ A a) ρ σ H/\FVs K (OO (cJ A a) ρ σ) H xs ds
 | .ins c ns ds,v=>∃a dx fs,v=.ref a/\¬ A a/\H0 a=none/\H a=some (.ins (aF K c) dx fs)/\fs.map v_=ns/\Rel K (cJ A a) ρ σ H/\FVs K (OO (cJ A a) ρ σ) H (fs.map Hv) ds
 | .odc ks ds,v=>∃a kvs,v=.ref a/\¬ A a/\H0 a=none/\H a=some (.dK kvs)/\kvs.map v_=ks/\Rel K (cJ A a) ρ σ H/\FVs K (OO (cJ A a) ρ σ) H (kvs.map Hv) ds
noncomputable def LE(K:b_)(te:TE)(pe:PTE):Prop:=∀(A:Addr->Prop) (ρ:PSt) (σ:St) (H:Hp) (Q:PKt) (Q':VK),Rel K A ρ σ H->pe ρ Q ->
 (∀v H' p ρ',Q p ρ'->Fr ρ σ H ρ' H'->Out K A ρ' σ H H' p v->Q' v H')->te σ H Q'
noncomputable def LT(K:b_)(tt:TT)(pt:PTT):Prop:=∀(A:Addr->Prop) (ρ:PSt) (σ:St) (H:Hp) (Q:Bool->PSt->Prop) (Q':Bool->Hp->Prop),Rel K A ρ σ H->pt ρ Q ->
 (∀b H' ρ',Q b ρ'->Fr ρ σ H ρ' H'->Rel K A ρ' σ H'->Q' b H')->tt σ H Q'
noncomputable def AOk(K:b_)(O:Addr->Prop)(σ:St)(H:Hp):AV->V->Prop
 | .v d,v=>FV K O H v d
 | .sl i,v=>σ[i]?=some (some v)
noncomputable def LA1(K:b_)(te:TE)(pa:PA1):Prop:=∀(A:Addr->Prop) (ρ:PSt) (σ:St) (H:Hp) (Q:AV->PSt->Prop) (Q':VK),Rel K A ρ σ H->pa ρ Q ->
 (∀v H' av ρ',Q av ρ'->Fr ρ σ H ρ' H'->Rel K A ρ' σ H'->AOk K (OO A ρ' σ) σ H' av v->Q' v H')->te σ H Q'
inductive zP (K:b_) (O:Addr->Prop) (σ:St) (H:Hp):List AV->List V->Prop
 | nil:zP K O σ H [] []
 | cons {a:AV}{v:V}{as:List AV}{vs:List V}:AOk K O σ H a v->zP K O σ H as vs->zP K O σ H (a::as) (v::vs)
noncomputable def LAs(K:b_)(ta:TA)(pa:PTA):Prop:=∀(A:Addr->Prop) (ρ:PSt) (σ:St) (H:Hp) (Q:List AV->PSt->Prop) (Q':List V->Hp->Prop),Rel K A ρ σ H->pa ρ Q ->
 (∀vs H' as ρ',Q as ρ'->Fr ρ σ H ρ' H'->Rel K A ρ' σ H'->zP K (OO A ρ' σ) σ H' as vs->Q' vs H')->ta σ H Q'
section
variable {K:b_}{A O O':Addr->Prop}{ρ ρ':PSt}{σ:St}{H H' H0:Hp}
def AOk.keeps{a:AV}{v:V}(k:aA O H O' H')(h:AOk K O σ H a v):AOk K O' σ H' a v:=by
 cases a with
 | v d=>exact FV.keeps k h
 | sl i=>exact h
def Out.frz{p:PV}{v:V}(h:Out K A ρ σ H0 H p v):Rel K A ρ σ H/\FV K (OO A ρ σ) H v p.d:=by
 cases p with
 | dat d=>exact h
 | own ds =>
  obtain⟨a,xs,rfl,na,_,e,R,f⟩:=h;refine⟨R.less λb z=>.inl z,.lst (λz=>?_) e (f.keeps (aA.less λb z=>z.imp .inl id))⟩;exact z.elim na (λz=>R.sep a (.inr rfl) z)
 | ins c ns ds =>
  obtain⟨a,dx,fs,rfl,na,_,e,m,R,f⟩:=h;refine⟨R.less λb z=>.inl z,.obj (λz=>?_) e m (f.keeps (aA.less λb z=>z.imp .inl id))⟩;exact z.elim na (λz=>R.sep a (.inr rfl) z)
 | odc ks ds =>
  obtain⟨a,kvs,rfl,na,_,e,m,R,f⟩:=h;refine⟨R.less λb z=>.inl z,.dic (λz=>?_) e m (f.keeps (aA.less λb z=>z.imp .inl id))⟩;exact z.elim na (λz=>R.sep a (.inr rfl) z)
def Out.h0{p:PV}{v:V}{H1:Hp}(h:Out K A ρ σ H0 H p v)(dm:∀b,H1 b≠none->H0 b≠none):Out K A ρ σ H1 H p v:=by
 have k:∀a,H0 a=none->H1 a=none:=λa e=>by
  cases z:H1 a with
  | none=>rfl
  | some o=>exact absurd e (dm a (by rw [z];exact nofun))
 cases p with
 | dat d=>exact h
 | own ds=>obtain⟨a,xs,e1,na,e2,r⟩:=h;exact⟨a,xs,e1,na,k a e2,r⟩
 | ins c ns ds=>obtain⟨a,dx,fs,e1,na,e2,r⟩:=h;exact⟨a,dx,fs,e1,na,k a e2,r⟩
 | odc ks ds=>obtain⟨a,kvs,e1,na,e2,r⟩:=h;exact⟨a,kvs,e1,na,k a e2,r⟩
noncomputable def Gr(H H':Hp):Prop:=∀b o,H b=some o->H' b=some o
def Gr.fr(g:Gr H H'):Fr ρ σ H ρ H':=⟨λb o _ h=>g b o h,λb h=>by
 cases e:H b with
 | none=>exact absurd e h
 | some o=>rw [g b o e];exact nofun,λ_ h=>h⟩
def Gr.new{p:Addr}{o:HO}(h:H p=none):Gr H (upd H p o):=λb u e=>by rw [ak (aK e h)];exact e
def Gr.refl(H:Hp):Gr H H:=λ_ _ h=>h
def Rel.gr(R:Rel K A ρ σ H)(g:Gr H H'):Rel K A ρ σ H':=by
 refine⟨R.len,λi q e=>?_,R.dj,λb z=>(g.fr (ρ:=ρ) (σ:=σ)).dm b (R.dom b z),R.sep⟩;obtain⟨v,s,r⟩:=R.get i q e;refine⟨v,s,r.keeps (g.fr (ρ:=ρ) (σ:=σ)).keeps λow a ea=>?_⟩;obtain⟨a',u,e1,e2⟩:=r.ref ow;rw [ea] at e1;cases e1;rw [e2];exact g _ _ e2
def Rel.grA(R:Rel K A ρ σ H)(g:Gr H H'){p:Addr}(h:H p=none)(h':H' p≠none):Rel K (cJ A p) ρ σ H':=by
 have k:aA (OO A ρ σ) H (OO (cJ A p) ρ σ) H':=λb u n e=>by
  refine⟨λz=>?_,g _ _ e⟩
  rcases z with (z|z)|z
  .exact n (.inl z)
  .rw [z,h] at e;cases e
  .exact n (.inr z)
 refine⟨R.len,λi q e=>?_,R.dj,λb z=>?_,λb z w=>?_⟩
 .obtain⟨v,s,r⟩:=R.get i q e;refine⟨v,s,r.keeps k λow a ea=>?_⟩;obtain⟨a',u,e1,e2⟩:=r.ref ow;rw [ea] at e1;cases e1;rw [e2];exact g _ _ e2
 .rcases z with z|z
  .exact (g.fr (ρ:=ρ) (σ:=σ)).dm b (R.dom b z)
  .rw [z];exact h'
 .rcases z with z|z
  .exact R.sep b z w
  .exact R.wr w (by rw [z];exact h)
noncomputable def pK(K:b_)(O:Addr->Prop)(H0 H:Hp):PV->V->Prop
 | .dat d,v=>FV K O H v d
 | .own ds,v=>∃a xs,v=.ref a/\H0 a=none/\H a=some (.lst xs)/\FVs K (cJ O a) H xs ds
 | .ins c ns ds,v=>∃a dx fs,v=.ref a/\H0 a=none/\H a=some (.ins (aF K c) dx fs)/\fs.map v_=ns/\FVs K (cJ O a) H (fs.map Hv) ds
 | .odc ks ds,v=>∃a kvs,v=.ref a/\H0 a=none/\H a=some (.dK kvs)/\kvs.map v_=ks/\FVs K (cJ O a) H (kvs.map Hv) ds
def pK.out{p:PV}{v:V}(R:Rel K A ρ σ H)(g:Gr H H')(h:pK K (OO A ρ σ) H H' p v):Out K A ρ σ H H' p v:=by
 cases p with
 | dat d=>exact⟨R.gr g,h⟩
 | own ds =>
  obtain⟨a,xs,rfl,e0,e,f⟩:=h;refine⟨a,xs,rfl,λz=>R.dom a z e0,e0,e,R.grA g e0 (by rw [e];exact nofun),f.keeps (aA.less λb z=>?_)⟩
  rcases z with (z|z)|z
  .exact .inl (.inl z)
  .exact .inr z
  .exact .inl (.inr z)
 | ins c ns ds =>
  obtain⟨a,dx,fs,rfl,e0,e,m,f⟩:=h;refine⟨a,dx,fs,rfl,λz=>R.dom a z e0,e0,e,m,R.grA g e0 (by rw [e];exact nofun),f.keeps (aA.less λb z=>?_)⟩
  rcases z with (z|z)|z
  .exact .inl (.inl z)
  .exact .inr z
  .exact .inl (.inr z)
 | odc ks ds =>
  obtain⟨a,kvs,rfl,e0,e,m,f⟩:=h;refine⟨a,kvs,rfl,λz=>R.dom a z e0,e0,e,m,R.grA g e0 (by rw [e];exact nofun),f.keeps (aA.less λb z=>?_)⟩
  rcases z with (z|z)|z
  .exact .inl (.inl z)
  .exact .inr z
  .exact .inl (.inr z)
noncomputable def FVc(K:b_)(O:Addr->Prop)(H:Hp)(v:V)(d:D):Prop:=FV K O H v d\/(∃a xs ds,v=.ref a/\d=.lst ds/\H a=some (.lst xs)/\FVs K O H xs ds) \/
 (∃a dx c fs ns ds,v=.ref a/\d=.obj c ns ds/\H a=some (.ins (aF K c) dx fs)/\fs.map v_=ns/\FVs K O H (fs.map Hv) ds) \/
 ∃a kvs ks ds,v=.ref a/\d=.dic ks ds/\H a=some (.dK kvs)/\kvs.map v_=ks/\FVs K O H (kvs.map Hv) ds
noncomputable def cont(ρ:PSt):AV->Option D
 | .v d=>some d
 | .sl i=>match ρ[i]? with|some (some p)=>some p.d|_=>none
def Rel.cont{av:AV}{v:V}{d:D}(R:Rel K A ρ σ H)(h:AOk K (OO A ρ σ) σ H av v)(e:L2.cont ρ av=some d):FVc K (OO A ρ σ) H v d:=by
 cases av with
 | v d'=>cases e;exact .inl h
 | sl i =>
  have h:σ[i]?=some (some v):=h;simp only [L2.cont] at e
  split at e
  .rename_i p ep;cases e;obtain⟨v',s,r⟩:=R.get i p ep;rw [h] at s;cases s
   cases p with
   | dat d=>exact .inl r
   | own ds=>obtain⟨a,xs,e1,e2,f⟩:=r;exact .inr (.inl ⟨a,xs,ds,e1,rfl,e2,f⟩)
   | ins c ns ds=>obtain⟨a,dx,fs,e1,e2,m,f⟩:=r;exact .inr (.inr (.inl ⟨a,dx,c,fs,ns,ds,e1,rfl,e2,m,f⟩))
   | odc ks ds=>obtain⟨a,kvs,e1,e2,m,f⟩:=r;exact .inr (.inr (.inr ⟨a,kvs,ks,ds,e1,rfl,e2,m,f⟩))
  .cases e
def FVc.lst{v:V}{ds:List D}(h:FVc K O H v (.lst ds)):∃a xs,v=.ref a/\H a=some (.lst xs)/\FVs K O H xs ds:=by
 rcases h with h|⟨a,xs,ds',e1,e2,e3,f⟩|⟨a,dx,c,fs,ns,ds',e1,e2,_⟩|⟨a,kvs,ks,ds',e1,e2,_⟩
 .cases h with
  | lst n s f=>exact⟨_,_,rfl,s,f⟩
 .cases e2;exact⟨a,xs,e1,e3,f⟩
 .cases e2
 .cases e2
def FVc.fv{v:V}{d:D}(h:FVc K O H v d)(n:∀ds,d≠.lst ds)(n':∀c ns ds,d≠.obj c ns ds)(n'':∀ks ds,d≠.dic ks ds:=by nofun):FV K O H v d:=by
 rcases h with h|⟨a,xs,ds',e1,e2,e3,f⟩|⟨a,dx,c,fs,ns,ds',e1,e2,_⟩|⟨a,kvs,ks,ds',e1,e2,_⟩
 .exact h
 .exact absurd e2 (n _)
 .exact absurd e2 (n' _ _ _)
 .exact absurd e2 (n'' _ _)
def FVc.dic{v:V}{ks:List Key}{ds:List D}(h:FVc K O H v (.dic ks ds)):∃a kvs,v=.ref a/\H a=some (.dK kvs)/\kvs.map v_=ks/\FVs K O H (kvs.map Hv) ds:=by
 rcases h with h|⟨_,_,_,_,e2,_⟩|⟨_,_,_,_,_,_,_,e2,_⟩|⟨a,kvs,_,_,e1,e2,e3,m,f⟩
 .cases h with
  | dic n e m f=>exact⟨_,_,rfl,e,m,f⟩
 .cases e2
 .cases e2
 .cases e2;exact⟨a,kvs,e1,e3,m,f⟩
def FVc.tup{v:V}{ds:List D}(h:FVc K O H v (.tup ds)):∃a xs,v=.ref a/\¬ O a/\H a=some (.tup xs)/\FVs K O H xs ds:=by
 cases h.fv nofun nofun with
 | tup n s f=>exact⟨_,_,rfl,n,s,f⟩
def FVc.scr{v:V}{ns:List Int}(h:FVc K O H v (.scr ns)):∃a,v=.ref a/\SqL K H a (ns.map V.int):=by
 cases h.fv nofun nofun with
 | scr s=>exact⟨_,rfl,s.sq⟩
def FVc.int{v:V}{i:Int}(h:FVc K O H v (.int i)):v=.int i:=by cases h.fv nofun nofun;rfl
def FVc.bl{v:V}{i:Bool}(h:FVc K O H v (.bl i)):v=.bl i:=by cases h.fv nofun nofun;rfl
def FVc.str{v:V}{i:List Nat}(h:FVc K O H v (.str i)):v=.str (S i)/\i.length<=1000000:=by
 cases h.fv nofun nofun with
 | str _ z=>exact⟨rfl,z⟩
def FVc.non{v:V}(h:FVc K O H v .non):v=.non:=by cases h.fv nofun nofun;rfl
end
def pC(d:D):PTE:=λρ Q=>Q (.dat d) ρ
noncomputable def EN(i:Nat):PTE:=λρ Q=>match ρ[i]? with
 | some (some (.dat d))=>Q (.dat d) ρ
 | some (some (.own ds))=>Q (.dat (.lst ds)) (ρ.set i (some (.dat (.lst ds))))
 | some (some (.ins c ns ds))=>Q (.dat (.obj c ns ds)) (ρ.set i (some (.dat (.obj c ns ds))))
 | _=>False
noncomputable def pSl(i:Nat):PA1:=λρ Q=>match ρ[i]? with
 | some (some (.dat d))=>Q (.v d) ρ
 | some (some (.own _))=>Q (.sl i) ρ
 | some (some (.ins _ _ _))=>Q (.sl i) ρ
 | _=>False
noncomputable def pFz(pe:PTE):PA1:=λρ Q=>pe ρ λp ρ1=>Q (.v p.d) ρ1
def EO:PTA:=λρ Q=>Q [] ρ
noncomputable def Cj(pa:PA1)(pr:PTA):PTA:=λρ Q=>pa ρ λa ρ1=>pr ρ1 λas ρ2=>Q (a::as) ρ2
section
variable {K:b_}{ta tb tc:TE}{pa pb pc:PA1}{pe pe':PTE}{tr:TA}{pr:PTA}
def D2{v:V}{d:D}(h:∀O H,FV K O H v d):LE K (tC v) (pC d):=λA ρ σ H Q Q' R q k=>k v H (.dat d) ρ q (Fr.refl _ _ _) ⟨R,h _ _⟩
def le_int{i:Int}:LE K (tC (.int i)) (pC (.int i)):=D2 λ_ _=>.int i
def eY{i:Bool}:LE K (tC (.bl i)) (pC (.bl i)):=D2 λ_ _=>.bl i
def uE:LE K (tC .non) (pC .non):=D2 λ_ _=>.non
def le_str{l:List Nat}(h:l.length<=1000000:=by decide):LE K (tC (.str (S l))) (pC (.str l)):=D2 λ_ _=>.str l h
def ar{i:Nat}:LE K (bC i) (EN i):=by
 intro A ρ σ H Q Q' R q k;unfold EN at q
 split at q
 .rename_i d e;obtain⟨v,s,r⟩:=R.get i _ e;exact⟨v,s,k v H (.dat d) ρ q (Fr.refl _ _ _) ⟨R,r⟩⟩
 .rename_i ds e;obtain⟨R',f⟩:=R.frz e;obtain⟨v,s,r⟩:=R'.get i _ (n_ (h_.mp e).1);exact⟨v,s,k v H (.dat (.lst ds)) _ q f ⟨R',r⟩⟩
 .rename_i c ns ds e;obtain⟨R',f⟩:=R.frz e;obtain⟨v,s,r⟩:=R'.get i _ (n_ (h_.mp e).1);exact⟨v,s,k v H (.dat (.obj c ns ds)) _ q f ⟨R',r⟩⟩
 .exact q.elim
def am{i:Nat}:LA1 K (bC i) (pSl i):=by
 intro A ρ σ H Q Q' R q k;unfold pSl at q
 split at q
 .rename_i d e;obtain⟨v,s,r⟩:=R.get i _ e;exact⟨v,s,k v H _ ρ q (Fr.refl _ _ _) R r⟩
 .rename_i e;obtain⟨v,s,r⟩:=R.get i _ e;exact⟨v,s,k v H _ ρ q (Fr.refl _ _ _) R s⟩
 .rename_i e;obtain⟨v,s,r⟩:=R.get i _ e;exact⟨v,s,k v H _ ρ q (Fr.refl _ _ _) R s⟩
 .exact q.elim
def ac(h:LE K ta pe):LA1 K ta (pFz pe):=λA ρ σ H Q Q' R q k=>h A ρ σ H _ Q' R q λv H' p ρ' q f o=>k v H' _ ρ' q f o.frz.1 o.frz.2
def ae:LAs K eW EO:=λA ρ σ H Q Q' R q k=>k [] H [] ρ q (Fr.refl _ _ _) R .nil
def aa(h:LA1 K ta pa)(hr:LAs K tr pr):LAs K (bi ta tr) (Cj pa pr):=λA ρ σ H Q Q' R q k =>
 h A ρ σ H _ _ R q λv H1 a ρ1 q1 f1 R1 o1=>hr A ρ1 σ H1 _ _ R1 q1 λvs H2 as ρ2 q2 f2 R2 o2=>k _ H2 _ ρ2 q2 (f1.trans f2) R2 (.cons (o1.keeps f2.keeps) o2)
noncomputable def LO(K:b_)(r:R2)(f:D->D->(PV->Prop)->Prop):Prop:=∀(O:Addr->Prop) (H:Hp) (x y:V) (a b:D) (Q:PV->Prop) (Q':VK),(∀b,O b->H b≠none)->FVc K O H x a->FVc K O H y b->f a b Q ->
 (∀v H' p,Q p->Gr H H'->pK K O H H' p v->Q' v H')->r x y H Q'
noncomputable def op2(f:D->D->(PV->Prop)->Prop)(ρ:PSt)(x y:AV)(Q:PKt):Prop:=match cont ρ x,cont ρ y with
 | some a,some b=>f a b λp=>Q p ρ
 | _,_=>False
noncomputable def pOp(f:D->D->(PV->Prop)->Prop)(pa pb:PA1):PTE:=λρ Q=>pa ρ λx ρ1=>pb ρ1 λy ρ2=>op2 f ρ2 x y Q
def Rel.dom2{A:Addr->Prop}{ρ:PSt}{σ:St}{H:Hp}(R:Rel K A ρ σ H):∀b,OO A ρ σ b->H b≠none:=λb z=>z.elim (R.dom b) R.wr
def ap{r:R2}{f:D->D->(PV->Prop)->Prop}(o:LO K r f)(ha:LA1 K ta pa)(hb:LA1 K tb pb):LE K (tOp r ta tb) (pOp f pa pb):=λA ρ σ H Q Q' R q k =>
 ha A ρ σ H _ _ R q λv H1 a ρ1 q1 f1 R1 o1=>hb A ρ1 σ H1 _ _ R1 q1 λw H2 b ρ2 q2 f2 R2 o2=>by
  unfold op2 at q2
  split at q2
  .rename_i da db e1 e2;exact o _ H2 v w da db _ _ R2.dom2 (R2.cont (o1.keeps f2.keeps) e1) (R2.cont o2 e2) q2 λz H3 p q3 g ov=>k z H3 p ρ2 q3 ((f1.trans f2).trans g.fr) ((ov.out R2 g).h0 λb z=>f2.dm b (f1.dm b z))
  .exact q2.elim
noncomputable def LU(K:b_)(r:V->Hp->VK->Prop)(f:D->(PV->Prop)->Prop):Prop:=∀(O:Addr->Prop) (H:Hp) (x:V) (a:D) (Q:PV->Prop) (Q':VK),(∀b,O b->H b≠none)->FVc K O H x a->f a Q ->
 (∀v H' p,Q p->Gr H H'->pK K O H H' p v->Q' v H')->r x H Q'
noncomputable def op1(f:D->(PV->Prop)->Prop)(ρ:PSt)(x:AV)(Q:PKt):Prop:=match cont ρ x with
 | some a=>f a λp=>Q p ρ
 | _=>False
noncomputable def pUn(f:D->(PV->Prop)->Prop)(pa:PA1):PTE:=λρ Q=>pa ρ λx ρ1=>op1 f ρ1 x Q
def xi{r:V->Hp->VK->Prop}{f:D->(PV->Prop)->Prop}(o:LU K r f)(ha:LA1 K ta pa):LE K (tUn r ta) (pUn f pa):=λA ρ σ H Q Q' R q k =>
 ha A ρ σ H _ _ R q λv H1 a ρ1 q1 f1 R1 o1=>by
  unfold op1 at q1
  split at q1
  .rename_i da e1;exact o _ H1 v da _ _ R1.dom2 (R1.cont o1 e1) q1 λz H3 p q3 g ov=>k z H3 p ρ1 q3 (f1.trans g.fr) ((ov.out R1 g).h0 λb z=>f1.dm b z)
  .exact q1.elim
inductive Ck (K:b_) (O:Addr->Prop) (H:Hp):List V->List D->Prop
 | nil:Ck K O H [] []
 | cons {x:V}{d:D}{xs:List V}{ds:List D}:FVc K O H x d->Ck K O H xs ds->Ck K O H (x::xs) (d::ds)
noncomputable def conts(ρ:PSt):List AV->Option (List D)
 | []=>some []
 | a::r=>match cont ρ a,conts ρ r with
  | some d,some ds=>some (d::ds)
  | _,_=>none
theorem Rel.conts{A:Addr->Prop}{ρ:PSt}{σ:St}{H:Hp}(R:Rel K A ρ σ H):∀{as:List AV}{vs:List V}{ds:List D},zP K (OO A ρ σ) σ H as vs->L2.conts ρ as=some ds->Ck K (OO A ρ σ) H vs ds
 | _,_,_,.nil,e=>by cases e;exact .nil
 | _,_,_,.cons a b,e=>by
  unfold L2.conts at e
  split at e
  .rename_i e1 e2;cases e;exact .cons (R.cont a e1) (R.conts b e2)
  .cases e
noncomputable def LC(K:b_)(r:List V->Hp->VK->Prop)(f:List D->(PV->Prop)->Prop):Prop:=∀(O:Addr->Prop) (H:Hp) (xs:List V) (as:List D) (Q:PV->Prop) (Q':VK),(∀b,O b->H b≠none)->Ck K O H xs as->f as Q ->
 (∀v H' p,Q p->Gr H H'->pK K O H H' p v->Q' v H')->r xs H Q'
noncomputable def opN(f:List D->(PV->Prop)->Prop)(ρ:PSt)(as:List AV)(Q:PKt):Prop:=match conts ρ as with
 | some ds=>f ds λp=>Q p ρ
 | _=>False
noncomputable def pCB(f:List D->(PV->Prop)->Prop)(pr:PTA):PTE:=λρ Q=>pr ρ λas ρ1=>opN f ρ1 as Q
def bz{r:List V->Hp->VK->Prop}{f:List D->(PV->Prop)->Prop}(o:LC K r f)(ha:LAs K tr pr):LE K (tCB r tr) (pCB f pr):=λA ρ σ H Q Q' R q k =>
 ha A ρ σ H _ _ R q λvs H1 as ρ1 q1 f1 R1 o1=>by
  unfold opN at q1
  split at q1
  .rename_i ds e1;exact o _ H1 vs ds _ _ R1.dom2 (R1.conts o1 e1) q1 λz H3 p q3 g ov=>k z H3 p ρ1 q3 (f1.trans g.fr) ((ov.out R1 g).h0 λb z=>f1.dm b z)
  .exact q1.elim
noncomputable def avD:List AV->Option (List D)
 | []=>some []
 | .v d::r=>match avD r with|some ds=>some (d::ds)|none=>none
 | .sl _::_=>none
theorem zP.avD{O:Addr->Prop}{σ:St}{H:Hp}:∀{as:List AV}{vs:List V}{ds:List D},zP K O σ H as vs->L2.avD as=some ds->FVs K O H vs ds
 | _,_,_,.nil,e=>by cases e;exact .nil
 | .v d::r,_,_,.cons a b,e=>by
  simp only [L2.avD] at e
  split at e
  .rename_i e1;cases e;exact .cons a (b.avD e1)
  .cases e
 | .sl i::r,_,_,.cons a b,e=>by cases e
noncomputable def GR(pr:PTA):PTE:=λρ Q=>pr ρ λas ρ1=>match avD as with
 | some ds=>ds.length<=1000000/\Q (.own ds) ρ1
 | _=>False
noncomputable def GS(pr:PTA):PTE:=λρ Q=>pr ρ λas ρ1=>match avD as with
 | some ds=>ds.length<=1000000/\Q (.dat (.tup ds)) ρ1
 | _=>False
def bu(ha:LAs K tr pr):LE K (FW tr) (GR pr):=λA ρ σ H Q Q' R q k =>
 ha A ρ σ H _ _ R q λvs H1 as ρ1 q1 f1 R1 o1=>by
  split at q1
  .rename_i ds e1;have fs:=o1.avD e1;refine⟨sz _ (by rw [fs.length];exact q1.1),λp hp=>k _ _ (.own ds) ρ1 q1.2 (f1.trans (Fr.new hp)) ?_⟩;have g:Gr H1 (upd H1 p (.lst vs)):=Gr.new hp;exact (pK.out (p:=.own ds) R1 g ⟨p,vs,rfl,hp,aw,fs.keeps (aA.fresh hp)⟩).h0 λb z=>f1.dm b z
  .exact q1.elim
def rh(ha:LAs K tr pr):LE K (D0 tr) (GS pr):=λA ρ σ H Q Q' R q k =>
 ha A ρ σ H _ _ R q λvs H1 as ρ1 q1 f1 R1 o1=>by
  split at q1
  .rename_i ds e1;have fs:=o1.avD e1;refine⟨sz _ (by rw [fs.length];exact q1.1),λp hp=>k _ _ (.dat (.tup ds)) ρ1 q1.2 (f1.trans (Fr.new hp)) ⟨R1.grow hp,?_⟩⟩;exact .tup (R1.oo hp) aw (fs.keeps (Fr.new hp).keeps)
  .exact q1.elim
noncomputable def pB(pe:PTE):PTT:=λρ Q=>pe ρ λp ρ1=>match p with
 | .dat (.bl b)=>Q b ρ1
 | _=>False
def gy(h:LE K ta pe):LT K (tB ta) (pB pe):=λA ρ σ H Q Q' R q k=>h A ρ σ H _ _ R q λv H1 p ρ1 q1 f1 o1=>by
 split at q1
 .rename_i b;obtain⟨R1,f⟩:=o1;cases f;exact⟨b,rfl,k b H1 ρ1 q1 f1 R1⟩
 .exact q1.elim
def iX(h:LE K ta pe):LT K (BO ta) (pB pe):=gy h
noncomputable def GT(a b:PTT):PTT:=λρ Q=>a ρ λc ρ1=>gE c (b ρ1 Q) (Q false ρ1)
noncomputable def pOr(a b:PTT):PTT:=λρ Q=>a ρ λc ρ1=>gE c (Q true ρ1) (b ρ1 Q)
noncomputable def Gb(a:PTT):PTT:=λρ Q=>a ρ λc ρ1=>Q (!c) ρ1
variable {tta ttb:TT}{pta ptb:PTT}
def Cm(ha:LT K tta pta)(hb:LT K ttb ptb):LT K (FQ tta ttb) (GT pta ptb):=λA ρ σ H Q Q' R q k=>ha A ρ σ H _ _ R q λc H1 ρ1 q1 f1 R1=>by
 cases c with
 | true=>exact hb A ρ1 σ H1 _ _ R1 q1 λb H2 ρ2 q2 f2 R2=>k b H2 ρ2 q2 (f1.trans f2) R2
 | false=>exact k false H1 ρ1 q1 f1 R1
def gz(ha:LT K tta pta)(hb:LT K ttb ptb):LT K (tOr tta ttb) (pOr pta ptb):=λA ρ σ H Q Q' R q k=>ha A ρ σ H _ _ R q λc H1 ρ1 q1 f1 R1=>by
 cases c with
 | false=>exact hb A ρ1 σ H1 _ _ R1 q1 λb H2 ρ2 q2 f2 R2=>k b H2 ρ2 q2 (f1.trans f2) R2
 | true=>exact k true H1 ρ1 q1 f1 R1
def dA(ha:LT K tta pta):LT K (Ed tta) (Gb pta):=λA ρ σ H Q Q' R q k=>ha A ρ σ H _ _ R q λc H1 ρ1 q1 f1 R1=>k _ H1 ρ1 q1 f1 R1
noncomputable def EQ(a b:PTE):PTE:=λρ Q=>a ρ λp ρ1=>match p with
 | .dat (.bl c)=>gE c (b ρ1 Q) (Q (.dat (.bl false)) ρ1)
 | _=>False
noncomputable def ER(a:PTE):PTE:=λρ Q=>a ρ λp ρ1=>match p with
 | .dat (.bl c)=>Q (.dat (.bl (!c))) ρ1
 | _=>False
def iy(ha:LE K ta pe)(hb:LE K tb pe'):LE K (zk ta tb) (EQ pe pe'):=λA ρ σ H Q Q' R q k=>ha A ρ σ H _ _ R q λv H1 p ρ1 q1 f1 o1=>by
 split at q1
 .rename_i c;obtain⟨R1,f⟩:=o1;cases f;refine⟨c,rfl,?_⟩
  cases c with
  | true=>exact hb A ρ1 σ H1 _ _ R1 q1 λb H2 p2 ρ2 q2 f2 o2=>k b H2 p2 ρ2 q2 (f1.trans f2) (o2.h0 λb z=>f1.dm b z)
  | false=>exact k _ H1 _ ρ1 q1 f1 ⟨R1,.bl false⟩
 .exact q1.elim
def yu(ha:LE K ta pe):LE K (BE ta) (ER pe):=λA ρ σ H Q Q' R q k=>ha A ρ σ H _ _ R q λv H1 p ρ1 q1 f1 o1=>by
 split at q1
 .rename_i c;obtain⟨R1,f⟩:=o1;cases f;exact⟨c,rfl,k _ H1 _ ρ1 q1 f1 ⟨R1,.bl (!c)⟩⟩
 .exact q1.elim
noncomputable def pIf(t:PTT)(a b:PTE):PTE:=λρ Q=>t ρ λc ρ1=>gE c (a ρ1 Q) (b ρ1 Q)
def ES(ht:LT K tta pta)(ha:LE K ta pe)(hb:LE K tb pe'):LE K (tIf tta ta tb) (pIf pta pe pe'):=λA ρ σ H Q Q' R q k=>ht A ρ σ H _ _ R q λc H1 ρ1 q1 f1 R1=>by
 cases c with
 | true=>exact ha A ρ1 σ H1 _ _ R1 q1 λb H2 p2 ρ2 q2 f2 o2=>k b H2 p2 ρ2 q2 (f1.trans f2) (o2.h0 λb z=>f1.dm b z)
 | false=>exact hb A ρ1 σ H1 _ _ R1 q1 λb H2 p2 ρ2 q2 f2 o2=>k b H2 p2 ρ2 q2 (f1.trans f2) (o2.h0 λb z=>f1.dm b z)
end
abbrev F2:=D->D->(PV->Prop)->Prop
noncomputable def fI0(g:Int->Int->D):F2
 | .int i,.int j,Q=>Q (.dat (g i j))
 | _,_,_=>False
noncomputable def fI(C:Int->Int->Prop)(g:Int->Int->D):F2
 | .int i,.int j,Q=>C i j/\Q (.dat (g i j))
 | _,_,_=>False
section
variable {K:b_}{X:Cx}
def zQ{g:Int->Int->V}{g':Int->Int->D}(h:∀i j O H,FV K O H (g i j) (g' i j)):LO K (rI0 g) (fI0 g'):=by
 intro O H x y a b Q Q' dom fx fy q k;unfold fI0 at q
 split at q
 .rename_i i j;exact⟨i,j,fx.int,fy.int,k _ H _ q (Gr.refl _) (h i j _ _)⟩
 .exact q.elim
def D3{C:Int->Int->Prop}{g:Int->Int->V}{g':Int->Int->D}(h:∀i j O H,FV K O H (g i j) (g' i j)):LO K (rI C g) (fI C g'):=by
 intro O H x y a b Q Q' dom fx fy q k;unfold fI at q
 split at q
 .rename_i i j;exact⟨i,j,fx.int,fy.int,q.1,k _ H _ q.2 (Gr.refl _) (h i j _ _)⟩
 .exact q.elim
def eE{O:Addr->Prop}{H:Hp}{xs:List V}{ds:List D}{p:Addr}(hp:H p=none)(f:FVs K O H xs ds):pK K O H (upd H p (.lst xs)) (.own ds) (.ref p) :=
 ⟨p,xs,rfl,hp,aw,f.keeps (aA.fresh hp)⟩
def mJ{O:Addr->Prop}{H:Hp}{xs:List V}{ds:List D}{p:Addr}(dom:∀b,O b->H b≠none)(hp:H p=none)(f:FVs K O H xs ds):pK K O H (upd H p (.tup xs)) (.dat (.tup ds)) (.ref p) :=
 .tup (λz=>dom p z hp) aw (f.keeps λb o n e=>⟨n,by rw [ak (aK e hp)];exact e⟩)
noncomputable def ET:R2:=λx y H Q=>∃i j,x=.str (S i)/\y=.str (S j)/\i.length+j.length<=sizeLine/\Q (.str (S (i++j))) H
noncomputable def zR(K:b_):R2:=λx y H Q=>rI0 (λi j=>.int (i+j)) x y H Q\/ET x y H Q\/Cd K x y H Q\/BR K x y H Q
def EU(K:b_)(e:X.K=K):OpR X (binaryOp .Add) (zR K):=by
 subst e;exact OpR.or BJ (OpR.or zD (OpR.or zI zv))
noncomputable def EV:F2
 | .int i,.int j,Q=>Q (.dat (.int (i+j)))
 | .str a,.str b,Q=>a.length+b.length<=1000000/\Q (.dat (.str (a++b)))
 | .lst a,.lst b,Q=>a.length+b.length<=1000000/\Q (.own (a++b))
 | .scr a,.lst b,Q=>a.length+b.length<=1000000/\Q (.own (a.map .int++b))
 | .tup a,.tup b,Q=>a≠[]/\a.length+b.length<=1000000/\Q (.dat (.tup (a++b)))
 | _,_,_=>False
def yv:LO K (zR K) EV:=by
 intro O H x y a b Q Q' dom fx fy q k;unfold EV at q
 split at q
 .rename_i i j;exact .inl ⟨i,j,fx.int,fy.int,k _ H _ q (Gr.refl _) (.int _)⟩
 .rename_i i j;exact .inr (.inl ⟨i,j,fx.str.1,fy.str.1,sz _ q.1,k _ H _ q.2 (Gr.refl _) (.str _ (by rw [length_append];exact q.1))⟩)
 .rename_i i j;obtain⟨a,xs,rfl,e1,f1⟩:=fx.lst;obtain⟨b,ys,rfl,e2,f2⟩:=fy.lst;exact .inr (.inr (.inl ⟨a,b,xs,ys,rfl,rfl,SqL.of e1,SqL.of e2,sz _ (by rw [f1.length,f2.length];exact q.1),λp hp=>k _ _ _ q.2 (Gr.new hp) (eE hp (f1.append f2))⟩))
 .rename_i i j;obtain⟨a,rfl,e1⟩:=fx.scr;obtain⟨b,ys,rfl,e2,f2⟩:=fy.lst;exact .inr (.inr (.inl ⟨a,b,_,ys,rfl,rfl,e1,SqL.of e2,sz _ (by rw [length_map,f2.length];exact q.1),λp hp=>k _ _ _ q.2 (Gr.new hp) (eE hp ((FVs.of_ints i).append f2))⟩))
 .rename_i i j;obtain⟨a,xs,rfl,n1,e1,f1⟩:=fx.tup;obtain⟨b,ys,rfl,n2,e2,f2⟩:=fy.tup;have l1:=f1.length;have l2:=f2.length
  refine .inr (.inr (.inr ⟨a,b,xs,ys,rfl,rfl,SqT.of e1,SqT.of e2,λz=>q.1 ?_,sz _ (by rw [l1,l2];exact q.2.1),λz=>?_,λ_ p hp=>k _ _ _ q.2.2 (Gr.new hp) (mJ dom hp (f1.append f2))⟩))
  .exact IC.mp (by rw [<- l1,z];rfl)
  .have:j=[]:=IC.mp (by rw [<- l2,z];rfl);subst this;exact k _ H _ q.2.2 (Gr.refl _) (by rw [HK];exact .tup n1 e1 f1)
 .exact q.elim
def rj:LO K (rI0 λi j=>.int (i - j)) (fI0 λi j=>.int (i - j)):=zQ λ_ _ _ _=>.int _
def b9:LO K (rI (λ_ j=>0<j) λi j=>.int (i % j)) (fI (λ_ j=>0<j) λi j=>.int (i % j)):=D3 λ_ _ _ _=>.int _
def qb:LO K (rI Ej λi j=>.int (i / j)) (fI (λ_ j=>0<j/\j<1073741824) λi j=>.int (i / j)):=D3 λ_ _ _ _=>.int _
def uF:LO K (rI Ek λi j=>.int (i^j.toNat)) (fI (λi j=>0<=j/\j<=1000000/\i.natAbs<2^64) λi j=>.int (i^j.toNat)):=D3 λ_ _ _ _=>.int _
noncomputable def EW:R2:=λx y H Q=>∃l n,x=.str (S l)/\y=.int n/\-1000000<=n/\n<=1000000/\n.toNat*l.length<=sizeLine/\Q (.str (S (mB l n))) H
noncomputable def zS:R2:=λx y H Q=>rI DZ (λi j=>.int (i*j)) x y H Q\/EW x y H Q\/F8 x y H Q
def kl:OpR X (binaryOp .Mult) zS:=OpR.or BL (OpR.or su BY)
noncomputable def Gc:F2
 | .int i,.int j,Q=>((-(2^64)<i/\i<2^64)\/(-(2^64)<j/\j<2^64))/\Q (.dat (.int (i*j)))
 | .str a,.int n,Q=>(-1000000<=n/\n<=1000000/\n.toNat*a.length<=1000000)/\Q (.dat (.str (mB a n)))
 | .lst a,.int n,Q=>(-1000000<=n/\n<=1000000/\a.length*n.toNat<=1000000)/\Q (.own (mB a n))
 | _,_,_=>False
theorem FVs.rep{O:Addr->Prop}{H:Hp}{xs:List V}{ds:List D}(f:FVs K O H xs ds):∀n,FVs K O H (u_ n xs).flatten (u_ n ds).flatten
 | 0=>.nil
 | n+1=>by rw [replicate_succ,replicate_succ,flatten_cons,flatten_cons];exact f.append (f.rep n)
def fT:LO K zS Gc:=by
 intro O H x y a b Q Q' dom fx fy q k;unfold Gc at q
 split at q
 .rename_i i j;exact .inl ⟨i,j,fx.int,fy.int,q.1,k _ H _ q.2 (Gr.refl _) (.int _)⟩
 .rename_i i j;exact .inr (.inl ⟨i,j,fx.str.1,fy.int,q.1.1,q.1.2.1,sz _ q.1.2.2,k _ H _ q.2 (Gr.refl _) (.str _ (by rw [pW];exact q.1.2.2))⟩)
 .rename_i i j;obtain⟨a,xs,rfl,e1,f1⟩:=fx.lst;exact .inr (.inr ⟨a,j,xs,rfl,fy.int,e1,by omega,by omega,sz _ (by rw [f1.length];exact q.1.2.2),λp hp=>k _ _ _ q.2 (Gr.new hp) (eE hp (f1.rep _))⟩)
 .exact q.elim
noncomputable def EX:R2:=λx y H Q=>rI0 (λi j=>.bl (decide (i<j))) x y H Q\/∃i j,x=.str i/\y=.str j/\Q (.bl (decide (i.cps.toList<j.cps.toList))) H
noncomputable def Gd:R2:=λx y H Q=>rI0 (λi j=>.bl (decide (i<=j))) x y H Q\/∃i j,x=.str i/\y=.str j/\Q (.bl (!decide (j.cps.toList<i.cps.toList))) H
def Cn:OpR X (compareOp .Lt) EX:=OpR.or En tV
def Ge:OpR X (compareOp .LtE) Gd:=OpR.or Ep uf
noncomputable def fLt:F2
 | .int i,.int j,Q=>Q (.dat (.bl (decide (i<j))))
 | .str i,.str j,Q=>Q (.dat (.bl (decide (i<j))))
 | _,_,_=>False
noncomputable def fLe:F2
 | .int i,.int j,Q=>Q (.dat (.bl (decide (i<=j))))
 | .str i,.str j,Q=>Q (.dat (.bl (!decide (j<i))))
 | _,_,_=>False
def uG:LO K EX fLt:=by
 intro O H x y a b Q Q' dom fx fy q k;unfold fLt at q
 split at q
 .rename_i i j;exact .inl ⟨i,j,fx.int,fy.int,k _ H _ q (Gr.refl _) (.bl _)⟩
 .rename_i i j;exact .inr ⟨_,_,fx.str.1,fy.str.1,k _ H _ q (Gr.refl _) (.bl _)⟩
 .exact q.elim
def Co:LO K Gd fLe:=by
 intro O H x y a b Q Q' dom fx fy q k;unfold fLe at q
 split at q
 .rename_i i j;exact .inl ⟨i,j,fx.int,fy.int,k _ H _ q (Gr.refl _) (.bl _)⟩
 .rename_i i j;exact .inr ⟨_,_,fx.str.1,fy.str.1,k _ H _ q (Gr.refl _) (.bl _)⟩
 .exact q.elim
def zT:LO K (rI0 λi j=>.bl (decide (j<i))) (fI0 λi j=>.bl (decide (j<i))):=zQ λ_ _ _ _=>.bl _
def sG:LO K (rI0 λi j=>.bl (decide (j<=i))) (fI0 λi j=>.bl (decide (j<=i))):=zQ λ_ _ _ _=>.bl _
mutual
noncomputable def D.py:D->JA
 | .non=>.none|.bl b=>.bool b|.int i=>.int i|.str l=>.str (S l)|.ty _=>.none
 | .lst ds=>.list (D.pys ds)|.tup ds=>.tuple (D.pys ds)|.scr ns=>.list (ns.map .int)|.dic _ _=>.none|.fdc _ _=>.none|.obj _ _ _=>.none|.exc _ _ _=>.none
noncomputable def D.pys:List D->List JA
 | []=>[]
 | d::r=>d.py::D.pys r
end
mutual
noncomputable def D.plain:D->Bool
 | .non=>true|.bl _=>true|.int _=>true|.str _=>true|.ty _=>false
 | .lst ds=>D.plains ds|.tup ds=>D.plains ds|.scr _=>true|.dic _ _=>false|.fdc _ _=>false|.obj _ _ _=>false|.exc _ _ _=>false
noncomputable def D.plains:List D->Bool
 | []=>true
 | d::r=>d.plain && D.plains r
end
mutual
theorem FV.dv{O:Addr->Prop}{H:Hp}:∀{v:V}{d:D},FV K O H v d->d.plain=true->DV K H v d.py
 | _,_,.non,_=>.non
 | _,_,.bl b,_=>.bl b
 | _,_,.int i,_=>.int i
 | _,_,.str l h,_=>.str (S l)
 | _,_,.ty n,p=>nomatch p
 | _,_,.scr s,_=>.lst s.sq (DVs.ints _)
 | _,_,.lst n e f,p=>.lst (SqL.of e) (FVs.dvs f p)
 | _,_,.tup n e f,p=>.tup (SqT.of e) (FVs.dvs f p)
 | _,_,.dic _ _ _ _,p=>nomatch p
 | _,_,.fdc _ _ _ _,p=>nomatch p
 | _,_,.obj _ _ _ _,p=>nomatch p
 | _,_,.exc0 _ _,p=>nomatch p
 | _,_,.exc1 _ _ _ _ _ _,p=>nomatch p
theorem FVs.dvs{O:Addr->Prop}{H:Hp}:∀{vs:List V}{ds:List D},FVs K O H vs ds->D.plains ds=true->DVs K H vs (D.pys ds)
 | _,_,.nil,_=>.nil
 | _,_,.cons a b,p=>by
  have p:(_ && _)=true:=p;rw [and_eq_true] at p;exact .cons (FV.dv a p.1) (FVs.dvs b p.2)
end
def FVc.dv{O:Addr->Prop}{H:Hp}{v:V}{d:D}(h:FVc K O H v d)(p:d.plain=true):DV K H v d.py:=by
 rcases h with h|⟨a,xs,ds',rfl,rfl,e3,f⟩|⟨a,dx,c,fs,ns,ds',e1,rfl,_⟩|⟨a,kvs,ks,ds',e1,rfl,_⟩
 .exact h.dv p
 .exact .lst (SqL.of e3) (f.dvs p)
 .cases p
 .cases p
noncomputable def Cq(K:b_)(neg:Bool):R2:=λx y H Q=>rI0 (λi j=>.bl (if neg then !decide (i=j) else decide (i=j))) x y H Q\/(∃i j,x=.str (S i)/\y=.str (S j)/\Q (.bl (if neg then !decide (i=j) else decide (i=j))) H)\/EA K neg x y H Q
def GV(K:b_)(e:X.K=K)(hu:X.A.units+64<cLine):OpR X (compareOp .Eq) (Cq K false):=by
 subst e;exact OpR.or B7 (OpR.or B5 (B2 hu))
def GW(K:b_)(e:X.K=K)(hu:X.A.units+64<cLine):OpR X (compareOp .NotEq) (Cq K true):=by
 subst e;exact OpR.or B8 (OpR.or B6 (B3 hu))
noncomputable def rk(a b:D):Prop:=a.plain=true/\b.plain=true/\Ie a.py=true/\Ie b.py=true
def deq(a b:D):Bool:=Jf a.py b.py
noncomputable def fEq:F2
 | .int i,.int j,Q=>Q (.dat (.bl (decide (i=j))))
 | .str i,.str j,Q=>Q (.dat (.bl (decide (i=j))))
 | a,b,Q=>rk a b/\Q (.dat (.bl (deq a b)))
noncomputable def fNe:F2
 | .int i,.int j,Q=>Q (.dat (.bl (!decide (i=j))))
 | .str i,.str j,Q=>Q (.dat (.bl (!decide (i=j))))
 | a,b,Q=>rk a b/\Q (.dat (.bl (!deq a b)))
def EY:LO K (Cq K false) fEq:=by
 intro O H x y a b Q Q' dom fx fy q k;unfold fEq at q
 split at q
 .rename_i i j;exact .inl ⟨i,j,fx.int,fy.int,k _ H _ q (Gr.refl _) (.bl _)⟩
 .rename_i i j;exact .inr (.inl ⟨i,j,fx.str.1,fy.str.1,k _ H _ q (Gr.refl _) (.bl _)⟩)
 .exact .inr (.inr ⟨_,_,fx.dv q.1.1,fy.dv q.1.2.1,q.1.2.2.1,q.1.2.2.2,k _ H _ q.2 (Gr.refl _) (.bl _)⟩)
def EZ:LO K (Cq K true) fNe:=by
 intro O H x y a b Q Q' dom fx fy q k;unfold fNe at q
 split at q
 .rename_i i j;exact .inl ⟨i,j,fx.int,fy.int,k _ H _ q (Gr.refl _) (.bl _)⟩
 .rename_i i j;exact .inr (.inl ⟨i,j,fx.str.1,fy.str.1,k _ H _ q (Gr.refl _) (.bl _)⟩)
 .exact .inr (.inr ⟨_,_,fx.dv q.1.1,fy.dv q.1.2.1,q.1.2.2.1,q.1.2.2.2,k _ H _ q.2 (Gr.refl _) (.bl _)⟩)
noncomputable def Gf(neg:Bool):R2:=λx y H Q=>(∃b c,x=.bl b/\y=.bl c/\Q (.bl (if neg then !decide (b=c) else decide (b=c))) H)\/(y=.non/\Q (.bl (if neg then !decide (x=.non) else decide (x=.non))) H)
def zU:OpR X (compareOp .IsNot) (Gf true):=OpR.or uz zr
noncomputable def D.isNon:D->Bool
 | .non=>true
 | _=>false
def FVc.isNon{O:Addr->Prop}{H:Hp}{v:V}{d:D}(h:FVc K O H v d):decide (v=.non)=d.isNon:=by
 rcases h with h|⟨a,xs,ds',rfl,rfl,e3,f⟩|⟨a,dx,c,fs,ns,ds',rfl,rfl,_⟩|⟨a,kvs,ks,ds',rfl,rfl,_⟩
 .cases h <;> rfl
 .rfl
 .rfl
 .rfl
noncomputable def fIs(neg:Bool):F2
 | .bl b,.bl c,Q=>Q (.dat (.bl (if neg then !decide (b=c) else decide (b=c))))
 | a,.non,Q=>Q (.dat (.bl (if neg then !a.isNon else a.isNon)))
 | _,_,_=>False
def E2{neg:Bool}:LO K (Gf neg) (fIs neg):=by
 intro O H x y a b Q Q' dom fx fy q k;unfold fIs at q
 split at q
 .rename_i b c;exact .inl ⟨b,c,fx.bl,fy.bl,k _ H _ q (Gr.refl _) (.bl _)⟩
 .exact .inr ⟨fy.non,by rw [fx.isNon];exact k _ H _ q (Gr.refl _) (.bl _)⟩
 .exact q.elim
noncomputable def D.fl:D->Bool
 | .non=>true|.bl _=>true|.int _=>true|.str _=>true
 | _=>false
noncomputable def eqF:D->D->Bool
 | .non,.non=>true
 | .bl a,.bl b=>a == b
 | .bl a,.int b=>(if a then 1 else 0) == b
 | .int a,.bl b=>a == (if b then 1 else 0)
 | .int a,.int b=>a == b
 | .str a,.str b=>a == b
 | _,_=>false
noncomputable def inD(x:D)(xs:List D):Bool:=xs.any λy=>eqF y x
def FV.fl{O:Addr->Prop}{H:Hp}{v:V}{d:D}(h:FV K O H v d)(f:d.fl=true):lA v=true:=by cases h <;> first|rfl|cases f
def Cr(a b:List Nat):(S a == S b)=(a == b):=by
 by_cases h:a=b
 .subst h;rw [beq_self_eq_true,beq_self_eq_true]
 .rw [beq_eq_false_iff_ne.mpr h,beq_eq_false_iff_ne.mpr (GO h)]
def FV.eqF{O:Addr->Prop}{H:Hp}{v w:V}{d e:D}(h:FV K O H v d)(f:d.fl=true)(h':FV K O H w e)(f':e.fl=true):eqV v w=L2.eqF d e:=by
 cases h <;> first|(cases f;done)|(cases h' <;> first|(cases f';done)|rfl|exact Cr _ _)
theorem FVs.inD{O:Addr->Prop}{H:Hp}{v:V}{d:D}(h:FV K O H v d)(f:d.fl=true):∀{xs:List V}{ds:List D},FVs K O H xs ds->ds.all D.fl=true->xs.all lA=true/\inV v xs=L2.inD d ds
 | _,_,.nil,_=>⟨rfl,rfl⟩
 | _,_,.cons a b,g=>by
  rw [all_cons,and_eq_true] at g;obtain⟨i1,i2⟩:=b.inD h f g.2;refine⟨by rw [all_cons,a.fl g.1,i1];rfl,?_⟩;unfold inV L2.inD at i2 ⊢;rw [any_cons,any_cons,i2,a.eqF g.1 h f]
noncomputable def fIn(neg:Bool):F2
 | a,.lst ds,Q=>(a.fl=true/\ds.all D.fl=true)/\Q (.dat (.bl (if neg then !inD a ds else inD a ds)))
 | a,.tup ds,Q=>(a.fl=true/\ds.all D.fl=true)/\Q (.dat (.bl (if neg then !inD a ds else inD a ds)))
 | _,_,_=>False
def FVc.fl{O:Addr->Prop}{H:Hp}{v:V}{d:D}(h:FVc K O H v d)(f:d.fl=true):FV K O H v d:=h.fv (λ_ z=>by rw [z] at f;cases f) (λ_ _ _ z=>by rw [z] at f;cases f) (λ_ _ z=>by rw [z] at f;cases f)
def zV(K:b_)(e:X.K=K):OpR X (compareOp .NotIn) (rIn K true):=by subst e;exact nI
def Cs{neg:Bool}:LO K (rIn K neg) (fIn neg):=by
 intro O H x y a b Q Q' dom fx fy q k;unfold fIn at q
 split at q
 .obtain⟨p,xs,rfl,e1,f1⟩:=fy.lst;obtain⟨g1,g2⟩:=f1.inD (fx.fl q.1.1) q.1.1 q.1.2;exact⟨p,xs,rfl,.inl (SqL.of e1),(fx.fl q.1.1).fl q.1.1,g1,by rw [g2];exact k _ H _ q.2 (Gr.refl _) (.bl _)⟩
 .obtain⟨p,xs,rfl,n1,e1,f1⟩:=fy.tup;obtain⟨g1,g2⟩:=f1.inD (fx.fl q.1.1) q.1.1 q.1.2;exact⟨p,xs,rfl,.inr (SqT.of e1),(fx.fl q.1.1).fl q.1.1,g1,by rw [g2];exact k _ H _ q.2 (Gr.refl _) (.bl _)⟩
 .exact q.elim
noncomputable def sH(K:b_):R2:=λx y H Q=>D1 K x y H Q\/FY K x y H Q\/B4 x y H Q
def df(K:b_)(e:X.K=K):IxR X (sH K):=by
 subst e;exact IxR.or zy (IxR.or BS zC)
noncomputable def fIx:F2
 | .lst ds,.int i,Q=>∃d,atI ds i=some d/\Q (.dat d)
 | .tup ds,.int i,Q=>∃d,atI ds i=some d/\Q (.dat d)
 | .scr ns,.int i,Q=>∃d,atI ns i=some d/\Q (.dat (.int d))
 | .str l,.int i,Q=>∃c,atI l i=some c/\Q (.dat (.str [c]))
 | _,_,_=>False
def FVs.atI{O:Addr->Prop}{H:Hp}{vs:List V}{ds:List D}{i:Int}{d:D}(f:FVs K O H vs ds)(h:L2.atI ds i=some d):∃v,L2.atI vs i=some v/\FV K O H v d:=by
 unfold L2.atI at h ⊢;rw [f.length]
 cases e:ixN ds.length i with
 | none=>rw [e] at h;cases h
 | some j=>rw [e] at h;exact f.getD h
def bg:LO K (sH K) fIx:=by
 intro O H x y a b Q Q' dom fx fy q k;unfold fIx at q
 split at q
 .obtain⟨d,hd,q⟩:=q;obtain⟨p,xs,rfl,e1,f1⟩:=fx.lst;obtain⟨v,hv,fv⟩:=f1.atI hd;exact .inl ⟨p,xs,_,v,rfl,fy.int,SqL.of e1,hv,k _ H _ q (Gr.refl _) fv⟩
 .obtain⟨d,hd,q⟩:=q;obtain⟨p,xs,rfl,n1,e1,f1⟩:=fx.tup;obtain⟨v,hv,fv⟩:=f1.atI hd;exact .inr (.inl ⟨p,xs,_,v,rfl,fy.int,SqT.of e1,hv,k _ H _ q (Gr.refl _) fv⟩)
 .obtain⟨d,hd,q⟩:=q;obtain⟨p,rfl,e1⟩:=fx.scr;exact .inl ⟨p,_,_,_,rfl,fy.int,e1,zE hd,k _ H _ q (Gr.refl _) (.int d)⟩
 .obtain⟨c,hc,q⟩:=q;exact .inr (.inr ⟨_,_,c,fx.str.1,fy.int,sz _ fx.str.2,hc,k _ H _ q (Gr.refl _) (.str _ (by show 1<=1000000;decide))⟩)
 .exact q.elim
end
section
variable {K:b_}{X:Cx}{ta tb tc to:TE}{pa pb pc:PA1}{pe:PTE}{tr:TA}{pr:PTA}
noncomputable def Ct(f f':F2)(pa pb pc:PA1):PTE:=λρ Q=>pa ρ λx ρ1=>pb ρ1 λy ρ2=>op2 f ρ2 x y λp ρ3=>match p with
 | .dat (.bl k)=>gE k (pc ρ3 λz ρ4=>op2 f' ρ4 y z Q) (Q (.dat (.bl false)) ρ3)
 | _=>False
def xj{r r':R2}{f f':F2}(o:LO K r f)(o':LO K r' f')(ha:LA1 K ta pa)(hb:LA1 K tb pb)(hc:LA1 K tc pc):LE K (yl r r' ta tb tc) (Ct f f' pa pb pc):=λA ρ σ H Q Q' R q k =>
 ha A ρ σ H _ _ R q λv H1 a ρ1 q1 f1 R1 o1=>hb A ρ1 σ H1 _ _ R1 q1 λw H2 b ρ2 q2 f2 R2 o2=>by
  unfold op2 at q2
  split at q2
  .rename_i da db e1 e2;refine o _ H2 v w da db _ _ R2.dom2 (R2.cont (o1.keeps f2.keeps) e1) (R2.cont o2 e2) q2 λz H3 p q3 g ov=>?_;dsimp only at q3
   split at q3
   .rename_i c;cases ov;refine⟨c,rfl,?_⟩;have R3:=R2.gr g
    cases c with
    | true =>
     refine hc A ρ2 σ H3 _ _ R3 q3 λu H4 cc ρ4 q4 f4 R4 o4=>?_
     try unfold op2 at q4
     split at q4
     .rename_i dc dd e3 e4;have o2':AOk K (OO A ρ4 σ) σ H4 b w:=(o2.keeps (g.fr (ρ:=ρ2) (σ:=σ)).keeps).keeps f4.keeps;exact o' _ H4 w u _ _ _ _ R4.dom2 (R4.cont o2' e3) (R4.cont o4 e4) q4 λz H5 p q5 g5 ov=>k z H5 p ρ4 q5 ((((f1.trans f2).trans g.fr).trans f4).trans g5.fr) ((ov.out R4 g5).h0 λb z=>f4.dm b ((g.fr (ρ:=ρ2) (σ:=σ)).dm b (f2.dm b (f1.dm b z))))
     .exact q4.elim
    | false=>exact k _ H3 _ ρ2 q3 ((f1.trans f2).trans g.fr) ⟨R3,.bl false⟩
   .exact q3.elim
  .exact q2.elim
abbrev FN:=List D->(PV->Prop)->Prop
noncomputable def uH(K:b_):List V->Hp->VK->Prop:=λxs H Q=>(∃l,xs=[.str (S l)]/\l.length<=sizeLine/\Q (.int l.length) H)\/EH K xs H Q\/EI K xs H Q\/∃p kvs,xs=[.ref p]/\Rd H p (.dK kvs)/\Q (.int kvs.length) H
def eh(K:b_)(e:X.K=K):bD X (.builtin "len") (uH K):=by
 subst e;exact bD.or uh (bD.or ui (bD.or uj uB))
noncomputable def E3:FN
 | [.str l],Q=>Q (.dat (.int l.length))
 | [.lst l],Q=>Q (.dat (.int l.length))
 | [.tup l],Q=>Q (.dat (.int l.length))
 | [.scr l],Q=>Q (.dat (.int l.length))
 | [.dic ks _],Q=>Q (.dat (.int ks.length))
 | _,_=>False
def bW:LC K (uH K) E3:=by
 intro O H xs as Q Q' dom fs q k;unfold E3 at q
 split at q
 .cases fs with|cons a b=>cases b;rw [a.str.1];exact .inl ⟨_,rfl,sz _ a.str.2,k _ H _ q (Gr.refl _) (.int _)⟩
 .cases fs with
  | cons a b =>
   cases b;obtain⟨p,ys,rfl,e1,f1⟩:=a.lst;exact .inr (.inl ⟨p,ys,rfl,SqL.of e1,by rw [f1.length];exact k _ H _ q (Gr.refl _) (.int _)⟩)
 .cases fs with
  | cons a b =>
   cases b;obtain⟨p,ys,rfl,n1,e1,f1⟩:=a.tup;exact .inr (.inr (.inl ⟨p,ys,rfl,SqT.of e1,by rw [f1.length];exact k _ H _ q (Gr.refl _) (.int _)⟩))
 .cases fs with
  | cons a b =>
   cases b;obtain⟨p,rfl,e1⟩:=a.scr;exact .inr (.inl ⟨p,_,rfl,e1,by rw [length_map];exact k _ H _ q (Gr.refl _) (.int _)⟩)
 .cases fs with
  | cons a b =>
   cases b;obtain⟨p,kvs,rfl,e,m,f⟩:=a.dic;subst m;exact .inr (.inr (.inr ⟨_,_,rfl,.inl e,k _ H _ q (Gr.refl _) (by rw [length_map];exact .int _)⟩))
 .exact q.elim
inductive Kd where
 | int|bool|str|list|tuple|dict
noncomputable def Kd.nm:Kd->String
 | .int=>"int"|.bool=>"bool"|.str=>"str"|.list=>"list"|.tuple=>"tuple"|.dict=>"dict"
noncomputable def isK:Kd->D->Bool
 | .int,.int _=>true
 | .int,.bl _=>true
 | .bool,.bl _=>true
 | .str,.str _=>true
 | .list,.lst _=>true
 | .tuple,.tup _=>true
 | .dict,.dic _ _=>true
 | _,_=>false
noncomputable def D.sort:D->Bool
 | .obj _ _ _=>false
 | .exc _ _ _=>false
 | .fdc _ _=>false
 | .scr _=>false
 | .ty _=>false
 | _=>true
def FVc.ty{O:Addr->Prop}{H:Hp}{v:V}{d:D}(h:FVc K O H v d)(s:d.sort=true):∃t,nq K H v t/\∀k:Kd,Ht K t (.type k.nm)=some (isK k d):=by
 rcases h with h|⟨a,xs,ds',rfl,rfl,e3,f⟩|⟨a,dx,c,fs,ns,ds',rfl,rfl,_⟩|⟨a,kvs,ks,ds',rfl,rfl,e3,_⟩
 .cases h with
  | non=>exact⟨_,.non,λk=>by cases k <;> rfl⟩
  | bl b=>exact⟨_,.bl b,λk=>by cases k <;> rfl⟩
  | int i=>exact⟨_,.int i,λk=>by cases k <;> rfl⟩
  | str l h=>exact⟨_,.str _,λk=>by cases k <;> rfl⟩
  | ty n=>cases s
  | scr _=>cases s
  | lst n e f=>exact⟨_,.lst e,λk=>by cases k <;> rfl⟩
  | tup n e f=>exact⟨_,.tup e,λk=>by cases k <;> rfl⟩
  | dic n e m f=>exact⟨_,.dK e,λk=>by cases k <;> rfl⟩
  | fdc _ _ _ _=>cases s
  | obj _ _ _ _=>cases s
  | exc0 _ _=>cases s
  | exc1 _ _ _ _ _ _=>cases s
 .exact⟨_,.lst e3,λk=>by cases k <;> rfl⟩
 .cases s
 .exact⟨_,.dK e3,λk=>by cases k <;> rfl⟩
def sI(K:b_)(e:X.K=K):bD X (.builtin "isinstance") (Ga K):=by subst e;exact pX
noncomputable def GX(k:Kd)(pa:PA1):PTE:=λρ Q=>pa ρ λx ρ1=>match cont ρ1 x with
 | some d=>gE d.sort (Q (.dat (.bl (isK k d))) ρ1) False
 | _=>False
def lY(k:Kd)(ha:LA1 K ta pa):LE K (tCB (Ga K) (bi ta (bi (tC (.ty k.nm)) eW))) (GX k pa):=λA ρ σ H Q Q' R q kk =>
 ha A ρ σ H _ _ R q λv H1 a ρ1 q1 f1 R1 o1=>by
  split at q1
  .rename_i d e1
   cases hs:d.sort with
   | false=>rw [hs] at q1;exact q1.elim
   | true =>
    rw [hs] at q1;obtain⟨t,ty,hk⟩:=(R1.cont o1 e1).ty hs;exact⟨v,k.nm,t,isK k d,rfl,ty,hk k,kk _ H1 _ ρ1 q1 f1 ⟨R1,.bl _⟩⟩
  .exact q1.elim
noncomputable def Gg(K:b_):List V->Hp->VK->Prop:=λxs H Q=>∃(x:V) (p:Addr) (ts:List String) (t:Value) (b:Bool),xs=[x,.ref p]/\nq K H x t/\H p=some (.tup (ts.map V.ty))/\JP K t (ts.map Ib)=some b/\Q (.bl b) H
def E4(K:b_)(e:X.K=K):bD X (.builtin "isinstance") (Gg K):=by subst e;exact nZ
noncomputable def GY(k l:Kd)(pa:PA1):PTE:=λρ Q=>pa ρ λx ρ1=>match cont ρ1 x with
 | some d=>gE d.sort (Q (.dat (.bl (isK k d || isK l d))) ρ1) False
 | _=>False
def FVc.keeps{O O':Addr->Prop}{H H':Hp}{v:V}{d:D}(k:aA O H O' H')(g:Gr H H')(h:FVc K O H v d):FVc K O' H' v d:=by
 rcases h with h|⟨a,xs,ds',e1,e2,e3,f⟩|⟨a,dx,c,fs,ns,ds',e1,e2,e3,m,f⟩|⟨a,kvs,ks,ds',e1,e2,e3,m,f⟩
 .exact .inl (h.keeps k)
 .exact .inr (.inl ⟨a,xs,ds',e1,e2,g _ _ e3,f.keeps k⟩)
 .exact .inr (.inr (.inl ⟨a,dx,c,fs,ns,ds',e1,e2,g _ _ e3,m,f.keeps k⟩))
 .exact .inr (.inr (.inr ⟨a,kvs,ks,ds',e1,e2,g _ _ e3,m,f.keeps k⟩))
def Cu(k l:Kd)(hkl:∀t b c,Ht K t (.type k.nm)=some b->Ht K t (.type l.nm)=some c->JP K t [.type k.nm,.type l.nm]=some (b || c))(ha:LA1 K ta pa):LE K (tCB (Gg K) (bi ta (bi (D0 (bi (tC (.ty k.nm)) (bi (tC (.ty l.nm)) eW))) eW))) (GY k l pa):=λA ρ σ H Q Q' R q kk =>
 ha A ρ σ H _ _ R q λv H1 a ρ1 q1 f1 R1 o1=>by
  split at q1
  .rename_i d e1
   cases hs:d.sort with
   | false=>rw [hs] at q1;exact q1.elim
   | true =>
    rw [hs] at q1;refine⟨by show 2<=sizeLine;decide,λp hp=>?_⟩;have g:Gr H1 (upd H1 p (.tup [V.ty k.nm,V.ty l.nm])):=Gr.new hp;obtain⟨t,ty,hk⟩:=((R1.cont o1 e1).keeps (g.fr (ρ:=ρ1) (σ:=σ)).keeps g).ty hs;exact⟨v,p,[k.nm,l.nm],t,_,rfl,ty,aw,hkl _ _ _ (hk k) (hk l),kk _ _ _ ρ1 q1 (f1.trans g.fr) ⟨R1.gr g,.bl _⟩⟩
  .exact q1.elim
end
structure uI where
 nx:PSt->Prop
 rt:PV->PSt->Prop
 bk:PSt->Prop:=λ_=>False
 ct:PSt->Prop:=λ_=>False
abbrev PTS:=uI->PSt->Prop
structure bY (fx:List (Nat×V)) (R:Addr->Prop) (H0:Hp) (ρ:PSt) (σ:St) (H:Hp):Prop where
 kp:∀b o,¬ R b->H0 b=some o->H b=some o
 dm:∀b,H0 b≠none->H b≠none
 ow:∀b,Wr ρ σ b->R b\/H0 b=none
 fx:∀p∈fx,σ[p.1]?=some (some p.2)
section
variable {K:b_}{fx:List (Nat×V)}{A R:Addr->Prop}{H0 H H':Hp}{ρ ρ':PSt}{σ:St}
def bY.fr(F:bY fx R H0 ρ σ H)(f:Fr ρ σ H ρ' H'):bY fx R H0 ρ' σ H' :=
 ⟨λb o n e=>f.kp b o (λw=>(F.ow b w).elim n (λz=>by rw [z] at e;cases e)) (F.kp b o n e),λb z=>f.dm b (F.dm b z),λb w=>F.ow b (f.ow b w),F.fx⟩
def bY.start(hfx:∀p∈fx,σ[p.1]?=some (some p.2)):bY fx (Wr ρ σ) H ρ σ H:=⟨λ_ _ _ h=>h,λ_ h=>h,λ_ h=>.inl h,hfx⟩
def bY.keepsR{ρ1:PSt}{σ1:St}{H1:Hp}(F:bY fx R H1 ρ σ H)(hR:∀b,R b->OO A ρ1 σ1 b):aA (OO A ρ1 σ1) H1 (OO A ρ σ) H:=λb o n e=>by
 refine⟨λz=>?_,F.kp b o (λz=>n (hR b z)) e⟩
 rcases z with z|z
 .exact n (.inl z)
 .rcases F.ow b z with z|z
  .exact n (hR b z)
  .rw [z] at e;cases e
def bY.keeps{ρ1:PSt}{σ1:St}{H1:Hp}(F:bY fx (Wr ρ1 σ1) H1 ρ σ H):aA (OO A ρ1 σ1) H1 (OO A ρ σ) H:=F.keepsR λb z=>.inr z
def bY.trans{fx':List (Nat×V)}{ρ1:PSt}{σ1:St}{H1:Hp}(F:bY fx R H0 ρ1 σ1 H1)(G:bY fx' (Wr ρ1 σ1) H1 ρ σ H)(hfx:∀p∈fx,σ[p.1]?=some (some p.2)):bY fx R H0 ρ σ H:=by
 refine⟨λb o n e=>G.kp b o (λw=>(F.ow b w).elim n (λz=>by rw [z] at e;cases e)) (F.kp b o n e),λb z=>G.dm b (F.dm b z),λb w=>?_,hfx⟩
 rcases G.ow b w with z|z
 .exact F.ow b z
 .refine .inr ?_
  cases e:H0 b with
  | none=>rfl
  | some o=>exact absurd z (F.dm b (by rw [e];exact nofun))
def Out.put{p:PV}{v:V}{i:Nat}(h:Out K A ρ σ H0 H p v):Rel K A (ρ.set i (some p)) (σ.set i (some v)) H/\∀b,Wr (ρ.set i (some p)) (σ.set i (some v)) b->Wr ρ σ b\/H0 b=none:=by
 have get:∀(j:Nat) (q:PV),(ρ.set i (some p))[j]?=some (some q)->(j=i/\q=p/\i<ρ.length)\/(j≠i/\ρ[j]?=some (some q)):=λj q e=>by
  by_cases z:i=j
  .subst z
   by_cases hi:i<ρ.length
   .rw [n_ hi] at e;cases e;exact .inl ⟨rfl,rfl,hi⟩
   .rw [z_ (by rw [length_set];omega)] at e;cases e
  .rw [j_ z] at e;exact .inr ⟨λq=>z q.symm,e⟩
 cases p with
 | dat d =>
  obtain⟨R1,f⟩:=h
  have ow:∀b,Wr (ρ.set i (some (.dat d))) (σ.set i (some v)) b->Wr ρ σ b:=λb ⟨j,r,e1,o1,s1⟩=>by
   rcases get j r e1 with ⟨_,rfl,_⟩|⟨n,e⟩
   .cases o1
   .rw [j_ (λz=>n z.symm)] at s1;exact⟨j,r,e,o1,s1⟩
  have k:aA (OO A ρ σ) H (OO A (ρ.set i (some (.dat d))) (σ.set i (some v))) H:=aA.less λb z=>z.imp id (ow b)
  refine⟨⟨by rw [length_set,length_set];exact R1.len,λj r e1=>?_,λj l p1 q1 v' e1 e2 o1 o2 s1 s2=>?_,R1.dom,λb z w=>R1.sep b z (ow b w)⟩,λb w=>.inl (ow b w)⟩
  .rcases get j r e1 with ⟨rfl,rfl,hi⟩|⟨n,e⟩
   .exact⟨v,n_ (by rw [<- R1.len];exact hi),f.keeps k⟩
   .obtain⟨u,s,r'⟩:=R1.get j r e;exact⟨u,by rw [j_ (λz=>n z.symm)];exact s,r'.keeps k λ_ _ _=>rfl⟩
  .rcases get j p1 e1 with ⟨_,rfl,_⟩|⟨n1,e1⟩
   .cases o1
   .rcases get l q1 e2 with ⟨_,rfl,_⟩|⟨n2,e2⟩
    .cases o2
    .rw [j_ (λz=>n1 z.symm)] at s1;rw [j_ (λz=>n2 z.symm)] at s2;exact R1.dj j l p1 q1 v' e1 e2 o1 o2 s1 s2
 | own ds =>
  obtain⟨a,xs,rfl,na,hn,e0,R1,f⟩:=h
  have ow:∀b,Wr (ρ.set i (some (.own ds))) (σ.set i (some (.ref a))) b->Wr ρ σ b\/b=a:=λb ⟨j,r,e1,o1,s1⟩=>by
   rcases get j r e1 with ⟨rfl,rfl,hi⟩|⟨n,e⟩
   .rw [n_ (by rw [<- R1.len];exact hi)] at s1;cases s1;exact .inr rfl
   .rw [j_ (λz=>n z.symm)] at s1;exact .inl ⟨j,r,e,o1,s1⟩
  have k:aA (OO (cJ A a) ρ σ) H (OO A (ρ.set i (some (.own ds))) (σ.set i (some (.ref a)))) H:=aA.less λb z=>by
   rcases z with z|z
   .exact .inl (.inl z)
   .rcases ow b z with z|z
    .exact .inr z
    .exact .inl (.inr z)
  refine⟨⟨by rw [length_set,length_set];exact R1.len,λj r e1=>?_,λj l p1 q1 v' e1 e2 o1 o2 s1 s2=>?_,λb z=>R1.dom b (.inl z),λb z w=>?_⟩,λb w=>(ow b w).imp id λz=>by rw [z];exact hn⟩
  .rcases get j r e1 with ⟨rfl,rfl,hi⟩|⟨n,e⟩
   .exact⟨_,n_ (by rw [<- R1.len];exact hi),a,xs,rfl,e0,f.keeps k⟩
   .obtain⟨u,s,r'⟩:=R1.get j r e;exact⟨u,by rw [j_ (λz=>n z.symm)];exact s,r'.keeps k λ_ _ _=>rfl⟩
  .rcases get j p1 e1 with ⟨rfl,rfl,hi⟩|⟨n1,e1'⟩
   .rw [n_ (by rw [<- R1.len];exact hi)] at s1;cases s1
    rcases get l q1 e2 with ⟨rfl,rfl,_⟩|⟨n2,e2⟩
    .rfl
    .rw [j_ (λz=>n2 z.symm)] at s2;exact absurd ⟨l,q1,e2,o2,s2⟩ (R1.sep a (.inr rfl))
   .rw [j_ (λz=>n1 z.symm)] at s1
    rcases get l q1 e2 with ⟨rfl,rfl,hi⟩|⟨n2,e2⟩
    .rw [n_ (by rw [<- R1.len];exact hi)] at s2;cases s2;exact absurd ⟨j,p1,e1',o1,s1⟩ (R1.sep a (.inr rfl))
    .rw [j_ (λz=>n2 z.symm)] at s2;exact R1.dj j l p1 q1 v' e1' e2 o1 o2 s1 s2
  .rcases ow b w with w|w
   .exact R1.sep b (.inl z) w
   .rw [w] at z;exact na z
 | ins c ns ds =>
  obtain⟨a,dx,fs,rfl,na,hn,e0,m,R1,f⟩:=h
  have ow:∀b,Wr (ρ.set i (some (.ins c ns ds))) (σ.set i (some (.ref a))) b->Wr ρ σ b\/b=a:=λb ⟨j,r,e1,o1,s1⟩=>by
   rcases get j r e1 with ⟨rfl,rfl,hi⟩|⟨n,e⟩
   .rw [n_ (by rw [<- R1.len];exact hi)] at s1;cases s1;exact .inr rfl
   .rw [j_ (λz=>n z.symm)] at s1;exact .inl ⟨j,r,e,o1,s1⟩
  have k:aA (OO (cJ A a) ρ σ) H (OO A (ρ.set i (some (.ins c ns ds))) (σ.set i (some (.ref a)))) H:=aA.less λb z=>by
   rcases z with z|z
   .exact .inl (.inl z)
   .rcases ow b z with z|z
    .exact .inr z
    .exact .inl (.inr z)
  refine⟨⟨by rw [length_set,length_set];exact R1.len,λj r e1=>?_,λj l p1 q1 v' e1 e2 o1 o2 s1 s2=>?_,λb z=>R1.dom b (.inl z),λb z w=>?_⟩,λb w=>(ow b w).imp id λz=>by rw [z];exact hn⟩
  .rcases get j r e1 with ⟨rfl,rfl,hi⟩|⟨n,e⟩
   .exact⟨_,n_ (by rw [<- R1.len];exact hi),a,dx,fs,rfl,e0,m,f.keeps k⟩
   .obtain⟨u,s,r'⟩:=R1.get j r e;exact⟨u,by rw [j_ (λz=>n z.symm)];exact s,r'.keeps k λ_ _ _=>rfl⟩
  .rcases get j p1 e1 with ⟨rfl,rfl,hi⟩|⟨n1,e1'⟩
   .rw [n_ (by rw [<- R1.len];exact hi)] at s1;cases s1
    rcases get l q1 e2 with ⟨rfl,rfl,_⟩|⟨n2,e2⟩
    .rfl
    .rw [j_ (λz=>n2 z.symm)] at s2;exact absurd ⟨l,q1,e2,o2,s2⟩ (R1.sep a (.inr rfl))
   .rw [j_ (λz=>n1 z.symm)] at s1
    rcases get l q1 e2 with ⟨rfl,rfl,hi⟩|⟨n2,e2⟩
    .rw [n_ (by rw [<- R1.len];exact hi)] at s2;cases s2;exact absurd ⟨j,p1,e1',o1,s1⟩ (R1.sep a (.inr rfl))
    .rw [j_ (λz=>n2 z.symm)] at s2;exact R1.dj j l p1 q1 v' e1' e2 o1 o2 s1 s2
  .rcases ow b w with w|w
   .exact R1.sep b (.inl z) w
   .rw [w] at z;exact na z
 | odc ks ds =>
  obtain⟨a,kvs,rfl,na,hn,e0,m,R1,f⟩:=h
  have ow:∀b,Wr (ρ.set i (some (.odc ks ds))) (σ.set i (some (.ref a))) b->Wr ρ σ b\/b=a:=λb ⟨j,r,e1,o1,s1⟩=>by
   rcases get j r e1 with ⟨rfl,rfl,hi⟩|⟨n,e⟩
   .rw [n_ (by rw [<- R1.len];exact hi)] at s1;cases s1;exact .inr rfl
   .rw [j_ (λz=>n z.symm)] at s1;exact .inl ⟨j,r,e,o1,s1⟩
  have k:aA (OO (cJ A a) ρ σ) H (OO A (ρ.set i (some (.odc ks ds))) (σ.set i (some (.ref a)))) H:=aA.less λb z=>by
   rcases z with z|z
   .exact .inl (.inl z)
   .rcases ow b z with z|z
    .exact .inr z
    .exact .inl (.inr z)
  refine⟨⟨by rw [length_set,length_set];exact R1.len,λj r e1=>?_,λj l p1 q1 v' e1 e2 o1 o2 s1 s2=>?_,λb z=>R1.dom b (.inl z),λb z w=>?_⟩,λb w=>(ow b w).imp id λz=>by rw [z];exact hn⟩
  .rcases get j r e1 with ⟨rfl,rfl,hi⟩|⟨n,e⟩
   .exact⟨_,n_ (by rw [<- R1.len];exact hi),a,kvs,rfl,e0,m,f.keeps k⟩
   .obtain⟨u,s,r'⟩:=R1.get j r e;exact⟨u,by rw [j_ (λz=>n z.symm)];exact s,r'.keeps k λ_ _ _=>rfl⟩
  .rcases get j p1 e1 with ⟨rfl,rfl,hi⟩|⟨n1,e1'⟩
   .rw [n_ (by rw [<- R1.len];exact hi)] at s1;cases s1
    rcases get l q1 e2 with ⟨rfl,rfl,_⟩|⟨n2,e2⟩
    .rfl
    .rw [j_ (λz=>n2 z.symm)] at s2;exact absurd ⟨l,q1,e2,o2,s2⟩ (R1.sep a (.inr rfl))
   .rw [j_ (λz=>n1 z.symm)] at s1
    rcases get l q1 e2 with ⟨rfl,rfl,hi⟩|⟨n2,e2⟩
    .rw [n_ (by rw [<- R1.len];exact hi)] at s2;cases s2;exact absurd ⟨j,p1,e1',o1,s1⟩ (R1.sep a (.inr rfl))
    .rw [j_ (λz=>n2 z.symm)] at s2;exact R1.dj j l p1 q1 v' e1' e2 o1 o2 s1 s2
  .rcases ow b w with w|w
   .exact R1.sep b (.inl z) w
   .rw [w] at z;exact na z
end
abbrev PTG:=PV->PSt->(PSt->Prop)->Prop
abbrev wu:=List D->PSt->(PSt->Prop)->Prop
noncomputable def LG(K:b_)(fs:List Nat)(g:TG)(pg:PTG):Prop:=∀(fx:List (Nat×V)) (A R:Addr->Prop) (H0:Hp) (ρ:PSt) (σ:St) (H:Hp) (p:PV) (v:V) (Q:PSt->Prop) (Q':St->Hp->Prop),fx.map v_=fs->bY fx R H0 ρ σ H->Out K A ρ σ H0 H p v->pg p ρ Q ->
 (∀ρ' σ' H',Q ρ'->Rel K A ρ' σ' H'->bY fx R H0 ρ' σ' H'->Q' σ' H')->g v σ H Q'
noncomputable def LGs(K:b_)(fs:List Nat)(g:TGs)(pg:wu):Prop:=∀(fx:List (Nat×V)) (A R:Addr->Prop) (H0:Hp) (ρ:PSt) (σ:St) (H:Hp) (ds:List D) (vs:List V) (Q:PSt->Prop) (Q':St->Hp->Prop),fx.map v_=fs->bY fx R H0 ρ σ H->Rel K A ρ σ H->FVs K (OO A ρ σ) H vs ds->pg ds ρ Q ->
 (∀ρ' σ',Q ρ'->Rel K A ρ' σ' H->bY fx R H0 ρ' σ' H->(∀b,Wr ρ' σ' b->Wr ρ σ b)->Q' σ' H)->g vs σ H Q'
noncomputable def LGd(K:b_)(fs:List Nat)(g:TG)(pg:PTG):Prop:=∀(fx:List (Nat×V)) (A R:Addr->Prop) (H0:Hp) (ρ:PSt) (σ:St) (H:Hp) (d:D) (v:V) (Q:PSt->Prop) (Q':St->Hp->Prop),fx.map v_=fs->bY fx R H0 ρ σ H->Rel K A ρ σ H->FV K (OO A ρ σ) H v d->pg (.dat d) ρ Q ->
 (∀ρ' σ',Q ρ'->Rel K A ρ' σ' H->bY fx R H0 ρ' σ' H->(∀b,Wr ρ' σ' b->Wr ρ σ b)->Q' σ' H)->g v σ H Q'
noncomputable def cK(i:Nat):PTG:=λp ρ Q=>Q (ρ.set i (some p))
noncomputable def zW:wu:=λds ρ Q=>match ds with|[]=>Q ρ|_=>False
noncomputable def n4(g:PTG)(gs:wu):wu:=λds ρ Q=>match ds with|d::r=>g (.dat d) ρ λρ1=>gs r ρ1 Q|[]=>False
section
variable {K:b_}{fs:List Nat}
def bY.put{fx:List (Nat×V)}{R:Addr->Prop}{H0 H:Hp}{ρ:PSt}{σ:St}{i:Nat}{p:PV}{v:V}(hf:fx.map v_=fs)(hi:fs.contains i=false)(F:bY fx R H0 ρ σ H)(ow:∀b,Wr (ρ.set i (some p)) (σ.set i (some v)) b->Wr ρ σ b\/H0 b=none):bY fx R H0 (ρ.set i (some p)) (σ.set i (some v)) H :=
 ⟨F.kp,F.dm,λb w=>(ow b w).elim (F.ow b) .inr,λq hq=>by
  have:q.1≠i:=λz=>by
   have h1:i∈fs:=by rw [<- hf,<- z];exact Ll hq
   rw [t_.mpr h1] at hi;cases hi
  rw [j_ (λz=>this z.symm)];exact F.fx q hq⟩
def ay{i:Nat}(hi:fs.contains i=false):LG K fs (bN i) (cK i):=λfx A R H0 ρ σ H p v Q Q' hf F o q k=>k _ _ _ q o.put.1 (F.put hf hi o.put.2)
def km:LGs K fs DX zW:=λfx A R H0 ρ σ H ds vs Q Q' hf F r fv q k=>by
 unfold zW at q
 split at q
 .cases fv;exact⟨rfl,k _ _ q r F λ_ h=>h⟩
 .exact q.elim
def az{i:Nat}(hi:fs.contains i=false):LGd K fs (bN i) (cK i):=λfx A R H0 ρ σ H d v Q Q' hf F r fv q k=>by
 have o:Out K A ρ σ H0 H (.dat d) v:=⟨r,fv⟩
 have ow:∀b,Wr (ρ.set i (some (.dat d))) (σ.set i (some v)) b->Wr ρ σ b:=λb ⟨j,p,e1,o1,s1⟩=>by
  by_cases z:i=j
  .subst z
   by_cases hl:i<ρ.length
   .rw [n_ hl] at e1;cases e1;cases o1
   .rw [z_ (by rw [length_set];omega)] at e1;cases e1
  .rw [j_ z] at e1 s1;exact⟨j,p,e1,o1,s1⟩
 exact k _ _ q o.put.1 (F.put hf hi o.put.2) ow
def cr{g:TG}{pg:PTG}{gs:TGs}{pgs:wu}(hg:LGd K fs g pg)(h:LGs K fs gs pgs):LGs K fs (pQ g gs) (n4 pg pgs):=λfx A R H0 ρ σ H ds vs Q Q' hf F r fv q k=>by
 unfold n4 at q
 split at q
 .cases fv with
  | cons a b =>
   exact⟨_,_,rfl,hg fx A R H0 ρ σ H _ _ _ _ hf F r a q λρ1 σ1 q1 r1 F1 w1=>h fx A R H0 ρ1 σ1 H _ _ _ _ hf F1 r1 (b.keeps (aA.less λb z=>z.imp id (w1 b))) q1 λρ2 σ2 q2 r2 F2 w2=>k ρ2 σ2 q2 r2 F2 λb z=>w1 b (w2 b z)⟩
 .exact q.elim
end
noncomputable def LS(K:b_)(fs:List Nat)(ts:TS)(ps:PTS):Prop:=∀(fx:List (Nat×V)) (A R:Addr->Prop) (H0:Hp) (ρ:PSt) (σ:St) (H:Hp) (D:uI) (D':tG),fx.map v_=fs->Rel K A ρ σ H->bY fx R H0 ρ σ H->ps D ρ ->
 (∀ρ' σ' H',D.nx ρ'->Rel K A ρ' σ' H'->bY fx R H0 ρ' σ' H'->D'.nx σ' H') ->
 (∀v p ρ' σ' H',D.rt p ρ'->Out K A ρ' σ' H0 H' p v->bY fx R H0 ρ' σ' H'->D'.rt v H') ->
 (∀ρ' σ' H',D.bk ρ'->Rel K A ρ' σ' H'->bY fx R H0 ρ' σ' H'->D'.bk σ' H') ->
 (∀ρ' σ' H',D.ct ρ'->Rel K A ρ' σ' H'->bY fx R H0 ρ' σ' H'->D'.ct σ' H')->ts D' σ H
def dJ:PTS:=λD ρ=>D.nx ρ
noncomputable def fk(a b:PTS):PTS:=λD ρ=>a { D with nx:=b D } ρ
noncomputable def Cv(pe:PTE):PTS:=λD ρ=>pe ρ λ_ ρ1=>D.nx ρ1
def Cw(pe:PTE):PTS:=λD ρ=>pe ρ D.rt
noncomputable def pL(t:PTT)(a b:PTS):PTS:=λD ρ=>t ρ λc ρ1=>gE c (a D ρ1) (b D ρ1)
noncomputable def gA(pe:PTE)(g:PTG):PTS:=λD ρ=>pe ρ λp ρ1=>g p ρ1 D.nx
noncomputable def dL(a:PTS):PTS:=λD ρ=>∃J:PSt->Prop,a { D with nx:=J } ρ/\∀ρ',J ρ'->D.nx ρ'
section
variable {K:b_}{fs:List Nat}{ta tb:TS}{pa pb:PTS}{te:TE}{pe:PTE}{tt:TT}{pt:PTT}
def aJ:LS K fs zl dJ:=λfx A R H0 ρ σ H D D' hf r F q k1 k2 k3 k4=>k1 _ _ _ q r F
def au(ha:LS K fs ta pa)(hb:LS K fs tb pb):LS K fs (yh ta tb) (fk pa pb):=λfx A R H0 ρ σ H D D' hf r F q k1 k2 k3 k4 =>
 ha fx A R H0 ρ σ H _ _ hf r F q (λρ1 σ1 H1 q1 r1 F1=>hb fx A R H0 ρ1 σ1 H1 _ _ hf r1 F1 q1 k1 k2 k3 k4) k2 k3 k4
def gX(h:LE K te pe):LS K fs (zo te) (Cv pe):=λfx A R H0 ρ σ H D D' hf r F q k1 k2 k3 k4=>h A ρ σ H _ _ r q λv H1 p ρ1 q1 f1 o1=>k1 _ _ _ q1 o1.frz.1 (F.fr f1)
def aR(h:LE K te pe):LS K fs (Ee te) (Cw pe):=λfx A R H0 ρ σ H D D' hf r F q k1 k2 k3 k4=>h A ρ σ H _ _ r q λv H1 p ρ1 q1 f1 o1=>k2 v p ρ1 σ H1 q1 (o1.h0 F.dm) (F.fr f1)
def bU(ht:LT K tt pt)(ha:LS K fs ta pa)(hb:LS K fs tb pb):LS K fs (Ef tt ta tb) (pL pt pa pb):=λfx A R H0 ρ σ H D D' hf r F q k1 k2 k3 k4=>ht A ρ σ H _ _ r q λc H1 ρ1 q1 f1 r1=>by
 cases c with
 | true=>exact ha fx A R H0 ρ1 σ H1 D D' hf r1 (F.fr f1) q1 k1 k2 k3 k4
 | false=>exact hb fx A R H0 ρ1 σ H1 D D' hf r1 (F.fr f1) q1 k1 k2 k3 k4
def aC{g:TG}{pg:PTG}(h:LE K te pe)(hg:LG K fs g pg):LS K fs (wq te g) (gA pe pg):=λfx A R H0 ρ σ H D D' hf r F q k1 k2 k3 k4=>h A ρ σ H _ _ r q λv H1 p ρ1 q1 f1 o1 =>
 hg fx A R H0 ρ1 σ H1 p v _ _ hf (F.fr f1) (o1.h0 F.dm) q1 k1
def bZ(h:LS K fs ta pa):LS K fs (Cc ta) (dL pa):=λfx A R H0 ρ σ H D D' hf r F q k1 k2 k3 k4=>by
 obtain⟨J,q1,q2⟩:=q;refine⟨λσ' H'=>∃ρ',J ρ'/\Rel K A ρ' σ' H'/\bY fx R H0 ρ' σ' H',?_,λσ' H' ⟨ρ',j,r',F'⟩=>k1 ρ' σ' H' (q2 ρ' j) r' F'⟩;exact h fx A R H0 ρ σ H _ _ hf r F q1 (λρ' σ' H' j r' F'=>⟨ρ',j,r',F'⟩) k2 k3 k4
end
noncomputable def lv(K:b_)(tl:TE):TI:=λσ H R=>tl σ H λx H1=>(∃k a xs,x=.ref a/\Sq k K H1 a xs/\R (Itk k K a) H1)\/∃l,x=.str (S l)/\R (Its (fS l)) H1
section
variable {X:Cx}{tg:Expr}
def zX{l:Expr}{tl:TE}(hl:PE X l tl):PI X tg l (lv X.K tl):=by
 intro pins s σ H R I h;refine thn (hl pins s σ H _ I h) λv s1 ⟨x,H1,I1,r1,q1⟩=>?_
 have fin:∀b∈[s1.heap.objs.size],pS X pins H1 b:=λb hb=>by
  have e:b=s1.heap.objs.size:=by simpa using hb
  subst e;exact I1.fpOk (g_ _) (I1.hok.fresh (g_ _))
 rcases q1 with ⟨k,a,xs,e,hq,q⟩|⟨l,e,q⟩
 .subst e;cases r1
  cases k with
  | false =>
   obtain⟨its,rv,p,hz⟩:=I1.list hq;refine IK p.isList ?_;exact⟨s1.heap.objs.size,[s1.heap.objs.size],_,_,H1,rfl,I1.kept (t':=s1.toks) λb o e=>f_ _ e,tP a _,⟨_,p_ _ rfl,rfl,rfl⟩,fin,q⟩
  | true =>
   obtain⟨its,rv,p,hz⟩:=I1.tuple hq;refine Kt (show s1.heap.IsTuple a its.toArray from p) ?_;exact⟨s1.heap.objs.size,[s1.heap.objs.size],_,_,H1,rfl,I1.kept (t':=s1.toks) λb o e=>f_ _ e,r8 a _,⟨_,p_ _ rfl,rfl,rfl⟩,fin,q⟩
 .subst e;obtain⟨t,rfl⟩:=r1
  have hv:∀i v,i<(S l).cps.size->SignAt (S l) i v->∃x,(fS l)[i]?=some x/\bS x v:=λi v _ ⟨c,u,hc,e⟩=>by
   subst e;have hc':l[i]?=some c:=by simpa [S] using hc
   exact⟨.str (S [c]),by unfold fS;rw [i_,hc'];rfl,u,rfl⟩
  have hsc:∀i v,SignAt (S l) i v->∀a,v≠.ref a:=λi v ⟨c,u,hc,e⟩ a z=>by subst e;cases z
  have hn:(fS l).length=(S l).cps.size:=by rw [iV];simp [S]
  have hobj:∀ty i (h:Heap),h.IsStrIter s1.heap.objs.size ty (S l) t i->∃o,h.get? s1.heap.objs.size=some o/\∀v,o.data≠.cell v:=λty i h ⟨o,ho,_,hd⟩=>⟨o,ho,λv z=>by rw [hd] at z;cases z⟩
  have hfr:∀ty i (h h':Heap),h.IsStrIter s1.heap.objs.size ty (S l) t i->(∀b∈[s1.heap.objs.size],∀o,h.get? b=some o->h'.get? b=some o)->h'.IsStrIter s1.heap.objs.size ty (S l) t i:=λty i h h' ⟨o,ho,r⟩ k=>⟨o,k _ (by simp) o ho,r⟩
  cases ha:(S l).cps.all (·<128)
  .refine wpAny_pyIter_wide ha ⟨s1.heap.objs.size,[s1.heap.objs.size],_,Its (fS l),H1,rfl,I1.kept (t':=s1.toks) λb o e=>f_ _ e,
    nN (λA hA=>Walks.strWide hA _ (S l) t) hn hv hsc (hobj _) (hfr _) (λA i s Q E st q=>wpAny_pyIter_striter_wide st q),⟨_,p_ _ rfl,rfl,rfl⟩,fin,q⟩
  .refine wpAny_pyIter_ascii ha ⟨s1.heap.objs.size,[s1.heap.objs.size],_,Its (fS l),H1,rfl,I1.kept (t':=s1.toks) λb o e=>f_ _ e,
    nN (λA hA=>Walks.strAscii hA _ (S l) t) hn hv hsc (hobj _) (hfr _) (λA i s Q E st q=>wpAny_pyIter_striter_ascii st q),⟨_,p_ _ rfl,rfl,rfl⟩,fin,q⟩
def cg(K:b_)(e:X.K=K){l:Expr}{tl:TE}(hl:PE X l tl):PI X tg l (lv K tl):=by subst e;exact zX hl
end
abbrev PTI:=PSt->(Nat->(Nat->D)->PSt->Prop)->Prop
noncomputable def Wlk(K:b_)(O:Addr->Prop)(H:Hp)(J:It)(n:Nat)(it:Nat->D):Prop:=∀(O':Addr->Prop) (H':Hp),aA O H O' H'->(∀b,O' b->H' b≠none) ->
 (∀k,k<n->J.go k H'/\∀x H'',J.yld k H' x H''->Gr H' H''/\FV K O' H'' x (it k))/\J.stop n H'
noncomputable def LI(K:b_)(wi:TI)(pi:PTI):Prop:=∀(A:Addr->Prop) (ρ:PSt) (σ:St) (H:Hp) (Q:Nat->(Nat->D)->PSt->Prop) (Q':It->Hp->Prop),Rel K A ρ σ H->pi ρ Q ->
 (∀J H' n it ρ',Q n it ρ'->Fr ρ σ H ρ' H'->Rel K A ρ' σ H'->Wlk K (OO A ρ' σ) H' J n it->Q' J H')->wi σ H Q'
noncomputable def itD(ds:List D)(k:Nat):D:=ds.getD k .non
def uJ{ds:List D}{k:Nat}(h:k<ds.length):ds[k]?=some (itD ds k):=by unfold itD;rw [e_,d_ h];rfl
def lZ{ds:List D}{k:Nat}{d:D}(h:ds[k]?=some d):itD ds k=d:=by unfold itD;rw [e_,h];rfl
noncomputable def E5:D->Option (Nat×(Nat->D))
 | .lst ds=>some (ds.length,itD ds)
 | .tup ds=>some (ds.length,itD ds)
 | .scr ns=>some (ns.length,λk=>.int (ns.getD k 0))
 | .str l=>some (l.length,λk=>.str [l.getD k 0])
 | _=>none
noncomputable def E6(pe:PTE):PTI:=λρ Q=>pe ρ λp ρ1=>match E5 p.d with
 | some (n,it)=>Q n it ρ1
 | none=>False
section
variable {K:b_}{te:TE}{pe:PTE}{ta:TA}{pa:PTA}
def FV.row{O:Addr->Prop}{H:Hp}{v:V}{d:D}{n:Nat}{it:Nat->D}(h:FV K O H v d)(e:E5 d=some (n,it)) :
  (∃k a xs,v=.ref a/\xs.length=n/\(∀O' H',aA O H O' H'->Sq k K H' a xs/\∀j x,xs[j]?=some x->FV K O' H' x (it j)))\/∃l,v=.str (S l)/\l.length=n/\(∀k,it k=.str [l.getD k 0]):=by
 cases h with
 | lst nn e0 f =>
  cases e;refine .inl ⟨false,_,_,rfl,f.length,λO' H' k=>⟨SqL.of (k _ _ nn e0).2,λj x hx=>?_⟩⟩;obtain⟨d,hd,fd⟩:=f.get hx;rw [lZ hd];exact fd.keeps k
 | tup nn e0 f =>
  cases e;refine .inl ⟨true,_,_,rfl,f.length,λO' H' k=>⟨SqT.of (k _ _ nn e0).2,λj x hx=>?_⟩⟩;obtain⟨d,hd,fd⟩:=f.get hx;rw [lZ hd];exact fd.keeps k
 | scr s =>
  cases e;refine .inl ⟨false,_,_,rfl,length_map _,λO' H' k=>⟨(s.keeps k).sq,λj x hx=>?_⟩⟩;obtain⟨z,hz,rfl⟩:=wQ hx;show FV K O' H' (V.int z) (D.int (List.getD _ j 0));rw [e_,hz];exact .int z
 | str l hl=>cases e;exact .inr ⟨l,rfl,rfl,λ_=>rfl⟩
 | non=>cases e
 | bl b=>cases e
 | int i=>cases e
 | ty n=>cases e
 | dic _ _ _ _=>cases e
 | fdc _ _ _ _=>cases e
 | obj _ _ _ _=>cases e
 | exc0 _ _=>cases e
 | exc1 _ _ _ _ _ _=>cases e
def cO(h:LE K te pe):LI K (lv K te) (E6 pe):=λA ρ σ H Q Q' R q k=>h A ρ σ H _ _ R q λv H1 p ρ1 q1 f1 o1=>by
 obtain⟨R1,fv⟩:=o1.frz
 split at q1
 .rename_i n it e
  rcases fv.row e with ⟨b,a,xs,rfl,hl,hr⟩|⟨l,rfl,hl,hi⟩
  .refine .inl ⟨b,a,xs,rfl,(hr _ H1 (λb o n h=>⟨n,h⟩)).1,k _ H1 n it ρ1 q1 f1 R1 λO' H' kk dom=>?_⟩;obtain⟨sq,hx⟩:=hr O' H' kk
   cases b with
   | false =>
    refine⟨λj hj=>⟨⟨xs,_,sq,d_ (by rw [hl];exact hj)⟩,λx H'' ⟨e,y⟩=>?_⟩,⟨xs,sq,by rw [hl];exact g_ _⟩⟩;subst e;exact⟨Gr.refl _,hx j x (y xs sq)⟩
   | true =>
    refine⟨λj hj=>⟨⟨xs,_,sq,d_ (by rw [hl];exact hj)⟩,λx H'' ⟨e,y⟩=>?_⟩,⟨xs,sq,by rw [hl];exact g_ _⟩⟩;subst e;exact⟨Gr.refl _,hx j x (y xs sq)⟩
  .refine .inr ⟨l,rfl,k _ H1 n it ρ1 q1 f1 R1 λO' H' kk dom=>?_⟩;refine⟨λj hj=>⟨by show j<(fS l).length;rw [iV,hl];exact hj,λx H'' ⟨e,y⟩=>?_⟩,by show (fS l).length=n;rw [iV,hl]⟩;subst e;obtain⟨c,hc,rfl⟩:=sv y;rw [hi,e_,hc];exact⟨Gr.refl _,.str _ (by show 1<=1000000;decide)⟩
 .exact q1.elim
noncomputable def GZ(pa:PTA):PTI:=λρ Q=>pa ρ λas ρ1=>match as with
 | [.v (.int j)]=>(-(2^60)<=j/\j<2^60)/\Q j.toNat (λk=>.int (k:Int)) ρ1
 | _=>False
def E7{O:Addr->Prop}{H:Hp}{lo:Int}{n:Nat}{it:Nat->D}(h:∀k:Nat,it k=.int (lo+k)):Wlk K O H (Itr lo n) n it:=λO' H' _ _ =>
 ⟨λj hj=>⟨hj,λx H'' ⟨e,y⟩=>by subst e y;rw [h];exact⟨Gr.refl _,.int _⟩⟩,g_ _⟩
def iz(h:LAs K ta pa):LI K (ny ta) (GZ pa):=λA ρ σ H Q Q' R q k=>h A ρ σ H _ _ R q λvs H1 as ρ1 q1 f1 R1 o1=>by
 split at q1
 .rename_i j
  cases o1 with
  | cons a b =>
   cases b;cases a;exact⟨j,rfl,by omega,by omega,k _ H1 _ _ ρ1 q1.2 f1 R1 (E7 λk=>by rw [K8])⟩
 .exact q1.elim
noncomputable def rowD:D->Option (List D)
 | .lst ds=>some ds
 | .tup ds=>some ds
 | .scr ns=>some (ns.map .int)
 | _=>none
def FV.rowD{O:Addr->Prop}{H:Hp}{v:V}{d:D}{ds:List D}(h:FV K O H v d)(e:L2.rowD d=some ds) :
  ∃k a xs,v=.ref a/\xs.length=ds.length/\(∀O' H',aA O H O' H'->Sq k K H' a xs/\FVs K O' H' xs ds):=by
 cases h with
 | lst nn e0 f=>cases e;exact⟨false,_,_,rfl,f.length,λO' H' k=>⟨SqL.of (k _ _ nn e0).2,f.keeps k⟩⟩
 | tup nn e0 f=>cases e;exact⟨true,_,_,rfl,f.length,λO' H' k=>⟨SqT.of (k _ _ nn e0).2,f.keeps k⟩⟩
 | scr s=>cases e;exact⟨false,_,_,rfl,by rw [length_map,length_map],λO' H' k=>⟨(s.keeps k).sq,FVs.of_ints _⟩⟩
 | str l hl=>cases e
 | non=>cases e
 | bl b=>cases e
 | int i=>cases e
 | ty n=>cases e
 | dic _ _ _ _=>cases e
 | fdc _ _ _ _=>cases e
 | obj _ _ _ _=>cases e
 | exc0 _ _=>cases e
 | exc1 _ _ _ _ _ _=>cases e
noncomputable def Cy(pa:PTA):PTI:=λρ Q=>pa ρ λas ρ1=>match as with
 | [.v a]=>(match rowD a with
  | some xs=>Q xs.length (λk=>.tup [.int (k:Int),itD xs k]) ρ1
  | _=>False)
 | _=>False
def uK(h:LAs K ta pa):LI K (xh K ta) (Cy pa):=λA ρ σ H Q Q' R q k=>h A ρ σ H _ _ R q λvs H1 as ρ1 q1 f1 R1 o1=>by
 split at q1
 .rename_i da
  cases o1 with
  | cons o1 o3 =>
   cases o3
   split at q1
   .rename_i xs ex;obtain⟨b1,a1,us,rfl,l1,w1⟩:=FV.rowD (show FV K _ H1 _ da from o1) ex;have t1:=w1 _ H1 (λb o n h=>⟨n,h⟩);refine⟨b1,a1,rfl,⟨us,t1.1⟩,k _ H1 _ _ ρ1 q1 f1 R1 λO' H' kk dom=>?_⟩;obtain⟨s1,g1⟩:=w1 O' H' kk;refine⟨λj hj=>?_,⟨us,s1,by omega⟩⟩;have h1:j<us.length:=by omega
    refine⟨⟨us,_,s1,d_ h1⟩,λx H'' ⟨T,u,hT,e,y1,e2⟩=>?_⟩;subst e e2;obtain⟨d1,hd1,fd1⟩:=g1.get (y1 us s1);have e1:itD xs j=d1:=by unfold itD;rw [e_,hd1];rfl
    rw [e1];have kk2:aA O' H' O' (upd H' T (.tup [.int (j:Int),u])):=λb o n e=>⟨n,by rw [ak (aK e hT)];exact e⟩
    exact⟨Gr.new hT,.tup (λz=>dom T z hT) aw (.cons (.int _) (.cons (fd1.keeps kk2) .nil))⟩
   .exact q1.elim
 .exact q1.elim
end
noncomputable def Cz(pi:PTI)(g:PTG)(pb:PTS):PTS:=λD ρ=>pi ρ λn it ρ1=>∃I:Nat->PSt->Prop,I 0 ρ1/\(∀k ρ d,k<n->d=it k->I k ρ->g (.dat d) ρ λρ2=>pb { D with nx:=I (k+1),ct:=I (k+1),bk:=D.nx } ρ2)/\∀ρ,I n ρ->D.nx ρ
noncomputable def zY(pt:PTT)(pb:PTS):PTS:=λD ρ=>∃I:Nat->PSt->Prop,(∃m,I m ρ)/\∀m ρ,I m ρ->pt ρ λb ρ1=>gE b (pb { D with nx:=λρ'=>∃m',m'<m/\I m' ρ',ct:=λρ'=>∃m',m'<m/\I m' ρ',bk:=D.nx } ρ1) (D.nx ρ1)
section
variable {K:b_}{fs:List Nat}{wi:TI}{pi:PTI}{g:TG}{pg:PTG}{tb:TS}{pb:PTS}{tt:TT}{pt:PTT}
def dM(hi:LI K wi pi)(hg:LGd K fs g pg)(hb:LS K fs tb pb):LS K fs (Eh wi g tb) (Cz pi pg pb):=λfx A R H0 ρ σ H D D' hf r F q k1 k2 k3 k4=>hi A ρ σ H _ _ r q λJ H1 n it ρ1 q1 f1 r1 W=>by
 obtain⟨I,i0,turn,after⟩:=q1;have F1:=F.fr f1;refine⟨λi m σ' H'=>i+m=n/\∃ρ',I i ρ'/\Rel K A ρ' σ' H'/\bY fx (Wr ρ1 σ) H1 ρ' σ' H',⟨n,Kj n,ρ1,i0,r1,bY.start F1.fx⟩,λi m σ' H' ⟨him,ρ',iv,r',F'⟩=>?_⟩;obtain⟨go,stop⟩:=W _ H' F'.keeps r'.dom2
 by_cases hk:i<n
 .obtain⟨g1,g2⟩:=go i hk;refine .inr ⟨g1,λσ'' H''=>∃ρ'',I (i+1) ρ''/\Rel K A ρ'' σ'' H''/\bY fx (Wr ρ1 σ) H1 ρ'' σ'' H'',λσ'' H'' z=>⟨m - 1,by omega,by omega,z⟩,λx H'' y=>?_⟩;obtain⟨gr,fv⟩:=g2 x H'' y;refine hg fx A (Wr ρ1 σ) H1 ρ' σ' H'' _ x _ _ hf (F'.fr gr.fr) (r'.gr gr) fv (turn i ρ' _ hk rfl iv) λρ2 σ2 q2 r2 F2 _=>?_;refine hb fx A (Wr ρ1 σ) H1 ρ2 σ2 H'' _ _ hf r2 F2 q2 (λρ3 σ3 H3 q3 r3 F3=>⟨ρ3,q3,r3,F3⟩) (λv p ρ3 σ3 H3 q3 o3 F3=>k2 v p ρ3 σ3 H3 q3 (o3.h0 F1.dm) (F1.trans F3 F3.fx)) (λρ3 σ3 H3 q3 r3 F3=>k1 ρ3 σ3 H3 q3 r3 (F1.trans F3 F3.fx)) (λρ3 σ3 H3 q3 r3 F3=>⟨ρ3,q3,r3,F3⟩)
 .have e:i=n:=by omega
  subst e;exact .inl ⟨stop,k1 ρ' σ' H' (after ρ' iv) r' (F1.trans F' F'.fx)⟩
def mK(ht:LT K tt pt)(hb:LS K fs tb pb):LS K fs (yj tt tb) (zY pt pb):=λfx A R H0 ρ σ H D D' hf r F q k1 k2 k3 k4=>by
 obtain⟨I,⟨m0,i0⟩,turn⟩:=q;refine⟨λm σ' H'=>∃ρ',I m ρ'/\Rel K A ρ' σ' H'/\bY fx R H0 ρ' σ' H',⟨m0,ρ,i0,r,F⟩,λm σ' H' ⟨ρ',iv,r',F'⟩=>?_⟩;refine ht A ρ' σ' H' _ _ r' (turn m ρ' iv) λb H1 ρ1 q1 f1 r1=>?_
 cases b with
 | true =>
  refine⟨λσ'' H''=>∃ρ'' m',m'<m/\I m' ρ''/\Rel K A ρ'' σ'' H''/\bY fx R H0 ρ'' σ'' H'',λσ'' H'' ⟨ρ'',m',h1,h2⟩=>⟨m',h1,ρ'',h2⟩,?_⟩;exact hb fx A R H0 ρ1 σ' H1 _ _ hf r1 (F'.fr f1) q1 (λρ3 σ3 H3 ⟨m',h1,h2⟩ r3 F3=>⟨ρ3,m',h1,h2,r3,F3⟩) k2 k1 (λρ3 σ3 H3 ⟨m',h1,h2⟩ r3 F3=>⟨ρ3,m',h1,h2,r3,F3⟩)
 | false=>exact k1 ρ1 σ' H1 q1 r1 (F'.fr f1)
end
noncomputable def b7(ix:List (Option Nat))(ρ:PSt):PSt:=ix.map λo=>match o with
 | none=>none
 | some j=>match ρ[j]? with
  | some v=>v
  | none=>none
noncomputable def dB:List (Option Nat)->PSt->PSt->PSt
 | some j::ix,ρ,t::τ=>dB ix (ρ.set j t) τ
 | none::ix,ρ,_::τ=>dB ix ρ τ
 | _,ρ,_=>ρ
noncomputable def xk:List (Option Nat)->Bool
 | []=>true
 | none::r=>xk r
 | some j::r=>!r.contains (some j) && xk r
theorem iA:∀(ix:List (Option Nat)) (ρ τ:PSt),(dB ix ρ τ).length=ρ.length
 | [],ρ,τ=>by unfold dB;rfl
 | some j::ix,ρ,t::τ=>by show (dB ix (ρ.set j t) τ).length=_;rw [iA ix,length_set]
 | none::ix,ρ,t::τ=>by show (dB ix ρ τ).length=_;exact iA ix ρ τ
 | some j::ix,ρ,[]=>by unfold dB;rfl
 | none::ix,ρ,[]=>by unfold dB;rfl
theorem gn:∀(ix:List (Option Nat)) (ρ τ:PSt) (j:Nat),some j∉ix->(dB ix ρ τ)[j]?=ρ[j]?
 | [],ρ,τ,j,_=>by unfold dB;rfl
 | some i::ix,ρ,t::τ,j,h=>by
  show (dB ix (ρ.set i t) τ)[j]?=_;rw [gn ix _ τ j (λz=>h (q_ _ z)),j_ (λz=>h (by rw [z];exact mem_cons_self ..))]
 | none::ix,ρ,t::τ,j,h=>by show (dB ix ρ τ)[j]?=_;exact gn ix ρ τ j λz=>h (q_ _ z)
 | some i::ix,ρ,[],j,_=>by unfold dB;rfl
 | none::ix,ρ,[],j,_=>by unfold dB;rfl
theorem ko:∀(ix:List (Option Nat)) (ρ τ:PSt) (j k:Nat),xk ix=true->ix[k]?=some (some j)->k<τ.length->j<ρ.length->(dB ix ρ τ)[j]?=τ[k]?
 | some i::ix,ρ,t::τ,j,k,h,e,hk,hj=>by
  have h:(!ix.contains (some i) && xk ix)=true:=h;rw [and_eq_true] at h;show (dB ix (ρ.set i t) τ)[j]?=_
  cases k with
  | zero =>
   have e:some (some i)=some (some j):=e;cases e
   have hn:some i∉ix:=λz=>by
    have:=h.1;rw [t_.mpr z] at this;cases this
   rw [gn ix _ τ i hn,n_ hj];rfl
  | succ k =>
   have e:ix[k]?=some (some j):=by simpa using e
   rw [ko ix _ τ j k h.2 e (by simpa using hk) (by rw [length_set];exact hj)];simp
 | none::ix,ρ,t::τ,j,k,h,e,hk,hj=>by
  show (dB ix ρ τ)[j]?=_
  cases k with
  | zero=>cases e
  | succ k =>
   have e:ix[k]?=some (some j):=by simpa using e
   rw [ko ix _ τ j k h e (by simpa using hk) hj];simp
 | [],ρ,τ,j,k,h,e,hk,hj=>by simp at e
 | some i::ix,ρ,[],j,k,h,e,hk,hj=>absurd hk (HZ _)
 | none::ix,ρ,[],j,k,h,e,hk,hj=>absurd hk (HZ _)
theorem iB:∀{ix:List (Option Nat)}{k l j:Nat},xk ix=true->ix[k]?=some (some j)->ix[l]?=some (some j)->k=l
 | some i::ix,k,l,j,h,e1,e2=>by
  have h:(!ix.contains (some i) && xk ix)=true:=h;rw [and_eq_true] at h
  have no:∀m,ix[m]?≠some (some i):=λm z=>by
   have:=h.1;rw [t_.mpr (B_ z)] at this;cases this
  cases k with
  | zero =>
   have e1:some (some i)=some (some j):=e1;cases e1
   cases l with
   | zero=>rfl
   | succ l=>exact absurd (by simpa using e2) (no l)
  | succ k =>
   cases l with
   | zero =>
    have e2:some (some i)=some (some j):=e2;cases e2;exact absurd (by simpa using e1) (no k)
   | succ l=>rw [iB (k:=k) (l:=l) h.2 (by simpa using e1) (by simpa using e2)]
 | none::ix,k,l,j,h,e1,e2=>by
  cases k with
  | zero=>cases e1
  | succ k =>
   cases l with
   | zero=>cases e2
   | succ l=>rw [iB (ix:=ix) (k:=k) (l:=l) (j:=j) h (by simpa using e1) (by simpa using e2)]
 | [],k,l,j,h,e1,e2=>by simp at e1
def ck{ix:List (Option Nat)}{ρ:PSt}{k:Nat}{p:PV}(h:(b7 ix ρ)[k]?=some (some p)):∃j,ix[k]?=some (some j)/\ρ[j]?=some (some p):=by
 unfold b7 at h;rw [i_] at h
 cases e:ix[k]? with
 | none=>rw [e] at h;cases h
 | some o =>
  rw [e] at h
  cases o with
  | none=>cases h
  | some j =>
   refine⟨j,rfl,?_⟩;have h:some (match ρ[j]? with|some v=>v|none=>none)=some (some p):=h
   cases e2:ρ[j]? with
   | none=>rw [e2] at h;cases h
   | some v=>rw [e2] at h;exact h
def cu{ix:List (Option Nat)}{σ:St}{k j:Nat}{v:V}(h:ix[k]?=some (some j))(e:σ[j]?=some (some v)):(nP ix σ)[k]?=some (some v):=by
 unfold nP;rw [i_,h];show some (match σ[j]? with|some v=>v|none=>none)=some (some v);rw [e]
def Rel.amb{K:b_}{A:Addr->Prop}{ρ:PSt}{σ:St}{H:Hp}{a:Addr}{o:HO}(R:Rel K A ρ σ H)(ha:A a):Rel K A ρ σ (upd H a o):=by
 have k:aA (OO A ρ σ) H (OO A ρ σ) (upd H a o):=λb u n e=>⟨n,by rw [ak (λz=>n (by rw [z];exact .inl ha))];exact e⟩
 refine⟨R.len,λi q e=>?_,R.dj,λb z=>?_,R.sep⟩
 .obtain⟨v,s,r⟩:=R.get i q e;refine⟨v,s,r.keeps k λow b eb=>?_⟩;rw [ak];intro z;subst z eb;exact R.sep b ha ⟨i,q,e,ow,s⟩
 .by_cases z':b=a
  .rw [z',aw];exact nofun
  .rw [ak z'];exact R.dom b z
noncomputable def CA(ix:List (Option Nat))(ρ:PSt):Bool:=ix.all λo=>match o with|none=>true|some j=>(match ρ[j]? with|some (some _)=>true|_=>false)
structure n5 (ix:List (Option Nat)) (ρ1:PSt) (n:Nat) (it:Nat->D) (g:PTG) (pt:PTT) (pe:PTE) (Q:PKt):Prop where
 ex:∃I:Nat->List D->PSt->Prop,I 0 [] (b7 ix ρ1) /\
  (∀k ys τ d,k<n->d=it k->I k ys τ->g (.dat d) τ λτ2=>pt τ2 λok τ3=>gE ok (pe τ3 λp τ4=>I (k+1) (ys++[p.d]) τ4) (I (k+1) ys τ3))/\∀ys τ,I n ys τ->Q (.own ys) (dB ix ρ1 τ)
noncomputable def E8(ix:List (Option Nat))(pi:PTI)(g:PTG)(pt:PTT)(pe:PTE):PTE:=λρ Q=>pi ρ λn it ρ1=>CA ix ρ1=true/\n<=1000000/\n5 ix ρ1 n it g pt pe Q
def D4:PTT:=λρ Q=>Q true ρ
def cm{K:b_}:LT K iS D4:=λA ρ σ H Q Q' R q k=>k true H ρ q (Fr.refl _ _ _) R
noncomputable def uL(ix:List (Option Nat)):List Nat:=(gV ix.length).filter λk=>(ix.getD k none).isSome
def bR{K:b_}{ix:List (Option Nat)}{wi:TI}{pi:PTI}{g:TG}{pg:PTG}{tts:TT}{pt:PTT}{te:TE}{pe:PTE}(hix:xk ix=true)(hi:LI K wi pi)(hg:∀fs:List Nat,(∀k∈fs,k∈uL ix)->LGd K fs g pg)(ht:LT K tts pt)(he:LE K te pe) :
  LE K (nR ix wi g tts te) (E8 ix pi pg pt pe):=λA ρ σ H Q Q' R q k=>hi A ρ σ H _ _ R q λJ H1 n it ρ1 q1 f1 R1 W D hD=>by
 obtain⟨hcap,hn,⟨I,i0,turn,after⟩⟩:=q1
 let τρ0:=b7 ix ρ1
 let τσ0:=nP ix σ
 let Ai:Addr->Prop:=λb=>A b\/b=D\/(Wr ρ1 σ b/\¬ Wr τρ0 τσ0 b)
 let H0':=upd H1 D (.lst [])
 have wsub:∀b,Wr τρ0 τσ0 b->Wr ρ1 σ b:=λb ⟨m,p,e,o,s⟩=>by
  obtain⟨j,h1,h2⟩:=ck e;obtain⟨v,hv,_⟩:=R1.get j p h2;have:=cu h1 hv;rw [s] at this;cases this;exact⟨j,p,h2,o,hv⟩
 have nD:¬ Wr ρ1 σ D:=λz=>R1.wr z hD
 have oosub:∀b,OO Ai τρ0 τσ0 b->OO A ρ1 σ b\/b=D:=λb z=>by
  rcases z with (z|z|z)|z
  .exact .inl (.inl z)
  .exact .inr z
  .exact .inl (.inr z.1)
  .exact .inl (.inr (wsub b z))
 have kD:aA (OO A ρ1 σ) H1 (OO Ai τρ0 τσ0) H0':=λb o nn e=>by
  refine⟨λz=>?_,?_⟩
  .rcases oosub b z with z|z
   .exact nn z
   .rw [z,hD] at e;cases e
  .rw [show H0' b=H1 b from ak (aK e hD)];exact e
 have Ri:Rel K Ai τρ0 τσ0 H0':=by
  refine⟨by show (b7 ix ρ1).length=(nP ix σ).length;unfold b7 nP;rw [length_map,length_map],λm p e=>?_,λm l p q v e1 e2 o1 o2 s1 s2=>?_,λb z=>?_,λb z w=>?_⟩
  .obtain⟨j,h1,h2⟩:=ck e;obtain⟨v,hv,r⟩:=R1.get j p h2;refine⟨v,cu h1 hv,r.keeps kD λow a ea=>?_⟩;subst ea;exact ak (λz=>nD (by rw [<- z];exact⟨j,p,h2,ow,hv⟩))
  .obtain⟨j,h1,h2⟩:=ck e1;obtain⟨j',h3,h4⟩:=ck e2;obtain⟨v1,hv1,_⟩:=R1.get j p h2;obtain⟨v2,hv2,_⟩:=R1.get j' q h4;have t1:=cu h1 hv1;have t2:=cu h3 hv2;rw [s1] at t1;rw [s2] at t2;cases t1;cases t2;have:=R1.dj j j' p q _ h2 h4 o1 o2 hv1 hv2;subst this;exact iB hix h1 h3
  .rcases z with z|z|z
   .intro e
    by_cases zz:b=D
    .exact R1.dom b z (by rw [zz];exact hD)
    .rw [show H0' b=H1 b from ak zz] at e;exact R1.dom b z e
   .rw [z];show upd H1 D _ D≠none;rw [aw];exact nofun
   .intro e;rw [show H0' b=H1 b from ak (λzz=>nD (by rw [<- zz];exact z.1))] at e;exact R1.wr z.1 e
  .rcases z with z|z|z
   .exact R1.sep b z (wsub b w)
   .rw [z] at w;exact nD (wsub D w)
   .exact z.2 w
 let fxi:List (Nat×V):=(uL ix).filterMap λm=>match (τσ0[m]?) with|some (some v)=>some (m,v)|_=>none
 have hfx:∀p∈fxi,τσ0[p.1]?=some (some p.2):=λp hp=>by
  obtain⟨m,hm,e⟩:=IM.mp hp
  split at e
  .rename_i v ev;cases e;exact ev
  .cases e
 have hfs:∀m∈fxi.map v_,m∈uL ix:=λm hm=>by
  obtain⟨p,hp,rfl⟩:=Hx.mp hm;obtain⟨m',hm',e⟩:=IM.mp hp
  split at e
  .cases e;exact hm'
  .cases e
 have hgi:=hg (fxi.map v_) hfs
 have fxget:∀(m j:Nat) (v:V),ix[m]?=some (some j)->σ[j]?=some (some v)->(m,v)∈fxi:=λm j v h1 h2=>by
  refine IM.mpr ⟨m,?_,?_⟩
  .unfold uL;refine Ko.mpr ⟨Hl.mpr (h_.mp h1).1,?_⟩;rw [e_,h1];rfl
  .show (match (nP ix σ)[m]? with|some (some v)=>some (m,v)|_=>none)=_;rw [cu h1 h2]
 let Rr:Addr->Prop:=λb=>Wr τρ0 τσ0 b\/b=D
 have hRr:∀b,Rr b->OO Ai τρ0 τσ0 b:=λb z=>z.elim (λz=>.inr z) (λz=>.inl (.inr (.inl z)));have F0:bY fxi Rr H0' τρ0 τσ0 H0':=⟨λ_ _ _ h=>h,λ_ h=>h,λb w=>.inl (.inl w),hfx⟩
 refine⟨λi m τ H2=>i+m=n/\∃ys τρ xs,I i ys τρ/\ys.length<=i/\Rel K Ai τρ τ H2/\bY fxi Rr H0' τρ τ H2/\H2 D=some (.lst xs)/\FVs K (OO Ai τρ τ) H2 xs ys/\∀b,Wr τρ τ b->Wr τρ0 τσ0 b,
  ⟨n,Kj n,[],τρ0,[],i0,g_ _,Ri,F0,aw,.nil,λ_ h=>h⟩,λi m τ H2 ⟨him,ys,τρ,xs,iv,hy,r2,F2,eD,fD,hw⟩=>?_⟩
 have kk:aA (OO A ρ1 σ) H1 (OO Ai τρ τ) H2:=λb o nn e=>(F2.keepsR hRr) b o (kD b o nn e).1 (kD b o nn e).2;obtain⟨go,stop⟩:=W _ H2 kk r2.dom2
 by_cases hk:i<n
 .obtain⟨g1,g2⟩:=go i hk;refine .inr ⟨g1,λx H3 y=>?_⟩;obtain⟨gr,fv⟩:=g2 x H3 y;have AiD:Ai D:=.inr (.inl rfl);refine hgi fxi Ai Rr H0' τρ τ H3 _ x _ _ rfl (F2.fr gr.fr) (r2.gr gr) fv (turn i ys τρ _ hk rfl iv) λτρ2 τ2 q2 r3 F3 w3=>?_;refine ht Ai τρ2 τ2 H3 _ _ r3 q2 λok H5 τρ3 q3 f5 r5=>?_;have F5:=F3.fr f5;have fD5:FVs K (OO Ai τρ3 τ2) H5 xs ys:=((fD.keeps (gr.fr (ρ:=τρ) (σ:=τ)).keeps).keeps (aA.less λb z=>z.imp id (w3 b))).keeps f5.keeps
  have eD5:H5 D=some (.lst xs):=f5.kp D _ (r3.sep D AiD) (gr D _ eD)
  cases ok with
  | true =>
   refine he Ai τρ3 τ2 H5 _ _ r5 q3 λv H6 p τρ4 q4 f6 o6=>?_;obtain⟨r6,fv6⟩:=o6.frz;have F6:=F5.fr f6;have eD6:H6 D=some (.lst xs):=f6.kp D _ (r5.sep D AiD) eD5;have kw:aA (OO Ai τρ4 τ2) H6 (OO Ai τρ4 τ2) (upd H6 D (.lst (xs++[v]))):=λb o nn e=>⟨nn,by rw [ak (λz=>nn (by rw [z];exact .inl AiD))];exact e⟩
   refine⟨xs,eD6,?_,m - 1,by omega,by omega,ys++[p.d],τρ4,xs++[v],q4,by rw [length_append];show _+1<=_;omega,r6.amb AiD,⟨λb o nn e=>?_,λb z=>?_,F6.ow,F6.fx⟩,aw,((fD5.keeps f6.keeps).append (.cons fv6 .nil)).keeps kw,λb z=>hw b (w3 b (f5.ow b (f6.ow b z)))⟩
   .have:xs.length=ys.length:=fD.length;exact s_ (by omega:xs.length<1000000) (sz _ (g_ _))
   .rw [ak (λz=>nn (.inr z))];exact F6.kp b o nn e
   .by_cases zz:b=D
    .rw [zz,aw];exact nofun
    .rw [ak zz];exact F6.dm b z
  | false=>exact⟨m - 1,by omega,by omega,ys,τρ3,xs,q3,by omega,r5,F5,eD5,fD5,λb z=>hw b (w3 b (f5.ow b z))⟩
 .have e:i=n:=by omega
  subst e;refine .inl ⟨stop,?_⟩;have q':=after ys τρ iv
  have cap:∀(m j:Nat),ix[m]?=some (some j)->∃p v,ρ1[j]?=some (some p)/\σ[j]?=some (some v)/\τ[m]?=some (some v):=λm j e=>by
   have h1:=all_eq_true.mp hcap _ (B_ e);have h1:(match ρ1[j]? with|some (some _)=>true|_=>false)=true:=h1
   split at h1
   .rename_i p ep;obtain⟨v,hv,_⟩:=R1.get j p ep;exact⟨p,v,ep,hv,F2.fx _ (fxget m j v e hv)⟩
   .cases h1
  have get':∀(j:Nat) (p:PV),(dB ix ρ1 τρ)[j]?=some (some p)->(∃m v,ix[m]?=some (some j)/\σ[j]?=some (some v)/\τ[m]?=some (some v)/\τρ[m]?=some (some p))\/(some j∉ix/\ρ1[j]?=some (some p)):=λj p e=>by
   by_cases hj:some j∈ix
   .obtain⟨m,hm,em⟩:=IT hj;have em':ix[m]?=some (some j):=by rw [d_ hm,em]
    obtain⟨p0,v,h1,h2,h3⟩:=cap m j em';rw [ko ix ρ1 τρ j m hix em' (by rw [r2.len];exact (h_.mp h3).1) (h_.mp h1).1] at e;exact .inl ⟨m,v,em',h2,h3,e⟩
   .rw [gn ix ρ1 τρ j hj] at e;exact .inr ⟨hj,e⟩
  have nocap:∀(j:Nat) (p:PV) (b:Addr),some j∉ix->ρ1[j]?=some (some p)->p.isOwn=true->σ[j]?=some (some (.ref b))->¬ Wr τρ0 τσ0 b:=λj p b hj e o s ⟨m,q,e1,o1,s1⟩=>by
   obtain⟨j',h1,h2⟩:=ck e1;obtain⟨v,hv,_⟩:=R1.get j' q h2;have:=cu h1 hv;rw [s1] at this;cases this;have:=R1.dj j j' p q _ e h2 o o1 s hv;subst this;exact hj (B_ h1)
  have w':∀b,Wr (dB ix ρ1 τρ) σ b->Wr τρ τ b\/(Wr ρ1 σ b/\¬ Wr τρ0 τσ0 b):=λb ⟨j,p,e,o,s⟩=>by
   rcases get' j p e with ⟨m,v,h1,h2,h3,h4⟩|⟨hj,h1⟩
   .rw [s] at h2;cases h2;exact .inl ⟨m,p,h4,o,h3⟩
   .exact .inr ⟨⟨j,p,h1,o,s⟩,nocap j p b hj h1 o s⟩
  have oo':∀b,OO (cJ A D) (dB ix ρ1 τρ) σ b->OO Ai τρ τ b:=λb z=>by
   rcases z with (z|z)|z
   .exact .inl (.inl z)
   .exact .inl (.inr (.inl z))
   .rcases w' b z with z|z
    .exact .inr z
    .exact .inl (.inr (.inr z))
  have kp1:∀b o,¬ Wr τρ0 τσ0 b->b≠D->H1 b=some o->H2 b=some o:=λb o n1 n2 e=>F2.kp b o (λz=>z.elim n1 n2) (by rw [show H0' b=H1 b from ak n2];exact e);have k1:aA (OO A ρ1 σ) H1 (OO (cJ A D) (dB ix ρ1 τρ) σ) H2:=λb o nn e=>⟨λz=>(kk b o nn e).1 (oo' b z),(kk b o nn e).2⟩
  have AiD:Ai D:=.inr (.inl rfl)
  have R':Rel K (cJ A D) (dB ix ρ1 τρ) σ H2:=by
   refine⟨by rw [iA];exact R1.len,λj p e=>?_,λj l p q v e1 e2 o1 o2 s1 s2=>?_,λb z=>?_,λb z w=>?_⟩
   .rcases get' j p e with ⟨m,v,h1,h2,h3,h4⟩|⟨hj,h1⟩
    .obtain⟨v',hv',r⟩:=r2.get m p h4;rw [h3] at hv';cases hv';exact⟨v,h2,r.keeps (aA.less oo') λ_ _ _=>rfl⟩
    .obtain⟨v,hv,r⟩:=R1.get j p h1;refine⟨v,hv,r.keeps k1 λow a ea=>?_⟩;subst ea;obtain⟨a',u,e1,e2⟩:=r.ref ow;cases e1;rw [e2];exact kp1 a u (nocap j p a hj h1 ow hv) (λz=>by rw [z,hD] at e2;cases e2) e2
   .rcases get' j p e1 with ⟨m,v1,h1,h2,h3,h4⟩|⟨hj,h1⟩
    .rw [s1] at h2;cases h2
     rcases get' l q e2 with ⟨m',v2,g1,g2,g3,g4⟩|⟨hl,g1⟩
     .rw [s2] at g2;cases g2;have:=r2.dj m m' p q _ h4 g4 o1 o2 h3 g3;subst this;rw [h1] at g1;cases g1;rfl
     .exfalso;obtain⟨v',hv',r⟩:=r2.get m p h4;rw [h3] at hv';cases hv';obtain⟨a,u,ea,_⟩:=r.ref o1;subst ea;exact nocap l q a hl g1 o2 s2 (hw a ⟨m,p,h4,o1,h3⟩)
    .rcases get' l q e2 with ⟨m',v2,g1,g2,g3,g4⟩|⟨hl,g1⟩
     .rw [s2] at g2;cases g2;exfalso;obtain⟨v',hv',r⟩:=r2.get m' q g4;rw [g3] at hv';cases hv';obtain⟨a,u,ea,_⟩:=r.ref o2;subst ea;exact nocap j p a hj h1 o1 s1 (hw a ⟨m',q,g4,o2,g3⟩)
     .exact R1.dj j l p q v h1 g1 o1 o2 s1 s2
   .rcases z with z|z
    .exact r2.dom b (.inl z)
    .rw [z,eD];exact nofun
   .rcases w' b w with w|w
    .rcases z with z|z
     .exact r2.sep b (.inl z) w
     .rw [z] at w;exact r2.sep D AiD w
    .rcases z with z|z
     .exact R1.sep b z w.1
     .rw [z] at w;exact nD w.1
  have f2:Fr ρ1 σ H1 (dB ix ρ1 τρ) H2:=by
   refine⟨λb o nn e=>kp1 b o (λz=>nn (wsub b z)) (λz=>by rw [z,hD] at e;cases e) e,λb z=>F2.dm b ?_,λb z=>?_⟩
   .intro e
    by_cases zz:b=D
    .exact z (by rw [zz];exact hD)
    .rw [show H0' b=H1 b from ak zz] at e;exact z e
   .rcases w' b z with z|z
    .exact wsub b (hw b z)
    .exact z.1
  have hD0:H D=none:=by
   cases e:H D with
   | none=>rfl
   | some o=>exact absurd hD (f1.dm D (by rw [e];exact nofun))
  exact k _ H2 (.own ys) _ q' (f1.trans f2) ⟨D,xs,rfl,λz=>R1.dom D z hD,hD0,eD,R',fD.keeps (aA.less oo')⟩
section
variable {K:b_}{A A':Addr->Prop}{ρ:PSt}{σ:St}{H H':Hp}
def Rel.step(R:Rel K A ρ σ H){i:Nat}{p q:PV}{a:Addr}(e:ρ[i]?=some (some p))(ow:p.isOwn=true)(ow':q.isOwn=true)(es:σ[i]?=some (some (.ref a)))
  (kp:∀b o,b≠a->H b=some o->H' b=some o) (ha:H' a≠none) (h1:∀b,A b->A' b) (h2:∀b,A' b->A b\/H b=none) (dom':∀b,A' b->H' b≠none)
  (new:RS K (OO A' ρ σ) H' q (.ref a)):Rel K A' (ρ.set i (some q)) σ H'/\Fr ρ σ H (ρ.set i (some q)) H':=by
 have hi:i<ρ.length:=(h_.mp e).1;have wa:Wr ρ σ a:=⟨i,p,e,ow,es⟩
 have weq:∀b,Wr (ρ.set i (some q)) σ b ↔ Wr ρ σ b:=λb=>by
  constructor
  .rintro⟨j,r,e1,o1,s1⟩
   by_cases z:i=j
   .subst z;exact⟨i,p,e,ow,s1⟩
   .rw [j_ z] at e1;exact⟨j,r,e1,o1,s1⟩
  .rintro⟨j,r,e1,o1,s1⟩
   by_cases z:i=j
   .subst z;exact⟨i,q,n_ hi,ow',s1⟩
   .exact⟨j,r,by rw [j_ z];exact e1,o1,s1⟩
 have oeq:OO A' (ρ.set i (some q)) σ=OO A' ρ σ:=funext λb=>propext (or_congr Iff.rfl (weq b));have kp1:∀b u,¬ Wr ρ σ b->H b=some u->H' b=some u:=λb u n h=>kp b u (λz=>n (by rw [z];exact wa)) h
 have k:aA (OO A ρ σ) H (OO A' ρ σ) H':=λb u n h=>by
  refine⟨λz=>?_,kp1 b u (λz=>n (.inr z)) h⟩
  rcases z with z|z
  .rcases h2 b z with z|z
   .exact n (.inl z)
   .rw [z] at h;cases h
  .exact n (.inr z)
 have dm:∀b,H b≠none->H' b≠none:=λb n=>by
  by_cases z:b=a
  .rw [z];exact ha
  .cases eb:H b with
   | none=>exact absurd eb n
   | some o=>rw [kp b o z eb];exact nofun
 refine⟨⟨by rw [length_set];exact R.len,λj r e1=>?_,λj l p1 q1 v e1 e2 o1 o2 s1 s2=>?_,dom',λb z w=>?_⟩,⟨kp1,dm,λb w=>(weq b).mp w⟩⟩
 .rw [oeq]
  by_cases z:i=j
  .subst z;rw [n_ hi] at e1;cases e1;exact⟨_,es,new⟩
  .rw [j_ z] at e1;obtain⟨v,s,rr⟩:=R.get j r e1;refine⟨v,s,rr.keeps k λow2 b eb=>?_⟩;obtain⟨b',u,e3,e4⟩:=rr.ref ow2;rw [eb] at e3;cases e3;rw [e4];refine kp b u (λzz=>?_) e4;subst zz;rw [eb] at s;exact z (R.dj i j p r _ e e1 ow ow2 es s)
 .have ex:∀(m:Nat) (x:PV),(ρ.set i (some q))[m]?=some (some x)->x.isOwn=true->∃y:PV,ρ[m]?=some (some y)/\y.isOwn=true:=λm x em ox=>by
   by_cases z:i=m
   .subst z;exact⟨p,e,ow⟩
   .rw [j_ z] at em;exact⟨x,em,ox⟩
  obtain⟨y1,g1,g2⟩:=ex j p1 e1 o1;obtain⟨y2,g3,g4⟩:=ex l q1 e2 o2;exact R.dj j l y1 y2 v g1 g3 g2 g4 s1 s2
 .rcases h2 b z with z|z
  .exact R.sep b z ((weq b).mp w)
  .exact R.wr ((weq b).mp w) z
def Rel.lstw(R:Rel K A ρ σ H){i:Nat}{ds es:List D}{a:Addr}{ys:List V}(e:ρ[i]?=some (some (.own ds)))(es':σ[i]?=some (some (.ref a)))(f:FVs K (OO A ρ σ) H ys es) :
  Rel K A (ρ.set i (some (.own es))) σ (upd H a (.lst ys))/\Fr ρ σ H (ρ.set i (some (.own es))) (upd H a (.lst ys)):=by
 have wa:OO A ρ σ a:=.inr ⟨i,_,e,rfl,es'⟩;exact R.write (q:=.own es) e rfl rfl es' ⟨a,ys,rfl,aw,f.keeps λb u n h=>⟨n,by rw [ak (λz=>n (by rw [z];exact wa))];exact h⟩⟩
def Rel.ownAt(R:Rel K A ρ σ H){i:Nat}{ds:List D}(e:ρ[i]?=some (some (.own ds))):∃a xs,σ[i]?=some (some (.ref a))/\H a=some (.lst xs)/\FVs K (OO A ρ σ) H xs ds:=by
 obtain⟨v,s,a,xs,rfl,g,f⟩:=R.get i _ e;exact⟨a,xs,s,g,f⟩
end
noncomputable def Gh(i:Nat)(pe:PTE):PTE:=λρ Q=>match ρ[i]? with
 | some (some (.own _))=>pe ρ λp ρ1=>(match ρ1[i]? with
  | some (some (.own ds))=>ds.length<1000000/\Q (.dat .non) (ρ1.set i (some (.own (ds++[p.d]))))
  | _=>False)
 | _=>False
noncomputable def Gi(i:Nat):PTE:=λρ Q=>match ρ[i]? with
 | some (some (.own ds))=>∃d,ds[ds.length - 1]?=some d/\Q (.dat d) (ρ.set i (some (.own ds.dropLast)))
 | _=>False
noncomputable def CB(i:Nat)(pe pk:PTE):PTS:=λD ρ=>pe ρ λp ρ1=>(match ρ1[i]? with
 | some (some (.own _))=>pk ρ1 λkp ρ2=>(match ρ2[i]?,kp with
  | some (some (.own ds)),.dat (.int k)=>∃j,ixN ds.length k=some j/\D.nx (ρ2.set i (some (.own (ds.set j p.d))))
  | _,_=>False)
 | _=>False)
section
variable {K:b_}{te tk:TE}{pe pk:PTE}{fs:List Nat}
def l0{i:Nat}(h:LE K te pe):LE K (tBM K "list" ub (bC i) (bi te eW)) (Gh i pe):=λA ρ σ H Q Q' R q k=>by
 unfold Gh at q
 split at q
 .rename_i ds0 e0;obtain⟨a0,xs0,s0,g0,f0⟩:=R.ownAt e0;refine⟨_,s0,.inl ⟨rfl,xs0,SqL.of g0⟩,h A ρ σ H _ _ R q λv H1 p ρ1 q1 f1 o1=>?_⟩;obtain⟨R1,fv⟩:=o1.frz
  split at q1
  .rename_i ds e1;obtain⟨a,xs,s,g,f⟩:=R1.ownAt e1;rw [s0] at s;cases s;obtain⟨R2,f2⟩:=R1.lstw e1 s0 (f.append (.cons fv .nil));exact⟨a0,xs,v,rfl,rfl,g,s_ (by rw [f.length];exact q1.1) (sz _ (g_ _)),k _ _ _ _ q1.2 (f1.trans f2) ⟨R2,.non⟩⟩
  .exact q1.elim
 .exact q.elim
def CC{i:Nat}:LE K (FZ K "list" F4 (bC i)) (Gi i):=λA ρ σ H Q Q' R q k=>by
 unfold Gi at q
 split at q
 .rename_i ds e;obtain⟨d,hd,q⟩:=q;obtain⟨a,xs,s,g,f⟩:=R.ownAt e;obtain⟨v,hv,fv⟩:=f.getD hd;obtain⟨R2,f2⟩:=R.lstw (es:=ds.dropLast) (ys:=xs.dropLast) e s (by rw [dropLast_eq_take,dropLast_eq_take,f.length];exact f.take _);exact⟨_,s,.inl ⟨rfl,xs,SqL.of g⟩,a,xs,v,rfl,rfl,g,by rw [f.length];exact hv,k _ _ _ _ q f2 ⟨R2,(fv.keeps f2.keeps)⟩⟩
 .exact q.elim
def uM{i:Nat}(h:LE K te pe)(hk:LE K tk pk):LS K fs (wq te (DY (bC i) tk ua)) (CB i pe pk):=λfx A R H0 ρ σ H D D' hf r F q k1 k2 k3 k4=>h A ρ σ H _ _ r q λv H1 p ρ1 q1 f1 o1=>by
 obtain⟨R1,fv⟩:=o1.frz
 split at q1
 .rename_i ds0 e0;obtain⟨a0,xs0,s0,g0,f0⟩:=R1.ownAt e0;refine⟨_,s0,hk A ρ1 σ H1 _ _ R1 q1 λw H2 kp ρ2 q2 f2 o2=>?_⟩
  split at q2
  .rename_i ds j e2;obtain⟨n,hn,q2⟩:=q2;obtain⟨R2,fw⟩:=o2;cases fw;obtain⟨a,xs,s,g,f⟩:=R2.ownAt e2;rw [s0] at s;cases s;obtain⟨R3,f3⟩:=R2.lstw e2 s0 (FVs.set (fv.keeps f2.keeps) n f);exact⟨a0,xs,j,n,rfl,rfl,g,by rw [f.length];exact hn,k1 _ _ _ q2 R3 (((F.fr f1).fr f2).fr f3)⟩
  .exact q2.elim
 .exact q1.elim
end
noncomputable def spP(K:b_)(c:FN):Sp:=λvs H Q _=>∃(O:Addr->Prop) (ds:List D) (Qc:PV->Prop),(∀b,O b->H b≠none)/\FVs K O H vs ds/\c ds Qc/\∀r,Qc r->∀v H',Gr H H'->pK K O H H' r v->Q v H'
noncomputable def CD(c:FN)(pr:PTA):PTE:=λρ Q=>pr ρ λas ρ1=>match avD as with
 | some ds=>c ds λr=>Q r ρ1
 | none=>False
def cq{N:List Str}{vs:List V}{i:Nat}{v:V}(h:vs[i]?=some v):(start N vs)[i]?=some (some v):=by
 unfold start;rw [Je (by rw [length_map];exact (h_.mp h).1),i_,h];rfl
noncomputable def bv(n:Nat)(ps:List PV):PSt:=ps.map some++u_ (n - ps.length) none
def bw{n:Nat}{ps:List PV}{i:Nat}{p:PV}(h:(bv n ps)[i]?=some (some p)):ps[i]?=some p:=by
 unfold bv at h
 by_cases hi:i<ps.length
 .rw [Je (by rw [length_map];exact hi),i_] at h
  cases e:ps[i]? with
  | none=>rw [e] at h;cases h
  | some q=>rw [e] at h;cases h;rfl
 .rw [IG (by rw [length_map];omega)] at h;have:=B_ h;rw [mem_replicate] at this;cases this.2
section
variable {K:b_}{tr:TA}{pr:PTA}{ts:TS}{ps:PTS}
def aM{c:FN}(h:LAs K tr pr):LE K (gP (spP K c) [] E0 tr) (CD c pr):=λA ρ σ H Q Q' R q k=>h A ρ σ H _ _ R q λvs H1 as ρ1 q1 f1 R1 o1=>by
 split at q1
 .rename_i ds e;rw [HK];exact⟨OO A ρ1 σ,ds,_,R1.dom2,o1.avD e,q1,λr qr v H' g ov=>k v H' r ρ1 qr (f1.trans g.fr) ((ov.out R1 g).h0 f1.dm)⟩
 .exact q1.elim
def Out.outV{O:Addr->Prop}{ρ:PSt}{σ:St}{H H':Hp}{p:PV}{v:V}(h:Out K O ρ σ H H' p v):pK K O H H' p v:=by
 cases p with
 | dat d=>exact h.2.keeps (aA.less λb z=>.inl z)
 | own ds =>
  obtain⟨a,xs,e1,na,e2,e3,R,f⟩:=h;exact⟨a,xs,e1,e2,e3,f.keeps (aA.less λb z=>.inl z)⟩
 | ins c ns ds =>
  obtain⟨a,dx,fs,e1,na,e2,e3,m,R,f⟩:=h;exact⟨a,dx,fs,e1,e2,e3,m,f.keeps (aA.less λb z=>.inl z)⟩
 | odc ks ds =>
  obtain⟨a,kvs,e1,na,e2,e3,m,R,f⟩:=h;exact⟨a,kvs,e1,e2,e3,m,f.keeps (aA.less λb z=>.inl z)⟩
def fnP{c:FN}{N:List Str}(hl:LS K [] ts ps)(hn:∀ds Q,c ds Q->ds.length<=N.length)(hc:∀ds Q,c ds Q->ps { nx:=λ_=>Q (.dat .non),rt:=λp _=>Q p } (bv N.length (ds.map .dat)))
  {vs:List V}{H:Hp}{Q:VK}{E:XK} (h:spP K c vs H Q E):ts { nx:=λ_ H'=>Q .non H',rt:=Q } (start N vs) H:=by
 obtain⟨O,ds,Qc,dom,fv,hq,k⟩:=h
 have nw:∀(ρ:PSt) (b:Addr),ρ=bv N.length (ds.map .dat)->¬ Wr ρ (start N vs) b:=λρ b e ⟨i,p,e1,o1,s1⟩=>by
  rw [e] at e1;have:=bw e1;rw [i_] at this
  cases e2:ds[i]? with
  | none=>rw [e2] at this;cases this
  | some d=>rw [e2] at this;cases this;cases o1
 have lenv:=fv.length;have hle:=hn ds Qc hq
 have R0:Rel K O (bv N.length (ds.map .dat)) (start N vs) H:=by
  refine⟨?_,λi p e=>?_,λi j p q v e1 e2 o1 o2 s1 s2=>?_,dom,λb _ w=>nw _ b rfl w⟩
  .unfold bv start;rw [length_append,length_append,length_map,length_map,length_map,length_replicate,length_replicate,lenv]
  .have:=bw e;rw [i_] at this
   cases e2:ds[i]? with
   | none=>rw [e2] at this;cases this
   | some d =>
    rw [e2] at this;cases this;obtain⟨v,hv,f⟩:=fv.getD e2;exact⟨v,cq hv,f.keeps (aA.less λb z=>z.elim id λw=>absurd w (nw _ b rfl))⟩
  .have:=bw e1;rw [i_] at this
   cases e3:ds[i]? with
   | none=>rw [e3] at this;cases this
   | some d=>rw [e3] at this;cases this;cases o1
 refine hl [] O (λ_=>False) H _ _ H _ _ rfl R0 ⟨λ_ _ _ h=>h,λ_ h=>h,λb w=>absurd w (nw _ b rfl),λp hp=>nomatch hp⟩ (hc ds Qc hq) (λρ' σ' H' q r F=>?_) (λv p ρ' σ' H' q o F=>?_) (λ_ _ _ z=>z.elim) (λ_ _ _ z=>z.elim)
 .exact k _ q .non H' (λb o e=>F.kp b o id e) .non
 .exact k _ q v H' (λb o e=>F.kp b o id e) o.outV
abbrev FR:=PV->List D->(PV->PV->Prop)->Prop
noncomputable def spR(K:b_)(c:FR):Sp:=λvs H Q _=>∃(A:Addr->Prop) (a:Addr) (p:PV) (ws:List V) (ds:List D) (Qc:PV->PV->Prop),vs=.ref a::ws/\p.isOwn=true/\(∀b,A b->H b≠none)/\¬ A a/\RS K (cJ A a) H p (.ref a)/\FVs K (cJ A a) H ws ds/\c p ds Qc /\
 ∀r p',Qc r p'->p'.isOwn=true->∀v H',(∀b o,b≠a->H b=some o->H' b=some o)->H' a≠none->RS K (cJ A a) H' p' (.ref a)->pK K (cJ A a) H H' r v->(∀a',v=.ref a'->r.isOwn=true->RS K (cJ (cJ A a) a') H' p' (.ref a))->Q v H'
noncomputable def yw(c:FR)(i:Nat)(pr:PTA):PTE:=λρ Q=>match ρ[i]? with
 | some (some _)=>pr ρ λas ρ1=>(match ρ1[i]?,avD as with
  | some (some p),some ds=>p.isOwn=true/\c p ds λr p'=>Q r (ρ1.set i (some p'))
  | _,_=>False)
 | _=>False
def bB{c:FR}{i:Nat}(h:LAs K tr pr):LE K (gP (spR K c) [] E0 (bi (bC i) tr)) (yw c i pr):=λA ρ σ H Q Q' R q k=>by
 unfold yw at q
 split at q
 .rename_i p0 e0;obtain⟨v0,s0,_⟩:=R.get i p0 e0;refine⟨v0,s0,h A ρ σ H _ _ R q λvs H1 as ρ1 q1 f1 R1 o1=>?_⟩
  split at q1
  .rename_i p ds e1 ed;obtain⟨ow,q1⟩:=q1;obtain⟨v1,s1,rs⟩:=R1.get i p e1;rw [s0] at s1;cases s1;obtain⟨a,u,rfl,ea⟩:=rs.ref ow;rw [HK];have wa:Wr ρ1 σ a:=⟨i,p,e1,ow,s0⟩
   have oeq:cJ (λb=>(OO A ρ1 σ b)/\b≠a) a=OO A ρ1 σ:=funext λb=>propext ⟨λz=>z.elim (λz=>z.1) (λz=>by rw [z];exact .inr wa),λz=>by
    by_cases e:b=a
    .exact .inr e
    .exact .inl ⟨z,e⟩⟩
   refine⟨λb=>(OO A ρ1 σ b)/\b≠a,a,p,vs,ds,_,rfl,ow,λb z=>R1.dom2 b z.1,λz=>z.2 rfl,by rw [oeq];exact rs,by rw [oeq];exact o1.avD ed,q1,λr p' qr ow' v H' kp ha rs' ov hx=>?_⟩;rw [oeq] at rs' ov hx
   have domA:∀b,A b->H' b≠none:=λb z=>by
    have:b≠a:=λe=>R1.sep b z (by rw [e];exact wa)
    cases eb:H1 b with
    | none=>exact absurd eb (R1.dom b z)
    | some o=>rw [kp b o this eb];exact nofun
   cases r with
   | dat d =>
    obtain⟨R2,f2⟩:=R1.step (A':=A) e1 ow ow' s0 kp ha (λ_ h=>h) (λ_ h=>.inl h) domA rs';exact k v H' _ _ qr (f1.trans f2) ⟨R2,FV.keeps (aA.less λb z=>z.imp id (f2.ow b)) ov⟩
   | own es =>
    obtain⟨a',xs,rfl,n1,e2,f⟩:=ov;have hx:=hx a' rfl rfl;have na:a'≠a:=λe=>by rw [e,ea] at n1;cases n1
    have oo2:∀b,OO (cJ A a') ρ1 σ b ↔ cJ (OO A ρ1 σ) a' b:=λb=>⟨λz=>by
     rcases z with (z|z)|z
     .exact .inl (.inl z)
     .exact .inr z
     .exact .inl (.inr z),λz=>by
     rcases z with (z|z)|z
     .exact .inl (.inl z)
     .exact .inr z
     .exact .inl (.inr z)⟩
    have oo2':OO (cJ A a') ρ1 σ=cJ (OO A ρ1 σ) a':=funext λb=>propext (oo2 b)
    obtain⟨R2,f2⟩:=R1.step (A':=cJ A a') e1 ow ow' s0 kp ha (λ_ h=>.inl h) (λb z=>z.imp id λz=>by rw [z];exact n1) (λb z=>z.elim (domA b) λz=>by rw [z,e2];exact nofun) (by rw [oo2'];exact hx)
    .refine k _ H' (.own es) _ qr (f1.trans f2) ⟨a',xs,rfl,λz=>R1.dom a' z n1,?_,e2,R2,f.keeps (aA.less λb z=>?_)⟩
     .cases eb:H a' with
      | none=>rfl
      | some o=>exact absurd n1 (f1.dm a' (by rw [eb];exact nofun))
     .rw [<- oo2'];exact z.imp id (f2.ow b)
   | ins c ns es =>
    obtain⟨a',dx,fs,rfl,n1,e2,m,f⟩:=ov;have hx:=hx a' rfl rfl
    have oo2':OO (cJ A a') ρ1 σ=cJ (OO A ρ1 σ) a':=funext λb=>propext ⟨λz=>by
     rcases z with (z|z)|z
     .exact .inl (.inl z)
     .exact .inr z
     .exact .inl (.inr z),λz=>by
     rcases z with (z|z)|z
     .exact .inl (.inl z)
     .exact .inr z
     .exact .inl (.inr z)⟩
    obtain⟨R2,f2⟩:=R1.step (A':=cJ A a') e1 ow ow' s0 kp ha (λ_ h=>.inl h) (λb z=>z.imp id λz=>by rw [z];exact n1) (λb z=>z.elim (domA b) λz=>by rw [z,e2];exact nofun) (by rw [oo2'];exact hx)
    .refine k _ H' (.ins c ns es) _ qr (f1.trans f2) ⟨a',dx,fs,rfl,λz=>R1.dom a' z n1,?_,e2,m,R2,f.keeps (aA.less λb z=>?_)⟩
     .cases eb:H a' with
      | none=>rfl
      | some o=>exact absurd n1 (f1.dm a' (by rw [eb];exact nofun))
     .rw [<- oo2'];exact z.imp id (f2.ow b)
   | odc ks es =>
    obtain⟨a',kvs,rfl,n1,e2,m,f⟩:=ov;have hx:=hx a' rfl rfl
    have oo2':OO (cJ A a') ρ1 σ=cJ (OO A ρ1 σ) a':=funext λb=>propext ⟨λz=>by
     rcases z with (z|z)|z
     .exact .inl (.inl z)
     .exact .inr z
     .exact .inl (.inr z),λz=>by
     rcases z with (z|z)|z
     .exact .inl (.inl z)
     .exact .inr z
     .exact .inl (.inr z)⟩
    obtain⟨R2,f2⟩:=R1.step (A':=cJ A a') e1 ow ow' s0 kp ha (λ_ h=>.inl h) (λb z=>z.imp id λz=>by rw [z];exact n1) (λb z=>z.elim (domA b) λz=>by rw [z,e2];exact nofun) (by rw [oo2'];exact hx)
    .refine k _ H' (.odc ks es) _ qr (f1.trans f2) ⟨a',kvs,rfl,λz=>R1.dom a' z n1,?_,e2,m,R2,f.keeps (aA.less λb z=>?_)⟩
     .cases eb:H a' with
      | none=>rfl
      | some o=>exact absurd n1 (f1.dm a' (by rw [eb];exact nofun))
     .rw [<- oo2'];exact z.imp id (f2.ow b)
  .exact q1.elim
 .exact q.elim
noncomputable def Bk(Q:PV->PV->Prop)(r:PV)(ρ:PSt):Prop:=match ρ[0]? with
 | some (some p)=>p.isOwn=true/\Q r p
 | _=>False
def fnR{c:FR}{N:List Str}(hl:LS K [0] ts ps)(hn:∀p ds Q,c p ds Q->ds.length+1<=N.length)(hc:∀p ds Q,p.isOwn=true->c p ds Q->ps { nx:=Bk Q (.dat .non),rt:=Bk Q } (bv N.length (p::ds.map .dat)))
  {vs:List V}{H:Hp}{Q:VK}{E:XK} (h:spR K c vs H Q E):ts { nx:=λ_ H'=>Q .non H',rt:=Q } (start N vs) H:=by
 obtain⟨A,a,p,ws,ds,Qc,rfl,ow,dom,na,rs,fv,hq,k⟩:=h;have s0:(start N (V.ref a::ws))[0]?=some (some (.ref a)):=cq rfl;have b0:(bv N.length (p::ds.map .dat))[0]?=some (some p):=rfl
 have wr:∀b,Wr (bv N.length (p::ds.map .dat)) (start N (.ref a::ws)) b->b=a:=λb ⟨i,q,e1,o1,s1⟩=>by
  have:=bw e1
  cases i with
  | zero=>rw [s0] at s1;cases s1;rfl
  | succ i =>
   rw [IX,i_] at this
   cases e2:ds[i]? with
   | none=>rw [e2] at this;cases this
   | some d=>rw [e2] at this;cases this;cases o1
 have wa:Wr (bv N.length (p::ds.map .dat)) (start N (.ref a::ws)) a:=⟨0,p,b0,ow,s0⟩
 have oeq:OO A (bv N.length (p::ds.map .dat)) (start N (.ref a::ws))=cJ A a:=funext λb=>propext ⟨λz=>z.imp id (wr b),λz=>z.imp id λz=>by rw [z];exact wa⟩;have lenv:=fv.length;have hle:=hn p ds Qc hq
 have R0:Rel K A (bv N.length (p::ds.map .dat)) (start N (.ref a::ws)) H:=by
  refine⟨?_,λi q e=>?_,λi j q1 q2 v e1 e2 o1 o2 s1 s2=>?_,dom,λb z w=>?_⟩
  .unfold bv start;simp only [length_append,length_map,length_replicate,length_cons,lenv]
  .have:=bw e;rw [oeq]
   cases i with
   | zero=>cases this;exact⟨_,s0,rs⟩
   | succ i =>
    rw [IX,i_] at this
    cases e2:ds[i]? with
    | none=>rw [e2] at this;cases this
    | some d =>
     rw [e2] at this;cases this;obtain⟨v,hv,f⟩:=fv.getD e2;exact⟨v,cq (by rw [IX];exact hv),f⟩
  .have own0:∀(i:Nat) (q:PV),(bv N.length (p::ds.map .dat))[i]?=some (some q)->q.isOwn=true->i=0:=λi q e o=>by
    have:=bw e
    cases i with
    | zero=>rfl
    | succ i =>
     rw [IX,i_] at this
     cases e2:ds[i]? with
     | none=>rw [e2] at this;cases this
     | some d=>rw [e2] at this;cases this;cases o
   rw [own0 i q1 e1 o1,own0 j q2 e2 o2]
  .rw [wr b w] at z;exact na z
 have fin:∀(v:V) (r:PV) (ρ':PSt) (σ':St) (H':Hp),Bk Qc r ρ'->Out K A ρ' σ' H H' r v->bY [(0,.ref a)] (λb=>b=a) H ρ' σ' H'->Q v H':=λv r ρ' σ' H' q o F=>by
  unfold Bk at q
  split at q
  .rename_i p' e';obtain⟨ow',q⟩:=q;have sa:=F.fx (0,.ref a) (vx.mpr rfl);have wa':Wr ρ' σ' a:=⟨0,p',e',ow',sa⟩
   have kpa:∀b o,b≠a->H b=some o->H' b=some o:=λb o n e=>F.kp b o n e
   cases r with
   | dat d =>
    obtain⟨R1,f1⟩:=o;obtain⟨v1,s1,rs1⟩:=R1.get 0 p' e';rw [sa] at s1;cases s1;have less:∀b,cJ A a b->OO A ρ' σ' b:=λb z=>z.imp id λz=>by rw [z];exact wa'
    exact k _ p' q ow' v H' kpa (R1.wr wa') (rs1.keeps (aA.less less) λ_ _ _=>rfl) (f1.keeps (aA.less less)) (λ_ _ z=>nomatch z)
   | own es =>
    obtain⟨a',xs,rfl,n1,n2,e3,R1,f1⟩:=o;obtain⟨v1,s1,rs1⟩:=R1.get 0 p' e';rw [sa] at s1;cases s1
    have less:∀b,cJ (cJ A a) a' b->OO (cJ A a') ρ' σ' b:=λb z=>by
     rcases z with (z|z)|z
     .exact .inl (.inl z)
     .exact .inr (by rw [z];exact wa')
     .exact .inl (.inr z)
    exact k _ p' q ow' _ H' kpa (R1.wr wa') (rs1.keeps (aA.less λb z=>less b (.inl z)) λ_ _ _=>rfl) ⟨a',xs,rfl,n2,e3,f1.keeps (aA.less less)⟩ (λa'' e _=>by cases e;exact rs1.keeps (aA.less less) λ_ _ _=>rfl)
   | ins c ns es =>
    obtain⟨a',dx,fs,rfl,n1,n2,e3,m,R1,f1⟩:=o;obtain⟨v1,s1,rs1⟩:=R1.get 0 p' e';rw [sa] at s1;cases s1
    have less:∀b,cJ (cJ A a) a' b->OO (cJ A a') ρ' σ' b:=λb z=>by
     rcases z with (z|z)|z
     .exact .inl (.inl z)
     .exact .inr (by rw [z];exact wa')
     .exact .inl (.inr z)
    exact k _ p' q ow' _ H' kpa (R1.wr wa') (rs1.keeps (aA.less λb z=>less b (.inl z)) λ_ _ _=>rfl) ⟨a',dx,fs,rfl,n2,e3,m,f1.keeps (aA.less less)⟩ (λa'' e _=>by cases e;exact rs1.keeps (aA.less less) λ_ _ _=>rfl)
   | odc ks es =>
    obtain⟨a',kvs,rfl,n1,n2,e3,m,R1,f1⟩:=o;obtain⟨v1,s1,rs1⟩:=R1.get 0 p' e';rw [sa] at s1;cases s1
    have less:∀b,cJ (cJ A a) a' b->OO (cJ A a') ρ' σ' b:=λb z=>by
     rcases z with (z|z)|z
     .exact .inl (.inl z)
     .exact .inr (by rw [z];exact wa')
     .exact .inl (.inr z)
    exact k _ p' q ow' _ H' kpa (R1.wr wa') (rs1.keeps (aA.less λb z=>less b (.inl z)) λ_ _ _=>rfl) ⟨a',kvs,rfl,n2,e3,m,f1.keeps (aA.less less)⟩ (λa'' e _=>by cases e;exact rs1.keeps (aA.less less) λ_ _ _=>rfl)
  .exact q.elim
 refine hl [(0,.ref a)] A (λb=>b=a) H _ _ H _ _ rfl R0 ⟨λ_ _ _ h=>h,λ_ h=>h,λb w=>.inl (wr b w),λq hq=>by rw [vx.mp hq];exact s0⟩ (hc p ds Qc ow hq) (λρ' σ' H' q r F=>fin .non (.dat .non) ρ' σ' H' q ⟨r,.non⟩ F) (λv p ρ' σ' H' q o F=>fin v p ρ' σ' H' q o F) (λ_ _ _ z=>z.elim) (λ_ _ _ z=>z.elim)
end
noncomputable def Gj:FN:=λas Q=>∃ns:List Int,as=[.scr ns]/\ns.length<=63/\Q (.dat (.bl true))
def zZ{K:b_}{vs:List V}{H:Hp}{Q:VK}{E:XK}(h:sx K vs H Q E):spP K Gj vs H Q E:=by
 obtain⟨a,ns,rfl,hS,h63,q⟩:=h
 refine⟨λ_=>False,[.scr ns],λr=>r=.dat (.bl true),nofun,.cons (.scr ?_) .nil,⟨ns,rfl,h63,rfl⟩,λr e v H' g o=>?_⟩
 .rcases hS with h|h
  .exact .inl ⟨id,h⟩
  .exact .inr h
 .subst e;cases o;exact q H'
section
variable {K:b_}{X:Cx}
noncomputable def CF:List V->Hp->VK->Prop:=λxs H Q=>∃i j,xs=[.int i,.int j]/\Q (.int (if j<i then j else i)) H
def CG(hc:X.calm=true):bD X (.builtin "min") CF:=tX hc
noncomputable def CH:FN
 | [.int i,.int j],Q=>Q (.dat (.int (if j<i then j else i)))
 | _,_=>False
def Aa:LC K CF CH:=by
 intro O H xs as Q Q' dom fs q k;unfold CH at q
 split at q
 .cases fs with
  | cons a b=>cases b with|cons b c=>cases c;rw [a.int,b.int];exact⟨_,_,rfl,k _ H _ q (Gr.refl _) (.int _)⟩
 .exact q.elim
noncomputable def Gk(K:b_):List V->Hp->VK->Prop:=λxs H Q=>∃(p:Addr) (bs:List Bool),xs=[.ref p]/\SqL K H p (bs.map V.bl)/\Q (.bl (bs.all id)) H
noncomputable def Gm(K:b_):List V->Hp->VK->Prop:=λxs H Q=>∃(p:Addr) (bs:List Bool),xs=[.ref p]/\SqL K H p (bs.map V.bl)/\Q (.bl (bs.any id)) H
def uN(K:b_)(e:X.K=K)(hc:X.calm=true):bD X (.builtin "all") (Gk K):=by subst e;exact xb hc
def E9(K:b_)(e:X.K=K)(hc:X.calm=true):bD X (.builtin "any") (Gm K):=by subst e;exact xc hc
noncomputable def Gn:FN
 | [.lst ds],Q=>∃bs:List Bool,ds=bs.map .bl/\Q (.dat (.bl (bs.all id)))
 | _,_=>False
noncomputable def Go:FN
 | [.lst ds],Q=>∃bs:List Bool,ds=bs.map .bl/\Q (.dat (.bl (bs.any id)))
 | _,_=>False
def n6:LC K (Gk K) Gn:=by
 intro O H xs as Q Q' dom fs q k;unfold Gn at q
 split at q
 .obtain⟨ns,rfl,q⟩:=q
  cases fs with
  | cons a b =>
   cases b;obtain⟨p,ys,rfl,e1,f1⟩:=a.lst;rw [f1.bls] at e1;exact⟨p,ns,rfl,SqL.of e1,k _ H _ q (Gr.refl _) (.bl _)⟩
 .exact q.elim
def CI:LC K (Gm K) Go:=by
 intro O H xs as Q Q' dom fs q k;unfold Go at q
 split at q
 .obtain⟨ns,rfl,q⟩:=q
  cases fs with
  | cons a b =>
   cases b;obtain⟨p,ys,rfl,e1,f1⟩:=a.lst;rw [f1.bls] at e1;exact⟨p,ns,rfl,SqL.of e1,k _ H _ q (Gr.refl _) (.bl _)⟩
 .exact q.elim
noncomputable def xl(K:b_):List V->Hp->VK->Prop:=λxs H Q=>∃p ys,xs=[.ref p]/\((SqL K H p ys/\∀l,H l=none->Q (.ref l) (upd H l (.tup ys)))\/(SqT K H p ys/\Q (.ref p) H))
def gY(K:b_)(e:X.K=K):bD X (.type "tuple") (xl K):=by subst e;exact mz
def uO(K:b_)(e:X.K=K):bD X (.type "list") (gW K):=by subst e;exact nK
noncomputable def yx:FN
 | [.lst ds],Q=>Q (.dat (.tup ds))
 | [.tup ds],Q=>Q (.dat (.tup ds))
 | [.scr ns],Q=>Q (.dat (.tup (ns.map .int)))
 | _,_=>False
noncomputable def CJ:FN
 | [.lst ds],Q=>Q (.own ds)
 | [.tup ds],Q=>Q (.own ds)
 | [.scr ns],Q=>Q (.own (ns.map .int))
 | _,_=>False
def fm:LC K (xl K) yx:=by
 intro O H xs as Q Q' dom fs q k;unfold yx at q
 split at q
 .cases fs with
  | cons a b =>
   cases b;obtain⟨p,ys,rfl,e1,f1⟩:=a.lst;exact⟨p,ys,rfl,.inl ⟨SqL.of e1,λl hl=>k _ _ _ q (Gr.new hl) (mJ dom hl f1)⟩⟩
 .cases fs with
  | cons a b =>
   cases b;obtain⟨p,ys,rfl,n1,e1,f1⟩:=a.tup;exact⟨p,ys,rfl,.inr ⟨SqT.of e1,k _ H _ q (Gr.refl _) (.tup n1 e1 f1)⟩⟩
 .cases fs with
  | cons a b =>
   cases b;obtain⟨p,rfl,e1⟩:=a.scr;exact⟨p,_,rfl,.inl ⟨e1,λl hl=>k _ _ _ q (Gr.new hl) (mJ dom hl (FVs.of_ints _))⟩⟩
 .exact q.elim
def uP:LC K (gW K) CJ:=by
 intro O H xs as Q Q' dom fs q k;unfold CJ at q
 split at q
 .cases fs with
  | cons a b =>
   cases b;obtain⟨p,ys,rfl,e1,f1⟩:=a.lst;exact⟨p,ys,rfl,.inl (SqL.of e1),λl hl=>k _ _ _ q (Gr.new hl) (eE hl f1)⟩
 .cases fs with
  | cons a b =>
   cases b;obtain⟨p,ys,rfl,n1,e1,f1⟩:=a.tup;exact⟨p,ys,rfl,.inr (SqT.of e1),λl hl=>k _ _ _ q (Gr.new hl) (eE hl f1)⟩
 .cases fs with
  | cons a b =>
   cases b;obtain⟨p,rfl,e1⟩:=a.scr;exact⟨p,_,rfl,.inl e1,λl hl=>k _ _ _ q (Gr.new hl) (eE hl (FVs.of_ints _))⟩
 .exact q.elim
variable {ta:TE}{pa:PA1}{tr:TA}{pr:PTA}{pe:PTE}
noncomputable def n8(i:Int)(n:Nat):List D:=(gV n).map λ(k:Nat)=>D.int (i+(k:Int))
noncomputable def mkL(tup:Bool)(ds:List D):PV:=match tup with|true=>.dat (.tup ds)|false=>.own ds
noncomputable def Fa(tup:Bool)(pr:PTA):PTE:=λρ Q=>pr ρ λas ρ1=>match as with
 | [.v (.int j)]=>(0<=j/\j<=1000000)/\Q (mkL tup (n8 0 j.toNat)) ρ1
 | _=>False
def CK{O:Addr->Prop}{H:Hp}(i:Int)(n:Nat):FVs K O H (pY i 1 n) (n8 i n):=by
 have e:∀l:List Nat,FVs K O H (l.map λ(k:Nat)=>V.int (i+k*1)) (l.map λ(k:Nat)=>D.int (i+(k:Int))):=λl=>by
  induction l with
  | nil=>exact .nil
  | cons a r ih=>exact .cons (by show FV K O H (V.int (i+(a:Int)*1)) (D.int (i+(a:Int)));rw [show i+(a:Int)*1=i+(a:Int) by omega];exact .int _) ih
 exact e _
def l4{i j:Int}(h:i<=j):IS i j 1=(((j - i).toNat:Nat):Int):=by
 unfold IS;rw [if_pos (by decide)];simp only [ediv_one];split <;> omega
def sJ{i j:Int}(h0:-1000000<=i)(h1:i<=j)(h2:j<=1000000):Kc i j 1=true:=by
 unfold Kc;rw [l4 h1];simp only [Builtin.Range.rangeFitsLong,and_eq_true,or_eq_true,decide_eq_true_eq,beq_iff_eq,show (1:Int) > 0 by decide,if_true];omega
noncomputable def mkO(tup:Bool):List V->HO:=match tup with|true=>.tup|false=>.lst
def CL{O:Addr->Prop}{H:Hp}{xs:List V}{ds:List D}{p:Addr}(tup:Bool)(dom:∀b,O b->H b≠none)(hp:H p=none)(f:FVs K O H xs ds):pK K O H (upd H p (mkO tup xs)) (mkL tup ds) (.ref p):=by
 cases tup with
 | true=>exact mJ dom hp f
 | false=>exact eE hp f
def jV(tup:Bool)(h:LAs K tr pr):LE K (tCB (EB K (mkO tup)) (bi (λσ H Q=>tr σ H λvs H1=>∃j:Int,vs=[.int j]/\∀p,H1 p=none->Q (.ref p) (upd H1 p (yp p 0 j 1))) eW)) (Fa tup pr):=λA ρ σ H Q Q' R q k=>h A ρ σ H _ _ R q λvs H1 as ρ1 q1 f1 R1 o1=>by
 split at q1
 .rename_i j
  cases o1 with
  | cons a b =>
   cases b;cases a;refine⟨j,rfl,λp hp=>⟨p,0,j,1,j.toNat,rfl,aw,sJ (by decide) q1.1.1 q1.1.2,by rw [l4 q1.1.1,sub_zero],by omega,λl hl=>?_⟩⟩;have g:Gr H1 (upd H1 p (yp p 0 j 1)):=Gr.new hp;have R2:=R1.gr g;have g2:Gr (upd H1 p (yp p 0 j 1)) (upd (upd H1 p (yp p 0 j 1)) l (mkO tup (pY 0 1 j.toNat))):=Gr.new hl;exact k _ _ _ ρ1 q1.2 (f1.trans (g.fr.trans g2.fr)) ((pK.out R2 g2 (CL tup R2.dom2 hl (CK 0 _))).h0 λb z=>(g.fr (ρ:=ρ1) (σ:=σ)).dm b (f1.dm b z))
 .exact q1.elim
def rm(K:b_)(e:X.K=K)(hc:X.calm=true):bD X (.type "list") (EB K (mkO false)):=by subst e;exact sA hc
noncomputable def xn(pa:PA1):PTE:=λρ Q=>pa ρ λx ρ1=>match cont ρ1 x with
 | some (.lst ds)=>Q (.own ds.reverse) ρ1
 | _=>False
noncomputable def rp(K:b_)(te:TE):TE:=λσ H Q=>te σ H λx H1=>∃a xs,x=.ref a/\SqL K H1 a xs/\∀l,H1 l=none->Q (.ref l) (upd H1 l (.lst xs.reverse))
def qc{e:Expr}{te:TE}{p p1 p2 pos:Pos}(K:b_)(eK:X.K=K)(hc:X.calm=true)(he:PE X e te)(hg1:Gl X "list")(hm1:X.mg "list"=none)(hg2:Gl X "reversed")(hm2:X.mg "reversed"=none)
  (hs:starEach [.Call (.Name "reversed" p1) [e] [] p2] X.env=[(false,eval (.Call (.Name "reversed" p1) [e] [] p2) X.env)]:=by rfl) (hs2:starEach [e] X.env=[(false,eval e X.env)]:=by rfl) :
  PE X (.Call (.Name "list" p) [.Call (.Name "reversed" p1) [e] [] p2] [] pos) (rp K te):=by subst eK;exact sC hc he hg1 hm1 hg2 hm2 hs hs2
def sK(h:LA1 K ta pa):LE K (rp K ta) (xn pa):=λA ρ σ H Q Q' R q k=>h A ρ σ H _ _ R q λv H1 a ρ1 q1 f1 R1 o1=>by
 split at q1
 .rename_i ds e;obtain⟨p,xs,rfl,e1,fs⟩:=(R1.cont o1 e).lst;refine⟨p,xs,rfl,SqL.of e1,λl hl=>?_⟩;have g:Gr H1 (upd H1 l (.lst xs.reverse)):=Gr.new hl;exact k _ _ _ ρ1 q1 (f1.trans g.fr) ((pK.out (p:=.own ds.reverse) R1 g (eE hl fs.reverse)).h0 f1.dm)
 .exact q1.elim
end
abbrev Fb:R2:=rI0 λi j=>.int (i - j)
abbrev uQ:R2:=rI (λ_ j=>0<j) λi j=>.int (i % j)
abbrev Fc:R2:=rI Ej λi j=>.int (i / j)
abbrev CM:R2:=rI Ek λi j=>.int (i^j.toNat)
abbrev G0:R2:=rI0 λi j=>.bl (decide (j<i))
abbrev Fd:R2:=rI0 λi j=>.bl (decide (j<=i))
abbrev CN:V->Hp->VK->Prop:=rU λi=>.int (-i)
noncomputable def Gp:D->(PV->Prop)->Prop
 | .int i,Q=>Q (.dat (.int (-i)))
 | _,_=>False
section
variable {K:b_}{X:Cx}{ta:TE}{tr:TA}{pr:PTA}{ts:TS}{ps:PTS}
def xo:OpR X (binaryOp .Sub) Fb:=BK
def eF:OpR X (binaryOp .Mod) uQ:=BM
def uR:OpR X (binaryOp .FloorDiv) Fc:=zq
def Ab:OpR X (binaryOp .Pow) CM:=BN
def Fe:OpR X (compareOp .Gt) G0:=Es
def Bl:OpR X (compareOp .GtE) Fd:=Et
def rq:LU K CN Gp:=by
 intro O H x a Q Q' dom fx q k;unfold Gp at q
 split at q
 .rename_i i;exact⟨i,fx.int,k _ H _ q (Gr.refl _) (.int _)⟩
 .exact q.elim
def rz{es:List Expr}{ct:Nat}{tp:Pos}(K:b_)(e:X.K=K){a:Expr}{ta:TA}{p pos:Pos}(hg:Gl X "enumerate")(hm:X.mg "enumerate"=none)(ha:PA X [a] ta)(hs:starEach [a] X.env=[(false,eval a X.env)]:=by rfl) :
  PI X (.Tuple es ct tp) (.Call (.Name "enumerate" p) [a] [] pos) (xh K ta):=by subst e;exact zO hg hm ha hs
def kq{ix:List (Option Nat)}{fs:List Nat}{i:Nat}(h:∀k∈fs,k∈uL ix)(hi:(uL ix).contains i=false):fs.contains i=false:=by
 cases e:fs.contains i with
 | false=>rfl
 | true =>
  have:=h i (t_.mp e);rw [t_.mpr this] at hi;cases hi
def lC(t:Value)(b c:Bool)(h1:Ht K t (.type "list")=some b)(h2:Ht K t (.type "tuple")=some c):JP K t [.type "list",.type "tuple"]=some (b || c):=by
 simp only [JP,h1,h2];cases b <;> cases c <;> rfl
def Ff{c:FN}{n:Nat}(hn:∀ds Q,c ds Q->ds.length=n){vs:List V}{H:Hp}{Q:VK}{E:XK}(h:spP K c vs H Q E):vs.length=n:=by
 obtain⟨O,ds,Qc,_,f,hq,_⟩:=h;rw [f.length];exact hn ds Qc hq
def G1{c:FR}{n:Nat}(hn:∀p ds Q,c p ds Q->ds.length+1=n){vs:List V}{H:Hp}{Q:VK}{E:XK}(h:spR K c vs H Q E):vs.length=n:=by
 obtain⟨A,a,p,ws,ds,Qc,rfl,_,_,_,_,f,hq,_⟩:=h;rw [length_cons,f.length];exact hn p ds Qc hq
abbrev CO(pp:PTS)(n:Nat)(ds:List D)(Q:PV->Prop):Prop:=pp { nx:=λ_=>Q (.dat .non),rt:=λp _=>Q p } (bv n (ds.map .dat))
abbrev Fg(pp:PTS)(n:Nat)(p:PV)(ds:List D)(Q:PV->PV->Prop):Prop:=pp { nx:=Bk Q (.dat .non),rt:=Bk Q } (bv n (p::ds.map .dat))
end
end L2
namespace L2
def Cal.imp{P:PySem.Program}{w:PySem.World}{K:b_}{mg:PySem.Str->Option PySem.Value}{base:PySem.Heap}{k:Nat}{x:PySem.Str}{ps:List PySem.Str}{sp sp':Sp}(C:Cal P w K mg base k x ps sp)(h:∀vs H Q E,sp' vs H Q E->sp vs H Q E):Cal P w K mg base k x ps sp':=by
 obtain⟨f,fd,F,r⟩:=C.ex;exact⟨f,fd,F.imp h,r⟩
end L2
namespace L2
open PySem PySem.Spec PyProof.Rows
def cfm{ix:List (Option Nat)}{ρ1:PSt}{n:Nat}{it:Nat->D}{g:PTG}{pt:PTT}{pe:PTE}{Q:PKt}(T:PSt->Prop)(f:Nat->Option D)(h0:T (b7 ix ρ1))
  (hs:∀k τ d,k<n->d=it k->T τ->∀(K1:D->PSt->Prop) (K2:PSt->Prop),(∀d τ',f k=some d->T τ'->K1 d τ')->(∀τ',f k=none->T τ'->K2 τ')->g (.dat d) τ λτ2=>pt τ2 λok τ3=>gE ok (pe τ3 λp τ4=>K1 p.d τ4) (K2 τ3))
  (hq:∀τ,T τ->Q (.own ((gV n).filterMap f)) (dB ix ρ1 τ)) :
  n5 ix ρ1 n it g pt pe Q:=by
 refine⟨λk ys τ=>ys=(gV k).filterMap f/\T τ,⟨rfl,h0⟩,λk ys τ dd hk ed ⟨e,t⟩=>?_,λys τ ⟨e,t⟩=>by rw [e];exact hq τ t⟩
 have r:(gV (k+1)).filterMap f=(gV k).filterMap f++(f k).toList:=by
  rw [Kw,filterMap_append]
  cases e:f k with
  | none=>rw [show [k].filterMap f=[] by simp [e]];rfl
  | some d=>rw [show [k].filterMap f=[d] by simp [e]];rfl
 refine hs k τ dd hk ed t (λd τ'=>(ys++[d]=(gV (k+1)).filterMap f/\T τ')) (λτ'=>(ys=(gV (k+1)).filterMap f/\T τ')) (λd τ' h t'=>⟨?_,t'⟩) (λτ' h t'=>⟨?_,t'⟩)
 .rw [r,e,h];rfl
 .rw [r,e,h];simp
def wv{ix:List (Option Nat)}{ρ1:PSt}{n:Nat}{it:Nat->D}{g:PTG}{pe:PTE}{Q:PKt}(T:PSt->Prop)(f:Nat->D)(h0:T (b7 ix ρ1))
  (hs:∀k τ d,k<n->d=it k->T τ->∀K1:D->PSt->Prop,(∀τ',T τ'->K1 (f k) τ')->g (.dat d) τ λτ2=>pe τ2 λp τ4=>K1 p.d τ4)
  (hq:∀τ,T τ->Q (.own ((gV n).map f)) (dB ix ρ1 τ)) :
  n5 ix ρ1 n it g D4 pe Q:=by
 refine cfm T (λk=>some (f k)) h0 (λk τ d hk ed t K1 K2 k1 k2=>?_) λτ t=>?_
 .exact hs k τ d hk ed t K1 λτ' t'=>k1 _ τ' rfl t'
 .have:(gV n).filterMap (λk=>some (f k))=(gV n).map f:=by rw [<- filterMap_eq_map];rfl
  rw [this];exact hq τ t
def iC{β:Type}(f:D->β)(ds:List D):(gV ds.length).map (λk=>f (itD ds k))=ds.map f:=by
 apply Ki;intro i;rw [i_,i_]
 by_cases h:i<ds.length
 .rw [IE h,uJ h];rfl
 .rw [z_ (by rw [length_range];omega),z_ (by omega)];rfl
def mL{ns:List Int}{k:Nat}(h:k<(ns.map D.int).length):itD (ns.map D.int) k=.int (ns.getD k 0):=lZ (by
 have h:k<ns.length:=by rwa [length_map] at h
 rw [i_,e_,d_ h];rfl)
theorem iY:∀ns:List Int,D.pys (ns.map .int)=ns.map K5
 | []=>rfl
 | n::r=>by rw [map_cons,map_cons,<- iY r];rfl
theorem gp:∀ns:List Int,D.plains (ns.map .int)=true
 | []=>rfl
 | n::r=>by rw [map_cons];show (true && D.plains (r.map .int))=true;rw [gp r];rfl
noncomputable def Sh(d:D):Prop:=d.plain=true/\Ie d.py=true
def rk.of{a b:D}(h:Sh a)(h':Sh b):rk a b:=⟨h.1,h'.1,h.2,h'.2⟩
def Sh.lstI(ns:List Int):Sh (.lst (ns.map .int)):=⟨gp ns,by show Ie (.list (D.pys _))=true;rw [iY];exact (lu.list (kh ns)).shaped (by decide)⟩
def mM{d:D}(h:Sh d):deq d d=true:=wX h.2
section
variable {X:Cx}{K:b_}
noncomputable def Fh:PTE:=λρ Q=>Q (.dat (.dic [] [])) ρ
def Ac:LE K uy Fh:=λA ρ σ H Q Q' R q k=>λp hp =>
 k _ _ (.dat (.dic [] [])) ρ q (Fr.new hp) ⟨R.grow hp,.dic (R.oo hp) aw rfl .nil⟩
noncomputable def uS(neg:Bool):R2:=λx y H Q=>∃a b,x=.ref a/\y=.ref b/\H a=some (.dK [])/\H b=some (.dK [])/\Q (.bl (!neg)) H
def xp(hu:X.A.units+64<cLine):OpR X (compareOp .Eq) (uS false):=by
 intro pins s σ H x y v u Q I rx ry ⟨a,b,e1,e2,h1,h2,q⟩;subst e1 e2;cases rx;cases ry;obtain⟨_,y1,vs,r1,p1⟩:=(show aW X.prog X.w H s.heap a (.dK []) from I.hok a _ h1)
 obtain⟨_,y2,ws,r2,p2⟩:=(show aW X.prog X.w H s.heap b (.dK []) from I.hok b _ h2)
 cases r1;cases r2;exact PySem.W.keq_eq (r:=true) y1 y2 p1 p2 (by omega) (λ_=>.nil) ⟨.bl true,H,I,rfl,q⟩
def xq(hu:X.A.units+64<cLine):OpR X (compareOp .NotEq) (uS true):=by
 intro pins s σ H x y v u Q I rx ry ⟨a,b,e1,e2,h1,h2,q⟩;subst e1 e2;cases rx;cases ry;obtain⟨_,y1,vs,r1,p1⟩:=(show aW X.prog X.w H s.heap a (.dK []) from I.hok a _ h1)
 obtain⟨_,y2,ws,r2,p2⟩:=(show aW X.prog X.w H s.heap b (.dK []) from I.hok b _ h2)
 cases r1;cases r2;exact PySem.W.keq_ne (r:=true) y1 y2 p1 p2 (by omega) (λ_=>.nil) ⟨.bl false,H,I,rfl,q⟩
noncomputable def sL(K:b_)(neg:Bool):R2:=λx y H Q=>Cq K neg x y H Q\/uS neg x y H Q
def ku(K:b_)(e:X.K=K)(hu:X.A.units+64<cLine):OpR X (compareOp .Eq) (sL K false):=OpR.or (GV K e hu) (xp hu)
def ky(K:b_)(e:X.K=K)(hu:X.A.units+64<cLine):OpR X (compareOp .NotEq) (sL K true):=OpR.or (GW K e hu) (xq hu)
noncomputable def Gq:F2
 | .dic [] [],.dic [] [],Q=>Q (.dat (.bl true))
 | a,b,Q=>fEq a b Q
noncomputable def Gs:F2
 | .dic [] [],.dic [] [],Q=>Q (.dat (.bl false))
 | a,b,Q=>fNe a b Q
def FVc.dic0{O:Addr->Prop}{H:Hp}{v:V}(h:FVc K O H v (.dic [] [])):∃a,v=.ref a/\H a=some (.dK []):=by
 obtain⟨a,kvs,rfl,e,m,f⟩:=h.dic
 cases kvs with
 | nil=>exact⟨a,rfl,e⟩
 | cons x r=>cases m
def fU:LO K (sL K false) Gq:=by
 intro O H x y a b Q Q' dom fx fy q k;unfold Gq at q
 split at q
 .obtain⟨a,rfl,e1⟩:=fx.dic0;obtain⟨b,rfl,e2⟩:=fy.dic0;exact .inr ⟨a,b,rfl,rfl,e1,e2,k _ H _ q (Gr.refl _) (.bl _)⟩
 .exact .inl (EY O H x y _ _ Q Q' dom fx fy q k)
def fV:LO K (sL K true) Gs:=by
 intro O H x y a b Q Q' dom fx fy q k;unfold Gs at q
 split at q
 .obtain⟨a,rfl,e1⟩:=fx.dic0;obtain⟨b,rfl,e2⟩:=fy.dic0;exact .inr ⟨a,b,rfl,rfl,e1,e2,k _ H _ q (Gr.refl _) (.bl _)⟩
 .exact .inl (EZ O H x y _ _ Q Q' dom fx fy q k)
end
noncomputable def jG:D->Bool
 | .int _=>true
 | _=>false
noncomputable def b8:D->Bool
 | .lst _=>true
 | .tup _=>true
 | _=>false
noncomputable def ah:D->List D
 | .lst ds=>ds
 | .tup ds=>ds
 | _=>[]
def toI:D->Int
 | .int i=>i
 | _=>0
noncomputable def bI(d:D)(m:Int):Bool:=b8 d && (decide (((ah d).length:Int)=m) && (ah d).all jG)
noncomputable def Srt(d:D):Prop:=d.sort=true/\∀x∈ah d,x.sort=true
theorem iZ:∀{ds:List D},ds.all jG=true->ds=(ds.map toI).map D.int
 | [],_=>rfl
 | d::r,h=>by
  rw [all_cons,and_eq_true] at h;rw [map_cons,map_cons,<- iZ h.2];cases d <;> first|rfl|cases h.1
def cB{ds:List D}{k:Nat}(h:k<ds.length):itD ds k∈ds:=B_ (uJ h)
section
variable {X:Cx}{K:b_}{te:TE}{pe:PTE}
noncomputable def Ad:List V->Hp->VK->Prop:=λxs H Q=>(∃b,xs=[.bl b]/\Q (.int (if b then 1 else 0)) H)\/∃i,xs=[.int i]/\Q (.int i) H
def xr:bD X (.type "int") Ad:=by
 intro pins s σ H xs us Q I r h
 rcases h with ⟨b,rfl,q⟩|⟨i,rfl,q⟩
 .obtain⟨u,rfl,ru⟩:=fR r;cases (show u=Ia b from ru);exact call_int_bool ⟨.int _,H,I.tok _,⟨_,rfl⟩,q⟩
 .obtain⟨u,rfl,t,rfl⟩:=fR r;exact call_int_int ⟨.int _,H,I,⟨_,rfl⟩,q⟩
noncomputable def CP:FN
 | [.bl b],Q=>Q (.dat (.int (if b then 1 else 0)))
 | [.int i],Q=>Q (.dat (.int i))
 | _,_=>False
def rA:LC K Ad CP:=by
 intro O H xs as Q Q' dom fs q k;unfold CP at q
 split at q
 .cases fs with|cons a b=>cases b;rw [a.bl];exact .inl ⟨_,rfl,k _ H _ q (Gr.refl _) (.int _)⟩
 .cases fs with|cons a b=>cases b;rw [a.int];exact .inr ⟨_,rfl,k _ H _ q (Gr.refl _) (.int _)⟩
 .exact q.elim
noncomputable def Fi(K:b_):List V->Hp->VK->Prop:=λxs H Q=>∃(p:Addr) (ns:List Int),xs=[.ref p]/\SqL K H p (ns.map V.int)/\0<ns.length/\∀m:Int,m∈ns->(∀a∈ns,a<=m)->Q (.int m) H
def CQ(K:b_)(e:X.K=K)(hc:X.calm=true):bD X (.builtin "max") (Fi K):=by
 subst e;intro pins s σ H xs us Q I r h;obtain⟨p,ns,rfl,hS,hne,q⟩:=h;obtain⟨u,rfl,ru⟩:=fR r;cases (show u=o_ p from ru);obtain⟨its,rv,pl,hz⟩:=I.list hS;have hi:=cW rv;have hl:=pl.isList;obtain⟨ys,e⟩:=hi.allInts.items;have hns:ns=ys.toList.map (·.1):=by rw [<- hi.numsOf,<- nums_intItems,<- e]
 have hsz:0<ys.size:=by
  have h3:=hne;rw [hns,length_map,HD] at h3;exact h3
 rw [e] at hl;refine max_intList (by exact I.ok.hd hc) hl hsz λv h' tk hv hk=>?_;obtain⟨t,rfl⟩:=intItems_at hv;obtain⟨h1,h2⟩:=argBest_gt (numAt ys) (ys.size - 1)
 refine⟨.int _,H,I.kept (t':=tk) hk,⟨t,rfl⟩,q _ ?_ λa ha=>?_⟩
 .rw [hns,numAt_eq];exact getD_mem (by rw [length_map,HD];omega)
 .rw [hns] at ha;obtain⟨j,hj,rfl⟩:=mem_getD ha;rw [length_map,HD] at hj;rw [<- numAt_eq];exact h2 j (by omega)
noncomputable def CS(K:b_):List V->Hp->VK->Prop:=λxs H Q=>∃(p:Addr) (ns:List Int),xs=[.ref p]/\SqL K H p (ns.map V.int)/\ns.length<64/\∀ns':List Int,ns'.Perm ns->ns'.Pairwise (·<=·)->∀q,H q=none->Q (.ref q) (upd H q (.lst (ns'.map V.int)))
def Ae(K:b_)(e:X.K=K):bD X (.builtin "sorted") (CS K):=by
 subst e;intro pins s σ H xs us Q I r h;obtain⟨p,ns,rfl,hS,hne,q⟩:=h;obtain⟨u,rfl,ru⟩:=fR r;cases (show u=o_ p from ru);obtain⟨its,rv,pl,hz⟩:=I.list hS;have hi:=cW rv;have hlen:its.length=ns.length:=by have:=rv.length;rw [length_map] at this;exact this.symm
 refine sorted_ints pl.isList hi (by omega) λout ns' ho hp hs=>?_;obtain⟨e,he⟩:=sortedAll_at s.heap its out;have hle:s.heap.objs.size<=s.heap.objs.size+1:=le_succ _;refine⟨.ref (s.heap.objs.size+1),_,I.laid (a:=s.heap.objs.size+1) (o:=.lst (ns'.map V.int)) (t':=s.toks) (λb o z=>sortedAll_old z) hle ?_,rfl,q ns' hp hs _ (I.hok.fresh hle)⟩;refine⟨?_,out.toList,e,ip ho,he⟩;rw [length_map,hp.length_eq]
 exact sz _ (by omega)
noncomputable def yz(i:Nat)(pe:PTE):PTE:=λρ Q=>match ρ[i]? with
 | some (some (.own _))=>pe ρ λp ρ1=>(match ρ1[i]?,p with
  | some (some (.own ds)),.dat (.int j)=>∃k d,(ixN ds.length j=some k/\ds.length<=1000000)/\ds[k]?=some d/\Q (.dat d) (ρ1.set i (some (.own (ds.eraseIdx k))))
  | _,_=>False)
 | _=>False
theorem FVs.eraseIdx{O:Addr->Prop}{H:Hp}:∀{xs:List V}{ds:List D} (k:Nat),FVs K O H xs ds->FVs K O H (xs.eraseIdx k) (ds.eraseIdx k)
 | _,_,_,.nil=>.nil
 | _,_,0,.cons a b=>b
 | _,_,k+1,.cons a b=>.cons a (FVs.eraseIdx k b)
def xt{i:Nat}(h:LE K te pe):LE K (tBM K "list" yo (bC i) (bi te eW)) (yz i pe):=λA ρ σ H Q Q' R q k=>by
 unfold yz at q
 split at q
 .rename_i ds0 e0;obtain⟨a0,xs0,s0,g0,f0⟩:=R.ownAt e0;refine⟨_,s0,.inl ⟨rfl,xs0,SqL.of g0⟩,h A ρ σ H _ _ R q λv H1 p ρ1 q1 f1 o1=>?_⟩;obtain⟨R1,fv⟩:=o1.frz
  split at q1
  .rename_i ds j e1;obtain⟨a,xs,s,g,f⟩:=R1.ownAt e1;rw [s0] at s;cases s;obtain⟨m,d,⟨hm,hl⟩,hd,q1⟩:=q1;obtain⟨w,hw,fw⟩:=f.getD hd;cases (show FV K _ H1 v (.int j) from fv);obtain⟨t1,t2,t3,t4⟩:=pU hm;obtain⟨R2,f2⟩:=R1.lstw (es:=ds.eraseIdx m) (ys:=xs.eraseIdx m) e1 s0 (f.eraseIdx m);have hx:xs.length=ds.length:=f.length;exact⟨a0,xs,j,m,w,rfl,rfl,g,by omega,by omega,by rw [hx];exact t1,hw,k _ _ _ _ q1 (f1.trans f2) ⟨R2,(fw.keeps f2.keeps)⟩⟩
  .exact q1.elim
 .exact q.elim
end
abbrev lc2(elt t1 i1:Expr)(f1:List Expr)(t2 i2:Expr)(f2:List Expr)(scope:Scope)(pos:Pos):Expr:=.ListComp elt [⟨t1,i1,f1,0⟩,⟨t2,i2,f2,0⟩] scope pos
noncomputable def sM(e i2:Expr)(acc:Value)(env:Env):Sem Unit:=do
 let x <- eval i2 env
 standAt i2.pos
 let x <- foldedSetIterable i2 env x
 let _ <- runOwn (.compStart e 1 (<- holding [x] (pyIter x)) acc env) env
noncomputable def uT(elt:Expr)(acc:Value)(env:Env):Sem Unit:=do let _ <- call (.builtin "list.append") [acc,<- eval elt env]
theorem sN(elt t1 i1:Expr)(f1:List Expr)(t2 i2:Expr)(f2:List Expr)(scope:Scope)(pos:Pos)(it acc:Value)(env:Env) :
  compTurn (lc2 elt t1 i1 f1 t2 i2 f2 scope pos) 0 it acc env=(do
   standAt i1.pos
   match <- pyNext it with
   | none=>pure (.done .next)
   | some v =>
    letOwnedTupleGo t1 it v
    assign t1 env v
    let mut ok:=true
    for c in f1 do
     if ok then ok <- isTrue c env (eval c env)
    if ok then
     let x <- eval i2 env
     standAt i2.pos
     let x <- foldedSetIterable i2 env x
     let _ <- runOwn (.compStart (lc2 elt t1 i1 f1 t2 i2 f2 scope pos) 1 (<- holding [x] (pyIter x)) acc env) env
    again (.compLoop (lc2 elt t1 i1 f1 t2 i2 f2 scope pos) 0 it acc env)):=by rfl
def sO{α:Type}(e i2:Expr)(acc:Value)(env:Env)(k:Sem α):(eval i2 env >>= λx=>standAt i2.pos >>= λ_=>foldedSetIterable i2 env x >>= λx=>holding [x] (pyIter x) >>= λit=>runOwn (.compStart e 1 it acc env) env >>= λ_=>k)=(sM e i2 acc env >>= λ_=>k):=by
 unfold sM;simp only [bind_assoc,pure_bind]
theorem sP(elt t1 i1:Expr)(f1:List Expr)(t2 i2:Expr)(f2:List Expr)(scope:Scope)(pos:Pos)(it acc:Value)(env:Env) :
  compTurn (lc2 elt t1 i1 f1 t2 i2 f2 scope pos) 1 it acc env=(do
   standAt i2.pos
   match <- pyNext it with
   | none=>pure (.done .next)
   | some v =>
    letOwnedTupleGo t2 it v
    assign t2 env v
    let mut ok:=true
    for c in f2 do
     if ok then ok <- isTrue c env (eval c env)
    if ok then
     (uT elt acc env)
    again (.compLoop (lc2 elt t1 i1 f1 t2 i2 f2 scope pos) 1 it acc env)):=by rfl
section
variable {prog:so}{w:World}{A:w_}{R:Result->c_->Prop}{s:c_}
theorem lD{elt t1 i1 t2 i2:Expr}{f1 f2:List Expr}{scope:Scope}{pos:Pos}{it acc:Value}{env:Env}(I:Nat->c_->Prop)
  (turn:∀n s,I n s->wpAny (model prog w) A (pyNext it) (λr s₁=>match r with
   | none=>R (.ok .next) s₁
   | some v=>wpAny (model prog w) A (letOwnedTupleGo t1 it v) (λ_ s₂=>wpAny (model prog w) A (assign t1 env v) (λ_ s₃ =>
     wpAny (model prog w) A (forIn f1 true λc r=>if r=true then do let ok <- isTrue c env (eval c env);pure (HS ok) else pure (HS r)) (λok s₄ =>
      if ok=true then wpAny (model prog w) A (sM (lc2 elt t1 i1 f1 t2 i2 f2 scope pos) i2 acc env) (λ_ s₆=>∃m,m<n/\I m s₆) (λ_ _=>False) s₄
      else ∃m,m<n/\I m s₄) (λ_ _=>False) s₃) (λ_ _=>False) s₂) (λ_ _=>False) s₁) (λ_ _=>False) s)
  (n:Nat) (h:I n s) :
  codeAny (model prog w) A (.compLoop (lc2 elt t1 i1 f1 t2 i2 f2 scope pos) 0 it acc env) R s:=by
 refine codeAny_loop rfl I (λn s hI=>?_) n h;show wpAny _ A ((compTurn (lc2 elt t1 i1 f1 t2 i2 f2 scope pos) 0 it acc env).onRaise (λx=>do noteFrame x env;theTreesLotGoes x)) _ _ s;refine wpAny_noted ?_;rw [sN];refine cy (HI (cy (E_ (turn n s hI) (λr s₁ h₁=>?_) λ_ _ h'=>h'.elim)))
 cases r with
 | none=>exact l_ h₁
 | some v =>
  refine cy (E_ h₁ (λ_ s₂ h₂=>?_) λ_ _ h'=>h'.elim);refine cy (E_ h₂ (λ_ s₃ h₃=>cy (E_ h₃ (λok s₄ h₄=>?_) λ_ _ h'=>h'.elim)) λ_ _ h'=>h'.elim)
  cases ok with
  | false=>exact l_ ⟨rfl,h₄⟩
  | true =>
   have e:=sO (lc2 elt t1 i1 f1 t2 i2 f2 scope pos) i2 acc env (again (.compLoop (lc2 elt t1 i1 f1 t2 i2 f2 scope pos) 0 it acc env));show wpAny _ _ (eval i2 env >>= λx=>standAt i2.pos >>= λ_=>foldedSetIterable i2 env x >>= λx=>holding [x] (pyIter x) >>= λit'=>runOwn (.compStart (lc2 elt t1 i1 f1 t2 i2 f2 scope pos) 1 it' acc env) env >>= λ_=>again (.compLoop (lc2 elt t1 i1 f1 t2 i2 f2 scope pos) 0 it acc env)) _ _ _
   rw [e];exact cy (E_ h₄ (λ_ s₆ h₆=>l_ ⟨rfl,h₆⟩) λ_ _ h'=>h'.elim)
theorem lE{elt t1 i1 t2 i2:Expr}{f1 f2:List Expr}{scope:Scope}{pos:Pos}{it acc:Value}{env:Env}(I:Nat->c_->Prop)
  (turn:∀n s,I n s->wpAny (model prog w) A (pyNext it) (λr s₁=>match r with
   | none=>R (.ok .next) s₁
   | some v=>wpAny (model prog w) A (letOwnedTupleGo t2 it v) (λ_ s₂=>wpAny (model prog w) A (assign t2 env v) (λ_ s₃ =>
     wpAny (model prog w) A (forIn f2 true λc r=>if r=true then do let ok <- isTrue c env (eval c env);pure (HS ok) else pure (HS r)) (λok s₄ =>
      if ok=true then wpAny (model prog w) A (uT elt acc env) (λ_ s₆=>∃m,m<n/\I m s₆) (λ_ _=>False) s₄
      else ∃m,m<n/\I m s₄) (λ_ _=>False) s₃) (λ_ _=>False) s₂) (λ_ _=>False) s₁) (λ_ _=>False) s)
  (n:Nat) (h:I n s) :
  codeAny (model prog w) A (.compLoop (lc2 elt t1 i1 f1 t2 i2 f2 scope pos) 1 it acc env) R s:=by
 refine codeAny_loop rfl I (λn s hI=>?_) n h;show wpAny _ A ((compTurn (lc2 elt t1 i1 f1 t2 i2 f2 scope pos) 1 it acc env).onRaise (λx=>do noteFrame x env;theTreesLotGoes x)) _ _ s;refine wpAny_noted ?_;rw [sP];refine cy (HI (cy (E_ (turn n s hI) (λr s₁ h₁=>?_) λ_ _ h'=>h'.elim)))
 cases r with
 | none=>exact l_ h₁
 | some v =>
  refine cy (E_ h₁ (λ_ s₂ h₂=>?_) λ_ _ h'=>h'.elim);refine cy (E_ h₂ (λ_ s₃ h₃=>cy (E_ h₃ (λok s₄ h₄=>?_) λ_ _ h'=>h'.elim)) λ_ _ h'=>h'.elim)
  cases ok with
  | false=>exact l_ ⟨rfl,h₄⟩
  | true=>exact cy (E_ h₄ (λ_ s₆ h₆=>l_ ⟨rfl,h₆⟩) λ_ _ h'=>h'.elim)
def iD{elt t1 i1 t2 i2:Expr}{f1 f2:List Expr}{scope:Scope}{pos:Pos}{it acc:Value}{env:Env}
  (h0:codeAny (model prog w) A (.compLoop (lc2 elt t1 i1 f1 t2 i2 f2 scope pos) 1 it acc env) R s)
  (h:wpAny (model prog w) A (pyIter it) (λit' s'=>codeAny (model prog w) A (.compLoop (lc2 elt t1 i1 f1 t2 i2 f2 scope pos) 1 it' acc env) R s')
   (notedBy (model prog w) A env λx s'=>R (.error x) s') s) :
  codeAny (model prog w) A (.compStart (lc2 elt t1 i1 f1 t2 i2 f2 scope pos) 1 it acc env) R s:=by
 refine codeAny_of_tree ?_;show wpAny _ _ ((compStart (lc2 elt t1 i1 f1 t2 i2 f2 scope pos) 1 it acc env).onRaise (λx=>do noteFrame x env;standAt theWindowsPlace)) _ _ s;refine wpAny_notedAt ?_;unfold compStart;show wpAny _ _ (ask >>= _) _ _ s;refine cy (wpAny_askSetting (wpAny_ite ?_))
 split
 .first
   | exact cy (l_ (l_ (Hr rfl h0)))
   | exact l_ (Hr rfl h0)
 .first
   | exact cy (wpAny_rule (cy (HI (cy (E_ h (λit' s' h'=>l_ (Hr rfl h')) λ_ _ x=>x)))))
end
abbrev TB:=St->Hp->(St->Hp->Prop)->Prop
noncomputable def PB(Y:Cx)(emit:Sem Unit)(tb:TB):Prop:=∀(pins:List (Addr×Obj)) (s:c_) (τ:St) (H:Hp) (N:St->Hp->Prop),Inv Y pins τ H s->tb τ H N ->
 wpAny (model Y.prog Y.w) Y.A emit (λ_ s'=>∃τ' H',Inv Y pins τ' H' s'/\N τ' H') (λ_ _=>False) s
noncomputable def Af(te:TE)(D:Addr):TB:=λτ H N=>te τ H λv H6=>∃ys,H6 D=some (.lst ys)/\ys.length<sizeLine/\N τ (upd H6 D (.lst (ys++[v])))
noncomputable def Ag(wi:TI)(g:TG)(tts:TT)(tb:TB):TB:=λτ H N=>wi τ H λJ H6=>∃W:Nat->Nat->St->Hp->Prop,(∃n,W 0 n τ H6)/\∀j n τ3 H7,W j n τ3 H7 ->
 (J.stop j H7/\N τ3 H7)\/(J.go j H7/\∀y H8,J.yld j H7 y H8->g y τ3 H8 λτ4 H9=>tts τ4 H9 λok H10=>if ok=true then tb τ4 H10 (λτ5 H11=>∃n',n'<n/\W (j+1) n' τ5 H11) else ∃n',n'<n/\W (j+1) n' τ4 H10)
noncomputable def uU(ix:List (Option Nat))(wi:TI)(g:TG)(tts:TT)(tb:Addr->TB):TE:=λσ H Q=>wi σ H λJ H1=>∀D,H1 D=none->∃W:Nat->Nat->St->Hp->Prop,(∃m,W 0 m (nP ix σ) (upd H1 D (.lst [])))/\∀i m τ H2,W i m τ H2 ->
 (J.stop i H2/\Q (.ref D) H2)\/(J.go i H2/\∀x H3,J.yld i H2 x H3->g x τ H3 λτ2 H4=>tts τ2 H4 λok H5=>if ok=true then tb D τ2 H5 (λτ6 H6=>∃m',m'<m/\W (i+1) m' τ6 H6)
  else ∃m',m'<m/\W (i+1) m' τ2 H5)
section
variable {Y:Cx}{elt t1 i1 t2 i2:Expr}{f1 f2:List Expr}{scope:Scope}{pos:Pos}{te:TE}{D:Addr}{wi:TI}{g:TG}{tts:TT}{tb:TB}
def Ah(hx:Y.xe=λ_ _=>False)(he:PE Y elt te):PB Y (uT elt (.ref D) Y.env) (Af te D):=by
 intro pins s τ H N I h;have h1:=he pins s τ H _ I h;rw [hx] at h1;unfold uT;refine cy (thn h1 λv s1 ⟨x,H1,I1,r1,ys,hD,hz,q⟩=>?_);have h2:=dk (X:=Y) pins s1 τ H1 (.ref D) [x] (.ref D) [v] (λ_ H'=>N τ H') I1 rfl (.cons r1 .nil) ⟨D,ys,x,rfl,rfl,hD,hz,q⟩;rw [hx] at h2;exact cy (thn h2 λ_ s2 ⟨_,H2,I2,_,q2⟩=>l_ ⟨τ,H2,I2,q2⟩)
def Aj(hx:Y.xe=λ_ _=>False)(hc:Y.calm=true)(hi:PI Y t2 i2 wi)(hg:PG Y t2 g)(ht:PIf Y f2 tts)(hb:PB Y (uT elt (.ref D) Y.env) tb)(hs:∀x,foldedSetIterable i2 Y.env x=pure x:=by intro _;rfl) :
  PB Y (sM (lc2 elt t1 i1 f1 t2 i2 f2 scope pos) i2 (.ref D) Y.env) (Ag wi g tts tb):=by
 intro pins s τ H N I h;have h1:=hi pins s τ H _ I h;rw [hx] at h1;unfold sM;refine cy (thn h1 λv s1 h1=>cy (HI (cy (KG (hs v) (cy (Hu (thn h1 λitv s2 h2=>cy (wpAny_runOwn ?_))))))));obtain⟨it,fp,tn,J,H2,e,I2,T,st2,f2',W,⟨m0,w0⟩,turn⟩:=h2;subst e;have stat:∀{H':Hp},(∀b∈fp,H' b=none)->∀b∈fp,pS Y pins H' b:=λhn b hb=>⟨hn b hb,(f2' b hb).2⟩
 have loop:∀s3:c_,Inv Y pins τ H2 s3->tn 0 s3.heap->codeAny (model Y.prog Y.w) Y.A (.compLoop (lc2 elt t1 i1 f1 t2 i2 f2 scope pos) 1 (.ref it) (.ref D) Y.env)
   (λr s'=>match r with|.ok f=>wpAny (model Y.prog Y.w) Y.A (pure ()) (λ_ s'=>∃τ' H',Inv Y pins τ' H' s'/\N τ' H') (λ_ _=>False) s'|.error e=>cameBackBy (model Y.prog Y.w) Y.A Y.env (λ_ _=>False) e s') s3:=by
  intro s3 I3 st3;refine lE (λn s'=>∃i τ' H',Inv Y pins τ' H' s'/\tn i s'.heap/\(∀b∈fp,H' b=none)/\W i n τ' H') ?_ m0 ⟨0,τ,H2,I3,st3,λb hb=>(f2' b hb).1,w0⟩;rintro n s5 ⟨i,τ5,H5,I5,st5,fr5,w5⟩
  rcases turn i n τ5 H5 w5 with ⟨stop,qn⟩|⟨go,step⟩
  .refine thn (T.done Y rfl rfl rfl hc i pins s5 τ5 H5 (λ_ _=>False) I5 (stat fr5) st5 stop) λr s6 ⟨hr,I6⟩=>?_;subst hr;exact l_ ⟨τ5,H5,I6,qn⟩
  .refine thn (T.item Y rfl rfl rfl hc i pins s5 τ5 H5 (λ_ _=>False) I5 (stat fr5) st5 go) λr s6 ⟨u,hr,h6⟩=>?_;subst hr;refine thn h6 λ_ s7 ⟨x,H7,I7,r7,y7,st7,fr7⟩=>?_;have I7':=I7.pinned (stat fr7) (T.obj _ _ st7)
   have again:∀{s8:c_}{τ8:St}{H8:Hp},Inv Y (pins++j6 fp s7.heap) τ8 H8 s8->(∃m',m'<n/\W (i+1) m' τ8 H8) ->
     ∃m,m<n/\∃i τ' H',Inv Y pins τ' H' s8/\tn i s8.heap/\(∀b∈fp,H' b=none)/\W i m τ' H':=λ{s8 τ8 H8} I8 ⟨m',hm,w8⟩=>by
    refine⟨m',hm,i+1,τ8,H8,I8.unpinned,T.keep _ _ _ st7 λb hb o e=>(I8.pin (b,o) (r_ _ (r_ _ (cH hb e)))).1,λb hb=>?_,w8⟩;obtain⟨o,e,d⟩:=T.obj _ _ st7 b hb;exact (I8.pin (b,o) (r_ _ (r_ _ (cH hb e)))).2.1
   have h8:=hg _ s7 τ5 H7 x u _ I7' r7 (step x H7 y7);rw [hx] at h8;refine thn h8 λ_ s8 ⟨τ8,H8,I8,q8⟩=>?_;have h9:=ht _ s8 τ8 H8 _ I8 q8;rw [hx] at h9;refine thn h9 λokb s9 ⟨H9,I9,q9⟩=>?_
   cases okb with
   | false =>
    rw [if_neg m_] at q9;rw [if_neg m_];exact again I9 q9
   | true =>
    rw [if_pos rfl] at q9;rw [if_pos rfl];exact thn (hb _ s9 τ8 H9 _ I9 q9) λ_ s10 ⟨τ10,H10,I10,q10⟩=>again I10 q10
 exact iD (loop _ I2 st2) (T.self Y.A 0 _ _ _ st2 (loop _ I2 st2))
end
section
variable {X:Cx}{elt t1 i1 t2 i2:Expr}{f1 f2:List Expr}{scope:Scope}{N':List Str}{ix:List (Option Nat)}{wi:TI}{g:TG}{tts:TT}{tb:Addr->TB}
def sQ{use:Option (Value->Sem Unit)}{Qf:Value->c_->Prop}{pos p':Pos}{pins:List (Addr×Obj)}{σ:St}{H:Hp}{s:c_}{Q:VK}(hc:X.calm=true)(ok:qX X.env X.N scope N' ix)(hi:PI X t1 i1 wi)
  (blk:∀s H fp pn D,PG (aU X N' scope s H fp pn) t1 g/\PIf (aU X N' scope s H fp pn) f1 tts/\PB (aU X N' scope s H fp pn) (sM (lc2 elt t1 i1 f1 t2 i2 f2 scope pos) i2 (.ref D) (mC scope s.heap.objs.size X.env)) (tb D))
  (hs:∀x,foldedSetIterable i1 X.env x=pure x) (I:Inv X pins σ H s) (hw:uU ix wi g tts tb σ H Q)
  (fin:∀D C H' s',Inv X pins σ H' s'->Q (.ref D) H'->(∃m,s'.heap.Ns C m)->H' C=none->X.s₀.heap.objs.size<=C->C≠X.env.locals->(∀x c,X.env.cells.lookup x=some c->c≠C)->C∉X.fs->(∀p∈X.pn++pins,p.1≠C) ->
   compPost (model X.prog X.w) X.A X.xe use Qf (.ref D) C (.ok .next) s') :
  wpAny (model X.prog X.w) X.A (comprehension (lc2 elt t1 i1 f1 t2 i2 f2 scope pos) scope X.env p' (newList []) false (eval i1 X.env) use) Qf X.xe s:=by
 have hclos:closureFor scope X.env=pure (gQ X.env scope.names []):=fK λy hy e=>I.ok.has y.1 (ok.free y hy e).1;refine wpAny_comprehension_free (use:=use) rfl hs hclos ok.kind ok.loc (thn (hi pins s σ H _ I hw) λv s1 h1=>thn h1 λitv s2 h2=>?_);obtain⟨it,fp,tn,J,H2,e,I2,T,st2,fq2,hW⟩:=h2;subst e;obtain⟨W,⟨m0,w0⟩,turn⟩:=hW s2.heap.objs.size (I2.hok.fresh (g_ _))
 have hfl:∀b∈fp,b<s2.heap.objs.size:=λb hb=>by
  obtain⟨o,e,_⟩:=T.obj 0 _ st2 b hb;exact k_ e
 refine Ii ?_
 have I3:Inv X pins σ (upd H2 s2.heap.objs.size (.lst [])) { s2 with heap:=s2.heap.push { cls:=.type "list",dict:=none,data:=.seq ([]:List Value).toArray } } :=
  I2.laid (t':=s2.toks) (λb o e=>f_ _ e) (g_ _) (show aW X.prog X.w _ _ _ (.lst []) from ⟨Jm _,[],0,.nil,p_ _ rfl⟩)
 have st3:tn 0 (s2.heap.push { cls:=.type "list",dict:=none,data:=.seq ([]:List Value).toArray }):=T.keep 0 _ _ st2 λb _ o e=>f_ _ e;have f3:∀b∈fp,pS X pins (upd H2 s2.heap.objs.size (.lst [])) b:=λb hb=>⟨by rw [ak (Hj (hfl b hb))];exact (fq2 b hb).1,(fq2 b hb).2⟩
 have hfl3:∀b∈fp,b<(s2.heap.push { cls:=.type "list",dict:=none,data:=.seq ([]:List Value).toArray }).objs.size:=λb hb=>by rw [ID];exact JY (hfl b hb)
 generalize hs3:({ s2 with heap:=s2.heap.push { cls:=.type "list",dict:=none,data:=.seq ([]:List Value).toArray } }:c_)=s3 at I3 ⊢;have eh3:s3.heap=s2.heap.push { cls:=.type "list",dict:=none,data:=.seq ([]:List Value).toArray }:=by rw [<- hs3]
 rw [<- eh3] at st3 hfl3;generalize hH3:upd H2 s2.heap.objs.size (.lst [])=H3 at I3 f3 w0;generalize hD:s2.heap.objs.size=D at *;refine dI ?_;have I4:=qZ ok I3 f3 hfl3;obtain⟨hg,ht,he⟩:=blk s3 H3 fp pins D;have st4:tn 0 (pushCells (s3.heap.push { cls:=.type "dict",data:=.dict #[] }) scope.names):=T.keep 0 _ _ st3 λb _ o e=>J9 _ _ b o (f_ _ e)
 have stat:∀{H':Hp},(∀b∈fp,H' b=none)->∀b∈fp,pS (aU X N' scope s3 H3 fp pins) [] H' b:=λhn b hb=>by
  refine⟨hn b hb,Hj (hfl3 b hb),I4.ok.exfs b hb,.inl hb,(I4.ok.exf b hb).2,λp hp=>?_⟩;have hp':p∈X.pn++pins:=by simpa [aU] using hp
  exact (fq2 b hb).2.2.2.2.2 p hp'
 have loop:∀(s4:c_),Inv (aU X N' scope s3 H3 fp pins) [] (nP ix σ) H3 s4->tn 0 s4.heap ->
   codeAny (model X.prog X.w) X.A (.compLoop (lc2 elt t1 i1 f1 t2 i2 f2 scope pos) 0 (.ref it) (.ref D) (mC scope s3.heap.objs.size X.env)) (compPost (model X.prog X.w) X.A X.xe use Qf (.ref D) s3.heap.objs.size) s4:=by
  intro s4 I4 st4;refine lD (λn s'=>∃i τ H',Inv (aU X N' scope s3 H3 fp pins) [] τ H' s'/\tn i s'.heap/\(∀b∈fp,H' b=none)/\W i n τ H') ?_ m0 ⟨0,_,H3,I4,st4,λb hb=>(f3 b hb).1,w0⟩;rintro n s5 ⟨i,τ,H5,I5,st5,fr5,w5⟩
  rcases turn i n τ H5 w5 with ⟨stop,qn⟩|⟨go,step⟩
  .refine thn (T.done (aU X N' scope s3 H3 fp pins) rfl rfl rfl hc i [] s5 τ H5 (λ_ _=>False) I5 (stat fr5) st5 stop) λr s6 ⟨hr,I6⟩=>?_;subst hr;have I7:Inv X pins σ H5 s6:=I3.call' (ch:=fp) I6.os I6.base I6.hok I6.bare λb hb=>⟨(fq2 b hb).2.2.2.1,(fq2 b hb).2.1,(fq2 b hb).2.2.2.2.1,(fq2 b hb).2.2.2.2.2⟩
   obtain⟨m6,hn6,_⟩:=I6.loc
   refine fin D s3.heap.objs.size H5 s6 I7 qn ⟨m6,hn6⟩ I6.free ?_ ?_ ?_ ?_ ?_
   .exact I3.sz
   .exact Kq I3.lt
   .intro x c e z;obtain⟨v,q⟩:=I3.cell x c e;have:=q.lt;rw [z] at this;exact HN _ this
   .exact I3.nofs (g_ _)
   .intro p hp z;have:=k_ (I3.pin p hp).1;rw [z] at this;exact HN _ this
  .refine thn (T.item (aU X N' scope s3 H3 fp pins) rfl rfl rfl hc i [] s5 τ H5 (λ_ _=>False) I5 (stat fr5) st5 go) λr s6 ⟨u,hr,h6⟩=>?_;subst hr;refine thn h6 λ_ s7 ⟨x,H7,I7,r7,y7,st7,fr7⟩=>?_;have I7':=I7.pinned (stat fr7) (T.obj _ _ st7)
   have again:∀{s8:c_}{τ8:St}{H8:Hp},Inv (aU X N' scope s3 H3 fp pins) ([]++j6 fp s7.heap) τ8 H8 s8->(∃m',m'<n/\W (i+1) m' τ8 H8) ->
     ∃m,m<n/\∃i τ H',Inv (aU X N' scope s3 H3 fp pins) [] τ H' s8/\tn i s8.heap/\(∀b∈fp,H' b=none)/\W i m τ H':=λ{s8 τ8 H8} I8 ⟨m',hm,w8⟩=>by
    refine⟨m',hm,i+1,τ8,H8,I8.unpinned,T.keep _ _ _ st7 λb hb o e=>(I8.pin (b,o) (r_ _ (r_ _ (cH hb e)))).1,λb hb=>?_,w8⟩;obtain⟨o,e,d⟩:=T.obj _ _ st7 b hb;exact (I8.pin (b,o) (r_ _ (r_ _ (cH hb e)))).2.1
   refine thn (hg _ s7 τ H7 x u _ I7' r7 (step x H7 y7)) λ_ s8 ⟨τ8,H8,I8,q8⟩=>?_;refine thn (ht _ s8 τ8 H8 _ I8 q8) λokb s9 ⟨H9,I9,q9⟩=>?_
   cases okb with
   | false =>
    rw [if_neg m_] at q9;rw [if_neg m_];exact again I9 q9
   | true =>
    rw [if_pos rfl] at q9;rw [if_pos rfl];refine thn (he _ s9 τ8 H9 _ I9 q9) λ_ s10 ⟨τ10,H10,I10,q10⟩=>?_;exact again I10 q10
 exact codeAny_compStart_list (loop _ I4 st4) (T.self X.A 0 _ _ _ st4 (loop _ I4 st4))
def rB{pos:Pos}{wi2:TI}{g2:TG}{tts2:TT}{te:TE}(N':List Str)(ix:List (Option Nat))(hc:X.calm=true)(hi:PI X t1 i1 wi)
  (blk:∀s H fp pn,PG (aU X N' scope s H fp pn) t1 g/\PIf (aU X N' scope s H fp pn) f1 tts/\PI (aU X N' scope s H fp pn) t2 i2 wi2/\PG (aU X N' scope s H fp pn) t2 g2/\PIf (aU X N' scope s H fp pn) f2 tts2/\PE (aU X N' scope s H fp pn) elt te)
  (chk:kc X.env.scope X.N scope N' ix=true) (hs:∀x,foldedSetIterable i1 X.env x=pure x:=by intro _;rfl) (hs2:∀(env:Env) x,foldedSetIterable i2 env x=pure x:=by intro _ _;rfl) :
  PE X (.ListComp elt [⟨t1,i1,f1,0⟩,⟨t2,i2,f2,0⟩] scope pos) (uU ix wi g tts λD=>Ag wi2 g2 tts2 (Af te D)):=by
 intro pins s σ H Q I hw;rw [eval_ListComp]
 refine sQ (use:=none) hc (ke chk) hi (λs H fp pn D=>?_) hs I hw λD C H' s' I' q hm hn h1 h2 h3 h4 h5=>?_
 .obtain⟨b1,b2,b3,b4,b5,b6⟩:=blk s H fp pn;exact⟨b1,b2,Aj (Y:=aU X N' scope s H fp pn) rfl hc b3 b4 b5 (Ah rfl b6) (hs2 _)⟩
 .obtain⟨m,hm⟩:=hm;refine⟨m,hm,λh' sb=>⟨.ref D,H',?_,rfl,q⟩⟩;exact I'.turned (t':=s'.toks) (λb o hb e=>(sb.2 b hb).trans e) hn h2 (.inr h1) h3 h5
end
def kpt{O O1 O2:Addr->Prop}{H H1 H2:Hp}(a:aA O H O1 H1)(b:aA O1 H1 O2 H2):aA O H O2 H2:=λc o n e=>b c o (a c o n e).1 (a c o n e).2
structure CT (ix:List (Option Nat)) (ρ1:PSt) (n:Nat) (it:Nat->D) (g:PTG) (pt:PTT) (pi2:PTI) (g2:PTG) (pt2:PTT) (pe:PTE) (Q:PKt):Prop where
 ex:∃I:Nat->List D->PSt->Prop,I 0 [] (b7 ix ρ1) /\
  (∀k ys τ d,k<n->d=it k->I k ys τ->g (.dat d) τ λτ2=>pt τ2 λok τ3=>gE ok (pi2 τ3 λn2 it2 τ4=>∃I2:Nat->List D->PSt->Prop,I2 0 ys τ4 /\
   (∀j zs τ d,j<n2->d=it2 j->I2 j zs τ->g2 (.dat d) τ λτ5=>pt2 τ5 λok τ6=>gE ok (pe τ6 λp τ7=>zs.length<1000000/\I2 (j+1) (zs++[p.d]) τ7) (I2 (j+1) zs τ6))/\∀zs τ,I2 n2 zs τ->I (k+1) zs τ) (I (k+1) ys τ3)) /\
  ∀ys τ,I n ys τ->Q (.own ys) (dB ix ρ1 τ)
noncomputable def CU(ix:List (Option Nat))(pi:PTI)(g:PTG)(pt:PTT)(pi2:PTI)(g2:PTG)(pt2:PTT)(pe:PTE):PTE:=λρ Q=>pi ρ λn it ρ1=>CA ix ρ1=true/\CT ix ρ1 n it g pt pi2 g2 pt2 pe Q
def rC{K:b_}{ix:List (Option Nat)}{wi wi2:TI}{pi pi2:PTI}{g g2:TG}{pg pg2:PTG}{tts tts2:TT}{pt pt2:PTT}{te:TE}{pe:PTE}(hix:xk ix=true)(hi:LI K wi pi)(hg:∀fs:List Nat,(∀k∈fs,k∈uL ix)->LGd K fs g pg)(ht:LT K tts pt)
  (hi2:LI K wi2 pi2) (hg2:∀fs:List Nat,(∀k∈fs,k∈uL ix)->LGd K fs g2 pg2) (ht2:LT K tts2 pt2) (he:LE K te pe) :
  LE K (uU ix wi g tts λD=>Ag wi2 g2 tts2 (Af te D)) (CU ix pi pg pt pi2 pg2 pt2 pe):=λA ρ σ H Q Q' R q k=>hi A ρ σ H _ _ R q λJ H1 n it ρ1 q1 f1 R1 W D hD=>by
 obtain⟨hcap,⟨I,i0,turn,after⟩⟩:=q1
 let τρ0:=b7 ix ρ1
 let τσ0:=nP ix σ
 let Ai:Addr->Prop:=λb=>A b\/b=D\/(Wr ρ1 σ b/\¬ Wr τρ0 τσ0 b)
 let H0':=upd H1 D (.lst [])
 have wsub:∀b,Wr τρ0 τσ0 b->Wr ρ1 σ b:=λb ⟨m,p,e,o,s⟩=>by
  obtain⟨j,h1,h2⟩:=ck e;obtain⟨v,hv,_⟩:=R1.get j p h2;have:=cu h1 hv;rw [s] at this;cases this;exact⟨j,p,h2,o,hv⟩
 have nD:¬ Wr ρ1 σ D:=λz=>R1.wr z hD
 have oosub:∀b,OO Ai τρ0 τσ0 b->OO A ρ1 σ b\/b=D:=λb z=>by
  rcases z with (z|z|z)|z
  .exact .inl (.inl z)
  .exact .inr z
  .exact .inl (.inr z.1)
  .exact .inl (.inr (wsub b z))
 have kD:aA (OO A ρ1 σ) H1 (OO Ai τρ0 τσ0) H0':=λb o nn e=>by
  refine⟨λz=>?_,?_⟩
  .rcases oosub b z with z|z
   .exact nn z
   .rw [z,hD] at e;cases e
  .rw [show H0' b=H1 b from ak (aK e hD)];exact e
 have Ri:Rel K Ai τρ0 τσ0 H0':=by
  refine⟨by show (b7 ix ρ1).length=(nP ix σ).length;unfold b7 nP;rw [length_map,length_map],λm p e=>?_,λm l p q v e1 e2 o1 o2 s1 s2=>?_,λb z=>?_,λb z w=>?_⟩
  .obtain⟨j,h1,h2⟩:=ck e;obtain⟨v,hv,r⟩:=R1.get j p h2;refine⟨v,cu h1 hv,r.keeps kD λow a ea=>?_⟩;subst ea;exact ak (λz=>nD (by rw [<- z];exact⟨j,p,h2,ow,hv⟩))
  .obtain⟨j,h1,h2⟩:=ck e1;obtain⟨j',h3,h4⟩:=ck e2;obtain⟨v1,hv1,_⟩:=R1.get j p h2;obtain⟨v2,hv2,_⟩:=R1.get j' q h4;have t1:=cu h1 hv1;have t2:=cu h3 hv2;rw [s1] at t1;rw [s2] at t2;cases t1;cases t2;have:=R1.dj j j' p q _ h2 h4 o1 o2 hv1 hv2;subst this;exact iB hix h1 h3
  .rcases z with z|z|z
   .intro e
    by_cases zz:b=D
    .exact R1.dom b z (by rw [zz];exact hD)
    .rw [show H0' b=H1 b from ak zz] at e;exact R1.dom b z e
   .rw [z];show upd H1 D _ D≠none;rw [aw];exact nofun
   .intro e;rw [show H0' b=H1 b from ak (λzz=>nD (by rw [<- zz];exact z.1))] at e;exact R1.wr z.1 e
  .rcases z with z|z|z
   .exact R1.sep b z (wsub b w)
   .rw [z] at w;exact nD (wsub D w)
   .exact z.2 w
 let fxi:List (Nat×V):=(uL ix).filterMap λm=>match (τσ0[m]?) with|some (some v)=>some (m,v)|_=>none
 have hfx:∀p∈fxi,τσ0[p.1]?=some (some p.2):=λp hp=>by
  obtain⟨m,hm,e⟩:=IM.mp hp
  split at e
  .rename_i v ev;cases e;exact ev
  .cases e
 have hfs:∀m∈fxi.map v_,m∈uL ix:=λm hm=>by
  obtain⟨p,hp,rfl⟩:=Hx.mp hm;obtain⟨m',hm',e⟩:=IM.mp hp
  split at e
  .cases e;exact hm'
  .cases e
 have hgi:=hg (fxi.map v_) hfs;have hgi2:=hg2 (fxi.map v_) hfs
 have fxget:∀(m j:Nat) (v:V),ix[m]?=some (some j)->σ[j]?=some (some v)->(m,v)∈fxi:=λm j v h1 h2=>by
  refine IM.mpr ⟨m,?_,?_⟩
  .unfold uL;refine Ko.mpr ⟨Hl.mpr (h_.mp h1).1,?_⟩;rw [e_,h1];rfl
  .show (match (nP ix σ)[m]? with|some (some v)=>some (m,v)|_=>none)=_;rw [cu h1 h2]
 let Rr:Addr->Prop:=λb=>Wr τρ0 τσ0 b\/b=D
 have hRr:∀b,Rr b->OO Ai τρ0 τσ0 b:=λb z=>z.elim (λz=>.inr z) (λz=>.inl (.inr (.inl z)));have F0:bY fxi Rr H0' τρ0 τσ0 H0':=⟨λ_ _ _ h=>h,λ_ h=>h,λb w=>.inl (.inl w),hfx⟩
 refine⟨λi m τ H2=>i+m=n/\∃ys τρ xs,I i ys τρ/\Rel K Ai τρ τ H2/\bY fxi Rr H0' τρ τ H2/\H2 D=some (.lst xs)/\FVs K (OO Ai τρ τ) H2 xs ys/\∀b,Wr τρ τ b->Wr τρ0 τσ0 b,
  ⟨n,Kj n,[],τρ0,[],i0,Ri,F0,aw,.nil,λ_ h=>h⟩,λi m τ H2 ⟨him,ys,τρ,xs,iv,r2,F2,eD,fD,hw⟩=>?_⟩
 have kk:aA (OO A ρ1 σ) H1 (OO Ai τρ τ) H2:=λb o nn e=>(F2.keepsR hRr) b o (kD b o nn e).1 (kD b o nn e).2;obtain⟨go,stop⟩:=W _ H2 kk r2.dom2
 by_cases hk:i<n
 .obtain⟨g1,g2⟩:=go i hk;refine .inr ⟨g1,λx H3 y=>?_⟩;obtain⟨gr,fv⟩:=g2 x H3 y;have AiD:Ai D:=.inr (.inl rfl);refine hgi fxi Ai Rr H0' τρ τ H3 _ x _ _ rfl (F2.fr gr.fr) (r2.gr gr) fv (turn i ys τρ _ hk rfl iv) λτρ2 τ2 q2 r3 F3 w3=>?_;refine ht Ai τρ2 τ2 H3 _ _ r3 q2 λok H5 τρ3 q3 f5 r5=>?_;have F5:=F3.fr f5;have fD5:FVs K (OO Ai τρ3 τ2) H5 xs ys:=((fD.keeps (gr.fr (ρ:=τρ) (σ:=τ)).keeps).keeps (aA.less λb z=>z.imp id (w3 b))).keeps f5.keeps
  have eD5:H5 D=some (.lst xs):=f5.kp D _ (r3.sep D AiD) (gr D _ eD)
  cases ok with
  | true =>
   refine hi2 Ai τρ3 τ2 H5 _ _ r5 q3 λJ2 H6 n2 it2 τρ4 q4 f6 r6 W2=>?_;obtain⟨I2,j0,turn2,after2⟩:=q4;have F6:=F5.fr f6;have eD6:H6 D=some (.lst xs):=f6.kp D _ (r5.sep D AiD) eD5;have fD6:=fD5.keeps (f6.keeps (A:=Ai));have hw6:∀b,Wr τρ4 τ2 b->Wr τρ0 τσ0 b:=λb z=>hw b (w3 b (f5.ow b (f6.ow b z)))
   refine⟨λj l τ' H'=>j+l=n2/\∃zs τρ' xs',I2 j zs τρ'/\Rel K Ai τρ' τ' H'/\bY fxi Rr H0' τρ' τ' H'/\H' D=some (.lst xs')/\FVs K (OO Ai τρ' τ') H' xs' zs/\(∀b,Wr τρ' τ' b->Wr τρ0 τσ0 b)/\aA (OO Ai τρ4 τ2) H6 (OO Ai τρ' τ') H',
    ⟨n2,Kj n2,ys,τρ4,xs,j0,r6,F6,eD6,fD6,hw6,λb o n e=>⟨n,e⟩⟩,λj l τ' H7 ⟨hjl,zs,τρ',xs',jv,r7,F7,eD7,fD7,hw7,kk7⟩=>?_⟩
   obtain⟨go2,stop2⟩:=W2 _ H7 kk7 r7.dom2
   by_cases hj:j<n2
   .obtain⟨g1',g2'⟩:=go2 j hj;refine .inr ⟨g1',λy H8 yy=>?_⟩;obtain⟨gr8,fv8⟩:=g2' y H8 yy;refine hgi2 fxi Ai Rr H0' τρ' τ' H8 _ y _ _ rfl (F7.fr gr8.fr) (r7.gr gr8) fv8 (turn2 j zs τρ' _ hj rfl jv) λτρ9 τ9 q9 r9 F9 w9=>?_;refine ht2 Ai τρ9 τ9 H8 _ _ r9 q9 λok2 H10 τρ10 q10 f10 r10=>?_;have F10:=F9.fr f10;have k1:=(gr8.fr (ρ:=τρ') (σ:=τ')).keeps (A:=Ai);have k2:aA (OO Ai τρ' τ') H8 (OO Ai τρ9 τ9) H8:=aA.less λb z=>z.imp id (w9 b)
    have k3:=f10.keeps (A:=Ai);have fD10:FVs K (OO Ai τρ10 τ9) H10 xs' zs:=fD7.keeps (kpt k1 (kpt k2 k3));have eD10:H10 D=some (.lst xs'):=f10.kp D _ (r9.sep D AiD) (gr8 D _ eD7)
    cases ok2 with
    | true =>
     refine he Ai τρ10 τ9 H10 _ _ r10 q10 λv H11 p τρ11 q11 f11 o11=>?_;obtain⟨r11,fv11⟩:=o11.frz;have F11:=F10.fr f11;have eD11:H11 D=some (.lst xs'):=f11.kp D _ (r10.sep D AiD) eD10;have kw:aA (OO Ai τρ11 τ9) H11 (OO Ai τρ11 τ9) (upd H11 D (.lst (xs'++[v]))):=λb o nn e=>⟨nn,by rw [ak (λz=>nn (by rw [z];exact .inl AiD))];exact e⟩
     refine⟨xs',eD11,?_,l - 1,by omega,by omega,zs++[p.d],τρ11,xs'++[v],q11.2,r11.amb AiD,⟨λb o nn e=>?_,λb z=>?_,F11.ow,F11.fx⟩,aw,((fD10.keeps f11.keeps).append (.cons fv11 .nil)).keeps kw,λb z=>hw7 b (w9 b (f10.ow b (f11.ow b z))),kpt kk7 (kpt k1 (kpt k2 (kpt k3 (kpt f11.keeps kw))))⟩
     .have:xs'.length=zs.length:=fD10.length;have:=q11.1;exact s_ (by omega:xs'.length<1000000) (sz _ (g_ _))
     .rw [ak (λz=>nn (.inr z))];exact F11.kp b o nn e
     .by_cases zz:b=D
      .rw [zz,aw];exact nofun
      .rw [ak zz];exact F11.dm b z
    | false=>exact⟨l - 1,by omega,by omega,zs,τρ10,xs',q10,r10,F10,eD10,fD10,λb z=>hw7 b (w9 b (f10.ow b z)),kpt kk7 (kpt k1 (kpt k2 k3))⟩
   .have e:j=n2:=by omega
    subst e;exact .inl ⟨stop2,m - 1,by omega,by omega,zs,τρ',xs',after2 zs τρ' jv,r7,F7,eD7,fD7,hw7⟩
  | false=>exact⟨m - 1,by omega,by omega,ys,τρ3,xs,q3,r5,F5,eD5,fD5,λb z=>hw b (w3 b (f5.ow b z))⟩
 .have e:i=n:=by omega
  subst e;refine .inl ⟨stop,?_⟩;have q':=after ys τρ iv
  have cap:∀(m j:Nat),ix[m]?=some (some j)->∃p v,ρ1[j]?=some (some p)/\σ[j]?=some (some v)/\τ[m]?=some (some v):=λm j e=>by
   have h1:=all_eq_true.mp hcap _ (B_ e);have h1:(match ρ1[j]? with|some (some _)=>true|_=>false)=true:=h1
   split at h1
   .rename_i p ep;obtain⟨v,hv,_⟩:=R1.get j p ep;exact⟨p,v,ep,hv,F2.fx _ (fxget m j v e hv)⟩
   .cases h1
  have get':∀(j:Nat) (p:PV),(dB ix ρ1 τρ)[j]?=some (some p)->(∃m v,ix[m]?=some (some j)/\σ[j]?=some (some v)/\τ[m]?=some (some v)/\τρ[m]?=some (some p))\/(some j∉ix/\ρ1[j]?=some (some p)):=λj p e=>by
   by_cases hj:some j∈ix
   .obtain⟨m,hm,em⟩:=IT hj;have em':ix[m]?=some (some j):=by rw [d_ hm,em]
    obtain⟨p0,v,h1,h2,h3⟩:=cap m j em';rw [ko ix ρ1 τρ j m hix em' (by rw [r2.len];exact (h_.mp h3).1) (h_.mp h1).1] at e;exact .inl ⟨m,v,em',h2,h3,e⟩
   .rw [gn ix ρ1 τρ j hj] at e;exact .inr ⟨hj,e⟩
  have nocap:∀(j:Nat) (p:PV) (b:Addr),some j∉ix->ρ1[j]?=some (some p)->p.isOwn=true->σ[j]?=some (some (.ref b))->¬ Wr τρ0 τσ0 b:=λj p b hj e o s ⟨m,q,e1,o1,s1⟩=>by
   obtain⟨j',h1,h2⟩:=ck e1;obtain⟨v,hv,_⟩:=R1.get j' q h2;have:=cu h1 hv;rw [s1] at this;cases this;have:=R1.dj j j' p q _ e h2 o o1 s hv;subst this;exact hj (B_ h1)
  have w':∀b,Wr (dB ix ρ1 τρ) σ b->Wr τρ τ b\/(Wr ρ1 σ b/\¬ Wr τρ0 τσ0 b):=λb ⟨j,p,e,o,s⟩=>by
   rcases get' j p e with ⟨m,v,h1,h2,h3,h4⟩|⟨hj,h1⟩
   .rw [s] at h2;cases h2;exact .inl ⟨m,p,h4,o,h3⟩
   .exact .inr ⟨⟨j,p,h1,o,s⟩,nocap j p b hj h1 o s⟩
  have oo':∀b,OO (cJ A D) (dB ix ρ1 τρ) σ b->OO Ai τρ τ b:=λb z=>by
   rcases z with (z|z)|z
   .exact .inl (.inl z)
   .exact .inl (.inr (.inl z))
   .rcases w' b z with z|z
    .exact .inr z
    .exact .inl (.inr (.inr z))
  have kp1:∀b o,¬ Wr τρ0 τσ0 b->b≠D->H1 b=some o->H2 b=some o:=λb o n1 n2 e=>F2.kp b o (λz=>z.elim n1 n2) (by rw [show H0' b=H1 b from ak n2];exact e);have k1:aA (OO A ρ1 σ) H1 (OO (cJ A D) (dB ix ρ1 τρ) σ) H2:=λb o nn e=>⟨λz=>(kk b o nn e).1 (oo' b z),(kk b o nn e).2⟩
  have AiD:Ai D:=.inr (.inl rfl)
  have R':Rel K (cJ A D) (dB ix ρ1 τρ) σ H2:=by
   refine⟨by rw [iA];exact R1.len,λj p e=>?_,λj l p q v e1 e2 o1 o2 s1 s2=>?_,λb z=>?_,λb z w=>?_⟩
   .rcases get' j p e with ⟨m,v,h1,h2,h3,h4⟩|⟨hj,h1⟩
    .obtain⟨v',hv',r⟩:=r2.get m p h4;rw [h3] at hv';cases hv';exact⟨v,h2,r.keeps (aA.less oo') λ_ _ _=>rfl⟩
    .obtain⟨v,hv,r⟩:=R1.get j p h1;refine⟨v,hv,r.keeps k1 λow a ea=>?_⟩;subst ea;obtain⟨a',u,e1,e2⟩:=r.ref ow;cases e1;rw [e2];exact kp1 a u (nocap j p a hj h1 ow hv) (λz=>by rw [z,hD] at e2;cases e2) e2
   .rcases get' j p e1 with ⟨m,v1,h1,h2,h3,h4⟩|⟨hj,h1⟩
    .rw [s1] at h2;cases h2
     rcases get' l q e2 with ⟨m',v2,g1,g2,g3,g4⟩|⟨hl,g1⟩
     .rw [s2] at g2;cases g2;have:=r2.dj m m' p q _ h4 g4 o1 o2 h3 g3;subst this;rw [h1] at g1;cases g1;rfl
     .exfalso;obtain⟨v',hv',r⟩:=r2.get m p h4;rw [h3] at hv';cases hv';obtain⟨a,u,ea,_⟩:=r.ref o1;subst ea;exact nocap l q a hl g1 o2 s2 (hw a ⟨m,p,h4,o1,h3⟩)
    .rcases get' l q e2 with ⟨m',v2,g1,g2,g3,g4⟩|⟨hl,g1⟩
     .rw [s2] at g2;cases g2;exfalso;obtain⟨v',hv',r⟩:=r2.get m' q g4;rw [g3] at hv';cases hv';obtain⟨a,u,ea,_⟩:=r.ref o2;subst ea;exact nocap j p a hj h1 o1 s1 (hw a ⟨m',q,g4,o2,g3⟩)
     .exact R1.dj j l p q v h1 g1 o1 o2 s1 s2
   .rcases z with z|z
    .exact r2.dom b (.inl z)
    .rw [z,eD];exact nofun
   .rcases w' b w with w|w
    .rcases z with z|z
     .exact r2.sep b (.inl z) w
     .rw [z] at w;exact r2.sep D AiD w
    .rcases z with z|z
     .exact R1.sep b z w.1
     .rw [z] at w;exact nD w.1
  have f2:Fr ρ1 σ H1 (dB ix ρ1 τρ) H2:=by
   refine⟨λb o nn e=>kp1 b o (λz=>nn (wsub b z)) (λz=>by rw [z,hD] at e;cases e) e,λb z=>F2.dm b ?_,λb z=>?_⟩
   .intro e
    by_cases zz:b=D
    .exact z (by rw [zz];exact hD)
    .rw [show H0' b=H1 b from ak zz] at e;exact z e
   .rcases w' b z with z|z
    .exact wsub b (hw b z)
    .exact z.1
  have hD0:H D=none:=by
   cases e:H D with
   | none=>rfl
   | some o=>exact absurd hD (f1.dm D (by rw [e];exact nofun))
  exact k _ H2 (.own ys) _ q' (f1.trans f2) ⟨D,xs,rfl,λz=>R1.dom D z hD,hD0,eD,R',fD.keeps (aA.less oo')⟩
section
variable {prog:so}{w:World}{A:w_}{E:Value->c_->Prop}{s:c_}
def mO{l:Addr}{vs:List Value}{Q:List Value->c_->Prop}(hl:IsTup s.heap l vs.toArray)
  (h:Q vs { s with heap:=(s.heap.push (seqObj "list" #[] 0)).update s.heap.objs.size (IB (·++vs.toArray)) }) (hsz:vs.length<=sizeLine:=by size_fits) :
  wpAny (model prog w) A (collect (.ref l)) Q E s:=by
 obtain⟨o,ho,hc,n,hd⟩:=id hl;unfold collect;refine cy (wpAny_runValue (I_ entry_proto_collect' ?_));show wpAny _ _ (do again (.builtin "list.__iadd__" ⟨[<- newList [],.ref l],[]⟩)) _ _ s;refine cy (wpAny_newList (l_ ⟨Code.quiet_builtin _ (by decide +kernel),I_ entry_list_iadd' ?_⟩));show wpAny _ _ (HH (.ref s.heap.objs.size) (.ref l) (.ref s.heap.objs.size)) _ _ { s with heap:=s.heap.push (seqObj "list" #[] 0) }
 unfold HH;have ho':(s.heap.push (seqObj "list" #[] 0)).get? l=some o:=f_ _ ho;refine cy (wpAny_typeOf (T:="tuple") ⟨o,ho',hc⟩ ?_);have ht:(Ib "tuple" == Ib "tuple")=true:=by rfl
 rw [if_pos (by rw [ht];simp)];refine cy (listItems_at ho' hd ?_);refine cy (listItems_at (xs:=#[]) (n:=0) (p_ _ rfl) rfl ?_);rw [if_neg (by simp)];refine cy (listUpdate_at (xs:=#[]) (n:=0) (p_ _ rfl) rfl ?_ (Jm _) (by show (#[]++vs.toArray).size<=sizeLine+1;simp only [Array.size_append,size_toArray,length_nil];omega));refine l_ ?_
 show wpAny (model prog w) A (do
   let o <- load s.heap.objs.size
   match o.data with
   | .seq xs _=>pure xs.toList
   | _=>unsupported "internal:collect") Q E { s with heap:=(s.heap.push (seqObj "list" #[] 0)).update s.heap.objs.size (IB (·++vs.toArray)) }
 refine cy (wpAny_load (get?_update_seq (p_ _ rfl) _) ?_);show wpAny _ _ (pure ((#[]:Array Value)++vs.toArray).toList) Q E _;rw [show ((#[]:Array Value)++vs.toArray).toList=vs by simp];exact l_ h
def n9{l:Addr}{vs:List Value}{ns:List Int}{Q:Value->c_->Prop}(hl:IsTup s.heap l vs.toArray)(hI:Jk vs ns)(h64:vs.length<64)
  (h:∀(out:Array Value) (ns':List Int),Jk out.toList ns'->ns'.Perm ns->ns'.Pairwise (·<=·)->Q (.ref (s.heap.objs.size+1)) { s with heap:=sortedAll s.heap vs out }) :
  wpAny (model prog w) A (call (.builtin "sorted") [.ref l]) Q E s:=by
 refine Calls.call_function_entry kind_sorted plain_sorted entry_sorted (args_sorted1 _) ?_;unfold JG.«sorted»;refine cy (m:=checkCount "sorted" 1 1 _) (l_ ?_);refine cy (mO hl ?_);refine cy (wpAny_newList ?_)
 have hsz:((s.heap.push (seqObj "list" #[] 0)).update s.heap.objs.size (IB (·++vs.toArray))).objs.size=s.heap.objs.size+1:=by
  rw [Heap.size_update,size_push']
 have hoL:(((s.heap.push (seqObj "list" #[] 0)).update s.heap.objs.size (IB (·++vs.toArray))).push (seqObj "list" vs.toArray 0)).get? (s.heap.objs.size+1)=some (seqObj "list" vs.toArray 0):=by
  rw [<- hsz];exact p_ _ rfl
 show wpAny _ _ _ _ _ { s with heap:=((s.heap.push (seqObj "list" #[] 0)).update s.heap.objs.size (IB (·++vs.toArray))).push (seqObj "list" vs.toArray 0) };rw [hsz];refine cy (Hu (JV slot_list_sort ⟨_,hoL,rfl⟩ entry_list_sort (list_sort_tree hoL hI h64 λout ns' a1 a2 a3=>⟨_,rfl,?_⟩) (args_list_sort _)));exact l_ ⟨_,rfl,h out ns' a1 a2 a3⟩
end
section
variable {X:Cx}{K:b_}
noncomputable def yA(K:b_):List V->Hp->VK->Prop:=λxs H Q=>∃(b:Bool) (p:Addr) (ns:List Int),xs=[.ref p]/\Sq b K H p (ns.map V.int)/\ns.length<64/\∀ns':List Int,ns'.Perm ns->ns'.Pairwise (·<=·)->∀q,H q=none->Q (.ref q) (upd H q (.lst (ns'.map V.int)))
def uV(K:b_)(e:X.K=K):bD X (.builtin "sorted") (yA K):=by
 subst e;intro pins s σ H xs us Q I r h;obtain⟨b,p,ns,rfl,hS,hne,q⟩:=h;obtain⟨u,rfl,ru⟩:=fR r;cases (show u=o_ p from ru)
 cases b with
 | false=>exact Ae X.K rfl pins s σ H _ _ Q I r ⟨p,ns,rfl,hS,hne,q⟩
 | true =>
  obtain⟨its,rv,pl,hz⟩:=I.tuple hS;have hi:=cW rv;have hlen:its.length=ns.length:=by have:=rv.length;rw [length_map] at this;exact this.symm
  refine n9 pl hi (by omega) λout ns' ho hp hs=>?_;obtain⟨e,he⟩:=sortedAll_at s.heap its out;have hle:s.heap.objs.size<=s.heap.objs.size+1:=le_succ _;refine⟨.ref (s.heap.objs.size+1),_,I.laid (a:=s.heap.objs.size+1) (o:=.lst (ns'.map V.int)) (t':=s.toks) (λb o z=>sortedAll_old z) hle ?_,rfl,q ns' hp hs _ (I.hok.fresh hle)⟩;refine⟨?_,out.toList,e,ip ho,he⟩;rw [length_map,hp.length_eq];exact sz _ (by omega)
noncomputable def yB:FN
 | [.lst ds],Q=>∃ns:List Int,ds=ns.map .int/\ns.length<64/\∀ns':List Int,ns'.Perm ns->ns'.Pairwise (·<=·)->Q (.own (ns'.map .int))
 | [.tup ds],Q=>∃ns:List Int,ds=ns.map .int/\ns.length<64/\∀ns':List Int,ns'.Perm ns->ns'.Pairwise (·<=·)->Q (.own (ns'.map .int))
 | _,_=>False
def rD:LC K (yA K) yB:=by
 intro O H xs as Q Q' dom fs q k;unfold yB at q
 split at q
 .obtain⟨ns,rfl,h0,q⟩:=q
  cases fs with
  | cons a b =>
   cases b;obtain⟨p,ys,rfl,e1,f1⟩:=a.lst;rw [f1.ints] at e1;exact⟨false,p,ns,rfl,SqL.of e1,h0,λns' h1 h2 p' hp'=>k _ _ _ (q ns' h1 h2) (Gr.new hp') (eE hp' (FVs.of_ints _))⟩
 .obtain⟨ns,rfl,h0,q⟩:=q
  cases fs with
  | cons a b =>
   cases b;obtain⟨p,ys,rfl,_,e1,f1⟩:=a.tup;rw [f1.ints] at e1;exact⟨true,p,ns,rfl,SqT.of e1,h0,λns' h1 h2 p' hp'=>k _ _ _ (q ns' h1 h2) (Gr.new hp') (eE hp' (FVs.of_ints _))⟩
 .exact q.elim
end
section
variable {prog:so}{w:World}{A:w_}{E:Value->c_->Prop}{s:c_}
theorem oa{it t:Addr}{items:Array Value}(hne:t≠it):∀(n i:Nat) (s:c_) (Q:List Value->c_->Prop),s.heap.IsListIter it t i->s.heap.IsList t items->i+n<=items.size ->
  (∀h',h'.IsListIter it t (i+n)->JH it s.heap h'->Q ((items.toList.drop i).take n) { s with heap:=h' })->wpAny (model prog w) A (draw (.ref it) n) Q E s
 | 0,i,s,Q,hit,_,_,hQ=>by
  show wpAny _ _ (pure []) Q E s;exact l_ (by simpa using hQ s.heap hit (Heap.SameBut.refl ..))
 | n+1,i,s,Q,hit,ht,hle,hQ=>by
  have hlt:i<items.size:=by omega
  show wpAny _ _ (pyNext (.ref it) >>= _) Q E s;refine cy (wpAny_pyNext_list_item hit ht (x:=items[i]) (by simp [hlt]) λh₁ hit₁ hs₁=>?_);refine cy (Hu (oa hne n (i+1) _ _ hit₁ (ht.extBut hs₁.extBut hne) (by omega) λh₂ hit₂ hs₂=>l_ ?_));have hd:items.toList.drop i=items[i]::items.toList.drop (i+1):=by simp [drop_eq_getElem_cons,hlt]
  have:=hQ h₂ (by rw [show i+(n+1)=i+1+n by omega];exact hit₂) (hs₁.trans hs₂);rw [hd,take_succ_cons] at this;exact this
def jH{t:Addr}{items:Array Value}{Q:List Value->c_->Prop}(hh:A.handled=none)(ht:s.heap.IsList t items)
  (hQ:∀h',Lk s.heap.objs.size s.heap h'->Q items.toList { s with heap:=h' }):wpAny (model prog w) A (unpackItems (.ref t) items.size none) Q E s:=by
 have hlt:t≠s.heap.objs.size:=by obtain⟨o,ho,_⟩:=ht;exact Hj (k_ ho)
 unfold unpackItems
 refine cy ?_
 .unfold notIterableAtAll;refine cy (J_ ht.typeIs PySem.F.slot_list_iter.lookup ?_);refine l_ ?_;simp only [false_eq_true,if_false];refine cy (Hu (IK ht ?_));refine cy (Hu (oa hlt items.size 0 _ _ ⟨_,p_ _ rfl,rfl,rfl⟩ (ht.push _) (by omega) λh₁ hit₁ hs₁=>?_))
  have hall:List.take items.size (List.drop 0 items.toList)=items.toList:=by
   rw [drop_zero];exact take_of_length_le (by simp)
  rw [hall];rw [if_neg (by simp)];have ht₁:h₁.IsList t items:=(ht.push _).extBut hs₁.extBut hlt;refine cy (Hu (wpAny_pyNext_list_end hh hit₁ ht₁ (by simp) λh₂ he₂=>?_));simp only [Option.isSome_none,false_eq_true,if_false];refine l_ (hQ h₂ λb o hb e=>he₂ b o hb (hs₁.extBut b o hb (f_ _ e)))
def i3{env:Env}{elts:List Expr}{x1}{pos:Pos}{t:Addr}{items:Array Value}{Q:Unit->c_->Prop}(hh:A.handled=none)(ht:s.heap.IsList t items)
  (hn:(assignEach elts env).length=items.size) (hstar:(assignEach elts env).findIdx? (·.1)=none)
  (h:∀h',Lk s.heap.objs.size s.heap h'->wpAny (model prog w) A (assignInOrder ((assignEach elts env).map (·.2)) items.toList) Q E { s with heap:=h' }) :
  wpAny (model prog w) A (assign (.Tuple elts x1 pos) env (.ref t)) Q E s:=by
 rw [assign_Tuple];refine cy (HI ?_);unfold unpack;rw [hn,hstar];exact cy (Hu (jH hh ht h))
end
noncomputable def D5(K:b_)(n:Nat)(t:TGs):TG:=λv σ H Q=>∃b a xs,v=.ref a/\Sq b K H a xs/\xs.length=n/\t xs σ H Q
section
variable {X:Cx}
def rE(K:b_)(eK:X.K=K){es:List Expr}{k:Nat}{t:TGs}{n:Nat}{pos:Pos}(hc:X.calm=true)(h:PGs X es t)
  (hn:(assignEach es X.env).length=n:=by rfl) (hst:(assignEach es X.env).findIdx? (·.1)=none:=by rfl):PG X (.Tuple es k pos) (D5 K n t):=by
 subst eK;intro pins s σ H v u Q I r hw;obtain⟨b,a,xs,e1,hq,hl,hw⟩:=hw
 cases b with
 | true=>exact BG hc h hn hst pins s σ H v u Q I r ⟨a,xs,e1,hq,hl,hw⟩
 | false =>
  subst e1;cases r;obtain⟨its,rv,ht,hz⟩:=I.list hq;refine i3 (I.ok.hd hc) ht.isList (by simp [hn,<- hl,rv.length]) hst λh' hx=>?_;have I1:Inv X pins σ H { s with heap:=h' }:=I.kept (t':=s.toks) λb o e=>hx b o (Hj (k_ e)) e;exact h pins _ σ H xs _ Q I1 (by simpa using rv) hw
noncomputable def uW(n:Nat)(gs:wu):PTG:=λp ρ Q=>match p with|.dat (.tup ds)=>ds.length=n/\gs ds ρ Q|.dat (.lst ds)=>ds.length=n/\gs ds ρ Q|.own ds=>ds.length=n/\gs ds ρ Q|_=>False
end
section
variable {K:b_}{fs:List Nat}
def uX{n:Nat}{gs:TGs}{pgs:wu}(h:LGs K fs gs pgs):LGd K fs (D5 K n gs) (uW n pgs):=λfx A R H0 ρ σ H d v Q Q' hf F r fv q k=>by
 unfold uW at q
 split at q
 .rename_i e;cases e
  cases fv with
  | tup nn e f=>exact⟨true,_,_,rfl,SqT.of e,by rw [f.length];exact q.1,h fx A R H0 ρ σ H _ _ Q Q' hf F r f q.2 k⟩
 .rename_i e;cases e
  cases fv with
  | lst nn e f=>exact⟨false,_,_,rfl,SqL.of e,by rw [f.length];exact q.1,h fx A R H0 ρ σ H _ _ Q Q' hf F r f q.2 k⟩
 .rename_i e;cases e
 .exact q.elim
def yC{n:Nat}{gs:TGs}{pgs:wu}(h:LGs K fs gs pgs):LG K fs (D5 K n gs) (uW n pgs):=λfx A R H0 ρ σ H p v Q Q' hf F o q k=>by
 unfold uW at q
 split at q
 .obtain⟨r,fv⟩:=o
  cases fv with
  | tup nn e f=>exact⟨true,_,_,rfl,SqT.of e,by rw [f.length];exact q.1,h fx A R H0 ρ σ H _ _ Q Q' hf F r f q.2 λρ' σ' q' r' F' _=>k ρ' σ' H q' r' F'⟩
 .obtain⟨r,fv⟩:=o
  cases fv with
  | lst nn e f=>exact⟨false,_,_,rfl,SqL.of e,by rw [f.length];exact q.1,h fx A R H0 ρ σ H _ _ Q Q' hf F r f q.2 λρ' σ' q' r' F' _=>k ρ' σ' H q' r' F'⟩
 .obtain⟨r,fv⟩:=o.frz
  cases fv with
  | lst nn e f=>exact⟨false,_,_,rfl,SqL.of e,by rw [f.length];exact q.1,h fx A R H0 ρ σ H _ _ Q Q' hf F r f q.2 λρ' σ' q' r' F' _=>k ρ' σ' H q' r' F'⟩
 .exact q.elim
end
noncomputable def fW(d:D)(xs:List D):Prop:=d=.lst xs\/d=.tup xs
def rF{d:D}{xs:List D}{Q:PV->Prop}(h:fW d xs)(q:Q (.dat (.int xs.length))):E3 [d] Q:=by
 rcases h with rfl|rfl <;> exact q
def mP{d:D}{xs:List D}{i:Int}{Q:PV->Prop}(h:fW d xs)(q:∃x,atI xs i=some x/\Q (.dat x)):fIx d (.int i) Q:=by
 rcases h with rfl|rfl <;> exact q
def CV{d:D}{xs:List D}{n:Nat}{gs:wu}{ρ:PSt}{Q:PSt->Prop}(h:fW d xs)(q:xs.length=n/\gs xs ρ Q):uW n gs (.dat d) ρ Q:=by
 rcases h with rfl|rfl <;> exact q
theorem og{d:D}{xs:List D}{F:Nat->(Nat->D)->Prop}(h:fW d xs)(q:F xs.length (itD xs)):(match E5 d with|some (n,it)=>F n it|none=>False):=by
 rcases h with rfl|rfl <;> exact q
def fW.lst(xs:List D):fW (.lst xs) xs:=.inl rfl
def fW.tup(xs:List D):fW (.tup xs) xs:=.inr rfl
def fW.items{d:D}{xs:List D}(h:fW d xs):ah d=xs:=by rcases h with rfl|rfl <;> rfl
noncomputable def nSt:Expr->Bool
 | .Starred _ _=>false
 | _=>true
def i4{e:Expr}{es:List Expr}{env:Env}(h:nSt e=true):starEach (e::es) env=(false,eval e env)::starEach es env:=by
 cases e <;> first|rfl|cases h
theorem iE{env:Env}{pos:Pos}:∀{es:List Expr},es.all nSt=true->(backTo pos (starEach es env)).any (·.1)=false
 | [],_=>rfl
 | e::es,h=>by
  rw [all_cons,and_eq_true] at h;rw [i4 h.1];show (false || (backTo pos (starEach es env)).any (·.1))=false;rw [iE h.2];rfl
section
variable {X:Cx}{k:Nat}{x:Str}{ps:List Str}{sp:Sp}{e:Expr}{es:List Expr}{te:TE}{t:TA}{p pos:Pos}{dvs:List V}{C:Addr}{id T:String}{r:List V->Hp->VK->Prop}
def paC(ha:PE X e te)(hr:PA X es t)(hn:nSt e=true:=by rfl):PA X (e::es) (bi te t):=zt ha hr (i4 hn)
def aE(C:Cal X.prog X.w X.K X.mg X.base k x ps sp)(hr:fJ k X.A)(ha:PA X (e::es) t)(hg:Gl X x:=by rfl)(hdb:(x == ("__debug__":Str))=false:=by decide)(hn:nSt e=true:=by rfl)(hp:es.all nSt=true:=by rfl) :
  PE X (.Call (.Name x p) (e::es) [] pos) (gP sp [] E0 t):=B9 C hr ha hg hdb (i4 hn) (iE hp)
def aq(hc:bD X (.builtin id) r)(hg:Gl X x)(hm:X.mg x=none)(hv:bootBuiltins x=some (.builtin id))(ha:PA X (e::es) t)(hnn:x≠"__name__":=by decide)(hdb:(x == ("__debug__":Str))=false:=by decide)(hn:nSt e=true:=by rfl)(hp:es.all nSt=true:=by rfl) :
  PE X (.Call (.Name x p) (e::es) [] pos) (tCB r t):=wK hc hg hm hv ha hnn hdb (i4 hn) (iE hp)
def aN(hc:bD X (.type T) r)(hg:Gl X x)(hm:X.mg x=none)(hv:bootBuiltins x=some (.type T))(ha:PA X (e::es) t)(hnn:x≠"__name__":=by decide)(hdb:(x == ("__debug__":Str))=false:=by decide)(hn:nSt e=true:=by rfl)(hp:es.all nSt=true:=by rfl) :
  PE X (.Call (.Name x p) (e::es) [] pos) (tCB r t):=t9 hc hg hm hv ha hnn hdb (i4 hn) (iE hp)
end
noncomputable def plT:Expr->Bool
 | .Call _ _ _ _=>true
 | .Name _ _=>true
 | .Subscript _ _ _=>true
 | .Attribute _ _ _=>true
 | _=>false
def Ak{e:Expr}{env:Env}(h:plT e=true):∀whole,isTrue e env whole=(do let v <- whole;standAt e.pos;holding [v] (truthy v)):=by
 cases e <;> first|(intro _;rfl)|cases h
def aP{X:Cx}{e:Expr}{t:TE}(h:PE X e t)(hp:plT e=true:=by rfl):PT X e (tB t):=BC h (Ak hp)
noncomputable def Bm(a b:List Nat):Bool:=decide (0<=fnd b a 0)
def nD(k:Nat):D:=.int (k:Int)
def uY{ks:List Nat}{k:Nat}(h:k<(ks.map nD).length):itD (ks.map nD) k=.int ((ks.getD k 0:Nat):Int):=lZ (by
 have h:k<ks.length:=by rwa [length_map] at h
 rw [i_,e_,d_ h];rfl)
theorem yD(k:Nat):∀ks:List Nat,inD (.int (k:Int)) (ks.map nD)=decide (k∈ks)
 | []=>by simp [inD]
 | v::r=>by
  have ih:=yD k r;unfold inD at ih ⊢;rw [map_cons,any_cons,ih];show (((v:Int) == (k:Int)) || decide (k∈r))=_
  by_cases h:v=k
  .subst h;simp
  .rw [show ((v:Int) == (k:Int))=false from beq_eq_false_iff_ne.mpr (by omega),J1]
   by_cases h2:k∈r
   .rw [decide_eq_true h2,decide_eq_true (q_ _ h2)]
   .rw [decide_eq_false h2,decide_eq_false (λz=>(mem_cons.mp z).elim (λe=>h e.symm) h2)]
def Al(n:Nat):n8 0 n=(gV n).map nD:=by
 unfold n8 nD;exact IU λk _=>by rw [K8]
theorem kz{α β:Type}(p:α->Bool)(g:α->β):∀l:List α,l.filterMap (λa=>if p a=true then some (g a) else none)=(l.filter p).map g
 | []=>rfl
 | a::r=>by
  rw [Jd,filter_cons]
  cases h:p a with
  | true=>simp [kz p g r]
  | false=>simp [kz p g r]
def uZ(n:Nat):(n8 0 n).length=n:=by unfold n8;rw [length_map,length_range]
def u0{n j:Nat}(h:j<(n8 0 n).length):itD (n8 0 n) j=.int (j:Int):=lZ (by
 rw [uZ] at h;unfold n8;rw [i_,IE h];show some (D.int (0+(j:Int)))=_;rw [K8])
def rG(a b:List Int):deq (.lst (a.map .int)) (.lst (b.map .int))=decide (a=b):=by
 unfold deq;show Jf (.list (D.pys _)) (.list (D.pys _))=_;rw [iY,iY];simp only [Jf];exact ka a b
noncomputable def lF(n:Nat):List Int:=(gV n).map λk=>((k:Nat):Int)
def kA(n:Nat):n8 0 n=(lF n).map D.int:=by
 unfold n8 lF;rw [Hz];exact IU λk _=>by show D.int (0+(k:Int))=D.int (k:Int);rw [K8]
def kB(n:Nat):(lF n).Pairwise (·<=·):=by
 unfold lF;rw [pairwise_map];exact pairwise_lt_range.imp λh=>by omega
def Am{a b:List Int}{n:Nat}(hp:b.Perm a)(hs:b.Pairwise (·<=·)):decide (b=lF n)=decide (a.Perm (lF n)):=by
 by_cases h:b=lF n
 .rw [decide_eq_true h,decide_eq_true (by rw [<- h];exact hp.symm)]
 .rw [decide_eq_false h,decide_eq_false λz=>h (KM (λx y _ _ h1 h2=>by omega) hs (kB n) (hp.trans z))]
abbrev vmB:List Value:=[.type "ValueError",.type "Exception",.type "BaseException",.type "object"]
open PySem.Builtin PySem.Builtin.ObjectAttr
section
variable {prog:so}{w:World}{A:w_}{E:Value->c_->Prop}{K:b_}{h:Heap}{g:Array Kn}{d:Drawn}{t:Nat}{os:Jc}
variable {nm q:Str}{C G N x:Addr}{bs:List Value}{sn:List Str}{sub:List Value}{ab:Bool}{col:Option Bool}{k0 k1 k2 k3 k5:Option Value}{name:Str}{v:Value}{o:Obj}{vs:Array Value}
noncomputable def Gu(h h':Heap)(x:Addr)(o:Obj)(name:Str)(v:Value)(dx:Addr):Prop :=
 h'.get? x=some { o with dict:=some dx }/\h.objs.size<=dx/\dx≠x/\h'.Ns1 dx (λy=>if y=name then some v else none)/\∀b ob,b≠x->h.get? b=some ob->h'.get? b=some ob
def mQ{tk:Tok}{Q:Fin->c_->Prop}(X:K.In h)(hC:h.get? C=some (excClassObj nm q C N bs (.ref G::vmB) true sn sub ab col none k0 k1 k2 k3 k5 "ValueError.__new__"))
  (hna:tf K (.ref C) name=some none) (hx:h.get? x=some o) (hc:o.cls=.ref C) (hd:o.data=.fields vs) (hdn:o.dict=none)
  (hq:∀h' tk' dx,Gu h h' x o name v dx->Q (.done (.ret .none)) ⟨h',g,d,tk',os⟩) :
  wpAny (model prog w) A (JG.«object.__setattr__» ⟨[.ref x,.str name tk,v],[]⟩) Q E ⟨h,g,d,t,os⟩:=by
 have hpass:=KN.passes (.ref x);unfold JG.«object.__setattr__»
 repeat (first
  | rw [refuse_eq]
  | (rw [refuseLoop_ref,refuseLoop_ref,hpass])
  | (with_reducible refine HM hx ?_;rw [hc])
  | with_reducible refine wpAny_mroOf_exc hC ?_
  | (with_reducible refine (Jh X hna).at ?_)
  | wp_step)
 rw [hdn,if_neg (by simp [typeHasDict])]
 split
 .rename_i hcd;cases hcd
 split
 .rename_i c hcd;rw [hd] at hcd;cases hcd
 .have hx1:(h.push { cls:=.type "dict",data:=.dict #[] }).get? x=some o:=f_ _ hx;have hxs:x≠h.objs.size:=Hj (k_ hx);refine cy (wpAny_alloc' ?_);refine cy (wpAny_update' hx1 ?_);refine l_ ?_;generalize hg2:((h.push { cls:=.type "dict",data:=.dict #[] }).update x λo=>{ cls:=o.cls,dict:=some h.objs.size,data:=o.data,slots:=o.slots })=h2
  have gd:h2.get? h.objs.size=some { cls:=.type "dict",data:=.dict #[] }:=by
   rw [<- hg2];exact (Ij _ _ _ _ hxs.symm).trans (Heap.get?_push_at rfl rfl)
  have gx:h2.get? x=some { o with dict:=some h.objs.size }:=by
   rw [<- hg2];refine HF _ hx1 ?_;have hfr:=(Heap.get?_some_iff.mp hx).2;obtain⟨oc,od,odt,osl⟩:=o;cases odt <;> first|rfl|exact hfr
  have kp:∀b ob,b≠x->h.get? b=some ob->h2.get? b=some ob:=λb ob hb e=>by
   rw [<- hg2];exact (Ij _ _ _ _ hb).trans (f_ _ e)
  have hnd:h2.Ns h.objs.size (λ_=>none):=⟨_,#[],_,gd,rfl,λe he=>absurd he (by simp),λ_=>rfl⟩
  show wpAny _ _ (storeInDict h.objs.size (.str name tk) name v) _ _ _;unfold storeInDict newKeyGuard;refine cy (l_ (cy (wpAny_nsSet1 (Heap.Ns1.of_empty hnd) λh' hn' hs=>?_)));obtain⟨oD,esD,epD,hoD,hdD,hcD⟩:=hn'.count (Within.cons name v Within.nil)
  refine cy (wpAny_lookBehind hoD (by
   rw [hdD];exact pastItsLine_dict (HP hcD (by rw [length_cons,length_nil,J5];omega))) ?_)
  wp_walk
  exact hq h' _ h.objs.size ⟨(hs.2 x hxs).trans gx,g_ _,hxs.symm,hn',λb ob hb e=>(hs.2 b (Hj (k_ e))).trans (kp b ob hb e)⟩
def An{Q:Unit->c_->Prop}(X:K.In h)(hC:h.get? C=some (excClassObj nm q C N bs (.ref G::vmB) true sn sub ab col none k0 k1 k2 k3 k5 "ValueError.__new__"))
  (hsa:tf K (.ref C) "__setattr__"=some (some (.builtin "object.__setattr__"))) (hna:tf K (.ref C) name=some none)
  (hx:h.get? x=some o) (hc:o.cls=.ref C) (hd:o.data=.fields vs) (hdn:o.dict=none)
  (hq:∀h' tk' dx,Gu h h' x o name v dx->Q () ⟨h',g,d,tk',os⟩) :
  wpAny (model prog w) A (setAttr (.ref x) name v) Q E ⟨h,g,d,t,os⟩:=by
 have SF:=KN;have u3:=SF.slot.bind (.ref x);unfold setAttr callSpecial? specialOf;refine cy (wpAny_mkText (cy (cy (cy (JW hx ?_)))));rw [hc];refine (Jh X hsa).at ?_;refine Hu (cy (KG u3 (cy (KY ?_))))
 have own:(o_ C::.ref G::vmB).contains (.type "object")=true:=by
  rw [contains_cons,contains_cons,SF.hasOwner,K9,K9]
 refine J6 SF.slot.plain SF.entry ?_;simp only [checkBuiltinCall,SF.kind,SF.split];have ha:=SF.args (.ref x) (.str name t) v;show wpAny _ _ (isInstance (.ref x) (.type "object") >>= _) _ _ _;refine cy ?_;unfold isInstance;refine cy (JW hx ?_);rw [hc];refine Ik hC ?_;rw [own]
 have step:∀{Q':Fin->c_->Prop},(∀s',Q () s'->Q' (.done (.ret .none)) s')->wpAny (model prog w) A.in1 (JG.«object.__setattr__» ⟨[.ref x,.str name t,v],[]⟩) Q' E ⟨h,g,d,t+1,os⟩:=λk =>
  mQ X hC hna hx hc hd hdn λh' tk' dx z=>k _ (hq h' tk' dx z)
 show wpAny _ _ (match Jq "object.__setattr__" with|some sig=>Ji "object.__setattr__" sig { pos:=[o_ x]++[JC name t,v] }|x=>pure ()) _ _ _
 cases hsig:Jq "object.__setattr__" with
 | none=>exact l_ (step λs' z=>l_ (l_ z))
 | some sig =>
  simp only [argsOk,hsig] at ha;have h2:Ji "object.__setattr__" sig ⟨[.ref x,.str name t,v],[]⟩=pure ():=ha;show wpAny _ _ (Ji "object.__setattr__" sig ⟨[.ref x,.str name t,v],[]⟩) _ _ _;rw [h2];exact l_ (step λs' z=>l_ (l_ z))
end
open PySem.Builtin PySem.Builtin.ObjectAttr
open PySem.Builtin PySem.Builtin.ObjectAttr
section
variable {prog:so}{w:World}{A:w_}{E:Value->c_->Prop}{K:b_}{h:Heap}{g:Array Kn}{d:Drawn}{t:Nat}{os:Jc}
variable {nm q:Str}{C G N x dx:Addr}{bs:List Value}{sn:List Str}{sub:List Value}{ab:Bool}{col:Option Bool}{k0 k1 k2 k3 k5:Option Value}{name:Str}{v:Value}{o:Obj}{vs:Array Value}{mA:Str->Option Value}
def u4{R:Result->c_->Prop}(hC:h.get? C=some (excClassObj nm q C N bs (.ref G::vmB) true sn sub ab col none k0 k1 k2 k3 k5 "ValueError.__new__"))(hx:h.get? x=some o)(hc:o.cls=.ref C)
  (hq:R (.ok (.ret (.ref C))) ⟨h,g,d,t,os⟩):codeAny (model prog w) A (.call (.builtin "getset_descriptor.__get__") ⟨[.builtin "object.__class__",.ref x,.ref C],[]⟩) R ⟨h,g,d,t,os⟩:=by
 have hT5:(⟨h,g,d,t,os⟩:c_).TypeIs (.builtin "object.__class__") "getset_descriptor":=Kk
 have own:(o_ C::.ref G::vmB).contains (.type (".".intercalate ("object.__class__".cutAt '.').dropLast))=true:=by
  rw [PySem.F.owner_object_class];rfl
 refine J6 Ke.plain PySem.F.entry_gs_get ?_;refine Ke.check _ _ _ _ _ _ _ _ hT5 (PySem.F.args_gs_get _ _ _) ?_
 repeat (any_goals (first
  | assumption
  | (with_reducible refine HM hx ?_;rw [hc])
  | (with_reducible refine Ik hC ?_;rw [own])
  | wp_step))
 refine⟨Code.quiet_builtin _ (by decide +kernel),I_ PySem.F.entry_object_class ?_⟩
 repeat (any_goals (first
  | assumption
  | (with_reducible refine HM hx ?_;rw [hc])
  | wp_step))
def qf{tk:Tok}{Q:Fin->c_->Prop}(X:K.In h)(hC:h.get? C=some (excClassObj nm q C N bs (.ref G::vmB) true sn sub ab col none k0 k1 k2 k3 k5 "ValueError.__new__"))(hx:h.get? x=some o)(hc:o.cls=.ref C)
  (hcl:tf K (.ref C) "__class__"=some (some (.builtin "object.__class__"))) (hq:Q (.done (.ret (.ref C))) ⟨h,g,d,t,os⟩) :
  wpAny (model prog w) A (JG.«object.__getattribute__» ⟨[.ref x,.str "__class__" tk],[]⟩) Q E ⟨h,g,d,t,os⟩:=by
 have u5:=Kk;have u6:=Ke.lookup;have u7:=PySem.F.slot_gs_set.lookup;unfold JG.«object.__getattribute__»
 repeat (any_goals (first
  | assumption
  | (with_reducible refine HM hx ?_;rw [hc])
  | (with_reducible refine (Jh X hcl).at ?_)
  | wp_step))
 refine u4 hC hx hc ?_
 repeat (any_goals (first
  | assumption
  | wp_step))
end
open PySem.Builtin PySem.Builtin.ObjectAttr
section
variable {prog:so}{w:World}{A:w_}{E:Value->c_->Prop}{K:b_}{h:Heap}{g:Array Kn}{d:Drawn}{t:Nat}{os:Jc}
variable {nm q:Str}{C G N x dx:Addr}{bs:List Value}{sn:List Str}{sub:List Value}{ab:Bool}{col:Option Bool}{k0 k1 k2 k3 k5:Option Value}{name:Str}{v:Value}{o:Obj}{vs:Array Value}{mA:Str->Option Value}
def G3{fill expr:Bool}{tk:Tok}{Q:Value->c_->Prop}(X:K.In h)(hC:h.get? C=some (excClassObj nm q C N bs (.ref G::vmB) true sn sub ab col none k0 k1 k2 k3 k5 "ValueError.__new__"))
  (hga:tf K (.ref C) "__getattribute__"=some (some (.builtin "BaseException.__getattribute__"))) (hgh:tf K (.ref C) "__getattr__"=some none)
  (hx:h.get? x=some o) (hc:o.cls=.ref C) (hh:handedOut v=pure v)
  (step:∀{Q':Fin->c_->Prop}{E':Value->c_->Prop},Q' (.done (.ret v)) ⟨h,g,d,t,os⟩->wpAny (model prog w) A.in1 (JG.«object.__getattribute__» ⟨[.ref x,.str name tk],[]⟩) Q' E' ⟨h,g,d,t,os⟩)
  (hq:Q v ⟨h,g,d,t,os⟩):wpAny (model prog w) A (getAttrBy (.ref x) (.str name tk) fill expr) Q E ⟨h,g,d,t,os⟩:=by
 unfold getAttrBy;refine Hu (cy (JW hx ?_));rw [hc];refine cy ((Jh X hga).at ?_);have hx2:(KO "BaseException.__getattribute__" == KO "object.__getattribute__")=false:=by decide +kernel
 show wpAny _ _ (if (onTheHeap (.ref C) && (KO "BaseException.__getattribute__" == KO "object.__getattribute__"))=true then _ else _) _ _ _;rw [hx2,Ih,if_neg (by decide)];unfold getAttrByItsOwn;refine cy ((PySem.W.looks_hook X (r:=none) (by rw [if_pos (by rfl)];exact hgh)).at ?_);refine cy (wpAny_attempt ?_);unfold callGetattribute;refine Hu ?_
 rw [if_neg (by cases expr <;> decide)];unfold boundAndCalled;have FB:=PySem.F.attrBase_ValueError
 have own:(o_ C::.ref G::vmB).contains (.type "BaseException")=true:=by
  rw [contains_cons,contains_cons,FB.hasBase,K9,K9]
 have ha:=PySem.F.args_bexc_ga (.ref x) (.str name tk);have hk:builtinKind "BaseException.__getattribute__"=some .slot:=by decide +kernel
 have hsp:splitId "BaseException.__getattribute__"=some ("BaseException","__getattribute__"):=by decide +kernel
 refine cy (KG (FB.ga.bind (.ref x)) ?_);refine KY (J6 FB.ga.plain PySem.F.entry_bexc_ga ?_);simp only [checkBuiltinCall,hk,hsp];show wpAny _ _ (isInstance (.ref x) (.type "BaseException") >>= _) _ _ _;refine cy ?_;unfold isInstance;refine cy (JW hx ?_);rw [hc];refine Ik hC ?_;rw [own];have done:wpAny (model prog w) A (handedOut v) Q E ⟨h,g,d,t,os⟩:=by rw [hh];exact l_ hq
 show wpAny _ _ (match Jq "BaseException.__getattribute__" with|some sig=>Ji "BaseException.__getattribute__" sig { pos:=[o_ x]++[JC name tk] }|x=>pure ()) _ _ _
 cases hsig:Jq "BaseException.__getattribute__" with
 | none=>exact l_ (step done)
 | some sig =>
  simp only [argsOk,hsig] at ha;have h2:Ji "BaseException.__getattribute__" sig ⟨[.ref x,.str name tk],[]⟩=pure ():=ha;show wpAny _ _ (Ji "BaseException.__getattribute__" sig ⟨[.ref x,.str name tk],[]⟩) _ _ _;rw [h2];exact l_ (step done)
def Ao{Q:Option Value->c_->Prop}(X:K.In h)(hC:h.get? C=some (excClassObj nm q C N bs (.ref G::vmB) true sn sub ab col none k0 k1 k2 k3 k5 "ValueError.__new__"))
  (hga:tf K (.ref C) "__getattribute__"=some (some (.builtin "BaseException.__getattribute__"))) (hgh:tf K (.ref C) "__getattr__"=some none)
  (hcl:tf K (.ref C) "__class__"=some (some (.builtin "object.__class__"))) (hx:h.get? x=some o) (hc:o.cls=.ref C) (hq:Q (some (.ref C)) ⟨h,g,d,t+1,os⟩) :
  wpAny (model prog w) A (getAttr? (.ref x) "__class__") Q E ⟨h,g,d,t,os⟩:=by
 unfold getAttr? getAttrBy?;refine cy (wpAny_mkText (cy (wpAny_attempt ?_)));exact G3 X hC hga hgh hx hc rfl (λk=>qf X hC hx hc hcl k) (l_ hq)
structure XC (K:b_) (C G:Addr):Prop where
 obj:∃nm q N bs sn sub ab col k0 k1 k2 k3 k5,K.lookup C=some (excClassObj nm q C N bs (.ref G::vmB) true sn sub ab col none k0 k1 k2 k3 k5 "ValueError.__new__")
 ga:tf K (.ref C) "__getattribute__"=some (some (.builtin "BaseException.__getattribute__"))
 gh:tf K (.ref C) "__getattr__"=some none
 sa:tf K (.ref C) "__setattr__"=some (some (.builtin "object.__setattr__"))
 cl:tf K (.ref C) "__class__"=some (some (.builtin "object.__class__"))
def rH{dd:Option Addr}{new:Bool}(c:XC K C G):PySem.W.KitX K (.ref x) (.ref C) (XAt x C dd new) where
 ty:=λM h X p=>by
  obtain⟨o,vs,h1,h2,_⟩:=p;exact h2 ▸ (PySem.W.Looks.ld h1).andThen .now
 it:=λM h X p=>by
  obtain⟨nm,q,N,bs,sn,sub,ab,col,k0,k1,k2,k3,k5,e⟩:=c.obj;intro A' Q' E' s' k q;unfold isType loadHead;exact cy (wpAny_loadPart (k _ _ (X _ _ e)) (l_ q))
 ne:=λh tp dd its n sl X htp=>by
  obtain⟨nm,q,N,bs,sn,sub,ab,col,k0,k1,k2,k3,k5,e⟩:=c.obj;refine eq_false_iff.mpr λz=>?_;have e2:C=tp:=J3 (beq_iff_eq.mp z);subst e2;have e3:=congrArg Obj.data (we ((X _ _ e).symm.trans htp));cases e3
 ca:=λ{prog w A E Q s} X p k=>by
  obtain⟨h,g,d,t,os⟩:=s;obtain⟨o,vs,h1,h2,_⟩:=p;obtain⟨nm,q,N,bs,sn,sub,ab,col,k0,k1,k2,k3,k5,e⟩:=c.obj;exact Ao X (X _ _ e) c.ga c.gh c.cl h1 h2 k
end
def XAt.ok{P:so}{w:World}{H:Hp}{h:Heap}{x C:Addr}{dd:Option Addr}{new:Bool}(p:XAt x C dd new h):aW P w H h x (.ext (XAt x C dd new)):=by
 obtain⟨o,vs,h1,h2,h3,h4⟩:=id p;exact⟨p,⟨o,h1⟩,λg1 g2 ⟨o',vs',a1,a2⟩ k=>⟨o',vs',k _ a1,a2⟩⟩
section
variable {X:Cx}{pins:List (Addr×Obj)}{σ:St}{H:Hp}{s:c_}{a dx C G:Addr}{f:Str}{v:V}{fs:List (Str×V)}{A:w_}{E:Value->c_->Prop}
def Un.setX{h h':Heap}{fs ex:List Addr}{o:HO}{o2:HO}(mu:Mut (H a))(hx:H dx=none)(hd:h.get? dx=none)(k:∀b ob,b≠a->h.get? b=some ob->h'.get? b=some ob)(ha:∃o,h'.get? a=some o):Un fs ex H (upd (upd H dx o) a o2) h h':=by
 have na:∀b,H b=none->b≠a:=λb n z=>by subst z;rw [n] at mu;exact mu
 have nd:∀b ob,h.get? b=some ob->b≠dx:=λb ob e z=>by rw [z,hd] at e;cases e
 have hm:∀b u,H b=some u->¬ Mut (some u)->b≠a/\b≠dx:=λb u q nm=>⟨λz=>by subst z;rw [q] at mu;exact nm mu,λz=>by subst z;rw [hx] at q;cases q⟩
 refine⟨λb u q n _ _=>k b u (na b n) q,λb u q n _ _=>⟨u.slots,k b u (na b n) q⟩,λb u q n _=>by rw [ak (na b n),ak (nd b u q)];exact n,λb u q _=>?_,
  λb xs q=>by rw [ak (hm b _ q λz=>z).1,ak (hm b _ q λz=>z).2];exact q,λb u xs q=>by rw [ak (hm b _ q λz=>z).1,ak (hm b _ q λz=>z).2];exact q,
  λb ps q=>⟨#[],by rw [ak (hm b _ q λz=>z).1,ak (hm b _ q λz=>z).2,q];simp⟩⟩
 by_cases hb:b=a
 .subst hb;exact ha
 .exact⟨u,k b u hb q⟩
def setX{new:Bool}{y:V}{u:Value}{Q:Unit->c_->Prop}(I:Inv X pins σ H s)(ea:H a=some (.ext (XAt a C none new)))(c:XC X.K C G)(n:tf X.K (.ref C) f=some none)(ry:bS y u)
  (h:∀dx s',H dx=none->Inv X pins σ (upd (upd H dx (.xd [(f,y)])) a (.ext (XAt a C (some dx) new))) s'->Q () s'):wpAny (model X.prog X.w) A (setAttr (.ref a) f u) Q E s:=by
 obtain⟨⟨o,vs,h1,h2,h3,h4,h5⟩,_,_⟩:=(show aW X.prog X.w H s.heap a (.ext (XAt a C none new)) from I.hok a _ ea)
 obtain⟨nm,q,N,bs,sn,sub,ab,col,k0,k1,k2,k3,k5,e⟩:=c.obj;have X2:=I.kIn;obtain⟨hh,g,d,t,os⟩:=s;refine An X2 (X2 _ _ e) c.sa n h1 h2 h4 h3 λh' tk' dx z=>?_;obtain⟨z1,z2,z3,z4,z5⟩:=z;have hdx:H dx=none:=I.hok.fresh z2;have hg0:hh.get? dx=none:=Heap.get?_none_of_le z2;have hne:dx≠a:=z3;have mu:Mut (H a):=by rw [ea];exact HU
 refine h dx _ hdx (I.un (t':=tk') (Un.setX mu hdx hg0 z5 ⟨_,z1⟩) λb ob eb=>?_)
 by_cases hb:b=a
 .subst hb;rw [aw] at eb;cases eb;exact XAt.ok ⟨_,vs,z1,h2,rfl,h4,h5⟩
 .rw [ak hb] at eb
  by_cases hb2:b=dx
  .subst hb2;rw [aw] at eb;cases eb;refine⟨_,z4,λy'=>?_⟩;show qU (Ln y' [(f,y)]) _
   by_cases q:y'=f
   .subst q;rw [if_pos rfl];have e1:Ln y' [(y',y)]=some y:=by simp [Ln]
    rw [e1];exact ry
   .rw [if_neg q];have:(y' == f)=false:=beq_eq_false_iff_ne.mpr q;simp [Ln,this,qU]
  .rw [ak hb2] at eb
   refine (I.hok b ob eb).stay (λc w hc e=>?_) (λc e=>?_) λc xs e=>?_
   .refine z5 c w ?_ e;rintro rfl
    rcases hc with hc|hc
    .exact hb hc.symm
    .rw [ea] at hc;cases hc
   .rw [ak,ak]
    .exact e
    .rintro rfl;rw [hdx] at e;cases e
    .rintro rfl;rw [ea] at e;cases e
   .rw [ak,ak]
    .exact e
    .rintro rfl;rw [hdx] at e;cases e
    .rintro rfl;rw [ea] at e;cases e
end
section
variable {X:Cx}{o e value:Expr}{f:Str}{pos pos':Pos}{ta tv:TE}
noncomputable def Ap(K:b_)(ta tv:TE)(f:Str):TS:=λD σ H=>tv σ H λy H1=>ta σ H1 λx H2=>∃a C G new,x=.ref a/\H2 a=some (.ext (XAt a C none new))/\XC K C G/\tf K (.ref C) f=some none /\
 ∀dx,H2 dx=none->D.nx σ (upd (upd H2 dx (.xd [(f,y)])) a (.ext (XAt a C (some dx) new)))
def Aq(ha:PE X o ta)(hv:PE X value tv)(hs:swapsWith value (some (.Attribute o f pos')) pos.line X.env=pure false):PS X (.Assign [.Attribute o f pos'] value pos) (Ap X.K ta tv f):=by
 intro pins s σ H D I h;refine plainObj_wpAny_Assign_Attribute (thn (hv pins s σ H _ I h) λu s1 z=>?_) hs;obtain⟨y,H1,I1,ry,q⟩:=z;refine thn (ha pins s1 σ H1 _ I1 q) λov s2 z=>?_;obtain⟨x,H2,I2,rx,a,C,G,new,ex,ea,c,n,q2⟩:=z;subst ex;obtain rfl:ov=o_ a:=rx;exact setX I2 ea c n ry λdx s3 hdx I3=>⟨σ,_,I3,q2 dx hdx⟩
end
def aW.there{P:so}{w:World}{H:Hp}{h:Heap}{a:Addr}{o:HO}(x:aW P w H h a o):∃ob,h.get? a=some ob:=by
 cases o with
 | lst xs=>obtain⟨_,_,_,_,e⟩:=x;exact⟨_,e⟩
 | tup xs=>obtain⟨_,_,_,ob,e,_⟩:=x;exact⟨ob,e⟩
 | dK kvs=>obtain⟨_,_,_,_,o,_,_,e,_⟩:=x;exact⟨o,e⟩
 | dT kvs=>obtain⟨_,_,_,_,o,_,_,e,_⟩:=x;exact⟨o,e⟩
 | set S n=>obtain⟨o,_,_,_,e,_⟩:=x;exact⟨o,e⟩
 | ins C dx fs=>obtain⟨_,_,_,e,_⟩:=x;exact⟨_,e⟩
 | own y=>exact x
 | xd fs=>obtain⟨_,⟨o,_,_,e,_⟩,_⟩:=x;exact⟨o,e⟩
 | rng lo hi=>obtain⟨_,_,_,e⟩:=x;exact⟨_,e⟩
 | frz ob u=>obtain⟨e,_⟩:=x;exact⟨ob,e⟩
 | tbl ps=>obtain⟨_,_,_,_,_,e,_⟩:=x;exact⟨_,e⟩
 | met f y=>exact⟨_,(show h.get? a=some _ from x)⟩
 | ext φ=>exact x.2.1
def HOk.not{P:so}{w:World}{H:Hp}{h:Heap}{a:Addr}(x:HOk P w H h)(e:h.get? a=none):H a=none:=by
 cases q:H a with
 | none=>rfl
 | some u=>obtain⟨ob,e2⟩:=(x a u q).there;rw [e] at e2;cases e2
section
variable {X:Cx}{pins:List (Addr×Obj)}{σ:St}{H:Hp}{s:c_}{h':Heap}{a:Addr}{o:HO}
def Inv.news{t':Nat}(I:Inv X pins σ H s)(k:∀b u,s.heap.get? b=some u->h'.get? b=some u)(hn:s.heap.get? a=none)(new:aW X.prog X.w (upd H a o) h' a o):Inv X pins σ (upd H a o) { s with heap:=h',toks:=t' }:=by
 have ha:=I.hok.not hn
 refine I.un ⟨λb u q _ _ _=>k b u q,λb u q _ _ _=>⟨u.slots,k b u q⟩,λb u q n _=>?_,λb u q _=>⟨u,k b u q⟩,λb xs q=>?_,λb u xs q=>?_,λb ps q=>⟨#[],?_⟩⟩ λb u q=>?_
 .rw [ak (λz=>by rw [z,hn] at q;cases q)];exact n
 .rw [ak (aK q ha)];exact q
 .rw [ak (aK q ha)];exact q
 .rw [ak (aK q ha),q];simp
 .by_cases hb:b=a
  .subst hb;rw [aw] at q;cases q;exact new
  .rw [ak hb] at q;exact (I.hok b u q).stay (λc v _ e=>k c v e) (λc e=>by rw [ak (aK e ha)];exact e) λc xs e=>by rw [ak (aK e ha)];exact e
end
structure XM (K:b_) (C G fI:Addr):Prop where
 c:XC K C G
 tail:∀h:Heap,K.In h->OwnTail h vmB (.ref G::vmB)
 init:tf K (.ref C) "__init__"=some (some (.ref fI))
 fn:Jj K (.ref fI)=some (.type "function")
 kp:C_ K (.ref C)=true
noncomputable def CW(K:b_)(f:Str):Sp:=λvs H Q _=>∃a C G new v,vs=[.ref a,v]/\H a=some (.ext (XAt a C none new))/\XC K C G/\tf K (.ref C) f=some none/\∀dx,H dx=none->Q .non (upd (upd H dx (.xd [(f,v)])) a (.ext (XAt a C (some dx) new)))
structure wx (P:so) (w:World) (K:b_) (mg:Str->Option Value) (base:Heap) (k:Nat) (C:Addr) (x f:Str):Prop where
 ex:∃(G fI:Addr) (fd:H_) (ps:List Str),pT P w K mg base CX0 k fI fd ps (CW K f)/\mn K fd ps []/\XM K C G fI/\tf K (.ref C) f=some none/\mg x=some (.ref C)
noncomputable def X0(K:b_)(C:Addr):Prop:=∀h:Heap,K.In h->∃bm N nm q bs hd sn sub ab col dd k0 k1 k2 k3 k5 mN,
 h.get? C=some (excClassObj nm q C N bs bm hd sn sub ab col dd k0 k1 k2 k3 k5 "ValueError.__new__")/\h.Ns N mN/\mN "__init__"=none/\OwnTail h vmB bm
def qg{K:b_}{C:Addr}(q:Ig K C vmB "ValueError.__new__"=true):X0 K C:=λh X=>by
 unfold Ig at q;split at q
 case h_2=>cases q
 case h_1 dd cd sl ho =>
  split at q
  case h_2=>cases q
  case h_1 C' bm k0 k1 k2 k3 n k5 hm hs =>
   simp only [and_eq_true,beq_iff_eq,KJ] at q;obtain⟨⟨⟨⟨⟨e1,e2⟩,hdel⟩,ht⟩,hok⟩,hni⟩:=q;subst e1 e2
   cases cd with
   | mk nm bs mro ns qn hd sn sub ab col del =>
    cases sl with
    | mk l =>
     have hs:l=[k0,k1,k2,k3,some (.builtin "ValueError.__new__"),k5]:=hs;have hm:mro=.ref C'::bm:=hm;have hdel:del=false:=hdel;subst hs hm hdel;refine⟨bm,ns,nm,qn,bs,hd,sn,sub,ab,col,dd,k0,k1,k2,k3,k5,_,X _ _ ho,.of_isNs (PySem.W.isNs_of_in X hok),PySem.W.nsMap_none_of_in X hok hni,PySem.W.tail_of_in X ht⟩
def Ar{K:b_}{G:Addr}(q:Ig K G vmB "ValueError.__new__"=true)(hg:∃nm q N bs sn sub ab col k0 k1 k2 k3 k5,K.lookup G=some (excClassObj nm q G N bs vmB true sn sub ab col none k0 k1 k2 k3 k5 "ValueError.__new__")) :
  ∀h:Heap,K.In h->OwnTail h vmB (.ref G::vmB):=λh X=>by
 obtain⟨bm,N,nm,qn,bs,hd,sn,sub,ab,col,dd,k0,k1,k2,k3,k5,mN,h1,h2,h3,_⟩:=qg q h X;exact .own h1 h2 h3 .base
noncomputable def CY(C:Addr):TE:=λσ H Q=>∀e,H e=none->Q (.ref e) (upd H e (.ext (XAt e C none true)))
section
variable {X:Cx}{C:Addr}{x:Str}{p pos:Pos}
def As(z:X0 X.K C)(kp:C_ X.K (.ref C)=true)(hm:X.mg x=some (.ref C))(hg:Gl X x:=by rfl)(hdb:(x == ("__debug__":Str))=false:=by decide):PE X (.Call (.Name x p) [] [] pos) (CY C):=by
 intro pins s σ H Q I h;refine Iy (gO I hg hm ?_ hdb);refine PySem.W.callWith_K0 I.kIn kp ?_;obtain⟨bm,N,nm,qn,bs,hd,sn,sub,ab,col,dd,k0,k1,k2,k3,k5,mN,h1,h2,h3,h4⟩:=z s.heap I.kIn;have I0:=I;obtain⟨hh,g,d,tk,os⟩:=s;refine wpAny_call_exc_subT PySem.F.excBase_ValueError h4 h1 h2 h3 (λh' e made=>?_) (by show 0<=sizeLine;exact Jm _);obtain⟨tt,m1,m2,m3⟩:=made.there;have new:XAt e C none true h':=⟨_,_,m1,rfl,rfl,rfl,(by show 1<6;decide),λ_=>rfl⟩
 exact⟨V.ref e,_,I0.news (t':=tk) made.keeps made.new new.ok,rfl,h e (I0.hok.not made.new)⟩
noncomputable def Fj(K:b_)(D:Addr):List V->Hp->VK->Prop:=λxs H Q=>∃a C G dd new b,xs=[.ref a,.ref D]/\H a=some (.ext (XAt a C dd new))/\XC K C G/\Ht K (.ref C) (.ref D)=some b/\Q (.bl b) H
def xu{D:Addr}:bD X (.builtin "isinstance") (Fj X.K D):=by
 intro pins s σ H xs us Q I r h;obtain⟨a,C,G,dd,new,b,rfl,ea,c,e,q⟩:=h;obtain⟨u,w',rfl,rx,ry⟩:=tW r;cases (show u=o_ a from rx);cases (show w'=o_ D from ry);have ok:=(show aW X.prog X.w H s.heap a (.ext (XAt a C dd new)) from I.hok a _ ea)
 exact Hy (rH c) I.kIn ok.1 e (λz=>nomatch z) λtk=>⟨.bl b,H,I.tok _,rfl,q⟩
noncomputable def At(K:b_):List V->Hp->VK->Prop:=λxs H Q=>∃a C G dd new n b,xs=[.ref a,.ty n]/\H a=some (.ext (XAt a C dd new))/\XC K C G/\Ht K (.ref C) (.type n)=some b/\Q (.bl b) H
def u8:bD X (.builtin "isinstance") (At X.K):=by
 intro pins s σ H xs us Q I r h;obtain⟨a,C,G,dd,new,n,b,rfl,ea,c,e,q⟩:=h;obtain⟨u,w',rfl,rx,ry⟩:=tW r;cases (show u=o_ a from rx);cases (show w'=Ib n from ry);have ok:=(show aW X.prog X.w H s.heap a (.ext (XAt a C dd new)) from I.hok a _ ea)
 exact Hy (rH c) I.kIn ok.1 e (λz=>nomatch z) λtk=>⟨.bl b,H,I.tok _,rfl,q⟩
end
noncomputable def XCl(K:b_)(c:Str):Prop:=∃dd cd sl,K.lookup (aF K c)=some ⟨.type "type",dd,.cls cd,sl⟩/\cd.name=c
structure Au (K:b_) (cs:List Str):Prop where
 g:XCl K "GlueError"
 n:∀c∈cs,XCl K c
 c:∀c∈cs,XC K (aF K c) (aF K "GlueError")
section
variable {K:b_}{C G D:Addr}{c d:Str}
def XCl.ne(h1:XCl K c)(h2:XCl K d)(n:c≠d):aF K c≠aF K d:=λe=>by
 obtain⟨_,cd,_,l1,n1⟩:=h1;obtain⟨_,cd2,_,l2,n2⟩:=h2;rw [e,l2] at l1;cases l1;exact n (n1.symm.trans n2)
def u9(x:XC K C G)(base:Value):Lu K (.ref C) base=some ((o_ C::.ref G::vmB).contains base):=by
 obtain⟨nm,q,N,bs,sn,sub,ab,col,k0,k1,k2,k3,k5,e⟩:=x.obj;show Ls K C base=_;unfold Ls J4;rw [e];rfl
def Av(x:XC K C G)(y:∃dd cd sl,K.lookup D=some ⟨.type "type",dd,.cls cd,sl⟩):Ht K (.ref C) (.ref D)=some (decide (C=D) || decide (D=G)):=by
 obtain⟨dd,cd,sl,e⟩:=y;unfold Ht
 by_cases h:C=D
 .subst h;simp
 .rw [if_neg (λz=>h (J3 (beq_iff_eq.mp z)))];unfold PySem.W.kitCls
  have e1:((J4 K D).isSome && Jj K (.ref D) == some (.type "type"))=true:=by
   have e2:J4 K D=some cd:=by unfold J4;rw [e]
   have e3:Jj K (.ref D)=some (.type "type"):=by show (K.lookup D).map (·.cls)=_;rw [e];rfl
   rw [e2,e3];rfl
  show (if ((J4 K D).isSome && Jj K (.ref D) == some (.type "type"))=true then Lu K (.ref C) (.ref D) else none)=_;rw [if_pos e1,u9 x,decide_eq_false h,J1];congr 1;rw [contains_cons,contains_cons];have t1:(o_ D == o_ C)=false:=beq_eq_false_iff_ne.mpr λz=>h (J3 z).symm;have t2:vmB.contains (o_ D)=false:=rfl;rw [t1,t2,J1,KL]
  by_cases g:D=G
  .subst g;simp
  .rw [decide_eq_false g];exact beq_eq_false_iff_ne.mpr λz=>g (J3 z)
def Aw(x:XC K C G):Ht K (.ref C) (.type "ValueError")=some true:=by
 unfold Ht;rw [if_neg (by intro z;cases beq_iff_eq.mp z)];unfold PySem.W.kitCls;show (if PySem.W.kitMeta "ValueError"=true then Lu K (.ref C) (.type "ValueError") else none)=_;rw [if_pos (by decide +kernel),u9 x];rfl
end
noncomputable def lw(c d:Str):Bool:=decide (c=d) || decide (d="GlueError")
def Ax{K:b_}{cs:List Str}(X:Au K cs){c d:Str}(hc:c∈cs)(hd:d∈cs\/d="GlueError"):Ht K (.ref (aF K c)) (.ref (aF K d))=some (lw c d):=by
 have yd:XCl K d:=hd.elim (X.n d) λe=>by rw [e];exact X.g
 obtain⟨dd,cd,sl,e1,e2⟩:=id yd;rw [Av (X.c c hc) ⟨dd,cd,sl,e1⟩];unfold lw
 congr 2
 .by_cases h:c=d
  .subst h;rw [decide_eq_true rfl,decide_eq_true rfl]
  .rw [decide_eq_false h,decide_eq_false ((X.n c hc).ne yd h)]
 .by_cases h:d="GlueError"
  .subst h;rw [decide_eq_true rfl,decide_eq_true rfl]
  .rw [decide_eq_false h,decide_eq_false (yd.ne X.g h)]
section
variable {K:b_}{ta:TA}{te:TE}{pa:PTA}{pe:PA1}{cs:List Str}
def FVc.exc{O:Addr->Prop}{H:Hp}{v:V}{c:Str}{ns:List Str}{ds:List D}(h:FVc K O H v (.exc c ns ds)):FV K O H v (.exc c ns ds):=h.fv nofun nofun
noncomputable def Fk(c:Str):PTE:=λρ Q=>Q (.dat (.exc c [] [])) ρ
noncomputable def pM(cs:List Str)(d:Str)(pa:PA1):PTE:=λρ Q=>pa ρ λx ρ1=>match cont ρ1 x with
 | some (.exc c ns ds)=>cs.contains c=true/\Q (.dat (.bl (lw c d))) ρ1
 | _=>False
def dN{d:Str}(X:Au K cs)(hd:d∈cs\/d="GlueError")(h:LA1 K te pe):LE K (tCB (Fj K (aF K d)) (bi te (bi (tC (.ref (aF K d))) eW))) (pM cs d pe):=λA ρ σ H Q Q' R q k=>h A ρ σ H _ _ R q λv H1 a ρ1 q1 f1 R1 o1=>by
 split at q1
 .rename_i c ns ds e;obtain⟨hc,q1⟩:=q1;have hc:c∈cs:=t_.mp hc;have ek:=Ax X hc hd
  cases (R1.cont o1 e).exc with
  | exc0 n1 e1=>exact⟨_,_,_,_,_,_,rfl,e1,X.c c hc,ek,k _ H1 _ ρ1 q1 f1 ⟨R1,.bl _⟩⟩
  | exc1 n1 n2 e1 e2 m f=>exact⟨_,_,_,_,_,_,rfl,e1,X.c c hc,ek,k _ H1 _ ρ1 q1 f1 ⟨R1,.bl _⟩⟩
 .exact q1.elim
noncomputable def Gv(cs:List Str)(pa:PA1):PTE:=λρ Q=>pa ρ λx ρ1=>match cont ρ1 x with
 | some (.exc c ns ds)=>cs.contains c=true/\Q (.dat (.bl true)) ρ1
 | _=>False
def CZ(X:Au K cs)(h:LA1 K te pe):LE K (tCB (At K) (bi te (bi (tC (.ty "ValueError")) eW))) (Gv cs pe):=λA ρ σ H Q Q' R q k=>h A ρ σ H _ _ R q λv H1 a ρ1 q1 f1 R1 o1=>by
 split at q1
 .rename_i c ns ds e;obtain⟨hc,q1⟩:=q1;have hc:c∈cs:=t_.mp hc;have ek:=Aw (X.c c hc)
  cases (R1.cont o1 e).exc with
  | exc0 n1 e1=>exact⟨_,_,_,_,_,_,_,rfl,e1,X.c c hc,ek,k _ H1 _ ρ1 q1 f1 ⟨R1,.bl _⟩⟩
  | exc1 n1 n2 e1 e2 m f=>exact⟨_,_,_,_,_,_,_,rfl,e1,X.c c hc,ek,k _ H1 _ ρ1 q1 f1 ⟨R1,.bl _⟩⟩
 .exact q1.elim
end
section
variable {X:Cx}
def gZ(K:b_)(e:X.K=K){D:Addr}:bD X (.builtin "isinstance") (Fj K D):=by subst e;exact xu
def Fl(K:b_)(e:X.K=K):bD X (.builtin "isinstance") (At K):=by subst e;exact u8
def cC{x:Str}{C:Addr}{p:Pos}(hm:X.mg x=some (.ref C))(hg:Gl X x:=by rfl)(hdb:(x == ("__debug__":Str))=false:=by decide):PE X (.Name x p) (tC (.ref C)):=by
 intro pins s σ H Q I h;exact gO I hg hm ⟨.ref C,H,I,rfl,h⟩ hdb
end
section
variable {P:so}{w:World}{K:b_}{mg:Str->Option Value}{base:Heap}{x qual nm:Str}{C G fI:Addr}{st:Stmt}{fd:H_}{N ps:List Str}
def fo(F:Fun K "__init__" qual st fI fd)(S:aB N ps (ai st))(hl:ps.length=2)
  (hb:∀(kV doc pm:Value) (an:Option Addr) (cdv ct:Value) (us:List Value),us.length=ps.length->bindArgs (Hw "__init__" qual (cA st) (aS st) (ai st) .none kV doc pm an cdv ct) ⟨us,[]⟩=pure (ps.zip us))
  (hp:∀(cdv:Value) (A:w_) (outer:List Env) (s:c_) (H:Hp) (E:XK),PSs (jR CX0 P w K mg base N qual (ai st) fI cdv A outer s H E).nox (aS st) (Ap K (bC 0) (bC 1) nm))
  (m:XM K C G fI) (na:tf K (.ref C) nm=some none) (hm:mg x=some (.ref C)):wx P w K mg base 1 C x nm:=by
 refine⟨G,fI,fd,ps,F.ok (k:=0) S (λvs H Q E h=>?_) (λcdv A outer s H vs Q E hr h=>⟨_,hp cdv A outer s H E,?_⟩),F.binds hb,m,na,hm⟩
 .obtain⟨a,C,G,new,v,rfl,_⟩:=h;exact hl.symm
 .obtain⟨a,C,G,new,v,rfl,ea,c,n,q⟩:=h;exact⟨v,rfl,.ref a,rfl,a,C,G,new,rfl,ea,c,n,λdx hdx=>q dx hdx⟩
end
section
variable {X:Cx}{e:Expr}{f:Str}{pos:Pos}{ta:TE}
def dD(K:b_)(ek:X.K=K){o value:Expr}{pos':Pos}{tv:TE}(ha:PE X o ta)(hv:PE X value tv)(hs:swapsWith value (some (.Attribute o f pos')) pos.line X.env=pure false):PS X (.Assign [.Attribute o f pos'] value pos) (Ap K ta tv f):=by subst ek;exact Aq ha hv hs
end
noncomputable def wy(h:Heap)(e T:Addr)(fl:Value):Prop:=∃oe vs oT ts,h.get? e=some oe/\oe.data=.fields vs/\vs[1]?=some (.ref T)/\T≠e/\h.get? T=some oT/\oT.data=.fields ts/\ts[3]?=some fl
structure Moved (fs:List Addr) (e:Addr) (T0:Option Addr) (h h':Heap):Prop where
 kp:∀b o,b∉fs->b≠e->T0≠some b->h.get? b=some o->h'.get? b=some o
 sl:∀b o,b∈fs->h.get? b=some o->∃sl,h'.get? b=some { o with slots:=sl }
 ex:∀oe vs,h.get? e=some oe->oe.data=.fields vs->∃oe' vs',h'.get? e=some oe'/\oe'.cls=oe.cls/\oe'.dict=oe.dict/\oe'.data=.fields vs'/\vs'.size=vs.size
section
variable {M:Model}{A:w_}{E:Value->c_->Prop}{s:c_}{base:Heap}{env:Env}{outer:List Env}{L e T0:Addr}{oe:Obj}{vs:Array Value}
def vc{head:Value}{hadNext:Bool}{Q:Unit->c_->Prop}(hfr:A.frames=some (env::outer))(hl:s.heap.FunFrames base (env::outer))(hf:env.frame=some L)
  (he:s.heap.get? e=some oe) (hd:oe.data=.fields vs) (hsz:1<vs.size)
  (h:∀h' T,s.heap.objs.size<=T->Moved (frs (env::outer)) e none s.heap h'->wy h' e T (rawInt L)->Q () { s with heap:=h' }) :
  wpAny M A (do let a <- frameOf env;let pl <- entryPlaceOf L hadNext;let b <- EntryCells.newEntry head a .none (rawInt L) .none pl;setField (.ref e) 1 b) Q E s:=by
 have nf:e∉frs (env::outer):=λhm=>by
  obtain⟨_,o,ho,hn⟩:=hl.mem hm;rw [he] at ho;cases ho;exact hn vs hd
 refine cy (wpAny_frameOf_fun hfr hl hf λg1 hs1=>?_);refine cy (wpAny_entryPlaceOf λpl hpl=>?_);have e1:g1.get? e=some oe:=(hs1.2.1 e nf).trans he;unfold EntryCells.newEntry newFields;refine cy (Ii ?_ (hpl.sizeOk5 _ _ _ _ _))
 have hts:∃ts:Array Value,([head,.ref L,.none,rawInt L,.none]++(if pl.isEmpty then u_ 6 HE else pl)).toArray=ts/\ts[3]?=some (rawInt L):=⟨_,rfl,by
  rcases hpl with rfl|⟨_,_,_,_,_,_,_,rfl⟩ <;> simp⟩
 obtain⟨ts,ets,t3⟩:=hts;rw [ets];generalize hg2:g1.push { cls:=.type "traceback",dict:=none,data:=.fields ts }=g2;have sz1:g1.objs.size=s.heap.objs.size:=hs1.1;have k2:∀b o,g1.get? b=some o->g2.get? b=some o:=λb o q=>by rw [<- hg2];exact f_ _ q
 have gT:g2.get? g1.objs.size=some { cls:=.type "traceback",dict:=none,data:=.fields ts }:=by rw [<- hg2];exact p_ _ rfl
 refine JN (k2 _ _ e1) hd hsz ?_;have ne:g1.objs.size≠e:=Kq (k_ e1);generalize hg3:g2.update e (KP (·.setIfInBounds 1 (o_ g1.objs.size)))=g3;have d3:=JB hd (·.setIfInBounds 1 (o_ g1.objs.size));have e3:g3.get? e=some (oe.mapFields (·.setIfInBounds 1 (o_ g1.objs.size))):=by rw [<- hg3];exact HF _ (k2 _ _ e1) (JT d3)
 have k3:∀b o,b≠e->g2.get? b=some o->g3.get? b=some o:=λb o hb q=>by rw [<- hg3];exact (Ij _ _ _ _ hb).trans q
 refine h g3 g1.objs.size (by rw [sz1];exact g_ _) ⟨λb o hb hbe _ q=>k3 b o hbe (k2 b o ((hs1.2.1 b hb).trans q)),λb o hb q=>?_,λoe' vs' q1 q2=>?_⟩ ⟨_,_,_,ts,e3,d3,by simp [hsz],ne,k3 _ _ ne gT,rfl,t3⟩
 .obtain⟨sl,q'⟩:=hs1.2.2 b o q;exact⟨sl,k3 b _ (λz=>nf (by rw [<- z];exact hb)) (k2 b _ q')⟩
 .rw [he] at q1;cases q1;rw [hd] at q2;cases q2;obtain⟨c,dc,dt,sl⟩:=oe;cases hd;exact⟨_,_,e3,rfl,rfl,d3,by simp⟩
def Ay{Q:Unit->c_->Prop}(hfr:A.frames=some (env::outer))(hl:s.heap.FunFrames base (env::outer))(hf:env.frame=some L)
  (he:s.heap.get? e=some oe) (hd:oe.data=.fields vs) (h1:vs[1]?=some .none)
  (h:∀h' T,s.heap.objs.size<=T->Moved (frs (env::outer)) e none s.heap h'->wy h' e T (rawInt L)->Q () { s with heap:=h' }):wpAny M A (noteFrame (.ref e) env) Q E s:=by
 unfold noteFrame;simp only [hf];refine cy (IJ he hd h1 ?_);rw [if_neg (by decide)];exact vc hfr hl hf he hd (IF.mp h1).1 h
def Az{Q:Unit->c_->Prop}(hfr:A.frames=some (env::outer))(hl:s.heap.FunFrames base (env::outer))(hf:env.frame=some L)(fly:wy s.heap e T0 .none)(nT:T0∉frs (env::outer))
  (h:∀h' T,s.heap.objs.size<=T->Moved (frs (env::outer)) e (some T0) s.heap h'->wy h' e T (rawInt L)->Q () { s with heap:=h' }):wpAny M A (noteFrame (.ref e) env) Q E s:=by
 obtain⟨oe,vs,oT,ts,he,hd,h1,ne,hT,hdT,h3⟩:=fly;have hsz:1<vs.size:=(IF.mp h1).1;unfold noteFrame;simp only [hf];refine cy (IJ he hd h1 ?_);rw [if_pos (show (o_ T0 != HE)=true by simp)];refine cy (IJ hT hdT h3 ?_);rw [if_neg (show ¬ ((HE == rawInt L)=true) by simp [rawInt])];refine cy (JN hT hdT (IF.mp h3).1 ?_)
 have ot:∀b,b≠T0->(s.heap.update T0 (KP (·.setIfInBounds 3 HE))).get? b=s.heap.get? b:=λb hb=>Ij _ _ _ _ hb;have sz:(s.heap.update T0 (KP (·.setIfInBounds 3 HE))).objs.size=s.heap.objs.size:=by simp [Heap.update]
 have hl2:(s.heap.update T0 (KP (·.setIfInBounds 3 HE))).FunFrames base (env::outer):=hl.of_keeps λb o q nf=>⟨o,(ot b (λz=>by rw [z,hT] at q;cases q;exact nf ts hdT)).trans q,rfl⟩
 refine vc hfr hl2 hf ((ot e (HL ne)).trans he) hd hsz λh' T hT' mv fly=>h h' T (by rw [<- sz];exact hT') ⟨λb o h1 h2 h3 q=>mv.kp b o h1 h2 (by simp) ((ot b (λz=>h3 (by rw [z]))).trans q),λb o h1 q=>mv.sl b o h1 ((ot b (λz=>nT (by rw [<- z];exact h1))).trans q),λoe' vs' q1 q2=>mv.ex oe' vs' ((ot e (HL ne)).trans q1) q2⟩ fly
def qh{fl:Value}{T:Addr}{Q:Unit->c_->Prop}(fly:wy s.heap e T fl)(h:∀h',(∀b o,b≠T->s.heap.get? b=some o->h'.get? b=some o)->wy h' e T .none->Q () { s with heap:=h' }):wpAny M A (setFlight (.ref e) none) Q E s:=by
 obtain⟨oe,vs,oT,ts,he,hd,h1,ne,hT,hdT,h3⟩:=fly;unfold setFlight;refine cy (IJ he hd h1 ?_);rw [if_pos (show (o_ T != HE)=true by simp)];have hs3:3<ts.size:=(IF.mp h3).1;refine JN hT hdT hs3 (h _ (λb o hb q=>(Ij _ _ _ _ hb).trans q) ?_);have dT:=JB hdT (·.setIfInBounds 3 ((none:Option Addr).elim HE λf=>rawInt f))
 exact⟨oe,vs,_,_,(Ij _ _ _ _ (HL ne)).trans he,hd,h1,ne,HF _ hT (JT dT),dT,by simp [hs3]⟩
end
noncomputable def CXe(P:so)(w:World):CXT:=λouter H s E e s'=>∃(ea C:Addr) (dd:Option Addr) (H':Hp) (T:Addr),e=.ref ea/\s'.os=s.os/\Kf s'.gens/\Un (frs outer) [] H H' s.heap s'.heap/\HOk P w H' s'.heap /\
 H' ea=some (.ext (XAt ea C dd false))/\wy s'.heap ea T .none/\s.heap.get? T=none/\H' T=none/\E (.ref ea) dd H'
def vd{l:List Env}{h base:Heap}(hl:h.FunFrames base l){b:Addr}(hb:b∈frs l):∃o,h.get? b=some o:=by
 obtain⟨_,o,ho,_⟩:=hl.mem hb;exact⟨o,ho⟩
def XAt.moved{fs:List Addr}{ea C:Addr}{dd:Option Addr}{new:Bool}{T0:Option Addr}{h h':Heap}(x:XAt ea C dd new h)(mv:Moved fs ea T0 h h'):XAt ea C dd false h':=by
 obtain⟨o,vs,h1,h2,h3,h4,h5,_⟩:=x;obtain⟨o',vs',q1,q2,q3,q4,q5⟩:=mv.ex o vs h1 h4;exact⟨o',vs',q1,q2.trans h2,q3.trans h3,q4,by rw [q5];exact h5,nofun⟩
def HOk.moved{P:so}{w:World}{H H':Hp}{h h1 h2:Heap}{fs:List Addr}{ea C T:Addr}{dd:Option Addr}{new:Bool}{T0:Option Addr}(ok:HOk P w H h)(hea:H ea=some (.ext (XAt ea C dd new)))(mv:Moved fs ea T0 h h1)(hT:h.objs.size<=T)(un:∀b o,b≠T->h1.get? b=some o->h2.get? b=some o)
  (hfs:∀b∈fs,H b=none) (hT0:∀b,T0=some b->H b=none) (fly:wy h2 ea T .none) (hH:H'=upd H ea (.ext (XAt ea C dd false))):HOk P w H' h2:=λb o eb=>by
 subst hH;have ne:∀c u,H c=some u->c≠T:=λc u q=>Hj (s_ (ok.lt q) hT);have kp:∀c u,c≠ea->H c=some u->∀v,h.get? c=some v->h2.get? c=some v:=λc u hc q v z=>un c v (ne c u q) (mv.kp c v (λm=>by rw [hfs c m] at q;cases q) hc (λe=>by rw [hT0 c e] at q;cases q) z)
 by_cases hb:b=ea
 .subst hb;rw [aw] at eb;cases eb;have x:XAt b C dd new h:=(ok b _ hea).1;obtain⟨o',vs',q1,q2,q3,q4,q5,q6⟩:=x.moved mv;exact XAt.ok ⟨o',vs',un b o' (ne b _ hea) q1,q2,q3,q4,q5,q6⟩
 .rw [ak hb] at eb
  refine (ok b o eb).stay (λc v hc q=>?_) (λc q=>?_) λc xs q=>?_
  .rcases hc with rfl|hc
   .exact kp c o hb eb v q
   .exact kp c _ (λz=>by rw [z,hea] at hc;cases hc) hc v q
  .rw [ak (λz=>by rw [z,hea] at q;cases q)];exact q
  .rw [ak (λz=>by rw [z,hea] at q;cases q)];exact q
section
variable {P:so}{w:World}{K:b_}{mg:Str->Option Value}{base:Heap}{N:List Str}{qual:Str}{scope:Scope}{f:Addr}{cd:Value}{A:w_}{outer:List Env}{s0:c_}{H0:Hp}{E:XK}{pins:List (Addr×Obj)}{σ:St}{H:Hp}{s:c_}
def ve{ea C:Addr}{dd:Option Addr}(I:Inv (jR (CXe P w) P w K mg base N qual scope f cd A outer s0 H0 E) pins σ H s)(hea:H ea=some (.ext (XAt ea C dd true)))(hE:E (.ref ea) dd (upd H ea (.ext (XAt ea C dd false)))) :
  (jR (CXe P w) P w K mg base N qual scope f cd A outer s0 H0 E).xe (.ref ea) s:=by
 obtain⟨⟨o,vs,h1,h2,h3,h4,h5,h6⟩,_,_⟩:=(show aW P w H s.heap ea (.ext (XAt ea C dd true)) from I.hok ea _ hea)
 show wpAny (model P w) _ (leaving _ (.ref ea)) _ _ s;unfold leaving;refine cy (Ay I.ok.frames I.stack rfl h1 h4 (h6 rfl) λg1 T hT mv fly=>?_);refine qh fly λg2 un fly2=>?_;have hf2:∀b∈frs (envOfC qual scope s0.heap.objs.size f cd::outer),H b=none:=I.stkFree;have hok:=I.hok.moved hea mv hT un hf2 (λb e=>nomatch e) fly2 rfl;have old:∀b o,s0.heap.get? b=some o->b≠s0.heap.objs.size:=λb o q=>Hj (k_ q)
 have bT:∀b o,s.heap.get? b=some o->b≠T:=λb o q=>Hj (s_ (k_ q) hT);have nea:∀b,H b=none->b≠ea:=λb n z=>by rw [z,hea] at n;cases n
 have sub:∀b,b∈frs outer->b∈frs (envOfC qual scope s0.heap.objs.size f cd::outer):=λb hb=>q_ _ hb
 have nsub:∀b o,s0.heap.get? b=some o->b∉frs outer->b∉frs (envOfC qual scope s0.heap.objs.size f cd::outer):=λb o q hb z=>by
  rcases mem_cons.mp (show b∈s0.heap.objs.size::frs outer from z) with z|z
  .exact old b o q z
  .exact hb z
 have un0:Un (frs outer) [] H0 (upd H ea (.ext (XAt ea C dd false))) s0.heap g2:=by
  refine⟨λb ob q n hb hx=>?_,λb ob q n hb hx=>?_,λb ob q n hx=>?_,λb ob q hx=>?_,λb xs q=>?_,λb ob u q=>?_,λb ps q=>?_⟩
  .have q1:=I.base.keep b ob q n hb hx;have n1:=I.base.free b ob q n hx;exact un b ob (bT b ob q1) (mv.kp b ob (nsub b ob q hb) (nea b n1) (by simp) q1)
  .obtain⟨sl,q1⟩:=I.base.slot b ob q n hb hx;obtain⟨sl2,q2⟩:=mv.sl b _ (sub b hb) q1;exact⟨sl2,un b _ (bT b _ q1) q2⟩
  .have n1:=I.base.free b ob q n hx;rw [ak (nea b n1)];exact n1
  .obtain⟨o1,q1⟩:=I.base.there b ob q hx
   by_cases hbe:b=ea
   .subst hbe;obtain⟨o2,vs2,q2,_⟩:=mv.ex o vs h1 h4;exact⟨o2,un b o2 (bT b _ q1) q2⟩
   .by_cases hb:b∈frs (envOfC qual scope s0.heap.objs.size f cd::outer)
    .obtain⟨sl2,q2⟩:=mv.sl b _ hb q1;exact⟨_,un b _ (bT b _ q1) q2⟩
    .exact⟨o1,un b o1 (bT b _ q1) (mv.kp b o1 hb hbe (by simp) q1)⟩
  .have q1:=I.base.tups b xs q;rw [ak (λz=>by rw [z,hea] at q1;cases q1)];exact q1
  .have q1:=I.base.frzs b ob u q;rw [ak (λz=>by rw [z,hea] at q1;cases q1)];exact q1
  .obtain⟨m,q1⟩:=I.base.tbls b ps q;exact⟨m,by rw [ak (λz=>by rw [z,hea] at q1;cases q1)];exact q1⟩
 refine⟨ea,C,dd,_,T,rfl,I.os,I.bare,un0,hok,aw,fly2,?_,?_,hE⟩
 .cases q:s0.heap.get? T with
  | none=>rfl
  | some ob =>
   obtain⟨o1,q1⟩:=I.base.there T ob q (show T∉([]:List Addr) by simp);exact absurd rfl (bT T o1 q1)
 .rw [ak (λz=>by
   have:=I.hok.lt hea;rw [<- z] at this;exact absurd (s_ this hT) (HN _))]
  exact I.hok.fresh hT
end
section
variable {prog:so}{w:World}{A:w_}{E:Value->c_->Prop}{K:b_}{env:Env}
def AA{Q:Flow->c_->Prop}{x:Sem Value}{s:c_}(hh:A.handled=none)
  (hx:wpAny (model prog w) A x (λv s₁=>∃ea C G dd,v=.ref ea/\K.In s₁.heap/\XC K C G/\XAt ea C dd true s₁.heap/\E (.ref ea) s₁) E s):wpAny (model prog w) A (raiseStmt env (some x) none) Q E s:=by
 unfold raiseStmt;refine cy (E_ hx (λv s1 h1=>?_) λ_ _ z=>z);obtain⟨ea,C,G,dd,rfl,X,c,⟨o,vs,q1,q2,q3,q4,q5,q6⟩,hE⟩:=h1;obtain⟨nm,q,N,bs,sn,sub,ab,col,k0,k1,k2,k3,k5,e⟩:=c.obj;have hC:=X _ _ e;obtain⟨hp,g,d,tk,os⟩:=s1;have own:(o_ C::.ref G::vmB).contains (.type "BaseException")=true:=rfl;have qn:=q6 rfl
 repeat (first
  | (with_reducible refine HM q1 ?_;first | rw [q2] | rw [q4] | skip)
  | with_reducible refine HM hC ?_
  | (with_reducible refine Ik hC ?_;rw [own])
  | with_reducible refine IJ q1 q4 qn ?_
  | wp_step)
 exact wpAny_raiseNew_none hh hE
end
noncomputable def RX(X:Cx)(J:St->XK):Prop:=∀(pins:List (Addr×Obj)) (σ:St) (H:Hp) (s:c_) (ea C:Addr) (dd:Option Addr),Inv X pins σ H s->H ea=some (.ext (XAt ea C dd true))->J σ (.ref ea) dd (upd H ea (.ext (XAt ea C dd false)))->X.xe (.ref ea) s
noncomputable def yE(K:b_)(te:TE)(J:St->XK):TS:=λD σ H=>te σ H λv H1=>∃ea C G dd,v=.ref ea/\H1 ea=some (.ext (XAt ea C dd true))/\XC K C G/\J σ (.ref ea) dd (upd H1 ea (.ext (XAt ea C dd false)))
section
variable {X:Cx}{J:St->XK}{x:Expr}{pos:Pos}{te:TE}
def xv(K:b_)(ek:X.K=K)(hc:X.calm=true)(hx:RX X J)(he:PE X x te):PS X (.Raise (some x) none pos) (yE K te J):=by
 subst ek;intro pins s σ H D I h
 have key:wpAny (model X.prog X.w) X.A (raiseStmt X.env (some (do let v <- eval x X.env;standAt pos;pure v)) none) (SP X pins D) X.xe s:=by
  refine AA (K:=X.K) (I.ok.hd hc) (cy (E_ (he pins s σ H _ I h) (λu s1 ⟨v,H1,I1,rv,ea,C,G,dd,ev,hea,c,hj⟩=>cy (HI (l_ ?_))) λ_ _ z=>z));subst ev;obtain rfl:u=o_ ea:=rv;have ok:=(show aW X.prog X.w H1 s1.heap ea (.ext (XAt ea C dd true)) from I1.hok ea _ hea)
  exact⟨ea,C,G,dd,rfl,I1.kIn,c,ok.1,hx pins σ H1 s1 ea C dd I1 hea hj⟩
 rw [arm_exec_Raise]
 first
  | exact cy (HI key)
  | (simp only [evalOpt,Lw];exact cy (HI key))
  | (show wpAny _ _ (do standAt pos;raiseStmt X.env (some (do let v <- eval x X.env;standAt pos;pure v)) none) _ _ s;exact cy (HI key))
def C1{P:so}{w:World}{K:b_}{mg:Str->Option Value}{base:Heap}{N:List Str}{qual:Str}{scope:Scope}{f:Addr}{cd:Value}{A:w_}{outer:List Env}{s0:c_}{H0:Hp}{E:XK} :
  RX (jR (CXe P w) P w K mg base N qual scope f cd A outer s0 H0 E) (λ_=>E):=λpins σ H s ea C dd I hea hj=>ve I hea hj
end
noncomputable def PX(CX:CXT)(X:Cx)(J:St->XK):Prop:=∀(pins:List (Addr×Obj)) (σ:St) (H:Hp) (s:c_) (e:Value) (s':c_),Inv X pins σ H s->CX X.stack H s (J σ) e s'->X.xe e s'
noncomputable def vf(sp:Sp)(J:St->XK)(t:TA):TE:=λσ H Q=>t σ H λvs H1=>sp vs H1 Q (J σ)
structure C3 (P:so) (w:World) (K:b_) (mg:Str->Option Value) (base:Heap) (k:Nat) (x:Str) (ps:List Str) (sp:Sp):Prop where
 ex:∃(f:Addr) (fd:H_),pT P w K mg base (CXe P w) k f fd ps sp/\mn K fd ps []/\C_ K (.ref f)=true/\mg x=some (.ref f)
section
variable {X:Cx}{k:Nat}{x:Str}{ps:List Str}{sp:Sp}{p pos:Pos}{e:Expr}{es:List Expr}{t:TA}{J:St->XK}
def kC(C:C3 X.prog X.w X.K X.mg X.base k x ps sp)(hr:fJ k X.A)(hx:PX (CXe X.prog X.w) X J)(ha:PA X (e::es) t)(hg:Gl X x:=by rfl)(hdb:(x == ("__debug__":Str))=false:=by decide)(hn:nSt e=true:=by rfl)(hp:es.all nSt=true:=by rfl) :
  PE X (.Call (.Name x p) (e::es) [] pos) (vf sp J t):=by
 obtain⟨f,fd,F,hb,hk,hm⟩:=C.ex;intro pins s σ H Q I h;refine Iy (gO I hg hm ?_ hdb);refine Kr (h₀:=X.base) I.ok.mod.kin hk (thn (ha pos pins s σ H _ I h) λus s1 ⟨vs,H1,I1,r,q⟩=>⟨I1.kIn,?_⟩) (i4 hn) (iE hp);have hl:us.length=ps.length:=by rw [<- r.length];exact F.len _ _ _ _ q
 refine KY (Kg (F.run X.A X.stack s1 H1 ⟨us,[]⟩ us vs Q (J σ) hr I1.env0 ?_ r q) λr s' hq=>?_)
 .have:=hb s1 us I1.kIn (by rw [HK];exact hl);rw [HK] at this;exact this
 .cases r with
  | error e=>exact hx pins σ H1 s1 e s' I1 hq
  | ok fl =>
   cases fl with
   | ret u=>exact I1.after hq
   | next=>exact HB hq
   | brk=>exact HB hq
   | cont=>exact HB hq
end
section
variable {X:Cx}{pins:List (Addr×Obj)}{σ:St}{H:Hp}{s:c_}
abbrev Cx.mk'(X:Cx)(e:Value):Cx:={ X with A:=X.A.mark (some e),calm:=false }
def Inv.mark(I:Inv X pins σ H s)(e:Value):Inv (X.mk' e) pins σ H s :=
 ⟨⟨I.ok.mod,I.ok.kind,I.ok.glob,I.ok.blt,I.ok.above,I.ok.inj,I.ok.has,I.ok.cab,nofun,I.ok.frames,I.ok.stk,I.ok.exf,I.ok.bs,I.ok.bsz,I.ok.noex,I.ok.exfs,I.ok.funs,I.ok.frf,I.ok.tb⟩,I.os,I.bare,I.base,I.loc,I.cell,I.free,I.freeC,I.pin,I.hok,I.len⟩
def Inv.unmark{e:Value}(I:Inv (X.mk' e) pins σ H s)(hd:X.calm=true->X.A.handled=none):Inv X pins σ H s :=
 ⟨⟨I.ok.mod,I.ok.kind,I.ok.glob,I.ok.blt,I.ok.above,I.ok.inj,I.ok.has,I.ok.cab,hd,I.ok.frames,I.ok.stk,I.ok.exf,I.ok.bs,I.ok.bsz,I.ok.noex,I.ok.exfs,I.ok.funs,I.ok.frf,I.ok.tb⟩,I.os,I.bare,I.base,I.loc,I.cell,I.free,I.freeC,I.pin,I.hok,I.len⟩
def iF{M:Model}{A:w_}{E:Value->c_->Prop}{i:Nat}{x:Str}{pos:Pos}{Q:Unit->c_->Prop}(I:Inv X pins σ H s)(hN:X.N.Nodup)(hi:X.N[i]?=some x)(hk:X.env.scope.names.lookup x=some .local)
  (h:∀s',Inv X pins (σ.set i none) H s'->Q () s'):wpAny M A (do bindName X.env x .none;unbindBehindTheSuite X.env x pos) Q E s:=by
 refine cy (Kx (et I hN hi (.inl hk) (v:=.non) rfl (λs1 I1=>?_) (.inr hk)));have hiσ:i<σ.length:=by rw [I.len];exact (h_.mp hi).1
 obtain⟨m,hn,hl⟩:=id I1.loc;obtain⟨u,ru,lk⟩:=hl i x .non hi (n_ hiσ) (.inl hk)
 have hm:m x=some u:=by
  rcases lk with ⟨_,z⟩|⟨z,_⟩
  .exact z
  .have z':X.env.scope.names.lookup x=some .cell\/X.env.scope.names.lookup x=some .free:=z;rw [hk] at z';rcases z' with z'|z' <;> cases z'
 unfold unbindBehindTheSuite;refine wpAny_onRaise (wpAny_unbindName_local hk hn hm (by rw [I.ok.kind];rfl) λh' u' hn' hs=>?_);have cne:=I1.cne;obtain⟨oL,_,_,hoL,_⟩:=id hn;have big:∀b o,X.s₀.heap.get? b=some o->b≠X.env.locals:=λb o q=>Hj (s_ (k_ q) I.ok.above)
 refine h _ ⟨I1.ok,I1.os,I1.bare,⟨λb o q n hb hx=>(hs.2 b (big b o q)).trans (I1.base.keep b o q n hb hx),λb o q n hb hx=>?_,I1.base.free,λb o q hx=>?_,I1.base.tups,I1.base.frzs,I1.base.tbls⟩,⟨_,hn',λj y v' e1 e2 e3=>?_⟩,λy c q=>?_,I1.free,I1.freeC,λp hp=>?_,λb ob q=>?_,by simpa using I.len⟩
 .obtain⟨sl,q1⟩:=I1.base.slot b o q n hb hx;exact⟨sl,(hs.2 b (big b o q)).trans q1⟩
 .obtain⟨o',q1⟩:=I1.base.there b o q hx;exact⟨o',(hs.2 b (big b o q)).trans q1⟩
 .by_cases hj:j=i
  .subst hj;rw [n_ hiσ] at e2;cases e2
  .rw [j_ (HL hj)] at e2;obtain⟨u2,r2,q⟩:=hl j y v' e1 (by rw [j_ (HL hj)];exact e2) e3;refine⟨u2,r2,?_⟩
   rcases q with ⟨k,z⟩|⟨k,c,z1,z2⟩
   .have:y≠x:=λz=>hj (mj hN e1 (z ▸ hi));exact .inl ⟨k,by simp [this,z]⟩
   .exact .inr ⟨k,c,z1,z2.sameBut hs (cne y c z1)⟩
 .obtain⟨w',z⟩:=I1.cell y c q;exact⟨w',z.sameBut hs (cne y c q)⟩
 .obtain⟨q,n,ne,nf,dd⟩:=I1.pin p hp;exact⟨(hs.2 p.1 ne).trans q,n,ne,nf,dd⟩
 .refine (I1.hok b ob q).stay (λc w' hc z=>(hs.2 c ?_).trans z) (λ_ z=>z) λ_ _ z=>z;rintro rfl
  rcases hc with hc|hc
  .rw [<- hc,I1.free] at q;cases q
  .rw [I1.free] at hc;cases hc
end
section
variable {M:Model}{A:w_}{E:Value->c_->Prop}{K:b_}{C G D:Addr}
def vg{h:Heap}{g:Array Kn}{d:Drawn}{t:Nat}{os:Jc}{ea:Addr}{dd:Option Addr}{new:Bool}{Q:Bool->c_->Prop}(X:K.In h)(c:XC K C G)(x:XAt ea C dd new h)
  (hD:∃nm q N bs bm hd sn sub ab col d0 k0 k1 k2 k3 k5 nw,K.lookup D=some (excClassObj nm q D N bs bm hd sn sub ab col d0 k0 k1 k2 k3 k5 nw)/\(o_ D::bm).contains (.type "BaseException")=true)
  (hq:Q ((o_ C::.ref G::vmB).contains (.ref D)) ⟨h,g,d,t,os⟩):wpAny M A (excMatches (.ref ea) (.ref D)) Q E ⟨h,g,d,t,os⟩:=by
 obtain⟨nm,q,N,bs,sn,sub,ab,col,k0,k1,k2,k3,k5,e⟩:=c.obj;obtain⟨nm',q',N',bs',bm',hd',sn',sub',ab',col',d0',k0',k1',k2',k3',k5',nw',e2,hb⟩:=hD;obtain⟨o,vs,q1,q2,_⟩:=x;have hC:=X _ _ e;have hDo:=X _ _ e2;have f:=tc_notTuple;generalize hbb:(o_ C::.ref G::vmB).contains (.ref D)=b at hq;unfold excMatches
 repeat (first
  | (with_reducible refine HM q1 ?_;rw [q2])
  | with_reducible refine HM hDo ?_
  | with_reducible refine HM hC ?_
  | (with_reducible refine Ik hDo ?_;rw [hb])
  | (with_reducible refine Ik hC ?_;rw [hbb])
  | wp_step)
 cases b <;> (wp_walk;exact hq)
end
structure FTk (X:Cx) (pins:List (Addr×Obj)) (H:Hp) (T:Addr):Prop where
 nt:H T=none
 sz:X.s₀.heap.objs.size<=T
 nl:T≠X.env.locals
 nc:∀x c,X.env.cells.lookup x=some c->c≠T
 np:∀p∈X.pn++pins,p.1≠T
section
variable {X:Cx}{pins:List (Addr×Obj)}{σ:St}{H:Hp}{s:c_}
def G4{M:Model}{Er:Value->c_->Prop}{E1:XK}{e:Value}{s':c_}{Q:Unit->c_->Prop}(hst:X.stack=X.env::X.outer)(hfm:X.env.frame=some X.env.locals)(I:Inv X pins σ H s)(h:CXe X.prog X.w X.stack H s E1 e s')
  (k:∀ea C dd H' T s2,e=.ref ea->Inv X pins σ H' s2->H' ea=some (.ext (XAt ea C dd false))->wy s2.heap ea T .none->FTk X pins H' T->E1 (.ref ea) dd H'->Q () s2) :
  wpAny M X.A (noteFrame e X.env) (λ_ s1=>wpAny M X.A (setFlight e none) Q Er s1) Er s':=by
 obtain⟨ea,C,dd,H',T0,rfl,os,bare,un1,hok1,hea,fly0,hT0,hT0',hE1⟩:=h;have hf1:∀b∈frs X.stack,H b=none:=I.stkFree;have hss:=I.stack
 have hl:s'.heap.FunFrames X.base X.stack:=by
  have all:∀l:List Env,(∀b∈frs l,b∈frs X.stack)->s.heap.FunFrames X.base l->s'.heap.FunFrames X.base l:=by
   intro l
   induction l with
   | nil=>intro _ _;trivial
   | cons en r ih =>
    intro hs hl;obtain⟨hk,⟨L,o,hf,hn,ho,hd⟩,hr⟩:=hl;have hL:L∈frs (en::r):=by unfold frs;rw [Jd,hf];exact mem_cons_self
    obtain⟨sl,q⟩:=un1.slot L o ho (hf1 L (hs L hL)) (hs L hL) (by simp);exact⟨hk,⟨L,_,hf,hn,q,hd⟩,ih (λb hb=>hs b (by unfold frs;rw [Jd,hf];exact q_ _ hb)) hr⟩
  exact all _ (λ_ hb=>hb) hss
 have nT0:T0∉frs X.stack:=λz=>by
  obtain⟨o,q⟩:=vd hss z;rw [hT0] at q;cases q
 have hf2:∀b∈frs X.stack,H' b=none:=λb hb=>by
  obtain⟨o,q⟩:=vd hss hb;exact un1.free b o q (hf1 b hb) (by simp)
 have fr:=I.ok.frames;rw [hst] at fr hl nT0 hf2;refine Az fr hl hfm fly0 nT0 λg1 T hT mv fly=>?_;refine qh fly λg2 un fly2=>?_;have hok:=hok1.moved hea mv hT un hf2 (λb e=>by cases e;exact hT0') fly2 rfl
 have upe:upd H' ea (.ext (XAt ea C dd false))=H':=by
  funext b
  by_cases z:b=ea
  .subst z;rw [aw,hea]
  .rw [ak z]
 rw [upe] at hok;have bT:∀b o,s'.heap.get? b=some o->b≠T:=λb o q=>Hj (s_ (k_ q) hT);have bT0:∀b o,s.heap.get? b=some o->some T0≠some b:=λb o q z=>by cases z;rw [hT0] at q;cases q
 have nea:∀b,H' b=none->b≠ea:=λb n z=>by rw [z,hea] at n;cases n
 obtain⟨oe,vs,oT,ts,he1,he2,_⟩:=id fly0
 have u:Un (frs X.stack) [] H H' s.heap g2:=by
  rw [hst] at un1 ⊢
  refine⟨λb ob q n hb hx=>?_,λb ob q n hb hx=>?_,un1.free,λb ob q hx=>?_,un1.tups,un1.frzs,un1.tbls⟩
  .have q2:=un1.keep b ob q n hb hx;exact un b ob (bT b ob q2) (mv.kp b ob hb (nea b (un1.free b ob q n hx)) (bT0 b ob q) q2)
  .obtain⟨sl1,q2⟩:=un1.slot b ob q n hb hx;obtain⟨sl2,q3⟩:=mv.sl b _ hb q2;exact⟨sl2,un b _ (bT b _ q2) q3⟩
  .obtain⟨o2,q2⟩:=un1.there b ob q hx
   by_cases hbe:b=ea
   .subst hbe;obtain⟨o3,vs3,q3,_⟩:=mv.ex oe vs he1 he2;exact⟨o3,un b o3 (bT b _ q2) q3⟩
   .by_cases hb:b∈frs (X.env::X.outer)
    .obtain⟨sl2,q3⟩:=mv.sl b _ hb q2;exact⟨_,un b _ (bT b _ q2) q3⟩
    .exact⟨o2,un b o2 (bT b _ q2) (mv.kp b o2 hb hbe (bT0 b ob q) q2)⟩
 have far:∀b o,s.heap.get? b=some o->b<T:=λb o q=>by
  obtain⟨o2,q2⟩:=un1.there b o q (by simp);exact s_ (k_ q2) hT
 have hL:X.env.locals<T:=by
  obtain⟨m,⟨o,_,_,ho,_⟩,_⟩:=I.loc;exact far _ o ho
 refine k ea C dd H' T { s' with heap:=g2 } rfl (I.call' (s':={ s' with heap:=g2 }) os u hok bare (λb z=>nomatch z)) hea fly2 ⟨hok1.fresh hT,IV (lt_of_le_of_lt I.ok.above hL),HL (Hj hL),λx c q=>?_,λp hp=>?_⟩ hE1
 .obtain⟨v,o,ho,_⟩:=I.cell x c q;exact Hj (far c o ho)
 .exact Hj (far _ _ (I.pin p hp).1)
end
abbrev THd:=Addr->Addr->Option Addr->tG->St->Hp->Prop
noncomputable def PH(X:Cx)(hs:List Jv)(th:THd):Prop:=∀(pins:List (Addr×Obj)) (s:c_) (σ:St) (H:Hp) (ea C:Addr) (dd:Option Addr) (T:Addr) (D:tG),Inv X pins σ H s->H ea=some (.ext (XAt ea C dd false))->wy s.heap ea T .none->FTk X pins H T->th ea C dd D σ H ->
 wpAny (model X.prog X.w) X.A (handleBy (.ref ea) X.env hs) (SP X pins D) X.xe s
noncomputable def hAs(K:b_)(C0:Addr)(i:Nat)(ts:TS)(tr:THd):THd:=λea C dd D σ H=>∃G,XC K C G /\
 ((o_ C::.ref G::vmB).contains (.ref C0)=true->ts { nx:=λσ' H'=>D.nx (σ'.set i none) H',bk:=λσ' H'=>D.bk (σ'.set i none) H',ct:=λσ' H'=>D.ct (σ'.set i none) H',rt:=D.rt } (σ.set i (some (.ref ea))) H) /\
 ((o_ C::.ref G::vmB).contains (.ref C0)=false->tr ea C dd D σ H)
noncomputable def XD(K:b_)(D:Addr):Prop:=∃nm q N bs bm hd sn sub ab col d0 k0 k1 k2 k3 k5 nw,K.lookup D=some (excClassObj nm q D N bs bm hd sn sub ab col d0 k0 k1 k2 k3 k5 nw)/\(o_ D::bm).contains (.type "BaseException")=true
section
variable {X:Cx}{C0:Addr}{cn n:Str}{np pos:Pos}{b0:Stmt}{suite:List Stmt}{rest:List Jv}{i:Nat}{ts:TS}{tr:THd}
def Fm(K:b_)(ek:X.K=K)(hx:XD K C0)(hm:X.mg cn=some (.ref C0))(hN:X.N.Nodup)(hi:X.N[i]?=some n)(hk:X.env.scope.names.lookup n=some .local)(hs:∀e,PSs (X.mk' e).nox (b0::suite) ts)(hr:PH X rest tr)
  (hg:Gl X cn:=by rfl) (hdb:(cn == ("__debug__":Str))=false:=by decide):PH X (.ExceptHandler (some (.Name cn np)) (some n) (b0::suite) pos::rest) (hAs K C0 i ts tr):=by
 subst ek;intro pins s σ H ea C dd T D I hea fly ft h;obtain⟨G,c,h1,h2⟩:=h;have xa:XAt ea C dd false s.heap:=(show aW X.prog X.w H s.heap ea (.ext (XAt ea C dd false)) from I.hok ea _ hea).1;refine wpAny_handleBy_cons (codeAny_handlers_test ?_) (by intro z;cases z);refine gO (X:=X.mk' (.ref ea)) (I.mark (.ref ea)) hg hm ?_ hdb;have X2:=I.kIn;have I0:=I;obtain⟨hh,g,d,tk,os⟩:=s;refine vg X2 c xa hx ?_
 cases hb:(o_ C::.ref G::vmB).contains (.ref C0) with
 | false=>exact hr pins _ σ H ea C dd T D I0 hea fly ft (h2 hb)
 | true =>
  refine codeAny_handlers_suite_as ?_;refine qh fly λg2 un fly2=>?_;have I1:Inv X pins σ H { heap:=g2,gens:=g,drawn:=d,toks:=tk,os:=os }:=I0.turned (it:=T) (t':=tk) un ft.nt ft.nl (.inr ft.sz) ft.nc ft.np;refine et (X:=X) (v:=.ref ea) I1 hN hi (.inl hk) rfl (λs2 I2=>?_) (.inr hk);refine E_ (hs (.ref ea) pins s2 _ H _ ((I2.mark (.ref ea)).wish _) (h1 hb)) (λf s3 hf=>?_) λ_ _ z=>HB z
  have un1:∀{σ' H'},Inv (X.mk' (.ref ea)).nox pins σ' H' s3->Inv X pins σ' H' s3:=λJ=>(Inv.unwish J).unmark I0.ok.hd;show wpAny _ X.A (do bindName X.env n .none;unbindBehindTheSuite X.env n pos) (λ_ s4=>SP X pins D f s4) X.xe s3
  cases f with
  | next =>
   obtain⟨σ',H',J,q⟩:=hf;exact iF (un1 J) hN hi hk λs4 I4=>⟨_,H',I4,q⟩
  | brk =>
   obtain⟨σ',H',J,q⟩:=hf;exact iF (un1 J) hN hi hk λs4 I4=>⟨_,H',I4,q⟩
  | cont =>
   obtain⟨σ',H',J,q⟩:=hf;exact iF (un1 J) hN hi hk λs4 I4=>⟨_,H',I4,q⟩
  | ret u =>
   obtain⟨v,σ',H',J,r,q⟩:=hf;exact iF (un1 J) hN hi hk λs4 I4=>⟨v,_,H',I4,r,q⟩
def C4:PH X [] (λ_ _ _ _ _ _=>False):=λ_ _ _ _ _ _ _ _ _ _ _ _ _ h=>h.elim
end
abbrev Cx.tryb(X:Cx)(pn:List (Addr×Obj))(E:Value->c_->Prop):Cx:={ X with pn:=pn,xe:=E }
noncomputable def Gw(tb:(St->XK)->TS)(th:THd):TS:=λD σ H=>∃J:St->XK,tb J D σ H/\∀(σ':St) (ea:Addr) (dd:Option Addr) (H':Hp),J σ' (.ref ea) dd H'->∃C,H' ea=some (.ext (XAt ea C dd false))/\th ea C dd D σ' H'
section
variable {X:Cx}{C0:Addr}{cn n:Str}{np pos:Pos}{b0:Stmt}{suite body:List Stmt}{rest:List Jv}{h0:Jv}{hs:List Jv}{i:Nat}{ts:TS}{tr th:THd}{tb:(St->XK)->TS}
def C5(hst:X.stack=X.env::X.outer)(hfm:X.env.frame=some X.env.locals)
  (hb:∀J pn E,PX (CXe X.prog X.w) (X.tryb pn E) J->PSs (X.tryb pn E) body (tb J)) (hh:PH X (h0::hs) th):PS X (.Try body (h0::hs) [] [] pos) (Gw tb th):=by
 intro pins s σ H D I h;obtain⟨J,h1,h2⟩:=h
 have mk:∀{E σ H s},Inv X pins σ H s->Inv (X.tryb (X.pn++pins) E) [] σ H s:=λI =>
  ⟨⟨I.ok.mod,I.ok.kind,I.ok.glob,I.ok.blt,I.ok.above,I.ok.inj,I.ok.has,I.ok.cab,I.ok.hd,I.ok.frames,I.ok.stk,I.ok.exf,I.ok.bs,I.ok.bsz,I.ok.noex,I.ok.exfs,I.ok.funs,I.ok.frf,I.ok.tb⟩,I.os,I.bare,I.base,I.loc,I.cell,I.free,I.freeC,λp hp=>I.pin p (by simpa using hp),I.hok,I.len⟩
 have un:∀{E pins' σ H s},Inv (X.tryb (X.pn++pins) E) pins' σ H s->Inv X pins σ H s:=λ{E pins' σ H s} I =>
  ⟨⟨I.ok.mod,I.ok.kind,I.ok.glob,I.ok.blt,I.ok.above,I.ok.inj,I.ok.has,I.ok.cab,I.ok.hd,I.ok.frames,I.ok.stk,I.ok.exf,I.ok.bs,I.ok.bsz,I.ok.noex,I.ok.exfs,I.ok.funs,I.ok.frf,I.ok.tb⟩,I.os,I.bare,I.base,I.loc,I.cell,I.free,I.freeC,λp hp=>I.pin p (Hm pins' hp),I.hok,I.len⟩
 let XE:Value->c_->Prop:=λe s1=>∃σ H s,Inv X pins σ H s/\CXe X.prog X.w X.stack H s (J σ) e s1
 have px:PX (CXe X.prog X.w) (X.tryb (X.pn++pins) XE) J:=λpins' σ' H' s' e s1 I' h=>⟨σ',H',s',un I',h⟩
 refine wpAny_Try_except (E_ (hb J _ _ px [] s σ H D (mk I) h1) (λf s1 hf=>?_) λe s1 he=>?_)
 .cases f with
  | next =>
   obtain⟨σ',H',I',q⟩:=hf;rw [arm_execs_nil];exact l_ ⟨σ',H',un I',q⟩
  | brk =>
   obtain⟨σ',H',I',q⟩:=hf;exact⟨σ',H',un I',q⟩
  | cont =>
   obtain⟨σ',H',I',q⟩:=hf;exact⟨σ',H',un I',q⟩
  | ret u =>
   obtain⟨v,σ',H',I',r,q⟩:=hf;exact⟨v,σ',H',un I',r,q⟩
 .obtain⟨σ',H',s',I',cx⟩:=he;refine G4 hst hfm I' cx λea C dd H2 T s2 ee I2 hea fly ft hJ=>?_;subst ee;obtain⟨C2,hea2,ht⟩:=h2 σ' ea dd H2 hJ;exact hh pins s2 σ' H2 ea C2 dd T D I2 hea2 fly ft ht
end
noncomputable def XR(K:b_)(O:Addr->Prop)(H:Hp)(ea:Addr)(dd:Option Addr)(d:D):Prop:=∃c ns ds,d=.exc c ns ds/\H ea=some (.ext (XAt ea (aF K c) dd false))/\FV K O H (.ref ea) d
def XR.keeps{K:b_}{O O':Addr->Prop}{H H':Hp}{ea:Addr}{dd:Option Addr}{d:D}(k:aA O H O' H')(h:XR K O H ea dd d):XR K O' H' ea dd d:=by
 obtain⟨c,ns,ds,rfl,e,f⟩:=h
 have n:¬ O ea:=by cases f with
  | exc0 n _=>exact n
  | exc1 n _ _ _ _ _=>exact n
 exact⟨c,ns,ds,rfl,(k _ _ n e).2,f.keeps k⟩
noncomputable def LSX(K:b_)(E:D->Prop)(Eo:XK)(fs:List Nat)(ts:TS)(ps:PTS):Prop:=∀(fx:List (Nat×V)) (A R:Addr->Prop) (H0:Hp) (ρ:PSt) (σ:St) (H:Hp) (D:uI) (D':tG),fx.map v_=fs->Rel K A ρ σ H->bY fx R H0 ρ σ H->ps D ρ ->
 (∀ρ' σ' H',D.nx ρ'->Rel K A ρ' σ' H'->bY fx R H0 ρ' σ' H'->D'.nx σ' H') ->
 (∀v p ρ' σ' H',D.rt p ρ'->Out K A ρ' σ' H0 H' p v->bY fx R H0 ρ' σ' H'->D'.rt v H') ->
 (∀ρ' σ' H',D.bk ρ'->Rel K A ρ' σ' H'->bY fx R H0 ρ' σ' H'->D'.bk σ' H') ->
 (∀ρ' σ' H',D.ct ρ'->Rel K A ρ' σ' H'->bY fx R H0 ρ' σ' H'->D'.ct σ' H') ->
 (∀ρ' σ' H' ea dd d,E d->Rel K A ρ' σ' H'->bY fx R H0 ρ' σ' H'->H0 ea=none->XR K (OO A ρ' σ') H' ea dd d->Eo (.ref ea) dd H')->ts D' σ H
def bY.nn{fx:List (Nat×V)}{R:Addr->Prop}{H0 H:Hp}{ρ:PSt}{σ:St}(F:bY fx R H0 ρ σ H){b:Addr}(h:H b=none):H0 b=none:=by
 cases e:H0 b with
 | none=>rfl
 | some o=>exact absurd h (F.dm b (by rw [e];exact nofun))
section
variable {K:b_}{E:D->Prop}{Eo:XK}{fs:List Nat}{ta tb ts:TS}{pa pb ps:PTS}{te:TE}{pe:PTE}{tt:TT}{pt:PTT}{wi:TI}{pi:PTI}{g:TG}{pg:PTG}
def LS.x(h:LS K fs ts ps):LSX K E Eo fs ts ps:=λfx A R H0 ρ σ H D D' hf r F q k1 k2 k3 k4 _=>h fx A R H0 ρ σ H D D' hf r F q k1 k2 k3 k4
def l5(ha:LSX K E Eo fs ta pa)(hb:LSX K E Eo fs tb pb):LSX K E Eo fs (yh ta tb) (fk pa pb):=λfx A R H0 ρ σ H D D' hf r F q k1 k2 k3 k4 k5 =>
 ha fx A R H0 ρ σ H _ _ hf r F q (λρ1 σ1 H1 q1 r1 F1=>hb fx A R H0 ρ1 σ1 H1 _ _ hf r1 F1 q1 k1 k2 k3 k4 k5) k2 k3 k4 k5
def Fn(ht:LT K tt pt)(ha:LSX K E Eo fs ta pa)(hb:LSX K E Eo fs tb pb):LSX K E Eo fs (Ef tt ta tb) (pL pt pa pb):=λfx A R H0 ρ σ H D D' hf r F q k1 k2 k3 k4 k5=>ht A ρ σ H _ _ r q λc H1 ρ1 q1 f1 r1=>by
 cases c with
 | true=>exact ha fx A R H0 ρ1 σ H1 D D' hf r1 (F.fr f1) q1 k1 k2 k3 k4 k5
 | false=>exact hb fx A R H0 ρ1 σ H1 D D' hf r1 (F.fr f1) q1 k1 k2 k3 k4 k5
def C6(hi:LI K wi pi)(hg:LGd K fs g pg)(hb:LSX K E Eo fs tb pb):LSX K E Eo fs (Eh wi g tb) (Cz pi pg pb):=λfx A R H0 ρ σ H D D' hf r F q k1 k2 k3 k4 k5=>hi A ρ σ H _ _ r q λJ H1 n it ρ1 q1 f1 r1 W=>by
 obtain⟨I,i0,turn,after⟩:=q1;have F1:=F.fr f1;refine⟨λi m σ' H'=>i+m=n/\∃ρ',I i ρ'/\Rel K A ρ' σ' H'/\bY fx (Wr ρ1 σ) H1 ρ' σ' H',⟨n,Kj n,ρ1,i0,r1,bY.start F1.fx⟩,λi m σ' H' ⟨him,ρ',iv,r',F'⟩=>?_⟩;obtain⟨go,stop⟩:=W _ H' F'.keeps r'.dom2
 by_cases hk:i<n
 .obtain⟨g1,g2⟩:=go i hk;refine .inr ⟨g1,λσ'' H''=>∃ρ'',I (i+1) ρ''/\Rel K A ρ'' σ'' H''/\bY fx (Wr ρ1 σ) H1 ρ'' σ'' H'',λσ'' H'' z=>⟨m - 1,by omega,by omega,z⟩,λx H'' y=>?_⟩;obtain⟨gr,fv⟩:=g2 x H'' y;refine hg fx A (Wr ρ1 σ) H1 ρ' σ' H'' _ x _ _ hf (F'.fr gr.fr) (r'.gr gr) fv (turn i ρ' _ hk rfl iv) λρ2 σ2 q2 r2 F2 _=>?_
  refine hb fx A (Wr ρ1 σ) H1 ρ2 σ2 H'' _ _ hf r2 F2 q2 (λρ3 σ3 H3 q3 r3 F3=>⟨ρ3,q3,r3,F3⟩) (λv p ρ3 σ3 H3 q3 o3 F3=>k2 v p ρ3 σ3 H3 q3 (o3.h0 F1.dm) (F1.trans F3 F3.fx)) (λρ3 σ3 H3 q3 r3 F3=>k1 ρ3 σ3 H3 q3 r3 (F1.trans F3 F3.fx)) (λρ3 σ3 H3 q3 r3 F3=>⟨ρ3,q3,r3,F3⟩)
   (λρ3 σ3 H3 ea dd d q3 r3 F3 n3 x3=>k5 ρ3 σ3 H3 ea dd d q3 r3 (F1.trans F3 F3.fx) (F1.nn n3) x3)
 .have e:i=n:=by omega
  subst e;exact .inl ⟨stop,k1 ρ' σ' H' (after ρ' iv) r' (F1.trans F' F'.fx)⟩
end
noncomputable def AB(E:D->Prop)(pe:PTE):PTS:=λ_ ρ=>pe ρ λp _=>match p with
 | .dat d=>E d
 | _=>False
section
variable {K:b_}{E:D->Prop}{Eo:XK}{fs:List Nat}{ta:TA}{pa:PTA}{cs:List Str}{c f:Str}
def Fo{H:Hp}{a:Addr}{o o':HO}:upd (upd H a o) a o'=upd H a o':=by
 funext b
 by_cases z:b=a
 .subst z;rw [aw,aw]
 .rw [ak z,ak z,ak z]
def vh(X:Au K cs)(hc:c∈cs):LSX K E Eo fs (yE K (CY (aF K c)) (λ_=>Eo)) (AB E (Fk c)):=λfx A R H0 ρ σ H D D' hf r F q k1 k2 k3 k4 k5 e he=>by
 refine⟨e,aF K c,aF K "GlueError",none,rfl,aw,X.c c hc,?_⟩;rw [Fo];have g:Gr H (upd H e (.ext (XAt e (aF K c) none false))):=Gr.new he;exact k5 ρ σ _ e _ _ q (r.gr g) (F.fr g.fr) (F.nn he) ⟨_,_,_,rfl,aw,.exc0 (λz=>r.dom2 e z he) aw⟩
end
abbrev FX:=List D->(PV->Prop)->(D->Prop)->Prop
noncomputable def spX(K:b_)(c:FX):Sp:=λvs H Q E=>∃(O:Addr->Prop) (ds:List D) (Qc:PV->Prop) (Ec:D->Prop),(∀b,O b->H b≠none)/\FVs K O H vs ds/\c ds Qc Ec/\(∀r,Qc r->∀v H',Gr H H'->pK K O H H' r v->Q v H') /\
 ∀d,Ec d->∀ea dd H',Gr H H'->H ea=none->XR K O H' ea dd d->E (.ref ea) dd H'
section
variable {K:b_}{tr:TA}{pr:PTA}{ts:XK->TS}{ps:(D->Prop)->PTS}
noncomputable def C7(c:FX)(pr:PTA):PTE:=λρ Q=>pr ρ λas ρ1=>match avD as with
 | some ds=>c ds (λr=>Q r ρ1) (λ_=>False)
 | none=>False
def jW{c:FX}(h:LAs K tr pr):LE K (vf (spX K c) (λ_=>E0) tr) (C7 c pr):=λA ρ σ H Q Q' R q k=>h A ρ σ H _ _ R q λvs H1 as ρ1 q1 f1 R1 o1=>by
 split at q1
 .rename_i ds e;exact⟨OO A ρ1 σ,ds,_,_,R1.dom2,o1.avD e,q1,λr qr v H' g ov=>k v H' r ρ1 qr (f1.trans g.fr) ((ov.out R1 g).h0 f1.dm),λd z=>z.elim⟩
 .exact q1.elim
end
section
variable {K:b_}{cs:List Str}
def oh(X:Au K cs){c d:Str}(hc:c∈cs)(hd:d∈cs\/d="GlueError"):(o_ (aF K c)::.ref (aF K "GlueError")::vmB).contains (.ref (aF K d))=lw c d:=by
 have yd:XCl K d:=hd.elim (X.n d) λe=>by rw [e];exact X.g
 have rr:∀a b:Addr,(o_ a == o_ b)=decide (a=b):=λa b=>by
  by_cases h:a=b
  .subst h;simp
  .rw [decide_eq_false h];exact beq_eq_false_iff_ne.mpr λz=>h (J3 z)
 rw [contains_cons,contains_cons,rr,rr];have t2:vmB.contains (o_ (aF K d))=false:=rfl;rw [t2,KL];unfold lw
 congr 1
 .by_cases h:c=d
  .subst h;rw [decide_eq_true rfl,decide_eq_true rfl]
  .rw [decide_eq_false h,decide_eq_false λz=>(X.n c hc).ne yd h z.symm]
 .by_cases h:d="GlueError"
  .subst h;rw [decide_eq_true rfl,decide_eq_true rfl]
  .rw [decide_eq_false h,decide_eq_false (yd.ne X.g h)]
end
section
variable {K:b_}{A R:Addr->Prop}{fx:List (Nat×V)}{fs:List Nat}{H0 H:Hp}{ρ:PSt}{σ:St}{i:Nat}
def iG{j:Nat}{q:PV}(e:(ρ.set i none)[j]?=some (some q)):j≠i/\ρ[j]?=some (some q):=by
 by_cases z:i=j
 .subst z
  by_cases hi:i<ρ.length
  .rw [n_ hi] at e;cases e
  .rw [z_ (by rw [length_set];omega)] at e;cases e
 .rw [j_ z] at e;exact⟨λq=>z q.symm,e⟩
def mR{b:Addr}(h:Wr (ρ.set i none) (σ.set i none) b):Wr ρ σ b:=by
 obtain⟨j,r,e1,o1,s1⟩:=h;obtain⟨n,e⟩:=iG e1;rw [j_ (λz=>n z.symm)] at s1;exact⟨j,r,e,o1,s1⟩
def Rel.unset(R1:Rel K A ρ σ H):Rel K A (ρ.set i none) (σ.set i none) H:=by
 have k:aA (OO A ρ σ) H (OO A (ρ.set i none) (σ.set i none)) H:=aA.less λb z=>z.imp id mR
 refine⟨by rw [length_set,length_set];exact R1.len,λj r e1=>?_,λj l p1 q1 v' e1 e2 o1 o2 s1 s2=>?_,R1.dom,λb z w=>R1.sep b z (mR w)⟩
 .obtain⟨n,e⟩:=iG e1;obtain⟨u,s,r'⟩:=R1.get j r e;exact⟨u,by rw [j_ (λz=>n z.symm)];exact s,r'.keeps k λ_ _ _=>rfl⟩
 .obtain⟨n1,e1⟩:=iG e1;obtain⟨n2,e2⟩:=iG e2;rw [j_ (λz=>n1 z.symm)] at s1;rw [j_ (λz=>n2 z.symm)] at s2;exact R1.dj j l p1 q1 v' e1 e2 o1 o2 s1 s2
def bY.unset(hf:fx.map v_=fs)(hi:fs.contains i=false)(F:bY fx R H0 ρ σ H):bY fx R H0 (ρ.set i none) (σ.set i none) H :=
 ⟨F.kp,F.dm,λb w=>F.ow b (mR w),λq hq=>by
  have:q.1≠i:=λz=>by
   have h1:i∈fs:=by rw [<- hf,<- z];exact Ll hq
   rw [t_.mpr h1] at hi;cases hi
  rw [j_ (λz=>this z.symm)];exact F.fx q hq⟩
end
abbrev PTH:=D->PTS
noncomputable def LH(K:b_)(fs:List Nat)(th:THd)(ph:PTH):Prop:=∀(fx:List (Nat×V)) (A R:Addr->Prop) (H0:Hp) (ρ:PSt) (σ:St) (H:Hp) (D:uI) (D':tG) (ea:Addr) (dd:Option Addr) (c:Str) (ns:List Str) (ds:List L2.D),fx.map v_=fs->Rel K A ρ σ H->bY fx R H0 ρ σ H ->
 H ea=some (.ext (XAt ea (aF K c) dd false))->FV K (OO A ρ σ) H (.ref ea) (.exc c ns ds)->ph (.exc c ns ds) D ρ ->
 (∀ρ' σ' H',D.nx ρ'->Rel K A ρ' σ' H'->bY fx R H0 ρ' σ' H'->D'.nx σ' H') ->
 (∀v p ρ' σ' H',D.rt p ρ'->Out K A ρ' σ' H0 H' p v->bY fx R H0 ρ' σ' H'->D'.rt v H') ->
 (∀ρ' σ' H',D.bk ρ'->Rel K A ρ' σ' H'->bY fx R H0 ρ' σ' H'->D'.bk σ' H') ->
 (∀ρ' σ' H',D.ct ρ'->Rel K A ρ' σ' H'->bY fx R H0 ρ' σ' H'->D'.ct σ' H')->th ea (aF K c) dd D' σ H
def Fp:PTH:=λ_ _ _=>False
noncomputable def G5(cs:List Str)(c0:Str)(i:Nat)(pb:PTS)(rest:PTH):PTH:=λd D ρ=>match d with
 | .exc c _ _=>cs.contains c=true/\gE (lw c c0) (pb { nx:=λρ'=>D.nx (ρ'.set i none),bk:=λρ'=>D.bk (ρ'.set i none),ct:=λρ'=>D.ct (ρ'.set i none),rt:=D.rt } (ρ.set i (some (.dat d)))) (rest d D ρ)
 | _=>False
section
variable {K:b_}{cs:List Str}{fs:List Nat}{ts:TS}{ps:PTS}{tr:THd}{pr:PTH}{c0:Str}{i:Nat}
def C8:LH K fs (λ_ _ _ _ _ _=>False) Fp:=λ_ _ _ _ _ _ _ _ _ _ _ _ _ _ _ _ _ _ _ h _ _ _ _=>h
def Fq(X:Au K cs)(h0:c0∈cs\/c0="GlueError")(hi:fs.contains i=false)(hs:LS K fs ts ps)(hr:LH K fs tr pr):LH K fs (hAs K (aF K c0) i ts tr) (G5 cs c0 i ps pr):=λfx A R H0 ρ σ H D D' ea dd c ns ds hf r F hea fv q k1 k2 k3 k4=>by
 obtain⟨hc,q⟩:=(show cs.contains c=true/\_ from q)
 have hc:c∈cs:=t_.mp hc;have ek:=oh X hc h0
 refine⟨aF K "GlueError",X.c c hc,λe=>?_,λe=>?_⟩
 .rw [ek] at e;rw [e] at q;have o:Out K A ρ σ H0 H (.dat (.exc c ns ds)) (.ref ea):=⟨r,fv⟩
  exact hs fx A R H0 _ _ H _ _ hf (o.put (i:=i)).1 (F.put hf hi o.put.2) q (λρ' σ' H' q' r' F'=>k1 _ _ _ q' r'.unset (F'.unset hf hi)) k2 (λρ' σ' H' q' r' F'=>k3 _ _ _ q' r'.unset (F'.unset hf hi)) (λρ' σ' H' q' r' F'=>k4 _ _ _ q' r'.unset (F'.unset hf hi))
 .rw [ek] at e;rw [e] at q;exact hr fx A R H0 ρ σ H D D' ea dd c ns ds hf r F hea fv q k1 k2 k3 k4
end
noncomputable def Fs(c:FX)(pa:PTA)(ph:PTH):PTS:=λD ρ=>pa ρ λas ρ1=>match avD as with
 | some ds=>c ds (λ_=>D.nx ρ1) (λd=>ph d D ρ1)
 | none=>False
section
variable {K:b_}{fs:List Nat}{ta:TA}{pa:PTA}{th:THd}{ph:PTH}{c:FX}
def C9(ha:LAs K ta pa)(hh:LH K fs th ph):LS K fs (Gw (λJ=>yh (zo (vf (spX K c) J ta)) zl) th) (Fs c pa ph):=λfx A R H0 ρ σ H D D' hf r F q k1 k2 k3 k4=>by
 refine⟨λσ' v dd H'=>∃ρ1 ea d,v=.ref ea/\σ'=σ/\Rel K A ρ1 σ H'/\bY fx R H0 ρ1 σ H'/\XR K (OO A ρ1 σ) H' ea dd d/\ph d D ρ1,?_,λσ' ea dd H' ⟨ρ1,ea',d,ev,es,r1,F1,x1,q1⟩=>?_⟩
 .refine ha A ρ σ H _ _ r q λvs H1 as ρ1 q1 f1 R1 o1=>?_
  split at q1
  .rename_i ds e;exact⟨OO A ρ1 σ,ds,_,_,R1.dom2,o1.avD e,q1,λr qr v H' g ov=>k1 ρ1 σ H' qr (ov.out R1 g).frz.1 ((F.fr f1).fr g.fr),λd qd ea dd H' g n x=>⟨ρ1,ea,d,rfl,rfl,R1.gr g,(F.fr f1).fr g.fr,x,qd⟩⟩
  .exact q1.elim
 .cases ev;subst es;obtain⟨c,ns,ds,rfl,hea,fv⟩:=x1;exact⟨_,hea,hh fx A R H0 ρ1 σ' H' D D' ea dd c ns ds hf r1 F1 hea fv q1 k1 k2 k3 k4⟩
end
section
variable {X:Cx}{st:Stmt}{t:TS}
def PS.nox(h:PS X.nox st t):PS X st t:=λpins s σ H D I hw =>
 E_ (h pins s σ H D (I.wish _) hw) (λf s' hs=>by
  cases f with
  | next=>obtain⟨σ',H',J,q⟩:=hs;exact⟨σ',H',J.unwish,q⟩
  | brk=>obtain⟨σ',H',J,q⟩:=hs;exact⟨σ',H',J.unwish,q⟩
  | cont=>obtain⟨σ',H',J,q⟩:=hs;exact⟨σ',H',J.unwish,q⟩
  | ret u=>obtain⟨v,σ',H',J,r,q⟩:=hs;exact⟨v,σ',H',J.unwish,r,q⟩) λ_ _ z=>z.elim
end
section
variable {P:so}{w:World}{K:b_}{mg:Str->Option Value}{base:Heap}{x:Str}{st:Stmt}{N ps:List Str}{k:Nat}{sp:Sp}
def aY.okE(D:aY K mg x st)(S:aB N ps (ai st))
  (hb:∀(kV doc pm:Value) (an:Option Addr) (cdv ct:Value) (us:List Value),us.length=ps.length->bindArgs (Hw x x (cA st) (aS st) (ai st) .none kV doc pm an cdv ct) ⟨us,[]⟩=pure (ps.zip us))
  (len:∀vs H Q E,sp vs H Q E->vs.length=ps.length)
  (hbody:∀(f:Addr) (cdv:Value) (A:w_) (outer:List Env) (s:c_) (H:Hp) (vs:List V) (Q:VK) (E:XK),fJ k (A.deeper (envOfC x (ai st) s.heap.objs.size f cdv))->sp vs H Q E ->
   ∃t,PSs (jR (CXe P w) P w K mg base N x (ai st) f cdv A outer s H E) (aS st) t/\t { nx:=λ_ H'=>Q .non H',rt:=Q } (start N vs) H):C3 P w K mg base (k+1) x ps sp:=by
 obtain⟨f,fd,F,hm⟩:=D.ex;refine⟨f,fd,?_,F.binds hb,F.kp,hm⟩;obtain⟨oc,od,kV,doc,pm,an,cdv,ct,osl,rfl,lk,hcd⟩:=F.ex;exact BQ lk hcd S len λA outer s H vs Q E hr hsp=>hbody f cdv A outer s H vs Q E hr hsp
end
def px0{P:so}{w:World}{X:Cx}:PX (CXe P w) X (λ_=>E0):=λpins σ H s e s' I h=>by
 obtain⟨_,_,_,_,_,_,_,_,_,_,_,_,_,_,z⟩:=h;exact z.elim
abbrev D6(pp:(D->Prop)->PTS)(n:Nat)(ds:List D)(Q:PV->Prop)(E:D->Prop):Prop:=pp E { nx:=λ_=>Q (.dat .non),rt:=λp _=>Q p } (bv n (ds.map .dat))
section
variable {K:b_}{ts:TS}{ps:(D->Prop)->PTS}
def G6{c:FX}{n:Nat}(hn:∀ds Q E,c ds Q E->ds.length=n){vs:List V}{H:Hp}{Q:VK}{E:XK}(h:spX K c vs H Q E):vs.length=n:=by
 obtain⟨O,ds,Qc,Ec,_,fv,hq,_⟩:=h;rw [fv.length];exact hn ds Qc Ec hq
def G7{c:FX}{N:List Str}{vs:List V}{H:Hp}{Q:VK}{E:XK}(hl:∀Ec,LSX K Ec E [] ts (ps Ec))(hn:∀ds Q E,c ds Q E->ds.length<=N.length)(hc:∀ds Q E,c ds Q E->D6 ps N.length ds Q E)
  (h:spX K c vs H Q E):ts { nx:=λ_ H'=>Q .non H',rt:=Q } (start N vs) H:=by
 obtain⟨O,ds,Qc,Ec,dom,fv,hq,k,kx⟩:=h
 have nw:∀(ρ:PSt) (b:Addr),ρ=bv N.length (ds.map .dat)->¬ Wr ρ (start N vs) b:=λρ b e ⟨i,p,e1,o1,s1⟩=>by
  rw [e] at e1;have:=bw e1;rw [i_] at this
  cases e2:ds[i]? with
  | none=>rw [e2] at this;cases this
  | some d=>rw [e2] at this;cases this;cases o1
 have lenv:=fv.length;have hle:=hn ds Qc Ec hq
 have R0:Rel K O (bv N.length (ds.map .dat)) (start N vs) H:=by
  refine⟨?_,λi p e=>?_,λi j p q v e1 e2 o1 o2 s1 s2=>?_,dom,λb _ w=>nw _ b rfl w⟩
  .unfold bv start;rw [length_append,length_append,length_map,length_map,length_map,length_replicate,length_replicate,lenv]
  .have:=bw e;rw [i_] at this
   cases e2:ds[i]? with
   | none=>rw [e2] at this;cases this
   | some d =>
    rw [e2] at this;cases this;obtain⟨v,hv,f⟩:=fv.getD e2;exact⟨v,cq hv,f.keeps (aA.less λb z=>z.elim id λw=>absurd w (nw _ b rfl))⟩
  .have:=bw e1;rw [i_] at this
   cases e3:ds[i]? with
   | none=>rw [e3] at this;cases this
   | some d=>rw [e3] at this;cases this;cases o1
 refine hl Ec [] O (λ_=>False) H _ _ H _ _ rfl R0 ⟨λ_ _ _ h=>h,λ_ h=>h,λb w=>absurd w (nw _ b rfl),λp hp=>nomatch hp⟩ (hc ds Qc Ec hq) (λρ' σ' H' q r F=>?_) (λv p ρ' σ' H' q o F=>?_) (λ_ _ _ z=>z.elim) (λ_ _ _ z=>z.elim) (λρ' σ' H' ea dd d q r F n x=>?_)
 .exact k _ q .non H' (λb o e=>F.kp b o id e) .non
 .exact k _ q v H' (λb o e=>F.kp b o id e) o.outV
 .exact kx d q ea dd H' (λb o e=>F.kp b o id e) n (x.keeps (aA.less λb z=>.inl z))
end
def Db{X:Cx}{c0 cn n:Str}{np pos:Pos}{b0:Stmt}{suite:List Stmt}{rest:List Jv}{ts:TS}{tr:THd}(i:Nat)(K:b_)(ek:X.K=K)(hx:XD K (aF K c0))(hm:X.mg cn=some (.ref (aF K c0)))(hN:X.N.Nodup)(hi:X.N[i]?=some n)(hk:X.env.scope.names.lookup n=some .local)(hs:∀e,PSs (X.mk' e).nox (b0::suite) ts)(hr:PH X rest tr)
  (hg:Gl X cn:=by rfl) (hdb:(cn == ("__debug__":Str))=false:=by decide):PH X (.ExceptHandler (some (.Name cn np)) (some n) (b0::suite) pos::rest) (hAs K (aF K c0) i ts tr):=Fm K ek hx hm hN hi hk hs hr hg hdb
def vk(d:D):(PV.dat d).d=d:=rfl
def vl(ds:List D):(PV.own ds).d=.lst ds:=rfl
def vm(ks:List Key)(ds:List D):(PV.odc ks ds).d=.dic ks ds:=rfl
def vn(c:Str)(ns:List Str)(ds:List D):(PV.ins c ns ds).d=.obj c ns ds:=rfl
def Dc(ds:List D):mkL false ds=.own ds:=rfl
def Dd(ds:List D):mkL true ds=.dat (.tup ds):=rfl
noncomputable def pkm(ρ:PSt)(j:Nat):Option PV:=match ρ[j]? with
 | some v=>v
 | none=>none
def rJ(v:Option PV)(r:PSt):pkm (v::r) 0=v:=rfl
def rK(v:Option PV)(r:PSt)(n:Nat):pkm (v::r) (n+1)=pkm r n:=rfl
def oi(ρ:PSt):b7 [] ρ=[]:=rfl
def l8(ix:List (Option Nat))(ρ:PSt):b7 (none::ix) ρ=none::b7 ix ρ:=rfl
def l9(j:Nat)(ix:List (Option Nat))(ρ:PSt):b7 (some j::ix) ρ=pkm ρ j::b7 ix ρ:=rfl
def oj(j:Nat)(ix:List (Option Nat))(ρ:PSt)(t:Option PV)(τ:PSt):dB (some j::ix) ρ (t::τ)=dB ix (ρ.set j t) τ:=rfl
def om(ix:List (Option Nat))(ρ:PSt)(t:Option PV)(τ:PSt):dB (none::ix) ρ (t::τ)=dB ix ρ τ:=rfl
def rL(ρ τ:PSt):dB [] ρ τ=ρ:=rfl
noncomputable def G8(pe:PTE):PTE:=λρ Q=>pe ρ λp ρ1=>Q (.dat p.d) ρ1
def yF{K:b_}{ta:TE}{pe:PTE}(h:LE K ta pe):LE K ta (G8 pe):=λA ρ σ H Q Q' R q k=>h A ρ σ H _ Q' R q λv H' p ρ' q f o=>k v H' (.dat p.d) ρ' q f o.frz
def AC{α:Type}{e:α->D}{xs:List α}{k:Nat}(h:k<xs.length):itD (xs.map e) k=e xs[k]:=lZ (by rw [i_,d_ h];rfl)
def vo{α β:Type}(f:α->β)(xs:List α)(g:Nat->β)(h:∀k (hk:k<xs.length),g k=f xs[k]):(gV xs.length).map g=xs.map f:=by
 apply Ki;intro i;rw [i_,i_]
 by_cases hi:i<xs.length
 .rw [IE hi,d_ hi];exact congrArg some (h i hi)
 .rw [z_ (by rw [length_range];omega),z_ (by omega)];rfl
section
variable {α:Type}{e:α->D}{xs:List α}{ix:List (Option Nat)}{ρ1:PSt}{g:PTG}{pt:PTT}{pe:PTE}{Q:PKt}
def Gx(T:PSt->Prop)(f:α->Option D)(h0:T (b7 ix ρ1))
  (hs:∀x∈xs,∀τ,T τ->∀(K1:D->PSt->Prop) (K2:PSt->Prop),(∀d τ',f x=some d->T τ'->K1 d τ')->(∀τ',f x=none->T τ'->K2 τ')->g (.dat (e x)) τ λτ2=>pt τ2 λok τ3=>gE ok (pe τ3 λp τ4=>K1 p.d τ4) (K2 τ3))
  (hq:∀τ,T τ->Q (.own (xs.filterMap f)) (dB ix ρ1 τ)):n5 ix ρ1 (xs.map e).length (itD (xs.map e)) g pt pe Q:=by
 refine cfm T (λk=>(xs[k]?).bind f) h0 (λk τ d hk ed t K1 K2 k1 k2=>?_) λτ t=>?_
 .rw [length_map] at hk;rw [AC hk] at ed;subst ed;have eg:(xs[k]?).bind f=f xs[k]:=by rw [d_ hk];rfl
  rw [eg] at k1 k2;exact hs _ (Iu hk) τ t K1 K2 k1 k2
 .have e1:(gV (xs.map e).length).filterMap (λk=>(xs[k]?).bind f)=xs.filterMap f:=by
   rw [length_map];have h1:(gV xs.length).map (λk=>(xs[k]?).bind f)=xs.map f:=vo f xs _ λk hk=>by rw [d_ hk];rfl
   have h2:∀l:List Nat,l.filterMap (λk=>(xs[k]?).bind f)=(l.map λk=>(xs[k]?).bind f).filterMap id:=λl=>by rw [filterMap_map];rfl
   rw [h2,h1,filterMap_map];rfl
  rw [e1];exact hq τ t
def Ft(T:PSt->Prop)(f:α->D)(h0:T (b7 ix ρ1))
  (hs:∀x∈xs,∀τ,T τ->∀K1:D->PSt->Prop,(∀τ',T τ'->K1 (f x) τ')->g (.dat (e x)) τ λτ2=>pe τ2 λp τ4=>K1 p.d τ4)
  (hq:∀τ,T τ->Q (.own (xs.map f)) (dB ix ρ1 τ)):n5 ix ρ1 (xs.map e).length (itD (xs.map e)) g D4 pe Q:=by
 refine Gx T (λx=>some (f x)) h0 (λx hx τ t K1 K2 k1 k2=>?_) λτ t=>?_
 .exact hs x hx τ t K1 λτ' t'=>k1 _ τ' rfl t'
 .rw [show xs.filterMap (λx=>some (f x))=xs.map f by rw [<- filterMap_eq_map];rfl];exact hq τ t
def Fu{β:Type}(p:α->Bool)(f:α->β):∀xs:List α,xs.filterMap (λx=>if p x=true then some (f x) else none)=(xs.filter p).map f:=kz p f
def cfX(T:PSt->Prop)(p:α->Bool)(f:α->D)(h0:T (b7 ix ρ1))
  (hs:∀x∈xs,∀τ,T τ->∀(K1:D->PSt->Prop) (K2:PSt->Prop),(∀τ',p x=true->T τ'->K1 (f x) τ')->(∀τ',p x=false->T τ'->K2 τ')->g (.dat (e x)) τ λτ2=>pt τ2 λok τ3=>gE ok (pe τ3 λp τ4=>K1 p.d τ4) (K2 τ3))
  (hq:∀τ,T τ->Q (.own ((xs.filter p).map f)) (dB ix ρ1 τ)):n5 ix ρ1 (xs.map e).length (itD (xs.map e)) g pt pe Q:=by
 refine Gx T (λx=>if p x=true then some (f x) else none) h0 (λx hx τ t K1 K2 k1 k2=>hs x hx τ t K1 K2 (λτ' h t'=>k1 _ τ' (by rw [if_pos h]) t') λτ' h t'=>k2 τ' (by rw [if_neg (by rw [h];decide)]) t') λτ t=>?_;rw [Fu];exact hq τ t
def cm1(f:α->D)
  (hs:∀x∈xs,∀(v:Option PV) (K1:D->PSt->Prop),(∀v',K1 (f x) (v'::(b7 ix ρ1).tail))->g (.dat (e x)) (v::(b7 ix ρ1).tail) λτ2=>pe τ2 λp τ4=>K1 p.d τ4)
  (hq:∀v:Option PV,Q (.own (xs.map f)) (dB ix ρ1 (v::(b7 ix ρ1).tail))) (hx:b7 ix ρ1=none::(b7 ix ρ1).tail:=by rfl):n5 ix ρ1 (xs.map e).length (itD (xs.map e)) g D4 pe Q:=by
 refine Ft (λτ=>∃v,τ=v::(b7 ix ρ1).tail) f ⟨none,hx⟩ ?_ ?_
 .rintro x hx τ ⟨v,rfl⟩ K1 k1;exact hs x hx v K1 λv'=>k1 _ ⟨v',rfl⟩
 .rintro τ ⟨v,rfl⟩;exact hq v
def cf1(p:α->Bool)(f:α->D)
  (hs:∀x∈xs,∀(v:Option PV) (K1:D->PSt->Prop) (K2:PSt->Prop),(∀v',p x=true->K1 (f x) (v'::(b7 ix ρ1).tail))->(∀v',p x=false->K2 (v'::(b7 ix ρ1).tail))->g (.dat (e x)) (v::(b7 ix ρ1).tail) λτ2=>pt τ2 λok τ3=>gE ok (pe τ3 λp τ4=>K1 p.d τ4) (K2 τ3))
  (hq:∀v:Option PV,Q (.own ((xs.filter p).map f)) (dB ix ρ1 (v::(b7 ix ρ1).tail))) (hx:b7 ix ρ1=none::(b7 ix ρ1).tail:=by rfl):n5 ix ρ1 (xs.map e).length (itD (xs.map e)) g pt pe Q:=by
 refine cfX (λτ=>∃v,τ=v::(b7 ix ρ1).tail) p f ⟨none,hx⟩ ?_ ?_
 .rintro x hx τ ⟨v,rfl⟩ K1 K2 k1 k2;exact hs x hx v K1 K2 (λv' h=>k1 _ h ⟨v',rfl⟩) λv' h=>k2 _ h ⟨v',rfl⟩
 .rintro τ ⟨v,rfl⟩;exact hq v
end
def vp{α β:Type}(f:α->β)(xs:List α)(i:Nat):(xs.map f).eraseIdx i=(xs.eraseIdx i).map f:=by
 rw [eraseIdx_eq_take_drop_succ,eraseIdx_eq_take_drop_succ,map_append,map_take,map_drop]
def vq{α:Type}{js:List α}{i:Nat}(h:i<js.length):(js.eraseIdx i++[js[i]]).Perm js:=by
 rw [eraseIdx_eq_take_drop_succ,Io];have e:js=js.take i++(js[i]::js.drop (i+1)):=by rw [getElem_cons_drop,take_append_drop]
 conv=>rhs;rw [e]
 exact List.Perm.append_left _ (perm_append_singleton _ _)
def AD{n i:Nat}(h:i<n):ixN n (i:Int)=some i:=by
 unfold ixN;rw [if_pos (by omega),if_pos (by omega),toNat_natCast]
noncomputable def lxB:List Int->List Int->Bool
 | [],[]=>false
 | [],_::_=>true
 | _::_,[]=>false
 | x::xs,y::ys=>if x=y then lxB xs ys else decide (x<y)
def vt{x y:Int}{xs ys:List Int}:lxB (x::xs) (y::ys)=true ↔ x<y\/(x=y/\lxB xs ys=true):=by
 show (if x=y then lxB xs ys else decide (x<y))=true ↔ _
 split
 .rename_i h;subst h;simp
 .rename_i h;simp [h]
theorem yG:∀xs:List Int,lxB xs xs=false
 | []=>rfl
 | x::xs=>by show (if x=x then lxB xs xs else _)=false;rw [if_pos rfl];exact yG xs
theorem De:∀{xs ys zs:List Int},lxB xs ys=true->lxB ys zs=true->lxB xs zs=true
 | [],[],_,h,_=>by cases h
 | [],_::_,[],_,h=>by cases h
 | [],_::_,_::_,_,_=>rfl
 | _::_,[],_,h,_=>by cases h
 | _::_,_::_,[],_,h=>by cases h
 | x::xs,y::ys,z::zs,h1,h2=>by
  rw [vt] at h1 h2 ⊢
  rcases h1 with a|⟨rfl,a⟩
  .rcases h2 with b|⟨rfl,b⟩
   .left;omega
   .left;exact a
  .rcases h2 with b|⟨rfl,b⟩
   .left;exact b
   .right;exact⟨rfl,De a b⟩
theorem yH:∀{xs ys:List Int},lxB xs ys=false->lxB ys xs=false->xs=ys
 | [],[],_,_=>rfl
 | [],_::_,h,_=>by cases h
 | _::_,[],_,h=>by cases h
 | x::xs,y::ys,h1,h2=>by
  have a:¬ (x<y\/(x=y/\lxB xs ys=true)):=λz=>by rw [vt.mpr z] at h1;cases h1
  have b:¬ (y<x\/(y=x/\lxB ys xs=true)):=λz=>by rw [vt.mpr z] at h2;cases h2
  have e:x=y:=by omega
  subst e
  have a':lxB xs ys=false:=by
   cases g:lxB xs ys with
   | false=>rfl
   | true=>exact absurd (.inr ⟨rfl,g⟩) a
  have b':lxB ys xs=false:=by
   cases g:lxB ys xs with
   | false=>rfl
   | true=>exact absurd (.inr ⟨rfl,g⟩) b
  rw [yH a' b']
theorem yI{α:Type}{p q:α->Bool}:∀{l:List α},(∀x∈l,p x=true->q x=true)->l.countP p<=l.countP q
 | [],_=>g_ _
 | a::l,h=>by
  have ih:=yI (l:=l) λx hx=>h x (q_ _ hx);rw [Lo,Lo];have:=h a (mem_cons_self ..)
  cases e:p a with
  | false=>simp only [false_eq_true,if_false];omega
  | true=>rw [this e];simp only [if_true];omega
theorem yJ{α:Type}{p q:α->Bool}{y:α}(hp:p y=false)(hq:q y=true):∀{l:List α},y∈l->(∀x∈l,p x=true->q x=true)->l.countP p<l.countP q
 | [],hy,_=>by cases hy
 | a::l,hy,h=>by
  have h':∀x∈l,p x=true->q x=true:=λx hx=>h x (q_ _ hx);rw [Lo,Lo]
  rcases mem_cons.mp hy with rfl|z
  .have:=yI h';rw [hp,hq];simp only [false_eq_true,if_false,if_true];omega
  .have ih:=yJ hp hq z h';have:=h a (mem_cons_self ..)
   cases e:p a with
   | false=>simp only [false_eq_true,if_false];omega
   | true=>rw [this e];simp only [if_true];omega
noncomputable def rkL(rows:List (List Int))(i:Nat):Nat:=rows.countP λr=>lxB r (rows.getD i [])
def yK{rows:List (List Int)}{i j:Nat}(hi:i<rows.length)(hj:j<rows.length):lxB (rows.getD i []) (rows.getD j [])=decide (rkL rows i<rkL rows j):=by
 have mem:∀{i},i<rows.length->rows.getD i []∈rows:=λ{i} h=>by
  rw [e_,d_ h];exact Iu h
 have one:∀{i j},i<rows.length->lxB (rows.getD i []) (rows.getD j [])=true->rkL rows i<rkL rows j:=λ{i j} hi e =>
  yJ (p:=λr=>lxB r (rows.getD i [])) (q:=λr=>lxB r (rows.getD j [])) (y:=rows.getD i []) (yG _) e (mem hi) λx _ hx=>De (ys:=rows.getD i []) hx e
 cases e:lxB (rows.getD i []) (rows.getD j []) with
 | true=>rw [decide_eq_true (one hi e)]
 | false =>
  symm;refine decide_eq_false ?_
  cases g:lxB (rows.getD j []) (rows.getD i []) with
  | true=>have:=one hj g;omega
  | false =>
   have z:=yH e g;unfold rkL;rw [z];exact HN _
section
variable {X:Cx}{K:b_}
abbrev Fv(r:List Int):D:=.tup (r.map .int)
theorem yL:∀{prs:List (Addr×List Int)}{us:List Value},bK (prs.map λpr=>V.ref pr.1) us->us=prs.map λpr=>o_ pr.1
 | [],_,.nil=>rfl
 | pr::prs,_,.cons r t=>by
  rw [map_cons,yL t,show _=o_ pr.1 from r]
theorem rM{O:Addr->Prop}{H:Hp}:∀{rows:List (List Int)}{ys:List V},FVs K O H ys (rows.map Fv)->∃prs:List (Addr×List Int),ys=prs.map (λpr=>V.ref pr.1)/\prs.map (·.2)=rows/\∀pr∈prs,¬ O pr.1/\H pr.1=some (.tup (pr.2.map V.int))
 | [],_,.nil=>⟨[],rfl,rfl,nofun⟩
 | r::rows,_,.cons a b=>by
  obtain⟨prs,h1,h2,h3⟩:=rM (rows:=rows) b
  cases a with
  | tup n e f =>
   rw [f.ints] at e;refine⟨(_,r)::prs,by rw [h1];rfl,by rw [<- h2];rfl,λpr hp=>?_⟩
   rcases mem_cons.mp hp with rfl|hp
   .exact⟨n,e⟩
   .exact h3 pr hp
end
def AE(a b:List Nat):(!(JF (S b) (S a) 0 (S b).length 1).isEmpty)=Bm a b:=by
 have e:=zH b a 0;unfold Bm;rw [<- e]
 cases JF (S b) (S a) 0 (S b).length 1 with
 | nil=>rfl
 | cons k r=>exact (decide_eq_true (by omega:(0:Int)<=(k:Int))).symm
section
variable {X:Cx}{K:b_}
noncomputable def Gy(neg:Bool):R2:=λx y H Q=>∃a b,x=.str (S a)/\y=.str (S b)/\Q (.bl (if neg then !Bm a b else Bm a b)) H
def vu:OpR X (compareOp .NotIn) (Gy true):=by
 intro pins s σ H x y v u Q I rx ry h;obtain⟨a,b,rfl,rfl,q⟩:=h;obtain⟨t,rfl⟩:=rx;obtain⟨t',rfl⟩:=ry;exact P.notIn_str ⟨.bl _,H,I,rfl,by rw [AE];exact q⟩
noncomputable def Gz(K:b_)(neg:Bool):R2:=λx y H Q=>rIn K neg x y H Q\/Gy neg x y H Q
def xw(K:b_)(e:X.K=K):OpR X (compareOp .NotIn) (Gz K true):=OpR.or (zV K e) vu
noncomputable def GA(neg:Bool):F2
 | .str a,.str b,Q=>Q (.dat (.bl (if neg then !Bm a b else Bm a b)))
 | a,.lst ds,Q=>(a.fl=true/\ds.all D.fl=true)/\Q (.dat (.bl (if neg then !inD a ds else inD a ds)))
 | a,.tup ds,Q=>(a.fl=true/\ds.all D.fl=true)/\Q (.dat (.bl (if neg then !inD a ds else inD a ds)))
 | _,_,_=>False
def Df{neg:Bool}:LO K (Gz K neg) (GA neg):=by
 intro O H x y a b Q Q' dom fx fy q k;unfold GA at q
 split at q
 .obtain⟨rfl,_⟩:=fx.str;obtain⟨rfl,_⟩:=fy.str;exact .inr ⟨_,_,rfl,rfl,k _ H _ q (Gr.refl _) (.bl _)⟩
 .exact .inl (Cs O H x y _ _ Q Q' dom fx fy q k)
 .exact .inl (Cs O H x y _ _ Q Q' dom fx fy q k)
 .exact q.elim
end
def xx{ns:List Int}(h:ns.length<=1000)(hb:∀n∈ns,n.natAbs<2^64):PyData.layable0 (.list (ns.map .int))=true:=by
 have c:∀l:List Int,JO (l.map .int)=true:=λl=>by
  induction l with
  | nil=>rfl
  | cons a r ih=>show (Ku (.int a) && JO (r.map .int))=true;rw [ih];rfl
 have d:∀l:List Int,Jx (l.map .int)=0:=λl=>by
  induction l with
  | nil=>rfl
  | cons a r ih=>show max (K7 (.int a)) (Jx (r.map .int))=0;rw [ih];rfl
 have w:∀l:List Int,(∀n∈l,n.natAbs<2^64)->KW (l.map .int)<=l.length*66:=λl=>by
  induction l with
  | nil=>intro _;exact Jm _
  | cons a r ih =>
   intro hh;have h1:=ih λn hn=>hh n (q_ _ hn)
   have h2:PyData.weight (.int a)<=64:=by
    show (if a == 0 then 0 else a.natAbs.log2+1)<=64
    by_cases z:a=0
    .subst z;decide
    .rw [if_neg (by simpa using z)];have:a.natAbs.log2<64:=(log2_lt (by omega)).mpr (hh a (mem_cons_self ..));omega
   show PyData.weight (.int a)+1+KW (r.map .int)<=_;rw [length_cons,succ_mul];omega
 have:=w ns hb;unfold PyData.layable0;rw [and_eq_true,and_eq_true]
 refine⟨⟨c ns,decide_eq_true ?_⟩,decide_eq_true ?_⟩
 .show Jx (ns.map .int)+1<=64;rw [d];decide
 .show KW (ns.map .int)<=2^20;omega
section
variable {X:Cx}{K:b_}{ta te:TE}{pa:PA1}{pe:PTE}
noncomputable def AF(K:b_):V->List V->Hp->VK->Prop:=λx xs H Q=>∃(p:Addr) (ns:List Int) (k:Int),x=.ref p/\xs=[.int k]/\SqL K H p (ns.map V.int)/\(ns.length<=1000/\(∀n∈ns,n.natAbs<2^64)/\k∈ns)/\Q (.int (ns.idxOf k:Nat)) H
def AG(K:b_)(e:X.K=K):MtR X "list.index" (AF K):=by
 subst e;intro pins s σ H x xs v us Q I rx rs h;obtain⟨p,ns,k,rfl,rfl,hS,⟨h1,h2,h3⟩,q⟩:=h;cases (show v=o_ p from rx);obtain⟨u,rfl,t,rfl⟩:=fR rs;obtain⟨its,rv,pl,hz⟩:=I.list hS;exact index_list_ints pl.isList (cW rv) (xx h1 h2) h3 ⟨.int _,H,I.tok _,⟨_,rfl⟩,q⟩
noncomputable def Fw(pa:PA1)(pe:PTE):PTE:=λρ Q=>pa ρ λx ρ1=>match cont ρ1 x with
 | some (.lst _)=>pe ρ1 λp ρ2=>(match cont ρ2 x,p with
  | some (.lst ds),.dat (.int k)=>∃ns:List Int,ds=ns.map .int/\(ns.length<=1000/\(∀n∈ns,n.natAbs<2^64)/\k∈ns)/\Q (.dat (.int (ns.idxOf k:Nat))) ρ2
  | _,_=>False)
 | _=>False
def AH(ha:LA1 K ta pa)(he:LE K te pe):LE K (tBM K "list" (AF K) ta (bi te eW)) (Fw pa pe):=λA ρ σ H Q Q' R q k =>
 ha A ρ σ H _ _ R q λv H1 a ρ1 q1 f1 R1 o1=>by
  split at q1
  .rename_i ds0 e1;obtain⟨a0,xs0,rfl,g0,f0⟩:=(R1.cont o1 e1).lst;refine⟨.inl ⟨rfl,xs0,SqL.of g0⟩,he A ρ1 σ H1 _ _ R1 q1 λw H2 p ρ2 q2 f2 o2=>?_⟩;obtain⟨R2,fv⟩:=o2.frz
   split at q2
   .rename_i ds j e2;obtain⟨ns,rfl,hn,q2⟩:=q2;cases (show FV K _ H2 w (.int j) from fv);obtain⟨a1,xs1,e3,g1,g2⟩:=(R2.cont (o1.keeps f2.keeps) e2).lst;cases e3;rw [g2.ints] at g1;exact⟨a0,ns,j,rfl,rfl,SqL.of g1,hn,k _ H2 _ ρ2 q2 (f1.trans f2) ⟨R2,.int _⟩⟩
   .exact q2.elim
  .exact q1.elim
end
section
variable {X:Cx}{K:b_}
noncomputable def yM(K:b_):R2:=λx y H Q=>∃a b ys,x=.ref a/\y=.ref b/\SqT K H a []/\SqT K H b ys/\Q (.ref b) H
def xy:OpR X (binaryOp .Add) (yM X.K):=by
 intro pins s σ H x y v u Q I rx ry h;obtain⟨a,b,ys,rfl,rfl,ha,hb,q⟩:=h;cases rx;cases ry;obtain⟨its,r1,p1,_⟩:=I.tuple ha;obtain⟨its2,r2,p2,_⟩:=I.tuple hb;have e0:its=[]:=r1.nil_iff.mpr rfl;subst e0;obtain⟨⟨cls,dd,data,sl⟩,ho,hc,n,hd⟩:=id p1;obtain⟨⟨cls2,dd2,data2,sl2⟩,ho2,hc2,n2,hd2⟩:=id p2;simp only at hc hd hc2 hd2;subst hc hd hc2 hd2;exact KZ ⟨_,ho,rfl⟩ ⟨_,ho2,rfl⟩ KS seq_tuple_add JL JD (Jr _ _) (tuple_addW0 a b _ _ n n2 dd dd2 sl sl2 rfl) ⟨ho,ho2,.ref b,H,I,rfl,q⟩
noncomputable def xz(K:b_):R2:=λx y H Q=>zR K x y H Q\/yM K x y H Q
def bG(K:b_)(e:X.K=K):OpR X (binaryOp .Add) (xz K):=OpR.or (EU K e) (by subst e;exact xy)
noncomputable def gB:F2
 | .tup a,.tup b,Q=>a.length+b.length<=1000000/\Q (.dat (.tup (a++b)))
 | a,b,Q=>EV a b Q
def aV:LO K (xz K) gB:=by
 intro O H x y a b Q Q' dom fx fy q k;unfold gB at q
 split at q
 .rename_i Q ds es
  cases ds with
  | cons d ds=>exact .inl (yv O H x y _ _ _ Q' dom fx fy ⟨nofun,q⟩ k)
  | nil =>
   obtain⟨p1,xs1,rfl,n1,e1,f1⟩:=fx.tup;obtain⟨p2,xs2,rfl,n2,e2,f2⟩:=fy.tup;cases f1;exact .inr ⟨p1,p2,xs2,rfl,rfl,SqT.of e1,SqT.of e2,k _ H _ q.2 (Gr.refl _) (.tup n2 e2 f2)⟩
 .exact .inl (yv O H x y _ _ _ Q' dom fx fy q k)
end
section
variable {X:Cx}
noncomputable def Fx:Expr->Bool
 | .ListComp ..|.SetComp ..|.DictComp ..=>false
 | _=>true
def oq{o i e:Expr}{p:Pos}{l:Nat}{env:Env}(h:Fx e=true):swapsWithSole [.Subscript o i p] e l env=pure false:=by
 show swapsWith e (some (.Subscript o i p)) l env=pure false;cases e <;> first|rfl|cases h
def qi{o i e:Expr}{p:Pos}{env:Env}:swappedStores [.Subscript o i p] e env=pure none:=rfl
def qj{o i e:Expr}{p:Pos}{te:TE}{g:TG}{pos:Pos}(he:PE X e te)(hg:PG X (.Subscript o i p) g)(hn:Fx e=true:=by rfl):PS X (.Assign [.Subscript o i p] e pos) (wq te g) :=
 tO he hg (oq hn) qi rfl
end
noncomputable def iT(K:b_)(x:Str)(st:Stmt):Prop:=∃(f:Addr) (oc kV dc pm cd ct:Value) (od an:Option Addr) (sl:Array (Option Value)),D_ K mainGlobals x=some (some (.ref f)) /\
 K.lookup f=some ⟨oc,od,.func (Hw x x (cA st) (aS st) (ai st) .none kV dc pm an cd ct),sl⟩/\IA K cd x=true/\C_ K (.ref f)=true
def Dg{K:b_}{x:Str}{st:Stmt}{f:Addr}{oc kV dc pm cd ct:Value}{od an:Option Addr}{sl:Array (Option Value)}(a:D_ K mainGlobals x=some (some (.ref f)))(l:K.lookup f=some ⟨oc,od,.func (Hw x x (cA st) (aS st) (ai st) .none kV dc pm an cd ct),sl⟩)
  (c:IA K cd x=true) (k:C_ K (.ref f)=true):iT K x st:=⟨f,oc,kV,dc,pm,cd,ct,od,an,sl,a,l,c,k⟩
def bL{K:b_}{h:Heap}{mg:Str->Option Value}{x:Str}{st:Stmt}(q:iT K x st)(X:K.In h)(G:h.Ns mainGlobals mg):aY K mg x st:=by
 obtain⟨f,oc,kV,dc,pm,cd,ct,od,an,sl,a,l,c,k⟩:=q;exact .mk' X G a l c k
section
variable {X:Cx}{K:b_}
noncomputable def Fy(i j:Int):Prop:=0<j/\j<18446744073709551616
abbrev Dh:=rI Fy λi j=>.int (i / j)
abbrev Fz:F2:=fI (λ_ j=>0<j/\j<18446744073709551616) λi j=>.int (i / j)
def Di{x y:Int}(h:y.natAbs<18446744073709551616):Builtin.divisionGoesByPylong x y=false:=by
 refine PyProof.noPylong_of_log2 ?_
 by_cases h0:y.natAbs=0
 .rw [h0];decide +kernel
 .have h64:y.natAbs.log2<64:=(log2_lt h0).mpr h;omega
def AI:OpR X (binaryOp .FloorDiv) Dh:=opI λi j _ _ _ _ _ hc q=>by
 have h1:(0:Int)<j:=hc.1;have h2:j<18446744073709551616:=hc.2;exact floordiv_int (by omega) (by rw [fdiv_eq_ediv_of_nonneg i (by omega)];exact q) (.inl (Di (by omega)))
def xA:LO K Dh Fz:=D3 λ_ _ _ _=>.int _
end
section
open PySem.AutoSeq1 (wpAny_loadPart')
open PySem.MeetsSeq PySem.MeetsSeq2 PySem.MeetsSeq3
variable {P:so}{w:World}{A:w_}
end
noncomputable def frzA(ρ:PSt):PSt:=ρ.map (Lw λp=>PV.dat p.d)
section
variable {K:b_}{A:Addr->Prop}{ρ:PSt}{σ:St}{H H':Hp}{O O':Addr->Prop}
def mS{i:Nat}{p:PV}(e:(frzA ρ)[i]?=some (some p)):∃p0,ρ[i]?=some (some p0)/\p=.dat p0.d:=by
 unfold frzA at e;rw [i_] at e
 cases h:ρ[i]? with
 | none=>rw [h] at e;cases e
 | some o =>
  cases o with
  | none=>rw [h] at e;cases e
  | some p0=>rw [h] at e;cases e;exact⟨p0,rfl,rfl⟩
def kE{b:Addr}:¬ Wr (frzA ρ) σ b:=λ⟨i,p,e,o,_⟩=>by
 obtain⟨p0,_,rfl⟩:=mS e;cases o
def Rel.frzA(R:Rel K A ρ σ H):Rel K A (frzA ρ) σ H:=by
 have k:aA (OO A ρ σ) H (OO A (L2.frzA ρ) σ) H:=aA.less λb z=>z.elim .inl λz=>(kE z).elim
 refine⟨by unfold L2.frzA;rw [length_map];exact R.len,λi p e=>?_,λi j p q v e1 e2 o1=>?_,R.dom,λb _ w=>kE w⟩
 .obtain⟨p0,e0,rfl⟩:=mS e;obtain⟨v,s,r⟩:=R.get i p0 e0;refine⟨v,s,?_⟩
  have na:∀a,v=.ref a->p0.isOwn=true->¬ OO A (L2.frzA ρ) σ a:=λa ea oo z=>by
   subst ea
   rcases z with z|z
   .exact R.sep a z ⟨i,p0,e0,oo,s⟩
   .exact kE z
  cases p0 with
  | dat d=>exact FV.keeps k r
  | own ds =>
   obtain⟨a,xs,rfl,g,f⟩:=r;exact .lst (na a rfl rfl) g (f.keeps k)
  | ins c ns ds =>
   obtain⟨a,dx,fs,rfl,g,m,f⟩:=r;exact .obj (na a rfl rfl) g m (f.keeps k)
  | odc ks ds =>
   obtain⟨a,kvs,rfl,g,m,f⟩:=r;exact .dic (na a rfl rfl) g m (f.keeps k)
 .obtain⟨p0,_,rfl⟩:=mS e1;cases o1
def FV.flat{v:V}{d:D}(h:FV K O H v d)(f:d.fl=true):FV K O' H' v d:=by
 cases h with
 | non=>exact .non
 | bl b=>exact .bl b
 | int i=>exact .int i
 | str l hl=>exact .str l hl
 | ty _=>cases f
 | scr _=>cases f
 | lst _ _ _=>cases f
 | tup _ _ _=>cases f
 | dic _ _ _ _=>cases f
 | fdc _ _ _ _=>cases f
 | obj _ _ _ _=>cases f
 | exc0 _ _=>cases f
 | exc1 _ _ _ _ _ _=>cases f
inductive Cp (K:b_) (O:Addr->Prop) (H0 H:Hp):List Addr->List (List D)->Prop
 | nil:Cp K O H0 H [] []
 | cons {a:Addr}{xs:List V}{r:List D}{as:List Addr}{rows:List (List D)}:H a=some (.lst xs)->FVs K O H0 xs r->Cp K O H0 H as rows->Cp K O H0 H (a::as) (r::rows)
theorem Cp.length{H0:Hp}:∀{as:List Addr}{rows:List (List D)},Cp K O H0 H as rows->as.length=rows.length
 | _,_,.nil=>rfl
 | _,_,.cons _ _ t=>by rw [length_cons,length_cons,t.length]
theorem Cp.app{H0:Hp}{a:Addr}{xs:List V}{r:List D}(h1:H a=some (.lst xs))(h2:FVs K O H0 xs r):∀{as:List Addr}{rows:List (List D)},Cp K O H0 H as rows->Cp K O H0 H (as++[a]) (rows++[r])
 | _,_,.nil=>.cons h1 h2 .nil
 | _,_,.cons p q t=>.cons p q (Cp.app h1 h2 t)
theorem Cp.get{H0:Hp}:∀{as:List Addr}{rows:List (List D)}{n:Nat}{r:List D},Cp K O H0 H as rows->rows[n]?=some r->∃a xs,as[n]?=some a/\H a=some (.lst xs)/\FVs K O H0 xs r
 | _,_,n,_,.nil,e=>by simp at e
 | _,_,0,_,.cons p q t,e=>by simp at e;subst e;exact⟨_,_,rfl,p,q⟩
 | _,_,n+1,r,.cons p q t,e=>by
  obtain⟨a,xs,h1,h2,h3⟩:=Cp.get (n:=n) (r:=r) t (by simpa using e);exact⟨a,xs,by simpa using h1,h2,h3⟩
theorem Cp.mono{H0:Hp}:∀{as:List Addr}{rows:List (List D)},(∀a∈as,∀o,H a=some o->H' a=some o)->Cp K O H0 H as rows->Cp K O H0 H' as rows
 | _,_,_,.nil=>.nil
 | _,_,k,.cons p q t=>.cons (k _ mem_cons_self _ p) q (t.mono λa ha=>k a (q_ _ ha))
theorem Cp.dom{H0:Hp}:∀{as:List Addr}{rows:List (List D)},Cp K O H0 H as rows->∀a∈as,∃o,H a=some o
 | _,_,.nil,_,h=>nomatch h
 | _,_,.cons p q t,a,h=>by
  rcases mem_cons.mp h with rfl|h
  .exact⟨_,p⟩
  .exact t.dom a h
theorem Cp.put{H0:Hp}{a:Addr}{xs:List V}{r:List D}(h2:FVs K O H0 xs r):∀{as:List Addr}{rows:List (List D)}{n:Nat},as.Nodup->as[n]?=some a->Cp K O H0 H as rows->Cp K O H0 (upd H a (.lst xs)) as (rows.set n r)
 | _,_,n,_,e,.nil=>by simp at e
 | _,_,0,nd,e,.cons p q t=>by
  simp at e;subst e;exact .cons aw h2 (t.mono λb hb o z=>by rw [ak (λe=>(Iz.mp nd).1 (by rw [<- e];exact hb))];exact z)
 | _,_,n+1,nd,e,.cons p q t=>by
  rw [IX] at e;exact .cons (by rw [ak (λz=>(Iz.mp nd).1 (by rw [z];exact B_ e))];exact p) q (Cp.put h2 (Iz.mp nd).2 e t)
theorem Cp.fvs{H0:Hp}(g:Gr H0 H)(ho:∀b,O' b->O b\/H0 b=none):∀{as:List Addr}{rows:List (List D)},(∀a∈as,¬ O' a)->Cp K O H0 H as rows->FVs K O' H (as.map V.ref) (rows.map D.lst)
 | _,_,_,.nil=>.nil
 | _,_,k,.cons p q t=>.cons (.lst (k _ mem_cons_self) p (q.keeps λb o n e=>⟨λz=>(ho b z).elim n (λz=>by rw [z] at e;cases e),g b o e⟩)) (t.fvs g ho λa ha=>k a (q_ _ ha))
inductive fL:List D->List (List D)->Prop
 | nil:fL [] []
 | cons {d:D}{r:List D}{ds:List D}{rows:List (List D)}:fW d r->fL ds rows->fL (d::ds) (r::rows)
theorem fL.length:∀{ds:List D}{rows:List (List D)},fL ds rows->ds.length=rows.length
 | _,_,.nil=>rfl
 | _,_,.cons _ t=>by rw [length_cons,length_cons,t.length]
theorem fL.get:∀{ds:List D}{rows:List (List D)}{n:Nat}{d:D},fL ds rows->ds[n]?=some d->∃r,rows[n]?=some r/\fW d r
 | _,_,n,_,.nil,e=>by simp at e
 | _,_,0,_,.cons p t,e=>by simp at e;subst e;exact⟨_,rfl,p⟩
 | _,_,n+1,d,.cons p t,e=>by
  obtain⟨r,h1,h2⟩:=fL.get (n:=n) (d:=d) t (by simpa using e);exact⟨r,by simpa using h1,h2⟩
def FV.sq{v:V}{d:D}{ds:List D}(h:FV K O H v d)(s:fW d ds):∃(k:Bool) (a:Addr) (xs:List V),v=.ref a/\H a=some (if k then .tup xs else .lst xs)/\FVs K O H xs ds:=by
 rcases s with rfl|rfl
 .cases h with
  | lst n e f=>exact⟨false,_,_,rfl,e,f⟩
 .cases h with
  | tup n e f=>exact⟨true,_,_,rfl,e,f⟩
def vv{y:Nat}{v:V}{ds:List D}{rows:List (List D)}{Q:VK}(hv:σ[y]?=some (some v))(fv:∃(k:Bool) (a:Addr) (xs:List V),v=.ref a/\H a=some (if k then .tup xs else .lst xs)/\FVs K O H xs ds)(hr:fL ds rows)(hl:ds.length<=1000)
  (k:∀(D:Addr) (as:List Addr) (H1:Hp),Gr H H1->H D=none->as.Nodup->(∀a∈as,H a=none/\a≠D)->H1 D=some (.lst (as.map V.ref))->Cp K O H H1 as rows->Q (.ref D) H1) :
  nR [none] (lv K (bC y)) (bN 0) iS (tCB (gW K) (bi (bC 0) eW)) σ H Q:=by
 obtain⟨kd,p,vs,rfl,ep,fvs⟩:=fv
 have hsq:∀H',Gr H H'->Sq kd K H' p vs:=λH' g=>by
  have:=g _ _ ep
  cases kd with
  | false=>exact SqL.of this
  | true=>exact SqT.of this
 refine⟨_,hv,.inl ⟨kd,p,vs,rfl,hsq H λ_ _ e=>e,λD hD=>?_⟩⟩
 refine wW (k:=kd) (K:=K) (a:=p) (xs:=vs) (λi ys τ H1=>(∃t0,τ=[t0])/\∃as:List Addr,ys=as.map V.ref/\as.length=i/\Gr H H1/\as.Nodup/\(∀a∈as,H a=none/\a≠D)/\H1 D=some (.lst ys)/\Cp K O H H1 as (rows.take i)) ⟨⟨none,rfl⟩,[],rfl,rfl,Gr.new hD,.nil,(λa ha=>nomatch ha),aw,.nil⟩ (λi ys τ H1 _ z=>by obtain⟨_,as,_,_,g,_⟩:=z;exact hsq H1 g) ?_ ?_
 .rintro i x ys τ H1 hi ⟨⟨t0,rfl⟩,as,rfl,ha,g,nd,fr,eD,cp⟩ K1 K2 k1 k2;obtain⟨dx,hdx,fx⟩:=fvs.get hi;obtain⟨r,hri,sr⟩:=hr.get hdx;obtain⟨kr,q,xs,rfl,eq,fq⟩:=fx.sq sr;have hil:i<ds.length:=(h_.mp hdx).1;show ∃v,_/\_
  refine⟨.ref q,rfl,q,xs,rfl,?_,λl hl=>?_⟩
  .cases kr with
   | false=>exact .inl (SqL.of (g _ _ eq))
   | true=>exact .inr (SqT.of (g _ _ eq))
  .have hlD:l≠D:=λz=>by rw [z,eD] at hl;cases hl
   have hlH:H l=none:=by
    cases e:H l with
    | none=>rfl
    | some o=>rw [g _ _ e] at hl;cases hl
   have hla:l∉as:=λz=>by
    obtain⟨o,e⟩:=cp.dom l z;rw [e] at hl;cases hl
   refine k1 _ _ _ (by rw [ak (HL hlD)];exact eD) (s_ (show _<1000000 by rw [length_map];omega) (sz _ (g_ _))) ⟨⟨_,rfl⟩,as++[l],by rw [map_append];rfl,by rw [length_append,ha];rfl,λb o e=>?_,?_,λa h=>?_,aw,?_⟩
   .rw [ak (λz=>by rw [z,hD] at e;cases e),ak (λz=>by rw [z,hlH] at e;cases e)];exact g b o e
   .rw [JQ];exact⟨nd,Iz.mpr ⟨(λh=>nomatch h),.nil⟩,λx hx y hy z=>hla (by rw [<- vx.mp hy,<- z];exact hx)⟩
   .rcases HA.mp h with h|h
    .exact fr a h
    .rw [vx.mp h];exact⟨hlH,hlD⟩
   .rw [Jo,hri];have ne:∀a,a∈as->a≠D:=λa h=>(fr a h).2;exact Cp.app (by rw [ak hlD,aw]) fq (cp.mono λa h o z=>by rw [ak (ne a h),ak (λz=>hla (by rw [<- z];exact h))];exact z)
 .rintro ys τ H1 ⟨_,as,rfl,ha,g,nd,fr,eD,cp⟩;rw [take_of_length_le (by rw [fvs.length,hr.length];exact g_ _)] at cp;exact k D as H1 g hD nd fr eD cp
structure Opn (K:b_) (A:Addr->Prop) (ρ:PSt) (σ:St) (H:Hp) (D:Addr) (as:List Addr) (H1:Hp) (rows:List (List L2.D)):Prop where
 gr:Gr H H1
 hD:H D=none
 nd:as.Nodup
 fr:∀a∈as,H a=none/\a≠D
 eD:H1 D=some (.lst (as.map V.ref))
 cp:Cp K (OO A ρ σ) H H1 as rows
def Opn.out{Da:Addr}{as:List Addr}{H1:Hp}{rows:List (List D)}(o:Opn K A ρ σ H Da as H1 rows)(R:Rel K A ρ σ H):Out K A ρ σ H H1 (.own (rows.map D.lst)) (.ref Da) :=
 pK.out R o.gr ⟨Da,as.map V.ref,rfl,o.hD,o.eD,o.cp.fvs o.gr (λb z=>z.elim .inl λz=>.inr (by rw [z];exact o.hD)) λa ha z=>z.elim (R.oo (o.fr a ha).1) (o.fr a ha).2⟩
abbrev opv(ρ:PSt)(x:Nat)(rows:List (List D)):PSt:=frzA (ρ.set x (some (.own (rows.map D.lst))))
noncomputable def AJ(ρ:PSt)(x:Nat)(pe pi pj:PTE)(rows:List (List D))(Q:List (List D)->Prop):Prop :=
 pe (opv ρ x rows) λv _=>v.d.fl=true/\pi (opv ρ x rows) λvi _=>(match vi with
  | .dat (.int i)=>∃n row,ixN rows.length i=some n/\rows[n]?=some row/\pj (opv ρ x rows) λvj _=>(match vj with
   | .dat (.int j)=>∃m,ixN row.length j=some m/\Q (rows.set n (row.set m v.d))
   | _=>False)
  | _=>False)
def AK{te ti tj:TE}{pe pi pj:PTE}(he:LE K te pe)(hi:LE K ti pi)(hj:LE K tj pj){x:Nat}{Da:Addr}{as:List Addr}{H1:Hp}{rows:List (List D)}{E:tG}{Q:List (List D)->Prop}(R:Rel K A ρ σ H)(hx:x<σ.length)(o:Opn K A ρ σ H Da as H1 rows)
  (q:AJ ρ x pe pi pj rows Q) (k:∀H2 rows',Q rows'->Opn K A ρ σ H Da as H2 rows'->E.nx (σ.set x (some (.ref Da))) H2) :
  wq te (DY (tOp (sH K) (bC x) ti) tj ua) E (σ.set x (some (.ref Da))) H1:=by
 have gx:(σ.set x (some (V.ref Da)))[x]?=some (some (.ref Da)):=n_ hx;have rel:Rel K A (opv ρ x rows) (σ.set x (some (.ref Da))) H1:=(o.out R).put.1.frzA;have gro:∀{ρ':PSt}{H2 H3:Hp},Fr (opv ρ x rows) (σ.set x (some (.ref Da))) H2 ρ' H3->Gr H2 H3:=λf b o e=>f.kp b o kE e;refine he A _ _ H1 _ _ rel q λv H2 p ρ2 q2 f2 o2=>?_;obtain⟨hfl,q2⟩:=q2;have fv:=o2.frz.2;have g2:Gr H1 H2:=gro f2
 refine⟨.ref Da,gx,hi A _ _ H2 _ _ (rel.gr g2) q2 λvi H3 p3 ρ3 q3 f3 o3=>?_⟩;have g3:Gr H2 H3:=gro f3
 split at q3
 .rename_i i;obtain⟨n,row,hn,hrow,q3⟩:=q3;cases o3.2;obtain⟨a,xs,ha,_,_⟩:=o.cp.get hrow;have hl:(as.map V.ref).length=rows.length:=by rw [length_map,o.cp.length]
  refine .inl ⟨Da,as.map V.ref,i,.ref a,rfl,rfl,SqL.of (g3 _ _ (g2 _ _ o.eD)),?_,hj A _ _ H3 _ _ ((rel.gr g2).gr g3) q3 λvj H4 p4 ρ4 q4 f4 o4=>?_⟩
  .unfold atI;rw [hl,hn];show (as.map V.ref)[n]?=_;rw [i_,ha];rfl
  .have g4:Gr H3 H4:=gro f4
   split at q4
   .rename_i j;obtain⟨m,hm,q4⟩:=q4;cases o4.2;obtain⟨a',xs,ha',hxs,fxs⟩:=o.cp.get hrow;rw [ha] at ha';cases ha';have g14:Gr H1 H4:=λb o e=>g4 _ _ (g3 _ _ (g2 _ _ e))
    refine⟨a,xs,j,m,rfl,rfl,g14 _ _ hxs,by rw [fxs.length];exact hm,k _ _ q4 ⟨λb u e=>?_,o.hD,o.nd,o.fr,?_,?_⟩⟩
    .have:b≠a:=λz=>by rw [z,(o.fr a (B_ ha)).1] at e;cases e
     rw [ak this];exact g14 _ _ (o.gr _ _ e)
    .rw [ak (HL (o.fr a (B_ ha)).2)];exact g14 _ _ o.eD
    .exact Cp.put (FVs.set (fv.flat hfl) m fxs) o.nd ha (o.cp.mono λb _ u e=>g14 _ _ e)
   .exact q4.elim
 .exact q3.elim
noncomputable def FA(x y:Nat)(pe pi pj:PTE):PTS:=λE ρ=>∃p ds rows,ρ[y]?=some (some p)/\x<ρ.length/\fW p.d ds/\fL ds rows/\ds.length<=1000/\AJ ρ x pe pi pj rows λrows'=>E.nx (ρ.set x (some (.own (rows'.map D.lst))))
def AL{y:Nat}{p:PV}{ds:List D}{rows:List (List D)}{Q:VK}(R:Rel K A ρ σ H)(hy:ρ[y]?=some (some p))(sq:fW p.d ds)(hr:fL ds rows)(hl:ds.length<=1000)(k:∀Da as H1,Opn K A ρ σ H Da as H1 rows->Q (.ref Da) H1) :
  nR [none] (lv K (bC y)) (bN 0) iS (tCB (gW K) (bi (bC 0) eW)) σ H Q:=by
 obtain⟨v,hv,r⟩:=R.get y p hy;refine vv hv ?_ hr hl λDa as H1 g hD nd fr eD cp=>k Da as H1 ⟨g,hD,nd,fr,eD,cp⟩
 cases p with
 | dat d=>exact FV.sq r sq
 | own es =>
  obtain⟨a,xs,rfl,e,f⟩:=r
  rcases sq with sq|sq
  .cases sq;exact⟨false,a,xs,rfl,e,f⟩
  .cases sq
 | ins c ns es=>rcases sq with sq|sq <;> cases sq
 | odc ks es=>rcases sq with sq|sq <;> cases sq
def Dj{fs:List Nat}{te ti tj:TE}{pe pi pj:PTE}{tr:TS}{pr:PTS}{x y:Nat}(hx:fs.contains x=false)(he:LE K te pe)(hi:LE K ti pi)(hj:LE K tj pj)(hr:LS K fs tr pr) :
  LS K fs (yh (wq (nR [none] (lv K (bC y)) (bN 0) iS (tCB (gW K) (bi (bC 0) eW))) (bN x)) (yh (wq te (DY (tOp (sH K) (bC x) ti) tj ua)) tr)) (fk (FA x y pe pi pj) pr):=λfx A R H0 ρ σ H D D' hf r F q k1 k2 k3 k4=>by
 obtain⟨p,ds,rows,hy,hxl,sq,ho,hl,q⟩:=q;unfold yh;unfold wq;refine AL r hy sq ho hl λDa as H1 o=>?_;unfold bN;refine AK (E:={ D' with nx:=_ }) he hi hj r (by rw [<- r.len];exact hxl) o q λH2 rows' q2 o2=>?_;have ot:=(o2.out r).h0 F.dm;exact hr fx A R H0 _ _ H2 _ _ hf ot.put.1 ((F.fr o2.gr.fr).put hf hx ot.put.2) q2 k1 k2 k3 k4
end
noncomputable def dE(ks:List Key)(ds:List D)(k:Key):Option D:=((ks.zip ds).find? λp=>decide (p.1=k)).map (·.2)
section
variable {X:Cx}{K:b_}{O:Addr->Prop}{H:Hp}{ta td te:TE}{pa:PA1}{pe:PTE}
theorem kF(k:Key):∀{kvs:List (Key×V)}{ks:List Key}{ds:List D},kvs.map v_=ks->FVs K O H (kvs.map Hv) ds ->
  (nr kvs k=none/\dE ks ds k=none)\/∃v d,nr kvs k=some v/\dE ks ds k=some d/\FV K O H v d
 | [],_,_,rfl,.nil=>.inl ⟨rfl,rfl⟩
 | p::r,_,_,rfl,.cons (d:=d) (ds:=ds) a b=>by
  have u:∀ds',dE ((p::r).map v_) (d::ds') k=if p.1=k then some d else dE (r.map v_) ds' k:=λds'=>by
   unfold dE;rw [map_cons,zip_cons_cons,IW]
   by_cases e:p.1=k
   .rw [if_pos e,decide_eq_true e];rfl
   .rw [if_neg e,decide_eq_false e]
  by_cases e:p.1=k
  .exact .inr ⟨p.2,d,jT e,by rw [u,if_pos e],a⟩
  .rw [jU e,u,if_neg e];exact kF k rfl b
end
def hu1{u:Nat}(h:u+64<cLine):u+1<cLine:=by omega
section
variable {X:Cx}{K:b_}{te tk:TE}{pe pk:PTE}{fs:List Nat}
noncomputable def yN(f:Int->Int->Int)(i:Nat)(pk pe:PTE):PTS:=λD ρ=>match ρ[i]? with
 | some (some (.own _))=>pk ρ λkp ρ1=>(match ρ1[i]?,kp with
  | some (some (.own ds)),.dat (.int k)=>∃j a,ixN ds.length k=some j/\ds[j]?=some (.int a)/\pe ρ1 λp ρ2=>(match ρ2[i]?,p with
   | some (some (.own ds2)),.dat (.int b)=>ds2=ds/\D.nx (ρ2.set i (some (.own (ds.set j (.int (f a b))))))
   | _,_=>False)
  | _,_=>False)
 | _=>False
def kG(K:b_)(e:X.K=K):FS X (D1 K):=by
 subst e;intro pins s σ H x y v u Q I rx ry h;obtain⟨p,xs,i,z,rfl,rfl,hq,he,q⟩:=h;cases rx;obtain⟨t,rfl⟩:=ry;obtain⟨its,r,pl,hz⟩:=I.list hq;obtain⟨j,h1,h2,h3,h4,h5⟩:=mx he;obtain⟨w,ew,rw'⟩:=r.get h2;have hl:=r.length;have hn:=j7;have fin:EP X pins σ Q w s:=⟨z,H,I,rw',q⟩
 by_cases h0:0<=i
 .have hj:i.toNat=j:=by
   rw [Li h0 h5] at h1;exact we h1
  exact wpAny_getItem_list pl.isList h0 (by omega) (by rw [hj];simpa using ew) fin
 .have hj:(i+(its.toArray.size:Int)).toNat=j:=by
   rw [K0 (by omega) h4] at h1;rw [size_toArray,<- hl];exact we h1
  exact wpAny_getItem_list_neg pl.isList (by omega) (by rw [size_toArray] <;> omega) (by omega) (by rw [hj];simpa using ew) fin
def qk{f:Int->Int->Int}{i:Nat}(hk:LE K tk pk)(h:LE K te pe):LS K fs (BH (bC i) tk te (D1 K) (ipI f) ua) (yN f i pk pe):=λfx A R H0 ρ σ H D D' hf r F q k1 k2 k3 k4=>by
 unfold yN at q
 split at q
 .rename_i ds0 e0;obtain⟨a0,xs0,s0,g0,f0⟩:=r.ownAt e0;refine⟨_,s0,hk A ρ σ H _ _ r q λw H1 kp ρ1 q1 f1 o1=>?_⟩
  split at q1
  .rename_i ds k e1;obtain⟨j,a,hj,ha,q1⟩:=q1;obtain⟨R1,fw⟩:=o1;cases fw;obtain⟨a1,xs,s,g,fx1⟩:=R1.ownAt e1;rw [s0] at s;cases s;obtain⟨va,hva,fva⟩:=fx1.getD ha;cases fva
   refine⟨a0,xs,k,.int a,rfl,rfl,SqL.of g,?_,h A ρ1 σ H1 _ _ R1 q1 λu H2 p ρ2 q2 f2 o2=>?_⟩
   .unfold atI;rw [fx1.length,hj];exact hva
   .split at q2
    .rename_i ds2 b e2;obtain⟨rfl,q2⟩:=q2;obtain⟨R2,fu⟩:=o2;cases fu;obtain⟨a2,xs2,s2,g2,fx2⟩:=R2.ownAt e2;rw [s0] at s2;cases s2;obtain⟨R3,f3⟩:=R2.lstw e2 s0 (FVs.set (FV.int (f a b)) j fx2);exact⟨a,b,rfl,rfl,a0,xs2,k,j,rfl,rfl,g2,by rw [fx2.length];exact hj,k1 _ _ _ q2 R3 (((F.fr f1).fr f2).fr f3)⟩
    .exact q2.elim
  .exact q1.elim
 .exact q.elim
end
section
variable {K:b_}{A O O':Addr->Prop}{fx:List (Nat×V)}{R:Addr->Prop}{H0 H0' H H':Hp}{ρ ρ':PSt}{σ:St}{x:Nat}{Da:Addr}{as:List Addr}{rows:List (List D)}
noncomputable def cl(x:Nat)(ρ:PSt):Option (List (List D))->PSt
 | none=>ρ
 | some rows=>ρ.set x (some (.own (rows.map D.lst)))
def vw(x:Nat)(ρ:PSt):cl x ρ none=ρ:=rfl
def vy(x:Nat)(ρ:PSt)(rows:List (List D)):cl x ρ (some rows)=ρ.set x (some (.own (rows.map D.lst))):=rfl
def i5{i j:Nat}{p:PV}(e:(ρ.set i none)[j]?=some (some p)):j≠i/\ρ[j]?=some (some p):=by
 by_cases z:i=j
 .subst z
  by_cases h:i<ρ.length
  .rw [n_ h] at e;cases e
  .rw [z_ (by rw [length_set];omega)] at e;cases e
 .rw [j_ z] at e;exact⟨λq=>z q.symm,e⟩
end
section
variable {K:b_}{A:Addr->Prop}{fx:List (Nat×V)}{R:Addr->Prop}{H0 H:Hp}{ρ:PSt}{σ:St}
noncomputable def mvd(ρ:PSt)(g r:Nat)(ds:List D):PSt:=(ρ.set r (some (.own ds))).set g none
def yO(ρ:PSt)(g r:Nat)(ds:List D):mvd ρ g r ds=(ρ.set r (some (.own ds))).set g none:=rfl
end
theorem iH:∀{M:Nat}{l:List Nat},l.Nodup->(∀x∈l,x<M)->l.length<=M
 | 0,l,_,h=>by
  cases l with
  | nil=>exact g_ _
  | cons x r=>exact absurd (h x mem_cons_self) (HZ _)
 | M+1,l,nd,h=>by
  by_cases c:M∈l
  .have h1:=iH (M:=M) (nd.erase M) (λx hx=>by
    have:=h x (mem_of_mem_erase hx);have hne:x≠M:=(nd.mem_erase_iff.mp hx).1;omega)
   rw [length_erase_of_mem c] at h1;omega
  .have:=iH (M:=M) nd (λx hx=>by
    have:=h x hx;have:x≠M:=λe=>c (e ▸ hx);omega)
   omega
theorem mT:∀{l m:List Nat},l.Nodup->(∀x∈l,x∈m)->m.length=l.length->m.Perm l
 | [],m,_,_,hl=>by rw [IC.mp hl]
 | x::r,m,nd,h,hl=>by
  obtain⟨nx,nd⟩:=Iz.mp nd;have hx:=h x mem_cons_self;have p1:=perm_cons_erase hx;have ih:=mT (l:=r) (m:=m.erase x) nd (λy hy=>(mem_erase_of_ne (λ(e:y=x)=>nx (by rw [<- e];exact hy))).mpr (h y (q_ _ hy))) (by rw [length_erase_of_mem hx,hl];rfl);exact p1.trans (ih.cons x)
abbrev NrT:=Nat->Option (Int×Int)
abbrev bO:=List (Nat×Int×Int)
def el(R:bO):List Nat:=R.map (·.1)
noncomputable def ma(R:bO)(j:Nat):Bool:=(el R).contains j
def gq{R:bO}{j:Nat}:ma R j=true ↔ j∈el R:=t_
def xB{R:bO}{j:Nat}:ma R j=false ↔ j∉el R:=by
 rw [<- gq];cases ma R j <;> simp
def cE{R:bO}{j:Nat}:j∈el R ↔ ∃d p,(j,d,p)∈R:=by
 unfold el;rw [Hx];exact⟨λ⟨⟨a,d,p⟩,h,e⟩=>by cases e;exact⟨d,p,h⟩,λ⟨d,p,h⟩=>⟨_,h,rfl⟩⟩
def kH(R S:bO):el (R++S)=el R++el S:=map_append
noncomputable def jX(f:Nat->Int)(i:Nat)(v:Int):Nat->Int:=λj=>if j=i then v else f j
def bV{f:Nat->Int}{i:Nat}{v:Int}:jX f i v i=v:=if_pos rfl
def bj{f:Nat->Int}{i j:Nat}{v:Int}(h:j≠i):jX f i v j=f j:=if_neg h
noncomputable def vz(R:bO)(f:NrT)(j:Nat)(st k:Int):Option (Int×Int):=match f j with
 | none=>if ma R j then none else some (st,k)
 | some p=>if ma R j=false/\st<p.1 then some (st,k) else some p
noncomputable def eZ(sl:Nat->Int)(R:bO)(f:NrT)(k:Int)(m:Nat):NrT:=λj=>if j<m then vz R f j (sl j) k else f j
noncomputable def eG(f:NrT)(n:Nat)(mq:Int×Nat):Prop:=mq.2<n/\(∃p,f mq.2=some (mq.1,p))/\∀j,j<n->∀p,f j=some p->mq.1<p.1\/(mq.1=p.1/\mq.2<=j)
def sR{f:NrT}{n:Nat}{a b:Int×Nat}(ha:eG f n a)(hb:eG f n b):a=b:=by
 obtain⟨a1,a2⟩:=a;obtain⟨b1,b2⟩:=b;obtain⟨h1,⟨p,h2⟩,h3⟩:=ha;obtain⟨gSt,⟨q,g2⟩,g3⟩:=hb;have x:=h3 _ gSt _ g2;have y:=g3 _ h1 _ h2;simp only at x y;have e1:a1=b1:=by omega
 have e2:a2=b2:=by omega
 rw [e1,e2]
open Classical in
noncomputable def iI(f:NrT)(n:Nat):Int×Nat:=if h:∃mq,eG f n mq then h.choose else (0,0)
def xC{f:NrT}{n:Nat}{mq:Int×Nat}(h:eG f n mq):iI f n=mq:=by
 unfold iI;rw [dif_pos ⟨mq,h⟩];exact sR (Classical.choose_spec (⟨mq,h⟩:∃mq,eG f n mq)) h
noncomputable def AM(f:NrT)(q:Nat):Int:=((f q).getD (0,0)).2
noncomputable def mU(f:NrT)(q:Nat):NrT:=λj=>if j=q then none else f j
section
variable (n:Nat) (c:Nat->Nat->Int) (g t l:Nat->Int) (s:Nat)
def lG(i j:Nat):Int:=g i+t j - c i j
noncomputable def xD:Nat->NrT->bO->Int->Int->Int->bO
 | 0,_,R,_,_,_=>R
 | m+1,f,R,i,x,k=>if i<0 then R else
   let f':=eZ (λj=>x+g i.toNat+t j - c i.toNat j) R f k n
   xD m (mU f' (iI f' n).2) (R++[((iI f' n).2,(iI f' n).1,AM f' (iI f' n).2)]) (l (iI f' n).2) (iI f' n).1 (iI f' n).2
noncomputable def D7:bO:=xD n c g t l (n+1) (λ_=>none) [] s 0 (-1)
structure ql (s:Nat):Prop where
 c0:∀i j,i<n->j<n->0<=c i j
 up:∀i j,i<n->j<n->c i j<=g i+t j
 ld:∀j,j<n->l j=-1\/(0<=l j/\l j<s)
 tg:∀j,j<n->0<=l j->g (l j).toNat+t j=c (l j).toNat j
 inj:∀i j,i<n->j<n->0<=l i->l i=l j->i=j
 sur:∀i,i<s->∃j,j<n/\l j=i
 t0:∀j,j<n->0<=t j
 fr:∀j,j<n->l j=-1->t j=0
noncomputable def vA(R:bO)(e:Nat×Int×Int):Prop:=(e.2.2=-1/\e.2.1=lG c g t s e.1)\/∃q,q∈R/\e.2.2=q.1/\0<=l q.1/\e.2.1=q.2.1+lG c g t (l q.1).toNat e.1
noncomputable def ScP(R:bO)(r:Nat)(y:Int):Prop:=(r=s/\y=0)\/∃e,e∈R/\l e.1=r/\y=e.2.1
structure ou (Z:List (Nat×Int)) (f:NrT) (R:bO) (i x k:Int):Prop where
 nd:(el R).Nodup
 rn:∀e,e∈R->e.1<n
 fn:∀j,(∃p,f j=some p)->j<n/\j∉el R
 pr:∀R1 e R2,R=R1++e::R2->vA c g t l s R1 e
 pf:∀j p,f j=some p->vA c g t l s R (j,p.1,p.2)
 lr:∀e,e∈R->e.2.1<=x
 lf:∀j p,f j=some p->x<=p.1
 x0:0<=x
 zn:∀z,z∈Z->z.1<n/\∀j,j<n->(∃e,e∈R/\e.1=j/\e.2.1<=z.2+lG c g t z.1 j)\/∃p,f j=some p/\p.1<=z.2+lG c g t z.1 j
 sc:∀r y,ScP l s R r y->(r,y)∈Z\/((r:Int)=i/\y=x)
 at_:(k=-1/\i=s/\x=0/\R=[])\/∃R0 q p,R=R0++[(q,x,p)]/\k=(q:Nat)/\i=l q/\∀e,e∈R0->0<=l e.1
end
variable {n:Nat}{c:Nat->Nat->Int}{g t l:Nat->Int}{s:Nat}
def vA.more{R S:bO}{e:Nat×Int×Int}(h:vA c g t l s R e):vA c g t l s (R++S) e:=h.imp id λ⟨q,h,r⟩=>⟨q,Hm _ h,r⟩
def ou.start(hs:s<n):ou n c g t l s [] (λ_=>none) [] s 0 (-1) where
 nd:=nodup_nil
 rn:=λe h=>by cases h
 fn:=λj ⟨p,h⟩=>by cases h
 pr:=λR1 e R2 h=>by cases R1 <;> cases h
 pf:=λj p h=>by cases h
 lr:=λe h=>by cases h
 lf:=λj p h=>by cases h
 x0:=Iv _
 zn:=λz h=>by cases h
 sc:=λr y h=>by
  rcases h with ⟨rfl,rfl⟩|⟨e,h,_⟩
  .exact .inr ⟨rfl,rfl⟩
  .cases h
 at_:=.inl ⟨rfl,rfl,rfl,rfl⟩
def ql.free(F:ql n c g t l s)(hs:s<n):∃j,j<n/\l j=-1:=by
 refine Kz λz=>?_;have al:∀j,j<n->0<=l j/\l j<s:=λj hj=>(F.ld j hj).resolve_left λe=>z ⟨j,hj,e⟩
 have nd:((gV n).map λj=>(l j).toNat).Nodup:=by
  refine pairwise_map.mpr (KQ (R:=λa b=>a≠b) (λ{a b} ha hb hne he=>?_) nodup_range);rw [Hl] at ha hb;have h1:=al a ha;have h2:=al b hb;exact hne (F.inj a b ha hb h1.1 (by omega))
 have:=iH (M:=s) nd λx hx=>by
  obtain⟨j,hj,rfl⟩:=Hx.mp hx;rw [Hl] at hj;have:=al j hj;omega
 rw [length_map,length_range] at this;omega
def kI{sl:Nat->Int}{R:bO}{f:NrT}{k:Int}{j:Nat}{p:Int×Int}(h:eZ sl R f k n j=some p)(fn:∀j,(∃p,f j=some p)->j<n/\j∉el R) :
  j<n/\j∉el R/\(f j=some p\/p=(sl j,k)):=by
 unfold eZ at h
 by_cases hj:j<n
 .rw [if_pos hj] at h;unfold vz at h
  cases e:f j with
  | none =>
   rw [e] at h;simp only at h
   by_cases hr:ma R j=true
   .rw [if_pos hr] at h;cases h
   .rw [if_neg hr] at h;cases h;exact⟨hj,λz=>hr (gq.mpr z),.inr rfl⟩
  | some q =>
   rw [e] at h;simp only at h;have:=(fn j ⟨q,e⟩).2
   by_cases hr:ma R j=false/\sl j<q.1
   .rw [if_pos hr] at h;cases h;exact⟨hj,this,.inr rfl⟩
   .rw [if_neg hr] at h;cases h;exact⟨hj,this,.inl rfl⟩
 .rw [if_neg hj] at h;exact⟨(fn j ⟨p,h⟩).1,(fn j ⟨p,h⟩).2,.inl h⟩
def vB{sl:Nat->Int}{R:bO}{f:NrT}{k:Int}{j:Nat}(hj:j<n)(hr:j∉el R):∃p,eZ sl R f k n j=some p/\p.1<=sl j/\∀q,f j=some q->p.1<=q.1:=by
 unfold eZ;rw [if_pos hj];have hr':=xB.mpr hr;unfold vz
 cases e:f j with
 | none =>
  simp only;rw [if_neg (by rw [hr'];exact m_)];exact⟨_,rfl,Iv _,λq h=>by cases h⟩
 | some q =>
  simp only
  by_cases h:sl j<q.1
  .rw [if_pos ⟨hr',h⟩];exact⟨_,rfl,Iv _,λq' h'=>by cases h';exact Int.le_of_lt h⟩
  .rw [if_neg λz=>h z.2];exact⟨_,rfl,by omega,λq' h'=>by cases h';exact Iv _⟩
theorem rN{f:NrT}:∀{m:Nat},(∃j p,j<m/\f j=some p)->∃mq,eG f m mq
 | 0,⟨j,_,h,_⟩=>absurd h (HZ _)
 | m+1,⟨j,p,hj,e⟩=>by
  by_cases h:∃j p,j<m/\f j=some p
  .obtain⟨⟨a,q⟩,h1,⟨p1,h2⟩,h3⟩:=rN h
   cases em:f m with
   | none=>exact⟨(a,q),by show q<_;simp only at h1;omega,⟨p1,h2⟩,λj hj p hp=>by
     by_cases c:j=m
     .subst c;rw [em] at hp;cases hp
     .exact h3 j (by omega) p hp⟩
   | some pm =>
    by_cases c:pm.1<a
    .refine⟨(pm.1,m),HX _,⟨pm.2,em⟩,λj hj p hp=>?_⟩
     by_cases c2:j=m
     .subst c2;rw [em] at hp;cases hp;exact .inr ⟨rfl,g_ _⟩
     .have:=h3 j (by omega) p hp;simp only at this ⊢;omega
    .refine⟨(a,q),by show q<_;simp only at h1;omega,⟨p1,h2⟩,λj hj p hp=>?_⟩
     by_cases c2:j=m
     .subst c2;rw [em] at hp;cases hp;simp only at h1 ⊢;omega
     .exact h3 j (by omega) p hp
  .have jm:j=m:=by
    refine Kz λz=>h ⟨j,p,by omega,e⟩
   subst jm
   exact⟨(p.1,j),HX _,⟨p.2,e⟩,λj' hj' p' hp'=>by
    by_cases c:j'=j
    .subst c;rw [e] at hp';cases hp';exact .inr ⟨rfl,g_ _⟩
    .exact absurd ⟨j',p',by omega,hp'⟩ h⟩
def ou.near{Z f R}{i x k:Int}(D:ou n c g t l s Z f R i x k)(F:ql n c g t l s)(hs:s<n)(h0:0<=i){sl:Nat->Int}:∃mq,eG (eZ sl R f k n) n mq:=by
 obtain⟨j,hj,ej⟩:=F.free hs;refine rN ⟨j,?_⟩
 have hr:j∉el R:=λz=>by
  obtain⟨d,p,z⟩:=cE.mp z
  rcases D.at_ with ⟨_,_,_,e⟩|⟨R0,q,p2,e,_,e2,e3⟩
  .rw [e] at z;cases z
  .rw [e] at z
   rcases HA.mp z with z|z
   .have:=e3 _ z;simp only at this;omega
   .rw [vx] at z;cases z;omega
 obtain⟨p,e,_⟩:=vB (sl:=sl) (f:=f) (k:=k) hj hr;exact⟨p,hj,e⟩
def ou.row{Z f R}{i x k:Int}(D:ou n c g t l s Z f R i x k)(F:ql n c g t l s)(hs:s<n)(h0:0<=i):i.toNat<n:=by
 rcases D.at_ with ⟨_,e,_⟩|⟨R0,q,p2,e,_,e2,e3⟩
 .omega
 .have:=F.ld q (D.rn _ (by rw [e];exact r_ _ mem_cons_self));omega
def ou.step{Z f R}{i x k:Int}(D:ou n c g t l s Z f R i x k)(F:ql n c g t l s)(hs:s<n)(h0:0<=i){f':NrT}(ef:f'=eZ (λj=>x+g i.toNat+t j - c i.toNat j) R f k n){mq:Int×Nat}(hq:eG f' n mq) :
  ou n c g t l s ((i.toNat,x)::Z) (mU f' mq.2) (R++[(mq.2,mq.1,AM f' mq.2)]) (l mq.2) mq.1 mq.2:=by
 obtain⟨m,q⟩:=mq;obtain⟨h1,⟨p0,h2⟩,h3⟩:=hq;simp only at h1 h2 h3 ⊢;have hp0:AM f' q=p0:=by unfold AM;rw [h2];rfl
 rw [hp0];have hi:i.toNat<n:=D.row F hs h0;have sp:∀{j:Nat}{p:Int×Int},f' j=some p->j<n/\j∉el R/\(f j=some p\/p=(x+g i.toNat+t j - c i.toNat j,k)):=λ{j p} h=>by rw [ef] at h;exact kI h D.fn
 have hqR:q∉el R:=(sp h2).2.1
 have sle:∀{j:Nat},j<n->j∉el R->∃p,f' j=some p/\p.1<=x+lG c g t i.toNat j/\∀q,f j=some q->p.1<=q.1:=λ{j} hj hr=>by
  obtain⟨p,e1,e2,e3⟩:=vB (sl:=λj=>x+g i.toNat+t j - c i.toNat j) (f:=f) (k:=k) hj hr;refine⟨p,by rw [ef];exact e1,?_,e3⟩;unfold lG;have e2:p.1<=x+g i.toNat+t j - c i.toNat j:=e2;omega
 have pre1:∀{j:Nat}{p:Int×Int},f' j=some p->vA c g t l s R (j,p.1,p.2):=λ{j p} h=>by
  rcases (sp h).2.2 with e|e
  .exact D.pf j p e
  .rw [e]
   rcases D.at_ with ⟨e1,e2,e3,e4⟩|⟨R0,q',p2,e1,e2,e3,e4⟩
   .refine .inl ⟨e1,?_⟩;show x+g i.toNat+t j - c i.toNat j=lG c g t s j;unfold lG;rw [e2,e3,toNat_natCast];omega
   .refine .inr ⟨(q',x,p2),by rw [e1];exact r_ _ mem_cons_self,e2,by show 0<=l q';omega,?_⟩;show x+g i.toNat+t j - c i.toNat j=x+lG c g t (l q').toNat j;unfold lG;rw [<- e3];omega
 have sl0:∀j,j<n->0<=lG c g t i.toNat j:=λj hj=>by
  have:=F.up i.toNat j hi hj;unfold lG;omega
 have xm:x<=m:=by
  rcases (sp h2).2.2 with e|e
  .exact D.lf q _ e
  .have:=sl0 q h1;unfold lG at this;have e:=congrArg v_ e;simp only at e;omega
 have dn:∀{j:Nat}{p:Int×Int},mU f' q j=some p->j≠q/\f' j=some p:=λ{j p} h=>by
  unfold mU at h
  by_cases c:j=q
  .rw [if_pos c] at h;cases h
  .rw [if_neg c] at h;exact⟨c,h⟩
 refine⟨?_,?_,?_,?_,?_,?_,?_,by have:=D.x0;omega,?_,?_,?_⟩
 .rw [kH];refine JQ.mpr ⟨D.nd,by simp [el],λa ha b hb e=>?_⟩;have:b=q:=by simpa [el] using hb
  exact hqR (by rw [<- this,<- e];exact ha)
 .intro e he
  rcases HA.mp he with he|he
  .exact D.rn e he
  .rw [vx] at he;rw [he];exact h1
 .rintro j ⟨p,hp⟩;obtain⟨a,b⟩:=dn hp;refine⟨(sp b).1,?_⟩;rw [kH];intro z
  rcases HA.mp z with z|z
  .exact (sp b).2.1 z
  .exact a (by simpa [el] using z)
 .intro R1 e R2 he
  rcases append_eq_append_iff.mp he with ⟨as,e1,e2⟩|⟨bs,e1,e2⟩
  .cases as with
   | nil =>
    rw [HK] at e1;rw [nil_append] at e2;cases e2;rw [e1];exact pre1 h2
   | cons a as =>
    rw [cons_append] at e2;have e3:=(List.cons.inj e2).2;cases as <;> cases e3
  .cases bs with
   | nil =>
    rw [HK] at e1;rw [nil_append] at e2;cases e2;rw [<- e1];exact pre1 h2
   | cons b bs =>
    rw [cons_append] at e2;obtain⟨e3,e4⟩:=List.cons.inj e2;rw [e3];exact D.pr R1 b bs e1
 .intro j p hp;exact (pre1 (dn hp).2).more
 .intro e he
  rcases HA.mp he with he|he
  .have:=D.lr e he;omega
  .rw [vx] at he;rw [he];exact Iv _
 .intro j p hp;have:=h3 j (sp (dn hp).2).1 p (dn hp).2;omega
 .intro z hz
  have keep:∀j,j<n->∀v:Int,(∃p,f' j=some p/\p.1<=v)->(∃e,e∈R++[(q,m,p0)]/\e.1=j/\e.2.1<=v)\/∃p,mU f' q j=some p/\p.1<=v:=λj hj v ⟨p,e,hv⟩=>by
   by_cases c:j=q
   .subst c;rw [h2] at e;cases e;exact .inl ⟨_,r_ _ mem_cons_self,rfl,hv⟩
   .exact .inr ⟨p,by unfold mU;rw [if_neg c];exact e,hv⟩
  rcases mem_cons.mp hz with rfl|hz
  .refine⟨hi,λj hj=>?_⟩
   by_cases cR:j∈el R
   .obtain⟨d,p,hm⟩:=cE.mp cR;have:=D.lr _ hm;have:=sl0 j hj;exact .inl ⟨_,Hm _ hm,rfl,by simp only at *;omega⟩
   .obtain⟨p,e1,e2,_⟩:=sle hj cR;exact keep j hj _ ⟨p,e1,e2⟩
  .obtain⟨a,b⟩:=D.zn z hz;refine⟨a,λj hj=>?_⟩
   rcases b j hj with ⟨e,he,h⟩|⟨p,he,h⟩
   .exact .inl ⟨e,Hm _ he,h⟩
   .obtain⟨p2,e1,_,e3⟩:=sle hj (D.fn j ⟨p,he⟩).2;have:=e3 _ he;exact keep j hj _ ⟨p2,e1,by omega⟩
 .intro r y h
  rcases h with ⟨rfl,rfl⟩|⟨e,he,h⟩
  .rcases D.sc r 0 (.inl ⟨rfl,rfl⟩) with h|⟨h,h'⟩
   .exact .inl (q_ _ h)
   .refine .inl (mem_cons.mpr (.inl ?_));rw [<- h',<- h,toNat_natCast]
  .rcases HA.mp he with he|he
   .rcases D.sc r y (.inr ⟨e,he,h⟩) with h|⟨h,h'⟩
    .exact .inl (q_ _ h)
    .refine .inl (mem_cons.mpr (.inl ?_));rw [<- h',<- h,toNat_natCast]
   .rw [vx] at he;subst he;exact .inr ⟨h.1.symm,h.2⟩
 .refine .inr ⟨R,q,p0,rfl,rfl,rfl,λe he=>?_⟩
  rcases D.at_ with ⟨_,_,_,e1⟩|⟨R0,q',p2,e1,e2,e3,e4⟩
  .rw [e1] at he;cases he
  .rw [e1] at he
   rcases HA.mp he with he|he
   .exact e4 e he
   .rw [vx] at he;rw [he];show 0<=l q';omega
def ou.len{Z f R}{i x k:Int}(D:ou n c g t l s Z f R i x k):R.length<=n:=by
 have:=iH (M:=n) D.nd λj hj=>by
  obtain⟨d,p,h⟩:=cE.mp hj;exact D.rn _ h
 unfold el at this;rw [length_map] at this;exact this
structure yP (n:Nat) (c:Nat->Nat->Int) (g t l:Nat->Int) (s:Nat) (R0:bO) (q:Nat) (x p:Int):Prop where
 nd:(el (R0++[(q,x,p)])).Nodup
 rn:∀e,e∈R0++[(q,x,p)]->e.1<n
 pr:∀R1 e R2,R0++[(q,x,p)]=R1++e::R2->vA c g t l s R1 e
 lr:∀e,e∈R0++[(q,x,p)]->e.2.1<=x
 x0:0<=x
 fr:l q<0
 ld:∀e,e∈R0->0<=l e.1
 sc:∀r y,ScP l s (R0++[(q,x,p)]) r y->r<n/\∀j,j<n->(∃e,e∈R0++[(q,x,p)]/\e.1=j/\e.2.1<=y+lG c g t r j)\/(j∉el (R0++[(q,x,p)])/\x<=y+lG c g t r j)
def ou.way{Z f R}{i x k:Int}(D:ou n c g t l s Z f R i x k)(h:i<0):∃R0 q p,R=R0++[(q,x,p)]/\yP n c g t l s R0 q x p:=by
 rcases D.at_ with ⟨_,e,_⟩|⟨R0,q,p,e,e2,e3,e4⟩
 .omega
 .subst e;refine⟨R0,q,p,rfl,D.nd,D.rn,D.pr,D.lr,D.x0,by omega,e4,λr y hs=>?_⟩
  rcases D.sc r y hs with z|⟨z,_⟩
  .obtain⟨a,b⟩:=D.zn _ z;refine⟨a,λj hj=>(b j hj).imp id λ⟨p,e,h⟩=>⟨(D.fn j ⟨p,e⟩).2,?_⟩⟩;have:=D.lf _ _ e;simp only at h;omega
  .omega
noncomputable def upF(l:Nat->Int)(F:Int)(tg:(Nat->Int)×(Nat->Int))(e:Nat×Int×Int):(Nat->Int)×(Nat->Int) :=
 if 0<=l e.1 then (jX tg.1 e.1 (tg.1 e.1+(F - e.2.1)),jX tg.2 (l e.1).toNat (tg.2 (l e.1).toNat - (F - e.2.1))) else tg
theorem Dl{F:Int}:∀{R:bO}{tg:(Nat->Int)×(Nat->Int)}{j:Nat},(el R).Nodup ->
  (∀e,e∈R->e.1=j->0<=l j->(R.foldl (upF l F) tg).1 j=tg.1 j+(F - e.2.1))/\(j∉el R\/l j<0->(R.foldl (upF l F) tg).1 j=tg.1 j)
 | [],tg,j,_=>⟨λe h=>(by cases h),λ_=>rfl⟩
 | a::R,tg,j,nd=>by
  have nd:(a.1::el R).Nodup:=nd;obtain⟨na,nd⟩:=Iz.mp nd;obtain⟨ih1,ih2⟩:=Dl (F:=F) (R:=R) (tg:=upF l F tg a) (j:=j) nd;rw [foldl_cons]
  have st:(a.1=j->0<=l j->(upF l F tg a).1 j=tg.1 j+(F - a.2.1))/\(a.1≠j\/l j<0->(upF l F tg a).1 j=tg.1 j):=by
   unfold upF
   refine⟨λe h=>?_,λh=>?_⟩
   .subst e;rw [if_pos h];exact bV
   .by_cases c:0<=l a.1
    .rw [if_pos c];refine bj λe=>?_;subst e
     rcases h with h|h
     .exact h rfl
     .omega
    .rw [if_neg c]
  refine⟨λe he ej h=>?_,λh=>?_⟩
  .rcases mem_cons.mp he with rfl|he
   .rw [ih2 (.inl (by rw [<- ej];exact na)),st.1 ej h]
   .rw [ih1 e he ej h,st.2 (.inl λz=>na (by rw [z,<- ej];exact cE.mpr ⟨_,_,he⟩))]
  .rw [ih2 (h.imp (λz y=>z (q_ _ y)) id),st.2 (h.imp (λz y=>z (by rw [<- y];exact mem_cons_self)) id)]
theorem D8{F:Int}:∀{R:bO}{tg:(Nat->Int)×(Nat->Int)}{i:Nat},(el R).Nodup->(∀a b,a∈R->b∈R->0<=l a.1->l a.1=l b.1->a.1=b.1) ->
  (∀e,e∈R->l e.1=i->(R.foldl (upF l F) tg).2 i=tg.2 i - (F - e.2.1))/\((∀e,e∈R->l e.1≠i)->(R.foldl (upF l F) tg).2 i=tg.2 i)
 | [],tg,i,_,_=>⟨λe h=>(by cases h),λ_=>rfl⟩
 | a::R,tg,i,nd,inj=>by
  have nd:(a.1::el R).Nodup:=nd;obtain⟨na,nd⟩:=Iz.mp nd;obtain⟨ih1,ih2⟩:=D8 (F:=F) (R:=R) (tg:=upF l F tg a) (i:=i) nd λx y hx hy=>inj x y (q_ _ hx) (q_ _ hy);rw [foldl_cons]
  have st:(l a.1=i->(upF l F tg a).2 i=tg.2 i - (F - a.2.1))/\(l a.1≠i->(upF l F tg a).2 i=tg.2 i):=by
   unfold upF
   refine⟨λe=>?_,λh=>?_⟩
   .rw [if_pos (by omega)];have:(l a.1).toNat=i:=by omega
    rw [this];exact bV
   .by_cases c:0<=l a.1
    .rw [if_pos c];exact bj λe=>h (by omega)
    .rw [if_neg c]
  refine⟨λe he ej=>?_,λh=>?_⟩
  .rcases mem_cons.mp he with rfl|he
   .rw [ih2 λb hb eb=>?_,st.1 ej];have:=inj e b mem_cons_self (q_ _ hb) (by omega) (by omega);exact na (by rw [this];exact cE.mpr ⟨_,_,hb⟩)
   .rw [ih1 e he ej,st.2 λz=>?_];have:=inj a e mem_cons_self (q_ _ he) (by omega) (by omega);exact na (by rw [this];exact cE.mpr ⟨_,_,he⟩)
  .rw [ih2 λe he=>h e (q_ _ he),st.2 (h a mem_cons_self)]
noncomputable def prv(R:bO)(q:Nat):Int:=((R.find? (·.1 == q)).getD (0,0,-1)).2.2
noncomputable def g6(R:bO)(s:Nat):Nat->(Nat->Int)->Int->(Nat->Int)
 | 0,L,_=>L
 | m+1,L,k=>if k<0 then L else g6 R s m (jX L k.toNat (if 0<=prv R k.toNat then L (prv R k.toNat).toNat else s)) (prv R k.toNat)
theorem iJ:∀{R:bO}{q:Nat}{d p:Int},(el R).Nodup->(q,d,p)∈R->R.find? (·.1 == q)=some (q,d,p)
 | [],_,_,_,_,h=>by cases h
 | a::R,q,d,p,nd,h=>by
  have nd:(a.1::el R).Nodup:=nd;obtain⟨na,nd⟩:=Iz.mp nd
  rcases mem_cons.mp h with rfl|h
  .rw [find?_cons_of_pos (by simp)]
  .rw [find?_cons_of_neg,iJ nd h];have:a.1≠q:=λz=>na (by rw [z];exact cE.mpr ⟨_,_,h⟩);simp [this]
def yQ{R:bO}{q:Nat}{d p:Int}(nd:(el R).Nodup)(h:(q,d,p)∈R):prv R q=p:=by
 unfold prv;rw [iJ nd h];rfl
section
variable (n:Nat) (c:Nat->Nat->Int) (g t l:Nat->Int) (s:Nat)
structure AN (L:Nat->Int) (k:Nat):Prop where
 ld:∀j,j<n->j≠k->L j=-1\/(0<=L j/\L j<s)
 tg:∀j,j<n->j≠k->0<=L j->g (L j).toNat+t j=c (L j).toNat j
 inj:∀i j,i<n->j<n->i≠k->j≠k->0<=L i->L i=L j->i=j
 sur:∀i,i<s->∃j,j<n/\j≠k/\L j=i
 fr:∀j,j<n->j≠k->L j=-1->t j=0
end
def vC{R:bO}{g' t' L:Nat->Int}{R1 R2:bO}{e:Nat×Int×Int}(nd:(el R).Nodup)(rn:∀e,e∈R->e.1<n)(he:R=R1++e::R2)(pr:vA c g t l s R1 e)
  (ti:∀r,(e.2.2=-1/\r=s)\/(∃a,a∈R1/\e.2.2=a.1/\0<=l a.1/\r=(l a.1).toNat)->g' r+t' e.1=c r e.1)
  (H:AN n c g' t' s L e.1) (ag:∀a,a∈R1->L a.1=l a.1) :
  (e.2.2=-1/\(∀j,j<n->jX L e.1 s j=-1\/(0<=jX L e.1 s j/\jX L e.1 s j<s+1))/\(∀j,j<n->0<=jX L e.1 s j->g' (jX L e.1 s j).toNat+t' j=c (jX L e.1 s j).toNat j)
  /\(∀i j,i<n->j<n->0<=jX L e.1 s i->jX L e.1 s i=jX L e.1 s j->i=j)/\(∀i,i<s+1->∃j,j<n/\jX L e.1 s j=i)/\(∀j,j<n->jX L e.1 s j=-1->t' j=0))
 \/∃S1 a S2,R1=S1++a::S2/\e.2.2=a.1/\AN n c g' t' s (jX L e.1 (L a.1)) a.1/\∀b,b∈S1->jX L e.1 (L a.1) b.1=l b.1:=by
 have en:e.1<n:=rn e (by rw [he];exact r_ _ mem_cons_self)
 have ne:∀a,a∈R1->a.1≠e.1:=λa ha z=>by
  rw [he,kH] at nd;exact (JQ.mp nd).2.2 a.1 (cE.mpr ⟨_,_,ha⟩) e.1 mem_cons_self z
 rcases pr with ⟨e1,_⟩|⟨a,ha,e1,e2,_⟩
 .refine .inl ⟨e1,λj hj=>?_,λj hj h0=>?_,λi j hi hj h0 h=>?_,λi hi=>?_,λj hj h=>?_⟩
  .by_cases cj:j=e.1
   .subst cj;rw [bV];exact .inr ⟨by omega,by omega⟩
   .rw [bj cj];exact (H.ld j hj cj).imp id λz=>⟨z.1,by omega⟩
  .by_cases cj:j=e.1
   .subst cj;rw [bV,toNat_natCast];exact ti s (.inl ⟨e1,rfl⟩)
   .rw [bj cj] at h0 ⊢;exact H.tg j hj cj h0
  .by_cases ci:i=e.1 <;> by_cases cj:j=e.1
   .rw [ci,cj]
   .exfalso;rw [ci,bV,bj cj] at h;rcases H.ld j hj cj with z|z <;> omega
   .exfalso;rw [cj,bV,bj ci] at h;rcases H.ld i hi ci with z|z <;> omega
   .rw [bj ci] at h0;rw [bj ci,bj cj] at h;exact H.inj i j hi hj ci cj h0 h
  .by_cases c:i=s
   .exact⟨e.1,en,by rw [bV,c]⟩
   .obtain⟨j,h1,h2,h3⟩:=H.sur i (by omega);exact⟨j,h1,by rw [bj h2];exact h3⟩
  .by_cases cj:j=e.1
   .subst cj;rw [bV] at h;omega
   .rw [bj cj] at h;exact H.fr j hj cj h
 .obtain⟨S1,S2,es⟩:=append_of_mem ha;have an:a.1<n:=rn a (by rw [he];exact Hm _ ha);have La:=ag a ha;have nae:=ne a ha
  have sa:∀b,b∈S1->b.1≠a.1:=λb hb z=>by
   rw [he,kH] at nd;have nd:=(JQ.mp nd).1;rw [es,kH] at nd;exact (JQ.mp nd).2.2 b.1 (cE.mpr ⟨_,_,hb⟩) a.1 mem_cons_self z
  refine .inr ⟨S1,a,S2,es,e1,⟨λj hj ja=>?_,λj hj ja h0=>?_,λi j hi hj ia ja h0 h=>?_,λi hi=>?_,λj hj ja h=>?_⟩,λb hb=>?_⟩
  .by_cases cj:j=e.1
   .subst cj;rw [bV];exact H.ld a.1 an nae
   .rw [bj cj];exact H.ld j hj cj
  .by_cases cj:j=e.1
   .subst cj;rw [bV,La];exact ti _ (.inr ⟨a,ha,e1,e2,rfl⟩)
   .rw [bj cj] at h0 ⊢;exact H.tg j hj cj h0
  .by_cases ci:i=e.1 <;> by_cases cj:j=e.1
   .rw [ci,cj]
   .exfalso;rw [ci,bV] at h0;rw [ci,bV,bj cj] at h;exact ja (H.inj a.1 j an hj nae cj h0 h).symm
   .exfalso;rw [bj ci] at h0;rw [cj,bV,bj ci] at h;exact ia (H.inj i a.1 hi an ci nae h0 h)
   .rw [bj ci] at h0;rw [bj ci,bj cj] at h;exact H.inj i j hi hj ci cj h0 h
  .obtain⟨j,h1,h2,h3⟩:=H.sur i hi
   by_cases c:j=a.1
   .exact⟨e.1,en,λz=>nae z.symm,by rw [bV,<- c,h3]⟩
   .exact⟨j,h1,c,by rw [bj h2];exact h3⟩
  .by_cases cj:j=e.1
   .subst cj;rw [bV,La] at h;omega
   .rw [bj cj] at h;exact H.fr j hj cj h
  .rw [bj (ne b (by rw [es];exact Hm _ hb))];exact ag b (by rw [es];exact Hm _ hb)
theorem rO{R:bO}{g' t':Nat->Int}(nd:(el R).Nodup)(rn:∀e,e∈R->e.1<n)
  (ti:∀R1 e R2,R=R1++e::R2->vA c g t l s R1 e/\∀r,(e.2.2=-1/\r=s)\/(∃a,a∈R1/\e.2.2=a.1/\0<=l a.1/\r=(l a.1).toNat)->g' r+t' e.1=c r e.1)
  (c0:∀i j,i<n->j<n->0<=c i j) (up:∀i j,i<n->j<n->c i j<=g' i+t' j) (t0:∀j,j<n->0<=t' j) :
  ∀(m:Nat) (R1:bO) (e:Nat×Int×Int) (R2:bO) (L:Nat->Int),R=R1++e::R2->R1.length<m->AN n c g' t' s L e.1->(∀a,a∈R1->L a.1=l a.1) ->
   ql n c g' t' (g6 R s m L e.1) (s+1)
 | 0,_,_,_,_,_,h,_,_=>absurd h (HZ _)
 | m+1,R1,e,R2,L,he,hm,H,ag=>by
  have hp:prv R ((e.1:Nat):Int).toNat=e.2.2:=by
   rw [toNat_natCast];exact yQ (d:=e.2.1) nd (by rw [he];exact r_ _ mem_cons_self)
  obtain⟨pr,ti'⟩:=ti R1 e R2 he;unfold g6;rw [if_neg (by omega),hp,toNat_natCast]
  rcases vC nd rn he pr ti' H ag with ⟨e1,h1,h2,h3,h4,h5⟩|⟨S1,a,S2,es,e1,H',ag'⟩
  .rw [e1,if_neg (by omega)]
   have:∀(m:Nat) (L:Nat->Int),g6 R s m L (-1)=L:=λm L=>by
    cases m with
    | zero=>rfl
    | succ m=>unfold g6;rw [if_pos (by omega)]
   rw [this];exact⟨c0,up,h1,h2,h3,h4,t0,h5⟩
  .rw [e1,if_pos (by omega),toNat_natCast];exact rO nd rn ti c0 up t0 m S1 a (S2++e::R2) _ (by rw [he,es,Io];rfl) (by rw [es,length_append,length_cons] at hm;omega) H' ag'
noncomputable def gSt(g:Nat->Int)(s:Nat)(F:Int):Nat->Int:=jX g s (g s - F)
def yP.fit{R0:bO}{q:Nat}{x p:Int}(W:yP n c g t l s R0 q x p)(A:ql n c g t l s)(hs:s<n){m:Nat}(hm:R0.length<m) :
  ql n c ((R0++[(q,x,p)]).foldl (upF l x) (t,gSt g s x)).2 ((R0++[(q,x,p)]).foldl (upF l x) (t,gSt g s x)).1 (g6 (R0++[(q,x,p)]) s m l q) (s+1)
  /\∀i,i<n->0<=((R0++[(q,x,p)]).foldl (upF l x) (t,gSt g s x)).2 i:=by
 have lq:l q=-1:=by
  rcases A.ld q (W.rn _ (r_ _ mem_cons_self)) with h|h
  .exact h
  .have:=W.fr;omega
 have wfr:=W.fr;generalize hR:R0++[(q,x,p)]=R at *;have hnd:(el R).Nodup:=by rw [<- hR];exact W.nd
 have hrn:∀e,e∈R->e.1<n:=by rw [<- hR];exact W.rn
 have hpr:∀R1 e R2,R=R1++e::R2->vA c g t l s R1 e:=by rw [<- hR];exact W.pr
 have hlr:∀e,e∈R->e.2.1<=x:=by rw [<- hR];exact W.lr
 have hsc:∀r y,ScP l s R r y->r<n/\∀j,j<n->(∃e,e∈R/\e.1=j/\e.2.1<=y+lG c g t r j)\/(j∉el R/\x<=y+lG c g t r j):=by rw [<- hR];exact W.sc
 have hq:(q,x,p)∈R:=by rw [<- hR];exact r_ _ mem_cons_self
 have hl:∀e,e∈R->l e.1<0->e.2.1=x:=λe he h=>by
  rw [<- hR] at he
  rcases HA.mp he with he|he
  .have:=W.ld e he;omega
  .rw [vx] at he;rw [he]
 have hinj:∀a b,a∈R->b∈R->0<=l a.1->l a.1=l b.1->a.1=b.1:=λa b ha hb h e=>A.inj a.1 b.1 (hrn a ha) (hrn b hb) h e;have ent:∀e,e∈R->∀j,e.1=j->∃d p,(j,d,p)∈R/\e=(j,d,p):=λe he j ej=>⟨e.2.1,e.2.2,by subst ej;exact he,by subst ej;rfl⟩
 generalize hg:(R.foldl (upF l x) (t,gSt g s x)).2=g';generalize ht:(R.foldl (upF l x) (t,gSt g s x)).1=t'
 -- the prices told
 have tR:∀e,e∈R->t' e.1=t e.1+(x - e.2.1):=λe he=>by
  rw [<- ht]
  by_cases h:0<=l e.1
  .exact (Dl hnd).1 e he rfl h
  .rw [(Dl hnd).2 (.inr (by omega)),hl e he (by omega)];show t e.1=_;omega
 have tN:∀j,j∉el R->t' j=t j:=λj h=>by rw [<- ht];exact (Dl hnd).2 (.inl h)
 have tF:∀j,l j<0->t' j=t j:=λj h=>by rw [<- ht];exact (Dl hnd).2 (.inr h)
 have ls:∀e,e∈R->l e.1≠(s:Int):=λe he z=>by
  rcases A.ld e.1 (hrn e he) with h|h <;> omega
 have gS:g' s=g s - x:=by
  rw [<- hg,(D8 hnd hinj).2 ls];exact bV
 have gR:∀e,e∈R->∀i:Nat,l e.1=i->g' i=g i - (x - e.2.1):=λe he i ei=>by
  rw [<- hg,(D8 hnd hinj).1 e he ei];show jX g s _ i - _=_;rw [bj λz=>ls e he (by rw [ei,z])]
 have gN:∀i,i≠s->(∀e,e∈R->l e.1≠(i:Int))->g' i=g i:=λi h1 h2=>by
  rw [<- hg,(D8 hnd hinj).2 h2];exact bj h1
 -- what a scanned row's price became
 have gSc:∀r y,ScP l s R r y->g' r=g r - (x - y):=λr y h=>by
  rcases h with ⟨rfl,rfl⟩|⟨e,he,h1,h2⟩
  .rw [gS];omega
  .rw [gR e he r h1,h2]
 have scOr:∀i,(∃y,ScP l s R i y)\/(i≠s/\∀e,e∈R->l e.1≠(i:Int)):=λi=>by
  by_cases h:i=s
  .exact .inl ⟨0,.inl ⟨h,rfl⟩⟩
  .by_cases h2:∃e,e∈R/\l e.1=(i:Int)
   .obtain⟨e,he,h2⟩:=h2;exact .inl ⟨e.2.1,.inr ⟨e,he,h2,rfl⟩⟩
   .exact .inr ⟨h,λe he z=>h2 ⟨e,he,z⟩⟩
 have uniq:∀{j d p d' p'},(j,d,p)∈R->(j,d',p')∈R->d=d':=λ{j d p d' p'} h1 h2=>by
  have a:=iJ hnd h1;rw [iJ hnd h2] at a;cases a;rfl
 have up:∀i j,i<n->j<n->c i j<=g' i+t' j:=λi j hi hj=>by
  have u:=A.up i j hi hj
  rcases scOr i with ⟨y,h⟩|⟨h1,h2⟩
  .rw [gSc i y h]
   rcases (hsc i y h).2 j hj with ⟨e,he,ej,hle⟩|⟨hn,hle⟩
   .subst ej;rw [tR e he];unfold lG at hle;omega
   .rw [tN j hn];unfold lG at hle;omega
  .rw [gN i h1 h2]
   by_cases hj2:j∈el R
   .obtain⟨d,p,hm⟩:=cE.mp hj2;have:=tR _ hm;have:=hlr _ hm;simp only at *;omega
   .rw [tN j hj2];exact u
 have t0:∀j,j<n->0<=t' j:=λj hj=>by
  have u:=A.t0 j hj
  by_cases hj2:j∈el R
  .obtain⟨d,p,hm⟩:=cE.mp hj2;have:=tR _ hm;have:=hlr _ hm;simp only at *;omega
  .rw [tN j hj2];exact u
 have tight:∀j,j<n->0<=l j->g' (l j).toNat+t' j=c (l j).toNat j:=λj hj h=>by
  have u:=A.tg j hj h
  by_cases hj2:j∈el R
  .obtain⟨d,p,hm⟩:=cE.mp hj2;have a:=tR _ hm;have b:=gR _ hm (l j).toNat (by show l j=_;omega);simp only at a b;rw [a,b];omega
  .rw [tN j hj2,gN]
   .exact u
   .intro z;rcases A.ld j hj with h|h <;> omega
   .intro e he z;have:=A.inj j e.1 hj (hrn e he) h (by omega);exact hj2 (by rw [this];exact cE.mpr ⟨_,_,he⟩)
 have ti:∀R1 e R2,R=R1++e::R2->vA c g t l s R1 e/\∀r,(e.2.2=-1/\r=s)\/(∃a,a∈R1/\e.2.2=a.1/\0<=l a.1/\r=(l a.1).toNat)->g' r+t' e.1=c r e.1:=λR1 e R2 h=>by
  have hp:=hpr R1 e R2 h;have he:e∈R:=by rw [h];exact r_ _ mem_cons_self
  refine⟨hp,λr hr=>?_⟩;have a:=tR e he
  rcases hr with ⟨z,rfl⟩|⟨b,hb,z1,z2,rfl⟩
  .rcases hp with ⟨_,h2⟩|⟨q',_,h2,_⟩
   .rw [gS,a,h2];unfold lG;omega
   .omega
  .have hbR:b∈R:=by rw [h];exact Hm _ hb
   rcases hp with ⟨h1,_⟩|⟨q',hq',h1,h2,h3⟩
   .omega
   .have e2:q'.1=b.1:=by omega
    obtain⟨qa,qd,qp⟩:=q';obtain⟨ba,bd,bp⟩:=b;simp only at e2 h1 h2 h3 z1 z2 ⊢;subst e2;have hqR:(qa,qd,qp)∈R:=by rw [h];exact Hm _ hq'
    have:=gR _ hqR (l qa).toNat (by show l qa=_;omega);simp only at this;rw [this,a,h3];unfold lG;omega
 refine⟨rO hnd hrn ti A.c0 up t0 m R0 (q,x,p) [] l hR.symm hm ⟨λj hj _=>A.ld j hj,λj hj _ h=>tight j hj h,λi j hi hj _ _ h e=>A.inj i j hi hj h e,λi hi=>?_,λj hj _ h=>?_⟩ λa _=>rfl,λi hi=>?_⟩
 .obtain⟨j,hj,e⟩:=A.sur i hi;exact⟨j,hj,λz=>by rw [z] at e;simp only at e;omega,e⟩
 .rw [tF j (by omega)];exact A.fr j hj h
 .have hqn:=hrn _ hq;have a:=up i q hi hqn;have b:=A.c0 i q hi hqn;have e:t' q=0:=by rw [tF q (by omega)];exact A.fr q hqn lq
  omega
def oz{m:Nat}{f:NrT}{R:bO}{i x k:Int}(h:i<0):xD n c g t l m f R i x k=R:=by
 cases m with
 | zero=>rfl
 | succ m=>unfold xD;rw [if_pos h]
def oA{m:Nat}{f f':NrT}{R:bO}{i x k:Int}(h:0<=i)(ef:f'=eZ (λj=>x+g i.toNat+t j - c i.toNat j) R f k n){mq:Int×Nat}(hq:eG f' n mq) :
  xD n c g t l (m+1) f R i x k=xD n c g t l m (mU f' mq.2) (R++[(mq.2,mq.1,AM f' mq.2)]) (l mq.2) mq.1 mq.2:=by
 rw [xD,if_neg (by omega)];simp only;rw [<- ef,xC hq]
theorem vD(F:ql n c g t l s)(hs:s<n):∀(m:Nat) (Z:List (Nat×Int)) (f:NrT) (R:bO) (i x k:Int),ou n c g t l s Z f R i x k->n<R.length+m ->
  ∃R0 q x' p,xD n c g t l m f R i x k=R0++[(q,x',p)]/\yP n c g t l s R0 q x' p
 | 0,_,_,R,_,_,_,D,h=>absurd D.len (by omega)
 | m+1,Z,f,R,i,x,k,D,h=>by
  by_cases hi:i<0
  .rw [oz hi];obtain⟨R0,q,p,e,W⟩:=D.way hi;exact⟨R0,q,x,p,e,W⟩
  .obtain⟨mq,hq⟩:=D.near F hs (by omega) (sl:=λj=>x+g i.toNat+t j - c i.toNat j);rw [oA (by omega) rfl hq];exact vD F hs m _ _ _ _ _ _ (D.step F hs (by omega) rfl hq) (by rw [length_append];simp only [length_cons,length_nil];omega)
def Dm(F:ql n c g t l s)(hs:s<n):∃R0 q x p,D7 n c g t l s=R0++[(q,x,p)]/\yP n c g t l s R0 q x p :=
 vD F hs (n+1) [] _ [] s 0 (-1) (ou.start hs) (by simp)
abbrev PrT:=(Nat->Int)×(Nat->Int)×(Nat->Int)
noncomputable def vE(R:bO):Nat×Int×Int:=R.getLastD (0,0,-1)
noncomputable def kJ(n:Nat)(c:Nat->Nat->Int)(s:Nat)(S:PrT):PrT :=
 let R:=D7 n c S.1 S.2.1 S.2.2 s
 let tg:=R.foldl (upF S.2.2 (vE R).2.1) (S.2.1,gSt S.1 s (vE R).2.1)
 (tg.2,tg.1,g6 R s (n+1) S.2.2 (vE R).1)
def oB{R:bO}{e:Nat×Int×Int}:vE (R++[e])=e:=by
 unfold vE;rw [getLastD_eq_getLast?,getLast?_append];rfl
def yP.len{R0:bO}{q:Nat}{x p:Int}(W:yP n c g t l s R0 q x p):R0.length+1<=n:=by
 have:=iH (M:=n) W.nd λj hj=>by
  obtain⟨d,p,h⟩:=cE.mp hj;exact W.rn _ h
 unfold el at this;rw [length_map,length_append] at this;exact this
def oE{S:PrT}(A:ql n c S.1 S.2.1 S.2.2 s)(hs:s<n):ql n c (kJ n c s S).1 (kJ n c s S).2.1 (kJ n c s S).2.2 (s+1)/\∀i,i<n->0<=(kJ n c s S).1 i:=by
 obtain⟨R0,q,x,p,e,W⟩:=Dm A hs;have:=W.fit A hs (m:=n+1) (by have:=W.len;omega);unfold kJ;simp only;rw [e,oB];exact this
noncomputable def wz(f:Nat->Int):Nat->Int
 | 0=>0
 | 1=>f 0
 | m+2=>if wz f (m+1)<f (m+1) then f (m+1) else wz f (m+1)
theorem qm{f:Nat->Int}:∀{m j:Nat},j<m->f j<=wz f m
 | 0,_,h=>absurd h (HZ _)
 | 1,j,h=>by
  have:j=0:=by omega
  subst this;exact Iv _
 | m+2,j,h=>by
  unfold wz
  by_cases c:j=m+1
  .subst c;split <;> omega
  .have:=qm (f:=f) (m:=m+1) (j:=j) (by omega);split <;> omega
theorem rP{f:Nat->Int}:∀{m:Nat},0<m->∃j,j<m/\wz f m=f j
 | 0,h=>absurd h (HN _)
 | 1,_=>⟨0,HX _,rfl⟩
 | m+2,_=>by
  unfold wz
  split
  .exact⟨m+1,HX _,rfl⟩
  .obtain⟨j,hj,e⟩:=rP (f:=f) (m:=m+1) (by omega);exact⟨j,by omega,e⟩
noncomputable def bpN(n:Nat)(c:Nat->Nat->Int):Nat->PrT
 | 0=>(λi=>wz (c i) n,λ_=>0,λ_=>-1)
 | s+1=>kJ n c s (bpN n c s)
theorem md(c0:∀i j,i<n->j<n->0<=c i j):∀s,s<=n->ql n c (bpN n c s).1 (bpN n c s).2.1 (bpN n c s).2.2 s
 | 0,_=>⟨c0,λi j hi hj=>by show c i j<=wz (c i) n+0;have:=qm (f:=c i) hj;omega,λj _=>.inl rfl,λj _ h=>absurd (show (0:Int)<=-1 from h) (by omega),
  λi j _ _ h=>absurd (show (0:Int)<=-1 from h) (by omega),λi h=>absurd h (HZ _),λj _=>Iv _,λj _ _=>rfl⟩
 | s+1,h=>(oE (md c0 s (by omega)) (by omega)).1
def Dn(c0:∀i j,i<n->j<n->0<=c i j){i:Nat}(hi:i<n):0<=(bpN n c n).1 i:=by
 cases n with
 | zero=>omega
 | succ s=>exact (oE (md c0 s (by omega)) (by omega)).2 i hi
noncomputable def bpF(n:Nat)(c:Nat->Nat->Int)(i:Nat):Nat:=((gV n).map (bpN n c n).2.2).idxOf (i:Int)
def rQ(c0:∀i j,i<n->j<n->0<=c i j){i:Nat}(hi:i<n):bpF n c i<n/\(bpN n c n).2.2 (bpF n c i)=i:=by
 obtain⟨j,hj,e⟩:=(md c0 n (g_ _)).sur i hi;have hm:(i:Int)∈(gV n).map (bpN n c n).2.2:=Hx.mpr ⟨j,Hl.mpr hj,e⟩;have h:=idxOf_lt_length_of_mem hm;have h':bpF n c i<n:=by rw [length_map,length_range] at h;exact h
 refine⟨h',?_⟩;have:=getElem_idxOf h;rw [getElem_map,getElem_range] at this;exact this
def vF(c0:∀i j,i<n->j<n->0<=c i j):(∀i,i<n->bpF n c i<n/\0<=(bpN n c n).1 i/\0<=(bpN n c n).2.1 i/\(bpN n c n).1 i+(bpN n c n).2.1 (bpF n c i)=c i (bpF n c i)
  /\∀j,j<n->c i j<=(bpN n c n).1 i+(bpN n c n).2.1 j)/\((gV n).map (bpF n c)).Perm (gV n):=by
 have A:=md c0 n (g_ _)
 refine⟨λi hi=>?_,?_⟩
 .obtain⟨h1,h2⟩:=rQ c0 hi;refine⟨h1,Dn c0 hi,A.t0 i hi,?_,λj hj=>A.up i j hi hj⟩;have:=A.tg _ h1 (by omega);rw [h2,toNat_natCast] at this;exact this
 .have nd:((gV n).map (bpF n c)).Nodup:=by
   refine pairwise_map.mpr (KQ (R:=λa b=>a≠b) (λ{a b} ha hb hne he=>?_) nodup_range);rw [Hl] at ha hb;have h1:=(rQ c0 ha).2;have h2:=(rQ c0 hb).2;rw [he,h2] at h1;exact hne (by omega)
  refine (mT nd (λx hx=>?_) (by rw [length_map])).symm;obtain⟨j,hj,rfl⟩:=Hx.mp hx;rw [Hl] at hj ⊢;exact (rQ c0 hj).1
structure iK (k:Nat) (A:w_):Prop where
 dp:A.depth+3*k+5<recursionLimit
 un:A.units+16*k+200<cLine
def fJ.mark{k:Nat}{A:w_}(r:fJ k A)(e:Option Value):iK k (A.mark e):=⟨r.dp,r.un⟩
def iK.mono{j k:Nat}{A:w_}(r:iK k A)(h:j<=k):iK j A:=⟨by have:=r.dp;omega,by have:=r.un;omega⟩
def iK.deeper{k:Nat}{A:w_}(r:iK (k+1) A)(env:Env):iK k (A.deeper env) :=
 ⟨by have:=r.dp;show A.depth+1+3*k+5<_;omega,by have:=r.un;show A.units+3+16*k+200<_;omega⟩
def iK.depth{k:Nat}{A:w_}(r:iK k A):A.depth<recursionLimit:=by have:=r.dp;omega
def iK.units{k:Nat}{A:w_}(r:iK k A):A.units+64<cLine:=by have:=r.un;omega
structure D9 (P:so) (w:World) (K:b_) (mg:Str->Option Value) (base:Heap) (k:Nat) (x:Str) (ps:List Str) (sp:Sp):Prop where
 ex:∃(f:Addr) (fd:H_),(∀vs H Q E,sp vs H Q E->vs.length=ps.length) /\
  (∀(A:w_) (outer:List Env) (s:c_) (H:Hp) (args:Args) (us:List Value) (vs:List V) (Q:VK) (E:XK),iK k A->Bi P w K mg base A outer s H->KB s fd args (ps.zip us)->bK vs us->sp vs H Q E ->
   codeAny (model P w) A (.call (.ref f) args) (CR CX0 outer P w H s Q E) s)/\mn K fd ps []/\C_ K (.ref f)=true/\mg x=some (.ref f)
abbrev cxN(P:so)(w:World)(K:b_)(mg:Str->Option Value)(base:Heap)(N:List Str)(qual:Str)(scope:Scope)(f:Addr)(cd:Value)(A:w_)(outer:List Env)(s:c_)(H:Hp)(E:XK):Cx :=
 { jR CX0 P w K mg base N qual scope f cd A outer s H E with calm:=false }
section
variable {P:so}{w:World}{K:b_}{mg:Str->Option Value}{base:Heap}{x:Str}{st:Stmt}{N ps:List Str}{k:Nat}{sp:Sp}
def aY.okN(D:aY K mg x st)(S:aB N ps (ai st))
  (hb:∀(kV doc pm:Value) (an:Option Addr) (cdv ct:Value) (us:List Value),us.length=ps.length->bindArgs (Hw x x (cA st) (aS st) (ai st) .none kV doc pm an cdv ct) ⟨us,[]⟩=pure (ps.zip us))
  (len:∀vs H Q E,sp vs H Q E->vs.length=ps.length)
  (hbody:∀(f:Addr) (cdv:Value) (A:w_) (outer:List Env) (s:c_) (H:Hp) (vs:List V) (Q:VK) (E:XK),iK k (A.deeper (envOfC x (ai st) s.heap.objs.size f cdv))->sp vs H Q E ->
   ∃t,PSs (cxN P w K mg base N x (ai st) f cdv A outer s H E).nox (aS st) t/\t { nx:=λ_ H'=>Q .non H',rt:=Q } (start N vs) H):D9 P w K mg base (k+1) x ps sp:=by
 obtain⟨f,fd,F,hm⟩:=D.ex;have bd:=F.binds hb;have kp:=F.kp;obtain⟨oc,od,kV,doc,pm,an,cdv,ct,osl,rfl,lk,hcd⟩:=F.ex;refine⟨f,_,len,λA outer s H args us vs Q E hr e0 hb r hsp=>?_,bd,kp,hm⟩;have hl:=len _ _ _ _ hsp;have KX:K.In s.heap:=e0.mod.kin.keeps λb o e=>(e0.bs b o e).1;have lim:s.heap.NoLimit:=e0.mod.nolimit.keeps λb o e=>(e0.bs b o e).1
 have hkind:∀y∈ps.zip us,(ai st).names.lookup y.1=some .local\/((ai st).names.lookup y.1=some .cell/\((cellsFrom (s.heap.objs.size+1) (ai st).names []).lookup y.1).isSome=true):=λ⟨n,v⟩ hy=>by
  rcases S.par n (of_mem_zip hy).1 with q|q
  .exact .inl q
  .exact .inr ⟨q,Im _ _ _ (.inl q)⟩
 refine codeAny_call_function hr.depth (KX _ _ lk) rfl S.co S.gen rfl (PySem.W.codeRec_of KX hcd) (hb _ _ _ _ ?_);refine Ks S.kind hkind λenv he s1 y=>?_;subst he;refine⟨lim.keeps y.toInCall.keep,codeAny_func ?_⟩;obtain⟨t,ht,hq⟩:=hbody f cdv A outer s H vs Q E (hr.deeper _) hsp;have e1:Bi P w K mg base { A with handled:=none } outer s H:=⟨e0.frames,e0.mod,e0.bs,e0.bsz,e0.funs,e0.frf,e0.hok,e0.bare,e0.tb⟩
 have I0:Inv (jR CX0 P w K mg base N x (ai st) f cdv { A with handled:=none } outer s H E) [] (start N vs) H s1:=nH S rfl e1 hl r y
 have I:Inv (cxN P w K mg base N x (ai st) f cdv A outer s H E) [] (start N vs) H s1 :=
  ⟨⟨I0.ok.mod,I0.ok.kind,I0.ok.glob,I0.ok.blt,I0.ok.above,I0.ok.inj,I0.ok.has,I0.ok.cab,nofun,I0.ok.frames,I0.ok.stk,I0.ok.exf,I0.ok.bs,I0.ok.bsz,I0.ok.noex,I0.ok.exfs,I0.ok.funs,I0.ok.frf,I0.ok.tb⟩,I0.os,I0.bare,I0.base,I0.loc,I0.cell,I0.free,I0.freeC,I0.pin,I0.hok,I0.len⟩
 refine E_ (ht.nox [] s1 (start N vs) H _ I hq) (λfl s' hs=>?_) λe s' hs=>hs
 have fin:∀{σ':St}{H':Hp}{v:V}{u:Value},Inv (cxN P w K mg base N x (ai st) f cdv A outer s H E) [] σ' H' s'->bS v u->Q v H'->CE outer P w H s Q u s' :=
  λ{σ' H' v u} J rv q=>⟨v,H',J.os,J.bare,J.base,J.hok,rv,q⟩
 cases fl with
 | ret u =>
  obtain⟨v,σ',H',J,rv,q⟩:=hs;exact fin J rv q
 | next =>
  obtain⟨σ',H',J,q⟩:=hs;exact fin (v:=V.non) (u:=HE) J rfl q
 | brk =>
  obtain⟨_,_,_,q⟩:=hs;exact HB q
 | cont =>
  obtain⟨_,_,_,q⟩:=hs;exact HB q
end
section
variable {X:Cx}{k:Nat}{x:Str}{ps:List Str}{sp:Sp}{p pos:Pos}{e:Expr}{es:List Expr}{t:TA}
def AO(C:D9 X.prog X.w X.K X.mg X.base k x ps sp)(hr:iK k X.A)(ha:PA X (e::es) t)(hg:Gl X x:=by rfl)(hdb:(x == ("__debug__":Str))=false:=by decide)(he:starEach (e::es) X.env=(false,eval e X.env)::starEach es X.env:=by rfl)
  (hpl:(backTo pos (starEach es X.env)).any (·.1)=false:=by rfl):PE X (.Call (.Name x p) (e::es) [] pos) (gP sp [] E0 t):=by
 obtain⟨f,fd,len,run,hb,hk,hm⟩:=C.ex;intro pins s σ H Q I h;refine Iy (gO I hg hm ?_ hdb);refine Kr (h₀:=X.base) I.ok.mod.kin hk (thn (ha pos pins s σ H _ I h) λus s1 ⟨vs,H1,I1,r,q⟩=>⟨I1.kIn,?_⟩) he hpl;have r2:bK (vs++[]) (us++[]):=r.append .nil;have hl:(us++[]).length=ps.length:=by rw [<- r2.length];exact len _ _ _ _ q
 refine KY (Kg (run X.A X.stack s1 H1 ⟨us,[]⟩ (us++[]) (vs++[]) Q E0 hr I1.env0 (hb s1 us I1.kIn hl) r2 q) λr s' hq=>?_)
 cases r with
 | error e=>exact hq.elim
 | ok fl =>
  cases fl with
  | ret u=>exact I1.after hq
  | next=>exact HB hq
  | brk=>exact HB hq
  | cont=>exact HB hq
end
section
variable {K:b_}
theorem FVs.each{O O':Addr->Prop}{H:Hp}:∀{xs:List V}{ds:List D},FVs K O H xs ds->(∀d∈ds,∀v,FV K O H v d->FV K O' H v d)->FVs K O' H xs ds
 | _,_,.nil,_=>.nil
 | _,_,.cons a b,h=>.cons (h _ (mem_cons_self ..) _ a) (FVs.each b λd hd=>h d (q_ _ hd))
end
noncomputable def XI(K:b_)(G:Addr)(nm:String)(C:Addr):Prop:=D_ K mainGlobals nm=some (some (.ref C))/\(∃(q:Str) (N:Addr) (bs sub:List Value) (sn:List Str) (ab:Bool) (col:Option Bool) (k0 k1 k2 k3 k5:Option Value),K.lookup C=some (excClassObj nm q C N bs (.ref G::[.type "ValueError",.type "Exception",.type "BaseException",.type "object"]) true sn sub ab col none k0 k1 k2 k3 k5 "ValueError.__new__")) /\
 tf K (.ref C) "__getattribute__"=some (some (.builtin "BaseException.__getattribute__"))/\tf K (.ref C) "__getattr__"=some none/\tf K (.ref C) "__setattr__"=some (some (.builtin "object.__setattr__"))/\tf K (.ref C) "__class__"=some (some (.builtin "object.__class__"))/\C_ K (.ref C)=true
def FC{K:b_}{G:Addr}{nm:String}{C:Addr}{q:Str}{N:Addr}{bs sub:List Value}{sn:List Str}{ab:Bool}{col:Option Bool}{k0 k1 k2 k3 k5:Option Value}(a:D_ K mainGlobals nm=some (some (.ref C)))
  (l:K.lookup C=some (excClassObj nm q C N bs (.ref G::[.type "ValueError",.type "Exception",.type "BaseException",.type "object"]) true sn sub ab col none k0 k1 k2 k3 k5 "ValueError.__new__"))
  (g:tf K (.ref C) "__getattribute__"=some (some (.builtin "BaseException.__getattribute__"))) (h:tf K (.ref C) "__getattr__"=some none) (s:tf K (.ref C) "__setattr__"=some (some (.builtin "object.__setattr__"))) (c:tf K (.ref C) "__class__"=some (some (.builtin "object.__class__"))) (k:C_ K (.ref C)=true):XI K G nm C :=
 ⟨a,⟨_,_,_,_,_,_,_,_,_,_,_,_,l⟩,g,h,s,c,k⟩
noncomputable def XJ(K:b_)(C:Addr)(qn at_:String)(st:Stmt):Prop:=∃(fx:Addr) (oc kV dc pm cd ct:Value) (od an:Option Addr) (sl:Array (Option Value)),tf K (.ref C) "__init__"=some (some (.ref fx))/\Jj K (.ref fx)=some (.type "function")/\K.lookup fx=some ⟨oc,od,.func (Hw "__init__" qn (cA st) (aS st) (ai st) .none kV dc pm an cd ct),sl⟩/\IA K cd qn=true/\C_ K (.ref fx)=true/\tf K (.ref C) at_=some none
def FD{K:b_}{C:Addr}{qn at_:String}{st:Stmt}{fx:Addr}{oc kV dc pm cd ct:Value}{od an:Option Addr}{sl:Array (Option Value)}(i:tf K (.ref C) "__init__"=some (some (.ref fx)))(t:Jj K (.ref fx)=some (.type "function"))(l:K.lookup fx=some ⟨oc,od,.func (Hw "__init__" qn (cA st) (aS st) (ai st) .none kV dc pm an cd ct),sl⟩)(c:IA K cd qn=true)(k:C_ K (.ref fx)=true)(n:tf K (.ref C) at_=some none):XJ K C qn at_ st :=
 ⟨_,_,_,_,_,_,_,_,_,_,i,t,l,c,k,n⟩
section
open PySem.AutoSeq1 (wpAny_loadPart')
open PySem.MeetsSeq PySem.MeetsSeq2 PySem.MeetsSeq3
variable {P:so}{w:World}{A:w_}
end
def fJ.m{j k:Nat}{A:w_}(r:fJ k A)(h:Jw j k=true):fJ j A:=r.mono (IL h)
section
variable {P:so}{w:World}{K:b_}{mg:Str->Option Value}{base:Heap}{x:Str}{st:Stmt}{N ps:List Str}{k n:Nat}
abbrev lH(x:Str)(st:Stmt)(ps:List Str):Prop:=∀(kV doc pm:Value) (an:Option Addr) (cdv ct:Value) (us:List Value),us.length=ps.length->bindArgs (Hw x x (cA st) (aS st) (ai st) .none kV doc pm an cdv ct) ⟨us,[]⟩=pure (ps.zip us)
def aY.oP{c:FN}{pp:PTS}(D:aY K mg x st)(S:aB N ps (ai st))(hb:lH x st ps)(ln:∀ds Q,c ds Q->ds.length=n)(h1:n=ps.length)(h2:Jw n N.length=true)(rd:∀ds Q,c ds Q->CO pp N.length ds Q)
  (hbody:∀(f:Addr) (cdv:Value) (A:w_) (outer:List Env) (s:c_) (H:Hp) (E:XK),fJ k (A.deeper (envOfC x (ai st) s.heap.objs.size f cdv))->(A.deeper (envOfC x (ai st) s.heap.objs.size f cdv)).units+64<cLine ->
   ∃t,PSs (jR CX0 P w K mg base N x (ai st) f cdv A outer s H E).nox (aS st) t/\LS K [] t pp):Cal P w K mg base (k+1) x ps (spP K c):=by
 refine D.ok S hb (λvs H Q E h=>(Ff ln h).trans h1) λf cdv A outer s H vs Q E hr h=>?_;obtain⟨t,h3,h4⟩:=hbody f cdv A outer s H E hr hr.units;exact⟨t,h3,fnP h4 (λds Q h=>HP (KU (ln ds Q h)) (IL h2)) rd h⟩
def aY.oR{c:FR}{pp:PTS}(D:aY K mg x st)(S:aB N ps (ai st))(hb:lH x st ps)(ln:∀p ds Q,c p ds Q->ds.length+1=n)(h1:n=ps.length)(h2:Jw n N.length=true)(rd:∀p ds Q,p.isOwn=true->c p ds Q->Fg pp N.length p ds Q)
  (hbody:∀(f:Addr) (cdv:Value) (A:w_) (outer:List Env) (s:c_) (H:Hp) (E:XK),fJ k (A.deeper (envOfC x (ai st) s.heap.objs.size f cdv))->(A.deeper (envOfC x (ai st) s.heap.objs.size f cdv)).units+64<cLine ->
   ∃t,PSs (jR CX0 P w K mg base N x (ai st) f cdv A outer s H E).nox (aS st) t/\LS K [0] t pp):Cal P w K mg base (k+1) x ps (spR K c):=by
 refine D.ok S hb (λvs H Q E h=>(G1 ln h).trans h1) λf cdv A outer s H vs Q E hr h=>?_;obtain⟨t,h3,h4⟩:=hbody f cdv A outer s H E hr hr.units;exact⟨t,h3,fnR h4 (λp ds Q h=>HP (KU (ln p ds Q h)) (IL h2)) rd h⟩
def aY.oX{c:FX}{pp:(D->Prop)->PTS}(D:aY K mg x st)(S:aB N ps (ai st))(hb:lH x st ps)(ln:∀ds Q E,c ds Q E->ds.length=n)(h1:n=ps.length)(h2:Jw n N.length=true)(rd:∀ds Q E,c ds Q E->D6 pp N.length ds Q E)
  (hbody:∀(f:Addr) (cdv:Value) (A:w_) (outer:List Env) (s:c_) (H:Hp) (E:XK),fJ k (A.deeper (envOfC x (ai st) s.heap.objs.size f cdv))->(A.deeper (envOfC x (ai st) s.heap.objs.size f cdv)).units+64<cLine ->
   ∃t,PSs (jR (CXe P w) P w K mg base N x (ai st) f cdv A outer s H E) (aS st) t/\∀Ec,LSX K Ec E [] t (pp Ec)):C3 P w K mg base (k+1) x ps (spX K c):=by
 refine D.okE S hb (λvs H Q E h=>(G6 ln h).trans h1) λf cdv A outer s H vs Q E hr h=>?_;obtain⟨t,h3,h4⟩:=hbody f cdv A outer s H E hr hr.units;exact⟨t,h3,G7 h4 (λds Q E h=>HP (KU (ln ds Q E h)) (IL h2)) rd h⟩
end
noncomputable def psO{fs:List Nat}{A:b_->(Str->Option Value)->Prop}{ts:b_->(Str->Option Value)->TS}{ps:PTS}(_:∀K mg,A K mg->LS K fs (ts K mg) ps):PTS:=ps
noncomputable def psX{A:b_->(Str->Option Value)->Prop}{ts:b_->(Str->Option Value)->(D->Prop)->XK->TS}{ps:(D->Prop)->PTS}(_:∀K mg,A K mg->∀Ec E,LSX K Ec E [] (ts K mg Ec E) (ps Ec)):(D->Prop)->PTS:=ps
noncomputable def cN(p:Prop):List D->Prop|[]=>p|_=>False
noncomputable def cD(f:D->List D->Prop):List D->Prop|d::r=>f d r|_=>False
noncomputable def cI(f:Int->List D->Prop):List D->Prop|.int t::r=>f t r|_=>False
noncomputable def cL(f:List D->List D->Prop):List D->Prop|.lst t::r=>f t r|_=>False
noncomputable def cT(f:List D->List D->Prop):List D->Prop|.tup t::r=>f t r|_=>False
noncomputable def cR(f:List Int->List D->Prop):List D->Prop|.scr t::r=>f t r|_=>False
noncomputable def cX(f:Str->List Str->List D->List D->Prop):List D->Prop|.exc c ns fs::r=>f c ns fs r|_=>False
noncomputable def oL(f:List D->Prop):PV->Prop|.own ds=>f ds|_=>False
def G9{α:Type}{l:List α}(h:l.length=1):∃a,l=[a]:=match l,h with|[a],_=>⟨a,rfl⟩
def Ha{α:Type}{l:List α}(h:l.length=2):∃a b,l=[a,b]:=match l,h with|[a,b],_=>⟨a,b,rfl⟩
def Hb{α:Type}{l:List α}(h:l.length=3):∃a b c,l=[a,b,c]:=match l,h with|[a,b,c],_=>⟨a,b,c,rfl⟩
section
variable {P:List D->Prop}{ds:List D}
@[elab_as_elim] theorem jY {p:Prop} (h:cN p ds) (k:p->P []):P ds:=match ds,h with|[],h=>k h
@[elab_as_elim] theorem rR {f:D->List D->Prop} (h:cD f ds) (k:∀d r,f d r->P (d::r)):P ds:=match ds,h with|d::r,h=>k d r h
@[elab_as_elim] theorem sS {f:Int->List D->Prop} (h:cI f ds) (k:∀t r,f t r->P (.int t::r)):P ds:=match ds,h with|.int t::r,h=>k t r h
@[elab_as_elim] theorem AQ {f:List D->List D->Prop} (h:cL f ds) (k:∀t r,f t r->P (.lst t::r)):P ds:=match ds,h with|.lst t::r,h=>k t r h
@[elab_as_elim] theorem Ea {f:List D->List D->Prop} (h:cT f ds) (k:∀t r,f t r->P (.tup t::r)):P ds:=match ds,h with|.tup t::r,h=>k t r h
@[elab_as_elim] theorem Hc {f:List Int->List D->Prop} (h:cR f ds) (k:∀t r,f t r->P (.scr t::r)):P ds:=match ds,h with|.scr t::r,h=>k t r h
@[elab_as_elim] theorem Hd {f:Str->List Str->List D->List D->Prop} (h:cX f ds) (k:∀c ns fs r,f c ns fs r->P (.exc c ns fs::r)):P ds:=match ds,h with|.exc c ns fs::r,h=>k c ns fs r h
@[elab_as_elim] theorem Do {P:PV->Prop}{p:PV}{f:List D->Prop} (h:oL f p) (k:∀es,f es->P (.own es)):P p:=match p,h with|.own es,h=>k es h
end
abbrev PRl(c:FN)(pp:PTS)(m n:Nat):Prop:=∀ds Q,c ds Q->ds.length=n/\CO pp m ds Q
abbrev RRl(c:FR)(pp:PTS)(m n:Nat):Prop:=∀p ds Q,c p ds Q->ds.length+1=n/\Fg pp m p ds Q
abbrev XRl(c:FX)(pp:(D->Prop)->PTS)(m n:Nat):Prop:=∀ds Q E,c ds Q E->ds.length=n/\D6 pp m ds Q E
section
variable {P:so}{w:World}{K:b_}{mg:Str->Option Value}{base:Heap}{x:Str}{st:Stmt}{N ps:List Str}{k n:Nat}
def aY.oP2{c:FN}{pp:PTS}(D:aY K mg x st)(S:aB N ps (ai st))(hb:lH x st ps)(rl:PRl c pp N.length n)(h1:n=ps.length)(h2:Jw n N.length=true)
  (hbody:∀(f:Addr) (cdv:Value) (A:w_) (outer:List Env) (s:c_) (H:Hp) (E:XK),fJ k (A.deeper (envOfC x (ai st) s.heap.objs.size f cdv))->(A.deeper (envOfC x (ai st) s.heap.objs.size f cdv)).units+64<cLine ->
   ∃t,PSs (jR CX0 P w K mg base N x (ai st) f cdv A outer s H E).nox (aS st) t/\LS K [] t pp):Cal P w K mg base (k+1) x ps (spP K c):=D.oP S hb (λds Q h=>(rl ds Q h).1) h1 h2 (λds Q h=>(rl ds Q h).2) hbody
def aY.oR2{c:FR}{pp:PTS}(D:aY K mg x st)(S:aB N ps (ai st))(hb:lH x st ps)(rl:RRl c pp N.length n)(h1:n=ps.length)(h2:Jw n N.length=true)
  (hbody:∀(f:Addr) (cdv:Value) (A:w_) (outer:List Env) (s:c_) (H:Hp) (E:XK),fJ k (A.deeper (envOfC x (ai st) s.heap.objs.size f cdv))->(A.deeper (envOfC x (ai st) s.heap.objs.size f cdv)).units+64<cLine ->
   ∃t,PSs (jR CX0 P w K mg base N x (ai st) f cdv A outer s H E).nox (aS st) t/\LS K [0] t pp):Cal P w K mg base (k+1) x ps (spR K c):=D.oR S hb (λp ds Q h=>(rl p ds Q h).1) h1 h2 (λp ds Q _ h=>(rl p ds Q h).2) hbody
def aY.oX2{c:FX}{pp:(D->Prop)->PTS}(D:aY K mg x st)(S:aB N ps (ai st))(hb:lH x st ps)(rl:XRl c pp N.length n)(h1:n=ps.length)(h2:Jw n N.length=true)
  (hbody:∀(f:Addr) (cdv:Value) (A:w_) (outer:List Env) (s:c_) (H:Hp) (E:XK),fJ k (A.deeper (envOfC x (ai st) s.heap.objs.size f cdv))->(A.deeper (envOfC x (ai st) s.heap.objs.size f cdv)).units+64<cLine ->
   ∃t,PSs (jR (CXe P w) P w K mg base N x (ai st) f cdv A outer s H E) (aS st) t/\∀Ec,LSX K Ec E [] t (pp Ec)):C3 P w K mg base (k+1) x ps (spX K c):=D.oX S hb (λds Q E h=>(rl ds Q E h).1) h1 h2 (λds Q E h=>(rl ds Q E h).2) hbody
end
theorem Dp:∀xs ys:List Int,HT.lexLt xs ys=lxB xs ys
 | [],[]=>rfl
 | [],_::_=>rfl
 | _::_,[]=>rfl
 | x::xs,y::ys=>by
  rw [HT.lexLt_cons];show _=if x=y then lxB xs ys else decide (x<y)
  rw [Dp xs ys]
abbrev wA(h0 h:Heap):Prop:=∀b o,h0.get? b=some o->h.get? b=some o
section
variable {P:so}{w:World}{A:w_}{R:Result->c_->Prop}{I:Addr}{fp wr:List Addr}{n:Nat}{Pv:Nat->Value->Prop}{St:Nat->Heap->Prop}{d:Value}{h0:Heap}
def mwn:(toString "min"++toString ".loop":String)="min.loop":=by decide
theorem qo{kw:List (Str×Value)}(W:Walks P w A.in1 I fp wr n Pv St)(bt:Nat->Nat->Bool)
  (hcmp:∀i j vi vj (y:c_) (Q:Value->c_->Prop) (E:Value->c_->Prop),wA h0 y.heap->Pv i vi->Pv j vj->Q (.bool (bt i j)) y->wpAny (model P w) A.in1 (richCompare .Lt vi vj) Q E y)
  (B:Addr) (hB:B∉fp) (nB:∀b o,h0.get? b=some o->b≠B) (nw:∀b o,h0.get? b=some o->b∉wr):∀(k j:Nat) (z:c_) (vb:Value) (c:Nat),n=j+1+k->St (j+1) z.heap->wA h0 z.heap->Pv (argBest bt j) vb ->
  z.heap.get? B=some { cls:=.type "list",dict:=none,data:=.seq #[vb,vb] c,slots:=#[] } ->
  (∀v h' tk,Pv (argBest bt (n - 1)) v->wA h0 h'->R (.ok (.ret v)) { z with heap:=h',toks:=tk }) ->
  codeAny (model P w) A (.builtin "min.loop" ⟨[.ref I,.none,.ref B],kw⟩) R z
 | 0,j,z,vb,c,hn,st,hz,pb,hS,hR=>by
  refine I_ F.entry_min_loop ?_;rw [J7 F.plain_min_loop _];show wpAny _ A.in1 (seqItems? (.ref B) >>= _) _ _ z;refine cy (Jg hS rfl ?_);show wpAny _ A.in1 (tryCatch (pyNext (.ref I)) _ >>= _) _ _ z;refine cy (Ky (W.done z _ _ (by rw [hn];exact st) λh' tk old=>?_));have hS':=old B _ (λq=>hB (W.sub _ q)) hS;show wpAny _ A.in1 (updateSeq B (λ_=>#[]) >>= _) _ _ _
  refine cy (Ka hS' rfl (cy (KF (l_ ?_))));exact hR vb _ tk (by rw [hn];exact pb) λb o e=>(HC _ _ (HL (nB b o e))).trans (old b o (nw b o e) (hz b o e))
 | k+1,j,z,vb,c,hn,st,hz,pb,hS,hR=>by
  refine I_ F.entry_min_loop ?_;rw [J7 F.plain_min_loop _];show wpAny _ A.in1 (seqItems? (.ref B) >>= _) _ _ z;refine cy (Jg hS rfl ?_);show wpAny _ A.in1 (tryCatch (pyNext (.ref I)) _ >>= _) _ _ z;refine cy (Ky (W.item (j+1) z _ _ (by omega) st λv h' tk hv st' old=>?_));have hS':=old B _ (λq=>hB (W.sub _ q)) hS;have hz1:wA h0 h':=λb o e=>old b o (nw b o e) (hz b o e)
  show wpAny _ A.in1 (tryCatch (holding [v,v] (richCompare .Lt v vb >>= _)) _ >>= _) _ _ _;refine cy (Ky (Hu (cy (hcmp (j+1) (argBest bt j) v vb _ _ _ hz1 hv pb ?_))));refine cy (Hu (HV ?_));refine cy (KF (l_ ?_))
  cases hb:bt (j+1) (argBest bt j) with
  | true =>
   simp only [if_true];refine cy (Ka hS' rfl (cy (KF ?_)));rw [mwn];exact l_ ⟨J0 F.plain_min_loop _,qo W bt hcmp B hB nB nw k (j+1) _ v _ (by omega) (W.frame _ _ _ st' λb hb o e=>(HC _ _ (λq:B=b=>hB (by rw [q];exact hb))).trans e) (λb o e=>(HC _ _ (HL (nB b o e))).trans (hz1 b o e)) (by show Pv (if bt (j+1) (argBest bt j) then j+1 else argBest bt j) v;rw [hb];exact hv) (HF _ hS' rfl) λv' h2 t2 p2 o2=>hR v' h2 t2 p2 o2⟩
  | false =>
   simp only [false_eq_true,if_false];refine cy (KF ?_);rw [mwn];exact l_ ⟨J0 F.plain_min_loop _,qo W bt hcmp B hB nB nw k (j+1) _ vb c (by omega) st' hz1 (by show Pv (if bt (j+1) (argBest bt j) then j+1 else argBest bt j) vb;rw [hb];exact pb) hS' λv' h2 t2 p2 o2=>hR v' h2 t2 p2 o2⟩
end
section
open PySem.SeqAt
end
section
variable {P:so}{w:World}{A:w_}{R:Result->c_->Prop}{I:Addr}{fp wr:List Addr}{n:Nat}{Pv:Nat->Value->Prop}{St:Nat->Heap->Prop}{h0:Heap}
def vG(W:Walks P w A.in1 I fp wr n Pv St)(bt:Nat->Nat->Bool)
  (hcmp:∀i j vi vj (y:c_) (Q:Value->c_->Prop) (E:Value->c_->Prop),wA h0 y.heap->Pv i vi->Pv j vj->Q (.bool (bt i j)) y->wpAny (model P w) A.in1 (richCompare .Lt vi vj) Q E y)
  (B:Addr) (hB:B∉fp) (nB:∀b o,h0.get? b=some o->b≠B) (nw:∀b o,h0.get? b=some o->b∉wr) {z:c_}{c:Nat} (st:St 0 z.heap) (hz:wA h0 z.heap)
  (hS:z.heap.get? B=some { cls:=.type "list",dict:=none,data:=.seq #[] c,slots:=#[] }) (hn:0<n)
  (hR:∀v h' tk,Pv (argBest bt (n - 1)) v->wA h0 h'->R (.ok (.ret v)) { z with heap:=h',toks:=tk }) :
  codeAny (model P w) A (.builtin "min.loop" ⟨[.ref I,.none,.ref B],[]⟩) R z:=by
 refine I_ F.entry_min_loop ?_;rw [J7 F.plain_min_loop _];show wpAny _ A.in1 (seqItems? (.ref B) >>= _) _ _ z;refine cy (Jg hS rfl ?_);show wpAny _ A.in1 (tryCatch (pyNext (.ref I)) _ >>= _) _ _ z;refine cy (Ky (W.item 0 z _ _ (by omega) st λv h' tk hv st' old=>?_));have hS':=old B _ (λq=>hB (W.sub _ q)) hS;show wpAny _ A.in1 (updateSeq B (λ_=>#[v,v]) >>= _) _ _ _
 refine cy (Ka hS' rfl ?_);rw [mwn];exact l_ ⟨J0 F.plain_min_loop _,qo W bt hcmp B hB nB nw (n - 1) 0 _ v _ (by omega) (W.frame _ _ _ st' λb hb o e=>(HC _ _ (λq:B=b=>hB (by rw [q];exact hb))).trans e) (λb o e=>(HC _ _ (HL (nB b o e))).trans (old b o (nw b o e) (hz b o e))) hv (HF _ hS' rfl) λv' h2 t2 p2 o2=>hR v' h2 t2 p2 o2⟩
end
def vH(a:Value):argsOk "min" ⟨[a],[]⟩:=by unfold argsOk;kernel_rfl
def sU{P:so}{w:World}{A:w_}{z:c_}{l:Addr}{vs:Array Value}{Q:Value->c_->Prop}{E:Value->c_->Prop}(hh:A.handled=none)(hl:z.heap.IsList l vs)(bt:Nat->Nat->Bool)
  (hcmp:∀i j vi vj (y:c_) (Q:Value->c_->Prop) (E:Value->c_->Prop),wA z.heap y.heap->vs[i]?=some vi->vs[j]?=some vj->Q (.bool (bt i j)) y->wpAny (model P w) A.in1 (richCompare .Lt vi vj) Q E y)
  (h0:0<vs.size) (k:∀v h' tk,vs[argBest bt (vs.size - 1)]?=some v->wA z.heap h'->Q v { z with heap:=h',toks:=tk }) :
  wpAny (model P w) A (call (.builtin "min") [.ref l]) Q E z:=by
 refine kmk_tree F.kind_min F.plain_min F.entry_min (vH _) ?_;show wpAny _ A.in1 (Kl "min" ["key","default"] 0 ⟨[],[]⟩ >>= _) _ _ z;refine cy (KG (show Kl "min" ["key","default"] 0 ⟨[],[]⟩=pure [none,none] from rfl) ?_);refine cy (l_ ?_);refine cy (IK hl ?_);refine cy (Ii ?_)
 rw [mwn];have hlt:l<z.heap.objs.size:=by obtain⟨_,e,_⟩:=hl;exact k_ e
 have e1:(z.heap.push { cls:=.type "list_iterator",data:=.fields #[.ref l,.int 0 0] }).objs.size=z.heap.objs.size+1:=ID ..;have W:=Walks.list (prog:=P) (w:=w) (A:=A.in1) hh z.heap.objs.size l (Hj hlt) vs;have old:wA z.heap (z.heap.push { cls:=.type "list_iterator",data:=.fields #[.ref l,.int 0 0] }):=λb o e=>f_ _ e;have st0:(z.heap.push { cls:=.type "list_iterator",data:=.fields #[.ref l,.int 0 0] }).IsListIter z.heap.objs.size l 0:=⟨_,p_ _ rfl,rfl,rfl⟩
 have hl1:=hl.at λo e=>old l o e;show wpAny _ _ _ _ _ _;generalize z.heap.push { cls:=.type "list_iterator",data:=.fields #[.ref l,.int 0 0] }=h1 at e1 old st0 hl1
 refine l_ ⟨J0 F.plain_min_loop _,vG (h0:=z.heap) W bt hcmp h1.objs.size (λhm=>?_) (λb o e=>Hj (Nat.lt_trans (k_ e) (by omega))) (λb o e hm=>?_) (W.frame _ _ _ ⟨st0,hl1⟩ λb _ o e=>f_ _ e) (λb o e=>f_ _ (old b o e)) (p_ _ rfl) h0 k⟩
 .rcases mem_cons.mp hm with q|q
  .exact absurd (e1.symm.trans q) (succ_ne_self _)
  .have q:=vx.mp q;exact absurd (q.symm ▸ hlt:h1.objs.size<z.heap.objs.size) (by rw [e1];exact not_lt.mpr (le_succ _))
 .have q:=vx.mp hm;exact absurd (k_ e) (by rw [q];exact HN _)
section
variable {X:Cx}{K:b_}
noncomputable def yR(K:b_):List V->Hp->VK->Prop:=λxs H Q=>∃(p:Addr) (prs:List (Addr×List Int)),xs=[.ref p]/\SqL K H p (prs.map λpr=>V.ref pr.1)/\(∀pr∈prs,SqT K H pr.1 (pr.2.map V.int))/\prs≠[]/\∀pr∈prs,(∀q∈prs,lxB q.2 pr.2=false)->Q (.ref pr.1) H
def AR(K:b_)(e:X.K=K)(hc:X.calm=true)(hu:X.A.units+64<cLine):bD X (.builtin "min") (yR K):=by
 subst e;intro pins s σ H xs us Q I r h;obtain⟨p,prs,rfl,hS,ht,hne,q⟩:=h;obtain⟨u,rfl,rx⟩:=fR r;cases rx;obtain⟨its,rv,pl,hz⟩:=I.list hS;have hv:=yL rv;subst hv;have hsz:(prs.map λpr=>o_ pr.1).toArray.size=prs.length:=by rw [size_toArray,length_map]
 have at_:∀{i:Nat}{u:Value},(prs.map λpr=>o_ pr.1).toArray[i]?=some u->∃pr,prs[i]?=some pr/\u=.ref pr.1:=λ{i u} h=>by
  rw [getElem?_toArray,i_] at h
  cases g:prs[i]? with
  | none=>rw [g] at h;cases h
  | some pr=>rw [g] at h;cases h;exact⟨pr,rfl,rfl⟩
 have gd:∀{i:Nat}{pr:Addr×List Int},prs[i]?=some pr->i<(prs.map (·.2)).length/\(prs.map (·.2)).getD i []=pr.2:=λ{i pr} h=>by
  have hi:i<prs.length:=by
   by_cases c:i<prs.length
   .exact c
   .rw [z_ (by omega)] at h;cases h
  exact⟨by rw [length_map];exact hi,by rw [e_,i_,h];rfl⟩
 have hpos:0<prs.length:=Lp.mpr hne
 refine sU (by exact I.ok.hd hc) pl.isList (λi j=>decide (-(rkL (prs.map (·.2)) i:Int) > -(rkL (prs.map (·.2)) j:Int))) (λi j vi vj y Q E old hi hj z=>?_) (by omega) λu h' tk hu old=>?_
 .obtain⟨pi,gi,rfl⟩:=at_ hi;obtain⟨pj,gj,rfl⟩:=at_ hj;obtain⟨ii,ei⟩:=gd gi;obtain⟨ij,ej⟩:=gd gj;obtain⟨is1,vs1,⟨o,e,c,n,d⟩,_⟩:=I.tuple (ht pi (B_ gi));obtain⟨is2,vs2,⟨o2,e2,c2,n2,d2⟩,_⟩:=I.tuple (ht pj (B_ gj));refine HT.lt_tupInts (s:=y) (A:=X.A.in1) ⟨o,old _ _ e,c,n,d⟩ ⟨o2,old _ _ e2,c2,n2,d2⟩ (cW vs1) (cW vs2) (lt_of_le_of_lt (add_le_add_left (by decide:1<=64) _) hu) ?_
  rw [Dp,<- ei,<- ej,yK ii ij];refine (congrArg (λb=>Q (.bool b) y) (decide_eq_decide.mpr ?_)).mpr z;constructor <;> intro h <;> omega
 .obtain⟨pr,g,rfl⟩:=at_ hu;obtain⟨h1,h2⟩:=argBest_gt (λi=>-(rkL (prs.map (·.2)) i:Int)) ((prs.map λpr=>o_ pr.1).toArray.size - 1);obtain⟨ib,eb⟩:=gd g;refine⟨.ref pr.1,H,I.kept (t':=tk) old,rfl,q pr (B_ g) λr hr=>?_⟩;obtain⟨j,hj,ej⟩:=IT hr;obtain⟨ij,e2⟩:=gd (d_ hj);have:=h2 j (by omega);rw [<- ej,<- e2,<- eb,yK ij ib];exact decide_eq_false (by omega)
noncomputable def yS:FN
 | [.lst ds],Q=>∃rows:List (List Int),ds=rows.map Fv/\rows≠[]/\∀r∈rows,(∀q∈rows,lxB q r=false)->Q (.dat (Fv r))
 | _,_=>False
def xE:LC K (yR K) yS:=by
 intro O H xs as Q Q' dom fs q k;unfold yS at q
 split at q
 .cases fs with
  | cons a b =>
   cases b;obtain⟨rows,rfl,hne,q⟩:=q;obtain⟨a1,xs1,rfl,g1,g2⟩:=a.lst;obtain⟨prs,rfl,hr,hp⟩:=rM g2;refine⟨a1,prs,rfl,SqL.of g1,λpr h=>SqT.of (hp pr h).2,λe=>hne (by rw [<- hr,e];rfl),λpr h hm=>k _ H _ (q pr.2 (by rw [<- hr];exact Ll h) λq hq=>?_) (Gr.refl _) (.tup (hp pr h).1 (hp pr h).2 (FVs.of_ints _))⟩;rw [<- hr] at hq;obtain⟨p',h',rfl⟩:=Hx.mp hq;exact hm p' h'
 .exact q.elim
end
section
variable {K:b_}{fs:List Nat}{ta tb ts:TS}{pa pb ps:PTS}
noncomputable def LS0(K:b_)(fs:List Nat)(ts:TS)(ps:PTS):Prop:=∀(fx:List (Nat×V)) (A:Addr->Prop) (H0:Hp) (ρ:PSt) (σ:St) (H:Hp) (D:uI) (D':tG),fx.map v_=fs->Rel K A ρ σ H->bY fx (λ_=>False) H0 ρ σ H->ps D ρ ->
 (∀ρ' σ' H',D.nx ρ'->Rel K A ρ' σ' H'->bY fx (λ_=>False) H0 ρ' σ' H'->D'.nx σ' H') ->
 (∀v p ρ' σ' H',D.rt p ρ'->Out K A ρ' σ' H0 H' p v->bY fx (λ_=>False) H0 ρ' σ' H'->D'.rt v H') ->
 (∀ρ' σ' H',D.bk ρ'->Rel K A ρ' σ' H'->bY fx (λ_=>False) H0 ρ' σ' H'->D'.bk σ' H') ->
 (∀ρ' σ' H',D.ct ρ'->Rel K A ρ' σ' H'->bY fx (λ_=>False) H0 ρ' σ' H'->D'.ct σ' H')->ts D' σ H
def mV(ha:LS K fs ta pa)(hb:LS0 K fs tb pb):LS0 K fs (yh ta tb) (fk pa pb):=λfx A H0 ρ σ H D D' hf r F q k1 k2 k3 k4 =>
 ha fx A _ H0 ρ σ H _ _ hf r F q (λρ1 σ1 H1 q1 r1 F1=>hb fx A H0 ρ1 σ1 H1 _ _ hf r1 F1 q1 k1 k2 k3 k4) k2 k3 k4
noncomputable def yT(i:Nat):PTS:=λE ρ=>match ρ[i]? with
 | some (some p)=>p.isOwn=true/\E.rt p (ρ.set i none)
 | _=>False
def Rel.give{A:Addr->Prop}{ρ:PSt}{σ:St}{H:Hp}{i:Nat}{p:PV}{a:Addr}(R:Rel K A ρ σ H)(e:ρ[i]?=some (some p))(o:p.isOwn=true)(s:σ[i]?=some (some (.ref a))):Rel K (cJ A a) (ρ.set i none) σ H/\∀b,OO (cJ A a) (ρ.set i none) σ b->OO A ρ σ b:=by
 have wa:Wr ρ σ a:=⟨i,p,e,o,s⟩
 have ww:∀b,Wr (ρ.set i none) σ b->Wr ρ σ b:=λb ⟨j,q,e1,o1,s1⟩=>⟨j,q,(i5 e1).2,o1,s1⟩
 have lo:∀b,OO (cJ A a) (ρ.set i none) σ b->OO A ρ σ b:=λb z=>by
  rcases z with (z|z)|z
  .exact .inl z
  .exact .inr (by rw [z];exact wa)
  .exact .inr (ww b z)
 refine⟨⟨by rw [length_set];exact R.len,λj q e1=>?_,λj l p1 q1 v e1 e2 o1 o2 s1 s2=>R.dj j l p1 q1 v (i5 e1).2 (i5 e2).2 o1 o2 s1 s2,λb z=>?_,λb z w=>?_⟩,lo⟩
 .obtain⟨v,s',r⟩:=R.get j q (i5 e1).2;exact⟨v,s',r.keeps (aA.less lo) λ_ _ _=>rfl⟩
 .rcases z with z|z
  .exact R.dom b z
  .rw [z];exact R.wr wa
 .rcases z with z|z
  .exact R.sep b z (ww b w)
  .subst z;obtain⟨j,q,e1,o1,s1⟩:=w;obtain⟨n,e2⟩:=i5 e1;exact n (R.dj j i q p _ e2 e o1 o s1 s)
def xF{i:Nat}:LS0 K fs (Ee (bC i)) (yT i):=λfx A H0 ρ σ H D D' hf r F q k1 k2 k3 k4=>by
 unfold yT at q
 split at q
 .rename_i p e;obtain⟨o,q⟩:=q;obtain⟨v,s,rs⟩:=r.get i p e;have F':bY fx (λ_=>False) H0 (ρ.set i none) σ H:=⟨F.kp,F.dm,λb ⟨j,x,e1,o1,s1⟩=>F.ow b ⟨j,x,(i5 e1).2,o1,s1⟩,F.fx⟩
  have h0:∀a,v=.ref a->¬ A a/\H0 a=none:=λa ea=>by
   have w:Wr ρ σ a:=⟨i,p,e,o,by rw [<- ea];exact s⟩
   exact⟨λz=>r.sep a z w,(F.ow a w).elim (λz=>z.elim) id⟩
  refine⟨v,s,k2 v p _ σ H q ?_ F'⟩
  cases p with
  | dat d=>cases o
  | own ds =>
   obtain⟨a,xs,rfl,g,f⟩:=rs;obtain⟨r1,lo⟩:=r.give e o s;exact⟨a,xs,rfl,(h0 a rfl).1,(h0 a rfl).2,g,r1,f.keeps (aA.less lo)⟩
  | ins c ns ds =>
   obtain⟨a,dx,fl,rfl,g,m,f⟩:=rs;obtain⟨r1,lo⟩:=r.give e o s;exact⟨a,dx,fl,rfl,(h0 a rfl).1,(h0 a rfl).2,g,m,r1,f.keeps (aA.less lo)⟩
  | odc ks ds =>
   obtain⟨a,kvs,rfl,g,m,f⟩:=rs;obtain⟨r1,lo⟩:=r.give e o s;exact⟨a,kvs,rfl,(h0 a rfl).1,(h0 a rfl).2,g,m,r1,f.keeps (aA.less lo)⟩
 .exact q.elim
def He{c:FN}{N:List Str}(hl:LS0 K [] ts ps)(hn:∀ds Q,c ds Q->ds.length<=N.length)(hc:∀ds Q,c ds Q->ps { nx:=λ_=>Q (.dat .non),rt:=λp _=>Q p } (bv N.length (ds.map .dat)))
  {vs:List V}{H:Hp}{Q:VK}{E:XK} (h:spP K c vs H Q E):ts { nx:=λ_ H'=>Q .non H',rt:=Q } (start N vs) H:=by
 obtain⟨O,ds,Qc,dom,fv,hq,k⟩:=h
 have nw:∀(ρ:PSt) (b:Addr),ρ=bv N.length (ds.map .dat)->¬ Wr ρ (start N vs) b:=λρ b e ⟨i,p,e1,o1,s1⟩=>by
  rw [e] at e1;have:=bw e1;rw [i_] at this
  cases e2:ds[i]? with
  | none=>rw [e2] at this;cases this
  | some d=>rw [e2] at this;cases this;cases o1
 have lenv:=fv.length;have hle:=hn ds Qc hq
 have R0:Rel K O (bv N.length (ds.map .dat)) (start N vs) H:=by
  refine⟨?_,λi p e=>?_,λi j p q v e1 e2 o1 o2 s1 s2=>?_,dom,λb _ w=>nw _ b rfl w⟩
  .unfold bv start;rw [length_append,length_append,length_map,length_map,length_map,length_replicate,length_replicate,lenv]
  .have:=bw e;rw [i_] at this
   cases e2:ds[i]? with
   | none=>rw [e2] at this;cases this
   | some d =>
    rw [e2] at this;cases this;obtain⟨v,hv,f⟩:=fv.getD e2;exact⟨v,cq hv,f.keeps (aA.less λb z=>z.elim id λw=>absurd w (nw _ b rfl))⟩
  .have:=bw e1;rw [i_] at this
   cases e3:ds[i]? with
   | none=>rw [e3] at this;cases this
   | some d=>rw [e3] at this;cases this;cases o1
 refine hl [] O H _ _ H _ _ rfl R0 ⟨λ_ _ _ h=>h,λ_ h=>h,λb w=>absurd w (nw _ b rfl),λp hp=>nomatch hp⟩ (hc ds Qc hq) (λρ' σ' H' q r F=>?_) (λv p ρ' σ' H' q o F=>?_) (λ_ _ _ z=>z.elim) (λ_ _ _ z=>z.elim)
 .exact k _ q .non H' (λb o e=>F.kp b o id e) .non
 .exact k _ q v H' (λb o e=>F.kp b o id e) o.outV
end
noncomputable def Hf{fs:List Nat}{A:b_->(Str->Option Value)->Prop}{ts:b_->(Str->Option Value)->TS}{ps:PTS}(_:∀K mg,A K mg->LS0 K fs (ts K mg) ps):PTS:=ps
section
variable {P:so}{w:World}{K:b_}{mg:Str->Option Value}{base:Heap}{x:Str}{st:Stmt}{N ps:List Str}{k n:Nat}
def aY.oP0{c:FN}{pp:PTS}(D:aY K mg x st)(S:aB N ps (ai st))(hb:lH x st ps)(ln:∀ds Q,c ds Q->ds.length=n)(h1:n=ps.length)(h2:Jw n N.length=true)(rd:∀ds Q,c ds Q->CO pp N.length ds Q)
  (hbody:∀(f:Addr) (cdv:Value) (A:w_) (outer:List Env) (s:c_) (H:Hp) (E:XK),fJ k (A.deeper (envOfC x (ai st) s.heap.objs.size f cdv))->(A.deeper (envOfC x (ai st) s.heap.objs.size f cdv)).units+64<cLine ->
   ∃t,PSs (jR CX0 P w K mg base N x (ai st) f cdv A outer s H E).nox (aS st) t/\LS0 K [] t pp):Cal P w K mg base (k+1) x ps (spP K c):=by
 refine D.ok S hb (λvs H Q E h=>(Ff ln h).trans h1) λf cdv A outer s H vs Q E hr h=>?_;obtain⟨t,h3,h4⟩:=hbody f cdv A outer s H E hr hr.units;exact⟨t,h3,He h4 (λds Q h=>HP (KU (ln ds Q h)) (IL h2)) rd h⟩
def aY.oP20{c:FN}{pp:PTS}(D:aY K mg x st)(S:aB N ps (ai st))(hb:lH x st ps)(rl:PRl c pp N.length n)(h1:n=ps.length)(h2:Jw n N.length=true)
  (hbody:∀(f:Addr) (cdv:Value) (A:w_) (outer:List Env) (s:c_) (H:Hp) (E:XK),fJ k (A.deeper (envOfC x (ai st) s.heap.objs.size f cdv))->(A.deeper (envOfC x (ai st) s.heap.objs.size f cdv)).units+64<cLine ->
   ∃t,PSs (jR CX0 P w K mg base N x (ai st) f cdv A outer s H E).nox (aS st) t/\LS0 K [] t pp):Cal P w K mg base (k+1) x ps (spP K c):=D.oP0 S hb (λds Q h=>(rl ds Q h).1) h1 h2 (λds Q h=>(rl ds Q h).2) hbody
end
section
variable {K:b_}{A:Addr->Prop}{ρ:PSt}{σ:St}{H H':Hp}{ts:TS}{pp:PTS}{fs:List Nat}
abbrev FMs:=List PV->(List PV->Prop)->Prop
noncomputable def xG(ps ps':List PV):Prop:=ps'.length=ps.length/\∀(i:Nat) (p p':PV),ps[i]?=some p->ps'[i]?=some p'->p.isOwn=p'.isOwn/\(p.isOwn=false->p'=p)
def xG.at{ps ps':List PV}(s:xG ps ps'){i:Nat}{p':PV}(e:ps'[i]?=some p'):∃p,ps[i]?=some p/\p.isOwn=p'.isOwn/\(p.isOwn=false->p'=p):=by
 have hi:i<ps.length:=by rw [<- s.1];exact (h_.mp e).1
 exact⟨ps[i],d_ hi,s.2 i _ _ (d_ hi) e⟩
def bh{α:Type}{l:List α}{i:Nat}{x:α}:(l.map some)[i]?=some (some x) ↔ l[i]?=some x:=by
 rw [i_];cases l[i]? <;> simp
noncomputable def spM(K:b_)(c:FMs):Sp:=λvs H Q _=>∃(A:Addr->Prop) (ps:List PV) (Qc:List PV->Prop),Rel K A (ps.map some) (vs.map some) H/\c ps Qc /\
 ∀ps',Qc ps'->xG ps ps'->∀H',Rel K A (ps'.map some) (vs.map some) H'->Fr (ps.map some) (vs.map some) H (ps'.map some) H'->Q .non H'
noncomputable def wB(fs:List Nat)(ps:List PV)(Q:List PV->Prop)(ρ:PSt):Prop:=∃ps',xG ps ps'/\(∀i∈fs,∀p':PV,ps'[i]?=some p'->ρ[i]?=some (some p'))/\Q ps'
def fnM{c:FMs}{N:List Str}(hl:LS K fs ts pp)(hn:∀ps Q,c ps Q->ps.length<=N.length/\∀i,i∈fs ↔ ∃p,ps[i]?=some p/\p.isOwn=true)
  (hc:∀ps Q,c ps Q->pp { nx:=wB fs ps Q,rt:=λr ρ=>r=.dat .non/\wB fs ps Q ρ } (bv N.length ps))
  {vs:List V}{H:Hp}{Q:VK}{E:XK} (h:spM K c vs H Q E):ts { nx:=λ_ H'=>Q .non H',rt:=Q } (start N vs) H:=by
 obtain⟨A,ps,Qc,R,hq,k⟩:=h;obtain⟨hle,hfs⟩:=hn ps Qc hq;have hlen:ps.length=vs.length:=by have:=R.len;rw [length_map,length_map] at this;exact this
 have val:∀{i:Nat}{p:PV},ps[i]?=some p->∃v,vs[i]?=some v/\RS K (OO A (ps.map some) (vs.map some)) H p v:=λ{i p} e=>by
  obtain⟨v,s,r⟩:=R.get i p (bh.mpr e);exact⟨v,bh.mp s,r⟩
 have wr:∀b,Wr (bv N.length ps) (start N vs) b->Wr (ps.map some) (vs.map some) b:=λb ⟨i,p,e,o,s⟩=>by
  have e:=bw e;obtain⟨v,hv,_⟩:=val e;rw [cq hv] at s;cases s;exact⟨i,p,bh.mpr e,o,bh.mpr hv⟩
 have R0:Rel K A (bv N.length ps) (start N vs) H:=by
  refine⟨?_,λi p e=>?_,λi j p q v e1 e2 o1 o2 s1 s2=>?_,R.dom,λb z w=>R.sep b z (wr b w)⟩
  .unfold bv start;rw [length_append,length_append,length_map,length_map,length_replicate,length_replicate,hlen]
  .obtain⟨v,hv,r⟩:=val (bw e);exact⟨v,cq hv,r.keeps (aA.less λb z=>z.imp id (wr b)) λ_ _ _=>rfl⟩
  .have e1:=bw e1;have e2:=bw e2;obtain⟨v1,h1,_⟩:=val e1;obtain⟨v2,h2,_⟩:=val e2;rw [cq h1] at s1;cases s1;rw [cq h2] at s2;cases s2;exact R.dj i j p q _ (bh.mpr e1) (bh.mpr e2) o1 o2 (bh.mpr h1) (bh.mpr h2)
 have fxm:(fs.map λi=>(i,vs.getD i .non)).map v_=fs:=by rw [Hz];exact List.map_id' _
 have fxv:∀i∈fs,∃v,vs[i]?=some v/\vs.getD i .non=v:=λi hi=>by
  obtain⟨p,e,_⟩:=(hfs i).mp hi;obtain⟨v,hv,_⟩:=val e;exact⟨v,hv,by rw [e_,hv];rfl⟩
 have fin:∀(ρ':PSt) (σ':St) (H':Hp),wB fs ps Qc ρ'->Rel K A ρ' σ' H'->bY (fs.map λi=>(i,vs.getD i .non)) (Wr (bv N.length ps) (start N vs)) H ρ' σ' H'->Q .non H':=λρ' σ' H' ⟨ps',sk,hps,q⟩ r F=>by
  have own:∀{i:Nat}{p':PV},ps'[i]?=some p'->p'.isOwn=true->ρ'[i]?=some (some p')/\∃v,vs[i]?=some v/\σ'[i]?=some (some v)/\∃p,ps[i]?=some p/\p.isOwn=true:=λ{i p'} e o=>by
   obtain⟨p,e1,e2,_⟩:=sk.at e;have hi:i∈fs:=(hfs i).mpr ⟨p,e1,by rw [e2];exact o⟩;obtain⟨v,hv,hv2⟩:=fxv i hi;have:=F.fx (i,vs.getD i .non) (Hx.mpr ⟨i,hi,rfl⟩);rw [hv2] at this;exact⟨hps i hi p' e,v,hv,this,p,e1,by rw [e2];exact o⟩
  have w1:∀b,Wr (ps'.map some) (vs.map some) b->Wr ρ' σ' b:=λb ⟨i,p',e,o,s⟩=>by
   obtain⟨h1,v,hv,h2,_⟩:=own (bh.mp e) o;rw [bh.mpr hv] at s;cases s;exact⟨i,p',h1,o,h2⟩
  have w2:∀b,Wr (ps'.map some) (vs.map some) b->Wr (ps.map some) (vs.map some) b:=λb ⟨i,p',e,o,s⟩=>by
   obtain⟨_,v,hv,_,p,e1,o1⟩:=own (bh.mp e) o;exact⟨i,p,bh.mpr e1,o1,s⟩
  have kp:∀b u,¬ Wr (ps.map some) (vs.map some) b->H b=some u->H' b=some u:=λb u n h=>F.kp b u (λz=>n (wr b z)) h
  refine k ps' q sk H' ⟨by rw [length_map,length_map,sk.1,hlen],λi p' e=>?_,λi j p q v e1 e2 o1 o2 s1 s2=>?_,λb z=>F.dm b (R.dom b z),λb z w=>R.sep b z (w2 b w)⟩ ⟨kp,F.dm,w2⟩
  .have e:=bh.mp e;obtain⟨p,e1,e2,e3⟩:=sk.at e
   cases ho:p'.isOwn with
   | true =>
    obtain⟨h1,v,hv,h2,_⟩:=own e ho;obtain⟨v',s',rs⟩:=r.get i p' h1;rw [h2] at s';cases s';exact⟨v,bh.mpr hv,rs.keeps (aA.less λb z=>z.imp id (w1 b)) λ_ _ _=>rfl⟩
   | false =>
    have e3:=e3 (by rw [e2];exact ho);subst e3;obtain⟨v,hv,rs⟩:=val e1;exact⟨v,bh.mpr hv,rs.keeps (λb u n h=>⟨λz=>n (z.imp id (w2 b)),kp b u (λz=>n (.inr z)) h⟩) λo=>by rw [ho] at o;cases o⟩
  .obtain⟨_,_,_,_,p0,e3,o3⟩:=own (bh.mp e1) o1;obtain⟨_,_,_,_,q0,e4,o4⟩:=own (bh.mp e2) o2;exact R.dj i j p0 q0 v (bh.mpr e3) (bh.mpr e4) o3 o4 s1 s2
 refine hl _ A _ H _ _ H _ _ fxm R0 (bY.start λp hp=>?_) (hc ps Qc hq) (λρ' σ' H' q r F=>fin ρ' σ' H' q r F) (λv p ρ' σ' H' q o F=>?_) (λ_ _ _ z=>z.elim) (λ_ _ _ z=>z.elim)
 .obtain⟨i,hi,rfl⟩:=Hx.mp hp;obtain⟨v,hv,hv2⟩:=fxv i hi;show (start N vs)[i]?=some (some (vs.getD i .non));rw [hv2];exact cq hv
 .obtain⟨rfl,q⟩:=q;obtain⟨r,fv⟩:=o;cases fv;exact fin ρ' σ' H' q r F
noncomputable def AS:List Nat->TA
 | []=>eW
 | i::r=>bi (bC i) (AS r)
theorem rS:∀(is:List Nat) (vs:List V) (Q:List V->Hp->Prop),(is.map λi=>σ[i]?)=vs.map (λv=>some (some v))->Q vs H->AS is σ H Q
 | [],vs,Q,e,q=>by
  cases vs with
  | nil=>exact q
  | cons v r=>cases e
 | i::is,vs,Q,e,q=>by
  cases vs with
  | nil=>cases e
  | cons v r =>
   rw [map_cons,map_cons] at e;injection e with e1 e2;exact⟨v,e1,rS is r _ e2 q⟩
noncomputable def Dq(c:FMs)(is:List Nat):PTE:=λρ Q=>xk (is.map some)=true/\∃ps:List PV,(is.map λi=>ρ[i]?)=ps.map (λp=>some (some p))/\c ps λps'=>Q (.dat .non) (dB (is.map some) ρ (ps'.map some))
def xH{c:FMs}{is:List Nat}:LE K (gP (spM K c) [] E0 (AS is)) (Dq c is):=λA ρ σ H Q Q' R q k=>by
 obtain⟨hok,ps,hps,q⟩:=q
 have pat:∀{j:Nat}{p:PV},ps[j]?=some p->∃i,is[j]?=some i/\ρ[i]?=some (some p):=λ{j p} e=>by
  have h:=congrArg (λl=>l[j]?) hps;simp only [i_,e,Lc] at h
  cases hi:is[j]? with
  | none=>rw [hi] at h;cases h
  | some i=>rw [hi] at h;exact⟨i,rfl,by simpa using h⟩
 have plen:ps.length=is.length:=by have:=congrArg KC hps;rw [length_map,length_map] at this;exact this.symm
 have tap:∀{j i:Nat},is[j]?=some i->∃p,ps[j]?=some p/\ρ[i]?=some (some p):=λ{j i} e=>by
  have hj:j<ps.length:=by rw [plen];exact (h_.mp e).1
  obtain⟨i',e1,e2⟩:=pat (d_ hj);rw [e] at e1;cases e1;exact⟨_,d_ hj,e2⟩
 obtain⟨vs,hvs⟩:∃vs:List V,(is.map λi=>σ[i]?)=vs.map (λv=>some (some v)):=by
  refine⟨is.map λi=>match σ[i]? with|some (some v)=>v|_=>.non,?_⟩;rw [Hz];refine IU λi hi=>?_;obtain⟨j,hj,e⟩:=IT hi;obtain⟨p,_,e2⟩:=tap (show is[j]?=some i by rw [d_ hj,e]);obtain⟨v,s,_⟩:=R.get i p e2;show σ[i]?=some (some (match σ[i]? with|some (some v)=>v|_=>V.non));rw [s]
 have vat:∀{j i:Nat}{v:V},is[j]?=some i->σ[i]?=some (some v)->vs[j]?=some v:=λ{j i v} e s=>by
  have h:=congrArg (λl=>l[j]?) hvs;simp only [i_,e,Lc,s] at h
  cases hv:vs[j]? with
  | none=>rw [hv] at h;cases h
  | some w=>rw [hv] at h;simpa using h.symm
 have vlen:vs.length=is.length:=by have:=congrArg KC hvs;rw [length_map,length_map] at this;exact this.symm
 refine rS is vs _ hvs ?_;rw [HK]
 have w1:∀b,Wr (ps.map some) (vs.map some) b->Wr ρ σ b:=λb ⟨j,p,e,o,s⟩=>by
  obtain⟨i,e1,e2⟩:=pat (bh.mp e);obtain⟨v,s1,_⟩:=R.get i p e2;have:=vat e1 s1;rw [bh.mp s] at this;cases this;exact⟨i,p,e2,o,s1⟩
 let A':Addr->Prop:=λb=>OO A ρ σ b/\¬ Wr (ps.map some) (vs.map some) b
 have o1:∀b,OO A' (ps.map some) (vs.map some) b->OO A ρ σ b:=λb z=>z.elim (λz=>z.1) λz=>.inr (w1 b z)
 have o2:∀b,OO A ρ σ b->OO A' (ps.map some) (vs.map some) b:=λb z=>by
  by_cases w:Wr (ps.map some) (vs.map some) b
  .exact .inr w
  .exact .inl ⟨z,w⟩
 refine⟨A',ps,_,⟨by rw [length_map,length_map,plen,vlen],λj p e=>?_,λj l p q v e1 e2 p1 p2 s1 s2=>?_,λb z=>R.dom2 b z.1,λb z=>z.2⟩,q,λps' q' sk H' R' f'=>?_⟩
 .obtain⟨i,e1,e2⟩:=pat (bh.mp e);obtain⟨v,s,r⟩:=R.get i p e2;exact⟨v,bh.mpr (vat e1 s),r.keeps (aA.less o1) λ_ _ _=>rfl⟩
 .obtain⟨i1,e3,e4⟩:=pat (bh.mp e1);obtain⟨i2,e5,e6⟩:=pat (bh.mp e2);obtain⟨v1,t1,_⟩:=R.get i1 p e4;obtain⟨v2,t2,_⟩:=R.get i2 q e6;have h1:=vat e3 t1;have h2:=vat e5 t2;rw [bh.mp s1] at h1;cases h1;rw [bh.mp s2] at h2;cases h2;have:=R.dj i1 i2 p q _ e4 e6 p1 p2 t1 t2;subst this;exact iB hok (by rw [i_,e3];rfl) (by rw [i_,e5];rfl)
 .have get':∀(j:Nat) (p:PV),(dB (is.map some) ρ (ps'.map some))[j]?=some (some p)->(∃m,is[m]?=some j/\ps'[m]?=some p)\/(j∉is/\ρ[j]?=some (some p)):=λj p e=>by
   by_cases hj:j∈is
   .obtain⟨m,hm,em⟩:=IT hj;have em':is[m]?=some j:=by rw [d_ hm,em]
    obtain⟨p0,_,e0⟩:=tap em';rw [ko (is.map some) ρ (ps'.map some) j m hok (by rw [i_,em'];rfl) (by rw [length_map,sk.1,plen];exact hm) (h_.mp e0).1] at e;exact .inl ⟨m,em',bh.mp e⟩
   .rw [gn (is.map some) ρ (ps'.map some) j (λz=>by obtain⟨i,hi,e⟩:=Hx.mp z;cases e;exact hj hi)] at e;exact .inr ⟨hj,e⟩
  have ownB:∀{j:Nat}{p:PV},(dB (is.map some) ρ (ps'.map some))[j]?=some (some p)->p.isOwn=true->∃p0,ρ[j]?=some (some p0)/\p0.isOwn=true:=λ{j p} e o=>by
   rcases get' j p e with ⟨m,h1,h2⟩|⟨_,h⟩
   .obtain⟨p0,h3,h4,_⟩:=sk.at h2;obtain⟨i,h5,h6⟩:=pat h3;rw [h1] at h5;cases h5;exact⟨p0,h6,by rw [h4];exact o⟩
   .exact⟨p,h,o⟩
  have wb:∀b,Wr (dB (is.map some) ρ (ps'.map some)) σ b->Wr ρ σ b:=λb ⟨j,p,e,o,s⟩=>by
   obtain⟨p0,h1,h2⟩:=ownB e o;exact⟨j,p0,h1,h2,s⟩
  have ws:∀b,Wr (ps.map some) (vs.map some) b->Wr (ps'.map some) (vs.map some) b:=λb ⟨j,p,e,o,s⟩=>by
   have e:=bh.mp e;have hj:j<ps'.length:=by rw [sk.1];exact (h_.mp e).1
   exact⟨j,ps'[j],bh.mpr (d_ hj),by rw [<- (sk.2 j _ _ e (d_ hj)).1];exact o,s⟩
  have kp:∀b u,¬ Wr ρ σ b->H b=some u->H' b=some u:=λb u n h=>f'.kp b u (λz=>n (w1 b z)) h;have fr:Fr ρ σ H (dB (is.map some) ρ (ps'.map some)) H':=⟨kp,f'.dm,wb⟩
  refine k _ H' (.dat .non) _ q' fr ⟨⟨by rw [iA];exact R.len,λj p e=>?_,λi j p q v e1 e2 p1 p2 s1 s2=>?_,λb z=>f'.dm b (R.dom b z),λb z w=>R.sep b z (wb b w)⟩,.non⟩
  .rcases get' j p e with ⟨m,h1,h2⟩|⟨nj,h⟩
   .obtain⟨v,s,r⟩:=R'.get m p (bh.mpr h2);obtain⟨p0,_,h4⟩:=tap h1;obtain⟨v0,s0,_⟩:=R.get j p0 h4;have:=vat h1 s0;rw [bh.mp s] at this;cases this;refine⟨v,s0,r.keeps (aA.less λb z=>?_) λ_ _ _=>rfl⟩
    rcases o2 b (z.imp id (wb b)) with z|z
    .exact .inl z
    .exact .inr (ws b z)
   .obtain⟨v,s,r⟩:=R.get j p h;refine⟨v,s,r.keeps fr.keeps λow a ea=>?_⟩;subst ea;obtain⟨a',u,z1,z2⟩:=r.ref ow;cases z1;rw [z2];refine f'.kp a u (λ⟨m,x,t1,t2,t3⟩=>?_) z2;obtain⟨i,t4,t5⟩:=pat (bh.mp t1);obtain⟨w,t6,_⟩:=R.get i x t5;have:=vat t4 t6;rw [bh.mp t3] at this;cases this;exact nj (by rw [R.dj j i p x _ h t5 ow t2 s t6];exact B_ t4)
  .obtain⟨p0,h1,h2⟩:=ownB e1 p1;obtain⟨q0,h3,h4⟩:=ownB e2 p2;exact R.dj i j p0 q0 v h1 h3 h2 h4 s1 s2
end
section
variable {P:so}{w:World}{K:b_}{mg:Str->Option Value}{base:Heap}{x:Str}{st:Stmt}{N ps:List Str}{k n:Nat}
def Hg{c:FMs}{n:Nat}(h:∀as Q,c as Q->as.length=n){vs:List V}{H:Hp}{Q:VK}{E:XK}(z:spM K c vs H Q E):vs.length=n:=by
 obtain⟨A,as,Qc,R,hq,_⟩:=z;have:=R.len;rw [length_map,length_map] at this;exact this.symm.trans (h as Qc hq)
def aY.oM{c:FMs}{pp:PTS}{fs:List Nat}(D:aY K mg x st)(S:aB N ps (ai st))(hb:lH x st ps)(ln:∀as Q,c as Q->as.length=n)(h1:n=ps.length)(h2:Jw n N.length=true)(ho:∀as Q,c as Q->∀i,i∈fs ↔ ∃p:PV,as[i]?=some p/\p.isOwn=true)
  (rd:∀as Q,c as Q->pp { nx:=wB fs as Q,rt:=λr ρ=>r=.dat .non/\wB fs as Q ρ } (bv N.length as))
  (hbody:∀(f:Addr) (cdv:Value) (A:w_) (outer:List Env) (s:c_) (H:Hp) (E:XK),fJ k (A.deeper (envOfC x (ai st) s.heap.objs.size f cdv))->(A.deeper (envOfC x (ai st) s.heap.objs.size f cdv)).units+64<cLine ->
   ∃t,PSs (jR CX0 P w K mg base N x (ai st) f cdv A outer s H E).nox (aS st) t/\LS K fs t pp):Cal P w K mg base (k+1) x ps (spM K c):=by
 refine D.ok S hb (λvs H Q E h=>(Hg ln h).trans h1) λf cdv A outer s H vs Q E hr h=>?_;obtain⟨t,h3,h4⟩:=hbody f cdv A outer s H E hr hr.units;exact⟨t,h3,fnM h4 (λas Q h=>⟨HP (KU (ln as Q h)) (IL h2),ho as Q h⟩) rd h⟩
def aY.oM2{c:FMs}{pp:PTS}{fs:List Nat}(D:aY K mg x st)(S:aB N ps (ai st))(hb:lH x st ps)
  (rl:∀as Q,c as Q->as.length=n/\(∀i,i∈fs ↔ ∃p:PV,as[i]?=some p/\p.isOwn=true)/\pp { nx:=wB fs as Q,rt:=λr ρ=>r=.dat .non/\wB fs as Q ρ } (bv N.length as)) (h1:n=ps.length) (h2:Jw n N.length=true)
  (hbody:∀(f:Addr) (cdv:Value) (A:w_) (outer:List Env) (s:c_) (H:Hp) (E:XK),fJ k (A.deeper (envOfC x (ai st) s.heap.objs.size f cdv))->(A.deeper (envOfC x (ai st) s.heap.objs.size f cdv)).units+64<cLine ->
   ∃t,PSs (jR CX0 P w K mg base N x (ai st) f cdv A outer s H E).nox (aS st) t/\LS K fs t pp):Cal P w K mg base (k+1) x ps (spM K c) :=
 D.oM S hb (λas Q h=>(rl as Q h).1) h1 h2 (λas Q h=>(rl as Q h).2.1) (λas Q h=>(rl as Q h).2.2) hbody
end
section
variable {X:Cx}{pos:Pos}
abbrev FE(i j k:Nat):TGs:=pQ (bN i) (pQ (bN j) (pQ (bN k) DX))
noncomputable def Dr(i j k:Nat)(ta:TA):TS:=λD σ H=>ta σ H λvs H1=>FE i j k vs σ H1 D.nx
def AT{i j k:Nat}{x y z:Str}{a b c:Expr}{ta:TA}{px py pz pt:Pos}{kt k2 pt2}(hc:X.calm=true)(hN:X.N.Nodup)(hi:X.N[i]?=some x)(hj:X.N[j]?=some y)(hk:X.N[k]?=some z)(hij:i≠j/\i≠k/\j≠k)
  (hx:X.env.scope.names.lookup x=some .local) (hy:X.env.scope.names.lookup y=some .local) (hz:X.env.scope.names.lookup z=some .local) (ha:PA X [a,b,c] ta)
  (hw:swappedStores [.Tuple [.Name x px,.Name y py,.Name z pz] kt pt] (.Tuple [a,b,c] k2 pt2) X.env=pure (some [x,y,z]))
  (hs:swapsWithSole [.Tuple [.Name x px,.Name y py,.Name z pz] kt pt] (.Tuple [a,b,c] k2 pt2) pos.line X.env=pure false:=by rfl) :
  PS X (.Assign [.Tuple [.Name x px,.Name y py,.Name z pz] kt pt] (.Tuple [a,b,c] k2 pt2) pos) (Dr i j k ta):=by
 intro pins s σ H D I h;rw [exec_Assign_arm];refine cy (HI ?_);rw [hs];refine cy (l_ ?_);rw [if_neg (by decide)];refine cy (Tuple_ (thn (ha _ pins s σ H _ I h) λus s1 ⟨vs,H1,I1,r1,q1⟩=>?_));obtain⟨u,t1,rfl,v,t2,rfl,w,t3,rfl,e1,q1⟩:=q1;subst e1
 obtain⟨u1,u2,u3,rfl,ru,rv,rw'⟩:∃u1 u2 u3,us=[u1,u2,u3]/\bS u u1/\bS v u2/\bS w u3:=by
  cases r1 with
  | cons p q =>
   cases q with
   | cons p' q' =>
    cases q' with
    | cons p2 q2 =>
     cases q2;exact⟨_,_,_,rfl,p,p',p2⟩
 refine Ii ?_ (by show 3<=sizeLine;decide);have I2:Inv X pins σ H1 { s1 with heap:=s1.heap.push { cls:=.type "tuple",data:=.seq [u1,u2,u3].toArray } }:=I1.kept (t':=s1.toks) λb o e=>f_ _ e;rw [hw];refine cy (l_ ?_);show wpAny (model X.prog X.w) X.A (do rule "assign.swapped-stores";let items <- unpackItems (.ref s1.heap.objs.size) 3 none;assignInOrder [λv=>bindName X.env z v,λv=>bindName X.env y v,λv=>bindName X.env x v] items.reverse;pure Flow.next) _ _ _
 refine cy (wpAny_rule (cy (unpackItems_tuple (items:=#[u1,u2,u3]) (I.ok.hd hc) (IsTup.new s1.heap _) λh' hx'=>?_)));have I3:=I2.kept (h':=h') (t':=s1.toks) λb o e=>hx' b o (Hj (k_ e)) e;show wpAny _ _ (assignInOrder [λv=>bindName X.env z v,λv=>bindName X.env y v,λv=>bindName X.env x v] [u3,u2,u1] >>= λ_=>pure Flow.next) _ _ _;refine cy (Jy (Kx (et I3 hN hk (.inl hz) rw' (λs2 I4=>?_) (.inr hz))))
 refine Jy (Kx (et I4 hN hj (.inl hy) rv (λs3 I5=>?_) (.inr hy)));refine Jy (Kx (et I5 hN hi (.inl hx) ru (λs4 I6=>assignInOrder_nil (l_ ?_)) (.inr hx)));refine⟨_,H1,I6,?_⟩;rw [set_comm _ _ (HL hij.1),set_comm _ _ (HL hij.2.1),set_comm _ _ (HL hij.2.2)];exact q1
end
section
variable {K:b_}{fs:List Nat}{ta:TA}{pa:PTA}{i j k:Nat}
abbrev Ds(i j k:Nat):wu:=n4 (cK i) (n4 (cK j) (n4 (cK k) zW))
noncomputable def Dt(i j k:Nat)(pa:PTA):PTS:=λE ρ=>pa ρ λas ρ1=>match avD as with
 | some ds=>Ds i j k ds ρ1 E.nx
 | none=>False
def AU(hi:fs.contains i=false)(hj:fs.contains j=false)(hk:fs.contains k=false)(h:LAs K ta pa):LS K fs (Dr i j k ta) (Dt i j k pa):=λfx A R H0 ρ σ H D D' hf r F q k1 k2 k3 k4 =>
 h A ρ σ H _ _ r q λvs H1 as ρ1 q1 f1 r1 o1=>by
  split at q1
  .rename_i ds ed;exact cr (az (i:=i) hi) (cr (az (i:=j) hj) (cr (az (i:=k) hk) km)) fx A R H0 ρ1 σ H1 ds vs _ _ hf (F.fr f1) r1 (o1.avD ed) q1 λρ2 σ2 q2 r2 F2 w2=>k1 ρ2 σ2 H1 q2 r2 F2
  .exact q1.elim
end
section
variable {K:b_}{A:Addr->Prop}{ρ:PSt}{σ:St}{H H':Hp}
inductive Bn:D->Prop
 | fl {d:D}:d.fl=true->Bn d
 | tup {ds:List D}:(∀d∈ds,Bn d)->Bn (.tup ds)
def FV.loanT{O O':Addr->Prop}{H:Hp}(hO:∀b,O' b->O b\/∃o,H b=some o/\∀zs,o≠.tup zs){d:D}(h:Bn d):∀v,FV K O H v d->FV K O' H v d:=by
 induction h with
 | fl hf=>exact λv f=>FV.flat f hf
 | @tup ds hs ih =>
  intro v f
  cases f with
  | tup nn e f =>
   refine .tup (λz=>?_) e (f.each ih)
   rcases hO _ z with z|⟨o,e2,k⟩
   .exact nn z
   .rw [e] at e2;cases e2;exact k _ rfl
def Rel.addA(R:Rel K A ρ σ H)(g:Gr H H'){a:Addr}(h:H a=none)(h1:H' a≠none):Rel K (cJ A a) ρ σ H':=by
 have k:aA (OO A ρ σ) H (OO (cJ A a) ρ σ) H':=λb u n e=>by
  refine⟨λz=>?_,g b u e⟩
  rcases z with (z|z)|z
  .exact n (.inl z)
  .rw [z,h] at e;cases e
  .exact n (.inr z)
 refine⟨R.len,λi q e=>?_,R.dj,λb z=>?_,λb z w=>?_⟩
 .obtain⟨v,s,r⟩:=R.get i q e;refine⟨v,s,r.keeps k λow b eb=>?_⟩;obtain⟨b',u,e1,e2⟩:=r.ref ow;rw [eb] at e1;cases e1;rw [e2,g _ _ e2]
 .rcases z with z|z
  .have:=R.dom b z
   cases e:H b with
   | none=>exact absurd e this
   | some o=>rw [g _ _ e];exact nofun
  .rw [z];exact h1
 .rcases z with z|z
  .exact R.sep b z w
  .obtain⟨i,p,e,o,s⟩:=w;obtain⟨v,s',r⟩:=R.get i p e;rw [s] at s';cases s';obtain⟨b',u,e1,e2⟩:=r.ref o;cases e1;rw [z,h] at e2;cases e2
noncomputable def Du(pe:PTE):PTE:=λρ Q=>pe (frzA ρ) λp _=>match p with
 | .odc ks ds=>(∀d∈ds,Bn d)/\Q (.odc ks ds) ρ
 | _=>False
def xI{te:TE}{pe:PTE}(h:LE K te pe):LE K te (Du pe):=λA ρ σ H Q Q' R q k=>h A _ σ H _ _ R.frzA q λv H1 p ρ1 q1 f1 o1=>by
 split at q1
 .rename_i ks ds;obtain⟨hn,q1⟩:=q1;have g:Gr H H1:=λb o e=>f1.kp b o kE e;obtain⟨a,kvs,rfl,na,e0,e1,m,_,f⟩:=o1;have R1:Rel K (cJ A a) ρ σ H1:=R.addA g e0 (by rw [e1];exact nofun);refine k _ H1 _ ρ q1 g.fr ⟨a,kvs,rfl,na,e0,e1,m,R1,f.each λd hd=>FV.loanT (λb z=>?_) (hn d hd)⟩
  rcases z with z|⟨i,p,e3,ow,s1⟩
  .exact .inl (.inl z)
  .refine .inr ?_;obtain⟨v',s',r⟩:=R1.get i p e3;rw [s1] at s';cases s'
   cases p with
   | dat d=>cases ow
   | own es =>
    obtain⟨a,xs,e,g1,f⟩:=r;cases e;exact⟨_,g1,nofun⟩
   | ins c ns ds =>
    obtain⟨a,dx,fs,e,g1,m,f⟩:=r;cases e;exact⟨_,g1,nofun⟩
   | odc ks ds =>
    obtain⟨a,kvs,e,g1,m,f⟩:=r;cases e;exact⟨_,g1,nofun⟩
 .exact q1.elim
noncomputable def GB(i:Nat):PA1:=λρ Q=>match ρ[i]? with
 | some (some (.dat d))=>Q (.v d) ρ
 | some (some (.odc _ _))=>Q (.sl i) ρ
 | _=>False
def iL{i:Nat}:LA1 K (bC i) (GB i):=by
 intro A ρ σ H Q Q' R q k;unfold GB at q
 split at q
 .rename_i d e;obtain⟨v,s,r⟩:=R.get i _ e;exact⟨v,s,k v H _ ρ q (Fr.refl _ _ _) R r⟩
 .rename_i e;obtain⟨v,s,r⟩:=R.get i _ e;exact⟨v,s,k v H _ ρ q (Fr.refl _ _ _) R s⟩
 .exact q.elim
end
section
variable {prog:so}{w:World}{A:w_}{E:Value->c_->Prop}{s:c_}{l:Addr}{xs:Array (Int×Tok)}
def qq{Q:Value->c_->Prop}(hl:s.heap.IsTuple l (intItems xs))
  (h:∀s₂:c_,s₂={ s with heap:=s.heap.push { cls:=.type "tuple_iterator",data:=.fields #[.ref l,.int 0 0] } } ->
   (s₂.heap.IsTupleIter s.heap.objs.size l 0/\s₂.heap.IsTuple l (intItems xs))->(∀b∈[s.heap.objs.size,l],b<s₂.heap.objs.size)->l≠s.heap.objs.size->Q (.ref s.heap.objs.size) s₂) :
  wpAny (model prog w) A (pyIter (.ref l)) Q E s:=by
 have hlt:l<s.heap.objs.size:=by obtain⟨_,e,_⟩:=hl;exact k_ e
 refine Kt hl (h _ rfl ⟨⟨_,p_ _ rfl,rfl,rfl⟩,hl.push _⟩ (λb hb=>?_) (Hj hlt));show b<(s.heap.push _).objs.size;rw [ID]
 rcases mem_cons.mp hb with rfl|hb
 .exact HX _
 .rcases mem_cons.mp hb with rfl|hb
  .exact JY hlt
  .cases hb
def sV{Q:Value->c_->Prop}(hh:A.handled=none)(hl:s.heap.IsTuple l (intItems xs))(hne:0<xs.size)
  (h:∀v h' tk,(intItems xs)[argBest (λi j=>decide (numAt xs i > numAt xs j)) (xs.size - 1)]?=some v->(∀b o,s.heap.get? b=some o->h'.get? b=some o)->Q v { s with heap:=h',toks:=tk }) :
  wpAny (model prog w) A (call (.builtin "max") [.ref l]) Q E s:=by
 refine call_max_walk (qq hl λs₂ e st hfp hlI=>?_);subst e;refine⟨_,_,_,_,_,_,_,rfl,Walks.tuple (A:=A.in1) hh _ l hlI (intItems xs),st,hfp,by simpa [intItems] using hne,CmpOf.ints_gt (numAt xs) (λ_ _=>intItems_at),λv h' tk hP hk=>?_⟩;exact h v h' tk (by simpa [intItems] using hP) (λb o e=>hk b o (λz=>absurd (k_ e) (by rw [vx.mp z];exact HN _)) (f_ _ e))
end
section
variable {X:Cx}{K:b_}
noncomputable def AW(K:b_):List V->Hp->VK->Prop:=λxs H Q=>∃(p:Addr) (ns:List Int),xs=[.ref p]/\(SqL K H p (ns.map V.int)\/SqT K H p (ns.map V.int))/\0<ns.length/\∀m:Int,m∈ns->(∀a∈ns,a<=m)->Q (.int m) H
def Dv(K:b_)(e:X.K=K)(hc:X.calm=true):bD X (.builtin "max") (AW K):=by
 intro pins s σ H xs us Q I r h;obtain⟨p,ns,rfl,hS,hne,q⟩:=h
 rcases hS with hS|hS
 .exact CQ K e hc pins s σ H _ us Q I r ⟨p,ns,rfl,hS,hne,q⟩
 .subst e;obtain⟨u,rfl,ru⟩:=fR r;cases (show u=o_ p from ru);obtain⟨its,rv,pl,hz⟩:=I.tuple hS;have hi:=cW rv;have hl:s.heap.IsTuple p its.toArray:=pl;obtain⟨ys,e⟩:=hi.allInts.items;have hns:ns=ys.toList.map (·.1):=by rw [<- hi.numsOf,<- nums_intItems,<- e]
  have hsz:0<ys.size:=by
   have h3:=hne;rw [hns,length_map,HD] at h3;exact h3
  rw [e] at hl;refine sV (by exact I.ok.hd hc) hl hsz λv h' tk hv hk=>?_;obtain⟨t,rfl⟩:=intItems_at hv;obtain⟨h1,h2⟩:=argBest_gt (numAt ys) (ys.size - 1)
  refine⟨.int _,H,I.kept (t':=tk) hk,⟨t,rfl⟩,q _ ?_ λa ha=>?_⟩
  .rw [hns,numAt_eq];exact getD_mem (by rw [length_map,HD];omega)
  .rw [hns] at ha;obtain⟨j,hj,rfl⟩:=mem_getD ha;rw [length_map,HD] at hj;rw [<- numAt_eq];exact h2 j (by omega)
noncomputable def FF:FN:=λas Q=>∃(d:D) (ns:List Int),as=[d]/\fW d (ns.map .int)/\0<ns.length/\∀m:Int,m∈ns->(∀a∈ns,a<=m)->Q (.dat (.int m))
def AX:LC K (AW K) FF:=by
 intro O H xs as Q Q' dom fs q k;obtain⟨d,ns,rfl,hd,h0,q⟩:=q
 cases fs with
 | cons a b =>
  cases b
  rcases hd with rfl|rfl
  .obtain⟨p,ys,rfl,e1,f1⟩:=a.lst;rw [f1.ints] at e1;exact⟨p,ns,rfl,.inl (SqL.of e1),h0,λm h1 h2=>k _ H _ (q m h1 h2) (Gr.refl _) (.int _)⟩
  .obtain⟨p,ys,rfl,_,e1,f1⟩:=a.tup;rw [f1.ints] at e1;exact⟨p,ns,rfl,.inr (SqT.of e1),h0,λm h1 h2=>k _ H _ (q m h1 h2) (Gr.refl _) (.int _)⟩
end
noncomputable def xJ(kds:List (Key×D))(k:Key)(d:D):List (Key×D) :=
 if (kds.any λp=>decide (p.1=k))=true then kds.map (λp=>if p.1=k then (p.1,d) else p) else kds++[(k,d)]
noncomputable def KD(K:b_)(O:Addr->Prop)(H:Hp)(kvs:List (Key×V))(kds:List (Key×D)):Prop:=kvs.map v_=kds.map v_/\FVs K O H (kvs.map Hv) (kds.map Hv)
section
variable {K:b_}{O O':Addr->Prop}{H H':Hp}{kvs:List (Key×V)}{kds:List (Key×D)}
def KD.len(h:KD K O H kvs kds):kvs.length=kds.length:=by have:=congrArg KC h.1;rwa [length_map,length_map] at this
theorem KD.map(k:Key){v:V}{d:D}(f:FV K O H v d):∀{kvs:List (Key×V)}{kds:List (Key×D)},KD K O H kvs kds ->
  KD K O H (kvs.map λp=>if p.1=k then (p.1,v) else p) (kds.map λp=>if p.1=k then (p.1,d) else p)
 | [],[],_=>⟨rfl,.nil⟩
 | [],_::_,h=>nomatch h.1
 | _::_,[],h=>nomatch h.1
 | p::r,q::s,⟨h1,h2⟩=>by
  rw [map_cons,map_cons] at h1 h2;injection h1 with e1 e2
  cases h2 with
  | cons a b =>
   obtain⟨i1,i2⟩:=KD.map k f (kvs:=r) (kds:=s) ⟨e2,b⟩
   by_cases z:p.1=k
   .refine⟨?_,?_⟩
    .rw [map_cons,map_cons,map_cons,map_cons,i1,if_pos z,if_pos (e1.symm.trans z)];exact congrArg (·::_) e1
    .rw [map_cons,map_cons,map_cons,map_cons,if_pos z,if_pos (e1.symm.trans z)];exact .cons f i2
   .refine⟨?_,?_⟩
    .rw [map_cons,map_cons,map_cons,map_cons,i1,if_neg z,if_neg λy=>z (e1.trans y)];exact congrArg (·::_) e1
    .rw [map_cons,map_cons,map_cons,map_cons,if_neg z,if_neg λy=>z (e1.trans y)];exact .cons a i2
def AY(k:Key){α β:Type}{l:List (Key×α)}{m:List (Key×β)}(h:l.map v_=m.map v_):(l.any λp=>decide (p.1=k))=m.any λp=>decide (p.1=k):=by
 have e:=congrArg (List.any · λx=>decide (x=k)) h;have e:(l.map v_).any (λx=>decide (x=k))=(m.map v_).any (λx=>decide (x=k)):=e;rw [any_map,any_map] at e;exact e
def KD.put{k:Key}{v:V}{d:D}(h:KD K O H kvs kds)(f:FV K O H v d):KD K O H (sD kvs k v) (xJ kds k d):=by
 unfold sD xJ;rw [AY k h.1]
 split
 .exact KD.map k f h
 .refine⟨by rw [map_append,map_append,h.1];rfl,?_⟩;rw [map_append,map_append];exact h.2.append (.cons f .nil)
end
section
variable {X:Cx}{K:b_}{O:Addr->Prop}{H:Hp}{td ty:TE}{o i:Expr}{pos:Pos}
noncomputable def vI:R2:=λx y H Q=>∃a v,x=.ref a/\wt H a y (some v)/\Q v H
def gu(hu:X.A.units+64<cLine)(ho:PE X o td)(hi:PE X i ty)(hs:EF i):PE X (.Subscript o i pos) (tOp vI td ty):=zM (by omega) ho hi hs
noncomputable def Bo:D->Option Key
 | .int i=>some (.inl i)
 | .str w=>some (.inr (S w))
 | _=>none
def FV.key{v:V}{d:D}{k:Key}(h:FV K O H v d)(e:Bo d=some k):v=kV k:=by
 cases h <;> first|(cases e;done)|(cases e;rfl)
def FVc.fdc{v:V}{ks:List Key}{ds:List D}(h:FVc K O H v (.fdc ks ds)):∃a o kvs,v=.ref a/\H a=some (.frz o (.dK kvs))/\kvs.map v_=ks/\FVs K O H (kvs.map Hv) ds:=by
 rcases h with h|⟨_,_,_,_,e,_⟩|⟨_,_,_,_,_,_,_,e,_⟩|⟨_,_,_,_,_,e,_⟩
 .cases h with
  | fdc n e m f=>exact⟨_,_,_,rfl,e,m,f⟩
 .cases e
 .cases e
 .cases e
noncomputable def Dw:F2
 | .dic ks ds,d,Q=>∃k,Bo d=some k/\∃r,dE ks ds k=some r/\Q (.dat r)
 | .fdc ks ds,d,Q=>∃k,Bo d=some k/\∃r,dE ks ds k=some r/\Q (.dat r)
 | _,_,_=>False
def i6:LO K vI Dw:=by
 intro O H x y a b Q Q' dom fx fy q k;unfold Dw at q
 split at q
 .obtain⟨kk,ek,r,hr,q⟩:=q;obtain⟨p,kvs,rfl,e,m,f⟩:=fx.dic;have ey:y=kV kk:=(fy.fv (by intro _ z;rw [z] at ek;cases ek) (by intro _ _ _ z;rw [z] at ek;cases ek) (by intro _ _ z;rw [z] at ek;cases ek)).key ek;subst ey
  rcases kF kk m f with ⟨_,h2⟩|⟨v,d,h1,h2,fd⟩
  .rw [hr] at h2;cases h2
  .rw [hr] at h2;cases h2;exact⟨p,v,rfl,by have:=wt.k (k:=kk) e;rwa [h1] at this,k _ H _ q (Gr.refl _) fd⟩
 .obtain⟨kk,ek,r,hr,q⟩:=q;obtain⟨p,ob,kvs,rfl,e,m,f⟩:=fx.fdc;have ey:y=kV kk:=(fy.fv (by intro _ z;rw [z] at ek;cases ek) (by intro _ _ _ z;rw [z] at ek;cases ek) (by intro _ _ z;rw [z] at ek;cases ek)).key ek;subst ey
  rcases kF kk m f with ⟨_,h2⟩|⟨v,d,h1,h2,fd⟩
  .rw [hr] at h2;cases h2
  .rw [hr] at h2;cases h2;exact⟨p,v,rfl,by have:wt H p (kV kk) (nr kvs kk):=.inl ⟨kvs,kk,.inr ⟨ob,e⟩,rfl,rfl⟩;rwa [h1] at this,k _ H _ q (Gr.refl _) fd⟩
 .exact q.elim
noncomputable def GC(neg:Bool):R2:=λx y H Q=>∃a kvs k,y=.ref a/\x=kV k/\H a=some (.dK kvs)/\Q (.bl (if neg then !(nr kvs k).isSome else (nr kvs k).isSome)) H
def rT(hu:X.A.units+64<cLine):OpR X (compareOp .NotIn) (GC true):=by
 intro pins s σ H x y v u Q I rx ry h;obtain⟨a,kvs,k,rfl,rfl,e,q⟩:=h;cases (show u=o_ a from ry);exact zJ (by omega) I (wt.k e) rx λs' I'=>⟨.bl _,H,I',rfl,q⟩
noncomputable def GD(neg:Bool):F2
 | d,.dic ks ds,Q=>∃k,Bo d=some k/\Q (.dat (.bl (if neg then !(dE ks ds k).isSome else (dE ks ds k).isSome)))
 | _,_,_=>False
def yU{neg:Bool}:LO K (GC neg) (GD neg):=by
 intro O H x y a b Q Q' dom fx fy q k;unfold GD at q
 split at q
 .obtain⟨kk,ek,q⟩:=q;obtain⟨p,kvs,rfl,e,m,f⟩:=fy.dic;have ey:x=kV kk:=(fx.fv (by intro _ z;rw [z] at ek;cases ek) (by intro _ _ _ z;rw [z] at ek;cases ek) (by intro _ _ z;rw [z] at ek;cases ek)).key ek;subst ey;refine⟨p,kvs,kk,rfl,rfl,e,k _ H _ q (Gr.refl _) ?_⟩
  rcases kF kk m f with ⟨h1,h2⟩|⟨v,d,h1,h2,_⟩
  .rw [h1,h2];exact .bl _
  .rw [h1,h2];exact .bl _
 .exact q.elim
end
noncomputable def mW(l:List (Key×D))(k:Key):Option D:=(l.find? λp=>decide (p.1=k)).map (·.2)
def fX(l:List (Key×D))(k:Key):dE (l.map v_) (l.map Hv) k=mW l k:=by
 unfold dE mW;rw [List.zip_map',find?_map]
 cases e:l.find? ((λp=>decide (p.1=k)) ∘ λa=>(a.1,a.2)) with
 | none=>rw [show (l.find? λp=>decide (p.1=k))=none from e];rfl
 | some p=>rw [show (l.find? λp=>decide (p.1=k))=some p from e];rfl
noncomputable def sW(kds:List (Key×D))(k:Key):List (Key×D):=kds.filter λp=>decide (p.1≠k)
section
variable {K:b_}{A O:Addr->Prop}{ρ:PSt}{σ:St}{H:Hp}{fs:List Nat}{te tk:TE}{pe pk:PTE}
theorem KD.drop(k:Key):∀{kvs:List (Key×V)}{kds:List (Key×D)},KD K O H kvs kds->KD K O H (p7 kvs k) (sW kds k)
 | [],[],_=>⟨rfl,.nil⟩
 | [],_::_,h=>nomatch h.1
 | _::_,[],h=>nomatch h.1
 | p::r,q::s,⟨h1,h2⟩=>by
  rw [map_cons,map_cons] at h1 h2;injection h1 with e1 e2
  cases h2 with
  | cons a b =>
   obtain⟨i1,i2⟩:=KD.drop k (kvs:=r) (kds:=s) ⟨e2,b⟩;unfold p7 sW at i1 i2 ⊢
   by_cases z:p.1=k
   .rw [filter_cons,filter_cons,decide_eq_false (show ¬ p.1≠k from λy=>y z),decide_eq_false (show ¬ q.1≠k from λy=>y (e1.symm.trans z))];exact⟨i1,i2⟩
   .rw [filter_cons,filter_cons,decide_eq_true (show p.1≠k from z),decide_eq_true (show q.1≠k from λy=>z (e1.trans y))]
    refine⟨?_,?_⟩
    .rw [if_pos rfl,if_pos rfl,map_cons,map_cons,i1];exact congrArg (·::_) e1
    .rw [if_pos rfl,if_pos rfl,map_cons,map_cons];exact .cons a i2
def Rel.odcAt(R:Rel K A ρ σ H){i:Nat}{kds:List (Key×D)}(e:ρ[i]?=some (some (.odc (kds.map v_) (kds.map Hv)))):∃a kvs,σ[i]?=some (some (.ref a))/\H a=some (.dK kvs)/\KD K (OO A ρ σ) H kvs kds:=by
 obtain⟨v,s,a,kvs,rfl,g,m,f⟩:=R.get i _ e;exact⟨a,kvs,s,g,m,f⟩
def Rel.odcw(R:Rel K A ρ σ H){i:Nat}{ks:List Key}{ds:List D}{kds:List (Key×D)}{a:Addr}{kvs:List (Key×V)}(e:ρ[i]?=some (some (.odc ks ds)))(es':σ[i]?=some (some (.ref a)))(f:KD K (OO A ρ σ) H kvs kds) :
  Rel K A (ρ.set i (some (.odc (kds.map v_) (kds.map Hv)))) σ (upd H a (.dK kvs))/\Fr ρ σ H (ρ.set i (some (.odc (kds.map v_) (kds.map Hv)))) (upd H a (.dK kvs)):=by
 have wa:OO A ρ σ a:=.inr ⟨i,_,e,rfl,es'⟩;exact R.write (q:=.odc _ _) e rfl rfl es' ⟨a,kvs,rfl,aw,f.1,f.2.keeps λb u n h=>⟨n,by rw [ak (λz=>n (by rw [z];exact wa))];exact h⟩⟩
def FG:PTE:=λρ Q=>Q (.odc [] []) ρ
def vJ:LE K uy FG:=λA ρ σ H Q Q' R q k=>λp hp =>
 k _ _ (.odc [] []) ρ q (Fr.new hp) ⟨p,[],rfl,λz=>R.dom p z hp,hp,aw,rfl,R.growA hp,.nil⟩
noncomputable def Dx(i:Nat)(pe pk:PTE):PTS:=λE ρ=>pe ρ λp ρ1=>(match ρ1[i]? with
 | some (some (.odc _ _))=>pk ρ1 λkp ρ2=>(match ρ2[i]?,kp with
  | some (some (.odc ks ds)),.dat d=>∃kds:List (Key×D),ks=kds.map v_/\ds=kds.map Hv/\kds.length<1000000/\∃k,Bo d=some k/\E.nx (ρ2.set i (some (.odc ((xJ kds k p.d).map v_) ((xJ kds k p.d).map Hv))))
  | _,_=>False)
 | _=>False)
def vK{i:Nat}(h:LE K te pe)(hk:LE K tk pk):LS K fs (zL (bC i) tk te) (Dx i pe pk):=λfx A R H0 ρ σ H D D' hf r F q k1 k2 k3 k4=>h A ρ σ H _ _ r q λv H1 p ρ1 q1 f1 o1=>by
 obtain⟨R1,fv⟩:=o1.frz
 split at q1
 .rename_i ks0 ds0 e0;obtain⟨v0,s0,a0,kvs0,rfl,g0,_⟩:=R1.get i _ e0;refine⟨_,s0,hk A ρ1 σ H1 _ _ R1 q1 λw H2 kp ρ2 q2 f2 o2=>?_⟩
  split at q2
  .rename_i ks ds d e2;obtain⟨kds,rfl,rfl,hl,kk,ek,q2⟩:=q2;obtain⟨R2,fw⟩:=o2;have ew:w=kV kk:=FV.key fw ek;subst ew;obtain⟨a,kvs,s,g,f⟩:=R2.odcAt e2;rw [s0] at s;cases s;obtain⟨R3,f3⟩:=R2.odcw e2 s0 (f.put (fv.keeps f2.keeps) (k:=kk));exact⟨a0,_,rfl,Cf.k g (s_ (by rw [f.len];exact hl) (sz _ (g_ _))),k1 _ _ _ q2 R3 (((F.fr f1).fr f2).fr f3)⟩
  .exact q2.elim
 .exact q1.elim
noncomputable def Dy(i:Nat)(pk:PTE):PTE:=λρ Q=>match ρ[i]? with
 | some (some (.odc _ _))=>pk ρ λkp ρ1=>(match ρ1[i]?,kp with
  | some (some (.odc ks ds)),.dat d=>∃kds:List (Key×D),ks=kds.map v_/\ds=kds.map Hv/\∃k,Bo d=some k/\∃r,mW kds k=some r/\Q (.dat r) (ρ1.set i (some (.odc ((sW kds k).map v_) ((sW kds k).map Hv))))
  | _,_=>False)
 | _=>False
def AZ{i:Nat}(hk:LE K tk pk):LE K (yr (bC i) tk) (Dy i pk):=λA ρ σ H Q Q' R q k=>by
 unfold Dy at q
 split at q
 .rename_i ks0 ds0 e0;obtain⟨v0,s0,a0,kvs0,rfl,g0,_⟩:=R.get i _ e0;refine⟨_,s0,a0,rfl,.inl ⟨kvs0,.inl g0⟩,hk A ρ σ H _ _ R q λw H1 kp ρ1 q1 f1 o1=>?_⟩
  split at q1
  .rename_i ks ds d e1;obtain⟨kds,rfl,rfl,kk,ek,r,hr,q1⟩:=q1;obtain⟨R1,fw⟩:=o1;have ew:w=kV kk:=FV.key fw ek;subst ew;obtain⟨a,kvs,s,g,f⟩:=R1.odcAt e1;rw [s0] at s;cases s
   rcases kF kk f.1 f.2 with ⟨_,h2⟩|⟨v,d',h1,h2,fd⟩
   .rw [fX,hr] at h2;cases h2
   .rw [fX,hr] at h2;cases h2;obtain⟨R2,f2⟩:=R1.odcw e1 s0 (f.drop kk);exact⟨kvs,kk,v,g,rfl,h1,k _ _ _ _ q1 (f1.trans f2) ⟨R2,fd.keeps f2.keeps⟩⟩
  .exact q1.elim
 .exact q.elim
end
section
variable {X:Cx}{pins:List (Addr×Obj)}{σ:St}{H:Hp}{s:c_}{a:Addr}{o:Obj}{kvs:List (Key×V)}
def Inv.freeze(I:Inv X pins σ H s)(e:H a=some (.dK kvs))(ho:s.heap.get? a=some o):Inv X pins σ (upd H a (.frz o (.dK kvs))) s:=by
 have mu:Mut (H a):=by rw [e];exact trivial
 have ne:∀b u,H b=some u->(∀l,u≠.dK l)->b≠a:=λb u h n z=>by rw [z,e] at h;exact n _ (we h).symm
 refine I.un (t':=s.toks) (Un.write mu (.inl rfl) (λ_ _ _ q=>q) ⟨o,ho⟩) (HOk.write I.hok mu (.inl rfl) (λ_ _ _ q=>q) ⟨o,ho⟩ ⟨ho,?_⟩);exact (I.hok a _ e).stay (λ_ _ _ q=>q) (λb q=>by rw [ak (ne b _ q nofun)];exact q) λb xs q=>by rw [ak (ne b _ q nofun)];exact q
def Inv.thaw(I:Inv X pins σ H s)(e:H a=some (.frz o (.dK kvs)))(nb:∀o u,X.H₀ a≠some (.frz o u)):Inv X pins σ (upd H a (.dK kvs)) s:=by
 have nn:∀b,H b=none->b≠a:=λb h z=>by rw [z,e] at h;cases h
 have hown:∀b c,H b=some (.own c)->upd H a (.dK kvs) b=some (.own c):=λb c q=>by
  rw [ak λz=>by rw [z,e] at q;injection q with q;injection q];exact q
 have htup:∀b xs,H b=some (.tup xs)->upd H a (.dK kvs) b=some (.tup xs):=λb xs q=>by
  rw [ak λz=>by rw [z,e] at q;injection q with q;injection q];exact q
 have hb:Un X.fs X.ex X.H₀ (upd H a (.dK kvs)) X.s₀.heap s.heap:=by
  refine⟨I.base.keep,I.base.slot,λb ob q n hx=>?_,I.base.there,λb xs q=>htup b xs (I.base.tups b xs q),λb ob u q=>?_,λb ps q=>?_⟩
  .have:=I.base.free b ob q n hx;rw [ak (nn b this)];exact this
  .by_cases z:b=a
   .rw [z] at q;exact absurd q (nb _ _)
   .rw [ak z];exact I.base.frzs b ob u q
  .obtain⟨m,h⟩:=I.base.tbls b ps q;refine⟨m,?_⟩;rw [ak λz=>by rw [z,e] at h;injection h with h;injection h];exact h
 refine⟨I.ok,I.os,I.bare,hb,I.loc,I.cell,?_,λx c q=>?_,λp hp=>?_,λb u q=>?_,I.len⟩
 .rw [ak (nn _ I.free)];exact I.free
 .rw [ak (nn _ (I.freeC x c q))];exact I.freeC x c q
 .obtain⟨h1,h2,h3⟩:=I.pin p hp;exact⟨h1,by rw [ak (nn _ h2)];exact h2,h3⟩
 .by_cases z:b=a
  .subst z;rw [aw] at q;injection q with q;subst q;have h:s.heap.get? b=some o/\aW X.prog X.w H s.heap b (.dK kvs):=I.hok b _ e;exact h.2.stay (λ_ _ _ q=>q) (λc q=>hown c b q) htup
  .rw [ak z] at q;exact (I.hok b u q).stay (λ_ _ _ q=>q) (λc q=>hown c b q) htup
def Inv.dkObj(I:Inv X pins σ H s)(e:H a=some (.dK kvs)):∃o,s.heap.get? a=some o:=by
 obtain⟨_,_,vs,_,o,_,_,ho,_⟩:=wZ I.hok e;exact⟨o,ho⟩
noncomputable def GE(te:TE):TE:=λσ H Q=>∃a kvs,H a=some (.dK kvs)/\∀o,te σ (upd H a (.frz o (.dK kvs))) λv H1=>H1 a=some (.frz o (.dK kvs))/\Q v (upd H1 a (.dK kvs))
def Dz{e:Expr}{te:TE}(he:PE X e te):PE X e (GE te):=λpins s σ H Q I ⟨a,kvs,ea,q⟩=>by
 obtain⟨o,ho⟩:=I.dkObj ea;have nb:∀o u,X.H₀ a≠some (.frz o u):=λo u z=>by have:=I.base.frzs a o u z;rw [ea] at this;cases this
 exact thn (he pins s σ _ _ (I.freeze ea ho) (q o)) λu s1 ⟨v,H1,I1,r,e1,q1⟩=>⟨v,_,I1.thaw e1 nb,r,q1⟩
end
noncomputable def Itd(a:Addr)(o:Obj)(kvs:List (Key×V)):It :=
 ⟨λi H=>H a=some (.frz o (.dK kvs))/\i<kvs.length,λi H x H'=>H'=H/\∃p,kvs[i]?=some p/\x=kV p.1,λi H=>H a=some (.frz o (.dK kvs))/\kvs.length<=i⟩
theorem kK{α β:Type}{F:α->β->Prop}:∀{l:List α}{m:List β},Paired F l m->∀{i:Nat}{p:α}{q:β},l[i]?=some p->m[i]?=some q->F p q
 | _,_,.nil,_,_,_,h,_=>by simp at h
 | _,_,.cons r t,0,_,_,h,k=>by simp at h k;subst h k;exact r
 | _,_,.cons r t,i+1,_,_,h,k=>kK t (by simpa using h) (by simpa using k)
def vL{P:so}{w:World}{K:b_}{tg:Expr}{es:Array KR}{ep:Nat}(a it:Addr)(o:Obj)(kvs:List (Key×V))(hd:o.data=.dict es ep):zp P w K tg (Itd a o kvs) [it] it (λi h=>h.IsKeyIter it a i kvs.length ep) where
 mem:=by simp
 obj:=λi h st b hb=>by
  have e:b=it:=by simpa using hb
  subst e;obtain⟨o,e,c,d⟩:=st;exact⟨o,e,λv z=>by rw [d] at z;cases z⟩
 keep:=λi h h' st k=>st.at λo e=>k it (by simp) o e
 item:=by
  intro X hP hw hK hc i pins s σ H E I hf st hg;subst hP hw hK;obtain⟨hq,hi⟩:=hg;obtain⟨ho,hk⟩:=(show s.heap.get? a=some o/\aW X.prog X.w H s.heap a (.dK kvs) from I.hok a _ hq)
  obtain⟨_,_,vs,rel,o',es',ep',ho',hx',hd',h3,h4,h5⟩:=hk;rw [ho] at ho';injection ho' with ho';subst ho';rw [hd] at hd';injection hd' with h1 h2;subst h1 h2;have hl:=rel.length;obtain⟨⟨k,x⟩,hx⟩:∃p,vs[i]?=some p:=⟨vs[i]'(by omega),by rw [d_]⟩
  have hp:kvs[i]?=some kvs[i]:=d_ hi;obtain⟨f0,f1,f2,f3,f4,f5⟩:=hf it (by simp);rw [hl] at st;refine wpAny_pyNext_dict_item (knd:=bP X.prog X.w) st ⟨o,es,ho,hx',hd,h3,h4,h5⟩ hx λkey h' hkey st' sb=>?_;have I1:Inv X pins σ H { s with heap:=h' }:=I.turned (t':=s.toks) (λb o hb e=>(sb.2 b hb).trans e) f0 f1 f3 f4 f5;obtain⟨ok,e,c,d⟩:=id st';have hk1:(kvs[i]).1=k:=(kK rel hp hx).1
  have r:bS (kV (kvs[i]).1) key:=by
   rw [hk1]
   rcases bx hkey with ⟨j,t,rfl,rfl⟩|⟨y,t,rfl,rfl⟩
   .exact⟨t,rfl⟩
   .exact⟨t,rfl⟩
  rw [<- hl] at st';exact⟨key,rfl,wG (s:={ s with heap:=h' }) e c d (by decide) ⟨_,H,I1,r,⟨rfl,_,hp,rfl⟩,st',λb hb=>(hf b hb).1⟩⟩
 done:=by
  intro X hP hw hK hc i pins s σ H E I hf st hg;subst hP hw hK;obtain⟨hq,hi⟩:=hg;obtain⟨ho,hk⟩:=(show s.heap.get? a=some o/\aW X.prog X.w H s.heap a (.dK kvs) from I.hok a _ hq)
  obtain⟨_,_,vs,rel,o',es',ep',ho',hx',hd',h3,h4,h5⟩:=hk;rw [ho] at ho';injection ho' with ho';subst ho';rw [hd] at hd';injection hd' with h1 h2;subst h1 h2;have hl:=rel.length;obtain⟨f0,f1,f2,f3,f4,f5⟩:=hf it (by simp);rw [hl] at st;exact wpAny_pyNext_dict_end (knd:=bP X.prog X.w) (I.ok.hd hc) st ⟨o,es,ho,hx',hd,h3,h4,h5⟩ (z_ (by omega)) λh' eb=>⟨rfl,I.turned (t':=s.toks) (λb o hb e=>eb b o hb e) f0 f1 f3 f4 f5⟩
 self:=λ_ _ _ _ _ st h=>wpAny_pyIter_keyiter st h
section
variable {X:Cx}{tg:Expr}
noncomputable def iDk(tl:TE):TI:=λσ H R=>tl σ H λx H1=>∃a o kvs,x=.ref a/\H1 a=some (.frz o (.dK kvs))/\R (Itd a o kvs) H1
def DA{l:Expr}{tl:TE}(hl:PE X l tl):PI X tg l (iDk tl):=by
 intro pins s σ H R I h;refine thn (hl pins s σ H _ I h) λv s1 ⟨x,H1,I1,r1,q1⟩=>?_;obtain⟨a,o,kvs,e,hq,q⟩:=q1;subst e;cases r1;obtain⟨ho,hk⟩:=(show s1.heap.get? a=some o/\aW X.prog X.w H1 s1.heap a (.dK kvs) from I1.hok a _ hq)
 obtain⟨_,ns,vs,rel,o',es,ep,ho',hx',hd,h3,h4,h5⟩:=hk;rw [ho] at ho';injection ho' with ho';subst ho';refine wpAny_pyIter_dict (knd:=bP X.prog X.w) ns ⟨o,es,ho,hx',hd,h3,h4,h5⟩ ?_
 refine⟨s1.heap.objs.size,[s1.heap.objs.size],_,_,H1,rfl,I1.kept (t':=s1.toks) λb o e=>f_ _ e,vL a _ o kvs hd,⟨_,p_ _ rfl,rfl,?_⟩,λb hb=>?_,q⟩
 .rw [rel.length];rfl
 have e:b=s1.heap.objs.size:=by simpa using hb
 subst e;exact I1.fpOk (g_ _) (I1.hok.fresh (g_ _))
end
mutual
noncomputable def D.noF:D->Bool
 | .lst ds=>D.noFs ds|.tup ds=>D.noFs ds|.dic _ ds=>D.noFs ds|.obj _ _ ds=>D.noFs ds|.exc _ _ ds=>D.noFs ds|.fdc _ _=>false
 | .non=>true|.bl _=>true|.int _=>true|.str _=>true|.ty _=>true|.scr _=>true
noncomputable def D.noFs:List D->Bool
 | []=>true
 | d::r=>d.noF && D.noFs r
end
section
variable {K:b_}{O:Addr->Prop}{H:Hp}{a:Addr}{o:Obj}{kvs:List (Key×V)}{u:HO}
mutual
theorem FV.noF(g:H a=some (.frz o (.dK kvs))):∀{v:V}{d:D},FV K O H v d->d.noF=true->FV K (cJ O a) (upd H a u) v d
 | _,_,.non,_=>.non
 | _,_,.bl b,_=>.bl b
 | _,_,.int i,_=>.int i
 | _,_,.str l h,_=>.str l h
 | _,_,.ty n,_=>.ty n
 | _,_,.scr (a:=b) s,_=>.scr (by
   rcases s with ⟨n,r⟩|s
   .rcases r with e|⟨ob,e⟩
    .have ne:b≠a:=λz=>by rw [z,g] at e;cases e
     exact .inl ⟨λz=>z.elim n ne,.inl (by rw [ak ne];exact e)⟩
    .have ne:b≠a:=λz=>by rw [z,g] at e;cases e
     exact .inl ⟨λz=>z.elim n ne,.inr ⟨ob,by rw [ak ne];exact e⟩⟩
   .exact .inr s)
 | _,_,.lst n e f,p=>have ne:_≠a:=λz=>by rw [z,g] at e;cases e
  .lst (λz=>z.elim n ne) (by rw [ak ne];exact e) (FVs.noF g f p)
 | _,_,.tup n e f,p=>have ne:_≠a:=λz=>by rw [z,g] at e;cases e
  .tup (λz=>z.elim n ne) (by rw [ak ne];exact e) (FVs.noF g f p)
 | _,_,.dic n e m f,p=>have ne:_≠a:=λz=>by rw [z,g] at e;cases e
  .dic (λz=>z.elim n ne) (by rw [ak ne];exact e) m (FVs.noF g f p)
 | _,_,.fdc _ _ _ _,p=>nomatch p
 | _,_,.obj n e m f,p=>have ne:_≠a:=λz=>by rw [z,g] at e;cases e
  .obj (λz=>z.elim n ne) (by rw [ak ne];exact e) m (FVs.noF g f p)
 | _,_,.exc0 n e,_=>have ne:_≠a:=λz=>by rw [z,g] at e;cases e
  .exc0 (λz=>z.elim n ne) (by rw [ak ne];exact e)
 | _,_,.exc1 n n2 e e2 m f,p=>have ne:_≠a:=λz=>by rw [z,g] at e;cases e
  have ne2:_≠a:=λz=>by rw [z,g] at e2;cases e2
  .exc1 (λz=>z.elim n ne) (λz=>z.elim n2 ne2) (by rw [ak ne];exact e) (by rw [ak ne2];exact e2) m (FVs.noF g f p)
theorem FVs.noF(g:H a=some (.frz o (.dK kvs))):∀{vs:List V}{ds:List D},FVs K O H vs ds->D.noFs ds=true->FVs K (cJ O a) (upd H a u) vs ds
 | _,_,.nil,_=>.nil
 | _,_,.cons x y,p=>by
  have p:(_ && _)=true:=p;rw [and_eq_true] at p;exact .cons (FV.noF g x p.1) (FVs.noF g y p.2)
end
end
section
variable {K:b_}{A A':Addr->Prop}{ρ:PSt}{σ:St}{H H1:Hp}{x:Nat}{ks:List Key}{ds:List D}{a:Addr}{kvs:List (Key×V)}{o:Obj}{fs:List Nat}
abbrev rV(ρ:PSt)(x:Nat)(ks:List Key)(ds:List D):PSt:=ρ.set x (some (.dat (.fdc ks ds)))
def A0(e:ρ[x]?=some (some (.odc ks ds))){m:Nat}{y:PV}(em:(rV ρ x ks ds)[m]?=some (some y))(oy:y.isOwn=true):m≠x/\ρ[m]?=some (some y):=by
 have hx:x<ρ.length:=(h_.mp e).1
 by_cases z:x=m
 .subst z;rw [n_ hx] at em;cases em;cases oy
 .rw [j_ z] at em;exact⟨λq=>z q.symm,em⟩
def kL(R:Rel K A ρ σ H)(e:ρ[x]?=some (some (.odc ks ds)))(s:σ[x]?=some (some (.ref a))){b:Addr}:Wr (rV ρ x ks ds) σ b ↔ Wr ρ σ b/\b≠a:=by
 constructor
 .rintro⟨j,r,e1,o1,s1⟩;obtain⟨n,e2⟩:=A0 e e1 o1;exact⟨⟨j,r,e2,o1,s1⟩,λz=>n (R.dj j x r _ _ e2 e o1 rfl s1 (by rw [z];exact s))⟩
 .rintro⟨⟨j,r,e1,o1,s1⟩,n⟩;have nx:x≠j:=λz=>by subst z;rw [s] at s1;cases s1;exact n rfl
  exact⟨j,r,by show (ρ.set _ _)[j]?=_;rw [j_ nx];exact e1,o1,s1⟩
def Rel.fzD(R:Rel K A ρ σ H)(e:ρ[x]?=some (some (.odc ks ds)))(s:σ[x]?=some (some (.ref a)))(g:H a=some (.dK kvs))(m:kvs.map v_=ks)(f:FVs K (OO A ρ σ) H (kvs.map Hv) ds) :
  Rel K A (rV ρ x ks ds) σ (upd H a (.frz o (.dK kvs))):=by
 have hx:x<ρ.length:=(h_.mp e).1;have wa:Wr ρ σ a:=⟨x,_,e,rfl,s⟩
 have k:aA (OO A ρ σ) H (OO A (rV ρ x ks ds) σ) (upd H a (.frz o (.dK kvs))):=λb u n h=>by
  have ne:b≠a:=λz=>n (.inr (by rw [z];exact wa));exact⟨λz=>n (z.imp id λz=>((kL R e s).mp z).1),by rw [ak ne];exact h⟩
 refine⟨by rw [length_set];exact R.len,λj r e1=>?_,λj l p1 q1 v e1 e2 o1 o2 s1 s2=>R.dj j l p1 q1 v (A0 e e1 o1).2 (A0 e e2 o2).2 o1 o2 s1 s2,λb z=>?_,λb z w=>R.sep b z ((kL R e s).mp w).1⟩
 .by_cases z:x=j
  .subst z;rw [n_ hx] at e1;cases e1;exact⟨_,s,.fdc (λz=>z.elim (λz=>R.sep a z wa) λz=>((kL R e s).mp z).2 rfl) aw m (f.keeps k)⟩
  .rw [j_ z] at e1;obtain⟨v,s',r'⟩:=R.get j r e1;refine⟨v,s',r'.keeps k λow b eb=>?_⟩;rw [ak];intro zz;subst zz;rw [eb] at s';exact z (R.dj x j _ r _ e e1 rfl ow s s')
 .by_cases y:b=a
  .rw [y,aw];exact nofun
  .rw [ak y];exact R.dom b z
noncomputable def GF(ts:TS):TS:=λD σ H=>∃a kvs,H a=some (.dK kvs)/\∀o,ts D σ (upd H a (.frz o (.dK kvs)))
def DB{X:Cx}{st:Stmt}{ts:TS}(h:PS X st ts):PS X st (GF ts):=λpins s σ H D I ⟨a,kvs,ea,q⟩=>by
 obtain⟨o,ho⟩:=I.dkObj ea;exact h pins s σ _ D (I.freeze ea ho) (q o)
noncomputable def DC(x:Nat)(ps:PTS):PTS:=λE ρ=>match ρ[x]? with
 | some (some (.odc ks ds))=>ps E (rV ρ x ks ds)
 | _=>False
def DD{ts:TS}{ps:PTS}(h:LS K fs ts ps):LS K fs (GF ts) (DC x ps):=λfx A R H0 ρ σ H D D' hf r F q k1 k2 k3 k4=>by
 unfold DC at q
 split at q
 .rename_i ks ds e;obtain⟨v,s,a,kvs,rfl,g,m,f⟩:=r.get x _ e;have wa:Wr ρ σ a:=⟨x,_,e,rfl,s⟩
  refine⟨a,kvs,g,λo=>h fx A R H0 _ σ _ D D' hf (r.fzD e s g m f) ⟨λb u n h0=>?_,λb z=>?_,λb w=>F.ow b ((kL r e s).mp w).1,F.fx⟩ q k1 k2 k3 k4⟩
  .have ne:b≠a:=λz=>by
    subst z
    rcases F.ow b wa with z|z
    .exact n z
    .rw [z] at h0;cases h0
   rw [ak ne];exact F.kp b u n h0
  .by_cases y:b=a
   .rw [y,aw];exact nofun
   .rw [ak y];exact F.dm b z
 .exact q.elim
noncomputable def FH(x:Nat)(ρ:PSt):Prop:=∀j p,j≠x->ρ[j]?=some (some p)->p.isOwn=true->p.d.noF=true
noncomputable def GG(x:Nat)(pe:PTE):PTE:=λρ Q=>match ρ[x]? with
 | some (some (.odc ks ds))=>FH x ρ/\pe (rV ρ x ks ds) λp ρ1=>ρ1=rV ρ x ks ds/\p.d.noF=true/\(match p with|.dat _=>True|.own _=>True|_=>False)/\Q p ρ
 | _=>False
def Rel.unfz(R:Rel K A ρ σ H)(e:ρ[x]?=some (some (.odc ks ds)))(s:σ[x]?=some (some (.ref a)))(m:kvs.map v_=ks)(f:FVs K (OO A ρ σ) H (kvs.map Hv) ds)
  (kp:∀b u,¬ Wr (rV ρ x ks ds) σ b->upd H a (.frz o (.dK kvs)) b=some u->H1 b=some u) (hA:∀b,A' b->A b\/H b=none) (hA2:∀b,A b->A' b) (nf:FH x ρ) (R1:Rel K A' (rV ρ x ks ds) σ H1) :
  Rel K A' ρ σ (upd H1 a (.dK kvs)):=by
 have wa:Wr ρ σ a:=⟨x,_,e,rfl,s⟩
 have na:¬ Wr (rV ρ x ks ds) σ a:=λz=>((kL R e s).mp z).2 rfl;have g1:H1 a=some (.frz o (.dK kvs)):=kp a _ na aw;have ha:H a≠none:=R.wr wa
 have up:∀b,OO A' ρ σ b->cJ (OO A' (rV ρ x ks ds) σ) a b:=λb z=>by
  by_cases y:b=a
  .exact .inr y
  .exact .inl (z.imp id λz=>(kL R e s).mpr ⟨z,y⟩)
 have kk:aA (OO A ρ σ) H (OO A' ρ σ) (upd H1 a (.dK kvs)):=λb u n h=>by
  have ne:b≠a:=λz=>n (.inr (by rw [z];exact wa))
  refine⟨λz=>?_,?_⟩
  .rcases z with z|z
   .rcases hA b z with y|y
    .exact n (.inl y)
    .rw [y] at h;cases h
   .exact n (.inr z)
  .rw [ak ne];exact kp b u (λz=>n (.inr ((kL R e s).mp z).1)) (by rw [ak ne];exact h)
 refine⟨R.len,λj p e1=>?_,R.dj,λb z=>?_,λb z w=>?_⟩
 .by_cases y:x=j
  .subst y;rw [e] at e1;cases e1;exact⟨_,s,a,kvs,rfl,aw,m,f.keeps kk⟩
  .have e2:(rV ρ x ks ds)[j]?=some (some p):=by show (ρ.set _ _)[j]?=_;rw [j_ y];exact e1
   cases hp:p with
   | dat d =>
    rw [hp] at e1;obtain⟨v,s',r⟩:=R.get j _ e1;exact⟨v,s',FV.keeps kk r⟩
   | own es =>
    rw [hp] at e1 e2;obtain⟨v,s',b,xs,rfl,h1,f1⟩:=R1.get j _ e2;have ne:b≠a:=λz=>by subst z;rw [g1] at h1;cases h1
    exact⟨_,s',b,xs,rfl,by rw [ak ne];exact h1,(FVs.noF g1 f1 (nf j _ (λz=>y z.symm) e1 rfl)).keeps (aA.less up)⟩
   | ins c ns es =>
    rw [hp] at e1 e2;obtain⟨v,s',b,dx,fl,rfl,h1,m1,f1⟩:=R1.get j _ e2;have ne:b≠a:=λz=>by subst z;rw [g1] at h1;cases h1
    exact⟨_,s',b,dx,fl,rfl,by rw [ak ne];exact h1,m1,(FVs.noF g1 f1 (nf j _ (λz=>y z.symm) e1 rfl)).keeps (aA.less up)⟩
   | odc ks' es =>
    rw [hp] at e1 e2;obtain⟨v,s',b,kv',rfl,h1,m1,f1⟩:=R1.get j _ e2;have ne:b≠a:=λz=>by subst z;rw [g1] at h1;cases h1
    exact⟨_,s',b,kv',rfl,by rw [ak ne];exact h1,m1,(FVs.noF g1 f1 (nf j _ (λz=>y z.symm) e1 rfl)).keeps (aA.less up)⟩
 .by_cases y:b=a
  .rw [y,aw];exact nofun
  .rw [ak y];exact R1.dom b z
 .by_cases y:b=a
  .subst y
   rcases hA b z with z|z
   .exact R.sep b z wa
   .exact ha z
  .exact R1.sep b z ((kL R e s).mpr ⟨w,y⟩)
def DE{te:TE}{pe:PTE}(h:LE K te pe):LE K (GE te) (GG x pe):=λA ρ σ H Q Q' R q k=>by
 unfold GG at q
 split at q
 .rename_i ks ds e;obtain⟨nf,q⟩:=q;obtain⟨v,s,a,kvs,rfl,g,m,f⟩:=R.get x _ e;have wa:Wr ρ σ a:=⟨x,_,e,rfl,s⟩
  have na:¬ Wr (rV ρ x ks ds) σ a:=λz=>((kL R e s).mp z).2 rfl;refine⟨a,kvs,g,λo=>h A _ σ _ _ _ (R.fzD e s g m f) q λv H1 p ρ1 q1 F1 o1=>?_⟩;obtain⟨rfl,np,pk,q1⟩:=q1;have g1:H1 a=some (.frz o (.dK kvs)):=F1.kp a _ na aw
  have up:∀{B:Addr->Prop} (b:Addr),OO B ρ σ b->cJ (OO B (rV ρ x ks ds) σ) a b:=λb z=>by
   by_cases y:b=a
   .exact .inr y
   .exact .inl (z.imp id λz=>(kL R e s).mpr ⟨z,y⟩)
  have fr:Fr ρ σ H ρ (upd H1 a (.dK kvs)):=by
   refine⟨λb u n h0=>?_,λb z=>?_,λ_ w=>w⟩
   .have ne:b≠a:=λz=>n (by rw [z];exact wa);rw [ak ne];exact F1.kp b u (λz=>n ((kL R e s).mp z).1) (by rw [ak ne];exact h0)
   .by_cases y:b=a
    .rw [y,aw];exact nofun
    .rw [ak y];exact F1.dm b (by rw [ak y];exact z)
  refine⟨g1,k _ _ p ρ q1 fr ?_⟩
  cases p with
  | dat d =>
   obtain⟨r1,fv⟩:=o1;exact⟨R.unfz e s m f F1.kp (λb z=>.inl z) (λ_ z=>z) nf r1,(FV.noF g1 fv np).keeps (aA.less λb z=>up b z)⟩
  | own es =>
   obtain⟨b,xs,rfl,nA,h0,h1,r1,fv⟩:=o1;have ne:b≠a:=λz=>by subst z;rw [g1] at h1;cases h1
   have hb:H b=none:=by rw [ak ne] at h0;exact h0
   exact⟨b,xs,rfl,nA,hb,by rw [ak ne];exact h1,R.unfz e s m f F1.kp (λc z=>z.imp id λz=>by rw [z];exact hb) (λ_ z=>.inl z) nf r1,(FVs.noF g1 fv np).keeps (aA.less λc z=>up c z)⟩
  | ins c ns es=>exact pk.elim
  | odc ks' es=>exact pk.elim
 .exact q.elim
noncomputable def Hh(pe:PTE):PTI:=λρ Q=>pe ρ λp ρ1=>match p with
 | .dat (.fdc ks _)=>∃is:List Int,ks=is.map Ic/\Q is.length (λk=>.int (is.getD k 0)) ρ1
 | _=>False
def DF{te:TE}{pe:PTE}(h:LE K te pe):LI K (iDk te) (Hh pe):=λA ρ σ H Q Q' R q k=>h A ρ σ H _ _ R q λv H1 p ρ1 q1 F1 o1=>by
 split at q1
 .rename_i ks ds;obtain⟨is,rfl,q1⟩:=q1;obtain⟨r1,fv⟩:=o1
  cases fv with
  | @fdc a o kvs _ _ n e m f =>
   refine⟨a,o,kvs,rfl,e,k _ H1 _ _ ρ1 q1 F1 r1 λO' H' kk dom=>?_⟩;have hl:kvs.length=is.length:=by have:=congrArg KC m;rw [length_map,length_map] at this;exact this
   obtain⟨n2,e2⟩:=kk a _ n e;refine⟨λj hj=>⟨⟨e2,by omega⟩,λy H'' ⟨z1,p,z2,z3⟩=>?_⟩,e2,by omega⟩;subst z1 z3;refine⟨Gr.refl _,?_⟩;have h1:(kvs.map v_)[j]?=some p.1:=by rw [i_,z2];rfl
   rw [m,i_] at h1
   cases h2:is[j]? with
   | none=>rw [h2] at h1;cases h1
   | some i =>
    rw [h2] at h1;have h1:some (Ic i)=some p.1:=h1;injection h1 with h1;rw [<- h1,e_,h2];exact .int i
 .exact q1.elim
end
theorem oF{α β:Type}{F:α->β->Prop}:∀{l:List α}{m:List β},l.length=m.length->(∀(i:Nat) (p:α) (q:β),l[i]?=some p->m[i]?=some q->F p q)->Paired F l m
 | [],[],_,_=>.nil
 | [],_::_,h,_=>nomatch h
 | _::_,[],h,_=>nomatch h
 | p::l,q::m,h,f=>.cons (f 0 p q rfl rfl) (oF (by simpa using h) λi x y a b=>f (i+1) x y (by simpa using a) (by simpa using b))
noncomputable def yV:List V->Hp->VK->Prop:=λxs H Q=>∃p kvs,xs=[.ref p]/\H p=some (.dK kvs)/\∀l,H l=none->Q (.ref l) (upd H l (.lst (kvs.map λq=>kV q.1)))
def A1{X:Cx}(hc:X.calm=true):bD X (.type "list") yV:=by
 intro pins s σ H xs us Q I r h;obtain⟨p,kvs,rfl,e,q⟩:=h;obtain⟨u,rfl,rx⟩:=fR r;cases rx;obtain⟨hl,ns,vs,rel,dd⟩:=wZ I.hok e;obtain⟨ep,da⟩:=dd.dictAt;have hlen:=rel.length;refine PySem.W.kdl_call (PySem.W.kdl_dict (knd:=bP X.prog X.w) (kvs:=vs) (ep:=ep) ns) (I.ok.hd hc) da (by rw [<- hlen];exact hl) λh' tk acc' c' kp e2 hacc=>?_;refine⟨.ref s.heap.objs.size,_,I.laid (t':=tk) kp (g_ _) (show aW X.prog X.w _ h' _ (.lst (kvs.map λq=>kV q.1)) from ⟨by rw [length_map];exact hl,acc'.toList,c',?_,by simpa using e2⟩),rfl,q _ (I.hok.fresh (g_ _))⟩
 refine oF (by rw [length_map];exact (hlen.trans hacc.1.symm).trans (HD ..).symm) λi x y h1 h2=>?_;rw [i_] at h1
 cases h3:kvs[i]? with
 | none=>rw [h3] at h1;cases h1
 | some pr =>
  rw [h3] at h1;injection h1 with h1;obtain⟨k,z,h4,hk⟩:=hacc.2 i y (by rw [<- JS];exact h2);have h5:pr.1=k:=(kK rel h3 h4).1;rw [<- h1];show bS (kV pr.1) y;rw [h5]
  rcases bx hk with ⟨j,t,rfl,rfl⟩|⟨w,t,rfl,rfl⟩
  .exact⟨t,rfl⟩
  .exact⟨t,rfl⟩
noncomputable def yW:FN
 | [.dic ks _],Q=>∃is:List Int,ks=is.map Ic/\is.length<=1000000/\Q (.own (is.map .int))
 | _,_=>False
def xK{K:b_}:LC K yV yW:=by
 intro O H xs as Q Q' dom fs q k;unfold yW at q
 split at q
 .cases fs with
  | cons a b =>
   cases b;obtain⟨is,rfl,hl,q⟩:=q;obtain⟨p,kvs,rfl,e,m,f⟩:=a.dic
   have e1:(kvs.map λq=>kV q.1)=is.map V.int:=by
    have:kvs.map (λq=>kV q.1)=(kvs.map v_).map kV:=by rw [Hz];rfl
    rw [this,m,Hz];rfl
   refine⟨p,kvs,rfl,e,λl h0=>?_⟩;rw [e1];exact k _ _ (.own (is.map .int)) q (Gr.new h0) ⟨l,_,rfl,h0,aw,FVs.of_ints is⟩
 .exact q.elim
def rW{X:Cx}{o i e:Expr}{p pos:Pos}{td ty tv:TE}(hu:X.A.units+1<cLine)(ho:PE X o td)(hi:PE X i ty)(hv:PE X e tv)(h:Fx e=true:=by rfl):PS X (.Assign [.Subscript o i p] e pos) (zL td ty tv) :=
 zN hu ho hi hv (oq (o:=o) (i:=i) (p:=p) (l:=pos.line) (env:=X.env) h)
end L2
namespace K27
open PySem PySem.Spec PyProof.Rows L2
noncomputable def top(i:Nat):Stmt:=PySem.Challenge.pw_shortglue_k27_whole_best_pairing.main.body.getD i (.Pass ⟨0,0,0,0⟩)
abbrev mX:Stmt:=top 18
abbrev g7:Stmt:=top 19
abbrev fz:Stmt:=top 20
abbrev fY:Stmt:=top 21
abbrev i7:Stmt:=top 23
abbrev i8:Stmt:=top 25
abbrev g8:Stmt:=top 29
abbrev cP:Stmt:=top 33
abbrev fA:Stmt:=top 30
abbrev dO:Stmt:=top 31
abbrev eI:Stmt:=top 32
abbrev i9:Stmt:=top 35
abbrev jb:Stmt:=top 36
abbrev g9:Stmt:=top 37
abbrev du:Stmt:=top 39
abbrev jc:Stmt:=top 40
abbrev hG:Stmt:=top 41
abbrev kM:Stmt:=top 42
abbrev jd:Stmt:=top 43
abbrev hU:Stmt:=top 44
abbrev hV:Stmt:=top 45
abbrev je:Stmt:=top 46
abbrev fB:Stmt:=top 47
abbrev fC:Stmt:=top 48
abbrev dP:Stmt:=top 49
abbrev xL:Stmt:=top 50
def vM:aB ["thing"] ["thing"] (ai mX):=⟨rfl,rfl,rfl,by decide +kernel,rfl,by decide +kernel,by decide +kernel⟩
def oG:aB ["thing"] ["thing"] (ai g7):=⟨rfl,rfl,rfl,by decide +kernel,rfl,by decide +kernel,by decide +kernel⟩
def lI:aB ["thing","many"] ["thing","many"] (ai fz):=⟨rfl,rfl,rfl,by decide +kernel,rfl,by decide +kernel,by decide +kernel⟩
def mY:aB ["thing","many"] ["thing","many"] (ai fY):=⟨rfl,rfl,rfl,by decide +kernel,rfl,by decide +kernel,by decide +kernel⟩
def qt:aB ["thing","many"] ["thing","many"] (ai i7):=⟨rfl,rfl,rfl,by decide +kernel,rfl,by decide +kernel,by decide +kernel⟩
def qu:aB ["thing","least","most"] ["thing","least","most"] (ai i8):=⟨rfl,rfl,rfl,by decide +kernel,rfl,by decide +kernel,by decide +kernel⟩
def oH:aB ["thing"] ["thing"] (ai g8):=⟨rfl,rfl,rfl,by decide +kernel,rfl,by decide +kernel,by decide +kernel⟩
def bc:aB ["rows","paper","followers","gives","takes","many","numbers"] ["rows","paper"] (ai cP):=⟨rfl,rfl,rfl,by decide +kernel,rfl,by decide +kernel,by decide +kernel⟩
def aT:aB ["rows","gives","takes","leaders","start","reached","near","i","distance","column","j","number","step"] ["rows","gives","takes","leaders","start"] (ai fA):=⟨rfl,rfl,rfl,by decide +kernel,rfl,by decide +kernel,by decide +kernel⟩
def bn:aB ["rows","gives","takes","leaders","start","reached","column","farthest","j","before"] ["rows","gives","takes","leaders","start"] (ai dO):=⟨rfl,rfl,rfl,by decide +kernel,rfl,by decide +kernel,by decide +kernel⟩
def bJ:aB ["rows","gives","takes","leaders","start","followers"] ["rows"] (ai eI):=⟨rfl,rfl,rfl,by decide +kernel,rfl,by decide +kernel,by decide +kernel⟩
def cF:aB ["_law_cells_here","_law_many","_law_own","_law_row","_law_deck_here","_law_k","_law_at","_law_one"] ["_law_cells_here","_law_many"] (ai i9):=⟨rfl,rfl,rfl,by decide +kernel,rfl,by decide +kernel,by decide +kernel⟩
def qv:aB ["_law_deck_here"] ["_law_deck_here"] (ai jb):=⟨rfl,rfl,rfl,by decide +kernel,rfl,by decide +kernel,by decide +kernel⟩
def oI:aB ["_law_found"] ["_law_found"] (ai g9):=⟨rfl,rfl,rfl,by decide +kernel,rfl,by decide +kernel,by decide +kernel⟩
def cY:aB ["_law_deck_here","_law_many","_law_rest","_law_found"] ["_law_deck_here","_law_many"] (ai du):=⟨rfl,rfl,rfl,by decide +kernel,rfl,by decide +kernel,by decide +kernel⟩
def bo:aB ["_law_deck_here","_law_many","_law_size","_law_gives","_law_takes","_law_followers","_law_rows","_law_i","_law_row","_law_j","_law_number","_law_both","_law_spare"] ["_law_deck_here","_law_many"] (ai jc):=⟨rfl,rfl,rfl,by decide +kernel,rfl,by decide +kernel,by decide +kernel⟩
def eu:aB ["_law_rows","_law_followers","_law_gives","_law_takes","_law_i","_law_j"] ["_law_rows","_law_followers","_law_gives","_law_takes"] (ai hG):=⟨rfl,rfl,rfl,by decide +kernel,rfl,by decide +kernel,by decide +kernel⟩
def cZ:aB ["_law_many","_law_found","_law_step","_law_longer","_law_order","_law_i"] ["_law_many"] (ai kM):=⟨rfl,rfl,rfl,by decide +kernel,rfl,by decide +kernel,by decide +kernel⟩
def aO:aB ["_law_error","_law_found"] ["_law_error"] (ai jd):=⟨rfl,rfl,rfl,by decide +kernel,rfl,by decide +kernel,by decide +kernel⟩
def jr:aB ["_law_deck_here","_law_many","_law_size"] ["_law_deck_here","_law_many"] (ai hU):=⟨rfl,rfl,rfl,by decide +kernel,rfl,by decide +kernel,by decide +kernel⟩
def oJ:aB ["_law_deck_here","_law_many"] ["_law_deck_here","_law_many"] (ai hV):=⟨rfl,rfl,rfl,by decide +kernel,rfl,by decide +kernel,by decide +kernel⟩
def fE:aB ["_law_rows","_law_order","_law_found","_law_i"] ["_law_rows","_law_order"] (ai je):=⟨rfl,rfl,rfl,by decide +kernel,rfl,by decide +kernel,by decide +kernel⟩
def dg:aB ["_law_rows","_law_paper","_law_row","_law_best","_law_order"] ["_law_rows","_law_paper"] (ai fB):=⟨rfl,rfl,rfl,by decide +kernel,rfl,by decide +kernel,by decide +kernel⟩
def gF:aB ["_law_thing","_law_error"] ["_law_thing"] (ai fC):=⟨rfl,rfl,rfl,by decide +kernel,rfl,by decide +kernel,by decide +kernel⟩
def cv:aB ["_law_rows","_law_at","_law_found","_law_cell","_law_bent"] ["_law_rows","_law_at"] (ai dP):=⟨rfl,rfl,rfl,by decide +kernel,rfl,by decide +kernel,by decide +kernel⟩
def fZ:aB ["_law_script","_law_deck_here","_law_many","_law_number","_law_rows","_law_others","_law_handed","_law_first","_law_thing"] ["_law_script"] (ai xL):=⟨rfl,rfl,rfl,by decide +kernel,rfl,by decide +kernel,by decide +kernel⟩
structure Txt (mg:Str->Option Value):Prop where
 b_ValueError:mg "ValueError"=none
 b_all:mg "all"=none
 b_any:mg "any"=none
 b_bool:mg "bool"=none
 b_enumerate:mg "enumerate"=none
 b_int:mg "int"=none
 b_isinstance:mg "isinstance"=none
 b_len:mg "len"=none
 b_list:mg "list"=none
 b_max:mg "max"=none
 b_min:mg "min"=none
 b_range:mg "range"=none
 b_reversed:mg "reversed"=none
 b_sorted:mg "sorted"=none
 b_tuple:mg "tuple"=none
 g_MOST_NUMBER:∃t,mg "MOST_NUMBER"=some (.int 1000000 t)
 g_MOST_ROWS:∃t,mg "MOST_ROWS"=some (.int 40 t)
abbrev eJ:Stmt:=fe (top 2) 0
def kN:aB ["self","most"] ["self","most"] (ai eJ):=⟨rfl,rfl,rfl,by decide +kernel,rfl,by decide +kernel,by decide +kernel⟩
abbrev eM:Stmt:=fe (top 3) 0
def kO:aB ["self","at"] ["self","at"] (ai eM):=⟨rfl,rfl,rfl,by decide +kernel,rfl,by decide +kernel,by decide +kernel⟩
abbrev f7:Stmt:=fe (top 4) 0
def mZ:aB ["self","k"] ["self","k"] (ai f7):=⟨rfl,rfl,rfl,by decide +kernel,rfl,by decide +kernel,by decide +kernel⟩
abbrev eN:Stmt:=fe (top 6) 0
def kP:aB ["self","at"] ["self","at"] (ai eN):=⟨rfl,rfl,rfl,by decide +kernel,rfl,by decide +kernel,by decide +kernel⟩
abbrev dQ:Stmt:=fe (top 9) 0
def jI:aB ["self","most"] ["self","most"] (ai dQ):=⟨rfl,rfl,rfl,by decide +kernel,rfl,by decide +kernel,by decide +kernel⟩
abbrev dR:Stmt:=fe (top 11) 0
def jJ:aB ["self","at"] ["self","at"] (ai dR):=⟨rfl,rfl,rfl,by decide +kernel,rfl,by decide +kernel,by decide +kernel⟩
abbrev dS:Stmt:=fe (top 12) 0
def jK:aB ["self","at"] ["self","at"] (ai dS):=⟨rfl,rfl,rfl,by decide +kernel,rfl,by decide +kernel,by decide +kernel⟩
abbrev c8:Stmt:=fe (top 13) 0
def iM:aB ["self","at"] ["self","at"] (ai c8):=⟨rfl,rfl,rfl,by decide +kernel,rfl,by decide +kernel,by decide +kernel⟩
abbrev fF:Stmt:=fe (top 14) 0
def lJ:aB ["self","at"] ["self","at"] (ai fF):=⟨rfl,rfl,rfl,by decide +kernel,rfl,by decide +kernel,by decide +kernel⟩
abbrev xcs:List Str:=["TooMany","NoPiece","NoLap","NoOrder","NotHeld","NoTable","NoRing","TooGreat","NoWords","NotApart","NoCounts","NotCovered","NoLine","NoPaper","NotTold"]
abbrev GH:List (Str×Str):=[("TooMany","most"),("NoPiece","at"),("NoLap","k"),("NotHeld","at"),("TooGreat","most"),("NotApart","at"),("NoCounts","at"),("NotCovered","at"),("NoLine","at")]
structure TxX (K:b_) (mg:Str->Option Value):Prop where
 all:Au K xcs
 at_:∀c g,(c,g)∈GH->tf K (.ref (aF K c)) g=some none
 m'b:mg "TooMany"=some (.ref (aF K "TooMany"))
 m'c:mg "NoPiece"=some (.ref (aF K "NoPiece"))
 m'd:mg "NoLap"=some (.ref (aF K "NoLap"))
 m'e:mg "NoOrder"=some (.ref (aF K "NoOrder"))
 m'f:mg "NotHeld"=some (.ref (aF K "NotHeld"))
 m'g:mg "NoTable"=some (.ref (aF K "NoTable"))
 m'h:mg "NoRing"=some (.ref (aF K "NoRing"))
 m'i:mg "TooGreat"=some (.ref (aF K "TooGreat"))
 m'j:mg "NoWords"=some (.ref (aF K "NoWords"))
 m'k:mg "NotApart"=some (.ref (aF K "NotApart"))
 m'l:mg "NoCounts"=some (.ref (aF K "NoCounts"))
 m'm:mg "NotCovered"=some (.ref (aF K "NotCovered"))
 m'n:mg "NoLine"=some (.ref (aF K "NoLine"))
 m'o:mg "NoPaper"=some (.ref (aF K "NoPaper"))
 m'p:mg "NotTold"=some (.ref (aF K "NotTold"))
 m'a:mg "GlueError"=some (.ref (aF K "GlueError"))
 d'b:XD K (aF K "TooMany")
 d'c:XD K (aF K "NoPiece")
 d'd:XD K (aF K "NoLap")
 d'e:XD K (aF K "NoOrder")
 d'f:XD K (aF K "NotHeld")
 d'g:XD K (aF K "NoTable")
 d'h:XD K (aF K "NoRing")
 d'i:XD K (aF K "TooGreat")
 d'j:XD K (aF K "NoWords")
 d'k:XD K (aF K "NotApart")
 d'l:XD K (aF K "NoCounts")
 d'm:XD K (aF K "NotCovered")
 d'n:XD K (aF K "NoLine")
 d'o:XD K (aF K "NoPaper")
 d'p:XD K (aF K "NotTold")
 d'a:XD K (aF K "GlueError")
 z'e:X0 K (aF K "NoOrder")
 kp'e:C_ K (.ref (aF K "NoOrder"))=true
 z'g:X0 K (aF K "NoTable")
 kp'g:C_ K (.ref (aF K "NoTable"))=true
 z'h:X0 K (aF K "NoRing")
 kp'h:C_ K (.ref (aF K "NoRing"))=true
 z'j:X0 K (aF K "NoWords")
 kp'j:C_ K (.ref (aF K "NoWords"))=true
 z'o:X0 K (aF K "NoPaper")
 kp'o:C_ K (.ref (aF K "NoPaper"))=true
 z'p:X0 K (aF K "NotTold")
 kp'p:C_ K (.ref (aF K "NotTold"))=true
local macro_rules | `(tactic| walk_at "s")=>`(tactic| first | (with_reducible omega) | (with_reducible assumption) | (with_reducible rfl) | exact le_of_ble_eq_true rfl | (simp only [length_cons,length_nil,length_append,length_map];(with_reducible omega)) | assumption | rfl | (refine ⟨?_,?_⟩ <;> first | (with_reducible omega) | (with_reducible assumption) | (with_reducible rfl) | exact le_of_ble_eq_true rfl | assumption | rfl | (refine ⟨?_,?_⟩ <;> first | (with_reducible omega) | (with_reducible assumption) | (with_reducible rfl) | exact le_of_ble_eq_true rfl | assumption | rfl | (refine ⟨?_,?_⟩ <;> first | (with_reducible omega) | (with_reducible assumption) | (with_reducible rfl) | exact le_of_ble_eq_true rfl | assumption | rfl | fail) | fail) | fail) | omega | fail)
local macro_rules | `(tactic| walk_at "r")=>`(tactic| ((try dsimp only [set_cons_zero,set_cons_succ,vk,vl,vn,vm,Dc,Dd,oi,l8,l9,rJ,rK,tail_cons,oj,om,rL,vw,vy,yO]);(conv=>whnf);(repeat (first | ((with_reducible refine And.intro ?_ ?_);(next=>walk_at "s");(conv=>whnf)) | ((with_reducible refine (show Exists _ from ?_));(first | (refine ⟨_,rfl,?_⟩) | (refine ⟨_,fW.lst _,?_⟩) | (refine ⟨_,fW.tup _,?_⟩));(conv=>whnf)) | ((refine (show gE _ _ _ from ?_));(first | (with_reducible refine GP (by assumption) ?_) | (with_reducible refine GQ (by assumption) ?_) | (with_reducible refine EL (by assumption) ?_) | (with_reducible refine EM (by assumption) ?_) | ((with_reducible refine EJ ?_ ?_);(next=>(first | (with_reducible rfl) | (with_reducible assumption) | (with_reducible omega)))) | ((with_reducible refine EK ?_ ?_);(next=>(first | (with_reducible rfl) | (with_reducible assumption) | (with_reducible omega)))) | ((with_reducible refine Ci ?_ ?_);(next=>(first | (with_reducible rfl) | (with_reducible assumption) | (with_reducible omega)))) | ((with_reducible refine yt ?_ ?_);(next=>(first | (with_reducible rfl) | (with_reducible assumption) | (with_reducible omega)))));(conv=>whnf))));(try refine (show gE _ _ _ from ?_));(try dsimp only [set_cons_zero,set_cons_succ,vk,vl,vn,vm,Dc,Dd,oi,l8,l9,rJ,rK,tail_cons,oj,om,rL,vw,vy,yO])))
local macro_rules | `(tactic| walk_at "z")=>`(tactic| dsimp only [CO,Fg,D6,bv,List.map,List.length,List.replicate,cons_append,nil_append,Nat.reduceSub,Nat.reduceAdd,Nat.zero_add])
noncomputable def dU:FN:=λa_ Q=>cD (λd=>cN (d.sort=true/\Q (.dat (.bl (b8 d))))) a_
noncomputable def dq:FN:=λa_ Q=>cD (λd=>cN (d.sort=true/\Q (.dat (.bl (jG d))))) a_
noncomputable def dh:FN:=λa_ Q=>cD (λd=>cI (λm=>cN (Srt d/\(ah d).length<=1000000/\Q (.dat (.bl (bI d m)))))) a_
def DG{α:Type}(f:Int->α)(zs:List Int):(gV zs.length).map (λk=>f (zs.getD k 0))=zs.map f:=by
 refine ext_getElem (by rw [length_map,length_map,length_range]) λi h1 h2=>?_;rw [length_map,length_range] at h1;rw [getElem_map,getElem_map,getElem_range,e_,d_ h1];rfl
noncomputable def prB(d:D)(m:Int):Bool:=bI d m && (ah d).all λx=>decide (0<=toI x)
def qw{d:D}{m:Int}(c:bI d m=true):∃zs:List Int,fW d (zs.map .int)/\(zs.length:Int)=m:=by
 unfold bI at c;rw [and_eq_true,and_eq_true] at c;obtain⟨c1,c2,c3⟩:=c
 cases d with
 | lst ds=>exact⟨ds.map toI,.inl (congrArg _ (iZ c3)),by rw [length_map];exact of_decide_eq_true c2⟩
 | tup ds=>exact⟨ds.map toI,.inr (congrArg _ (iZ c3)),by rw [length_map];exact of_decide_eq_true c2⟩
 | _=>cases c1
def sX{d:D}{zs:List Int}(h:fW d (zs.map .int)):bI d zs.length=true:=by
 unfold bI;rw [h.items,length_map,decide_eq_true rfl,Hi,and_eq_true];refine⟨by rcases h with rfl|rfl <;> rfl,?_⟩;rw [all_map];exact all_eq_true.mpr λ_ _=>rfl
def m4{d:D}{zs:List Int}(h:fW d (zs.map .int)):prB d zs.length=zs.all λz=>decide (0<=z):=by
 unfold prB;rw [sX h,Hi,h.items,all_map];rfl
noncomputable def dF:FN:=λa_ Q=>cD (λd=>cI (λm=>cN (Srt d/\(ah d).length<=1000000/\Q (.dat (.bl (prB d m)))))) a_
noncomputable def jf(d:D)(m:Int):Bool:=bI d m && decide (((ah d).map toI).Perm (lF m.toNat))
def vN(js:List Nat):js.map nD=(js.map λj=>((j:Nat):Int)).map D.int:=by rw [Hz];rfl
def xM{js:List Nat}{n:Nat}{d:D}(hd:fW d (js.map nD))(hp:js.Perm (gV n)):jf d n=true:=by
 have hl:js.length=n:=by rw [hp.length_eq,length_range]
 unfold jf bI;rw [and_eq_true,and_eq_true,and_eq_true,hd.items]
 refine⟨⟨by rcases hd with rfl|rfl <;> rfl,decide_eq_true (by rw [length_map,hl]),?_⟩,decide_eq_true ?_⟩
 .rw [vN,all_map];exact all_eq_true.mpr λ_ _=>rfl
 .rw [vN,Hz];show ((js.map λj=>((j:Nat):Int)).map id).Perm _;rw [map_id,toNat_natCast];exact hp.map _
def xN{d:D}{n:Nat}(h:jf d n=true):∃js:List Nat,fW d (js.map nD)/\js.Perm (gV n):=by
 unfold jf at h;rw [and_eq_true,decide_eq_true_eq,toNat_natCast] at h;obtain⟨c,hp⟩:=h;unfold bI at c;rw [and_eq_true,and_eq_true] at c;obtain⟨c1,c2,c3⟩:=c
 have dB:∀zs:List Int,zs.Perm (lF n)->∃js:List Nat,zs=js.map (λj=>((j:Nat):Int))/\js.Perm (gV n):=λzs hz=>by
  refine⟨zs.map Jp,?_,?_⟩
  .rw [Hz]
   have:∀z∈zs,((z.toNat:Nat):Int)=z:=λz m=>by
    have:=hz.mem_iff.mp m;unfold lF at this;obtain⟨k,_,e⟩:=Hx.mp this;omega
   conv=>lhs;rw [<- map_id zs]
   exact IU λz m=>(this z m).symm
  .have:=hz.map Jp;unfold lF at this;rw [Hz] at this
   have e:(gV n).map (Jp ∘ λk=>((k:Nat):Int))=gV n:=by
    conv=>rhs;rw [<- map_id (gV n)]
    exact IU λk _=>toNat_natCast k
   rw [e] at this;exact this
 obtain⟨js,e,hj⟩:=dB _ hp;refine⟨js,?_,hj⟩;have e2:ah d=js.map nD:=by rw [iZ c3,e,vN]
 cases d with
 | lst ds=>exact .inl (congrArg D.lst e2)
 | tup ds=>exact .inr (congrArg D.tup e2)
 | _=>cases c1
noncomputable def hX:FN:=λa_ Q=>cD (λd=>cI (λm=>cN (Srt d/\((ah d).length<=60/\0<=m/\m<=60)/\Q (.dat (.bl (jf d m)))))) a_
noncomputable def iU(d:D)(a b:Int):Bool:=jG d && (decide (a<=toI d) && decide (toI d<=b))
noncomputable def fG:FN:=λa_ Q=>cD (λd=>cI (λa=>cI (λb=>cN (d.sort=true/\Q (.dat (.bl (iU d a b))))))) a_
noncomputable def xO(d:D):Prop:=d.sort=true/\∀r∈ah d,r.sort=true/\∀x∈ah r,x.sort=true
noncomputable def lK(d:D):Bool:=(ah d).all λr=>b8 r && decide ((ah r).length=(ah d).length)
noncomputable def oK(d:D):Bool:=(ah d).all λr=>(ah r).all λx=>iU x 0 1000000
noncomputable def sqB(d:D):Bool:=b8 d && (decide ((ah d).length<=40) && (lK d && oK d))
def jt{d:D}(h:b8 d=true):fW d (ah d):=by
 cases d with
 | lst ds=>exact .inl rfl
 | tup ds=>exact .inr rfl
 | _=>cases h
def getElem?_itD{ds:List D}{k:Nat}(h:k<ds.length):ds[k]?=some (itD ds k):=by
 unfold itD;rw [e_,d_ h];rfl
theorem vO{f:D->D}:∀L:List D,(∀r∈L,(ah r).length<=1000)->(L.flatMap λr=>(ah r).map f).length<=L.length*1000
 | [],_=>Jm _
 | r::L,h=>by
  rw [flatMap_cons,length_append,length_map,length_cons];have h1:=h r mem_cons_self;have h2:=vO (f:=f) L λx hx=>h x (q_ _ hx);omega
def yX(p:D->Bool)(L:List D):(L.flatMap λr=>(ah r).map p).all id=L.all λr=>(ah r).all p:=by
 rw [all_flatMap];congr 1;funext r;rw [all_map];rfl
noncomputable def eA:FN:=λa_ Q=>cD (λd=>cN (xO d/\((ah d).length<=1000/\∀r∈ah d,(ah r).length<=1000)/\Q (.dat (.bl (sqB d))))) a_
noncomputable def cel(d:D)(i j:Nat):Int:=toI (itD (ah (itD (ah d) i)) j)
noncomputable def nmb(d:D)(i:Nat):Int:=toI (itD (ah d) i)
noncomputable def A2(d g t:D)(n:Nat):Bool:=(gV n).all λi=>(gV n).all λj=>!decide (nmb g i+nmb t j<cel d i j)
noncomputable def DH(d f g t:D)(n:Nat):Bool:=(gV n).all λi=>decide (nmb g i+nmb t (nmb f i).toNat=cel d i (nmb f i).toNat)
noncomputable def DI(d f g t:D):Bool:=jf f (ah d).length && (prB g (ah d).length && (prB t (ah d).length && (A2 d g t (ah d).length && DH d f g t (ah d).length)))
noncomputable def oN(d e:D):Bool:=sqB d && (b8 e && (decide ((ah e).length=3) && DI d (itD (ah e) 0) (itD (ah e) 1) (itD (ah e) 2)))
def kQ{d:D}(h:sqB d=true){i j:Nat}(hi:i<(ah d).length)(hj:j<(ah d).length):fW (itD (ah d) i) (ah (itD (ah d) i))/\(ah (itD (ah d) i)).length=(ah d).length/\atI (ah (itD (ah d) i)) (j:Int)=some (.int (cel d i j)):=by
 unfold sqB at h;rw [and_eq_true,and_eq_true,and_eq_true] at h;obtain⟨_,_,h3,h4⟩:=h;have hm:=cB hi;have r:=all_eq_true.mp h3 _ hm;rw [and_eq_true,decide_eq_true_eq] at r;have hj':j<(ah (itD (ah d) i)).length:=by rw [r.2];exact hj
 have c:=all_eq_true.mp (all_eq_true.mp h4 _ hm) _ (cB hj');refine⟨jt r.1,r.2,?_⟩
 have e:itD (ah (itD (ah d) i)) j=.int (cel d i j):=by
  unfold cel;generalize itD (ah (itD (ah d) i)) j=x at c ⊢
  cases x with
  | int z=>rfl
  | _=>cases c
 exact eX (j:=j) (by rw [getElem?_itD hj',e]) rfl
def sY{d:D}{zs:List Int}(h:fW d (zs.map .int)){i:Nat}(hi:i<zs.length):nmb d i=zs.getD i 0/\atI (zs.map D.int) (i:Int)=some (.int (nmb d i)):=by
 have e:itD (zs.map D.int) i=.int (zs.getD i 0):=mL (by rw [length_map];exact hi);have e2:nmb d i=zs.getD i 0:=by unfold nmb;rw [h.items,e];rfl
 refine⟨e2,eX (j:=i) ?_ rfl⟩;rw [getElem?_itD (by rw [length_map];exact hi),e,e2]
def A3(d g t:D)(n:Nat):((gV n).flatMap λi=>(gV n).map λj=>decide (nmb g i+nmb t j<cel d i j)).any id=!A2 d g t n:=by
 unfold A2;rw [any_flatMap,not_all_eq_any_not];congr 1;funext i;rw [any_map,not_all_eq_any_not];congr 1;funext j;show decide _=!!decide _;rw [not_not]
theorem yY{f:Nat->Nat->D}(n:Nat):∀L:List Nat,(L.flatMap λi=>(gV n).map (f i)).length=L.length*n
 | []=>by simp
 | i::L=>by
  rw [flatMap_cons,length_append,length_map,length_range,yY n L,length_cons,succ_mul,add_comm]
noncomputable def cG:FN:=λa_ Q=>cD (λd=>cD (λe=>cN ((xO d/\((ah d).length<=1000/\∀r∈ah d,(ah r).length<=1000))/\(xO e/\(ah e).length<=1000/\∀r∈ah e,(ah r).length<=60)/\Q (.dat (.bl (oN d e)))))) a_
noncomputable def cQ(n:Nat)(f:Nat->Int):List D:=(gV n).map λi=>.int (f i)
noncomputable def DJ(e:Nat×Int×Int):D:=.tup [.int e.2.1,.int e.2.2]
noncomputable def kdR(R:bO):List (Key×D):=R.map λe=>(.inl (e.1:Int),DJ e)
def ksR(R:bO):List Key:=(kdR R).map v_
def dsR(R:bO):List D:=(kdR R).map Hv
structure A4 (n:Nat) (c:Nat->Nat->Int) (d:D) (rs:List D):Prop where
 sq:fW d rs
 len:rs.length=n
 at_:∀i,i<n->fW (itD rs i) (cQ n (c i))
def dG{n:Nat}{f:Nat->Int}:(cQ n f).length=n:=by unfold cQ;rw [length_map,length_range]
def gv{n:Nat}{f:Nat->Int}{i:Nat}(h:i<n):(cQ n f)[i]?=some (.int (f i)):=by
 unfold cQ;rw [i_,IE h];rfl
def kR{n:Nat}{f:Nat->Int}{i:Nat}(h:i<n):atI (cQ n f) (i:Int)=some (.int (f i)):=eX (j:=i) (gv h) rfl
def A5{n:Nat}{f:Nat->Int}{i:Nat}(h:i<n):itD (cQ n f) i=.int (f i):=by
 unfold itD;rw [e_,gv h];rfl
noncomputable def sZ(N:bO)(j:Nat)(p:Int×Int):bO:=if ma N j then N.map (λe=>if e.1=j then (j,p) else e) else N++[(j,p)]
noncomputable def tq(N:bO)(j:Nat):bO:=N.filter λe=>decide (e.1≠j)
def yZ(N:bO)(j:Nat):((kdR N).any λp=>decide (p.1=.inl (j:Int)))=ma N j:=by
 unfold kdR ma el;rw [any_map]
 cases h:(List.map (·.1) N).contains j with
 | true =>
  rw [t_,Hx] at h;obtain⟨e,he,rfl⟩:=h;exact any_eq_true.mpr ⟨e,he,decide_eq_true rfl⟩
 | false =>
  refine any_eq_false.mpr λe he z=>?_;have z:(Ic (e.1:Int):Key)=.inl (j:Int):=of_decide_eq_true z;have z:e.1=j:=by injection z;omega
  have:(List.map (·.1) N).contains j=true:=t_.mpr (Hx.mpr ⟨e,he,z⟩);rw [this] at h;cases h
def y0(N:bO)(j:Nat)(p:Int×Int):xJ (kdR N) (.inl (j:Int)) (.tup [.int p.1,.int p.2])=kdR (sZ N j p):=by
 unfold xJ sZ;rw [yZ]
 by_cases h:ma N j=true
 .rw [if_pos h,if_pos h];unfold kdR;rw [Hz,Hz];refine IU λe _=>?_;show (if (Ic (e.1:Int):Key)=.inl (j:Int) then _ else _)=_
  by_cases c:e.1=j
  .subst c;rw [if_pos rfl];simp only [Function.comp,if_true];rfl
  .rw [if_neg λz=>c (by injection z;omega)];simp only [Function.comp,if_neg c]
 .rw [if_neg h,if_neg h];unfold kdR;rw [map_append];rfl
def A6(N:bO)(j:Nat):sW (kdR N) (.inl (j:Int))=kdR (tq N j):=by
 unfold sW tq kdR;rw [filter_map];congr 1;refine filter_congr λe _=>?_;show decide ((Ic (e.1:Int):Key)≠.inl (j:Int))=decide (e.1≠j);exact decide_eq_decide.mpr ⟨λz y=>z (by rw [y]),λz y=>z (by injection y;omega)⟩
structure e7 (N:bO) (f:NrT):Prop where
 e:∀e,e∈N->f e.1=some e.2
 m:∀j p,f j=some p->(j,p)∈N
theorem qx:∀{N:bO}{f:NrT}{j:Nat} ,(∀e,e∈N->f e.1=some e.2)->(∀p,f j=some p->(j,p)∈N)->mW (kdR N) (.inl (j:Int))=(f j).map λp=>.tup [.int p.1,.int p.2]
 | [],f,j,_,h=>by
  cases e:f j with
  | none=>rfl
  | some p=>exact absurd (h p e) (by intro z;cases z)
 | a::N,f,j,h1,h=>by
  show mW ((.inl (a.1:Int),DJ a)::kdR N) _=_;unfold mW;rw [IW]
  by_cases c:a.1=j
  .rw [decide_eq_true (by rw [c])];have:=h1 a mem_cons_self;rw [c] at this;rw [this];rfl
  .rw [decide_eq_false λz:(Ic (a.1:Int):Key)=.inl (j:Int)=>c (by injection z;omega)];refine qx (λe he=>h1 e (q_ _ he)) λp hp=>?_
   rcases mem_cons.mp (h p hp) with z|z
   .rw [<- z] at c;exact absurd rfl c
   .exact z
def e7.look{N:bO}{f:NrT}(h:e7 N f)(j:Nat):dE (ksR N) (dsR N) (.inl (j:Int))=(f j).map λp=>.tup [.int p.1,.int p.2]:=by
 unfold ksR dsR;rw [fX];exact qx h.e (h.m j)
def xP{N:bO}{j:Nat}{p:Int×Int}{e:Nat×Int×Int}(h:e∈sZ N j p):e=(j,p)\/(e∈N/\e.1≠j):=by
 unfold sZ at h
 by_cases c:ma N j=true
 .rw [if_pos c,Hx] at h;obtain⟨a,ha,h⟩:=h
  by_cases c2:a.1=j
  .rw [if_pos c2] at h;exact .inl h.symm
  .rw [if_neg c2] at h;subst h;exact .inr ⟨ha,c2⟩
 .rw [if_neg c] at h
  rcases HA.mp h with h|h
  .refine .inr ⟨h,λz=>c (gq.mpr ?_)⟩;rw [<- z];exact Hx.mpr ⟨e,h,rfl⟩
  .exact .inl (vx.mp h)
def xQ{N:bO}{j:Nat}{p:Int×Int}:(j,p)∈sZ N j p:=by
 unfold sZ
 by_cases c:ma N j=true
 .rw [if_pos c,Hx];obtain⟨d,q,h⟩:=cE.mp (gq.mp c);exact⟨_,h,if_pos rfl⟩
 .rw [if_neg c];exact r_ _ mem_cons_self
def xR{N:bO}{j:Nat}{p:Int×Int}{e:Nat×Int×Int}(h:e∈N)(ne:e.1≠j):e∈sZ N j p:=by
 unfold sZ
 by_cases c:ma N j=true
 .rw [if_pos c,Hx];exact⟨e,h,if_neg ne⟩
 .rw [if_neg c];exact Hm _ h
def xS{N:bO}{j:Nat}{p:Int×Int}:(sZ N j p).length<=N.length+1:=by
 unfold sZ
 split
 .rw [length_map];omega
 .rw [length_append];exact g_ _
def e7.put{N:bO}{f:NrT}(h:e7 N f){j:Nat}{p:Int×Int}{f':NrT}(ef:f'=λi=>if i=j then some p else f i):e7 (sZ N j p) f':=by
 subst ef
 refine⟨λe he=>?_,λi q hq=>?_⟩
 .rcases xP he with rfl|⟨he,ne⟩
  .exact if_pos rfl
  .exact (if_neg ne).trans (h.e e he)
 .by_cases c:i=j
  .subst c;rw [if_pos rfl] at hq;cases hq;exact xQ
  .rw [if_neg c] at hq;exact xR (h.m i q hq) c
def e7.drop{N:bO}{f:NrT}(h:e7 N f){j:Nat}:e7 (tq N j) (mU f j):=by
 refine⟨λe he=>?_,λi q hq=>?_⟩
 .unfold tq at he;rw [Ko,decide_eq_true_eq] at he;exact (if_neg he.2).trans (h.e e he.1)
 .unfold mU at hq
  by_cases c:i=j
  .rw [if_pos c] at hq;cases hq
  .rw [if_neg c] at hq;exact Ko.mpr ⟨h.m i q hq,decide_eq_true c⟩
def vP{sl:Nat->Int}{R:bO}{f:NrT}{k:Int}{m:Nat}(h1:ma R m=false)(h2:f m=none\/∃p,f m=some p/\sl m<p.1) :
  eZ sl R f k (m+1)=λi=>if i=m then some (sl m,k) else eZ sl R f k m i:=by
 funext i;unfold eZ
 by_cases c:i=m
 .subst c;rw [if_pos (HX _),if_pos rfl];unfold vz
  rcases h2 with e|⟨p,e,h⟩
  .rw [e];simp only;rw [if_neg (by rw [h1];exact m_)]
  .rw [e];simp only;rw [if_pos ⟨h1,h⟩]
 .rw [if_neg c]
  by_cases c2:i<m
  .rw [if_pos c2,if_pos (by omega)]
  .rw [if_neg c2,if_neg (by omega)]
def tu{sl:Nat->Int}{R:bO}{f:NrT}{k:Int}{m:Nat}(h:ma R m=true\/∃p,f m=some p/\¬ sl m<p.1)(fn:∀j,(∃p,f j=some p)->j∉el R) :
  eZ sl R f k (m+1)=eZ sl R f k m:=by
 funext i;unfold eZ
 by_cases c:i=m
 .subst c;rw [if_pos (HX _),if_neg (HN _)];unfold vz
  rcases h with e|⟨p,e,h⟩
  .cases e2:f i with
   | none=>simp only;rw [if_pos e]
   | some p=>exact absurd (gq.mp e) (fn i ⟨p,e2⟩)
  .rw [e];simp only;rw [if_neg λz=>h z.2]
 .by_cases c2:i<m
  .rw [if_pos c2,if_pos (by omega)]
  .rw [if_neg c2,if_neg (by omega)]
def A7{sl:Nat->Int}{R:bO}{f:NrT}{k:Int}{m:Nat}:eZ sl R f k m m=f m:=if_neg (HN _)
def DK{sl:Nat->Int}{R:bO}{f:NrT}{k:Int}:eZ sl R f k 0=f:=funext λ_=>if_neg (HZ _)
def vQ(R:bO)(j:Nat):(dE (ksR R) (dsR R) (.inl (j:Int))).isSome=ma R j:=by
 unfold ksR dsR;rw [fX,<- yZ];unfold mW;rw [KI]
 induction kdR R with
 | nil=>rfl
 | cons a r ih =>
  rw [IW,any_cons]
  cases decide (a.1=(Ic (j:Int):Key)) with
  | true=>rfl
  | false=>rw [J1];exact ih
def A8{d:D}{xs:List D}(h:fW d xs):rowD d=some xs:=by
 rcases h with rfl|rfl <;> rfl
noncomputable def kS(v:Option PV):Prop:=∀p,v=some p->p.isOwn=false
def cw{d:D}:kS (some (.dat d)):=λp h=>by cases h;rfl
def kT:kS none:=λp h=>by cases h
theorem y8:∀R:bO,D.noFs (dsR R)=true
 | []=>rfl
 | e::R=>by
  show D.noFs (DJ e::dsR R)=true;have:=y8 R;simp [D.noFs,D.noF,DJ,this]
def DL{a0 a1 a2 a3 a4 a7 a8 a9:D}{R:bO}{w v10 v11 v12:Option PV}(h:kS v10/\kS v11/\kS v12):FH 6 [some (.dat a0),some (.dat a1),some (.dat a2),some (.dat a3),some (.dat a4),some (.odc (ksR R) (dsR R)),w,some (.dat a7),some (.dat a8),some (.dat a9),v10,v11,v12]:=λj p hj e o=>by
 match j,e with
 | 0,e|1,e|2,e|3,e|4,e|7,e|8,e|9,e=>cases e;cases o
 | 5,e=>cases e;exact y8 R
 | 6,e=>exact absurd rfl hj
 | 10,e=>cases e;rw [h.1 p rfl] at o;cases o
 | 11,e=>cases e;rw [h.2.1 p rfl] at o;cases o
 | 12,e=>cases e;rw [h.2.2 p rfl] at o;cases o
 | _+13,e=>cases e
def vR{ks:List Key}{ds:List D}{k:Key}(c:(if true=true then !(dE ks ds k).isSome else (dE ks ds k).isSome)=true):dE ks ds k=none:=by
 rw [if_pos rfl] at c
 cases h:dE ks ds k with
 | none=>rfl
 | some d=>rw [h] at c;cases c
def vS{ks:List Key}{ds:List D}{k:Key}(c:(if true=true then !(dE ks ds k).isSome else (dE ks ds k).isSome)=false):(dE ks ds k).isSome=true:=by
 rw [if_pos rfl] at c
 cases h:dE ks ds k with
 | none=>rw [h] at c;cases c
 | some d=>rfl
def xT(N:bO):(D.lst (N.map λe=>.tup [.int e.2.1,.int e.1])).noF=true:=by
 show D.noFs _=true
 induction N with
 | nil=>rfl
 | cons e N ih =>
  rw [map_cons];simp [D.noFs,D.noF,ih]
def xU{N:bO}{f:NrT}{n:Nat}(h:e7 N f)(hn:∀j p,f j=some p->j<n){e:Nat×Int×Int}(he:e∈N)(hm:∀q,q∈N.map (λe=>[e.2.1,(e.1:Int)])->lxB q [e.2.1,(e.1:Int)]=false):eG f n (e.2.1,e.1):=by
 refine⟨hn _ _ (h.e e he),⟨e.2.2,h.e e he⟩,λj _ p hp=>?_⟩;have:=hm _ (Hx.mpr ⟨(j,p),h.m j p hp,rfl⟩);show e.2.1<p.1\/(e.2.1=p.1/\e.1<=j)
 unfold lxB at this
 by_cases c:p.1=e.2.1
 .rw [if_pos c] at this;unfold lxB at this
  by_cases c2:(j:Int)=(e.1:Int)
  .exact .inr ⟨c.symm,by omega⟩
  .rw [if_neg c2] at this;have:¬ (j:Int)<e.1:=of_decide_eq_false this;exact .inr ⟨c.symm,by omega⟩
 .rw [if_neg c] at this;have:¬ p.1<e.2.1:=of_decide_eq_false this;exact .inl (by omega)
def xV{R:bO}{j:Nat}{p:Int×Int}(h:j∉el R):sZ R j p=R++[(j,p)]:=if_neg λz=>h (gq.mp z)
def vT{R:bO}{j:Nat}:(tq R j).length<=R.length:=length_filter_le _ _
noncomputable def eO:FN:=λa_ Q=>cD (λd=>cL (λga=>cL (λta=>cL (λla=>cI (λm=>cN (∃(n:Nat) (c:Nat->Nat->Int) (rs:List D),A4 n c d rs/\∃g:Nat->Int,ga=cQ n g/\∃t:Nat->Int,ta=cQ n t/\∃l:Nat->Int,la=cQ n l/\∃s:Nat,m=s/\(n<=40/\s<n/\ql n c g t l s)/\∀R0 q x p,D7 n c g t l s=R0++[(q,x,p)]->yP n c g t l s R0 q x p->Q (.odc (ksR (R0++[(q,x,p)])) (dsR (R0++[(q,x,p)]))))))))) a_
def FI{a m:D}{ga ta la ga' ta' la':List D}{Q:List PV->Prop}{v5 v6 v7 v8 v9:Option PV}(q:Q [.dat a,.own ga',.own ta',.own la',.dat m]) :
  wB [1,2,3] [.dat a,.own ga,.own ta,.own la,.dat m] Q [some (.dat a),some (.own ga'),some (.own ta'),some (.own la'),some (.dat m),v5,v6,v7,v8,v9]:=by
 refine⟨[.dat a,.own ga',.own ta',.own la',.dat m],⟨rfl,λi p p' e e'=>?_⟩,λi hi p' e=>?_,q⟩
 .match i,e,e' with
  | 0,e,e'=>cases e;cases e';exact⟨rfl,λ_=>rfl⟩
  | 1,e,e'=>cases e;cases e';exact⟨rfl,λz=>(by cases z)⟩
  | 2,e,e'=>cases e;cases e';exact⟨rfl,λz=>(by cases z)⟩
  | 3,e,e'=>cases e;cases e';exact⟨rfl,λz=>(by cases z)⟩
  | 4,e,e'=>cases e;cases e';exact⟨rfl,λ_=>rfl⟩
  | _+5,e,e'=>cases e
 .rw [mem_cons,mem_cons,vx] at hi;rcases hi with rfl|rfl|rfl <;> (cases e;rfl)
def DM(R:bO):∀d∈dsR R,Bn d:=λd hd=>by
 unfold dsR kdR at hd;rw [Hz] at hd;obtain⟨e,_,rfl⟩:=Hx.mp hd;refine .tup λx hx=>?_;rw [mem_cons,vx] at hx;rcases hx with rfl|rfl <;> exact .fl rfl
def iN{n:Nat}{f:Nat->Int}{i:Nat}{v:Int}:(cQ n f).set i (.int v)=cQ n (jX f i v):=by
 refine Ki λj=>?_;unfold cQ;rw [getElem?_set,i_,i_,length_map,length_range]
 by_cases hj:j<n
 .rw [IE hj]
  by_cases c:i=j
  .subst c;rw [if_pos rfl,if_pos hj];show some (D.int v)=some (D.int (jX f i v i));rw [bV]
  .rw [if_neg c];show some (D.int (f j))=some (D.int (jX f i v j));rw [bj (λz=>c z.symm)]
 .have e:(gV n)[j]?=none:=z_ (by rw [length_range];omega);rw [e]
  by_cases c:i=j
  .rw [if_pos c,if_neg (by omega)];rfl
  .rw [if_neg c];rfl
def A9(R:bO):ksR R=(R.map λe=>(e.1:Int)).map Ic:=by
 unfold ksR kdR;rw [Hz,Hz];rfl
def vU{R:bO}(nd:(el R).Nodup){e:Nat×Int×Int}(h:e∈R):dE (ksR R) (dsR R) (.inl (e.1:Int))=some (.tup [.int e.2.1,.int e.2.2]):=by
 unfold ksR dsR;rw [fX];unfold mW kdR;rw [find?_map]
 have:List.find? ((λp:Key×D=>decide (p.1=Ic (e.1:Int))) ∘ λe=>((Ic (e.1:Int):Key),DJ e)) R=some e:=by
  have h2:=iJ (q:=e.1) (d:=e.2.1) (p:=e.2.2) nd h;rw [<- h2];congr 1;funext x;show decide ((Ic (x.1:Int):Key)=Ic (e.1:Int))=(x.1 == e.1)
  rw [II,decide_eq_true_eq,beq_iff_eq];exact⟨λz=>by injection z;omega,λz=>by rw [z]⟩
 rw [this];rfl
def Ba(R0:bO)(e:Nat×Int×Int):atI (((R0++[e]).map λe=>(e.1:Int)).map D.int) (-1)=some (.int (e.1:Int)):=by
 rw [map_append,map_append];unfold atI;simp [ixN];have e2:(-1+((R0.length:Int)+1)).toNat=R0.length:=by omega
 rw [if_pos (by omega),e2,Option.bind_some,IG (by rw [length_map];exact g_ _),length_map,sub_self];rfl
def vV{R:bO}{s m:Nat}{L:Nat->Int}{k:Int}(h:0<=k):g6 R s (m+1) L k=g6 R s m (jX L k.toNat (if 0<=prv R k.toNat then L (prv R k.toNat).toNat else s)) (prv R k.toNat):=by
 rw [g6,if_neg (by omega)]
def xW{R:bO}{s m:Nat}{L:Nat->Int}{k:Int}(h:k<0):g6 R s m L k=L:=by
 cases m with
 | zero=>rfl
 | succ m=>unfold g6;rw [if_pos h]
noncomputable def cz:FMs
 | [.dat d,.own ga,.own ta,.own la,.dat (.int m)],Q=>∃(n:Nat) (c:Nat->Nat->Int) (rs:List D),A4 n c d rs/\∃g:Nat->Int,ga=cQ n g/\∃t:Nat->Int,ta=cQ n t/\∃l:Nat->Int,la=cQ n l/\∃s:Nat,m=s/\(n<=40/\s<n/\ql n c g t l s)/\Q [.dat d,.own (cQ n (kJ n c s (g,t,l)).1),.own (cQ n (kJ n c s (g,t,l)).2.1),.own (cQ n (kJ n c s (g,t,l)).2.2),.dat (.int m)]
 | _,_=>False
noncomputable def bpJ(n:Nat)(c:Nat->Nat->Int):List Nat:=(gV n).map (bpF n c)
noncomputable def bpG(n:Nat)(c:Nat->Nat->Int):List Int:=(gV n).map (bpN n c n).1
noncomputable def bpT(n:Nat)(c:Nat->Nat->Int):List Int:=(gV n).map (bpN n c n).2.1
noncomputable def bpP(n:Nat)(c:Nat->Nat->Int):D:=.tup [.tup ((bpJ n c).map nD),.tup ((bpG n c).map .int),.tup ((bpT n c).map .int)]
def jZ(n:Nat)(f:Nat->Int):cQ n f=((gV n).map f).map .int:=by unfold cQ;rw [Hz];rfl
def xX{d:D}(h:sqB d=true):A4 (ah d).length (cel d) d (ah d):=by
 have hr:b8 d=true:=by unfold sqB at h;rw [and_eq_true] at h;exact h.1
 refine⟨jt hr,rfl,λi hi=>?_⟩
 have key:ah (itD (ah d) i)=cQ (ah d).length (cel d i):=by
  refine Ki λj=>?_
  by_cases hj:j<(ah d).length
  .obtain⟨_,r2,r3⟩:=kQ h hi hj;rw [gv hj];have:=getElem?_itD (ds:=ah (itD (ah d) i)) (k:=j) (by omega);have e2:=eX (j:=j) this rfl;rw [e2] at r3;rw [this,r3]
  .by_cases h0:0<(ah d).length
   .obtain⟨_,r2,_⟩:=kQ h hi h0;rw [z_ (by omega),z_ (by rw [dG];omega)]
   .omega
 have h0:0<(ah d).length:=by omega
 obtain⟨r1,_,_⟩:=kQ h hi h0;rw [key] at r1;exact r1
def FJ{d:D}(h:sqB d=true){i j:Nat}(hi:i<(ah d).length)(hj:j<(ah d).length):0<=cel d i j:=by
 unfold sqB at h;rw [and_eq_true,and_eq_true,and_eq_true] at h;obtain⟨_,_,h3,h4⟩:=h;have hm:=cB hi;have r:=all_eq_true.mp h3 _ hm;rw [and_eq_true,decide_eq_true_eq] at r;have hj':j<(ah (itD (ah d) i)).length:=by rw [r.2];exact hj
 have c:=all_eq_true.mp (all_eq_true.mp h4 _ hm) _ (cB hj');unfold cel;generalize itD (ah (itD (ah d) i)) j=x at c ⊢
 cases x with
 | int z =>
  unfold iU at c;simp at c;exact c.2.1
 | _=>exact Iv _
def FK{d:D}(h:sqB d=true):(ah d).length<=40:=by
 unfold sqB at h;rw [and_eq_true,and_eq_true,decide_eq_true_eq] at h;exact h.2.1
noncomputable def bA:FX:=λa_ Q E=>cD (λd=>cN (xO d/\((ah d).length<=1000/\∀r∈ah d,(ah r).length<=1000)/\(sqB d=false->E (.exc "NoTable" [] []))/\(sqB d=true->Q (.dat (bpP (ah d).length (cel d)))))) a_
noncomputable def Dk(zs:List Int):Prop:=∀x∈zs,0<=x/\x<1000000000000000000
noncomputable def hZ:FN:=λa_ Q=>cR (λns=>cI (λmo=>cN ((ns.length<=64/\0<=mo/\mo<=2000)/\∀zs:List Int,Dk zs->zs.length=mo.toNat->Q (.own (zs.map .int))))) a_
noncomputable def aH:FR:=λp a_ Q=>oL (λds=>cN (∃zs:List Int,ds=zs.map .int/\(Dk zs/\0<zs.length/\zs.length<=100000)/\∀(z:Int) (ys:List Int),0<=z->z<1000000000000000000->Dk ys->ys.length+1=zs.length->Q (.dat (.int z)) (.own (ys.map .int))) a_) p
noncomputable def eB:FN:=λa_ Q=>cD (λd=>cN (d.sort=true/\Q (.dat (.bl (jG d))))) a_
def jg(js:List Nat):js.map nD=(js.map λj=>((j:Nat):Int)).map D.int:=by rw [Hz];rfl
def vW(rs:List Nat):rk (.lst (rs.map nD)) (.lst []):=by rw [jg];exact rk.of (Sh.lstI _) (Sh.lstI [])
def Bb(rs:List Nat):deq (.lst (rs.map nD)) (.lst [])=decide (rs=[]):=by
 rw [jg,show (D.lst [])=D.lst (([]:List Int).map D.int) from rfl,rG];exact decide_eq_decide.mpr ⟨λz=>by simpa using z,λz=>by rw [z];rfl⟩
noncomputable def c9:FR:=λp a_ Q=>oL (λds=>cI (λm=>cN (∃zs:List Int,ds=zs.map .int/\(Dk zs/\m.toNat<=zs.length/\zs.length<=10000/\0<=m/\m<=40)/\∀(js:List Nat) (ys:List Int),js.Perm (gV m.toNat)->Dk ys->ys.length+m.toNat=zs.length->Q (.dat (.lst (js.map nD))) (.own (ys.map .int)))) a_) p
abbrev cS(r:List Int):D:=.lst (r.map .int)
noncomputable def at2(M:List (List Int))(i j:Nat):Int:=(M.getD i []).getD j 0
structure GI (n:Nat) (M:List (List Int)) (js:List Nat) (gs ts:List Int):Prop where
 pj:js.Perm (gV n)
 lm:M.length=n
 lg:gs.length=n
 lt:ts.length=n
 lr:∀i,i<n->(M.getD i []).length=n
 g0:∀i,i<n->0<=gs.getD i 0/\gs.getD i 0<500001
 t0:∀i,i<n->0<=ts.getD i 0/\ts.getD i 0<500001
 c0:∀i j,i<n->j<n->0<=at2 M i j/\at2 M i j<=gs.getD i 0+ts.getD j 0
 ce:∀i,i<n->at2 M i (js.getD i 0)=gs.getD i 0+ts.getD (js.getD i 0) 0
def Bc(z:Int):∃s:Int,atI [D.int 3,D.int 9,D.int 60,D.int 500001] (z % 4)=some (.int s)/\0<s/\s<=500001:=by
 have h:z % 4=0\/z % 4=1\/z % 4=2\/z % 4=3:=by omega
 rcases h with h|h|h|h <;> rw [h]
 .exact⟨3,rfl,by decide,by decide⟩
 .exact⟨9,rfl,by decide,by decide⟩
 .exact⟨60,rfl,by decide,by decide⟩
 .exact⟨500001,rfl,by decide,by decide⟩
def rX{α:Type}{L:List α}{x d:α}{i:Nat}(h:i<L.length):(L++[x]).getD i d=L.getD i d:=by
 rw [e_,Je h,<- e_]
def oO{α:Type}{L:List α}{x d:α}{i:Nat}(h:i=L.length):(L++[x]).getD i d=x:=by
 rw [e_,h,IG (g_ _),sub_self];rfl
def getD_mem{L:List Int}{i:Nat}(h:i<L.length):L.getD i 0∈L:=by
 rw [e_,d_ h];exact Iu h
noncomputable def oQ(js:List Nat)(gs ts:List Int)(i j:Nat)(c:Int):Prop:=0<=c/\c<=gs.getD i 0+ts.getD j 0/\(js.getD i 0=j->c=gs.getD i 0+ts.getD j 0)
def eP{L:List Int}{i:Nat}(h:i<L.length):atI (L.map D.int) (i:Int)=some (.int (L.getD i 0)):=by
 refine eX (j:=i) ?_ rfl;rw [i_,d_ h,e_,d_ h];rfl
def y9{L:List Nat}{i:Nat}(h:i<L.length):atI (L.map nD) (i:Int)=some (.int ((L.getD i 0:Nat):Int)):=by
 refine eX (j:=i) ?_ rfl;rw [i_,d_ h,e_,d_ h];rfl
noncomputable def h7:FR:=λp a_ Q=>oL (λds=>cI (λm=>cN (∃zs:List Int,ds=zs.map .int/\(Dk zs/\m.toNat*m.toNat+3*m.toNat+1<=zs.length/\zs.length<=10000/\0<=m/\m<=40)/\∀(M:List (List Int)) (js:List Nat) (gs ts ys:List Int),GI m.toNat M js gs ts->Dk ys->zs.length<=ys.length+(m.toNat*m.toNat+3*m.toNat+1)->ys.length<=zs.length->Q (.dat (.tup [.lst (M.map cS),.lst [.lst (js.map nD),.lst (gs.map .int),.lst (ts.map .int)]])) (.own (ys.map .int)))) a_) p
noncomputable def rOk(M:List (List Int))(js:List Nat)(gs ts:List Int)(n i:Nat):Prop:=0<=gs.getD i 0/\0<=ts.getD i 0/\gs.getD i 0+ts.getD (js.getD i 0) 0=at2 M i (js.getD i 0)/\∀j,j<n->¬ gs.getD i 0+ts.getD j 0<at2 M i j
noncomputable def ju(M:List (List Int))(js:List Nat)(gs ts:List Int)(n:Nat):Bool:=decide (∀i,i<n->0<=gs.getD i 0/\0<=ts.getD i 0/\gs.getD i 0+ts.getD (js.getD i 0) 0=at2 M i (js.getD i 0)/\∀j,j<n->¬ gs.getD i 0+ts.getD j 0<at2 M i j)
def xY{M:List (List Int)}{js:List Nat}{gs ts:List Int}{n i:Nat}(hi:i<n)(h:¬ rOk M js gs ts n i):ju M js gs ts n=false:=decide_eq_false λz=>h (z i hi)
def oS{M:List (List Int)}{js:List Nat}{gs ts:List Int}{n:Nat}(h:∀i,i<n->rOk M js gs ts n i):ju M js gs ts n=true:=decide_eq_true h
def vX{M:List (List Int)}{i:Nat}(h:i<M.length):atI (M.map cS) (i:Int)=some (cS (M.getD i [])):=by
 refine eX (j:=i) ?_ rfl;rw [i_,d_ h,e_,d_ h];rfl
noncomputable def f8:FN:=λa_ Q=>cL (λrs=>cT (λfs=>cT (λga=>cT (λta=>cN (∃M:List (List Int),rs=M.map cS/\∃js:List Nat,fs=js.map nD/\∃gs:List Int,ga=gs.map .int/\∃ts:List Int,ta=ts.map .int/\∃n:Nat,((n<=1000/\M.length=n/\js.length=n/\gs.length=n/\ts.length=n)/\(∀i,i<n->(M.getD i []).length=n/\js.getD i 0<n))/\Q (.dat (.bl (ju M js gs ts n)))))))) a_
structure xZ (n k:Nat) (o:List Nat):Prop where
 len:o.length=k
 nd:o.Nodup
 lt:∀x∈o,x<n
def xZ.perm{n:Nat}{o:List Nat}(h:xZ n n o):o.Perm (gV n) :=
 (mT h.nd (λx hx=>Hl.mpr (h.lt x hx)) (by rw [h.len,length_range])).symm
def xZ.add{n k i:Nat}{o:List Nat}(h:xZ n k o)(hi:i<n)(hn:i∉o):xZ n (k+1) (o++[i]):=by
 refine⟨by rw [length_append,h.len];rfl,JQ.mpr ⟨h.nd,by simp,λa ha b hb z=>?_⟩,λx hx=>?_⟩
 .rw [vx] at hb;subst hb;subst z;exact hn ha
 .rcases HA.mp hx with z|z
  .exact h.lt x z
  .rw [vx.mp z];exact hi
noncomputable def jh:FN:=λa_ Q=>cI (λm=>cN (∃n:Nat,m=n/\n<=5/\∀L:List (List Nat),(∀o∈L,xZ n n o)->L.length<=3125->Q (.dat (.lst (L.map λo=>.lst (o.map nD)))))) a_
noncomputable def dW:FN:=λa_ Q=>cX (λc ns ds=>cN (c="NoTable"/\Q (.dat (.str [78,111,84,97,98,108,101,32])))) a_
noncomputable def f9:FR:=λp a_ Q=>oL (λds=>cI (λm=>cN (∃zs:List Int,ds=zs.map .int/\∃n:Nat,m=n/\(Dk zs/\n*n+1<=zs.length/\zs.length<=10000/\n<=20)/\∀(M:List (List Int)) (ys:List Int),M.length=n->(∀r∈M,r.length=n/\∀z∈r,0<=z/\z<1000001)->Dk ys->ys.length+(n*n+1)=zs.length->Q (.own (M.map cS)) (.own (ys.map .int)))) a_) p
def vY{n:Nat}{M:List (List Int)}{js:List Nat}{gs ts:List Int}(g:GI n M js gs ts):∀r∈M,r.length=n/\∀z∈r,0<=z/\z<=1000000:=λr hr=>by
 obtain⟨i,hi,e⟩:=IT hr;have er:M.getD i []=r:=by rw [e_,d_ hi,e];rfl
 have hn:i<n:=by rw [<- g.lm];exact hi
 have hl:r.length=n:=by rw [<- er];exact g.lr i hn
 refine⟨hl,λz hz=>?_⟩;obtain⟨j,hj,ez⟩:=IT hz;have hj2:j<n:=by rw [<- hl];exact hj
 have e2:at2 M i j=z:=by
  show (M.getD i []).getD j 0=z;rw [er,e_,d_ hj,ez];rfl
 have c:=g.c0 i j hn hj2;have a:=g.g0 i hn;have b:=g.t0 j hj2;rw [e2] at c;exact⟨c.1,by omega⟩
noncomputable def eC:FR:=λp a_ Q=>oL (λds=>cI (λm=>cN (∃zs:List Int,ds=zs.map .int/\∃n:Nat,m=n/\(Dk zs/\n*n+3*n+2<=zs.length/\zs.length<=10000/\n<=20)/\∀(M:List (List Int)) (ys:List Int),M.length=n->(∀r∈M,r.length=n/\∀z∈r,0<=z/\z<=1000000)->Dk ys->zs.length<=ys.length+(n*n+3*n+2)->ys.length<=zs.length->Q (.dat (.lst (M.map cS))) (.own (ys.map .int)))) a_) p
noncomputable def ic(M:List (List Int))(js:List Nat)(k:Nat):Int:=((gV k).map λi=>(M.getD i []).getD (js.getD i 0) 0).sum
def me(M:List (List Int))(js:List Nat)(k:Nat):ic M js (k+1)=ic M js k+(M.getD k []).getD (js.getD k 0) 0:=by
 unfold ic;rw [Kw,map_append,sum_append];simp
def gDm{α:Type}{l:List α}{k:Nat}{d:α}(h:k<l.length):l.getD k d∈l:=B_ (show l[k]?=some (l.getD k d) by rw [e_,d_ h];rfl)
def oU{M:List (List Int)}(h:∀r∈M,∀z∈r,-1000000<=z/\z<=1000000)(i j:Nat):-1000000<=(M.getD i []).getD j 0/\(M.getD i []).getD j 0<=1000000:=by
 rcases lt_or_ge j (M.getD i []).length with hj|hj
 .have hi:i<M.length:=by
   rcases lt_or_ge i M.length with hi|hi
   .exact hi
   .rw [e_,z_ hi] at hj;exact absurd hj (HZ _)
  exact h _ (gDm hi) _ (gDm hj)
 .rw [e_ (l:=M.getD i []),z_ hj];decide
def atK{α:Type}{f:α->D}{l:List α}{i:Nat}{d:α}(h:i<l.length):atI (l.map f) (i:Int)=some (f (l.getD i d)):=by
 refine eX (j:=i) ?_ rfl;rw [i_,d_ h,e_,d_ h];rfl
theorem oV{M:List (List Int)}{js:List Nat}(h:∀r∈M,∀z∈r,-1000000<=z/\z<=1000000):∀k:Nat,-1000000*(k:Int)<=ic M js k/\ic M js k<=1000000*(k:Int)
 | 0=>by simp [ic]
 | k+1=>by
  obtain⟨a,b⟩:=oV (js:=js) h k;have c:=oU h k (js.getD k 0);rw [me];omega
noncomputable def fH:FN:=λa_ Q=>cL (λds=>cD (λe=>cN (∃M:List (List Int),ds=M.map cS/\∃js:List Nat,fW e (js.map nD)/\(js.length=M.length/\M.length<=40/\(∀r∈M,r.length=M.length/\∀z∈r,-1000000<=z/\z<=1000000)/\∀j∈js,j<M.length)/\Q (.dat (.int (ic M js M.length)))))) a_
theorem za{f g:Nat->Int}:∀{n:Nat},(∀i,i<n->f i<=g i)->((gV n).map f).sum<=((gV n).map g).sum
 | 0,_=>Iv _
 | n+1,h=>by
  rw [Kw,map_append,map_append,sum_append,sum_append];have a:=za (f:=f) (g:=g) (n:=n) λi hi=>h i (by omega);have b:=h n (by omega);simp only [map_cons,map_nil,sum_cons,sum_nil];omega
theorem qy{f g:Nat->Int}:∀{n:Nat},((gV n).map λi=>f i+g i).sum=((gV n).map f).sum+((gV n).map g).sum
 | 0=>rfl
 | n+1=>by
  rw [Kw,map_append,map_append,map_append,sum_append,sum_append,sum_append,qy];simp only [map_cons,map_nil,sum_cons,sum_nil];omega
def x6{l l':List Int}(h:l.Perm l'):l.sum=l'.sum:=by
 induction h with
 | nil=>rfl
 | cons x _ ih=>rw [sum_cons,sum_cons,ih]
 | swap x y l=>rw [sum_cons,sum_cons,sum_cons,sum_cons];omega
 | trans _ _ a b=>exact a.trans b
def mf{js:List Nat}{ts:List Int}{n:Nat}(hp:js.Perm (gV n)):((gV n).map λi=>ts.getD (js.getD i 0) 0).sum=((gV n).map λi=>ts.getD i 0).sum:=by
 have hl:js.length=n:=by rw [hp.length_eq,length_range]
 have e:((gV n).map λi=>ts.getD (js.getD i 0) 0)=js.map λj=>ts.getD j 0:=by
  refine ext_getElem (by rw [length_map,length_map,length_range,hl]) λi h1 h2=>?_;rw [length_map,length_range] at h1;rw [getElem_map,getElem_map,getElem_range,e_ (l:=js),d_ (by omega)];rfl
 rw [e];exact x6 (hp.map _)
def vZ{M:List (List Int)}{js js':List Nat}{gs ts:List Int}{n:Nat}(hj:js.Perm (gV n))(hj':js'.Perm (gV n))(h:ju M js gs ts n=true):ic M js' n<=ic M js n:=by
 have h:∀i,i<n->0<=gs.getD i 0/\0<=ts.getD i 0/\gs.getD i 0+ts.getD (js.getD i 0) 0=at2 M i (js.getD i 0)/\∀j,j<n->¬ gs.getD i 0+ts.getD j 0<at2 M i j:=of_decide_eq_true h
 have lt:∀{o:List Nat},o.Perm (gV n)->∀i,i<n->o.getD i 0<n:=λ{o} ho i hi=>by
  have hl:o.length=n:=by rw [ho.length_eq,length_range]
  exact Hl.mp (ho.mem_iff.mp (gDm (d:=0) (by omega)))
 have e1:ic M js n=((gV n).map λi=>gs.getD i 0+ts.getD (js.getD i 0) 0).sum:=by
  unfold ic;congr 1;refine IU λi hi=>?_;exact (h i (Hl.mp hi)).2.2.1.symm
 have e2:ic M js' n<=((gV n).map λi=>gs.getD i 0+ts.getD (js'.getD i 0) 0).sum:=by
  unfold ic;refine za λi hi=>?_;have:=(h i hi).2.2.2 _ (lt hj' i hi);show at2 M i (js'.getD i 0)<=_;omega
 rw [e1,qy,mf hj];rw [qy,mf hj'] at e2;exact e2
noncomputable def di:FN:=λa_ Q=>cL (λds=>cT (λes=>cN (∃M:List (List Int),ds=M.map cS/\∃(js:List Nat) (gs ts:List Int),es=[.tup (js.map nD),.tup (gs.map .int),.tup (ts.map .int)]/\∃n:Nat,((n<=40/\M.length=n/\gs.length=n/\ts.length=n)/\(∀r∈M,r.length=n/\∀z∈r,0<=z/\z<=1000000)/\js.Perm (gV n)/\ju M js gs ts n=true)/\Q (.dat (.bl true))))) a_
noncomputable def eQ:FN:=λa_ Q=>cD (λd=>cN ((xO d/\((ah d).length<=1000/\∀r∈ah d,(ah r).length<=1000))/\sqB d=false/\Q (.dat (.bl true)))) a_
abbrev m5(r:List Int):D:=.tup (r.map .int)
theorem j1(c:List Int->D):∀M:List (List Int),D.pys (M.map c)=M.map λr=>(c r).py
 | []=>rfl
 | r::M=>by rw [map_cons,map_cons,<- j1 c M];rfl
theorem ie{c:List Int->D}(h:∀r,(c r).plain=true):∀M:List (List Int),D.plains (M.map c)=true
 | []=>rfl
 | r::M=>by rw [map_cons];show ((c r).plain && D.plains (M.map c))=true;rw [h r,ie h M];rfl
def wc(r:List Int):lu 1 (cS r).py:=by
 show lu 1 (.list (D.pys (r.map .int)));rw [iY];exact lu.list (kh r)
def wd(r:List Int):lu 1 (m5 r).py:=by
 show lu 1 (.tuple (D.pys (r.map .int)));rw [iY];exact lu.tuple (kh r)
def j3(M:List (List Int)):Sh (.lst (M.map cS)):=by
 refine⟨ie (c:=cS) (λr=>gp r) M,?_⟩;show Ie (.list (D.pys (M.map cS)))=true;rw [j1];exact (lu.list λd hd=>by obtain⟨r,_,rfl⟩:=Hx.mp hd;exact wc r).shaped (by decide)
def x8(M:List (List Int)):Sh (.tup (M.map m5)):=by
 refine⟨ie (c:=m5) (λr=>gp r) M,?_⟩;show Ie (.tuple (D.pys (M.map m5)))=true;rw [j1];exact (lu.tuple λd hd=>by obtain⟨r,_,rfl⟩:=Hx.mp hd;exact wd r).shaped (by decide)
def oW(M:List (List Int)):deq (.lst (M.map cS)) (.lst [])=decide (M=[]):=by
 show Jf (.list (D.pys (M.map cS))) (.list [])=_;rw [j1];cases M <;> simp [Jf,Jt]
structure Bd (x:D):Prop where
 s:xO x
 l:(ah x).length<=1000/\∀r∈ah x,(ah r).length<=1000
 no:sqB x=false
noncomputable def okR(y:D):Prop:=(y.sort=true/\∀x∈ah y,x.sort=true)/\(ah y).length<=1000
def iO{x:D}(hs:x.sort=true)(hi:ah x=[])(hr:b8 x=false):Bd x :=
 ⟨⟨hs,by rw [hi];exact λr hr=>nomatch hr⟩,⟨by rw [hi];exact Jm _,by rw [hi];exact λr hr=>nomatch hr⟩,by unfold sqB;rw [hr];rfl⟩
def gb{es:List D}(ok:∀y∈es,okR y)(hl:es.length<=1000)(h:sqB (.lst es)=false):Bd (.lst es):=⟨⟨rfl,λr hr=>(ok r hr).1⟩,⟨hl,λr hr=>(ok r hr).2⟩,h⟩
def tw{es:List D}{r x:D}(hr:r∈es)(hx:x∈ah r)(h:iU x 0 1000000=false):sqB (.lst es)=false:=by
 unfold sqB oK
 have:((ah (.lst es)).all λr=>(ah r).all λx=>iU x 0 1000000)=false:=by
  cases e:((ah (.lst es)).all λr=>(ah r).all λx=>iU x 0 1000000) with
  | false=>rfl
  | true =>
   have z:=all_eq_true.mp (all_eq_true.mp e r hr) x hx;rw [h] at z;cases z
 rw [this,Ih,Ih,Ih]
def m7(zs:List Int)(h:zs.length<=1000):okR (cS zs):=⟨⟨rfl,λx hx=>by obtain⟨z,_,rfl⟩:=Hx.mp hx;rfl⟩,by show (zs.map D.int).length<=1000;rw [length_map];exact h⟩
def rY{x:D}(hs:x.sort=true)(hi:ah x=[]):okR x:=⟨⟨hs,by rw [hi];exact λx hx=>nomatch hx⟩,by rw [hi];exact Jm _⟩
def Be{L:List D}{i:Nat}{d:D}(h:i<L.length):d∈L.set i d:=by
 have:(L.set i d)[i]?=some d:=n_ h;exact B_ this
def x9{M:List (List Int)}{n i j:Nat}{d:D}(lM:M.length=n)(lr:∀r∈M,r.length=n)(hn:n<=40)(hi:i<n)(hj:j<n)(hs:d.sort=true)(hw:iU d 0 1000000=false) :
  Bd (.lst (((M.map λr=>r.map D.int).set i (((M.getD i []).map D.int).set j d)).map D.lst)):=by
 have hr:M.getD i []∈M:=by rw [e_,d_ (by omega)];exact Iu _
 have ok:∀y∈((M.map λr=>r.map D.int).set i (((M.getD i []).map D.int).set j d)).map D.lst,okR y:=λy hy=>by
  obtain⟨r,hr2,rfl⟩:=Hx.mp hy
  rcases mem_or_eq_of_mem_set hr2 with z|z
  .obtain⟨s,hs,rfl⟩:=Hx.mp z;exact m7 s (by rw [lr s hs];omega)
  .rw [z];refine⟨⟨rfl,λx hx=>?_⟩,by show (((M.getD i []).map D.int).set j d).length<=1000;rw [length_set,length_map,lr _ hr];omega⟩
   rcases mem_or_eq_of_mem_set hx with z|z
   .obtain⟨y,_,rfl⟩:=Hx.mp z;rfl
   .rw [z];exact hs
 refine gb ok (by rw [length_map,length_set,length_map];omega) (tw (r:=.lst (((M.getD i []).map D.int).set j d)) (x:=d) ?_ ?_ hw)
 .exact Hx.mpr ⟨_,B_ (n_ (by rw [length_map];omega)),rfl⟩
 .exact Be (by rw [length_map,lr _ hr];omega)
def rZ(x:D)(n:Nat):mB [x] (n:Int)=u_ n x:=by
 unfold mB;rw [toNat_natCast]
 induction n with
 | zero=>rfl
 | succ n ih=>rw [replicate_succ,flatten_cons,ih,replicate_succ];rfl
def wf{n i:Nat}(h:i<n):ixN n (i:Int)=some i:=by
 unfold ixN;rw [if_pos (by omega)];simp;omega
def DN(M:List (List Int)):fL (M.map cS) (M.map λr=>r.map D.int):=by
 induction M with
 | nil=>exact .nil
 | cons r M ih=>exact .cons (.inl rfl) ih
def DO(M:List (List Int)):(M.map λr=>r.map D.int).map D.lst=M.map cS:=by rw [Hz];rfl
def ye{M:List (List Int)}{i:Nat}(h:i<M.length):(M.map λr=>r.map D.int)[i]?=some ((M.getD i []).map D.int):=by
 rw [i_,d_ h,e_,d_ h];rfl
def FL(ρ:PSt)(x:Nat)(M:List (List Int)):opv ρ x (M.map λr=>r.map D.int)=(ρ.map (Lw λp=>PV.dat p.d)).set x (some (.dat (.lst (M.map cS)))):=by
 show (ρ.set x (some (PV.own ((M.map λr=>r.map D.int).map D.lst)))).map (Lw λp=>PV.dat p.d)=_;rw [map_set,DO];rfl
def FM:mB [D.int 0] 41=(u_ 41 (0:Int)).map D.int:=by
 rw [show (41:Int)=((41:Nat):Int) from rfl,rZ,map_replicate]
def DP:mB [D.lst (mB [D.int 0] 41)] 41=u_ 41 (cS (u_ 41 0)):=by
 rw [FM,show (41:Int)=((41:Nat):Int) from rfl,rZ]
def Bf:∀x∈[D.non,D.int 5,D.str [97,98,99],D.dic [] [],D.lst [D.lst []],D.lst (mB [D.lst (mB [D.int 0] 41)] 41),D.lst [D.lst [D.int 0],D.lst [D.int 0]],D.lst [D.lst [D.int 0,D.int 0]],D.lst [D.non],D.lst [D.str [97]],D.lst [D.lst [D.int 0,D.int 0],D.lst [D.int 0,D.str [48]]]],Bd x:=by
 intro x hx;simp only [mem_cons,not_mem_nil,or_false] at hx;have z:∀zs:List Int,zs.length<=1000->okR (.lst (zs.map D.int)):=m7;have z0:okR (.lst []):=z [] (by decide);have z1:okR (.lst [D.int 0]):=z [0] (by decide);have z2:okR (.lst [D.int 0,D.int 0]):=z [0,0] (by decide);have one:∀y:D,okR y->∀x∈[y],okR x:=λy h x hx=>by rw [vx.mp hx];exact h
 have two:∀y z:D,okR y->okR z->∀x∈[y,z],okR x:=λy z h k x hx=>by
  rcases mem_cons.mp hx with rfl|hx
  .exact h
  .rw [vx.mp hx];exact k
 rcases hx with rfl|rfl|rfl|rfl|rfl|rfl|rfl|rfl|rfl|rfl|rfl
 .exact iO rfl rfl rfl
 .exact iO rfl rfl rfl
 .exact iO rfl rfl rfl
 .exact iO rfl rfl rfl
 .exact gb (one _ z0) (by decide) rfl
 .rw [DP];refine gb (λy hy=>by rw [eq_of_mem_replicate hy];exact m7 _ (by rw [length_replicate];decide)) (by rw [length_replicate];decide) ?_;unfold sqB;rw [decide_eq_false (show ¬ (ah (.lst (u_ 41 (cS (u_ 41 0))))).length<=40 by show ¬ (u_ 41 (cS (u_ 41 0))).length<=40;rw [length_replicate];decide),Hn,Ih]
 .exact gb (two _ _ z1 z1) (by decide) rfl
 .exact gb (one _ z2) (by decide) rfl
 .exact gb (one _ (rY rfl rfl)) (by decide) rfl
 .exact gb (one _ (rY rfl rfl)) (by decide) rfl
 .exact gb (two _ _ z2 ⟨⟨rfl,λx hx=>by
   rcases mem_cons.mp hx with rfl|hx
   .rfl
   .rw [vx.mp hx];rfl⟩,by decide⟩) (by decide) rfl
def m8{c:List Int->D}{M:List (List Int)}{i:Nat}(h:i<M.length):itD (M.map c) i=c (M.getD i []):=by
 unfold itD;rw [e_,i_,d_ h,e_,d_ h];rfl
structure e8 (d:D) (M:List (List Int)) (n:Nat):Prop where
 sq:b8 d=true
 ln:(ah d).length=n
 rw:∀i,i<n->b8 (itD (ah d) i)=true/\ah (itD (ah d) i)=(M.getD i []).map D.int
def e8.mem{d:D}{M:List (List Int)}{n:Nat}(G:e8 d M n){r:D}(hr:r∈ah d):∃i,i<n/\r=itD (ah d) i:=by
 obtain⟨i,hi⟩:=Ld hr;have hl:i<(ah d).length:=(h_.mp hi).1;refine⟨i,by rw [<- G.ln];exact hl,?_⟩;rw [getElem?_itD hl] at hi;exact (we hi).symm
def e8.srt{d:D}{M:List (List Int)}{n:Nat}(G:e8 d M n)(hn:n<=40)(lr:∀i,i<n->(M.getD i []).length<=60):xO d/\((ah d).length<=1000/\∀r∈ah d,(ah r).length<=60):=by
 have rs:∀x:D,b8 x=true->x.sort=true:=λx h=>by cases x <;> first|rfl|cases h
 refine⟨⟨rs d G.sq,λr hr=>?_⟩,by rw [G.ln];omega,λr hr=>?_⟩
 .obtain⟨i,hi,rfl⟩:=G.mem hr;refine⟨rs _ (G.rw i hi).1,λx hx=>?_⟩;rw [(G.rw i hi).2] at hx;obtain⟨z,_,rfl⟩:=Hx.mp hx;rfl
 .obtain⟨i,hi,rfl⟩:=G.mem hr;rw [(G.rw i hi).2,length_map];exact lr i hi
def e8.sqB{d:D}{M:List (List Int)}{n:Nat}(G:e8 d M n)(hn:n<=40)(lr:∀i,i<n->(M.getD i []).length=n)(c0:∀i j,i<n->j<n->0<=at2 M i j/\at2 M i j<=1000000):sqB d=true:=by
 unfold K27.sqB lK oK;rw [G.sq,G.ln,decide_eq_true hn,Hi,Hi,and_eq_true,all_eq_true,all_eq_true]
 refine⟨λr hr=>?_,λr hr=>?_⟩
 .obtain⟨i,hi,rfl⟩:=G.mem hr;rw [(G.rw i hi).1,(G.rw i hi).2,length_map,lr i hi,decide_eq_true rfl];rfl
 .obtain⟨i,hi,rfl⟩:=G.mem hr;rw [(G.rw i hi).2,all_map,all_eq_true];intro z hz;obtain⟨j,hj⟩:=Ld hz;have hjl:j<(M.getD i []).length:=(h_.mp hj).1;have e:at2 M i j=z:=by unfold at2;rw [e_,hj];rfl
  have:=c0 i j hi (by rw [<- lr i hi];exact hjl);rw [e] at this;show iU (.int z) 0 1000000=true;unfold iU;rw [show jG (.int z)=true from rfl,show toI (.int z)=z from rfl,decide_eq_true this.1,decide_eq_true this.2];rfl
def e8.cel{d:D}{M:List (List Int)}{n:Nat}(G:e8 d M n)(lr:∀i,i<n->(M.getD i []).length=n){i j:Nat}(hi:i<n)(hj:j<n):cel d i j=at2 M i j:=by
 unfold K27.cel;rw [(G.rw i hi).2,mL (by rw [length_map,lr i hi];exact hj)];rfl
def yf{d e f g t:D}{M:List (List Int)}{js:List Nat}{gs ts:List Int}{n:Nat}(G:e8 d M n)(hn:n<=40)(lr:∀i,i<n->(M.getD i []).length=n)(c0:∀i j,i<n->j<n->0<=at2 M i j/\at2 M i j<=1000000)
  (he:fW e [f,g,t]) (hf:fW f (js.map nD)) (hg:fW g (gs.map .int)) (ht:fW t (ts.map .int)) (hp:js.Perm (gV n)) (lg:gs.length=n) (lt:ts.length=n):oN d e=ju M js gs ts n:=by
 have lj:js.length=n:=(by rw [hp.length_eq,length_range])
 have hjm:∀i,i<n->js.getD i 0<n:=λi hi=>Hl.mp (hp.mem_iff.mp (by rw [e_,d_ (by omega)];exact Iu _))
 have nf:∀i,i<n->(nmb f i).toNat=js.getD i 0:=λi hi=>by
  unfold nmb;rw [hf.items,uY (by rw [length_map];omega)];exact toNat_natCast _
 have ng:∀i,i<n->nmb g i=gs.getD i 0:=λi hi=>(sY hg (by omega)).1;have nt:∀i,i<n->nmb t i=ts.getD i 0:=λi hi=>(sY ht (by omega)).1;have pg:prB g n=gs.all λz=>decide (0<=z):=by have:=m4 hg;rw [lg] at this;exact this
 have pt:prB t n=ts.all λz=>decide (0<=z):=by have:=m4 ht;rw [lt] at this;exact this
 have all0:∀zs:List Int,zs.length=n->((zs.all λz=>decide (0<=z))=true ↔ ∀i,i<n->0<=zs.getD i 0):=λzs hz=>by
  rw [all_eq_true]
  constructor
  .intro h i hi;exact of_decide_eq_true (h _ (getD_mem (by omega)))
  .intro h z hz2;obtain⟨i,hi⟩:=Ld hz2;have hl:i<zs.length:=(h_.mp hi).1;have:=h i (by omega);rw [e_,hi] at this;exact decide_eq_true this
 unfold oN DI;rw [G.sqB hn lr c0,he.items];have e3:b8 e=true:=by rcases he with rfl|rfl <;> rfl
 show (true && (b8 e && (true && (jf f (ah d).length && (prB g (ah d).length && (prB t (ah d).length && (A2 d g t (ah d).length && DH d f g t (ah d).length)))))))=_;rw [e3,G.ln,xM hf hp,pg,pt,Hi,Hi,Hi,Hi,II,and_eq_true,and_eq_true,and_eq_true,all0 gs lg,all0 ts lt];unfold A2 DH ju;rw [decide_eq_true_eq,all_eq_true,all_eq_true]
 constructor
 .rintro⟨h1,h2,h3,h4⟩ i hi
  refine⟨h1 i hi,h2 i hi,?_,λj hj=>?_⟩
  .have:=of_decide_eq_true (h4 i (Hl.mpr hi));rw [nf i hi,ng i hi,nt _ (hjm i hi),G.cel lr hi (hjm i hi)] at this;exact this
  .have:=all_eq_true.mp (h3 i (Hl.mpr hi)) j (Hl.mpr hj);rw [ng i hi,nt j hj,G.cel lr hi hj,KJ,decide_eq_false_iff_not] at this;exact this
 .intro h
  refine⟨λi hi=>(h i hi).1,λi hi=>(h i hi).2.1,λi hi=>?_,λi hi=>?_⟩
  .have hi:=Hl.mp hi;rw [all_eq_true];intro j hj;have hj:=Hl.mp hj;rw [ng i hi,nt j hj,G.cel lr hi hj,KJ,decide_eq_false_iff_not];exact (h i hi).2.2.2 j hj
  .have hi:=Hl.mp hi;rw [nf i hi,ng i hi,nt _ (hjm i hi),G.cel lr hi (hjm i hi)];exact decide_eq_true (h i hi).2.2.1
def wg{M:List (List Int)}{n:Nat}(h:M.length=n):e8 (.lst (M.map cS)) M n:=by
 refine⟨rfl,by show (M.map cS).length=n;rw [length_map,h],λi hi=>?_⟩;show b8 (itD (M.map cS) i)=true/\ah (itD (M.map cS) i)=_;rw [m8 (c:=cS) (by omega)];exact⟨rfl,rfl⟩
def wj{M:List (List Int)}{n:Nat}(h:M.length=n):e8 (.tup (M.map m5)) M n:=by
 refine⟨rfl,by show (M.map m5).length=n;rw [length_map,h],λi hi=>?_⟩;show b8 (itD (M.map m5) i)=true/\ah (itD (M.map m5) i)=_;rw [m8 (c:=m5) (by omega)];exact⟨rfl,rfl⟩
def wk{M:List (List Int)}{c:List Int->D}(hc:∀r,ah (c r)=r.map .int){d:D}(hd:ah d=M.map c):cel d=at2 M:=by
 funext i j;unfold K27.cel at2;rw [hd]
 by_cases hi:i<M.length
 .rw [m8 hi,hc]
  by_cases hj:j<(M.getD i []).length
  .rw [mL (by rw [length_map];exact hj)];rfl
  .rw [e_ (l:=M.getD i []),z_ (by omega)];unfold itD;rw [e_,z_ (by rw [length_map];omega)];rfl
 .have e:M.getD i []=[]:=by rw [e_,z_ (by omega)];rfl
  rw [e];have e2:itD (M.map c) i=.non:=by unfold itD;rw [e_,z_ (by rw [length_map];omega)];rfl
  rw [e2];rfl
structure nu (n:Nat) (M:List (List Int)):Prop where
 lm:M.length=n
 n40:n<=40
 rw:∀r∈M,r.length=n/\∀z∈r,0<=z/\z<=1000000
section
variable {n:Nat}{M:List (List Int)}
def nu.lr(T:nu n M){i:Nat}(hi:i<n):(M.getD i []).length=n:=(T.rw _ (gDm (by have:=T.lm;omega))).1
def nu.c0(T:nu n M){i j:Nat}(hi:i<n)(hj:j<n):0<=at2 M i j/\at2 M i j<=1000000:=(T.rw _ (gDm (by have:=T.lm;omega))).2 _ (gDm (by rw [T.lr hi];exact hj))
def DQ{c:Nat->Nat->Int}{i:Nat}(h:i<n):(bpG n c).getD i 0=(bpN n c n).1 i:=by
 unfold bpG;rw [e_,i_,IE h];rfl
def wl{c:Nat->Nat->Int}{i:Nat}(h:i<n):(bpT n c).getD i 0=(bpN n c n).2.1 i:=by
 unfold bpT;rw [e_,i_,IE h];rfl
def DR{c:Nat->Nat->Int}{i:Nat}(h:i<n):(bpJ n c).getD i 0=bpF n c i:=by
 unfold bpJ;rw [e_,i_,IE h];rfl
def nu.perm(T:nu n M):(bpJ n (at2 M)).Perm (gV n):=(vF λi j hi hj=>(T.c0 hi hj).1).2
def nu.right(T:nu n M):ju M (bpJ n (at2 M)) (bpG n (at2 M)) (bpT n (at2 M)) n=true:=by
 have b:=(vF λi j hi hj=>(T.c0 hi hj).1:_/\_).1;refine oS λi hi=>?_;obtain⟨h1,h2,h3,h4,h5⟩:=b i hi;unfold rOk;rw [DQ hi,wl hi,DR hi,wl h1];refine⟨h2,h3,h4,λj hj=>?_⟩;rw [wl hj];have:=h5 j hj;omega
def nu.lg(T:nu n M){c:Nat->Nat->Int}:(bpG n c).length=n/\(bpT n c).length=n/\(bpJ n c).length=n:=by
 unfold bpG bpT bpJ;rw [length_map,length_map,length_map,length_range];exact⟨rfl,rfl,rfl⟩
def nu.pair(T:nu n M):oN (.lst (M.map cS)) (bpP n (at2 M))=true:=by
 rw [yf (wg T.lm) T.n40 (λi hi=>T.lr hi) (λi j hi hj=>T.c0 hi hj) (e:=bpP n (at2 M)) (.inr rfl) (.inr rfl) (.inr rfl) (.inr rfl) T.perm T.lg.1 T.lg.2.1];exact T.right
def nu.sq(T:nu n M){d:D}(G:e8 d M n):sqB d=true:=G.sqB T.n40 (λi hi=>T.lr hi) λi j hi hj=>T.c0 hi hj
def nu.srt(T:nu n M){d:D}(G:e8 d M n):xO d/\((ah d).length<=1000/\∀r∈ah d,(ah r).length<=1000):=by
 have n40:=T.n40;obtain⟨a,b,c⟩:=G.srt n40 λi hi=>by rw [T.lr hi];omega
 exact⟨a,b,λr hr=>HP (c r hr) (by decide)⟩
end
noncomputable def dw:FN:=λa_ Q=>cL (λds=>cI (λm=>cN (∃M:List (List Int),ds=M.map cS/\∃n:Nat,(M.length=n/\(∀r∈M,r.length=n)/\n<=40/\0<=m/\m<1000000000000000000)/\∀L:List D,(∀x∈L,Bd x)->L.length<=100->Q (.dat (.lst L))))) a_
def zb:Nat:=9
abbrev zc:FN:=Gj
noncomputable def oY(K:b_)(mg:Str->Option Value)(t:TxX K mg):=(have TX:=t;show LS K [] _ _ from (aR (Cu .list .tuple lC (am (i:=0)))))
def wm:PTS:=psO oY
def wn:PRl dU wm 1 1:=λ_ Q h=>rR h λd _ h=>jY h λh=>Hr rfl <| by
 walk_at "z";obtain⟨hd,q⟩:=h;cases d <;> first|(cases hd;done)|(walk_at "r";exact q)
noncomputable def jw(K:b_)(mg:Str->Option Value)(t:TxX K mg):=(have TX:=t;show LS K [] _ _ from (aR (iy (lY .int (am (i:=0))) (yu (lY .bool (am (i:=0)))))))
def oZ:PTS:=psO jw
def o0:PRl dq oZ 1 1:=λ_ Q h=>rR h λd _ h=>jY h λh=>Hr rfl <| by
 walk_at "z";obtain⟨hd,q⟩:=h;cases d <;> first|(cases hd;done)|(walk_at "r";exact q)
noncomputable def gG(K:b_)(mg:Str->Option Value)(t:TxX K mg):=(have TX:=t;show LS K [] _ _ from (aR (iy (aM (c:=dU) (aa (ac (ar (i:=0))) ae)) (iy (ap fU (ac (bz bW (aa (am (i:=0)) ae))) (am (i:=1))) (bz n6 (aa (ac (bR (ix:=[none]) rfl (cO (ar (i:=0))) (λfs hc=>(az (i:=0) (kq hc (by decide)))) cm (aM (c:=dq) (aa (ac (ar (i:=0))) ae)))) ae))))))
def lL:PTS:=psO gG
def lN:PRl dh lL 2 2:=λ_ Q h=>rR h λd _ h=>sS h λm _ h=>jY h λh=>Hr rfl <| by
 walk_at "z";obtain⟨⟨hd,hs⟩,hl,q⟩:=h
 have body:∀ds:List D,ah d=ds->b8 d=true->(ds.length:Int)=m->bI d m=(ds.map jG).all id:=λds e1 e2 e3=>by
  unfold bI;rw [e1,e2,decide_eq_true e3,Hi,Hi,all_map];rfl
 have no:∀ds:List D,ah d=ds->¬ (ds.length:Int)=m->bI d m=false:=λds e1 e3=>by
  unfold bI;rw [e1,decide_eq_false e3,Hn,Ih]
 cases d with
 | lst ds =>
  have hl:ds.length<=1000000:=hl;walk_at "r"
  refine iw (λc=>?_) (λc=>?_)
  .walk_at "r"
   refine wv (λτ=>∃v,τ=[v]) (λk=>.bl (jG (itD ds k))) ?_ ?_ ?_
   .exact⟨_,rfl⟩
   .rintro k τ _ hk rfl ⟨v,rfl⟩ K1 k1;walk_at "r";exact⟨hs _ (cB hk),k1 _ ⟨_,rfl⟩⟩
   .rintro τ ⟨v,rfl⟩;walk_at "r";refine⟨(gV ds.length).map λk=>jG (itD ds k),by rw [Hz];rfl,?_⟩;rw [body ds rfl rfl c] at q;rw [iC];exact q
  .walk_at "r";rw [no ds rfl c] at q;exact q
 | tup ds =>
  have hl:ds.length<=1000000:=hl;walk_at "r"
  refine iw (λc=>?_) (λc=>?_)
  .walk_at "r"
   refine wv (λτ=>∃v,τ=[v]) (λk=>.bl (jG (itD ds k))) ?_ ?_ ?_
   .exact⟨_,rfl⟩
   .rintro k τ _ hk rfl ⟨v,rfl⟩ K1 k1;walk_at "r";exact⟨hs _ (cB hk),k1 _ ⟨_,rfl⟩⟩
   .rintro τ ⟨v,rfl⟩;walk_at "r";refine⟨(gV ds.length).map λk=>jG (itD ds k),by rw [Hz];rfl,?_⟩;rw [body ds rfl rfl c] at q;rw [iC];exact q
  .walk_at "r";rw [no ds rfl c] at q;exact q
 | str l=>walk_at "r";exact q
 | non=>walk_at "r";exact q
 | bl b=>walk_at "r";exact q
 | int i=>walk_at "r";exact q
 | ty n=>cases hd
 | scr ns=>cases hd
 | dic ks ds=>walk_at "r";exact q
 | obj c ns ds=>cases hd
 | exc c ns ds=>cases hd
 | fdc ks ds=>cases hd
noncomputable def iP(K:b_)(mg:Str->Option Value)(t:TxX K mg):=(have TX:=t;show LS K [] _ _ from (aR (iy (aM (c:=dh) (aa (ac (ar (i:=0))) (aa (ac (ar (i:=1))) ae))) (bz n6 (aa (ac (bR (ix:=[none]) rfl (cO (ar (i:=0))) (λfs hc=>(az (i:=0) (kq hc (by decide)))) cm (ap sG (am (i:=0)) (ac (le_int (i:=0)))))) ae)))))
def m9:PTS:=psO iP
def nh:PRl dF m9 2 2:=λ_ Q h=>rR h λd _ h=>sS h λm _ h=>jY h λh=>Hr rfl <| by
 walk_at "z";obtain⟨hd,hl,q⟩:=h;walk_at "r"
 refine kj (λc=>?_) (λc=>?_)
 .have c:bI d m=true:=c;obtain⟨zs,hz,rfl⟩:=qw c;rw [m4 hz] at q;have hzl:(zs.map D.int).length=zs.length:=length_map _;rw [hz.items,hzl] at hl
  rcases hz with rfl|rfl <;> (
   walk_at "r"
   refine wv (λτ=>∃v,τ=[v]) (λk=>.bl (decide (0<=zs.getD k 0))) ?_ ?_ ?_
   .exact⟨_,rfl⟩
   .rintro k τ d hk ed ⟨v,rfl⟩ K1 k1;rw [mL hk] at ed;subst ed;walk_at "r";exact k1 _ ⟨_,rfl⟩
   .rintro τ ⟨v,rfl⟩;walk_at "r";refine⟨(gV (zs.map D.int).length).map λk=>decide (0<=zs.getD k 0),by rw [Hz];rfl,?_⟩;rw [hzl,DG (λz=>decide (0<=z)) zs,all_map];exact q)
 .have c:bI d m=false:=c;walk_at "r";rw [show prB d m=false by unfold prB;rw [c];rfl] at q;exact q
noncomputable def kU(K:b_)(mg:Str->Option Value)(t:TxX K mg):=(have TX:=t;show LS K [] _ _ from (aR (iy (aM (c:=dh) (aa (ac (ar (i:=0))) (aa (ac (ar (i:=1))) ae))) (ap fU (ac (bz rD (aa (am (i:=0)) ae))) (ac (jV false (aa (ac (ar (i:=1))) ae)))))))
def qz:PTS:=psO kU
def qA:PRl hX qz 2 2:=λ_ Q h=>rR h λd _ h=>sS h λm _ h=>jY h λh=>Hr rfl <| by
 walk_at "z";obtain⟨hd,⟨hl,hm⟩,q⟩:=h;have hl6:(ah d).length<=1000000:=by omega
 walk_at "r"
 refine kj (λc=>?_) (λc=>?_)
 .have c:bI d m=true:=c
  obtain⟨zs,hz,hzl⟩:∃zs:List Int,fW d (zs.map .int)/\(zs.length:Int)=m:=by
   unfold bI at c;rw [and_eq_true,and_eq_true] at c;obtain⟨c1,c2,c3⟩:=c
   cases d with
   | lst ds=>exact⟨ds.map toI,.inl (congrArg _ (iZ c3)),by rw [length_map];exact of_decide_eq_true c2⟩
   | tup ds=>exact⟨ds.map toI,.inr (congrArg _ (iZ c3)),by rw [length_map];exact of_decide_eq_true c2⟩
   | _=>cases c1
  have h64:zs.length<64:=by omega
  subst hzl;have ti:(zs.map D.int).map toI=zs:=by rw [Hz];exact List.map_id' _
  have eo:jf d zs.length=decide (zs.Perm (lF zs.length)):=by
   unfold jf;rw [c,Hi,hz.items,ti,toNat_natCast]
  rw [eo] at q
  have eqk:∀ns':List Int,rk (D.lst (ns'.map D.int)) (D.lst (n8 0 ((zs.length:Nat):Int).toNat)):=λns'=>by
   rw [toNat_natCast,kA];exact rk.of (Sh.lstI _) (Sh.lstI _)
  have deqk:∀ns':List Int,ns'.Perm zs->ns'.Pairwise (·<=·)->deq (D.lst (ns'.map D.int)) (D.lst (n8 0 ((zs.length:Nat):Int).toNat))=decide (zs.Perm (lF zs.length)):=λns' h1 h2=>by
   rw [toNat_natCast,kA,rG];exact Am h1 h2
  rcases hz with rfl|rfl <;> (
   walk_at "r";intro ns' h1 h2;have e1:=eqk ns';walk_at "r";rw [deqk ns' h1 h2];exact q)
 .have c:bI d m=false:=c;walk_at "r";rw [show jf d m=false by unfold jf;rw [c];rfl] at q;exact q
noncomputable def kW(K:b_)(mg:Str->Option Value)(t:TxX K mg):=(have TX:=t;show LS K [] _ _ from (aR (iy (aM (c:=dq) (aa (ac (ar (i:=0))) ae)) (xj Co Co (am (i:=1)) (am (i:=0)) (am (i:=2))))))
def qB:PTS:=psO kW
def qC:PRl fG qB 3 3:=λ_ Q h=>rR h λd _ h=>sS h λa _ h=>sS h λb _ h=>jY h λh=>Hr rfl <| by
 walk_at "z";obtain⟨hd,q⟩:=h
 cases d with
 | int i =>
  walk_at "r"
  refine iw (λc=>?_) (λc=>?_)
  .walk_at "r";rw [show iU (.int i) a b=decide (i<=b) by unfold iU;rw [show jG (.int i)=true from rfl,show toI (.int i)=i from rfl,decide_eq_true c];rfl] at q;exact q
  .walk_at "r";rw [show iU (.int i) a b=false by unfold iU;rw [show toI (.int i)=i from rfl,decide_eq_false c,Hn,Ih]] at q;exact q
 | str l=>walk_at "r";exact q
 | non=>walk_at "r";exact q
 | bl b=>walk_at "r";exact q
 | lst ds=>walk_at "r";exact q
 | tup ds=>walk_at "r";exact q
 | ty n=>cases hd
 | scr ns=>cases hd
 | dic ks ds=>walk_at "r";exact q
 | obj c ns ds=>cases hd
 | exc c ns ds=>cases hd
 | fdc ks ds=>cases hd
noncomputable def jx(K:b_)(mg:Str->Option Value)(t:TxX K mg):=(have TX:=t;show LS K [] _ _ from (au (bU (gz (dA (gy (aM (c:=dU) (aa (ac (ar (i:=0))) ae)))) (iX (ap zT (ac (bz bW (aa (am (i:=0)) ae))) (ac (le_int (i:=40)))))) (aR (eY (i:=false))) aJ) (au (bU (dA (gy (bz n6 (aa (ac (bR (ix:=[none,some 0]) rfl (cO (ar (i:=0))) (λfs hc=>(az (i:=0) (kq hc (by decide)))) cm (iy (aM (c:=dU) (aa (ac (ar (i:=0))) ae)) (ap fU (ac (bz bW (aa (am (i:=0)) ae))) (ac (bz bW (aa (am (i:=1)) ae))))))) ae)))) (aR (eY (i:=false))) aJ) (aR (bz n6 (aa (ac (rC (ix:=[none,none]) rfl (cO (ar (i:=0))) (λfs hc=>(az (i:=0) (kq hc (by decide)))) cm (cO (ar (i:=0))) (λfs hc=>(az (i:=1) (kq hc (by decide)))) cm (aM (c:=fG) (aa (ac (ar (i:=1))) (aa (ac (le_int (i:=0))) (aa (ac (le_int (i:=1000000))) ae)))))) ae))))))
def o5:PTS:=psO jx
def o7:PRl eA o5 1 1:=λ_ Q h=>rR h λd _ h=>jY h λh=>Hr rfl <| by
 walk_at "z";obtain⟨⟨hd,hs⟩,⟨hl,hl2⟩,q⟩:=h
 cases d with
 | lst ds =>
  have hl:ds.length<=1000:=hl;have hs:∀r∈ds,r.sort=true/\∀x∈ah r,x.sort=true:=hs;have hl2:∀r∈ds,(ah r).length<=1000:=hl2;walk_at "r"
  refine iw (λc=>?_) (λc=>?_)
  .walk_at "r";rw [show sqB (.lst ds)=false by unfold sqB;rw [decide_eq_false (show ¬ (ah (.lst ds)).length<=40 by show ¬ ds.length<=40;omega),Hn,Ih]] at q;exact q
  .rw [show sqB (.lst ds)=(lK (.lst ds) && oK (.lst ds)) by unfold sqB;rw [decide_eq_true (show (ah (.lst ds)).length<=40 by show ds.length<=40;omega)];rfl] at q;walk_at "r"
   refine wv (λτ=>∃v,τ=[v,some (.dat (.lst ds))]) (λk=>.bl (b8 (itD ds k) && decide ((ah (itD ds k)).length=ds.length))) ?_ ?_ ?_
   .exact⟨_,rfl⟩
   .rintro k τ _ hk rfl ⟨v,rfl⟩ K1 k1;have hx:=(hs _ (cB hk)).1;have hx2:=hl2 _ (cB hk);generalize itD ds k=e at hx hx2 k1 ⊢;walk_at "r"
    refine kj (λc=>?_) (λc=>?_)
    .have hsq:=jt c;rw [show b8 e=true from c,Hi] at k1
     rcases hsq with hsq|hsq <;> (
      rw [hsq];rw [hsq] at k1;generalize ah e=es at hx2 k1 ⊢;walk_at "r";rw [show decide ((es.length:Int)=(ds.length:Int))=decide (es.length=ds.length) from decide_eq_decide.mpr ⟨λz=>by omega,λz=>by omega⟩];exact k1 _ ⟨_,rfl⟩)
    .rw [show b8 e=false from c,Hn] at k1;walk_at "r";exact k1 _ ⟨_,rfl⟩
   .rintro τ ⟨v,rfl⟩;walk_at "r";refine⟨(gV ds.length).map λk=>(b8 (itD ds k) && decide ((ah (itD ds k)).length=ds.length)),by rw [Hz];rfl,?_⟩;rw [iC (λr=>b8 r && decide ((ah r).length=ds.length)) ds];have ea:(ds.map λr=>b8 r && decide ((ah r).length=ds.length)).all id=lK (.lst ds):=by rw [all_map];rfl
    walk_at "r";rw [ea]
    refine fj (kj (λc=>?_) (λc=>?_))
    .have c:lK (.lst ds)=true:=c;rw [c,Hi] at q
     have hrow:∀r∈ds,b8 r=true:=λr hr=>by
      have:=all_eq_true.mp c r hr;rw [and_eq_true] at this;exact this.1
     walk_at "r"
     refine⟨⟨λk ys τ=>ys=(ds.take k).flatMap (λr=>(ah r).map λx=>D.bl (iU x 0 1000000))/\∃v w,τ=[v,w],⟨rfl,_,_,rfl⟩,?_,?_⟩⟩
     .rintro k ys τ _ hk rfl ⟨rfl,v,w,rfl⟩;have hm:=cB hk;have hr:=jt (hrow _ hm);have hk':ds.take (k+1)=ds.take k++[itD ds k]:=by rw [Jo,getElem?_itD hk];rfl
      have hlen:((ds.take k).flatMap (λr=>(ah r).map λx=>D.bl (iU x 0 1000000))).length<=40000:=by
       have:=vO (f:=λx=>D.bl (iU x 0 1000000)) (ds.take k) λr hr=>hl2 r (mem_of_mem_take hr);rw [KE] at this;omega
      walk_at "r";refine og hr ?_
      refine⟨λj zs τ=>zs=(ds.take k).flatMap (λr=>(ah r).map λx=>D.bl (iU x 0 1000000))++((ah (itD ds k)).take j).map (λx=>D.bl (iU x 0 1000000))/\∃w,τ=[some (.dat (itD ds k)),w],⟨by rw [take_zero];exact (HK _).symm,_,rfl⟩,?_,?_⟩
      .rintro j zs τ _ hj rfl ⟨rfl,w,rfl⟩;have hx:=(hs _ hm).2 _ (cB hj);walk_at "r"
       refine⟨?_,?_,_,rfl⟩
       .have:=hl2 _ hm;rw [length_append,length_map,KE];omega
       .rw [Jo,getElem?_itD hj,map_append,Io];rfl
      .rintro zs τ ⟨rfl,w,rfl⟩;refine⟨?_,_,_,rfl⟩;rw [hk',flatMap_append,take_length,flatMap_cons,flatMap_nil,HK]
     .rintro ys τ ⟨rfl,v,w,rfl⟩;rw [take_length];walk_at "r";refine⟨ds.flatMap λr=>(ah r).map λx=>iU x 0 1000000,by rw [map_flatMap];congr 1;funext r;rw [Hz];rfl,?_⟩;rw [yX (λx=>iU x 0 1000000) ds];exact q
    .have c:lK (.lst ds)=false:=c;rw [c,Hn] at q;walk_at "r";exact q
 | tup ds =>
  have hl:ds.length<=1000:=hl;have hs:∀r∈ds,r.sort=true/\∀x∈ah r,x.sort=true:=hs;have hl2:∀r∈ds,(ah r).length<=1000:=hl2;walk_at "r"
  refine iw (λc=>?_) (λc=>?_)
  .walk_at "r";rw [show sqB (.tup ds)=false by unfold sqB;rw [decide_eq_false (show ¬ (ah (.tup ds)).length<=40 by show ¬ ds.length<=40;omega),Hn,Ih]] at q;exact q
  .rw [show sqB (.tup ds)=(lK (.tup ds) && oK (.tup ds)) by unfold sqB;rw [decide_eq_true (show (ah (.tup ds)).length<=40 by show ds.length<=40;omega)];rfl] at q;walk_at "r"
   refine wv (λτ=>∃v,τ=[v,some (.dat (.tup ds))]) (λk=>.bl (b8 (itD ds k) && decide ((ah (itD ds k)).length=ds.length))) ?_ ?_ ?_
   .exact⟨_,rfl⟩
   .rintro k τ _ hk rfl ⟨v,rfl⟩ K1 k1;have hx:=(hs _ (cB hk)).1;have hx2:=hl2 _ (cB hk);generalize itD ds k=e at hx hx2 k1 ⊢;walk_at "r"
    refine kj (λc=>?_) (λc=>?_)
    .have hsq:=jt c;rw [show b8 e=true from c,Hi] at k1
     rcases hsq with hsq|hsq <;> (
      rw [hsq];rw [hsq] at k1;generalize ah e=es at hx2 k1 ⊢;walk_at "r";rw [show decide ((es.length:Int)=(ds.length:Int))=decide (es.length=ds.length) from decide_eq_decide.mpr ⟨λz=>by omega,λz=>by omega⟩];exact k1 _ ⟨_,rfl⟩)
    .rw [show b8 e=false from c,Hn] at k1;walk_at "r";exact k1 _ ⟨_,rfl⟩
   .rintro τ ⟨v,rfl⟩;walk_at "r";refine⟨(gV ds.length).map λk=>(b8 (itD ds k) && decide ((ah (itD ds k)).length=ds.length)),by rw [Hz];rfl,?_⟩;rw [iC (λr=>b8 r && decide ((ah r).length=ds.length)) ds];have ea:(ds.map λr=>b8 r && decide ((ah r).length=ds.length)).all id=lK (.tup ds):=by rw [all_map];rfl
    walk_at "r";rw [ea]
    refine fj (kj (λc=>?_) (λc=>?_))
    .have c:lK (.tup ds)=true:=c;rw [c,Hi] at q
     have hrow:∀r∈ds,b8 r=true:=λr hr=>by
      have:=all_eq_true.mp c r hr;rw [and_eq_true] at this;exact this.1
     walk_at "r"
     refine⟨⟨λk ys τ=>ys=(ds.take k).flatMap (λr=>(ah r).map λx=>D.bl (iU x 0 1000000))/\∃v w,τ=[v,w],⟨rfl,_,_,rfl⟩,?_,?_⟩⟩
     .rintro k ys τ _ hk rfl ⟨rfl,v,w,rfl⟩;have hm:=cB hk;have hr:=jt (hrow _ hm);have hk':ds.take (k+1)=ds.take k++[itD ds k]:=by rw [Jo,getElem?_itD hk];rfl
      have hlen:((ds.take k).flatMap (λr=>(ah r).map λx=>D.bl (iU x 0 1000000))).length<=40000:=by
       have:=vO (f:=λx=>D.bl (iU x 0 1000000)) (ds.take k) λr hr=>hl2 r (mem_of_mem_take hr);rw [KE] at this;omega
      walk_at "r";refine og hr ?_
      refine⟨λj zs τ=>zs=(ds.take k).flatMap (λr=>(ah r).map λx=>D.bl (iU x 0 1000000))++((ah (itD ds k)).take j).map (λx=>D.bl (iU x 0 1000000))/\∃w,τ=[some (.dat (itD ds k)),w],⟨by rw [take_zero];exact (HK _).symm,_,rfl⟩,?_,?_⟩
      .rintro j zs τ _ hj rfl ⟨rfl,w,rfl⟩;have hx:=(hs _ hm).2 _ (cB hj);walk_at "r"
       refine⟨?_,?_,_,rfl⟩
       .have:=hl2 _ hm;rw [length_append,length_map,KE];omega
       .rw [Jo,getElem?_itD hj,map_append,Io];rfl
      .rintro zs τ ⟨rfl,w,rfl⟩;refine⟨?_,_,_,rfl⟩;rw [hk',flatMap_append,take_length,flatMap_cons,flatMap_nil,HK]
     .rintro ys τ ⟨rfl,v,w,rfl⟩;rw [take_length];walk_at "r";refine⟨ds.flatMap λr=>(ah r).map λx=>iU x 0 1000000,by rw [map_flatMap];congr 1;funext r;rw [Hz];rfl,?_⟩;rw [yX (λx=>iU x 0 1000000) ds];exact q
    .have c:lK (.tup ds)=false:=c;rw [c,Hn] at q;walk_at "r";exact q
 | str l=>walk_at "r";exact q
 | non=>walk_at "r";exact q
 | bl b=>walk_at "r";exact q
 | int i=>walk_at "r";exact q
 | ty n=>cases hd
 | scr ns=>cases hd
 | dic ks ds=>walk_at "r";exact q
 | obj c ns ds=>cases hd
 | exc c ns ds=>cases hd
 | fdc ks ds=>cases hd
noncomputable def dX(K:b_)(mg:Str->Option Value)(t:TxX K mg):=(have TX:=t;show LS K [] _ _ from (au (bU (gz (dA (gy (aM (c:=eA) (aa (ac (ar (i:=0))) ae)))) (gz (dA (gy (aM (c:=dU) (aa (ac (ar (i:=1))) ae)))) (iX (ap fV (ac (bz bW (aa (am (i:=1)) ae))) (ac (le_int (i:=3))))))) (aR (eY (i:=false))) aJ) (au (aC (ar (i:=1)) (yC (n:=3) (cr (az (i:=2) rfl) (cr (az (i:=3) rfl) (cr (az (i:=4) rfl) km))))) (au (aC (bz bW (aa (am (i:=0)) ae)) (ay (i:=5) rfl)) (au (bU (gz (dA (gy (aM (c:=hX) (aa (ac (ar (i:=2))) (aa (ac (ar (i:=5))) ae))))) (gz (dA (gy (aM (c:=dF) (aa (ac (ar (i:=3))) (aa (ac (ar (i:=5))) ae))))) (dA (gy (aM (c:=dF) (aa (ac (ar (i:=4))) (aa (ac (ar (i:=5))) ae))))))) (aR (eY (i:=false))) aJ) (au (aC (jV false (aa (ac (ar (i:=5))) ae)) (ay (i:=6) rfl)) (au (bU (gy (bz CI (aa (ac (rC (ix:=[none,none,some 3,some 4,some 0,some 6]) rfl (cO (ar (i:=6))) (λfs hc=>(az (i:=0) (kq hc (by decide)))) cm (cO (ar (i:=5))) (λfs hc=>(az (i:=1) (kq hc (by decide)))) cm (ap uG (ac (ap aV (ac (ap bg (am (i:=2)) (am (i:=0)))) (ac (ap bg (am (i:=3)) (am (i:=1)))))) (ac (ap bg (ac (ap bg (am (i:=4)) (am (i:=0)))) (am (i:=1))))))) ae))) (aR (eY (i:=false))) aJ) (aR (bz n6 (aa (ac (bR (ix:=[none,none,some 3,some 4,some 0]) rfl (uK (aa (ac (ar (i:=2))) ae)) (λfs hc=>(uX (n:=2) (cr (az (i:=0) (kq hc (by decide))) (cr (az (i:=1) (kq hc (by decide))) km)))) cm (ap fU (ac (ap aV (ac (ap bg (am (i:=2)) (am (i:=0)))) (ac (ap bg (am (i:=3)) (am (i:=1)))))) (ac (ap bg (ac (ap bg (am (i:=4)) (am (i:=0)))) (am (i:=1))))))) ae))))))))))
def ig:PTS:=psO dX
def ik:PRl cG ig 7 2:=λ_ Q h=>rR h λd _ h=>rR h λe _ h=>jY h λh=>Hr rfl <| by
 walk_at "z";obtain⟨⟨sd,dd⟩,⟨⟨se,ss⟩,le,lr⟩,q⟩:=h;walk_at "r"
 refine fj (kj (λc1=>?_) (λc1=>?_))
 .have c1:sqB d=true:=c1;have hd:=jt (d:=d) (by unfold sqB at c1;rw [and_eq_true] at c1;exact c1.1);have hn:(ah d).length<=40:=by unfold sqB at c1;rw [and_eq_true,and_eq_true,decide_eq_true_eq] at c1;exact c1.2.1
  rw [show oN d e=(b8 e && (decide ((ah e).length=3) && DI d (itD (ah e) 0) (itD (ah e) 1) (itD (ah e) 2))) by unfold oN;rw [c1];rfl] at q;walk_at "r"
  refine fj (kj (λc2=>?_) (λc2=>?_))
  .have c2:b8 e=true:=c2;have he:=jt c2;rw [c2,Hi] at q;generalize ah e=es at he ss le lr q;walk_at "r";refine rF he ?_;walk_at "r"
   refine sF (λc3=>?_) (λc3=>?_)
   .rw [decide_eq_false (show ¬ es.length=3 by omega),Hn] at q;walk_at "r";exact q
   .have c3:es.length=3:=by omega
    rw [decide_eq_true c3,Hi] at q
    obtain⟨f,g,t,rfl⟩:∃f g t,es=[f,g,t]:=by
     match es,c3 with
     | [f,g,t],_=>exact⟨f,g,t,rfl⟩
    have hf:=ss f (by simp);have hg:=ss g (by simp);have ht:=ss t (by simp);have lf:=lr f (by simp);have lg:=lr g (by simp);have lt:=lr t (by simp);have q:Q (.dat (.bl (DI d f g t))):=q;clear ss lr le c3;unfold DI at q;walk_at "r";refine CV he ⟨rfl,?_⟩;walk_at "r";refine rF hd ?_;have sf:Srt f:=hf;have sg:Srt g:=hg;have st:Srt t:=ht;have h60:(ah f).length<=60/\(0:Int)<=((ah d).length:Int)/\((ah d).length:Int)<=60:=⟨lf,by omega,by omega⟩
    have l6:(ah g).length<=1000000:=by omega
    have l7:(ah t).length<=1000000:=by omega
    walk_at "r"
    refine fj (kj (λc4=>?_) (λc4=>?_))
    .rw [show jf f (ah d).length=true from c4,Hi] at q;walk_at "r"
     refine fj (kj (λc5=>?_) (λc5=>?_))
     .rw [show prB g (ah d).length=true from c5,Hi] at q;walk_at "r"
      refine fj (kj (λc6=>?_) (λc6=>?_))
      .rw [show prB t (ah d).length=true from c6,Hi] at q;obtain⟨js,hjs,hperm⟩:=xN c4;obtain⟨gs,hgs,gl⟩:=qw (show bI g (ah d).length=true by unfold prB at c5;rw [and_eq_true] at c5;exact c5.1);obtain⟨ts,hts,tl⟩:=qw (show bI t (ah d).length=true by unfold prB at c6;rw [and_eq_true] at c6;exact c6.1);have gl:gs.length=(ah d).length:=by omega
       have tl:ts.length=(ah d).length:=by omega
       have jl:js.length=(ah d).length:=by rw [hperm.length_eq,length_range]
       have hjm:∀j∈js,j<(ah d).length:=λj hj=>Hl.mp (hperm.mem_iff.mp hj);generalize hN:(ah d).length=n at *;have hrl:(n8 0 n).length=n:=uZ n;walk_at "r";rw [toNat_natCast,hrl]
       refine⟨⟨λk ys τ=>ys=(gV k).flatMap (λi=>(gV n).map λj=>D.bl (decide (nmb g i+nmb t j<cel d i j)))/\∃v w,τ=[v,w,some (.dat g),some (.dat t),some (.dat d),some (.dat (.lst (n8 0 n)))],⟨rfl,_,_,rfl⟩,?_,?_⟩⟩
       .rintro k ys τ _ hk rfl ⟨rfl,v,w,rfl⟩;rw [u0 (by rw [hrl];exact hk)];walk_at "r";rw [hrl]
        refine⟨λj zs τ=>zs=(gV k).flatMap (λi=>(gV n).map λj=>D.bl (decide (nmb g i+nmb t j<cel d i j)))++(gV j).map (λj=>D.bl (decide (nmb g k+nmb t j<cel d k j)))/\∃w,τ=[some (.dat (.int (k:Int))),w,some (.dat g),some (.dat t),some (.dat d),some (.dat (.lst (n8 0 n)))],⟨(HK _).symm,w,rfl⟩,?_,?_⟩
        .rintro j zs τ _ hj rfl ⟨rfl,w,rfl⟩;rw [u0 (by rw [hrl];exact hj)];obtain⟨r1,r2,r3⟩:=kQ c1 (i:=k) (j:=j) (by rw [hN];exact hk) (by rw [hN];exact hj);walk_at "r";refine mP hgs ⟨_,(sY hgs (by rw [gl];exact hk)).2,?_⟩;walk_at "r";refine mP hts ⟨_,(sY hts (by rw [tl];exact hj)).2,?_⟩;walk_at "r";refine mP hd ⟨itD (ah d) k,eX (j:=k) (getElem?_itD (by rw [hN];exact hk)) rfl,?_⟩;walk_at "r";refine mP r1 ⟨_,r3,?_⟩
         walk_at "r";refine⟨?_,by rw [Kw,map_append,<- Io];rfl,_,rfl⟩;rw [length_append,yY (f:=λi j=>D.bl (decide (nmb g i+nmb t j<cel d i j))),length_map,length_range,length_range];have:k*n<=40*40:=JR (by omega) hn;omega
        .rintro zs τ ⟨rfl,w,rfl⟩;refine⟨?_,_,_,rfl⟩;rw [Kw,flatMap_append,flatMap_cons,flatMap_nil,HK]
       .rintro ys τ ⟨rfl,v,w,rfl⟩;walk_at "r";refine⟨(gV n).flatMap λi=>(gV n).map λj=>decide (nmb g i+nmb t j<cel d i j),by rw [map_flatMap];congr 1;funext i;rw [Hz];rfl,?_⟩;rw [A3]
        refine fj (kj (λc7=>?_) (λc7=>?_))
        .rw [show A2 d g t n=true from c7,Hi] at q;have jm:(js.map nD).length=js.length:=length_map _
         have nj:∀k,k<n->nmb f k=(js.getD k 0:Nat):=λk hk=>by
          unfold nmb;rw [hjs.items,uY (by rw [jm,jl];exact hk)];rfl
         have ee:∀ff:D,(∀k,k<n->nmb ff k=(js.getD k 0:Nat))->(gV n).all (id ∘ λk=>decide (nmb g k+nmb t (js.getD k 0)=cel d k (js.getD k 0)))=DH d ff g t n:=λff nj=>by
          unfold DH;rw [II,all_eq_true,all_eq_true]
          constructor <;> intro h k hk
          .have:=h k hk;rw [nj k (Hl.mp hk),toNat_natCast];exact this
          .have:=h k hk;rw [nj k (Hl.mp hk),toNat_natCast] at this;exact this
         rcases hjs with rfl|rfl <;> (
          walk_at "r";rw [jm,jl]
          refine wv (λτ=>∃v w,τ=[v,w,some (.dat g),some (.dat t),some (.dat d)]) (λk=>.bl (decide (nmb g k+nmb t (js.getD k 0)=cel d k (js.getD k 0)))) ?_ ?_ ?_
          .exact⟨_,_,rfl⟩
          .rintro k τ x hk ed ⟨v,w,rfl⟩ K1 k1;have hj:js.getD k 0<n:=hjm _ (by rw [e_,d_ (by rw [jl];exact hk)];exact Iu _);have ed:x=.tup [.int (k:Int),.int ((js.getD k 0:Nat):Int)]:=by rw [ed,uY (by rw [jm,jl];exact hk)]
           subst ed;obtain⟨r1,r2,r3⟩:=kQ c1 (i:=k) (j:=js.getD k 0) (by rw [hN];exact hk) (by rw [hN];exact hj);walk_at "r";refine mP hgs ⟨_,(sY hgs (by rw [gl];exact hk)).2,?_⟩;walk_at "r";refine mP hts ⟨_,(sY hts (by rw [tl];exact hj)).2,?_⟩;walk_at "r";refine mP hd ⟨itD (ah d) k,eX (j:=k) (getElem?_itD (by rw [hN];exact hk)) rfl,?_⟩;walk_at "r";refine mP r1 ⟨_,r3,?_⟩;walk_at "r";exact k1 _ ⟨_,_,rfl⟩
          .rintro τ ⟨v,w,rfl⟩;walk_at "r";refine⟨(gV n).map λk=>decide (nmb g k+nmb t (js.getD k 0)=cel d k (js.getD k 0)),by rw [Hz];rfl,?_⟩;rw [all_map];rw [ee _ nj];exact q)
        .rw [show A2 d g t n=false from c7,Hn] at q;walk_at "r";exact q
      .rw [show prB t (ah d).length=false from c6,Hn] at q;walk_at "r";exact q
     .rw [show prB g (ah d).length=false from c5,Hn] at q;walk_at "r";exact q
    .rw [show jf f (ah d).length=false from c4,Hn] at q;walk_at "r";exact q
  .rw [show b8 e=false from c2,Hn] at q;walk_at "r";exact q
 .rw [show oN d e=false by unfold oN;rw [show sqB d=false from c1];rfl] at q;walk_at "r";exact q
noncomputable def gH(K:b_)(mg:Str->Option Value)(t:TxX K mg):=(have TX:=t;show LS0 K [] _ _ from (mV (aC vJ (ay (i:=5) rfl)) (mV (aC vJ (ay (i:=6) rfl)) (mV (AU (i:=7) (j:=8) (k:=9) rfl rfl rfl (aa (ac (ar (i:=4))) (aa (ac (le_int (i:=0))) (aa (ac (xi rq (ac (le_int (i:=1))))) ae)))) (mV (mK (iX (ap sG (am (i:=7)) (ac (le_int (i:=0))))) (au (dM (uK (aa (ac (ap bg (am (i:=0)) (am (i:=7)))) ae)) (uX (n:=2) (cr (az (i:=10) rfl) (cr (az (i:=11) rfl) km))) (au (aC (ap rj (ac (ap aV (ac (ap aV (am (i:=8)) (ac (ap bg (am (i:=1)) (am (i:=7)))))) (ac (ap bg (am (i:=2)) (am (i:=10)))))) (am (i:=11))) (ay (i:=12) rfl)) (bU (Cm (iX (ap (yU (neg:=true)) (am (i:=10)) (iL (i:=5)))) (gz (iX (ap (yU (neg:=true)) (am (i:=10)) (iL (i:=6)))) (iX (ap uG (am (i:=12)) (ac (ap bg (ac (ap i6 (iL (i:=6)) (am (i:=10)))) (ac (le_int (i:=0))))))))) (vK (i:=6) (rh (aa (ac (ar (i:=12))) (aa (ac (ar (i:=9))) ae))) (ar (i:=10))) aJ))) (au (aC (bz xE (aa (ac (DE (x:=6) (bR (ix:=[none,some 6]) rfl (DF (ar (i:=6))) (λfs hc=>(az (i:=0) (kq hc (by decide)))) cm (rh (aa (ac (ap bg (ac (ap i6 (iL (i:=1)) (am (i:=0)))) (ac (le_int (i:=0))))) (aa (ac (ar (i:=0))) ae)))))) ae)) (yC (n:=2) (cr (az (i:=8) rfl) (cr (az (i:=9) rfl) km)))) (au (vK (i:=5) (AZ (i:=6) (ar (i:=9))) (ar (i:=9))) (aC (ap bg (am (i:=3)) (am (i:=9))) (ay (i:=7) rfl)))))) (xF (i:=5)))))))
def lO:PTS:=Hf gH
def lP:PRl eO lO 13 5:=λ_ Q h=>rR h λd _ h=>AQ h λga _ h=>AQ h λta _ h=>AQ h λla _ h=>sS h λm _ h=>jY h λh=>Hr rfl <| by
 walk_at "z";obtain⟨n,c,rs,hd,g,rfl,t,rfl,l,rfl,s,rfl,⟨hn,hs,A⟩,q⟩:=h;walk_at "r";refine⟨λm ρ=>∃(Z:List (Nat×Int)) (N:bO) (f:NrT) (R:bO) (i x k:Int) (v10 v11 v12:Option PV),ρ=[some (.dat d),some (.dat (.lst (cQ n g))),some (.dat (.lst (cQ n t))),some (.dat (.lst (cQ n l))),some (.dat (.int s)),some (.odc (ksR R) (dsR R)),some (.odc (ksR N) (dsR N)),some (.dat (.int i)),some (.dat (.int x)),some (.dat (.int k)),v10,v11,v12]
 /\(kS v10/\kS v11/\kS v12)/\ou n c g t l s Z f R i x k/\e7 N f/\N.length<=40*R.length/\xD n c g t l m f R i x k=D7 n c g t l s/\n<R.length+m,⟨n+1,[],[],λ_=>none,[],s,0,-1,_,_,_,rfl,⟨kT,kT,kT⟩,ou.start hs,⟨λe h=>(by cases h),λj p h=>(by cases h)⟩,g_ _,rfl,by simp⟩,?_⟩
 rintro m ρ ⟨Z,N,f,R,i,x,k,v10,v11,v12,rfl,hv,D,hN,hNl,hw,hm⟩;walk_at "r"
 refine kj (λhi=>?_) (λhi=>?_)
 .have hi:0<=i:=of_decide_eq_true hi;have hin:i.toNat<n:=D.row A hs hi;obtain⟨i0,rfl⟩:∃i0:Nat,i=i0:=⟨i.toNat,by omega⟩
  rw [toNat_natCast] at hin;refine mP hd.sq ⟨_,eX (j:=i0) (getElem?_itD (by rw [hd.len];exact hin)) rfl,?_⟩;walk_at "r";rw [A8 (hd.at_ i0 hin)];walk_at "r";refine⟨λkk ρ=>∃(N':bO) (v10 v11 v12:Option PV),ρ=[some (.dat d),some (.dat (.lst (cQ n g))),some (.dat (.lst (cQ n t))),some (.dat (.lst (cQ n l))),some (.dat (.int s)),some (.odc (ksR R) (dsR R)),some (.odc (ksR N') (dsR N')),some (.dat (.int i0)),some (.dat (.int x)),some (.dat (.int k)),v10,v11,v12]
  /\(kS v10/\kS v11/\kS v12)/\e7 N' (eZ (λj=>x+g i0+t j - c i0 j) R f k kk)/\N'.length<=40*R.length+kk,⟨N,_,_,_,rfl,hv,by rw [DK];exact hN,hNl⟩,?_,?_⟩
  .rintro kk ρ _ hkk rfl ⟨N',v10,v11,v12,rfl,hv',hN',hl'⟩;rw [dG] at hkk;have a1:=kR (f:=g) hin;have a2:=kR (f:=t) hkk;rw [A5 hkk];walk_at "r";refine⟨_,a1,?_⟩;walk_at "r";refine⟨_,a2,?_⟩;walk_at "r";have l1:=vQ R kk;have l2:=hN'.look kk;rw [A7] at l2;have hkl:(kdR N').length<1000000:=by unfold kdR;rw [length_map];have:=D.len;omega
   have take:∀u10 u11 u12,(kS u10/\kS u11/\kS u12)->ma R kk=false->(f kk=none\/∃p,f kk=some p/\x+g i0+t kk - c i0 kk<p.1) ->
     ∃(N2:bO) (v10 v11 v12:Option PV),[some (.dat d),some (.dat (.lst (cQ n g))),some (.dat (.lst (cQ n t))),some (.dat (.lst (cQ n l))),some (.dat (.int s)),some (.odc (ksR R) (dsR R)),some (.odc ((xJ (kdR N') (.inl (kk:Int)) (.tup [.int (x+g i0+t kk - c i0 kk),.int k])).map v_) ((xJ (kdR N') (.inl (kk:Int)) (.tup [.int (x+g i0+t kk - c i0 kk),.int k])).map Hv)),some (.dat (.int i0)),some (.dat (.int x)),some (.dat (.int k)),u10,u11,u12]=[some (.dat d),some (.dat (.lst (cQ n g))),some (.dat (.lst (cQ n t))),some (.dat (.lst (cQ n l))),some (.dat (.int s)),some (.odc (ksR R) (dsR R)),some (.odc (ksR N2) (dsR N2)),some (.dat (.int i0)),some (.dat (.int x)),some (.dat (.int k)),v10,v11,v12]
    /\(kS v10/\kS v11/\kS v12)/\e7 N2 (eZ (λj=>x+g i0+t j - c i0 j) R f k (kk+1))/\N2.length<=40*R.length+(kk+1):=λu10 u11 u12 hu h1 h2=>by
    rw [y0 N' kk (x+g i0+t kk - c i0 kk,k)];refine⟨sZ N' kk (x+g i0+t kk - c i0 kk,k),u10,u11,u12,rfl,hu,hN'.put (vP h1 h2),?_⟩;have:=xS (N:=N') (j:=kk) (p:=(x+g i0+t kk - c i0 kk,k));omega
   have leave:∀u10 u11 u12,(kS u10/\kS u11/\kS u12)->(ma R kk=true\/∃p,f kk=some p/\¬ x+g i0+t kk - c i0 kk<p.1) ->
     ∃(N2:bO) (v10 v11 v12:Option PV),[some (.dat d),some (.dat (.lst (cQ n g))),some (.dat (.lst (cQ n t))),some (.dat (.lst (cQ n l))),some (.dat (.int s)),some (.odc (ksR R) (dsR R)),some (.odc (ksR N') (dsR N')),some (.dat (.int i0)),some (.dat (.int x)),some (.dat (.int k)),u10,u11,u12]=[some (.dat d),some (.dat (.lst (cQ n g))),some (.dat (.lst (cQ n t))),some (.dat (.lst (cQ n l))),some (.dat (.int s)),some (.odc (ksR R) (dsR R)),some (.odc (ksR N2) (dsR N2)),some (.dat (.int i0)),some (.dat (.int x)),some (.dat (.int k)),v10,v11,v12]
    /\(kS v10/\kS v11/\kS v12)/\e7 N2 (eZ (λj=>x+g i0+t j - c i0 j) R f k (kk+1))/\N2.length<=40*R.length+(kk+1):=λu10 u11 u12 hu h=>by
    refine⟨N',u10,u11,u12,rfl,hu,?_,by omega⟩;rw [tu h λj z=>(D.fn j z).2];exact hN'
   refine kj (λcR=>?_) (λcR=>?_)
   .have cR:=vR cR;rw [cR] at l1;have l1:ma R kk=false:=l1.symm;walk_at "r"
    refine kj (λcN=>?_) (λcN=>?_)
    .have cN:=vR cN;rw [cN] at l2
     have cf:f kk=none:=by
      cases h:f kk with
      | none=>rfl
      | some p=>rw [h] at l2;cases l2
     walk_at "r";exact take _ _ _ ⟨cw,cw,cw⟩ l1 (.inl cf)
    .have cN:=vS cN;rw [l2] at cN
     obtain⟨p,cf⟩:∃p,f kk=some p:=by
      cases h:f kk with
      | none=>rw [h] at cN;cases cN
      | some p=>exact⟨p,rfl⟩
     rw [cf] at l2;have l2:dE (ksR N') (dsR N') (Ic (kk:Int))=some (.tup [.int p.1,.int p.2]):=l2;walk_at "r";refine⟨_,l2,?_⟩;walk_at "r"
     refine kj (λcl=>?_) (λcl=>?_)
     .walk_at "r";exact take _ _ _ ⟨cw,cw,cw⟩ l1 (.inr ⟨p,cf,of_decide_eq_true cl⟩)
     .walk_at "r";exact leave _ _ _ ⟨cw,cw,cw⟩ (.inr ⟨p,cf,of_decide_eq_false cl⟩)
   .have cR:=vS cR;rw [l1] at cR;walk_at "r";exact leave _ _ _ ⟨cw,cw,cw⟩ (.inl cR)
  .rintro ρ ⟨N',v10,v11,v12,rfl,hv',hN',hl'⟩;walk_at "r";refine⟨DL hv',?_⟩;walk_at "r";have hnl:(N'.map λe=>(e.1:Int)).length<=1000000:=by rw [length_map];have:=D.len;rw [dG] at hl';omega
   refine⟨N'.map λe=>(e.1:Int),by unfold ksR kdR;rw [Hz,Hz];rfl,rfl,hnl,⟨λkk ys τ=>ys=(N'.take kk).map (λe=>.tup [.int e.2.1,.int e.1])/\∃v,τ=[v,some (.dat (.fdc (ksR N') (dsR N')))],⟨rfl,_,rfl⟩,?_,?_⟩⟩
   .rintro kk ys τ _ hkk rfl ⟨rfl,v,rfl⟩;rw [length_map] at hkk;have ek:(N'.map λe=>(e.1:Int)).getD kk 0=(N'[kk].1:Int):=by rw [e_,i_,d_ hkk];rfl
    rw [ek];have l2:=hN'.look N'[kk].1;rw [hN'.e _ (Iu hkk)] at l2;have l2:dE (ksR N') (dsR N') (Ic (N'[kk].1:Int))=some (.tup [.int N'[kk].2.1,.int N'[kk].2.2]):=l2;walk_at "r";refine⟨_,l2,?_⟩;walk_at "r";exact⟨by rw [Jo,d_ hkk,map_append];rfl,_,rfl⟩
   .rintro ys τ ⟨rfl,v,rfl⟩;rw [length_map,take_length];rw [dG] at hN' hl';have hnf:=xT N';obtain⟨mq,hq⟩:=D.near A hs (Lq _) (sl:=λj=>x+g i0+t j - c i0 j);obtain⟨_,⟨p0,e0⟩,_⟩:=hq
    have hne:N'.map (λe=>[e.2.1,(e.1:Int)])≠[]:=λz=>by
     have:=hN'.m _ _ e0;rw [map_eq_nil_iff.mp z] at this;cases this
    walk_at "r";refine⟨trivial,?_⟩;walk_at "r";refine⟨N'.map λe=>[e.2.1,(e.1:Int)],by rw [Hz];rfl,hne,λr hr hmin=>?_⟩;obtain⟨e,he,rfl⟩:=Hx.mp hr;have ls:=xU hN' (λj p hp=>(kI hp D.fn).1) he hmin;have hp2:AM (eZ (λj=>x+g i0+t j - c i0 j) R f k n) e.1=e.2.2:=by unfold AM;rw [hN'.e e he];rfl
    have hnR:=(kI (hN'.e e he) D.fn).2.1
    have hpop:mW (kdR N') (.inl (e.1:Int))=some (.tup [.int e.2.1,.int e.2.2]):=by
     rw [qx hN'.e (hN'.m e.1),hN'.e e he];rfl
    have hRl:=D.len;have hkl:(kdR R).length<1000000:=by unfold kdR;rw [length_map];omega
    have al:=kR (f:=l) ls.1;have al:atI (cQ n l) (e.1:Int)=some (.int (l e.1)):=al;walk_at "r";refine⟨_,hpop,?_⟩;walk_at "r";refine⟨_,al,?_⟩;walk_at "r";obtain⟨m',rfl⟩:∃m',m=m'+1:=⟨m - 1,by omega⟩
    have st:=D.step A hs (Lq _) (by rw [toNat_natCast]) ls;have sw:=oA (m:=m') (R:=R) (x:=x) (k:=k) (f:=f) (n:=n) (c:=c) (g:=g) (t:=t) (l:=l) (Lq i0) (by rw [toNat_natCast]) ls;rw [hp2] at st sw
    refine⟨m',HX _,_,tq N' e.1,_,R++[e],l e.1,e.2.1,e.1,v10,v11,v12,?_,hv',st,hN'.drop,?_,by rw [<- sw];exact hw,?_⟩
    .have e1:xJ (kdR R) (.inl (e.1:Int)) (.tup [.int e.2.1,.int e.2.2])=kdR (R++[e]):=by rw [y0 R e.1 e.2,xV hnR]
     rw [e1,A6];rfl
    .have:=vT (R:=N') (j:=e.1);rw [length_append];simp only [length_cons,length_nil];omega
    .rw [length_append];simp only [length_cons,length_nil];omega
 .have hi:i<0:=not_le.mp (of_decide_eq_false hi);rw [oz hi] at hw;obtain⟨R0,q',p,e,W⟩:=D.way hi;subst e;exact⟨rfl,q R0 q' x p hw.symm W⟩
noncomputable def fM(K:b_)(mg:Str->Option Value)(t:TxX K mg):=(have TX:=t;show LS K [1,2,3] _ _ from (au (aC (xI (aM (c:=eO) (aa (ac (ar (i:=0))) (aa (ac (ar (i:=1))) (aa (ac (ar (i:=2))) (aa (ac (ar (i:=3))) (aa (ac (ar (i:=4))) ae))))))) (ay (i:=5) rfl)) (au (aC (ap bg (ac (bz xK (aa (iL (i:=5)) ae))) (ac (xi rq (ac (le_int (i:=1)))))) (ay (i:=6) rfl)) (au (aC (ap bg (ac (ap i6 (iL (i:=5)) (am (i:=6)))) (ac (le_int (i:=0)))) (ay (i:=7) rfl)) (au (qk (f:=(λi j=>i - j)) (i:=1) (ar (i:=4)) (ar (i:=7))) (au (DD (x:=5) (dM (DF (ar (i:=5))) (az (i:=8) rfl) (bU (iX (ap sG (ac (ap bg (am (i:=3)) (am (i:=8)))) (ac (le_int (i:=0))))) (au (qk (f:=(λi j=>i+j)) (i:=2) (ar (i:=8)) (ap rj (am (i:=7)) (ac (ap bg (ac (ap i6 (iL (i:=5)) (am (i:=8)))) (ac (le_int (i:=0))))))) (qk (f:=(λi j=>i - j)) (i:=1) (ap bg (am (i:=3)) (am (i:=8))) (ap rj (am (i:=7)) (ac (ap bg (ac (ap i6 (iL (i:=5)) (am (i:=8)))) (ac (le_int (i:=0)))))))) aJ))) (mK (iX (ap sG (am (i:=6)) (ac (le_int (i:=0))))) (au (aC (ap bg (ac (ap i6 (iL (i:=5)) (am (i:=6)))) (ac (le_int (i:=1)))) (ay (i:=9) rfl)) (au (uM (i:=3) (ES (iX (ap sG (am (i:=9)) (ac (le_int (i:=0))))) (ap bg (am (i:=3)) (am (i:=9))) (ar (i:=4))) (ar (i:=6))) (aC (ar (i:=9)) (ay (i:=6) rfl)))))))))))
def jL:PTS:=psO fM
def jM:∀as Q,cz as Q->as.length=5/\(∀i,i∈([1,2,3]:List Nat) ↔ ∃p:PV,as[i]?=some p/\p.isOwn=true)/\jL { nx:=wB [1,2,3] as Q,rt:=λr ρ=>r=.dat .non/\wB [1,2,3] as Q ρ } (bv 10 as):=λas Q h=>by
 unfold cz at h
 split at h
 .refine⟨rfl,?_,?_⟩
  .intro i;rcases i with _|_|_|_|_|i <;> simp [PV.isOwn]
  walk_at "z";rename_i d ga ta la m;obtain⟨n,c,rs,hd,g,rfl,t,rfl,l,rfl,s,rfl,⟨hn,hs,A⟩,q⟩:=h;walk_at "r";refine⟨n,c,rs,hd,g,rfl,t,rfl,l,rfl,s,rfl,⟨hn,hs,A⟩,λR0 q' x p ew W=>⟨DM _,?_⟩⟩
  have hst:kJ n c s (g,t,l)=(((R0++[(q',x,p)]).foldl (upF l x) (t,gSt g s x)).2,((R0++[(q',x,p)]).foldl (upF l x) (t,gSt g s x)).1,g6 (R0++[(q',x,p)]) s (n+1) l q'):=by
   unfold kJ;simp only;rw [ew,oB]
  rw [hst] at q;have hRl:=W.len;have hla:=Ba R0 (q',x,p);have hnd:=W.nd;have hrn:=W.rn;have hpr:=W.pr;have hq:(q',x,p)∈R0++[(q',x,p)]:=r_ _ mem_cons_self;have hll:(R0++[(q',x,p)]).length<=n:=by rw [length_append];exact hRl
  generalize hR:R0++[(q',x,p)]=R at *;have hki:=A9 R;walk_at "r";refine⟨R.map λe=>(e.1:Int),hki,by rw [length_map];omega,?_⟩;walk_at "r";refine⟨_,hla,?_⟩;walk_at "r";refine⟨_,vU hnd hq,?_⟩;walk_at "r";refine⟨s,g s,AD (by rw [dG];exact hs),gv hs,?_⟩;walk_at "r";rw [iN]
  refine⟨R.map λe=>(e.1:Int),hki,λkk ρ=>∃v8 v9:Option PV,ρ=[some (.dat d),some (.own (cQ n ((R.take kk).foldl (upF l x) (t,gSt g s x)).2)),some (.own (cQ n ((R.take kk).foldl (upF l x) (t,gSt g s x)).1)),some (.own (cQ n l)),some (.dat (.int s)),some (.dat (.fdc (ksR R) (dsR R))),some (.dat (.int (q':Nat))),some (.dat (.int x)),v8,v9],⟨_,_,rfl⟩,?_,?_⟩
  .rintro kk ρ _ hkk rfl ⟨v8,v9,rfl⟩;rw [length_map] at hkk;have ek:(R.map λe=>(e.1:Int)).getD kk 0=(R[kk].1:Int):=by rw [e_,i_,d_ hkk];rfl
   have hm:=Iu hkk;have hen:=hrn _ hm;have hlk:=vU hnd hm;have hld:=A.ld _ hen
   have hf:(R.take (kk+1)).foldl (upF l x) (t,gSt g s x)=upF l x ((R.take kk).foldl (upF l x) (t,gSt g s x)) R[kk]:=by
    rw [Jo,d_ hkk];show Lv _ _ (_++[R[kk]])=_;rw [foldl_append];rfl
   have a1:=kR (f:=l) hen;dsimp only;rw [ek,hf];generalize (R.take kk).foldl (upF l x) (t,gSt g s x)=tg at *;generalize R[kk]=e at *;walk_at "r";refine⟨_,a1,?_⟩;walk_at "r"
   refine kj (λc1=>?_) (λc1=>?_)
   .have c1:0<=l e.1:=of_decide_eq_true c1;obtain⟨r,hr⟩:∃r:Nat,l e.1=(r:Int):=⟨(l e.1).toNat,by omega⟩
    have hrn':r<n:=by omega
    unfold upF;rw [if_pos c1,hr,toNat_natCast];rw [hr] at a1;walk_at "r";refine⟨e.1,tg.1 e.1,AD (by rw [dG];exact hen),gv hen,?_⟩;walk_at "r";refine⟨_,hlk,?_⟩;walk_at "r";refine⟨_,a1,?_⟩;walk_at "r";refine⟨r,tg.2 r,AD (by rw [dG];exact hrn'),gv hrn',?_⟩;walk_at "r";refine⟨_,hlk,?_⟩;walk_at "r";rw [iN,iN];exact⟨_,_,rfl⟩
   .have c1:¬ 0<=l e.1:=of_decide_eq_false c1;unfold upF;rw [if_neg c1];walk_at "r";exact⟨_,_,rfl⟩
  .rintro ρ ⟨v8,v9,rfl⟩;rw [length_map,take_length];walk_at "r";generalize (R.foldl (upF l x) (t,gSt g s x)).2=G at *;generalize (R.foldl (upF l x) (t,gSt g s x)).1=T at *;refine⟨λm ρ=>∃(L:Nat->Int) (k:Int) (v8 v9:Option PV),ρ=[some (.dat d),some (.own (cQ n G)),some (.own (cQ n T)),some (.own (cQ n L)),some (.dat (.int s)),some (.dat (.fdc (ksR R) (dsR R))),some (.dat (.int k)),some (.dat (.int x)),v8,v9]/\g6 R s m L k=g6 R s (n+1) l q'/\(k<0\/∃R1 e R2,R=R1++e::R2/\k=(e.1:Int)/\R1.length<m),⟨n+1,l,q',_,_,rfl,rfl,.inr ⟨R0,(q',x,p),[],hR.symm,rfl,by omega⟩⟩,?_⟩
   rintro m ρ ⟨L,k,v8,v9,rfl,ht,hk⟩;walk_at "r"
   refine kj (λc1=>?_) (λc1=>?_)
   .have c1:0<=k:=of_decide_eq_true c1;obtain⟨R1,e,R2,eR,rfl,hlt⟩:=hk.resolve_left (by omega);have hm:e∈R:=by rw [eR];exact r_ _ mem_cons_self
    have hlk:=vU hnd hm;have hen:=hrn _ hm;obtain⟨m',rfl⟩:∃m',m=m'+1:=⟨m - 1,by omega⟩
    have tc:=vV (R:=R) (s:=s) (m:=m') (L:=L) (k:=(e.1:Int)) c1;rw [toNat_natCast,yQ (d:=e.2.1) (p:=e.2.2) hnd hm] at tc;rw [tc] at ht;clear tc;walk_at "r";refine⟨_,hlk,?_⟩;walk_at "r";have hp:=hpr R1 e R2 eR;generalize he2:e.2.2=b at *
    refine kj (λc2=>?_) (λc2=>?_)
    .have c2:0<=b:=of_decide_eq_true c2;rw [if_pos c2] at ht
     obtain⟨a,ha,eb,_⟩:∃a,a∈R1/\b=(a.1:Int)/\True:=by
      rcases hp with ⟨z,_⟩|⟨a,ha,z,_⟩
      .omega
      .exact⟨a,ha,by rw [<- he2];exact z,trivial⟩
     subst eb;have haR:a∈R:=by rw [eR];exact Hm _ ha
     have a1:=kR (f:=L) (hrn _ haR);rw [toNat_natCast] at ht;obtain⟨S1,S2,eS⟩:=append_of_mem ha;walk_at "r";refine⟨_,a1,?_⟩;walk_at "r";refine⟨e.1,AD (by rw [dG];exact hen),?_⟩;walk_at "r";rw [iN];exact⟨m',HX _,_,_,_,_,rfl,ht,.inr ⟨S1,a,S2++e::R2,by rw [eR,eS,Io];rfl,rfl,by rw [eS,length_append,length_cons] at hlt;omega⟩⟩
    .have c2:¬ 0<=b:=of_decide_eq_false c2;rw [if_neg c2] at ht;walk_at "r";refine⟨e.1,AD (by rw [dG];exact hen),?_⟩;walk_at "r";rw [iN];exact⟨m',HX _,_,_,_,_,rfl,ht,.inl (by omega)⟩
   .have c1:¬ 0<=k:=of_decide_eq_false c1;rw [xW (by omega)] at ht;subst ht;exact FI q
 .exact h.elim
noncomputable def gc(K:b_)(mg:Str->Option Value)(t:TxX K mg)(Ec:D->Prop)(E:XK):=(have TX:=t;show LSX K Ec E [] _ _ from (l5 (Fn (dA (gy (aM (c:=eA) (aa (ac (ar (i:=0))) ae)))) (vh (c:="NoTable") TX.all (t_.mp (by decide +kernel))) (LS.x aJ)) (l5 (LS.x (aC (bR (ix:=[none]) rfl (cO (ar (i:=0))) (λfs hc=>(az (i:=0) (kq hc (by decide)))) cm (bz AX (aa (am (i:=0)) ae))) (ay (i:=1) rfl))) (l5 (LS.x (aC (bR (ix:=[none]) rfl (cO (ar (i:=0))) (λfs hc=>(az (i:=0) (kq hc (by decide)))) cm (le_int (i:=0))) (ay (i:=2) rfl))) (l5 (LS.x (aC (bR (ix:=[none]) rfl (cO (ar (i:=0))) (λfs hc=>(az (i:=0) (kq hc (by decide)))) cm (xi rq (ac (le_int (i:=1))))) (ay (i:=3) rfl))) (l5 (C6 (iz (aa (ac (bz bW (aa (am (i:=0)) ae))) ae)) (az (i:=4) rfl) (LS.x (gX (xH (c:=cz) (is:=[0,1,2,3,4]))))) (l5 (LS.x (aC (bz fm (aa (ac (bR (ix:=[none,some 3]) rfl (iz (aa (ac (bz bW (aa (am (i:=0)) ae))) ae)) (λfs hc=>(az (i:=0) (kq hc (by decide)))) cm (AH (am (i:=1)) (ar (i:=0))))) ae)) (ay (i:=5) rfl))) (LS.x (aR (rh (aa (ac (ar (i:=5))) (aa (ac (bz fm (aa (am (i:=1)) ae))) (aa (ac (bz fm (aa (am (i:=2)) ae))) ae)))))))))))))
def kX:(D->Prop)->PTS:=psX gc
def kY:XRl bA kX 6 1:=λ_ Q E h=>rR h λd _ h=>jY h λh=>Hr rfl <| by
 walk_at "z";obtain⟨hs,hl,e,q⟩:=h;walk_at "r"
 refine fj (kj (λc=>?_) (λc=>?_))
 .have c:sqB d=true:=c;have hd:=xX c;have hc0:∀i j,i<(ah d).length->j<(ah d).length->0<=cel d i j:=λi j hi hj=>FJ c hi hj;have hn:=FK c;have q:=q c;clear e c hs hl;generalize cel d=cc at *;generalize ah d=rs at *;generalize hN:rs.length=n at *;refine og hd.sq ?_;walk_at "r"
  refine wv (λτ=>∃v,τ=[v]) (λk=>.int (wz (cc k) n)) ⟨_,rfl⟩ ?_ ?_
  .rintro k τ _ hk rfl ⟨v,rfl⟩ K1 k1;rw [hN] at hk;have hr:=hd.at_ k hk;walk_at "r";refine⟨itD rs k,(gV n).map (cc k),rfl,by rw [<- jZ];exact hr,by rw [length_map,length_range];omega,λm hm hle=>?_⟩
   have em:m=wz (cc k) n:=by
    obtain⟨j,hj,rfl⟩:=Hx.mp hm;rw [Hl] at hj;obtain⟨j2,hj2,e2⟩:=rP (f:=cc k) (m:=n) (by omega);have a:=qm (f:=cc k) hj;have b:=hle _ (Hx.mpr ⟨j2,Hl.mpr hj2,rfl⟩);omega
   subst em;walk_at "r";exact k1 _ ⟨_,rfl⟩
  .rintro τ ⟨v,rfl⟩;rw [hN];walk_at "r";refine og hd.sq ?_;walk_at "r"
   refine wv (λτ=>∃v,τ=[v]) (λk=>.int 0) ⟨_,rfl⟩ ?_ ?_
   .rintro k τ _ hk rfl ⟨v,rfl⟩ K1 k1;walk_at "r";exact k1 _ ⟨_,rfl⟩
   .rintro τ ⟨v,rfl⟩;rw [hN];walk_at "r";refine og hd.sq ?_;walk_at "r"
    refine wv (λτ=>∃v,τ=[v]) (λk=>.int (-1)) ⟨_,rfl⟩ ?_ ?_
    .rintro k τ _ hk rfl ⟨v,rfl⟩ K1 k1;walk_at "r";exact k1 _ ⟨_,rfl⟩
    .rintro τ ⟨v,rfl⟩;rw [hN];walk_at "r";refine rF hd.sq ?_;rw [hd.len];walk_at "r";rw [toNat_natCast]
     refine⟨λk ρ=>∃v4 v5:Option PV,ρ=[some (.dat d),some (.own (cQ n (bpN n cc k).1)),some (.own (cQ n (bpN n cc k).2.1)),some (.own (cQ n (bpN n cc k).2.2)),v4,v5],⟨_,_,rfl⟩,?_,?_⟩
     .rintro k ρ _ hk rfl ⟨v4,v5,rfl⟩;have hfit:=md hc0 k (by omega);walk_at "r";refine⟨[.dat d,.own (cQ n (bpN n cc k).1),.own (cQ n (bpN n cc k).2.1),.own (cQ n (bpN n cc k).2.2),.dat (.int k)],rfl,?_⟩;exact⟨n,cc,rs,hd,_,rfl,_,rfl,_,rfl,k,rfl,⟨hn,hk,hfit⟩,_,_,rfl⟩
     .rintro ρ ⟨v4,v5,rfl⟩;walk_at "r";refine rF hd.sq ?_;rw [hd.len];walk_at "r";rw [toNat_natCast]
      refine wv (λτ=>∃v,τ=[v,some (.own (cQ n (bpN n cc n).2.2))]) (λk=>nD (bpF n cc k)) ⟨_,rfl⟩ ?_ ?_
      .rintro k τ _ hk rfl ⟨v,rfl⟩ K1 k1;walk_at "r";have A:=md hc0 n (g_ _)
       have hmem:(k:Int)∈(gV n).map (bpN n cc n).2.2:=by
        obtain⟨j,hj,e⟩:=A.sur k hk;exact Hx.mpr ⟨j,Hl.mpr hj,e⟩
       have hnl:∀z∈(gV n).map (bpN n cc n).2.2,z.natAbs<2^64:=λz hz=>by
        obtain⟨j,hj,rfl⟩:=Hx.mp hz;have:=A.ld j (Hl.mp hj);omega
       refine⟨(gV n).map (bpN n cc n).2.2,jZ _ _,⟨by rw [length_map,length_range];omega,hnl,hmem⟩,?_⟩;exact k1 _ ⟨_,rfl⟩
      .rintro τ ⟨v,rfl⟩;walk_at "r"
       have e:bpP n cc=.tup [.tup ((gV n).map λk=>nD (bpF n cc k)),.tup (cQ n (bpN n cc n).1),.tup (cQ n (bpN n cc n).2.1)]:=by
        unfold bpP bpJ bpG bpT;rw [<- jZ,<- jZ,Hz];rfl
       rw [e] at q;exact q
 .have c:sqB d=false:=c;walk_at "r";exact e c
noncomputable def kZ(K:b_)(mg:Str->Option Value)(t:TxX K mg):=(have TX:=t;show LS K [] _ _ from (au (aC (ap aV (ac (bz uP (aa (am (i:=0)) ae))) (ac (ap fT (ac (bu (aa (ac (le_int (i:=0))) ae))) (ac (bz rA (aa (ac (ap fU (ac (bz bW (aa (am (i:=0)) ae))) (ac (le_int (i:=0))))) ae)))))) (ay (i:=2) rfl)) (au (aC (bR (ix:=[none]) rfl (cO (ar (i:=2))) (λfs hc=>(az (i:=0) (kq hc (by decide)))) cm (ap fT (am (i:=0)) (ac (bz rA (aa (ac (ap sG (am (i:=0)) (ac (ap uF (ac (le_int (i:=10))) (ac (le_int (i:=18))))))) ae))))) (ay (i:=3) rfl)) (au (aC (bu ae) (ay (i:=4) rfl)) (au (dM (iz (aa (ac (ar (i:=1))) ae)) (az (i:=5) rfl) (au (aC (ap b9 (am (i:=5)) (ac (bz bW (aa (am (i:=2)) ae)))) (ay (i:=6) rfl)) (au (aC (ap aV (ac (ap fT (ac (ap b9 (ac (ap aV (ac (ap aV (ac (ap bg (am (i:=2)) (am (i:=6)))) (ac (ap fT (ac (ap fT (am (i:=5)) (am (i:=5)))) (ac (le_int (i:=16807))))))) (ac (ap fT (ac (le_int (i:=3))) (am (i:=5)))))) (ac (le_int (i:=2147483629))))) (ac (ap bg (ac (bu (aa (ac (le_int (i:=48271))) (aa (ac (le_int (i:=69621))) (aa (ac (le_int (i:=39373))) (aa (ac (le_int (i:=16807))) ae)))))) (ac (ap b9 (am (i:=5)) (ac (le_int (i:=4))))))))) (ac (le_int (i:=7)))) (ay (i:=7) rfl)) (au (gX (l0 (i:=4) (ap bg (ac (bu (aa (ac (ap b9 (ac (ap fT (am (i:=7)) (am (i:=7)))) (ac (le_int (i:=2147483629))))) (aa (ac (ap b9 (ac (ap bg (am (i:=3)) (am (i:=6)))) (ac (ap uF (ac (le_int (i:=10))) (ac (le_int (i:=18))))))) ae)))) (ac (bz rA (aa (ac (ap fV (ac (ap bg (am (i:=3)) (am (i:=6)))) (ac (le_int (i:=0))))) ae)))))) (uM (i:=3) (ap xA (ac (ap bg (am (i:=3)) (am (i:=6)))) (ac (ap uF (ac (le_int (i:=10))) (ac (le_int (i:=18)))))) (ar (i:=6))))))) (aR (sK (am (i:=4)))))))))
def qD:PTS:=psO kZ
def qE:PRl hZ qD 8 2:=λ_ Q h=>Hc h λns _ h=>sS h λmo _ h=>jY h λh=>Hr rfl <| by
 walk_at "z";obtain⟨⟨hn,h0,h1⟩,q⟩:=h;have hnm:(ns.map D.int).length=ns.length:=length_map _;walk_at "r"
 obtain⟨cs,hcs,hc0,hc1⟩:∃cs:List Int,ns.map D.int++mB [D.int 0] (if decide ((ns.length:Int)=0)=true then 1 else 0)=cs.map D.int/\0<cs.length/\cs.length<=65:=by
  by_cases e:ns.length=0
  .refine⟨[0],?_,by decide,by decide⟩;rw [if_pos (decide_eq_true (by omega)),IC.mp e];rfl
  .refine⟨ns,?_,by omega,by omega⟩;rw [if_neg (λz=>e (by have:=of_decide_eq_true z;omega))];exact HK _
 have hcm:(cs.map D.int).length=cs.length:=length_map _;rw [<- length_append,hcs,hcm];refine⟨by omega,?_⟩;walk_at "r"
 refine cm1 (λc:Int=>.int (c*(if decide (c >= 10^18)=true then 1 else 0))) (λc hc v K1 k1=>?_) (λv=>?_)
 .walk_at "r";exact k1 _
 .walk_at "r";have e3:cs.map (λc=>D.int (c*if decide (c >= 10^18)=true then 1 else 0))=(cs.map λc=>c*if decide (c >= 10^18)=true then 1 else 0).map D.int:=by rw [Hz];rfl
  rw [e3];generalize hrs:(cs.map λc=>c*if decide (c >= 10^18)=true then 1 else 0)=rs;have hrl:rs.length=cs.length:=by rw [<- hrs,length_map]
  clear hrs e3
  refine⟨λk ρ=>∃(rs zs:List Int) (v5 v6 v7:Option PV),rs.length=cs.length/\Dk zs/\zs.length=k/\ρ=[some (.dat (.scr ns)),some (.dat (.int mo)),some (.dat (.lst (cs.map .int))),some (.own (rs.map .int)),some (.own (zs.map .int)),v5,v6,v7],⟨rs,[],_,_,_,hrl,(λx hx=>nomatch hx),rfl,rfl⟩,?_,?_⟩
  .rintro k ρ _ hk rfl ⟨rs,zs,v5,v6,v7,hrl,hz,hzl,rfl⟩;have hk:k<mo.toNat:=hk;have hrm:(rs.map D.int).length=rs.length:=length_map _;have hzm:(zs.map D.int).length=zs.length:=length_map _;obtain⟨j,hj⟩:∃j:Nat,(k:Int) % (cs.length:Int)=(j:Int):=⟨((k:Int) % (cs.length:Int)).toNat,by have:=Iw (k:Int) (show (cs.length:Int)≠0 by omega);omega⟩
   have hj2:j<cs.length:=by have:=HY (k:Int) (show 0<(cs.length:Int) by omega);omega
   obtain⟨i,hi,hi2⟩:∃i:Nat,(k:Int) % 4=(i:Int)/\i<4:=⟨((k:Int) % 4).toNat,by omega,by omega⟩
   obtain⟨f,ef,hf0,hf1⟩:∃f:Int,atI ([.int 48271,.int 69621,.int 39373,.int 16807]:List D) (i:Int)=some (.int f)/\0<=f/\f<=69621:=by
    rcases i with _|_|_|_|i
    .exact⟨_,rfl,by decide,by decide⟩
    .exact⟨_,rfl,by decide,by decide⟩
    .exact⟨_,rfl,by decide,by decide⟩
    .exact⟨_,rfl,by decide,by decide⟩
    .omega
   have ec:atI (cs.map D.int) (j:Int)=some (.int cs[j]):=eX (j:=j) (by rw [i_,d_ hj2];rfl) rfl;have er:atI (rs.map D.int) (j:Int)=some (.int (rs[j]'(by omega))):=eX (j:=j) (by rw [i_,d_ (by omega)];rfl) rfl;generalize rs[j]'(by omega)=r at er;walk_at "r";rw [hcm,hj];walk_at "r";refine⟨_,ec,?_⟩;walk_at "r";rw [hi];refine⟨_,ef,?_⟩;have hb:∀a:Int,0<=a % 2147483629*f+7/\a % 2147483629*f+7<=2147483629*69621+7:=λa=>⟨by have:=mul_nonneg (Iw a (show (2147483629:Int)≠0 by decide)) hf0;omega,by have:=Int.mul_le_mul (Int.le_of_lt (HY a (show (0:Int)<2147483629 by decide))) hf1 hf0 (by decide);omega⟩
   have hb:=hb (cs[j]+(k:Int)*(k:Int)*16807+3*(k:Int));have p18:(0:Int)<10^Jp 18:=by decide
   have p18b:(10:Int)^Jp 18<18446744073709551616:=by decide
   have q18:((10:Int)^Jp 18)=1000000000000000000:=by decide
   walk_at "r";generalize (cs[j]+(k:Int)*(k:Int)*16807+3*(k:Int)) % 2147483629*f+7=x at hb;refine⟨_,er,?_⟩;walk_at "r";refine⟨_,er,?_⟩;walk_at "r"
   have fin:∀z:Int,0<=z->z<1000000000000000000->∃(rs' zs':List Int) (v5 v6 v7:Option PV),rs'.length=cs.length/\Dk zs'/\zs'.length=k+1/\[some (.dat (.scr ns)),some (.dat (.int mo)),some (.dat (.lst (cs.map .int))),some (.own ((rs.map D.int).set j (.int (r / 10^Jp 18)))),some (.own (zs.map D.int++[.int z])),some (.dat (.int (k:Int))),some (.dat (.int (j:Int))),some (.dat (.int x))]=[some (PV.dat (.scr ns)),some (.dat (.int mo)),some (.dat (.lst (cs.map .int))),some (.own (rs'.map .int)),some (.own (zs'.map .int)),v5,v6,v7]:=λz hz0 hz1=>by
    refine⟨rs.set j (r / 10^Jp 18),zs++[z],_,_,_,by rw [length_set];exact hrl,λy hy=>?_,by rw [length_append,hzl];rfl,by rw [map_set,map_append];rfl⟩
    rcases HA.mp hy with w|w
    .exact hz y w
    .rw [vx.mp w];exact⟨hz0,hz1⟩
   obtain⟨z,ez,hz0,hz1⟩:∃z:Int,atI ([.int (x*x % 2147483629),.int (r % 10^Jp 18)]:List D) (if (!decide (r=0))=true then 1 else 0)=some (.int z)/\0<=z/\z<1000000000000000000:=by
    by_cases e:r=0
    .rw [decide_eq_true e];exact⟨x*x % 2147483629,rfl,Iw _ (by decide),Int.lt_trans (HY _ (by decide)) (by decide)⟩
    .rw [decide_eq_false e];exact⟨r % 10^Jp 18,rfl,Iw _ (by decide),Int.lt_of_lt_of_le (HY _ p18) (by rw [q18];decide)⟩
   refine⟨_,ez,?_⟩;walk_at "r";refine⟨_,er,?_⟩;walk_at "r";refine⟨j,?_,fin z hz0 hz1⟩;rw [hrm,hrl];exact AD hj2
  .rintro ρ ⟨rs,zs,v5,v6,v7,hrl,hz,hzl,rfl⟩;walk_at "r";rw [<- map_reverse];exact q _ (λx hx=>hz x (mem_reverse.mp hx)) (by rw [Lj];exact hzl)
noncomputable def k6(K:b_)(mg:Str->Option Value)(t:TxX K mg):=(have TX:=t;show LS K [0] _ _ from (aR (CC (i:=0))))
def qF:PTS:=psO k6
def qG:RRl aH qF 1 1:=λ_ _ Q h=>Do h λds h=>jY h λh=>Hr rfl <| by
 walk_at "z";obtain⟨zs,rfl,⟨hz,h0,h1⟩,q⟩:=h;obtain⟨ys,z,rfl⟩:∃ys z,zs=ys++[z]:=⟨zs.dropLast,zs.getLast (ne_nil_of_length_pos h0),(dropLast_concat_getLast _).symm⟩
 have hm:((ys++[z]).map D.int)=ys.map D.int++[D.int z]:=by rw [map_append];rfl
 have hl:(ys.map D.int++[D.int z]).length - 1=(ys.map D.int).length:=by rw [length_append];rfl
 rw [hm];walk_at "r";refine⟨.int z,by rw [hl,IG (g_ _),sub_self];rfl,?_⟩;walk_at "r";rw [dropLast_concat];have hzz:=hz z (r_ _ (vx.mpr rfl));exact q z ys hzz.1 hzz.2 (λx hx=>hz x (Hm _ hx)) (by rw [length_append];rfl)
noncomputable def jy(K:b_)(mg:Str->Option Value)(t:TxX K mg):=(have TX:=t;show LS K [] _ _ from (aR (iy (lY .int (am (i:=0))) (yu (lY .bool (am (i:=0)))))))
def o8:PTS:=psO jy
def o9:PRl eB o8 1 1:=λ_ Q h=>rR h λd _ h=>jY h λh=>Hr rfl <| by
 walk_at "z";obtain⟨hd,q⟩:=h;cases d <;> first|(cases hd;done)|(walk_at "r";exact q)
noncomputable def e9(K:b_)(mg:Str->Option Value)(t:TxX K mg):=(have TX:=t;show LS K [0] _ _ from (au (aC (jV false (aa (ac (ar (i:=1))) ae)) (ay (i:=2) rfl)) (au (aC (bu ae) (ay (i:=3) rfl)) (au (mK (iX (ap fV (am (i:=2)) (ac (bu ae)))) (gX (l0 (i:=3) (xt (i:=2) (ap b9 (ac (bB (c:=aH) (i:=0) ae)) (ac (bz bW (aa (am (i:=2)) ae)))))))) (aR (ar (i:=3)))))))
def ji:PTS:=psO e9
def jj:RRl c9 ji 4 2:=λ_ _ Q h=>Do h λds h=>sS h λm _ h=>jY h λh=>Hr rfl <| by
 walk_at "z";obtain⟨zs,rfl,⟨hz,h0,h1,hm0,hm1⟩,q⟩:=h;obtain⟨n,rfl⟩:∃n:Nat,m=(n:Int):=⟨m.toNat,by omega⟩
 rw [toNat_natCast] at q h0;walk_at "r";refine⟨λk ρ=>∃(rs js:List Nat) (ys:List Int),(js++rs).Perm (gV n)/\Dk ys/\ys.length+js.length=zs.length/\k=rs.length/\ρ=[some (.own (ys.map .int)),some (.dat (.int (n:Int))),some (.own (rs.map nD)),some (.own (js.map nD))],⟨n,gV n,[],zs,List.Perm.refl _,hz,rfl,by rw [length_range],by rw [<- Al];rfl⟩,?_⟩;rintro k ρ ⟨rs,js,ys,hp,hy,hyl,rfl,rfl⟩
 have hpl:=hp.length_eq;rw [length_append,length_range] at hpl;have e1:=vW rs;have e2:=Bb rs;walk_at "r";rw [e2]
 refine sF (λc=>?_) (λc=>?_)
 .have hrl:0<rs.length:=Lp.mpr c;have g0:Dk ys/\0<ys.length/\ys.length<=100000:=⟨hy,by omega,by omega⟩
  have hrm:(rs.map nD).length=rs.length:=length_map _;have hjm:(js.map nD).length=js.length:=length_map _;walk_at "r";rintro z y1 hz0 hz1 hd1 hy1;obtain⟨i,hi⟩:∃i:Nat,z % (rs.length:Int)=(i:Int):=⟨(z % (rs.length:Int)).toNat,by have:=Iw z (show (rs.length:Int)≠0 by omega);omega⟩
  have hir:i<rs.length:=by have:=HY z (show 0<(rs.length:Int) by omega);omega
  walk_at "r";rw [hrm,hi];refine⟨i,nD rs[i],⟨AD hir,by omega⟩,by rw [i_,d_ hir];rfl,by show (js.map nD).length<_;omega,rs.length - 1,by omega,rs.eraseIdx i,js++[rs[i]],y1,?_,hd1,by rw [length_append];show y1.length+(js.length+1)=_;omega,by rw [length_eraseIdx,if_pos hir],by rw [map_append,vp];rfl⟩;rw [Io];exact ((perm_append_comm.trans (vq hir)).append_left js).trans hp
 .have c:rs=[]:=c;subst c;rw [HK] at hp;have hjl:js.length=n:=by rw [hp.length_eq,length_range]
  walk_at "r";exact q js ys hp hy (by omega)
noncomputable def k7(K:b_)(mg:Str->Option Value)(t:TxX K mg):=(have TX:=t;show LS K [0] _ _ from (au (aC (ap bg (ac (bu (aa (ac (le_int (i:=3))) (aa (ac (le_int (i:=9))) (aa (ac (le_int (i:=60))) (aa (ac (le_int (i:=500001))) ae)))))) (ac (ap b9 (ac (bB (c:=aH) (i:=0) ae)) (ac (le_int (i:=4)))))) (ay (i:=2) rfl)) (au (aC (bR (ix:=[none,some 2,some 0]) rfl (iz (aa (ac (ar (i:=1))) ae)) (λfs hc=>(az (i:=0) (kq hc (by decide)))) cm (ap b9 (ac (bB (c:=aH) (i:=2) ae)) (am (i:=1)))) (ay (i:=3) rfl)) (au (aC (bR (ix:=[none,some 2,some 0]) rfl (iz (aa (ac (ar (i:=1))) ae)) (λfs hc=>(az (i:=0) (kq hc (by decide)))) cm (ap b9 (ac (bB (c:=aH) (i:=2) ae)) (am (i:=1)))) (ay (i:=4) rfl)) (au (aC (bB (c:=c9) (i:=0) (aa (ac (ar (i:=1))) ae)) (ay (i:=5) rfl)) (au (aC (bu ae) (ay (i:=6) rfl)) (au (dM (iz (aa (ac (ar (i:=1))) ae)) (az (i:=7) rfl) (au (aC (bu ae) (ay (i:=8) rfl)) (au (dM (iz (aa (ac (ar (i:=1))) ae)) (az (i:=9) rfl) (au (aC (bB (c:=aH) (i:=0) ae) (ay (i:=10) rfl)) (au (aC (ap aV (ac (ap bg (am (i:=3)) (am (i:=7)))) (ac (ap bg (am (i:=4)) (am (i:=9))))) (ay (i:=11) rfl)) (au (aC (bz Aa (aa (ac (ap fT (ac (ap b9 (am (i:=10)) (ac (le_int (i:=3))))) (ac (ap b9 (ac (ap qb (am (i:=10)) (ac (le_int (i:=3))))) (am (i:=2)))))) (aa (am (i:=11)) ae))) (ay (i:=12) rfl)) (gX (l0 (i:=8) (ap rj (am (i:=11)) (ac (ap fT (am (i:=12)) (ac (bz rA (aa (ac (ap fV (ac (ap bg (am (i:=5)) (am (i:=7)))) (am (i:=9)))) ae)))))))))))) (gX (l0 (i:=6) (ar (i:=8))))))) (aR (rh (aa (ac (ar (i:=6))) (aa (ac (bu (aa (ac (ar (i:=5))) (aa (ac (ar (i:=3))) (aa (ac (ar (i:=4))) ae))))) ae)))))))))))
def qH:PTS:=psO k7
def qI:RRl h7 qH 13 2:=λ_ _ Q h=>Do h λds h=>sS h λm _ h=>jY h λh=>Hr rfl <| by
 walk_at "z";obtain⟨zs,rfl,⟨hz,h0,h1,hm0,hm1⟩,q⟩:=h;obtain⟨n,rfl⟩:∃n:Nat,m=(n:Int):=⟨m.toNat,by omega⟩
 rw [toNat_natCast] at q h0;have g0:Dk zs/\0<zs.length/\zs.length<=100000:=⟨hz,by omega,by omega⟩
 have nn:n*n<=40*40:=JR (by omega) (by omega);walk_at "r";rintro z y1 hz0 hz1 hd1 hy1;obtain⟨s,hsz,hs0,hs1⟩:=Bc z;walk_at "r";refine⟨.int s,hsz,?_⟩;walk_at "r";rw [toNat_natCast]
 refine⟨λk ys τ=>∃(v:Option PV) (ws y:List Int),τ=[v,some (.dat (.int s)),some (.own (y.map .int))]/\ys=ws.map .int/\ws.length=k/\(∀w∈ws,0<=w/\w<s)/\Dk y/\y.length+k=y1.length,⟨none,[],y1,rfl,rfl,rfl,(λw hw=>nomatch hw),hd1,rfl⟩,?_,?_⟩
 .rintro k ys τ _ hk rfl ⟨v,ws,y,rfl,rfl,hwl,hw,hdy,hyl⟩;have g1:Dk y/\0<y.length/\y.length<=100000:=⟨hdy,by omega,by omega⟩
  walk_at "r";rintro z2 y2 hz20 hz21 hd2 hy2;walk_at "r";refine⟨_,ws++[z2 % s],y2,rfl,by rw [map_append];rfl,by rw [length_append,hwl];rfl,λw h=>?_,hd2,by omega⟩
  rcases HA.mp h with h|h
  .exact hw w h
  .rw [vx.mp h];exact⟨Iw _ (by omega),HY _ hs0⟩
 .rintro ys τ ⟨v,gs,y2,rfl,rfl,hgl,hg,hd2,hy2⟩;walk_at "r";rw [toNat_natCast]
  refine⟨λk ys τ=>∃(v:Option PV) (ws y:List Int),τ=[v,some (.dat (.int s)),some (.own (y.map .int))]/\ys=ws.map .int/\ws.length=k/\(∀w∈ws,0<=w/\w<s)/\Dk y/\y.length+k=y2.length,⟨none,[],y2,rfl,rfl,rfl,(λw hw=>nomatch hw),hd2,rfl⟩,?_,?_⟩
  .rintro k ys τ _ hk rfl ⟨v,ws,y,rfl,rfl,hwl,hw,hdy,hyl⟩;have g1:Dk y/\0<y.length/\y.length<=100000:=⟨hdy,by omega,by omega⟩
   walk_at "r";rintro z2 y2 hz20 hz21 hd2 hy2;walk_at "r";refine⟨_,ws++[z2 % s],y2,rfl,by rw [map_append];rfl,by rw [length_append,hwl];rfl,λw h=>?_,hd2,by omega⟩
   rcases HA.mp h with h|h
   .exact hw w h
   .rw [vx.mp h];exact⟨Iw _ (by omega),HY _ hs0⟩
  .rintro ys τ ⟨v,ts,y3,rfl,rfl,htl,ht,hd3,hy3⟩;have g3:Dk y3/\(n:Int).toNat<=y3.length/\y3.length<=10000/\(0:Int)<=(n:Int)/\(n:Int)<=40:=⟨hd3,by omega,by omega,hm0,hm1⟩
   walk_at "r";rintro js y4 hpj hd4 hy4;rw [toNat_natCast] at hpj hy4;have hjl:js.length=n:=by rw [hpj.length_eq,length_range]
   have hjm:∀i,i<n->js.getD i 0<n:=λi hi=>Hl.mp (hpj.mem_iff.mp (by rw [e_,d_ (by omega)];exact Iu _));have hgi:∀i,i<n->0<=gs.getD i 0/\gs.getD i 0<500001:=λi hi=>by have:=hg _ (getD_mem (show i<gs.length by omega));omega
   have hti:∀i,i<n->0<=ts.getD i 0/\ts.getD i 0<500001:=λi hi=>by have:=ht _ (getD_mem (show i<ts.length by omega));omega
   walk_at "r";rw [toNat_natCast]
   refine⟨λk ρ=>∃(M:List (List Int)) (y:List Int) (v7 v8 v9 v10 v11 v12:Option PV),M.length=k/\(∀i,i<k->(M.getD i []).length=n/\∀j,j<n->oQ js gs ts i j (at2 M i j))/\Dk y/\y.length+k*n=y4.length/\ρ=[some (.own (y.map .int)),some (.dat (.int (n:Int))),some (.dat (.int s)),some (.own (gs.map .int)),some (.own (ts.map .int)),some (.dat (.lst (js.map nD))),some (.own (M.map cS)),v7,v8,v9,v10,v11,v12],⟨[],y4,_,_,_,_,_,_,rfl,(λi hi=>absurd hi (HZ _)),hd4,by omega,rfl⟩,?_,?_⟩
   .rintro k ρ _ hk rfl ⟨M,y5,v7,v8,v9,v10,v11,v12,hMl,hM,hd5,hy5,rfl⟩
    have kn2:k*n+n<=n*n:=by
     have:=Jl n (show k+1<=n by omega);rw [succ_mul] at this;exact this
    have kn:k*n+n<=1600:=by
     have:(k+1)*n<=40*40:=JR (by omega) (by omega);rw [succ_mul] at this;exact this
    walk_at "r";rw [toNat_natCast]
    refine⟨λj ρ=>∃(r y:List Int) (v9 v10 v11 v12:Option PV),r.length=j/\(∀j',j'<j->oQ js gs ts k j' (r.getD j' 0))/\Dk y/\y.length+j=y5.length/\ρ=[some (.own (y.map .int)),some (.dat (.int (n:Int))),some (.dat (.int s)),some (.own (gs.map .int)),some (.own (ts.map .int)),some (.dat (.lst (js.map nD))),some (.own (M.map cS)),some (.dat (.int (k:Int))),some (.own (r.map .int)),v9,v10,v11,v12],⟨[],y5,_,_,_,_,rfl,(λi hi=>absurd hi (HZ _)),hd5,rfl,rfl⟩,?_,?_⟩
    .rintro j ρ _ hj rfl ⟨r,y,v9,v10,v11,v12,hrl,hr,hdy,hyl,rfl⟩;have g5:Dk y/\0<y.length/\y.length<=100000:=⟨hdy,by omega,by omega⟩
     have hrm:(r.map D.int).length=r.length:=length_map _;walk_at "r";rintro w y6 hw0 hw1 hd6 hy6;walk_at "r";refine⟨_,eP (by omega),?_⟩;walk_at "r";refine⟨_,eP (by omega),?_⟩;walk_at "r";refine⟨_,y9 (by omega),?_⟩;have b0:0<=gs.getD k 0+ts.getD j 0:=by have:=hgi k (by omega);have:=hti j (by omega);omega
     have b1:gs.getD k 0+ts.getD j 0<=1000002:=by have:=hgi k (by omega);have:=hti j (by omega);omega
     have p0:0<=w % 3*(w / 3 % s):=mul_nonneg (by omega) (Iw _ (by omega))
     have sp0:0<=(if gs.getD k 0+ts.getD j 0<w % 3*(w / 3 % s) then gs.getD k 0+ts.getD j 0 else w % 3*(w / 3 % s))/\(if gs.getD k 0+ts.getD j 0<w % 3*(w / 3 % s) then gs.getD k 0+ts.getD j 0 else w % 3*(w / 3 % s))<=gs.getD k 0+ts.getD j 0:=by
      split
      .exact⟨b0,Iv _⟩
      .exact⟨p0,by omega⟩
     generalize (if gs.getD k 0+ts.getD j 0<w % 3*(w / 3 % s) then gs.getD k 0+ts.getD j 0 else w % 3*(w / 3 % s))=sp at sp0 ⊢;walk_at "r"
     have cok:oQ js gs ts k j (gs.getD k 0+ts.getD j 0 - sp*if (!decide (((js.getD k 0:Nat):Int)=(j:Int)))=true then 1 else 0):=by
      by_cases e:js.getD k 0=j
      .rw [decide_eq_true (show ((js.getD k 0:Nat):Int)=(j:Int) by omega)];show oQ js gs ts k j (gs.getD k 0+ts.getD j 0 - sp*0);rw [mul_zero,sub_zero];exact⟨b0,Iv _,λ_=>rfl⟩
      .rw [decide_eq_false (show ¬ ((js.getD k 0:Nat):Int)=(j:Int) by omega)];show oQ js gs ts k j (gs.getD k 0+ts.getD j 0 - sp*1);rw [mul_one];exact⟨by omega,by omega,λz=>absurd z e⟩
     refine⟨r++[_],y6,_,_,_,_,by rw [length_append,hrl];rfl,λj' hj'=>?_,hd6,by omega,by rw [map_append];rfl⟩
     by_cases e:j'<j
     .rw [rX (by omega)];exact hr j' e
     .have e2:j'=j:=by omega
      rw [oO (by omega),e2];exact cok
    .rintro ρ ⟨r,y,v9,v10,v11,v12,hrl,hr,hdy,hyl,rfl⟩;have hMm:(M.map cS).length=M.length:=length_map _;walk_at "r";refine⟨M++[r],y,_,_,_,_,_,_,by rw [length_append,hMl];rfl,λi hi=>?_,hdy,by rw [succ_mul];omega,by rw [map_append];rfl⟩
     by_cases e:i<k
     .unfold at2;rw [rX (by omega)];exact hM i e
     .have e:i=M.length:=by omega
      unfold at2;rw [oO e];refine⟨hrl,λj hj=>?_⟩;rw [e,hMl];exact hr j hj
   .rintro ρ ⟨M,y5,v7,v8,v9,v10,v11,v12,hMl,hM,hd5,hy5,rfl⟩;walk_at "r";exact q M js gs ts y5 ⟨hpj,hMl,hgl,htl,λi hi=>(hM i hi).1,hgi,hti,λi j hi hj=>⟨((hM i hi).2 j hj).1,((hM i hi).2 j hj).2.1⟩,λi hi=>((hM i hi).2 _ (hjm i hi)).2.2 rfl⟩ hd5 (by omega) (by omega)
noncomputable def jz(K:b_)(mg:Str->Option Value)(t:TxX K mg):=(have TX:=t;show LS K [] _ _ from (au (dM (iz (aa (ac (bz bW (aa (am (i:=0)) ae))) ae)) (az (i:=4) rfl) (au (aC (ap bg (am (i:=1)) (am (i:=4))) (ay (i:=5) rfl)) (au (bU (gz (iX (ap uG (ac (ap bg (am (i:=2)) (am (i:=4)))) (ac (le_int (i:=0))))) (gz (iX (ap uG (ac (ap bg (am (i:=3)) (am (i:=4)))) (ac (le_int (i:=0))))) (iX (ap fV (ac (ap aV (ac (ap bg (am (i:=2)) (am (i:=4)))) (ac (ap bg (am (i:=3)) (am (i:=5)))))) (ac (ap bg (ac (ap bg (am (i:=0)) (am (i:=4)))) (am (i:=5)))))))) (aR (eY (i:=false))) aJ) (dM (iz (aa (ac (bz bW (aa (am (i:=0)) ae))) ae)) (az (i:=5) rfl) (bU (iX (ap uG (ac (ap aV (ac (ap bg (am (i:=2)) (am (i:=4)))) (ac (ap bg (am (i:=3)) (am (i:=5)))))) (ac (ap bg (ac (ap bg (am (i:=0)) (am (i:=4)))) (am (i:=5)))))) (aR (eY (i:=false))) aJ))))) (aR (eY (i:=true)))))
def pd:PTS:=psO jz
def pq:PRl f8 pd 6 4:=λ_ Q h=>AQ h λrs _ h=>Ea h λfs _ h=>Ea h λga _ h=>Ea h λta _ h=>jY h λh=>Hr rfl <| by
 walk_at "z";obtain⟨M,rfl,js,rfl,gs,rfl,ts,rfl,n,⟨⟨hn,lM,lj,lg,lt⟩,hr⟩,q⟩:=h;have hMm:(M.map cS).length=n:=by rw [length_map,lM]
 walk_at "r";rw [toNat_natCast,hMm]
 refine⟨λk ρ=>(∃v4 v5:Option PV,ρ=[some (.dat (.lst (M.map cS))),some (.dat (.tup (js.map nD))),some (.dat (.tup (gs.map .int))),some (.dat (.tup (ts.map .int))),v4,v5])/\∀i,i<k->rOk M js gs ts n i,⟨⟨_,_,rfl⟩,λi hi=>absurd hi (HZ _)⟩,?_,?_⟩
 .rintro k ρ _ hk rfl ⟨⟨v4,v5,rfl⟩,ih⟩;obtain⟨r1,r2⟩:=hr k hk;have no:¬ rOk M js gs ts n k->Q (.dat (.bl false)):=λz=>by rw [xY hk z] at q;exact q
  walk_at "r";refine⟨_,y9 (by omega),?_⟩;walk_at "r";refine⟨_,eP (by omega),?_⟩;walk_at "r"
  refine iw (λc1=>?_) (λc1=>?_)
  .walk_at "r";exact no λz=>by have:=z.1;omega
  .walk_at "r";refine⟨_,eP (by omega),?_⟩;walk_at "r"
   refine iw (λc2=>?_) (λc2=>?_)
   .walk_at "r";exact no λz=>by have:=z.2.1;omega
   .walk_at "r";refine⟨_,eP (by omega),?_⟩;walk_at "r";refine⟨_,eP (by omega),?_⟩;walk_at "r";refine⟨_,vX (by omega),?_⟩;walk_at "r";refine⟨_,eP (by omega),?_⟩;walk_at "r"
    refine sF (λc3=>?_) (λc3=>?_)
    .walk_at "r";exact no λz=>c3 z.2.2.1
    .walk_at "r";rw [toNat_natCast,hMm]
     refine⟨λj ρ=>(∃v5:Option PV,ρ=[some (.dat (.lst (M.map cS))),some (.dat (.tup (js.map nD))),some (.dat (.tup (gs.map .int))),some (.dat (.tup (ts.map .int))),some (.dat (.int (k:Int))),v5])/\∀j',j'<j->¬ gs.getD k 0+ts.getD j' 0<at2 M k j',⟨⟨_,rfl⟩,λi hi=>absurd hi (HZ _)⟩,?_,?_⟩
     .rintro j ρ _ hj rfl ⟨⟨v5,rfl⟩,ij⟩;walk_at "r";refine⟨_,eP (by omega),?_⟩;walk_at "r";refine⟨_,eP (by omega),?_⟩;walk_at "r";refine⟨_,vX (by omega),?_⟩;walk_at "r";refine⟨_,eP (by omega),?_⟩;walk_at "r"
      refine iw (λc4=>?_) (λc4=>?_)
      .walk_at "r";exact no λz=>z.2.2.2 j hj c4
      .refine⟨⟨_,rfl⟩,λj' hj'=>?_⟩
       by_cases e:j'<j
       .exact ij j' e
       .rw [show j'=j by omega];exact c4
     .rintro ρ ⟨⟨v5,rfl⟩,ij⟩;refine⟨⟨_,_,rfl⟩,λi hi=>?_⟩
      by_cases e:i<k
      .exact ih i e
      .rw [show i=k by omega];exact⟨by omega,by omega,c3,ij⟩
 .rintro ρ ⟨⟨v4,v5,rfl⟩,ih⟩;walk_at "r";rw [oS ih] at q;exact q
noncomputable def mh(K:b_)(mg:Str->Option Value)(t:TxX K mg):=(have TX:=t;show LS K [] _ _ from (au (aC (bu (aa (ac (bu ae)) ae)) (ay (i:=1) rfl)) (au (dM (iz (aa (ac (ar (i:=0))) ae)) (az (i:=2) rfl) (au (aC (bu ae) (ay (i:=3) rfl)) (au (dM (cO (ar (i:=1))) (az (i:=4) rfl) (dM (iz (aa (ac (ar (i:=0))) ae)) (az (i:=5) rfl) (bU (iX (ap (Df (neg:=true)) (am (i:=5)) (am (i:=4)))) (gX (l0 (i:=3) (ap aV (am (i:=4)) (ac (bu (aa (ac (ar (i:=5))) ae)))))) aJ))) (aC (ar (i:=3)) (ay (i:=1) rfl))))) (aR (ar (i:=1))))))
def tz:PTS:=psO mh
def tD:PRl jh tz 6 1:=λ_ Q h=>sS h λm _ h=>jY h λh=>Hr rfl <| by
 walk_at "z";obtain⟨n,rfl,hn,q⟩:=h;walk_at "r";rw [toNat_natCast]
 refine⟨λk ρ=>∃(L:List (List Nat)) (w:PV) (v2 v3 v4 v5:Option PV),(∀o∈L,xZ n k o)/\L.length<=n^k/\(w=.own (L.map λo=>.lst (o.map nD))\/w=.dat (.lst (L.map λo=>.lst (o.map nD))))/\ρ=[some (.dat (.int (n:Int))),some w,v2,v3,v4,v5],⟨[[]],_,_,_,_,_,(λo ho=>by rw [vx.mp ho];exact⟨rfl,nodup_nil,λx hx=>nomatch hx⟩),g_ _,.inl rfl,rfl⟩,?_,?_⟩
 .rintro k ρ _ hk rfl ⟨L,w,v2,v3,v4,v5,hL,hl,hw,rfl⟩
  have hp:n^k*n<=3125:=by
   have h1:n^(k+1)<=5^(k+1):=pow_le_pow_left hn _;have h2:5^(k+1)<=5^5:=pow_le_pow_right (by decide) (by omega);rw [pow_succ] at h1;exact HP h1 h2
  rcases hw with rfl|rfl <;> (
   walk_at "r";have hLm:(L.map λo=>D.lst (o.map nD)).length=L.length:=length_map _
   refine⟨λi ρ=>∃(S:List (List Nat)) (v4 v5:Option PV),(∀o∈S,xZ n (k+1) o)/\S.length<=i*n/\ρ=[some (.dat (.int (n:Int))),some (.dat (.lst (L.map λo=>.lst (o.map nD)))),some (.dat (.int (k:Int))),some (.own (S.map λo=>.lst (o.map nD))),v4,v5],⟨[],_,_,(λo ho=>nomatch ho),Jm _,rfl⟩,?_,?_⟩
   .rintro i ρ d hi ed ⟨S,v4,v5,hS,hs,rfl⟩;rw [hLm] at hi;obtain⟨o,ho,rfl⟩:∃o,o∈L/\d=.lst (o.map nD):=⟨L[i],Iu hi,by rw [ed];unfold itD;rw [e_,i_,d_ hi];rfl⟩
    have hO:=hL o ho;clear ed
    have hin:i*n+n<=3125:=by
     have:(i+1)*n<=n^k*n:=Jl n (HP hi hl);rw [succ_mul] at this;omega
    walk_at "r";rw [toNat_natCast]
    refine⟨λj ρ=>∃(S:List (List Nat)) (v5:Option PV),(∀o∈S,xZ n (k+1) o)/\S.length<=i*n+j/\ρ=[some (.dat (.int (n:Int))),some (.dat (.lst (L.map λo=>.lst (o.map nD)))),some (.dat (.int (k:Int))),some (.own (S.map λo=>.lst (o.map nD))),some (.dat (.lst (o.map nD))),v5],⟨S,_,hS,hs,rfl⟩,?_,?_⟩
    .rintro j ρ _ hj rfl ⟨S,v5,hS,hs,rfl⟩;have hSm:(S.map λo=>D.lst (o.map nD)).length=S.length:=length_map _;walk_at "r";refine⟨⟨rfl,all_eq_true.mpr λx hx=>by obtain⟨y,_,rfl⟩:=Hx.mp hx;rfl⟩,?_⟩;rw [yD]
     refine kj (λc=>?_) (λc=>?_)
     .have c:j∉o:=λz=>by rw [decide_eq_true z] at c;cases c
      have ol:(o.map nD).length+[D.int (j:Int)].length<=1000000:=by rw [length_map,hO.len];show k+1<=_;omega
      walk_at "r"
      exact⟨S++[o++[j]],_,λy hy=>by
       rcases HA.mp hy with z|z
       .exact hS y z
       .rw [vx.mp z];exact hO.add hj c,by rw [length_append];show S.length+1<=_;omega,by rw [map_append,map_cons,map_nil,map_append];rfl⟩
     .walk_at "r";exact⟨S,_,hS,by omega,rfl⟩
    .rintro ρ ⟨S,v5,hS,hs,rfl⟩;exact⟨S,_,_,hS,by rw [succ_mul];exact hs,rfl⟩
   .rintro ρ ⟨S,v4,v5,hS,hs,rfl⟩;rw [hLm] at hs;walk_at "r";exact⟨S,_,_,_,_,_,hS,by rw [pow_succ];exact HP hs (Jl n hl),.inr rfl,rfl⟩
   )
 .rintro ρ ⟨L,w,v2,v3,v4,v5,hL,hl,hw,rfl⟩
  rcases hw with rfl|rfl <;> (
   walk_at "r";refine q L hL (HP hl ?_);exact HP (pow_le_pow_left hn n) (pow_le_pow_right (by decide) hn)
   )
noncomputable def k8:PTS:=(fk (gA (pC (.str [])) (cK 1)) (fk (dL (pL (pB (pM xcs "TooMany" (pSl 0))) (gA (pOp gB (pSl 1) (pFz (pC (.str [84,111,111,77,97,110,121,32])))) (cK 1)) dJ)) (fk (dL (pL (pB (pM xcs "NoPiece" (pSl 0))) (gA (pOp gB (pSl 1) (pFz (pC (.str [78,111,80,105,101,99,101,32])))) (cK 1)) dJ)) (fk (dL (pL (pB (pM xcs "NoLap" (pSl 0))) (gA (pOp gB (pSl 1) (pFz (pC (.str [78,111,76,97,112,32])))) (cK 1)) dJ)) (fk (dL (pL (pB (pM xcs "NoOrder" (pSl 0))) (gA (pOp gB (pSl 1) (pFz (pC (.str [78,111,79,114,100,101,114,32])))) (cK 1)) dJ)) (fk (dL (pL (pB (pM xcs "NotHeld" (pSl 0))) (gA (pOp gB (pSl 1) (pFz (pC (.str [78,111,116,72,101,108,100,32])))) (cK 1)) dJ)) (fk (dL (pL (pB (pM xcs "NoTable" (pSl 0))) (gA (pOp gB (pSl 1) (pFz (pC (.str [78,111,84,97,98,108,101,32])))) (cK 1)) dJ)) (fk (dL (pL (pB (pM xcs "NoRing" (pSl 0))) (gA (pOp gB (pSl 1) (pFz (pC (.str [78,111,82,105,110,103,32])))) (cK 1)) dJ)) (fk (dL (pL (pB (pM xcs "TooGreat" (pSl 0))) (gA (pOp gB (pSl 1) (pFz (pC (.str [84,111,111,71,114,101,97,116,32])))) (cK 1)) dJ)) (fk (dL (pL (pB (pM xcs "NoWords" (pSl 0))) (gA (pOp gB (pSl 1) (pFz (pC (.str [78,111,87,111,114,100,115,32])))) (cK 1)) dJ)) (fk (dL (pL (pB (pM xcs "NotApart" (pSl 0))) (gA (pOp gB (pSl 1) (pFz (pC (.str [78,111,116,65,112,97,114,116,32])))) (cK 1)) dJ)) (fk (dL (pL (pB (pM xcs "NoCounts" (pSl 0))) (gA (pOp gB (pSl 1) (pFz (pC (.str [78,111,67,111,117,110,116,115,32])))) (cK 1)) dJ)) (fk (dL (pL (pB (pM xcs "NotCovered" (pSl 0))) (gA (pOp gB (pSl 1) (pFz (pC (.str [78,111,116,67,111,118,101,114,101,100,32])))) (cK 1)) dJ)) (fk (dL (pL (pOr (pB (pM xcs "NoLine" (pSl 0))) (pOr (pB (pM xcs "NoPaper" (pSl 0))) (pB (pM xcs "NotTold" (pSl 0))))) (gA (pOp gB (pSl 1) (pFz (pC (.str [111,116,104,101,114,32])))) (cK 1)) dJ)) (fk (dL (pL (Gb (pB (Gv xcs (pSl 0)))) (gA (pOp gB (pSl 1) (pFz (pC (.str [110,111,110,101])))) (cK 1)) dJ)) (Cw (EN 1)))))))))))))))))
def il:PRl dW k8 2 1:=λ_ Q h=>Hd h λc ns ds _ h=>jY h λh=>Hr rfl <| by
 walk_at "z";obtain⟨rfl,q⟩:=h;have a1:lw "NoTable" "TooMany"=false:=by decide +kernel
 have a2:lw "NoTable" "NoPiece"=false:=by decide +kernel
 have a3:lw "NoTable" "NoLap"=false:=by decide +kernel
 have a4:lw "NoTable" "NoOrder"=false:=by decide +kernel
 have a5:lw "NoTable" "NotHeld"=false:=by decide +kernel
 have a6:lw "NoTable" "NoTable"=true:=by decide +kernel
 have a7:lw "NoTable" "NoRing"=false:=by decide +kernel
 have a8:lw "NoTable" "TooGreat"=false:=by decide +kernel
 have a9:lw "NoTable" "NoWords"=false:=by decide +kernel
 have b1:lw "NoTable" "NotApart"=false:=by decide +kernel
 have b2:lw "NoTable" "NoCounts"=false:=by decide +kernel
 have b3:lw "NoTable" "NotCovered"=false:=by decide +kernel
 have b4:lw "NoTable" "NoLine"=false:=by decide +kernel
 have b5:lw "NoTable" "NoPaper"=false:=by decide +kernel
 have b6:lw "NoTable" "NotTold"=false:=by decide +kernel
 walk_at "r"
 iterate 5
  refine⟨λρ=>ρ=[some (.dat (.exc "NoTable" ns ds)),some (.dat (.str []))],?_,?_⟩
  .first|(walk_at "r";done)|(walk_at "r";rfl)
  rintro ρ rfl;walk_at "r"
 iterate 9
  refine⟨λρ=>ρ=[some (.dat (.exc "NoTable" ns ds)),some (.dat (.str [78,111,84,97,98,108,101,32]))],?_,?_⟩
  .first|(walk_at "r";done)|(walk_at "r";rfl)
  rintro ρ rfl;walk_at "r"
 exact q
noncomputable def jA(K:b_)(mg:Str->Option Value)(t:TxX K mg):=(have TX:=t;show LS K [0] _ _ from (au (aC (ap bg (ac (bu (aa (ac (le_int (i:=2))) (aa (ac (le_int (i:=3))) (aa (ac (le_int (i:=10))) (aa (ac (le_int (i:=1000001))) ae)))))) (ac (ap b9 (ac (bB (c:=aH) (i:=0) ae)) (ac (le_int (i:=4)))))) (ay (i:=2) rfl)) (aR (bR (ix:=[none,some 2,some 0,some 1]) rfl (iz (aa (ac (ar (i:=1))) ae)) (λfs hc=>(az (i:=0) (kq hc (by decide)))) cm (bR (ix:=[none,some 1,some 2]) rfl (iz (aa (ac (ar (i:=3))) ae)) (λfs hc=>(az (i:=0) (kq hc (by decide)))) cm (ap b9 (ac (bB (c:=aH) (i:=2) ae)) (am (i:=1))))))))
def pu:PTS:=psO jA
def pw:RRl f9 pu 3 2:=λ_ _ Q h=>Do h λds h=>sS h λm _ h=>jY h λh=>Hr rfl <| by
 walk_at "z";obtain⟨zs,rfl,n,rfl,⟨hz,h0,h1,hm⟩,q⟩:=h;have g0:Dk zs/\0<zs.length/\zs.length<=100000:=⟨hz,by omega,by omega⟩
 walk_at "r";rintro z y1 hz0 hz1 hd1 hy1
 have hsz:∃s:Int,atI [D.int 2,D.int 3,D.int 10,D.int 1000001] (z % 4)=some (.int s)/\0<s/\s<=1000001:=by
  rcases (show z % 4=0\/z % 4=1\/z % 4=2\/z % 4=3 by omega) with h|h|h|h <;> rw [h]
  .exact⟨2,rfl,by decide,by decide⟩
  .exact⟨3,rfl,by decide,by decide⟩
  .exact⟨10,rfl,by decide,by decide⟩
  .exact⟨1000001,rfl,by decide,by decide⟩
 obtain⟨s,es,hs0,hs1⟩:=hsz;walk_at "r";refine⟨_,es,?_⟩;walk_at "r";rw [toNat_natCast]
 refine⟨λk rs τ=>∃(v:Option PV) (M:List (List Int)) (y:List Int),τ=[v,some (.dat (.int s)),some (.own (y.map .int)),some (.dat (.int (n:Int)))]/\rs=M.map cS/\M.length=k/\(∀r∈M,r.length=n/\∀z∈r,0<=z/\z<1000001)/\Dk y/\y.length+k*n=y1.length,⟨none,[],y1,rfl,rfl,rfl,(λr hr=>nomatch hr),hd1,by omega⟩,?_,?_⟩
 .rintro k rs τ _ hk rfl ⟨v,M,y,rfl,rfl,hMl,hM,hdy,hyl⟩
  have hkn:k*n+n<=n*n:=by
   have:=Jl n (show k+1<=n from hk);rw [succ_mul] at this;exact this
  walk_at "r";rw [toNat_natCast]
  refine⟨λk2 ws τ=>∃(v:Option PV) (w y2:List Int),τ=[v,some (.dat (.int s)),some (.own (y2.map .int))]/\ws=w.map .int/\w.length=k2/\(∀z∈w,0<=z/\z<1000001)/\Dk y2/\y2.length+k2=y.length,⟨none,[],y,rfl,rfl,rfl,(λr hr=>nomatch hr),hdy,rfl⟩,?_,?_⟩
  .rintro k2 ws τ _ hk2 rfl ⟨v,w,y2,rfl,rfl,hwl,hw,hd2,hy2⟩;have g1:Dk y2/\0<y2.length/\y2.length<=100000:=⟨hd2,by omega,by omega⟩
   walk_at "r";rintro z2 y3 hz20 hz21 hd3 hy3;walk_at "r";refine⟨_,w++[z2 % s],y3,rfl,by rw [map_append];rfl,by rw [length_append,hwl];rfl,λx h=>?_,hd3,by omega⟩
   rcases HA.mp h with h|h
   .exact hw x h
   .rw [vx.mp h];have:=Iw z2 (show s≠0 by omega);have:=HY z2 hs0;exact⟨by omega,by omega⟩
  .rintro ws τ ⟨v,w,y2,rfl,rfl,hwl,hw,hd2,hy2⟩;refine⟨_,M++[w],y2,rfl,by rw [map_append];rfl,by rw [length_append,hMl];rfl,λr hr=>?_,hd2,by rw [succ_mul];omega⟩
   rcases HA.mp hr with h|h
   .exact hM r h
   .rw [vx.mp h];exact⟨hwl,hw⟩
 .rintro rs τ ⟨v,M,y,rfl,rfl,hMl,hM,hdy,hyl⟩;walk_at "r";exact q M y hMl hM hdy (by omega)
noncomputable def jB(K:b_)(mg:Str->Option Value)(t:TxX K mg):=(have TX:=t;show LS K [0] _ _ from (au (bU (iX (ap fU (ac (ap b9 (ac (bB (c:=aH) (i:=0) ae)) (ac (le_int (i:=2))))) (ac (le_int (i:=0))))) (aR (yF (bB (c:=f9) (i:=0) (aa (ac (ar (i:=1))) ae)))) aJ) (aR (yF (ap bg (ac (bB (c:=h7) (i:=0) (aa (ac (ar (i:=1))) ae))) (ac (le_int (i:=0))))))))
def pA:PTS:=psO jB
def pD:RRl eC pA 2 2:=λ_ _ Q h=>Do h λds h=>sS h λm _ h=>jY h λh=>Hr rfl <| by
 walk_at "z";obtain⟨zs,rfl,n,rfl,⟨hz,h0,h1,hm⟩,q⟩:=h;have g0:Dk zs/\0<zs.length/\zs.length<=100000:=⟨hz,by omega,by omega⟩
 walk_at "r";rintro z y1 hz0 hz1 hd1 hy1;have g1:Dk y1/\n*n+1<=y1.length/\y1.length<=10000/\n<=20:=⟨hd1,by omega,by omega,hm⟩
 have g2:Dk y1/\(n:Int).toNat*(n:Int).toNat+3*(n:Int).toNat+1<=y1.length/\y1.length<=10000/\0<=(n:Int)/\(n:Int)<=40:=⟨hd1,by rw [toNat_natCast];omega,by omega,by omega,by omega⟩
 walk_at "r"
 refine iw (λc=>?_) (λc=>?_)
 .walk_at "r";rintro M ys hMl hM hdy hyl;walk_at "r";exact q M ys hMl (λr hr=>⟨(hM r hr).1,λz hz=>⟨((hM r hr).2 z hz).1,by have:=((hM r hr).2 z hz).2;omega⟩⟩) hdy (by omega) (by omega)
 .walk_at "r";rintro M js gs ts ys gd hdy hyl hyl2;rw [toNat_natCast] at hyl;walk_at "r";exact q M ys gd.lm (vY gd) hdy (by omega) (by omega)
noncomputable def k9(K:b_)(mg:Str->Option Value)(t:TxX K mg):=(have TX:=t;show LS K [] _ _ from (au (aC (le_int (i:=0)) (ay (i:=2) rfl)) (au (dM (iz (aa (ac (bz bW (aa (am (i:=1)) ae))) ae)) (az (i:=3) rfl) (aC (ap aV (am (i:=2)) (ac (ap bg (ac (ap bg (am (i:=0)) (am (i:=3)))) (ac (ap bg (am (i:=1)) (am (i:=3))))))) (ay (i:=2) rfl))) (aR (ar (i:=2))))))
def qJ:PTS:=psO k9
def qK:PRl fH qJ 4 2:=λ_ Q h=>AQ h λds _ h=>rR h λe _ h=>jY h λh=>Hr rfl <| by
 walk_at "z";obtain⟨M,rfl,js,he,⟨hl,hn,hM,hj⟩,q⟩:=h;have jm:(js.map nD).length=js.length:=length_map _;rcases he with rfl|rfl
 all_goals
  walk_at "r"
  refine⟨λk ρ=>∃v3:Option PV,ρ=[some (.dat (.lst (M.map cS))),some (.dat _),some (.dat (.int (ic M js k))),v3],⟨_,rfl⟩,?_,?_⟩
  .rintro k ρ _ hk rfl ⟨v3,rfl⟩;have hk:k<M.length:=by rw [jm,toNat_natCast] at hk;omega
   have hjk:js.getD k 0<M.length:=hj _ (B_ (show js[k]?=some (js.getD k 0) by rw [e_,d_ (by omega)];rfl));have bb:=oV (js:=js) (λr hr=>(hM r hr).2) k;have cb:=oU (λr hr=>(hM r hr).2) k (js.getD k 0);have hr:js.getD k 0<(M.getD k []).length:=by rw [(hM _ (gDm hk)).1];exact hjk
   walk_at "r";refine⟨_,atK (d:=[]) hk,?_⟩;walk_at "r";refine⟨_,atK (f:=nD) (d:=0) (by omega),?_⟩;walk_at "r";refine⟨_,atK (f:=D.int) (d:=0) hr,?_⟩;walk_at "r";rw [<- me];exact⟨_,rfl⟩
  .rintro ρ ⟨v3,rfl⟩;rw [jm,toNat_natCast,hl];walk_at "r";exact q
noncomputable def gI(K:b_)(mg:Str->Option Value)(t:TxX K mg):=(have TX:=t;show LS K [] _ _ from (au (bU (gz (dA (gy (lY .tuple (am (i:=1))))) (iX (ap fV (ac (bz bW (aa (am (i:=1)) ae))) (ac (le_int (i:=3)))))) (aR (eY (i:=false))) aJ) (au (dM (cO (ar (i:=1))) (az (i:=2) rfl) (bU (gz (dA (gy (lY .tuple (am (i:=2))))) (gz (iX (ap fV (ac (bz bW (aa (am (i:=2)) ae))) (ac (bz bW (aa (am (i:=0)) ae))))) (iX (ap fV (ac (bR (ix:=[none]) rfl (cO (ar (i:=2))) (λfs hc=>(az (i:=0) (kq hc (by decide)))) (dA (gy (aM (c:=eB) (aa (ac (ar (i:=0))) ae)))) (ar (i:=0)))) (ac (bu ae)))))) (aR (eY (i:=false))) aJ)) (au (bU (gz (iX (ap fV (ac (bz rD (aa (ac (ap bg (am (i:=1)) (ac (le_int (i:=0))))) ae))) (ac (jV false (aa (ac (bz bW (aa (am (i:=0)) ae))) ae))))) (dA (gy (aM (c:=f8) (aa (ac (ar (i:=0))) (aa (ac (ap bg (am (i:=1)) (ac (le_int (i:=0))))) (aa (ac (ap bg (am (i:=1)) (ac (le_int (i:=1))))) (aa (ac (ap bg (am (i:=1)) (ac (le_int (i:=2))))) ae)))))))) (aR (eY (i:=false))) aJ) (au (bU (iX (ap zT (ac (bz bW (aa (am (i:=0)) ae))) (ac (le_int (i:=5))))) (aR (eY (i:=true))) aJ) (au (aC (aM (c:=fH) (aa (ac (ar (i:=0))) (aa (ac (ap bg (am (i:=1)) (ac (le_int (i:=0))))) ae))) (ay (i:=3) rfl)) (au (dM (cO (aM (c:=jh) (aa (ac (bz bW (aa (am (i:=0)) ae))) ae))) (az (i:=4) rfl) (bU (iX (ap zT (ac (aM (c:=fH) (aa (ac (ar (i:=0))) (aa (ac (ar (i:=4))) ae)))) (am (i:=3)))) (aR (eY (i:=false))) aJ)) (aR (eY (i:=true))))))))))
def lQ:PTS:=psO gI
def lR:PRl di lQ 5 2:=λ_ Q h=>AQ h λds _ h=>Ea h λes _ h=>jY h λh=>Hr rfl <| by
 walk_at "z";obtain⟨M,rfl,js,gs,ts,rfl,n,⟨⟨hn,lM,lg,lt⟩,hr,hp,hb⟩,q⟩:=h;walk_at "r";have lj:js.length=n:=by rw [hp.length_eq,length_range]
 have jm:(js.map nD).length=n:=by rw [length_map,lj]
 have gm:(gs.map D.int).length=n:=by rw [length_map,lg]
 have tm:(ts.map D.int).length=n:=by rw [length_map,lt]
 have Mm:(M.map cS).length=n:=by rw [length_map,lM]
 refine⟨λk ρ=>∃v2:Option PV,ρ=[some (.dat (.lst (M.map cS))),some (.dat (.tup [.tup (js.map nD),.tup (gs.map .int),.tup (ts.map .int)])),v2,none,none],⟨_,rfl⟩,?_,?_⟩
 .rintro k ρ d hk ed ⟨v2,rfl⟩
  obtain⟨zs,ez,lz⟩:∃zs:List Int,d=.tup (zs.map .int)/\zs.length=n:=by
   match k,hk with
   | 0,_=>exact⟨js.map λj=>((j:Nat):Int),by rw [ed,<- jg];rfl,by rw [length_map,lj]⟩
   | 1,_=>exact⟨gs,ed,lg⟩
   | 2,_=>exact⟨ts,ed,lt⟩
  subst ez;clear ed hk;have zm:(zs.map D.int).length=n:=by rw [length_map,lz]
  walk_at "r"
  refine cf1 (λ_:Int=>false) (λz:Int=>.int z) (λz hz v K1 K2 k1 k2=>?_) (λv=>?_)
  .walk_at "r";exact k2 _ rfl
  .rw [show zs.filter (λ_=>false)=[] from filter_eq_nil_iff.mpr λ_ _ z=>by cases z];walk_at "r";exact⟨_,rfl⟩
 .rintro ρ ⟨v2,rfl⟩;walk_at "r";refine⟨js.map λj=>((j:Nat):Int),(jg js),by rw [length_map];omega,λns' g1 g2=>?_⟩;have e:ns'=lF n:=KM (λx y _ _ h1 h2=>by omega) g2 (kB _) (g1.trans (hp.map _));subst e;have hr2:n8 0 ((((M.map cS).length:Nat):Int)).toNat=(lF n).map D.int:=by rw [toNat_natCast,Mm,kA]
  have rl:(lF n).length=n:=by unfold lF;rw [length_map,length_range]
  have qe:rk (D.lst ((lF n).map D.int)) (D.lst ((lF n).map D.int)):=rk.of (Sh.lstI _) (Sh.lstI _);have qd:deq (D.lst ((lF n).map D.int)) (D.lst ((lF n).map D.int))=true:=mM (Sh.lstI _);have M40:(M.map cS).length<=1000:=by omega
  walk_at "r";rw [hr2,qd];refine⟨qe,?_⟩;walk_at "r";have jlt:∀i,i<n->js.getD i 0<n:=λi hi=>Hl.mp (hp.mem_iff.mp (gDm (by omega)));refine⟨n,⟨⟨by omega,lM,lj,lg,lt⟩,λi hi=>⟨(hr _ (gDm (by omega))).1,jlt i hi⟩⟩,?_⟩;rw [hb];walk_at "r"
  refine iw (λc=>?_) (λc=>?_)
  .walk_at "r";exact q
  .have cond:∀js':List Nat,js'.Perm (gV n)->js'.length=M.length/\M.length<=40/\(∀r∈M,r.length=M.length/\∀z∈r,-1000000<=z/\z<=1000000)/\∀j∈js',j<M.length:=λjs' hp' =>
    ⟨by rw [hp'.length_eq,length_range,lM],by omega,λr h=>⟨by rw [lM];exact (hr r h).1,λz hz=>⟨by have:=((hr r h).2 z hz).1;omega,((hr r h).2 z hz).2⟩⟩,λj hj=>by rw [lM];exact Hl.mp (hp'.mem_iff.mp hj)⟩
   walk_at "r";refine⟨cond js hp,?_⟩;rw [lM];walk_at "r";intro L hL hl;rw [Mm] at hL;have Lm:(L.map λo=>D.lst (o.map nD)).length=L.length:=length_map _;walk_at "r"
   refine⟨λk ρ=>∃v4:Option PV,ρ=[some (.dat (.lst (M.map cS))),some (.dat (.tup [.tup (js.map nD),.tup (gs.map .int),.tup (ts.map .int)])),v2,some (.dat (.int (ic M js n))),v4],⟨_,rfl⟩,?_,?_⟩
   .rintro k ρ d hk ed ⟨v4,rfl⟩;rw [Lm] at hk;obtain⟨o,ho,rfl⟩:∃o,o∈L/\d=.lst (o.map nD):=⟨L[k],Iu hk,by rw [ed];unfold itD;rw [e_,i_,d_ hk];rfl⟩
    have hO:=(hL o ho).perm;have hle:=vZ hp hO hb;clear ed;walk_at "r";refine⟨cond o hO,?_⟩;rw [lM];walk_at "r";exact⟨_,rfl⟩
   .rintro ρ ⟨v4,rfl⟩;walk_at "r";exact q
noncomputable def gJ(K:b_)(mg:Str->Option Value)(t:TxX K mg):=(have TX:=t;show LS K [] _ _ from (au (C9 (c:=bA) (aa (ac (ar (i:=0))) ae) (Fq (c0:="GlueError") (i:=1) TX.all (by first|exact Jb rfl|exact Iq (t_.mp (by decide +kernel))) rfl (aR (ap fU (ac (aM (c:=dW) (aa (ac (ar (i:=1))) ae))) (ac (le_str (l:=[78,111,84,97,98,108,101,32]))))) C8)) (aR (eY (i:=false)))))
def lS:PTS:=psO gJ
def lT:PRl eQ lS 2 1:=λ_ Q h=>rR h λd _ h=>jY h λh=>Hr rfl <| by
 walk_at "z";obtain⟨⟨h1,h2,h3⟩,h4,q⟩:=h;have i1:lw "NoTable" "GlueError"=true:=by decide +kernel
 walk_at "r";refine⟨λ_=>?_,λz=>by rw [h4] at z;cases z⟩;walk_at "r";exact q
noncomputable def fN(K:b_)(mg:Str->Option Value)(t:TxX K mg):=(have TX:=t;show LS K [] _ _ from (au (aC (bu (aa (ac uE) (aa (ac (le_int (i:=5))) (aa (ac (le_str (l:=[97,98,99]))) (aa (ac Ac) (aa (ac (bu (aa (ac (bu ae)) ae))) (aa (ac (ap fT (ac (bu (aa (ac (ap fT (ac (bu (aa (ac (le_int (i:=0))) ae))) (ac (le_int (i:=41))))) ae))) (ac (le_int (i:=41))))) (aa (ac (bu (aa (ac (bu (aa (ac (le_int (i:=0))) ae))) (aa (ac (bu (aa (ac (le_int (i:=0))) ae))) ae)))) (aa (ac (bu (aa (ac (bu (aa (ac (le_int (i:=0))) (aa (ac (le_int (i:=0))) ae)))) ae))) (aa (ac (bu (aa (ac uE) ae))) (aa (ac (bu (aa (ac (le_str (l:=[97]))) ae))) (aa (ac (bu (aa (ac (bu (aa (ac (le_int (i:=0))) (aa (ac (le_int (i:=0))) ae)))) (aa (ac (bu (aa (ac (le_int (i:=0))) (aa (ac (le_str (l:=[48]))) ae)))) ae)))) ae)))))))))))) (ay (i:=2) rfl)) (au (bZ (bU (iX (ap fV (am (i:=0)) (ac (bu ae)))) (dM (cO (bu (aa (ac (xi rq (ac (le_int (i:=1))))) (aa (ac (le_int (i:=1000001))) (aa (ac (eY (i:=false))) (aa (ac uE) ae)))))) (az (i:=3) rfl) (Dj (x:=4) (y:=0) rfl (ar (i:=3)) (ap b9 (am (i:=1)) (ac (bz bW (aa (am (i:=0)) ae)))) (ap b9 (ac (ap qb (am (i:=1)) (ac (le_int (i:=64))))) (ac (bz bW (aa (am (i:=0)) ae)))) (gX (l0 (i:=2) (ar (i:=4)))))) aJ)) (aR (ar (i:=2))))))
def jN:PTS:=psO fN
def jO:PRl dw jN 5 2:=λ_ Q h=>AQ h λds _ h=>sS h λm _ h=>jY h λh=>Hr rfl <| by
 walk_at "z";obtain⟨M,rfl,n,⟨lM,lr,hn,hm0,hm1⟩,q⟩:=h;have hMm:(M.map cS).length=n:=by rw [length_map,lM]
 have hM2:(M.map λr=>r.map D.int).length=n:=by rw [length_map,lM]
 have e1:rk (.lst (M.map cS)) (.lst []):=rk.of (j3 M) (Sh.lstI []);have e2:=oW M;have hb:=Bf;walk_at "r"
 refine⟨λρ=>∃(L:List D) (v3 v4:Option PV),(∀x∈L,Bd x)/\L.length<=50/\ρ=[some (.dat (.lst (M.map cS))),some (.dat (.int m)),some (.own L),v3,v4],?_,?_⟩
 .generalize hB:[D.non,D.int 5,D.str [97,98,99],D.dic [] [],D.lst [D.lst []],D.lst (mB [D.lst (mB [D.int 0] 41)] 41),D.lst [D.lst [D.int 0],D.lst [D.int 0]],D.lst [D.lst [D.int 0,D.int 0]],D.lst [D.non],D.lst [D.str [97]],D.lst [D.lst [D.int 0,D.int 0],D.lst [D.int 0,D.str [48]]]]=B at hb ⊢;have lB:B.length=11:=by rw [<- hB];rfl
  walk_at "r";rw [e2]
  refine sF (λc=>?_) (λc=>?_)
  .have n0:0<n:=by rw [<- lM];exact Lp.mpr c
   walk_at "r"
   refine⟨λk ρ=>∃(L:List D) (v3 v4:Option PV),(∀x∈L,Bd x)/\L.length=11+k/\ρ=[some (.dat (.lst (M.map cS))),some (.dat (.int m)),some (.own L),v3,v4],⟨B,_,_,hb,lB,rfl⟩,?_,?_⟩
   .rintro k ρ d hk ed ⟨L,v3,v4,hL,hl,rfl⟩;have hk:k<4:=hk
    obtain⟨hds,hdw,hdf⟩:d.sort=true/\iU d 0 1000000=false/\d.fl=true:=by
     match k,hk with
     | 0,_=>rw [ed];exact⟨rfl,rfl,rfl⟩
     | 1,_=>rw [ed];exact⟨rfl,rfl,rfl⟩
     | 2,_=>rw [ed];exact⟨rfl,rfl,rfl⟩
     | 3,_=>rw [ed];exact⟨rfl,rfl,rfl⟩
    clear ed;walk_at "r";refine⟨_,_,M.map λr=>r.map D.int,rfl,by show 4<5;decide,.inl rfl,DN M,by rw [length_map];omega,?_⟩;unfold AJ;simp only [FL];dsimp only [List.set,map_cons,map_nil,Lc,Option.map_none,PV.d];walk_at "r"
    obtain⟨i,hmi,hi⟩:∃i:Nat,m % (((M.map cS).length:Nat):Int)=(i:Int)/\i<n:=by
     have a:=Iw m (show (n:Int)≠0 by omega);have b:=HY m (show (0:Int)<n by omega);exact⟨(m % (n:Int)).toNat,by rw [hMm];omega,by omega⟩
    obtain⟨j,hmj,hj⟩:∃j:Nat,m / 64 % (((M.map cS).length:Nat):Int)=(j:Int)/\j<n:=by
     have a:=Iw (m / 64) (show (n:Int)≠0 by omega);have b:=HY (m / 64) (show (0:Int)<n by omega);exact⟨(m / 64 % (n:Int)).toNat,by rw [hMm];omega,by omega⟩
    have lim:((M.getD i []).map D.int).length=n:=by rw [length_map];exact lr _ (gDm (by omega))
    refine⟨i,_,by rw [hmi];exact wf (by omega),ye (by omega),?_⟩;walk_at "r";refine⟨j,by rw [hmj];exact wf (by omega),?_⟩;have hbad:=x9 lM lr hn hi hj hds hdw;walk_at "r"
    exact⟨L++[_],_,_,λx hx=>by
     rcases HA.mp hx with h|h
     .exact hL x h
     .rw [vx.mp h];exact hbad,by rw [length_append,hl];rfl,rfl⟩
   .rintro ρ ⟨L,v3,v4,hL,hl,rfl⟩;exact⟨L,_,_,hL,by have hl:L.length=15:=hl;omega,rfl⟩
  .exact⟨B,_,_,hb,by omega,rfl⟩
 .rintro ρ ⟨L,v3,v4,hL,hl,rfl⟩;walk_at "r";exact q L hL (by omega)
noncomputable def zd(K:b_)(mg:Str->Option Value)(t:TxX K mg):=(have TX:=t;show LS K [] _ _ from (au (aC (aM (c:=hZ) (aa (ac (ar (i:=0))) (aa (ac (le_int (i:=620))) ae))) (ay (i:=1) rfl)) (au (aC (ap b9 (ac (bB (c:=aH) (i:=1) ae)) (ac (le_int (i:=6)))) (ay (i:=2) rfl)) (au (bZ (bU (iX (ap fU (ac (ap b9 (ac (bB (c:=aH) (i:=1) ae)) (ac (le_int (i:=8))))) (ac (le_int (i:=0))))) (au (aC (bB (c:=aH) (i:=1) ae) (ay (i:=3) rfl)) (au (aC (ap aV (ac (le_int (i:=7))) (ac (ap b9 (am (i:=3)) (ac (le_int (i:=8)))))) (ay (i:=2) rfl)) (bU (iX (ap fU (ac (ap b9 (ac (ap qb (am (i:=3)) (ac (le_int (i:=8))))) (ac (le_int (i:=3))))) (ac (le_int (i:=0))))) (aC (le_int (i:=20)) (ay (i:=2) rfl)) aJ))) aJ)) (au (aC (bB (c:=eC) (i:=1) (aa (ac (ar (i:=2))) ae)) (ay (i:=4) rfl)) (au (aC (bB (c:=eC) (i:=1) (aa (ac (ap b9 (ac (bB (c:=aH) (i:=1) ae)) (ac (le_int (i:=4))))) ae)) (ay (i:=5) rfl)) (au (aC (bR (ix:=[none]) rfl (cO (ar (i:=4))) (λfs hc=>(az (i:=0) (kq hc (by decide)))) cm (bz uP (aa (am (i:=0)) ae))) (ay (i:=6) rfl)) (au (aC (jW (c:=bA) (aa (ac (ar (i:=6))) ae)) (ay (i:=7) rfl)) (au (bU (gz (iX (ap fV (am (i:=6)) (am (i:=4)))) (gz (dA (gy (aM (c:=di) (aa (ac (ar (i:=4))) (aa (ac (ar (i:=7))) ae))))) (iX (ap (E2 (neg:=true)) (ac (aM (c:=cG) (aa (ac (ar (i:=4))) (aa (ac (ar (i:=7))) ae)))) (ac (eY (i:=true))))))) (aR (eY (i:=false))) aJ) (au (bU (dA (gy (aM (c:=di) (aa (ac (ar (i:=5))) (aa (ac (jW (c:=bA) (aa (ac (bz fm (aa (ac (bR (ix:=[none]) rfl (cO (ar (i:=5))) (λfs hc=>(az (i:=0) (kq hc (by decide)))) cm (bz fm (aa (am (i:=0)) ae)))) ae))) ae))) ae))))) (aR (eY (i:=false))) aJ) (au (dM (cO (aM (c:=dw) (aa (ac (ar (i:=4))) (aa (ac (bB (c:=aH) (i:=1) ae)) ae)))) (az (i:=8) rfl) (bU (dA (gy (aM (c:=eQ) (aa (ac (ar (i:=8))) ae)))) (aR (eY (i:=false))) aJ)) (aR (iy (ap fU (ac (jW (c:=bA) (aa (ac (bz fm (aa (ac (bR (ix:=[none]) rfl (cO (ar (i:=4))) (λfs hc=>(az (i:=0) (kq hc (by decide)))) cm (bz fm (aa (am (i:=0)) ae)))) ae))) ae))) (am (i:=7))) (ap fU (ac (jW (c:=bA) (aa (ac (ar (i:=6))) ae))) (am (i:=7))))))))))))))))
def wo:PTS:=psO zd
def Bg(ns:List Int)(h63:ns.length<=63)(Q:PV->Prop)(q:Q (.dat (.bl true))):CO wo zb [.scr ns] Q:=by
 show wo _ [some (.dat (.scr ns)),none,none,none,none,none,none,none,none];have g0:ns.length<=64/\(0:Int)<=620/\(620:Int)<=2000:=⟨by omega,by decide,by decide⟩
 walk_at "r";rintro zs hz hl;have hl:zs.length=620:=hl;have g1:Dk zs/\0<zs.length/\zs.length<=100000:=⟨hz,by omega,by omega⟩
 walk_at "r";rintro z y1 hz0 hz1 hd1 hy1;have g2:Dk y1/\0<y1.length/\y1.length<=100000:=⟨hd1,by omega,by omega⟩
 walk_at "r"
 refine⟨λρ=>∃(n:Nat) (ys:List Int) (v3:Option PV),n<=20/\Dk ys/\617<=ys.length/\ys.length<=620/\ρ=[some (.dat (.scr ns)),some (.own (ys.map .int)),some (.dat (.int (n:Int))),v3,none,none,none,none,none],?_,?_⟩
 .obtain⟨n,en⟩:∃n:Nat,z % 6=(n:Int):=⟨(z % 6).toNat,by omega⟩
  have hn:n<6:=by omega
  rw [en];walk_at "r";rintro z2 y2 hz20 hz21 hd2 hy2;have g3:Dk y2/\0<y2.length/\y2.length<=100000:=⟨hd2,by omega,by omega⟩
  walk_at "r"
  refine iw (λc=>?_) (λc=>?_)
  .walk_at "r";rintro z3 y3 hz30 hz31 hd3 hy3;obtain⟨n2,en2⟩:∃n2:Nat,7+z3 % 8=(n2:Int):=⟨(7+z3 % 8).toNat,by omega⟩
   have hn2:n2<=14:=by omega
   walk_at "r"
   refine iw (λc2=>?_) (λc2=>?_)
   .walk_at "r";exact⟨20,y3,_,by decide,hd3,by omega,by omega,rfl⟩
   .walk_at "r";rw [en2];exact⟨n2,y3,_,by omega,hd3,by omega,by omega,rfl⟩
  .walk_at "r";exact⟨n,y2,_,by omega,hd2,by omega,by omega,rfl⟩
 .rintro ρ ⟨n,ys,v3,hn,hd0,hy0,hy9,rfl⟩;have hnn:n*n<=20*20:=JR hn hn;walk_at "r";rintro M ya hMl hM hda hya hya2;have TM:nu n M:=⟨hMl,by omega,hM⟩
  have ga:Dk ya/\0<ya.length/\ya.length<=100000:=⟨hda,by omega,by omega⟩
  walk_at "r";rintro z4 yb hz40 hz41 hdb hyb;obtain⟨n2,en2⟩:∃n2:Nat,z4 % 4=(n2:Int):=⟨(z4 % 4).toNat,by omega⟩
  have hn2:n2<=3:=by omega
  have hnn2:n2*n2<=3*3:=JR hn2 hn2;walk_at "r";rw [en2];walk_at "r";rintro M2 yc hM2l hM2 hdc hyc hyc2;have TM2:nu n2 M2:=⟨hM2l,by omega,hM2⟩
  have G:=wg hMl;have sq1:=TM.sq G;have st1:=TM.srt G;have GU:=wj hMl;have squ:=TM.sq GU;have stu:=TM.srt GU;have G2:=wg hM2l;have GU2:=wj hM2l;have squ2:=TM2.sq GU2;have stu2:=TM2.srt GU2;have hMm:(M.map cS).length=n:=by rw [length_map,hMl]
  have hM2m:(M2.map cS).length=n2:=by rw [length_map,hM2l]
  have cM:cel (.lst (M.map cS))=at2 M:=wk (c:=cS) (λ_=>rfl) rfl;have cU:cel (.tup (M.map m5))=at2 M:=wk (c:=m5) (λ_=>rfl) rfl;have cU2:cel (.tup (M2.map m5))=at2 M2:=wk (c:=m5) (λ_=>rfl) rfl;walk_at "r";have eL:(ah (.lst (M.map cS))).length=n:=hMm;have eU:(ah (.tup (M.map m5))).length=n:=by show (M.map m5).length=n;rw [length_map,hMl]
  have eU2:(ah (.tup (M2.map m5))).length=n2:=by show (M2.map m5).length=n2;rw [length_map,hM2l]
  have papE:∀(m:Nat) (c:Nat->Nat->Int),bpP m c=.tup [.tup ((bpJ m c).map nD),.tup ((bpG m c).map .int),.tup ((bpT m c).map .int)]:=λm c=>rfl
  have papS:∀(js:List Nat) (gs ts:List Int),Sh (.tup [.tup (js.map nD),.tup (gs.map .int),.tup (ts.map .int)]):=λjs gs ts=>by
   rw [jg];exact x8 [js.map (λj=>((j:Nat):Int)),gs,ts]
  have eqM:=rk.of (j3 M) (j3 M);have dqM:=mM (j3 M);have hp1:=TM.perm;have hp2:=TM2.perm;have hr1:=TM.right;have hr2:=TM2.right;have hpair:=TM.pair;rw [papE] at hpair
  refine cm1 cS (λr hr v K1 k1=>?_) (λv=>?_)
  .walk_at "r";exact k1 _
  .walk_at "r";refine⟨st1.1,st1.2,λz=>absurd (sq1.symm.trans z) (by decide),λ_=>?_⟩;rw [cM,eL,papE];walk_at "r"
   have papO:∀(js:List Nat) (gs ts:List Int),js.length<=60->gs.length<=60->ts.length<=60->xO (.tup [.tup (js.map nD),.tup (gs.map .int),.tup (ts.map .int)])/\(ah (.tup [.tup (js.map nD),.tup (gs.map .int),.tup (ts.map .int)])).length<=1000/\∀r∈ah (.tup [.tup (js.map nD),.tup (gs.map .int),.tup (ts.map .int)]),(ah r).length<=60:=λjs gs ts h1 h2 h3=>by
    rw [jg];refine (wj (M:=[js.map (λj=>((j:Nat):Int)),gs,ts]) rfl).srt (show 3<=40 by decide) λi hi=>?_
    match i,hi with
    | 0,_=>show (js.map λj=>((j:Nat):Int)).length<=60;rw [length_map];exact h1
    | 1,_=>exact h2
    | 2,_=>exact h3
   have lg1:=TM.lg (c:=at2 M);have lg2:=TM2.lg (c:=at2 M2);have po1:=papO _ _ _ (show (bpJ n (at2 M)).length<=60 by omega) (show (bpG n (at2 M)).length<=60 by omega) (show (bpT n (at2 M)).length<=60 by omega);refine⟨_,_,_,rfl,n,⟨⟨by omega,hMl,lg1.1,lg1.2.1⟩,hM,hp1,hr1⟩,?_⟩;walk_at "r";refine yt hpair ?_;walk_at "r"
   refine cm1 m5 (λr hr v K1 k1=>?_) (λv=>?_)
   .walk_at "r";exact k1 _
   .walk_at "r";refine⟨stu2.1,stu2.2,λz=>absurd (squ2.symm.trans z) (by decide),λ_=>?_⟩;rw [cU2,eU2,papE];walk_at "r";refine⟨_,_,_,rfl,n2,⟨⟨by omega,hM2l,lg2.1,lg2.2.1⟩,hM2,hp2,hr2⟩,?_⟩;walk_at "r";rintro z5 yd hz50 hz51 hdd hyd;walk_at "r";refine⟨n,⟨hMl,λr hr=>(hM r hr).1,by omega,hz50,hz51⟩,λL hL hl=>?_⟩;walk_at "r"
    refine⟨λk ρ=>∃v8:Option PV,ρ=[some (.dat (.scr ns)),some (.own (yd.map .int)),some (.dat (.int (n:Int))),v3,some (.dat (.lst (M.map cS))),some (.dat (.lst (M2.map cS))),some (.dat (.lst (M.map cS))),some (.dat (.tup [.tup ((bpJ n (at2 M)).map nD),.tup ((bpG n (at2 M)).map .int),.tup ((bpT n (at2 M)).map .int)])),v8],⟨_,rfl⟩,?_,?_⟩
    .rintro k ρ d hk ed ⟨v8,rfl⟩;have hb:=hL d (by rw [ed];exact cB hk);clear ed;have hb1:=hb.s;have hb2:=hb.l;have hb3:=hb.no;walk_at "r";exact⟨_,rfl⟩
    .rintro ρ ⟨v8,rfl⟩;walk_at "r"
     refine cm1 m5 (λr hr v K1 k1=>?_) (λv=>?_)
     .walk_at "r";exact k1 _
     .walk_at "r";have eqP:=rk.of (papS (bpJ n (at2 M)) (bpG n (at2 M)) (bpT n (at2 M))) (papS (bpJ n (at2 M)) (bpG n (at2 M)) (bpT n (at2 M)));have dqP:=mM (papS (bpJ n (at2 M)) (bpG n (at2 M)) (bpT n (at2 M)));refine⟨stu.1,stu.2,λz=>absurd (squ.symm.trans z) (by decide),λ_=>?_⟩;rw [cU,eU,papE];walk_at "r";refine⟨st1.1,st1.2,λz=>absurd (sq1.symm.trans z) (by decide),λ_=>?_⟩;rw [cM,eL,papE]
      walk_at "r";rw [dqP];exact q
def DS:PRl zc wo zb 1:=λ_ Q h=>match h with|⟨ns,e,h63,q⟩=>e ▸ ⟨rfl,Bg ns h63 Q q⟩
local macro_rules | `(tactic| walk_at "l")=>`(tactic| (intros;rename_i h;split at h <;> first | rfl | exact h.elim))
local macro_rules | `(tactic| walk_at "b0")=>`(tactic| exact fun _ _ _ _ _ _ us hl=>match us,hl with | [],_=>rfl)
local macro_rules | `(tactic| walk_at "b1")=>`(tactic| exact fun _ _ _ _ _ _ us hl=>match us,hl with | [_],_=>rfl)
local macro_rules | `(tactic| walk_at "b2")=>`(tactic| exact fun _ _ _ _ _ _ us hl=>match us,hl with | [_,_],_=>rfl)
local macro_rules | `(tactic| walk_at "b3")=>`(tactic| exact fun _ _ _ _ _ _ us hl=>match us,hl with | [_,_,_],_=>rfl)
local macro_rules | `(tactic| walk_at "b4")=>`(tactic| exact fun _ _ _ _ _ _ us hl=>match us,hl with | [_,_,_,_],_=>rfl)
local macro_rules | `(tactic| walk_at "b5")=>`(tactic| exact fun _ _ _ _ _ _ us hl=>match us,hl with | [_,_,_,_,_],_=>rfl)
local macro_rules | `(tactic| walk_at "b6")=>`(tactic| exact fun _ _ _ _ _ _ us hl=>match us,hl with | [_,_,_,_,_,_],_=>rfl)
local macro_rules | `(tactic| walk_at "b7")=>`(tactic| exact fun _ _ _ _ _ _ us hl=>match us,hl with | [_,_,_,_,_,_,_],_=>rfl)
section
variable (P:so) (w:World) (K:b_) (mg:Str->Option Value) (base:Heap)
abbrev iQ:=Cal P w K mg base 1 "is_row" ["thing"] (spP K dU)
abbrev gf:=Cal P w K mg base 1 "is_number" ["thing"] (spP K dq)
abbrev eT:=Cal P w K mg base 2 "are_numbers" ["thing","many"] (spP K dh)
abbrev iR:=Cal P w K mg base 3 "are_prices" ["thing","many"] (spP K dF)
abbrev lb:=Cal P w K mg base 3 "is_order" ["thing","many"] (spP K hX)
abbrev lc:=Cal P w K mg base 2 "is_whole" ["thing","least","most"] (spP K fG)
abbrev gg:=Cal P w K mg base 3 "is_square" ["thing"] (spP K eA)
abbrev dY:=Cal P w K mg base 4 "is_pairing_paper" ["rows","paper"] (spP K cG)
abbrev gK:=Cal P w K mg base 1 "way_to_free" ["rows","gives","takes","leaders","start"] (spP K eO)
abbrev fO:=Cal P w K mg base 2 "pair_one_more" ["rows","gives","takes","leaders","start"] (spM K cz)
abbrev dZ:=C3 P w K mg base 4 "best_pairing" ["rows"] (spX K bA)
abbrev lh:=Cal P w K mg base 1 "_law_deck" ["_law_cells_here","_law_many"] (spP K hZ)
abbrev de:=Cal P w K mg base 1 "_law_next" ["_law_deck_here"] (spR K aH)
abbrev jC:=Cal P w K mg base 1 "_law_whole" ["_law_found"] (spP K eB)
abbrev fb:=Cal P w K mg base 2 "_law_next_order" ["_law_deck_here","_law_many"] (spR K c9)
abbrev li:=Cal P w K mg base 3 "_law_made" ["_law_deck_here","_law_many"] (spR K h7)
abbrev jD:=Cal P w K mg base 1 "_law_right" ["_law_rows","_law_followers","_law_gives","_law_takes"] (spP K f8)
abbrev mi:=Cal P w K mg base 1 "_law_all" ["_law_many"] (spP K jh)
abbrev jE:=Cal P w K mg base 2 "_law_cells" ["_law_deck_here","_law_many"] (spR K f9)
abbrev jF:=Cal P w K mg base 4 "_law_table" ["_law_deck_here","_law_many"] (spR K eC)
abbrev ll:=Cal P w K mg base 1 "_law_told" ["_law_rows","_law_order"] (spP K fH)
abbrev gL:=Cal P w K mg base 2 "_law_is_best" ["_law_rows","_law_paper"] (spP K di)
abbrev qL:=D9 P w K mg base 1 "_law_word" ["_law_error"] (spP K dW)
abbrev gM:=Cal P w K mg base 5 "_law_refused" ["_law_thing"] (spP K eQ)
abbrev fP:=Cal P w K mg base 1 "_law_no_tables" ["_law_rows","_law_at"] (spP K dw)
abbrev DT:=Cal P w K mg base 6 "law" ["_law_script"] (spP K zc)
end
section
variable (P:so) (w:World) {K:b_}{mg:Str->Option Value} (base:Heap)
def wp(D:aY K mg "is_row" mX)(T:Txt mg)(TX:TxX K mg):iQ P w K mg base:=D.oP2 vM (by walk_at "b1") wn rfl rfl λ_ _ _ _ _ _ _ hr hu=>⟨_,(ao (aQ (aq (E4 K rfl) rfl T.b_isinstance y_ (paC (pv 0) (paC (nz (paC (fc (v:=.ty "list") rfl T.b_list Jn rfl) (paC (fc (v:=.ty "tuple") rfl T.b_tuple IY rfl) af))) af))))),(oY K mg TX)⟩
def pE(D:aY K mg "is_number" g7)(T:Txt mg)(TX:TxX K mg):gf P w K mg base:=D.oP2 oG (by walk_at "b1") o0 rfl rfl λ_ _ _ _ _ _ _ hr hu=>⟨_,(ao (aQ (io (aq (sI K rfl) rfl T.b_isinstance y_ (paC (pv 0) (paC (fc (v:=.ty "int") rfl T.b_int boot_int rfl) af))) (jo (yg (aq (sI K rfl) rfl T.b_isinstance y_ (paC (pv 0) (paC (fc (v:=.ty "bool") rfl T.b_bool boot_bool rfl) af)))))))),(jw K mg TX)⟩
def lU(D:aY K mg "are_numbers" fz)(T:Txt mg)(TX:TxX K mg)(C'1:gf P w K mg base)(C'0:iQ P w K mg base):eT P w K mg base:=D.oP2 lI (by walk_at "b2") lN rfl rfl λ_ _ _ _ _ _ _ hr hu=>⟨_,(ao (aQ (io (aE C'0 (hr.m rfl) (paC (pv 0) af)) (io (cV (ku K rfl hu) (aq (eh K rfl) rfl T.b_len A_ (paC (pv 0) af)) (pv 1) (aX _)) (jo (aq (uN K rfl rfl) rfl T.b_all boot_all (paC (dr (wi:=(lv K (bC 0))) (g:=(bN 0)) (tts:=iS) (te:=(gP (spP K dq) [] E0 (bi (bC 0) eW))) ["item"] [none] rfl (cg K rfl (pv 0)) (λ_ _ _ _=>⟨(aD (i:=0) (by show Ho (["item"]:List Str);decide +kernel) rfl (by walk_at "o")),bE,(aE C'1 (hr.m rfl) (paC (pv 0) af))⟩) (by kernel_rfl)) af))))))),(gG K mg TX)⟩
def nk(D:aY K mg "are_prices" fY)(T:Txt mg)(TX:TxX K mg)(C'2:eT P w K mg base):iR P w K mg base:=D.oP2 mY (by walk_at "b2") nh rfl rfl λ_ _ _ _ _ _ _ hr hu=>⟨_,(ao (aQ (io (aE C'2 (hr.m rfl) (paC (pv 0) (paC (pv 1) af))) (jo (aq (uN K rfl rfl) rfl T.b_all boot_all (paC (dr (wi:=(lv K (bC 0))) (g:=(bN 0)) (tts:=iS) (te:=(tOp Fd (bC 0) (tC (V.int 0)))) ["price"] [none] rfl (cg K rfl (pv 0)) (λ_ _ _ _=>⟨(aD (i:=0) (by show Ho (["price"]:List Str);decide +kernel) rfl (by walk_at "o")),bE,(cV Bl (pv 0) ax (aX _))⟩) (by kernel_rfl)) af)))))),(iP K mg TX)⟩
def qM(D:aY K mg "is_order" i7)(T:Txt mg)(TX:TxX K mg)(C'2:eT P w K mg base):lb P w K mg base:=D.oP2 qt (by walk_at "b2") qA rfl rfl λ_ _ _ _ _ _ _ hr hu=>⟨_,(ao (aQ (io (aE C'2 (hr.m rfl) (paC (pv 0) (paC (pv 1) af))) (jo (cV (ku K rfl hu) (aq (uV K rfl) rfl T.b_sorted boot_sorted (paC (pv 0) af)) (aN (rm K rfl rfl) rfl T.b_list Jn (paC (ir rfl T.b_range (paC (pv 1) af)) af)) (aX _)))))),(kU K mg TX)⟩
def qN(D:aY K mg "is_whole" i8)(T:Txt mg)(TX:TxX K mg)(C'1:gf P w K mg base):lc P w K mg base:=D.oP2 qu (by walk_at "b3") qC rfl rfl λ_ _ _ _ _ _ _ hr hu=>⟨_,(ao (aQ (io (aE C'1 (hr.m rfl) (paC (pv 0) af)) (jo (wJ Ge Ge (pv 1) (pv 0) (pv 2)))))),(kW K mg TX)⟩
def pF(D:aY K mg "is_square" g8)(T:Txt mg)(TX:TxX K mg)(C'0:iQ P w K mg base)(C'5:lc P w K mg base):gg P w K mg base:=D.oP2 oH (by walk_at "b1") o7 rfl rfl λ_ _ _ _ _ _ _ hr hu=>⟨_,(aj (bQ (PW.pt (gw (dy (aP (aE C'0 (hr.m rfl) (paC (pv 0) af)))) (gC (aZ Fe (aq (eh K rfl) rfl T.b_len A_ (paC (pv 0) af)) (rf rfl T.g_MOST_ROWS) (aX _))))) (ao (aQ eV)) aI) (aj (bQ (dy (aP (aq (uN K rfl rfl) rfl T.b_all boot_all (paC (dr (wi:=(lv K (bC 0))) (g:=(bN 0)) (tts:=iS) (te:=(zk (gP (spP K dU) [] E0 (bi (bC 0) eW)) (tOp (sL K false) (tCB (uH K) (bi (bC 0) eW)) (tCB (uH K) (bi (bC 1) eW))))) ["row","thing"] [none,some 0] rfl (cg K rfl (pv 0)) (λ_ _ _ _=>⟨(aD (i:=0) (by show Ho (["row","thing"]:List Str);decide +kernel) rfl (by walk_at "o")),bE,(io (aE C'0 (hr.m rfl) (paC (pv 0) af)) (jo (cV (ku K rfl hu) (aq (eh K rfl) rfl T.b_len A_ (paC (pv 0) af)) (aq (eh K rfl) rfl T.b_len A_ (paC (pv 1) af)) (aX _))))⟩) (by kernel_rfl)) af)))) (ao (aQ eV)) aI) (ao (aQ (aq (uN K rfl rfl) rfl T.b_all boot_all (paC (rB (wi:=(lv K (bC 0))) (g:=(bN 0)) (tts:=iS) (wi2:=(lv K (bC 0))) (g2:=(bN 1)) (tts2:=iS) (te:=(gP (spP K fG) [] E0 (bi (bC 1) (bi (tC (V.int 0)) (bi (tC (V.int 1000000)) eW))))) ["row","item"] [none,none] rfl (cg K rfl (pv 0)) (λ_ _ _ _=>⟨(aD (i:=0) (by show Ho (["row","item"]:List Str);decide +kernel) rfl (by walk_at "o")),bE,(cg K rfl (pv 0)),(aD (i:=1) (by show Ho (["row","item"]:List Str);decide +kernel) rfl (by walk_at "o")),bE,(aE C'5 (hr.m rfl) (paC (pv 1) (paC ax (paC (rf rfl T.g_MOST_NUMBER) af))))⟩) (by kernel_rfl)) af)))))),(jx K mg TX)⟩
def im(D:aY K mg "is_pairing_paper" cP)(T:Txt mg)(TX:TxX K mg)(C'3:iR P w K mg base)(C'4:lb P w K mg base)(C'0:iQ P w K mg base)(C'6:gg P w K mg base):dY P w K mg base:=D.oP2 bc (by walk_at "b2") ik rfl rfl λ_ _ _ _ _ _ _ hr hu=>⟨_,(aj (bQ (PW.pt (gw (dy (aP (aE C'6 (hr.m rfl) (paC (pv 0) af)))) (gw (dy (aP (aE C'0 (hr.m rfl) (paC (pv 1) af)))) (gC (aZ (ky K rfl hu) (aq (eh K rfl) rfl T.b_len A_ (paC (pv 1) af)) ax (aX _)))))) (ao (aQ eV)) aI) (aj (tO (pv 1) (rE K rfl (n:=3) rfl (dC (aD (i:=2) bc.nd rfl (by walk_at "o")) (dC (aD (i:=3) bc.nd rfl (by walk_at "o")) (dC (aD (i:=4) bc.nd rfl (by walk_at "o")) ml))))) (aj (aG (i:=5) bc.nd rfl (by walk_at "o") (aq (eh K rfl) rfl T.b_len A_ (paC (pv 0) af))) (aj (bQ (PW.pt (gw (dy (aP (aE C'4 (hr.m rfl) (paC (pv 2) (paC (pv 5) af))))) (gw (dy (aP (aE C'3 (hr.m rfl) (paC (pv 3) (paC (pv 5) af))))) (gC (dy (aP (aE C'3 (hr.m rfl) (paC (pv 4) (paC (pv 5) af))))))))) (ao (aQ eV)) aI) (aj (aG (i:=6) bc.nd rfl (by walk_at "o") (aN (rm K rfl rfl) rfl T.b_list Jn (paC (ir rfl T.b_range (paC (pv 5) af)) af))) (aj (bQ (aP (aq (E9 K rfl rfl) rfl T.b_any boot_any (paC (rB (wi:=(lv K (bC 6))) (g:=(bN 0)) (tts:=iS) (wi2:=(lv K (bC 5))) (g2:=(bN 1)) (tts2:=iS) (te:=(tOp EX (tOp (xz K) (tOp (sH K) (bC 2) (bC 0)) (tOp (sH K) (bC 3) (bC 1))) (tOp (sH K) (tOp (sH K) (bC 4) (bC 0)) (bC 1)))) ["i","j","gives","takes","rows","numbers"] [none,none,some 3,some 4,some 0,some 6] rfl (cg K rfl (pv 6)) (λ_ _ _ _=>⟨(aD (i:=0) (by show Ho (["i","j","gives","takes","rows","numbers"]:List Str);decide +kernel) rfl (by walk_at "o")),bE,(cg K rfl (pv 5)),(aD (i:=1) (by show Ho (["i","j","gives","takes","rows","numbers"]:List Str);decide +kernel) rfl (by walk_at "o")),bE,(cV Cn (aL (bG K rfl) (bf (df K rfl) (pv 2) (pv 0) (λ_ _=>rfl)) (bf (df K rfl) (pv 3) (pv 1) (λ_ _=>rfl))) (bf (df K rfl) (bf (df K rfl) (pv 4) (pv 0) (λ_ _=>rfl)) (pv 1) (λ_ _=>rfl)) (aX _))⟩) (by kernel_rfl)) af))) (ao (aQ eV)) aI) (ao (aQ (aq (uN K rfl rfl) rfl T.b_all boot_all (paC (dr (wi:=(xh K (bi (bC 2) eW))) (g:=(D5 K 2 (pQ (bN 0) (pQ (bN 1) DX)))) (tts:=iS) (te:=(tOp (sL K false) (tOp (xz K) (tOp (sH K) (bC 2) (bC 0)) (tOp (sH K) (bC 3) (bC 1))) (tOp (sH K) (tOp (sH K) (bC 4) (bC 0)) (bC 1)))) ["i","j","gives","takes","rows"] [none,none,some 3,some 4,some 0] rfl (rz K rfl rfl T.b_enumerate (paC (pv 2) af)) (λ_ _ _ _=>⟨(rE K rfl (n:=2) rfl (dC (aD (i:=0) (by show Ho (["i","j","gives","takes","rows"]:List Str);decide +kernel) rfl (by walk_at "o")) (dC (aD (i:=1) (by show Ho (["i","j","gives","takes","rows"]:List Str);decide +kernel) rfl (by walk_at "o")) ml))),bE,(cV (ku K rfl hu) (aL (bG K rfl) (bf (df K rfl) (pv 2) (pv 0) (λ_ _=>rfl)) (bf (df K rfl) (pv 3) (pv 1) (λ_ _=>rfl))) (bf (df K rfl) (bf (df K rfl) (pv 4) (pv 0) (λ_ _=>rfl)) (pv 1) (λ_ _=>rfl)) (aX _))⟩) (by kernel_rfl)) af)))))))))),(dX K mg TX)⟩
def lV(D:aY K mg "way_to_free" fA)(T:Txt mg)(TX:TxX K mg):gK P w K mg base:=D.oP20 aT (by walk_at "b5") lP rfl rfl λ_ _ _ _ _ _ _ hr hu=>⟨_,(aj (aG (i:=5) aT.nd rfl (by walk_at "o") mG) (aj (aG (i:=6) aT.nd rfl (by walk_at "o") mG) (aj (AT (i:=7) (j:=8) (k:=9) rfl aT.nd rfl rfl rfl (by decide) rfl rfl rfl (paC (pv 4) (paC ax (paC (wI qV ax) af))) (by rfl)) (aj (mm G_ (aZ Bl (pv 7) ax (aX _)) (aj (dz G_ rfl (rz K rfl rfl T.b_enumerate (paC (bf (df K rfl) (pv 0) (pv 7) (λ_ _=>rfl)) af)) (rE K rfl (n:=2) rfl (dC (aD (i:=10) aT.nd rfl (by walk_at "o")) (dC (aD (i:=11) aT.nd rfl (by walk_at "o")) ml))) (aj (aG (i:=12) aT.nd rfl (by walk_at "o") (aL xo (aL (bG K rfl) (aL (bG K rfl) (pv 8) (bf (df K rfl) (pv 1) (pv 7) (λ_ _=>rfl))) (bf (df K rfl) (pv 2) (pv 10) (λ_ _=>rfl))) (pv 11))) (ao (bQ (PW.pt (BD (aZ (rT hu) (pv 10) (pv 5) (by with_unfolding_all rfl)) (zj (PW.pt (gw (aZ (rT hu) (pv 10) (pv 6) (by with_unfolding_all rfl)) (gC (aZ Cn (pv 12) (bf (df K rfl) (gu hu (pv 6) (pv 10) (λ_ _=>rfl)) ax (λ_ _=>rfl)) (aX _)))))))) (ao (rW (hu1 hu) (pv 6) (pv 10) (nz (paC (pv 12) (paC (pv 9) af))))) aI)))) (aj (tO (aq (AR K rfl rfl hu) rfl T.b_min boot_min (paC (Dz (dr (wi:=(iDk (bC 6))) (g:=(bN 0)) (tts:=iS) (te:=(D0 (bi (tOp (sH K) (tOp vI (bC 1) (bC 0)) (tC (V.int 0))) (bi (bC 0) eW)))) ["j","near"] [none,some 6] rfl (DA (pv 6)) (λ_ _ _ _=>⟨(aD (i:=0) (by show Ho (["j","near"]:List Str);decide +kernel) rfl (by walk_at "o")),bE,(nz (paC (bf (df K rfl) (gu hu (pv 1) (pv 0) (λ_ _=>rfl)) ax (λ_ _=>rfl)) (paC (pv 0) af)))⟩) (by kernel_rfl))) af)) (rE K rfl (n:=2) rfl (dC (aD (i:=8) aT.nd rfl (by walk_at "o")) (dC (aD (i:=9) aT.nd rfl (by walk_at "o")) ml)))) (aj (rW (hu1 hu) (pv 5) (pv 9) (w6 (pv 6) (pv 9) ⟨rfl,rfl,rfl,rfl⟩)) (ao (aG (i:=7) aT.nd rfl (by walk_at "o") (bf (df K rfl) (pv 3) (pv 9) (λ_ _=>rfl)))))))) (ao (aQ (pv 5))))))),(gH K mg TX)⟩
def jP(D:aY K mg "pair_one_more" dO)(T:Txt mg)(TX:TxX K mg)(C'8:gK P w K mg base):fO P w K mg base:=D.oM2 bn (by walk_at "b5") jM rfl rfl λ_ _ _ _ _ _ _ hr hu=>⟨_,(aj (aG (i:=5) bn.nd rfl (by walk_at "o") (aE C'8 (hr.m rfl) (paC (pv 0) (paC (pv 1) (paC (pv 2) (paC (pv 3) (paC (pv 4) af))))))) (aj (aG (i:=6) bn.nd rfl (by walk_at "o") (bf (df K rfl) (aN (A1 rfl) rfl T.b_list Jn (paC (pv 5) af)) (wI qV ax) (λ_ _=>rfl))) (aj (aG (i:=7) bn.nd rfl (by walk_at "o") (bf (df K rfl) (gu hu (pv 5) (pv 6) (λ_ _=>rfl)) ax (λ_ _=>rfl))) (aj (pR (pv 1) (pv 4) (kG K rfl) (pv 7) yi gk) (aj (DB (dz G_ rfl (DA (pv 5)) (aD (i:=8) bn.nd rfl (by walk_at "o")) (ao (bQ (aZ Bl (bf (df K rfl) (pv 3) (pv 8) (λ_ _=>rfl)) ax (aX _)) (aj (pR (pv 2) (pv 8) (kG K rfl) (aL xo (pv 7) (bf (df K rfl) (gu hu (pv 5) (pv 8) (λ_ _=>rfl)) ax (λ_ _=>rfl))) BI gk) (ao (pR (pv 1) (bf (df K rfl) (pv 3) (pv 8) (λ_ _=>rfl)) (kG K rfl) (aL xo (pv 7) (bf (df K rfl) (gu hu (pv 5) (pv 8) (λ_ _=>rfl)) ax (λ_ _=>rfl))) yi gk))) aI)))) (ao (mm G_ (aZ Bl (pv 6) ax (aX _)) (aj (aG (i:=9) bn.nd rfl (by walk_at "o") (bf (df K rfl) (gu hu (pv 5) (pv 6) (λ_ _=>rfl)) ax (λ_ _=>rfl))) (aj (qj (wF (aZ Bl (pv 9) ax (aX _)) (bf (df K rfl) (pv 3) (pv 9) (λ_ _=>rfl)) (pv 4)) (tM (pv 3) (pv 6) gk)) (ao (aG (i:=6) bn.nd rfl (by walk_at "o") (pv 9)))))))))))),(fM K mg TX)⟩
def lp(D:aY K mg "best_pairing" eI)(T:Txt mg)(TX:TxX K mg)(C'6:gg P w K mg base)(C'9:fO P w K mg base):dZ P w K mg base:=D.oX2 bJ (by walk_at "b1") kY rfl rfl λ_ _ _ _ _ _ _ hr hu=>⟨_,(aj (bQ (PT.nox (dy (aP (aE C'6 (hr.m rfl) (paC (pv 0) af))))) (ao (xv K rfl rfl C1 (As TX.z'g TX.kp'g TX.m'g))) aI) (aj (PS.nox (gU (wi:=(lv K (bC 0))) (g:=(bN 0)) (tts:=iS) (te:=(tCB (AW K) (bi (bC 0) eW))) (i:=1) ["row"] [none] bJ.nd rfl (Iq rfl) rfl (cg K rfl (pv 0)) (λ_ _ _ _=>⟨(aD (i:=0) (by show Ho (["row"]:List Str);decide +kernel) rfl (by walk_at "o")),bE,(aq (Dv K rfl rfl) rfl T.b_max boot_max (paC (pv 0) af))⟩) (by kernel_rfl))) (aj (PS.nox (gU (wi:=(lv K (bC 0))) (g:=(bN 0)) (tts:=iS) (te:=(tC (V.int 0))) (i:=2) ["row"] [none] bJ.nd rfl (Iq rfl) rfl (cg K rfl (pv 0)) (λ_ _ _ _=>⟨(aD (i:=0) (by show Ho (["row"]:List Str);decide +kernel) rfl (by walk_at "o")),bE,ax⟩) (by kernel_rfl))) (aj (PS.nox (aG (i:=3) bJ.nd rfl (by walk_at "o") (dr (wi:=(lv K (bC 0))) (g:=(bN 0)) (tts:=iS) (te:=(tUn CN (tC (V.int 1)))) ["row"] [none] rfl (cg K rfl (pv 0)) (λ_ _ _ _=>⟨(aD (i:=0) (by show Ho (["row"]:List Str);decide +kernel) rfl (by walk_at "o")),bE,(wI qV ax)⟩) (by kernel_rfl)))) (aj (dz PassesOwn.leaving rfl (bF rfl T.b_range (paC (aq (eh K rfl) rfl T.b_len A_ (paC (pv 0) af)) af)) (aD (i:=4) bJ.nd rfl (by walk_at "o")) (ao (PS.nox (fQ (aE C'9 (hr.m rfl) (paC (pv 0) (paC (pv 1) (paC (pv 2) (paC (pv 3) (paC (pv 4) af)))))))))) (aj (PS.nox (aG (i:=5) bJ.nd rfl (by walk_at "o") (aN (gY K rfl) rfl T.b_tuple IY (paC (dr (wi:=(ny (bi (tCB (uH K) (bi (bC 0) eW)) eW))) (g:=(bN 0)) (tts:=iS) (te:=(tBM K "list" (AF K) (bC 1) (bi (bC 0) eW))) ["i","leaders"] [none,some 3] rfl (bF rfl T.b_range (paC (aq (eh K rfl) rfl T.b_len A_ (paC (pv 0) af)) af)) (λ_ _ _ _=>⟨(aD (i:=0) (by show Ho (["i","leaders"]:List Str);decide +kernel) rfl (by walk_at "o")),bE,(jq K rfl Hs PySem.F.slot_list_index PySem.F.type_list_index (AG K rfl) (pv 1) (paC (pv 0) af))⟩) (by kernel_rfl)) af)))) (ao (PS.nox (aQ (nz (paC (pv 5) (paC (aN (gY K rfl) rfl T.b_tuple IY (paC (pv 1) af)) (paC (aN (gY K rfl) rfl T.b_tuple IY (paC (pv 2) af)) af))))))))))))),(λEc=>gc K mg TX Ec _)⟩
def qO(D:aY K mg "_law_deck" i9)(T:Txt mg)(TX:TxX K mg):lh P w K mg base:=D.oP2 cF (by walk_at "b2") qE rfl rfl λ_ _ _ _ _ _ _ hr hu=>⟨_,(aj (aG (i:=2) cF.nd rfl (by walk_at "o") (aL (bG K rfl) (aN (uO K rfl) rfl T.b_list Jn (paC (pv 0) af)) (aL kl (br (paC ax af)) (aN xr rfl T.b_int boot_int (paC (cV (ku K rfl hu) (aq (eh K rfl) rfl T.b_len A_ (paC (pv 0) af)) ax (aX _)) af))))) (aj (gU (wi:=(lv K (bC 2))) (g:=(bN 0)) (tts:=iS) (te:=(tOp zS (bC 0) (tCB Ad (bi (tOp Fd (bC 0) (tOp CM (tC (V.int 10)) (tC (V.int 18)))) eW)))) (i:=3) ["_law_cell"] [none] cF.nd rfl (Iq rfl) rfl (cg K rfl (pv 2)) (λ_ _ _ _=>⟨(aD (i:=0) (by show Ho (["_law_cell"]:List Str);decide +kernel) rfl (by walk_at "o")),bE,(aL kl (pv 0) (aN xr rfl T.b_int boot_int (paC (cV Bl (pv 0) (aL Ab ax ax) (aX _)) af)))⟩) (by kernel_rfl)) (aj (aG (i:=4) cF.nd rfl (by walk_at "o") (br af)) (aj (dz G_ rfl (bF rfl T.b_range (paC (pv 1) af)) (aD (i:=5) cF.nd rfl (by walk_at "o")) (aj (aG (i:=6) cF.nd rfl (by walk_at "o") (aL eF (pv 5) (aq (eh K rfl) rfl T.b_len A_ (paC (pv 2) af)))) (aj (aG (i:=7) cF.nd rfl (by walk_at "o") (aL (bG K rfl) (aL kl (aL eF (aL (bG K rfl) (aL (bG K rfl) (bf (df K rfl) (pv 2) (pv 6) (λ_ _=>rfl)) (aL kl (aL kl (pv 5) (pv 5)) ax)) (aL kl ax (pv 5))) ax) (bf (df K rfl) (br (paC ax (paC ax (paC ax (paC ax af))))) (aL eF (pv 5) ax) (λ_ _=>rfl))) ax)) (aj (fQ (jq K rfl Hs HQ HR dk (pv 4) (paC (bf (df K rfl) (br (paC (aL eF (aL kl (pv 7) (pv 7)) ax) (paC (aL eF (bf (df K rfl) (pv 3) (pv 6) (λ_ _=>rfl)) (aL Ab ax ax)) af))) (aN xr rfl T.b_int boot_int (paC (cV (ky K rfl hu) (bf (df K rfl) (pv 3) (pv 6) (λ_ _=>rfl)) ax (aX _)) af)) (λ_ _=>rfl)) af))) (ao (qj (aL AI (bf (df K rfl) (pv 3) (pv 6) (λ_ _=>rfl)) (aL Ab ax ax)) (tM (pv 3) (pv 6) gk))))))) (ao (aQ (qc K rfl rfl (pv 4) rfl T.b_list rfl T.b_reversed))))))),(kZ K mg TX)⟩
def qP(D:aY K mg "_law_next" jb)(T:Txt mg)(TX:TxX K mg):de P w K mg base:=D.oR2 qv (by walk_at "b1") qG rfl rfl λ_ _ _ _ _ _ _ hr hu=>⟨_,(ao (aQ (BW Hs Lf Lg BX (pv 0)))),(k6 K mg TX)⟩
def pG(D:aY K mg "_law_whole" g9)(T:Txt mg)(TX:TxX K mg):jC P w K mg base:=D.oP2 oI (by walk_at "b1") o9 rfl rfl λ_ _ _ _ _ _ _ hr hu=>⟨_,(ao (aQ (io (aq (sI K rfl) rfl T.b_isinstance y_ (paC (pv 0) (paC (fc (v:=.ty "int") rfl T.b_int boot_int rfl) af))) (jo (yg (aq (sI K rfl) rfl T.b_isinstance y_ (paC (pv 0) (paC (fc (v:=.ty "bool") rfl T.b_bool boot_bool rfl) af)))))))),(jy K mg TX)⟩
def jk(D:aY K mg "_law_next_order" du)(T:Txt mg)(TX:TxX K mg)(C'12:de P w K mg base):fb P w K mg base:=D.oR2 cY (by walk_at "b2") jj rfl rfl λ_ _ _ _ _ _ _ hr hu=>⟨_,(aj (aG (i:=2) cY.nd rfl (by walk_at "o") (aN (rm K rfl rfl) rfl T.b_list Jn (paC (ir rfl T.b_range (paC (pv 1) af)) af))) (aj (aG (i:=3) cY.nd rfl (by walk_at "o") (br af)) (aj (mm G_ (aZ (ky K rfl hu) (pv 2) (br af) (aX _)) (ao (fQ (jq K rfl Hs HQ HR dk (pv 3) (paC (jq K rfl Hs Lf Lg wO (pv 2) (paC (aL eF (aE C'12 (hr.m rfl) (paC (pv 0) af)) (aq (eh K rfl) rfl T.b_len A_ (paC (pv 2) af))) af)) af))))) (ao (aQ (pv 3)))))),(e9 K mg TX)⟩
def qQ(D:aY K mg "_law_made" jc)(T:Txt mg)(TX:TxX K mg)(C'12:de P w K mg base)(C'14:fb P w K mg base):li P w K mg base:=D.oR2 bo (by walk_at "b2") qI rfl rfl λ_ _ _ _ _ _ _ hr hu=>⟨_,(aj (aG (i:=2) bo.nd rfl (by walk_at "o") (bf (df K rfl) (br (paC ax (paC ax (paC ax (paC ax af))))) (aL eF (aE C'12 (hr.m rfl) (paC (pv 0) af)) ax) (λ_ _=>rfl))) (aj (gU (wi:=(ny (bi (bC 1) eW))) (g:=(bN 0)) (tts:=iS) (te:=(tOp uQ (gP (spR K aH) [] E0 (bi (bC 2) eW)) (bC 1))) (i:=3) ["_law_k","_law_size","_law_deck_here"] [none,some 2,some 0] bo.nd rfl (Iq rfl) rfl (bF rfl T.b_range (paC (pv 1) af)) (λ_ _ _ _=>⟨(aD (i:=0) (by show Ho (["_law_k","_law_size","_law_deck_here"]:List Str);decide +kernel) rfl (by walk_at "o")),bE,(aL eF (aE C'12 (hr.m rfl) (paC (pv 2) af)) (pv 1))⟩) (by kernel_rfl)) (aj (gU (wi:=(ny (bi (bC 1) eW))) (g:=(bN 0)) (tts:=iS) (te:=(tOp uQ (gP (spR K aH) [] E0 (bi (bC 2) eW)) (bC 1))) (i:=4) ["_law_k","_law_size","_law_deck_here"] [none,some 2,some 0] bo.nd rfl (Iq rfl) rfl (bF rfl T.b_range (paC (pv 1) af)) (λ_ _ _ _=>⟨(aD (i:=0) (by show Ho (["_law_k","_law_size","_law_deck_here"]:List Str);decide +kernel) rfl (by walk_at "o")),bE,(aL eF (aE C'12 (hr.m rfl) (paC (pv 2) af)) (pv 1))⟩) (by kernel_rfl)) (aj (aG (i:=5) bo.nd rfl (by walk_at "o") (aE C'14 (hr.m rfl) (paC (pv 0) (paC (pv 1) af)))) (aj (aG (i:=6) bo.nd rfl (by walk_at "o") (br af)) (aj (dz G_ rfl (bF rfl T.b_range (paC (pv 1) af)) (aD (i:=7) bo.nd rfl (by walk_at "o")) (aj (aG (i:=8) bo.nd rfl (by walk_at "o") (br af)) (aj (dz G_ rfl (bF rfl T.b_range (paC (pv 1) af)) (aD (i:=9) bo.nd rfl (by walk_at "o")) (aj (aG (i:=10) bo.nd rfl (by walk_at "o") (aE C'12 (hr.m rfl) (paC (pv 0) af))) (aj (aG (i:=11) bo.nd rfl (by walk_at "o") (aL (bG K rfl) (bf (df K rfl) (pv 3) (pv 7) (λ_ _=>rfl)) (bf (df K rfl) (pv 4) (pv 9) (λ_ _=>rfl)))) (aj (aG (i:=12) bo.nd rfl (by walk_at "o") (aq (CG rfl) rfl T.b_min boot_min (paC (aL kl (aL eF (pv 10) ax) (aL eF (aL uR (pv 10) ax) (pv 2))) (paC (pv 11) af)))) (ao (fQ (jq K rfl Hs HQ HR dk (pv 8) (paC (aL xo (pv 11) (aL kl (pv 12) (aN xr rfl T.b_int boot_int (paC (cV (ky K rfl hu) (bf (df K rfl) (pv 5) (pv 7) (λ_ _=>rfl)) (pv 9) (aX _)) af)))) af)))))))) (ao (fQ (jq K rfl Hs HQ HR dk (pv 6) (paC (pv 8) af))))))) (ao (aQ (nz (paC (pv 6) (paC (br (paC (pv 5) (paC (pv 3) (paC (pv 4) af)))) af))))))))))),(k7 K mg TX)⟩
def pH(D:aY K mg "_law_right" hG)(T:Txt mg)(TX:TxX K mg):jD P w K mg base:=D.oP2 eu (by walk_at "b4") pq rfl rfl λ_ _ _ _ _ _ _ hr hu=>⟨_,(aj (dz G_ rfl (bF rfl T.b_range (paC (aq (eh K rfl) rfl T.b_len A_ (paC (pv 0) af)) af)) (aD (i:=4) eu.nd rfl (by walk_at "o")) (aj (aG (i:=5) eu.nd rfl (by walk_at "o") (bf (df K rfl) (pv 1) (pv 4) (λ_ _=>rfl))) (aj (bQ (PW.pt (gw (aZ Cn (bf (df K rfl) (pv 2) (pv 4) (λ_ _=>rfl)) ax (aX _)) (gw (aZ Cn (bf (df K rfl) (pv 3) (pv 4) (λ_ _=>rfl)) ax (aX _)) (gC (aZ (ky K rfl hu) (aL (bG K rfl) (bf (df K rfl) (pv 2) (pv 4) (λ_ _=>rfl)) (bf (df K rfl) (pv 3) (pv 5) (λ_ _=>rfl))) (bf (df K rfl) (bf (df K rfl) (pv 0) (pv 4) (λ_ _=>rfl)) (pv 5) (λ_ _=>rfl)) (aX _)))))) (ao (aQ eV)) aI) (ao (dz G_ rfl (bF rfl T.b_range (paC (aq (eh K rfl) rfl T.b_len A_ (paC (pv 0) af)) af)) (aD (i:=5) eu.nd rfl (by walk_at "o")) (ao (bQ (aZ Cn (aL (bG K rfl) (bf (df K rfl) (pv 2) (pv 4) (λ_ _=>rfl)) (bf (df K rfl) (pv 3) (pv 5) (λ_ _=>rfl))) (bf (df K rfl) (bf (df K rfl) (pv 0) (pv 4) (λ_ _=>rfl)) (pv 5) (λ_ _=>rfl)) (aX _)) (ao (aQ eV)) aI))))))) (ao (aQ eV))),(jz K mg TX)⟩
def tE(D:aY K mg "_law_all" kM)(T:Txt mg)(TX:TxX K mg):mi P w K mg base:=D.oP2 cZ (by walk_at "b1") tD rfl rfl λ_ _ _ _ _ _ _ hr hu=>⟨_,(aj (aG (i:=1) cZ.nd rfl (by walk_at "o") (br (paC (br af) af))) (aj (dz G_ rfl (bF rfl T.b_range (paC (pv 0) af)) (aD (i:=2) cZ.nd rfl (by walk_at "o")) (aj (aG (i:=3) cZ.nd rfl (by walk_at "o") (br af)) (aj (dz G_ rfl (cg K rfl (pv 1)) (aD (i:=4) cZ.nd rfl (by walk_at "o")) (ao (dz G_ rfl (bF rfl T.b_range (paC (pv 0) af)) (aD (i:=5) cZ.nd rfl (by walk_at "o")) (ao (bQ (aZ (xw K rfl) (pv 5) (pv 4) (by with_unfolding_all rfl)) (ao (fQ (jq K rfl Hs HQ HR dk (pv 3) (paC (aL (bG K rfl) (pv 4) (br (paC (pv 5) af))) af)))) aI))))) (ao (aG (i:=1) cZ.nd rfl (by walk_at "o") (pv 3)))))) (ao (aQ (pv 1))))),(mh K mg TX)⟩
def qR(D:aY K mg "_law_word" jd)(T:Txt mg)(TX:TxX K mg):D9 P w K mg base 1 "_law_word" ["_law_error"] (spP K dW):=by
 refine D.okN aO (λ_ _ _ _ _ _ us hl=>match us,hl with|[_],_=>rfl) (λvs H Q E h=>?_) (λf cdv A outer s H vs Q E hr h=>?_)
 .exact Ff (λds Q h=>(il ds Q h).1) h
 .have hu:=hr.units;exact⟨_,(aj (aG (i:=1) aO.nd rfl (by walk_at "o") (bM (l:=[]) (by decide +kernel))) (aj (bX (bQ (aP (aq (gZ K rfl) rfl T.b_isinstance y_ (paC (pv 0) (paC (cC TX.m'b) af)))) (ao (aG (i:=1) aO.nd rfl (by walk_at "o") (aL (bG K rfl) (pv 1) (bM (l:=[84,111,111,77,97,110,121,32]) (by decide +kernel))))) aI)) (aj (bX (bQ (aP (aq (gZ K rfl) rfl T.b_isinstance y_ (paC (pv 0) (paC (cC TX.m'c) af)))) (ao (aG (i:=1) aO.nd rfl (by walk_at "o") (aL (bG K rfl) (pv 1) (bM (l:=[78,111,80,105,101,99,101,32]) (by decide +kernel))))) aI)) (aj (bX (bQ (aP (aq (gZ K rfl) rfl T.b_isinstance y_ (paC (pv 0) (paC (cC TX.m'd) af)))) (ao (aG (i:=1) aO.nd rfl (by walk_at "o") (aL (bG K rfl) (pv 1) (bM (l:=[78,111,76,97,112,32]) (by decide +kernel))))) aI)) (aj (bX (bQ (aP (aq (gZ K rfl) rfl T.b_isinstance y_ (paC (pv 0) (paC (cC TX.m'e) af)))) (ao (aG (i:=1) aO.nd rfl (by walk_at "o") (aL (bG K rfl) (pv 1) (bM (l:=[78,111,79,114,100,101,114,32]) (by decide +kernel))))) aI)) (aj (bX (bQ (aP (aq (gZ K rfl) rfl T.b_isinstance y_ (paC (pv 0) (paC (cC TX.m'f) af)))) (ao (aG (i:=1) aO.nd rfl (by walk_at "o") (aL (bG K rfl) (pv 1) (bM (l:=[78,111,116,72,101,108,100,32]) (by decide +kernel))))) aI)) (aj (bX (bQ (aP (aq (gZ K rfl) rfl T.b_isinstance y_ (paC (pv 0) (paC (cC TX.m'g) af)))) (ao (aG (i:=1) aO.nd rfl (by walk_at "o") (aL (bG K rfl) (pv 1) (bM (l:=[78,111,84,97,98,108,101,32]) (by decide +kernel))))) aI)) (aj (bX (bQ (aP (aq (gZ K rfl) rfl T.b_isinstance y_ (paC (pv 0) (paC (cC TX.m'h) af)))) (ao (aG (i:=1) aO.nd rfl (by walk_at "o") (aL (bG K rfl) (pv 1) (bM (l:=[78,111,82,105,110,103,32]) (by decide +kernel))))) aI)) (aj (bX (bQ (aP (aq (gZ K rfl) rfl T.b_isinstance y_ (paC (pv 0) (paC (cC TX.m'i) af)))) (ao (aG (i:=1) aO.nd rfl (by walk_at "o") (aL (bG K rfl) (pv 1) (bM (l:=[84,111,111,71,114,101,97,116,32]) (by decide +kernel))))) aI)) (aj (bX (bQ (aP (aq (gZ K rfl) rfl T.b_isinstance y_ (paC (pv 0) (paC (cC TX.m'j) af)))) (ao (aG (i:=1) aO.nd rfl (by walk_at "o") (aL (bG K rfl) (pv 1) (bM (l:=[78,111,87,111,114,100,115,32]) (by decide +kernel))))) aI)) (aj (bX (bQ (aP (aq (gZ K rfl) rfl T.b_isinstance y_ (paC (pv 0) (paC (cC TX.m'k) af)))) (ao (aG (i:=1) aO.nd rfl (by walk_at "o") (aL (bG K rfl) (pv 1) (bM (l:=[78,111,116,65,112,97,114,116,32]) (by decide +kernel))))) aI)) (aj (bX (bQ (aP (aq (gZ K rfl) rfl T.b_isinstance y_ (paC (pv 0) (paC (cC TX.m'l) af)))) (ao (aG (i:=1) aO.nd rfl (by walk_at "o") (aL (bG K rfl) (pv 1) (bM (l:=[78,111,67,111,117,110,116,115,32]) (by decide +kernel))))) aI)) (aj (bX (bQ (aP (aq (gZ K rfl) rfl T.b_isinstance y_ (paC (pv 0) (paC (cC TX.m'm) af)))) (ao (aG (i:=1) aO.nd rfl (by walk_at "o") (aL (bG K rfl) (pv 1) (bM (l:=[78,111,116,67,111,118,101,114,101,100,32]) (by decide +kernel))))) aI)) (aj (bX (bQ (PW.pt (gw (aP (aq (gZ K rfl) rfl T.b_isinstance y_ (paC (pv 0) (paC (cC TX.m'n) af)))) (gw (aP (aq (gZ K rfl) rfl T.b_isinstance y_ (paC (pv 0) (paC (cC TX.m'o) af)))) (gC (aP (aq (gZ K rfl) rfl T.b_isinstance y_ (paC (pv 0) (paC (cC TX.m'p) af)))))))) (ao (aG (i:=1) aO.nd rfl (by walk_at "o") (aL (bG K rfl) (pv 1) (bM (l:=[111,116,104,101,114,32]) (by decide +kernel))))) aI)) (aj (bX (bQ (dy (aP (aq (Fl K rfl) rfl T.b_isinstance y_ (paC (pv 0) (paC (fc (v:=.ty "ValueError") rfl T.b_ValueError PyProof.Rows.Boot.«ValueError» rfl) af))))) (ao (aG (i:=1) aO.nd rfl (by walk_at "o") (aL (bG K rfl) (pv 1) (bM (l:=[110,111,110,101]) (by decide +kernel))))) aI)) (ao (aQ (pv 1)))))))))))))))))),fnP (K:=K) (c:=dW) (ps:=k8) (N:=["_law_error","_law_found"]) (au (aC (le_str (l:=[])) (ay (i:=1) rfl)) (au (bZ (bU (gy (dN (d:="TooMany") TX.all (by first|exact Jb rfl|exact Iq (t_.mp (by decide +kernel))) (am (i:=0)))) (aC (ap aV (am (i:=1)) (ac (le_str (l:=[84,111,111,77,97,110,121,32])))) (ay (i:=1) rfl)) aJ)) (au (bZ (bU (gy (dN (d:="NoPiece") TX.all (by first|exact Jb rfl|exact Iq (t_.mp (by decide +kernel))) (am (i:=0)))) (aC (ap aV (am (i:=1)) (ac (le_str (l:=[78,111,80,105,101,99,101,32])))) (ay (i:=1) rfl)) aJ)) (au (bZ (bU (gy (dN (d:="NoLap") TX.all (by first|exact Jb rfl|exact Iq (t_.mp (by decide +kernel))) (am (i:=0)))) (aC (ap aV (am (i:=1)) (ac (le_str (l:=[78,111,76,97,112,32])))) (ay (i:=1) rfl)) aJ)) (au (bZ (bU (gy (dN (d:="NoOrder") TX.all (by first|exact Jb rfl|exact Iq (t_.mp (by decide +kernel))) (am (i:=0)))) (aC (ap aV (am (i:=1)) (ac (le_str (l:=[78,111,79,114,100,101,114,32])))) (ay (i:=1) rfl)) aJ)) (au (bZ (bU (gy (dN (d:="NotHeld") TX.all (by first|exact Jb rfl|exact Iq (t_.mp (by decide +kernel))) (am (i:=0)))) (aC (ap aV (am (i:=1)) (ac (le_str (l:=[78,111,116,72,101,108,100,32])))) (ay (i:=1) rfl)) aJ)) (au (bZ (bU (gy (dN (d:="NoTable") TX.all (by first|exact Jb rfl|exact Iq (t_.mp (by decide +kernel))) (am (i:=0)))) (aC (ap aV (am (i:=1)) (ac (le_str (l:=[78,111,84,97,98,108,101,32])))) (ay (i:=1) rfl)) aJ)) (au (bZ (bU (gy (dN (d:="NoRing") TX.all (by first|exact Jb rfl|exact Iq (t_.mp (by decide +kernel))) (am (i:=0)))) (aC (ap aV (am (i:=1)) (ac (le_str (l:=[78,111,82,105,110,103,32])))) (ay (i:=1) rfl)) aJ)) (au (bZ (bU (gy (dN (d:="TooGreat") TX.all (by first|exact Jb rfl|exact Iq (t_.mp (by decide +kernel))) (am (i:=0)))) (aC (ap aV (am (i:=1)) (ac (le_str (l:=[84,111,111,71,114,101,97,116,32])))) (ay (i:=1) rfl)) aJ)) (au (bZ (bU (gy (dN (d:="NoWords") TX.all (by first|exact Jb rfl|exact Iq (t_.mp (by decide +kernel))) (am (i:=0)))) (aC (ap aV (am (i:=1)) (ac (le_str (l:=[78,111,87,111,114,100,115,32])))) (ay (i:=1) rfl)) aJ)) (au (bZ (bU (gy (dN (d:="NotApart") TX.all (by first|exact Jb rfl|exact Iq (t_.mp (by decide +kernel))) (am (i:=0)))) (aC (ap aV (am (i:=1)) (ac (le_str (l:=[78,111,116,65,112,97,114,116,32])))) (ay (i:=1) rfl)) aJ)) (au (bZ (bU (gy (dN (d:="NoCounts") TX.all (by first|exact Jb rfl|exact Iq (t_.mp (by decide +kernel))) (am (i:=0)))) (aC (ap aV (am (i:=1)) (ac (le_str (l:=[78,111,67,111,117,110,116,115,32])))) (ay (i:=1) rfl)) aJ)) (au (bZ (bU (gy (dN (d:="NotCovered") TX.all (by first|exact Jb rfl|exact Iq (t_.mp (by decide +kernel))) (am (i:=0)))) (aC (ap aV (am (i:=1)) (ac (le_str (l:=[78,111,116,67,111,118,101,114,101,100,32])))) (ay (i:=1) rfl)) aJ)) (au (bZ (bU (gz (gy (dN (d:="NoLine") TX.all (by first|exact Jb rfl|exact Iq (t_.mp (by decide +kernel))) (am (i:=0)))) (gz (gy (dN (d:="NoPaper") TX.all (by first|exact Jb rfl|exact Iq (t_.mp (by decide +kernel))) (am (i:=0)))) (gy (dN (d:="NotTold") TX.all (by first|exact Jb rfl|exact Iq (t_.mp (by decide +kernel))) (am (i:=0)))))) (aC (ap aV (am (i:=1)) (ac (le_str (l:=[111,116,104,101,114,32])))) (ay (i:=1) rfl)) aJ)) (au (bZ (bU (dA (gy (CZ TX.all (am (i:=0))))) (aC (ap aV (am (i:=1)) (ac (le_str (l:=[110,111,110,101])))) (ay (i:=1) rfl)) aJ)) (aR (ar (i:=1)))))))))))))))))) (λds Q h=>HP (KU (il ds Q h).1) (by decide)) (λds Q h=>(il ds Q h).2) h⟩
def pI(D:aY K mg "_law_cells" hU)(T:Txt mg)(TX:TxX K mg)(C'12:de P w K mg base):jE P w K mg base:=D.oR2 jr (by walk_at "b2") pw rfl rfl λ_ _ _ _ _ _ _ hr hu=>⟨_,(aj (aG (i:=2) jr.nd rfl (by walk_at "o") (bf (df K rfl) (br (paC ax (paC ax (paC ax (paC ax af))))) (aL eF (aE C'12 (hr.m rfl) (paC (pv 0) af)) ax) (λ_ _=>rfl))) (ao (aQ (dr (wi:=(ny (bi (bC 1) eW))) (g:=(bN 0)) (tts:=iS) (te:=(nR [none,some 1,some 2] (ny (bi (bC 3) eW)) (bN 0) iS (tOp uQ (gP (spR K aH) [] E0 (bi (bC 2) eW)) (bC 1)))) ["_law_i","_law_size","_law_deck_here","_law_many"] [none,some 2,some 0,some 1] rfl (bF rfl T.b_range (paC (pv 1) af)) (λ_ _ _ _=>⟨(aD (i:=0) (by show Ho (["_law_i","_law_size","_law_deck_here","_law_many"]:List Str);decide +kernel) rfl (by walk_at "o")),bE,(dr (wi:=(ny (bi (bC 3) eW))) (g:=(bN 0)) (tts:=iS) (te:=(tOp uQ (gP (spR K aH) [] E0 (bi (bC 2) eW)) (bC 1))) ["_law_j","_law_size","_law_deck_here"] [none,some 1,some 2] rfl (bF rfl T.b_range (paC (pv 3) af)) (λ_ _ _ _=>⟨(aD (i:=0) (by show Ho (["_law_j","_law_size","_law_deck_here"]:List Str);decide +kernel) rfl (by walk_at "o")),bE,(aL eF (aE C'12 (hr.m rfl) (paC (pv 2) af)) (pv 1))⟩) (by kernel_rfl))⟩) (by kernel_rfl))))),(jA K mg TX)⟩
def pJ(D:aY K mg "_law_table" hV)(T:Txt mg)(TX:TxX K mg)(C'19:jE P w K mg base)(C'15:li P w K mg base)(C'12:de P w K mg base):jF P w K mg base:=D.oR2 oJ (by walk_at "b2") pD rfl rfl λ_ _ _ _ _ _ _ hr hu=>⟨_,(aj (bQ (aZ (ku K rfl hu) (aL eF (aE C'12 (hr.m rfl) (paC (pv 0) af)) ax) ax (aX _)) (ao (aQ (aE C'19 (hr.m rfl) (paC (pv 0) (paC (pv 1) af))))) aI) (ao (aQ (bf (df K rfl) (aE C'15 (hr.m rfl) (paC (pv 0) (paC (pv 1) af))) ax (λ_ _=>rfl))))),(jB K mg TX)⟩
def qS(D:aY K mg "_law_told" je)(T:Txt mg)(TX:TxX K mg):ll P w K mg base:=D.oP2 fE (by walk_at "b2") qK rfl rfl λ_ _ _ _ _ _ _ hr hu=>⟨_,(aj (aG (i:=2) fE.nd rfl (by walk_at "o") ax) (aj (dz G_ rfl (bF rfl T.b_range (paC (aq (eh K rfl) rfl T.b_len A_ (paC (pv 1) af)) af)) (aD (i:=3) fE.nd rfl (by walk_at "o")) (ao (aG (i:=2) fE.nd rfl (by walk_at "o") (aL (bG K rfl) (pv 2) (bf (df K rfl) (bf (df K rfl) (pv 0) (pv 3) (λ_ _=>rfl)) (bf (df K rfl) (pv 1) (pv 3) (λ_ _=>rfl)) (λ_ _=>rfl)))))) (ao (aQ (pv 2))))),(k9 K mg TX)⟩
def lW(D:aY K mg "_law_is_best" fB)(T:Txt mg)(TX:TxX K mg)(C'17:mi P w K mg base)(C'16:jD P w K mg base)(C'21:ll P w K mg base)(C'13:jC P w K mg base):gL P w K mg base:=D.oP2 dg (by walk_at "b2") lR rfl rfl λ_ _ _ _ _ _ _ hr hu=>⟨_,(aj (bQ (PW.pt (gw (dy (aP (aq (sI K rfl) rfl T.b_isinstance y_ (paC (pv 1) (paC (fc (v:=.ty "tuple") rfl T.b_tuple IY rfl) af))))) (gC (aZ (ky K rfl hu) (aq (eh K rfl) rfl T.b_len A_ (paC (pv 1) af)) ax (aX _))))) (ao (aQ eV)) aI) (aj (dz G_ rfl (cg K rfl (pv 1)) (aD (i:=2) dg.nd rfl (by walk_at "o")) (ao (bQ (PW.pt (gw (dy (aP (aq (sI K rfl) rfl T.b_isinstance y_ (paC (pv 2) (paC (fc (v:=.ty "tuple") rfl T.b_tuple IY rfl) af))))) (gw (aZ (ky K rfl hu) (aq (eh K rfl) rfl T.b_len A_ (paC (pv 2) af)) (aq (eh K rfl) rfl T.b_len A_ (paC (pv 0) af)) (aX _)) (gC (aZ (ky K rfl hu) (dr (wi:=(lv K (bC 2))) (g:=(bN 0)) (tts:=(Ed (tB (gP (spP K eB) [] E0 (bi (bC 0) eW))))) (te:=(bC 0)) ["_law_one"] [none] rfl (cg K rfl (pv 2)) (λ_ _ _ _=>⟨(aD (i:=0) (by show Ho (["_law_one"]:List Str);decide +kernel) rfl (by walk_at "o")),(zF (dy (aP (aE C'13 (hr.m rfl) (paC (pv 0) af))))),(pv 0)⟩) (by kernel_rfl)) (br af) (aX _)))))) (ao (aQ eV)) aI))) (aj (bQ (PW.pt (gw (aZ (ky K rfl hu) (aq (uV K rfl) rfl T.b_sorted boot_sorted (paC (bf (df K rfl) (pv 1) ax (λ_ _=>rfl)) af)) (aN (rm K rfl rfl) rfl T.b_list Jn (paC (ir rfl T.b_range (paC (aq (eh K rfl) rfl T.b_len A_ (paC (pv 0) af)) af)) af)) (aX _)) (gC (dy (aP (aE C'16 (hr.m rfl) (paC (pv 0) (paC (bf (df K rfl) (pv 1) ax (λ_ _=>rfl)) (paC (bf (df K rfl) (pv 1) ax (λ_ _=>rfl)) (paC (bf (df K rfl) (pv 1) ax (λ_ _=>rfl)) af)))))))))) (ao (aQ eV)) aI) (aj (bQ (aZ Fe (aq (eh K rfl) rfl T.b_len A_ (paC (pv 0) af)) ax (aX _)) (ao (aQ eV)) aI) (aj (aG (i:=3) dg.nd rfl (by walk_at "o") (aE C'21 (hr.m rfl) (paC (pv 0) (paC (bf (df K rfl) (pv 1) ax (λ_ _=>rfl)) af)))) (aj (dz G_ rfl (cg K rfl (aE C'17 (hr.m rfl) (paC (aq (eh K rfl) rfl T.b_len A_ (paC (pv 0) af)) af))) (aD (i:=4) dg.nd rfl (by walk_at "o")) (ao (bQ (aZ Fe (aE C'21 (hr.m rfl) (paC (pv 0) (paC (pv 4) af))) (pv 3) (aX _)) (ao (aQ eV)) aI))) (ao (aQ eV)))))))),(gI K mg TX)⟩
def lX(D:aY K mg "_law_refused" fC)(T:Txt mg)(TX:TxX K mg)(C'18:qL P w K mg base)(C'10:dZ P w K mg base):gM P w K mg base:=D.oP2 gF (by walk_at "b1") lT rfl rfl λ_ _ _ _ _ _ _ hr hu=>⟨_,(aj (C5 rfl rfl (λJ pn E px=>aj (fQ (kC C'10 (hr.m rfl) px (paC (pv 0) af))) aI) (Db 1 K rfl TX.d'a TX.m'a gF.nd rfl rfl (λ_=>(ao (aQ (cV (ku K rfl hu) (AO C'18 ((hr.mark _).mono (by decide)) (paC (pv 1) af)) (bM (l:=[78,111,84,97,98,108,101,32]) (by decide +kernel)) (aX _))))) C4)) (ao (aQ eV))),(gJ K mg TX)⟩
def jQ(D:aY K mg "_law_no_tables" dP)(T:Txt mg)(TX:TxX K mg):fP P w K mg base:=D.oP2 cv (by walk_at "b2") jO rfl rfl λ_ _ _ _ _ _ _ hr hu=>⟨_,(@aj _ _ _ _ _ (@aG _ _ 2 _ _ _ _ cv.nd rfl (by walk_at "o") (@br _ _ _ _ (@paC _ _ _ _ _ tL (@paC _ _ _ _ _ ax (@paC _ _ _ _ _ (@bM _ _ _ ([97,98,99]) _ (by decide +kernel)) (@paC _ _ _ _ _ mG (@paC _ _ _ _ _ (@br _ _ _ _ (@paC _ _ _ _ _ (@br _ _ _ _ af) af rfl)) (@paC _ _ _ _ _ (@aL _ _ _ _ _ _ _ _ kl (@br _ _ _ _ (@paC _ _ _ _ _ (@aL _ _ _ _ _ _ _ _ kl (@br _ _ _ _ (@paC _ _ _ _ _ ax af rfl)) ax) af rfl)) ax) (@paC _ _ _ _ _ (@br _ _ _ _ (@paC _ _ _ _ _ (@br _ _ _ _ (@paC _ _ _ _ _ ax af rfl)) (@paC _ _ _ _ _ (@br _ _ _ _ (@paC _ _ _ _ _ ax af rfl)) af rfl) rfl)) (@paC _ _ _ _ _ (@br _ _ _ _ (@paC _ _ _ _ _ (@br _ _ _ _ (@paC _ _ _ _ _ ax (@paC _ _ _ _ _ ax af rfl) rfl)) af rfl)) (@paC _ _ _ _ _ (@br _ _ _ _ (@paC _ _ _ _ _ tL af rfl)) (@paC _ _ _ _ _ (@br _ _ _ _ (@paC _ _ _ _ _ (@bM _ _ _ [97] _ (by decide +kernel)) af rfl)) (@paC _ _ _ _ _ (@br _ _ _ _ (@paC _ _ _ _ _ (@br _ _ _ _ (@paC _ _ _ _ _ ax (@paC _ _ _ _ _ ax af rfl) rfl)) (@paC _ _ _ _ _ (@br _ _ _ _ (@paC _ _ _ _ _ ax (@paC _ _ _ _ _ (@bM _ _ _ [48] _ (by decide +kernel)) af rfl) rfl)) af rfl) rfl)) af rfl) rfl) rfl) rfl) rfl) rfl) rfl) rfl) rfl) rfl) rfl)) rfl (by first|exact .inl rfl|exact .inr rfl|assumption)) (@aj _ _ _ _ _ (@bX _ _ _ (@bQ _ _ _ _ _ _ _ _ (@aZ _ _ _ _ _ _ _ _ (ky K rfl hu) (@pv _ 0 _ _ rfl (by walk_at "o") (by decide) (by decide)) (@br _ _ _ _ af) (aX _)) (@ao _ _ _ (@dz _ _ _ _ _ _ _ _ G_ rfl (@cg _ _ K rfl _ _ (@br _ _ _ _ (@paC _ _ _ _ _ (@wI _ _ _ _ _ _ qV ax) (@paC _ _ _ _ _ ax (@paC _ _ _ _ _ eV (@paC _ _ _ _ _ tL af rfl) rfl) rfl) rfl))) (@aD _ _ 3 _ cv.nd rfl (by walk_at "o") (by first|exact .inl rfl|exact .inr rfl|assumption)) (@aj _ _ _ _ _ (@gU _ _ _ _ _ _ ((lv K (bC 0))) ((bN 0)) iS ((tCB (gW K) (bi (bC 0) eW))) 4 _ _ _ _ ["_law_row"] [none] cv.nd rfl (Iq rfl) rfl (@cg _ _ K rfl _ _ (@pv _ 0 _ _ rfl (by walk_at "o") (by decide) (by decide))) (λ_ _ _ _=>⟨(aD (i:=0) (by show Ho (["_law_row"]:List Str);decide +kernel) rfl (by walk_at "o")),bE,(aN (uO K rfl) rfl T.b_list Jn (paC (pv 0) af))⟩) (by kernel_rfl) rfl (λ_=>rfl) (by first|exact .inl rfl|exact .inr rfl|assumption)) (@aj _ _ _ _ _ (@qj _ _ _ _ _ _ _ _ (@pv _ 3 _ _ rfl (by walk_at "o") (by decide) (by decide)) (@tM _ _ _ _ _ _ _ (@bf _ _ _ _ _ _ _ (df K rfl) (@pv _ 4 _ _ rfl (by walk_at "o") (by decide) (by decide)) (@aL _ _ _ _ _ _ _ _ eF (@pv _ 1 _ _ rfl (by walk_at "o") (by decide) (by decide)) (@aq _ _ _ _ _ _ _ _ _ (eh K rfl) rfl T.b_len A_ (@paC _ _ _ _ _ (@pv _ 0 _ _ rfl (by walk_at "o") (by decide) (by decide)) af rfl) (by decide) (by decide) rfl rfl)) (λ_ _=>rfl)) (@aL _ _ _ _ _ _ _ _ eF (@aL _ _ _ _ _ _ _ _ uR (@pv _ 1 _ _ rfl (by walk_at "o") (by decide) (by decide)) ax) (@aq _ _ _ _ _ _ _ _ _ (eh K rfl) rfl T.b_len A_ (@paC _ _ _ _ _ (@pv _ 0 _ _ rfl (by walk_at "o") (by decide) (by decide)) af rfl) (by decide) (by decide) rfl rfl)) gk (λ_=>rfl)) rfl) (@ao _ _ _ (@fQ _ _ _ _ (@jq _ _ _ _ _ _ _ _ _ _ _ _ K rfl Hs HQ HR dk (@pv _ 2 _ _ rfl (by walk_at "o") (by decide) (by decide)) (@paC _ _ _ _ _ (@pv _ 4 _ _ rfl (by walk_at "o") (by decide) (by decide)) af rfl) rfl rfl rfl rfl rfl) rfl)))) (λ_=>rfl))) aI)) (@ao _ _ _ (@aQ _ _ _ _ (@pv _ 2 _ _ rfl (by walk_at "o") (by decide) (by decide)))))),(fN K mg TX)⟩
def DU(D:aY K mg "law" xL)(T:Txt mg)(TX:TxX K mg)(C'11:lh P w K mg base)(C'22:gL P w K mg base)(C'12:de P w K mg base)(C'24:fP P w K mg base)(C'23:gM P w K mg base)(C'20:jF P w K mg base)(C'10:dZ P w K mg base)(C'7:dY P w K mg base):DT P w K mg base:=D.oP2 fZ (by walk_at "b1") DS rfl rfl λ_ _ _ _ _ _ _ hr hu=>⟨_,(aj (aG (i:=1) fZ.nd rfl (by walk_at "o") (aE C'11 (hr.m rfl) (paC (pv 0) (paC ax af)))) (aj (aG (i:=2) fZ.nd rfl (by walk_at "o") (aL eF (aE C'12 (hr.m rfl) (paC (pv 1) af)) ax)) (aj (bX (bQ (aZ (ku K rfl hu) (aL eF (aE C'12 (hr.m rfl) (paC (pv 1) af)) ax) ax (aX _)) (aj (aG (i:=3) fZ.nd rfl (by walk_at "o") (aE C'12 (hr.m rfl) (paC (pv 1) af))) (aj (aG (i:=2) fZ.nd rfl (by walk_at "o") (aL (bG K rfl) ax (aL eF (pv 3) ax))) (ao (bQ (aZ (ku K rfl hu) (aL eF (aL uR (pv 3) ax) ax) ax (aX _)) (ao (aG (i:=2) fZ.nd rfl (by walk_at "o") ax)) aI)))) aI)) (aj (aG (i:=4) fZ.nd rfl (by walk_at "o") (aE C'20 (hr.m rfl) (paC (pv 1) (paC (pv 2) af)))) (aj (aG (i:=5) fZ.nd rfl (by walk_at "o") (aE C'20 (hr.m rfl) (paC (pv 1) (paC (aL eF (aE C'12 (hr.m rfl) (paC (pv 1) af)) ax) af)))) (aj (gU (wi:=(lv K (bC 4))) (g:=(bN 0)) (tts:=iS) (te:=(tCB (gW K) (bi (bC 0) eW))) (i:=6) ["_law_row"] [none] fZ.nd rfl (Iq rfl) rfl (cg K rfl (pv 4)) (λ_ _ _ _=>⟨(aD (i:=0) (by show Ho (["_law_row"]:List Str);decide +kernel) rfl (by walk_at "o")),bE,(aN (uO K rfl) rfl T.b_list Jn (paC (pv 0) af))⟩) (by kernel_rfl)) (aj (aG (i:=7) fZ.nd rfl (by walk_at "o") (kC C'10 (hr.m rfl) px0 (paC (pv 6) af))) (aj (bQ (PW.pt (gw (aZ (ky K rfl hu) (pv 6) (pv 4) (aX _)) (gw (dy (aP (aE C'22 (hr.m rfl) (paC (pv 4) (paC (pv 7) af))))) (gC (aZ zU (aE C'7 (hr.m rfl) (paC (pv 4) (paC (pv 7) af))) eV (aX _)))))) (ao (aQ eV)) aI) (aj (bQ (dy (aP (aE C'22 (hr.m rfl) (paC (pv 5) (paC (kC C'10 (hr.m rfl) px0 (paC (aN (gY K rfl) rfl T.b_tuple IY (paC (dr (wi:=(lv K (bC 5))) (g:=(bN 0)) (tts:=iS) (te:=(tCB (xl K) (bi (bC 0) eW))) ["_law_row"] [none] rfl (cg K rfl (pv 5)) (λ_ _ _ _=>⟨(aD (i:=0) (by show Ho (["_law_row"]:List Str);decide +kernel) rfl (by walk_at "o")),bE,(aN (gY K rfl) rfl T.b_tuple IY (paC (pv 0) af))⟩) (by kernel_rfl)) af)) af)) af))))) (ao (aQ eV)) aI) (aj (dz G_ rfl (cg K rfl (aE C'24 (hr.m rfl) (paC (pv 4) (paC (aE C'12 (hr.m rfl) (paC (pv 1) af)) af)))) (aD (i:=8) fZ.nd rfl (by walk_at "o")) (ao (bQ (dy (aP (aE C'23 (hr.m rfl) (paC (pv 8) af)))) (ao (aQ eV)) aI))) (ao (aQ (io (cV (ku K rfl hu) (kC C'10 (hr.m rfl) px0 (paC (aN (gY K rfl) rfl T.b_tuple IY (paC (dr (wi:=(lv K (bC 4))) (g:=(bN 0)) (tts:=iS) (te:=(tCB (xl K) (bi (bC 0) eW))) ["_law_row"] [none] rfl (cg K rfl (pv 4)) (λ_ _ _ _=>⟨(aD (i:=0) (by show Ho (["_law_row"]:List Str);decide +kernel) rfl (by walk_at "o")),bE,(aN (gY K rfl) rfl T.b_tuple IY (paC (pv 0) af))⟩) (by kernel_rfl)) af)) af)) (pv 7) (aX _)) (jo (cV (ku K rfl hu) (kC C'10 (hr.m rfl) px0 (paC (pv 6) af)) (pv 7) (aX _)))))))))))))))),(zd K mg TX)⟩
end
def DW{l:Lb}{w:World}{K:b_}{h:Heap}{mg:Str->Option Value}{fa:Addr}(X:K.In h)(G:h.Ns mainGlobals mg)(hfa:mg "law"=some (.ref fa))
  {C'a:Addr} (aC'a:D_ K mainGlobals "GlueError"=some (some (.ref C'a))) {q'a:Str}{N'a:Addr}{bs'a sub'a:List Value}{sn'a:List Str}{ab'a:Bool}{col'a:Option Bool}{k0'a k1'a k2'a k3'a k5'a:Option Value} (lC'a:K.lookup C'a=some (excClassObj "GlueError" q'a C'a N'a bs'a [.type "ValueError",.type "Exception",.type "BaseException",.type "object"] true sn'a sub'a ab'a col'a none k0'a k1'a k2'a k3'a k5'a "ValueError.__new__")) (xq'a:Ig K C'a [.type "ValueError",.type "Exception",.type "BaseException",.type "object"] "ValueError.__new__"=true)
  {C'b:Addr} (b'b:XI K C'a "TooMany" C'b)
  (j'b:XJ K C'b "TooMany.__init__" "most" eJ)
  {C'c:Addr} (b'c:XI K C'a "NoPiece" C'c)
  (j'c:XJ K C'c "NoPiece.__init__" "at" eM)
  {C'd:Addr} (b'd:XI K C'a "NoLap" C'd)
  (j'd:XJ K C'd "NoLap.__init__" "k" f7)
  {C'e:Addr} (b'e:XI K C'a "NoOrder" C'e)
  (xq'e:Ig K C'e [.type "ValueError",.type "Exception",.type "BaseException",.type "object"] "ValueError.__new__"=true)
  {C'f:Addr} (b'f:XI K C'a "NotHeld" C'f)
  (j'f:XJ K C'f "NotHeld.__init__" "at" eN)
  {C'g:Addr} (b'g:XI K C'a "NoTable" C'g)
  (xq'g:Ig K C'g [.type "ValueError",.type "Exception",.type "BaseException",.type "object"] "ValueError.__new__"=true)
  {C'h:Addr} (b'h:XI K C'a "NoRing" C'h)
  (xq'h:Ig K C'h [.type "ValueError",.type "Exception",.type "BaseException",.type "object"] "ValueError.__new__"=true)
  {C'i:Addr} (b'i:XI K C'a "TooGreat" C'i)
  (j'i:XJ K C'i "TooGreat.__init__" "most" dQ)
  {C'j:Addr} (b'j:XI K C'a "NoWords" C'j)
  (xq'j:Ig K C'j [.type "ValueError",.type "Exception",.type "BaseException",.type "object"] "ValueError.__new__"=true)
  {C'k:Addr} (b'k:XI K C'a "NotApart" C'k)
  (j'k:XJ K C'k "NotApart.__init__" "at" dR)
  {C'l:Addr} (b'l:XI K C'a "NoCounts" C'l)
  (j'l:XJ K C'l "NoCounts.__init__" "at" dS)
  {C'm:Addr} (b'm:XI K C'a "NotCovered" C'm)
  (j'm:XJ K C'm "NotCovered.__init__" "at" c8)
  {C'n:Addr} (b'n:XI K C'a "NoLine" C'n)
  (j'n:XJ K C'n "NoLine.__init__" "at" fF)
  {C'o:Addr} (b'o:XI K C'a "NoPaper" C'o)
  (xq'o:Ig K C'o [.type "ValueError",.type "Exception",.type "BaseException",.type "object"] "ValueError.__new__"=true)
  {C'p:Addr} (b'p:XI K C'a "NotTold" C'p)
  (xq'p:Ig K C'p [.type "ValueError",.type "Exception",.type "BaseException",.type "object"] "ValueError.__new__"=true)
  (d1:iT K "is_row" mX)
  (d2:iT K "is_number" g7)
  (d3:iT K "way_to_free" fA)
  (d4:iT K "_law_deck" i9)
  (d5:iT K "_law_next" jb)
  (d6:iT K "_law_whole" g9)
  (d7:iT K "_law_right" hG)
  (d8:iT K "_law_all" kM)
  (d9:iT K "_law_word" jd)
  (d10:iT K "_law_told" je)
  (d11:iT K "_law_no_tables" dP)
  (d12:iT K "are_numbers" fz)
  (d13:iT K "is_whole" i8)
  (d14:iT K "pair_one_more" dO)
  (d15:iT K "_law_next_order" du)
  (d16:iT K "_law_cells" hU)
  (d17:iT K "_law_is_best" fB)
  (d18:iT K "are_prices" fY)
  (d19:iT K "is_order" i7)
  (d20:iT K "is_square" g8)
  (d21:iT K "_law_made" jc)
  (d22:iT K "is_pairing_paper" cP)
  (d23:iT K "best_pairing" eI)
  (d24:iT K "_law_table" hV)
  (d25:iT K "_law_refused" fC)
  (d26:iT K "law" xL)
  (z1:D_ K mainGlobals "ValueError"=some none)
  (z2:D_ K mainGlobals "all"=some none)
  (z3:D_ K mainGlobals "any"=some none)
  (z4:D_ K mainGlobals "bool"=some none)
  (z5:D_ K mainGlobals "enumerate"=some none)
  (z6:D_ K mainGlobals "int"=some none)
  (z7:D_ K mainGlobals "isinstance"=some none)
  (z8:D_ K mainGlobals "len"=some none)
  (z9:D_ K mainGlobals "list"=some none)
  (z10:D_ K mainGlobals "max"=some none)
  (z11:D_ K mainGlobals "min"=some none)
  (z12:D_ K mainGlobals "range"=some none)
  (z13:D_ K mainGlobals "reversed"=some none)
  (z14:D_ K mainGlobals "sorted"=some none)
  (z15:D_ K mainGlobals "tuple"=some none)
  {ty1:Tok} (y1:D_ K mainGlobals "MOST_NUMBER"=some (some (.int 1000000 ty1)))
  {ty2:Tok} (y2:D_ K mainGlobals "MOST_ROWS"=some (some (.int 40 ty2))) :
  ∃fd:H_,(∀(s:c_) (v:Value),KB s fd ⟨[v],[]⟩ [("_law_script",v)])/\∀base:Heap,K.In base->base.Ns mainGlobals mg->pT l.prog w K mg base CX0 6 fa fd ["_law_script"] (sx K):=by
 have eC'a:=bH aC'a;have tl_:=Ar xq'a ⟨_,_,_,_,_,_,_,_,_,_,_,_,_,lC'a⟩;obtain⟨aC'b,⟨_,_,_,_,_,_,_,_,_,_,_,_,lC'b⟩,ga'b,gh'b,sa'b,cl'b,kc'b⟩:=b'b;have eC'b:=bH aC'b;have xc'b:XC K C'b C'a:=⟨⟨_,_,_,_,_,_,_,_,_,_,_,_,_,lC'b⟩,ga'b,gh'b,sa'b,cl'b⟩
 obtain⟨_,_,_,_,_,_,_,_,_,_,xi'b,xt'b,xl'b,xc0'b,xk'b,xn'b⟩:=j'b;obtain⟨aC'c,⟨_,_,_,_,_,_,_,_,_,_,_,_,lC'c⟩,ga'c,gh'c,sa'c,cl'c,kc'c⟩:=b'c;have eC'c:=bH aC'c;have xc'c:XC K C'c C'a:=⟨⟨_,_,_,_,_,_,_,_,_,_,_,_,_,lC'c⟩,ga'c,gh'c,sa'c,cl'c⟩
 obtain⟨_,_,_,_,_,_,_,_,_,_,xi'c,xt'c,xl'c,xc0'c,xk'c,xn'c⟩:=j'c;obtain⟨aC'd,⟨_,_,_,_,_,_,_,_,_,_,_,_,lC'd⟩,ga'd,gh'd,sa'd,cl'd,kc'd⟩:=b'd;have eC'd:=bH aC'd;have xc'd:XC K C'd C'a:=⟨⟨_,_,_,_,_,_,_,_,_,_,_,_,_,lC'd⟩,ga'd,gh'd,sa'd,cl'd⟩
 obtain⟨_,_,_,_,_,_,_,_,_,_,xi'd,xt'd,xl'd,xc0'd,xk'd,xn'd⟩:=j'd;obtain⟨aC'e,⟨_,_,_,_,_,_,_,_,_,_,_,_,lC'e⟩,ga'e,gh'e,sa'e,cl'e,kc'e⟩:=b'e;have eC'e:=bH aC'e;have xc'e:XC K C'e C'a:=⟨⟨_,_,_,_,_,_,_,_,_,_,_,_,_,lC'e⟩,ga'e,gh'e,sa'e,cl'e⟩
 obtain⟨aC'f,⟨_,_,_,_,_,_,_,_,_,_,_,_,lC'f⟩,ga'f,gh'f,sa'f,cl'f,kc'f⟩:=b'f;have eC'f:=bH aC'f;have xc'f:XC K C'f C'a:=⟨⟨_,_,_,_,_,_,_,_,_,_,_,_,_,lC'f⟩,ga'f,gh'f,sa'f,cl'f⟩
 obtain⟨_,_,_,_,_,_,_,_,_,_,xi'f,xt'f,xl'f,xc0'f,xk'f,xn'f⟩:=j'f;obtain⟨aC'g,⟨_,_,_,_,_,_,_,_,_,_,_,_,lC'g⟩,ga'g,gh'g,sa'g,cl'g,kc'g⟩:=b'g;have eC'g:=bH aC'g;have xc'g:XC K C'g C'a:=⟨⟨_,_,_,_,_,_,_,_,_,_,_,_,_,lC'g⟩,ga'g,gh'g,sa'g,cl'g⟩
 obtain⟨aC'h,⟨_,_,_,_,_,_,_,_,_,_,_,_,lC'h⟩,ga'h,gh'h,sa'h,cl'h,kc'h⟩:=b'h;have eC'h:=bH aC'h;have xc'h:XC K C'h C'a:=⟨⟨_,_,_,_,_,_,_,_,_,_,_,_,_,lC'h⟩,ga'h,gh'h,sa'h,cl'h⟩
 obtain⟨aC'i,⟨_,_,_,_,_,_,_,_,_,_,_,_,lC'i⟩,ga'i,gh'i,sa'i,cl'i,kc'i⟩:=b'i;have eC'i:=bH aC'i;have xc'i:XC K C'i C'a:=⟨⟨_,_,_,_,_,_,_,_,_,_,_,_,_,lC'i⟩,ga'i,gh'i,sa'i,cl'i⟩
 obtain⟨_,_,_,_,_,_,_,_,_,_,xi'i,xt'i,xl'i,xc0'i,xk'i,xn'i⟩:=j'i;obtain⟨aC'j,⟨_,_,_,_,_,_,_,_,_,_,_,_,lC'j⟩,ga'j,gh'j,sa'j,cl'j,kc'j⟩:=b'j;have eC'j:=bH aC'j;have xc'j:XC K C'j C'a:=⟨⟨_,_,_,_,_,_,_,_,_,_,_,_,_,lC'j⟩,ga'j,gh'j,sa'j,cl'j⟩
 obtain⟨aC'k,⟨_,_,_,_,_,_,_,_,_,_,_,_,lC'k⟩,ga'k,gh'k,sa'k,cl'k,kc'k⟩:=b'k;have eC'k:=bH aC'k;have xc'k:XC K C'k C'a:=⟨⟨_,_,_,_,_,_,_,_,_,_,_,_,_,lC'k⟩,ga'k,gh'k,sa'k,cl'k⟩
 obtain⟨_,_,_,_,_,_,_,_,_,_,xi'k,xt'k,xl'k,xc0'k,xk'k,xn'k⟩:=j'k;obtain⟨aC'l,⟨_,_,_,_,_,_,_,_,_,_,_,_,lC'l⟩,ga'l,gh'l,sa'l,cl'l,kc'l⟩:=b'l;have eC'l:=bH aC'l;have xc'l:XC K C'l C'a:=⟨⟨_,_,_,_,_,_,_,_,_,_,_,_,_,lC'l⟩,ga'l,gh'l,sa'l,cl'l⟩
 obtain⟨_,_,_,_,_,_,_,_,_,_,xi'l,xt'l,xl'l,xc0'l,xk'l,xn'l⟩:=j'l;obtain⟨aC'm,⟨_,_,_,_,_,_,_,_,_,_,_,_,lC'm⟩,ga'm,gh'm,sa'm,cl'm,kc'm⟩:=b'm;have eC'm:=bH aC'm;have xc'm:XC K C'm C'a:=⟨⟨_,_,_,_,_,_,_,_,_,_,_,_,_,lC'm⟩,ga'm,gh'm,sa'm,cl'm⟩
 obtain⟨_,_,_,_,_,_,_,_,_,_,xi'm,xt'm,xl'm,xc0'm,xk'm,xn'm⟩:=j'm;obtain⟨aC'n,⟨_,_,_,_,_,_,_,_,_,_,_,_,lC'n⟩,ga'n,gh'n,sa'n,cl'n,kc'n⟩:=b'n;have eC'n:=bH aC'n;have xc'n:XC K C'n C'a:=⟨⟨_,_,_,_,_,_,_,_,_,_,_,_,_,lC'n⟩,ga'n,gh'n,sa'n,cl'n⟩
 obtain⟨_,_,_,_,_,_,_,_,_,_,xi'n,xt'n,xl'n,xc0'n,xk'n,xn'n⟩:=j'n;obtain⟨aC'o,⟨_,_,_,_,_,_,_,_,_,_,_,_,lC'o⟩,ga'o,gh'o,sa'o,cl'o,kc'o⟩:=b'o;have eC'o:=bH aC'o;have xc'o:XC K C'o C'a:=⟨⟨_,_,_,_,_,_,_,_,_,_,_,_,_,lC'o⟩,ga'o,gh'o,sa'o,cl'o⟩
 obtain⟨aC'p,⟨_,_,_,_,_,_,_,_,_,_,_,_,lC'p⟩,ga'p,gh'p,sa'p,cl'p,kc'p⟩:=b'p;have eC'p:=bH aC'p;have xc'p:XC K C'p C'a:=⟨⟨_,_,_,_,_,_,_,_,_,_,_,_,_,lC'p⟩,ga'p,gh'p,sa'p,cl'p⟩
 have TX:TxX K mg:=⟨⟨by rw [XCl,eC'a];exact⟨_,_,_,lC'a,rfl⟩,λc hc=>by
  simp only [xcs,mem_cons,not_mem_nil,or_false] at hc
  rcases hc with rfl|rfl|rfl|rfl|rfl|rfl|rfl|rfl|rfl|rfl|rfl|rfl|rfl|rfl|rfl
  .rw [XCl,eC'b];exact⟨_,_,_,lC'b,rfl⟩
  .rw [XCl,eC'c];exact⟨_,_,_,lC'c,rfl⟩
  .rw [XCl,eC'd];exact⟨_,_,_,lC'd,rfl⟩
  .rw [XCl,eC'e];exact⟨_,_,_,lC'e,rfl⟩
  .rw [XCl,eC'f];exact⟨_,_,_,lC'f,rfl⟩
  .rw [XCl,eC'g];exact⟨_,_,_,lC'g,rfl⟩
  .rw [XCl,eC'h];exact⟨_,_,_,lC'h,rfl⟩
  .rw [XCl,eC'i];exact⟨_,_,_,lC'i,rfl⟩
  .rw [XCl,eC'j];exact⟨_,_,_,lC'j,rfl⟩
  .rw [XCl,eC'k];exact⟨_,_,_,lC'k,rfl⟩
  .rw [XCl,eC'l];exact⟨_,_,_,lC'l,rfl⟩
  .rw [XCl,eC'm];exact⟨_,_,_,lC'm,rfl⟩
  .rw [XCl,eC'n];exact⟨_,_,_,lC'n,rfl⟩
  .rw [XCl,eC'o];exact⟨_,_,_,lC'o,rfl⟩
  .rw [XCl,eC'p];exact⟨_,_,_,lC'p,rfl⟩,λc hc=>by
  simp only [xcs,mem_cons,not_mem_nil,or_false] at hc
  rcases hc with rfl|rfl|rfl|rfl|rfl|rfl|rfl|rfl|rfl|rfl|rfl|rfl|rfl|rfl|rfl
  .rw [eC'b,eC'a];exact xc'b
  .rw [eC'c,eC'a];exact xc'c
  .rw [eC'd,eC'a];exact xc'd
  .rw [eC'e,eC'a];exact xc'e
  .rw [eC'f,eC'a];exact xc'f
  .rw [eC'g,eC'a];exact xc'g
  .rw [eC'h,eC'a];exact xc'h
  .rw [eC'i,eC'a];exact xc'i
  .rw [eC'j,eC'a];exact xc'j
  .rw [eC'k,eC'a];exact xc'k
  .rw [eC'l,eC'a];exact xc'l
  .rw [eC'm,eC'a];exact xc'm
  .rw [eC'n,eC'a];exact xc'n
  .rw [eC'o,eC'a];exact xc'o
  .rw [eC'p,eC'a];exact xc'p⟩,λc g hc=>by
  simp only [GH,mem_cons,not_mem_nil,or_false,JX] at hc
  rcases hc with ⟨rfl,rfl⟩|⟨rfl,rfl⟩|⟨rfl,rfl⟩|⟨rfl,rfl⟩|⟨rfl,rfl⟩|⟨rfl,rfl⟩|⟨rfl,rfl⟩|⟨rfl,rfl⟩|⟨rfl,rfl⟩
  .rw [eC'b];exact xn'b
  .rw [eC'c];exact xn'c
  .rw [eC'd];exact xn'd
  .rw [eC'f];exact xn'f
  .rw [eC'i];exact xn'i
  .rw [eC'k];exact xn'k
  .rw [eC'l];exact xn'l
  .rw [eC'm];exact xn'm
  .rw [eC'n];exact xn'n,by rw [eC'b];exact x_ X G aC'b,by rw [eC'c];exact x_ X G aC'c,by rw [eC'd];exact x_ X G aC'd,by rw [eC'e];exact x_ X G aC'e,by rw [eC'f];exact x_ X G aC'f,by rw [eC'g];exact x_ X G aC'g,by rw [eC'h];exact x_ X G aC'h,by rw [eC'i];exact x_ X G aC'i,by rw [eC'j];exact x_ X G aC'j,by rw [eC'k];exact x_ X G aC'k,by rw [eC'l];exact x_ X G aC'l,by rw [eC'm];exact x_ X G aC'm,by rw [eC'n];exact x_ X G aC'n,by rw [eC'o];exact x_ X G aC'o,by rw [eC'p];exact x_ X G aC'p,by rw [eC'a];exact x_ X G aC'a,by rw [eC'b];exact⟨_,_,_,_,_,_,_,_,_,_,_,_,_,_,_,_,_,lC'b,rfl⟩,by rw [eC'c];exact⟨_,_,_,_,_,_,_,_,_,_,_,_,_,_,_,_,_,lC'c,rfl⟩,by rw [eC'd];exact⟨_,_,_,_,_,_,_,_,_,_,_,_,_,_,_,_,_,lC'd,rfl⟩,by rw [eC'e];exact⟨_,_,_,_,_,_,_,_,_,_,_,_,_,_,_,_,_,lC'e,rfl⟩,by rw [eC'f];exact⟨_,_,_,_,_,_,_,_,_,_,_,_,_,_,_,_,_,lC'f,rfl⟩,by rw [eC'g];exact⟨_,_,_,_,_,_,_,_,_,_,_,_,_,_,_,_,_,lC'g,rfl⟩,by rw [eC'h];exact⟨_,_,_,_,_,_,_,_,_,_,_,_,_,_,_,_,_,lC'h,rfl⟩,by rw [eC'i];exact⟨_,_,_,_,_,_,_,_,_,_,_,_,_,_,_,_,_,lC'i,rfl⟩,by rw [eC'j];exact⟨_,_,_,_,_,_,_,_,_,_,_,_,_,_,_,_,_,lC'j,rfl⟩,by rw [eC'k];exact⟨_,_,_,_,_,_,_,_,_,_,_,_,_,_,_,_,_,lC'k,rfl⟩,by rw [eC'l];exact⟨_,_,_,_,_,_,_,_,_,_,_,_,_,_,_,_,_,lC'l,rfl⟩,by rw [eC'm];exact⟨_,_,_,_,_,_,_,_,_,_,_,_,_,_,_,_,_,lC'm,rfl⟩,by rw [eC'n];exact⟨_,_,_,_,_,_,_,_,_,_,_,_,_,_,_,_,_,lC'n,rfl⟩,by rw [eC'o];exact⟨_,_,_,_,_,_,_,_,_,_,_,_,_,_,_,_,_,lC'o,rfl⟩,by rw [eC'p];exact⟨_,_,_,_,_,_,_,_,_,_,_,_,_,_,_,_,_,lC'p,rfl⟩,by rw [eC'a];exact⟨_,_,_,_,_,_,_,_,_,_,_,_,_,_,_,_,_,lC'a,rfl⟩,by rw [eC'e];exact qg xq'e,by rw [eC'e];exact kc'e,by rw [eC'g];exact qg xq'g,by rw [eC'g];exact kc'g,by rw [eC'h];exact qg xq'h,by rw [eC'h];exact kc'h,by rw [eC'j];exact qg xq'j,by rw [eC'j];exact kc'j,by rw [eC'o];exact qg xq'o,by rw [eC'o];exact kc'o,by rw [eC'p];exact qg xq'p,by rw [eC'p];exact kc'p⟩
 have D'0:=bL d1 X G;have D'1:=bL d2 X G;have D'8:=bL d3 X G;have D'11:=bL d4 X G;have D'12:=bL d5 X G;have D'13:=bL d6 X G;have D'16:=bL d7 X G;have D'17:=bL d8 X G;have D'18:=bL d9 X G;have D'21:=bL d10 X G;have D'24:=bL d11 X G;have D'2:=bL d12 X G;have D'5:=bL d13 X G;have D'9:=bL d14 X G;have D'14:=bL d15 X G
 have D'19:=bL d16 X G;have D'22:=bL d17 X G;have D'3:=bL d18 X G;have D'4:=bL d19 X G;have D'6:=bL d20 X G;have D'15:=bL d21 X G;have D'7:=bL d22 X G;have D'10:=bL d23 X G;have D'20:=bL d24 X G;have D'23:=bL d25 X G;have D'25:=bL d26 X G;have T:Txt mg:=⟨F_ X G z1,F_ X G z2,F_ X G z3,F_ X G z4,F_ X G z5,F_ X G z6,F_ X G z7,F_ X G z8,F_ X G z9,F_ X G z10,F_ X G z11,F_ X G z12,F_ X G z13,F_ X G z14,F_ X G z15,⟨_,x_ X G y1⟩,⟨_,x_ X G y2⟩⟩
 refine Ca (st:=xL) hfa D'25 (λ_ _ _ _ _ _ s v=>.of_eq rfl) λbase=>?_
 have C_TooMany_init:wx l.prog w K mg base 1 (aF K "TooMany") "TooMany" "most":=by
  rw [eC'b];exact fo (gD (st:=eJ) xl'b xc0'b xk'b) kN rfl (λ_ _ _ _ _ _ us hl=>match us,hl with|[_,_],_=>rfl) (λcdv A outer s H E=>ao (dD K rfl (pv 0) (pv 1) rfl)) ⟨xc'b,tl_,xi'b,xt'b,kc'b⟩ xn'b (x_ X G aC'b)
 have C_NoPiece_init:wx l.prog w K mg base 1 (aF K "NoPiece") "NoPiece" "at":=by
  rw [eC'c];exact fo (gD (st:=eM) xl'c xc0'c xk'c) kO rfl (λ_ _ _ _ _ _ us hl=>match us,hl with|[_,_],_=>rfl) (λcdv A outer s H E=>ao (dD K rfl (pv 0) (pv 1) rfl)) ⟨xc'c,tl_,xi'c,xt'c,kc'c⟩ xn'c (x_ X G aC'c)
 have C_NoLap_init:wx l.prog w K mg base 1 (aF K "NoLap") "NoLap" "k":=by
  rw [eC'd];exact fo (gD (st:=f7) xl'd xc0'd xk'd) mZ rfl (λ_ _ _ _ _ _ us hl=>match us,hl with|[_,_],_=>rfl) (λcdv A outer s H E=>ao (dD K rfl (pv 0) (pv 1) rfl)) ⟨xc'd,tl_,xi'd,xt'd,kc'd⟩ xn'd (x_ X G aC'd)
 have C_NotHeld_init:wx l.prog w K mg base 1 (aF K "NotHeld") "NotHeld" "at":=by
  rw [eC'f];exact fo (gD (st:=eN) xl'f xc0'f xk'f) kP rfl (λ_ _ _ _ _ _ us hl=>match us,hl with|[_,_],_=>rfl) (λcdv A outer s H E=>ao (dD K rfl (pv 0) (pv 1) rfl)) ⟨xc'f,tl_,xi'f,xt'f,kc'f⟩ xn'f (x_ X G aC'f)
 have C_TooGreat_init:wx l.prog w K mg base 1 (aF K "TooGreat") "TooGreat" "most":=by
  rw [eC'i];exact fo (gD (st:=dQ) xl'i xc0'i xk'i) jI rfl (λ_ _ _ _ _ _ us hl=>match us,hl with|[_,_],_=>rfl) (λcdv A outer s H E=>ao (dD K rfl (pv 0) (pv 1) rfl)) ⟨xc'i,tl_,xi'i,xt'i,kc'i⟩ xn'i (x_ X G aC'i)
 have C_NotApart_init:wx l.prog w K mg base 1 (aF K "NotApart") "NotApart" "at":=by
  rw [eC'k];exact fo (gD (st:=dR) xl'k xc0'k xk'k) jJ rfl (λ_ _ _ _ _ _ us hl=>match us,hl with|[_,_],_=>rfl) (λcdv A outer s H E=>ao (dD K rfl (pv 0) (pv 1) rfl)) ⟨xc'k,tl_,xi'k,xt'k,kc'k⟩ xn'k (x_ X G aC'k)
 have C_NoCounts_init:wx l.prog w K mg base 1 (aF K "NoCounts") "NoCounts" "at":=by
  rw [eC'l];exact fo (gD (st:=dS) xl'l xc0'l xk'l) jK rfl (λ_ _ _ _ _ _ us hl=>match us,hl with|[_,_],_=>rfl) (λcdv A outer s H E=>ao (dD K rfl (pv 0) (pv 1) rfl)) ⟨xc'l,tl_,xi'l,xt'l,kc'l⟩ xn'l (x_ X G aC'l)
 have C_NotCovered_init:wx l.prog w K mg base 1 (aF K "NotCovered") "NotCovered" "at":=by
  rw [eC'm];exact fo (gD (st:=c8) xl'm xc0'm xk'm) iM rfl (λ_ _ _ _ _ _ us hl=>match us,hl with|[_,_],_=>rfl) (λcdv A outer s H E=>ao (dD K rfl (pv 0) (pv 1) rfl)) ⟨xc'm,tl_,xi'm,xt'm,kc'm⟩ xn'm (x_ X G aC'm)
 have C_NoLine_init:wx l.prog w K mg base 1 (aF K "NoLine") "NoLine" "at":=by
  rw [eC'n];exact fo (gD (st:=fF) xl'n xc0'n xk'n) lJ rfl (λ_ _ _ _ _ _ us hl=>match us,hl with|[_,_],_=>rfl) (λcdv A outer s H E=>ao (dD K rfl (pv 0) (pv 1) rfl)) ⟨xc'n,tl_,xi'n,xt'n,kc'n⟩ xn'n (x_ X G aC'n)
 have C'0:=wp l.prog w base D'0 T TX;have C'1:=pE l.prog w base D'1 T TX;have C'8:=lV l.prog w base D'8 T TX;have C'11:=qO l.prog w base D'11 T TX;have C'12:=qP l.prog w base D'12 T TX;have C'13:=pG l.prog w base D'13 T TX;have C'16:=pH l.prog w base D'16 T TX;have C'17:=tE l.prog w base D'17 T TX
 have C'18:=qR l.prog w base D'18 T TX;have C'21:=qS l.prog w base D'21 T TX;have C'24:=jQ l.prog w base D'24 T TX;have C'2:=lU l.prog w base D'2 T TX C'1 C'0;have C'5:=qN l.prog w base D'5 T TX C'1;have C'9:=jP l.prog w base D'9 T TX C'8;have C'14:=jk l.prog w base D'14 T TX C'12
 have C'19:=pI l.prog w base D'19 T TX C'12;have C'22:=lW l.prog w base D'22 T TX C'17 C'16 C'21 C'13;have C'3:=nk l.prog w base D'3 T TX C'2;have C'4:=qM l.prog w base D'4 T TX C'2;have C'6:=pF l.prog w base D'6 T TX C'0 C'5;have C'15:=qQ l.prog w base D'15 T TX C'12 C'14
 have C'7:=im l.prog w base D'7 T TX C'3 C'4 C'0 C'6;have C'10:=lp l.prog w base D'10 T TX C'6 C'9;have C'20:=pJ l.prog w base D'20 T TX C'19 C'15 C'12;have C'23:=lX l.prog w base D'23 T TX C'18 C'10;exact (DU l.prog w base D'25 T TX C'11 C'22 C'12 C'24 C'23 C'20 C'10 C'7).imp λ_ _ _ _ h=>zZ h
end K27

open PySem PySem.W PyProof.Rows
local macro_rules | `(tactic| walk_at "fn") => `(tactic| (refine' L2.Dg ?a ?l ?c ?k; (case a => k_is); (case l => k_is); (case c => k_is); (case k => k_is)))
local macro_rules | `(tactic| walk_at "xi") => `(tactic| (refine' L2.FC ?a ?l ?g ?h ?s ?c ?k; (case a => k_is); (case l => k_is); (case g => k_is); (case h => k_is); (case s => k_is); (case c => k_is); (case k => k_is)))
local macro_rules | `(tactic| walk_at "xj") => `(tactic| (refine' L2.FD ?i ?t ?l ?c ?k ?n; (case i => k_is); (case t => k_is); (case l => k_is); (case c => k_is); (case k => k_is); (case n => k_is)))
set_option maxRecDepth 100000 in
set_option maxHeartbeats 0 in
theorem PySem.Challenge.cw_shortglue_k27_whole_best_pairing_holds : PySem.Challenge.rw_shortglue_k27_whole_best_pairing.Holds := by
  refine topHd ?_
  k_fill
  refine L2.Cb (l := PySem.Challenge.rw_shortglue_k27_whole_best_pairing) (k := 6) (x := "_law_script") rfl rfl ⟨rfl, by decide, by decide⟩ (fun w h Y => PySem.W.kIn_of Y) ?F
  case F =>
    intro w mg fa h KX G hmg
    refine' K27.DW KX G hmg ?aC'a ?lC'a ?xq'a ?b'b ?j'b ?b'c ?j'c ?b'd ?j'd ?b'e ?xq'e ?b'f ?j'f ?b'g ?xq'g ?b'h ?xq'h ?b'i ?j'i ?b'j ?xq'j ?b'k ?j'k ?b'l ?j'l ?b'm ?j'm ?b'n ?j'n ?b'o ?xq'o ?b'p ?xq'p ?d1 ?d2 ?d3 ?d4 ?d5 ?d6 ?d7 ?d8 ?d9 ?d10 ?d11 ?d12 ?d13 ?d14 ?d15 ?d16 ?d17 ?d18 ?d19 ?d20 ?d21 ?d22 ?d23 ?d24 ?d25 ?d26 ?z1 ?z2 ?z3 ?z4 ?z5 ?z6 ?z7 ?z8 ?z9 ?z10 ?z11 ?z12 ?z13 ?z14 ?z15 ?y1 ?y2
    (case aC'a => k_is)
    (case lC'a => k_is)
    (case xq'a => k_exc)
    (case b'b => walk_at "xi")
    (case j'b => walk_at "xj")
    (case b'c => walk_at "xi")
    (case j'c => walk_at "xj")
    (case b'd => walk_at "xi")
    (case j'd => walk_at "xj")
    (case b'e => walk_at "xi")
    (case xq'e => k_exc)
    (case b'f => walk_at "xi")
    (case j'f => walk_at "xj")
    (case b'g => walk_at "xi")
    (case xq'g => k_exc)
    (case b'h => walk_at "xi")
    (case xq'h => k_exc)
    (case b'i => walk_at "xi")
    (case j'i => walk_at "xj")
    (case b'j => walk_at "xi")
    (case xq'j => k_exc)
    (case b'k => walk_at "xi")
    (case j'k => walk_at "xj")
    (case b'l => walk_at "xi")
    (case j'l => walk_at "xj")
    (case b'm => walk_at "xi")
    (case j'm => walk_at "xj")
    (case b'n => walk_at "xi")
    (case j'n => walk_at "xj")
    (case b'o => walk_at "xi")
    (case xq'o => k_exc)
    (case b'p => walk_at "xi")
    (case xq'p => k_exc)
    (case d1 => walk_at "fn")
    (case d2 => walk_at "fn")
    (case d3 => walk_at "fn")
    (case d4 => walk_at "fn")
    (case d5 => walk_at "fn")
    (case d6 => walk_at "fn")
    (case d7 => walk_at "fn")
    (case d8 => walk_at "fn")
    (case d9 => walk_at "fn")
    (case d10 => walk_at "fn")
    (case d11 => walk_at "fn")
    (case d12 => walk_at "fn")
    (case d13 => walk_at "fn")
    (case d14 => walk_at "fn")
    (case d15 => walk_at "fn")
    (case d16 => walk_at "fn")
    (case d17 => walk_at "fn")
    (case d18 => walk_at "fn")
    (case d19 => walk_at "fn")
    (case d20 => walk_at "fn")
    (case d21 => walk_at "fn")
    (case d22 => walk_at "fn")
    (case d23 => walk_at "fn")
    (case d24 => walk_at "fn")
    (case d25 => walk_at "fn")
    (case d26 => walk_at "fn")
    (case z1 => k_is)
    (case z2 => k_is)
    (case z3 => k_is)
    (case z4 => k_is)
    (case z5 => k_is)
    (case z6 => k_is)
    (case z7 => k_is)
    (case z8 => k_is)
    (case z9 => k_is)
    (case z10 => k_is)
    (case z11 => k_is)
    (case z12 => k_is)
    (case z13 => k_is)
    (case z14 => k_is)
    (case z15 => k_is)
    (case y1 => k_is)
    (case y2 => k_is)
