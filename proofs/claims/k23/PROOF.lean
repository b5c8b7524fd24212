import PyProof.Rows.All
import Wide.All
import OpenK.AllK
import Wide.FinOn
import Lean
import PyProof.EqAt
import PyProof.EqKinds
import PyProof.TupleCall
import KE.KSortTup
import PyProof.FString
import PyProof.StrBlock
import KE.KRevSl
import PyProof.StrLawsReplace
import PyProof.StrCalls6
import PyProof.MinMaxWalk
import PyProof.WalkInts
import PyProof.NeKinds
import KE.KEqDict
import PyProof.Rows.SumAny
import KE.KMinKey
import PyProof.Rows.CallKwBuiltin
import KE.KIntText
import PyProof.DictCompW
import PySem.Challenge.RW_shortglue_k23_order_of_joins
set_option Elab.async false
set_option linter.all false
set_option maxRecDepth 100000
open List (all_cons all_eq_false all_eq_true all_map any_cons any_eq_false any_eq_true any_map append_assoc append_nil append_of_mem append_toArray cons_append contains_cons contains_iff_mem countP_map dropLast_concat dropLast_concat_getLast dropLast_eq_take dropLast_sublist drop_eq_getElem_cons drop_eq_nil_of_le drop_one drop_zero eq_of_mem_replicate eraseIdxIfInBounds_toArray eraseIdx_cons_succ eraseIdx_eq_take_drop_succ erase_sublist ext_getElem ext_getElem? extract_eq_take_drop extract_toArray filterMap_append filterMap_cons filterMap_eq_map filterMap_map filter_append filter_cons filter_sublist find?_append find?_cons find?_eq_none find?_map flatten_cons foldl_append foldl_cons forIn_cons forIn_nil getD_eq_getElem?_getD getElem?_append_left getElem?_append_right getElem?_cons_succ getElem?_eq_getElem getElem?_eq_none getElem?_inj getElem?_map getElem?_range getElem?_replicate getElem?_reverse getElem?_set_ne getElem?_set_self getElem?_take_of_lt getElem?_zip_eq_some getElem_cons_drop getElem_dropLast getElem_inj getElem_map getElem_mem getElem_of_mem getElem_range getElem_tail length_append length_cons length_drop length_dropLast length_eq_zero_iff length_eraseIdx length_erase_of_mem length_filter_le length_flatten length_map length_nil length_pos_iff length_range length_replicate length_reverse length_set length_singleton length_tail length_take length_zip lookup_append lookup_cons map_append map_congr_left map_cons map_drop map_dropLast map_eq_nil_iff map_fst_zip map_id map_map map_nil map_replicate map_reverse map_snd_zip map_tail map_take mem_append mem_append_left mem_append_right mem_cons mem_cons_of_mem mem_cons_self mem_filter mem_filterMap mem_iff_getElem mem_map mem_map_of_mem mem_of_getElem? mem_of_mem_erase mem_of_mem_tail mem_of_mem_take mem_range mem_replicate mem_reverse mem_singleton ne_nil_of_length_pos nil_append nodup_append nodup_cons nodup_range not_mem_nil of_mem_zip pairwise_lt_range pairwise_map pairwise_singleton perm_append_comm perm_append_singleton perm_middle push_toArray range_succ range_succ_eq_map replicate_succ reverse_cons reverse_reverse set_cons_succ set_cons_zero size_toArray sum_replicate_nat tail_cons tail_sublist take_add_one take_append_drop take_length take_of_length_le take_sublist take_succ_cons take_zero zip_cons_cons)
open Nat (add_comm add_zero eq_zero_or_pos le_antisymm le_of_ble_eq_true le_of_eq le_of_lt le_of_not_lt le_of_succ_le le_refl le_succ le_trans lt_irrefl lt_of_le_of_lt lt_of_lt_of_le lt_of_succ_lt lt_or_ge lt_succ_of_lt lt_succ_self lt_trans lt_trichotomy max_le min_eq_left min_eq_right min_le_right mul_comm mul_le_mul_right ne_of_gt ne_of_lt not_lt not_lt_zero not_succ_le_self sub_add_cancel sub_self succ_le_succ succ_mul succ_pos zero_le)
open Int (ediv_nonneg ediv_one emod_lt_of_pos emod_nonneg fdiv_eq_ediv_of_nonneg fmod_eq_emod_of_nonneg le_ediv_of_mul_le mul_le_mul_of_nonneg_left mul_one toNat_natCast toNat_of_nonneg)
open Bool (and_eq_false_iff and_eq_true and_eq_true_iff beq_eq_decide_eq eq_false_iff false_eq_true not_eq_true or_eq_true)
local macro_rules | `(tactic| walk_at "o")=>`(tactic| first | exact Or.inl rfl | exact Or.inr rfl | exact Or.inr (Or.inl rfl) | exact Or.inr (Or.inr rfl))
set_option maxHeartbeats 4000000
noncomputable section
open And renaming intro→Ab
open Array renaming getElem?_eq_some_iff→AE,getElem?_toList→CM,length_toList→BO,mk→A4
open Bool renaming and_false→Cb,eq_iff_iff→BL,false_and→An,false_ne_true→r_,false_or→C5,or_false→Cn,or_true→BY,true_and→AS
open False renaming elim→zQ
open ForInStep renaming yield→Ar
open Int renaming emod_lt_of_pos→A2,emod_nonneg→Bf,toNat_natCast→zK,toNat→Cy,zero_add→C8
open Int.ofNat renaming inj→AR
open List renaming Nodup→As,all_eq_true→Bq,contains_iff_mem→j_,drop_eq_getElem_cons→BI,drop_eq_nil_of_le→Cj,ext_getElem?→CH,filterMap_cons→A8,find?_cons→AQ,getD_eq_getElem?_getD→g_,getElem?_append_left→Aa,getElem?_append_right→AF,getElem?_cons_succ→Bo,getElem?_eq_getElem→d_,getElem?_eq_none→y_,getElem?_eq_some_iff→i_,getElem?_map→so,getElem?_set_ne→gV,getElem?_set_self→n_,getElem_mem→CY,getElem_of_mem→A1,length_dropLast→Bn,length_eq_zero_iff→Ak,length_reverse→CT,length_set→z_,length_singleton→Aj,length_tail→CW,lookup_cons→AB,lookup→CV,map_congr_left→AZ,mem_append_left→zX,mem_append_right→pj,mem_append→z0,mem_cons_of_mem→w_,mem_filterMap→AM,mem_filter→CA,mem_map_of_mem→A0,mem_map→zW,mem_of_getElem?→Ae,mem_singleton→s_,nodup_append→CI,nodup_cons→B7,nodup_range→Ao,pairwise_singleton→Cc,range→p_,replicate→pf,reverse_cons→BW,take_append_drop→Cv,take_length→CU,take_of_length_le→Ad
open List.Perm renaming refl→CZ
open Nat renaming ble→Cd,le_of_ble_eq_true→By,le_of_eq→Cu,le_of_succ_le→BF,le_refl→o_,le_trans→Af,lt_irrefl→AW,lt_of_lt_of_le→t_,lt_or_ge→Cz,lt_succ_of_lt→Co,ne_of_gt→CQ,ne_of_lt→zI,sub_zero→C7,zero_add→C9,zero_le→AK
open Ne renaming symm→A3
open Option renaming isSome_iff_exists→AN,isSome_map→Ck,map_eq_none_iff→Bz,map_eq_some_iff→Ax
open Option.some renaming inj→zE
open Or renaming inl→AH,inr→AY
open Prod renaming fst→tj,snd→u_
open Prod.mk renaming injEq→BE
open PyProof.Rows renaming AllBare→BS,boot_isinstance→tf,boot_list→B1,boot_tuple→BD,callWith_type1→zU,slot_tuple_getitem→zN
open PySem renaming Around→v_,BindsTo→Ci,Builtin→BR,DictEntry→C1,ExceptHandler→Bm,FuncData→Ag,GenState→B3,IsPart→CF,NameKind→Ac,OsState→A7,Params→B2,Program→m_,PyData→Bv,Shared→c_,boot_len→zM,call_meets→BB,codeAny_builtin→CL,codeAny_call_builtin→BJ,codeAny_mono→BU,concat_meets→CD,mem_of_lookup→AU,noFill_tuple_add→Cs,pushCells_keeps→BM,sizeLine_eq→A9,tupleKind_room_in1→Ca,wpAny_Call_Name_kw→AC,wpAny_assign_Name→Cf,wpAny_bind→cy,wpAny_call_entry→Ct,wpAny_call→CC,wpAny_execs_nil→BK,wpAny_field→A_,wpAny_holding→zR,wpAny_isSubtype_exc→Aw,wpAny_loadPart_at→zZ,wpAny_mono→zG,wpAny_newFunctionEnv_cells→B8,wpAny_newObj_type→Ap,wpAny_passesOwn→AI,wpAny_pure→f_,wpAny_pyIter_list→Cm,wpAny_specialOf→BN,wpAny_standAt→Al,wpAny_truthy_bool→AJ,wpAny_typeOf_ref→BC,wpAny_typeOf→BV
open PySem.Bind renaming checkArgs→Bd
open PySem.Builtin.List renaming listExtendWith→zV,listLengthHint→BX,listTooLong→Bj
open PySem.Builtin.Range renaming rangeSize→AX,small→BP
open PySem.Builtin.Slice renaming sliceAdjust→Bg,sliceApplied→B9,slicePlaces→AG
open PySem.Builtin.Str renaming strSliceIndices→Az
open PySem.Builtin.Tuple renaming tupleExact→AO,tupleItemsOf→B_
open PySem.Calls renaming Name_function_global→B4,spliced_cons→B5,spliced_nil→Cg
open PySem.F renaming args_tuple_add_2→Bi,entry_tuple_add→Bp,plainAttrs_list→x_,slot_gs_get→BQ,slot_list_append→zS,slot_list_count→Cw,slot_list_pop→CN,slot_tuple_add→Bu,store_ValueError→Cp,typeOf_object_class→BZ,type_list_append→zT,type_list_pop→CO
open PySem.Heap renaming SameBut→CB,get?_push_of_some→e_,get?_push_size→q_,get?_update_ne→Av,get?_update_self→A6,lt_size→h_,size_push→Bw
open PySem.Manifest renaming signature?→Bh
open PySem.NameKind renaming cell→A5,free→Bl
open PySem.Obj renaming mapFields→Cr,mapSeq→Ba
open PySem.PassesOwn renaming never→Au
open PySem.PyData renaming eqvAll→Bk,eqv→Bb,int→CG
open PySem.SeqAt renaming shaped→AA
open PySem.Value renaming bool→AL,builtin→Cq,int→B0,none→Ah,ref→k_,str→BA,type→Aq
open PySem.Value.ref renaming inj→BG
open PySem.W renaming Frag→b_,OpenLaw→CK,boot_heap→zF,callWith_K→B6,cellsFrom_some→Ay,clsIn→BH,codeIn→AD,excIn→Am,findIn→l_,fnOf→zO,instObj→CJ,keepIn→we,kia_one→zP,kitAny→Bx,kitOne→zL,kitx_dict→Bt,kitx_list→Bs,lookIn→CS,looks_findIn→Bc,methodObj→Ce,mg_none_of→zJ,mg_of→u1,mroIn→C4,nsIn→zH,subIn→C6,typeIn→Be
open Sum renaming inl→Br,inr→C3
open Sum.inl renaming inj→CP
open True renaming intro→zY
namespace L2
open PySem PySem.W
noncomputable def f9(tb:String->Option BR)(p:m_)(w:World)(n₀:Nat)(ann:Option Value):Nat->SharedT->Thread->Option SharedT
 | 0,_,_=>none
 | n+1,s,t=>match through t with
  | true=>some s
  | false=>match stepOk n₀ ann t with
   | false=>none
   | true=>match stepT (denote tb) p w s t with
    | some (s',t')=>f9 tb p w n₀ ann n s' t'
    | none=>none
theorem gb{tb:String->Option BR}{p:m_}{w:World}{n₀:Nat}{ann:Option Value}:∀{n:Nat}{s s':SharedT}{t:Thread},f9 tb p w n₀ ann n s t=some s'->topRun tb p w n₀ ann n s.abs t=some s'.abs
 | 0,_,_,_,h=>by cases h
 | n+1,s,s',t,h=>by
  unfold f9 at h;unfold topRun
  cases he:through t with
  | true=>rw [he] at h;cases h;rfl
  | false =>
   rw [he] at h
   cases hk:stepOk n₀ ann t with
   | false=>rw [hk] at h;cases h
   | true =>
    rw [hk] at h
    cases hs:stepT (denote tb) p w s t with
    | none=>rw [hs] at h;cases h
    | some r=>obtain⟨s₂,t₂⟩:=r;rw [hs] at h;rw [stepT_spec hs];exact gb h
noncomputable def lC:List Obj->Nat->BT->BT
 | [],_,t=>t
 | o::r,i,t=>lC r (i+1) (t.ins i o)
noncomputable def su(P:B2):BT:=lC (zF P).objs.toList 0 .nil
theorem p6:∀P,absHeap (su P) (zF P).objs.size (zF P).life=zF P:=λP=>by kernel_rfl
theorem yp{p q:m_}{loose:List Str}{Xt:c_->Bool}{α:Type}{Yf:c_->α}{Ya:World->α}{N:Nat}{g0:Bool}{m₀:Nat}{ann:Option Value}
  (e:opening p=plainProg p.main.scope.names) (hN:Cd 600 N=true) (f:∀s,fenceModules? p s=some s)
  (size:∀w:World,((zF w.params).isNs mainGlobals && (A4 []:Array B3).size == 0,(zF w.params).objs.size,(zF w.params).nsMap mainGlobals "__annotations__")=(true,m₀,ann))
  (run:∀(w:World) (os:A7),(f9 treeTable p w m₀ ann N ⟨su w.params,m₀,(zF w.params).life,A4 [],boot_drawn,boot_toks,os⟩ (topStub p)).map (λsT=>((staticsOk (importedModules p.main.body) (zF w.params) sT.abs.heap && namesBound p sT.abs.heap && gensDone sT.abs && laidKept (zF w.params) sT.abs.heap),openSeen q loose (importedModules p.main.body) Xt g0 sT.abs,Yf sT.abs))=some (true,openGood q loose,Ya w)):LeftO p q loose Xt Yf Ya N g0:=λw=>by
 obtain⟨⟨h,gs,d,k,os⟩,e,e'⟩:=Ax.mp (boot_open e hN f w);obtain⟨rfl,rfl,rfl,rfl⟩:h=zF w.params/\gs=A4 []/\d=boot_drawn/\k=boot_toks:=by simpa using e'
 obtain⟨z1,z2,z3⟩:_/\_/\_:=by simpa only [BE] using size w
 obtain⟨sT,r,l⟩:=Ax.mp (run w os);obtain⟨l1,l2,l3⟩:_/\_/\_:=by simpa only [BE] using l
 have r:=gb r
 rw [show SharedT.abs ⟨su w.params,m₀,(zF w.params).life,A4 [],boot_drawn,boot_toks,os⟩=⟨zF w.params,A4 [],boot_drawn,boot_toks,os⟩ by
  unfold SharedT.abs;dsimp only;rw [<- z2,p6]] at r
 have t:topFrom treeTable p w N ⟨zF w.params,A4 [],boot_drawn,boot_toks,os⟩=some sT.abs:=by
  unfold topFrom;dsimp only;rw [z1,z2,z3,r];show (match staticsOk (importedModules p.main.body) (zF w.params) sT.abs.heap && namesBound p sT.abs.heap && gensDone sT.abs && laidKept (zF w.params) sT.abs.heap with|true=>_|false=>_)=_;rw [l1]
 unfold openEnds;rw [e];show (topFrom treeTable p w N _).map _=_;rw [t];exact congrArg some (Prod.ext l2 l3)
end L2
namespace L2
open PySem PySem.W
theorem sv{p q:m_}{loose:List Str}{Xt:c_->Bool}{α:Type}{Yf:c_->α}{Ya:World->α}{N:Nat}{g0:Bool}{m₀:Nat}{ann:Option Value}{l rest:List Stmt}{env:Env}{c:Code}{qp pa pb p1:Pos}{n0 nb n1 n2:Nat}{SA S1:World->A7->SharedT}
  (e:opening p=plainProg p.main.scope.names) (hN:Cd 600 N=true) (f:∀s,fenceModules? p s=some s)
  (size:∀w:World,((zF w.params).isNs mainGlobals && (A4 []:Array B3).size == 0,(zF w.params).objs.size,(zF w.params).nsMap mainGlobals "__annotations__")=(true,m₀,ann))
  (pre:∀(w:World) (os:A7),topGo treeTable p w m₀ ann n0 ⟨zF w.params,A4 [],boot_drawn,boot_toks,os⟩ (topStub p)=some ((SA w os).abs,⟨denote treeTable (.body (l++rest) env),c,pa,[topFrame qp]⟩))
  (blk:∀(w:World) (os:A7),segRun treeTable p w m₀ ann 1 nb (SA w os).abs (blockOf (l++rest) env c pa [topFrame qp])=some (.next,(SA w os).abs,c,pb))
  (one:∀(w:World) (os:A7),segRunT treeTable p w m₀ ann 1 n1 (SA w os) (piecesOf l env c pb [topFrame qp])=some (.next,S1 w os,c,p1))
  (hn:N=n0+(nb+(n1+n2)))
  (run:∀(w:World) (os:A7),(f9 treeTable p w m₀ ann n2 (S1 w os) (restOf rest env c p1 [topFrame qp])).map (λsT=>((staticsOk (importedModules p.main.body) (zF w.params) sT.abs.heap && namesBound p sT.abs.heap && gensDone sT.abs && laidKept (zF w.params) sT.abs.heap),openSeen q loose (importedModules p.main.body) Xt g0 sT.abs,Yf sT.abs))=some (true,openGood q loose,Ya w)):LeftO p q loose Xt Yf Ya N g0:=λw=>by
 obtain⟨⟨h,gs,d,k,os⟩,e,e'⟩:=Ax.mp (boot_open e hN f w);obtain⟨rfl,rfl,rfl,rfl⟩:h=zF w.params/\gs=A4 []/\d=boot_drawn/\k=boot_toks:=by simpa using e'
 obtain⟨z1,z2,z3⟩:_/\_/\_:=by simpa only [BE] using size w
 obtain⟨sT,r,l⟩:=Ax.mp (run w os);obtain⟨l1,l2,l3⟩:_/\_/\_:=by simpa only [BE] using l
 have r:=go_top (pre w os) (piece_block (blk w os) (piece_app (segRun_of (one w os)) (gb r)));rw [<- hn] at r
 have t:topFrom treeTable p w N ⟨zF w.params,A4 [],boot_drawn,boot_toks,os⟩=some sT.abs:=by
  unfold topFrom;dsimp only;rw [z1,z2,z3,r];show (match staticsOk (importedModules p.main.body) (zF w.params) sT.abs.heap && namesBound p sT.abs.heap && gensDone sT.abs && laidKept (zF w.params) sT.abs.heap with|true=>_|false=>_)=_;rw [l1]
 unfold openEnds;rw [e];show (topFrom treeTable p w N _).map _=_;rw [t];exact congrArg some (Prod.ext l2 l3)
noncomputable def zhE(P:B2)(x:Str)(t:Nat)(v:Value):C1:=⟨PyData.keyHash P x,.str x t,v⟩
noncomputable def zhT(xs:List Value):Obj:=⟨.type "tuple",none,.seq xs.toArray 0,#[]⟩
noncomputable def zhF(xs:List Value):Obj:=⟨.none,none,.fields xs.toArray,#[]⟩
noncomputable def zhD(es:List C1)(n:Nat):Obj:=⟨.type "dict",none,.dict es.toArray n,#[]⟩
noncomputable def zhG(c:Str)(xs:List Value):Obj:=⟨.type c.toString,none,.fields xs.toArray,#[]⟩
noncomputable def uy(xs:List Obj):List (Nat×Obj)->List Obj
 | []=>xs
 | p::r=>uy (xs.set p.1 p.2) r
noncomputable def zhM(p:m_)(i j:Nat):Stmt:=match p.main.body.getD i (.Pass ⟨0,0,0,0⟩) with
 | .ClassDef _ _ _ body _ _ _ _ _ _ _=>body.getD j (.Pass ⟨0,0,0,0⟩)
 | s=>s
noncomputable def zhN(k:Value)(s:Stmt)(x q:Str)(g:Addr)(m c:Value):Obj:=match s with
 | .FunctionDef _ a b _ _ _ sc _ _ _=>⟨k,none,.func { name:=x,qualname:=q,params:=a,body:=.stmts b,scope:=sc,globals:=g,closure:=[],defaults:=.none,kwdefaults:=.none,pyModule:=m,code:=c },#[]⟩
 | _=>default
noncomputable def zhK(x q:Str)(t l n f e:Nat)(b:Bool)(j k r:Value)(u:Nat):Obj:=⟨.type "code",none,.fields #[.str x t,.str q (t+1),.str "/claim/cut.py" (t+2),.int l 0,.int n 0,.int 0 0,.int 0 0,.int f 0,.ref e,.bool b,.int 181 0,.ref (e+1),.none,j,k,r,.int u 0,.int l 0,.str "/claim/cut.py" (u+1)],#[]⟩
noncomputable def zhQ:Value:=.str "shortglue.errors" 187
noncomputable def zhU(P:B2)(x:Str)(a t l n:Nat)(es:List C1)(f:List Value):List Obj:=[zhT [.ref 24],zhG "builtin_function_or_method" [.builtin "type.__prepare__",.type "type"],zhD (zhE P "__module__" (t+7) zhQ::zhE P "__qualname__" (t+9) (.str x (t+8))::zhE P "__firstlineno__" (t+11) (.int l (t+10))::es) n,zhT [],zhF f,zhK x x (t+2) l 0 0 (a+3) false .none .none .none (t+5),⟨.type "frame",none,.plain,#[some (.ref (a+5)),some (.ref 3),some (.ref (a+2)),none,some zhQ,none,some (.ref 0)]⟩,zhT []]
noncomputable def zhV(P:B2)(x:Str)(a t l c:Nat)(es:List C1):List Obj:=[zhD (zhE P "__module__" (t+7) zhQ::zhE P "__firstlineno__" (t+11) (.int l (t+10))::es) 2,⟨.type "type",none,.cls { name:=x,bases:=[.ref 24],mro:=[.ref c,.ref 24,.type "ValueError",.type "Exception",.type "BaseException",.type "object"],ns:=c - 1,qualname:=x,hasDict:=true,slotNames:=[],subclasses:=[],abstract:=false,collection:=none,hasDel:=false },#[some (.ref a),none,some (.str x t),some (.str x (t+8)),some (.builtin "ValueError.__new__"),some (.bool true)]⟩,zhG "super" [.ref c,.ref c,.ref c],zhG "builtin_function_or_method" [.builtin "object.__init_subclass__",.ref c]]
noncomputable def zhX(P:B2)(x:Str)(a t l:Nat):List Obj:=zhU P x a t l 4 [zhE P "__static_attributes__" (t+12) (.ref (a+7))] []++zhV P x a t l (a+9) [zhE P "__static_attributes__" (t+12) (.ref (a+7)),zhE P "__doc__" (t+13) .none]
noncomputable def zhY(P:B2)(p:m_)(x q f:Str)(i a t l:Nat):List Obj:=zhU P x a t l 5 [zhE P "__init__" (t+19) (.ref (a+13)),zhE P "__static_attributes__" (t+21) (.ref (a+14))] [.int (l+2:Nat) 0,.int 4 0,.ref (a+12)]++[zhF [],zhT [.str "self" (t+15),.str f (t+16)],zhT [],zhN .none (zhM p i 0) "__init__" q 0 .none .none,zhK "__init__" q (t+12) (l+2) 2 3 (a+7) true (.ref (a+9)) (.ref (a+10)) (.ref (a+11)) (t+17),zhN (.type "function") (zhM p i 0) "__init__" q 3 zhQ (.ref (a+12)),zhT [.str f (t+20)]]++zhV P x a t l (a+16) [zhE P "__init__" (t+19) (.ref (a+13)),zhE P "__static_attributes__" (t+21) (.ref (a+14)),zhE P "__doc__" (t+22) .none]
end L2
section
open PySem PySem.W PyProof.Rows L2
noncomputable def zzA(P:B2):BT:=lC ((zF P).objs.toList++[zhT [],
  zhF [],
  ⟨(.type "code"),none,(.fields #[(.str "<module>" 182),(.str "<module>" 183),(.str "/claim/cut.py" 184),(.int (1) 0),(.int (0) 0),(.int (0) 0),(.int (0) 0),(.int (0) 0),(.ref 11),(.bool false),(.int (181) 0),(.ref 12),.none,.none,.none,.none,(.int (185) 0),(.int (1) 0),(.str "/claim/cut.py" 186)]),#[]⟩,
  ⟨(.type "frame"),none,.plain,#[(some (.ref 13)),(some (.ref 3)),(some (.ref 3)),none,(some (.str "__main__" 164)),none,(some (.ref 0))]⟩]) 0 .nil
noncomputable def zz1(P:B2):BT:=lC (uy (zF P).objs.toList [(3,zhD [zhE P "__name__" 165 (.str "shortglue.errors" 187),zhE P "__doc__" 166 .none,zhE P "__package__" 167 .none,zhE P "__loader__" 168 (.builtin "__main__.__loader__#opaque"),zhE P "__spec__" 169 .none,zhE P "__annotations__" 170 (.ref 6),zhE P "__builtins__" 171 (.ref 4),zhE P "__file__" 173 (.str "/claim/cut.py" 172),zhE P "__cached__" 174 .none,zhE P "GlueError" 206 (.ref 24),zhE P "TooMany" 231 (.ref 44),zhE P "NoPiece" 256 (.ref 63),zhE P "NoLap" 281 (.ref 82),zhE P "NoOrder" 297 (.ref 94),zhE P "NotHeld" 322 (.ref 113),zhE P "NoTable" 338 (.ref 125),zhE P "NoRing" 354 (.ref 137),zhE P "TooGreat" 379 (.ref 156),zhE P "NoWords" 395 (.ref 168),zhE P "NotApart" 420 (.ref 187)] 20)]++[zhT [],
  zhF [(.int (2) 0),(.int (0) 0),(.ref 20),(.int (4) 0),(.int (0) 0),(.ref 33),(.int (8) 0),(.int (0) 0),(.ref 52),(.int (12) 0),(.int (0) 0),(.ref 71),(.int (16) 0),(.int (0) 0),(.ref 90),(.int (18) 0),(.int (0) 0),(.ref 102),(.int (22) 0),(.int (0) 0),(.ref 121),(.int (24) 0),(.int (0) 0),(.ref 133),(.int (26) 0),(.int (0) 0),(.ref 145),(.int (30) 0),(.int (0) 0),(.ref 164),(.int (32) 0),(.int (0) 0),(.ref 176)],
  ⟨(.type "code"),none,(.fields #[(.str "<module>" 182),(.str "<module>" 183),(.str "/claim/cut.py" 184),(.int (1) 0),(.int (0) 0),(.int (0) 0),(.int (0) 0),(.int (0) 0),(.ref 11),(.bool false),(.int (181) 0),(.ref 12),.none,.none,.none,.none,(.int (185) 0),(.int (1) 0),(.str "/claim/cut.py" 186)]),#[]⟩,
  ⟨(.type "frame"),none,.plain,#[(some (.ref 13)),(some (.ref 3)),(some (.ref 3)),none,(some (.str "__main__" 164)),none,(some (.ref 0))]⟩,
  zhT [(.type "ValueError")],
  zhG "builtin_function_or_method" [(.builtin "type.__prepare__"),(.type "type")],
  zhD [zhE P "__module__" 196 (.str "shortglue.errors" 187),zhE P "__qualname__" 198 (.str "GlueError" 197),zhE P "__firstlineno__" 200 (.int (2) 199),zhE P "__static_attributes__" 201 (.ref 22)] 4,
  zhT [],
  zhF [],
  ⟨(.type "code"),none,(.fields #[(.str "GlueError" 191),(.str "GlueError" 192),(.str "/claim/cut.py" 193),(.int (2) 0),(.int (0) 0),(.int (0) 0),(.int (0) 0),(.int (0) 0),(.ref 18),(.bool false),(.int (181) 0),(.ref 19),.none,.none,.none,.none,(.int (194) 0),(.int (2) 0),(.str "/claim/cut.py" 195)]),#[]⟩,
  ⟨(.type "frame"),none,.plain,#[(some (.ref 20)),(some (.ref 3)),(some (.ref 17)),none,(some (.str "shortglue.errors" 187)),none,(some (.ref 0))]⟩,
  zhT [],
  zhD [zhE P "__module__" 196 (.str "shortglue.errors" 187),zhE P "__firstlineno__" 200 (.int (2) 199),zhE P "__static_attributes__" 201 (.ref 22),zhE P "__weakref__" 203 (.ref 25),zhE P "__doc__" 204 .none] 3,
  ⟨(.type "type"),none,(.cls { name:="GlueError",bases:=[(.type "ValueError")],mro:=[(.ref 24),(.type "ValueError"),(.type "Exception"),(.type "BaseException"),(.type "object")],ns:=23,qualname:="GlueError",hasDict:=true,slotNames:=[],subclasses:=[(.ref 44),(.ref 63),(.ref 82),(.ref 94),(.ref 113),(.ref 125),(.ref 137),(.ref 156),(.ref 168),(.ref 187)],abstract:=false,collection:=none,hasDel:=false }),#[(some (.ref 15)),none,(some (.str "GlueError" 189)),(some (.str "GlueError" 197)),(some (.builtin "ValueError.__new__")),(some (.bool true))]⟩,
  ⟨(.type "getset_descriptor"),none,(.fields #[(.str "__weakref__" 202),(.ref 24),(.builtin "ExceptionGroup.__weakref__"),.none]),#[]⟩,
  zhG "super" [(.ref 24),(.ref 24),(.ref 24)],
  zhG "builtin_function_or_method" [(.builtin "object.__init_subclass__"),(.ref 24)]]++zhY P PySem.Challenge.pw_shortglue_k23_order_of_joins "TooMany" "TooMany.__init__" "most" 2 28 207 4++zhY P PySem.Challenge.pw_shortglue_k23_order_of_joins "NoPiece" "NoPiece.__init__" "at" 3 47 232 8++zhY P PySem.Challenge.pw_shortglue_k23_order_of_joins "NoLap" "NoLap.__init__" "k" 4 66 257 12++zhX P "NoOrder" 85 282 16++zhY P PySem.Challenge.pw_shortglue_k23_order_of_joins "NotHeld" "NotHeld.__init__" "at" 6 97 298 18++zhX P "NoTable" 116 323 22++zhX P "NoRing" 128 339 24++zhY P PySem.Challenge.pw_shortglue_k23_order_of_joins "TooGreat" "TooGreat.__init__" "most" 9 140 355 26++zhX P "NoWords" 159 380 30++zhY P PySem.Challenge.pw_shortglue_k23_order_of_joins "NotApart" "NotApart.__init__" "at" 11 171 396 32) 0 .nil
noncomputable def zzV:Env:={ scope:=(PySem.Challenge.pw_shortglue_k23_order_of_joins).main.scope,locals:=mainNs,globals:=mainNs,cells:=[],code:=(.ref 13),frame:=some 14 }
abbrev zzC:Code:=.body ((behindTheImports PySem.Challenge.pw_shortglue_k23_order_of_joins).take 12++(behindTheImports PySem.Challenge.pw_shortglue_k23_order_of_joins).drop 12) zzV
abbrev uz(w:World)(os:A7):SharedT:=⟨zzA w.params,15,(zF w.params).life,A4 [],boot_drawn,187,os⟩
abbrev yq(w:World)(os:A7):SharedT:=⟨zz1 w.params,190,(zF w.params).life,A4 [],boot_drawn,421,os⟩
theorem uA:∀(w:World) (os:A7),topGo treeTable PySem.Challenge.pw_shortglue_k23_order_of_joins w 11 (some (.ref 6)) 12 ⟨zF w.params,A4 [],boot_drawn,boot_toks,os⟩ (topStub PySem.Challenge.pw_shortglue_k23_order_of_joins)=some ((uz w os).abs,⟨denote treeTable zzC,zzC,⟨0,0,0,0⟩,[topFrame ⟨0,0,0,0⟩]⟩):=by intro w os;kernel_rfl
theorem uB:∀(w:World) (os:A7),segRun treeTable PySem.Challenge.pw_shortglue_k23_order_of_joins w 11 (some (.ref 6)) 1 1 (uz w os).abs (blockOf ((behindTheImports PySem.Challenge.pw_shortglue_k23_order_of_joins).take 12++(behindTheImports PySem.Challenge.pw_shortglue_k23_order_of_joins).drop 12) zzV zzC ⟨0,0,0,0⟩ [topFrame ⟨0,0,0,0⟩])=some (.next,(uz w os).abs,zzC,⟨0,0,0,0⟩):=by intro w os;kernel_rfl
theorem uC:∀(w:World) (os:A7),segRunT treeTable PySem.Challenge.pw_shortglue_k23_order_of_joins w 11 (some (.ref 6)) 1 2518 (uz w os) (piecesOf ((behindTheImports PySem.Challenge.pw_shortglue_k23_order_of_joins).take 12) zzV zzC ⟨0,0,0,0⟩ [topFrame ⟨0,0,0,0⟩])=some (.next,yq w os,zzC,⟨32,0,35,20⟩):=by intro w os;kernel_rfl
end
section
open PySem PySem.W PyProof.Rows
noncomputable def sw:m_:=PySem.W.view PySem.Challenge.pw_shortglue_k23_order_of_joins [1,2,3,4,5,6,7,8,9,10,11,12,13,14,15,16,18,19,20,22,24,25,27,28,29,30,31,32,33,34,35,36,37,38,39,40,41]
local macro_rules | `(tactic| o_head $H)=>`(tactic| (refine holds_open (q:=sw) (loose:=[]) (Xt:=fun s=>xlAt sw [] s && recOk (RowW.records (OpenRow.toRowW (OpenLaw.row PySem.Challenge.rw_shortglue_k23_order_of_joins))) s) (XP:=XL sw []) (Yf:=Hook.obs $H) (Ya:=Hook.val $H) (YP:=Hook.says $H) (N:=4396) ?hl (Hook.of $H) (Hook.keeps $H) (fun s e=>xl_of s (and_eq_true_iff.mp e).1) XL.keeps (by rfl) (by rfl) (by rfl) (fun s e=>recFacts_of (and_eq_true_iff.mp e).2) (by rfl) (by first | assumption | decide +kernel) (by decide +kernel) ⟨rfl,rfl,rfl,rfl,rfl,by decide +kernel⟩ ?hw ?hc;(case hl=>(refine L2.sv (m₀:=11) (ann:=some (.ref 6)) (SA:=uz) (S1:=yq) (n2:=1865) (by kernel_rfl) (by rfl) (fun s=>by kernel_rfl) (fun w=>by kernel_rfl) uA uB uC (by rfl) ?_;intro w os;kernel_rfl))))
set_option maxRecDepth 100000 in
set_option maxHeartbeats 0 in
open_top topHd for PySem.Challenge.rw_shortglue_k23_order_of_joins
end
-- CHANGE: your row's module here,as the last of these rows
namespace L2
open PySem PySem.Spec PyProof.Rows
abbrev Key:=Sum Int Str
noncomputable def l0:Key->Value->Bool
 | .inl k,v=>Value.isInt k v
 | .inr x,v=>Value.isStrOf x v
noncomputable def y8(w:World):Key->Int
 | .inl k=>hashInt k
 | .inr x=>hashStr w x
theorem a4:∀{k:Key}{v:Value},l0 k v=true->(∃i t,k=Br i/\v=B0 i t)\/(∃x t,k=C3 x/\v=BA x t)
 | .inl i,v,h=>by
  obtain⟨t,e⟩:=Value.isInt_shape (k:=i) (v:=v) h;exact .inl ⟨i,t,rfl,e⟩
 | .inr x,v,h=>by
  obtain⟨t,e⟩:=Value.isStrOf_shape (x:=x) (v:=v) h;exact .inr ⟨x,t,rfl,e⟩
def mQ(i:Int)(t:Tok):l0 (.inl i) (.int i t)=true:=by simp [l0,Value.isInt]
def mR(x:Str)(t:Tok):l0 (.inr x) (.str x t)=true:=by simp [l0,Value.isStrOf]
def uD(a b:Int):decide ((Br a:Key)=Br b)=(a == b):=by
 by_cases e:a=b
 .subst e;simp
 .have h:¬ (Br a:Key)=Br b:=λq=>e (CP q);rw [decide_eq_false h];exact (beq_eq_false_iff_ne.mpr e).symm
def uE(a b:Str):decide ((C3 a:Key)=C3 b)=decide (a=b):=by
 by_cases e:a=b
 .subst e;simp
 .have h:¬ (C3 a:Key)=C3 b:=λq=>e (Sum.inr.inj q);rw [decide_eq_false h,decide_eq_false e]
def uF(a:Int)(b:Str):decide ((Br a:Key)=C3 b)=false:=decide_eq_false (λq=>nomatch q)
def uG(a:Str)(b:Int):decide ((C3 a:Key)=Br b)=false:=decide_eq_false (λq=>nomatch q)
noncomputable def bf(prog:m_)(w:World):PySem.KeyKind prog w Key where
 is:=l0
 hash:=y8 w
 inj:=λv a b ha hb=>by
  rcases a4 ha with ⟨i,t,rfl,rfl⟩|⟨x,t,rfl,rfl⟩
  .rcases a4 hb with ⟨j,u,rfl,e⟩|⟨y,u,rfl,e⟩
   .injection e with e1 _;rw [e1]
   .exact nomatch e
  .rcases a4 hb with ⟨j,u,rfl,e⟩|⟨y,u,rfl,e⟩
   .exact nomatch e
   .injection e with e1 _;rw [e1]
 byValue:=λk v h=>by
  rcases a4 h with ⟨i,t,rfl,rfl⟩|⟨x,t,rfl,rfl⟩ <;> rfl
 pyHash:=λhv h=>by
  rcases a4 hv with ⟨i,t,rfl,rfl⟩|⟨x,t,rfl,rfl⟩
  .exact wpAny_pyHash_int h
  .exact wpAny_pyHash_str h
 eqBool:=λhu hv h=>by
  rcases a4 hu with ⟨i,t,rfl,rfl⟩|⟨x,t,rfl,rfl⟩
  .rcases a4 hv with ⟨j,u,rfl,rfl⟩|⟨y,u,rfl,rfl⟩
   .rw [uD] at h;exact wpAny_eqBool_int h
   .rw [uF] at h;exact SeqAt.EqAt.int_str i t y u _ _ _ _ h
  .rcases a4 hv with ⟨j,u,rfl,rfl⟩|⟨y,u,rfl,rfl⟩
   .rw [uG] at h;exact SeqAt.EqAt.str_int x t j u _ _ _ _ h
   .rw [uE] at h;exact wpAny_eqBool_str h
 «strs»:=λk x t v h=>by
  rcases a4 h with ⟨i,u,rfl,e⟩|⟨y,u,rfl,e⟩
  .exact nomatch e
  .injection e with e1 _;subst e1;cases v <;> rfl
def kt(prog:m_)(w:World)(i:Int)(t:Tok):(bf prog w).is (.inl i) (.int i t)=true:=mQ i t
def ku(prog:m_)(w:World)(x:Str)(t:Tok):(bf prog w).is (.inr x) (.str x t)=true:=mR x t
inductive V where
 | non|bl (b:Bool)|int (i:Int)|str (x:Str)|byt (b:Array UInt8)|flt (b:UInt64)|ref (a:Addr)|ty (n:String)
 deriving DecidableEq
noncomputable def bz:V->Value->Prop
 | .non,u=>u=Ah
 | .bl b,u=>u=AL b
 | .int i,u=>∃t,u=B0 i t
 | .str x,u=>∃t,u=BA x t
 | .byt b,u=>∃t,u=Value.bytes b t
 | .flt b,u=>∃t,u=Value.float b t
 | .ref a,u=>u=k_ a
 | .ty n,u=>u=Aq n
abbrev aX:List V->List Value->Prop:=Paired bz
def aX.length{xs:List V}{us:List Value}(r:aX xs us):xs.length=us.length:=Paired.length r
theorem aX.get:∀{xs:List V}{us:List Value}{i:Nat}{x:V},aX xs us->xs[i]?=some x->∃u,us[i]?=some u/\bz x u
 | _,_,_,_,.nil,e=>by simp at e
 | _,_,0,_,.cons r _,e=>by simp at e;subst e;exact⟨_,rfl,r⟩
 | _,_,i+1,x,.cons _ t,e=>by
  obtain⟨u,h1,h2⟩:=aX.get (i:=i) (x:=x) t (by simpa using e);exact⟨u,by simpa using h1,h2⟩
theorem aX.append:∀{xs ys:List V}{us ws:List Value},aX xs us->aX ys ws->aX (xs++ys) (us++ws)
 | _,_,_,_,.nil,s=>s
 | _,_,_,_,.cons r t,s=>.cons r (aX.append t s)
theorem aX.take:∀{xs:List V}{us:List Value} (n:Nat),aX xs us->aX (xs.take n) (us.take n)
 | _,_,0,_=>.nil
 | _,_,_+1,.nil=>.nil
 | _,_,n+1,.cons r t=>.cons r (aX.take n t)
theorem aX.drop:∀{xs:List V}{us:List Value} (n:Nat),aX xs us->aX (xs.drop n) (us.drop n)
 | _,_,0,r=>r
 | _,_,_+1,.nil=>.nil
 | _,_,n+1,.cons _ t=>aX.drop n t
noncomputable def l4:Option V->Option Value->Prop
 | some v,some u=>bz v u
 | none,none=>True
 | _,_=>False
noncomputable def KV{κ:Type}:List (κ×V)->List (κ×Value)->Prop:=Paired λ(p:κ×V) (q:κ×Value)=>p.1=q.1/\bz p.2 q.2
noncomputable def kV:Key->V
 | .inl i=>.int i
 | .inr x=>.str x
inductive HO where
 | lst (xs:List V)
 | tup (xs:List V)
 | dK (kvs:List (Key×V))|dT (kvs:List (List Key×V))
 | set (S:Int->Bool) (n:Nat)
 | ins (C dx:Addr) (fs:List (Str×V))
 | own (x:Addr)
 | xd (fs:List (Str×V))
 | met (f x:Addr)
 | rng (lo hi:Int)
 | frz (o:Obj) (u:HO)
 | tbl (ps:Array Value)
 | ext (φ:Heap->Prop)
abbrev Hp:=Addr->Option HO
noncomputable def upd(H:Hp)(a:Addr)(o:HO):Hp:=λb=>if b=a then some o else H b
def ax{H:Hp}{a:Addr}{o:HO}:upd H a o a=some o:=by unfold upd;rw [if_pos rfl]
def ai{H:Hp}{a b:Addr}{o:HO}(h:b≠a):upd H a o b=H b:=by unfold upd;rw [if_neg h]
def wV{H:Hp}{a b:Addr}{o u:HO}(h:H a=some o)(h':H b=some u)(d:o≠u):a≠b:=by
 intro e;subst e;rw [h] at h';exact d (zE h')
def aH{H:Hp}{a b:Addr}{o:HO}(h:H a=some o)(h':H b=none):a≠b:=by
 intro e;subst e;rw [h] at h';cases h'
noncomputable def ky(H:Hp)(h:Heap)(a:Addr)(q:Str):List Value->Prop
 | []=>True
 | .int _ _::.int _ _::.ref c::r=>H c=some (.own a)/\(∃(oc:Obj) (vs:Array Value) (t:Tok),h.get? c=some oc/\oc.data=.fields vs/\vs[1]?=some (.str q t))/\ky H h a q r
 | _=>False
theorem ky.stay{H H':Hp}{h h':Heap}{a:Addr}{q:Str}(k:∀b u,H b=some (.own a)->h.get? b=some u->h'.get? b=some u)(ho:∀b,H b=some (.own a)->H' b=some (.own a)):∀l:List Value,ky H h a q l->ky H' h' a q l
 | [],_=>trivial
 | .int _ _::.int _ _::.ref c::r,x=>by
  obtain⟨x1,⟨oc,vs,t,e1,e2,e3⟩,x2⟩:=x;exact⟨ho _ x1,⟨oc,vs,t,k _ _ x1 e1,e2,e3⟩,ky.stay k ho r x2⟩
noncomputable def p8(H:Hp)(h:Heap)(a:Addr)(ps:Array Value):Prop:=∃(q:Str) (t:Tok) (more real:Array Value),ps=#[.str q t]++more/\h.get? a=some { cls:=.none,data:=.fields real }/\ky H h a q real.toList
section
variable (P:m_) (w:World)
noncomputable def aO(H:Hp)(h:Heap)(a:Addr):HO->Prop
 | .lst xs=>xs.length<=sizeLine/\∃(its:List Value) (n:Nat),aX xs its/\h.get? a=some { cls:=.type "list",data:=.seq its.toArray n }
 | .tup xs=>xs.length<=sizeLine/\∃its:List Value,aX xs its/\IsTup h a its.toArray
 | .dK kvs=>kvs.length<=sizeLine/\(a == sysModules)=false/\∃vs,KV kvs vs/\h.DictOf (bf P w) a vs
 | .dT kvs=>kvs.length<=sizeLine/\(a == sysModules)=false/\∃xs:List (List Key×Addr×Value),
   Paired (λ(p:List Key×V) (q:List Key×Addr×Value)=>p.1=q.1/\H q.2.1=some (.tup (p.1.map kV))/\bz p.2 q.2.2) kvs xs /\
   ∃o es ep,h.get? a=some o/\o.ExactDict/\o.data=.dict es ep/\es.toList=xs.map (entryOfKey (tupleKind (bf P w)))/\(xs.map (·.1)).Nodup
 | .set S n=>h.SetOf (intKind P w) a S n
 | .ins C dx fs=>H dx=some (.own a)/\fs.length<=1000/\dx≠a/\h.get? a=some (CJ C dx) /\
   ∃mA,h.Ns1 dx mA/\(∀f,l4 (fs.lookup f) (mA f))/\PySem.Within mA (fs.map (·.1))
 | .own _=>∃o,h.get? a=some o
 | .xd fs=>∃mA,h.Ns1 a mA/\∀f,l4 (fs.lookup f) (mA f)
 | .rng lo hi=>∃t u v,h.get? a=some { cls:=.type "range",data:=.fields #[.int lo t,.int hi u,.int 1 v] }
 | .frz o u=>h.get? a=some o/\aO H h a u
 | .tbl ps=>p8 H h a ps
 | .met f x=>h.get? a=some (Ce (.ref f) (.ref x))
 | .ext φ=>φ h/\(∃o,h.get? a=some o)/\∀h1 h2:Heap,φ h1->(∀o,h1.get? a=some o->h2.get? a=some o)->φ h2
noncomputable def HOk(H:Hp)(h:Heap):Prop:=∀a o,H a=some o->aO P w H h a o
end
section
variable {P:m_}{w:World}{H H':Hp}{h h':Heap}{a:Addr}{o:HO}
def aO.lt(x:aO P w H h a o):a<h.objs.size:=by
 cases o with
 | lst xs=>obtain⟨_,_,_,_,e⟩:=x;exact h_ e
 | tup xs=>obtain⟨_,_,_,p⟩:=x;exact p.lt
 | dK kvs=>obtain⟨_,_,_,_,o,_,_,e,_⟩:=x;exact h_ e
 | dT kvs=>obtain⟨_,_,_,_,o,_,_,e,_⟩:=x;exact h_ e
 | set S n=>obtain⟨o,_,_,_,e,_⟩:=x;exact h_ e
 | ins C dx fs=>obtain⟨_,_,_,e,_⟩:=x;exact h_ e
 | own y=>obtain⟨_,e⟩:=x;exact h_ e
 | xd fs=>obtain⟨_,⟨_,_,_,e,_⟩,_⟩:=x;exact h_ e
 | rng lo hi=>obtain⟨_,_,_,e⟩:=x;exact h_ e
 | frz ob u=>obtain⟨e,_⟩:=x;exact h_ e
 | tbl ps=>obtain⟨_,_,_,_,_,e,_⟩:=x;exact h_ e
 | met f y=>exact h_ (show h.get? a=some _ from x)
 | ext φ=>obtain⟨_,⟨_,e⟩,_⟩:=x;exact h_ e
theorem Paired.mapP{α β:Type}{F G:α->β->Prop}:∀{l₁:List α}{l₂:List β},Paired F l₁ l₂->(∀a b,F a b->G a b)->Paired G l₁ l₂
 | _,_,.nil,_=>.nil
 | _,_,.cons r t,f=>.cons (f _ _ r) (Paired.mapP t f)
def aO.stay(x:aO P w H h a o)(k:∀b u,(b=a\/H b=some (.own a))->h.get? b=some u->h'.get? b=some u)
  (ho:∀b,H b=some (.own a)->H' b=some (.own a)) (ht:∀b xs,H b=some (.tup xs)->H' b=some (.tup xs)):aO P w H' h' a o:=by
 induction o with
 | lst xs=>obtain⟨z,its,n,r,e⟩:=x;exact⟨z,its,n,r,k _ _ (.inl rfl) e⟩
 | tup xs=>obtain⟨z,its,r,ob,e,c⟩:=x;exact⟨z,its,r,ob,k _ _ (.inl rfl) e,c⟩
 | dK kvs=>obtain⟨z,y,vs,r,ob,es,ep,e,c⟩:=x;exact⟨z,y,vs,r,ob,es,ep,k _ _ (.inl rfl) e,c⟩
 | dT kvs =>
  obtain⟨z,y,xs,r,ob,es,ep,e,c⟩:=x;exact⟨z,y,xs,Paired.mapP r λp q z=>⟨z.1,ht _ _ z.2.1,z.2.2⟩,ob,es,ep,k _ _ (.inl rfl) e,c⟩
 | set S n=>obtain⟨ob,es,ep,t,e,c⟩:=x;exact⟨ob,es,ep,t,k _ _ (.inl rfl) e,c⟩
 | ins C dx fs =>
  obtain⟨d,z,ne,e,mA,⟨od,es,ep,e2,c⟩,r⟩:=x;exact⟨ho _ d,z,ne,k _ _ (.inl rfl) e,mA,⟨od,es,ep,k _ _ (.inr d) e2,c⟩,r⟩
 | own y=>obtain⟨ob,e⟩:=x;exact⟨ob,k _ _ (.inl rfl) e⟩
 | xd fs=>obtain⟨mA,⟨od,es,ep,e,c⟩,r⟩:=x;exact⟨mA,⟨od,es,ep,k _ _ (.inl rfl) e,c⟩,r⟩
 | rng lo hi=>obtain⟨t,u,v,e⟩:=x;exact⟨t,u,v,k _ _ (.inl rfl) e⟩
 | frz ob u ih=>obtain⟨e,q⟩:=x;exact⟨k _ _ (.inl rfl) e,ih q⟩
 | tbl ps =>
  obtain⟨q,t,more,real,e1,e,r⟩:=x;exact⟨q,t,more,real,e1,k a _ (.inl rfl) e,ky.stay (λb u z=>k b u (.inr z)) ho _ r⟩
 | met f y =>
  have e:h.get? a=some (Ce (.ref f) (.ref y)):=x;show h'.get? a=some (Ce (.ref f) (.ref y));exact k a _ (.inl rfl) e
 | ext φ=>obtain⟨p,⟨o,e⟩,st⟩:=x;exact⟨st _ _ p λo q=>k _ _ (.inl rfl) q,⟨o,k _ _ (.inl rfl) e⟩,st⟩
def HOk.lt(x:HOk P w H h)(e:H a=some o):a<h.objs.size:=(x a o e).lt
def HOk.fresh(x:HOk P w H h)(e:h.objs.size<=a):H a=none:=by
 cases q:H a with
 | none=>rfl
 | some u=>exact absurd (t_ (x.lt q) e) (AW _)
def HOk.kept(x:HOk P w H h)(k:∀b u,h.get? b=some u->h'.get? b=some u):HOk P w H h':=λa o e =>
 (x a o e).stay (λb u _ q=>k b u q) (λ_ q=>q) λ_ _ q=>q
def HOk.laid(x:HOk P w H h)(k:∀b u,h.get? b=some u->h'.get? b=some u)(hp:h.objs.size<=a)(new:aO P w (upd H a o) h' a o):HOk P w (upd H a o) h':=λb u e=>by
 have hn:=x.fresh hp
 by_cases hb:b=a
 .subst hb;rw [ax] at e;cases e;exact new
 .rw [ai hb] at e;exact (x b u e).stay (λc v _ q=>k c v q) (λc q=>by rw [ai (aH q hn)];exact q) λc xs q=>by rw [ai (aH q hn)];exact q
end
noncomputable def Rd(H:Hp)(a:Addr)(u:HO):Prop:=H a=some u\/∃o,H a=some (.frz o u)
def Rd.ok{P:m_}{w:World}{H:Hp}{h:Heap}{a:Addr}{u:HO}(r:Rd H a u)(x:HOk P w H h):aO P w H h a u:=by
 rcases r with r|⟨o,r⟩
 .exact x a u r
 .obtain⟨_,q⟩:=x a _ r;exact q
noncomputable def Mut:Option HO->Prop
 | some (.lst _)=>True
 | some (.dK _)=>True
 | some (.dT _)=>True
 | some (.set _ _)=>True
 | some (.ins _ _ _)=>True
 | some (.ext _)=>True
 | _=>False
section
variable {P:m_}{w:World}{H:Hp}{h h':Heap}{x e:Addr}{o':HO}
def HOk.write(ok:HOk P w H h)(mu:Mut (H x))(he:e=x\/H e=some (.own x))(k:∀b u,b≠e->h.get? b=some u->h'.get? b=some u)(heo:∃u,h'.get? e=some u)
  (new:aO P w (upd H x o') h' x o'):HOk P w (upd H x o') h':=λb u q=>by
 have nown:∀c y,H c=some (.own y)->c≠x:=λc y r z=>by subst z;rw [r] at mu;exact mu
 have ntup:∀c xs,H c=some (.tup xs)->c≠x:=λc xs r z=>by subst z;rw [r] at mu;exact mu
 by_cases hb:b=x
 .subst hb;rw [ax] at q;cases q;exact new
 .rw [ai hb] at q
  by_cases hbe:b=e
  .have q':H b=some (.own x):=by
    rcases he with z|z
    .exact absurd (hbe.trans z) hb
    .rw [hbe];exact z
   rw [q] at q';cases q';obtain⟨v,hv⟩:=heo;exact⟨v,by rw [hbe];exact hv⟩
  .refine (ok b u q).stay (λc v hc r=>k c v ?_ r) (λc r=>by rw [ai (nown c b r)];exact r) λc xs r=>by rw [ai (ntup c xs r)];exact r
   rcases hc with rfl|hc
   .exact hbe
   .rintro rfl
    rcases he with z|z
    .exact nown c b hc z
    .rw [hc] at z;cases z;exact hb rfl
end
structure Un (fs ex:List Addr) (H H':Hp) (h h':Heap):Prop where
 keep:∀b o,h.get? b=some o->H b=none->b∉fs->b∉ex->h'.get? b=some o
 slot:∀b o,h.get? b=some o->H b=none->b∈fs->b∉ex->∃sl,h'.get? b=some { o with slots:=sl }
 free:∀b o,h.get? b=some o->H b=none->b∉ex->H' b=none
 there:∀b o,h.get? b=some o->b∉ex->∃o',h'.get? b=some o'
 tups:∀b xs,H b=some (.tup xs)->H' b=some (.tup xs)
 frzs:∀b o u,H b=some (.frz o u)->H' b=some (.frz o u)
 tbls:∀b ps,H b=some (.tbl ps)->∃more,H' b=some (.tbl (ps++more))
section
variable {fs fs' ex ex':List Addr}{H H1 H2:Hp}{h h1 h2 h':Heap}{a x e:Addr}{o:HO}
def Un.any(u:Un fs ex H H1 h h1){b:Addr}{ob:Obj}(q:h.get? b=some ob)(n:H b=none)(hx:b∉ex):∃sl,h1.get? b=some { ob with slots:=sl }:=by
 by_cases hb:b∈fs
 .exact u.slot b ob q n hb hx
 .exact⟨ob.slots,u.keep b ob q n hb hx⟩
def Un.kept(k:∀b u,h.get? b=some u->h'.get? b=some u):Un fs ex H H h h' :=
 ⟨λb ob q _ _ _=>k b ob q,λb ob q _ _ _=>⟨ob.slots,k b ob q⟩,λ_ _ _ n _=>n,λb ob q _=>⟨ob,k b ob q⟩,λ_ _ q=>q,λ_ _ _ q=>q,λ_ ps q=>⟨#[],by rw [q];simp⟩⟩
def Un.refl:Un fs ex H H h h:=Un.kept λ_ _ q=>q
def Un.laid(k:∀b u,h.get? b=some u->h'.get? b=some u)(hp:h.objs.size<=a)(hn:H a=none):Un fs ex H (upd H a o) h h' where
 keep:=λb u q _ _ _=>k b u q
 slot:=λb u q _ _ _=>⟨u.slots,k b u q⟩
 free:=λb u q n _=>by rw [ai (zI (t_ (h_ q) hp))];exact n
 there:=λb u q _=>⟨u,k b u q⟩
 tups:=λb xs q=>by rw [ai (aH q hn)];exact q
 frzs:=λb u xs q=>by rw [ai (aH q hn)];exact q
 tbls:=λb ps q=>⟨#[],by rw [ai (aH q hn),q];simp⟩
def Un.write(mu:Mut (H x))(he:e=x\/H e=some (.own x))(k:∀b u,b≠e->h.get? b=some u->h'.get? b=some u)(heo:∃u,h'.get? e=some u):Un fs ex H (upd H x o) h h':=by
 have hx:∀b,H b=none->b≠x:=λb n z=>by subst z;rw [n] at mu;exact mu
 have hb:∀b,H b=none->b≠e:=λb n z=>by
  subst z
  rcases he with r|r
  .exact hx b n r
  .rw [n] at r;cases r
 have hm:∀b u,H b=some u->¬ Mut (some u)->b≠x:=λb u q nm z=>by subst z;rw [q] at mu;exact nm mu
 refine⟨λb u q n _ _=>k b u (hb b n) q,λb u q n _ _=>⟨u.slots,k b u (hb b n) q⟩,λb u q n _=>by rw [ai (hx b n)];exact n,λb u q _=>?_,
  λb xs q=>by rw [ai (hm b _ q λz=>z)];exact q,λb u xs q=>by rw [ai (hm b _ q λz=>z)];exact q,λb ps q=>⟨#[],by rw [ai (hm b _ q λz=>z),q];simp⟩⟩
 by_cases hbe:b=e
 .subst hbe;exact heo
 .exact⟨u,k b u hbe q⟩
end
noncomputable def trk(h:Heap)(H:Hp):List Addr:=(p_ h.objs.size).filter λa=>(H a).isSome
noncomputable def uH(h:Heap)(H:Hp):Heap:=PySem.W.hideAll h (trk h H)
def mS(h:Heap)(H:Hp):(uH h H).objs.size=h.objs.size:=PySem.W.hideAll_size _ _
def p9{h:Heap}{H:Hp}{b:Addr}{o:Obj}(e:h.get? b=some o)(n:H b=none):(uH h H).get? b=some o :=
 PySem.W.hideAll_get _ e λhm=>by
  have q:(H b).isSome=true:=(CA.mp hm).2;rw [n] at q;simp at q
def sx{h:Heap}{H:Hp}{b:Addr}{o:Obj}(e:(uH h H).get? b=some o):h.get? b=some o/\H b=none:=by
 have e':h.get? b=some o:=PySem.W.of_hideAll (trk h H) e;refine⟨e',?_⟩
 cases q:H b with
 | none=>rfl
 | some x =>
  have hm:b∈trk h H:=CA.mpr ⟨mem_range.mpr (h_ e'),by simp [q]⟩;have z:(uH h H).get? b=none:=PySem.W.hideAll_none (trk h H) hm;rw [z] at e;cases e
noncomputable def jg(base:Heap)(H:Hp):Prop:=∀(P:Addr) (r:List Nat),base.life.registered=P::r->∃(t:Tok) (more:Array Value),H P=some (.tbl (#[.str ⟨r.toArray⟩ t]++more))
def jg.un{base:Heap}{fs ex:List Addr}{H H':Hp}{h h':Heap}(x:jg base H)(u:Un fs ex H H' h h'):jg base H':=λP r e=>by
 obtain⟨t,more,q⟩:=x P r e;obtain⟨m2,q2⟩:=u.tbls P _ q;exact⟨t,more++m2,by rw [q2,Array.append_assoc]⟩
noncomputable def uI(h:Heap)(H:Hp):Heap:={ uH h H with life:={} }
structure Mod (K:b_) (mg:Str->Option Value) (base:Heap):Prop where
 kin:K.In base
 glob:base.Ns mainGlobals mg
 blt:∃mb,base.Ns builtinsNs mb/\∀x:Str,x≠"__name__"->mb x=bootBuiltins x
 nolimit:base.NoLimit
structure Cx where
 prog:m_
 w:World
 K:b_
 mg:Str->Option Value
 base:Heap
 A:v_
 N:List Str
 s₀:c_
 H₀:Hp
 env:Env
 outer:List Env
 stack:List Env
 ex:List Addr
 fn:Str->Bool
 calm:Bool
 pn:List (Addr×Obj)
 xe:Value->c_->Prop
noncomputable def frs(l:List Env):List Addr:=l.filterMap (·.frame)
abbrev Cx.fs(X:Cx):List Addr:=frs X.outer
noncomputable def Vis(sc:Scope)(x:Str):Prop:=sc.names.lookup x=some .local\/sc.names.lookup x=some .cell\/sc.names.lookup x=some .free
noncomputable def Loc(sc:Scope)(x:Str):Prop:=sc.names.lookup x=some .local\/sc.names.lookup x=some .cell
noncomputable def y9(env:Env)(h:Heap)(m:Str->Option Value)(x:Str)(u:Value):Prop :=
 (env.kindOf x=some .local/\m x=some u)\/((env.kindOf x=some .cell\/env.kindOf x=some .free)/\∃c,env.cells.lookup x=some c/\h.IsCell c (some u))
structure Cx.Ok (X:Cx):Prop where
 mod:Mod X.K X.mg X.base
 kind:X.env.scope.kind=.function
 glob:X.env.globals=mainGlobals
 blt:X.env.builtins=builtinsNs
 above:X.s₀.heap.objs.size<=X.env.locals
 inj:∀x y c,X.env.cells.lookup x=some c->X.env.cells.lookup y=some c->x=y
 has:∀x,(X.env.kindOf x=some .cell\/X.env.kindOf x=some .free)->∃c,X.env.cells.lookup x=some c
 cab:∀x c,X.fn x=true->X.env.cells.lookup x=some c->X.s₀.heap.objs.size<=c
 hd:X.calm=true->X.A.handled=none
 frames:X.A.frames=some X.stack
 stk:X.stack=X.outer\/(X.stack=X.env::X.outer/\X.env.frame=some X.env.locals)
 exf:∀b∈X.ex,b≠X.env.locals/\∀x c,X.env.cells.lookup x=some c->c≠b
 bs:∀b o,X.base.get? b=some o->X.s₀.heap.get? b=some o/\X.H₀ b=none
 bsz:X.base.objs.size<=X.s₀.heap.objs.size
 noex:∀b o,X.base.get? b=some o->b∉X.ex
 exfs:∀b∈X.ex,b∉X.fs
 funs:X.s₀.heap.FunFrames X.base X.outer
 frf:∀b∈X.fs,X.H₀ b=none
 tb:jg X.base X.H₀
structure Inv (X:Cx) (pins:List (Addr×Obj)) (σ:List (Option V)) (H:Hp) (s:c_):Prop where
 ok:X.Ok
 os:s.os=X.s₀.os
 bare:BS s.gens
 base:Un X.fs X.ex X.H₀ H X.s₀.heap s.heap
 loc:∃m,s.heap.Ns X.env.locals m/\∀(i:Nat) (x:Str) (v:V),X.N[i]?=some x->σ[i]?=some (some v)->Vis X.env.scope x->∃u,bz v u/\y9 X.env s.heap m x u
 cell:∀x c,X.env.cells.lookup x=some c->∃v,s.heap.IsCell c v
 free:H X.env.locals=none
 freeC:∀x c,X.env.cells.lookup x=some c->H c=none
 pin:∀p∈X.pn++pins,s.heap.get? p.1=some p.2/\H p.1=none/\p.1≠X.env.locals/\p.1∉X.fs/\∀v,p.2.data≠.cell v
 hok:HOk X.prog X.w H s.heap
 len:σ.length=X.N.length
section
variable {X:Cx}{pins:List (Addr×Obj)}{σ:List (Option V)}{H H':Hp}{s:c_}{h':Heap}
def Cx.Ok.nofr(ok:X.Ok){b:Addr}{o:Obj}(e:X.base.get? b=some o):b∉X.fs:=λhb=>by
 have:=(ok.funs.mem hb).1;rw [e] at this;cases this
def Inv.bs(I:Inv X pins σ H s):∀b o,X.base.get? b=some o->s.heap.get? b=some o/\H b=none:=λb o e =>
 ⟨I.base.keep b o (I.ok.bs b o e).1 (I.ok.bs b o e).2 (I.ok.nofr e) (I.ok.noex b o e),I.base.free b o (I.ok.bs b o e).1 (I.ok.bs b o e).2 (I.ok.noex b o e)⟩
def Inv.bk(I:Inv X pins σ H s):∀b o,X.base.get? b=some o->s.heap.get? b=some o:=λb o e=>(I.bs b o e).1
def Inv.mod(I:Inv X pins σ H s):Mod X.K X.mg X.base:=I.ok.mod
def Inv.kIn(I:Inv X pins σ H s):X.K.In s.heap:=I.ok.mod.kin.keeps I.bk
def Inv.lt(I:Inv X pins σ H s):X.env.locals<s.heap.objs.size:=let ⟨_,hn,_⟩:=I.loc;hn.lt
def Inv.sz(I:Inv X pins σ H s):X.s₀.heap.objs.size<=s.heap.objs.size:=Af I.ok.above (le_of_lt I.lt)
def Inv.nofs(I:Inv X pins σ H s){a:Addr}(h:s.heap.objs.size<=a):a∉X.fs:=λhb=>by
 obtain⟨_,o,ho,_⟩:=I.ok.funs.mem hb;exact absurd (t_ (h_ ho) (Af I.sz h)) (AW _)
def Inv.cne(I:Inv X pins σ H s):∀x c,X.env.cells.lookup x=some c->c≠X.env.locals:=λx c e z=>by
 obtain⟨v,o,ho,hd⟩:=I.cell x c e;obtain⟨m,⟨o',es,ep,ho',hd',_⟩,_⟩:=I.loc;rw [z,ho'] at ho;cases ho;rw [hd'] at hd;cases hd
def Inv.funs(I:Inv X pins σ H s):s.heap.FunFrames X.base X.outer:=by
 have all:∀(l:List Env),(∀b∈frs l,b∈X.fs)->X.s₀.heap.FunFrames X.base l->s.heap.FunFrames X.base l:=by
  intro l
  induction l with
  | nil=>intro _ _;trivial
  | cons env r ih =>
   intro hs hl;obtain⟨hk,⟨L,o,hf,hn,ho,hd⟩,hr⟩:=hl;have hL:L∈X.fs:=hs L (by unfold frs;rw [A8,hf];exact mem_cons_self);obtain⟨sl,e⟩:=I.base.slot L o ho (I.ok.frf L hL) hL λz=>I.ok.exfs L z hL;exact⟨hk,⟨L,_,hf,hn,e,hd⟩,ih (λb hb=>hs b (by unfold frs;rw [A8,hf];exact w_ _ hb)) hr⟩
 exact all X.outer (λ_ hb=>hb) I.ok.funs
def Inv.stack(I:Inv X pins σ H s):s.heap.FunFrames X.base X.stack:=by
 rcases I.ok.stk with e|⟨e,hf⟩
 .rw [e];exact I.funs
 .rw [e];obtain⟨m,hn,_⟩:=I.loc;refine .cons (by rw [I.ok.kind];decide) hf hn ?_ I.funs;exact Heap.get?_none_of_le (Af I.ok.bsz I.ok.above)
def Inv.stkSub(I:Inv X pins σ H s):∀b∈frs X.stack,b∈X.env.locals::X.fs:=λb hb=>by
 rcases I.ok.stk with e|⟨e,hf⟩
 .rw [e] at hb;exact w_ _ hb
 .rw [e] at hb;unfold frs at hb;rw [A8,hf] at hb;exact hb
def Inv.stkFree(I:Inv X pins σ H s):∀b∈frs X.stack,H b=none:=λb hb=>by
 rcases mem_cons.mp (I.stkSub b hb) with e|hb
 .rw [e];exact I.free
 .obtain⟨_,o,ho,_⟩:=I.ok.funs.mem hb;exact I.base.free b o ho (I.ok.frf b hb) λz=>I.ok.exfs b z hb
def Inv.step{g':Array B3}{t':Nat}{d':Drawn}{ch:List Addr}(I:Inv X pins σ H s)
  (hch:∀b∈ch,(b∈X.ex\/X.s₀.heap.objs.size<=b)/\b≠X.env.locals/\(∀x c,X.env.cells.lookup x=some c->c≠b)/\∀p∈X.pn++pins,p.1≠b)
  (keep:∀b o,b≠X.env.locals->b∉X.fs->b∉ch->s.heap.get? b=some o->H b=none->h'.get? b=some o)
  (slot:∀b o,b≠X.env.locals->b∈X.fs->b∉ch->s.heap.get? b=some o->H b=none->∃sl,h'.get? b=some { o with slots:=sl }) (free:∀b o,b∉ch->s.heap.get? b=some o->H b=none->H' b=none)
  (there:∀b o,b∉ch->s.heap.get? b=some o->∃o',h'.get? b=some o')
  (tups:∀b xs,H b=some (.tup xs)->H' b=some (.tup xs)) (frzs:∀b o u,H b=some (.frz o u)->H' b=some (.frz o u)) (tbls:∀b ps,H b=some (.tbl ps)->∃more,H' b=some (.tbl (ps++more)))
  (ns:∀m,s.heap.Ns X.env.locals m->h'.Ns X.env.locals m) (hok:HOk X.prog X.w H' h') (hg:BS g') :
  Inv X pins σ H' { s with heap:=h',gens:=g',drawn:=d',toks:=t' }:=by
 have neL:∀b o,X.s₀.heap.get? b=some o->b≠X.env.locals:=λb o e=>zI (t_ (h_ e) I.ok.above)
 have neC:∀b o,X.s₀.heap.get? b=some o->b∉X.ex->b∉ch:=λb o e hx hb=>by
  rcases (hch b hb).1 with z|z
  .exact hx z
  .exact absurd (t_ (h_ e) z) (AW _)
 have cellK:∀x c,X.env.cells.lookup x=some c->∀v,s.heap.IsCell c v->h'.IsCell c v:=λx c e v ⟨o,ho,hd⟩=>by
  have nch:c∉ch:=λz=>(hch c z).2.2.1 x c e rfl
  by_cases hc:c∈X.fs
  .obtain⟨sl,q⟩:=slot c o (I.cne x c e) hc nch ho (I.freeC x c e);exact⟨_,q,hd⟩
  .exact⟨o,keep c o (I.cne x c e) hc nch ho (I.freeC x c e),hd⟩
 refine⟨I.ok,I.os,hg,⟨λb o e n hb hx=>?_,λb o e n hb hx=>?_,λb o e n hx=>?_,λb o e hx=>?_,λb xs e=>tups b xs (I.base.tups b xs e),λb o xs e=>frzs b o xs (I.base.frzs b o xs e),λb ps e=>?_⟩,?_,λx c e=>?_,?_,λx c e=>?_,λp hp=>?_,hok,I.len⟩
 .exact keep b o (neL b o e) hb (neC b o e hx) (I.base.keep b o e n hb hx) (I.base.free b o e n hx)
 .obtain⟨sl,e1⟩:=I.base.slot b o e n hb hx;obtain⟨sl',e2⟩:=slot b _ (neL b o e) hb (neC b o e hx) e1 (I.base.free b o e n hx);exact⟨sl',e2⟩
 .obtain⟨o',e1⟩:=I.base.there b o e hx;exact free b o' (neC b o e hx) e1 (I.base.free b o e n hx)
 .obtain⟨o',e1⟩:=I.base.there b o e hx;exact there b o' (neC b o e hx) e1
 .obtain⟨m1,e1⟩:=I.base.tbls b ps e;obtain⟨m2,e2⟩:=tbls b _ e1;exact⟨m1++m2,by rw [e2,Array.append_assoc]⟩
 .obtain⟨m,hn,hl⟩:=I.loc;refine⟨m,ns m hn,λi x v e1 e2 e3=>?_⟩;obtain⟨u,r,l⟩:=hl i x v e1 e2 e3;refine⟨u,r,?_⟩
  rcases l with l|⟨k,c,e,z⟩
  .exact .inl l
  .exact .inr ⟨k,c,e,cellK x c e _ z⟩
 .obtain⟨v,z⟩:=I.cell x c e;exact⟨v,cellK x c e v z⟩
 .obtain⟨m,⟨o,_,_,ho,_⟩,_⟩:=I.loc;exact free _ o (λz=>(hch _ z).2.1 rfl) ho I.free
 .obtain⟨v,o,ho,hd⟩:=I.cell x c e;exact free c o (λz=>(hch c z).2.2.1 x c e rfl) ho (I.freeC x c e)
 .obtain⟨e,n,ne,nf,d⟩:=I.pin p hp;have nch:p.1∉ch:=λz=>(hch p.1 z).2.2.2 p hp rfl;exact⟨keep p.1 p.2 ne nf nch e n,free p.1 p.2 nch e n,ne,nf,d⟩
def Inv.un{t':Nat}(I:Inv X pins σ H s)(u:Un X.fs [] H H' s.heap h')(hok:HOk X.prog X.w H' h'):Inv X pins σ H' { s with heap:=h',toks:=t' }:=by
 obtain⟨m,⟨o,es,ep,ho,r⟩,_⟩:=id I.loc;obtain⟨sl,hL⟩:=u.any ho I.free (by simp)
 exact I.step (g':=s.gens) (d':=s.drawn) (ch:=[]) (λ_ z=>nomatch z) (λb o _ hb _ e n=>u.keep b o e n hb (by simp)) (λb o _ hb _ e n=>u.slot b o e n hb (by simp)) (λb o _ e n=>u.free b o e n (by simp)) (λb o _ e=>u.there b o e (by simp)) u.tups u.frzs u.tbls (λm' hm=>by
  obtain⟨o',es',ep',ho',r'⟩:=hm;rw [ho] at ho';cases ho';exact⟨_,es',ep',hL,r'⟩) hok I.bare
def Inv.call{g':Array B3}{t':Nat}{d':Drawn}{ch:List Addr}(I:Inv X pins σ H s)(u:Un (frs X.stack) ch H H' s.heap h')(hok:HOk X.prog X.w H' h')(hg:BS g')
  (hch:∀b∈ch,(b∈X.ex\/X.s₀.heap.objs.size<=b)/\b≠X.env.locals/\(∀x c,X.env.cells.lookup x=some c->c≠b)/\∀p∈X.pn++pins,p.1≠b) :
  Inv X pins σ H' { s with heap:=h',gens:=g',drawn:=d',toks:=t' }:=by
 obtain⟨m,⟨o,es,ep,ho,r⟩,_⟩:=id I.loc;obtain⟨sl,hL⟩:=u.any ho I.free λz=>(hch _ z).2.1 rfl
 exact I.step (ch:=ch) hch (λb o hL hb hc e n=>u.keep b o e n (λz=>(mem_cons.mp (I.stkSub b z)).elim hL hb) hc) (λb o _ _ hc e n=>u.any e n hc) (λb o hc e n=>u.free b o e n hc) (λb o hc e=>u.there b o e hc) u.tups u.frzs u.tbls (λm' hm=>by
  obtain⟨o',es',ep',ho',r'⟩:=hm;rw [ho] at ho';cases ho';exact⟨_,es',ep',hL,r'⟩) hok hg
def Inv.turned{t':Nat}{it:Addr}(I:Inv X pins σ H s)(k:∀b o,b≠it->s.heap.get? b=some o->h'.get? b=some o)(hn:H it=none)(hL:it≠X.env.locals)
  (h1:it∈X.ex\/X.s₀.heap.objs.size<=it) (h2:∀x c,X.env.cells.lookup x=some c->c≠it) (h3:∀p∈X.pn++pins,p.1≠it):Inv X pins σ H { s with heap:=h',toks:=t' }:=by
 have nit:∀b u,H b=some u->b≠it:=λb u e z=>by rw [z,hn] at e;cases e
 refine I.step (g':=s.gens) (d':=s.drawn) (ch:=[it]) (λb hb=>?_) (λb o _ _ hc e _=>k b o (λz=>hc (by simp [z])) e) (λb o _ _ hc e _=>⟨o.slots,k b o (λz=>hc (by simp [z])) e⟩) (λ_ _ _ _ n=>n)
  (λb o hc e=>⟨o,k b o (λz=>hc (by simp [z])) e⟩) (λ_ _ e=>e) (λ_ _ _ e=>e) (λb ps e=>⟨#[],by rw [e];simp⟩) (λm hm=>?_) (λb u e=>?_) I.bare
 .have e:b=it:=by simpa using hb
  subst e;exact⟨h1,hL,h2,h3⟩
 .obtain⟨o,es,ep,ho,r⟩:=hm;exact⟨o,es,ep,k _ o (A3 hL) ho,r⟩
 .refine (I.hok b u e).stay (λc v hc q=>k c v ?_ q) (λ_ q=>q) λ_ _ q=>q
  rcases hc with z|z
  .rw [z];exact nit b u e
  .exact nit c _ z
def Inv.tok(I:Inv X pins σ H s)(t:Nat):Inv X pins σ H { s with toks:=t }:=I.un (h':=s.heap) (t':=t) Un.refl I.hok
def Inv.kept{t':Nat}(I:Inv X pins σ H s)(k:∀b u,s.heap.get? b=some u->h'.get? b=some u):Inv X pins σ H { s with heap:=h',toks:=t' }:=I.un (Un.kept k) (I.hok.kept k)
def Inv.laid{a:Addr}{o:HO}{t':Nat}(I:Inv X pins σ H s)(k:∀b u,s.heap.get? b=some u->h'.get? b=some u)(hp:s.heap.objs.size<=a)(new:aO X.prog X.w (upd H a o) h' a o) :
  Inv X pins σ (upd H a o) { s with heap:=h',toks:=t' }:=I.un (Un.laid k hp (I.hok.fresh hp)) (I.hok.laid k hp new)
def Inv.write{x e:Addr}{o:HO}{t':Nat}(I:Inv X pins σ H s)(mu:Mut (H x))(he:e=x\/H e=some (.own x))(k:∀b u,b≠e->s.heap.get? b=some u->h'.get? b=some u)(heo:∃u,h'.get? e=some u)
  (new:aO X.prog X.w (upd H x o) h' x o):Inv X pins σ (upd H x o) { s with heap:=h',toks:=t' }:=I.un (Un.write mu he k heo) (I.hok.write mu he k heo new)
def Inv.pins_of{pins':List (Addr×Obj)}(I:Inv X pins σ H s)(h:∀p∈pins',s.heap.get? p.1=some p.2/\H p.1=none/\p.1≠X.env.locals/\p.1∉X.fs/\∀v,p.2.data≠.cell v):Inv X pins' σ H s :=
 ⟨I.ok,I.os,I.bare,I.base,I.loc,I.cell,I.free,I.freeC,λp hp=>(z0.mp hp).elim (λz=>I.pin p (zX _ z)) (h p),I.hok,I.len⟩
def iB{N:List Str}(hN:N.Nodup){i j:Nat}{x:Str}(a:N[i]?=some x)(b:N[j]?=some x):i=j:=by
 obtain⟨h1,e1⟩:=i_.mp a;obtain⟨h2,e2⟩:=i_.mp b;exact (getElem_inj hN).mp (e1.trans e2.symm)
theorem mT{M:Model}{A:v_}{E:Value->c_->Prop}{i:Nat}{x:Str}{v:V}{u:Value}{Q:Unit->c_->Prop}(I:Inv X pins σ H s)(hN:X.N.Nodup)(hi:X.N[i]?=some x)(hx:Loc X.env.scope x)(r:bz v u)
  (h:∀s',Inv X pins (σ.set i (some v)) H s'->(∃a,CB a s.heap s'.heap/\(a=X.env.locals\/X.env.cells.lookup x=some a))->Q () s') (hf:X.fn x=true\/X.env.scope.names.lookup x=some .local:=by first|exact .inl rfl|exact .inr rfl|assumption):wpAny M A (storeName X.env x u) Q E s:=by
 obtain⟨m,hn,hl⟩:=id I.loc;have hcls:(X.env.scope.kind == .class || (X.env.scope.kind == .module && X.env.locals != X.env.globals))=false:=by rw [I.ok.kind];rfl
 have hiσ:i<σ.length:=by rw [I.len];exact (i_.mp hi).1
 have cne:=I.cne
 have tracked:∀{a:Addr}{h':Heap},(∃o,s.heap.get? a=some o/\H a=none)->CB a s.heap h'->HOk X.prog X.w H h':=λ{a h'} ha hs b ob e=>by
  obtain⟨_,_,hfree⟩:=ha;refine (I.hok b ob e).stay (λc w' hc q=>(hs.2 c ?_).trans q) (λ_ q=>q) λ_ _ q=>q;rintro rfl
  rcases hc with rfl|hc
  .rw [hfree] at e;cases e
  .rw [hfree] at hc;cases hc
 rcases hx with hk|hk
 .refine wpAny_storeName_local hk hn (λh' hn' hs=>?_) hcls;obtain⟨oL,_,_,hoL,_⟩:=id hn
  refine h _ ⟨I.ok,I.os,I.bare,⟨λb o e n hb hx=>?_,λb o e n hb hx=>?_,I.base.free,λb o e hx=>?_,I.base.tups,I.base.frzs,I.base.tbls⟩,⟨_,hn',λj y v' e1 e2 e3=>?_⟩,λy c e=>?_,I.free,I.freeC,λp hp=>?_,tracked ⟨oL,hoL,I.free⟩ hs,by simpa using I.len⟩ ⟨_,hs,.inl rfl⟩
  .exact (hs.2 b (zI (t_ (h_ e) I.ok.above))).trans (I.base.keep b o e n hb hx)
  .obtain⟨sl,e1⟩:=I.base.slot b o e n hb hx;exact⟨sl,(hs.2 b (zI (t_ (h_ e) I.ok.above))).trans e1⟩
  .obtain⟨o',e1⟩:=I.base.there b o e hx;exact⟨o',(hs.2 b (zI (t_ (h_ e) I.ok.above))).trans e1⟩
  .by_cases hj:j=i
   .subst hj;rw [hi] at e1;cases e1;rw [n_ hiσ] at e2;cases e2;exact⟨u,r,.inl ⟨hk,by simp⟩⟩
   .rw [gV (A3 hj)] at e2;obtain⟨u',r',q⟩:=hl j y v' e1 e2 e3;refine⟨u',r',?_⟩
    rcases q with ⟨k,e⟩|⟨k,c,e,z⟩
    .refine .inl ⟨k,?_⟩;have:y≠x:=λe=>hj (iB hN e1 (e ▸ hi));simp [this,e]
    .exact .inr ⟨k,c,e,z.sameBut hs (cne y c e)⟩
  .obtain⟨w',z⟩:=I.cell y c e;exact⟨w',z.sameBut hs (cne y c e)⟩
  .obtain⟨e,n,ne,nf,d⟩:=I.pin p hp;exact⟨(hs.2 p.1 ne).trans e,n,ne,nf,d⟩
 .have hfn:X.fn x=true:=by
   rcases hf with z|z
   .exact z
   .rw [z] at hk;cases hk
  obtain⟨c,hc⟩:=I.ok.has x (.inl hk);obtain⟨w',z⟩:=I.cell x c hc;refine wpAny_storeName_cell I.ok.kind hk hc z (λh' hc' hs=>?_);obtain⟨oc,hoc,hocd⟩:=id z
  refine h { s with heap:=h' } ⟨I.ok,I.os,I.bare,⟨λb o e n hb hx=>?_,λb o e n hb hx=>?_,I.base.free,λb o e hx=>?_,I.base.tups,I.base.frzs,I.base.tbls⟩,⟨m,hn.sameBut hs (A3 (cne x c hc)),λj y v' e1 e2 e3=>?_⟩,λy c' e=>?_,I.free,I.freeC,λp hp=>?_,tracked ⟨oc,hoc,I.freeC x c hc⟩ hs,by simpa using I.len⟩ ⟨c,hs,.inr hc⟩
  .exact (hs.2 b (zI (t_ (h_ e) (I.ok.cab x c hfn hc)))).trans (I.base.keep b o e n hb hx)
  .obtain⟨sl,e1⟩:=I.base.slot b o e n hb hx;exact⟨sl,(hs.2 b (zI (t_ (h_ e) (I.ok.cab x c hfn hc)))).trans e1⟩
  .obtain⟨o',e1⟩:=I.base.there b o e hx;exact⟨o',(hs.2 b (zI (t_ (h_ e) (I.ok.cab x c hfn hc)))).trans e1⟩
  .by_cases hj:j=i
   .subst hj;rw [hi] at e1;cases e1;rw [n_ hiσ] at e2;cases e2;exact⟨u,r,.inr ⟨.inl hk,c,hc,hc'⟩⟩
   .rw [gV (A3 hj)] at e2;obtain⟨u',r',q⟩:=hl j y v' e1 e2 e3;refine⟨u',r',?_⟩
    rcases q with q|⟨k,c',e,z'⟩
    .exact .inl q
    .refine .inr ⟨k,c',e,z'.sameBut hs ?_⟩;rintro rfl;exact hj (iB hN e1 (I.ok.inj _ _ _ e hc ▸ hi))
  .by_cases hcc:c'=c
   .subst hcc;exact⟨_,hc'⟩
   .obtain⟨w2,z2⟩:=I.cell y c' e;exact⟨w2,z2.sameBut hs hcc⟩
  .obtain⟨e,n,ne,nf,d⟩:=I.pin p hp;refine⟨(hs.2 p.1 ?_).trans e,n,ne,nf,d⟩;intro q;rw [q,hoc] at e;have q':oc=p.2:=zE e;exact d w' (by rw [<- q'];exact hocd)
theorem dk{M:Model}{A:v_}{E:Value->c_->Prop}{i:Nat}{x:Str}{v:V}{u:Value}{Q:Unit->c_->Prop}(I:Inv X pins σ H s)(hN:X.N.Nodup)(hi:X.N[i]?=some x)(hx:Loc X.env.scope x)(r:bz v u)
  (h:∀s',Inv X pins (σ.set i (some v)) H s'->Q () s') (hf:X.fn x=true\/X.env.scope.names.lookup x=some .local:=by first|exact .inl rfl|exact .inr rfl|assumption):wpAny M A (storeName X.env x u) Q E s :=
 mT I hN hi hx r (λs' I' _=>h s' I') hf
def Inv.call'{s':c_}{ch:List Addr}(I:Inv X pins σ H s)(ho:s'.os=s.os)(u:Un (frs X.stack) ch H H' s.heap s'.heap)(hok:HOk X.prog X.w H' s'.heap)(hg:BS s'.gens)
  (hch:∀b∈ch,(b∈X.ex\/X.s₀.heap.objs.size<=b)/\b≠X.env.locals/\(∀x c,X.env.cells.lookup x=some c->c≠b)/\∀p∈X.pn++pins,p.1≠b):Inv X pins σ H' s':=by
 obtain⟨h',g',d',t',o'⟩:=s';have e:o'=s.os:=ho;subst e;exact I.call (g':=g') (t':=t') (d':=d') u hok hg hch
end
abbrev XK:=Value->Option Addr->Hp->Prop
abbrev St:=List (Option V)
abbrev VK:=V->Hp->Prop
abbrev TE:=St->Hp->VK->Prop
abbrev TT:=St->Hp->(Bool->Hp->Prop)->Prop
abbrev TA:=St->Hp->(List V->Hp->Prop)->Prop
structure pX where
 nx:St->Hp->Prop
 rt:VK
 bk:St->Hp->Prop:=λ_ _=>False
 ct:St->Hp->Prop:=λ_ _=>False
abbrev TS:=pX->St->Hp->Prop
noncomputable def EP(X:Cx)(pins:List (Addr×Obj))(σ:St)(Q:VK)(u:Value)(s':c_):Prop:=∃v H',Inv X pins σ H' s'/\bz v u/\Q v H'
noncomputable def TP(X:Cx)(pins:List (Addr×Obj))(σ:St)(Q:Bool->Hp->Prop)(b:Bool)(s':c_):Prop:=∃H',Inv X pins σ H' s'/\Q b H'
noncomputable def AP(X:Cx)(pins:List (Addr×Obj))(σ:St)(Q:List V->Hp->Prop)(us:List Value)(s':c_):Prop:=∃vs H',Inv X pins σ H' s'/\aX vs us/\Q vs H'
noncomputable def SP(X:Cx)(pins:List (Addr×Obj))(D:pX)(f:Flow)(s':c_):Prop :=
 match f with
 | .next=>∃σ' H',Inv X pins σ' H' s'/\D.nx σ' H'
 | .brk=>∃σ' H',Inv X pins σ' H' s'/\D.bk σ' H'
 | .cont=>∃σ' H',Inv X pins σ' H' s'/\D.ct σ' H'
 | .ret u=>∃v σ' H',Inv X pins σ' H' s'/\bz v u/\D.rt v H'
noncomputable def PE(X:Cx)(e:Expr)(t:TE):Prop :=
 ∀(pins:List (Addr×Obj)) (s:c_) (σ:St) (H:Hp) (Q:VK),Inv X pins σ H s->t σ H Q->wpAny (model X.prog X.w) X.A (eval e X.env) (EP X pins σ Q) X.xe s
noncomputable def PT(X:Cx)(e:Expr)(t:TT):Prop :=
 ∀(pins:List (Addr×Obj)) (s:c_) (σ:St) (H:Hp) (Q:Bool->Hp->Prop),Inv X pins σ H s->t σ H Q->wpAny (model X.prog X.w) X.A (isTrue e X.env (eval e X.env)) (TP X pins σ Q) X.xe s
noncomputable def PW(X:Cx)(e:Expr)(t:TT):Prop :=
 ∀(whole:Sem Value) (pins:List (Addr×Obj)) (s:c_) (σ:St) (H:Hp) (Q:Bool->Hp->Prop),Inv X pins σ H s->t σ H Q->wpAny (model X.prog X.w) X.A (isTrue e X.env whole) (TP X pins σ Q) X.xe s
def PW.pt{X:Cx}{e:Expr}{t:TT}(h:PW X e t):PT X e t:=h _
noncomputable def PA(X:Cx)(es:List Expr)(t:TA):Prop :=
 ∀(pos:Pos) (pins:List (Addr×Obj)) (s:c_) (σ:St) (H:Hp) (Q:List V->Hp->Prop),Inv X pins σ H s->t σ H Q->wpAny (model X.prog X.w) X.A (spliced (backTo pos (starEach es X.env))) (AP X pins σ Q) X.xe s
noncomputable def PS(X:Cx)(st:Stmt)(t:TS):Prop :=
 ∀(pins:List (Addr×Obj)) (s:c_) (σ:St) (H:Hp) (D:pX),Inv X pins σ H s->t D σ H->wpAny (model X.prog X.w) X.A (exec st X.env) (SP X pins D) X.xe s
noncomputable def PSs(X:Cx)(st:List Stmt)(t:TS):Prop :=
 ∀(pins:List (Addr×Obj)) (s:c_) (σ:St) (H:Hp) (D:pX),Inv X pins σ H s->t D σ H->wpAny (model X.prog X.w) X.A (execs st X.env) (SP X pins D) X.xe s
def thn{α:Type}{t:Sem α}{Q Q':α->c_->Prop}{M:Model}{A:v_}{E:Value->c_->Prop}{s:c_}(h:wpAny M A t Q E s)(hQ:∀a s,Q a s->Q' a s):wpAny M A t Q' E s:=zG h hQ λ_ _ x=>x
section
variable {X:Cx}
noncomputable def dA(i:Nat):TE:=λσ H Q=>∃v,σ[i]?=some (some v)/\Q v H
def tC(v:V):TE:=λ_ H Q=>Q v H
def uJ{i:Nat}{x:Str}{pos:Pos}(hN:X.N[i]?=some x)(hv:Vis X.env.scope x)(hd:(x == ("__debug__":Str))=false:=by decide)(hcd:(x == ("__classdict__":Str))=false:=by decide):PE X (.Name x pos) (dA i):=by
 intro pins s σ H Q I h;obtain⟨v,e,h⟩:=h;obtain⟨m,hn,hl⟩:=I.loc;obtain⟨u,r,l⟩:=hl i x v hN e hv;have fin:EP X pins σ Q u s:=⟨v,H,I,r,h⟩
 rcases l with ⟨hk,hm⟩|⟨hk,c,hc,hcell⟩
 .exact wpAny_Name (wpAny_loadName_local I.ok.kind hk hn hm fin) hd
 .rcases hk with hk|hk
  .exact wpAny_Name (wpAny_loadName_cell I.ok.kind hk hc hcell fin) hd
  .exact wpAny_Name (wpAny_loadName_free I.ok.kind hk hc hcell fin hcd) hd
def am{i j pos}:PE X (.Constant (.int i) j pos) (tC (.int i)):=λ_ _ _ H _ I h=>wpAny_Constant_int ⟨.int i,H,I.tok _,⟨_,rfl⟩,h⟩
def fM{b j pos}:PE X (.Constant (.bool b) j pos) (tC (.bl b)):=λ_ _ _ H _ I h=>Constant_bool ⟨.bl b,H,I,rfl,h⟩
def mU{j pos}:PE X (.Constant .none j pos) (tC .non):=λ_ _ _ H _ I h=>Constant_none ⟨.non,H,I,rfl,h⟩
def uK{x j pos}:PE X (.Constant (.str x) j pos) (tC (.str x)):=λ_ _ _ H _ I h=>Calls.Constant_str ⟨.str x,H,I.tok _,⟨_,rfl⟩,h⟩
noncomputable def Gl(X:Cx)(x:Str):Prop:=X.env.kindOf x=some .globalImplicit
def eR{E:Value->c_->Prop}{pins:List (Addr×Obj)}{s:c_}{σ:St}{H:Hp}{x:Str}{u:Value}{pos:Pos}{Q:Value->c_->Prop}(I:Inv X pins σ H s)(hg:Gl X x)(hm:X.mg x=some u)(h:Q u s)
  (hd:(x == ("__debug__":Str))=false:=by decide):wpAny (model X.prog X.w) X.A (eval (.Name x pos) X.env) Q E s :=
 B4 I.ok.kind hg (Calls.loadGlobal_global (by rw [I.ok.glob];exact I.mod.glob.keeps I.bk) hm h) hd
def fi{E:Value->c_->Prop}{pins:List (Addr×Obj)}{s:c_}{σ:St}{H:Hp}{x:Str}{u:Value}{pos:Pos}{Q:Value->c_->Prop}(I:Inv X pins σ H s)(hg:Gl X x)(hm:X.mg x=none)(hv:bootBuiltins x=some u)(h:Q u s)
  (hn:x≠"__name__":=by decide) (hd:(x == ("__debug__":Str))=false:=by decide):wpAny (model X.prog X.w) X.A (eval (.Name x pos) X.env) Q E s:=by
 obtain⟨mb,h1,h2⟩:=I.mod.blt;exact B4 I.ok.kind hg (Calls.loadGlobal_builtin (by rw [I.ok.glob];exact I.mod.glob.keeps I.bk) hm (by rw [I.ok.blt];exact h1.keeps I.bk) ((h2 x hn).trans hv) h) hd
def cQ{x:Str}{v:V}{u:Value}{pos:Pos}(hg:Gl X x)(hm:X.mg x=none)(hv:bootBuiltins x=some u)(r:bz v u)(hn:x≠"__name__":=by decide)(hd:(x == ("__debug__":Str))=false:=by decide):PE X (.Name x pos) (tC v) :=
 λ_ _ _ H _ I h=>fi I hg hm hv ⟨v,H,I,r,h⟩ hn hd
variable {a b:Expr}{ta tb:TE}{pos:Pos}
noncomputable def tB(t:TE):TT:=λσ H Q=>t σ H λx H1=>∃c,x=.bl c/\Q c H1
def uL{e:Expr}{t:TE}(h:PE X e t)(he:∀whole,isTrue e X.env whole=(do let v <- whole;standAt e.pos;holding [v] (truthy v)):=by intro _;rfl):PT X e (tB t):=by
 intro pins s σ H Q I hw;refine isTrue_plain (thn (h pins s σ H _ I hw) λv s1 ⟨x,H1,I1,r1,q1⟩=>?_) (he _);obtain⟨d,rfl,q⟩:=q1;cases r1;exact AJ ⟨H1,I1,q⟩
variable {tA tB':TT}{rest:List Expr}
noncomputable def yr(t u:TT):TT:=λσ H Q=>t σ H λc H1=>if c=true then u σ H1 Q else Q false H1
noncomputable def tOr(t u:TT):TT:=λσ H Q=>t σ H λc H1=>if c=true then Q true H1 else u σ H1 Q
noncomputable def wW(t:TT):TT:=λσ H Q=>t σ H λc H1=>Q (!c) H1
def mV(ha:PT X a tA):PW X (.BoolOp .And [a] pos) tA:=by
 intro wh pins s σ H Q I h;refine isTrue_and (thn (ha pins s σ H Q I h) λc s1 e=>?_)
 cases c with
 | true=>exact isTrue_and_nil e
 | false=>exact e
def ie(ha:PT X a tA):PW X (.BoolOp .Or [a] pos) tA:=by
 intro wh pins s σ H Q I h;refine isTrue_or (thn (ha pins s σ H Q I h) λc s1 e=>?_)
 cases c with
 | false=>exact isTrue_or_nil e
 | true=>exact e
def rg(ha:PT X a tA)(hb:PW X (.BoolOp .And (b::rest) pos) tB'):PW X (.BoolOp .And (a::b::rest) pos) (yr tA tB'):=by
 intro wh pins s σ H Q I h;refine isTrue_and (thn (ha pins s σ H _ I h) λc s1 ⟨H1,I1,q1⟩=>?_)
 cases c with
 | true=>exact hb wh pins s1 σ H1 Q I1 q1
 | false=>exact⟨H1,I1,q1⟩
def l5(ha:PT X a tA)(hb:PW X (.BoolOp .Or (b::rest) pos) tB'):PW X (.BoolOp .Or (a::b::rest) pos) (tOr tA tB'):=by
 intro wh pins s σ H Q I h;refine isTrue_or (thn (ha pins s σ H _ I h) λc s1 ⟨H1,I1,q1⟩=>?_)
 cases c with
 | true=>exact⟨H1,I1,q1⟩
 | false=>exact hb wh pins s1 σ H1 Q I1 q1
def cS(ha:PT X a tA):PT X (.UnaryOp .Not a pos) (wW tA):=by
 intro pins s σ H Q I h;exact isTrue_not (ha pins s σ H (λc H1=>Q (!c) H1) I h)
noncomputable def uM(ta tb:TE):TE:=λσ H Q=>ta σ H λx H1=>∃c,x=.bl c/\if c=true then tb σ H1 Q else Q (.bl false) H1
noncomputable def uN(ta:TE):TE:=λσ H Q=>ta σ H λx H1=>∃c,x=.bl c/\Q (.bl (!c)) H1
def jh{op}{t:TE}(h:PE X a t):PE X (.BoolOp op [a] pos) t:=λpins s σ H Q I hw=>BoolOp_one (h pins s σ H Q I hw)
def ig(ha:PE X a ta)(hb:PE X (.BoolOp .And (b::rest) pos) tb):PE X (.BoolOp .And (a::b::rest) pos) (uM ta tb):=by
 intro pins s σ H Q I h;refine BoolOp_and (thn (ha pins s σ H _ I h) λv s1 ⟨x,H1,I1,r1,q1⟩=>?_);obtain⟨c,rfl,q1⟩:=q1;cases r1;refine AJ ?_
 cases c with
 | true=>exact hb pins s1 σ H1 Q I1 q1
 | false=>exact⟨.bl false,H1,I1,rfl,q1⟩
def rh(ha:PE X a ta):PE X (.UnaryOp .Not a pos) (uN ta):=by
 intro pins s σ H Q I h;refine UnaryOp_ (thn (ha pins s σ H _ I h) λv s1 ⟨x,H1,I1,r1,q1⟩=>?_);obtain⟨c,rfl,q1⟩:=q1;cases r1;exact not_of (AJ ⟨.bl (!c),H1,I1,rfl,q1⟩)
end
noncomputable def SqL(K:b_)(H:Hp)(a:Addr)(xs:List V):Prop :=
 Rd H a (.lst xs) \/
  ∃(o:Obj) (its:Array Value) (n:Nat),K.lookup a=some o/\o.cls=.type "list"/\o.dict=none/\o.data=.seq its n/\its.size<=sizeLine/\aX xs its.toList
noncomputable def SqT(K:b_)(H:Hp)(a:Addr)(xs:List V):Prop :=
 Rd H a (.tup xs) \/
  ∃(o:Obj) (its:Array Value) (n:Nat),K.lookup a=some o/\o.cls=.type "tuple"/\o.data=.seq its n/\its.size<=sizeLine/\aX xs its.toList
noncomputable def za:Value->Option V
 | .none=>some .non
 | .bool b=>some (.bl b)
 | .int i _=>some (.int i)
 | .str x _=>some (.str x)
 | .bytes b _=>some (.byt b)
 | .float b _=>some (.flt b)
 | .ref a=>some (.ref a)
 | .type n=>some (.ty n)
 | _=>none
def bz.abs{x:V}{u:Value}(r:bz x u):za u=some x:=by
 cases x with
 | non=>cases r;rfl
 | bl _=>cases r;rfl
 | int _=>obtain⟨t,rfl⟩:=r;rfl
 | str _=>obtain⟨t,rfl⟩:=r;rfl
 | byt _=>obtain⟨t,rfl⟩:=r;rfl
 | flt _=>obtain⟨t,rfl⟩:=r;rfl
 | ref _=>cases r;rfl
 | ty _=>cases r;rfl
def bz.inj{x y:V}{u:Value}(r:bz x u)(q:bz y u):x=y:=zE (r.abs.symm.trans q.abs)
theorem aX.inj:∀{xs ys:List V}{us:List Value},aX xs us->aX ys us->xs=ys
 | _,_,_,.nil,.nil=>rfl
 | _,_,_,.cons r t,.cons r' t'=>by rw [r.inj r',aX.inj t t']
section
variable {X:Cx}{pins:List (Addr×Obj)}{σ:St}{H:Hp}{s:c_}{a:Addr}{xs ys:List V}
def SqL.of{K:b_}(h:H a=some (.lst xs)):SqL K H a xs:=.inl (.inl h)
def SqT.of{K:b_}(h:H a=some (.tup xs)):SqT K H a xs:=.inl (.inl h)
def Inv.list(I:Inv X pins σ H s)(h:SqL X.K H a xs):∃its:List Value,aX xs its/\PlainL s.heap a its.toArray/\xs.length<=sizeLine:=by
 rcases h with h|⟨o,its,n,hk,hc,hd,hs,hz,r⟩
 .obtain⟨z,its,n,r,e⟩:=h.ok I.hok;exact⟨its,r,⟨_,n,e,rfl,rfl,rfl⟩,z⟩
 .refine⟨its.toList,r,⟨o,n,I.kIn a o hk,hc,hd,by simpa using hs⟩,?_⟩;have e:=r.length;simp only [BO] at e;omega
def Inv.tuple(I:Inv X pins σ H s)(h:SqT X.K H a xs):∃its:List Value,aX xs its/\IsTup s.heap a its.toArray/\xs.length<=sizeLine:=by
 rcases h with h|⟨o,its,n,hk,hc,hs,hz,r⟩
 .obtain⟨z,its,r,p⟩:=h.ok I.hok;exact⟨its,r,p,z⟩
 .refine⟨its.toList,r,⟨o,I.kIn a o hk,hc,n,by simpa using hs⟩,?_⟩;have e:=r.length;simp only [BO] at e;omega
def Inv.list_inj(I:Inv X pins σ H s)(h:SqL X.K H a xs)(h':SqL X.K H a ys):xs=ys:=by
 obtain⟨its,r,⟨o,n,e,_,_,d⟩,_⟩:=I.list h;obtain⟨its',r',⟨o',n',e',_,_,d'⟩,_⟩:=I.list h';rw [e] at e';cases e';rw [d] at d';injection d' with d1 _;have:its=its':=by simpa using congrArg Array.toList d1
 subst this;exact r.inj r'
def Inv.tuple_inj(I:Inv X pins σ H s)(h:SqT X.K H a xs)(h':SqT X.K H a ys):xs=ys:=by
 obtain⟨its,r,⟨o,e,_,n,d⟩,_⟩:=I.tuple h;obtain⟨its',r',⟨o',e',_,n',d'⟩,_⟩:=I.tuple h';rw [e] at e';cases e';rw [d] at d';injection d' with d1 _;have:its=its':=by simpa using congrArg Array.toList d1
 subst this;exact r.inj r'
end
abbrev Cx.wish(X:Cx)(E:Value->c_->Prop):Cx:={ X with xe:=E }
abbrev Cx.nox(X:Cx):Cx:=X.wish λ_ _=>False
def Cx.Ok.wish{X:Cx}(ok:X.Ok)(E:Value->c_->Prop):(X.wish E).Ok :=
 ⟨ok.mod,ok.kind,ok.glob,ok.blt,ok.above,ok.inj,ok.has,ok.cab,ok.hd,ok.frames,ok.stk,ok.exf,ok.bs,ok.bsz,ok.noex,ok.exfs,ok.funs,ok.frf,ok.tb⟩
def Cx.Ok.unwish{X:Cx}{E:Value->c_->Prop}(ok:(X.wish E).Ok):X.Ok :=
 ⟨ok.mod,ok.kind,ok.glob,ok.blt,ok.above,ok.inj,ok.has,ok.cab,ok.hd,ok.frames,ok.stk,ok.exf,ok.bs,ok.bsz,ok.noex,ok.exfs,ok.funs,ok.frf,ok.tb⟩
section
variable {X:Cx}{pins:List (Addr×Obj)}{σ:St}{H:Hp}{s:c_}{E:Value->c_->Prop}
def Inv.wish(I:Inv X pins σ H s)(E:Value->c_->Prop):Inv (X.wish E) pins σ H s:=⟨I.ok.wish E,I.os,I.bare,I.base,I.loc,I.cell,I.free,I.freeC,I.pin,I.hok,I.len⟩
def Inv.unwish(I:Inv (X.wish E) pins σ H s):Inv X pins σ H s:=⟨I.ok.unwish,I.os,I.bare,I.base,I.loc,I.cell,I.free,I.freeC,I.pin,I.hok,I.len⟩
def SP.unwish{D:pX}{f:Flow}{s':c_}(h:SP (X.wish E) pins D f s'):SP X pins D f s':=by
 cases f with
 | next=>obtain⟨σ',H',I,q⟩:=h;exact⟨σ',H',I.unwish,q⟩
 | brk=>obtain⟨σ',H',I,q⟩:=h;exact⟨σ',H',I.unwish,q⟩
 | cont=>obtain⟨σ',H',I,q⟩:=h;exact⟨σ',H',I.unwish,q⟩
 | ret u=>obtain⟨v,σ',H',I,r,q⟩:=h;exact⟨v,σ',H',I.unwish,r,q⟩
def PT.nox{e:Expr}{t:TT}(h:PT X.nox e t):PT X e t:=λpins s σ H Q I hw =>
 zG (h pins s σ H Q (I.wish _) hw) (λ_ _ ⟨H',I',q⟩=>⟨H',I'.unwish,q⟩) λ_ _ z=>zQ z
def PSs.nox{st:List Stmt}{t:TS}(h:PSs X.nox st t):PSs X st t:=λpins s σ H D I hw =>
 zG (h pins s σ H D (I.wish _) hw) (λ_ _ q=>q.unwish) λ_ _ z=>zQ z
end
section
variable {X:Cx}{st:Stmt}{rest:List Stmt}{t u:TS}{e:Expr}{te:TE}{pos:Pos}
def sy:TS:=λD σ H=>D.nx σ H
noncomputable def wH(t u:TS):TS:=λD σ H=>t { D with nx:=u D } σ H
def bv:PSs X [] sy:=λ_ _ σ H _ I h=>BK ⟨σ,H,I,h⟩
def ah(h1:PS X st t)(h2:PSs X rest u):PSs X (st::rest) (wH t u):=by
 intro pins s σ H D I h;refine wpAny_execs_cons (thn (h1 pins s σ H { D with nx:=u D } I h) λf s1 q=>?_)
 cases f with
 | next =>
  obtain⟨σ',H',I',q⟩:=q;exact h2 pins s1 σ' H' D I' q
 | ret v=>exact q
 | brk=>exact q
 | cont=>exact q
def aq(h1:PS X st t):PSs X [st] t:=by
 intro pins s σ H D I h;refine wpAny_execs_cons (thn (h1 pins s σ H D I h) λf s1 q=>?_)
 cases f with
 | next=>exact BK q
 | ret v=>exact q
 | brk=>exact q
 | cont=>exact q
def Inv.quiet{pins:List (Addr×Obj)}{σ:St}{H:Hp}{s:c_}(I:Inv X pins σ H s):interactive X.env=false:=by simp [interactive,I.ok.kind]
noncomputable def sA(te:TE):TS:=λD σ H=>te σ H λ_ H1=>D.nx σ H1
def ce(he:PE X e te)(hs:swapsWith e none pos.line X.env=pure false:=by rfl):PS X (.Expr e pos) (sA te):=by
 intro pins s σ H D I h;exact wpAny_Expr_any (thn (he pins s σ H _ I h) λv s1 ⟨x,H1,I1,r1,q1⟩=>⟨σ,H1,I1,q1⟩) I.quiet hs
def yt(te:TE):TS:=λD σ H=>te σ H D.rt
def aY(he:PE X e te):PS X (.Return (some e) pos) (yt te):=by
 intro pins s σ H D I h;exact wpAny_Return_some (thn (he pins s σ H _ I h) λv s1 ⟨x,H1,I1,r1,q1⟩=>⟨x,σ,H1,I1,r1,q1⟩)
noncomputable def wX(c:TT)(t u:TS):TS:=λD σ H=>c σ H λb H1=>if b=true then t D σ H1 else u D σ H1
def eS{c:Expr}{a b:List Stmt}{tc:TT}(hc:PT X c tc)(ha:PSs X a t)(hb:PSs X b u):PS X (.If c a b pos) (wX tc t u):=by
 intro pins s σ H D I h;refine wpAny_If (thn (hc pins s σ H _ I h) λd s1 ⟨H1,I1,q1⟩=>?_)
 cases d with
 | true=>exact ha pins s1 σ H1 D I1 q1
 | false=>exact hb pins s1 σ H1 D I1 q1
end
abbrev TG:=V->St->Hp->(St->Hp->Prop)->Prop
abbrev TGs:=List V->St->Hp->(St->Hp->Prop)->Prop
noncomputable def PG(X:Cx)(target:Expr)(t:TG):Prop :=
 ∀(pins:List (Addr×Obj)) (s:c_) (σ:St) (H:Hp) (v:V) (u:Value) (Q:St->Hp->Prop),Inv X pins σ H s->bz v u->t v σ H Q ->
  wpAny (model X.prog X.w) X.A (assign target X.env u) (λ_ s'=>∃σ' H',Inv X pins σ' H' s'/\Q σ' H') X.xe s
noncomputable def PGs(X:Cx)(ts:List Expr)(t:TGs):Prop :=
 ∀(pins:List (Addr×Obj)) (s:c_) (σ:St) (H:Hp) (vs:List V) (us:List Value) (Q:St->Hp->Prop),Inv X pins σ H s->aX vs us->t vs σ H Q ->
  wpAny (model X.prog X.w) X.A (assignInOrder ((assignEach ts X.env).map (·.2)) us) (λ_ s'=>∃σ' H',Inv X pins σ' H' s'/\Q σ' H') X.xe s
section
variable {X:Cx}{pos:Pos}
noncomputable def cf(i:Nat):TG:=λv σ H Q=>Q (σ.set i (some v)) H
theorem a8{i:Nat}{x:Str}(hN:X.N.Nodup)(hi:X.N[i]?=some x)(hx:Loc X.env.scope x)(hf:X.fn x=true\/X.env.scope.names.lookup x=some .local:=by first|exact .inl rfl|exact .inr rfl|assumption):PG X (.Name x pos) (cf i):=by
 intro pins s σ H v u Q I r h;exact Cf (dk I hN hi hx r (λs' I'=>⟨_,H,I',h⟩) hf)
def wI:TGs:=λvs σ H Q=>vs=[]/\Q σ H
noncomputable def ji(t:TG)(u:TGs):TGs:=λvs σ H Q=>∃v r,vs=v::r/\t v σ H λσ' H'=>u r σ' H' Q
def mW:PGs X [] wI:=by
 intro pins s σ H vs us Q I r h;obtain⟨e,h⟩:=h;subst e;cases r;exact assignInOrder_nil ⟨σ,H,I,h⟩
def dn{e:Expr}{es:List Expr}{t:TG}{u:TGs}(h1:PG X e t)(h2:PGs X es u)
  (hs:(assignEach (e::es) X.env).map (·.2)=assign e X.env::(assignEach es X.env).map (·.2):=by rfl):PGs X (e::es) (ji t u):=by
 intro pins s σ H vs us Q I r h;obtain⟨v,vr,e1,h⟩:=h;subst e1
 cases r with
 | cons r rr =>
  rw [hs];refine assignInOrder_cons (thn (h1 pins s σ H _ _ _ I r h) λ_ s1 ⟨σ1,H1,I1,q1⟩=>?_);exact h2 pins s1 σ1 H1 _ _ Q I1 rr q1
noncomputable def zb(K:b_)(n:Nat)(t:TGs):TG:=λv σ H Q=>∃a xs,v=.ref a/\SqT K H a xs/\xs.length=n/\t xs σ H Q
def uO{es:List Expr}{k:Nat}{t:TGs}{n:Nat}(hc:X.calm=true)(h:PGs X es t)
  (hn:(assignEach es X.env).length=n:=by rfl) (hst:(assignEach es X.env).findIdx? (·.1)=none:=by rfl):PG X (.Tuple es k pos) (zb X.K n t):=by
 intro pins s σ H v u Q I r hw;obtain⟨a,xs,e1,hq,hl,hw⟩:=hw;subst e1;cases r;obtain⟨its,rv,ht,hz⟩:=I.tuple hq;refine assign_Tuple_tuple (I.ok.hd hc) ht (by simp [hn,<- hl,rv.length]) hst λh' hx=>?_;have I1:Inv X pins σ H { s with heap:=h' }:=I.kept (t':=s.toks) λb o e=>hx b o (zI (h_ e)) e;exact h pins _ σ H xs _ Q I1 (by simpa using rv) hw
noncomputable def ur(te:TE)(g:TG):TS:=λD σ H=>te σ H λx H1=>g x σ H1 D.nx
def uP{tg e:Expr}{te:TE}{g:TG}(he:PE X e te)(hg:PG X tg g)(hs:swapsWithSole [tg] e pos.line X.env=pure false:=by rfl)(hw:swappedStores [tg] e X.env=pure none:=by rfl)
  (h1:(assignEach [tg] X.env).map (·.2)=[assign tg X.env]:=by rfl):PS X (.Assign [tg] e pos) (ur te g):=by
 intro pins s σ H D I h;refine wpAny_Assign_stores (thn (he pins s σ H _ I h) λv s1 ⟨x,H1,I1,r1,q1⟩=>?_) hs hw;rw [h1];exact thn (hg pins s1 σ H1 x v _ I1 r1 q1) λ_ s2 q=>q
theorem aG{i:Nat}{x:Str}{e:Expr}{te:TE}{pos':Pos}(hN:X.N.Nodup)(hi:X.N[i]?=some x)(hx:Loc X.env.scope x)(he:PE X e te)(hs:swapsWith e (some (.Name x pos')) pos.line X.env=pure false:=by rfl)(hf:X.fn x=true\/X.env.scope.names.lookup x=some .local:=by first|exact .inl rfl|exact .inr rfl|assumption) :
  PS X (.Assign [.Name x pos'] e pos) (ur te (cf i)):=by
 intro pins s σ H D I h;refine wpAny_Assign_Name (thn (he pins s σ H _ I h) λv s1 ⟨y,H1,I1,r1,q1⟩=>?_) hs;exact dk I1 hN hi hx r1 (λs2 I2=>⟨_,H1,I2,q1⟩) hf
end
section
variable {X:Cx}{pos:Pos}
noncomputable def mX(c:TT)(tb:TS):TS:=λD σ H=>∃W:Nat->St->Hp->Prop,(∃m,W m σ H)/\∀m σ H,W m σ H ->
 c σ H λb H1=>if b=true then ∃N:St->Hp->Prop,(∀σ' H',N σ' H'->∃m',m'<m/\W m' σ' H')/\tb { D with nx:=N,ct:=N,bk:=D.nx } σ H1 else D.nx σ H1
def fU{c:Expr}{body:List Stmt}{tc:TT}{tb:TS}(hp:PassesOwn (model X.prog X.w) X.A X.env X.xe)(hc:PT X c tc)(hb:PSs X body tb):PS X (.While c body [] pos) (mX tc tb):=by
 intro pins s σ H D I h;obtain⟨W,⟨m0,w0⟩,turn⟩:=h;refine wpAny_While (codeAny_whileLoop (λn s'=>∃σ' H',Inv X pins σ' H' s'/\W n σ' H') ?_ m0 ⟨σ,H,I,w0⟩);rintro n s1 ⟨σ1,H1,I1,w1⟩;refine AI hp (thn (hc pins s1 σ1 H1 _ I1 (turn n σ1 H1 w1)) λb s2 ⟨H2,I2,q2⟩=>?_)
 cases b with
 | true =>
  obtain⟨N,hN,q2⟩:=q2;rw [if_pos rfl];refine AI hp (thn (hb pins s2 σ1 H2 _ I2 q2) λf s3 q3=>?_)
  cases f with
  | next =>
   obtain⟨σ3,H3,I3,n3⟩:=q3;obtain⟨m',hm,w3⟩:=hN σ3 H3 n3;exact⟨m',hm,σ3,H3,I3,w3⟩
  | cont =>
   obtain⟨σ3,H3,I3,n3⟩:=q3;obtain⟨m',hm,w3⟩:=hN σ3 H3 n3;exact⟨m',hm,σ3,H3,I3,w3⟩
  | brk=>exact q3
  | ret v=>exact q3
 | false =>
  rw [if_neg r_];exact BK ⟨σ1,H2,I2,q2⟩
end
structure It where
 go:Nat->Hp->Prop
 yld:Nat->Hp->V->Hp->Prop
 stop:Nat->Hp->Prop
noncomputable def mK(X:Cx)(pins:List (Addr×Obj))(H:Hp)(b:Addr):Prop :=
 H b=none/\b≠X.env.locals/\b∉X.fs/\(b∈X.ex\/X.s₀.heap.objs.size<=b)/\(∀x c,X.env.cells.lookup x=some c->c≠b)/\∀p∈X.pn++pins,p.1≠b
def Inv.fpOk{X:Cx}{pins:List (Addr×Obj)}{σ:St}{H H':Hp}{s:c_}{b:Addr}(I:Inv X pins σ H s)(hb:s.heap.objs.size<=b)(hn:H' b=none):mK X pins H' b:=by
 refine⟨hn,CQ (t_ I.lt hb),I.nofs hb,.inr (Af I.sz hb),λx c e z=>?_,λp hp z=>?_⟩
 .obtain⟨v,q⟩:=I.cell x c e;exact absurd (t_ q.lt (by rw [z];exact hb)) (AW _)
 .exact absurd (t_ (h_ (I.pin p hp).1) (by rw [z];exact hb)) (AW _)
structure uQ (P:m_) (w:World) (K:b_) (tg:Expr) (J:It) (fp:List Addr) (it:Addr) (tn:Nat->Heap->Prop):Prop where
 mem:it∈fp
 obj:∀i h,tn i h->∀b∈fp,∃o,h.get? b=some o/\∀v,o.data≠.cell v
 keep:∀i h h',tn i h->(∀b∈fp,∀o,h.get? b=some o->h'.get? b=some o)->tn i h'
 item:∀(X:Cx),X.prog=P->X.w=w->X.K=K->X.calm=true->∀(i:Nat) (pins:List (Addr×Obj)) (s:c_) (σ:St) (H:Hp) (E:Value->c_->Prop),Inv X pins σ H s->(∀b∈fp,mK X pins H b)->tn i s.heap->J.go i H ->
  wpAny (model P w) X.A (pyNext (.ref it)) (λr s1=>∃u,r=some u /\
   wpAny (model P w) X.A (letOwnedTupleGo tg (.ref it) u) (λ_ s2=>∃x H',Inv X pins σ H' s2/\bz x u/\J.yld i H x H'/\tn (i+1) s2.heap/\∀b∈fp,H' b=none) E s1) E s
 done:∀(X:Cx),X.prog=P->X.w=w->X.K=K->X.calm=true->∀(i:Nat) (pins:List (Addr×Obj)) (s:c_) (σ:St) (H:Hp) (E:Value->c_->Prop),Inv X pins σ H s->(∀b∈fp,mK X pins H b)->tn i s.heap->J.stop i H ->
  wpAny (model P w) X.A (pyNext (.ref it)) (λr s1=>r=none/\Inv X pins σ H s1) E s
 self:∀(A:v_) (i:Nat) (s:c_) (Q:Value->c_->Prop) (E:Value->c_->Prop),tn i s.heap->Q (.ref it) s->wpAny (model P w) A (pyIter (.ref it)) Q E s
abbrev TI:=St->Hp->(It->Hp->Prop)->Prop
noncomputable def PIE(X:Cx)(pins:List (Addr×Obj))(σ:St)(tg:Expr)(R:It->Hp->Prop)(itv:Value)(s2:c_):Prop :=
 ∃(it:Addr) (fp:List Addr) (tn:Nat->Heap->Prop) (J:It) (H':Hp),itv=.ref it/\Inv X pins σ H' s2/\uQ X.prog X.w X.K tg J fp it tn/\tn 0 s2.heap/\(∀b∈fp,mK X pins H' b)/\R J H'
noncomputable def PI(X:Cx)(tg iter:Expr)(wi:TI):Prop :=
 ∀(pins:List (Addr×Obj)) (s:c_) (σ:St) (H:Hp) (R:It->Hp->Prop),Inv X pins σ H s->wi σ H R ->
  wpAny (model X.prog X.w) X.A (eval iter X.env) (λv s1=>wpAny (model X.prog X.w) X.A (pyIter v) (PIE X pins σ tg R) X.xe s1) X.xe s
def sB{M:Model}{A:v_}{E:Value->c_->Prop}{s:c_}{tg:Expr}{it:Addr}{u:Value}{o:Obj}{n:String}{vs:Array Value}{Q:Unit->c_->Prop}(ho:s.heap.get? it=some o)(hc:o.cls=.type n)(hd:o.data=.fields vs)
    (hn:["enumerate","zip","dict_itemiterator","dict_reverseitemiterator","odict_iterator","itertools.zip_longest","itertools.pairwise"].contains n=false) (hQ:Q () s):wpAny M A (letOwnedTupleGo tg (.ref it) u) Q E s:=by
  unfold letOwnedTupleGo
  cases tg <;> first
    | exact f_ hQ
    | (cases u <;> first
        | exact f_ hQ
        | (refine cy (wpAny_load ho ?_)
           rw [hc,hd];show wpAny M A (if (["enumerate","zip","dict_itemiterator","dict_reverseitemiterator","odict_iterator","itertools.zip_longest","itertools.pairwise"].contains n && vs[0]? == some (rawInt _))=true then _ else _) Q E s;rw [if_neg (by intro h;rw [hn,An] at h;cases h)];exact f_ hQ))
noncomputable def Itl(K:b_)(a:Addr):It :=
 ⟨λi H=>∃xs x,SqL K H a xs/\xs[i]?=some x,λi H x H'=>H'=H/\∀xs,SqL K H a xs->xs[i]?=some x,λi H=>∃xs,SqL K H a xs/\xs.length<=i⟩
noncomputable def Itt(K:b_)(a:Addr):It :=
 ⟨λi H=>∃xs x,SqT K H a xs/\xs[i]?=some x,λi H x H'=>H'=H/\∀xs,SqT K H a xs->xs[i]?=some x,λi H=>∃xs,SqT K H a xs/\xs.length<=i⟩
noncomputable def Itr(lo:Int)(n:Nat):It:=⟨λi _=>i<n,λi H x H'=>H'=H/\x=.int (lo+i),λi _=>n<=i⟩
def mY{P:m_}{w:World}{K:b_}{tg:Expr}(a it:Addr):uQ P w K tg (Itl K a) [it] it (λi h=>h.IsListIter it a i) where
 mem:=by simp
 obj:=λi h st b hb=>by
  have e:b=it:=by simpa using hb
  subst e;obtain⟨o,e,c,d⟩:=st;exact⟨o,e,λv z=>by rw [d] at z;cases z⟩
 keep:=λi h h' st k=>st.at λo e=>k it (by simp) o e
 item:=by
  intro X hP hw hK hc i pins s σ H E I hf st hg;subst hP hw hK;obtain⟨xs,x,hq,hx⟩:=hg;obtain⟨its,rv,p,hz⟩:=I.list hq;obtain⟨u,hu,ru⟩:=rv.get hx;obtain⟨f0,f1,f2,f3,f4,f5⟩:=hf it (by simp);refine wpAny_pyNext_list_item st p.isList (x:=u) (by simpa using hu) λh' st' sb=>?_;have I1:Inv X pins σ H { s with heap:=h' }:=I.turned (t':=s.toks) (λb o hb e=>(sb.2 b hb).trans e) f0 f1 f3 f4 f5;obtain⟨o,e,c,d⟩:=id st'
  exact⟨u,rfl,sB (s:={ s with heap:=h' }) e c d (by decide) ⟨x,H,I1,ru,⟨rfl,λys hy=>by rw [I.list_inj hy hq];exact hx⟩,st',λb hb=>(hf b hb).1⟩⟩
 done:=by
  intro X hP hw hK hc i pins s σ H E I hf st hg;subst hP hw hK;obtain⟨xs,hq,hx⟩:=hg;obtain⟨its,rv,p,hz⟩:=I.list hq;obtain⟨f0,f1,f2,f3,f4,f5⟩:=hf it (by simp);have hl:=rv.length;exact wpAny_pyNext_list_end (I.ok.hd hc) st p.isList (by simp;omega) λh' eb=>⟨rfl,I.turned (t':=s.toks) (λb o hb e=>eb b o hb e) f0 f1 f3 f4 f5⟩
 self:=λ_ _ _ _ _ st h=>wpAny_pyIter_listiter st h
def l6{P:m_}{w:World}{K:b_}{tg:Expr}(a it:Addr):uQ P w K tg (Itt K a) [it] it (λi h=>h.IsTupleIter it a i) where
 mem:=by simp
 obj:=λi h st b hb=>by
  have e:b=it:=by simpa using hb
  subst e;obtain⟨o,e,c,d⟩:=st;exact⟨o,e,λv z=>by rw [d] at z;cases z⟩
 keep:=λi h h' st k=>st.at λo e=>k it (by simp) o e
 item:=by
  intro X hP hw hK hc i pins s σ H E I hf st hg;subst hP hw hK;obtain⟨xs,x,hq,hx⟩:=hg;obtain⟨its,rv,p,hz⟩:=I.tuple hq;obtain⟨u,hu,ru⟩:=rv.get hx;obtain⟨f0,f1,f2,f3,f4,f5⟩:=hf it (by simp);refine wpAny_pyNext_tuple_item st (show s.heap.IsTuple a its.toArray from p) (x:=u) (by simpa using hu) λh' st' sb=>?_;have I1:Inv X pins σ H { s with heap:=h' }:=I.turned (t':=s.toks) (λb o hb e=>(sb.2 b hb).trans e) f0 f1 f3 f4 f5
  obtain⟨o,e,c,d⟩:=id st';exact⟨u,rfl,sB (s:={ s with heap:=h' }) e c d (by decide) ⟨x,H,I1,ru,⟨rfl,λys hy=>by rw [I.tuple_inj hy hq];exact hx⟩,st',λb hb=>(hf b hb).1⟩⟩
 done:=by
  intro X hP hw hK hc i pins s σ H E I hf st hg;subst hP hw hK;obtain⟨xs,hq,hx⟩:=hg;obtain⟨its,rv,p,hz⟩:=I.tuple hq;obtain⟨f0,f1,f2,f3,f4,f5⟩:=hf it (by simp);have hl:=rv.length;exact wpAny_pyNext_tuple_end (I.ok.hd hc) st (show s.heap.IsTuple a its.toArray from p) (by simp;omega) λh' eb=>⟨rfl,I.turned (t':=s.toks) (λb o hb e=>eb b o hb e) f0 f1 f3 f4 f5⟩
 self:=λ_ _ _ _ _ st h=>wpAny_pyIter_tupleiter st h
def l7{P:m_}{w:World}{K:b_}{tg:Expr}(it:Addr)(lo:Int)(n:Nat):uQ P w K tg (Itr lo n) [it] it (λi h=>IsRangeIter h it (lo+(i:Nat)*1) ((n:Int) - (i:Nat)) 1) where
 mem:=by simp
 obj:=λi h st b hb=>by
  have e:b=it:=by simpa using hb
  subst e
  exact⟨_,st,λv z=>by
   have z':Data.fields _=Data.cell v:=z;cases z'⟩
 keep:=λi h h' st k=>k it (by simp) _ st
 item:=by
  intro X hP hw hK hc i pins s σ H E I hf st hg;subst hP hw hK;obtain⟨f0,f1,f2,f3,f4,f5⟩:=hf it (by simp);have W:=Walks.range (prog:=X.prog) (w:=X.w) (I.ok.hd hc) it lo 1 n;refine W.item i s _ _ hg st λv h' tk hv st' kk=>?_;obtain⟨t,rfl⟩:=hv;have I1:Inv X pins σ H { s with heap:=h',toks:=tk }:=I.turned (λb o hb e=>kk b o (by simpa using hb) e) f0 f1 f3 f4 f5;refine⟨_,rfl,sB (s:={ s with heap:=h',toks:=tk }) (n:="range_iterator") st' rfl rfl (by decide) ⟨.int (lo+i),H,I1,⟨t,?_⟩,⟨rfl,rfl⟩,st',λb hb=>(hf b hb).1⟩⟩
  rw [mul_one]
 done:=by
  intro X hP hw hK hc i pins s σ H E I hf st hg;subst hP hw hK;obtain⟨f0,f1,f2,f3,f4,f5⟩:=hf it (by simp);exact wpAny_pyNext_range_end (I.ok.hd hc) st (by have:n<=i:=hg;omega) λh' eb=>⟨rfl,I.turned (t':=s.toks) (λb o hb e=>eb b o hb e) f0 f1 f3 f4 f5⟩
 self:=λ_ _ _ _ _ st h=>wpAny_pyIter_rangeiter st h
section
variable {X:Cx}{tg:Expr}
def lD{pins:List (Addr×Obj)}{σ:St}{H:Hp}{s:c_}{R:It->Hp->Prop}{E:Value->c_->Prop}{lo hi:Int}{t u v:Tok}{tk:Nat}(I:Inv X pins σ H s)(h1:-(2^62)<=lo)(h2:lo<2^62)(h3:-(2^62)<=hi)(h4:hi<2^62)
  (q:R (Itr lo (hi - lo).toNat) H):wpAny (model X.prog X.w) X.A (pyIter (.ref s.heap.objs.size)) (PIE X pins σ tg R) E { s with heap:=s.heap.push { cls:=.type "range",data:=.fields #[.int lo t,.int hi u,.int 1 v] },toks:=tk }:=by
 refine wpAny_pyIter_range (IsRange.new ..) (small_one h1 h2 h3 h4) ?_;have I1:Inv X pins σ H { s with heap:=s.heap.push { cls:=.type "range",data:=.fields #[.int lo t,.int hi u,.int 1 v] },toks:=tk }:=I.kept λb o e=>e_ _ e
 refine⟨(s.heap.push { cls:=.type "range",data:=.fields #[.int lo t,.int hi u,.int 1 v] }).objs.size,[(s.heap.push { cls:=.type "range",data:=.fields #[.int lo t,.int hi u,.int 1 v] }).objs.size],_,_,H,rfl,
  I1.kept (t':=tk) λb o e=>e_ _ e,l7 _ lo (hi - lo).toNat,?_,λb hb=>?_,q⟩
 .have e1:lo+((0:Nat):Int)*1=lo:=by simp
  have e2:(((hi - lo).toNat:Nat):Int) - ((0:Nat):Int)=AX lo hi 1:=by rw [rangeSize_one];split <;> omega
  show IsRangeIter _ _ (lo+((0:Nat):Int)*1) ((((hi - lo).toNat:Nat):Int) - ((0:Nat):Int)) 1;rw [e1,e2];exact q_ _ rfl
 .have e:b=(s.heap.push { cls:=.type "range",data:=.fields #[.int lo t,.int hi u,.int 1 v] }).objs.size:=by simpa using hb
  subst e;exact I1.fpOk (o_ _) (I1.hok.fresh (o_ _))
noncomputable def sC(ta:TA):TI:=λσ H R=>ta σ H λvs H1=>∃j:Int,vs=[.int j]/\-(2^62)<=j/\j<2^62/\R (Itr 0 j.toNat) H1
noncomputable def uR(ta:TA):TI:=λσ H R=>ta σ H λvs H1=>∃i j:Int,vs=[.int i,.int j]/\(-(2^62)<=i/\i<2^62/\-(2^62)<=j/\j<2^62)/\R (Itr i (j - i).toNat) H1
def mZ{a:Expr}{ta:TA}{p pos:Pos}(hg:Gl X "range")(hm:X.mg "range"=none)(ha:PA X [a] ta)(hs:starEach [a] X.env=[(false,eval a X.env)]:=by rfl):PI X tg (.Call (.Name "range" p) [a] [] pos) (sC ta):=by
 intro pins s σ H R I h;refine Call_ (fi I hg hm boot_range (zU (thn (ha pos pins s σ H _ I h) λus s1 ⟨vs,H1,I1,r1,q1⟩=>?_) hs rfl));obtain⟨j,e,q1,q2,q⟩:=q1;subst e
 cases r1 with
 | cons r rr =>
  cases rr;obtain⟨t,rfl⟩:=r;exact call_range_1 (lD I1 (by omega) (by omega) q1 q2 (by simpa using q))
def m4{a b:Expr}{ta:TA}{p pos:Pos}(hg:Gl X "range")(hm:X.mg "range"=none)(ha:PA X [a,b] ta)(hs:starEach [a,b] X.env=[(false,eval a X.env),(false,eval b X.env)]:=by rfl)(hs2:starEach [b] X.env=[(false,eval b X.env)]:=by rfl) :
  PI X tg (.Call (.Name "range" p) [a,b] [] pos) (uR ta):=by
 intro pins s σ H R I h;refine Call_ (fi I hg hm boot_range (zU (thn (ha pos pins s σ H _ I h) λus s1 ⟨vs,H1,I1,r1,q1⟩=>?_) (by rw [hs,hs2]) (by rw [hs2];rfl)));obtain⟨i,j,e,⟨q1,q2,q3,q4⟩,q⟩:=q1;subst e
 cases r1 with
 | cons r rr =>
  cases rr with
  | cons r' rr =>
   cases rr;obtain⟨t,rfl⟩:=r;obtain⟨t',rfl⟩:=r';exact call_range_2 (lD I1 q1 q2 q3 q4 q)
noncomputable def yu(wi:TI)(g:TG)(tb:TS):TS:=λD σ H=>wi σ H λJ H1=>∃W:Nat->Nat->St->Hp->Prop,(∃m,W 0 m σ H1)/\∀i m σ H,W i m σ H ->
 (J.stop i H/\D.nx σ H)\/(J.go i H/\∃N:St->Hp->Prop,(∀σ' H',N σ' H'->∃m',m'<m/\W (i+1) m' σ' H')/\∀x H',J.yld i H x H'->g x σ H' λσ2 H2=>tb { D with nx:=N,ct:=N,bk:=D.nx } σ2 H2)
noncomputable def ii(fp:List Addr)(h:Heap):List (Addr×Obj):=fp.filterMap λb=>(h.get? b).map λo=>(b,o)
def bO{fp:List Addr}{h:Heap}{b:Addr}{o:Obj}(hb:b∈fp)(e:h.get? b=some o):(b,o)∈ii fp h:=AM.mpr ⟨b,hb,by rw [e];rfl⟩
def m5{fp:List Addr}{h:Heap}{p:Addr×Obj}(hp:p∈ii fp h):p.1∈fp/\h.get? p.1=some p.2:=by
 obtain⟨b,hb,e⟩:=AM.mp hp
 cases q:h.get? b with
 | none=>rw [q] at e;cases e
 | some o =>
  rw [q] at e;have e':(b,o)=p:=zE e;subst e';exact⟨hb,q⟩
def Inv.pinned{pins:List (Addr×Obj)}{σ:St}{H:Hp}{s:c_}{fp:List Addr}(I:Inv X pins σ H s)(hf:∀b∈fp,mK X pins H b)(ho:∀b∈fp,∃o,s.heap.get? b=some o/\∀v,o.data≠.cell v):Inv X (pins++ii fp s.heap) σ H s :=
 I.pins_of λp hp=>(z0.mp hp).elim (λz=>I.pin p (pj _ z)) λz=>by
  obtain⟨hb,e⟩:=m5 z;obtain⟨f0,f1,f2,_⟩:=hf p.1 hb;obtain⟨o,e',d⟩:=ho p.1 hb;rw [e] at e';cases e';exact⟨e,f0,f1,f2,d⟩
def Inv.unpinned{pins pl:List (Addr×Obj)}{σ:St}{H:Hp}{s:c_}(I:Inv X (pins++pl) σ H s):Inv X pins σ H s:=I.pins_of λp hp=>I.pin p (pj _ (zX _ hp))
def jj{iter:Expr}{body:List Stmt}{wi:TI}{g:TG}{tb:TS}{pos:Pos}(hp:PassesOwn (model X.prog X.w) X.A X.env X.xe)(hc:X.calm=true)(hi:PI X tg iter wi)(hg:PG X tg g)(hb:PSs X body tb)
  (hs:∀x,foldedSetIterable iter X.env x=pure x:=by intro _;rfl):PS X (.For tg iter body [] pos) (yu wi g tb):=by
 intro pins s σ H D I h;refine wpAny_For (thn (hi pins s σ H _ I h) λv s1 h1=>thn h1 λitv s2 h2=>?_) hs;obtain⟨it,fp,tn,J,H2,e,I2,T,st2,f2,W,⟨m0,w0⟩,turn⟩:=h2;subst e
 -- what stays true of the iterator's objects through the loop
 have stat:∀{H':Hp},(∀b∈fp,H' b=none)->∀b∈fp,mK X pins H' b:=λhn b hb=>⟨hn b hb,(f2 b hb).2⟩
 refine codeAny_forLoop_any (λn s'=>∃i σ' H',Inv X pins σ' H' s'/\tn i s'.heap/\(∀b∈fp,H' b=none)/\W i n σ' H') ?_ m0 ⟨0,σ,H2,I2,st2,λb hb=>(f2 b hb).1,w0⟩;rintro n s3 ⟨i,σ3,H3,I3,st3,fr3,w3⟩
 rcases turn i n σ3 H3 w3 with ⟨stop,qn⟩|⟨go,N,hN,step⟩
 .refine AI hp (thn (T.done X rfl rfl rfl hc i pins s3 σ3 H3 X.xe I3 (stat fr3) st3 stop) λr s4 ⟨hr,I4⟩=>?_);subst hr;exact BK ⟨σ3,H3,I4,qn⟩
 .refine AI hp (thn (T.item X rfl rfl rfl hc i pins s3 σ3 H3 X.xe I3 (stat fr3) st3 go) λr s4 ⟨u,hr,h4⟩=>?_);subst hr;refine AI hp (thn h4 λ_ s5 ⟨x,H5,I5,r5,y5,st5,fr5⟩=>?_);have I5':=I5.pinned (stat fr5) (T.obj _ _ st5);refine AI hp (thn (hg _ s5 σ3 H5 x u _ I5' r5 (step x H5 y5)) λ_ s6 ⟨σ6,H6,I6,q6⟩=>?_);refine AI hp (thn (hb _ s6 σ6 H6 _ I6 q6) λf s7 q7=>?_)
  have again:∀{σ7:St}{H7:Hp},Inv X (pins++ii fp s5.heap) σ7 H7 s7->N σ7 H7->∃m,m<n/\∃i σ' H',Inv X pins σ' H' s7/\tn i s7.heap/\(∀b∈fp,H' b=none)/\W i m σ' H':=λ{σ7 H7} I7 n7=>by
   obtain⟨m',hm,w7⟩:=hN σ7 H7 n7;refine⟨m',hm,i+1,σ7,H7,I7.unpinned,T.keep _ _ _ st5 λb hb o e=>(I7.pin (b,o) (pj _ (pj _ (bO hb e)))).1,λb hb=>?_,w7⟩;obtain⟨o,e,d⟩:=T.obj _ _ st5 b hb;exact (I7.pin (b,o) (pj _ (pj _ (bO hb e)))).2.1
  cases f with
  | next=>obtain⟨σ7,H7,I7,n7⟩:=q7;exact again I7 n7
  | cont=>obtain⟨σ7,H7,I7,n7⟩:=q7;exact again I7 n7
  | brk=>obtain⟨σ7,H7,I7,q7⟩:=q7;exact⟨σ7,H7,I7.unpinned,q7⟩
  | ret v=>obtain⟨x7,σ7,H7,I7,r7,q7⟩:=q7;exact⟨x7,σ7,H7,I7.unpinned,r7,q7⟩
end
abbrev R2:=V->V->Hp->VK->Prop
noncomputable def OpR(X:Cx)(f:Value->Value->Sem Value)(r:R2):Prop :=
 ∀(pins:List (Addr×Obj)) (s:c_) (σ:St) (H:Hp) (x y:V) (v u:Value) (Q:VK),Inv X pins σ H s->bz x v->bz y u->r x y H Q ->
  wpAny (model X.prog X.w) X.A (f v u) (EP X pins σ Q) X.xe s
noncomputable def UnR(X:Cx)(f:Value->Sem Value)(r:V->Hp->VK->Prop):Prop :=
 ∀(pins:List (Addr×Obj)) (s:c_) (σ:St) (H:Hp) (x:V) (v:Value) (Q:VK),Inv X pins σ H s->bz x v->r x H Q ->
  wpAny (model X.prog X.w) X.A (f v) (EP X pins σ Q) X.xe s
noncomputable def a6(X:Cx)(f:Value)(r:List V->Hp->VK->Prop):Prop :=
 ∀(pins:List (Addr×Obj)) (s:c_) (σ:St) (H:Hp) (xs:List V) (us:List Value) (Q:VK),Inv X pins σ H s->aX xs us->r xs H Q ->
  wpAny (model X.prog X.w) X.A (call f us) (EP X pins σ Q) X.xe s
noncomputable def zc(X:Cx)(r:V->Hp->(Bool->Hp->Prop)->Prop):Prop :=
 ∀(pins:List (Addr×Obj)) (s:c_) (σ:St) (H:Hp) (x:V) (v:Value) (Q:Bool->Hp->Prop),Inv X pins σ H s->bz x v->r x H Q ->
  wpAny (model X.prog X.w) X.A (truthy v) (TP X pins σ Q) X.xe s
noncomputable def tOp(r:R2)(ta tb:TE):TE:=λσ H Q=>ta σ H λx H1=>tb σ H1 λy H2=>r x y H2 Q
noncomputable def tUn(r:V->Hp->VK->Prop)(ta:TE):TE:=λσ H Q=>ta σ H λx H1=>r x H1 Q
noncomputable def rI(C:Int->Int->Prop)(g:Int->Int->V):R2:=λx y H Q=>∃i j,x=.int i/\y=.int j/\C i j/\Q (g i j) H
noncomputable def rI0(g:Int->Int->V):R2:=λx y H Q=>∃i j,x=.int i/\y=.int j/\Q (g i j) H
noncomputable def rU(g:Int->V):V->Hp->VK->Prop:=λx H Q=>∃i,x=.int i/\Q (g i) H
section
variable {X:Cx}{a b c:Expr}{ta tb tc:TE}{pos:Pos}
def wY(ha:PE X a ta)(hb:PE X b tb){pins:List (Addr×Obj)}{s:c_}{σ:St}{H:Hp}{R:V->V->Hp->Prop}(I:Inv X pins σ H s)
  (h:ta σ H λx H1=>tb σ H1 λy H2=>R x y H2) {Q:Value->c_->Prop}{f:Value->Value->Sem Value}
  (hf:∀v u s2 x y H2,Inv X pins σ H2 s2->bz x v->bz y u->R x y H2->wpAny (model X.prog X.w) X.A (f v u) Q X.xe s2) :
  wpAny (model X.prog X.w) X.A (eval a X.env) (λv s₁=>wpAny (model X.prog X.w) X.A (eval b X.env) (λu s₂=>wpAny (model X.prog X.w) X.A (f v u) Q X.xe s₂) X.xe s₁) X.xe s:=by
 refine thn (ha pins s σ H _ I h) λv s1 ⟨x,H1,I1,r1,q1⟩=>?_;refine thn (hb pins s1 σ H1 _ I1 q1) λu s2 ⟨y,H2,I2,r2,q2⟩=>?_;exact hf v u s2 x y H2 I2 r1 r2 q2
def aI{op:Operator}{r:R2}(ho:OpR X (binaryOp op) r)(ha:PE X a ta)(hb:PE X b tb):PE X (.BinOp a op b pos) (tOp r ta tb):=by
 intro pins s σ H Q I h;exact wpAny_BinOp (wY ha hb I h λv u s2 x y H2 I2 rx ry q=>ho pins s2 σ H2 x y v u Q I2 rx ry q)
def l8{op:UnaryOp}{r:V->Hp->VK->Prop}(ho:UnR X (unaryOp op) r)(ha:PE X a ta):PE X (.UnaryOp op a pos) (tUn r ta):=by
 intro pins s σ H Q I h;exact UnaryOp_ (thn (ha pins s σ H _ I h) λv s1 ⟨x,H1,I1,r1,q1⟩=>ho pins s1 σ H1 x v Q I1 r1 q1)
def opI{f:Value->Value->Sem Value}{C:Int->Int->Prop}{g:Int->Int->Int}
  (rule:∀(i j:Int) (t u:Tok) (s:c_) (Q:Value->c_->Prop) (E:Value->c_->Prop),C i j->Q (.int (g i j) s.toks) { s with toks:=s.toks+1 }->wpAny (model X.prog X.w) X.A (f (.int i t) (.int j u)) Q E s) :
  OpR X f (rI C λi j=>.int (g i j)):=by
 intro pins s σ H x y v u Q I rx ry h;obtain⟨i,j,rfl,rfl,hc,q⟩:=h;obtain⟨t,rfl⟩:=rx;obtain⟨t',rfl⟩:=ry;exact rule i j t t' s _ _ hc ⟨.int (g i j),H,I.tok _,⟨_,rfl⟩,q⟩
def yv{f:Value->Value->Sem Value}{g:Int->Int->Int}
  (rule:∀(i j:Int) (t u:Tok) (s:c_) (Q:Value->c_->Prop) (E:Value->c_->Prop),Q (.int (g i j) s.toks) { s with toks:=s.toks+1 }->wpAny (model X.prog X.w) X.A (f (.int i t) (.int j u)) Q E s) :
  OpR X f (rI0 λi j=>.int (g i j)):=by
 intro pins s σ H x y v u Q I rx ry h;obtain⟨i,j,rfl,rfl,q⟩:=h;obtain⟨t,rfl⟩:=rx;obtain⟨t',rfl⟩:=ry;exact rule i j t t' s _ _ ⟨.int (g i j),H,I.tok _,⟨_,rfl⟩,q⟩
def wJ{f:Value->Value->Sem Value}{g:Int->Int->Bool}
  (rule:∀(i j:Int) (t u:Tok) (s:c_) (Q:Value->c_->Prop) (E:Value->c_->Prop),Q (.bool (g i j)) s->wpAny (model X.prog X.w) X.A (f (.int i t) (.int j u)) Q E s) :
  OpR X f (rI0 λi j=>.bl (g i j)):=by
 intro pins s σ H x y v u Q I rx ry h;obtain⟨i,j,rfl,rfl,q⟩:=h;obtain⟨t,rfl⟩:=rx;obtain⟨t',rfl⟩:=ry;exact rule i j t t' s _ _ ⟨.bl (g i j),H,I,rfl,q⟩
noncomputable def wZ(i j:Int):Prop:=0<j/\j<1073741824
noncomputable def w4(i j:Int):Prop:=0<=j/\j<=1000000/\i.natAbs<2^64
noncomputable def wK(i j:Int):Prop:=(-(2^64)<i/\i<2^64)\/(-(2^64)<j/\j<2^64)
def wK.ok{i j:Int}(h:wK i j):IntMulOk i j:=by
 rcases h with ⟨h1,h2⟩|⟨h1,h2⟩
 .exact .of_left (intBits_le_64 h1 h2)
 .exact .of_right (intBits_le_64 h1 h2)
def uS:OpR X (binaryOp .Add) (rI0 λi j=>.int (i+j)):=yv λ_ _ _ _ _ _ _ q=>add_int q
def uT:OpR X (binaryOp .Sub) (rI0 λi j=>.int (i - j)):=yv λ_ _ _ _ _ _ _ q=>sub_int q
def uU:OpR X (binaryOp .Mult) (rI wK λi j=>.int (i*j)):=opI λ_ _ _ _ _ _ _ hc q=>mul_int q hc.ok
def sD:OpR X (binaryOp .FloorDiv) (rI wZ λi j=>.int (i / j)):=opI λi j _ _ _ _ _ hc q=>by
 have h1:(0:Int)<j:=hc.1;have h2:j<1073741824:=hc.2;exact floordiv_int (by omega) (by rw [fdiv_eq_ediv_of_nonneg i (by omega)];exact q) (.inl (PyProof.noPylong_small (by omega)))
def uV:OpR X (binaryOp .Mod) (rI (λ_ j=>0<j) λi j=>.int (i % j)):=opI λi j _ _ _ _ _ hc q=>by
 have h1:(0:Int)<j:=hc;exact mod_int' (by omega) (by rw [fmod_eq_emod_of_nonneg i (by omega)];exact q)
def uW:OpR X (binaryOp .Pow) (rI w4 λi j=>.int (i^j.toNat)):=opI λ_ _ _ _ _ _ _ hc q=>pow_int_small hc.1 hc.2.1 hc.2.2 q
def unI{f:Value->Sem Value}{g:Int->Int}
  (rule:∀(i:Int) (t:Tok) (s:c_) (Q:Value->c_->Prop) (E:Value->c_->Prop),Q (.int (g i) s.toks) { s with toks:=s.toks+1 }->wpAny (model X.prog X.w) X.A (f (.int i t)) Q E s) :
  UnR X f (rU λi=>.int (g i)):=by
 intro pins s σ H x v Q I rx h;obtain⟨i,rfl,q⟩:=h;obtain⟨t,rfl⟩:=rx;exact rule i t s _ _ ⟨.int (g i),H,I.tok _,⟨_,rfl⟩,q⟩
def ij:UnR X (unaryOp .USub) (rU λi=>.int (-i)):=unI λ_ _ _ _ _ q=>neg_int q
end
noncomputable def yw:V->V->Bool
 | .non,.non=>true|.non,.int _=>true|.int _,.non=>true|.non,.bl _=>true|.bl _,.non=>true|.non,.str _=>true|.str _,.non=>true
 | .int _,.int _=>true|.bl _,.bl _=>true|.str _,.str _=>true|.byt _,.byt _=>true
 | .int _,.str _=>true|.str _,.int _=>true|.bl _,.str _=>true|.str _,.bl _=>true
 | _,_=>false
noncomputable def rEq:R2:=λx y H Q=>yw x y=true/\Q (.bl (decide (x=y))) H
noncomputable def rNe:R2:=λx y H Q=>yw x y=true/\Q (.bl (!decide (x=y))) H
def m7{i j:Int}:decide (V.int i=V.int j)=(i == j):=by
 rw [BL];simp
def rj{i j:Bool}:decide (V.bl i=V.bl j)=(i == j):=by
 rw [BL];simp
def m8{i j:Str}:decide (V.str i=V.str j)=(i == j):=by
 rw [BL];simp
def m9{i j:Array UInt8}:decide (V.byt i=V.byt j)=(i.toList == j.toList):=by
 rw [BL];cases i;cases j;simp
section
variable {X:Cx}{a b c:Expr}{ta tb tc:TE}{pos:Pos}
def aR{pins:List (Addr×Obj)}{σ:St}{H:Hp}{s:c_}{Q:VK}{k k':Bool}(I:Inv X pins σ H s)(q:Q (.bl k) H)(e:k=k'):EP X pins σ Q (.bool k') s:=by
 subst e;exact⟨.bl k,H,I,rfl,q⟩
def w9:OpR X (compareOp .Eq) rEq:=by
 intro pins s σ H x y v u Q I rx ry h;obtain⟨hs,q⟩:=h
 cases x with
 | non =>
  cases rx
  cases y with
  | non=>cases ry;exact PySem.EqNone.eq_none_none (aR I q (by simp))
  | bl j=>cases ry;exact PySem.EqNone.eq_none_bool (aR I q (by simp))
  | int j=>obtain⟨t',rfl⟩:=ry;exact PySem.EqNone.eq_none_int (aR I q (by simp))
  | str j=>obtain⟨t',rfl⟩:=ry;exact PySem.EqNone.eq_none_str (aR I q (by simp))
  | _=>exact absurd (show false=true from hs) r_
 | bl i =>
  cases rx
  cases y with
  | non=>cases ry;exact PySem.EqNone.eq_bool_none (aR I q (by simp))
  | bl j=>cases ry;exact eq_bool (aR I q rj)
  | str j=>obtain⟨t',rfl⟩:=ry;exact PySem.EqMixed.eq_bool_str (aR I q (by simp))
  | _=>exact absurd (show false=true from hs) r_
 | int i =>
  obtain⟨t,rfl⟩:=rx
  cases y with
  | non=>cases ry;exact PySem.EqNone.eq_int_none (aR I q (by simp))
  | int j=>obtain⟨t',rfl⟩:=ry;exact eq_int (aR I q m7)
  | str j=>obtain⟨t',rfl⟩:=ry;exact PySem.EqMixed.eq_int_str (aR I q (by simp))
  | _=>exact absurd (show false=true from hs) r_
 | str i =>
  obtain⟨t,rfl⟩:=rx
  cases y with
  | non=>cases ry;exact PySem.EqNone.eq_str_none (aR I q (by simp))
  | bl j=>cases ry;exact PySem.EqMixed.eq_str_bool (aR I q (by simp))
  | int j=>obtain⟨t',rfl⟩:=ry;exact PySem.EqMixed.eq_str_int (aR I q (by simp))
  | str j=>obtain⟨t',rfl⟩:=ry;exact eq_str (aR I q m8)
  | _=>exact absurd (show false=true from hs) r_
 | byt i =>
  obtain⟨t,rfl⟩:=rx
  cases y with
  | byt j=>obtain⟨t',rfl⟩:=ry;exact PySem.W.eq_bytes (aR I q m9)
  | _=>exact absurd (show false=true from hs) r_
 | _=>cases y <;> exact absurd (show false=true from hs) r_
def xb:OpR X (compareOp .NotEq) rNe:=by
 intro pins s σ H x y v u Q I rx ry h;obtain⟨hs,q⟩:=h
 cases x with
 | non =>
  cases rx
  cases y with
  | non=>cases ry;exact PySem.EqNone.ne_none_none (aR I q (by simp))
  | bl j=>cases ry;exact PySem.EqNone.ne_none_bool (aR I q (by simp))
  | int j=>obtain⟨t',rfl⟩:=ry;exact PySem.EqNone.ne_none_int (aR I q (by simp))
  | str j=>obtain⟨t',rfl⟩:=ry;exact PySem.EqNone.ne_none_str (aR I q (by simp))
  | _=>exact absurd (show false=true from hs) r_
 | bl i =>
  cases rx
  cases y with
  | non=>cases ry;exact PySem.EqNone.ne_bool_none (aR I q (by simp))
  | bl j=>cases ry;exact ne_bool (aR I q (congrArg not rj))
  | str j=>obtain⟨t',rfl⟩:=ry;exact PySem.EqMixed.ne_bool_str (aR I q (by simp))
  | _=>exact absurd (show false=true from hs) r_
 | int i =>
  obtain⟨t,rfl⟩:=rx
  cases y with
  | non=>cases ry;exact PySem.EqNone.ne_int_none (aR I q (by simp))
  | int j=>obtain⟨t',rfl⟩:=ry;exact ne_int (aR I q (congrArg not m7))
  | str j=>obtain⟨t',rfl⟩:=ry;exact PySem.EqMixed.ne_int_str (aR I q (by simp))
  | _=>exact absurd (show false=true from hs) r_
 | str i =>
  obtain⟨t,rfl⟩:=rx
  cases y with
  | non=>cases ry;exact PySem.EqNone.ne_str_none (aR I q (by simp))
  | bl j=>cases ry;exact PySem.EqMixed.ne_str_bool (aR I q (by simp))
  | int j=>obtain⟨t',rfl⟩:=ry;exact PySem.EqMixed.ne_str_int (aR I q (by simp))
  | str j=>obtain⟨t',rfl⟩:=ry;exact ne_str (aR I q (congrArg not m8))
  | _=>exact absurd (show false=true from hs) r_
 | byt i =>
  obtain⟨t,rfl⟩:=rx
  cases y with
  | byt j=>obtain⟨t',rfl⟩:=ry;exact PySem.W.ne_bytes (aR I q (congrArg not m9))
  | _=>exact absurd (show false=true from hs) r_
 | _=>cases y <;> exact absurd (show false=true from hs) r_
def xc:OpR X (compareOp .Lt) (rI0 λi j=>.bl (decide (i<j))):=wJ λ_ _ _ _ _ _ _ q=>lt_int q
def xf:OpR X (compareOp .Gt) (rI0 λi j=>.bl (decide (j<i))):=wJ λ_ _ _ _ _ _ _ q=>gt_int q
def ng:OpR X (compareOp .Lt) (λx y H Q=>∃i j,x=.str i/\y=.str j/\Q (.bl (decide (i.cps.toList<j.cps.toList))) H):=by
 intro pins s σ H x y v u Q I rx ry h;obtain⟨i,j,rfl,rfl,q⟩:=h;obtain⟨t,rfl⟩:=rx;obtain⟨t',rfl⟩:=ry;exact lt_str (aR I q rfl)
def OpR.or{f:Value->Value->Sem Value}{r r':R2}(h:OpR X f r)(h':OpR X f r'):OpR X f (λx y H Q=>r x y H Q\/r' x y H Q):=by
 intro pins s σ H x y v u Q I rx ry q
 rcases q with q|q
 .exact h pins s σ H x y v u Q I rx ry q
 .exact h' pins s σ H x y v u Q I rx ry q
def bH(b:Expr){op:CmpOp}(h:op≠.In:=by decide)(h2:op≠.NotIn:=by decide):behindInMarks op b=false:=by
 have e1:(op == CmpOp.In)=false:=by cases op <;> first|rfl|exact absurd rfl h
 have e2:(op == CmpOp.NotIn)=false:=by cases op <;> first|rfl|exact absurd rfl h2
 cases b <;> simp [behindInMarks,e1,e2]
def iC{op:CmpOp}{r:R2}(ho:OpR X (compareOp op) r)(ha:PE X a ta)(hb:PE X b tb)(hm:behindInMarks op b=false):PE X (.Compare a [op] [b] pos) (tOp r ta tb):=by
 intro pins s σ H Q I h;exact wpAny_Compare1 (wY ha hb I h λv u s2 x y H2 I2 rx ry q=>ho pins s2 σ H2 x y v u Q I2 rx ry q) hm
noncomputable def sE(t:TE):TT:=λσ H Q=>t σ H λx H'=>∃k,x=.bl k/\Q k H'
def bp{op:CmpOp}{r:R2}(ho:OpR X (compareOp op) r)(ha:PE X a ta)(hb:PE X b tb)(hm:behindInMarks op b=false):PT X (.Compare a [op] [b] pos) (sE (tOp r ta tb)):=by
 intro pins s σ H Q I h
 refine wpAny_isTrue_Compare1 (thn (ha pins s σ H _ I h) λv s1 ⟨x,H1,I1,r1,q1⟩=>thn (hb pins s1 σ H1 _ I1 q1) λu s2 ⟨y,H2,I2,r2,q2⟩ =>
  thn (ho pins s2 σ H2 x y v u _ I2 r1 r2 q2) λc s3 ⟨z,H3,I3,r3,k,e,q3⟩=>?_) hm
 subst e;cases r3;exact AJ ⟨H3,I3,q3⟩
noncomputable def xg(K:b_)(x:V)(H:Hp)(k:Bool):Prop :=
 match x with
 | .non=>k=false
 | .bl b=>k=b
 | .int i=>k=(i != 0)
 | .str y=>y.length<=sizeLine/\k=((y.length:Int) != 0)
 | .byt y=>y.size<=sizeLine/\k=((y.size:Int) != 0)
 | .ref p=>(∃xs,SqL K H p xs/\k=!xs.isEmpty)\/(∃xs,SqT K H p xs/\k=!xs.isEmpty)\/∃kvs,H p=some (.dK kvs)/\k=!kvs.isEmpty
 | _=>False
def l9{κ:Type}{kvs:List (κ×V)}{vs:List (κ×Value)}(r:KV kvs vs):(!vs.isEmpty)=!kvs.isEmpty:=by
 cases r <;> rfl
def ik{xs:List V}{its:List Value}(r:aX xs its):(!its.toArray.isEmpty)=!xs.isEmpty:=by
 cases r <;> simp
def il:(sizeLine:Nat)<2^63:=by rw [A9];decide
def uX:zc X (λx H Q=>∃k,xg X.K x H k/\Q k H):=by
 intro pins s σ H x v Q I rx h;obtain⟨k,e,q⟩:=h;have hl:=il;have hs:sizeLine=16777216:=A9
 cases x with
 | non =>
  cases rx;have e':k=false:=e;subst e';exact truthy_none ⟨H,I,q⟩
 | bl b =>
  cases rx;have e':k=b:=e;subst e';exact AJ ⟨H,I,q⟩
 | int i =>
  obtain⟨t,rfl⟩:=rx;have e':k=(i != 0):=e;subst e';exact PySem.P.truthy_int ⟨H,I,q⟩
 | str y =>
  obtain⟨t,rfl⟩:=rx;obtain⟨hy,e'⟩:y.length<=sizeLine/\k=((y.length:Int) != 0):=e;subst e';exact PySem.P.truthy_str (by omega) ⟨H,I.tok _,q⟩
 | byt y =>
  obtain⟨t,rfl⟩:=rx;obtain⟨hy,e'⟩:y.size<=sizeLine/\k=((y.size:Int) != 0):=e;subst e';exact PySem.W.truthy_bytes (by omega) ⟨H,I.tok _,q⟩
 | ref p =>
  cases rx;have e':(∃xs,SqL X.K H p xs/\k=!xs.isEmpty)\/(∃xs,SqT X.K H p xs/\k=!xs.isEmpty)\/∃kvs,H p=some (.dK kvs)/\k=!kvs.isEmpty:=e
  rcases e' with ⟨xs,hx,e'⟩|⟨xs,hx,e'⟩|⟨kvs,hx,e'⟩
  .subst e';obtain⟨its,r,pl,hz⟩:=I.list hx;have hlen:=r.length;exact wpAny_truthy_list pl.isList (by simp only [size_toArray];omega) ⟨H,I.tok _,by rw [ik r];exact q⟩
  .subst e';obtain⟨its,r,pl,hz⟩:=I.tuple hx;have hlen:=r.length;exact truthy_tuple pl (by simp only [size_toArray];omega) ⟨H,I.tok _,by rw [ik r];exact q⟩
  .subst e';obtain⟨hz,hS,vs,r,m⟩:kvs.length<=sizeLine/\(p == sysModules)=false/\∃vs,KV kvs vs/\s.heap.DictOf (bf X.prog X.w) p vs:=I.hok p _ hx;have hlen:kvs.length=vs.length:=Paired.length r;exact wpAny_truthy_dict hS m (by omega) ⟨H,I.tok _,by rw [l9 r];exact q⟩
 | _=>exact (show False from e).elim
def qa(ha:PE X a ta)(he:∀whole,isTrue a X.env whole=(do let v <- whole;standAt a.pos;holding [v] (truthy v))) :
  PT X a (λσ H Q=>ta σ H λx H'=>∃k,xg X.K x H' k/\Q k H'):=by
 intro pins s σ H Q I h;exact isTrue_plain (thn (ha pins s σ H _ I h) λv s1 ⟨x,H1,I1,r1,q1⟩=>uX pins s1 σ H1 x v Q I1 r1 q1) (he _)
def ma:OpR X (binaryOp .Add) (λx y H Q=>∃i j,x=.str i/\y=.str j/\i.length+j.length<=sizeLine/\Q (.str (i++j)) H):=by
 intro pins s σ H x y v u Q I rx ry h;obtain⟨i,j,rfl,rfl,hz,q⟩:=h;obtain⟨t,rfl⟩:=rx;obtain⟨t',rfl⟩:=ry;exact add_str (λt' tk=>⟨.str (i++j),H,I.tok _,⟨_,rfl⟩,q⟩) hz
def gY{x:V}{us:List Value}(r:aX [x] us):∃u,us=[u]/\bz x u:=by
 cases r with
 | cons r1 r2=>cases r2;exact⟨_,rfl,r1⟩
def nh{x y:V}{us:List Value}(r:aX [x,y] us):∃u w',us=[u,w']/\bz x u/\bz y w':=by
 cases r with
 | cons r1 r2 =>
  cases r2 with
  | cons r3 r4=>cases r4;exact⟨_,_,rfl,r1,r3⟩
def ni(hc:X.calm=true):a6 X (.builtin "max") (λxs H Q=>∃i j,xs=[.int i,.int j]/\Q (.int (if j > i then j else i)) H):=by
 intro pins s σ H xs us Q I r h;obtain⟨i,j,rfl,q⟩:=h;obtain⟨u,w',rfl,⟨t,rfl⟩,⟨t',rfl⟩⟩:=nh r;refine max_two_ints (I.ok.hd hc) λh' tk k=>⟨_,H,I.kept k,?_,q⟩
 by_cases hj:j > i
 .rw [if_pos hj,if_pos hj];exact⟨_,rfl⟩
 .rw [if_neg hj,if_neg hj];exact⟨_,rfl⟩
end
structure xh (h:Heap) (x dx C:Addr) (mA:Str->Option Value):Prop where
 obj:h.get? x=some (CJ C dx)
 ns:h.Ns1 dx mA
 ne:dx≠x
def nj{h:Heap}{dx:Addr}{mA:Str->Option Value}(n:h.Ns1 dx mA):∃od,h.get? dx=some od/\∀name,CS name od=some (mA name):=by
 obtain⟨o,es,ep,ho,hd,hk,_,hm⟩:=n;refine⟨o,ho,λname=>?_⟩;have e:=hm name;unfold nsFind findBy at e;rw [<- Array.find?_toList] at e;unfold CS;rw [hd];dsimp only
 split
 .rename_i y q;rw [q] at e;exact congrArg some e
 .rename_i q;rw [q] at e
  have a:es.toList.any (·.refKey)=false:=by
   rw [any_eq_false];intro y hy;obtain⟨z,t,hkey⟩:=hk y (Array.mem_toList_iff.mp hy);simp [DictEntry.refKey,hkey]
  have a':¬ es.toList.any (·.refKey)=true:=by rw [a];exact r_
  rw [if_neg a'];exact congrArg some e
def xh.look{h:Heap}{x dx C:Addr}{mA:Str->Option Value}(I:xh h x dx C mA):∃od,PySem.W.InstAt h x (CJ C dx) C (some od)/\∀name,CS name od=some (mA name) :=
 let ⟨od,ho,hl⟩:=nj I.ns
 ⟨od,⟨I.obj,rfl,rfl,ho⟩,hl⟩
def l4.some_of{v:V}{o:Option Value}(r:l4 (some v) o):∃u,o=some u/\bz v u:=by
 cases o with
 | none=>exact (show False from r).elim
 | some u=>exact⟨u,rfl,r⟩
section
variable {P:m_}{w:World}{H H':Hp}{h h':Heap}{a C dx:Addr}{fs fs':List (Str×V)}
def nk(hok:HOk P w H h)(e:H a=some (.ins C dx fs)):∃mA,xh h a dx C mA/\(∀f,l4 (fs.lookup f) (mA f))/\PySem.Within mA (fs.map (·.1))/\fs.length<=1000/\H dx=some (.own a):=by
 obtain⟨d,z,ne,ob,mA,n,r,q⟩:=(show aO P w H h a (.ins C dx fs) from hok a _ e)
 exact⟨mA,⟨ob,n,ne⟩,r,q,z,d⟩
end
structure Cls (K:b_) (C:Addr):Prop where
 pg:PySem.W.plainGet K C Str.empty=true
 hd:PySem.W.hasDictIn K C=true
 po:PySem.W.plainOver K C=true
 sa:l_ K (.ref C) "__setattr__"=some (some (.builtin "object.__setattr__"))
def Cls.get{K:b_}{C:Addr}(c:Cls K C)(f:Str):PySem.W.plainGet K C f=true:=c.pg
section
variable {X:Cx}{pins:List (Addr×Obj)}{σ:St}{H:Hp}{s:c_}{A:v_}{E:Value->c_->Prop}{Q:Value->c_->Prop}{c:Value}{b:Bool}
inductive je (K:b_) (H:Hp):V->Value->Prop where
 | non:je K H .non (.type "NoneType")
 | bl (x:Bool):je K H (.bl x) (.type "bool")
 | int (i:Int):je K H (.int i) (.type "int")
 | str (x:Str):je K H (.str x) (.type "str")
 | flt (x:UInt64):je K H (.flt x) (.type "float")
 | lst {a:Addr}{xs:List V} (e:H a=some (.lst xs)):je K H (.ref a) (.type "list")
 | frz {a:Addr}{o:Obj}{xs:List V} (e:H a=some (.frz o (.lst xs))):je K H (.ref a) (.type "list")
 | tup {a:Addr}{xs:List V} (e:H a=some (.tup xs)):je K H (.ref a) (.type "tuple")
 | dK {a:Addr}{kvs:List (Key×V)} (e:H a=some (.dK kvs)):je K H (.ref a) (.type "dict")
 | dT {a:Addr}{kvs:List (List Key×V)} (e:H a=some (.dT kvs)):je K H (.ref a) (.type "dict")
 | ins {a C dx:Addr}{fs:List (Str×V)} (e:H a=some (.ins C dx fs)) (cl:Cls K C) (ha:l_ K (.ref C) "__class__"=some (some (.builtin "object.__class__")))
   (hn:PySem.W.specialIn K (.builtin "object.__class__") "__get__"=some (some (.builtin "getset_descriptor.__get__"))) (htk:PySem.W.takesIn K (.builtin "object.__class__")=some true)
   (hm:C4 K C (.type "object")=some true):je K H (.ref a) (.ref C)
def nq{x:V}{u t:Value}(I:Inv X pins σ H s)(rx:bz x u)(ty:je X.K H x t)(e:zL X.K t c=some b)(h:∀tk,Q (.bool b) { s with toks:=tk }) :
  wpAny (model X.prog X.w) A (call (.builtin "isinstance") [u,c]) Q E s:=by
 cases ty with
 | non=>cases (show u=Ah from rx);exact zP PySem.W.kitx_none I.kIn zY e (λz=>nomatch z) h
 | bl y=>cases (show u=AL y from rx);exact zP PySem.W.kitx_bool I.kIn zY e (λz=>nomatch z) h
 | int i=>obtain⟨t,q⟩:=(show ∃t,u=B0 i t from rx);cases q;exact zP PySem.W.kitx_int I.kIn zY e (λz=>nomatch z) h
 | str y=>obtain⟨t,q⟩:=(show ∃t,u=BA y t from rx);cases q;exact zP PySem.W.kitx_str I.kIn zY e (λz=>nomatch z) h
 | flt y=>obtain⟨t,q⟩:=(show ∃t,u=Value.float y t from rx);cases q;exact zP PySem.W.kitx_float I.kIn zY e (λz=>nomatch z) h
 | @lst a xs ea =>
  cases (show u=k_ a from rx);obtain⟨_,_,n,_,h1⟩:=(show aO X.prog X.w H s.heap a (.lst xs) from I.hok a _ ea)
  exact zP Bs I.kIn ⟨_,h1,rfl⟩ e (λz=>nomatch z) h
 | @frz a ob xs ea =>
  cases (show u=k_ a from rx);obtain⟨_,_,_,n,_,h1⟩:=(show aO X.prog X.w H s.heap a (.frz ob (.lst xs)) from I.hok a _ ea)
  exact zP Bs I.kIn ⟨_,h1,rfl⟩ e (λz=>nomatch z) h
 | @tup a xs ea =>
  cases (show u=k_ a from rx);obtain⟨_,_,_,p⟩:=(show aO X.prog X.w H s.heap a (.tup xs) from I.hok a _ ea)
  obtain⟨o,h1,h2,_⟩:=p;exact zP PySem.W.kitx_tuple I.kIn ⟨o,h1,h2⟩ e (λz=>nomatch z) h
 | @dK a kvs ea =>
  cases (show u=k_ a from rx);obtain⟨_,_,vs,_,p⟩:=(show aO X.prog X.w H s.heap a (.dK kvs) from I.hok a _ ea)
  obtain⟨o,es,ep,h1,h2,_⟩:=p;exact zP Bt I.kIn ⟨o,h1,h2.1⟩ e (λz=>nomatch z) h
 | @dT a kvs ea =>
  cases (show u=k_ a from rx);obtain⟨_,_,xs,_,o,es,ep,h1,h2,_⟩:=(show aO X.prog X.w H s.heap a (.dT kvs) from I.hok a _ ea)
  exact zP Bt I.kIn ⟨o,h1,h2.1⟩ e (λz=>nomatch z) h
 | @ins a C dx fs ea cl ha hn htk hm =>
  cases (show u=k_ a from rx);obtain⟨mA,O,_⟩:=nk I.hok ea;obtain⟨od,J,_⟩:=O.look;exact zP (PySem.W.kitx_own (cl.get _) cl.hd ha hn htk hm) I.kIn J e (λz=>nomatch z) h
end
structure cP (k:Nat) (A:v_):Prop where
 hd:A.handled=none
 dp:A.depth+3*k+5<recursionLimit
 un:A.units+16*k+200<cLine
def cP.mono{j k:Nat}{A:v_}(r:cP k A)(h:j<=k):cP j A:=⟨r.hd,by have:=r.dp;omega,by have:=r.un;omega⟩
def cP.deeper{k:Nat}{A:v_}(r:cP (k+1) A)(env:Env):cP k (A.deeper env) :=
 ⟨r.hd,by have:=r.dp;show A.depth+1+3*k+5<_;omega,by have:=r.un;show A.units+3+16*k+200<_;omega⟩
def cP.depth{k:Nat}{A:v_}(r:cP k A):A.depth<recursionLimit:=by have:=r.dp;omega
def cP.units{k:Nat}{A:v_}(r:cP k A):A.units+64<cLine:=by have:=r.un;omega
def iD:TA:=λ_ H Q=>Q [] H
noncomputable def bA(ta:TE)(tr:TA):TA:=λσ H Q=>ta σ H λx H1=>tr σ H1 λxs H2=>Q (x::xs) H2
section
variable {X:Cx}{e:Expr}{es:List Expr}{te:TE}{t:TA}{pos:Pos}
def af:PA X [] iD:=λ_ _ _ _ H Q I h=>Cg ⟨[],H,I,.nil,h⟩
def sF(ha:PE X e te)(hr:PA X es t)(hs:starEach (e::es) X.env=(false,eval e X.env)::starEach es X.env:=by rfl):PA X (e::es) (bA te t):=by
 intro pos pins s σ H Q I h;rw [hs];show wpAny _ _ (spliced ((false,eval e X.env)::backTo pos (starEach es X.env))) _ _ s;refine B5 (thn (ha pins s σ H _ I h) λu s1 ⟨x,H1,I1,r1,q1⟩=>?_);exact thn (hr pos pins s1 σ H1 _ I1 q1) λus s2 ⟨xs,H2,I2,r2,q2⟩=>⟨x::xs,H2,I2,.cons r1 r2,q2⟩
noncomputable def xi(t:TA):TE:=λσ H Q=>t σ H λxs H1=>xs.length<=sizeLine/\∀p,H1 p=none->Q (.ref p) (upd H1 p (.tup xs))
noncomputable def yx(t:TA):TE:=λσ H Q=>t σ H λxs H1=>xs.length<=sizeLine/\∀p,H1 p=none->Q (.ref p) (upd H1 p (.lst xs))
def rn{x1}(h:PA X es t):PE X (.Tuple es x1 pos) (xi t):=by
 intro pins s σ H Q I hq;refine wpAny_Tuple_spliced (thn (h pos pins s σ H _ I hq) λus s1 ⟨xs,H1,I1,r,z,q⟩=>⟨by rw [<- r.length];exact z,?_⟩);have hf:H1 s1.heap.objs.size=none:=I1.hok.fresh (o_ _);refine⟨.ref s1.heap.objs.size,upd H1 s1.heap.objs.size (.tup xs),I1.laid (t':=s1.toks) (λb u e=>e_ _ e) (o_ _) ?_,rfl,q _ hf⟩;exact⟨z,us,r,⟨_,q_ _ rfl,rfl,_,rfl⟩⟩
def aB(h:PA X es t):PE X (.List es pos) (yx t):=by
 intro pins s σ H Q I hq;refine wpAny_List_spliced (thn (h pos pins s σ H _ I hq) λus s1 ⟨xs,H1,I1,r,z,q⟩=>⟨by rw [<- r.length];exact z,?_⟩);have hf:H1 s1.heap.objs.size=none:=I1.hok.fresh (o_ _);refine⟨.ref s1.heap.objs.size,upd H1 s1.heap.objs.size (.lst xs),I1.laid (t':=s1.toks) (λb u e=>e_ _ e) (o_ _) ?_,rfl,q _ hf⟩;exact⟨z,us,0,r,q_ _ rfl⟩
end
abbrev Sp:=List V->Hp->VK->XK->Prop
abbrev CXT:=List Env->Hp->c_->XK->Value->c_->Prop
structure ut (P:m_) (w:World) (K:b_) (mg:Str->Option Value) (base:Heap) (A:v_) (outer:List Env) (s:c_) (H:Hp):Prop where
 frames:A.frames=some outer
 mod:Mod K mg base
 bs:∀b o,base.get? b=some o->s.heap.get? b=some o/\H b=none
 bsz:base.objs.size<=s.heap.objs.size
 funs:s.heap.FunFrames base outer
 frf:∀b∈frs outer,H b=none
 hok:HOk P w H s.heap
 bare:BS s.gens
 tb:jg base H
noncomputable def CE(outer:List Env)(P:m_)(w:World)(H:Hp)(s:c_)(Q:VK)(u:Value)(s':c_):Prop :=
 ∃v H',s'.os=s.os/\BS s'.gens/\Un (frs outer) [] H H' s.heap s'.heap/\HOk P w H' s'.heap/\bz v u/\Q v H'
noncomputable def CR(CX:CXT)(outer:List Env)(P:m_)(w:World)(H:Hp)(s:c_)(Q:VK)(E:XK)(r:Result)(s':c_):Prop :=
 match r with
 | .ok (.ret u)=>CE outer P w H s Q u s'
 | .ok _=>False
 | .error e=>CX outer H s E e s'
structure kz (P:m_) (w:World) (K:b_) (mg:Str->Option Value) (base:Heap) (CX:CXT) (k:Nat) (f:Addr) (fd:Ag) (ps:List Str) (sp:Sp):Prop where
 len:∀vs H Q E,sp vs H Q E->vs.length=ps.length
 run:∀(A:v_) (outer:List Env) (s:c_) (H:Hp) (args:Args) (us:List Value) (vs:List V) (Q:VK) (E:XK),cP k A->ut P w K mg base A outer s H->Ci s fd args (ps.zip us)->aX vs us->sp vs H Q E ->
  codeAny (model P w) A (.call (.ref f) args) (CR CX outer P w H s Q E) s
def kz.imp{P:m_}{w:World}{K:b_}{mg:Str->Option Value}{base:Heap}{CX:CXT}{k:Nat}{f:Addr}{fd:Ag}{ps:List Str}{sp sp':Sp}(F:kz P w K mg base CX k f fd ps sp)
  (h:∀vs H Q E,sp' vs H Q E->sp vs H Q E):kz P w K mg base CX k f fd ps sp' :=
 ⟨λvs H Q E q=>F.len vs H Q E (h _ _ _ _ q),λA outer s H args us vs Q E hr he hb hv hs=>F.run A outer s H args us vs Q E hr he hb hv (h _ _ _ _ hs)⟩
section
variable {X:Cx}{pins:List (Addr×Obj)}{σ:St}{H:Hp}{s s':c_}
def Inv.env0(I:Inv X pins σ H s):ut X.prog X.w X.K X.mg X.base X.A X.stack s H :=
 ⟨I.ok.frames,I.ok.mod,I.bs,Af I.ok.bsz I.sz,I.stack,I.stkFree,I.hok,I.bare,I.ok.tb.un I.base⟩
def Inv.after{Q:VK}{u:Value}(I:Inv X pins σ H s)(h:CE X.stack X.prog X.w H s Q u s'):EP X pins σ Q u s':=by
 obtain⟨v,H',os,bare,un,hok,r,q⟩:=h;obtain⟨hh,g,d,t,os'⟩:=s';obtain rfl:os'=s.os:=os;exact⟨v,H',I.call (h':=hh) (g':=g) (d':=d) (t':=t) (ch:=[]) un hok bare (λb z=>absurd z (by simp)),r,q⟩
end
noncomputable def iE(sp:Sp)(dvs:List V)(E:XK)(t:TA):TE:=λσ H Q=>t σ H λvs H1=>sp (vs++dvs) H1 Q E
noncomputable def iF(K:b_)(fd:Ag)(ps:List Str)(ds:List Value):Prop :=
 ∀(s:c_) (us:List Value),K.In s.heap->(us++ds).length=ps.length->Ci s fd ⟨us,[]⟩ (ps.zip (us++ds))
def iF.all{K:b_}{fd:Ag}{ps:List Str}(h:∀us:List Value,us.length=ps.length->bindArgs fd ⟨us,[]⟩=pure (ps.zip us)):iF K fd ps []:=λs us _ hl=>by
 rw [append_nil] at hl ⊢;exact .of_eq (h us hl)
noncomputable def nr(CX:CXT)(X:Cx)(E:XK):Prop:=∀(pins:List (Addr×Obj)) (σ:St) (H:Hp) (s:c_) (e:Value) (s':c_),Inv X pins σ H s->CX X.stack H s E e s'->X.xe e s'
section
variable {X:Cx}{CX:CXT}{k:Nat}{f C:Addr}{fd:Ag}{ps:List Str}{sp:Sp}{dvs:List V}{ds:List Value}{E:XK}{x m:Str}{p pos apos:Pos}{e o:Expr}{es:List Expr}{ta:TE}{t:TA}
def uY{pins:List (Addr×Obj)}{σ:St}{H:Hp}{s:c_}{Q:VK}{us:List Value}{vs:List V}(F:kz X.prog X.w X.K X.mg X.base CX k f fd ps sp)(hr:cP k X.A)(hb:iF X.K fd ps ds)(hd:aX dvs ds)(hx:nr CX X E)
  (I:Inv X pins σ H s) (r:aX vs us) (h:sp (vs++dvs) H Q E):wpAny (model X.prog X.w) X.A (call (.ref f) us) (EP X pins σ Q) X.xe s:=by
 have r2:aX (vs++dvs) (us++ds):=r.append hd;have hl:(us++ds).length=ps.length:=by rw [<- r2.length];exact F.len _ _ _ _ h
 refine CC (BU (F.run X.A X.stack s H ⟨us,[]⟩ (us++ds) (vs++dvs) Q E hr I.env0 (hb s us I.kIn hl) r2 h) λr s' hq=>?_)
 cases r with
 | error e=>exact hx pins σ H s e s' I hq
 | ok fl =>
  cases fl with
  | ret u=>exact I.after hq
  | next=>exact zQ hq
  | brk=>exact zQ hq
  | cont=>exact zQ hq
def sG(F:kz X.prog X.w X.K X.mg X.base CX k f fd ps sp)(hr:cP k X.A)(hg:Gl X x)(hm:X.mg x=some (.ref f))(hk:we X.K (.ref f)=true)(hb:iF X.K fd ps ds)(hd:aX dvs ds)(hx:nr CX X E)
  (ha:PA X (e::es) t) (hdb:(x == ("__debug__":Str))=false:=by decide) (he:starEach (e::es) X.env=(false,eval e X.env)::starEach es X.env:=by rfl) (hpl:(backTo pos (starEach es X.env)).any (·.1)=false:=by rfl) :
  PE X (.Call (.Name x p) (e::es) [] pos) (iE sp dvs E t):=by
 intro pins s σ H Q I h;refine AC (eR I hg hm ?_ hdb);refine B6 (h₀:=X.base) I.ok.mod.kin hk (thn (ha pos pins s σ H _ I h) λus s1 ⟨vs,H1,I1,r,q⟩=>⟨I1.kIn,?_⟩) he hpl;exact uY F hr hb hd hx I1 r q
end
structure aA (N P:List Str) (sc:Scope):Prop where
 kind:sc.kind=.function
 co:sc.isCoroutine=false
 gen:sc.isGenerator=false
 nd:N.Nodup
 pre:N.take P.length=P
 par:∀x∈P,sc.names.lookup x=some .local\/sc.names.lookup x=some .cell
 nofree:∀y∈sc.names,y.2≠.free
theorem jk{kindOf:Str->Option Ac}{x:Str}:∀{binds:List (Str×Value)}{m:Str->Option Value},(∀v,(x,v)∉binds)->bindL kindOf binds m x=m x
 | [],_,_=>rfl
 | (n,v)::r,m,h=>by
  unfold bindL;rw [jk λw hw=>h w (w_ _ hw)]
  split
  .have:x≠n:=by rintro rfl;exact h v mem_cons_self
   simp [this]
  .rfl
theorem jl{kindOf:Str->Option Ac}{x:Str}:∀{binds:List (Str×Value)}{m:Str->Option Value},(∀v,(x,v)∉binds)->bindC kindOf binds m x=m x
 | [],_,_=>rfl
 | (n,v)::r,m,h=>by
  unfold bindC;rw [jl λw hw=>h w (w_ _ hw)]
  split
  .rfl
  .have:x≠n:=by rintro rfl;exact h v mem_cons_self
   simp [this]
theorem jm{kindOf:Str->Option Ac}{x:Str}{v:Value}:∀{P:List Str}{vs:List Value}{i:Nat}{m:Str->Option Value},P.Nodup->P[i]?=some x->vs[i]?=some v->kindOf x=some .local ->
  bindL kindOf (P.zip vs) m x=some v
 | [],_,_,_,_,h,_,_=>by simp at h
 | _::_,[],_,_,_,_,h,_=>by simp at h
 | p::P,w::vs,0,m,nd,h1,h2,hk=>by
  simp at h1 h2;subst h1;subst h2;show bindL kindOf ((p,w)::P.zip vs) m p=_;unfold bindL;rw [jk λv hv=>(B7.mp nd).1 (of_mem_zip hv).1,if_pos hk];simp
 | p::P,w::vs,i+1,m,nd,h1,h2,hk=>by
  show bindL kindOf ((p,w)::P.zip vs) m x=_;unfold bindL;exact jm (i:=i) (B7.mp nd).2 (by simpa using h1) (by simpa using h2) hk
theorem jn{kindOf:Str->Option Ac}{x:Str}{v:Value}:∀{P:List Str}{vs:List Value}{i:Nat}{m:Str->Option Value},P.Nodup->P[i]?=some x->vs[i]?=some v->kindOf x≠some .local ->
  bindC kindOf (P.zip vs) m x=some v
 | [],_,_,_,_,h,_,_=>by simp at h
 | _::_,[],_,_,_,_,h,_=>by simp at h
 | p::P,w::vs,0,m,nd,h1,h2,hk=>by
  simp at h1 h2;subst h1;subst h2;show bindC kindOf ((p,w)::P.zip vs) m p=_;unfold bindC;rw [jl λv hv=>(B7.mp nd).1 (of_mem_zip hv).1,if_neg hk];simp
 | p::P,w::vs,i+1,m,nd,h1,h2,hk=>by
  show bindC kindOf ((p,w)::P.zip vs) m x=_;unfold bindC;exact jn (i:=i) (B7.mp nd).2 (by simpa using h1) (by simpa using h2) hk
noncomputable def start(N:List Str)(vs:List V):St:=vs.map some++pf (N.length - vs.length) none
noncomputable def im(CX:CXT)(P:m_)(w:World)(K:b_)(mg:Str->Option Value)(base:Heap)(N:List Str)(qual:Str)(scope:Scope)(f:Addr)(cd:Value)(A:v_)(outer:List Env)(s:c_)(H:Hp)(E:XK):Cx where
 prog:=P
 w:=w
 K:=K
 mg:=mg
 base:=base
 A:=A.deeper (envOfC qual scope s.heap.objs.size f cd)
 N:=N
 s₀:=s
 H₀:=H
 env:=envOfC qual scope s.heap.objs.size f cd
 outer:=outer
 stack:=envOfC qual scope s.heap.objs.size f cd::outer
 ex:=[]
 calm:=true
 fn:=λ_=>true
 pn:=[]
 xe:=λe s'=>wpAny (model P w) (A.deeper (envOfC qual scope s.heap.objs.size f cd)) (leaving (envOfC qual scope s.heap.objs.size f cd) e) (λ_ s''=>CX outer H s E e s'') (λe' s''=>CX outer H s E e' s'') s'
def lE{sc:Scope}{n:Nat}{x:Str}(h:sc.names.lookup x=some .cell):∃c,(cellsFrom n sc.names []).lookup x=some c:=by
 have q:=Ay sc.names n [] (.inl h);exact AN.mp q
def jo{CX:CXT}{P:m_}{w:World}{K:b_}{mg:Str->Option Value}{base:Heap}{N ps:List Str}{qual:Str}{scope:Scope}{f:Addr}{cd:Value}{A:v_}{outer:List Env}{s s1:c_}{H:Hp}{E:XK}{us:List Value}{vs:List V}
  (S:aA N ps scope) (hd:A.handled=none) (e0:ut P w K mg base A outer s H) (hl:vs.length=ps.length) (r:aX vs us)
  (x:InCallC s s.heap.objs.size (bindL (envOfC qual scope s.heap.objs.size f cd).kindOf (ps.zip us) λ_=>none) (cellsFrom (s.heap.objs.size+1) scope.names []) (bindC (envOfC qual scope s.heap.objs.size f cd).kindOf (ps.zip us) λ_=>none) s1) :
  Inv (im CX P w K mg base N qual scope f cd A outer s H E) [] (start N vs) H s1:=by
 have hpl:ps.length<=N.length:=by have:=congrArg List.length S.pre;rw [length_take] at this;omega
 obtain⟨h1,tk,rfl,hk⟩:=x.done;have noA:∀b:Addr,b∉(im CX P w K mg base N qual scope f cd A outer s H E).ex:=λb z=>absurd (show b∈([]:List Addr) from z) (by simp)
 refine⟨⟨e0.mod,S.kind,rfl,rfl,o_ _,λy z c h1 h2=>?_,λy hy=>?_,λy c _ h=>?_,λ_=>hd,Around.frames_deeper e0.frames,.inr ⟨rfl,rfl⟩,λb z=>absurd z (noA b),e0.bs,e0.bsz,λb _ _=>noA b,λb z=>absurd z (noA b),e0.funs,e0.frf,e0.tb⟩,
  rfl,e0.bare,Un.kept hk,⟨_,x.toInCall.ns,λi y v h1 h2 h3=>?_⟩,λy c h=>⟨_,x.cell y c h⟩,e0.hok.fresh (o_ _),λy c h=>?_,λp hp=>absurd (show p∈([]:List (Addr×Obj)) from hp) (by simp),e0.hok.kept hk,?_⟩
 .exact name_of_addr x.apart (AU h1) (AU h2)
 .have hy:scope.names.lookup y=some .cell\/scope.names.lookup y=some .free:=hy
  rcases hy with hy|hy
  .exact lE hy
  .exact absurd rfl (S.nofree _ (AU hy))
 .exact le_of_lt (x.above y c (AU h))
 .have hi:i<vs.length:=by
   unfold start at h2
   by_cases hi:i<vs.length
   .exact hi
   .rw [AF (by simpa using hi)] at h2;rw [getElem?_replicate] at h2;split at h2 <;> cases h2
  have ha:vs[i]?=some v:=by
   unfold start at h2;rw [Aa (by simpa using hi),so] at h2
   cases e:vs[i]? with
   | none=>rw [e] at h2;cases h2
   | some a=>rw [e] at h2;cases h2;rfl
  obtain⟨u,hu,rv⟩:=r.get ha
  have hp:ps[i]?=some y:=by
   rw [<- S.pre,getElem?_take_of_lt (by omega)];exact h1
  have ndP:ps.Nodup:=by rw [<- S.pre];exact S.nd.sublist (take_sublist _ _)
  refine⟨u,rv,?_⟩
  rcases S.par y (Ae hp) with k|k
  .exact .inl ⟨k,jm ndP hp hu k⟩
  .obtain⟨c,e⟩:=lE (n:=s.heap.objs.size+1) k;refine .inr ⟨.inl k,c,e,?_⟩;have q:=x.cell y c e;rw [jn ndP hp hu (by show scope.names.lookup y≠_;rw [k];decide)] at q;exact q
 .exact e0.hok.fresh (le_of_lt (x.above y c (AU h)))
 .unfold start;show _=N.length;rw [length_append,length_map,length_replicate];omega
def uZ{CX:CXT}{P:m_}{w:World}{K:b_}{mg:Str->Option Value}{base:Heap}{k:Nat}{f:Addr}{name qual:Str}{params:Arguments}{body:List Stmt}{scope:Scope}{dV kV doc pm cdv ct oc:Value}{an od:Option Addr}
  {osl:Array (Option Value)}{N ps:List Str}{sp:Sp} (lk:K.lookup f=some ⟨oc,od,.func (zO name qual params body scope dV kV doc pm an cdv ct),osl⟩) (hcd:AD K cdv qual=true) (S:aA N ps scope)
  (len:∀vs H Q E,sp vs H Q E->vs.length=ps.length)
  (hbody:∀(A:v_) (outer:List Env) (s:c_) (H:Hp) (vs:List V) (Q:VK) (E:XK),cP k (A.deeper (envOfC qual scope s.heap.objs.size f cdv))->sp vs H Q E ->
   ∃t,PSs (im CX P w K mg base N qual scope f cdv A outer s H E) body t/\t { nx:=λ_ H'=>Q .non H',rt:=Q } (start N vs) H) :
  kz P w K mg base CX (k+1) f (zO name qual params body scope dV kV doc pm an cdv ct) ps sp:=by
 refine⟨len,λA outer s H args us vs Q E hr e0 hb r hsp=>?_⟩;have hl:=len _ _ _ _ hsp;have KX:K.In s.heap:=e0.mod.kin.keeps λb o e=>(e0.bs b o e).1;have lim:s.heap.NoLimit:=e0.mod.nolimit.keeps λb o e=>(e0.bs b o e).1
 have hkind:∀y∈ps.zip us,scope.names.lookup y.1=some .local\/(scope.names.lookup y.1=some .cell/\((cellsFrom (s.heap.objs.size+1) scope.names []).lookup y.1).isSome=true):=λ⟨n,v⟩ hy=>by
  rcases S.par n (of_mem_zip hy).1 with q|q
  .exact .inl q
  .exact .inr ⟨q,Ay _ _ _ (.inl q)⟩
 refine codeAny_call_function hr.depth (KX _ _ lk) rfl S.co S.gen rfl (PySem.W.codeRec_of KX hcd) (hb _ _ _ _ ?_);refine B8 S.kind hkind λenv he s1 x=>?_;subst he;refine⟨lim.keeps x.toInCall.keep,codeAny_func ?_⟩;obtain⟨t,ht,hq⟩:=hbody A outer s H vs Q E (hr.deeper _) hsp;have I:Inv (im CX P w K mg base N qual scope f cdv A outer s H E) [] (start N vs) H s1:=jo S hr.hd e0 hl r x
 refine zG (ht [] s1 (start N vs) H _ I hq) (λfl s' hs=>?_) λe s' hs=>hs
 have fin:∀{σ':St}{H':Hp}{v:V}{u:Value},Inv (im CX P w K mg base N qual scope f cdv A outer s H E) [] σ' H' s'->bz v u->Q v H'->CE outer P w H s Q u s' :=
  λ{σ' H' v u} J rv q=>⟨v,H',J.os,J.bare,J.base,J.hok,rv,q⟩
 cases fl with
 | ret u =>
  obtain⟨v,σ',H',J,rv,q⟩:=hs;exact fin J rv q
 | next =>
  obtain⟨σ',H',J,q⟩:=hs;exact fin (v:=V.non) (u:=Ah) J rfl q
 | brk =>
  obtain⟨_,_,_,q⟩:=hs;exact zQ q
 | cont =>
  obtain⟨_,_,_,q⟩:=hs;exact zQ q
section
variable {X:Cx}{x:Str}{p pos:Pos}{e:Expr}{es:List Expr}{t:TA}{id T:String}{r:List V->Hp->VK->Prop}
noncomputable def tCB(r:List V->Hp->VK->Prop)(t:TA):TE:=λσ H Q=>t σ H λvs H1=>r vs H1 Q
def qb(hc:a6 X (.builtin id) r)(hg:Gl X x)(hm:X.mg x=none)(hv:bootBuiltins x=some (.builtin id))(ha:PA X (e::es) t)(hn:x≠"__name__":=by decide)(hdb:(x == ("__debug__":Str))=false:=by decide)
  (he:starEach (e::es) X.env=(false,eval e X.env)::starEach es X.env:=by rfl) (hpl:(backTo pos (starEach es X.env)).any (·.1)=false:=by rfl):PE X (.Call (.Name x p) (e::es) [] pos) (tCB r t):=by
 intro pins s σ H Q I h;refine AC (fi I hg hm hv ?_ hn hdb);exact PyProof.Rows.callWith_builtin1 (thn (ha pos pins s σ H _ I h) λus s1 ⟨vs,H1,I1,r1,q1⟩=>hc pins s1 σ H1 vs us Q I1 r1 q1) he hpl
def nu(hc:a6 X (.type T) r)(hg:Gl X x)(hm:X.mg x=none)(hv:bootBuiltins x=some (.type T))(ha:PA X (e::es) t)(hn:x≠"__name__":=by decide)(hdb:(x == ("__debug__":Str))=false:=by decide)
  (he:starEach (e::es) X.env=(false,eval e X.env)::starEach es X.env:=by rfl) (hpl:(backTo pos (starEach es X.env)).any (·.1)=false:=by rfl):PE X (.Call (.Name x p) (e::es) [] pos) (tCB r t):=by
 intro pins s σ H Q I h;refine AC (fi I hg hm hv ?_ hn hdb);exact zU (thn (ha pos pins s σ H _ I h) λus s1 ⟨vs,H1,I1,r1,q1⟩=>hc pins s1 σ H1 vs us Q I1 r1 q1) he hpl
end
end L2
namespace HT
open PySem PyProof.Rows
section
open PySem.SeqAt
open PySem.AutoSeq1 (wpAny_loadPart')
open PySem.MeetsSeq PySem.MeetsSeq2 PySem.MeetsSeq3
end
section
variable {prog:m_}{w:World}{A:v_}{E:Value->c_->Prop}{s:c_}
def cat_tup{t b:Addr}{vs ws:List Value}{Q:Value->c_->Prop}(ht:IsTup s.heap t vs.toArray)(hb:IsTup s.heap b ws.toArray)(hv:vs≠[])
  (h1:ws=[]->Q (.ref t) s) (h2:ws≠[]->Q (.ref s.heap.objs.size) { s with heap:=s.heap.push { cls:=.type "tuple",data:=.seq (vs++ws).toArray } })
  (hsz:vs.length+ws.length<=sizeLine):wpAny (model prog w) A (binaryOp .Add (.ref t) (.ref b)) Q E s:=by
 obtain⟨⟨cls,dd,data,sl⟩,ho,hc,n,hd⟩:=id ht;obtain⟨⟨cls2,dd2,data2,sl2⟩,ho2,hc2,n2,hd2⟩:=id hb;simp only at hc hd hc2 hd2;subst hc hd hc2 hd2;have e:vs.toArray++ws.toArray=(vs++ws).toArray:=by simp
 by_cases hw:ws=[]
 .exact CD ⟨_,ho,rfl⟩ ⟨_,ho2,rfl⟩ Cs seq_tuple_add Bu Bp (Bi _ _)
   (tuple_addW1 t b vs.toArray ws.toArray n n2 dd dd2 sl sl2 (by simpa using hv) (by simp [hw])) ⟨ho,ho2,h1 hw⟩
 .refine CD ⟨_,ho,rfl⟩ ⟨_,ho2,rfl⟩ Cs seq_tuple_add Bu Bp (Bi _ _)
   (tuple_addW2 t b vs.toArray ws.toArray n n2 dd dd2 sl sl2 (by simpa using hv) (by simpa using hw) (by rw [size_toArray,size_toArray];exact hsz)) ⟨ho,ho2,?_⟩
  rw [e];exact h2 hw
noncomputable def sIx(n d:Nat):Option Int->Nat
 | none=>d
 | some v=>if v<0 then (v+(n:Int)).toNat else min v.toNat n
def sIx_nat(n d k:Nat):sIx n d (some (k:Int))=min k n:=by
 show (if (k:Int)<0 then ((k:Int)+(n:Int)).toNat else min (k:Int).toNat n)=min k n;rw [if_neg (by omega),zK]
def sIx_le(n d:Nat)(hd:d<=n)(o:Option Int):sIx n d o<=n:=by
 cases o with
 | none=>exact hd
 | some v =>
  show (if v<0 then (v+(n:Int)).toNat else min v.toNat n)<=n
  by_cases hv:v<0
  .rw [if_pos hv];omega
  .rw [if_neg hv];exact min_le_right _ _
def clip_eq(v:Int)(n d:Nat):(if v<0 then max (v+(n:Int)) 0 else min v (n:Int))=((sIx n d (some v):Nat):Int):=by
 show (if v<0 then max (v+(n:Int)) 0 else min v (n:Int))=(((if v<0 then (v+(n:Int)).toNat else min v.toNat n):Nat):Int)
 by_cases hv:v<0
 .simp only [if_pos hv];omega
 .simp only [if_neg hv];omega
def md(lo hi:Option Int)(n:Nat):Bg lo hi 1 (n:Int)=(((sIx n 0 lo:Nat):Int),((sIx n n hi:Nat):Int)):=by
 have h1:¬ ((1:Int)<0):=by omega
 unfold Bg;simp only [h1,if_false]
 refine Prod.ext ?_ ?_
 .cases lo with
  | none=>rfl
  | some v=>exact clip_eq v n 0
 .cases hi with
  | none=>rfl
  | some v=>exact clip_eq v n n
def me(i j:Nat):AG (i:Int) (j:Int) 1=j - i:=by
 unfold AG;have h1:(1:Int) > 0:=by omega
 simp only [h1,if_true,ediv_one];split <;> omega
def io{v:Value}{o:Option Int}{Q:Option Int->c_->Prop}(p:CF v o)(h:Q o s):wpAny (model prog w) A (Builtin.Slice.slicePartIndex v) Q E s:=by
 cases p with
 | none=>exact slicePart_none h
 | int i t=>exact slicePart_int h
def cH{sl:Addr}{vl vu:Value}{lo hi:Option Int}{n:Nat}{Q:Int×Int×Nat->c_->Prop}(hs:s.heap.IsSliceOf sl vl vu .none)(pl:CF vl lo)(pu:CF vu hi)
  (h:Q (((sIx n 0 lo:Nat):Int),1,sIx n n hi - sIx n 0 lo) s):wpAny (model prog w) A (B9 (.ref sl) (pure (n:Int))) Q E s:=by
 obtain⟨os,hos,hcs,hds⟩:=id hs;unfold B9 Builtin.Slice.sliceFields;refine cy (cy (A_ hos hds (x:=vl) rfl (cy (A_ hos hds (x:=vu) rfl (cy (A_ hos hds (x:=.none) rfl (f_ ?_)))))));refine cy (slicePart_none ?_);show wpAny _ _ (if ((1:Int) == 0)=true then _ else _) _ _ s;rw [if_neg (by decide)];refine cy (io pl (cy (io pu (cy (f_ ?_)))))
 show wpAny _ _ (match Bg lo hi 1 (n:Int) with|(lo,hi)=>pure (lo,(1:Int),AG lo hi 1)) _ _ s;rw [md lo hi n];show wpAny _ _ (pure (((sIx n 0 lo:Nat):Int),(1:Int),AG ((sIx n 0 lo:Nat):Int) ((sIx n n hi:Nat):Int) 1)) _ _ s;rw [me];exact f_ h
def qc(xs:Array Value)(i k:Nat):((p_ k).filterMap λ(m:Nat)=>xs[((i:Int)+(m:Int)*1).toNat]?).toArray=((xs.toList.drop i).take k).toArray:=by
 have e:(λ(m:Nat)=>xs[((i:Int)+(m:Int)*1).toNat]?)=λm=>xs[i+m]?:=by
  funext m;have:((i:Int)+(m:Int)*1).toNat=i+m:=by omega
  rw [this]
 rw [e];have:=pick_run xs i k;rw [filterMap_map] at this;have e2:((λx=>xs[x]?) ∘ λx=>i+x)=λm=>xs[i+m]?:=rfl;rw [e2] at this;rw [this]
def getItem_tuple_cut{t sl:Addr}{items:Array Value}{vl vu:Value}{lo hi:Option Int}{Q:Value->c_->Prop}(ht:IsTup s.heap t items)(hs:s.heap.IsSliceOf sl vl vu .none)(pl:CF vl lo)(pu:CF vu hi)
  (hw:¬ (sIx items.size 0 lo=0/\sIx items.size items.size hi=items.size))
  (h:Q (.ref s.heap.objs.size) { s with heap:=s.heap.push { cls:=.type "tuple",data:=.seq ((items.toList.drop (sIx items.size 0 lo)).take (sIx items.size items.size hi - sIx items.size 0 lo)).toArray } })
  (hsz:items.size<=sizeLine):wpAny (model prog w) A (getItem (.ref t) (.ref sl)) Q E s:=by
 have htake:sizeOk (.seq ((items.toList.drop (sIx items.size 0 lo)).take (sIx items.size items.size hi - sIx items.size 0 lo)).toArray):=by
  show ((items.toList.drop (sIx items.size 0 lo)).take (sIx items.size items.size hi - sIx items.size 0 lo)).toArray.size<=sizeLine;rw [size_toArray,length_take,length_drop,BO];omega
 have hj:sIx items.size items.size hi<=items.size:=sIx_le _ _ (o_ _) hi;obtain⟨os,hos,hcs,hds⟩:=id hs;have hTs:s.TypeIs (.ref sl) "slice":=⟨os,hos,hcs⟩
 unfold getItem
 try with_reducible refine zR ?_
 first|refine cy (f_ ?_)|skip
 refine cy (wpAny_sequenceKey ht.typeIs (by decide) ?_)
 refine cy (wpAny_callSpecial?_slot (name:=Str.ofString "__getitem__") ht.typeIs zN
  (Ct zN ht.typeIs entry_tuple_getitem ?_ (args_tuple_getitem _ _)))
 show wpAny _ _ (B_ (.ref t) >>= _) _ _ s;refine cy (tupleItemsOf_ ht ?_);refine cy (BV hTs ?_);rw [if_pos (by decide)];refine cy (cH hs pl pu ?_)
 have hno:¬ ((((sIx items.size 0 lo:Nat):Int) == 0 && (1:Int) == 1 && (sIx items.size items.size hi - sIx items.size 0 lo) == items.size)=true):=by
  intro q;rw [and_eq_true,and_eq_true] at q;have q1:((sIx items.size 0 lo:Nat):Int)=0:=eq_of_beq q.1.1;have q2:sIx items.size items.size hi - sIx items.size 0 lo=items.size:=eq_of_beq q.2;exact hw ⟨by omega,by omega⟩
 show wpAny _ _ (if (((sIx items.size 0 lo:Nat):Int) == 0 && (1:Int) == 1 && (sIx items.size items.size hi - sIx items.size 0 lo) == items.size)=true then _ else _) _ _ s;rw [if_neg hno,qc]
 first
  | exact cy (m:=AO _) (Ap (f_ ⟨_,rfl,f_ h⟩) htake)
  | exact cy (m:=AO _) (Ap (cy (f_ (f_ ⟨_,rfl,f_ h⟩))) htake)
  | exact cy (cy (m:=AO _) (Ap (f_ (f_ ⟨_,rfl,f_ h⟩)) htake))
  | exact cy (cy (m:=AO _) (Ap (f_ ⟨_,rfl,f_ h⟩) htake))
end
end HT
namespace L2
open PySem PySem.Spec PyProof.Rows
abbrev TO:=St->Hp->(Option Int->Hp->Prop)->Prop
noncomputable def PO(X:Cx)(e:Option Expr)(t:TO):Prop :=
 ∀(pins:List (Addr×Obj)) (s:c_) (σ:St) (H:Hp) (Q:Option Int->Hp->Prop),Inv X pins σ H s->t σ H Q ->
  wpAny (model X.prog X.w) X.A (evalPart e X.env) (λu s'=>∃o H',Inv X pins σ H' s'/\CF u o/\Q o H') X.xe s
def nv:TO:=λ_ H Q=>Q none H
noncomputable def u0(t:TE):TO:=λσ H Q=>t σ H λx H1=>∃i,x=.int i/\Q (some i) H1
def ip{ns:List Int}:∀{us:List Value},aX (ns.map V.int) us->IntsAre us ns:=by
 induction ns with
 | nil=>intro us r;rw [map_nil] at r;cases r;exact .nil
 | cons n ns ih =>
  intro us r;rw [map_cons] at r
  cases r with
  | cons r1 r2 =>
   obtain⟨t,e⟩:=r1;subst e;exact .cons n t (ih r2)
section
variable {X:Cx}{e:Expr}{te:TE}{lo hi:Option Expr}{tl th:TO}{pos p2:Pos}
def eT:PO X none nv:=by
 intro pins s σ H Q I h;rw [evalPart_none];exact f_ ⟨none,H,I,.none,h⟩
def eU(h:PE X e te):PO X (some e) (u0 te):=by
 intro pins s σ H Q I hw;rw [evalPart_some];refine thn (h pins s σ H _ I hw) λu s1 ⟨x,H1,I1,r1,q1⟩=>?_;obtain⟨i,rfl,q⟩:=q1;obtain⟨t,rfl⟩:=r1;exact⟨some i,H1,I1,.int i t,q⟩
noncomputable def SlR(X:Cx)(r:V->Option Int->Option Int->Hp->VK->Prop):Prop :=
 ∀(pins:List (Addr×Obj)) (s:c_) (σ:St) (H:Hp) (x:V) (v vl vu:Value) (lo hi:Option Int) (sl:Addr) (Q:VK),Inv X pins σ H s->bz x v->s.heap.IsSliceOf sl vl vu .none->CF vl lo->CF vu hi->r x lo hi H Q ->
  ∃T id,typeLookup (.type T) "__getitem__"=pure (some (.builtin id))/\s.TypeIs v T/\wpAny (model X.prog X.w) X.A (getItem v (.ref sl)) (EP X pins σ Q) X.xe s
def SlR.or{r r':V->Option Int->Option Int->Hp->VK->Prop}(h:SlR X r)(h':SlR X r'):SlR X (λx lo hi H Q=>r x lo hi H Q\/r' x lo hi H Q):=by
 intro pins s σ H x v vl vu lo hi sl Q I rx hs pl pu q
 rcases q with q|q
 .exact h pins s σ H x v vl vu lo hi sl Q I rx hs pl pu q
 .exact h' pins s σ H x v vl vu lo hi sl Q I rx hs pl pu q
noncomputable def tSl(r:V->Option Int->Option Int->Hp->VK->Prop)(te:TE)(tl th:TO):TE:=λσ H Q=>te σ H λx H1=>tl σ H1 λl H2=>th σ H2 λu H3=>r x l u H3 Q
def dq{r:V->Option Int->Option Int->Hp->VK->Prop}(hr:SlR X r)(he:PE X e te)(hl:PO X lo tl)(hu:PO X hi th):PE X (.Subscript e (.Slice lo hi none p2) pos) (tSl r te tl th):=by
 intro pins s σ H Q I h;refine Subscript_ (thn (he pins s σ H _ I h) λv s1 ⟨x,H1,I1,r1,q1⟩=>?_);refine wpAny_Slice (thn (hl pins s1 σ H1 _ I1 q1) λvl s2 ⟨l,H2,I2,pl,q2⟩=>thn (hu pins s2 σ H2 _ I2 q2) λvu s3 ⟨u,H3,I3,pu,q3⟩=>?_);rw [evalPart_none];refine f_ ?_;have I4:Inv X pins σ H3 { s3 with heap:=s3.heap.push { cls:=.type "slice",data:=.fields #[vl,vu,.none] } }:=I3.kept (t':=s3.toks) λb ob q=>e_ _ q
 obtain⟨T,id,hT,ht,hg⟩:=hr pins { s3 with heap:=s3.heap.push { cls:=.type "slice",data:=.fields #[vl,vu,.none] } } σ H3 x v vl vu l u s3.heap.objs.size Q I4 r1 (Heap.IsSliceOf.new ..) pl pu q3;show wpAny (model X.prog X.w) X.A (subscriptTail e (.Slice lo hi none p2) v (.ref s3.heap.objs.size)) (EP X pins σ Q) X.xe { s3 with heap:=s3.heap.push { cls:=.type "slice",data:=.fields #[vl,vu,.none] } };exact tail_any (ops:=[.ref s3.heap.objs.size,v]) ht hT hg (by with_unfolding_all rfl)
noncomputable def sH(xs:List V)(lo hi:Option Int):List V:=(xs.drop (HT.sIx xs.length 0 lo)).take (HT.sIx xs.length xs.length hi - HT.sIx xs.length 0 lo)
def gc(xs:List V)(lo hi:Option Int):(sH xs lo hi).length<=xs.length:=by
 unfold sH;rw [length_take,length_drop];omega
noncomputable def yy(K:b_):V->Option Int->Option Int->Hp->VK->Prop:=λx lo hi H Q=>∃a xs,x=.ref a/\SqT K H a xs /\
 ¬ (HT.sIx xs.length 0 lo=0/\HT.sIx xs.length xs.length hi=xs.length)/\∀p,H p=none->Q (.ref p) (upd H p (.tup (sH xs lo hi)))
def u4:SlR X (yy X.K):=by
 intro pins s σ H x v vl vu lo hi sl Q I rx hs pl pu h;obtain⟨a,xs,rfl,hx,hw,q⟩:=h;cases rx;obtain⟨its,r,ht,hz⟩:=I.tuple hx;have hlen:its.toArray.size=xs.length:=by rw [size_toArray];exact r.length.symm
 refine⟨"tuple",_,zN.lookup,ht.typeIs,?_⟩;refine HT.getItem_tuple_cut ht hs pl pu (by rw [hlen];exact hw) ?_ (by rw [hlen];exact hz);rw [hlen];refine⟨.ref s.heap.objs.size,_,I.laid (t':=s.toks) (o:=.tup (sH xs lo hi)) (λb ob q=>e_ _ q) (o_ _) ?_,rfl,q _ (I.hok.fresh (o_ _))⟩;exact⟨Af (gc xs lo hi) hz,_,(r.drop (HT.sIx xs.length 0 lo)).take (HT.sIx xs.length xs.length hi - HT.sIx xs.length 0 lo),IsTup.new _ _⟩
noncomputable def u8(K:b_):R2:=λx y H Q=>∃a b xs ys,x=.ref a/\y=.ref b/\SqT K H a xs/\SqT K H b ys/\xs≠[]/\xs.length+ys.length<=sizeLine /\
 (ys=[]->Q (.ref a) H)/\(ys≠[]->∀p,H p=none->Q (.ref p) (upd H p (.tup (xs++ys))))
def aX.nil_iff{xs:List V}{us:List Value}(r:aX xs us):us=[] ↔ xs=[]:=by
 cases r with
 | nil=>simp
 | cons _ _=>simp
def sI:OpR X (binaryOp .Add) (u8 X.K):=by
 intro pins s σ H x y v u Q I rx ry h;obtain⟨a,b,xs,ys,rfl,rfl,ha,hb,hx,hz,q1,q2⟩:=h;cases rx;cases ry;obtain⟨its,r1,p1,_⟩:=I.tuple ha;obtain⟨its2,r2,p2,_⟩:=I.tuple hb;refine HT.cat_tup p1 p2 (λz=>hx (r1.nil_iff.mp z)) (λz=>⟨.ref a,H,I,rfl,q1 (r2.nil_iff.mp z)⟩) (λz=>?_) (by rw [<- r1.length,<- r2.length];exact hz);refine⟨.ref s.heap.objs.size,_,I.laid (t':=s.toks) (o:=.tup (xs++ys)) (λb ob q=>e_ _ q) (o_ _) ?_,rfl,q2 (λw=>z (r2.nil_iff.mpr w)) _ (I.hok.fresh (o_ _))⟩
 exact⟨by rw [length_append];exact hz,_,r1.append r2,IsTup.new _ _⟩
end
noncomputable def ixN(n:Nat)(i:Int):Option Nat:=if 0<=i then (if i<n then some i.toNat else none) else if -(n:Int)<=i then some (i+n).toNat else none
noncomputable def atI{α:Type}(xs:List α)(i:Int):Option α:=(ixN xs.length i).bind λj=>xs[j]?
def nz{n:Nat}{i:Int}{j:Nat}(h:ixN n i=some j):seqIndex? i n=some j/\j<n/\-(n:Int)<=i/\i<n:=by
 unfold ixN at h
 by_cases h0:0<=i
 .rw [if_pos h0] at h
  by_cases h1:i<n
  .rw [if_pos h1] at h;have e:i.toNat=j:=zE h;exact⟨by rw [seqIndex_of h0 h1,e],by omega,by omega,h1⟩
  .rw [if_neg h1] at h;cases h
 .rw [if_neg h0] at h
  by_cases h1:-(n:Int)<=i
  .rw [if_pos h1] at h;have e:(i+n).toNat=j:=zE h;exact⟨by rw [seqIndex_neg (by omega) h1,e],by omega,h1,by omega⟩
  .rw [if_neg h1] at h;cases h
def kA{α:Type}{xs:List α}{i:Int}{v:α}(h:atI xs i=some v):∃j,seqIndex? i xs.length=some j/\xs[j]?=some v/\j<xs.length/\-(xs.length:Int)<=i/\i<xs.length:=by
 unfold atI at h
 cases e:ixN xs.length i with
 | none=>rw [e] at h;cases h
 | some j =>
  rw [e] at h;obtain⟨h1,h2,h3,h4⟩:=nz e;exact⟨j,h1,h,h2,h3,h4⟩
noncomputable def sJ(b:Expr):Prop:=∀o i,subscripted b false o i=operate [o,i] (getItem o i)
noncomputable def IxR(X:Cx)(r:R2):Prop :=
 ∀(value slice:Expr) (pins:List (Addr×Obj)) (s:c_) (σ:St) (H:Hp) (x y:V) (v u:Value) (Q:VK),Inv X pins σ H s->bz x v->bz y u->r x y H Q ->
  subscripted slice false v u=operate [v,u] (getItem v u)->wpAny (model X.prog X.w) X.A (subscriptTail value slice v u) (EP X pins σ Q) X.xe s
noncomputable def MtR(X:Cx)(id:String)(r:V->List V->Hp->VK->Prop):Prop :=
 ∀(pins:List (Addr×Obj)) (s:c_) (σ:St) (H:Hp) (x:V) (xs:List V) (v:Value) (us:List Value) (Q:VK),Inv X pins σ H s->bz x v->aX xs us->r x xs H Q ->
  wpAny (model X.prog X.w) X.A (call (.builtin id) (v::us)) (EP X pins σ Q) X.xe s
section
variable {X:Cx}{a b:Expr}{ta tb:TE}{pos:Pos}
def IxR.or{r r':R2}(h:IxR X r)(h':IxR X r'):IxR X (λx y H Q=>r x y H Q\/r' x y H Q):=by
 intro value slice pins s σ H x y v u Q I rx ry q hs
 rcases q with q|q
 .exact h value slice pins s σ H x y v u Q I rx ry q hs
 .exact h' value slice pins s σ H x y v u Q I rx ry q hs
def cg{r:R2}(hr:IxR X r)(ha:PE X a ta)(hb:PE X b tb)(hs:sJ b):PE X (.Subscript a b pos) (tOp r ta tb):=by
 intro pins s σ H Q I h;exact Subscript_ (wY ha hb I h λv u s2 x y H2 I2 rx ry q=>hr a b pins s2 σ H2 x y v u Q I2 rx ry q (hs _ _))
noncomputable def yz(K:b_):R2:=λx y H Q=>∃p xs i v,x=.ref p/\y=.int i/\SqL K H p xs/\atI xs i=some v/\Q v H
noncomputable def yA(K:b_):R2:=λx y H Q=>∃p xs i v,x=.ref p/\y=.int i/\SqT K H p xs/\atI xs i=some v/\Q v H
noncomputable def zd:R2:=λx y H Q=>∃z i c,x=.str z/\y=.int i/\z.length<=sizeLine/\atI z.cps.toList i=some c/\Q (.str ⟨#[c]⟩) H
def sK:IxR X (yz X.K):=by
 intro value slice pins s σ H x y v u Q I rx ry h hs;obtain⟨p,xs,i,z,rfl,rfl,hq,he,q⟩:=h;cases rx;obtain⟨t,rfl⟩:=ry;obtain⟨its,r,pl,hz⟩:=I.list hq;obtain⟨j,h1,h2,h3,h4,h5⟩:=kA he;obtain⟨w,ew,rw'⟩:=r.get h2;have hl:=r.length;have hn:=il;have fin:EP X pins σ Q w s:=⟨z,H,I,rw',q⟩
 by_cases h0:0<=i
 .have hj:i.toNat=j:=by
   rw [seqIndex_of h0 h5] at h1;exact zE h1
  exact item_listR pl.isList h0 (by omega) (by rw [hj];simpa using ew) fin hs
 .have hj:(i+(its.toArray.size:Int)).toNat=j:=by
   rw [seqIndex_neg (by omega) h4] at h1;rw [size_toArray,<- hl];exact zE h1
  exact subscriptTail_builtinR (x:=w) pl.isList.typeIs slot_list_getitem.lookup
   (wpAny_getItem_list_neg (Q:=λr s'=>r=w/\EP X pins σ Q r s') pl.isList (by omega) (by rw [size_toArray] <;> omega) (by omega) (by rw [hj];simpa using ew) ⟨rfl,fin⟩) hs
def u9:IxR X (yA X.K):=by
 intro value slice pins s σ H x y v u Q I rx ry h hs;obtain⟨p,xs,i,z,rfl,rfl,hq,he,q⟩:=h;cases rx;obtain⟨t,rfl⟩:=ry;obtain⟨its,r,pl,hz⟩:=I.tuple hq;obtain⟨j,h1,h2,h3,h4,h5⟩:=kA he;obtain⟨w,ew,rw'⟩:=r.get h2;have hl:=r.length;have hn:=il;have fin:EP X pins σ Q w s:=⟨z,H,I,rw',q⟩
 exact subscriptTail_builtinR (x:=w) pl.typeIs slot_tuple_getitem.lookup
  (getItem_tuple (j:=j) (Q:=λr s'=>r=w/\EP X pins σ Q r s') pl (by omega) (by omega) (by rw [size_toArray,<- hl];exact h1) (by simpa using ew) ⟨rfl,fin⟩) hs
def va:IxR X zd:=by
 intro value slice pins s σ H x y v u Q I rx ry h hs;obtain⟨z,i,c,rfl,rfl,hz,he,q⟩:=h;obtain⟨t,rfl⟩:=rx;obtain⟨t',rfl⟩:=ry;obtain⟨j,h1,h2,h3,h4,h5⟩:=kA he;have hl:z.cps.toList.length=z.length:=by simp [Str.length]
 rw [hl] at h1 h4 h5;have hn:=il
 exact tail_any (typeIs_str s z t) slot_str_getitem.lookup (getItem_str (c:=c) (by
  have e1:decide (i < -(2^63:Int))=false:=decide_eq_false (by omega);have e2:decide (i >= 2^63)=false:=decide_eq_false (by omega);rw [e1,e2,Cn]) (by rw [h1];simpa using h2) ⟨.str ⟨#[c]⟩,H,I.tok _,⟨_,rfl⟩,q⟩) hs
def jp(lo hi:Option Int)(n:Nat):(sliceBounds lo hi none n).1=((HT.sIx n 0 lo:Nat):Int)/\(sliceBounds lo hi none n).2.1=((HT.sIx n n hi:Nat):Int)/\(sliceBounds lo hi none n).2.2=1:=by
 refine⟨?_,?_,rfl⟩
 .cases lo with
  | none=>simp [sliceBounds,HT.sIx]
  | some i =>
   simp only [sliceBounds,HT.sIx,Option.getD_none,show (1:Int) > 0 by decide,if_true]
   by_cases h:i<0
   .simp only [h,if_true] <;> omega
   .simp only [h,if_false] <;> omega
 .cases hi with
  | none=>simp [sliceBounds,HT.sIx]
  | some i =>
   simp only [sliceBounds,HT.sIx,Option.getD_none,show (1:Int) > 0 by decide,if_true]
   by_cases h:i<0
   .simp only [h,if_true] <;> omega
   .simp only [h,if_false] <;> omega
def iG(its:List Value)(lo hi:Option Int):slicePick its.toArray lo hi none=((its.drop (HT.sIx its.length 0 lo)).take (HT.sIx its.length its.length hi - HT.sIx its.length 0 lo)).toArray:=by
 obtain⟨h1,h2,h3⟩:=jp lo hi its.toArray.size;unfold slicePick;rw [h1,h2,h3];simp only [sliceRange_one,pick_run,size_toArray] <;> rfl
noncomputable def yB(K:b_):V->Option Int->Option Int->Hp->VK->Prop:=λx lo hi H Q=>∃a xs,x=.ref a/\SqL K H a xs/\∀p,H p=none->Q (.ref p) (upd H p (.lst (sH xs lo hi)))
def sL:SlR X (yB X.K):=by
 intro pins s σ H x v vl vu lo hi sl Q I rx hs pl pu h;obtain⟨a,xs,rfl,hx,q⟩:=h;cases rx;obtain⟨its,r,ht,hz⟩:=I.list hx;have hlen:=r.length;refine⟨"list",_,slot_list_getitem.lookup,ht.isList.typeIs,?_⟩;refine wpAny_getItem_list_slice ht.isList hs pl pu .none (by simp) ?_ (by rw [size_toArray] <;> omega);rw [iG,<- hlen];refine⟨.ref s.heap.objs.size,_,I.laid (t':=s.toks) (o:=.lst (sH xs lo hi)) (λb ob q=>e_ _ q) (o_ _) ?_,rfl,q _ (I.hok.fresh (o_ _))⟩
 exact⟨Af (gc xs lo hi) hz,_,0,(r.drop (HT.sIx xs.length 0 lo)).take (HT.sIx xs.length xs.length hi - HT.sIx xs.length 0 lo),q_ _ rfl⟩
def fj:a6 X (.builtin "len") (λxs H Q=>∃p ys,xs=[.ref p]/\(SqL X.K H p ys\/SqT X.K H p ys)/\Q (.int ys.length) H):=by
 intro pins s σ H xs us Q I r h;obtain⟨p,ys,rfl,hq,q⟩:=h;obtain⟨u,rfl,rx⟩:=gY r;cases rx;have hn:=il
 rcases hq with hq|hq
 .obtain⟨its,r',pl,hz⟩:=I.list hq;have hlen:=r'.length;exact Calls.call_len_list pl.isList (by simp only [size_toArray] <;> omega) ⟨.int ys.length,H,I.tok _,⟨s.toks+1,by rw [size_toArray,hlen]⟩,q⟩
 .obtain⟨its,r',pl,hz⟩:=I.tuple hq;have hlen:=r'.length;exact len_tuple pl (by simp only [size_toArray] <;> omega) ⟨.int ys.length,H,I.tok _,⟨s.toks+1,by rw [size_toArray,hlen]⟩,q⟩
def jq:a6 X (.builtin "len") (λxs H Q=>∃z,xs=[.str z]/\z.length<=sizeLine/\Q (.int z.length) H):=by
 intro pins s σ H xs us Q I r h;obtain⟨z,rfl,hz,q⟩:=h;obtain⟨u,rfl,t,rfl⟩:=gY r;have hn:=il;exact len_str (by omega) ⟨.int z.length,H,I.tok _,⟨_,rfl⟩,q⟩
def a6.or{f:Value}{r r':List V->Hp->VK->Prop}(h:a6 X f r)(h':a6 X f r'):a6 X f (λxs H Q=>r xs H Q\/r' xs H Q):=by
 intro pins s σ H xs us Q I rs q
 rcases q with q|q
 .exact h pins s σ H xs us Q I rs q
 .exact h' pins s σ H xs us Q I rs q
def jr:a6 X (.type "list") (λxs H Q=>∃p ys,xs=[.ref p]/\(SqL X.K H p ys\/SqT X.K H p ys)/\∀l,H l=none->Q (.ref l) (upd H l (.lst ys))):=by
 intro pins s σ H xs us Q I r h;obtain⟨p,ys,rfl,hq,q⟩:=h;obtain⟨u,rfl,rx⟩:=gY r;cases rx
 have fin:∀(its:List Value),aX ys its->ys.length<=sizeLine->∀(h':Heap) (c':Nat),(∀b o',s.heap.get? b=some o'->h'.get? b=some o') ->
   h'.get? s.heap.objs.size=some { cls:=.type "list",dict:=none,data:=.seq its.toArray c',slots:=#[] }->EP X pins σ Q (.ref s.heap.objs.size) { s with heap:=h' }:=λits r' hz h' c' kp e =>
  ⟨.ref s.heap.objs.size,_,I.laid (t':=s.toks) kp (o_ _) (show aO X.prog X.w _ h' _ (.lst ys) from ⟨hz,its,c',r',e⟩),rfl,q _ (I.hok.fresh (o_ _))⟩
 rcases hq with hq|hq
 .obtain⟨its,r',pl,hz⟩:=I.list hq;have hlen:=r'.length;obtain⟨o,ho,hc,n,hd⟩:=pl.isList;exact call_list_seq p (.inl rfl) ho hc hd (λh' c' kp e=>fin its r' hz h' c' kp e) (by simp only [size_toArray] <;> omega)
 .obtain⟨its,r',pl,hz⟩:=I.tuple hq;have hlen:=r'.length;obtain⟨o,ho,hc,n,hd⟩:=pl;exact call_list_seq p (.inr rfl) ho hc hd (λh' c' kp e=>fin its r' hz h' c' kp e) (by simp only [size_toArray] <;> omega)
def iH:a6 X (.type "tuple") (λxs H Q=>∃p ys,xs=[.ref p]/\((SqL X.K H p ys/\∀l,H l=none->Q (.ref l) (upd H l (.tup ys)))\/(SqT X.K H p ys/\Q (.ref p) H))):=by
 intro pins s σ H xs us Q I r h;obtain⟨p,ys,rfl,h⟩:=h;obtain⟨u,rfl,rx⟩:=gY r;cases rx
 rcases h with ⟨hq,q⟩|⟨hq,q⟩
 .obtain⟨its,r',pl,hz⟩:=I.list hq;have hlen:=r'.length;refine call_tuple_list pl.isList (λh' kp=>?_) (by simp only [size_toArray] <;> omega);have I1:Inv X pins σ H { s with heap:=h' }:=I.kept (t':=s.toks) kp
  have I2:Inv X pins σ (upd H h'.objs.size (.tup ys)) { s with heap:=h'.push { cls:=.type "tuple",data:=.seq its.toArray } } :=
   I1.laid (t':=s.toks) (λb o e=>e_ _ e) (o_ _) (show aO X.prog X.w _ _ _ (.tup ys) from ⟨hz,its,r',IsTup.new _ _⟩)
  exact⟨.ref h'.objs.size,_,I2,rfl,q _ (I1.hok.fresh (o_ _))⟩
 .obtain⟨its,r',pl,hz⟩:=I.tuple hq;exact call_tuple_same pl ⟨.ref p,H,I,rfl,q⟩
noncomputable def tyV(K:b_)(T:String)(x:V)(H:Hp):Prop:=match x with
 | .str _=>T="str"
 | .int _=>T="int"
 | .ref p=>(T="list"/\∃xs,SqL K H p xs)\/(T="tuple"/\∃o,K.lookup p=some o/\o.cls=.type "tuple"/\o.dict=none) \/
   (T="dict"/\((∃kvs,H p=some (.dK kvs))\/∃kvs,H p=some (.dT kvs)))\/(T="set"/\∃S n,H p=some (.set S n))
 | _=>False
def ro{pins:List (Addr×Obj)}{σ:St}{H:Hp}{s:c_}{T:String}{x:V}{v:Value}(I:Inv X pins σ H s)(r:bz x v)(ty:tyV X.K T x H) :
  s.TypeIs v T/\∀a,v=.ref a->∃ob,s.heap.get? a=some ob/\ob.dict=none:=by
 cases x with
 | str z =>
  obtain⟨t,rfl⟩:=r;cases (show T="str" from ty);exact⟨typeIs_str s z t,λ_ e=>nomatch e⟩
 | int i =>
  obtain⟨t,rfl⟩:=r;cases (show T="int" from ty);exact⟨typeIs_int s i t,λ_ e=>nomatch e⟩
 | ref p =>
  cases r
  rcases ty with ⟨rfl,xs,hq⟩|⟨rfl,o,hk,hc,hd⟩|⟨rfl,hk⟩|⟨rfl,S,n,hk⟩
  .obtain⟨its,_,pl,_⟩:=I.list hq;refine⟨pl.isList.typeIs,λa e=>?_⟩;cases e;obtain⟨o,n,e,c,hd,_⟩:=pl;exact⟨o,e,hd⟩
  .refine⟨⟨o,I.kIn p o hk,hc⟩,λa e=>?_⟩;cases e;exact⟨o,I.kIn _ o hk,hd⟩
  .have z:∃o,s.heap.get? p=some o/\o.ExactDict:=by
    rcases hk with ⟨kvs,hk⟩|⟨kvs,hk⟩
    .obtain⟨_,_,_,_,o,_,_,e,ex,_⟩:=I.hok p _ hk;exact⟨o,e,ex⟩
    .obtain⟨_,_,_,_,o,_,_,e,ex,_⟩:=I.hok p _ hk;exact⟨o,e,ex⟩
   obtain⟨o,e,ex⟩:=z;refine⟨⟨o,e,ex.1⟩,λa e2=>?_⟩;cases e2;exact⟨o,e,ex.2.1⟩
  .obtain⟨o,_,_,_,e,ex,_⟩:=I.hok p _ hk;refine⟨⟨o,e,ex.1⟩,λa e2=>?_⟩;cases e2;exact⟨o,e,ex.2.1⟩
 | _=>exact zQ ty
noncomputable def yC(K:b_)(T:String)(r:V->List V->Hp->VK->Prop)(to:TE):TE:=λσ H Q=>to σ H λx H1=>tyV K T x H1/\r x [] H1 Q
noncomputable def tBM(K:b_)(T:String)(r:V->List V->Hp->VK->Prop)(to:TE)(t:TA):TE:=λσ H Q=>to σ H λx H1=>tyV K T x H1/\t σ H1 λxs H2=>r x xs H2 Q
variable {o e:Expr}{es:List Expr}{to:TE}{t:TA}{name:Str}{apos cpos:Pos}{T id:String}{r:V->List V->Hp->VK->Prop}
def vb(pa:PlainAttrs T)(slot:Slot T name id)(hty:typeOf (.builtin id)=pure (.type "method_descriptor"))(hm:MtR X id r)(ho:PE X o to)
  (hbase:attributeBase o name X.env (eval o X.env)=eval o X.env:=by rfl) (hline:(apos.endLine == cpos.line)=true:=by rfl):PE X (.Call (.Attribute o name apos) [] [] cpos) (yC X.K T r to):=by
 intro pins s σ H Q I h;refine wpAny_Call_method0_late hbase hline (thn (ho pins s σ H _ I h) λv s1 ⟨x,H1,I1,r1,ty,q1⟩=>?_);obtain⟨h1,h2⟩:=ro I1 r1 ty;exact⟨T,id,pa,slot,hty,h1,h2,Calls.callWith_builtin rfl (PySem.evalArgs_none (hm pins s1 σ H1 x [] v [] Q I1 r1 .nil q1))⟩
def xj(pa:PlainAttrs T)(slot:Slot T name id)(hty:typeOf (.builtin id)=pure (.type "method_descriptor"))(hm:MtR X id r)(ho:PE X o to)(ha:PA X (e::es) t)
  (hbase:attributeBase o name X.env (eval o X.env)=eval o X.env:=by rfl)
  (hfew:((backTo cpos (starEach (e::es) X.env)).all (λx=>!x.1) && (backToKw cpos (keywordEach [] X.env)).all (λx=>x.1.isSome)
   && decide ((e::es).length+([]:List Keyword).length+(if ([]:List Keyword).isEmpty then 0 else 1)<30))=true:=by rfl)
  (hline:(apos.endLine == cpos.line)=true:=by rfl) (hs:starEach (e::es) X.env=(false,eval e X.env)::starEach es X.env:=by rfl) (hplain:(backTo cpos (starEach es X.env)).any (·.1)=false:=by rfl) :
  PE X (.Call (.Attribute o name apos) (e::es) [] cpos) (tBM X.K T r to t):=by
 intro pins s σ H Q I h;refine wpAny_Call_method_late hbase hfew hline rfl (thn (ho pins s σ H _ I h) λv s1 ⟨x,H1,I1,r1,ty,q1⟩=>?_);obtain⟨h1,h2⟩:=ro I1 r1 ty;refine⟨T,id,pa,slot,hty,h1,h2,?_⟩;have hA:=ha cpos pins s1 σ H1 _ I1 q1;rw [hs] at hA ⊢;refine Calls.callWith_builtin (by show (false || (backTo cpos (starEach es X.env)).any (·.1))=false;rw [hplain] <;> rfl) (Calls.evalArgs_plain ?_);exact thn hA λus s2 ⟨vs,H2,I2,r2,q2⟩=>hm pins s2 σ H2 x vs v us Q I2 r1 r2 q2
end
noncomputable def MtM(X:Cx)(id:String)(r:V->List V->Hp->VK->Prop):Prop :=
 ∀(pins:List (Addr×Obj)) (s:c_) (σ:St) (H:Hp) (x:V) (xs:List V) (v:Value) (us:List Value) (Q:VK),Inv X pins σ H s->bz x v->aX xs us->r x xs H Q ->
  wpAny (model X.prog X.w) X.A (call (.builtin id) (v::us)) (EP X pins σ Q) X.xe s
theorem aX.one:∀{x:V}{us:List Value},aX [x] us->∃u,us=[u]/\bz x u
 | _,_,.cons r .nil=>⟨_,rfl,r⟩
theorem aX.zero:∀{us:List Value},aX [] us->us=[]
 | _,.nil=>rfl
def aX.dropLast{xs:List V}{us:List Value}(h:aX xs us):aX xs.dropLast us.dropLast:=by
 induction h with
 | nil=>exact .nil
 | cons r t ih =>
  cases t with
  | nil=>exact .nil
  | cons q t'=>exact .cons r ih
theorem aX.eraseIdx:∀{xs:List V}{us:List Value} (i:Nat),aX xs us->aX (xs.eraseIdx i) (us.eraseIdx i)
 | _,_,_,.nil=>.nil
 | _,_,0,.cons _ t=>t
 | _,_,i+1,.cons r t=>.cons r (aX.eraseIdx i t)
def aX.reverse{xs:List V}{us:List Value}(h:aX xs us):aX xs.reverse us.reverse:=by
 induction h with
 | nil=>exact .nil
 | cons r t ih=>rw [BW,BW];exact aX.append ih (.cons r .nil)
theorem aX.rep{xs:List V}{us:List Value}(h:aX xs us):∀k:Nat,aX (pf k xs).flatten (pf k us).flatten
 | 0=>.nil
 | k+1=>by
  rw [replicate_succ,replicate_succ,flatten_cons,flatten_cons];exact aX.append h (aX.rep h k)
def mf{α:Type}(l:List α):l.eraseIdx (l.length - 1)=l.dropLast:=by
 induction l with
 | nil=>rfl
 | cons a r ih =>
  cases r with
  | nil=>rfl
  | cons b r =>
   have e:(a::b::r).length - 1=((b::r).length - 1)+1:=by
    have h1:(a::b::r).length=r.length+2:=rfl;have h2:(b::r).length=r.length+1:=rfl;omega
   rw [e,eraseIdx_cons_succ,ih]
   all_goals rfl
theorem jt{α:Type}:∀(l:List α) (i:Nat),(l.eraseIdx i).length<=l.length
 | [],_=>o_ _
 | _::_,0=>le_succ _
 | _::r,i+1=>succ_le_succ (jt r i)
theorem ju(its:List Value):∀(k:Nat) (acc:List Value),
  List.foldl (λx1 x2=>x1++x2) acc.toArray (pf k its.toArray)=(acc++(pf k its).flatten).toArray
 | 0,acc=>by simp
 | k+1,acc=>by
  have e:acc.toArray++its.toArray=(acc++its).toArray:=by simp
  have e2:(acc++its)++(pf k its).flatten=acc++(pf (k+1) its).flatten:=by
   rw [replicate_succ,flatten_cons,append_assoc]
  rw [<- e2,<- ju its k (acc++its),<- e,replicate_succ,foldl_cons]
section
variable {X:Cx}{pins:List (Addr×Obj)}{σ:St}{H:Hp}{s:c_}{l b:Addr}{xs ys zs:List V}
def Inv.lset{its its':List Value}{n:Nat}{f:Array Value->Array Value}{t':Nat}(I:Inv X pins σ H s)(hH:H l=some (.lst xs))
  (e:s.heap.get? l=some { cls:=.type "list",data:=.seq its.toArray n }) (hf:f its.toArray=its'.toArray) (hv:aX ys its') (hz:ys.length<=sizeLine) :
  Inv X pins σ (upd H l (.lst ys)) { s with heap:=s.heap.update l (Ba f),toks:=t' }:=by
 have q:=PySem.IsL.update e f;rw [hf] at q;refine I.write (x:=l) (e:=l) (by rw [hH];exact trivial) (.inl rfl) (λb' u hb hu=>(Heap.get?_update_other s.heap (Ba f) (A3 hb)).trans hu) ⟨_,q⟩ ?_;exact⟨hz,its',_,hv,q⟩
def Inv.lnew{its:List Value}{t':Nat}(I:Inv X pins σ H s)(hv:aX ys its)(hz:ys.length<=sizeLine) :
  Inv X pins σ (upd H s.heap.objs.size (.lst ys)) { s with heap:=s.heap.push { cls:=.type "list",data:=.seq its.toArray },toks:=t' } :=
 I.laid (λ_ _ q=>e_ _ q) (o_ _) ⟨hz,its,0,hv,q_ _ rfl⟩
def Inv.fresh(I:Inv X pins σ H s):H s.heap.objs.size=none:=I.hok.fresh (o_ _)
def Inv.lstM(I:Inv X pins σ H s)(hH:H l=some (.lst xs)):xs.length<=sizeLine/\∃(its:List Value) (n:Nat),aX xs its/\xs.length=its.length/\s.heap.get? l=some { cls:=.type "list",data:=.seq its.toArray n }:=by
 obtain⟨z,its,n,r,e⟩:=I.hok l _ hH;exact⟨z,its,n,r,r.length,e⟩
def qe{n:Nat}(h:n<=sizeLine):Bj n=false:=by
 unfold Bj;exact decide_eq_false (by omega)
end
section
variable {X:Cx}
noncomputable def nA:V->List V->Hp->VK->Prop:=λx vs H Q=>∃l xs y,x=.ref l/\vs=[y]/\H l=some (.lst xs)/\xs.length<sizeLine/\Q .non (upd H l (.lst (xs++[y])))
def bI:MtM X "list.append" nA:=by
 intro pins s σ H x vs v us Q I rx rv h;obtain⟨l,xs,y,rfl,rfl,hH,hz,q⟩:=h;cases rx;obtain⟨u,rfl,ru⟩:=rv.one;obtain⟨z,its,n,r,hl,e⟩:=I.lstM hH;refine BB F.slot_list_append ⟨_,e,rfl⟩ F.entry_list_append (F.args_list_append_2 _ _) (PySem.list_append l its.toArray n u (by rw [size_toArray];omega)) ⟨e,?_⟩;refine⟨.non,_,I.lset (its':=its++[u]) hH e (by simp) (r.append (.cons ru .nil)) ?_,rfl,q⟩;rw [length_append,Aj]
 omega
noncomputable def yD:V->List V->Hp->VK->Prop:=λx vs H Q=>∃l xs y,x=.ref l/\vs=[]/\H l=some (.lst xs)/\xs[xs.length - 1]?=some y/\Q y (upd H l (.lst xs.dropLast))
def vc:MtM X "list.pop" yD:=by
 intro pins s σ H x vs v us Q I rx rv h;obtain⟨l,xs,y,rfl,rfl,hH,hy,q⟩:=h;cases rx;have hus:=rv.zero;subst hus;obtain⟨z,its,n,r,hl,e⟩:=I.lstM hH;obtain⟨u,hu,ru⟩:=r.get hy
 have hy':its.toArray[its.toArray.size - 1]?=some u:=by
  show its.toArray[its.length - 1]?=some u;rw [<- CM,<- hl];exact hu
 refine BB F.slot_list_pop ⟨_,e,rfl⟩ F.entry_list_pop (F.args_list_pop_1 _) (MeetsSeq.list_pop_last l its.toArray n u hy' (by rw [size_toArray];omega)) ⟨e,?_⟩
 refine⟨y,_,I.lset (its':=its.dropLast) hH e ?_ r.dropLast ?_,ru,q⟩
 .show its.toArray.eraseIdxIfInBounds (its.toArray.size - 1)=its.dropLast.toArray;rw [size_toArray,eraseIdxIfInBounds_toArray,mf]
 .rw [Bn];omega
noncomputable def rp:V->List V->Hp->VK->Prop:=λx vs H Q=>∃l xs i k y,x=.ref l/\vs=[.int i]/\H l=some (.lst xs)/\-(2^63)<=i/\i<2^63/\seqIndex? i xs.length=some k/\xs[k]?=some y/\Q y (upd H l (.lst (xs.eraseIdx k)))
def qf:MtM X "list.pop" rp:=by
 intro pins s σ H x vs v us Q I rx rv h;obtain⟨l,xs,i,k,y,rfl,rfl,hH,h1,h2,hk,hy,q⟩:=h;cases rx;obtain⟨u,rfl,ru⟩:=rv.one;obtain⟨t,rfl⟩:=ru;obtain⟨z,its,n,r,hl,e⟩:=I.lstM hH;obtain⟨w,hw,rw'⟩:=r.get hy
 refine BB F.slot_list_pop ⟨_,e,rfl⟩ F.entry_list_pop (F.args_list_pop_2 _ _)
  (MeetsSeq.list_pop_at l its.toArray n i t k w (fitsIndex_both h1 h2) (by rw [size_toArray,<- hl];exact hk) (by rw [<- CM];exact hw) (by rw [size_toArray];omega)) ⟨e,?_⟩
 refine⟨y,_,I.lset (its':=its.eraseIdx k) hH e ?_ (r.eraseIdx k) ?_,rw',q⟩
 .show its.toArray.eraseIdxIfInBounds k=(its.eraseIdx k).toArray;rw [eraseIdxIfInBounds_toArray]
 .have:=jt xs k;omega
noncomputable def yE:R2:=λx y H Q=>∃l k xs,x=.ref l/\y=.int k/\H l=some (.lst xs)/\-(2^63)<=k/\k<2^63/\xs.length*k.toNat<=sizeLine /\
 ∀p,H p=none->Q (.ref p) (upd H p (.lst (pf k.toNat xs).flatten))
def sM{α:Type}(xs:List α)(k:Nat):(pf k xs).flatten.length=k*xs.length:=by
 induction k with
 | zero=>simp
 | succ k ih=>rw [replicate_succ,flatten_cons,length_append,ih,succ_mul,add_comm]
def vd:OpR X (binaryOp .Mult) yE:=by
 intro pins s σ H x y v u Q I rx ry h;obtain⟨l,k,xs,rfl,rfl,hH,h1,h2,hz,q⟩:=h;cases rx;obtain⟨t,rfl⟩:=ry;obtain⟨z,its,n,r,hl,e⟩:=I.lstM hH;have hlen:its.toArray.size*k.toNat<=sizeLine:=by rw [size_toArray,<- hl];exact hz
 have hcap:¬ its.toArray.size*k.toNat > (2^63 - 1) / 8:=by
  have:(sizeLine:Nat)<=(2^63 - 1) / 8:=by decide
  omega
 have hfit:¬ (!Builtin.List.listFitsIndex k)=true:=by
  rw [fitsIndex_both h1 h2];exact r_
 have hlong:¬ Bj (its.toArray.size*k.toNat)=true:=by
  rw [qe hlen];exact r_
 have hnew:List.foldl (λx1 x2=>x1++x2) #[] (pf (if its.toArray.isEmpty=true then 0 else k.toNat) its.toArray)=(pf k.toNat its).flatten.toArray:=by
  have f0:∀m:Nat,List.foldl (λx1 x2=>x1++x2) #[] (pf m its.toArray)=(pf m its).flatten.toArray:=λm=>by
   have:=ju its m [];rw [nil_append] at this;exact this
  rw [f0]
  cases its with
  | nil=>simp
  | cons a r'=>rw [if_neg (by simp)]
 refine wpAny_binaryOp_repeat_ref (T:="list") (U:="int") (by decide) ⟨_,e,rfl⟩ (λs'=>typeIs_int s' k t) noFill_list_mul F.fills_int_mul F.slot_int_rmul repeat_list F.slot_int_index.lookup
  (BB F.slot_int_rmul (typeIs_int s k t) F.entry_int_rmul (F.args_int_rmul_2 _ _) (int___rmul___int_list k t l its.toArray n)
   ⟨e,rfl,⟨_,e,rfl⟩,BB F.slot_list_mul ⟨_,e,rfl⟩ F.entry_list_mul (F.args_list_mul_2 _ _) (AutoListH.list___mul___list_int_3 l its.toArray n k t hfit hcap hlong) ⟨e,?_⟩⟩)
 rw [hnew];exact⟨.ref _,_,I.lnew (t':=s.toks) (r.rep k.toNat) (by rw [sM,mul_comm];exact hz),rfl,q _ I.fresh⟩
end
end L2
namespace Att
open PySem PySem.W PySem.Calls PyProof.Rows
def gf{P:B2}{h:Heap}:∀(ns:List Int) (vs:List Value),WellAll P h vs (ns.map WData.int)->IntsAre vs ns:=by
 intro ns
 induction ns with
 | nil =>
  intro vs w;rw [map_nil] at w;cases w;exact .nil
 | cons n ns ih =>
  intro vs w;rw [map_cons] at w
  cases w with
  | cons a b =>
   cases a;exact .cons _ _ (ih _ b)
def nB{l:OpenLaw}{n:Nat}(hn:l.most=some n){P:B2}{h:Heap}{args:List WData}{vals:List Value}
  (hpre:l.row.toRowW.claim.pre args=true) (hwl:WellAll P h vals args) :
  ∃a vs ns,vals=[k_ a]/\args=[WData.list (ns.map WData.int)]/\h.get? a=some { cls:=.type "list",data:=.seq vs.toArray }/\IntsAre vs ns/\ns.length<=n:=by
 have hsh:WShape.hasAll [] args [.list .int]=true:=(pre_splitW hpre).1;have hc:l.pre.holds [] { args:=args }=true:=(pre_splitW hpre).2;obtain⟨d,r,rfl,h1,h2⟩:=hasAllW_cons hsh;obtain rfl:=hasAllW_nil h2;obtain⟨xs,rfl,h3⟩:=hasW_list h1;obtain⟨ns,rfl⟩:=items_int h3
 have hlen:ns.length<=n:=by
  unfold OpenLaw.pre at hc
  have h4:(WTm.not (.lt (.lit (.int (n:Int))) (.len (.arg 0)))).holds [] { args:=[.list (ns.map .int)] }=true:=by
   have h4:=(holds_andW hc).1;rw [hn] at h4;exact h4
  have h5:=condW_of h4 (w_not (w_lt w_lit (w_len_list (w_arg rfl))));rw [length_map] at h5;refine le_of_not_lt λq=>?_;have q':(n:Int)<((ns.length:Nat):Int):=by omega
  first
   | (rw [decide_eq_true q'] at h5;exact absurd h5 (by decide))
   | (simp at h5;omega)
 cases hwl with
 | cons w1 w2 =>
  cases w2
  cases w1 with
  | list ho hall=>exact⟨_,_,ns,rfl,rfl,ho,gf ns _ hall,hlen⟩
def nC(l:OpenLaw)(args:List WData):l.row.toRowW.claim.post args (.bool true) args=true :=
 postW_of (r:=l.row.toRowW) (X:=(true == true))
  (show WShape.has [] (.bool true) .bool=true by first|rfl|decide|simp [WShape.has,WShape.arms,WShape.armsAll])
  (show (WTm.eq .res (.lit (.bool true))).value [] { args:=args,res:=some (.bool true),after:=args }=some (.bool (true == true)) from w_eq_bool (w_res rfl) w_lit) rfl
def attach_call{l:OpenLaw}{n:Nat}{q:m_}{loose:List Str}{XP:(Str->Option Value)->Heap->Prop}{YP:World->Heap->Prop}{d:DefRec}
  (hn:l.most=some n) (hdf:d.params.defaults=[])
  (call:∀(w:World) (s₀ s₁:c_) (mg mb:Str->Option Value) (fa:Addr) (o:Obj) (pm cd doc:Value) (a:Addr) (vs:List Value) (ns:List Int),
   Ground q loose [] XP w s₀ mg mb s₁.heap->YP w s₁.heap ->
   s₁.heap.get? fa=some o->o.data=.func (docDef d.name d.params d.body d.scope pm cd doc)->s₁.heap.CodeRec cd d.name->mg d.name=some (.ref fa) ->
   s₁.heap.get? a=some { cls:=.type "list",data:=.seq vs.toArray }->IntsAre vs ns->ns.length<=n->s₁.gens=#[] ->
   codeAny (model l.prog w) callerA (.call (.ref fa) ⟨[.ref a],[]⟩) (λr s'=>r=.ok (.ret (.bool true))/\OldK s₁.heap s'.heap/\s'.os=s₁.os/\BS s'.gens) s₁) :
  WalkO q loose XP YP l.row.toRowW d [] (λf vs=>PySem.call f vs):=by
 intro w s₀ s₁ mg mb G Y fa o pm cd doc dV kV ho hd hcd hD hmg hg args vals as hpre hlay hrd hwl hlo;obtain rfl:dV=.none:=Dflts.none hD hdf;obtain rfl:kV=.none:=Dflts.noKw hD;obtain⟨a,vs,ns,rfl,rfl,hobj,hints,hlen⟩:=nB hn hpre hwl;refine enter_call (BU (call w s₀ s₁ mg mb fa o pm cd doc a vs ns G Y ho (fd_plain hd) hcd hmg hobj hints hlen hg) λr s' hq=>?_);obtain⟨rfl,h2,h3,h4⟩:=hq;exact⟨.inl ⟨.bool true,.bool true,[],rfl,λ_=>rfl,.bool true,nC l _,λ_=>⟨List.Pairwise.nil,λ_ hm=>(nomatch hm)⟩⟩,h2,h3,h4⟩
end Att
namespace L2
open PySem PySem.Spec PyProof.Rows
theorem ej:∀{vs:List Value}{ns:List Int},IntsAre vs ns->aX (ns.map V.int) vs
 | _,_,.nil=>.nil
 | _,_,.cons n t h=>.cons ⟨t,rfl⟩ (ej h)
noncomputable def xk(H:Hp):Prop:=∀b,H b=none\/∃o xs,H b=some (.frz o (.lst xs))
def qg{P:m_}{w:World}{K:b_}{mg mb:Str->Option Value}{CX:CXT}{k:Nat}{fa a:Addr}{fd:Ag}{x:Str}{sp:Sp}{s₁:c_}{vs:List Value}{ns:List Int}
  (KX:K.In s₁.heap) (hns:s₁.heap.Ns mainGlobals mg) (hb:s₁.heap.Ns builtinsNs mb) (hbb:∀x:Str,x≠"__name__"->mb x=bootBuiltins x) (hlim:s₁.heap.NoLimit) (hg:s₁.gens=#[])
  (ha:s₁.heap.get? a=some { cls:=.type "list",data:=.seq vs.toArray }) (hi:IntsAre vs ns) (hl:ns.length<=sizeLine) (hr:cP k callerA)
  (F:∀base:Heap,K.In base->base.Ns mainGlobals mg->kz P w K mg base CX k fa fd [x] sp) (hbind:∀(s:c_) (u:Value),Ci s fd ⟨[u],[]⟩ [(x,u)])
  (hsp:∀H:Hp,xk H->SqL K H a (ns.map V.int)->sp [.ref a] H (λv _=>v=.bl true) λ_ _ _=>False)
  (hCX:∀H e s',CX [] H s₁ (λ_ _ _=>False) e s'->False) :
  codeAny (model P w) callerA (.call (.ref fa) ⟨[.ref a],[]⟩) (λr s'=>r=.ok (.ret (.bool true))/\OldK s₁.heap s'.heap/\s'.os=s₁.os/\BS s'.gens) s₁:=by
 have rv:=ej hi;have lenV:=hi.length
 -- from an abstract heap in which nothing but the script may be tracked
 have core:∀H:Hp,xk H->SqL K H a (ns.map V.int)->HOk P w H s₁.heap->(∀b,H b≠none->b=a)->(H a≠none->K.lookup a=none) ->
   codeAny (model P w) callerA (.call (.ref fa) ⟨[.ref a],[]⟩) (λr s'=>r=.ok (.ret (.bool true))/\OldK s₁.heap s'.heap/\s'.os=s₁.os/\BS s'.gens) s₁:=by
  intro H hO hS hok hA hK;have base_of:∀{b:Addr}{o:Obj},s₁.heap.get? b=some o->H b=none->(uI s₁.heap H).get? b=some o:=λe n=>p9 e n
  have noA:∀{b:Addr}{o:Obj}{es:Array C1}{ep:Nat},s₁.heap.get? b=some o->o.data=.dict es ep->H b=none:=λ{b o es ep} e d=>by
   cases q:H b with
   | none=>rfl
   | some u =>
    have e':b=a:=hA b (by rw [q];simp);subst e';rw [ha] at e;cases e;have d':Data.seq vs.toArray _=Data.dict es ep:=d;cases d'
  have nsK:∀{b:Addr}{m:Str->Option Value},s₁.heap.Ns b m->(uI s₁.heap H).Ns b m:=λ{b m} ⟨o,es,ep,e,d,r⟩=>⟨o,es,ep,base_of e (noA e d),d,r⟩
  have hKb:K.In (uI s₁.heap H):=λb o e=>base_of (KX b o e) (by
   cases q:H b with
   | none=>rfl
   | some u =>
    have e':b=a:=hA b (by rw [q];simp);subst e';rw [hK (by rw [q];simp)] at e;cases e)
  have hM:Mod K mg (uI s₁.heap H):=⟨hKb,nsK hns,⟨mb,nsK hb,hbb⟩,let ⟨mc,h1,h2⟩:=hlim;⟨mc,nsK h1,h2⟩⟩
  have e0:ut P w K mg (uI s₁.heap H) callerA [] s₁ H:=⟨rfl,hM,λb o e=>sx e,Cu (mS _ _),trivial,λb hb=>absurd (show b∈([]:List Addr) from hb) (by simp),hok,.of_eq hg,λ_ _ z=>nomatch (show ([]:List Addr)=_ from z)⟩
  refine BU ((F _ hKb (nsK hns)).run callerA [] s₁ H ⟨[.ref a],[]⟩ [.ref a] [.ref a] _ _ hr e0 (hbind s₁ (.ref a)) (.cons rfl .nil) (hsp H hO hS)) λr s' h=>?_
  cases r with
  | error e=>exact (hCX H e s' h).elim
  | ok fl =>
   cases fl with
   | next=>exact zQ h
   | brk=>exact zQ h
   | cont=>exact zQ h
   | ret u =>
    obtain⟨v,H',os,bare,un,hok',r',q⟩:=h;have q':v=.bl true:=q;subst q';obtain rfl:u=AL true:=r';refine⟨rfl,OldK.of_keep λb o e=>?_,os,bare⟩
    cases q:H b with
    | none=>exact un.keep b o e q (by intro z;exact absurd (show b∈([]:List Addr) from z) (by simp)) (by simp)
    | some u =>
     rcases hO b with z|⟨ob,xs,z⟩
     .rw [q] at z;cases z
     .have z2:=un.frzs b ob _ z;obtain⟨e1,_⟩:=hok b _ z;obtain⟨e2,_⟩:=hok' b _ z2;rw [e] at e1;cases e1;exact e2
 cases hk:K.lookup a with
 | some o =>
  -- the script is one of the module's own objects
  have e:=KX a o hk;rw [ha] at e;cases e;refine core (λ_=>none) (λ_=>.inl rfl) (.inr ⟨_,vs.toArray,_,hk,rfl,rfl,rfl,by rw [size_toArray,lenV];exact hl,by simpa using rv⟩) (λb u z=>by have z':(none:Option HO)=some u:=z;cases z') (λb z=>absurd rfl z) λz=>absurd rfl z
 | none =>
  refine core (λb=>if b=a then some (.frz { cls:=.type "list",data:=.seq vs.toArray } (.lst (ns.map V.int))) else none) (λb=>?_) (.inl (.inr ⟨{ cls:=.type "list",data:=.seq vs.toArray },if_pos rfl⟩)) (λb u z=>?_) (λb z=>?_) λ_=>hk
  .by_cases hb:b=a
   .exact .inr ⟨_,_,if_pos hb⟩
   .exact .inl (if_neg hb)
  .by_cases hb:b=a
   .have z':=(if_pos hb).symm.trans z;cases z';subst hb;exact⟨ha,by rw [length_map];exact hl,vs,_,rv,ha⟩
   .have z':=(if_neg hb).symm.trans z;cases z'
  .by_cases hb:b=a
   .exact hb
   .exact absurd (if_neg hb) z
def sN{l:CK}{n k:Nat}{q:m_}{loose:List Str}{XP:(Str->Option Value)->Heap->Prop}{YP:World->Heap->Prop}{d:DefRec}{K:B2->b_}{CX:World->CXT}{sp:World->Sp}{x:Str}
  (hn:l.most=some n) (hn2:n<=sizeLine) (hdf:d.params.defaults=[]) (hr:cP k callerA)
  (hY:∀(w:World) (h:Heap),YP w h->(K w.params).In h)
  (F:∀(w:World) (mg:Str->Option Value) (fa:Addr) (h:Heap),(K w.params).In h->h.Ns mainGlobals mg->mg d.name=some (.ref fa) ->
   ∃fd:Ag,(∀(s:c_) (u:Value),Ci s fd ⟨[u],[]⟩ [(x,u)]) /\
    ∀base:Heap,(K w.params).In base->base.Ns mainGlobals mg->kz l.prog w (K w.params) mg base (CX w) k fa fd [x] (sp w))
  (hsp:∀(w:World) (H:Hp) (a:Addr) (ns:List Int),ns.length<=n->xk H->SqL (K w.params) H a (ns.map V.int)->sp w [.ref a] H (λv _=>v=.bl true) λ_ _ _=>False)
  (hCX:∀(w:World) (H:Hp) (s:c_) (e:Value) (s':c_),CX w [] H s (λ_ _ _=>False) e s'->False) :
  PySem.W.WalkO q loose XP YP l.row.toRowW d [] (λf vs=>PySem.call f vs):=by
 refine Att.attach_call hn hdf λw s₀ s₁ mg mb fa o pm cd doc a vs ns G Y ho hd hcd hmg hobj hints hlen hg=>?_;have KX:=hY w _ Y;obtain⟨fd,hb,hF⟩:=F w mg fa _ KX G.T.g hmg;exact qg KX G.T.g G.T.b G.T.builtins G.T.nolimit hg hobj hints (Af hlen hn2) hr hF hb (λH hO hS=>hsp w H a ns hlen hO hS) λH e s'=>hCX w H s₁ e s'
noncomputable def ci(s:Stmt)(j:Nat):Stmt:=match s with
 | .ClassDef _ _ _ body _ _ _ _ _ _ _=>body.getD j (.Pass ⟨0,0,0,0⟩)
 | _=>.Pass ⟨0,0,0,0⟩
noncomputable def bq(s:Stmt):Arguments:=match s with
 | .FunctionDef _ a _ _ _ _ _ _ _ _=>a
 | _=>{ posonlyargs:=[],args:=[],vararg:=none,kwonlyargs:=[],kw_defaults:=[],kwarg:=none,defaults:=[] }
noncomputable def aL(s:Stmt):List Stmt:=match s with
 | .FunctionDef _ _ b _ _ _ _ _ _ _=>b
 | _=>[]
noncomputable def ag(s:Stmt):Scope:=match s with
 | .FunctionDef _ _ _ _ _ _ sc _ _ _=>sc
 | _=>{ kind:=.function,names:=[],isGenerator:=false,isCoroutine:=false }
abbrev CX0:CXT:=λ_ _ _ _ _ _=>False
abbrev E0:XK:=λ_ _ _=>False
def xl{X:Cx}:nr CX0 X E0:=λ_ _ _ _ _ _ _ h=>h.elim
structure Fun (K:b_) (x qual:Str) (st:Stmt) (f:Addr) (fd:Ag):Prop where
 ex:∃(oc:Value) (od:Option Addr) (kV doc pm:Value) (an:Option Addr) (cdv ct:Value) (osl:Array (Option Value)),
  fd=zO x qual (bq st) (aL st) (ag st) .none kV doc pm an cdv ct/\K.lookup f=some ⟨oc,od,.func fd,osl⟩/\AD K cdv qual=true
 kp:we K (.ref f)=true
section
variable {P:m_}{w:World}{K:b_}{mg:Str->Option Value}{base:Heap}
def Fun.ok{x qual:Str}{st:Stmt}{f:Addr}{fd:Ag}{N ps:List Str}{k:Nat}{sp:Sp}(F:Fun K x qual st f fd)(S:aA N ps (ag st))(len:∀vs H Q E,sp vs H Q E->vs.length=ps.length)
  (hbody:∀(cdv:Value) (A:v_) (outer:List Env) (s:c_) (H:Hp) (vs:List V) (Q:VK) (E:XK),cP k (A.deeper (envOfC qual (ag st) s.heap.objs.size f cdv))->sp vs H Q E ->
   ∃t,PSs (im CX0 P w K mg base N qual (ag st) f cdv A outer s H E).nox (aL st) t/\t { nx:=λ_ H'=>Q .non H',rt:=Q } (start N vs) H):kz P w K mg base CX0 (k+1) f fd ps sp:=by
 obtain⟨oc,od,kV,doc,pm,an,cdv,ct,osl,rfl,lk,hcd⟩:=F.ex;refine uZ lk hcd S len λA outer s H vs Q E hr hsp=>?_;obtain⟨t,h,q⟩:=hbody cdv A outer s H vs Q E hr hsp;exact⟨t,h.nox,q⟩
def Fun.binds{x qual:Str}{st:Stmt}{f:Addr}{fd:Ag}{ps:List Str}(F:Fun K x qual st f fd)
  (h:∀(kV doc pm:Value) (an:Option Addr) (cdv ct:Value) (us:List Value),us.length=ps.length->bindArgs (zO x qual (bq st) (aL st) (ag st) .none kV doc pm an cdv ct) ⟨us,[]⟩=pure (ps.zip us)):iF K fd ps []:=by
 obtain⟨oc,od,kV,doc,pm,an,cdv,ct,osl,rfl,lk,hcd⟩:=F.ex;exact .all (h kV doc pm an cdv ct)
def dB{x qual:Str}{st:Stmt}{f:Addr}{oc:Value}{od an:Option Addr}{osl:Array (Option Value)}{kV doc pm cdv ct:Value}(l:K.lookup f=some ⟨oc,od,.func (zO x qual (bq st) (aL st) (ag st) .none kV doc pm an cdv ct),osl⟩)
  (c:AD K cdv qual=true) (k:we K (.ref f)=true):Fun K x qual st f (zO x qual (bq st) (aL st) (ag st) .none kV doc pm an cdv ct):=⟨⟨oc,od,kV,doc,pm,an,cdv,ct,osl,rfl,l,c⟩,k⟩
end
section
variable {X:Cx}
theorem pv(i:Nat){x:Str}{pos:Pos}(hN:X.N[i]?=some x:=by rfl)(hv:Vis X.env.scope x:=by first|exact AH rfl|exact AY (AH rfl)|exact AY (AY rfl))(hd:(x == ("__debug__":Str))=false:=by decide)
  (hcd:(x == ("__classdict__":Str))=false:=by decide):PE X (.Name x pos) (dA i):=uJ hN hv hd hcd
end
def S(l:List Nat):Str:=⟨l.toArray⟩
def gg(l:List Nat):(S l).length=l.length:=by simp [S,Str.length]
def xm(a b:List Nat):S a++S b=S (a++b):=by
 show (⟨a.toArray++b.toArray⟩:Str)=⟨(a++b).toArray⟩
 rw [append_toArray]
def xn{a b:List Nat}(h:S a=S b):a=b:=by
 have h':=congrArg (λx:Str=>x.cps.toList) h;simpa [S] using h'
def ve{a b:List Nat}:V.str (S a)=V.str (S b) ↔ a=b:=⟨λh=>xn (V.str.inj h),λh=>by rw [h]⟩
def vf(a b:List Nat):decide (V.str (S a)=V.str (S b))=decide (a=b):=by
 by_cases h:a=b
 .rw [decide_eq_true h,decide_eq_true (ve.mpr h)]
 .rw [decide_eq_false h,decide_eq_false (λz=>h (ve.mp z))]
noncomputable def dr{α:Type}(xs:List α)(lo hi:Option Int):List α:=(xs.drop (HT.sIx xs.length 0 lo)).take (HT.sIx xs.length xs.length hi - HT.sIx xs.length 0 lo)
def gZ{α:Type}(xs:List α)(lo hi:Option Int):(dr xs lo hi).length<=xs.length:=by
 unfold dr;rw [length_take,length_drop];omega
def nE(xs:List V)(lo hi:Option Int):sH xs lo hi=dr xs lo hi:=rfl
def vg(lo hi:Option Int)(n:Nat):Az lo hi 1 n=(p_ (HT.sIx n n hi - HT.sIx n 0 lo)).map (λk=>HT.sIx n 0 lo+k):=by
 have key:∀(o:Option Int) (d:Nat),d<=n->(match o with|none=>(d:Int)|some i=>max 0 (min (if i<0 then i+(n:Int) else i) (n:Int)))=((HT.sIx n d o:Nat):Int):=by
  intro o d hd
  cases o with
  | none=>rfl
  | some i =>
   show max 0 (min (if i<0 then i+(n:Int) else i) (n:Int))=_;rw [<- HT.clip_eq i n d]
   by_cases h:i<0
   .rw [if_pos h,if_pos h];omega
   .rw [if_neg h,if_neg h];omega
 have k1:=key lo 0 (AK _);have k2:=key hi n (o_ _);unfold Az;simp only [show (1:Int) > 0 by decide,if_true];refine Eq.trans (congrArg (λa=>sliceRange a _ 1) k1) (Eq.trans (congrArg (λb=>sliceRange _ b 1) k2) ?_);unfold sliceRange;simp only [show (1:Int) > 0 by decide,if_true];generalize HT.sIx n 0 lo=a;generalize HT.sIx n n hi=b
 have ec:(if (a:Int)<(b:Int) then ((b:Int) - (a:Int)+1 - 1) / 1 else 0).toNat=b - a:=by
  split <;> omega
 rw [ec];apply AZ;intro k _;omega
def nF{α:Type}(l:List α)(a m:Nat):((p_ m).map (λk=>a+k)).filterMap (λi=>l[i]?)=(l.drop a).take m:=by
 induction m generalizing a with
 | zero=>simp
 | succ m ih =>
  rw [range_succ_eq_map,map_cons,map_map,A8];have e:((λk=>a+k) ∘ Nat.succ)=λk=>(a+1)+k:=by funext k;simp;omega
  rw [e,ih (a+1)]
  cases h:l[a+0]? with
  | none =>
   have hl:l.length<=a:=by simpa using List.getElem?_eq_none_iff.mp h
   rw [Cj hl,Cj (by omega)];simp
  | some v =>
   have hl:a<l.length:=by simpa using (i_.mp h).1
   have hv:l[a]=v:=by simpa using (i_.mp h).2
   rw [BI hl,hv];rfl
def sO(l:List Nat)(lo hi:Option Int):Txt.slice (S l) lo hi=S (dr l lo hi):=by
 have e1:(Az lo hi 1 (S l).length).filterMap ((S l).cps[·]?)=dr l lo hi:=by
  rw [vg,gg];have e:(λi:Nat=>(S l).cps[i]?)=λi:Nat=>l[i]?:=by funext i;simp [S]
  rw [e];exact nF l _ _
 unfold Txt.slice
 split
 .rename_i h;have h2:(Az lo hi 1 (S l).length).length=(S l).length:=by simpa using h
  rw [vg,gg,length_map,length_range] at h2;have a0:=HT.sIx_le l.length 0 (AK _) lo;have b0:=HT.sIx_le l.length l.length (o_ _) hi;unfold dr
  by_cases hz:l.length=0
  .have:l=[]:=Ak.mp hz;subst this;simp
  .have ha:HT.sIx l.length 0 lo=0:=by omega
   have hb:HT.sIx l.length l.length hi=l.length:=by omega
   rw [ha,hb];simp
 .rw [e1];rfl
def nG{α:Type}(l:List α)(k:Nat):dr l none (some (k:Int))=l.take k:=by
 unfold dr;rw [HT.sIx_nat];show (l.drop 0).take (min k l.length - 0)=l.take k;rw [drop_zero,C7]
 by_cases h:k<=l.length
 .rw [min_eq_left h]
 .rw [min_eq_right (by omega),Ad (o_ _),Ad (by omega)]
def jv{α:Type}(l:List α)(k:Nat):dr l (some (k:Int)) none=l.drop k:=by
 unfold dr;rw [HT.sIx_nat];show (l.drop (min k l.length)).take (l.length - min k l.length)=l.drop k
 by_cases h:k<=l.length
 .rw [min_eq_left h,Ad (by rw [length_drop];exact o_ _)]
 .rw [min_eq_right (by omega),sub_self,take_zero,Cj (by omega)]
section
variable {X:Cx}
noncomputable def yF:V->Option Int->Option Int->Hp->VK->Prop:=λx lo hi H Q=>∃l,x=.str (S l)/\l.length<=sizeLine/\Q (.str (S (dr l lo hi))) H
def vh:SlR X yF:=by
 intro pins s σ H x v vl vu lo hi sl Q I rx hs pl pu h;obtain⟨l,rfl,hz,q⟩:=h;obtain⟨t,rfl⟩:=rx;refine⟨"str",_,slot_str_getitem.lookup,typeIs_str s _ t,?_⟩
 obtain⟨l',hl',el⟩:∃l':Option (Int×Tok),vl=partValue l'/\l'.map (·.1)=lo:=by
  cases pl with
  | none=>exact⟨none,rfl,rfl⟩
  | int i t=>exact⟨some (i,t),rfl,rfl⟩
 obtain⟨u',hu',eu⟩:∃l':Option (Int×Tok),vu=partValue l'/\l'.map (·.1)=hi:=by
  cases pu with
  | none=>exact⟨none,rfl,rfl⟩
  | int i t=>exact⟨some (i,t),rfl,rfl⟩
 subst hl' hu';refine wpAny_getItem_str_slice (l:=l') (u:=u') (st:=none) hs rfl ?_;have hm:∀t' k,EP X pins σ Q (.str (Txt.slice (S l) lo hi) t') { s with toks:=k }:=λt' k=>⟨.str (S (dr l lo hi)),H,I.tok _,⟨t',by rw [sO]⟩,q⟩
 have hlen:(Txt.slice (S l) lo hi).length<=sizeLine:=Af (Txt.slice_le _ _ _) (by rw [gg];exact hz);subst el eu;exact post_val_or_str ⟨hlen,hm⟩
noncomputable def nH{α:Type}(l:List α)(n:Int):List α:=(pf n.toNat l).flatten
def nI(k:Nat)(l acc:List Nat):(pf k l.toArray).foldl (·++·) acc.toArray=(acc++(pf k l).flatten).toArray:=by
 induction k generalizing acc with
 | zero=>simp
 | succ k ih =>
  rw [replicate_succ,foldl_cons,append_toArray,ih (acc++l),replicate_succ,flatten_cons,append_assoc]
def xo(l:List Nat)(n:Int):Txt.mul (S l) n=S (nH l n):=by
 unfold Txt.mul nH
 by_cases h:n<1
 .rw [if_pos h];have:n.toNat=0:=by omega
  rw [this];rfl
 .rw [if_neg h]
  split
  .rename_i h2;rw [gg] at h2;simp only [or_eq_true,beq_iff_eq] at h2
   rcases h2 with h2|h2
   .subst h2;simp [S]
   .have:l=[]:=Ak.mp h2;subst this;simp [S]
  .have e:=nI n.toNat l [];show (⟨_⟩:Str)=_
   have e':(pf n.toNat (S l).cps).foldl (·++·) #[]=((pf n.toNat l).flatten).toArray:=by
    simpa [S] using e
   rw [e'];rfl
def kB{α:Type}(l:List α)(n:Int):(nH l n).length=n.toNat*l.length:=by
 unfold nH;rw [length_flatten,map_replicate,sum_replicate_nat]
def mh:OpR X (binaryOp .Mult) (λx y H Q=>∃l n,x=.str (S l)/\y=.int n/\-1000000<=n/\n<=1000000/\n.toNat*l.length<=sizeLine/\Q (.str (S (nH l n))) H):=by
 intro pins s σ H x y v u Q I rx ry h;obtain⟨l,n,rfl,rfl,h1,h2,hz,q⟩:=h;obtain⟨t,rfl⟩:=rx;obtain⟨t',rfl⟩:=ry;have hs:sizeLine=16777216:=A9;have hz':n.toNat*l.length<=16777216:=by rw [<- hs];exact hz
 refine SB.mul ⟨?_,λhn hc=>?_,λhn hc=>?_⟩ λt' k=>⟨.str (S (nH l n)),H,I.tok _,⟨t',by rw [xo]⟩,q⟩
 .rw [decide_eq_false (by omega),decide_eq_false (by omega)];rfl
 .rw [gg];intro hgt
  have hl:l.length<=16777216:=by
   have:1*l.length<=n.toNat*l.length:=mul_le_mul_right _ (by omega);omega
  have hdiv:(2^63 - 1:Int) / 1000000<=(2^63 - 1) / n:=by
   apply le_ediv_of_mul_le (by omega);have:=mul_le_mul_of_nonneg_left h2 (show (0:Int)<=(2^63 - 1) / 1000000 by decide);have e2:((2^63 - 1:Int) / 1000000)*1000000<=2^63 - 1:=by decide
   omega
  have e3:(2^63 - 1:Int) / 1000000=9223372036854:=by decide
  omega
 .rw [gg];have:l.length*n.toNat<=16777216:=by rw [mul_comm];exact hz'
  exact decide_eq_false (by omega)
end
noncomputable def Its(xs:List V):It:=⟨λi _=>i<xs.length,λi H x H'=>H'=H/\xs[i]?=some x,λi _=>xs.length=i⟩
def nJ{M:Model}{A:v_}{E:Value->c_->Prop}{s:c_}{tg:Expr}{it:Addr}{u:Value}{Q:Unit->c_->Prop}(hu:∀a,u≠.ref a)(hQ:Q () s):wpAny M A (letOwnedTupleGo tg (.ref it) u) Q E s:=by
 unfold letOwnedTupleGo
 cases tg <;> first
  | exact f_ hQ
  | (cases u <;> first
    | exact f_ hQ
    | exact absurd rfl (hu _))
def jw{P:m_}{w:World}{K:b_}{tg:Expr}{it:Addr}{xs:List V}{n:Nat}{Pt:Nat->Value->Prop}{St:Nat->Heap->Prop}
  (W:∀A:v_,A.handled=none->Walks P w A it [it] [it] n Pt St) (hn:xs.length=n)
  (hv:∀i v,i<n->Pt i v->∃x,xs[i]?=some x/\bz x v) (hsc:∀i v,Pt i v->∀a,v≠.ref a)
  (hobj:∀i h,St i h->∃o,h.get? it=some o/\∀v,o.data≠.cell v)
  (hfr:∀i h h',St i h->(∀b∈[it],∀o,h.get? b=some o->h'.get? b=some o)->St i h')
  (hself:∀(A:v_) (i:Nat) (s:c_) (Q:Value->c_->Prop) (E:Value->c_->Prop),St i s.heap->Q (.ref it) s->wpAny (model P w) A (pyIter (.ref it)) Q E s) :
  uQ P w K tg (Its xs) [it] it St where
 mem:=by simp
 obj:=λi h st b hb=>by
  have e:b=it:=by simpa using hb
  subst e;exact hobj i h st
 keep:=λi h h' st k=>hfr i h h' st k
 item:=by
  intro X hP hw hK hc i pins s σ H E I hf st hg;subst hP hw hK;obtain⟨f0,f1,f2,f3,f4,f5⟩:=hf it (by simp);refine (W X.A (I.ok.hd hc)).item i s _ _ (by rw [<- hn];exact hg) st λv h' tk hp st' kk=>?_;obtain⟨x,hx,rx⟩:=hv i v (by rw [<- hn];exact hg) hp;have I1:Inv X pins σ H { s with heap:=h',toks:=tk }:=I.turned (λb o hb e=>kk b o (by simpa using hb) e) f0 f1 f3 f4 f5;exact⟨v,rfl,nJ (s:={ s with heap:=h',toks:=tk }) (hsc i v hp) ⟨x,H,I1,rx,⟨rfl,hx⟩,st',λb hb=>(hf b hb).1⟩⟩
 done:=by
  intro X hP hw hK hc i pins s σ H E I hf st hg;subst hP hw hK;obtain⟨f0,f1,f2,f3,f4,f5⟩:=hf it (by simp);have e:n=i:=hn.symm.trans hg;subst e;exact (W X.A (I.ok.hd hc)).done s _ _ st λh' tk kk=>⟨rfl,I.turned (λb o hb e=>kk b o (by simpa using hb) e) f0 f1 f3 f4 f5⟩
 self:=hself
section
variable {X:Cx}{tg:Expr}
noncomputable def cT(l:List Nat):List V:=l.map λc=>V.str (S [c])
def mi{l:List Nat}{i:Nat}{x:V}(h:(cT l)[i]?=some x):∃c,l[i]?=some c/\x=.str (S [c]):=by
 unfold cT at h;rw [so] at h
 cases e:l[i]? with
 | none=>rw [e] at h;cases h
 | some c=>rw [e] at h;exact⟨c,rfl,(zE h).symm⟩
def eV(l:List Nat):(cT l).length=l.length:=length_map _
end
section
variable {X:Cx}
def kC:a6 X (.builtin "isinstance") (λxs H Q=>∃x n t b,xs=[x,.ty n]/\je X.K H x t/\zL X.K t (.type n)=some b/\Q (.bl b) H):=by
 intro pins s σ H xs us Q I r h;obtain⟨x,n,t,b,rfl,ty,e,q⟩:=h;obtain⟨u,w',rfl,rx,ry⟩:=nh r;cases (show w'=Aq n from ry);exact nq I rx ty e λtk=>⟨.bl b,H,I.tok _,rfl,q⟩
mutual
inductive DV (K:b_) (H:Hp):V->Bv->Prop
 | non:DV K H .non .none
 | bl (b:Bool):DV K H (.bl b) (.bool b)
 | int (i:Int):DV K H (.int i) (.int i)
 | str (x:Str):DV K H (.str x) (.str x)
 | lst {a:Addr}{xs:List V}{ds:List Bv}:SqL K H a xs->DVs K H xs ds->DV K H (.ref a) (.list ds)
 | tup {a:Addr}{xs:List V}{ds:List Bv}:SqT K H a xs->DVs K H xs ds->DV K H (.ref a) (.tuple ds)
inductive DVs (K:b_) (H:Hp):List V->List Bv->Prop
 | nil:DVs K H [] []
 | cons {x:V}{d:Bv}{xs:List V}{ds:List Bv}:DV K H x d->DVs K H xs ds->DVs K H (x::xs) (d::ds)
end
mutual
theorem DV.reads{pins:List (Addr×Obj)}{σ:St}{H:Hp}{s:c_}(I:Inv X pins σ H s):∀{x:V}{d:Bv}{u:Value},DV X.K H x d->bz x u->∃as,Reads s.heap u d as
 | _,_,u,.non,r=>by cases (show u=Ah from r);exact⟨_,.none⟩
 | _,_,u,.bl b,r=>by cases (show u=AL b from r);exact⟨_,.bool b⟩
 | _,_,u,.int i,r=>by obtain⟨t,e⟩:=(show ∃t,u=B0 i t from r);subst e;exact⟨_,.int i t⟩
 | _,_,u,.str x,r=>by obtain⟨t,e⟩:=(show ∃t,u=BA x t from r);subst e;exact⟨_,.str x t⟩
 | _,_,u,.lst (a:=a) hq hs,r=>by
  cases (show u=k_ a from r);obtain⟨its,rv,pl,_⟩:=I.list hq;obtain⟨o,ho,hc,n,hd⟩:=pl.isList;obtain⟨as,ra⟩:=DVs.reads I hs rv;exact⟨_,.list ho hc hd ra⟩
 | _,_,u,.tup (a:=a) hq hs,r=>by
  cases (show u=k_ a from r);obtain⟨its,rv,pl,_⟩:=I.tuple hq;obtain⟨o,ho,hc,n,hd⟩:=pl;obtain⟨as,ra⟩:=DVs.reads I hs rv;exact⟨_,.tuple ho hc hd ra⟩
theorem DVs.reads{pins:List (Addr×Obj)}{σ:St}{H:Hp}{s:c_}(I:Inv X pins σ H s):∀{xs:List V}{ds:List Bv}{us:List Value},DVs X.K H xs ds->aX xs us->∃as,ReadsAll s.heap us ds as
 | _,_,_,.nil,.nil=>⟨_,.nil⟩
 | _,_,_,.cons h hs,.cons r rs=>by
  obtain⟨as,ra⟩:=DV.reads I h r;obtain⟨bs,rb⟩:=DVs.reads I hs rs;exact⟨_,.cons ra rb⟩
end
noncomputable def xp(K:b_)(neg:Bool):R2:=λx y H Q=>∃da db,DV K H x da/\DV K H y db/\AA da=true/\AA db=true/\Q (.bl (if neg then !Bb da db else Bb da db)) H
def vi(hu:X.A.units+64<cLine):OpR X (compareOp .Eq) (xp X.K false):=by
 intro pins s σ H x y v u Q I rx ry h;obtain⟨da,db,ha,hb,sa,sb,q⟩:=h;obtain⟨as,ra⟩:=DV.reads I ha rx;obtain⟨bs,rb⟩:=DV.reads I hb ry;exact eq_dataH ra rb sa sb hu ⟨.bl _,H,I,rfl,q⟩
def vj(hu:X.A.units+64<cLine):OpR X (compareOp .NotEq) (xp X.K true):=by
 intro pins s σ H x y v u Q I rx ry h;obtain⟨da,db,ha,hb,sa,sb,q⟩:=h;obtain⟨as,ra⟩:=DV.reads I ha rx;obtain⟨bs,rb⟩:=DV.reads I hb ry;exact ne_dataH ra rb sa sb hu ⟨.bl _,H,I,rfl,q⟩
theorem DVs.ints{K:b_}{H:Hp}:∀ns:List Int,DVs K H (ns.map V.int) (ns.map CG)
 | []=>.nil
 | n::ns=>.cons (.int n) (DVs.ints ns)
theorem gi:∀ns ms:List Int,Bk (ns.map CG) (ms.map CG)=decide (ns=ms)
 | [],[]=>by simp [Bk]
 | [],_::_=>by simp [Bk]
 | _::_,[]=>by simp [Bk]
 | a::r,b::t=>by
  simp only [map_cons,Bk,Bb,gi r t]
  by_cases h:a=b <;> by_cases h':r=t <;> simp [h,h']
end
section
variable {X:Cx}{a b:Expr}{ta tb:TE}{pos:Pos}
def kE{x:Str}{l:List Nat}{j:Nat}(h:x=S l):PE X (.Constant (.str x) j pos) (tC (.str (S l))):=by
 subst h;exact uK
def nK:a6 X (.builtin "len") (λxs H Q=>∃l,xs=[.str (S l)]/\l.length<=sizeLine/\Q (.int l.length) H):=by
 intro pins s σ H xs us Q I r h;obtain⟨l,rfl,hz,q⟩:=h;exact jq pins s σ H _ us Q I r ⟨S l,rfl,by rw [gg];exact hz,by rw [gg];exact q⟩
noncomputable def vk:R2:=λx y H Q=>∃l i c,x=.str (S l)/\y=.int i/\l.length<=sizeLine/\atI l i=some c/\Q (.str (S [c])) H
def sP:IxR X vk:=by
 intro value slice pins s σ H x y v u Q I rx ry q hs;obtain⟨l,i,c,rfl,rfl,hz,ha,q⟩:=q;exact va value slice pins s σ H _ _ v u Q I rx ry ⟨S l,i,c,rfl,rfl,by rw [gg];exact hz,ha,q⟩ hs
def sQ:OpR X (binaryOp .Add) (λx y H Q=>∃i j,x=.str (S i)/\y=.str (S j)/\i.length+j.length<=sizeLine/\Q (.str (S (i++j))) H):=by
 intro pins s σ H x y v u Q I rx ry h;obtain⟨i,j,rfl,rfl,hz,q⟩:=h;exact ma pins s σ H _ _ v u Q I rx ry ⟨S i,S j,rfl,rfl,by rw [gg,gg];exact hz,by rw [xm];exact q⟩
def vm:OpR X (compareOp .Eq) (λx y H Q=>∃i j,x=.str (S i)/\y=.str (S j)/\Q (.bl (decide (i=j))) H):=by
 intro pins s σ H x y v u Q I rx ry h;obtain⟨i,j,rfl,rfl,q⟩:=h;exact w9 pins s σ H _ _ v u Q I rx ry ⟨rfl,by rw [vf];exact q⟩
def vn:OpR X (compareOp .NotEq) (λx y H Q=>∃i j,x=.str (S i)/\y=.str (S j)/\Q (.bl (!decide (i=j))) H):=by
 intro pins s σ H x y v u Q I rx ry h;obtain⟨i,j,rfl,rfl,q⟩:=h;exact xb pins s σ H _ _ v u Q I rx ry ⟨rfl,by rw [vf];exact q⟩
def vo:OpR X (compareOp .Eq) (rI0 λi j=>.bl (decide (i=j))):=wJ λ_ _ _ _ _ _ _ q=>eq_int (by rw [beq_eq_decide_eq];exact q)
def vp:OpR X (compareOp .NotEq) (rI0 λi j=>.bl (!decide (i=j))):=wJ λ_ _ _ _ _ _ _ q=>ne_int (by rw [bne,beq_eq_decide_eq];exact q)
def nL:a6 X (.builtin "len") (λxs H Q=>∃p ys,xs=[.ref p]/\SqL X.K H p ys/\Q (.int ys.length) H):=by
 intro pins s σ H xs us Q I r h;obtain⟨p,ys,e,hq,q⟩:=h;exact fj pins s σ H xs us Q I r ⟨p,ys,e,.inl hq,q⟩
def nM:a6 X (.builtin "len") (λxs H Q=>∃p ys,xs=[.ref p]/\SqT X.K H p ys/\Q (.int ys.length) H):=by
 intro pins s σ H xs us Q I r h;obtain⟨p,ys,e,hq,q⟩:=h;exact fj pins s σ H xs us Q I r ⟨p,ys,e,.inr hq,q⟩
end
structure Cal (P:m_) (w:World) (K:b_) (mg:Str->Option Value) (base:Heap) (k:Nat) (x:Str) (ps:List Str) (sp:Sp):Prop where
 ex:∃(f:Addr) (fd:Ag),kz P w K mg base CX0 k f fd ps sp/\iF K fd ps []/\we K (.ref f)=true/\mg x=some (.ref f)/\∃oc od osl,K.lookup f=some ⟨oc,od,.func fd,osl⟩
structure aW (K:b_) (mg:Str->Option Value) (x:Str) (st:Stmt):Prop where
 ex:∃(f:Addr) (fd:Ag),Fun K x x st f fd/\mg x=some (.ref f)
section
variable {P:m_}{w:World}{K:b_}{mg:Str->Option Value}{base:Heap}{x:Str}{st:Stmt}{N ps:List Str}{k:Nat}{sp:Sp}
def aW.ok(D:aW K mg x st)(S:aA N ps (ag st))
  (hb:∀(kV doc pm:Value) (an:Option Addr) (cdv ct:Value) (us:List Value),us.length=ps.length->bindArgs (zO x x (bq st) (aL st) (ag st) .none kV doc pm an cdv ct) ⟨us,[]⟩=pure (ps.zip us))
  (len:∀vs H Q E,sp vs H Q E->vs.length=ps.length)
  (hbody:∀(f:Addr) (cdv:Value) (A:v_) (outer:List Env) (s:c_) (H:Hp) (vs:List V) (Q:VK) (E:XK),cP k (A.deeper (envOfC x (ag st) s.heap.objs.size f cdv))->sp vs H Q E ->
   ∃t,PSs (im CX0 P w K mg base N x (ag st) f cdv A outer s H E).nox (aL st) t/\t { nx:=λ_ H'=>Q .non H',rt:=Q } (start N vs) H):Cal P w K mg base (k+1) x ps sp:=by
 obtain⟨f,fd,F,hm⟩:=D.ex
 have lk:∃oc od osl,K.lookup f=some ⟨oc,od,.func fd,osl⟩:=by
  obtain⟨oc,od,kV,doc,pm,an,cdv,ct,osl,rfl,lk,hcd⟩:=F.ex;exact⟨oc,od,osl,lk⟩
 exact⟨f,fd,F.ok S len λcdv A outer s H vs Q E hr h=>hbody f cdv A outer s H vs Q E hr h,F.binds hb,F.kp,hm,lk⟩
def aW.mk'{K:b_}{h:Heap}{mg:Str->Option Value}{x:Str}{st:Stmt}{f:Addr}{oc:Value}{od an:Option Addr}{osl:Array (Option Value)}{kV doc pm cdv ct:Value}(X:K.In h)(G:h.Ns mainGlobals mg)
  (a:zH K mainGlobals x=some (some (.ref f))) (l:K.lookup f=some ⟨oc,od,.func (zO x x (bq st) (aL st) (ag st) .none kV doc pm an cdv ct),osl⟩)
  (c:AD K cdv x=true) (k:we K (.ref f)=true):aW K mg x st:=⟨f,_,dB (st:=st) l c k,u1 X G a⟩
end
section
variable {X:Cx}{k:Nat}{x:Str}{ps:List Str}{sp:Sp}{p pos:Pos}{e:Expr}{es:List Expr}{t:TA}
def vq(C:Cal X.prog X.w X.K X.mg X.base k x ps sp)(hr:cP k X.A)(ha:PA X (e::es) t)(hg:Gl X x:=by rfl)(hdb:(x == ("__debug__":Str))=false:=by decide)(he:starEach (e::es) X.env=(false,eval e X.env)::starEach es X.env:=by rfl)
  (hpl:(backTo pos (starEach es X.env)).any (·.1)=false:=by rfl):PE X (.Call (.Name x p) (e::es) [] pos) (iE sp [] E0 t):=by
 obtain⟨f,fd,F,hb,hk,hm,_⟩:=C.ex;exact sG F hr hg hm hk hb .nil xl ha hdb he hpl
end
noncomputable def ml(K:b_):Sp:=λvs H Q _=>∃(a:Addr) (ns:List Int),vs=[.ref a]/\SqL K H a (ns.map V.int)/\ns.length<=63/\∀H',Q (.bl true) H'
def vt{P:m_}{w:World}{K:b_}{mg:Str->Option Value}{fa:Addr}{st:Stmt}{k:Nat}{x:Str}(hfa:mg "law"=some (.ref fa))(D:aW K mg "law" st)
  (hbind:∀(kV doc pm:Value) (an:Option Addr) (cdv ct:Value) (s:c_) (v:Value),Ci s (zO "law" "law" (bq st) (aL st) (ag st) .none kV doc pm an cdv ct) ⟨[v],[]⟩ [(x,v)])
  (h:∀base:Heap,Cal P w K mg base k "law" [x] (ml K)) :
  ∃fd:Ag,(∀(s:c_) (v:Value),Ci s fd ⟨[v],[]⟩ [(x,v)])/\∀base:Heap,K.In base->base.Ns mainGlobals mg->kz P w K mg base CX0 k fa fd [x] (ml K):=by
 obtain⟨f,fd,F,hm⟩:=D.ex;have e:=hfa.symm.trans hm;cases e;obtain⟨oc,od,kV,doc,pm,an,cdv,ct,osl,rfl,lk,hcd⟩:=F.ex;refine⟨_,λs v=>hbind kV doc pm an cdv ct s v,λbase kb nb=>?_⟩;obtain⟨f',fd',F',_,_,hm',oc',od',osl',lk'⟩:=(h base).ex;have e:=hfa.symm.trans hm';cases e;rw [lk] at lk';cases lk';exact F'
def vv{l:CK}{q:m_}{loose:List Str}{XP:(Str->Option Value)->Heap->Prop}{YP:World->Heap->Prop}{d:DefRec}{K:B2->b_}{k:Nat}{x:Str}(hn:l.most=some 63)(hdf:d.params.defaults=[])(hr:cP k callerA)
  (hY:∀(w:World) (h:Heap),YP w h->(K w.params).In h)
  (F:∀(w:World) (mg:Str->Option Value) (fa:Addr) (h:Heap),(K w.params).In h->h.Ns mainGlobals mg->mg d.name=some (.ref fa) ->
   ∃fd:Ag,(∀(s:c_) (u:Value),Ci s fd ⟨[u],[]⟩ [(x,u)])/\∀base:Heap,(K w.params).In base->base.Ns mainGlobals mg->kz l.prog w (K w.params) mg base CX0 k fa fd [x] (ml (K w.params))) :
  PySem.W.WalkO q loose XP YP l.row.toRowW d [] (λf vs=>PySem.call f vs) :=
 sN (n:=63) (k:=k) (x:=x) (CX:=λ_=>CX0) (sp:=λw=>ml (K w.params)) hn (by decide) hdf hr hY F (λ_ _ a ns hl _ hS=>⟨a,ns,rfl,hS,hl,λ_=>rfl⟩) λ_ _ _ _ _ z=>z
def sR{α β:Type}{f:α->β}{xs:List α}{i:Int}{v:α}(h:atI xs i=some v):atI (xs.map f) i=some (f v):=by
 unfold atI at h ⊢;rw [length_map]
 cases e:ixN xs.length i with
 | none=>rw [e] at h;cases h
 | some j =>
  rw [e] at h;show (xs.map f)[j]?=some (f v);have h':xs[j]?=some v:=h;rw [so,h'];rfl
def sz(n:Nat)(h:n<=1000000):n<=sizeLine:=by rw [A9];omega
def qh{ns:List Int}{i:Nat}{x:V}(h:(ns.map V.int)[i]?=some x):∃z,ns[i]?=some z/\x=.int z:=by
 rw [so] at h
 cases e:ns[i]? with
 | none=>rw [e] at h;cases h
 | some z=>rw [e] at h;exact⟨z,rfl,(zE h).symm⟩
section
variable {X:Cx}{st:Stmt}{t:TS}
noncomputable def vw(t:TS):TS:=λD σ H=>∃J:St->Hp->Prop,t { D with nx:=J } σ H/\∀σ' H',J σ' H'->D.nx σ' H'
def iI(h:PS X st t):PS X st (vw t):=by
 intro pins s σ H D I q;obtain⟨J,q1,q2⟩:=q;refine thn (h pins s σ H _ I q1) λf s' r=>?_
 cases f with
 | next=>obtain⟨σ',H',I',r'⟩:=r;exact⟨σ',H',I',q2 σ' H' r'⟩
 | brk=>exact r
 | cont=>exact r
 | ret u=>exact r
end
def qi{α β:Type}(f:α->β)(xs:List α)(lo hi:Option Int):dr (xs.map f) lo hi=(dr xs lo hi).map f:=by
 unfold dr;rw [length_map,map_take,map_drop]
def kF{α:Type}(l:List α):(dr l none (some (-1))).length=l.length - 1:=by
 unfold dr;rw [length_take,length_drop]
 have e:HT.sIx l.length l.length (some (-1))=l.length - 1:=by
  show (if (-1:Int)<0 then (-1+(l.length:Int)).toNat else min (-1:Int).toNat l.length)=l.length - 1;rw [if_pos (by decide)];omega
 have e0:HT.sIx l.length 0 none=0:=rfl;rw [e,e0];omega
theorem bP{x:Str}{c:Addr}:∀(names:List (Str×Ac)) (n:Nat) (acc:List (Str×Addr)),(cellsFrom n names acc).lookup x=some c->(n<=c/\(x,A5)∈names)\/acc.lookup x=some c
 | [],n,acc,h=>.inr h
 | (y,k)::r,n,acc,h=>by
  unfold cellsFrom at h
  split at h
  .rename_i hk;have hk':k=.cell:=by simpa using hk
   subst hk'
   rcases bP r (n+1) ((y,n)::acc) h with ⟨h1,h2⟩|h1
   .exact .inl ⟨by omega,w_ _ h2⟩
   .rw [AB] at h1
    cases e:x == y with
    | true =>
     rw [e] at h1;have:n=c:=zE h1;have ex:x=y:=by simpa using e
     subst ex;exact .inl ⟨by omega,mem_cons_self⟩
    | false=>rw [e] at h1;exact .inr h1
  .rcases bP r n acc h with ⟨h1,h2⟩|h1
   .exact .inl ⟨h1,w_ _ h2⟩
   .exact .inr h1
theorem cj{x:Str}:∀(names:List (Str×Ac)) (n:Nat) (acc:List (Str×Addr)),(x,A5)∉names->(cellsFrom n names acc).lookup x=acc.lookup x
 | [],_,_,_=>rfl
 | (y,k)::r,n,acc,h=>by
  unfold cellsFrom
  split
  .rename_i hk;have hk':k=.cell:=by simpa using hk
   subst hk';rw [cj r (n+1) _ (λz=>h (w_ _ z)),AB]
   have:(x == y)=false:=by
    rw [beq_eq_false_iff_ne];intro e;subst e;exact h mem_cons_self
   rw [this]
  .exact cj r n acc (λz=>h (w_ _ z))
theorem ck{x y:Str}{c:Addr}:∀(names:List (Str×Ac)) (n:Nat) (acc:List (Str×Addr)),(∀z d,acc.lookup z=some d->d<n) ->
  (cellsFrom n names acc).lookup x=some c->(cellsFrom n names acc).lookup y=some c->n<=c->x=y
 | [],n,acc,ha,h1,h2,hc=>absurd (ha x c h1) (not_lt.mpr hc)
 | (z,k)::r,n,acc,ha,h1,h2,hc=>by
  unfold cellsFrom at h1 h2
  split at h1
  .rename_i hk;rw [if_pos hk] at h2
   have ha':∀w d,((z,n)::acc).lookup w=some d->d<n+1:=λw d e=>by
    rw [AB] at e
    cases q:w == z with
    | true=>rw [q] at e;cases e;exact lt_succ_self _
    | false=>rw [q] at e;exact Co (ha w d e)
   by_cases hcn:n+1<=c
   .exact ck r (n+1) _ ha' h1 h2 hcn
   .have e:c=n:=le_antisymm (not_lt.mp hcn) hc;subst e
    have key:∀w:Str,(cellsFrom (c+1) r ((z,c)::acc)).lookup w=some c->w=z:=λw hw=>by
     rcases bP r (c+1) _ hw with ⟨q,_⟩|q
     .exact absurd q (not_succ_le_self _)
     .rw [AB] at q
      cases q2:w == z with
      | true=>simpa using q2
      | false=>rw [q2] at q;exact absurd (ha w c q) (AW _)
    rw [key x h1,key y h2]
  .rename_i hk;rw [if_neg hk] at h2;exact ck r n acc ha h1 h2 hc
noncomputable def dJ(env:Env):List (Str×Ac)->List (Str×Addr)->List (Str×Addr)
 | [],acc=>acc
 | (n,k)::r,acc=>if (k == .free)=true then dJ env r ((n,(env.cells.lookup n).getD 0)::acc) else dJ env r acc
theorem cm{env:Env}{x:Str}{c:Addr}:∀(names:List (Str×Ac)) (acc:List (Str×Addr)),(dJ env names acc).lookup x=some c->((x,Bl)∈names/\c=(env.cells.lookup x).getD 0)\/acc.lookup x=some c
 | [],acc,h=>.inr h
 | (y,k)::r,acc,h=>by
  unfold dJ at h
  split at h
  .rename_i hk;have hk':k=.free:=by simpa using hk
   subst hk'
   rcases cm r _ h with ⟨h1,h2⟩|h1
   .exact .inl ⟨w_ _ h1,h2⟩
   .rw [AB] at h1
    cases e:x == y with
    | true =>
     rw [e] at h1;have ex:x=y:=by simpa using e
     subst ex;exact .inl ⟨mem_cons_self,(zE h1).symm⟩
    | false=>rw [e] at h1;exact .inr h1
  .rcases cm r acc h with ⟨h1,h2⟩|h1
   .exact .inl ⟨w_ _ h1,h2⟩
   .exact .inr h1
theorem ez{env:Env}{x:Str}:∀(names:List (Str×Ac)) (acc:List (Str×Addr)),((x,Bl)∈names\/(acc.lookup x).isSome=true)->((dJ env names acc).lookup x).isSome=true
 | [],acc,h=>h.elim (λz=>nomatch z) id
 | (y,k)::r,acc,h=>by
  unfold dJ
  split
  .rename_i hk;refine ez r _ ?_
   by_cases e:(x == y)=true
   .exact .inr (by rw [AB,e];rfl)
   .rcases h with h|h
    .rcases mem_cons.mp h with z|z
     .cases z;exact absurd (by simp) e
     .exact .inl z
    .exact .inr (by rw [AB];rw [not_eq_true] at e;rw [e];exact h)
  .rename_i hk;refine ez r acc ?_
   rcases h with h|h
   .rcases mem_cons.mp h with z|z
    .cases z;exact absurd rfl hk
    .exact .inl z
   .exact .inr h
def cJ{scope:Scope}{env:Env}(h:∀x∈scope.names,x.2=.free->∃c,env.cells.lookup x.1=some c):closureFor scope env=pure (dJ env scope.names []):=by
 unfold closureFor
 have key:∀(names:List (Str×Ac)) (acc:List (Str×Addr)),(∀x∈names,x.2=.free->∃c,env.cells.lookup x.1=some c) ->
   (forIn names acc λ(x:Str×Ac) (r:List (Str×Addr))=>(if (x.2 == Bl)=true then do let y <- cellOf env x.1;pure (Ar ((x.1,y)::r)) else pure (Ar r):Sem _))=pure (dJ env names acc):=by
  intro names
  induction names with
  | nil=>intro acc _;rfl
  | cons p r ih =>
   intro acc hp;obtain⟨n,k⟩:=p;rw [forIn_cons];have hr:∀x∈r,x.2=.free->∃c,env.cells.lookup x.1=some c:=λx hx=>hp x (w_ _ hx);unfold dJ
   by_cases hk:(k == Bl)=true
   .obtain⟨c,hc⟩:=hp (n,k) mem_cons_self (by simpa using hk);have hc':env.cells.lookup n=some c:=hc;have e1:cellOf env n=pure c:=by unfold cellOf;rw [hc']
    simp only [hk,if_true];rw [e1,hc'];simp only [pure_bind];exact ih _ hr
   .rw [if_neg hk,if_neg hk];simp only [pure_bind];exact ih _ hr
 have e:=key scope.names [] h;have e2:∀(m:Sem (List (Str×Addr))),(m >>= λr=>pure r)=m:=λm=>bind_pure m;rw [<- e]
 first
  | rfl
  | exact (e2 _)
noncomputable def kG(scope:Scope)(C:Addr)(env:Env):Env :=
 { scope:=relabel scope env,locals:=C,globals:=env.globals,cells:=cellsFrom (C+1) scope.names (dJ env scope.names []),qual:=env.qual,func:=none,code:=env.code,frame:=env.frame,builtins:=env.builtins }
noncomputable def aJ(X:Cx)(N':List Str)(scope:Scope)(s:c_)(H:Hp)(fp:List Addr)(pins:List (Addr×Obj)):Cx :=
 { X with N:=N',s₀:=s,H₀:=H,env:=kG scope s.heap.objs.size X.env,outer:=X.stack,stack:=X.stack,ex:=fp,fn:=λx=>decide ((x,A5)∈scope.names),pn:=X.pn++pins,xe:=λ_ _=>False }
noncomputable def eW(sc0:Scope)(N:List Str)(scope:Scope)(N':List Str)(ix:List (Option Nat)):Bool :=
 decide (scope.kind=.function) && scope.names.all (λy=>(!decide (y.2=.local) || decide (scope.names.lookup y.1=some .local)) &&
  (!decide (y.2=.free) || ((decide (sc0.names.lookup y.1=some .cell) || decide (sc0.names.lookup y.1=some .free)) && !decide ((y.1,A5)∈scope.names)))) &&
 decide (N'.length=ix.length) && (N'.zip ix).all (λp=>match p.2 with|none=>true|some j=>decide (N[j]?=some p.1) && decide (scope.names.lookup p.1=some .free))
structure lF (env:Env) (N:List Str) (scope:Scope) (N':List Str) (ix:List (Option Nat)):Prop where
 kind:scope.kind=.function
 loc:∀y∈scope.names,y.2=.local->scope.names.lookup y.1=some .local
 free:∀y∈scope.names,y.2=.free->(env.kindOf y.1=some .cell\/env.kindOf y.1=some .free)/\(y.1,A5)∉scope.names
 len:N'.length=ix.length
 slot:∀(i:Nat) (x:Str) (j:Nat),N'[i]?=some x->ix[i]?=some (some j)->N[j]?=some x/\scope.names.lookup x=some .free
def eA{env:Env}{N:List Str}{scope:Scope}{N':List Str}{ix:List (Option Nat)}(h:eW env.scope N scope N' ix=true):lF env N scope N' ix:=by
 unfold eW at h;simp only [and_eq_true,decide_eq_true_eq,Bq] at h;obtain⟨⟨⟨h1,h2⟩,h3⟩,h4⟩:=h
 refine⟨h1,λy hy e=>?_,λy hy e=>?_,h3,λi x j e1 e2=>?_⟩
 .have:=(h2 y hy).1;rw [e] at this;simpa using this
 .have:=(h2 y hy).2;rw [e] at this;simpa [Env.kindOf] using this
 .have hm:(x,some j)∈N'.zip ix:=by
   refine Ae (i:=i) ?_;rw [getElem?_zip_eq_some];exact⟨e1,e2⟩
  have:=h4 _ hm;simpa using this
noncomputable def rlf(env:Env)(p:Str×Ac):Str×Ac:=match p with|(n,k)=>if (k == Bl && env.scope.kind == .function && env.kindOf n == some .cell) then (n,.cell) else (n,k)
def nN(env:Env)(n:Str)(k:Ac):∃k',rlf env (n,k)=(n,k')/\(k'=k\/(k=.free/\k'=.cell)):=by
 unfold rlf
 by_cases c:(k == Bl && env.scope.kind == .function && env.kindOf n == some .cell)=true
 .refine⟨.cell,if_pos c,.inr ⟨?_,rfl⟩⟩;simp only [and_eq_true,beq_iff_eq] at c;exact c.1.1
 .exact⟨k,if_neg c,.inl rfl⟩
theorem lG{env:Env}:∀{names:List (Str×Ac)}{x:Str},names.lookup x=some .free->(names.map (rlf env)).lookup x=some .cell\/(names.map (rlf env)).lookup x=some .free
 | [],_,h=>by simp at h
 | (n,k)::r,x,h=>by
  have ih:=@lG env r x;obtain⟨k',e,hk'⟩:=nN env n k;rw [map_cons,e]
  cases hx:x == n with
  | true =>
   simp only [AB,hx] at h ⊢;have hk:k=.free:=zE h
   rcases hk' with z|z
   .right;rw [z,hk]
   .left;rw [z.2]
  | false =>
   simp only [AB,hx] at h ⊢;exact ih h
theorem iJ{env:Env}:∀{names:List (Str×Ac)}{x:Str}{k':Ac},(names.map (rlf env)).lookup x=some k'->k'=.cell\/k'=.free->names.lookup x=some .cell\/names.lookup x=some .free
 | [],_,_,h,_=>by simp at h
 | (n,k)::r,x,k',h,hk'=>by
  have ih:=@iJ env r x k';obtain⟨k2,e,hk2⟩:=nN env n k;rw [map_cons,e] at h
  cases hx:x == n with
  | true =>
   simp only [AB,hx] at h ⊢;have:k2=k':=zE h;subst this
   rcases hk2 with z|z
   .rw [<- z]
    rcases hk' with q|q
    .left;rw [q]
    .right;rw [q]
   .right;rw [z.1]
  | false =>
   simp only [AB,hx] at h ⊢;exact ih h hk'
def jx{x:Str}{c:Addr}:∀(names:List (Str×Ac)) (n:Nat) (acc:List (Str×Addr)),(cellsFrom n names acc).lookup x=some c->(x,c)∈cellsFrom n names []\/acc.lookup x=some c:=by
 have app:∀(names:List (Str×Ac)) (n:Nat) (acc:List (Str×Addr)),cellsFrom n names acc=cellsFrom n names []++acc:=by
  intro names
  induction names with
  | nil=>intro n acc;rfl
  | cons p r ih =>
   intro n acc;obtain⟨y,k⟩:=p;unfold cellsFrom
   split
   .rw [ih (n+1) ((y,n)::acc),ih (n+1) [(y,n)],append_assoc];rfl
   .exact ih n acc
 intro names n acc h;rw [app] at h;rw [lookup_append] at h
 cases e:(cellsFrom n names []).lookup x with
 | some d =>
  rw [e] at h;have:d=c:=by simpa using h
  subst this;exact .inl (mem_of_lookup e)
 | none=>rw [e] at h;exact .inr (by simpa using h)
noncomputable def jy(ix:List (Option Nat))(σ:St):St:=ix.map λo=>match o with
 | none=>none
 | some j=>match σ[j]? with
  | some v=>v
  | none=>none
section
variable {X:Cx}{pins:List (Addr×Obj)}{σ:St}{H:Hp}{s:c_}
def lH{N':List Str}{ix:List (Option Nat)}{scope:Scope}{fp:List Addr}(ok:lF X.env X.N scope N' ix)(I:Inv X pins σ H s)(hf:∀b∈fp,mK X pins H b)(hfl:∀b∈fp,b<s.heap.objs.size) :
  Inv (aJ X N' scope s H fp pins) [] (jy ix σ) H { s with heap:=pushCells (s.heap.push { cls:=.type "dict",data:=.dict #[] }) scope.names }:=by
 have hk4:∀b o,s.heap.get? b=some o->(pushCells (s.heap.push { cls:=.type "dict",data:=.dict #[] }) scope.names).get? b=some o:=λb o e=>BM _ _ b o (e_ _ e)
 have hclo:∀x c,(dJ X.env scope.names []).lookup x=some c->X.env.cells.lookup x=some c:=λx c e=>by
  rcases cm scope.names [] e with ⟨h1,h2⟩|h1
  .obtain⟨d,hd⟩:=I.ok.has x (ok.free _ h1 rfl).1;rw [hd] at h2 ⊢;rw [h2];rfl
  .cases h1
 have hcl:∀x c,X.env.cells.lookup x=some c->c<s.heap.objs.size:=λx c e=>by
  obtain⟨v,q⟩:=I.cell x c e;exact q.lt
 have own:=cellsFrom_ok scope.names (s.heap.push { cls:=.type "dict",data:=.dict #[] }) (s.heap.objs.size+1) [] ⟨λ_ _ hm=>(nomatch hm),List.Pairwise.nil⟩ (by rw [Bw];exact o_ _);rw [Bw] at own
 have cases:∀x c,(cellsFrom (s.heap.objs.size+1) scope.names (dJ X.env scope.names [])).lookup x=some c ->
   ((pushCells (s.heap.push { cls:=.type "dict",data:=.dict #[] }) scope.names).IsCell c none/\s.heap.objs.size+1<=c)\/X.env.cells.lookup x=some c:=λx c e=>by
  rcases jx _ _ _ e with h|h
  .exact .inl (own.empty x c h)
  .exact .inr (hclo x c h)
 have fs':∀b,b∈frs X.stack->b<s.heap.objs.size:=λb hb=>by
  rcases mem_cons.mp (I.stkSub b hb) with z|z
  .rw [z];exact I.lt
  .by_cases q:b<s.heap.objs.size
   .exact q
   .exact absurd z (I.nofs (not_lt.mp q))
 have cix:(aJ X N' scope s H fp pins).Ok:=by
  refine⟨I.ok.mod,ok.kind,I.ok.glob,I.ok.blt,o_ _,λx y c h1 h2=>?_,λx hx=>?_,λx c hx e=>?_,I.ok.hd,I.ok.frames,.inl rfl,λb hb=>⟨zI (hfl b hb),λx c e=>?_⟩,λb o e=>I.bs b o e,Af I.ok.bsz I.sz,λb o e hb=>?_,λb hb=>?_,I.stack,I.stkFree,I.ok.tb.un I.base⟩
  .rcases cases x c h1 with ⟨_,z⟩|z
   .exact ck scope.names _ _ (λw d e=>Co (hcl w d (hclo w d e))) h1 h2 z
   .rcases cases y c h2 with ⟨_,z2⟩|z2
    .exact absurd (hcl x c z) (not_lt.mpr (BF z2))
    .exact I.ok.inj x y c z z2
  .have hx':scope.names.lookup x=some .cell\/scope.names.lookup x=some .free:=by
    rcases hx with z|z
    .exact iJ (env:=X.env) z (.inl rfl)
    .exact iJ (env:=X.env) z (.inr rfl)
   rcases hx' with z|z
   .exact AN.mp (Ay scope.names _ _ (.inl z))
   .exact AN.mp (Ay scope.names _ _ (.inr (ez _ _ (.inl (mem_of_lookup z)))))
  .have hx':(x,A5)∈scope.names:=of_decide_eq_true hx
   rcases cases x c e with ⟨_,z⟩|z
   .exact BF z
   .rcases jx _ _ _ e with h|h
    .exact BF (own.empty x c h).2
    .rcases cm scope.names [] h with ⟨h1,_⟩|h1
     .exact absurd hx' (ok.free _ h1 rfl).2
     .cases h1
  .intro z
   rcases cases x c e with ⟨_,z2⟩|z2
   .rw [z] at z2;exact absurd (hfl b hb) (not_lt.mpr (BF z2))
   .exact (hf b hb).2.2.2.2.1 x c z2 z
  .rcases (hf b hb).2.2.2.1 with z|z
   .exact I.ok.noex b o e z
   .exact absurd (h_ (I.ok.bs b o e).1) (not_lt.mpr z)
  .intro z
   rcases mem_cons.mp (I.stkSub b z) with q|q
   .exact (hf b hb).2.1 q
   .exact (hf b hb).2.2.1 q
 refine⟨cix,rfl,I.bare,Un.kept hk4,⟨λ_=>none,?_,λi x v e1 e2 e3=>?_⟩,λx c e=>?_,I.hok.fresh (o_ _),λx c e=>?_,λp hp=>?_,I.hok.kept hk4,?_⟩
 .exact (Heap.Ns.new s.heap (.type "dict")).keeps (BM _ _)
 .have e2':∃j,ix[i]?=some (some j)/\σ[j]?=some (some v):=by
   unfold jy at e2;rw [so] at e2
   cases q:ix[i]? with
   | none=>rw [q] at e2;cases e2
   | some o =>
    rw [q] at e2
    cases o with
    | none=>cases (zE e2)
    | some j =>
     refine⟨j,rfl,?_⟩;have e2'':(match σ[j]? with|some v=>v|none=>none)=some v:=zE e2
     cases r:σ[j]? with
     | none=>rw [r] at e2'';cases e2''
     | some w=>rw [r] at e2'';exact congrArg some e2''
  obtain⟨j,hj,hv⟩:=e2';obtain⟨hN,hfr⟩:=ok.slot i x j e1 hj;have hk:=(ok.free _ (mem_of_lookup hfr) rfl).1
  have hvis:Vis X.env.scope x:=by
   rcases hk with z|z
   .exact .inr (.inl z)
   .exact .inr (.inr z)
  obtain⟨m,hn,hl⟩:=I.loc;obtain⟨u,ru,lk⟩:=hl j x v hN hv hvis
  refine⟨u,ru,.inr ⟨?_,?_⟩⟩
  .exact lG (env:=X.env) hfr
  .rcases lk with ⟨z,_⟩|⟨_,c,hc,hcell⟩
   .rcases hk with q|q
    .rw [z] at q;cases q
    .rw [z] at q;cases q
   .refine⟨c,?_,hcell.keeps hk4⟩;show (cellsFrom (s.heap.objs.size+1) scope.names (dJ X.env scope.names [])).lookup x=some c;rw [cj scope.names _ _ (ok.free _ (mem_of_lookup hfr) rfl).2];obtain⟨d,hd⟩:=AN.mp (ez (env:=X.env) scope.names [] (.inl (mem_of_lookup hfr)));rw [hd,<- hclo x d hd,hc]
 .rcases cases x c e with ⟨z,_⟩|z
  .exact⟨none,z⟩
  .obtain⟨v,q⟩:=I.cell x c z;exact⟨v,q.keeps hk4⟩
 .rcases cases x c e with ⟨_,z⟩|z
  .exact I.hok.fresh (BF z)
  .exact I.freeC x c z
 .have hp':p∈X.pn++pins:=by simpa [aJ] using hp
  obtain⟨q1,q2,q3,q4,q5⟩:=I.pin p hp';refine⟨hk4 _ _ q1,q2,zI (h_ q1),λz=>?_,q5⟩
  rcases mem_cons.mp (I.stkSub p.1 z) with q|q
  .exact q3 q
  .exact q4 q
 .unfold jy;rw [length_map];exact ok.len.symm
end
section
variable {M:Model}{A:v_}{E:Value->c_->Prop}{s:c_}
def bQ{scope:Scope}{globals:Addr}{cl:List (Str×Addr)}{qual:Str}{func:Option Addr}{code:Value}{env:Env}{Q:Env->c_->Prop}
  (hQ:Q { scope:=scope,locals:=s.heap.objs.size,globals:=globals,cells:=cellsFrom (s.heap.objs.size+1) scope.names cl,qual:=qual,func:=func,code:=env.code,frame:=env.frame,builtins:=env.builtins }
   { s with heap:=pushCells (s.heap.push { cls:=.type "dict",data:=.dict #[] }) scope.names }) :
  wpAny M A (newFunctionEnv scope globals cl [] qual func code (some env)) Q E s:=by
 simp only [newFunctionEnv,Option.isSome_some,if_true];refine cy (wpAny_alloc ?_);refine cy (wpAny_layCells _ (λname kind cells=>by cases hkc:kind == A5 <;> simp [hkc]) _ _ _ _ ?_);rw [show ({ s with heap:=s.heap.push { cls:=.type "dict",data:=.dict #[] } }:c_).heap.objs.size=s.heap.objs.size+1 from Bw ..];simp only [forIn_nil];exact cy (f_ (f_ hQ))
end
section
variable {prog:m_}{w:World}{A:v_}{R:Result->c_->Prop}{s:c_}
theorem jz{elt target iter:Expr}{ifs:List Expr}{scope:Scope}{pos:Pos}{it acc:Value}{env:Env}(I:Nat->c_->Prop)
  (turn:∀n s,I n s->wpAny (model prog w) A (pyNext it) (λr s₁=>match r with
   | none=>R (.ok .next) s₁
   | some v=>wpAny (model prog w) A (letOwnedTupleGo target it v) (λ_ s₂=>wpAny (model prog w) A (assign target env v) (λ_ s₃ =>
     wpAny (model prog w) A (forIn ifs true λc r=>if r=true then do let ok <- isTrue c env (eval c env);pure (Ar ok) else pure (Ar r)) (λok s₄ =>
      if ok=true then wpAny (model prog w) A (eval elt env) (λx s₅ =>
       wpAny (model prog w) A (call (.builtin "list.append") [acc,x]) (λ_ s₆=>∃m,m<n/\I m s₆) (λ_ _=>False) s₅) (λ_ _=>False) s₄
      else ∃m,m<n/\I m s₄) (λ_ _=>False) s₃) (λ_ _=>False) s₂) (λ_ _=>False) s₁) (λ_ _=>False) s)
  (n:Nat) (h:I n s) :
  codeAny (model prog w) A (.compLoop (.ListComp elt [⟨target,iter,ifs,0⟩] scope pos) 0 it acc env) R s:=by
 refine codeAny_loop rfl I (λn s hI=>?_) n h;show wpAny _ A ((compTurn (.ListComp elt [⟨target,iter,ifs,0⟩] scope pos) 0 it acc env).onRaise (λx=>do noteFrame x env;theTreesLotGoes x)) _ _ s;refine wpAny_noted ?_;rw [compTurn_list];refine cy (Al (cy (zG (turn n s hI) (λr s₁ h₁=>?_) λ_ _ h'=>h'.elim)))
 cases r with
 | none=>exact f_ h₁
 | some v =>
  refine cy (zG h₁ (λ_ s₂ h₂=>?_) λ_ _ h'=>h'.elim);refine cy (zG h₂ (λ_ s₃ h₃=>cy (zG h₃ (λok s₄ h₄=>?_) λ_ _ h'=>h'.elim)) λ_ _ h'=>h'.elim)
  cases ok with
  | false=>exact f_ ⟨rfl,h₄⟩
  | true =>
   exact cy (cy (zG h₄ (λx s₅ h₅=>cy (zG h₅ (λ_ s₆ h₆=>f_ (f_ ⟨rfl,h₆⟩)) λ_ _ h'=>h'.elim)) λ_ _ h'=>h'.elim))
end
noncomputable def PIf(X:Cx)(ifs:List Expr)(t:TT):Prop :=
 ∀(pins:List (Addr×Obj)) (s:c_) (σ:St) (H:Hp) (Q:Bool->Hp->Prop),Inv X pins σ H s->t σ H Q ->
  wpAny (model X.prog X.w) X.A (forIn ifs true λc r=>if r=true then do let ok <- isTrue c X.env (eval c X.env);pure (Ar ok) else pure (Ar r)) (TP X pins σ Q) X.xe s
def qj:TT:=λ_ H Q=>Q true H
section
variable {X:Cx}
def dL:PIf X [] qj:=λ_ _ _ H _ I h=>wpAny_tests_nil ⟨H,I,h⟩
def nP{c:Expr}{t:TT}(h:PT X c t):PIf X [c] t:=λpins s σ H Q I q=>wpAny_tests_one (h pins s σ H Q I q)
end
noncomputable def qk(ix:List (Option Nat))(wi:TI)(g:TG)(tts:TT)(te:TE):TE:=λσ H Q=>wi σ H λJ H1=>∀D,H1 D=none->∃W:Nat->Nat->St->Hp->Prop,(∃m,W 0 m (jy ix σ) (upd H1 D (.lst [])))/\∀i m τ H2,W i m τ H2 ->
 (J.stop i H2/\Q (.ref D) H2)\/(J.go i H2/\∀x H3,J.yld i H2 x H3->g x τ H3 λτ2 H4=>tts τ2 H4 λok H5=>if ok=true then te τ2 H5 λv H6=>∃ys,H6 D=some (.lst ys)/\ys.length<sizeLine/\∃m',m'<m/\W (i+1) m' τ2 (upd H6 D (.lst (ys++[v])))
  else ∃m',m'<m/\W (i+1) m' τ2 H5)
section
variable {X:Cx}{tg iter elt:Expr}{ifs:List Expr}{scope:Scope}{N':List Str}{ix:List (Option Nat)}{wi:TI}{g:TG}{tts:TT}{te:TE}
def jA{use:Option (Value->Sem Unit)}{Qf:Value->c_->Prop}{pos p':Pos}{pins:List (Addr×Obj)}{σ:St}{H:Hp}{s:c_}{Q:VK}(hc:X.calm=true)(ok:lF X.env X.N scope N' ix)(hi:PI X tg iter wi)
  (blk:∀s H fp pn,PG (aJ X N' scope s H fp pn) tg g/\PIf (aJ X N' scope s H fp pn) ifs tts/\PE (aJ X N' scope s H fp pn) elt te)
  (hs:∀x,foldedSetIterable iter X.env x=pure x) (I:Inv X pins σ H s) (hw:qk ix wi g tts te σ H Q)
  (fin:∀D C H' s',Inv X pins σ H' s'->Q (.ref D) H'->(∃m,s'.heap.Ns C m)->H' C=none->X.s₀.heap.objs.size<=C->C≠X.env.locals->(∀x c,X.env.cells.lookup x=some c->c≠C)->C∉X.fs->(∀p∈X.pn++pins,p.1≠C) ->
   compPost (model X.prog X.w) X.A X.xe use Qf (.ref D) C (.ok .next) s') :
  wpAny (model X.prog X.w) X.A (comprehension (.ListComp elt [⟨tg,iter,ifs,0⟩] scope pos) scope X.env p' (newList []) false (eval iter X.env) use) Qf X.xe s:=by
 have hclos:closureFor scope X.env=pure (dJ X.env scope.names []):=cJ λy hy e=>I.ok.has y.1 (ok.free y hy e).1;refine wpAny_comprehension_free (use:=use) rfl hs hclos ok.kind ok.loc (thn (hi pins s σ H _ I hw) λv s1 h1=>thn h1 λitv s2 h2=>?_);obtain⟨it,fp,tn,J,H2,e,I2,T,st2,f2,hW⟩:=h2;subst e;obtain⟨W,⟨m0,w0⟩,turn⟩:=hW s2.heap.objs.size (I2.hok.fresh (o_ _))
 have hfl:∀b∈fp,b<s2.heap.objs.size:=λb hb=>by
  obtain⟨o,e,_⟩:=T.obj 0 _ st2 b hb;exact h_ e
 refine Ap ?_
 have I3:Inv X pins σ (upd H2 s2.heap.objs.size (.lst [])) { s2 with heap:=s2.heap.push { cls:=.type "list",dict:=none,data:=.seq ([]:List Value).toArray } } :=
  I2.laid (t':=s2.toks) (λb o e=>e_ _ e) (o_ _) (show aO X.prog X.w _ _ _ (.lst []) from ⟨AK _,[],0,.nil,q_ _ rfl⟩)
 have st3:tn 0 (s2.heap.push { cls:=.type "list",dict:=none,data:=.seq ([]:List Value).toArray }):=T.keep 0 _ _ st2 λb _ o e=>e_ _ e;have f3:∀b∈fp,mK X pins (upd H2 s2.heap.objs.size (.lst [])) b:=λb hb=>⟨by rw [ai (zI (hfl b hb))];exact (f2 b hb).1,(f2 b hb).2⟩
 have hfl3:∀b∈fp,b<(s2.heap.push { cls:=.type "list",dict:=none,data:=.seq ([]:List Value).toArray }).objs.size:=λb hb=>by rw [Bw];exact Co (hfl b hb)
 generalize hs3:({ s2 with heap:=s2.heap.push { cls:=.type "list",dict:=none,data:=.seq ([]:List Value).toArray } }:c_)=s3 at I3 ⊢;have eh3:s3.heap=s2.heap.push { cls:=.type "list",dict:=none,data:=.seq ([]:List Value).toArray }:=by rw [<- hs3]
 rw [<- eh3] at st3 hfl3;generalize hH3:upd H2 s2.heap.objs.size (.lst [])=H3 at I3 f3 w0;generalize hD:s2.heap.objs.size=D at *;refine bQ ?_;have I4:=lH ok I3 f3 hfl3;obtain⟨hg,ht,he⟩:=blk s3 H3 fp pins;have st4:tn 0 (pushCells (s3.heap.push { cls:=.type "dict",data:=.dict #[] }) scope.names):=T.keep 0 _ _ st3 λb _ o e=>BM _ _ b o (e_ _ e)
 have stat:∀{H':Hp},(∀b∈fp,H' b=none)->∀b∈fp,mK (aJ X N' scope s3 H3 fp pins) [] H' b:=λhn b hb=>by
  refine⟨hn b hb,zI (hfl3 b hb),I4.ok.exfs b hb,.inl hb,(I4.ok.exf b hb).2,λp hp=>?_⟩;have hp':p∈X.pn++pins:=by simpa [aJ] using hp
  exact (f2 b hb).2.2.2.2.2 p hp'
 have loop:∀(s4:c_),Inv (aJ X N' scope s3 H3 fp pins) [] (jy ix σ) H3 s4->tn 0 s4.heap ->
   codeAny (model X.prog X.w) X.A (.compLoop (.ListComp elt [⟨tg,iter,ifs,0⟩] scope pos) 0 (.ref it) (.ref D) (kG scope s3.heap.objs.size X.env)) (compPost (model X.prog X.w) X.A X.xe use Qf (.ref D) s3.heap.objs.size) s4:=by
  intro s4 I4 st4;refine jz (λn s'=>∃i τ H',Inv (aJ X N' scope s3 H3 fp pins) [] τ H' s'/\tn i s'.heap/\(∀b∈fp,H' b=none)/\W i n τ H') ?_ m0 ⟨0,_,H3,I4,st4,λb hb=>(f3 b hb).1,w0⟩;rintro n s5 ⟨i,τ,H5,I5,st5,fr5,w5⟩
  rcases turn i n τ H5 w5 with ⟨stop,qn⟩|⟨go,step⟩
  .refine thn (T.done (aJ X N' scope s3 H3 fp pins) rfl rfl rfl hc i [] s5 τ H5 (λ_ _=>False) I5 (stat fr5) st5 stop) λr s6 ⟨hr,I6⟩=>?_;subst hr;have I7:Inv X pins σ H5 s6:=I3.call' (ch:=fp) I6.os I6.base I6.hok I6.bare λb hb=>⟨(f2 b hb).2.2.2.1,(f2 b hb).2.1,(f2 b hb).2.2.2.2.1,(f2 b hb).2.2.2.2.2⟩
   obtain⟨m6,hn6,_⟩:=I6.loc
   refine fin D s3.heap.objs.size H5 s6 I7 qn ⟨m6,hn6⟩ I6.free ?_ ?_ ?_ ?_ ?_
   .exact I3.sz
   .exact CQ I3.lt
   .intro x c e z;obtain⟨v,q⟩:=I3.cell x c e;have:=q.lt;rw [z] at this;exact AW _ this
   .exact I3.nofs (o_ _)
   .intro p hp z;have:=h_ (I3.pin p hp).1;rw [z] at this;exact AW _ this
  .refine thn (T.item (aJ X N' scope s3 H3 fp pins) rfl rfl rfl hc i [] s5 τ H5 (λ_ _=>False) I5 (stat fr5) st5 go) λr s6 ⟨u,hr,h6⟩=>?_;subst hr;refine thn h6 λ_ s7 ⟨x,H7,I7,r7,y7,st7,fr7⟩=>?_;have I7':=I7.pinned (stat fr7) (T.obj _ _ st7)
   have again:∀{s8:c_}{τ8:St}{H8:Hp},Inv (aJ X N' scope s3 H3 fp pins) ([]++ii fp s7.heap) τ8 H8 s8->(∃m',m'<n/\W (i+1) m' τ8 H8) ->
     ∃m,m<n/\∃i τ H',Inv (aJ X N' scope s3 H3 fp pins) [] τ H' s8/\tn i s8.heap/\(∀b∈fp,H' b=none)/\W i m τ H':=λ{s8 τ8 H8} I8 ⟨m',hm,w8⟩=>by
    refine⟨m',hm,i+1,τ8,H8,I8.unpinned,T.keep _ _ _ st7 λb hb o e=>(I8.pin (b,o) (pj _ (pj _ (bO hb e)))).1,λb hb=>?_,w8⟩;obtain⟨o,e,d⟩:=T.obj _ _ st7 b hb;exact (I8.pin (b,o) (pj _ (pj _ (bO hb e)))).2.1
   refine thn (hg _ s7 τ H7 x u _ I7' r7 (step x H7 y7)) λ_ s8 ⟨τ8,H8,I8,q8⟩=>?_;refine thn (ht _ s8 τ8 H8 _ I8 q8) λokb s9 ⟨H9,I9,q9⟩=>?_
   cases okb with
   | false =>
    rw [if_neg r_] at q9;rw [if_neg r_];exact again I9 q9
   | true =>
    rw [if_pos rfl] at q9;rw [if_pos rfl];refine thn (he _ s9 τ8 H9 _ I9 q9) λv10 s10 ⟨x10,H10,I10,r10,q10⟩=>?_;obtain⟨ys,hD10,hz,m',hm,w10⟩:=q10;refine thn (bI (X:=aJ X N' scope s3 H3 fp pins) _ s10 τ8 H10 (.ref D) [x10] (.ref D) [v10] (λ_ H'=>∃m',m'<n/\W (i+1) m' τ8 H') I10 rfl (.cons r10 .nil) ⟨D,ys,x10,rfl,rfl,hD10,hz,m',hm,w10⟩) λ_ s11 ⟨_,H11,I11,_,q11⟩=>?_;exact again I11 q11
 exact codeAny_compStart_list (loop _ I4 st4) (T.self X.A 0 _ _ _ st4 (loop _ I4 st4))
def gj{pos:Pos}(N':List Str)(ix:List (Option Nat))(hc:X.calm=true)(hi:PI X tg iter wi)
  (blk:∀s H fp pn,PG (aJ X N' scope s H fp pn) tg g/\PIf (aJ X N' scope s H fp pn) ifs tts/\PE (aJ X N' scope s H fp pn) elt te)
  (chk:eW X.env.scope X.N scope N' ix=true) (hs:∀x,foldedSetIterable iter X.env x=pure x:=by intro _;rfl) :
  PE X (.ListComp elt [⟨tg,iter,ifs,0⟩] scope pos) (qk ix wi g tts te):=by
 intro pins s σ H Q I hw;rw [eval_ListComp];refine jA (use:=none) hc (eA chk) hi blk hs I hw λD C H' s' I' q hm hn h1 h2 h3 h4 h5=>?_;obtain⟨m,hm⟩:=hm;refine⟨m,hm,λh' sb=>⟨.ref D,H',?_,rfl,q⟩⟩;exact I'.turned (t':=s'.toks) (λb o hb e=>(sb.2 b hb).trans e) hn h2 (.inr h1) h3 h5
end
section
variable {X:Cx}{tg iter elt:Expr}{ifs:List Expr}{scope:Scope}{N':List Str}{ix:List (Option Nat)}{wi:TI}{g:TG}{tts:TT}{te:TE}
theorem nQ{i:Nat}{x:Str}{pos pos' cpos:Pos}(N':List Str)(ix:List (Option Nat))(hN:X.N.Nodup)(hi:X.N[i]?=some x)(hx:Loc X.env.scope x)(hc:X.calm=true)(hit:PI X tg iter wi)
  (blk:∀s H fp pn,PG (aJ X N' scope s H fp pn) tg g/\PIf (aJ X N' scope s H fp pn) ifs tts/\PE (aJ X N' scope s H fp pn) elt te)
  (chk:eW X.env.scope X.N scope N' ix=true) (hsw:swapsWith (.ListComp elt [⟨tg,iter,ifs,0⟩] scope cpos) (some (.Name x pos')) pos.line X.env=pure true:=by rfl)
  (hs:∀x,foldedSetIterable iter X.env x=pure x:=by intro _;rfl) (hf:X.fn x=true\/X.env.scope.names.lookup x=some .local:=by first|exact .inl rfl|exact .inr rfl|assumption) :
  PS X (.Assign [.Name x pos'] (.ListComp elt [⟨tg,iter,ifs,0⟩] scope cpos) pos) (ur (qk ix wi g tts te) (cf i)):=by
 intro pins s σ H D I hw;rw [exec_Assign_Name_used _ _ _ _ hsw];refine cy (Al (cy ?_));show wpAny _ X.A (do let _ <- comprehension (.ListComp elt [⟨tg,iter,ifs,0⟩] scope cpos) scope X.env _ (newList []) false (eval iter X.env) (some (assign (.Name x pos') X.env))) _ _ s;refine cy (thn (jA (use:=some (assign (.Name x pos') X.env)) (Qf:=λ_ s'=>SP X pins D .next s') hc (eA chk) hit blk hs I hw λD' C H' s' I' q hm hn h1 h2 h3 h4 h5=>?_) λ_ s' q=>f_ (f_ q))
 obtain⟨m,oC,es,ep,hoC,hdC,hrC⟩:=hm
 have Ip:Inv X (pins++[(C,oC)]) σ H' s':=I'.pins_of λp hp=>(z0.mp hp).elim (λz=>I'.pin p (pj _ z)) λz=>by
  have e:p=(C,oC):=by simpa using z
  subst e;exact⟨hoC,hn,h2,h4,λv z=>by rw [hdC] at z;cases z⟩
 refine Cf (dk (v:=.ref D') Ip hN hi hx rfl (λs2 I2=>?_) hf);have hC2:s2.heap.get? C=some oC:=(I2.pin (C,oC) (by simp)).1;have I2':Inv X pins (σ.set i (some (.ref D'))) H' s2:=I2.pins_of λp hp=>I2.pin p (pj _ (zX _ hp));refine⟨m,⟨oC,es,ep,hC2,hdC,hrC⟩,λh' sb=>⟨_,H',?_,q⟩⟩;exact I2'.turned (t':=s2.toks) (λb o hb e=>(sb.2 b hb).trans e) hn h2 (.inr h1) h3 h5
end
noncomputable def rq(p:Addr)(a b c:Int):HO:=.ext λh=>∃t u v,IsRange h p a b c t u v
noncomputable def kH(a c:Int)(n:Nat):List V:=(p_ n).map λ(k:Nat)=>V.int (a+k*c)
def mm{a c:Int}{n:Nat}{acc:Array Value}(h:ItemsOf (λi v=>∃t,v=.int (a+i*c) t) acc n):aX (kH a c n) acc.toList:=by
 obtain⟨hn,hi⟩:=h
 have key:∀(m:Nat) (us:List Value) (f:Nat->Int),us.length=m->(∀i u,us[i]?=some u->∃t,u=B0 (f i) t)->aX ((p_ m).map λk=>V.int (f k)) us:=by
  intro m
  induction m with
  | zero=>intro us f hl _;rw [Ak] at hl;subst hl;exact .nil
  | succ m ih =>
   intro us f hl hu
   cases us with
   | nil=>simp at hl
   | cons u r =>
    rw [range_succ_eq_map,map_cons,map_map];refine .cons (hu 0 u rfl) (ih r (λk=>f (k+1)) (by simpa using hl) λi v e=>hu (i+1) v (by simpa using e))
 refine key n acc.toList (λk=>a+k*c) (by simpa using hn) λi u e=>?_;exact hi i u (by simpa using e)
def nR(a c:Int)(n:Nat):(kH a c n).length=n:=by simp [kH]
section
variable {X:Cx}
def ql{pins:List (Addr×Obj)}{σ:St}{H:Hp}{s:c_}{a b c:Int}{t u v:Tok}{tk:Nat}(I:Inv X pins σ H s) :
  Inv X pins σ (upd H s.heap.objs.size (rq s.heap.objs.size a b c)) { s with heap:=s.heap.push { cls:=.type "range",data:=.fields #[.int a t,.int b u,.int c v] },toks:=tk }:=by
 refine I.laid (λb o e=>e_ _ e) (o_ _) ⟨⟨t,u,v,IsRange.new ..⟩,⟨_,q_ _ rfl⟩,λh1 h2 ⟨t,u,v,z⟩ k=>⟨t,u,v,k _ z⟩⟩
def jB{a:Expr}{ta:TA}{p pos:Pos}(hg:Gl X "range")(hm:X.mg "range"=none)(ha:PA X [a] ta)(hs:starEach [a] X.env=[(false,eval a X.env)]:=by rfl) :
  PE X (.Call (.Name "range" p) [a] [] pos) (λσ H Q=>ta σ H λvs H1=>∃j:Int,vs=[.int j]/\∀p,H1 p=none->Q (.ref p) (upd H1 p (rq p 0 j 1))):=by
 intro pins s σ H Q I h;refine Call_ (fi I hg hm boot_range (zU (thn (ha pos pins s σ H _ I h) λus s1 ⟨vs,H1,I1,r1,q1⟩=>?_) hs rfl));obtain⟨j,e,q⟩:=q1;subst e
 cases r1 with
 | cons r rr =>
  cases rr;obtain⟨t,rfl⟩:=r;exact call_range_1 ⟨.ref s1.heap.objs.size,_,ql I1,rfl,q _ (I1.hok.fresh (o_ _))⟩
noncomputable def xq(K:b_)(mk:List V->HO):List V->Hp->VK->Prop:=λxs H Q=>∃p a b c n,xs=[.ref p]/\H p=some (rq p a b c)/\BP a b c=true/\AX a b c=((n:Nat):Int)/\n<=1000000/\∀l,H l=none->Q (.ref l) (upd H l (mk (kH a c n)))
def mn(hc:X.calm=true):a6 X (.type "list") (xq X.K .lst):=by
 intro pins s σ H xs us Q I r h;obtain⟨p,a,b,c,n,rfl,hp,hsm,hsz,hn,q⟩:=h;obtain⟨u,rfl,rx⟩:=gY r;cases rx;obtain⟨⟨t,u,v,hr⟩,_,_⟩:=(show aO X.prog X.w H s.heap p (rq p a b c) from I.hok p _ hp)
 have hs:sizeLine=16777216:=A9;refine call_list_range (I.ok.hd hc) hr hsm hsz (by omega) λh' tk acc c' hk e hacc=>?_;exact⟨.ref s.heap.objs.size,_,I.laid (t':=tk) hk (o_ _) (show aO X.prog X.w _ h' _ (.lst (kH a c n)) from ⟨by rw [nR];omega,acc.toList,c',mm hacc,by simpa using e⟩),rfl,q _ (I.hok.fresh (o_ _))⟩
end
def nS:typeLookup (.type "list_reverseiterator") "__len__"=pure none:=by rw [typeLookup_type,builtinLookup_eq_fast];kernel_rfl
def qm:typeLookup (.type "list_reverseiterator") "__length_hint__"=pure (some (.builtin "list_reverseiterator.__length_hint__")):=by rw [typeLookup_type,builtinLookup_eq_fast];kernel_rfl
section
variable {prog:m_}{w:World}{A:v_}{E:Value->c_->Prop}{s:c_}{I l:Addr}{items:Array Value}
def qo{Q:Bool->c_->Prop}{i:Int}(hit:s.heap.IsRevIter I l i)(h:Q false s):wpAny (model prog w) A (BX (.ref I)) Q E s:=by
 unfold BX;refine cy (BN hit.typeIs nS ?_);show wpAny _ A (specialOf (k_ I) (Str.ofString "__length_hint__") >>= _) _ _ _;refine cy (BN hit.typeIs qm ?_)
 (generalize hid:("list_reverseiterator.__length_hint__":String)=id0;(fail_if_success (clear hid id0));wp_delta;rw [show splitId id0=some ("list_reverseiterator","__length_hint__") from by subst hid;decide +kernel];subst hid)
 refine cy (wpAny_isInstance (b:=true) hit.typeIs (by rw [isSubtype_type];kernel_rfl) ?_);exact f_ h
theorem mq{R:Result->c_->Prop}(hh:A.handled=none)(hit:s.heap.IsRevIter I l ((items.size:Int) - 1))(hl:s.heap.IsList l items)(hlI:l≠I)(hsz:items.size<=sizeLine)(Sx:Addr)(res:Value)(c₀:Nat)
  (hS:s.heap.get? Sx=some { cls:=.type "list",data:=.seq #[] c₀ }) (hSI:Sx≠I) (hSl:Sx≠l)
  (hR:∀h' tk acc' c',(∀b o,b≠Sx->b≠I->s.heap.get? b=some o->h'.get? b=some o)->h'.get? Sx=some { cls:=.type "list",dict:=none,data:=.seq acc' c',slots:=#[] } ->
   ItemsOf (λi v=>items[items.size - 1 - i]?=some v) acc' items.size->R (.ok (.ret res)) { s with heap:=h',toks:=tk }) :
  wpAny (model prog w) A.in1 (zV (.ref Sx) (.ref I) res)
   (λfin s'=>match fin with|.done f=>R (.ok f) s'|.again c'=>c'.quiet=true/\codeAny (model prog w) A c' R s') (λe s'=>R (.error e) s') s:=by
 have hSf:Sx∉[I,l]:=λhm=>by
  rcases mem_cons.mp hm with e|e
  .exact hSI e
  .exact hSl (s_.mp e)
 have W:=(Walks.listRev (prog:=prog) (w:=w) (A:=A.in1) hh I l hlI items).toS;unfold zV;refine cy (BV (T:="list_reverseiterator") hit.typeIs ?_);have h1:Builtin.List.listSameRef (.ref Sx) (.ref I)=false:=by simp [Builtin.List.listSameRef,hSI]
 have h2:(Aq "list_reverseiterator" == Aq "list")=false:=by decide
 have h3:(Aq "list_reverseiterator" == Aq "tuple")=false:=by decide
 simp only [h1,h2,h3,Cn,false_eq_true,if_false];refine cy (wpAny_pyIter_revIter hit ?_);refine cy (zR (qo hit ?_));refine wpAny_ite_split (λhab=>absurd hab (by decide)) (λ_=>?_);refine f_ ⟨plainId_quiet F.plain_extend_loop _,codeAny_extend_loopS W hsz Sx hSf res items.size 0 _ #[] c₀ rfl (AK _) ⟨AK _,by simpa using hit,hl⟩ hS (ItemsOf.nil _) λs' acc' c' hm hS' hacc=>?_⟩
 rw [Moved.eq_with hm];refine hR s'.heap s'.toks acc' c' (λb o hb hbI e=>hm.heap b o (λhmem=>?_) e) hS' hacc
 rcases mem_cons.mp hmem with e'|hmem
 .exact hb e'
 .exact hbI (s_.mp hmem)
theorem iK{R:Result->c_->Prop}(hh:A.handled=none)(hit:s.heap.IsRevIter I l ((items.size:Int) - 1))(hl:s.heap.IsList l items)(hlI:l≠I)(hsz:items.size<=sizeLine)(Sx:Addr)
  (hS:s.heap.get? Sx=some { cls:=.type "list",data:=.seq #[] }) (hSI:Sx≠I) (hSl:Sx≠l)
  (hR:∀h' tk acc' c',(∀b o,b≠Sx->b≠I->s.heap.get? b=some o->h'.get? b=some o)->h'.get? Sx=some { cls:=.type "list",dict:=none,data:=.seq acc' c',slots:=#[] } ->
   ItemsOf (λi v=>items[items.size - 1 - i]?=some v) acc' items.size->R (.ok (.ret .none)) { s with heap:=h',toks:=tk }) :
  wpAny (model prog w) A.in1 (BR.«list.__init__» ⟨[.ref Sx,.ref I],[]⟩)
   (λfin s'=>match fin with|.done f=>R (.ok f) s'|.again c'=>c'.quiet=true/\codeAny (model prog w) A c' R s') (λe s'=>R (.error e) s') s:=by
 show wpAny _ _ (do let old <- Builtin.List.listItems (.ref Sx);Builtin.List.listUpdate (.ref Sx) (λ_=>#[]);letGo old.toList.reverse;zV (.ref Sx) (.ref I) .none) _ _ s;refine cy ?_;unfold Builtin.List.listItems;refine cy (wpAny_seqItems hS rfl (f_ ?_));show wpAny _ _ (updateSeq Sx (λ_=>#[]) >>= λ_=>letGo (#[]:Array Value).toList.reverse >>= λ_=>zV (.ref Sx) (.ref I) .none) _ _ s
 refine cy (wpAny_updateSeq hS rfl ?_);have hS₂:=A6 (Ba (λ_=>(#[]:Array Value))) hS rfl
 have oth:∀b o,b≠Sx->s.heap.get? b=some o->(s.heap.update Sx (Ba (λ_=>(#[]:Array Value)))).get? b=some o :=
  λb o hb e=>(Heap.get?_update_other _ _ (A3 hb)).trans e
 refine cy (wpAny_letGo ?_);refine mq hh (hit.at λo e=>oth I o (A3 hSI) e) (hl.at λo e=>oth l o (A3 hSl) e) hlI hsz Sx .none _ hS₂ hSI hSl λh' tk acc' c' hk hS' hacc=>?_;exact hR h' tk acc' c' (λb o hb hbI e=>hk b o hb hbI (oth b o hb e)) hS' hacc
def iL{Q:Value->c_->Prop}(hh:A.handled=none)(hit:s.heap.IsRevIter I l ((items.size:Int) - 1))(hl:s.heap.IsList l items)(hlI:l≠I)(hsz:items.size<=sizeLine)
  (hQ:∀h' tk acc' c',(∀b o,b≠I->s.heap.get? b=some o->h'.get? b=some o) ->
   h'.get? s.heap.objs.size=some { cls:=.type "list",dict:=none,data:=.seq acc' c',slots:=#[] }->ItemsOf (λi v=>items[items.size - 1 - i]?=some v) acc' items.size->Q (.ref s.heap.objs.size) { s with heap:=h',toks:=tk }) :
  wpAny (model prog w) A (call (.type "list") [.ref I]) Q E s:=by
 refine callType_codes (Q₁:=λobj s₁=>obj=.ref s.heap.objs.size/\s₁={ s with heap:=s.heap.push { cls:=.type "list",data:=.seq #[] } }) F.called_list (F.typeCall_list_1 _) F.entry_list_init
  (code_list_new _ ⟨rfl,rfl⟩) λobj s₁ h₁=>?_
 obtain⟨rfl,rfl⟩:=h₁;have hS:(s.heap.push { cls:=.type "list",data:=.seq #[] }).get? s.heap.objs.size=some { cls:=.type "list",data:=.seq #[] }:=q_ _ rfl
 have hSI:s.heap.objs.size≠I:=by
  obtain⟨o,ho,_⟩:=hit;exact CQ (h_ ho)
 have hSl:s.heap.objs.size≠l:=by
  obtain⟨o,ho,_⟩:=hl;exact CQ (h_ ho)
 refine⟨⟨_,hS,rfl⟩,F.args_list_init_2 _ _,iK (A:=A.in1) hh (hit.at λo e=>e_ _ e) (hl.push _) hlI hsz _ hS hSI hSl λh' tk acc' c' hk hS' hacc=>?_⟩;exact⟨rfl,hQ h' tk acc' c' (λb o hb e=>hk b o (zI (h_ e)) hb (e_ _ e)) hS' hacc⟩
end
def qt{xs:List V}{its:List Value}(r:aX xs its){acc:Array Value}(h:ItemsOf (λi v=>its.toArray[its.toArray.size - 1 - i]?=some v) acc its.toArray.size):aX xs.reverse acc.toList:=by
 have e:acc.toList=its.reverse:=by
  obtain⟨hn,hi⟩:=h;apply CH;intro i
  by_cases hil:i<its.length
  .have hia:i<acc.size:=by rw [hn];simpa using hil
   have:=hi i acc[i] (by simp);rw [getElem?_reverse hil];have e1:acc.toList[i]?=some acc[i]:=by simp
   rw [e1,<- this];simp
  .have hna:acc.toList.length=its.length:=by simpa using hn
   rw [y_ (by omega),y_ (by rw [CT];omega)]
 rw [e];exact r.reverse
section
variable {X:Cx}{e:Expr}{te:TE}{p p1 p2 pos:Pos}
def mr(hc:X.calm=true)(he:PE X e te)(hg1:Gl X "list")(hm1:X.mg "list"=none)(hg2:Gl X "reversed")(hm2:X.mg "reversed"=none)
  (hs:starEach [.Call (.Name "reversed" p1) [e] [] p2] X.env=[(false,eval (.Call (.Name "reversed" p1) [e] [] p2) X.env)]:=by rfl) (hs2:starEach [e] X.env=[(false,eval e X.env)]:=by rfl) :
  PE X (.Call (.Name "list" p) [.Call (.Name "reversed" p1) [e] [] p2] [] pos) (λσ H Q=>te σ H λx H1=>∃a xs,x=.ref a/\SqL X.K H1 a xs/\∀l,H1 l=none->Q (.ref l) (upd H1 l (.lst xs.reverse))):=by
 intro pins s σ H Q I h;refine Call_ (fi I hg1 hm1 B1 (zU ?_ hs rfl));rw [hs];show wpAny _ _ (spliced ((false,eval (.Call (.Name "reversed" p1) [e] [] p2) X.env)::backTo pos [])) _ _ s;refine B5 ?_;refine Call_ (fi I hg2 hm2 boot_reversed (zU ?_ hs2 rfl));rw [hs2];show wpAny _ _ (spliced ((false,eval e X.env)::backTo p2 [])) _ _ s
 refine B5 (thn (he pins s σ H _ I h) λu s1 ⟨x,H1,I1,r1,q1⟩=>Cg ?_);obtain⟨a,xs,rfl,hS,q⟩:=q1;cases r1;obtain⟨its,rv,pl,hz⟩:=I1.list hS;have hlen:=rv.length;refine call_reversed_list pl.isList ?_;refine Cg ?_
 have hal:a<s1.heap.objs.size:=by
  obtain⟨o,ho,_⟩:=pl.isList;exact h_ ho
 have I2:Inv X pins σ H1 { s1 with heap:=s1.heap.push (revObj a ((its.toArray.size:Int) - 1)) }:=I1.kept (t':=s1.toks) λb o e=>e_ _ e;refine iL (I1.ok.hd hc) (I:=s1.heap.objs.size) (l:=a) (items:=its.toArray) ⟨_,q_ _ rfl,rfl,rfl⟩ (pl.isList.push _) (zI hal) (by rw [size_toArray];omega) λh' tk acc' c' hk eL hacc=>?_;have hfI:=I1.fpOk (H':=H1) (o_ s1.heap.objs.size) (I1.hok.fresh (o_ _))
 obtain⟨f0,f1,f2,f3,f4,f5⟩:=hfI;have hLn:H1 (s1.heap.push (revObj a ((its.toArray.size:Int) - 1))).objs.size=none:=I2.hok.fresh (o_ _);have hLlt:∀b o,(s1.heap.push (revObj a ((its.toArray.size:Int) - 1))).get? b=some o->b≠(s1.heap.push (revObj a ((its.toArray.size:Int) - 1))).objs.size:=λb o e=>zI (h_ e);have nit:∀b u,H1 b=some u->b≠s1.heap.objs.size:=λb u e z=>by rw [z,f0] at e;cases e
 have neL:∀b u,H1 b=some u->b≠(s1.heap.push (revObj a ((its.toArray.size:Int) - 1))).objs.size:=λb u e z=>by rw [z,hLn] at e;cases e
 have hokT:HOk X.prog X.w H1 h':=λb u e=>by
  refine (I2.hok b u e).stay (λc v hc q=>hk c v ?_ q) (λ_ q=>q) λ_ _ q=>q
  rcases hc with z|z
  .rw [z];exact nit b u e
  .exact nit c _ z
 refine⟨.ref _,upd H1 (s1.heap.push (revObj a ((its.toArray.size:Int) - 1))).objs.size (.lst xs.reverse),?_,rfl,q _ hLn⟩
 refine I2.step (g':=s1.gens) (d':=s1.drawn) (t':=tk) (ch:=[s1.heap.objs.size]) (λb hb=>?_) (λb o _ _ hc e _=>hk b o (λz=>hc (by simp [z])) e) (λb o _ _ hc e _=>⟨o.slots,hk b o (λz=>hc (by simp [z])) e⟩)
  (λb o _ e n=>by rw [ai (hLlt b o e)];exact n) (λb o hc e=>⟨o,hk b o (λz=>hc (by simp [z])) e⟩) (λb ys e=>by rw [ai (neL b _ e)];exact e) (λb o u e=>by rw [ai (neL b _ e)];exact e)
  (λb ps e=>⟨#[],by rw [ai (neL b _ e),e];simp⟩) (λm hm=>?_) ?_ I2.bare
 .have e:b=s1.heap.objs.size:=by simpa using hb
  subst e;exact⟨f3,f1,f4,f5⟩
 .obtain⟨o,es,ep,ho,r⟩:=hm;exact⟨o,es,ep,hk _ o (A3 f1) ho,r⟩
 .intro b u e
  by_cases hb:b=(s1.heap.push (revObj a ((its.toArray.size:Int) - 1))).objs.size
  .subst hb;rw [ax] at e;cases e;exact⟨by rw [CT];exact hz,acc'.toList,c',qt rv hacc,by simpa using eL⟩
  .rw [ai hb] at e
   refine (hokT b u e).stay (λc v _ q=>q) (λc q=>?_) λc ys q=>?_
   .rw [ai (neL c _ q)];exact q
   .rw [ai (neL c _ q)];exact q
end
noncomputable def Sq(k:Bool)(K:b_)(H:Hp)(a:Addr)(xs:List V):Prop:=cond k (SqT K H a xs) (SqL K H a xs)
section
variable {X:Cx}{tg:Expr}
noncomputable def Itk(k:Bool)(K:b_)(a:Addr):It:=cond k (Itt K a) (Itl K a)
noncomputable def vy(K:b_):R2:=λx y H Q=>∃l b xs zs,x=.ref l/\y=.ref b/\SqL K H l xs/\SqL K H b zs/\xs.length+zs.length<=sizeLine/\∀p,H p=none->Q (.ref p) (upd H p (.lst (xs++zs)))
def sS:OpR X (binaryOp .Add) (vy X.K):=by
 intro pins s σ H x y v u Q I rx ry h;obtain⟨l,b,xs,zs,rfl,rfl,hH,hB,hz,q⟩:=h;cases rx;cases ry;obtain⟨its,r,pl,hl⟩:=I.list hH;obtain⟨its2,r2,pl2,hl2⟩:=I.list hB;obtain⟨⟨cls,dd,data,sl⟩,ho,hc,n,hd⟩:=pl.isList;obtain⟨⟨cls2,dd2,data2,sl2⟩,ho2,hc2,n2,hd2⟩:=pl2.isList;simp only at hc hd hc2 hd2;subst hc hd hc2 hd2;have n1:=r.length;have n2':=r2.length;have ea:its.toArray++its2.toArray=(its++its2).toArray:=by simp
 have fin:EP X pins σ Q (.ref s.heap.objs.size) { s with heap:=s.heap.push { cls:=.type "list",data:=.seq (its.toArray++its2.toArray) } }:=by
  rw [ea];exact⟨.ref _,_,I.lnew (t':=s.toks) (r.append r2) (by rw [length_append];omega),rfl,q _ I.fresh⟩
 exact CD ⟨_,ho,rfl⟩ ⟨_,ho2,rfl⟩ noFill_list_add seq_list_add PySem.F.slot_list_add PySem.F.entry_list_add (PySem.F.args_list_add_2 _ _) (list_addW l b its.toArray its2.toArray n n2 dd dd2 sl sl2 (by simp;omega)) ⟨ho,ho2,fin⟩
end
noncomputable def kI(n:Nat)(d:Bv):Prop:=d.canLay0=true/\d.depth<=n
def kI.shaped{n:Nat}{d:Bv}(h:kI n d)(hn:n<=64):AA d=true:=by
 unfold AA;rw [h.1,decide_eq_true (Af h.2 hn)];rfl
theorem nU{n:Nat}:∀{ds:List Bv},(∀d∈ds,kI n d)->PyData.canLayAll0 ds=true/\PyData.depthAll ds<=n
 | [],_=>⟨rfl,AK _⟩
 | d::ds,h=>by
  obtain⟨a,b⟩:=nU (ds:=ds) λx hx=>h x (w_ _ hx);obtain⟨c,e⟩:=h d mem_cons_self;simp only [PyData.canLayAll0,PyData.depthAll,a,c];exact⟨rfl,max_le.mpr ⟨e,b⟩⟩
def kI.list{n:Nat}{ds:List Bv}(h:∀d∈ds,kI n d):kI (n+1) (.list ds):=by
 obtain⟨a,b⟩:=nU h;exact⟨by simp only [PyData.canLay0];exact a,by simp only [PyData.depth];omega⟩
def kI.int(i:Int):kI 0 (.int i):=⟨by simp [PyData.canLay0],by simp [PyData.depth]⟩
def jC(ns:List Int):∀d∈ns.map CG,kI 0 d:=λd hd=>by
 obtain⟨i,_,rfl⟩:=zW.mp hd;exact kI.int i
def qu{d:Bv}(h:AA d=true):Bb d d=true:=SeqAt.eqv_refl d (SeqAt.canLay_of_shaped h)
section
variable {κ:Type} [DecidableEq κ]
noncomputable def kJ(kvs:List (κ×V))(k:κ):Option V:=(kvs.find? λkv=>decide (kv.1=k)).map (·.2)
noncomputable def gX(kvs:List (κ×V))(k:κ)(v:V):List (κ×V) :=
 if (kvs.any λkv=>decide (kv.1=k))=true then kvs.map (λkv=>if kv.1=k then (kv.1,v) else kv) else kvs++[(k,v)]
def fV{p:κ×V}{r:List (κ×V)}{k:κ}(e:p.1=k):kJ (p::r) k=some p.2:=by simp [kJ,AQ,e]
def fW{p:κ×V}{r:List (κ×V)}{k:κ}(e:¬ p.1=k):kJ (p::r) k=kJ r k:=by simp [kJ,AQ,e]
theorem lI(k:κ):∀kvs:List (κ×V),(kvs.any λkv=>decide (kv.1=k))=(kJ kvs k).isSome
 | []=>rfl
 | p::r=>by
  rw [any_cons]
  by_cases e:p.1=k
  .simp only [fV e,decide_eq_true e,Bool.true_or,Option.isSome_some]
  .rw [fW e,decide_eq_false e,C5];exact lI k r
def dM(kvs:List (κ×V))(k:κ)(v:V):(gX kvs k v).length<=kvs.length+1:=by
 unfold gX
 split
 .rw [length_map];omega
 .rw [length_append,length_cons,length_nil];omega
def l4.isSome_eq{o:Option V}{u:Option Value}(r:l4 o u):o.isSome=u.isSome:=by
 cases o with
 | none=>cases u with
  | none=>rfl
  | some _=>exact (show False from r).elim
 | some _=>cases u with
  | none=>exact (show False from r).elim
  | some _=>rfl
def KV.val{kvs:List (κ×V)}{vs:List (κ×Value)}(r:KV kvs vs)(k:κ):l4 (kJ kvs k) (valueAt vs k):=by
 unfold KV at r
 induction r with
 | nil=>exact zY
 | @cons p q ps qs h t ih =>
  obtain⟨h1,h2⟩:=h
  by_cases e:p.1=k
  .have e':q.1=k:=h1.symm.trans e;have b:valueAt (q::qs) k=some q.2:=by simp [valueAt,AQ,e']
   rw [fV e,b];exact h2
  .have e':¬ q.1=k:=λz=>e (h1.trans z);have b:valueAt (q::qs) k=valueAt qs k:=by simp [valueAt,AQ,e']
   rw [fW e,b];exact ih
def KV.any{kvs:List (κ×V)}{vs:List (κ×Value)}(r:KV kvs vs)(k:κ):(kvs.any λkv=>decide (kv.1=k))=vs.any λkv=>decide (kv.1=k):=by
 unfold KV at r
 induction r with
 | nil=>rfl
 | cons h t ih=>rw [any_cons,any_cons,ih,h.1]
def KV.repl{kvs:List (κ×V)}{vs:List (κ×Value)}(r:KV kvs vs)(k:κ){y:V}{u:Value}(ry:bz y u) :
  KV (kvs.map λkv=>if kv.1=k then (kv.1,y) else kv) (vs.map λkv=>if kv.1=k then (kv.1,u) else kv):=by
 unfold KV at r ⊢
 induction r with
 | nil=>exact .nil
 | @cons p q ps qs h t ih =>
  rw [map_cons,map_cons];refine .cons ?_ ih;obtain⟨h1,h2⟩:=h
  by_cases e:p.1=k
  .rw [if_pos e,if_pos (h1.symm.trans e)];exact⟨h1,ry⟩
  .rw [if_neg e,if_neg (λz=>e (h1.trans z))];exact⟨h1,h2⟩
def KV.put{kvs:List (κ×V)}{vs:List (κ×Value)}(r:KV kvs vs)(k:κ){y:V}{u:Value}(ry:bz y u):KV (gX kvs k y) (stored vs k u):=by
 unfold gX stored;rw [r.any k]
 by_cases e:(vs.any λkv=>decide (kv.1=k))=true
 .rw [if_pos e,if_pos e];exact r.repl k ry
 .rw [if_neg e,if_neg e];exact Paired.snoc r ⟨rfl,ry⟩
def KV.length{kvs:List (κ×V)}{vs:List (κ×Value)}(r:KV kvs vs):kvs.length=vs.length:=Paired.length r
end
def mw{P:m_}{w:World}{k:Key}{u:Value}(r:bz (kV k) u):(bf P w).is k u=true:=by
 cases k with
 | inl i=>obtain⟨t,e⟩:=(show ∃t,u=B0 i t from r);subst e;exact kt P w i t
 | inr x=>obtain⟨t,e⟩:=(show ∃t,u=BA x t from r);subst e;exact ku P w x t
theorem jD{P:m_}{w:World}:∀{ks:List Key}{us:List Value},aX (ks.map kV) us->ItemsAre (bf P w) ks us
 | [],_,r=>by rw [map_nil] at r;cases r;exact .nil
 | k::ks,_,r=>by
  rw [map_cons] at r
  cases r with
  | cons h t=>exact .cons (mw h) (jD t)
abbrev KT(H:Hp):List (List Key×V)->List (List Key×Addr×Value)->Prop:=Paired λp q=>p.1=q.1/\H q.2.1=some (.tup (p.1.map kV))/\bz p.2 q.2.2
def KT.val{H:Hp}{kvs:List (List Key×V)}{xs:List (List Key×Addr×Value)}(r:KT H kvs xs)(k:List Key):l4 (kJ kvs k) ((atKey xs k).map (·.2)):=by
 induction r with
 | nil=>exact zY
 | @cons p q ps qs h t ih =>
  obtain⟨h1,_,h2⟩:=h
  by_cases e:p.1=k
  .have e':q.1=k:=h1.symm.trans e;have b:atKey (q::qs) k=some q.2:=by simp [atKey,AQ,e']
   rw [fV e,b];exact h2
  .have e':¬ q.1=k:=λz=>e (h1.trans z);have b:atKey (q::qs) k=atKey qs k:=by simp [atKey,AQ,e']
   rw [fW e,b];exact ih
def KT.repl{H:Hp}{kvs:List (List Key×V)}{xs:List (List Key×Addr×Value)}(r:KT H kvs xs)(k:List Key){y:V}{u:Value}(ry:bz y u) :
  KT H (kvs.map λkv=>if kv.1=k then (kv.1,y) else kv) (xs.map (putAt k u)):=by
 induction r with
 | nil=>exact .nil
 | @cons p q ps qs h t ih =>
  rw [map_cons,map_cons];refine .cons ?_ ih;obtain⟨h1,h2,h3⟩:=h;unfold putAt
  by_cases e:p.1=k
  .rw [if_pos e,if_pos (h1.symm.trans e)];exact⟨h1,h2,ry⟩
  .rw [if_neg e,if_neg (λz=>e (h1.trans z))];exact⟨h1,h2,h3⟩
def KT.put{H:Hp}{kvs:List (List Key×V)}{xs:List (List Key×Addr×Value)}(r:KT H kvs xs)(k:List Key){b:Addr}{y:V}{u:Value}(hb:H b=some (.tup (k.map kV)))(ry:bz y u) :
  KT H (gX kvs k y) (storedH xs k b u):=by
 have e:(kvs.any λkv=>decide (kv.1=k))=(atKey xs k).isSome:=by
  rw [lI,(r.val k).isSome_eq,Ck]
 unfold gX storedH;rw [e]
 by_cases q:(atKey xs k).isSome=true
 .rw [if_pos q,if_pos q];exact r.repl k ry
 .rw [if_neg q,if_neg q];exact Paired.snoc r ⟨rfl,hb,ry⟩
def KT.keeps{H H':Hp}{kvs:List (List Key×V)}{xs:List (List Key×Addr×Value)}(r:KT H kvs xs)(ht:∀b ys,H b=some (.tup ys)->H' b=some (.tup ys)):KT H' kvs xs :=
 Paired.mapP r λ_ _ z=>⟨z.1,ht _ _ z.2.1,z.2.2⟩
section
variable {P:m_}{w:World}{H:Hp}{h:Heap}{a:Addr}
def vz{u:HO}(ok:HOk P w H h)(e:Rd H a u):aO P w H h a u:=e.ok ok
def mx{kvs:List (Key×V)}(ok:HOk P w H h)(e:Rd H a (.dK kvs)):kvs.length<=sizeLine/\(a == sysModules)=false/\∃vs,KV kvs vs/\h.DictOf (bf P w) a vs :=
 show aO P w H h a (.dK kvs) from vz ok e
def vA{kvs:List (Key×V)}(ok:HOk P w H h)(e:H a=some (.dK kvs)):kvs.length<=sizeLine/\(a == sysModules)=false/\∃vs,KV kvs vs/\h.DictOf (bf P w) a vs:=mx ok (.inl e)
def jE{ks:List Key}(ok:HOk P w H h)(e:H a=some (.tup (ks.map kV))):(tupleKind (bf P w)).is h ks a:=by
 obtain⟨_,its,r,o,h1,h2,n,h3⟩:=(show aO P w H h a (.tup (ks.map kV)) from ok a _ e)
 exact⟨o,its.toArray,n,h1,h2,h3,by simpa using jD r⟩
def nV{kvs:List (List Key×V)}(ok:HOk P w H h)(e:Rd H a (.dT kvs)):kvs.length<=sizeLine/\(a == sysModules)=false /\
  ∃xs,KT H kvs xs/\h.DictOfH (tupleKind (bf P w)) a xs:=by
 obtain⟨z,y,xs,r,o,es,ep,h1,h2,h3,h4,h5⟩:=(show aO P w H h a (.dT kvs) from vz ok e)
 refine⟨z,y,xs,r,o,es,ep,h1,h2,h3,h4,λx hx=>?_,h5⟩
 have all:∀{l:List (List Key×V)}{m:List (List Key×Addr×Value)},KT H l m->∀x∈m,(tupleKind (bf P w)).is h x.1 x.2.1:=by
  intro l m q
  induction q with
  | nil=>intro x hx;exact nomatch hx
  | @cons p q ps qs hq t ih =>
   intro x hx
   rcases mem_cons.mp hx with e|hx
   .subst e;exact jE ok (by rw [<- hq.1];exact hq.2.1)
   .exact ih x hx
 exact all r x hx
def xr{kvs:List (List Key×V)}(ok:HOk P w H h)(e:H a=some (.dT kvs)):kvs.length<=sizeLine/\(a == sysModules)=false /\
  ∃xs,KT H kvs xs/\h.DictOfH (tupleKind (bf P w)) a xs:=nV ok (.inl e)
end
noncomputable def nW(H:Hp)(a:Addr)(y:V)(r:Option V):Prop :=
 (∃kvs k,Rd H a (.dK kvs)/\y=kV k/\r=kJ kvs k)\/∃kvs k b,Rd H a (.dT kvs)/\y=.ref b/\H b=some (.tup (k.map kV))/\r=kJ kvs k
noncomputable def vB(H:Hp)(a:Addr)(y v:V)(H':Hp):Prop :=
 (∃kvs k,H a=some (.dK kvs)/\y=kV k/\kvs.length<sizeLine/\H'=upd H a (.dK (gX kvs k v))) \/
 ∃kvs k b,H a=some (.dT kvs)/\y=.ref b/\H b=some (.tup (k.map kV))/\kvs.length<sizeLine/\H'=upd H a (.dT (gX kvs k v))
def nW.k{H:Hp}{a:Addr}{kvs:List (Key×V)}{k:Key}(e:H a=some (.dK kvs)):nW H a (kV k) (kJ kvs k):=.inl ⟨kvs,k,.inl e,rfl,rfl⟩
def vB.k{H:Hp}{a:Addr}{kvs:List (Key×V)}{k:Key}{v:V}(e:H a=some (.dK kvs))(hl:kvs.length<sizeLine):vB H a (kV k) v (upd H a (.dK (gX kvs k v))):=.inl ⟨kvs,k,e,rfl,hl,rfl⟩
section
variable {X:Cx}{pins:List (Addr×Obj)}{σ:St}{H:Hp}{s:c_}{a:Addr}{y v:V}{u r:Value}{o:Option V}{A:v_}{E:Value->c_->Prop}
def Inv.big(I:Inv X pins σ H s):sysModules<s.heap.objs.size:=by
 have h:mainGlobals<s.heap.objs.size:=(I.mod.glob.keeps I.bk).lt;exact lt_trans (by decide) h
def nX{Q:Value->c_->Prop}(hu:A.units+1<cLine)(I:Inv X pins σ H s)(g:nW H a y (some v))(ry:bz y u)(h:∀w' s',Inv X pins σ H s'->bz v w'->Q w' s') :
  wpAny (model X.prog X.w) A (getItem (.ref a) u) Q E s:=by
 rcases g with ⟨kvs,k,e,ey,l⟩|⟨kvs,k,b,e,ey,eb,l⟩
 .subst ey;obtain⟨z,hd,vs,rel,dd⟩:=mx I.hok e;obtain⟨w',hw,rw'⟩:=l4.some_of (v:=v) (o:=valueAt vs k) (by rw [l];exact rel.val k);exact wpAny_getItem_of (mw ry) dd.mapOf hw (h w' _ (I.tok _) rw')
 .subst ey;cases (show u=k_ b from ry);obtain⟨z,hd,xs,rel,dd⟩:=nV I.hok e;obtain⟨w',hw,rw'⟩:=l4.some_of (v:=v) (o:=(atKey xs k).map (·.2)) (by rw [l];exact rel.val k);obtain⟨p,hp,hp2⟩:=Ax.mp hw;refine wpAny_getItem_heap (Ca hu) (jE I.hok eb) dd hp ?_;rw [hp2];exact h w' _ (I.tok _) rw'
def ze{Q:Value->c_->Prop}(hu:A.units+1<cLine)(I:Inv X pins σ H s)(g:nW H a y o)(ry:bz y u)(h:∀s',Inv X pins σ H s'->Q (.bool o.isSome) s') :
  wpAny (model X.prog X.w) A (compareOp .In u (.ref a)) Q E s:=by
 rcases g with ⟨kvs,k,e,ey,l⟩|⟨kvs,k,b,e,ey,eb,l⟩
 .subst ey;obtain⟨z,hd,vs,rel,dd⟩:=mx I.hok e;refine wpAny_in_of (mw ry) hd dd.mapOf ?_;rw [<- (rel.val k).isSome_eq,<- l];exact h _ (I.tok _)
 .subst ey;cases (show u=k_ b from ry);obtain⟨z,hd,xs,rel,dd⟩:=nV I.hok e;refine wpAny_in_heap (Ca hu) (jE I.hok eb) hd dd ?_;have q:=(rel.val k).isSome_eq;rw [Ck] at q;rw [<- q,<- l];exact h _ (I.tok _)
def sU{Q:Value->c_->Prop}(hu:A.units+1<cLine)(I:Inv X pins σ H s)(g:nW H a y o)(ry:bz y u)(h:∀s',Inv X pins σ H s'->Q (.bool (!o.isSome)) s') :
  wpAny (model X.prog X.w) A (compareOp .NotIn u (.ref a)) Q E s:=by
 rcases g with ⟨kvs,k,e,ey,l⟩|⟨kvs,k,b,e,ey,eb,l⟩
 .subst ey;obtain⟨z,hd,vs,rel,dd⟩:=mx I.hok e;refine wpAny_notIn_of (mw ry) hd dd.mapOf ?_;rw [<- (rel.val k).isSome_eq,<- l];exact h _ (I.tok _)
 .subst ey;cases (show u=k_ b from ry);obtain⟨z,hd,xs,rel,dd⟩:=nV I.hok e;refine wpAny_notIn_heap (Ca hu) (jE I.hok eb) hd dd ?_;have q:=(rel.val k).isSome_eq;rw [Ck] at q;rw [<- q,<- l];exact h _ (I.tok _)
def kL{h':Heap}{t':Nat}{ob:HO}(I:Inv X pins σ H s)(mu:Mut (H a))(hs:CB a s.heap h')(he:∃q,h'.get? a=some q)(new:aO X.prog X.w (upd H a ob) h' a ob) :
  Inv X pins σ (upd H a ob) { s with heap:=h',toks:=t' } :=
 I.write (x:=a) (e:=a) mu (.inl rfl) (λb q hb z=>(hs.2 b hb).trans z) he new
def rz{P:m_}{w:World}{H':Hp}{h':Heap}{kvs:List (Key×V)}{vs:List (Key×Value)}(z:kvs.length<=sizeLine)(hd:(a == sysModules)=false)(rel:KV kvs vs)(dd:h'.DictOf (bf P w) a vs) :
  aO P w H' h' a (.dK kvs):=⟨z,hd,vs,rel,dd⟩
end
section
variable {X:Cx}{pins:List (Addr×Obj)}{σ:St}{H:Hp}{s:c_}{a:Addr}{kvs:List (Key×V)}{k:Key}{u:Value}{A:v_}{E:Value->c_->Prop}
def xt{Q:Value->c_->Prop}(I:Inv X pins σ H s)(e:Rd H a (.dK kvs))(h:∀t s',Inv X pins σ H s'->Q (.int kvs.length t) s'):wpAny (model X.prog X.w) A (call (.builtin "len") [.ref a]) Q E s:=by
 obtain⟨z,hd,vs,rel,dd⟩:=mx I.hok e;refine call_len_dict hd dd (by rw [<- rel.length];rw [A9] at z;omega) ?_;rw [<- rel.length];exact h _ _ (I.tok _)
end
noncomputable def xu(i:Expr):Prop:=∀ov iv,subscripted i false ov iv=operate [ov,iv] (getItem ov iv)
def sV{prog:m_}{w:World}{A:v_}{E:Value->c_->Prop}{s:c_}{env:Env}{value slice:Expr}{pos:Pos}{T id:String}{Q:Value->c_->Prop}
  (hl:typeLookup (.type T) "__getitem__"=pure (some (.builtin id))) (hs:xu slice)
  (h:wpAny (model prog w) A (eval value env) (λo s₁=>wpAny (model prog w) A (eval slice env) (λi s₂=>s₂.TypeIs o T/\wpAny (model prog w) A (getItem o i) Q E s₂) E s₁) E s) :
  wpAny (model prog w) A (eval (.Subscript value slice pos) env) Q E s:=by
 refine Subscript_ (zG h (λo s₁ h₁=>zG h₁ (λi s₂ h₂=>?_) λ_ _ x=>x) λ_ _ x=>x);obtain⟨hT,h₂⟩:=h₂;unfold subscriptTail;refine cy ?_;rw [getitemInPython_of_ne hT.not_modules];refine cy (BN hT hl ?_)
 have fin:wpAny (model prog w) A (subscripted slice false o i) (λr s₃=>wpAny (model prog w) A (letTemporaryGo value o r >>= λ_=>pure r) Q E s₃) E s₂:=by
  rw [hs o i];exact wpAny_operating (zG h₂ (λr s₃ h₃=>cy (wpAny_letTemporaryGo (f_ h₃))) λ_ _ x=>x)
 first
  | exact f_ (cy fin)
  | exact cy (f_ (cy fin))
  | exact cy fin
def kM{X:Cx}{pins:List (Addr×Obj)}{σ:St}{H:Hp}{s:c_}{a:Addr}{y:V}{o:Option V}(I:Inv X pins σ H s)(g:nW H a y o):s.TypeIs (.ref a) "dict":=by
 rcases g with ⟨kvs,k,e,_,_⟩|⟨kvs,k,b,e,_,_,_⟩
 .obtain⟨_,_,vs,_,dd⟩:=mx I.hok e;exact dd.typeIs
 .obtain⟨_,_,xs,_,dd⟩:=nV I.hok e;exact dd.typeIs
noncomputable def xv(td ty:TE):TE:=λσ H Q=>td σ H λx H1=>ty σ H1 λy H2=>∃a v,x=.ref a/\nW H2 a y (some v)/\Q v H2
section
variable {X:Cx}{o i e value:Expr}{pos pos' tpos:Pos}{td ty tv:TE}
def sW(hu:X.A.units+1<cLine)(ho:PE X o td)(hi:PE X i ty)(hs:xu i):PE X (.Subscript o i pos) (xv td ty):=by
 intro pins s σ H Q I h;refine sV PySem.F.slot_dict_getitem.lookup hs (thn (ho pins s σ H _ I h) λu s1 ⟨x,H1,I1,rx,q1⟩=>thn (hi pins s1 σ H1 _ I1 q1) λiv s2 ⟨y,H2,I2,ry,a,v,ex,g,q2⟩=>?_);subst ex;obtain rfl:u=k_ a:=rx;exact⟨kM I2 g,nX hu I2 g ry λw' s3 I3 rw'=>⟨v,H2,I3,rw',q2⟩⟩
end
def iM{P:m_}{w:World}{H:Hp}(h:Heap)(hb:sysModules<h.objs.size):aO P w H (h.push { cls:=.type "dict",data:=.dict #[] }) h.objs.size (.dK []) :=
 ⟨AK _,beq_eq_false_iff_ne.mpr (A3 (zI hb)),[],.nil,Heap.DictOf.new h⟩
noncomputable def rA:TE:=λ_ H Q=>∀p,H p=none->Q (.ref p) (upd H p (.dK []))
section
variable {X:Cx}{pos:Pos}
def lJ:PE X (.Dict [] [] pos) rA:=λpins s σ H Q I h =>
 wpAny_Dict_empty ⟨.ref s.heap.objs.size,_,I.laid (a:=s.heap.objs.size) (o:=.dK []) (t':=s.toks) (λ_ _ q=>e_ _ q) (o_ _) (iM s.heap I.big),rfl,h _ (I.hok.fresh (o_ _))⟩
end
noncomputable def lK:List (TE×TE)->St->Hp->(List (V×V)->Hp->Prop)->Prop
 | [],_,H,Q=>Q [] H
 | (tk,tv)::r,σ,H,Q=>tk σ H λx H1=>tv σ H1 λy H2=>lK r σ H2 λps H3=>Q ((x,y)::ps) H3
abbrev VV:List (V×V)->List (Value×Value)->Prop:=Paired λp q=>bz p.1 q.1/\bz p.2 q.2
noncomputable def PPs(X:Cx)(pos:Pos)(keys:List (Option Expr))(values:List Expr)(trs:List (TE×TE)):Prop :=
 ∀(pins:List (Addr×Obj)) (s:c_) (σ:St) (H:Hp) (Q:List (V×V)->Hp->Prop),Inv X pins σ H s->lK trs σ H Q ->
  wpAny (model X.prog X.w) X.A (evalPairs (pairTrees keys values X.env pos)) (λvs s'=>∃ps H',Inv X pins σ H' s'/\VV ps vs/\Q ps H') X.xe s
def sX{X:Cx}{pos:Pos}:PPs X pos [] [] []:=λpins s σ H Q I h=>pairTrees_nil_walk ⟨[],H,I,.nil,h⟩
def qv{X:Cx}{pos:Pos}{k v:Expr}{ks:List (Option Expr)}{vs:List Expr}{tk tv:TE}{trs:List (TE×TE)}(hk:PE X k tk)(hv:PE X v tv)(hr:PPs X pos ks vs trs) :
  PPs X pos (some k::ks) (v::vs) ((tk,tv)::trs):=λpins s σ H Q I h =>
 pairTrees_cons_walk (thn (hk pins s σ H _ I h) λu s1 ⟨x,H1,I1,rx,q1⟩=>thn (hv pins s1 σ H1 _ I1 q1) λw2 s2 ⟨y,H2,I2,ry,q2⟩ =>
  thn (hr pins s2 σ H2 _ I2 q2) λws s3 ⟨ps,H3,I3,rel,q3⟩=>⟨(x,y)::ps,H3,I3,.cons ⟨rx,ry⟩ rel,q3⟩)
noncomputable def fk(kvs more:List (Key×V)):List (Key×V):=more.foldl (λacc kv=>gX acc kv.1 kv.2) kvs
def KV.merge:∀{more:List (Key×V)}{rs:List (Key×Value)}{kvs:List (Key×V)}{vs:List (Key×Value)},KV more rs->KV kvs vs->KV (fk kvs more) (merged vs rs):=by
 intro more rs kvs vs r;unfold KV at r
 induction r generalizing kvs vs with
 | nil=>intro q;exact q
 | @cons p q ps qs h t ih =>
  intro r0
  have e:KV (gX kvs p.1 p.2) (stored vs q.1 q.2):=by
   have:=r0.put p.1 h.2;rw [<- h.1];exact this
  exact ih e
theorem eB:∀(more kvs:List (Key×V)),(fk kvs more).length<=kvs.length+more.length
 | [],kvs=>by show kvs.length<=kvs.length+0;omega
 | p::r,kvs=>by
  have h1:=eB r (gX kvs p.1 p.2);have h2:=dM kvs p.1 p.2;show (fk (gX kvs p.1 p.2) r).length<=_;rw [length_cons];omega
theorem iq{P:m_}{w:World}:∀{kvs:List (Key×V)}{ws:List (Value×Value)},VV (kvs.map λkv=>(kV kv.1,kv.2)) ws->∃rs,Carries (bf P w) ws rs/\KV kvs rs
 | [],_,r=>by rw [map_nil] at r;cases r;exact⟨[],zY,.nil⟩
 | p::kvs,_,r=>by
  rw [map_cons] at r
  cases r with
  | @cons a b as bs h t =>
   obtain⟨rs,c,q⟩:=iq (P:=P) (w:=w) t;obtain⟨b1,b2⟩:=b;exact⟨(p.1,b2)::rs,⟨mw h.1,rfl,c⟩,.cons ⟨rfl,h.2⟩ q⟩
noncomputable def vC(trs:List (TE×TE)):TE:=λσ H Q=>∀p,H p=none->lK trs σ (upd H p (.dK [])) λps H2=>H2 p=some (.dK [])/\∃kvs:List (Key×V),ps=kvs.map (λkv=>(kV kv.1,kv.2))/\kvs.length<=15/\Q (.ref p) (upd H2 p (.dK (fk [] kvs)))
def sY{X:Cx}{pos:Pos}{keys:List (Option Expr)}{values:List Expr}{trs:List (TE×TE)}(h:PPs X pos keys values trs)(hall:keys.all (·.isSome)=true)(hl:keys.length=values.length)(h0:keys≠[])
  (h15:keys.length<=15):PE X (.Dict keys values pos) (vC trs):=by
 intro pins s σ H Q I q;have hn:=I.hok.fresh (o_ s.heap.objs.size);have I1:=I.laid (a:=s.heap.objs.size) (o:=.dK []) (h':=s.heap.push { cls:=.type "dict",data:=.dict #[] }) (t':=s.toks) (λ_ _ q=>e_ _ q) (o_ _) (iM s.heap I.big);refine wpAny_Dict_walk (knd:=bf X.prog X.w) hall hl h0 h15 (thn (h pins _ σ _ _ I1 (q _ hn)) λws s2 ⟨ps,H2,I2,rel,e,kvs,ep,lk,q2⟩=>?_);subst ep
 obtain⟨rs,c,rk⟩:=iq (P:=X.prog) (w:=X.w) rel;obtain⟨z,hd,vs0,r0,dd⟩:=vA I2.hok e;cases r0;refine⟨rs,c,dd,λh' dd' hs=>⟨.ref s.heap.objs.size,_,?_,rfl,q2⟩⟩
 have hz:(fk [] kvs).length<=sizeLine:=by
  have h1:=eB kvs [];rw [length_nil] at h1;rw [A9];omega
 have he:∃q,h'.get? s.heap.objs.size=some q:=let ⟨q,_,_,hq,_⟩:=dd';⟨q,hq⟩
 exact kL I2 (by rw [e];exact zY) hs he (rz hz hd (rk.merge .nil) dd')
section
variable {X:Cx}{k:Nat}{x:Str}{ps:List Str}{sp:Sp}{p pos:Pos}{e:Expr}{es:List Expr}{t:TA}{dvs:List V}
def vD{pins:List (Addr×Obj)}{σ:St}{H:Hp}{s:c_}{x:V}{u t:Value}(I:Inv X pins σ H s)(rx:bz x u)(ty:je X.K H x t) :
  ∃Hq:Heap->Prop,PySem.W.KitX X.K u t Hq/\Hq s.heap/\u≠.builtin "__main__.__loader__#opaque":=by
 cases ty with
 | non=>cases (show u=Ah from rx);exact⟨_,PySem.W.kitx_none,zY,λz=>nomatch z⟩
 | bl y=>cases (show u=AL y from rx);exact⟨_,PySem.W.kitx_bool,zY,λz=>nomatch z⟩
 | int i=>obtain⟨t,q⟩:=(show ∃t,u=B0 i t from rx);cases q;exact⟨_,PySem.W.kitx_int,zY,λz=>nomatch z⟩
 | str y=>obtain⟨t,q⟩:=(show ∃t,u=BA y t from rx);cases q;exact⟨_,PySem.W.kitx_str,zY,λz=>nomatch z⟩
 | flt y=>obtain⟨t,q⟩:=(show ∃t,u=Value.float y t from rx);cases q;exact⟨_,PySem.W.kitx_float,zY,λz=>nomatch z⟩
 | @lst a xs ea =>
  cases (show u=k_ a from rx);obtain⟨_,_,n,_,h1⟩:=(show aO X.prog X.w H s.heap a (.lst xs) from I.hok a _ ea)
  exact⟨_,Bs,⟨_,h1,rfl⟩,λz=>nomatch z⟩
 | @frz a ob xs ea =>
  cases (show u=k_ a from rx);obtain⟨_,_,_,n,_,h1⟩:=(show aO X.prog X.w H s.heap a (.frz ob (.lst xs)) from I.hok a _ ea)
  exact⟨_,Bs,⟨_,h1,rfl⟩,λz=>nomatch z⟩
 | @tup a xs ea =>
  cases (show u=k_ a from rx);obtain⟨_,_,_,p⟩:=(show aO X.prog X.w H s.heap a (.tup xs) from I.hok a _ ea)
  obtain⟨o,h1,h2,_⟩:=p;exact⟨_,PySem.W.kitx_tuple,⟨o,h1,h2⟩,λz=>nomatch z⟩
 | @dK a kvs ea =>
  cases (show u=k_ a from rx);obtain⟨_,_,vs,_,p⟩:=(show aO X.prog X.w H s.heap a (.dK kvs) from I.hok a _ ea)
  obtain⟨o,es,ep,h1,h2,_⟩:=p;exact⟨_,Bt,⟨o,h1,h2.1⟩,λz=>nomatch z⟩
 | @dT a kvs ea =>
  cases (show u=k_ a from rx);obtain⟨_,_,xs,_,o,es,ep,h1,h2,_⟩:=(show aO X.prog X.w H s.heap a (.dT kvs) from I.hok a _ ea)
  exact⟨_,Bt,⟨o,h1,h2.1⟩,λz=>nomatch z⟩
 | @ins a C dx fs ea cl ha hn htk hm =>
  cases (show u=k_ a from rx);obtain⟨mA,O,_⟩:=nk I.hok ea;obtain⟨od,J,_⟩:=O.look;exact⟨_,PySem.W.kitx_own (cl.get _) cl.hd ha hn htk hm,J,λz=>nomatch z⟩
theorem lL:∀{ts:List String}{us:List Value},aX (ts.map V.ty) us->us=ts.map Aq
 | [],_,.nil=>rfl
 | t::ts,_,.cons r rr=>by rw [lL rr,show _=Aq t from r];rfl
def jF:a6 X (.builtin "isinstance") (λxs H Q=>∃(x:V) (p:Addr) (ts:List String) (t:Value) (b:Bool),xs=[x,.ref p]/\je X.K H x t/\H p=some (.tup (ts.map V.ty))/\Bx X.K t (ts.map Aq)=some b/\Q (.bl b) H):=by
 intro pins s σ H xs us Q I r h;obtain⟨x,p,ts,t,b,rfl,ty,hp,e,q⟩:=h;obtain⟨u,w',rfl,rx,ry⟩:=nh r;cases (show w'=k_ p from ry);obtain⟨Hq,Z,hq,hx⟩:=vD I rx ty;obtain⟨its,rv,⟨⟨cls,dd,data,sl⟩,ho,hc,n,hd⟩,_⟩:=I.tuple (SqT.of hp);simp only at hc hd;subst hc hd;exact PySem.W.kia_tup Z I.kIn hq ho (by rw [lL rv];exact e) hx λtk=>⟨.bl b,H,I.tok _,rfl,q⟩
def iN(bs:List Bool):(p_ bs.length).all (λi=>bs.getD i false)=bs.all id:=by
 induction bs with
 | nil=>rfl
 | cons b bs ih=>rw [length_cons,range_succ_eq_map,all_cons,all_map,all_cons,<- ih];rfl
def sZ{bs:List Bool}{its:List Value}(r:aX (bs.map V.bl) its){i:Nat}{v:Value}(h:its.toArray[i]?=some v):v=.bool (bs.getD i false):=by
 have h':its[i]?=some v:=by simpa using h
 have hl:=r.length;rw [length_map] at hl;have hi:i<bs.length:=by have:=(i_.mp h').1;omega
 obtain⟨u,e1,e2⟩:=r.get (i:=i) (x:=V.bl bs[i]) (by rw [so,d_ hi];rfl);rw [h'] at e1;cases e1;rw [show v=AL bs[i] from e2,g_,d_ hi];rfl
def qw(hc:X.calm=true):a6 X (.builtin "all") (λxs H Q=>∃(p:Addr) (bs:List Bool),xs=[.ref p]/\SqL X.K H p (bs.map V.bl)/\Q (.bl (bs.all id)) H):=by
 intro pins s σ H xs us Q I r h;obtain⟨p,bs,rfl,hS,q⟩:=h;obtain⟨u,rfl,ru⟩:=gY r;cases (show u=k_ p from ru);obtain⟨its,rv,pl,hz⟩:=I.list hS;have hl:=rv.length;rw [length_map] at hl;have hps:p<s.heap.objs.size:=let ⟨o,ho,_⟩:=pl.isList;h_ ho
 obtain⟨f0,f1,f2,f3,f4,f5⟩:=I.fpOk (H':=H) (o_ s.heap.objs.size) (I.hok.fresh (o_ _))
 refine call_all_walk (Cm pl.isList ⟨s.heap.objs.size,_,_,its.toArray.size,_,_,λi=>bs.getD i false,rfl,Walks.list (by exact I.ok.hd hc) s.heap.objs.size p (zI hps) its.toArray,⟨⟨_,q_ _ rfl,rfl,rfl⟩,pl.isList.push _⟩,λi v s Q E hP hQ=>?_,λh' tk hk=>?_⟩)
 .rw [sZ rv hP];exact AJ hQ
 .have I1:Inv X pins σ H { s with heap:=s.heap.push { cls:=.type "list_iterator",data:=.fields #[.ref p,.int 0 0] } }:=I.kept (t':=s.toks) λb o e=>e_ _ e;have I2:=I1.turned (h':=h') (t':=tk) (it:=s.heap.objs.size) (λb o hb e=>hk b o (by simpa using hb) e) f0 f1 f3 f4 f5;refine⟨.bl (bs.all id),H,I2,?_,q⟩;show AL _=AL _;rw [size_toArray,<- hl,iN]
end
section
variable {X:Cx}{o e f:Expr}{apos cpos:Pos}{td ty tx:TE}
def nY:a6 X (.builtin "len") (λxs H Q=>∃p kvs,xs=[.ref p]/\Rd H p (.dK kvs)/\Q (.int kvs.length) H):=by
 intro pins s σ H xs us Q I r h;obtain⟨p,kvs,rfl,hd,q⟩:=h;obtain⟨u,rfl,ru⟩:=gY r;cases (show u=k_ p from ru);exact xt I hd λt s' I'=>⟨.int kvs.length,H,I',⟨t,rfl⟩,q⟩
end
noncomputable def az(K:b_)(x:Str):Addr:=match zH K mainGlobals x with
 | some (some (.ref C))=>C
 | _=>0
def aV{K:b_}{x:Str}{C:Addr}(h:zH K mainGlobals x=some (some (.ref C))):az K x=C:=by unfold az;rw [h]
section
variable {X:Cx}{e:Expr}{ta:TE}{f:Str}{pos:Pos}
noncomputable def xw(K:b_):List V->Hp->VK->Prop:=λxs H Q=>∃p ys,xs=[.ref p]/\SqL K H p ys/\Q (.int ys.length) H
noncomputable def xx(K:b_):List V->Hp->VK->Prop:=λxs H Q=>∃p ys,xs=[.ref p]/\SqT K H p ys/\Q (.int ys.length) H
noncomputable def yG(K:b_):List V->Hp->VK->Prop:=λxs H Q=>∃x n t b,xs=[x,.ty n]/\je K H x t/\zL K t (.type n)=some b/\Q (.bl b) H
noncomputable def kN(K:b_):List V->Hp->VK->Prop:=λxs H Q=>∃p ys,xs=[.ref p]/\(SqL K H p ys\/SqT K H p ys)/\∀l,H l=none->Q (.ref l) (upd H l (.lst ys))
end
section
variable {X:Cx}{o e:Expr}{es:List Expr}{to:TE}{t:TA}{name:Str}{apos cpos:Pos}{T id:String}{r:V->List V->Hp->VK->Prop}
def dC(K:b_)(eK:X.K=K)(pa:PlainAttrs T)(slot:Slot T name id)(hty:typeOf (.builtin id)=pure (.type "method_descriptor"))(hm:MtR X id r)(ho:PE X o to)(ha:PA X (e::es) t)
  (hbase:attributeBase o name X.env (eval o X.env)=eval o X.env:=by rfl)
  (hfew:((backTo cpos (starEach (e::es) X.env)).all (λx=>!x.1) && (backToKw cpos (keywordEach [] X.env)).all (λx=>x.1.isSome)
   && decide ((e::es).length+([]:List Keyword).length+(if ([]:List Keyword).isEmpty then 0 else 1)<30))=true:=by rfl)
  (hline:(apos.endLine == cpos.line)=true:=by rfl) (hs:starEach (e::es) X.env=(false,eval e X.env)::starEach es X.env:=by rfl) (hplain:(backTo cpos (starEach es X.env)).any (·.1)=false:=by rfl) :
  PE X (.Call (.Attribute o name apos) (e::es) [] cpos) (tBM K T r to t):=eK ▸ xj pa slot hty hm ho ha hbase hfew hline hs hplain
end
noncomputable def fm(c:Bool)(A B:Prop):Prop:=match c with|true=>A|false=>B
def uu{c:Bool}{A B:Prop}(h1:c=true->A)(h2:c=false->B):fm c A B:=by
 cases c with
 | true=>exact h1 rfl
 | false=>exact h2 rfl
def fN{p:Prop}[Decidable p]{A B:Prop}(h1:p->A)(h2:¬ p->B):fm (decide p) A B:=uu (λh=>h1 (of_decide_eq_true h)) (λh=>h2 (of_decide_eq_false h))
def my{p:Prop}[Decidable p]{A B:Prop}(h1:¬ p->A)(h2:p->B):fm (!decide p) A B:=uu (λh=>h1 λz=>by rw [decide_eq_true z] at h;cases h) (λh=>h2 (by
 by_cases z:p
 .exact z
 .rw [decide_eq_false z] at h;cases h))
def xy{p:Prop}[Decidable p]{A B:Prop}(h:p)(hA:A):fm (decide p) A B:=fN (λ_=>hA) (λz=>absurd h z)
def xz{p:Prop}[Decidable p]{A B:Prop}(h:¬ p)(hB:B):fm (decide p) A B:=fN (λz=>absurd z h) (λ_=>hB)
def vE{p:Prop}[Decidable p]{A B:Prop}(h:¬ p)(hA:A):fm (!decide p) A B:=my (λ_=>hA) (λz=>absurd z h)
def vF{p:Prop}[Decidable p]{A B:Prop}(h:p)(hB:B):fm (!decide p) A B:=my (λz=>absurd h z) (λ_=>hB)
def kO{c:Bool}{A B:Prop}(h:fm c B A):fm (!c) A B:=by
 cases c <;> exact h
def zf{c:Bool}{A B:Prop}(h:c=true)(hA:A):fm c A B:=by subst h;exact hA
def zg{c:Bool}{A B:Prop}(h:c=false)(hB:B):fm c A B:=by subst h;exact hB
def xA{c:Bool}{A B:Prop}(h:c=false)(hA:A):fm (!c) A B:=by subst h;exact hA
def xB{c:Bool}{A B:Prop}(h:c=true)(hB:B):fm (!c) A B:=by subst h;exact hB
inductive D where
 | non|bl (b:Bool)|int (i:Int)|str (l:List Nat)|ty (n:String)
 | lst (ds:List D)|tup (ds:List D)|scr (ns:List Int)|dic (ks:List Key) (ds:List D)|obj (c:Str) (ns:List Str) (ds:List D)|exc (c:Str) (ns:List Str) (ds:List D)
noncomputable def XAt(x C:Addr)(dd:Option Addr)(new:Bool)(h:Heap):Prop:=∃o vs,h.get? x=some o/\o.cls=.ref C/\o.dict=dd/\o.data=.fields vs/\1<vs.size/\(new=true->vs[1]?=some .none)
noncomputable def b8(A:Addr->Prop)(a:Addr):Addr->Prop:=λb=>A b\/b=a
noncomputable def uv(K:b_)(O:Addr->Prop)(H:Hp)(a:Addr)(xs:List V):Prop :=
 (¬ O a/\Rd H a (.lst xs))\/∃(o:Obj) (its:Array Value) (n:Nat),K.lookup a=some o/\o.cls=.type "list"/\o.dict=none/\o.data=.seq its n/\its.size<=sizeLine/\aX xs its.toList
def uv.sq{K:b_}{O:Addr->Prop}{H:Hp}{a:Addr}{xs:List V}(h:uv K O H a xs):SqL K H a xs:=h.elim (λz=>.inl z.2) .inr
noncomputable def aF(O:Addr->Prop)(H:Hp)(O':Addr->Prop)(H':Hp):Prop:=∀b o,¬ O b->H b=some o->¬ O' b/\H' b=some o
def Rd.keeps{O O':Addr->Prop}{H H':Hp}{a:Addr}{u:HO}(k:aF O H O' H')(n:¬ O a)(r:Rd H a u):¬ O' a/\Rd H' a u:=by
 rcases r with e|⟨o,e⟩
 .exact⟨(k _ _ n e).1,.inl (k _ _ n e).2⟩
 .exact⟨(k _ _ n e).1,.inr ⟨o,(k _ _ n e).2⟩⟩
def uv.keeps{K:b_}{O O':Addr->Prop}{H H':Hp}{a:Addr}{xs:List V}(k:aF O H O' H')(h:uv K O H a xs):uv K O' H' a xs:=by
 rcases h with ⟨n,r⟩|r
 .exact .inl (r.keeps k n)
 .exact .inr r
mutual
inductive FV (K:b_) (O:Addr->Prop) (H:Hp):V->D->Prop
 | non:FV K O H .non .non
 | bl (b:Bool):FV K O H (.bl b) (.bl b)
 | int (i:Int):FV K O H (.int i) (.int i)
 | str (l:List Nat):l.length<=1000000->FV K O H (.str (S l)) (.str l)
 | ty (n:String):FV K O H (.ty n) (.ty n)
 | scr {a:Addr}{ns:List Int}:uv K O H a (ns.map V.int)->FV K O H (.ref a) (.scr ns)
 | lst {a:Addr}{xs:List V}{ds:List D}:¬ O a->H a=some (.lst xs)->FVs K O H xs ds->FV K O H (.ref a) (.lst ds)
 | tup {a:Addr}{xs:List V}{ds:List D}:¬ O a->H a=some (.tup xs)->FVs K O H xs ds->FV K O H (.ref a) (.tup ds)
 | dic {a:Addr}{kvs:List (Key×V)}{ks:List Key}{ds:List D}:¬ O a->H a=some (.dK kvs)->kvs.map tj=ks->FVs K O H (kvs.map u_) ds->FV K O H (.ref a) (.dic ks ds)
 | obj {a dx:Addr}{c:Str}{fs:List (Str×V)}{ns:List Str}{ds:List D}:¬ O a->H a=some (.ins (az K c) dx fs)->fs.map tj=ns->FVs K O H (fs.map u_) ds->FV K O H (.ref a) (.obj c ns ds)
 | exc0 {a:Addr}{c:Str}{new:Bool}:¬ O a->H a=some (.ext (XAt a (az K c) none new))->FV K O H (.ref a) (.exc c [] [])
 | exc1 {a dx:Addr}{c:Str}{new:Bool}{fs:List (Str×V)}{ns:List Str}{ds:List D}:¬ O a->¬ O dx->H a=some (.ext (XAt a (az K c) (some dx) new))->H dx=some (.xd fs)->fs.map tj=ns->FVs K O H (fs.map u_) ds->FV K O H (.ref a) (.exc c ns ds)
inductive FVs (K:b_) (O:Addr->Prop) (H:Hp):List V->List D->Prop
 | nil:FVs K O H [] []
 | cons {x:V}{d:D}{xs:List V}{ds:List D}:FV K O H x d->FVs K O H xs ds->FVs K O H (x::xs) (d::ds)
end
section
variable {K:b_}{O O':Addr->Prop}{H H':Hp}
mutual
theorem FV.keeps(k:aF O H O' H'):∀{v:V}{d:D},FV K O H v d->FV K O' H' v d
 | _,_,.non=>.non
 | _,_,.bl b=>.bl b
 | _,_,.int i=>.int i
 | _,_,.str l h=>.str l h
 | _,_,.ty n=>.ty n
 | _,_,.scr s=>.scr (s.keeps k)
 | _,_,.lst n e f=>.lst (k _ _ n e).1 (k _ _ n e).2 (FVs.keeps k f)
 | _,_,.tup n e f=>.tup (k _ _ n e).1 (k _ _ n e).2 (FVs.keeps k f)
 | _,_,.dic n e m f=>.dic (k _ _ n e).1 (k _ _ n e).2 m (FVs.keeps k f)
 | _,_,.obj n e m f=>.obj (k _ _ n e).1 (k _ _ n e).2 m (FVs.keeps k f)
 | _,_,.exc0 n e=>.exc0 (k _ _ n e).1 (k _ _ n e).2
 | _,_,.exc1 n n2 e e2 m f=>.exc1 (k _ _ n e).1 (k _ _ n2 e2).1 (k _ _ n e).2 (k _ _ n2 e2).2 m (FVs.keeps k f)
theorem FVs.keeps(k:aF O H O' H'):∀{vs:List V}{ds:List D},FVs K O H vs ds->FVs K O' H' vs ds
 | _,_,.nil=>.nil
 | _,_,.cons a b=>.cons (FV.keeps k a) (FVs.keeps k b)
end
theorem FVs.length:∀{vs:List V}{ds:List D},FVs K O H vs ds->vs.length=ds.length
 | _,_,.nil=>rfl
 | _,_,.cons _ b=>by rw [length_cons,length_cons,b.length]
theorem FVs.get:∀{vs:List V}{ds:List D}{i:Nat}{v:V},FVs K O H vs ds->vs[i]?=some v->∃d,ds[i]?=some d/\FV K O H v d
 | _,_,0,_,.cons a _,e=>by simp at e;subst e;exact⟨_,rfl,a⟩
 | _,_,i+1,v,.cons _ b,e=>by
  obtain⟨d,h1,h2⟩:=b.get (i:=i) (v:=v) (by simpa using e);exact⟨d,by simpa using h1,h2⟩
theorem FVs.getD:∀{vs:List V}{ds:List D}{i:Nat}{d:D},FVs K O H vs ds->ds[i]?=some d->∃v,vs[i]?=some v/\FV K O H v d
 | _,_,0,_,.cons a _,e=>by simp at e;subst e;exact⟨_,rfl,a⟩
 | _,_,i+1,v,.cons _ b,e=>by
  obtain⟨d,h1,h2⟩:=b.getD (i:=i) (d:=v) (by simpa using e);exact⟨d,by simpa using h1,h2⟩
theorem FVs.append:∀{vs ws:List V}{ds es:List D},FVs K O H vs ds->FVs K O H ws es->FVs K O H (vs++ws) (ds++es)
 | _,_,_,_,.nil,s=>s
 | _,_,_,_,.cons a b,s=>.cons a (b.append s)
theorem FVs.take:∀{vs:List V}{ds:List D} (n:Nat),FVs K O H vs ds->FVs K O H (vs.take n) (ds.take n)
 | _,_,0,_=>.nil
 | _,_,_+1,.nil=>.nil
 | _,_,n+1,.cons r t=>.cons r (t.take n)
theorem FVs.drop:∀{vs:List V}{ds:List D} (n:Nat),FVs K O H vs ds->FVs K O H (vs.drop n) (ds.drop n)
 | _,_,0,r=>r
 | _,_,_+1,.nil=>.nil
 | _,_,n+1,.cons _ t=>t.drop n
theorem FVs.reverse:∀{vs:List V}{ds:List D},FVs K O H vs ds->FVs K O H vs.reverse ds.reverse
 | _,_,.nil=>.nil
 | _,_,.cons r t=>by rw [BW,BW];exact t.reverse.append (.cons r .nil)
theorem FVs.ints:∀{vs:List V}{ns:List Int},FVs K O H vs (ns.map D.int)->vs=ns.map V.int
 | _,[],.nil=>rfl
 | _,n::r,h=>by
  cases h with
  | cons a b=>cases a;rw [FVs.ints b];rfl
theorem FVs.of_ints:∀ns:List Int,FVs K O H (ns.map V.int) (ns.map D.int)
 | []=>.nil
 | n::r=>.cons (.int n) (FVs.of_ints r)
theorem FVs.bls:∀{vs:List V}{bs:List Bool},FVs K O H vs (bs.map D.bl)->vs=bs.map V.bl
 | _,[],.nil=>rfl
 | _,n::r,h=>by
  cases h with
  | cons a b=>cases a;rw [FVs.bls b];rfl
end
inductive PV where
 | dat (d:D)|own (ds:List D)|ins (c:Str) (ns:List Str) (ds:List D)
noncomputable def PV.isOwn:PV->Bool
 | .dat _=>false
 | _=>true
noncomputable def PV.d:PV->D
 | .dat d=>d
 | .own ds=>.lst ds
 | .ins c ns ds=>.obj c ns ds
abbrev PSt:=List (Option PV)
noncomputable def Wr(ρ:PSt)(σ:St)(b:Addr):Prop:=∃(i:Nat) (p:PV),ρ[i]?=some (some p)/\p.isOwn=true/\σ[i]?=some (some (.ref b))
noncomputable def OO(A:Addr->Prop)(ρ:PSt)(σ:St)(b:Addr):Prop:=A b\/Wr ρ σ b
noncomputable def RS(K:b_)(O:Addr->Prop)(H:Hp):PV->V->Prop
 | .dat d,v=>FV K O H v d
 | .own ds,v=>∃a xs,v=.ref a/\H a=some (.lst xs)/\FVs K O H xs ds
 | .ins c ns ds,v=>∃a dx fs,v=.ref a/\H a=some (.ins (az K c) dx fs)/\fs.map tj=ns/\FVs K O H (fs.map u_) ds
structure Rel (K:b_) (A:Addr->Prop) (ρ:PSt) (σ:St) (H:Hp):Prop where
 len:ρ.length=σ.length
 get:∀(i:Nat) (p:PV),ρ[i]?=some (some p)->∃v,σ[i]?=some (some v)/\RS K (OO A ρ σ) H p v
 dj:∀(i j:Nat) (p q:PV) (v:V),ρ[i]?=some (some p)->ρ[j]?=some (some q)->p.isOwn=true->q.isOwn=true->σ[i]?=some (some v)->σ[j]?=some (some v)->i=j
 dom:∀b,A b->H b≠none
 sep:∀b,A b->¬ Wr ρ σ b
structure Fr (ρ:PSt) (σ:St) (H:Hp) (ρ':PSt) (H':Hp):Prop where
 kp:∀b o,¬ Wr ρ σ b->H b=some o->H' b=some o
 dm:∀b,H b≠none->H' b≠none
 ow:∀b,Wr ρ' σ b->Wr ρ σ b
def Fr.refl(ρ:PSt)(σ:St)(H:Hp):Fr ρ σ H ρ H:=⟨λ_ _ _ h=>h,λ_ h=>h,λ_ h=>h⟩
def Fr.trans{ρ ρ1 ρ2:PSt}{σ:St}{H H1 H2:Hp}(a:Fr ρ σ H ρ1 H1)(b:Fr ρ1 σ H1 ρ2 H2):Fr ρ σ H ρ2 H2 :=
 ⟨λc o n h=>b.kp c o (λz=>n (a.ow c z)) (a.kp c o n h),λc h=>b.dm c (a.dm c h),λc h=>a.ow c (b.ow c h)⟩
def Fr.keeps{ρ ρ':PSt}{σ:St}{H H':Hp}{A:Addr->Prop}(f:Fr ρ σ H ρ' H'):aF (OO A ρ σ) H (OO A ρ' σ) H':=λb o n h =>
 ⟨λz=>z.elim (λz=>n (.inl z)) (λz=>n (.inr (f.ow b z))),f.kp b o (λz=>n (.inr z)) h⟩
def Fr.new{ρ:PSt}{σ:St}{H:Hp}{p:Addr}{o:HO}(h:H p=none):Fr ρ σ H ρ (upd H p o) :=
 ⟨λb u _ e=>by rw [ai (aH e h)];exact e,λb e=>by
  by_cases z:b=p
  .rw [z,ax];exact nofun
  .rw [ai z];exact e,λ_ h=>h⟩
def aF.fresh{O:Addr->Prop}{H:Hp}{p:Addr}{o:HO}(h:H p=none):aF O H (b8 O p) (upd H p o):=λb u n e =>
 ⟨λz=>z.elim n (λz=>by rw [z,h] at e;cases e),by rw [ai (aH e h)];exact e⟩
def aF.less{O O':Addr->Prop}{H:Hp}(h:∀b,O' b->O b):aF O H O' H:=λb o n e=>⟨λz=>n (h b z),e⟩
def RS.keeps{K:b_}{O O':Addr->Prop}{H H':Hp}{p:PV}{v:V}(k:aF O H O' H')(w:p.isOwn=true->∀a,v=.ref a->H' a=H a)(h:RS K O H p v):RS K O' H' p v:=by
 cases p with
 | dat d=>exact FV.keeps k h
 | own ds =>
  obtain⟨a,xs,e,g,f⟩:=h;exact⟨a,xs,e,by rw [w rfl a e];exact g,f.keeps k⟩
 | ins c ns ds =>
  obtain⟨a,dx,fs,e,g,m,f⟩:=h;exact⟨a,dx,fs,e,by rw [w rfl a e];exact g,m,f.keeps k⟩
def RS.ref{K:b_}{O:Addr->Prop}{H:Hp}{p:PV}{v:V}(h:RS K O H p v)(o:p.isOwn=true):∃a u,v=.ref a/\H a=some u:=by
 cases p with
 | dat d=>cases o
 | own ds=>obtain⟨a,xs,e,g,f⟩:=h;exact⟨a,_,e,g⟩
 | ins c ns ds=>obtain⟨a,dx,fs,e,g,m,f⟩:=h;exact⟨a,_,e,g⟩
def Rel.wr{K:b_}{A:Addr->Prop}{ρ:PSt}{σ:St}{H:Hp}(R:Rel K A ρ σ H){b:Addr}(h:Wr ρ σ b):H b≠none:=by
 obtain⟨i,p,e,o,s⟩:=h;obtain⟨v,s',r⟩:=R.get i p e;rw [s] at s';cases s';obtain⟨a,u,e1,e2⟩:=r.ref o;cases e1;rw [e2];exact nofun
def Rel.oo{K:b_}{A:Addr->Prop}{ρ:PSt}{σ:St}{H:Hp}(R:Rel K A ρ σ H){b:Addr}(h:H b=none):¬ OO A ρ σ b:=λz=>z.elim (λz=>R.dom b z h) (λz=>R.wr z h)
def Rel.grow{K:b_}{A:Addr->Prop}{ρ:PSt}{σ:St}{H:Hp}(R:Rel K A ρ σ H){p:Addr}{o:HO}(h:H p=none):Rel K A ρ σ (upd H p o):=by
 have k:aF (OO A ρ σ) H (OO A ρ σ) (upd H p o):=Fr.keeps (Fr.new h);refine⟨R.len,λi q e=>?_,R.dj,λb z=>(Fr.new (ρ:=ρ) (σ:=σ) h).dm b (R.dom b z),R.sep⟩;obtain⟨v,s,r⟩:=R.get i q e;refine⟨v,s,r.keeps k λow a ea=>?_⟩;obtain⟨a',u,e1,e2⟩:=r.ref ow;rw [ea] at e1;cases e1;rw [ai (aH e2 h)]
def Rel.less{K:b_}{A A':Addr->Prop}{ρ:PSt}{σ:St}{H:Hp}(R:Rel K A ρ σ H)(h:∀b,A' b->A b):Rel K A' ρ σ H:=by
 refine⟨R.len,λi q e=>?_,R.dj,λb z=>R.dom b (h b z),λb z=>R.sep b (h b z)⟩;obtain⟨v,s,r⟩:=R.get i q e;exact⟨v,s,r.keeps (aF.less λb z=>z.imp (h b) id) λ_ _ _=>rfl⟩
def Rel.write{K:b_}{A:Addr->Prop}{ρ:PSt}{σ:St}{H:Hp}(R:Rel K A ρ σ H){i:Nat}{p q:PV}{a:Addr}{o:HO}(e:ρ[i]?=some (some p))(ow:p.isOwn=true)(ow':q.isOwn=true)(es:σ[i]?=some (some (.ref a)))
  (new:RS K (OO A ρ σ) (upd H a o) q (.ref a)):Rel K A (ρ.set i (some q)) σ (upd H a o)/\Fr ρ σ H (ρ.set i (some q)) (upd H a o):=by
 have hi:i<ρ.length:=(i_.mp e).1;have wa:Wr ρ σ a:=⟨i,p,e,ow,es⟩
 have weq:∀b,Wr (ρ.set i (some q)) σ b ↔ Wr ρ σ b:=λb=>by
  constructor
  .rintro⟨j,r,e1,o1,s1⟩
   by_cases z:i=j
   .subst z;exact⟨i,p,e,ow,s1⟩
   .rw [gV z] at e1;exact⟨j,r,e1,o1,s1⟩
  .rintro⟨j,r,e1,o1,s1⟩
   by_cases z:i=j
   .subst z;exact⟨i,q,n_ hi,ow',s1⟩
   .exact⟨j,r,by rw [gV z];exact e1,o1,s1⟩
 have oeq:OO A (ρ.set i (some q)) σ=OO A ρ σ:=funext λb=>propext (or_congr Iff.rfl (weq b));have kp:∀b u,¬ Wr ρ σ b->H b=some u->upd H a o b=some u:=λb u n h=>by rw [ai (λz=>n (by rw [z];exact wa))];exact h
 have k:aF (OO A ρ σ) H (OO A ρ σ) (upd H a o):=λb u n h=>⟨n,kp b u (λz=>n (.inr z)) h⟩
 have dm:∀b,H b≠none->upd H a o b≠none:=λb n=>by
  by_cases z:b=a
  .rw [z,ax];exact nofun
  .rw [ai z];exact n
 refine⟨⟨by rw [z_];exact R.len,λj r e1=>?_,λj l p1 q1 v e1 e2 o1 o2 s1 s2=>?_,λb z=>dm b (R.dom b z),λb z w=>R.sep b z ((weq b).mp w)⟩,⟨kp,dm,λb w=>(weq b).mp w⟩⟩
 .rw [oeq]
  by_cases z:i=j
  .subst z;rw [n_ hi] at e1;cases e1;exact⟨_,es,new⟩
  .rw [gV z] at e1;obtain⟨v,s,rr⟩:=R.get j r e1;refine⟨v,s,rr.keeps k λow2 b eb=>?_⟩;rw [ai];intro zz;subst zz;rw [eb] at s;exact z (R.dj i j p r _ e e1 ow ow2 es s)
 .have ex:∀(m:Nat) (x:PV),(ρ.set i (some q))[m]?=some (some x)->x.isOwn=true->∃y:PV,ρ[m]?=some (some y)/\y.isOwn=true:=λm x em ox=>by
   by_cases z:i=m
   .subst z;exact⟨p,e,ow⟩
   .rw [gV z] at em;exact⟨x,em,ox⟩
  obtain⟨y1,h1,h2⟩:=ex j p1 e1 o1;obtain⟨y2,h3,h4⟩:=ex l q1 e2 o2;exact R.dj j l y1 y2 v h1 h3 h2 h4 s1 s2
def Rel.frz{K:b_}{A:Addr->Prop}{ρ:PSt}{σ:St}{H:Hp}(R:Rel K A ρ σ H){i:Nat}{p:PV}(e:ρ[i]?=some (some p)) :
  Rel K A (ρ.set i (some (.dat p.d))) σ H/\Fr ρ σ H (ρ.set i (some (.dat p.d))) H:=by
 have hi:i<ρ.length:=(i_.mp e).1
 have ex:∀(m:Nat) (x:PV),(ρ.set i (some (.dat p.d)))[m]?=some (some x)->x.isOwn=true->m≠i/\ρ[m]?=some (some x):=λm x em ox=>by
  by_cases z:i=m
  .subst z;rw [n_ hi] at em;cases em;cases ox
  .rw [gV z] at em;exact⟨λq=>z q.symm,em⟩
 have ow:∀b,Wr (ρ.set i (some (.dat p.d))) σ b->Wr ρ σ b:=λb ⟨j,r,e1,o1,s1⟩=>⟨j,r,(ex j r e1 o1).2,o1,s1⟩
 have k:aF (OO A ρ σ) H (OO A (ρ.set i (some (.dat p.d))) σ) H:=aF.less λb z=>z.imp id (ow b);refine⟨⟨by rw [z_];exact R.len,λj r e1=>?_,λj l p1 q1 v e1 e2 o1 o2 s1 s2=>R.dj j l p1 q1 v (ex j p1 e1 o1).2 (ex l q1 e2 o2).2 o1 o2 s1 s2,R.dom,λb z w=>R.sep b z (ow b w)⟩,⟨λ_ _ _ h=>h,λ_ h=>h,ow⟩⟩
 by_cases z:i=j
 .subst z;rw [n_ hi] at e1;cases e1;obtain⟨v,s,r⟩:=R.get i p e;refine⟨v,s,?_⟩
  have na:∀a,v=.ref a->p.isOwn=true->¬ OO A (ρ.set i (some (.dat p.d))) σ a:=λa ea oo z=>by
   subst ea
   rcases z with z|⟨j,r,e1,o1,s1⟩
   .exact R.sep a z ⟨i,p,e,oo,s⟩
   .obtain⟨n1,n2⟩:=ex j r e1 o1;exact n1 (R.dj j i r p _ n2 e o1 oo s1 s)
  cases p with
  | dat d=>exact FV.keeps k r
  | own ds =>
   obtain⟨a,xs,rfl,g,f⟩:=r;exact .lst (na a rfl rfl) g (f.keeps k)
  | ins c ns ds =>
   obtain⟨a,dx,fs,rfl,g,m,f⟩:=r;exact .obj (na a rfl rfl) g m (f.keeps k)
 .rw [gV z] at e1;obtain⟨v,s,r⟩:=R.get j _ e1;exact⟨v,s,r.keeps k λ_ _ _=>rfl⟩
abbrev PKt:=PV->PSt->Prop
abbrev PTE:=PSt->PKt->Prop
abbrev PTT:=PSt->(Bool->PSt->Prop)->Prop
inductive AV where
 | v (d:D)|sl (i:Nat)
abbrev PA1:=PSt->(AV->PSt->Prop)->Prop
abbrev PTA:=PSt->(List AV->PSt->Prop)->Prop
noncomputable def Out(K:b_)(A:Addr->Prop)(ρ:PSt)(σ:St)(H0 H:Hp):PV->V->Prop
 | .dat d,v=>Rel K A ρ σ H/\FV K (OO A ρ σ) H v d
 | .own ds,v=>∃a xs,v=.ref a/\¬ A a/\H0 a=none/\H a=some (.lst xs)/\Rel K (b8 A a) ρ σ H/\FVs K (OO (b8 A a) ρ σ) H xs ds
 | .ins c ns ds,v=>∃a dx fs,v=.ref a/\¬ A a/\H0 a=none/\H a=some (.ins (az K c) dx fs)/\fs.map tj=ns/\Rel K (b8 A a) ρ σ H/\FVs K (OO (b8 A a) ρ σ) H (fs.map u_) ds
noncomputable def LE(K:b_)(te:TE)(pe:PTE):Prop:=∀(A:Addr->Prop) (ρ:PSt) (σ:St) (H:Hp) (Q:PKt) (Q':VK),Rel K A ρ σ H->pe ρ Q ->
 (∀v H' p ρ',Q p ρ'->Fr ρ σ H ρ' H'->Out K A ρ' σ H H' p v->Q' v H')->te σ H Q'
noncomputable def LT(K:b_)(tt:TT)(pt:PTT):Prop:=∀(A:Addr->Prop) (ρ:PSt) (σ:St) (H:Hp) (Q:Bool->PSt->Prop) (Q':Bool->Hp->Prop),Rel K A ρ σ H->pt ρ Q ->
 (∀b H' ρ',Q b ρ'->Fr ρ σ H ρ' H'->Rel K A ρ' σ H'->Q' b H')->tt σ H Q'
noncomputable def AOk(K:b_)(O:Addr->Prop)(σ:St)(H:Hp):AV->V->Prop
 | .v d,v=>FV K O H v d
 | .sl i,v=>σ[i]?=some (some v)
noncomputable def LA1(K:b_)(te:TE)(pa:PA1):Prop:=∀(A:Addr->Prop) (ρ:PSt) (σ:St) (H:Hp) (Q:AV->PSt->Prop) (Q':VK),Rel K A ρ σ H->pa ρ Q ->
 (∀v H' av ρ',Q av ρ'->Fr ρ σ H ρ' H'->Rel K A ρ' σ H'->AOk K (OO A ρ' σ) σ H' av v->Q' v H')->te σ H Q'
inductive rB (K:b_) (O:Addr->Prop) (σ:St) (H:Hp):List AV->List V->Prop
 | nil:rB K O σ H [] []
 | cons {a:AV}{v:V}{as:List AV}{vs:List V}:AOk K O σ H a v->rB K O σ H as vs->rB K O σ H (a::as) (v::vs)
noncomputable def LAs(K:b_)(ta:TA)(pa:PTA):Prop:=∀(A:Addr->Prop) (ρ:PSt) (σ:St) (H:Hp) (Q:List AV->PSt->Prop) (Q':List V->Hp->Prop),Rel K A ρ σ H->pa ρ Q ->
 (∀vs H' as ρ',Q as ρ'->Fr ρ σ H ρ' H'->Rel K A ρ' σ H'->rB K (OO A ρ' σ) σ H' as vs->Q' vs H')->ta σ H Q'
section
variable {K:b_}{A O O':Addr->Prop}{ρ ρ':PSt}{σ:St}{H H' H0:Hp}
def AOk.keeps{a:AV}{v:V}(k:aF O H O' H')(h:AOk K O σ H a v):AOk K O' σ H' a v:=by
 cases a with
 | v d=>exact FV.keeps k h
 | sl i=>exact h
def Out.frz{p:PV}{v:V}(h:Out K A ρ σ H0 H p v):Rel K A ρ σ H/\FV K (OO A ρ σ) H v p.d:=by
 cases p with
 | dat d=>exact h
 | own ds =>
  obtain⟨a,xs,rfl,na,_,e,R,f⟩:=h;refine⟨R.less λb z=>.inl z,.lst (λz=>?_) e (f.keeps (aF.less λb z=>z.imp .inl id))⟩;exact z.elim na (λz=>R.sep a (.inr rfl) z)
 | ins c ns ds =>
  obtain⟨a,dx,fs,rfl,na,_,e,m,R,f⟩:=h;refine⟨R.less λb z=>.inl z,.obj (λz=>?_) e m (f.keeps (aF.less λb z=>z.imp .inl id))⟩;exact z.elim na (λz=>R.sep a (.inr rfl) z)
def Out.h0{p:PV}{v:V}{H1:Hp}(h:Out K A ρ σ H0 H p v)(dm:∀b,H1 b≠none->H0 b≠none):Out K A ρ σ H1 H p v:=by
 have k:∀a,H0 a=none->H1 a=none:=λa e=>by
  cases z:H1 a with
  | none=>rfl
  | some o=>exact absurd e (dm a (by rw [z];exact nofun))
 cases p with
 | dat d=>exact h
 | own ds=>obtain⟨a,xs,e1,na,e2,r⟩:=h;exact⟨a,xs,e1,na,k a e2,r⟩
 | ins c ns ds=>obtain⟨a,dx,fs,e1,na,e2,r⟩:=h;exact⟨a,dx,fs,e1,na,k a e2,r⟩
noncomputable def Gr(H H':Hp):Prop:=∀b o,H b=some o->H' b=some o
def Gr.fr(g:Gr H H'):Fr ρ σ H ρ H':=⟨λb o _ h=>g b o h,λb h=>by
 cases e:H b with
 | none=>exact absurd e h
 | some o=>rw [g b o e];exact nofun,λ_ h=>h⟩
def Gr.new{p:Addr}{o:HO}(h:H p=none):Gr H (upd H p o):=λb u e=>by rw [ai (aH e h)];exact e
def Gr.refl(H:Hp):Gr H H:=λ_ _ h=>h
def Rel.gr(R:Rel K A ρ σ H)(g:Gr H H'):Rel K A ρ σ H':=by
 refine⟨R.len,λi q e=>?_,R.dj,λb z=>(g.fr (ρ:=ρ) (σ:=σ)).dm b (R.dom b z),R.sep⟩;obtain⟨v,s,r⟩:=R.get i q e;refine⟨v,s,r.keeps (g.fr (ρ:=ρ) (σ:=σ)).keeps λow a ea=>?_⟩;obtain⟨a',u,e1,e2⟩:=r.ref ow;rw [ea] at e1;cases e1;rw [e2];exact g _ _ e2
def Rel.grA(R:Rel K A ρ σ H)(g:Gr H H'){p:Addr}(h:H p=none)(h':H' p≠none):Rel K (b8 A p) ρ σ H':=by
 have k:aF (OO A ρ σ) H (OO (b8 A p) ρ σ) H':=λb u n e=>by
  refine⟨λz=>?_,g _ _ e⟩
  rcases z with (z|z)|z
  .exact n (.inl z)
  .rw [z,h] at e;cases e
  .exact n (.inr z)
 refine⟨R.len,λi q e=>?_,R.dj,λb z=>?_,λb z w=>?_⟩
 .obtain⟨v,s,r⟩:=R.get i q e;refine⟨v,s,r.keeps k λow a ea=>?_⟩;obtain⟨a',u,e1,e2⟩:=r.ref ow;rw [ea] at e1;cases e1;rw [e2];exact g _ _ e2
 .rcases z with z|z
  .exact (g.fr (ρ:=ρ) (σ:=σ)).dm b (R.dom b z)
  .rw [z];exact h'
 .rcases z with z|z
  .exact R.sep b z w
  .exact R.wr w (by rw [z];exact h)
noncomputable def kq(K:b_)(O:Addr->Prop)(H0 H:Hp):PV->V->Prop
 | .dat d,v=>FV K O H v d
 | .own ds,v=>∃a xs,v=.ref a/\H0 a=none/\H a=some (.lst xs)/\FVs K (b8 O a) H xs ds
 | .ins c ns ds,v=>∃a dx fs,v=.ref a/\H0 a=none/\H a=some (.ins (az K c) dx fs)/\fs.map tj=ns/\FVs K (b8 O a) H (fs.map u_) ds
def kq.out{p:PV}{v:V}(R:Rel K A ρ σ H)(g:Gr H H')(h:kq K (OO A ρ σ) H H' p v):Out K A ρ σ H H' p v:=by
 cases p with
 | dat d=>exact⟨R.gr g,h⟩
 | own ds =>
  obtain⟨a,xs,rfl,e0,e,f⟩:=h;refine⟨a,xs,rfl,λz=>R.dom a z e0,e0,e,R.grA g e0 (by rw [e];exact nofun),f.keeps (aF.less λb z=>?_)⟩
  rcases z with (z|z)|z
  .exact .inl (.inl z)
  .exact .inr z
  .exact .inl (.inr z)
 | ins c ns ds =>
  obtain⟨a,dx,fs,rfl,e0,e,m,f⟩:=h;refine⟨a,dx,fs,rfl,λz=>R.dom a z e0,e0,e,m,R.grA g e0 (by rw [e];exact nofun),f.keeps (aF.less λb z=>?_)⟩
  rcases z with (z|z)|z
  .exact .inl (.inl z)
  .exact .inr z
  .exact .inl (.inr z)
noncomputable def FVc(K:b_)(O:Addr->Prop)(H:Hp)(v:V)(d:D):Prop:=FV K O H v d\/(∃a xs ds,v=.ref a/\d=.lst ds/\H a=some (.lst xs)/\FVs K O H xs ds) \/
 ∃a dx c fs ns ds,v=.ref a/\d=.obj c ns ds/\H a=some (.ins (az K c) dx fs)/\fs.map tj=ns/\FVs K O H (fs.map u_) ds
noncomputable def cont(ρ:PSt):AV->Option D
 | .v d=>some d
 | .sl i=>match ρ[i]? with|some (some p)=>some p.d|_=>none
def Rel.cont{av:AV}{v:V}{d:D}(R:Rel K A ρ σ H)(h:AOk K (OO A ρ σ) σ H av v)(e:L2.cont ρ av=some d):FVc K (OO A ρ σ) H v d:=by
 cases av with
 | v d'=>cases e;exact .inl h
 | sl i =>
  have h:σ[i]?=some (some v):=h;simp only [L2.cont] at e
  split at e
  .rename_i p ep;cases e;obtain⟨v',s,r⟩:=R.get i p ep;rw [h] at s;cases s
   cases p with
   | dat d=>exact .inl r
   | own ds=>obtain⟨a,xs,e1,e2,f⟩:=r;exact .inr (.inl ⟨a,xs,ds,e1,rfl,e2,f⟩)
   | ins c ns ds=>obtain⟨a,dx,fs,e1,e2,m,f⟩:=r;exact .inr (.inr ⟨a,dx,c,fs,ns,ds,e1,rfl,e2,m,f⟩)
  .cases e
def FVc.lst{v:V}{ds:List D}(h:FVc K O H v (.lst ds)):∃a xs,v=.ref a/\H a=some (.lst xs)/\FVs K O H xs ds:=by
 rcases h with h|⟨a,xs,ds',e1,e2,e3,f⟩|⟨a,dx,c,fs,ns,ds',e1,e2,_⟩
 .cases h with
  | lst n s f=>exact⟨_,_,rfl,s,f⟩
 .cases e2;exact⟨a,xs,e1,e3,f⟩
 .cases e2
def FVc.fv{v:V}{d:D}(h:FVc K O H v d)(n:∀ds,d≠.lst ds)(n':∀c ns ds,d≠.obj c ns ds):FV K O H v d:=by
 rcases h with h|⟨a,xs,ds',e1,e2,e3,f⟩|⟨a,dx,c,fs,ns,ds',e1,e2,_⟩
 .exact h
 .exact absurd e2 (n _)
 .exact absurd e2 (n' _ _ _)
def FVc.tup{v:V}{ds:List D}(h:FVc K O H v (.tup ds)):∃a xs,v=.ref a/\¬ O a/\H a=some (.tup xs)/\FVs K O H xs ds:=by
 cases h.fv nofun nofun with
 | tup n s f=>exact⟨_,_,rfl,n,s,f⟩
def FVc.scr{v:V}{ns:List Int}(h:FVc K O H v (.scr ns)):∃a,v=.ref a/\SqL K H a (ns.map V.int):=by
 cases h.fv nofun nofun with
 | scr s=>exact⟨_,rfl,s.sq⟩
def FVc.int{v:V}{i:Int}(h:FVc K O H v (.int i)):v=.int i:=by cases h.fv nofun nofun;rfl
def FVc.str{v:V}{i:List Nat}(h:FVc K O H v (.str i)):v=.str (S i)/\i.length<=1000000:=by
 cases h.fv nofun nofun with
 | str _ z=>exact⟨rfl,z⟩
end
def pC(d:D):PTE:=λρ Q=>Q (.dat d) ρ
noncomputable def wL(i:Nat):PTE:=λρ Q=>match ρ[i]? with
 | some (some (.dat d))=>Q (.dat d) ρ
 | some (some (.own ds))=>Q (.dat (.lst ds)) (ρ.set i (some (.dat (.lst ds))))
 | some (some (.ins c ns ds))=>Q (.dat (.obj c ns ds)) (ρ.set i (some (.dat (.obj c ns ds))))
 | _=>False
noncomputable def pSl(i:Nat):PA1:=λρ Q=>match ρ[i]? with
 | some (some (.dat d))=>Q (.v d) ρ
 | some (some (.own _))=>Q (.sl i) ρ
 | some (some (.ins _ _ _))=>Q (.sl i) ρ
 | _=>False
noncomputable def pFz(pe:PTE):PA1:=λρ Q=>pe ρ λp ρ1=>Q (.v p.d) ρ1
def gk:PTA:=λρ Q=>Q [] ρ
noncomputable def bD(pa:PA1)(pr:PTA):PTA:=λρ Q=>pa ρ λa ρ1=>pr ρ1 λas ρ2=>Q (a::as) ρ2
section
variable {K:b_}{ta tb tc:TE}{pa pb pc:PA1}{pe pe':PTE}{tr:TA}{pr:PTA}
def wM{v:V}{d:D}(h:∀O H,FV K O H v d):LE K (tC v) (pC d):=λA ρ σ H Q Q' R q k=>k v H (.dat d) ρ q (Fr.refl _ _ _) ⟨R,h _ _⟩
def ap{i:Int}:LE K (tC (.int i)) (pC (.int i)):=wM λ_ _=>.int i
def fO{i:Bool}:LE K (tC (.bl i)) (pC (.bl i)):=wM λ_ _=>.bl i
def nZ:LE K (tC .non) (pC .non):=wM λ_ _=>.non
def n4{l:List Nat}(h:l.length<=1000000:=by decide):LE K (tC (.str (S l))) (pC (.str l)):=wM λ_ _=>.str l h
def au{i:Nat}:LE K (dA i) (wL i):=by
 intro A ρ σ H Q Q' R q k;unfold wL at q
 split at q
 .rename_i d e;obtain⟨v,s,r⟩:=R.get i _ e;exact⟨v,s,k v H (.dat d) ρ q (Fr.refl _ _ _) ⟨R,r⟩⟩
 .rename_i ds e;obtain⟨R',f⟩:=R.frz e;obtain⟨v,s,r⟩:=R'.get i _ (n_ (i_.mp e).1);exact⟨v,s,k v H (.dat (.lst ds)) _ q f ⟨R',r⟩⟩
 .rename_i c ns ds e;obtain⟨R',f⟩:=R.frz e;obtain⟨v,s,r⟩:=R'.get i _ (n_ (i_.mp e).1);exact⟨v,s,k v H (.dat (.obj c ns ds)) _ q f ⟨R',r⟩⟩
 .exact q.elim
def aj{i:Nat}:LA1 K (dA i) (pSl i):=by
 intro A ρ σ H Q Q' R q k;unfold pSl at q
 split at q
 .rename_i d e;obtain⟨v,s,r⟩:=R.get i _ e;exact⟨v,s,k v H _ ρ q (Fr.refl _ _ _) R r⟩
 .rename_i e;obtain⟨v,s,r⟩:=R.get i _ e;exact⟨v,s,k v H _ ρ q (Fr.refl _ _ _) R s⟩
 .rename_i e;obtain⟨v,s,r⟩:=R.get i _ e;exact⟨v,s,k v H _ ρ q (Fr.refl _ _ _) R s⟩
 .exact q.elim
def ac(h:LE K ta pe):LA1 K ta (pFz pe):=λA ρ σ H Q Q' R q k=>h A ρ σ H _ Q' R q λv H' p ρ' q f o=>k v H' _ ρ' q f o.frz.1 o.frz.2
def ae:LAs K iD gk:=λA ρ σ H Q Q' R q k=>k [] H [] ρ q (Fr.refl _ _ _) R .nil
def aa(h:LA1 K ta pa)(hr:LAs K tr pr):LAs K (bA ta tr) (bD pa pr):=λA ρ σ H Q Q' R q k =>
 h A ρ σ H _ _ R q λv H1 a ρ1 q1 f1 R1 o1=>hr A ρ1 σ H1 _ _ R1 q1 λvs H2 as ρ2 q2 f2 R2 o2=>k _ H2 _ ρ2 q2 (f1.trans f2) R2 (.cons (o1.keeps f2.keeps) o2)
noncomputable def LO(K:b_)(r:R2)(f:D->D->(PV->Prop)->Prop):Prop:=∀(O:Addr->Prop) (H:Hp) (x y:V) (a b:D) (Q:PV->Prop) (Q':VK),(∀b,O b->H b≠none)->FVc K O H x a->FVc K O H y b->f a b Q ->
 (∀v H' p,Q p->Gr H H'->kq K O H H' p v->Q' v H')->r x y H Q'
noncomputable def op2(f:D->D->(PV->Prop)->Prop)(ρ:PSt)(x y:AV)(Q:PKt):Prop:=match cont ρ x,cont ρ y with
 | some a,some b=>f a b λp=>Q p ρ
 | _,_=>False
noncomputable def pOp(f:D->D->(PV->Prop)->Prop)(pa pb:PA1):PTE:=λρ Q=>pa ρ λx ρ1=>pb ρ1 λy ρ2=>op2 f ρ2 x y Q
def Rel.dom2{A:Addr->Prop}{ρ:PSt}{σ:St}{H:Hp}(R:Rel K A ρ σ H):∀b,OO A ρ σ b->H b≠none:=λb z=>z.elim (R.dom b) R.wr
def ar{r:R2}{f:D->D->(PV->Prop)->Prop}(o:LO K r f)(ha:LA1 K ta pa)(hb:LA1 K tb pb):LE K (tOp r ta tb) (pOp f pa pb):=λA ρ σ H Q Q' R q k =>
 ha A ρ σ H _ _ R q λv H1 a ρ1 q1 f1 R1 o1=>hb A ρ1 σ H1 _ _ R1 q1 λw H2 b ρ2 q2 f2 R2 o2=>by
  unfold op2 at q2
  split at q2
  .rename_i da db e1 e2;exact o _ H2 v w da db _ _ R2.dom2 (R2.cont (o1.keeps f2.keeps) e1) (R2.cont o2 e2) q2 λz H3 p q3 g ov=>k z H3 p ρ2 q3 ((f1.trans f2).trans g.fr) ((ov.out R2 g).h0 λb z=>f2.dm b (f1.dm b z))
  .exact q2.elim
noncomputable def LU(K:b_)(r:V->Hp->VK->Prop)(f:D->(PV->Prop)->Prop):Prop:=∀(O:Addr->Prop) (H:Hp) (x:V) (a:D) (Q:PV->Prop) (Q':VK),(∀b,O b->H b≠none)->FVc K O H x a->f a Q ->
 (∀v H' p,Q p->Gr H H'->kq K O H H' p v->Q' v H')->r x H Q'
noncomputable def op1(f:D->(PV->Prop)->Prop)(ρ:PSt)(x:AV)(Q:PKt):Prop:=match cont ρ x with
 | some a=>f a λp=>Q p ρ
 | _=>False
noncomputable def pUn(f:D->(PV->Prop)->Prop)(pa:PA1):PTE:=λρ Q=>pa ρ λx ρ1=>op1 f ρ1 x Q
def mz{r:V->Hp->VK->Prop}{f:D->(PV->Prop)->Prop}(o:LU K r f)(ha:LA1 K ta pa):LE K (tUn r ta) (pUn f pa):=λA ρ σ H Q Q' R q k =>
 ha A ρ σ H _ _ R q λv H1 a ρ1 q1 f1 R1 o1=>by
  unfold op1 at q1
  split at q1
  .rename_i da e1;exact o _ H1 v da _ _ R1.dom2 (R1.cont o1 e1) q1 λz H3 p q3 g ov=>k z H3 p ρ1 q3 (f1.trans g.fr) ((ov.out R1 g).h0 λb z=>f1.dm b z)
  .exact q1.elim
inductive vG (K:b_) (O:Addr->Prop) (H:Hp):List V->List D->Prop
 | nil:vG K O H [] []
 | cons {x:V}{d:D}{xs:List V}{ds:List D}:FVc K O H x d->vG K O H xs ds->vG K O H (x::xs) (d::ds)
noncomputable def conts(ρ:PSt):List AV->Option (List D)
 | []=>some []
 | a::r=>match cont ρ a,conts ρ r with
  | some d,some ds=>some (d::ds)
  | _,_=>none
theorem Rel.conts{A:Addr->Prop}{ρ:PSt}{σ:St}{H:Hp}(R:Rel K A ρ σ H):∀{as:List AV}{vs:List V}{ds:List D},rB K (OO A ρ σ) σ H as vs->L2.conts ρ as=some ds->vG K (OO A ρ σ) H vs ds
 | _,_,_,.nil,e=>by cases e;exact .nil
 | _,_,_,.cons a b,e=>by
  unfold L2.conts at e
  split at e
  .rename_i e1 e2;cases e;exact .cons (R.cont a e1) (R.conts b e2)
  .cases e
noncomputable def LC(K:b_)(r:List V->Hp->VK->Prop)(f:List D->(PV->Prop)->Prop):Prop:=∀(O:Addr->Prop) (H:Hp) (xs:List V) (as:List D) (Q:PV->Prop) (Q':VK),(∀b,O b->H b≠none)->vG K O H xs as->f as Q ->
 (∀v H' p,Q p->Gr H H'->kq K O H H' p v->Q' v H')->r xs H Q'
noncomputable def opN(f:List D->(PV->Prop)->Prop)(ρ:PSt)(as:List AV)(Q:PKt):Prop:=match conts ρ as with
 | some ds=>f ds λp=>Q p ρ
 | _=>False
noncomputable def pCB(f:List D->(PV->Prop)->Prop)(pr:PTA):PTE:=λρ Q=>pr ρ λas ρ1=>opN f ρ1 as Q
def bB{r:List V->Hp->VK->Prop}{f:List D->(PV->Prop)->Prop}(o:LC K r f)(ha:LAs K tr pr):LE K (tCB r tr) (pCB f pr):=λA ρ σ H Q Q' R q k =>
 ha A ρ σ H _ _ R q λvs H1 as ρ1 q1 f1 R1 o1=>by
  unfold opN at q1
  split at q1
  .rename_i ds e1;exact o _ H1 vs ds _ _ R1.dom2 (R1.conts o1 e1) q1 λz H3 p q3 g ov=>k z H3 p ρ1 q3 (f1.trans g.fr) ((ov.out R1 g).h0 λb z=>f1.dm b z)
  .exact q1.elim
noncomputable def avD:List AV->Option (List D)
 | []=>some []
 | .v d::r=>match avD r with|some ds=>some (d::ds)|none=>none
 | .sl _::_=>none
theorem rB.avD{O:Addr->Prop}{σ:St}{H:Hp}:∀{as:List AV}{vs:List V}{ds:List D},rB K O σ H as vs->L2.avD as=some ds->FVs K O H vs ds
 | _,_,_,.nil,e=>by cases e;exact .nil
 | .v d::r,_,_,.cons a b,e=>by
  simp only [L2.avD] at e
  split at e
  .rename_i e1;cases e;exact .cons a (b.avD e1)
  .cases e
 | .sl i::r,_,_,.cons a b,e=>by cases e
noncomputable def qx(pr:PTA):PTE:=λρ Q=>pr ρ λas ρ1=>match avD as with
 | some ds=>ds.length<=1000000/\Q (.own ds) ρ1
 | _=>False
noncomputable def zh(pr:PTA):PTE:=λρ Q=>pr ρ λas ρ1=>match avD as with
 | some ds=>ds.length<=1000000/\Q (.dat (.tup ds)) ρ1
 | _=>False
def aC(ha:LAs K tr pr):LE K (yx tr) (qx pr):=λA ρ σ H Q Q' R q k =>
 ha A ρ σ H _ _ R q λvs H1 as ρ1 q1 f1 R1 o1=>by
  split at q1
  .rename_i ds e1;have fs:=o1.avD e1;refine⟨sz _ (by rw [fs.length];exact q1.1),λp hp=>k _ _ (.own ds) ρ1 q1.2 (f1.trans (Fr.new hp)) ?_⟩;have g:Gr H1 (upd H1 p (.lst vs)):=Gr.new hp;exact (kq.out (p:=.own ds) R1 g ⟨p,vs,rfl,hp,ax,fs.keeps (aF.fresh hp)⟩).h0 λb z=>f1.dm b z
  .exact q1.elim
def vH(ha:LAs K tr pr):LE K (xi tr) (zh pr):=λA ρ σ H Q Q' R q k =>
 ha A ρ σ H _ _ R q λvs H1 as ρ1 q1 f1 R1 o1=>by
  split at q1
  .rename_i ds e1;have fs:=o1.avD e1;refine⟨sz _ (by rw [fs.length];exact q1.1),λp hp=>k _ _ (.dat (.tup ds)) ρ1 q1.2 (f1.trans (Fr.new hp)) ⟨R1.grow hp,?_⟩⟩;exact .tup (R1.oo hp) ax (fs.keeps (Fr.new hp).keeps)
  .exact q1.elim
noncomputable def pB(pe:PTE):PTT:=λρ Q=>pe ρ λp ρ1=>match p with
 | .dat (.bl b)=>Q b ρ1
 | _=>False
def mL(h:LE K ta pe):LT K (tB ta) (pB pe):=λA ρ σ H Q Q' R q k=>h A ρ σ H _ _ R q λv H1 p ρ1 q1 f1 o1=>by
 split at q1
 .rename_i b;obtain⟨R1,f⟩:=o1;cases f;exact⟨b,rfl,k b H1 ρ1 q1 f1 R1⟩
 .exact q1.elim
def kP(h:LE K ta pe):LT K (sE ta) (pB pe):=mL h
noncomputable def zi(a b:PTT):PTT:=λρ Q=>a ρ λc ρ1=>fm c (b ρ1 Q) (Q false ρ1)
noncomputable def pOr(a b:PTT):PTT:=λρ Q=>a ρ λc ρ1=>fm c (Q true ρ1) (b ρ1 Q)
noncomputable def xC(a:PTT):PTT:=λρ Q=>a ρ λc ρ1=>Q (!c) ρ1
variable {tta ttb:TT}{pta ptb:PTT}
def rC(ha:LT K tta pta)(hb:LT K ttb ptb):LT K (yr tta ttb) (zi pta ptb):=λA ρ σ H Q Q' R q k=>ha A ρ σ H _ _ R q λc H1 ρ1 q1 f1 R1=>by
 cases c with
 | true=>exact hb A ρ1 σ H1 _ _ R1 q1 λb H2 ρ2 q2 f2 R2=>k b H2 ρ2 q2 (f1.trans f2) R2
 | false=>exact k false H1 ρ1 q1 f1 R1
def mB(ha:LT K tta pta)(hb:LT K ttb ptb):LT K (tOr tta ttb) (pOr pta ptb):=λA ρ σ H Q Q' R q k=>ha A ρ σ H _ _ R q λc H1 ρ1 q1 f1 R1=>by
 cases c with
 | false=>exact hb A ρ1 σ H1 _ _ R1 q1 λb H2 ρ2 q2 f2 R2=>k b H2 ρ2 q2 (f1.trans f2) R2
 | true=>exact k true H1 ρ1 q1 f1 R1
def cU(ha:LT K tta pta):LT K (wW tta) (xC pta):=λA ρ σ H Q Q' R q k=>ha A ρ σ H _ _ R q λc H1 ρ1 q1 f1 R1=>k _ H1 ρ1 q1 f1 R1
noncomputable def tm(a b:PTE):PTE:=λρ Q=>a ρ λp ρ1=>match p with
 | .dat (.bl c)=>fm c (b ρ1 Q) (Q (.dat (.bl false)) ρ1)
 | _=>False
noncomputable def vI(a:PTE):PTE:=λρ Q=>a ρ λp ρ1=>match p with
 | .dat (.bl c)=>Q (.dat (.bl (!c))) ρ1
 | _=>False
def ir(ha:LE K ta pe)(hb:LE K tb pe'):LE K (uM ta tb) (tm pe pe'):=λA ρ σ H Q Q' R q k=>ha A ρ σ H _ _ R q λv H1 p ρ1 q1 f1 o1=>by
 split at q1
 .rename_i c;obtain⟨R1,f⟩:=o1;cases f;refine⟨c,rfl,?_⟩
  cases c with
  | true=>exact hb A ρ1 σ H1 _ _ R1 q1 λb H2 p2 ρ2 q2 f2 o2=>k b H2 p2 ρ2 q2 (f1.trans f2) (o2.h0 λb z=>f1.dm b z)
  | false=>exact k _ H1 _ ρ1 q1 f1 ⟨R1,.bl false⟩
 .exact q1.elim
def rD(ha:LE K ta pe):LE K (uN ta) (vI pe):=λA ρ σ H Q Q' R q k=>ha A ρ σ H _ _ R q λv H1 p ρ1 q1 f1 o1=>by
 split at q1
 .rename_i c;obtain⟨R1,f⟩:=o1;cases f;exact⟨c,rfl,k _ H1 _ ρ1 q1 f1 ⟨R1,.bl (!c)⟩⟩
 .exact q1.elim
end
abbrev F2:=D->D->(PV->Prop)->Prop
noncomputable def fI0(g:Int->Int->D):F2
 | .int i,.int j,Q=>Q (.dat (g i j))
 | _,_,_=>False
noncomputable def fI(C:Int->Int->Prop)(g:Int->Int->D):F2
 | .int i,.int j,Q=>C i j/\Q (.dat (g i j))
 | _,_,_=>False
section
variable {K:b_}{X:Cx}
def vJ{g:Int->Int->V}{g':Int->Int->D}(h:∀i j O H,FV K O H (g i j) (g' i j)):LO K (rI0 g) (fI0 g'):=by
 intro O H x y a b Q Q' dom fx fy q k;unfold fI0 at q
 split at q
 .rename_i i j;exact⟨i,j,fx.int,fy.int,k _ H _ q (Gr.refl _) (h i j _ _)⟩
 .exact q.elim
def xD{C:Int->Int->Prop}{g:Int->Int->V}{g':Int->Int->D}(h:∀i j O H,FV K O H (g i j) (g' i j)):LO K (rI C g) (fI C g'):=by
 intro O H x y a b Q Q' dom fx fy q k;unfold fI at q
 split at q
 .rename_i i j;exact⟨i,j,fx.int,fy.int,q.1,k _ H _ q.2 (Gr.refl _) (h i j _ _)⟩
 .exact q.elim
def bL{O:Addr->Prop}{H:Hp}{xs:List V}{ds:List D}{p:Addr}(hp:H p=none)(f:FVs K O H xs ds):kq K O H (upd H p (.lst xs)) (.own ds) (.ref p) :=
 ⟨p,xs,rfl,hp,ax,f.keeps (aF.fresh hp)⟩
def gl{O:Addr->Prop}{H:Hp}{xs:List V}{ds:List D}{p:Addr}(dom:∀b,O b->H b≠none)(hp:H p=none)(f:FVs K O H xs ds):kq K O H (upd H p (.tup xs)) (.dat (.tup ds)) (.ref p) :=
 .tup (λz=>dom p z hp) ax (f.keeps λb o n e=>⟨n,by rw [ai (aH e hp)];exact e⟩)
noncomputable def xE:R2:=λx y H Q=>∃i j,x=.str (S i)/\y=.str (S j)/\i.length+j.length<=sizeLine/\Q (.str (S (i++j))) H
noncomputable def tq(K:b_):R2:=λx y H Q=>rI0 (λi j=>.int (i+j)) x y H Q\/xE x y H Q\/vy K x y H Q\/u8 K x y H Q
def xF(K:b_)(e:X.K=K):OpR X (binaryOp .Add) (tq K):=by
 subst e;exact OpR.or uS (OpR.or sQ (OpR.or sS sI))
noncomputable def xG:F2
 | .int i,.int j,Q=>Q (.dat (.int (i+j)))
 | .str a,.str b,Q=>a.length+b.length<=1000000/\Q (.dat (.str (a++b)))
 | .lst a,.lst b,Q=>a.length+b.length<=1000000/\Q (.own (a++b))
 | .scr a,.lst b,Q=>a.length+b.length<=1000000/\Q (.own (a.map .int++b))
 | .tup a,.tup b,Q=>a≠[]/\a.length+b.length<=1000000/\Q (.dat (.tup (a++b)))
 | _,_,_=>False
def rE:LO K (tq K) xG:=by
 intro O H x y a b Q Q' dom fx fy q k;unfold xG at q
 split at q
 .rename_i i j;exact .inl ⟨i,j,fx.int,fy.int,k _ H _ q (Gr.refl _) (.int _)⟩
 .rename_i i j;exact .inr (.inl ⟨i,j,fx.str.1,fy.str.1,sz _ q.1,k _ H _ q.2 (Gr.refl _) (.str _ (by rw [length_append];exact q.1))⟩)
 .rename_i i j;obtain⟨a,xs,rfl,e1,f1⟩:=fx.lst;obtain⟨b,ys,rfl,e2,f2⟩:=fy.lst;exact .inr (.inr (.inl ⟨a,b,xs,ys,rfl,rfl,SqL.of e1,SqL.of e2,sz _ (by rw [f1.length,f2.length];exact q.1),λp hp=>k _ _ _ q.2 (Gr.new hp) (bL hp (f1.append f2))⟩))
 .rename_i i j;obtain⟨a,rfl,e1⟩:=fx.scr;obtain⟨b,ys,rfl,e2,f2⟩:=fy.lst;exact .inr (.inr (.inl ⟨a,b,_,ys,rfl,rfl,e1,SqL.of e2,sz _ (by rw [length_map,f2.length];exact q.1),λp hp=>k _ _ _ q.2 (Gr.new hp) (bL hp ((FVs.of_ints i).append f2))⟩))
 .rename_i i j;obtain⟨a,xs,rfl,n1,e1,f1⟩:=fx.tup;obtain⟨b,ys,rfl,n2,e2,f2⟩:=fy.tup;have l1:=f1.length;have l2:=f2.length
  refine .inr (.inr (.inr ⟨a,b,xs,ys,rfl,rfl,SqT.of e1,SqT.of e2,λz=>q.1 ?_,sz _ (by rw [l1,l2];exact q.2.1),λz=>?_,λ_ p hp=>k _ _ _ q.2.2 (Gr.new hp) (gl dom hp (f1.append f2))⟩))
  .exact Ak.mp (by rw [<- l1,z];rfl)
  .have:j=[]:=Ak.mp (by rw [<- l2,z];rfl);subst this;exact k _ H _ q.2.2 (Gr.refl _) (by rw [append_nil];exact .tup n1 e1 f1)
 .exact q.elim
def n5:LO K (rI0 λi j=>.int (i - j)) (fI0 λi j=>.int (i - j)):=vJ λ_ _ _ _=>.int _
def b9:LO K (rI (λ_ j=>0<j) λi j=>.int (i % j)) (fI (λ_ j=>0<j) λi j=>.int (i % j)):=xD λ_ _ _ _=>.int _
def n6:LO K (rI wZ λi j=>.int (i / j)) (fI (λ_ j=>0<j/\j<1073741824) λi j=>.int (i / j)):=xD λ_ _ _ _=>.int _
def rF:LO K (rI w4 λi j=>.int (i^j.toNat)) (fI (λi j=>0<=j/\j<=1000000/\i.natAbs<2^64) λi j=>.int (i^j.toNat)):=xD λ_ _ _ _=>.int _
noncomputable def xH:R2:=λx y H Q=>∃l n,x=.str (S l)/\y=.int n/\-1000000<=n/\n<=1000000/\n.toNat*l.length<=sizeLine/\Q (.str (S (nH l n))) H
noncomputable def vK:R2:=λx y H Q=>rI wK (λi j=>.int (i*j)) x y H Q\/xH x y H Q\/yE x y H Q
def jG:OpR X (binaryOp .Mult) vK:=OpR.or uU (OpR.or mh vd)
noncomputable def yH:F2
 | .int i,.int j,Q=>((-(2^64)<i/\i<2^64)\/(-(2^64)<j/\j<2^64))/\Q (.dat (.int (i*j)))
 | .str a,.int n,Q=>(-1000000<=n/\n<=1000000/\n.toNat*a.length<=1000000)/\Q (.dat (.str (nH a n)))
 | .lst a,.int n,Q=>(-1000000<=n/\n<=1000000/\a.length*n.toNat<=1000000)/\Q (.own (nH a n))
 | _,_,_=>False
theorem FVs.rep{O:Addr->Prop}{H:Hp}{xs:List V}{ds:List D}(f:FVs K O H xs ds):∀n,FVs K O H (pf n xs).flatten (pf n ds).flatten
 | 0=>.nil
 | n+1=>by rw [replicate_succ,replicate_succ,flatten_cons,flatten_cons];exact f.append (f.rep n)
def fo:LO K vK yH:=by
 intro O H x y a b Q Q' dom fx fy q k;unfold yH at q
 split at q
 .rename_i i j;exact .inl ⟨i,j,fx.int,fy.int,q.1,k _ H _ q.2 (Gr.refl _) (.int _)⟩
 .rename_i i j;exact .inr (.inl ⟨i,j,fx.str.1,fy.int,q.1.1,q.1.2.1,sz _ q.1.2.2,k _ H _ q.2 (Gr.refl _) (.str _ (by rw [kB];exact q.1.2.2))⟩)
 .rename_i i j;obtain⟨a,xs,rfl,e1,f1⟩:=fx.lst;exact .inr (.inr ⟨a,j,xs,rfl,fy.int,e1,by omega,by omega,sz _ (by rw [f1.length];exact q.1.2.2),λp hp=>k _ _ _ q.2 (Gr.new hp) (bL hp (f1.rep _))⟩)
 .exact q.elim
noncomputable def yI:R2:=λx y H Q=>rI0 (λi j=>.bl (decide (i<j))) x y H Q\/∃i j,x=.str i/\y=.str j/\Q (.bl (decide (i.cps.toList<j.cps.toList))) H
def xI:OpR X (compareOp .Lt) yI:=OpR.or xc ng
noncomputable def fLt:F2
 | .int i,.int j,Q=>Q (.dat (.bl (decide (i<j))))
 | .str i,.str j,Q=>Q (.dat (.bl (decide (i<j))))
 | _,_,_=>False
def tu:LO K yI fLt:=by
 intro O H x y a b Q Q' dom fx fy q k;unfold fLt at q
 split at q
 .rename_i i j;exact .inl ⟨i,j,fx.int,fy.int,k _ H _ q (Gr.refl _) (.bl _)⟩
 .rename_i i j;exact .inr ⟨_,_,fx.str.1,fy.str.1,k _ H _ q (Gr.refl _) (.bl _)⟩
 .exact q.elim
def qy:LO K (rI0 λi j=>.bl (decide (j<i))) (fI0 λi j=>.bl (decide (j<i))):=vJ λ_ _ _ _=>.bl _
mutual
noncomputable def D.py:D->Bv
 | .non=>.none|.bl b=>.bool b|.int i=>.int i|.str l=>.str (S l)|.ty _=>.none
 | .lst ds=>.list (D.pys ds)|.tup ds=>.tuple (D.pys ds)|.scr ns=>.list (ns.map .int)|.dic _ _=>.none|.obj _ _ _=>.none|.exc _ _ _=>.none
noncomputable def D.pys:List D->List Bv
 | []=>[]
 | d::r=>d.py::D.pys r
end
mutual
noncomputable def D.plain:D->Bool
 | .non=>true|.bl _=>true|.int _=>true|.str _=>true|.ty _=>false
 | .lst ds=>D.plains ds|.tup ds=>D.plains ds|.scr _=>true|.dic _ _=>false|.obj _ _ _=>false|.exc _ _ _=>false
noncomputable def D.plains:List D->Bool
 | []=>true
 | d::r=>d.plain && D.plains r
end
mutual
theorem FV.dv{O:Addr->Prop}{H:Hp}:∀{v:V}{d:D},FV K O H v d->d.plain=true->DV K H v d.py
 | _,_,.non,_=>.non
 | _,_,.bl b,_=>.bl b
 | _,_,.int i,_=>.int i
 | _,_,.str l h,_=>.str (S l)
 | _,_,.ty n,p=>nomatch p
 | _,_,.scr s,_=>.lst s.sq (DVs.ints _)
 | _,_,.lst n e f,p=>.lst (SqL.of e) (FVs.dvs f p)
 | _,_,.tup n e f,p=>.tup (SqT.of e) (FVs.dvs f p)
 | _,_,.dic _ _ _ _,p=>nomatch p
 | _,_,.obj _ _ _ _,p=>nomatch p
 | _,_,.exc0 _ _,p=>nomatch p
 | _,_,.exc1 _ _ _ _ _ _,p=>nomatch p
theorem FVs.dvs{O:Addr->Prop}{H:Hp}:∀{vs:List V}{ds:List D},FVs K O H vs ds->D.plains ds=true->DVs K H vs (D.pys ds)
 | _,_,.nil,_=>.nil
 | _,_,.cons a b,p=>by
  have p:(_ && _)=true:=p;rw [and_eq_true] at p;exact .cons (FV.dv a p.1) (FVs.dvs b p.2)
end
def FVc.dv{O:Addr->Prop}{H:Hp}{v:V}{d:D}(h:FVc K O H v d)(p:d.plain=true):DV K H v d.py:=by
 rcases h with h|⟨a,xs,ds',rfl,rfl,e3,f⟩|⟨a,dx,c,fs,ns,ds',e1,rfl,_⟩
 .exact h.dv p
 .exact .lst (SqL.of e3) (f.dvs p)
 .cases p
noncomputable def vL(K:b_)(neg:Bool):R2:=λx y H Q=>rI0 (λi j=>.bl (if neg then !decide (i=j) else decide (i=j))) x y H Q\/(∃i j,x=.str (S i)/\y=.str (S j)/\Q (.bl (if neg then !decide (i=j) else decide (i=j))) H)\/xp K neg x y H Q
def zj(K:b_)(e:X.K=K)(hu:X.A.units+64<cLine):OpR X (compareOp .Eq) (vL K false):=by
 subst e;exact OpR.or vo (OpR.or vm (vi hu))
def zk(K:b_)(e:X.K=K)(hu:X.A.units+64<cLine):OpR X (compareOp .NotEq) (vL K true):=by
 subst e;exact OpR.or vp (OpR.or vn (vj hu))
noncomputable def kr(a b:D):Prop:=a.plain=true/\b.plain=true/\AA a.py=true/\AA b.py=true
def deq(a b:D):Bool:=Bb a.py b.py
noncomputable def fEq:F2
 | .int i,.int j,Q=>Q (.dat (.bl (decide (i=j))))
 | .str i,.str j,Q=>Q (.dat (.bl (decide (i=j))))
 | a,b,Q=>kr a b/\Q (.dat (.bl (deq a b)))
noncomputable def fNe:F2
 | .int i,.int j,Q=>Q (.dat (.bl (!decide (i=j))))
 | .str i,.str j,Q=>Q (.dat (.bl (!decide (i=j))))
 | a,b,Q=>kr a b/\Q (.dat (.bl (!deq a b)))
def xJ:LO K (vL K false) fEq:=by
 intro O H x y a b Q Q' dom fx fy q k;unfold fEq at q
 split at q
 .rename_i i j;exact .inl ⟨i,j,fx.int,fy.int,k _ H _ q (Gr.refl _) (.bl _)⟩
 .rename_i i j;exact .inr (.inl ⟨i,j,fx.str.1,fy.str.1,k _ H _ q (Gr.refl _) (.bl _)⟩)
 .exact .inr (.inr ⟨_,_,fx.dv q.1.1,fy.dv q.1.2.1,q.1.2.2.1,q.1.2.2.2,k _ H _ q.2 (Gr.refl _) (.bl _)⟩)
def xK:LO K (vL K true) fNe:=by
 intro O H x y a b Q Q' dom fx fy q k;unfold fNe at q
 split at q
 .rename_i i j;exact .inl ⟨i,j,fx.int,fy.int,k _ H _ q (Gr.refl _) (.bl _)⟩
 .rename_i i j;exact .inr (.inl ⟨i,j,fx.str.1,fy.str.1,k _ H _ q (Gr.refl _) (.bl _)⟩)
 .exact .inr (.inr ⟨_,_,fx.dv q.1.1,fy.dv q.1.2.1,q.1.2.2.1,q.1.2.2.2,k _ H _ q.2 (Gr.refl _) (.bl _)⟩)
noncomputable def yJ(K:b_):R2:=λx y H Q=>yz K x y H Q\/yA K x y H Q\/vk x y H Q
def iO(K:b_)(e:X.K=K):IxR X (yJ K):=by
 subst e;exact IxR.or sK (IxR.or u9 sP)
noncomputable def fIx:F2
 | .lst ds,.int i,Q=>∃d,atI ds i=some d/\Q (.dat d)
 | .tup ds,.int i,Q=>∃d,atI ds i=some d/\Q (.dat d)
 | .scr ns,.int i,Q=>∃d,atI ns i=some d/\Q (.dat (.int d))
 | .str l,.int i,Q=>∃c,atI l i=some c/\Q (.dat (.str [c]))
 | _,_,_=>False
def FVs.atI{O:Addr->Prop}{H:Hp}{vs:List V}{ds:List D}{i:Int}{d:D}(f:FVs K O H vs ds)(h:L2.atI ds i=some d):∃v,L2.atI vs i=some v/\FV K O H v d:=by
 unfold L2.atI at h ⊢;rw [f.length]
 cases e:ixN ds.length i with
 | none=>rw [e] at h;cases h
 | some j=>rw [e] at h;exact f.getD h
def cp:LO K (yJ K) fIx:=by
 intro O H x y a b Q Q' dom fx fy q k;unfold fIx at q
 split at q
 .obtain⟨d,hd,q⟩:=q;obtain⟨p,xs,rfl,e1,f1⟩:=fx.lst;obtain⟨v,hv,fv⟩:=f1.atI hd;exact .inl ⟨p,xs,_,v,rfl,fy.int,SqL.of e1,hv,k _ H _ q (Gr.refl _) fv⟩
 .obtain⟨d,hd,q⟩:=q;obtain⟨p,xs,rfl,n1,e1,f1⟩:=fx.tup;obtain⟨v,hv,fv⟩:=f1.atI hd;exact .inr (.inl ⟨p,xs,_,v,rfl,fy.int,SqT.of e1,hv,k _ H _ q (Gr.refl _) fv⟩)
 .obtain⟨d,hd,q⟩:=q;obtain⟨p,rfl,e1⟩:=fx.scr;exact .inl ⟨p,_,_,_,rfl,fy.int,e1,sR hd,k _ H _ q (Gr.refl _) (.int d)⟩
 .obtain⟨c,hc,q⟩:=q;exact .inr (.inr ⟨_,_,c,fx.str.1,fy.int,sz _ fx.str.2,hc,k _ H _ q (Gr.refl _) (.str _ (by show 1<=1000000;decide))⟩)
 .exact q.elim
end
end L2
namespace L2
open PySem PySem.Spec PyProof.Rows _root_.HT
section
variable {prog:m_}{w:World}{A:v_}{E:Value->c_->Prop}{s:c_}
def eX{t sl:Addr}{items:Array Value}{vl vu:Value}{lo hi:Option Int}{Q:Value->c_->Prop}(ht:IsTup s.heap t items)(hs:s.heap.IsSliceOf sl vl vu .none)(pl:CF vl lo)(pu:CF vu hi)
  (hw:sIx items.size 0 lo=0/\sIx items.size items.size hi=items.size)
  (h:Q (.ref t) s):wpAny (model prog w) A (getItem (.ref t) (.ref sl)) Q E s:=by
 obtain⟨os,hos,hcs,hds⟩:=id hs;have hTs:s.TypeIs (.ref sl) "slice":=⟨os,hos,hcs⟩
 unfold getItem
 try with_reducible refine zR ?_
 first|refine cy (f_ ?_)|skip
 refine cy (wpAny_sequenceKey ht.typeIs (by decide) ?_)
 refine cy (wpAny_callSpecial?_slot (name:=Str.ofString "__getitem__") ht.typeIs zN
  (Ct zN ht.typeIs entry_tuple_getitem ?_ (args_tuple_getitem _ _)))
 show wpAny _ _ (B_ (.ref t) >>= _) _ _ s;refine cy (tupleItemsOf_ ht ?_);refine cy (BV hTs ?_);rw [if_pos (by decide)];refine cy (cH hs pl pu ?_)
 have hyes:(((sIx items.size 0 lo:Nat):Int) == 0 && (1:Int) == 1 && (sIx items.size items.size hi - sIx items.size 0 lo) == items.size)=true:=by
  rw [hw.1,hw.2,C7];simp
 show wpAny _ _ (if (((sIx items.size 0 lo:Nat):Int) == 0 && (1:Int) == 1 && (sIx items.size items.size hi - sIx items.size 0 lo) == items.size)=true then _ else _) _ _ s;rw [if_pos hyes];refine cy (m:=Builtin.Tuple.tupleIsExact _) (cy (BV ht.typeIs (f_ ?_)));rw [if_pos (by decide)]
 first
  | exact cy (m:=rule _) (f_ (f_ ⟨_,rfl,f_ h⟩))
  | exact f_ ⟨_,rfl,f_ h⟩
  | exact cy (wpAny_rule (f_ ⟨_,rfl,f_ h⟩))
noncomputable def vM(K:b_):V->Option Int->Option Int->Hp->VK->Prop:=λx lo hi H Q=>∃a xs,x=.ref a/\SqT K H a xs/\(sIx xs.length 0 lo=0/\sIx xs.length xs.length hi=xs.length)/\Q (.ref a) H
def tw{X:Cx}:SlR X (vM X.K):=by
 intro pins s σ H x v vl vu lo hi sl Q I rx hs pl pu h;obtain⟨a,xs,rfl,hx,hw,q⟩:=h;cases rx;obtain⟨its,r,ht,hz⟩:=I.tuple hx;have hlen:its.toArray.size=xs.length:=by rw [size_toArray];exact r.length.symm
 refine⟨"tuple",_,zN.lookup,ht.typeIs,?_⟩;exact eX ht hs pl pu (by rw [hlen];exact hw) ⟨.ref a,H,I,rfl,q⟩
end
end L2
namespace L2
open PySem PySem.Spec PyProof.Rows
section
variable {K:b_}{X:Cx}{ta tb tc to:TE}{pa pb pc:PA1}{pe:PTE}{tr:TA}{pr:PTA}
abbrev PTO:=PSt->(Option Int->PSt->Prop)->Prop
noncomputable def LPo(K:b_)(t:TO)(p:PTO):Prop:=∀(A:Addr->Prop) (ρ:PSt) (σ:St) (H:Hp) (Q:Option Int->PSt->Prop) (Q':Option Int->Hp->Prop),Rel K A ρ σ H->p ρ Q ->
 (∀b H' ρ',Q b ρ'->Fr ρ σ H ρ' H'->Rel K A ρ' σ H'->Q' b H')->t σ H Q'
def vN:PTO:=λρ Q=>Q none ρ
noncomputable def vO(pe:PTE):PTO:=λρ Q=>pe ρ λp ρ1=>match p with
 | .dat (.int i)=>Q (some i) ρ1
 | _=>False
def du:LPo K nv vN:=λA ρ σ H Q Q' R q k=>k none H ρ q (Fr.refl _ _ _) R
def dw(h:LE K ta pe):LPo K (u0 ta) (vO pe):=λA ρ σ H Q Q' R q k=>h A ρ σ H _ _ R q λv H1 p ρ1 q1 f1 o1=>by
 split at q1
 .rename_i i;obtain⟨R1,f⟩:=o1;cases f;exact⟨i,rfl,k _ H1 ρ1 q1 f1 R1⟩
 .exact q1.elim
noncomputable def xL(K:b_):V->Option Int->Option Int->Hp->VK->Prop:=λx lo hi H Q=>yB K x lo hi H Q\/yF x lo hi H Q\/yy K x lo hi H Q\/vM K x lo hi H Q
def uw(K:b_)(e:X.K=K):SlR X (xL K):=by
 subst e;exact SlR.or sL (SlR.or vh (SlR.or u4 tw))
noncomputable def fSl:D->Option Int->Option Int->(PV->Prop)->Prop
 | .lst ds,lo,hi,Q=>Q (.own (dr ds lo hi))
 | .scr ns,lo,hi,Q=>Q (.own ((dr ns lo hi).map .int))
 | .str l,lo,hi,Q=>Q (.dat (.str (dr l lo hi)))
 | .tup ds,lo,hi,Q=>Q (.dat (.tup (dr ds lo hi)))
 | _,_,_,_=>False
def FVs.cut{O:Addr->Prop}{H:Hp}{xs:List V}{ds:List D}(f:FVs K O H xs ds)(lo hi:Option Int):FVs K O H (dr xs lo hi) (dr ds lo hi):=by
 unfold dr;rw [f.length];exact (f.drop _).take _
noncomputable def vP(pa:PA1)(pl ph:PTO):PTE:=λρ Q=>pa ρ λx ρ1=>pl ρ1 λlo ρ2=>ph ρ2 λhi ρ3=>match cont ρ3 x with
 | some d=>fSl d lo hi λp=>Q p ρ3
 | _=>False
def tz{α:Type}{ds:List α}{lo hi:Option Int}{n:Nat}(h:n=ds.length)(hw:HT.sIx n 0 lo=0/\HT.sIx n n hi=n):dr ds lo hi=ds:=by
 subst h;unfold dr;rw [hw.1,hw.2,drop_zero,C7,CU]
def lsl{O:Addr->Prop}{H:Hp}{x:V}{d:D}{lo hi:Option Int}{Q:PV->Prop}{Q':VK}(dom:∀b,O b->H b≠none)(fx:FVc K O H x d)(q:fSl d lo hi Q)(k:∀v H' p,Q p->Gr H H'->kq K O H H' p v->Q' v H'):xL K x lo hi H Q':=by
 unfold fSl at q
 split at q
 .obtain⟨a,xs,rfl,e1,f1⟩:=fx.lst;exact .inl ⟨a,xs,rfl,SqL.of e1,λp hp=>k _ _ _ q (Gr.new hp) (bL hp (f1.cut _ _))⟩
 .obtain⟨a,rfl,e1⟩:=fx.scr;exact .inl ⟨a,_,rfl,e1,λp hp=>k _ _ _ q (Gr.new hp) (bL hp (by rw [nE,qi];exact FVs.of_ints _))⟩
 .exact .inr (.inl ⟨_,fx.str.1,sz _ fx.str.2,k _ H _ q (Gr.refl _) (.str _ (Af (gZ _ _ _) fx.str.2))⟩)
 .obtain⟨a,xs,rfl,n1,e1,f1⟩:=fx.tup
  by_cases hw:HT.sIx xs.length 0 lo=0/\HT.sIx xs.length xs.length hi=xs.length
  .refine .inr (.inr (.inr ⟨a,xs,rfl,SqT.of e1,hw,k _ H _ q (Gr.refl _) ?_⟩));rw [tz f1.length hw];exact .tup n1 e1 f1
  .exact .inr (.inr (.inl ⟨a,xs,rfl,SqT.of e1,hw,λp hp=>k _ _ _ q (Gr.new hp) (gl dom hp (f1.cut _ _))⟩))
 .exact q.elim
def dy{tl th:TO}{pl ph:PTO}(ha:LA1 K ta pa)(hl:LPo K tl pl)(hh:LPo K th ph):LE K (tSl (xL K) ta tl th) (vP pa pl ph):=λA ρ σ H Q Q' R q k =>
 ha A ρ σ H _ _ R q λv H1 a ρ1 q1 f1 R1 o1=>hl A ρ1 σ H1 _ _ R1 q1 λlo H2 ρ2 q2 f2 R2=>hh A ρ2 σ H2 _ _ R2 q2 λhi H3 ρ3 q3 f3 R3=>by
  split at q3
  .rename_i d e1;exact lsl R3.dom2 (R3.cont (o1.keeps (f2.trans f3).keeps) e1) q3 λz H4 p q4 g ov=>k z H4 p ρ3 q4 (((f1.trans f2).trans f3).trans g.fr) ((ov.out R3 g).h0 λb z=>f3.dm b (f2.dm b (f1.dm b z)))
  .exact q3.elim
abbrev FN:=List D->(PV->Prop)->Prop
noncomputable def vQ(K:b_):List V->Hp->VK->Prop:=λxs H Q=>(∃l,xs=[.str (S l)]/\l.length<=sizeLine/\Q (.int l.length) H)\/xw K xs H Q\/xx K xs H Q\/∃p kvs,xs=[.ref p]/\Rd H p (.dK kvs)/\Q (.int kvs.length) H
def dN(K:b_)(e:X.K=K):a6 X (.builtin "len") (vQ K):=by
 subst e;exact a6.or nK (a6.or nL (a6.or nM nY))
noncomputable def yK:FN
 | [.str l],Q=>Q (.dat (.int l.length))
 | [.lst l],Q=>Q (.dat (.int l.length))
 | [.tup l],Q=>Q (.dat (.int l.length))
 | [.scr l],Q=>Q (.dat (.int l.length))
 | [.dic ks _],Q=>Q (.dat (.int ks.length))
 | _,_=>False
def bR:LC K (vQ K) yK:=by
 intro O H xs as Q Q' dom fs q k;unfold yK at q
 split at q
 .cases fs with|cons a b=>cases b;rw [a.str.1];exact .inl ⟨_,rfl,sz _ a.str.2,k _ H _ q (Gr.refl _) (.int _)⟩
 .cases fs with
  | cons a b =>
   cases b;obtain⟨p,ys,rfl,e1,f1⟩:=a.lst;exact .inr (.inl ⟨p,ys,rfl,SqL.of e1,by rw [f1.length];exact k _ H _ q (Gr.refl _) (.int _)⟩)
 .cases fs with
  | cons a b =>
   cases b;obtain⟨p,ys,rfl,n1,e1,f1⟩:=a.tup;exact .inr (.inr (.inl ⟨p,ys,rfl,SqT.of e1,by rw [f1.length];exact k _ H _ q (Gr.refl _) (.int _)⟩))
 .cases fs with
  | cons a b =>
   cases b;obtain⟨p,rfl,e1⟩:=a.scr;exact .inr (.inl ⟨p,_,rfl,e1,by rw [length_map];exact k _ H _ q (Gr.refl _) (.int _)⟩)
 .cases fs with
  | cons a b =>
   cases b
   cases a.fv nofun nofun with
   | dic n e m f=>subst m;exact .inr (.inr (.inr ⟨_,_,rfl,.inl e,k _ H _ q (Gr.refl _) (by rw [length_map];exact .int _)⟩))
 .exact q.elim
inductive Kd where
 | int|bool|str|list|tuple|dict
noncomputable def Kd.nm:Kd->String
 | .int=>"int"|.bool=>"bool"|.str=>"str"|.list=>"list"|.tuple=>"tuple"|.dict=>"dict"
noncomputable def isK:Kd->D->Bool
 | .int,.int _=>true
 | .int,.bl _=>true
 | .bool,.bl _=>true
 | .str,.str _=>true
 | .list,.lst _=>true
 | .tuple,.tup _=>true
 | .dict,.dic _ _=>true
 | _,_=>false
noncomputable def D.sort:D->Bool
 | .obj _ _ _=>false
 | .exc _ _ _=>false
 | .scr _=>false
 | .ty _=>false
 | _=>true
def FVc.ty{O:Addr->Prop}{H:Hp}{v:V}{d:D}(h:FVc K O H v d)(s:d.sort=true):∃t,je K H v t/\∀k:Kd,zL K t (.type k.nm)=some (isK k d):=by
 rcases h with h|⟨a,xs,ds',rfl,rfl,e3,f⟩|⟨a,dx,c,fs,ns,ds',rfl,rfl,_⟩
 .cases h with
  | non=>exact⟨_,.non,λk=>by cases k <;> rfl⟩
  | bl b=>exact⟨_,.bl b,λk=>by cases k <;> rfl⟩
  | int i=>exact⟨_,.int i,λk=>by cases k <;> rfl⟩
  | str l h=>exact⟨_,.str _,λk=>by cases k <;> rfl⟩
  | ty n=>cases s
  | scr _=>cases s
  | lst n e f=>exact⟨_,.lst e,λk=>by cases k <;> rfl⟩
  | tup n e f=>exact⟨_,.tup e,λk=>by cases k <;> rfl⟩
  | dic n e m f=>exact⟨_,.dK e,λk=>by cases k <;> rfl⟩
  | obj _ _ _ _=>cases s
  | exc0 _ _=>cases s
  | exc1 _ _ _ _ _ _=>cases s
 .exact⟨_,.lst e3,λk=>by cases k <;> rfl⟩
 .cases s
def n8(K:b_)(e:X.K=K):a6 X (.builtin "isinstance") (yG K):=by subst e;exact kC
noncomputable def xM(k:Kd)(pa:PA1):PTE:=λρ Q=>pa ρ λx ρ1=>match cont ρ1 x with
 | some d=>fm d.sort (Q (.dat (.bl (isK k d))) ρ1) False
 | _=>False
def jH(k:Kd)(ha:LA1 K ta pa):LE K (tCB (yG K) (bA ta (bA (tC (.ty k.nm)) iD))) (xM k pa):=λA ρ σ H Q Q' R q kk =>
 ha A ρ σ H _ _ R q λv H1 a ρ1 q1 f1 R1 o1=>by
  split at q1
  .rename_i d e1
   cases hs:d.sort with
   | false=>rw [hs] at q1;exact q1.elim
   | true =>
    rw [hs] at q1;obtain⟨t,ty,hk⟩:=(R1.cont o1 e1).ty hs;exact⟨v,k.nm,t,isK k d,rfl,ty,hk k,kk _ H1 _ ρ1 q1 f1 ⟨R1,.bl _⟩⟩
  .exact q1.elim
noncomputable def yL(K:b_):List V->Hp->VK->Prop:=λxs H Q=>∃(x:V) (p:Addr) (ts:List String) (t:Value) (b:Bool),xs=[x,.ref p]/\je K H x t/\H p=some (.tup (ts.map V.ty))/\Bx K t (ts.map Aq)=some b/\Q (.bl b) H
def xN(K:b_)(e:X.K=K):a6 X (.builtin "isinstance") (yL K):=by subst e;exact jF
noncomputable def zl(k l:Kd)(pa:PA1):PTE:=λρ Q=>pa ρ λx ρ1=>match cont ρ1 x with
 | some d=>fm d.sort (Q (.dat (.bl (isK k d || isK l d))) ρ1) False
 | _=>False
def FVc.keeps{O O':Addr->Prop}{H H':Hp}{v:V}{d:D}(k:aF O H O' H')(g:Gr H H')(h:FVc K O H v d):FVc K O' H' v d:=by
 rcases h with h|⟨a,xs,ds',e1,e2,e3,f⟩|⟨a,dx,c,fs,ns,ds',e1,e2,e3,m,f⟩
 .exact .inl (h.keeps k)
 .exact .inr (.inl ⟨a,xs,ds',e1,e2,g _ _ e3,f.keeps k⟩)
 .exact .inr (.inr ⟨a,dx,c,fs,ns,ds',e1,e2,g _ _ e3,m,f.keeps k⟩)
def vR(k l:Kd)(hkl:∀t b c,zL K t (.type k.nm)=some b->zL K t (.type l.nm)=some c->Bx K t [.type k.nm,.type l.nm]=some (b || c))(ha:LA1 K ta pa):LE K (tCB (yL K) (bA ta (bA (xi (bA (tC (.ty k.nm)) (bA (tC (.ty l.nm)) iD))) iD))) (zl k l pa):=λA ρ σ H Q Q' R q kk =>
 ha A ρ σ H _ _ R q λv H1 a ρ1 q1 f1 R1 o1=>by
  split at q1
  .rename_i d e1
   cases hs:d.sort with
   | false=>rw [hs] at q1;exact q1.elim
   | true =>
    rw [hs] at q1;refine⟨by show 2<=sizeLine;decide,λp hp=>?_⟩;have g:Gr H1 (upd H1 p (.tup [V.ty k.nm,V.ty l.nm])):=Gr.new hp;obtain⟨t,ty,hk⟩:=((R1.cont o1 e1).keeps (g.fr (ρ:=ρ1) (σ:=σ)).keeps g).ty hs;exact⟨v,p,[k.nm,l.nm],t,_,rfl,ty,ax,hkl _ _ _ (hk k) (hk l),kk _ _ _ ρ1 q1 (f1.trans g.fr) ⟨R1.gr g,.bl _⟩⟩
  .exact q1.elim
end
structure qz where
 nx:PSt->Prop
 rt:PV->PSt->Prop
 bk:PSt->Prop:=λ_=>False
 ct:PSt->Prop:=λ_=>False
abbrev PTS:=qz->PSt->Prop
structure bC (fx:List (Nat×V)) (R:Addr->Prop) (H0:Hp) (ρ:PSt) (σ:St) (H:Hp):Prop where
 kp:∀b o,¬ R b->H0 b=some o->H b=some o
 dm:∀b,H0 b≠none->H b≠none
 ow:∀b,Wr ρ σ b->R b\/H0 b=none
 fx:∀p∈fx,σ[p.1]?=some (some p.2)
section
variable {K:b_}{fx:List (Nat×V)}{A R:Addr->Prop}{H0 H H':Hp}{ρ ρ':PSt}{σ:St}
def bC.fr(F:bC fx R H0 ρ σ H)(f:Fr ρ σ H ρ' H'):bC fx R H0 ρ' σ H' :=
 ⟨λb o n e=>f.kp b o (λw=>(F.ow b w).elim n (λz=>by rw [z] at e;cases e)) (F.kp b o n e),λb z=>f.dm b (F.dm b z),λb w=>F.ow b (f.ow b w),F.fx⟩
def bC.start(hfx:∀p∈fx,σ[p.1]?=some (some p.2)):bC fx (Wr ρ σ) H ρ σ H:=⟨λ_ _ _ h=>h,λ_ h=>h,λ_ h=>.inl h,hfx⟩
def bC.keepsR{ρ1:PSt}{σ1:St}{H1:Hp}(F:bC fx R H1 ρ σ H)(hR:∀b,R b->OO A ρ1 σ1 b):aF (OO A ρ1 σ1) H1 (OO A ρ σ) H:=λb o n e=>by
 refine⟨λz=>?_,F.kp b o (λz=>n (hR b z)) e⟩
 rcases z with z|z
 .exact n (.inl z)
 .rcases F.ow b z with z|z
  .exact n (hR b z)
  .rw [z] at e;cases e
def bC.keeps{ρ1:PSt}{σ1:St}{H1:Hp}(F:bC fx (Wr ρ1 σ1) H1 ρ σ H):aF (OO A ρ1 σ1) H1 (OO A ρ σ) H:=F.keepsR λb z=>.inr z
def bC.trans{fx':List (Nat×V)}{ρ1:PSt}{σ1:St}{H1:Hp}(F:bC fx R H0 ρ1 σ1 H1)(G:bC fx' (Wr ρ1 σ1) H1 ρ σ H)(hfx:∀p∈fx,σ[p.1]?=some (some p.2)):bC fx R H0 ρ σ H:=by
 refine⟨λb o n e=>G.kp b o (λw=>(F.ow b w).elim n (λz=>by rw [z] at e;cases e)) (F.kp b o n e),λb z=>G.dm b (F.dm b z),λb w=>?_,hfx⟩
 rcases G.ow b w with z|z
 .exact F.ow b z
 .refine .inr ?_
  cases e:H0 b with
  | none=>rfl
  | some o=>exact absurd z (F.dm b (by rw [e];exact nofun))
def Out.put{p:PV}{v:V}{i:Nat}(h:Out K A ρ σ H0 H p v):Rel K A (ρ.set i (some p)) (σ.set i (some v)) H/\∀b,Wr (ρ.set i (some p)) (σ.set i (some v)) b->Wr ρ σ b\/H0 b=none:=by
 have get:∀(j:Nat) (q:PV),(ρ.set i (some p))[j]?=some (some q)->(j=i/\q=p/\i<ρ.length)\/(j≠i/\ρ[j]?=some (some q)):=λj q e=>by
  by_cases z:i=j
  .subst z
   by_cases hi:i<ρ.length
   .rw [n_ hi] at e;cases e;exact .inl ⟨rfl,rfl,hi⟩
   .rw [y_ (by rw [z_];omega)] at e;cases e
  .rw [gV z] at e;exact .inr ⟨λq=>z q.symm,e⟩
 cases p with
 | dat d =>
  obtain⟨R1,f⟩:=h
  have ow:∀b,Wr (ρ.set i (some (.dat d))) (σ.set i (some v)) b->Wr ρ σ b:=λb ⟨j,r,e1,o1,s1⟩=>by
   rcases get j r e1 with ⟨_,rfl,_⟩|⟨n,e⟩
   .cases o1
   .rw [gV (λz=>n z.symm)] at s1;exact⟨j,r,e,o1,s1⟩
  have k:aF (OO A ρ σ) H (OO A (ρ.set i (some (.dat d))) (σ.set i (some v))) H:=aF.less λb z=>z.imp id (ow b)
  refine⟨⟨by rw [z_,z_];exact R1.len,λj r e1=>?_,λj l p1 q1 v' e1 e2 o1 o2 s1 s2=>?_,R1.dom,λb z w=>R1.sep b z (ow b w)⟩,λb w=>.inl (ow b w)⟩
  .rcases get j r e1 with ⟨rfl,rfl,hi⟩|⟨n,e⟩
   .exact⟨v,n_ (by rw [<- R1.len];exact hi),f.keeps k⟩
   .obtain⟨u,s,r'⟩:=R1.get j r e;exact⟨u,by rw [gV (λz=>n z.symm)];exact s,r'.keeps k λ_ _ _=>rfl⟩
  .rcases get j p1 e1 with ⟨_,rfl,_⟩|⟨n1,e1⟩
   .cases o1
   .rcases get l q1 e2 with ⟨_,rfl,_⟩|⟨n2,e2⟩
    .cases o2
    .rw [gV (λz=>n1 z.symm)] at s1;rw [gV (λz=>n2 z.symm)] at s2;exact R1.dj j l p1 q1 v' e1 e2 o1 o2 s1 s2
 | own ds =>
  obtain⟨a,xs,rfl,na,hn,e0,R1,f⟩:=h
  have ow:∀b,Wr (ρ.set i (some (.own ds))) (σ.set i (some (.ref a))) b->Wr ρ σ b\/b=a:=λb ⟨j,r,e1,o1,s1⟩=>by
   rcases get j r e1 with ⟨rfl,rfl,hi⟩|⟨n,e⟩
   .rw [n_ (by rw [<- R1.len];exact hi)] at s1;cases s1;exact .inr rfl
   .rw [gV (λz=>n z.symm)] at s1;exact .inl ⟨j,r,e,o1,s1⟩
  have k:aF (OO (b8 A a) ρ σ) H (OO A (ρ.set i (some (.own ds))) (σ.set i (some (.ref a)))) H:=aF.less λb z=>by
   rcases z with z|z
   .exact .inl (.inl z)
   .rcases ow b z with z|z
    .exact .inr z
    .exact .inl (.inr z)
  refine⟨⟨by rw [z_,z_];exact R1.len,λj r e1=>?_,λj l p1 q1 v' e1 e2 o1 o2 s1 s2=>?_,λb z=>R1.dom b (.inl z),λb z w=>?_⟩,λb w=>(ow b w).imp id λz=>by rw [z];exact hn⟩
  .rcases get j r e1 with ⟨rfl,rfl,hi⟩|⟨n,e⟩
   .exact⟨_,n_ (by rw [<- R1.len];exact hi),a,xs,rfl,e0,f.keeps k⟩
   .obtain⟨u,s,r'⟩:=R1.get j r e;exact⟨u,by rw [gV (λz=>n z.symm)];exact s,r'.keeps k λ_ _ _=>rfl⟩
  .rcases get j p1 e1 with ⟨rfl,rfl,hi⟩|⟨n1,e1'⟩
   .rw [n_ (by rw [<- R1.len];exact hi)] at s1;cases s1
    rcases get l q1 e2 with ⟨rfl,rfl,_⟩|⟨n2,e2⟩
    .rfl
    .rw [gV (λz=>n2 z.symm)] at s2;exact absurd ⟨l,q1,e2,o2,s2⟩ (R1.sep a (.inr rfl))
   .rw [gV (λz=>n1 z.symm)] at s1
    rcases get l q1 e2 with ⟨rfl,rfl,hi⟩|⟨n2,e2⟩
    .rw [n_ (by rw [<- R1.len];exact hi)] at s2;cases s2;exact absurd ⟨j,p1,e1',o1,s1⟩ (R1.sep a (.inr rfl))
    .rw [gV (λz=>n2 z.symm)] at s2;exact R1.dj j l p1 q1 v' e1' e2 o1 o2 s1 s2
  .rcases ow b w with w|w
   .exact R1.sep b (.inl z) w
   .rw [w] at z;exact na z
 | ins c ns ds =>
  obtain⟨a,dx,fs,rfl,na,hn,e0,m,R1,f⟩:=h
  have ow:∀b,Wr (ρ.set i (some (.ins c ns ds))) (σ.set i (some (.ref a))) b->Wr ρ σ b\/b=a:=λb ⟨j,r,e1,o1,s1⟩=>by
   rcases get j r e1 with ⟨rfl,rfl,hi⟩|⟨n,e⟩
   .rw [n_ (by rw [<- R1.len];exact hi)] at s1;cases s1;exact .inr rfl
   .rw [gV (λz=>n z.symm)] at s1;exact .inl ⟨j,r,e,o1,s1⟩
  have k:aF (OO (b8 A a) ρ σ) H (OO A (ρ.set i (some (.ins c ns ds))) (σ.set i (some (.ref a)))) H:=aF.less λb z=>by
   rcases z with z|z
   .exact .inl (.inl z)
   .rcases ow b z with z|z
    .exact .inr z
    .exact .inl (.inr z)
  refine⟨⟨by rw [z_,z_];exact R1.len,λj r e1=>?_,λj l p1 q1 v' e1 e2 o1 o2 s1 s2=>?_,λb z=>R1.dom b (.inl z),λb z w=>?_⟩,λb w=>(ow b w).imp id λz=>by rw [z];exact hn⟩
  .rcases get j r e1 with ⟨rfl,rfl,hi⟩|⟨n,e⟩
   .exact⟨_,n_ (by rw [<- R1.len];exact hi),a,dx,fs,rfl,e0,m,f.keeps k⟩
   .obtain⟨u,s,r'⟩:=R1.get j r e;exact⟨u,by rw [gV (λz=>n z.symm)];exact s,r'.keeps k λ_ _ _=>rfl⟩
  .rcases get j p1 e1 with ⟨rfl,rfl,hi⟩|⟨n1,e1'⟩
   .rw [n_ (by rw [<- R1.len];exact hi)] at s1;cases s1
    rcases get l q1 e2 with ⟨rfl,rfl,_⟩|⟨n2,e2⟩
    .rfl
    .rw [gV (λz=>n2 z.symm)] at s2;exact absurd ⟨l,q1,e2,o2,s2⟩ (R1.sep a (.inr rfl))
   .rw [gV (λz=>n1 z.symm)] at s1
    rcases get l q1 e2 with ⟨rfl,rfl,hi⟩|⟨n2,e2⟩
    .rw [n_ (by rw [<- R1.len];exact hi)] at s2;cases s2;exact absurd ⟨j,p1,e1',o1,s1⟩ (R1.sep a (.inr rfl))
    .rw [gV (λz=>n2 z.symm)] at s2;exact R1.dj j l p1 q1 v' e1' e2 o1 o2 s1 s2
  .rcases ow b w with w|w
   .exact R1.sep b (.inl z) w
   .rw [w] at z;exact na z
end
abbrev PTG:=PV->PSt->(PSt->Prop)->Prop
abbrev rG:=List D->PSt->(PSt->Prop)->Prop
noncomputable def LG(K:b_)(fs:List Nat)(g:TG)(pg:PTG):Prop:=∀(fx:List (Nat×V)) (A R:Addr->Prop) (H0:Hp) (ρ:PSt) (σ:St) (H:Hp) (p:PV) (v:V) (Q:PSt->Prop) (Q':St->Hp->Prop),fx.map tj=fs->bC fx R H0 ρ σ H->Out K A ρ σ H0 H p v->pg p ρ Q ->
 (∀ρ' σ' H',Q ρ'->Rel K A ρ' σ' H'->bC fx R H0 ρ' σ' H'->Q' σ' H')->g v σ H Q'
noncomputable def LGs(K:b_)(fs:List Nat)(g:TGs)(pg:rG):Prop:=∀(fx:List (Nat×V)) (A R:Addr->Prop) (H0:Hp) (ρ:PSt) (σ:St) (H:Hp) (ds:List D) (vs:List V) (Q:PSt->Prop) (Q':St->Hp->Prop),fx.map tj=fs->bC fx R H0 ρ σ H->Rel K A ρ σ H->FVs K (OO A ρ σ) H vs ds->pg ds ρ Q ->
 (∀ρ' σ',Q ρ'->Rel K A ρ' σ' H->bC fx R H0 ρ' σ' H->(∀b,Wr ρ' σ' b->Wr ρ σ b)->Q' σ' H)->g vs σ H Q'
noncomputable def LGd(K:b_)(fs:List Nat)(g:TG)(pg:PTG):Prop:=∀(fx:List (Nat×V)) (A R:Addr->Prop) (H0:Hp) (ρ:PSt) (σ:St) (H:Hp) (d:D) (v:V) (Q:PSt->Prop) (Q':St->Hp->Prop),fx.map tj=fs->bC fx R H0 ρ σ H->Rel K A ρ σ H->FV K (OO A ρ σ) H v d->pg (.dat d) ρ Q ->
 (∀ρ' σ',Q ρ'->Rel K A ρ' σ' H->bC fx R H0 ρ' σ' H->(∀b,Wr ρ' σ' b->Wr ρ σ b)->Q' σ' H)->g v σ H Q'
noncomputable def dD(i:Nat):PTG:=λp ρ Q=>Q (ρ.set i (some p))
noncomputable def vS:rG:=λds ρ Q=>match ds with|[]=>Q ρ|_=>False
noncomputable def rH(g:PTG)(gs:rG):rG:=λds ρ Q=>match ds with|d::r=>g (.dat d) ρ λρ1=>gs r ρ1 Q|[]=>False
section
variable {K:b_}{fs:List Nat}
def bC.put{fx:List (Nat×V)}{R:Addr->Prop}{H0 H:Hp}{ρ:PSt}{σ:St}{i:Nat}{p:PV}{v:V}(hf:fx.map tj=fs)(hi:fs.contains i=false)(F:bC fx R H0 ρ σ H)(ow:∀b,Wr (ρ.set i (some p)) (σ.set i (some v)) b->Wr ρ σ b\/H0 b=none):bC fx R H0 (ρ.set i (some p)) (σ.set i (some v)) H :=
 ⟨F.kp,F.dm,λb w=>(ow b w).elim (F.ow b) .inr,λq hq=>by
  have:q.1≠i:=λz=>by
   have h1:i∈fs:=by rw [<- hf,<- z];exact A0 hq
   rw [j_.mpr h1] at hi;cases hi
  rw [gV (λz=>this z.symm)];exact F.fx q hq⟩
def aw{i:Nat}(hi:fs.contains i=false):LG K fs (cf i) (dD i):=λfx A R H0 ρ σ H p v Q Q' hf F o q k=>k _ _ _ q o.put.1 (F.put hf hi o.put.2)
def n9:LGs K fs wI vS:=λfx A R H0 ρ σ H ds vs Q Q' hf F r fv q k=>by
 unfold vS at q
 split at q
 .cases fv;exact⟨rfl,k _ _ q r F λ_ h=>h⟩
 .exact q.elim
def aT{i:Nat}(hi:fs.contains i=false):LGd K fs (cf i) (dD i):=λfx A R H0 ρ σ H d v Q Q' hf F r fv q k=>by
 have o:Out K A ρ σ H0 H (.dat d) v:=⟨r,fv⟩
 have ow:∀b,Wr (ρ.set i (some (.dat d))) (σ.set i (some v)) b->Wr ρ σ b:=λb ⟨j,p,e1,o1,s1⟩=>by
  by_cases z:i=j
  .subst z
   by_cases hl:i<ρ.length
   .rw [n_ hl] at e1;cases e1;cases o1
   .rw [y_ (by rw [z_];omega)] at e1;cases e1
  .rw [gV z] at e1 s1;exact⟨j,p,e1,o1,s1⟩
 exact k _ _ q o.put.1 (F.put hf hi o.put.2) ow
def dz{g:TG}{pg:PTG}{gs:TGs}{pgs:rG}(hg:LGd K fs g pg)(h:LGs K fs gs pgs):LGs K fs (ji g gs) (rH pg pgs):=λfx A R H0 ρ σ H ds vs Q Q' hf F r fv q k=>by
 unfold rH at q
 split at q
 .cases fv with
  | cons a b =>
   exact⟨_,_,rfl,hg fx A R H0 ρ σ H _ _ _ _ hf F r a q λρ1 σ1 q1 r1 F1 w1=>h fx A R H0 ρ1 σ1 H _ _ _ _ hf F1 r1 (b.keeps (aF.less λb z=>z.imp id (w1 b))) q1 λρ2 σ2 q2 r2 F2 w2=>k ρ2 σ2 q2 r2 F2 λb z=>w1 b (w2 b z)⟩
 .exact q.elim
end
noncomputable def LS(K:b_)(fs:List Nat)(ts:TS)(ps:PTS):Prop:=∀(fx:List (Nat×V)) (A R:Addr->Prop) (H0:Hp) (ρ:PSt) (σ:St) (H:Hp) (D:qz) (D':pX),fx.map tj=fs->Rel K A ρ σ H->bC fx R H0 ρ σ H->ps D ρ ->
 (∀ρ' σ' H',D.nx ρ'->Rel K A ρ' σ' H'->bC fx R H0 ρ' σ' H'->D'.nx σ' H') ->
 (∀v p ρ' σ' H',D.rt p ρ'->Out K A ρ' σ' H0 H' p v->bC fx R H0 ρ' σ' H'->D'.rt v H') ->
 (∀ρ' σ' H',D.bk ρ'->Rel K A ρ' σ' H'->bC fx R H0 ρ' σ' H'->D'.bk σ' H') ->
 (∀ρ' σ' H',D.ct ρ'->Rel K A ρ' σ' H'->bC fx R H0 ρ' σ' H'->D'.ct σ' H')->ts D' σ H
def rJ:PTS:=λD ρ=>D.nx ρ
noncomputable def gm(a b:PTS):PTS:=λD ρ=>a { D with nx:=b D } ρ
noncomputable def vT(pe:PTE):PTS:=λD ρ=>pe ρ λ_ ρ1=>D.nx ρ1
def oa(pe:PTE):PTS:=λD ρ=>pe ρ D.rt
noncomputable def xO(t:PTT)(a b:PTS):PTS:=λD ρ=>t ρ λc ρ1=>fm c (a D ρ1) (b D ρ1)
noncomputable def iP(pe:PTE)(g:PTG):PTS:=λD ρ=>pe ρ λp ρ1=>g p ρ1 D.nx
noncomputable def vU(a:PTS):PTS:=λD ρ=>∃J:PSt->Prop,a { D with nx:=J } ρ/\∀ρ',J ρ'->D.nx ρ'
section
variable {K:b_}{fs:List Nat}{ta tb:TS}{pa pb:PTS}{te:TE}{pe:PTE}{tt:TT}{pt:PTT}
def bE:LS K fs sy rJ:=λfx A R H0 ρ σ H D D' hf r F q k1 k2 k3 k4=>k1 _ _ _ q r F
def ay(ha:LS K fs ta pa)(hb:LS K fs tb pb):LS K fs (wH ta tb) (gm pa pb):=λfx A R H0 ρ σ H D D' hf r F q k1 k2 k3 k4 =>
 ha fx A R H0 ρ σ H _ _ hf r F q (λρ1 σ1 H1 q1 r1 F1=>hb fx A R H0 ρ1 σ1 H1 _ _ hf r1 F1 q1 k1 k2 k3 k4) k2 k3 k4
def cV(h:LE K te pe):LS K fs (sA te) (vT pe):=λfx A R H0 ρ σ H D D' hf r F q k1 k2 k3 k4=>h A ρ σ H _ _ r q λv H1 p ρ1 q1 f1 o1=>k1 _ _ _ q1 o1.frz.1 (F.fr f1)
def aZ(h:LE K te pe):LS K fs (yt te) (oa pe):=λfx A R H0 ρ σ H D D' hf r F q k1 k2 k3 k4=>h A ρ σ H _ _ r q λv H1 p ρ1 q1 f1 o1=>k2 v p ρ1 σ H1 q1 (o1.h0 F.dm) (F.fr f1)
def g5(ht:LT K tt pt)(ha:LS K fs ta pa)(hb:LS K fs tb pb):LS K fs (wX tt ta tb) (xO pt pa pb):=λfx A R H0 ρ σ H D D' hf r F q k1 k2 k3 k4=>ht A ρ σ H _ _ r q λc H1 ρ1 q1 f1 r1=>by
 cases c with
 | true=>exact ha fx A R H0 ρ1 σ H1 D D' hf r1 (F.fr f1) q1 k1 k2 k3 k4
 | false=>exact hb fx A R H0 ρ1 σ H1 D D' hf r1 (F.fr f1) q1 k1 k2 k3 k4
def aE{g:TG}{pg:PTG}(h:LE K te pe)(hg:LG K fs g pg):LS K fs (ur te g) (iP pe pg):=λfx A R H0 ρ σ H D D' hf r F q k1 k2 k3 k4=>h A ρ σ H _ _ r q λv H1 p ρ1 q1 f1 o1 =>
 hg fx A R H0 ρ1 σ H1 p v _ _ hf (F.fr f1) (o1.h0 F.dm) q1 k1
def iQ(h:LS K fs ta pa):LS K fs (vw ta) (vU pa):=λfx A R H0 ρ σ H D D' hf r F q k1 k2 k3 k4=>by
 obtain⟨J,q1,q2⟩:=q;refine⟨λσ' H'=>∃ρ',J ρ'/\Rel K A ρ' σ' H'/\bC fx R H0 ρ' σ' H',?_,λσ' H' ⟨ρ',j,r',F'⟩=>k1 ρ' σ' H' (q2 ρ' j) r' F'⟩;exact h fx A R H0 ρ σ H _ _ hf r F q1 (λρ' σ' H' j r' F'=>⟨ρ',j,r',F'⟩) k2 k3 k4
end
noncomputable def og(K:b_)(tl:TE):TI:=λσ H R=>tl σ H λx H1=>(∃k a xs,x=.ref a/\Sq k K H1 a xs/\R (Itk k K a) H1)\/∃l,x=.str (S l)/\R (Its (cT l)) H1
section
variable {X:Cx}{tg:Expr}
def tD{l:Expr}{tl:TE}(hl:PE X l tl):PI X tg l (og X.K tl):=by
 intro pins s σ H R I h;refine thn (hl pins s σ H _ I h) λv s1 ⟨x,H1,I1,r1,q1⟩=>?_
 have fin:∀b∈[s1.heap.objs.size],mK X pins H1 b:=λb hb=>by
  have e:b=s1.heap.objs.size:=by simpa using hb
  subst e;exact I1.fpOk (o_ _) (I1.hok.fresh (o_ _))
 rcases q1 with ⟨k,a,xs,e,hq,q⟩|⟨l,e,q⟩
 .subst e;cases r1
  cases k with
  | false =>
   obtain⟨its,rv,p,hz⟩:=I1.list hq;refine Cm p.isList ?_;exact⟨s1.heap.objs.size,[s1.heap.objs.size],_,_,H1,rfl,I1.kept (t':=s1.toks) λb o e=>e_ _ e,mY a _,⟨_,q_ _ rfl,rfl,rfl⟩,fin,q⟩
  | true =>
   obtain⟨its,rv,p,hz⟩:=I1.tuple hq;refine wpAny_pyIter_tuple (show s1.heap.IsTuple a its.toArray from p) ?_;exact⟨s1.heap.objs.size,[s1.heap.objs.size],_,_,H1,rfl,I1.kept (t':=s1.toks) λb o e=>e_ _ e,l6 a _,⟨_,q_ _ rfl,rfl,rfl⟩,fin,q⟩
 .subst e;obtain⟨t,rfl⟩:=r1
  have hv:∀i v,i<(S l).cps.size->SignAt (S l) i v->∃x,(cT l)[i]?=some x/\bz x v:=λi v _ ⟨c,u,hc,e⟩=>by
   subst e;have hc':l[i]?=some c:=by simpa [S] using hc
   exact⟨.str (S [c]),by unfold cT;rw [so,hc'];rfl,u,rfl⟩
  have hsc:∀i v,SignAt (S l) i v->∀a,v≠.ref a:=λi v ⟨c,u,hc,e⟩ a z=>by subst e;cases z
  have hn:(cT l).length=(S l).cps.size:=by rw [eV];simp [S]
  have hobj:∀ty i (h:Heap),h.IsStrIter s1.heap.objs.size ty (S l) t i->∃o,h.get? s1.heap.objs.size=some o/\∀v,o.data≠.cell v:=λty i h ⟨o,ho,_,hd⟩=>⟨o,ho,λv z=>by rw [hd] at z;cases z⟩
  have hfr:∀ty i (h h':Heap),h.IsStrIter s1.heap.objs.size ty (S l) t i->(∀b∈[s1.heap.objs.size],∀o,h.get? b=some o->h'.get? b=some o)->h'.IsStrIter s1.heap.objs.size ty (S l) t i:=λty i h h' ⟨o,ho,r⟩ k=>⟨o,k _ (by simp) o ho,r⟩
  cases ha:(S l).cps.all (·<128)
  .refine wpAny_pyIter_wide ha ⟨s1.heap.objs.size,[s1.heap.objs.size],_,Its (cT l),H1,rfl,I1.kept (t':=s1.toks) λb o e=>e_ _ e,
    jw (λA hA=>Walks.strWide hA _ (S l) t) hn hv hsc (hobj _) (hfr _) (λA i s Q E st q=>wpAny_pyIter_striter_wide st q),⟨_,q_ _ rfl,rfl,rfl⟩,fin,q⟩
  .refine wpAny_pyIter_ascii ha ⟨s1.heap.objs.size,[s1.heap.objs.size],_,Its (cT l),H1,rfl,I1.kept (t':=s1.toks) λb o e=>e_ _ e,
    jw (λA hA=>Walks.strAscii hA _ (S l) t) hn hv hsc (hobj _) (hfr _) (λA i s Q E st q=>wpAny_pyIter_striter_ascii st q),⟨_,q_ _ rfl,rfl,rfl⟩,fin,q⟩
def cK(K:b_)(e:X.K=K){l:Expr}{tl:TE}(hl:PE X l tl):PI X tg l (og K tl):=by subst e;exact tD hl
end
abbrev PTI:=PSt->(Nat->(Nat->D)->PSt->Prop)->Prop
noncomputable def Wlk(K:b_)(O:Addr->Prop)(H:Hp)(J:It)(n:Nat)(it:Nat->D):Prop:=∀(O':Addr->Prop) (H':Hp),aF O H O' H'->(∀b,O' b->H' b≠none) ->
 (∀k,k<n->J.go k H'/\∀x H'',J.yld k H' x H''->Gr H' H''/\FV K O' H'' x (it k))/\J.stop n H'
noncomputable def LI(K:b_)(wi:TI)(pi:PTI):Prop:=∀(A:Addr->Prop) (ρ:PSt) (σ:St) (H:Hp) (Q:Nat->(Nat->D)->PSt->Prop) (Q':It->Hp->Prop),Rel K A ρ σ H->pi ρ Q ->
 (∀J H' n it ρ',Q n it ρ'->Fr ρ σ H ρ' H'->Rel K A ρ' σ H'->Wlk K (OO A ρ' σ) H' J n it->Q' J H')->wi σ H Q'
noncomputable def itD(ds:List D)(k:Nat):D:=ds.getD k .non
def oh{ds:List D}{k:Nat}(h:k<ds.length):ds[k]?=some (itD ds k):=by unfold itD;rw [g_,d_ h];rfl
def jI{ds:List D}{k:Nat}{d:D}(h:ds[k]?=some d):itD ds k=d:=by unfold itD;rw [g_,h];rfl
noncomputable def xP:D->Option (Nat×(Nat->D))
 | .lst ds=>some (ds.length,itD ds)
 | .tup ds=>some (ds.length,itD ds)
 | .scr ns=>some (ns.length,λk=>.int (ns.getD k 0))
 | .str l=>some (l.length,λk=>.str [l.getD k 0])
 | _=>none
noncomputable def xQ(pe:PTE):PTI:=λρ Q=>pe ρ λp ρ1=>match xP p.d with
 | some (n,it)=>Q n it ρ1
 | none=>False
section
variable {K:b_}{te:TE}{pe:PTE}{ta:TA}{pa:PTA}
def FV.row{O:Addr->Prop}{H:Hp}{v:V}{d:D}{n:Nat}{it:Nat->D}(h:FV K O H v d)(e:xP d=some (n,it)) :
  (∃k a xs,v=.ref a/\xs.length=n/\(∀O' H',aF O H O' H'->Sq k K H' a xs/\∀j x,xs[j]?=some x->FV K O' H' x (it j)))\/∃l,v=.str (S l)/\l.length=n/\(∀k,it k=.str [l.getD k 0]):=by
 cases h with
 | lst nn e0 f =>
  cases e;refine .inl ⟨false,_,_,rfl,f.length,λO' H' k=>⟨SqL.of (k _ _ nn e0).2,λj x hx=>?_⟩⟩;obtain⟨d,hd,fd⟩:=f.get hx;rw [jI hd];exact fd.keeps k
 | tup nn e0 f =>
  cases e;refine .inl ⟨true,_,_,rfl,f.length,λO' H' k=>⟨SqT.of (k _ _ nn e0).2,λj x hx=>?_⟩⟩;obtain⟨d,hd,fd⟩:=f.get hx;rw [jI hd];exact fd.keeps k
 | scr s =>
  cases e;refine .inl ⟨false,_,_,rfl,length_map _,λO' H' k=>⟨(s.keeps k).sq,λj x hx=>?_⟩⟩;obtain⟨z,hz,rfl⟩:=qh hx;show FV K O' H' (V.int z) (D.int (List.getD _ j 0));rw [g_,hz];exact .int z
 | str l hl=>cases e;exact .inr ⟨l,rfl,rfl,λ_=>rfl⟩
 | non=>cases e
 | bl b=>cases e
 | int i=>cases e
 | ty n=>cases e
 | dic _ _ _ _=>cases e
 | obj _ _ _ _=>cases e
 | exc0 _ _=>cases e
 | exc1 _ _ _ _ _ _=>cases e
def cM(h:LE K te pe):LI K (og K te) (xQ pe):=λA ρ σ H Q Q' R q k=>h A ρ σ H _ _ R q λv H1 p ρ1 q1 f1 o1=>by
 obtain⟨R1,fv⟩:=o1.frz
 split at q1
 .rename_i n it e
  rcases fv.row e with ⟨b,a,xs,rfl,hl,hr⟩|⟨l,rfl,hl,hi⟩
  .refine .inl ⟨b,a,xs,rfl,(hr _ H1 (λb o n h=>⟨n,h⟩)).1,k _ H1 n it ρ1 q1 f1 R1 λO' H' kk dom=>?_⟩;obtain⟨sq,hx⟩:=hr O' H' kk
   cases b with
   | false =>
    refine⟨λj hj=>⟨⟨xs,_,sq,d_ (by rw [hl];exact hj)⟩,λx H'' ⟨e,y⟩=>?_⟩,⟨xs,sq,by rw [hl];exact o_ _⟩⟩;subst e;exact⟨Gr.refl _,hx j x (y xs sq)⟩
   | true =>
    refine⟨λj hj=>⟨⟨xs,_,sq,d_ (by rw [hl];exact hj)⟩,λx H'' ⟨e,y⟩=>?_⟩,⟨xs,sq,by rw [hl];exact o_ _⟩⟩;subst e;exact⟨Gr.refl _,hx j x (y xs sq)⟩
  .refine .inr ⟨l,rfl,k _ H1 n it ρ1 q1 f1 R1 λO' H' kk dom=>?_⟩;refine⟨λj hj=>⟨by show j<(cT l).length;rw [eV,hl];exact hj,λx H'' ⟨e,y⟩=>?_⟩,by show (cT l).length=n;rw [eV,hl]⟩;subst e;obtain⟨c,hc,rfl⟩:=mi y;rw [hi,g_,hc];exact⟨Gr.refl _,.str _ (by show 1<=1000000;decide)⟩
 .exact q1.elim
noncomputable def zm(pa:PTA):PTI:=λρ Q=>pa ρ λas ρ1=>match as with
 | [.v (.int j)]=>(-(2^60)<=j/\j<2^60)/\Q j.toNat (λk=>.int (k:Int)) ρ1
 | _=>False
noncomputable def zn(pa:PTA):PTI:=λρ Q=>pa ρ λas ρ1=>match as with
 | [.v (.int i),.v (.int j)]=>(-(2^60)<=i/\i<2^60/\-(2^60)<=j/\j<2^60)/\Q (j - i).toNat (λk=>.int (i+(k:Int))) ρ1
 | _=>False
def vV{O:Addr->Prop}{H:Hp}{lo:Int}{n:Nat}{it:Nat->D}(h:∀k:Nat,it k=.int (lo+k)):Wlk K O H (Itr lo n) n it:=λO' H' _ _ =>
 ⟨λj hj=>⟨hj,λx H'' ⟨e,y⟩=>by subst e y;rw [h];exact⟨Gr.refl _,.int _⟩⟩,o_ _⟩
def xR(h:LAs K ta pa):LI K (sC ta) (zm pa):=λA ρ σ H Q Q' R q k=>h A ρ σ H _ _ R q λvs H1 as ρ1 q1 f1 R1 o1=>by
 split at q1
 .rename_i j
  cases o1 with
  | cons a b =>
   cases b;cases a;exact⟨j,rfl,by omega,by omega,k _ H1 _ _ ρ1 q1.2 f1 R1 (vV λk=>by rw [C8])⟩
 .exact q1.elim
def xS(h:LAs K ta pa):LI K (uR ta) (zn pa):=λA ρ σ H Q Q' R q k=>h A ρ σ H _ _ R q λvs H1 as ρ1 q1 f1 R1 o1=>by
 split at q1
 .rename_i i j
  cases o1 with
  | cons a b =>
   cases b with
   | cons c d =>
    cases d;cases a;cases c;exact⟨i,j,rfl,⟨by omega,by omega,by omega,by omega⟩,k _ H1 _ _ ρ1 q1.2 f1 R1 (vV λk=>rfl)⟩
 .exact q1.elim
end
noncomputable def xT(pi:PTI)(g:PTG)(pb:PTS):PTS:=λD ρ=>pi ρ λn it ρ1=>∃I:Nat->PSt->Prop,I 0 ρ1/\(∀k ρ d,k<n->d=it k->I k ρ->g (.dat d) ρ λρ2=>pb { D with nx:=I (k+1),ct:=I (k+1),bk:=D.nx } ρ2)/\∀ρ,I n ρ->D.nx ρ
noncomputable def oi(pt:PTT)(pb:PTS):PTS:=λD ρ=>∃I:Nat->PSt->Prop,(∃m,I m ρ)/\∀m ρ,I m ρ->pt ρ λb ρ1=>fm b (pb { D with nx:=λρ'=>∃m',m'<m/\I m' ρ',ct:=λρ'=>∃m',m'<m/\I m' ρ',bk:=D.nx } ρ1) (D.nx ρ1)
section
variable {K:b_}{fs:List Nat}{wi:TI}{pi:PTI}{g:TG}{pg:PTG}{tb:TS}{pb:PTS}{tt:TT}{pt:PTT}
def jJ(hi:LI K wi pi)(hg:LGd K fs g pg)(hb:LS K fs tb pb):LS K fs (yu wi g tb) (xT pi pg pb):=λfx A R H0 ρ σ H D D' hf r F q k1 k2 k3 k4=>hi A ρ σ H _ _ r q λJ H1 n it ρ1 q1 f1 r1 W=>by
 obtain⟨I,i0,turn,after⟩:=q1;have F1:=F.fr f1;refine⟨λi m σ' H'=>i+m=n/\∃ρ',I i ρ'/\Rel K A ρ' σ' H'/\bC fx (Wr ρ1 σ) H1 ρ' σ' H',⟨n,C9 n,ρ1,i0,r1,bC.start F1.fx⟩,λi m σ' H' ⟨him,ρ',iv,r',F'⟩=>?_⟩;obtain⟨go,stop⟩:=W _ H' F'.keeps r'.dom2
 by_cases hk:i<n
 .obtain⟨g1,g2⟩:=go i hk;refine .inr ⟨g1,λσ'' H''=>∃ρ'',I (i+1) ρ''/\Rel K A ρ'' σ'' H''/\bC fx (Wr ρ1 σ) H1 ρ'' σ'' H'',λσ'' H'' z=>⟨m - 1,by omega,by omega,z⟩,λx H'' y=>?_⟩;obtain⟨gr,fv⟩:=g2 x H'' y;refine hg fx A (Wr ρ1 σ) H1 ρ' σ' H'' _ x _ _ hf (F'.fr gr.fr) (r'.gr gr) fv (turn i ρ' _ hk rfl iv) λρ2 σ2 q2 r2 F2 _=>?_;refine hb fx A (Wr ρ1 σ) H1 ρ2 σ2 H'' _ _ hf r2 F2 q2 (λρ3 σ3 H3 q3 r3 F3=>⟨ρ3,q3,r3,F3⟩) (λv p ρ3 σ3 H3 q3 o3 F3=>k2 v p ρ3 σ3 H3 q3 (o3.h0 F1.dm) (F1.trans F3 F3.fx)) (λρ3 σ3 H3 q3 r3 F3=>k1 ρ3 σ3 H3 q3 r3 (F1.trans F3 F3.fx)) (λρ3 σ3 H3 q3 r3 F3=>⟨ρ3,q3,r3,F3⟩)
 .have e:i=n:=by omega
  subst e;exact .inl ⟨stop,k1 ρ' σ' H' (after ρ' iv) r' (F1.trans F' F'.fx)⟩
def iR(ht:LT K tt pt)(hb:LS K fs tb pb):LS K fs (mX tt tb) (oi pt pb):=λfx A R H0 ρ σ H D D' hf r F q k1 k2 k3 k4=>by
 obtain⟨I,⟨m0,i0⟩,turn⟩:=q;refine⟨λm σ' H'=>∃ρ',I m ρ'/\Rel K A ρ' σ' H'/\bC fx R H0 ρ' σ' H',⟨m0,ρ,i0,r,F⟩,λm σ' H' ⟨ρ',iv,r',F'⟩=>?_⟩;refine ht A ρ' σ' H' _ _ r' (turn m ρ' iv) λb H1 ρ1 q1 f1 r1=>?_
 cases b with
 | true =>
  refine⟨λσ'' H''=>∃ρ'' m',m'<m/\I m' ρ''/\Rel K A ρ'' σ'' H''/\bC fx R H0 ρ'' σ'' H'',λσ'' H'' ⟨ρ'',m',h1,h2⟩=>⟨m',h1,ρ'',h2⟩,?_⟩;exact hb fx A R H0 ρ1 σ' H1 _ _ hf r1 (F'.fr f1) q1 (λρ3 σ3 H3 ⟨m',h1,h2⟩ r3 F3=>⟨ρ3,m',h1,h2,r3,F3⟩) k2 k1 (λρ3 σ3 H3 ⟨m',h1,h2⟩ r3 F3=>⟨ρ3,m',h1,h2,r3,F3⟩)
 | false=>exact k1 ρ1 σ' H1 q1 r1 (F'.fr f1)
end
noncomputable def cW(ix:List (Option Nat))(ρ:PSt):PSt:=ix.map λo=>match o with
 | none=>none
 | some j=>match ρ[j]? with
  | some v=>v
  | none=>none
noncomputable def back:List (Option Nat)->PSt->PSt->PSt
 | some j::ix,ρ,t::τ=>back ix (ρ.set j t) τ
 | none::ix,ρ,_::τ=>back ix ρ τ
 | _,ρ,_=>ρ
noncomputable def rK:List (Option Nat)->Bool
 | []=>true
 | none::r=>rK r
 | some j::r=>!r.contains (some j) && rK r
theorem fX:∀(ix:List (Option Nat)) (ρ τ:PSt),(back ix ρ τ).length=ρ.length
 | [],ρ,τ=>by unfold back;rfl
 | some j::ix,ρ,t::τ=>by show (back ix (ρ.set j t) τ).length=_;rw [fX ix,z_]
 | none::ix,ρ,t::τ=>by show (back ix ρ τ).length=_;exact fX ix ρ τ
 | some j::ix,ρ,[]=>by unfold back;rfl
 | none::ix,ρ,[]=>by unfold back;rfl
theorem eC:∀(ix:List (Option Nat)) (ρ τ:PSt) (j:Nat),some j∉ix->(back ix ρ τ)[j]?=ρ[j]?
 | [],ρ,τ,j,_=>by unfold back;rfl
 | some i::ix,ρ,t::τ,j,h=>by
  show (back ix (ρ.set i t) τ)[j]?=_;rw [eC ix _ τ j (λz=>h (w_ _ z)),gV (λz=>h (by rw [z];exact mem_cons_self ..))]
 | none::ix,ρ,t::τ,j,h=>by show (back ix ρ τ)[j]?=_;exact eC ix ρ τ j λz=>h (w_ _ z)
 | some i::ix,ρ,[],j,_=>by unfold back;rfl
 | none::ix,ρ,[],j,_=>by unfold back;rfl
theorem iS:∀(ix:List (Option Nat)) (ρ τ:PSt) (j k:Nat),rK ix=true->ix[k]?=some (some j)->k<τ.length->j<ρ.length->(back ix ρ τ)[j]?=τ[k]?
 | some i::ix,ρ,t::τ,j,k,h,e,hk,hj=>by
  have h:(!ix.contains (some i) && rK ix)=true:=h;rw [and_eq_true] at h;show (back ix (ρ.set i t) τ)[j]?=_
  cases k with
  | zero =>
   have e:some (some i)=some (some j):=e;cases e
   have hn:some i∉ix:=λz=>by
    have:=h.1;rw [j_.mpr z] at this;cases this
   rw [eC ix _ τ i hn,n_ hj];rfl
  | succ k =>
   have e:ix[k]?=some (some j):=by simpa using e
   rw [iS ix _ τ j k h.2 e (by simpa using hk) (by rw [z_];exact hj)];simp
 | none::ix,ρ,t::τ,j,k,h,e,hk,hj=>by
  show (back ix ρ τ)[j]?=_
  cases k with
  | zero=>cases e
  | succ k =>
   have e:ix[k]?=some (some j):=by simpa using e
   rw [iS ix _ τ j k h e (by simpa using hk) hj];simp
 | [],ρ,τ,j,k,h,e,hk,hj=>by simp at e
 | some i::ix,ρ,[],j,k,h,e,hk,hj=>absurd hk (not_lt_zero _)
 | none::ix,ρ,[],j,k,h,e,hk,hj=>absurd hk (not_lt_zero _)
theorem fY:∀{ix:List (Option Nat)}{k l j:Nat},rK ix=true->ix[k]?=some (some j)->ix[l]?=some (some j)->k=l
 | some i::ix,k,l,j,h,e1,e2=>by
  have h:(!ix.contains (some i) && rK ix)=true:=h;rw [and_eq_true] at h
  have no:∀m,ix[m]?≠some (some i):=λm z=>by
   have:=h.1;rw [j_.mpr (Ae z)] at this;cases this
  cases k with
  | zero =>
   have e1:some (some i)=some (some j):=e1;cases e1
   cases l with
   | zero=>rfl
   | succ l=>exact absurd (by simpa using e2) (no l)
  | succ k =>
   cases l with
   | zero =>
    have e2:some (some i)=some (some j):=e2;cases e2;exact absurd (by simpa using e1) (no k)
   | succ l=>rw [fY (k:=k) (l:=l) h.2 (by simpa using e1) (by simpa using e2)]
 | none::ix,k,l,j,h,e1,e2=>by
  cases k with
  | zero=>cases e1
  | succ k =>
   cases l with
   | zero=>cases e2
   | succ l=>rw [fY (ix:=ix) (k:=k) (l:=l) (j:=j) h (by simpa using e1) (by simpa using e2)]
 | [],k,l,j,h,e1,e2=>by simp at e1
def bg{ix:List (Option Nat)}{ρ:PSt}{k:Nat}{p:PV}(h:(cW ix ρ)[k]?=some (some p)):∃j,ix[k]?=some (some j)/\ρ[j]?=some (some p):=by
 unfold cW at h;rw [so] at h
 cases e:ix[k]? with
 | none=>rw [e] at h;cases h
 | some o =>
  rw [e] at h
  cases o with
  | none=>cases h
  | some j =>
   refine⟨j,rfl,?_⟩;have h:some (match ρ[j]? with|some v=>v|none=>none)=some (some p):=h
   cases e2:ρ[j]? with
   | none=>rw [e2] at h;cases h
   | some v=>rw [e2] at h;exact h
def bo{ix:List (Option Nat)}{σ:St}{k j:Nat}{v:V}(h:ix[k]?=some (some j))(e:σ[j]?=some (some v)):(jy ix σ)[k]?=some (some v):=by
 unfold jy;rw [so,h];show some (match σ[j]? with|some v=>v|none=>none)=some (some v);rw [e]
def Rel.amb{K:b_}{A:Addr->Prop}{ρ:PSt}{σ:St}{H:Hp}{a:Addr}{o:HO}(R:Rel K A ρ σ H)(ha:A a):Rel K A ρ σ (upd H a o):=by
 have k:aF (OO A ρ σ) H (OO A ρ σ) (upd H a o):=λb u n e=>⟨n,by rw [ai (λz=>n (by rw [z];exact .inl ha))];exact e⟩
 refine⟨R.len,λi q e=>?_,R.dj,λb z=>?_,R.sep⟩
 .obtain⟨v,s,r⟩:=R.get i q e;refine⟨v,s,r.keeps k λow b eb=>?_⟩;rw [ai];intro z;subst z eb;exact R.sep b ha ⟨i,q,e,ow,s⟩
 .by_cases z':b=a
  .rw [z',ax];exact nofun
  .rw [ai z'];exact R.dom b z
noncomputable def vW(ix:List (Option Nat))(ρ:PSt):Bool:=ix.all λo=>match o with|none=>true|some j=>(match ρ[j]? with|some (some _)=>true|_=>false)
structure tE (ix:List (Option Nat)) (ρ1:PSt) (n:Nat) (it:Nat->D) (g:PTG) (pt:PTT) (pe:PTE) (Q:PKt):Prop where
 ex:∃I:Nat->List D->PSt->Prop,I 0 [] (cW ix ρ1) /\
  (∀k ys τ d,k<n->d=it k->I k ys τ->g (.dat d) τ λτ2=>pt τ2 λok τ3=>fm ok (pe τ3 λp τ4=>I (k+1) (ys++[p.d]) τ4) (I (k+1) ys τ3))/\∀ys τ,I n ys τ->Q (.own ys) (back ix ρ1 τ)
noncomputable def xU(ix:List (Option Nat))(pi:PTI)(g:PTG)(pt:PTT)(pe:PTE):PTE:=λρ Q=>pi ρ λn it ρ1=>vW ix ρ1=true/\n<=1000000/\tE ix ρ1 n it g pt pe Q
def yM:PTT:=λρ Q=>Q true ρ
def gn{K:b_}:LT K qj yM:=λA ρ σ H Q Q' R q k=>k true H ρ q (Fr.refl _ _ _) R
noncomputable def pY(ix:List (Option Nat)):List Nat:=(p_ ix.length).filter λk=>(ix.getD k none).isSome
def dO{K:b_}{ix:List (Option Nat)}{wi:TI}{pi:PTI}{g:TG}{pg:PTG}{tts:TT}{pt:PTT}{te:TE}{pe:PTE}(hix:rK ix=true)(hi:LI K wi pi)(hg:∀fs:List Nat,(∀k∈fs,k∈pY ix)->LGd K fs g pg)(ht:LT K tts pt)(he:LE K te pe) :
  LE K (qk ix wi g tts te) (xU ix pi pg pt pe):=λA ρ σ H Q Q' R q k=>hi A ρ σ H _ _ R q λJ H1 n it ρ1 q1 f1 R1 W D hD=>by
 obtain⟨hcap,hn,⟨I,i0,turn,after⟩⟩:=q1
 let τρ0:=cW ix ρ1
 let τσ0:=jy ix σ
 let Ai:Addr->Prop:=λb=>A b\/b=D\/(Wr ρ1 σ b/\¬ Wr τρ0 τσ0 b)
 let H0':=upd H1 D (.lst [])
 have wsub:∀b,Wr τρ0 τσ0 b->Wr ρ1 σ b:=λb ⟨m,p,e,o,s⟩=>by
  obtain⟨j,h1,h2⟩:=bg e;obtain⟨v,hv,_⟩:=R1.get j p h2;have:=bo h1 hv;rw [s] at this;cases this;exact⟨j,p,h2,o,hv⟩
 have nD:¬ Wr ρ1 σ D:=λz=>R1.wr z hD
 have oosub:∀b,OO Ai τρ0 τσ0 b->OO A ρ1 σ b\/b=D:=λb z=>by
  rcases z with (z|z|z)|z
  .exact .inl (.inl z)
  .exact .inr z
  .exact .inl (.inr z.1)
  .exact .inl (.inr (wsub b z))
 have kD:aF (OO A ρ1 σ) H1 (OO Ai τρ0 τσ0) H0':=λb o nn e=>by
  refine⟨λz=>?_,?_⟩
  .rcases oosub b z with z|z
   .exact nn z
   .rw [z,hD] at e;cases e
  .rw [show H0' b=H1 b from ai (aH e hD)];exact e
 have Ri:Rel K Ai τρ0 τσ0 H0':=by
  refine⟨by show (cW ix ρ1).length=(jy ix σ).length;unfold cW jy;rw [length_map,length_map],λm p e=>?_,λm l p q v e1 e2 o1 o2 s1 s2=>?_,λb z=>?_,λb z w=>?_⟩
  .obtain⟨j,h1,h2⟩:=bg e;obtain⟨v,hv,r⟩:=R1.get j p h2;refine⟨v,bo h1 hv,r.keeps kD λow a ea=>?_⟩;subst ea;exact ai (λz=>nD (by rw [<- z];exact⟨j,p,h2,ow,hv⟩))
  .obtain⟨j,h1,h2⟩:=bg e1;obtain⟨j',h3,h4⟩:=bg e2;obtain⟨v1,hv1,_⟩:=R1.get j p h2;obtain⟨v2,hv2,_⟩:=R1.get j' q h4;have t1:=bo h1 hv1;have t2:=bo h3 hv2;rw [s1] at t1;rw [s2] at t2;cases t1;cases t2;have:=R1.dj j j' p q _ h2 h4 o1 o2 hv1 hv2;subst this;exact fY hix h1 h3
  .rcases z with z|z|z
   .intro e
    by_cases zz:b=D
    .exact R1.dom b z (by rw [zz];exact hD)
    .rw [show H0' b=H1 b from ai zz] at e;exact R1.dom b z e
   .rw [z];show upd H1 D _ D≠none;rw [ax];exact nofun
   .intro e;rw [show H0' b=H1 b from ai (λzz=>nD (by rw [<- zz];exact z.1))] at e;exact R1.wr z.1 e
  .rcases z with z|z|z
   .exact R1.sep b z (wsub b w)
   .rw [z] at w;exact nD (wsub D w)
   .exact z.2 w
 let fxi:List (Nat×V):=(pY ix).filterMap λm=>match (τσ0[m]?) with|some (some v)=>some (m,v)|_=>none
 have hfx:∀p∈fxi,τσ0[p.1]?=some (some p.2):=λp hp=>by
  obtain⟨m,hm,e⟩:=AM.mp hp
  split at e
  .rename_i v ev;cases e;exact ev
  .cases e
 have hfs:∀m∈fxi.map tj,m∈pY ix:=λm hm=>by
  obtain⟨p,hp,rfl⟩:=zW.mp hm;obtain⟨m',hm',e⟩:=AM.mp hp
  split at e
  .cases e;exact hm'
  .cases e
 have hgi:=hg (fxi.map tj) hfs
 have fxget:∀(m j:Nat) (v:V),ix[m]?=some (some j)->σ[j]?=some (some v)->(m,v)∈fxi:=λm j v h1 h2=>by
  refine AM.mpr ⟨m,?_,?_⟩
  .unfold pY;refine CA.mpr ⟨mem_range.mpr (i_.mp h1).1,?_⟩;rw [g_,h1];rfl
  .show (match (jy ix σ)[m]? with|some (some v)=>some (m,v)|_=>none)=_;rw [bo h1 h2]
 let Rr:Addr->Prop:=λb=>Wr τρ0 τσ0 b\/b=D
 have hRr:∀b,Rr b->OO Ai τρ0 τσ0 b:=λb z=>z.elim (λz=>.inr z) (λz=>.inl (.inr (.inl z)));have F0:bC fxi Rr H0' τρ0 τσ0 H0':=⟨λ_ _ _ h=>h,λ_ h=>h,λb w=>.inl (.inl w),hfx⟩
 refine⟨λi m τ H2=>i+m=n/\∃ys τρ xs,I i ys τρ/\ys.length<=i/\Rel K Ai τρ τ H2/\bC fxi Rr H0' τρ τ H2/\H2 D=some (.lst xs)/\FVs K (OO Ai τρ τ) H2 xs ys/\∀b,Wr τρ τ b->Wr τρ0 τσ0 b,
  ⟨n,C9 n,[],τρ0,[],i0,o_ _,Ri,F0,ax,.nil,λ_ h=>h⟩,λi m τ H2 ⟨him,ys,τρ,xs,iv,hy,r2,F2,eD,fD,hw⟩=>?_⟩
 have kk:aF (OO A ρ1 σ) H1 (OO Ai τρ τ) H2:=λb o nn e=>(F2.keepsR hRr) b o (kD b o nn e).1 (kD b o nn e).2;obtain⟨go,stop⟩:=W _ H2 kk r2.dom2
 by_cases hk:i<n
 .obtain⟨g1,g2⟩:=go i hk;refine .inr ⟨g1,λx H3 y=>?_⟩;obtain⟨gr,fv⟩:=g2 x H3 y;have AiD:Ai D:=.inr (.inl rfl);refine hgi fxi Ai Rr H0' τρ τ H3 _ x _ _ rfl (F2.fr gr.fr) (r2.gr gr) fv (turn i ys τρ _ hk rfl iv) λτρ2 τ2 q2 r3 F3 w3=>?_;refine ht Ai τρ2 τ2 H3 _ _ r3 q2 λok H5 τρ3 q3 f5 r5=>?_;have F5:=F3.fr f5;have fD5:FVs K (OO Ai τρ3 τ2) H5 xs ys:=((fD.keeps (gr.fr (ρ:=τρ) (σ:=τ)).keeps).keeps (aF.less λb z=>z.imp id (w3 b))).keeps f5.keeps
  have eD5:H5 D=some (.lst xs):=f5.kp D _ (r3.sep D AiD) (gr D _ eD)
  cases ok with
  | true =>
   refine he Ai τρ3 τ2 H5 _ _ r5 q3 λv H6 p τρ4 q4 f6 o6=>?_;obtain⟨r6,fv6⟩:=o6.frz;have F6:=F5.fr f6;have eD6:H6 D=some (.lst xs):=f6.kp D _ (r5.sep D AiD) eD5;have kw:aF (OO Ai τρ4 τ2) H6 (OO Ai τρ4 τ2) (upd H6 D (.lst (xs++[v]))):=λb o nn e=>⟨nn,by rw [ai (λz=>nn (by rw [z];exact .inl AiD))];exact e⟩
   refine⟨xs,eD6,?_,m - 1,by omega,by omega,ys++[p.d],τρ4,xs++[v],q4,by rw [length_append];show _+1<=_;omega,r6.amb AiD,⟨λb o nn e=>?_,λb z=>?_,F6.ow,F6.fx⟩,ax,((fD5.keeps f6.keeps).append (.cons fv6 .nil)).keeps kw,λb z=>hw b (w3 b (f5.ow b (f6.ow b z)))⟩
   .have:xs.length=ys.length:=fD.length;exact t_ (by omega:xs.length<1000000) (sz _ (o_ _))
   .rw [ai (λz=>nn (.inr z))];exact F6.kp b o nn e
   .by_cases zz:b=D
    .rw [zz,ax];exact nofun
    .rw [ai zz];exact F6.dm b z
  | false=>exact⟨m - 1,by omega,by omega,ys,τρ3,xs,q3,by omega,r5,F5,eD5,fD5,λb z=>hw b (w3 b (f5.ow b z))⟩
 .have e:i=n:=by omega
  subst e;refine .inl ⟨stop,?_⟩;have q':=after ys τρ iv
  have cap:∀(m j:Nat),ix[m]?=some (some j)->∃p v,ρ1[j]?=some (some p)/\σ[j]?=some (some v)/\τ[m]?=some (some v):=λm j e=>by
   have h1:=Bq.mp hcap _ (Ae e);have h1:(match ρ1[j]? with|some (some _)=>true|_=>false)=true:=h1
   split at h1
   .rename_i p ep;obtain⟨v,hv,_⟩:=R1.get j p ep;exact⟨p,v,ep,hv,F2.fx _ (fxget m j v e hv)⟩
   .cases h1
  have get':∀(j:Nat) (p:PV),(back ix ρ1 τρ)[j]?=some (some p)->(∃m v,ix[m]?=some (some j)/\σ[j]?=some (some v)/\τ[m]?=some (some v)/\τρ[m]?=some (some p))\/(some j∉ix/\ρ1[j]?=some (some p)):=λj p e=>by
   by_cases hj:some j∈ix
   .obtain⟨m,hm,em⟩:=A1 hj;have em':ix[m]?=some (some j):=by rw [d_ hm,em]
    obtain⟨p0,v,h1,h2,h3⟩:=cap m j em';rw [iS ix ρ1 τρ j m hix em' (by rw [r2.len];exact (i_.mp h3).1) (i_.mp h1).1] at e;exact .inl ⟨m,v,em',h2,h3,e⟩
   .rw [eC ix ρ1 τρ j hj] at e;exact .inr ⟨hj,e⟩
  have nocap:∀(j:Nat) (p:PV) (b:Addr),some j∉ix->ρ1[j]?=some (some p)->p.isOwn=true->σ[j]?=some (some (.ref b))->¬ Wr τρ0 τσ0 b:=λj p b hj e o s ⟨m,q,e1,o1,s1⟩=>by
   obtain⟨j',h1,h2⟩:=bg e1;obtain⟨v,hv,_⟩:=R1.get j' q h2;have:=bo h1 hv;rw [s1] at this;cases this;have:=R1.dj j j' p q _ e h2 o o1 s hv;subst this;exact hj (Ae h1)
  have w':∀b,Wr (back ix ρ1 τρ) σ b->Wr τρ τ b\/(Wr ρ1 σ b/\¬ Wr τρ0 τσ0 b):=λb ⟨j,p,e,o,s⟩=>by
   rcases get' j p e with ⟨m,v,h1,h2,h3,h4⟩|⟨hj,h1⟩
   .rw [s] at h2;cases h2;exact .inl ⟨m,p,h4,o,h3⟩
   .exact .inr ⟨⟨j,p,h1,o,s⟩,nocap j p b hj h1 o s⟩
  have oo':∀b,OO (b8 A D) (back ix ρ1 τρ) σ b->OO Ai τρ τ b:=λb z=>by
   rcases z with (z|z)|z
   .exact .inl (.inl z)
   .exact .inl (.inr (.inl z))
   .rcases w' b z with z|z
    .exact .inr z
    .exact .inl (.inr (.inr z))
  have kp1:∀b o,¬ Wr τρ0 τσ0 b->b≠D->H1 b=some o->H2 b=some o:=λb o n1 n2 e=>F2.kp b o (λz=>z.elim n1 n2) (by rw [show H0' b=H1 b from ai n2];exact e);have k1:aF (OO A ρ1 σ) H1 (OO (b8 A D) (back ix ρ1 τρ) σ) H2:=λb o nn e=>⟨λz=>(kk b o nn e).1 (oo' b z),(kk b o nn e).2⟩
  have AiD:Ai D:=.inr (.inl rfl)
  have R':Rel K (b8 A D) (back ix ρ1 τρ) σ H2:=by
   refine⟨by rw [fX];exact R1.len,λj p e=>?_,λj l p q v e1 e2 o1 o2 s1 s2=>?_,λb z=>?_,λb z w=>?_⟩
   .rcases get' j p e with ⟨m,v,h1,h2,h3,h4⟩|⟨hj,h1⟩
    .obtain⟨v',hv',r⟩:=r2.get m p h4;rw [h3] at hv';cases hv';exact⟨v,h2,r.keeps (aF.less oo') λ_ _ _=>rfl⟩
    .obtain⟨v,hv,r⟩:=R1.get j p h1;refine⟨v,hv,r.keeps k1 λow a ea=>?_⟩;subst ea;obtain⟨a',u,e1,e2⟩:=r.ref ow;cases e1;rw [e2];exact kp1 a u (nocap j p a hj h1 ow hv) (λz=>by rw [z,hD] at e2;cases e2) e2
   .rcases get' j p e1 with ⟨m,v1,h1,h2,h3,h4⟩|⟨hj,h1⟩
    .rw [s1] at h2;cases h2
     rcases get' l q e2 with ⟨m',v2,g1,g2,g3,g4⟩|⟨hl,g1⟩
     .rw [s2] at g2;cases g2;have:=r2.dj m m' p q _ h4 g4 o1 o2 h3 g3;subst this;rw [h1] at g1;cases g1;rfl
     .exfalso;obtain⟨v',hv',r⟩:=r2.get m p h4;rw [h3] at hv';cases hv';obtain⟨a,u,ea,_⟩:=r.ref o1;subst ea;exact nocap l q a hl g1 o2 s2 (hw a ⟨m,p,h4,o1,h3⟩)
    .rcases get' l q e2 with ⟨m',v2,g1,g2,g3,g4⟩|⟨hl,g1⟩
     .rw [s2] at g2;cases g2;exfalso;obtain⟨v',hv',r⟩:=r2.get m' q g4;rw [g3] at hv';cases hv';obtain⟨a,u,ea,_⟩:=r.ref o2;subst ea;exact nocap j p a hj h1 o1 s1 (hw a ⟨m',q,g4,o2,g3⟩)
     .exact R1.dj j l p q v h1 g1 o1 o2 s1 s2
   .rcases z with z|z
    .exact r2.dom b (.inl z)
    .rw [z,eD];exact nofun
   .rcases w' b w with w|w
    .rcases z with z|z
     .exact r2.sep b (.inl z) w
     .rw [z] at w;exact r2.sep D AiD w
    .rcases z with z|z
     .exact R1.sep b z w.1
     .rw [z] at w;exact nD w.1
  have f2:Fr ρ1 σ H1 (back ix ρ1 τρ) H2:=by
   refine⟨λb o nn e=>kp1 b o (λz=>nn (wsub b z)) (λz=>by rw [z,hD] at e;cases e) e,λb z=>F2.dm b ?_,λb z=>?_⟩
   .intro e
    by_cases zz:b=D
    .exact z (by rw [zz];exact hD)
    .rw [show H0' b=H1 b from ai zz] at e;exact z e
   .rcases w' b z with z|z
    .exact wsub b (hw b z)
    .exact z.1
  have hD0:H D=none:=by
   cases e:H D with
   | none=>rfl
   | some o=>exact absurd hD (f1.dm D (by rw [e];exact nofun))
  exact k _ H2 (.own ys) _ q' (f1.trans f2) ⟨D,xs,rfl,λz=>R1.dom D z hD,hD0,eD,R',fD.keeps (aF.less oo')⟩
section
variable {K:b_}{A A':Addr->Prop}{ρ:PSt}{σ:St}{H H':Hp}
def Rel.step(R:Rel K A ρ σ H){i:Nat}{p q:PV}{a:Addr}(e:ρ[i]?=some (some p))(ow:p.isOwn=true)(ow':q.isOwn=true)(es:σ[i]?=some (some (.ref a)))
  (kp:∀b o,b≠a->H b=some o->H' b=some o) (ha:H' a≠none) (h1:∀b,A b->A' b) (h2:∀b,A' b->A b\/H b=none) (dom':∀b,A' b->H' b≠none)
  (new:RS K (OO A' ρ σ) H' q (.ref a)):Rel K A' (ρ.set i (some q)) σ H'/\Fr ρ σ H (ρ.set i (some q)) H':=by
 have hi:i<ρ.length:=(i_.mp e).1;have wa:Wr ρ σ a:=⟨i,p,e,ow,es⟩
 have weq:∀b,Wr (ρ.set i (some q)) σ b ↔ Wr ρ σ b:=λb=>by
  constructor
  .rintro⟨j,r,e1,o1,s1⟩
   by_cases z:i=j
   .subst z;exact⟨i,p,e,ow,s1⟩
   .rw [gV z] at e1;exact⟨j,r,e1,o1,s1⟩
  .rintro⟨j,r,e1,o1,s1⟩
   by_cases z:i=j
   .subst z;exact⟨i,q,n_ hi,ow',s1⟩
   .exact⟨j,r,by rw [gV z];exact e1,o1,s1⟩
 have oeq:OO A' (ρ.set i (some q)) σ=OO A' ρ σ:=funext λb=>propext (or_congr Iff.rfl (weq b));have kp1:∀b u,¬ Wr ρ σ b->H b=some u->H' b=some u:=λb u n h=>kp b u (λz=>n (by rw [z];exact wa)) h
 have k:aF (OO A ρ σ) H (OO A' ρ σ) H':=λb u n h=>by
  refine⟨λz=>?_,kp1 b u (λz=>n (.inr z)) h⟩
  rcases z with z|z
  .rcases h2 b z with z|z
   .exact n (.inl z)
   .rw [z] at h;cases h
  .exact n (.inr z)
 have dm:∀b,H b≠none->H' b≠none:=λb n=>by
  by_cases z:b=a
  .rw [z];exact ha
  .cases eb:H b with
   | none=>exact absurd eb n
   | some o=>rw [kp b o z eb];exact nofun
 refine⟨⟨by rw [z_];exact R.len,λj r e1=>?_,λj l p1 q1 v e1 e2 o1 o2 s1 s2=>?_,dom',λb z w=>?_⟩,⟨kp1,dm,λb w=>(weq b).mp w⟩⟩
 .rw [oeq]
  by_cases z:i=j
  .subst z;rw [n_ hi] at e1;cases e1;exact⟨_,es,new⟩
  .rw [gV z] at e1;obtain⟨v,s,rr⟩:=R.get j r e1;refine⟨v,s,rr.keeps k λow2 b eb=>?_⟩;obtain⟨b',u,e3,e4⟩:=rr.ref ow2;rw [eb] at e3;cases e3;rw [e4];refine kp b u (λzz=>?_) e4;subst zz;rw [eb] at s;exact z (R.dj i j p r _ e e1 ow ow2 es s)
 .have ex:∀(m:Nat) (x:PV),(ρ.set i (some q))[m]?=some (some x)->x.isOwn=true->∃y:PV,ρ[m]?=some (some y)/\y.isOwn=true:=λm x em ox=>by
   by_cases z:i=m
   .subst z;exact⟨p,e,ow⟩
   .rw [gV z] at em;exact⟨x,em,ox⟩
  obtain⟨y1,g1,g2⟩:=ex j p1 e1 o1;obtain⟨y2,g3,g4⟩:=ex l q1 e2 o2;exact R.dj j l y1 y2 v g1 g3 g2 g4 s1 s2
 .rcases h2 b z with z|z
  .exact R.sep b z ((weq b).mp w)
  .exact R.wr ((weq b).mp w) z
def Rel.lstw(R:Rel K A ρ σ H){i:Nat}{ds es:List D}{a:Addr}{ys:List V}(e:ρ[i]?=some (some (.own ds)))(es':σ[i]?=some (some (.ref a)))(f:FVs K (OO A ρ σ) H ys es) :
  Rel K A (ρ.set i (some (.own es))) σ (upd H a (.lst ys))/\Fr ρ σ H (ρ.set i (some (.own es))) (upd H a (.lst ys)):=by
 have wa:OO A ρ σ a:=.inr ⟨i,_,e,rfl,es'⟩;exact R.write (q:=.own es) e rfl rfl es' ⟨a,ys,rfl,ax,f.keeps λb u n h=>⟨n,by rw [ai (λz=>n (by rw [z];exact wa))];exact h⟩⟩
def Rel.ownAt(R:Rel K A ρ σ H){i:Nat}{ds:List D}(e:ρ[i]?=some (some (.own ds))):∃a xs,σ[i]?=some (some (.ref a))/\H a=some (.lst xs)/\FVs K (OO A ρ σ) H xs ds:=by
 obtain⟨v,s,a,xs,rfl,g,f⟩:=R.get i _ e;exact⟨a,xs,s,g,f⟩
end
noncomputable def yN(i:Nat)(pe:PTE):PTE:=λρ Q=>match ρ[i]? with
 | some (some (.own _))=>pe ρ λp ρ1=>(match ρ1[i]? with
  | some (some (.own ds))=>ds.length<1000000/\Q (.dat .non) (ρ1.set i (some (.own (ds++[p.d]))))
  | _=>False)
 | _=>False
noncomputable def yO(i:Nat):PTE:=λρ Q=>match ρ[i]? with
 | some (some (.own ds))=>∃d,ds[ds.length - 1]?=some d/\Q (.dat d) (ρ.set i (some (.own ds.dropLast)))
 | _=>False
section
variable {K:b_}{te tk:TE}{pe pk:PTE}{fs:List Nat}
def gp{i:Nat}(h:LE K te pe):LE K (tBM K "list" nA (dA i) (bA te iD)) (yN i pe):=λA ρ σ H Q Q' R q k=>by
 unfold yN at q
 split at q
 .rename_i ds0 e0;obtain⟨a0,xs0,s0,g0,f0⟩:=R.ownAt e0;refine⟨_,s0,.inl ⟨rfl,xs0,SqL.of g0⟩,h A ρ σ H _ _ R q λv H1 p ρ1 q1 f1 o1=>?_⟩;obtain⟨R1,fv⟩:=o1.frz
  split at q1
  .rename_i ds e1;obtain⟨a,xs,s,g,f⟩:=R1.ownAt e1;rw [s0] at s;cases s;obtain⟨R2,f2⟩:=R1.lstw e1 s0 (f.append (.cons fv .nil));exact⟨a0,xs,v,rfl,rfl,g,t_ (by rw [f.length];exact q1.1) (sz _ (o_ _)),k _ _ _ _ q1.2 (f1.trans f2) ⟨R2,.non⟩⟩
  .exact q1.elim
 .exact q.elim
def vX{i:Nat}:LE K (yC K "list" yD (dA i)) (yO i):=λA ρ σ H Q Q' R q k=>by
 unfold yO at q
 split at q
 .rename_i ds e;obtain⟨d,hd,q⟩:=q;obtain⟨a,xs,s,g,f⟩:=R.ownAt e;obtain⟨v,hv,fv⟩:=f.getD hd;obtain⟨R2,f2⟩:=R.lstw (es:=ds.dropLast) (ys:=xs.dropLast) e s (by rw [dropLast_eq_take,dropLast_eq_take,f.length];exact f.take _);exact⟨_,s,.inl ⟨rfl,xs,SqL.of g⟩,a,xs,v,rfl,rfl,g,by rw [f.length];exact hv,k _ _ _ _ q f2 ⟨R2,(fv.keeps f2.keeps)⟩⟩
 .exact q.elim
end
noncomputable def spP(K:b_)(c:FN):Sp:=λvs H Q _=>∃(O:Addr->Prop) (ds:List D) (Qc:PV->Prop),(∀b,O b->H b≠none)/\FVs K O H vs ds/\c ds Qc/\∀r,Qc r->∀v H',Gr H H'->kq K O H H' r v->Q v H'
noncomputable def rL(c:FN)(pr:PTA):PTE:=λρ Q=>pr ρ λas ρ1=>match avD as with
 | some ds=>c ds λr=>Q r ρ1
 | none=>False
def eE{N:List Str}{vs:List V}{i:Nat}{v:V}(h:vs[i]?=some v):(start N vs)[i]?=some (some v):=by
 unfold start;rw [Aa (by rw [length_map];exact (i_.mp h).1),so,h];rfl
noncomputable def bh(n:Nat)(ps:List PV):PSt:=ps.map some++pf (n - ps.length) none
def bw{n:Nat}{ps:List PV}{i:Nat}{p:PV}(h:(bh n ps)[i]?=some (some p)):ps[i]?=some p:=by
 unfold bh at h
 by_cases hi:i<ps.length
 .rw [Aa (by rw [length_map];exact hi),so] at h
  cases e:ps[i]? with
  | none=>rw [e] at h;cases h
  | some q=>rw [e] at h;cases h;rfl
 .rw [AF (by rw [length_map];omega)] at h;have:=Ae h;rw [mem_replicate] at this;cases this.2
section
variable {K:b_}{tr:TA}{pr:PTA}{ts:TS}{ps:PTS}
def aP{c:FN}(h:LAs K tr pr):LE K (iE (spP K c) [] E0 tr) (rL c pr):=λA ρ σ H Q Q' R q k=>h A ρ σ H _ _ R q λvs H1 as ρ1 q1 f1 R1 o1=>by
 split at q1
 .rename_i ds e;rw [append_nil];exact⟨OO A ρ1 σ,ds,_,R1.dom2,o1.avD e,q1,λr qr v H' g ov=>k v H' r ρ1 qr (f1.trans g.fr) ((ov.out R1 g).h0 f1.dm)⟩
 .exact q1.elim
def Out.outV{O:Addr->Prop}{ρ:PSt}{σ:St}{H H':Hp}{p:PV}{v:V}(h:Out K O ρ σ H H' p v):kq K O H H' p v:=by
 cases p with
 | dat d=>exact h.2.keeps (aF.less λb z=>.inl z)
 | own ds =>
  obtain⟨a,xs,e1,na,e2,e3,R,f⟩:=h;exact⟨a,xs,e1,e2,e3,f.keeps (aF.less λb z=>.inl z)⟩
 | ins c ns ds =>
  obtain⟨a,dx,fs,e1,na,e2,e3,m,R,f⟩:=h;exact⟨a,dx,fs,e1,e2,e3,m,f.keeps (aF.less λb z=>.inl z)⟩
def fnP{c:FN}{N:List Str}(hl:LS K [] ts ps)(hn:∀ds Q,c ds Q->ds.length<=N.length)(hc:∀ds Q,c ds Q->ps { nx:=λ_=>Q (.dat .non),rt:=λp _=>Q p } (bh N.length (ds.map .dat)))
  {vs:List V}{H:Hp}{Q:VK}{E:XK} (h:spP K c vs H Q E):ts { nx:=λ_ H'=>Q .non H',rt:=Q } (start N vs) H:=by
 obtain⟨O,ds,Qc,dom,fv,hq,k⟩:=h
 have nw:∀(ρ:PSt) (b:Addr),ρ=bh N.length (ds.map .dat)->¬ Wr ρ (start N vs) b:=λρ b e ⟨i,p,e1,o1,s1⟩=>by
  rw [e] at e1;have:=bw e1;rw [so] at this
  cases e2:ds[i]? with
  | none=>rw [e2] at this;cases this
  | some d=>rw [e2] at this;cases this;cases o1
 have lenv:=fv.length;have hle:=hn ds Qc hq
 have R0:Rel K O (bh N.length (ds.map .dat)) (start N vs) H:=by
  refine⟨?_,λi p e=>?_,λi j p q v e1 e2 o1 o2 s1 s2=>?_,dom,λb _ w=>nw _ b rfl w⟩
  .unfold bh start;rw [length_append,length_append,length_map,length_map,length_map,length_replicate,length_replicate,lenv]
  .have:=bw e;rw [so] at this
   cases e2:ds[i]? with
   | none=>rw [e2] at this;cases this
   | some d =>
    rw [e2] at this;cases this;obtain⟨v,hv,f⟩:=fv.getD e2;exact⟨v,eE hv,f.keeps (aF.less λb z=>z.elim id λw=>absurd w (nw _ b rfl))⟩
  .have:=bw e1;rw [so] at this
   cases e3:ds[i]? with
   | none=>rw [e3] at this;cases this
   | some d=>rw [e3] at this;cases this;cases o1
 refine hl [] O (λ_=>False) H _ _ H _ _ rfl R0 ⟨λ_ _ _ h=>h,λ_ h=>h,λb w=>absurd w (nw _ b rfl),λp hp=>nomatch hp⟩ (hc ds Qc hq) (λρ' σ' H' q r F=>?_) (λv p ρ' σ' H' q o F=>?_) (λ_ _ _ z=>z.elim) (λ_ _ _ z=>z.elim)
 .exact k _ q .non H' (λb o e=>F.kp b o id e) .non
 .exact k _ q v H' (λb o e=>F.kp b o id e) o.outV
abbrev FR:=PV->List D->(PV->PV->Prop)->Prop
noncomputable def spR(K:b_)(c:FR):Sp:=λvs H Q _=>∃(A:Addr->Prop) (a:Addr) (p:PV) (ws:List V) (ds:List D) (Qc:PV->PV->Prop),vs=.ref a::ws/\p.isOwn=true/\(∀b,A b->H b≠none)/\¬ A a/\RS K (b8 A a) H p (.ref a)/\FVs K (b8 A a) H ws ds/\c p ds Qc /\
 ∀r p',Qc r p'->p'.isOwn=true->∀v H',(∀b o,b≠a->H b=some o->H' b=some o)->H' a≠none->RS K (b8 A a) H' p' (.ref a)->kq K (b8 A a) H H' r v->(∀a',v=.ref a'->r.isOwn=true->RS K (b8 (b8 A a) a') H' p' (.ref a))->Q v H'
noncomputable def rM(c:FR)(i:Nat)(pr:PTA):PTE:=λρ Q=>match ρ[i]? with
 | some (some _)=>pr ρ λas ρ1=>(match ρ1[i]?,avD as with
  | some (some p),some ds=>p.isOwn=true/\c p ds λr p'=>Q r (ρ1.set i (some p'))
  | _,_=>False)
 | _=>False
def cq{c:FR}{i:Nat}(h:LAs K tr pr):LE K (iE (spR K c) [] E0 (bA (dA i) tr)) (rM c i pr):=λA ρ σ H Q Q' R q k=>by
 unfold rM at q
 split at q
 .rename_i p0 e0;obtain⟨v0,s0,_⟩:=R.get i p0 e0;refine⟨v0,s0,h A ρ σ H _ _ R q λvs H1 as ρ1 q1 f1 R1 o1=>?_⟩
  split at q1
  .rename_i p ds e1 ed;obtain⟨ow,q1⟩:=q1;obtain⟨v1,s1,rs⟩:=R1.get i p e1;rw [s0] at s1;cases s1;obtain⟨a,u,rfl,ea⟩:=rs.ref ow;rw [append_nil];have wa:Wr ρ1 σ a:=⟨i,p,e1,ow,s0⟩
   have oeq:b8 (λb=>(OO A ρ1 σ b)/\b≠a) a=OO A ρ1 σ:=funext λb=>propext ⟨λz=>z.elim (λz=>z.1) (λz=>by rw [z];exact .inr wa),λz=>by
    by_cases e:b=a
    .exact .inr e
    .exact .inl ⟨z,e⟩⟩
   refine⟨λb=>(OO A ρ1 σ b)/\b≠a,a,p,vs,ds,_,rfl,ow,λb z=>R1.dom2 b z.1,λz=>z.2 rfl,by rw [oeq];exact rs,by rw [oeq];exact o1.avD ed,q1,λr p' qr ow' v H' kp ha rs' ov hx=>?_⟩;rw [oeq] at rs' ov hx
   have domA:∀b,A b->H' b≠none:=λb z=>by
    have:b≠a:=λe=>R1.sep b z (by rw [e];exact wa)
    cases eb:H1 b with
    | none=>exact absurd eb (R1.dom b z)
    | some o=>rw [kp b o this eb];exact nofun
   cases r with
   | dat d =>
    obtain⟨R2,f2⟩:=R1.step (A':=A) e1 ow ow' s0 kp ha (λ_ h=>h) (λ_ h=>.inl h) domA rs';exact k v H' _ _ qr (f1.trans f2) ⟨R2,FV.keeps (aF.less λb z=>z.imp id (f2.ow b)) ov⟩
   | own es =>
    obtain⟨a',xs,rfl,n1,e2,f⟩:=ov;have hx:=hx a' rfl rfl;have na:a'≠a:=λe=>by rw [e,ea] at n1;cases n1
    have oo2:∀b,OO (b8 A a') ρ1 σ b ↔ b8 (OO A ρ1 σ) a' b:=λb=>⟨λz=>by
     rcases z with (z|z)|z
     .exact .inl (.inl z)
     .exact .inr z
     .exact .inl (.inr z),λz=>by
     rcases z with (z|z)|z
     .exact .inl (.inl z)
     .exact .inr z
     .exact .inl (.inr z)⟩
    have oo2':OO (b8 A a') ρ1 σ=b8 (OO A ρ1 σ) a':=funext λb=>propext (oo2 b)
    obtain⟨R2,f2⟩:=R1.step (A':=b8 A a') e1 ow ow' s0 kp ha (λ_ h=>.inl h) (λb z=>z.imp id λz=>by rw [z];exact n1) (λb z=>z.elim (domA b) λz=>by rw [z,e2];exact nofun) (by rw [oo2'];exact hx)
    .refine k _ H' (.own es) _ qr (f1.trans f2) ⟨a',xs,rfl,λz=>R1.dom a' z n1,?_,e2,R2,f.keeps (aF.less λb z=>?_)⟩
     .cases eb:H a' with
      | none=>rfl
      | some o=>exact absurd n1 (f1.dm a' (by rw [eb];exact nofun))
     .rw [<- oo2'];exact z.imp id (f2.ow b)
   | ins c ns es =>
    obtain⟨a',dx,fs,rfl,n1,e2,m,f⟩:=ov;have hx:=hx a' rfl rfl
    have oo2':OO (b8 A a') ρ1 σ=b8 (OO A ρ1 σ) a':=funext λb=>propext ⟨λz=>by
     rcases z with (z|z)|z
     .exact .inl (.inl z)
     .exact .inr z
     .exact .inl (.inr z),λz=>by
     rcases z with (z|z)|z
     .exact .inl (.inl z)
     .exact .inr z
     .exact .inl (.inr z)⟩
    obtain⟨R2,f2⟩:=R1.step (A':=b8 A a') e1 ow ow' s0 kp ha (λ_ h=>.inl h) (λb z=>z.imp id λz=>by rw [z];exact n1) (λb z=>z.elim (domA b) λz=>by rw [z,e2];exact nofun) (by rw [oo2'];exact hx)
    .refine k _ H' (.ins c ns es) _ qr (f1.trans f2) ⟨a',dx,fs,rfl,λz=>R1.dom a' z n1,?_,e2,m,R2,f.keeps (aF.less λb z=>?_)⟩
     .cases eb:H a' with
      | none=>rfl
      | some o=>exact absurd n1 (f1.dm a' (by rw [eb];exact nofun))
     .rw [<- oo2'];exact z.imp id (f2.ow b)
  .exact q1.elim
 .exact q.elim
noncomputable def ux(Q:PV->PV->Prop)(r:PV)(ρ:PSt):Prop:=match ρ[0]? with
 | some (some p)=>p.isOwn=true/\Q r p
 | _=>False
def fnR{c:FR}{N:List Str}(hl:LS K [0] ts ps)(hn:∀p ds Q,c p ds Q->ds.length+1<=N.length)(hc:∀p ds Q,p.isOwn=true->c p ds Q->ps { nx:=ux Q (.dat .non),rt:=ux Q } (bh N.length (p::ds.map .dat)))
  {vs:List V}{H:Hp}{Q:VK}{E:XK} (h:spR K c vs H Q E):ts { nx:=λ_ H'=>Q .non H',rt:=Q } (start N vs) H:=by
 obtain⟨A,a,p,ws,ds,Qc,rfl,ow,dom,na,rs,fv,hq,k⟩:=h;have s0:(start N (V.ref a::ws))[0]?=some (some (.ref a)):=eE rfl;have b0:(bh N.length (p::ds.map .dat))[0]?=some (some p):=rfl
 have wr:∀b,Wr (bh N.length (p::ds.map .dat)) (start N (.ref a::ws)) b->b=a:=λb ⟨i,q,e1,o1,s1⟩=>by
  have:=bw e1
  cases i with
  | zero=>rw [s0] at s1;cases s1;rfl
  | succ i =>
   rw [Bo,so] at this
   cases e2:ds[i]? with
   | none=>rw [e2] at this;cases this
   | some d=>rw [e2] at this;cases this;cases o1
 have wa:Wr (bh N.length (p::ds.map .dat)) (start N (.ref a::ws)) a:=⟨0,p,b0,ow,s0⟩
 have oeq:OO A (bh N.length (p::ds.map .dat)) (start N (.ref a::ws))=b8 A a:=funext λb=>propext ⟨λz=>z.imp id (wr b),λz=>z.imp id λz=>by rw [z];exact wa⟩;have lenv:=fv.length;have hle:=hn p ds Qc hq
 have R0:Rel K A (bh N.length (p::ds.map .dat)) (start N (.ref a::ws)) H:=by
  refine⟨?_,λi q e=>?_,λi j q1 q2 v e1 e2 o1 o2 s1 s2=>?_,dom,λb z w=>?_⟩
  .unfold bh start;simp only [length_append,length_map,length_replicate,length_cons,lenv]
  .have:=bw e;rw [oeq]
   cases i with
   | zero=>cases this;exact⟨_,s0,rs⟩
   | succ i =>
    rw [Bo,so] at this
    cases e2:ds[i]? with
    | none=>rw [e2] at this;cases this
    | some d =>
     rw [e2] at this;cases this;obtain⟨v,hv,f⟩:=fv.getD e2;exact⟨v,eE (by rw [Bo];exact hv),f⟩
  .have own0:∀(i:Nat) (q:PV),(bh N.length (p::ds.map .dat))[i]?=some (some q)->q.isOwn=true->i=0:=λi q e o=>by
    have:=bw e
    cases i with
    | zero=>rfl
    | succ i =>
     rw [Bo,so] at this
     cases e2:ds[i]? with
     | none=>rw [e2] at this;cases this
     | some d=>rw [e2] at this;cases this;cases o
   rw [own0 i q1 e1 o1,own0 j q2 e2 o2]
  .rw [wr b w] at z;exact na z
 have fin:∀(v:V) (r:PV) (ρ':PSt) (σ':St) (H':Hp),ux Qc r ρ'->Out K A ρ' σ' H H' r v->bC [(0,.ref a)] (λb=>b=a) H ρ' σ' H'->Q v H':=λv r ρ' σ' H' q o F=>by
  unfold ux at q
  split at q
  .rename_i p' e';obtain⟨ow',q⟩:=q;have sa:=F.fx (0,.ref a) (s_.mpr rfl);have wa':Wr ρ' σ' a:=⟨0,p',e',ow',sa⟩
   have kpa:∀b o,b≠a->H b=some o->H' b=some o:=λb o n e=>F.kp b o n e
   cases r with
   | dat d =>
    obtain⟨R1,f1⟩:=o;obtain⟨v1,s1,rs1⟩:=R1.get 0 p' e';rw [sa] at s1;cases s1;have less:∀b,b8 A a b->OO A ρ' σ' b:=λb z=>z.imp id λz=>by rw [z];exact wa'
    exact k _ p' q ow' v H' kpa (R1.wr wa') (rs1.keeps (aF.less less) λ_ _ _=>rfl) (f1.keeps (aF.less less)) (λ_ _ z=>nomatch z)
   | own es =>
    obtain⟨a',xs,rfl,n1,n2,e3,R1,f1⟩:=o;obtain⟨v1,s1,rs1⟩:=R1.get 0 p' e';rw [sa] at s1;cases s1
    have less:∀b,b8 (b8 A a) a' b->OO (b8 A a') ρ' σ' b:=λb z=>by
     rcases z with (z|z)|z
     .exact .inl (.inl z)
     .exact .inr (by rw [z];exact wa')
     .exact .inl (.inr z)
    exact k _ p' q ow' _ H' kpa (R1.wr wa') (rs1.keeps (aF.less λb z=>less b (.inl z)) λ_ _ _=>rfl) ⟨a',xs,rfl,n2,e3,f1.keeps (aF.less less)⟩ (λa'' e _=>by cases e;exact rs1.keeps (aF.less less) λ_ _ _=>rfl)
   | ins c ns es =>
    obtain⟨a',dx,fs,rfl,n1,n2,e3,m,R1,f1⟩:=o;obtain⟨v1,s1,rs1⟩:=R1.get 0 p' e';rw [sa] at s1;cases s1
    have less:∀b,b8 (b8 A a) a' b->OO (b8 A a') ρ' σ' b:=λb z=>by
     rcases z with (z|z)|z
     .exact .inl (.inl z)
     .exact .inr (by rw [z];exact wa')
     .exact .inl (.inr z)
    exact k _ p' q ow' _ H' kpa (R1.wr wa') (rs1.keeps (aF.less λb z=>less b (.inl z)) λ_ _ _=>rfl) ⟨a',dx,fs,rfl,n2,e3,m,f1.keeps (aF.less less)⟩ (λa'' e _=>by cases e;exact rs1.keeps (aF.less less) λ_ _ _=>rfl)
  .exact q.elim
 refine hl [(0,.ref a)] A (λb=>b=a) H _ _ H _ _ rfl R0 ⟨λ_ _ _ h=>h,λ_ h=>h,λb w=>.inl (wr b w),λq hq=>by rw [s_.mp hq];exact s0⟩ (hc p ds Qc ow hq) (λρ' σ' H' q r F=>fin .non (.dat .non) ρ' σ' H' q ⟨r,.non⟩ F) (λv p ρ' σ' H' q o F=>fin v p ρ' σ' H' q o F) (λ_ _ _ z=>z.elim) (λ_ _ _ z=>z.elim)
end
noncomputable def yP:FN:=λas Q=>∃ns:List Int,as=[.scr ns]/\ns.length<=63/\Q (.dat (.bl true))
def tF{K:b_}{vs:List V}{H:Hp}{Q:VK}{E:XK}(h:ml K vs H Q E):spP K yP vs H Q E:=by
 obtain⟨a,ns,rfl,hS,h63,q⟩:=h
 refine⟨λ_=>False,[.scr ns],λr=>r=.dat (.bl true),nofun,.cons (.scr ?_) .nil,⟨ns,rfl,h63,rfl⟩,λr e v H' g o=>?_⟩
 .rcases hS with h|h
  .exact .inl ⟨id,h⟩
  .exact .inr h
 .subst e;cases o;exact q H'
section
variable {K:b_}{X:Cx}
noncomputable def vY:List V->Hp->VK->Prop:=λxs H Q=>∃i j,xs=[.int i,.int j]/\Q (.int (if j > i then j else i)) H
def rN(hc:X.calm=true):a6 X (.builtin "max") vY:=ni hc
noncomputable def vZ:FN
 | [.int i,.int j],Q=>Q (.dat (.int (if j > i then j else i)))
 | _,_=>False
def oj:LC K vY vZ:=by
 intro O H xs as Q Q' dom fs q k;unfold vZ at q
 split at q
 .cases fs with
  | cons a b=>cases b with|cons b c=>cases c;rw [a.int,b.int];exact⟨_,_,rfl,k _ H _ q (Gr.refl _) (.int _)⟩
 .exact q.elim
noncomputable def yQ(K:b_):List V->Hp->VK->Prop:=λxs H Q=>∃(p:Addr) (bs:List Bool),xs=[.ref p]/\SqL K H p (bs.map V.bl)/\Q (.bl (bs.all id)) H
def v3(K:b_)(e:X.K=K)(hc:X.calm=true):a6 X (.builtin "all") (yQ K):=by subst e;exact qw hc
noncomputable def yR:FN
 | [.lst ds],Q=>∃bs:List Bool,ds=bs.map .bl/\Q (.dat (.bl (bs.all id)))
 | _,_=>False
def rO:LC K (yQ K) yR:=by
 intro O H xs as Q Q' dom fs q k;unfold yR at q
 split at q
 .obtain⟨ns,rfl,q⟩:=q
  cases fs with
  | cons a b =>
   cases b;obtain⟨p,ys,rfl,e1,f1⟩:=a.lst;rw [f1.bls] at e1;exact⟨p,ns,rfl,SqL.of e1,k _ H _ q (Gr.refl _) (.bl _)⟩
 .exact q.elim
noncomputable def qA(K:b_):List V->Hp->VK->Prop:=λxs H Q=>∃p ys,xs=[.ref p]/\((SqL K H p ys/\∀l,H l=none->Q (.ref l) (upd H l (.tup ys)))\/(SqT K H p ys/\Q (.ref p) H))
def gq(K:b_)(e:X.K=K):a6 X (.type "tuple") (qA K):=by subst e;exact iH
def om(K:b_)(e:X.K=K):a6 X (.type "list") (kN K):=by subst e;exact jr
noncomputable def rP:FN
 | [.lst ds],Q=>Q (.dat (.tup ds))
 | [.tup ds],Q=>Q (.dat (.tup ds))
 | [.scr ns],Q=>Q (.dat (.tup (ns.map .int)))
 | _,_=>False
noncomputable def v4:FN
 | [.lst ds],Q=>Q (.own ds)
 | [.tup ds],Q=>Q (.own ds)
 | [.scr ns],Q=>Q (.own (ns.map .int))
 | _,_=>False
def eF:LC K (qA K) rP:=by
 intro O H xs as Q Q' dom fs q k;unfold rP at q
 split at q
 .cases fs with
  | cons a b =>
   cases b;obtain⟨p,ys,rfl,e1,f1⟩:=a.lst;exact⟨p,ys,rfl,.inl ⟨SqL.of e1,λl hl=>k _ _ _ q (Gr.new hl) (gl dom hl f1)⟩⟩
 .cases fs with
  | cons a b =>
   cases b;obtain⟨p,ys,rfl,n1,e1,f1⟩:=a.tup;exact⟨p,ys,rfl,.inr ⟨SqT.of e1,k _ H _ q (Gr.refl _) (.tup n1 e1 f1)⟩⟩
 .cases fs with
  | cons a b =>
   cases b;obtain⟨p,rfl,e1⟩:=a.scr;exact⟨p,_,rfl,.inl ⟨e1,λl hl=>k _ _ _ q (Gr.new hl) (gl dom hl (FVs.of_ints _))⟩⟩
 .exact q.elim
def kQ:LC K (kN K) v4:=by
 intro O H xs as Q Q' dom fs q k;unfold v4 at q
 split at q
 .cases fs with
  | cons a b =>
   cases b;obtain⟨p,ys,rfl,e1,f1⟩:=a.lst;exact⟨p,ys,rfl,.inl (SqL.of e1),λl hl=>k _ _ _ q (Gr.new hl) (bL hl f1)⟩
 .cases fs with
  | cons a b =>
   cases b;obtain⟨p,ys,rfl,n1,e1,f1⟩:=a.tup;exact⟨p,ys,rfl,.inr (SqT.of e1),λl hl=>k _ _ _ q (Gr.new hl) (bL hl f1)⟩
 .cases fs with
  | cons a b =>
   cases b;obtain⟨p,rfl,e1⟩:=a.scr;exact⟨p,_,rfl,.inl e1,λl hl=>k _ _ _ q (Gr.new hl) (bL hl (FVs.of_ints _))⟩
 .exact q.elim
variable {ta:TE}{pa:PA1}{tr:TA}{pr:PTA}{pe:PTE}
noncomputable def rQ(i:Int)(n:Nat):List D:=(p_ n).map λ(k:Nat)=>D.int (i+(k:Int))
noncomputable def mkL(tup:Bool)(ds:List D):PV:=match tup with|true=>.dat (.tup ds)|false=>.own ds
noncomputable def xV(tup:Bool)(pr:PTA):PTE:=λρ Q=>pr ρ λas ρ1=>match as with
 | [.v (.int j)]=>(0<=j/\j<=1000000)/\Q (mkL tup (rQ 0 j.toNat)) ρ1
 | _=>False
def v7{O:Addr->Prop}{H:Hp}(i:Int)(n:Nat):FVs K O H (kH i 1 n) (rQ i n):=by
 have e:∀l:List Nat,FVs K O H (l.map λ(k:Nat)=>V.int (i+k*1)) (l.map λ(k:Nat)=>D.int (i+(k:Int))):=λl=>by
  induction l with
  | nil=>exact .nil
  | cons a r ih=>exact .cons (by show FV K O H (V.int (i+(a:Int)*1)) (D.int (i+(a:Int)));rw [show i+(a:Int)*1=i+(a:Int) by omega];exact .int _) ih
 exact e _
def iu{i j:Int}(h:i<=j):AX i j 1=(((j - i).toNat:Nat):Int):=by
 unfold AX;rw [if_pos (by decide)];simp only [ediv_one];split <;> omega
def mC{i j:Int}(h0:-1000000<=i)(h1:i<=j)(h2:j<=1000000):BP i j 1=true:=by
 unfold BP;rw [iu h1];simp only [Builtin.Range.rangeFitsLong,and_eq_true,or_eq_true,decide_eq_true_eq,beq_iff_eq,show (1:Int) > 0 by decide,if_true];omega
noncomputable def mkO(tup:Bool):List V->HO:=match tup with|true=>.tup|false=>.lst
def v8{O:Addr->Prop}{H:Hp}{xs:List V}{ds:List D}{p:Addr}(tup:Bool)(dom:∀b,O b->H b≠none)(hp:H p=none)(f:FVs K O H xs ds):kq K O H (upd H p (mkO tup xs)) (mkL tup ds) (.ref p):=by
 cases tup with
 | true=>exact gl dom hp f
 | false=>exact bL hp f
def lM(tup:Bool)(h:LAs K tr pr):LE K (tCB (xq K (mkO tup)) (bA (λσ H Q=>tr σ H λvs H1=>∃j:Int,vs=[.int j]/\∀p,H1 p=none->Q (.ref p) (upd H1 p (rq p 0 j 1))) iD)) (xV tup pr):=λA ρ σ H Q Q' R q k=>h A ρ σ H _ _ R q λvs H1 as ρ1 q1 f1 R1 o1=>by
 split at q1
 .rename_i j
  cases o1 with
  | cons a b =>
   cases b;cases a;refine⟨j,rfl,λp hp=>⟨p,0,j,1,j.toNat,rfl,ax,mC (by decide) q1.1.1 q1.1.2,by rw [iu q1.1.1,Int.sub_zero],by omega,λl hl=>?_⟩⟩;have g:Gr H1 (upd H1 p (rq p 0 j 1)):=Gr.new hp;have R2:=R1.gr g;have g2:Gr (upd H1 p (rq p 0 j 1)) (upd (upd H1 p (rq p 0 j 1)) l (mkO tup (kH 0 1 j.toNat))):=Gr.new hl;exact k _ _ _ ρ1 q1.2 (f1.trans (g.fr.trans g2.fr)) ((kq.out R2 g2 (v8 tup R2.dom2 hl (v7 0 _))).h0 λb z=>(g.fr (ρ:=ρ1) (σ:=σ)).dm b (f1.dm b z))
 .exact q1.elim
def rR(K:b_)(e:X.K=K)(hc:X.calm=true):a6 X (.type "list") (xq K (mkO false)):=by subst e;exact mn hc
noncomputable def qB(pa:PA1):PTE:=λρ Q=>pa ρ λx ρ1=>match cont ρ1 x with
 | some (.lst ds)=>Q (.own ds.reverse) ρ1
 | _=>False
noncomputable def lN(K:b_)(te:TE):TE:=λσ H Q=>te σ H λx H1=>∃a xs,x=.ref a/\SqL K H1 a xs/\∀l,H1 l=none->Q (.ref l) (upd H1 l (.lst xs.reverse))
def kR{e:Expr}{te:TE}{p p1 p2 pos:Pos}(K:b_)(eK:X.K=K)(hc:X.calm=true)(he:PE X e te)(hg1:Gl X "list")(hm1:X.mg "list"=none)(hg2:Gl X "reversed")(hm2:X.mg "reversed"=none)
  (hs:starEach [.Call (.Name "reversed" p1) [e] [] p2] X.env=[(false,eval (.Call (.Name "reversed" p1) [e] [] p2) X.env)]:=by rfl) (hs2:starEach [e] X.env=[(false,eval e X.env)]:=by rfl) :
  PE X (.Call (.Name "list" p) [.Call (.Name "reversed" p1) [e] [] p2] [] pos) (lN K te):=by subst eK;exact mr hc he hg1 hm1 hg2 hm2 hs hs2
def mD(h:LA1 K ta pa):LE K (lN K ta) (qB pa):=λA ρ σ H Q Q' R q k=>h A ρ σ H _ _ R q λv H1 a ρ1 q1 f1 R1 o1=>by
 split at q1
 .rename_i ds e;obtain⟨p,xs,rfl,e1,fs⟩:=(R1.cont o1 e).lst;refine⟨p,xs,rfl,SqL.of e1,λl hl=>?_⟩;have g:Gr H1 (upd H1 l (.lst xs.reverse)):=Gr.new hl;exact k _ _ _ ρ1 q1 (f1.trans g.fr) ((kq.out (p:=.own ds.reverse) R1 g (bL hl fs.reverse)).h0 f1.dm)
 .exact q1.elim
end
abbrev xW:R2:=rI0 λi j=>.int (i - j)
abbrev xX:R2:=rI (λ_ j=>0<j) λi j=>.int (i % j)
abbrev xY:R2:=rI wZ λi j=>.int (i / j)
abbrev xZ:R2:=rI w4 λi j=>.int (i^j.toNat)
abbrev zo:R2:=rI0 λi j=>.bl (decide (j<i))
abbrev x0:V->Hp->VK->Prop:=rU λi=>.int (-i)
noncomputable def yS:D->(PV->Prop)->Prop
 | .int i,Q=>Q (.dat (.int (-i)))
 | _,_=>False
section
variable {K:b_}{X:Cx}{ta:TE}{tr:TA}{pr:PTA}{ts:TS}{ps:PTS}
def tG:OpR X (binaryOp .Sub) xW:=uT
def eY:OpR X (binaryOp .Mod) xX:=uV
def rS:OpR X (binaryOp .FloorDiv) xY:=sD
def v9:OpR X (binaryOp .Pow) xZ:=uW
def wN:OpR X (compareOp .Gt) zo:=xf
def iw:LU K x0 yS:=by
 intro O H x a Q Q' dom fx q k;unfold yS at q
 split at q
 .rename_i i;exact⟨i,fx.int,k _ H _ q (Gr.refl _) (.int _)⟩
 .exact q.elim
def mE{ix:List (Option Nat)}{fs:List Nat}{i:Nat}(h:∀k∈fs,k∈pY ix)(hi:(pY ix).contains i=false):fs.contains i=false:=by
 cases e:fs.contains i with
 | false=>rfl
 | true =>
  have:=h i (j_.mp e);rw [j_.mpr this] at hi;cases hi
def g6(t:Value)(b c:Bool)(h1:zL K t (.type "list")=some b)(h2:zL K t (.type "tuple")=some c):Bx K t [.type "list",.type "tuple"]=some (b || c):=by
 simp only [Bx,h1,h2];cases b <;> cases c <;> rfl
def wO{c:FN}{n:Nat}(hn:∀ds Q,c ds Q->ds.length=n){vs:List V}{H:Hp}{Q:VK}{E:XK}(h:spP K c vs H Q E):vs.length=n:=by
 obtain⟨O,ds,Qc,_,f,hq,_⟩:=h;rw [f.length];exact hn ds Qc hq
def zp{c:FR}{n:Nat}(hn:∀p ds Q,c p ds Q->ds.length+1=n){vs:List V}{H:Hp}{Q:VK}{E:XK}(h:spR K c vs H Q E):vs.length=n:=by
 obtain⟨A,a,p,ws,ds,Qc,rfl,_,_,_,_,f,hq,_⟩:=h;rw [length_cons,f.length];exact hn p ds Qc hq
abbrev wP(pp:PTS)(n:Nat)(ds:List D)(Q:PV->Prop):Prop:=pp { nx:=λ_=>Q (.dat .non),rt:=λp _=>Q p } (bh n (ds.map .dat))
abbrev x3(pp:PTS)(n:Nat)(p:PV)(ds:List D)(Q:PV->PV->Prop):Prop:=pp { nx:=ux Q (.dat .non),rt:=ux Q } (bh n (p::ds.map .dat))
end
end L2
namespace L2
def Cal.imp{P:PySem.Program}{w:PySem.World}{K:b_}{mg:PySem.Str->Option PySem.Value}{base:PySem.Heap}{k:Nat}{x:PySem.Str}{ps:List PySem.Str}{sp sp':Sp}(C:Cal P w K mg base k x ps sp)(h:∀vs H Q E,sp' vs H Q E->sp vs H Q E):Cal P w K mg base k x ps sp':=by
 obtain⟨f,fd,F,r⟩:=C.ex;exact⟨f,fd,F.imp h,r⟩
end L2
namespace L2
open PySem PySem.Spec PyProof.Rows
def cfm{ix:List (Option Nat)}{ρ1:PSt}{n:Nat}{it:Nat->D}{g:PTG}{pt:PTT}{pe:PTE}{Q:PKt}(T:PSt->Prop)(f:Nat->Option D)(h0:T (cW ix ρ1))
  (hs:∀k τ d,k<n->d=it k->T τ->∀(K1:D->PSt->Prop) (K2:PSt->Prop),(∀d τ',f k=some d->T τ'->K1 d τ')->(∀τ',f k=none->T τ'->K2 τ')->g (.dat d) τ λτ2=>pt τ2 λok τ3=>fm ok (pe τ3 λp τ4=>K1 p.d τ4) (K2 τ3))
  (hq:∀τ,T τ->Q (.own ((p_ n).filterMap f)) (back ix ρ1 τ)) :
  tE ix ρ1 n it g pt pe Q:=by
 refine⟨λk ys τ=>ys=(p_ k).filterMap f/\T τ,⟨rfl,h0⟩,λk ys τ dd hk ed ⟨e,t⟩=>?_,λys τ ⟨e,t⟩=>by rw [e];exact hq τ t⟩
 have r:(p_ (k+1)).filterMap f=(p_ k).filterMap f++(f k).toList:=by
  rw [range_succ,filterMap_append]
  cases e:f k with
  | none=>rw [show [k].filterMap f=[] by simp [e]];rfl
  | some d=>rw [show [k].filterMap f=[d] by simp [e]];rfl
 refine hs k τ dd hk ed t (λd τ'=>(ys++[d]=(p_ (k+1)).filterMap f/\T τ')) (λτ'=>(ys=(p_ (k+1)).filterMap f/\T τ')) (λd τ' h t'=>⟨?_,t'⟩) (λτ' h t'=>⟨?_,t'⟩)
 .rw [r,e,h];rfl
 .rw [r,e,h];simp
def x4{ix:List (Option Nat)}{ρ1:PSt}{n:Nat}{it:Nat->D}{g:PTG}{pe:PTE}{Q:PKt}(T:PSt->Prop)(f:Nat->D)(h0:T (cW ix ρ1))
  (hs:∀k τ d,k<n->d=it k->T τ->∀K1:D->PSt->Prop,(∀τ',T τ'->K1 (f k) τ')->g (.dat d) τ λτ2=>pe τ2 λp τ4=>K1 p.d τ4)
  (hq:∀τ,T τ->Q (.own ((p_ n).map f)) (back ix ρ1 τ)) :
  tE ix ρ1 n it g yM pe Q:=by
 refine cfm T (λk=>some (f k)) h0 (λk τ d hk ed t K1 K2 k1 k2=>?_) λτ t=>?_
 .exact hs k τ d hk ed t K1 λτ' t'=>k1 _ τ' rfl t'
 .have:(p_ n).filterMap (λk=>some (f k))=(p_ n).map f:=by rw [<- filterMap_eq_map];rfl
  rw [this];exact hq τ t
def gu{β:Type}(f:D->β)(ds:List D):(p_ ds.length).map (λk=>f (itD ds k))=ds.map f:=by
 apply CH;intro i;rw [so,so]
 by_cases h:i<ds.length
 .rw [getElem?_range h,oh h];rfl
 .rw [y_ (by rw [length_range];omega),y_ (by omega)];rfl
def tH{ns:List Int}{k:Nat}(h:k<(ns.map D.int).length):itD (ns.map D.int) k=.int (ns.getD k 0):=jI (by
 have h:k<ns.length:=by rwa [length_map] at h
 rw [so,g_,d_ h];rfl)
theorem gv:∀ns:List Int,D.pys (ns.map .int)=ns.map CG
 | []=>rfl
 | n::r=>by rw [map_cons,map_cons,<- gv r];rfl
theorem eZ:∀ns:List Int,D.plains (ns.map .int)=true
 | []=>rfl
 | n::r=>by rw [map_cons];show (true && D.plains (r.map .int))=true;rw [eZ r];rfl
noncomputable def Sh(d:D):Prop:=d.plain=true/\AA d.py=true
def kr.of{a b:D}(h:Sh a)(h':Sh b):kr a b:=⟨h.1,h'.1,h.2,h'.2⟩
def Sh.lstI(ns:List Int):Sh (.lst (ns.map .int)):=⟨eZ ns,by show AA (.list (D.pys _))=true;rw [gv];exact (kI.list (jC ns)).shaped (by decide)⟩
def iT{d:D}(h:Sh d):deq d d=true:=qu h.2
def tI{α:Type}(l:List α):dr l none (some (-1))=l.dropLast:=by
 have h:=kF l
 have e:dr l none (some (-1))=l.take (HT.sIx l.length l.length (some (-1)) - HT.sIx l.length 0 none):=by
  unfold dr;rw [show HT.sIx l.length 0 none=0 from rfl,drop_zero]
 rw [e,length_take] at h;rw [e,dropLast_eq_take]
 by_cases z:HT.sIx l.length l.length (some (-1)) - HT.sIx l.length 0 none<=l.length
 .rw [show HT.sIx l.length l.length (some (-1)) - HT.sIx l.length 0 none=l.length - 1 by omega]
 .rw [Ad (by omega),Ad (by omega)]
section
variable {X:Cx}{K:b_}
noncomputable def x5:PTE:=λρ Q=>Q (.dat (.dic [] [])) ρ
def oq:LE K rA x5:=λA ρ σ H Q Q' R q k=>λp hp =>
 k _ _ (.dat (.dic [] [])) ρ q (Fr.new hp) ⟨R.grow hp,.dic (R.oo hp) ax rfl .nil⟩
noncomputable def ou(neg:Bool):R2:=λx y H Q=>∃a b,x=.ref a/\y=.ref b/\H a=some (.dK [])/\H b=some (.dK [])/\Q (.bl (!neg)) H
def qC(hu:X.A.units+64<cLine):OpR X (compareOp .Eq) (ou false):=by
 intro pins s σ H x y v u Q I rx ry ⟨a,b,e1,e2,h1,h2,q⟩;subst e1 e2;cases rx;cases ry;obtain⟨_,y1,vs,r1,p1⟩:=(show aO X.prog X.w H s.heap a (.dK []) from I.hok a _ h1)
 obtain⟨_,y2,ws,r2,p2⟩:=(show aO X.prog X.w H s.heap b (.dK []) from I.hok b _ h2)
 cases r1;cases r2;exact PySem.W.keq_eq (r:=true) y1 y2 p1 p2 (by omega) (λ_=>.nil) ⟨.bl true,H,I,rfl,q⟩
def qD(hu:X.A.units+64<cLine):OpR X (compareOp .NotEq) (ou true):=by
 intro pins s σ H x y v u Q I rx ry ⟨a,b,e1,e2,h1,h2,q⟩;subst e1 e2;cases rx;cases ry;obtain⟨_,y1,vs,r1,p1⟩:=(show aO X.prog X.w H s.heap a (.dK []) from I.hok a _ h1)
 obtain⟨_,y2,ws,r2,p2⟩:=(show aO X.prog X.w H s.heap b (.dK []) from I.hok b _ h2)
 cases r1;cases r2;exact PySem.W.keq_ne (r:=true) y1 y2 p1 p2 (by omega) (λ_=>.nil) ⟨.bl false,H,I,rfl,q⟩
noncomputable def qE(K:b_)(neg:Bool):R2:=λx y H Q=>vL K neg x y H Q\/ou neg x y H Q
def oy(K:b_)(e:X.K=K)(hu:X.A.units+64<cLine):OpR X (compareOp .Eq) (qE K false):=OpR.or (zj K e hu) (qC hu)
def oz(K:b_)(e:X.K=K)(hu:X.A.units+64<cLine):OpR X (compareOp .NotEq) (qE K true):=OpR.or (zk K e hu) (qD hu)
noncomputable def x6:F2
 | .dic [] [],.dic [] [],Q=>Q (.dat (.bl true))
 | a,b,Q=>fEq a b Q
noncomputable def yT:F2
 | .dic [] [],.dic [] [],Q=>Q (.dat (.bl false))
 | a,b,Q=>fNe a b Q
def FVc.dic0{O:Addr->Prop}{H:Hp}{v:V}(h:FVc K O H v (.dic [] [])):∃a,v=.ref a/\H a=some (.dK []):=by
 cases h.fv nofun nofun with
 | dic n e m f =>
  rename_i a kvs
  cases kvs with
  | nil=>exact⟨a,rfl,e⟩
  | cons x r=>cases m
def jK:LO K (qE K false) x6:=by
 intro O H x y a b Q Q' dom fx fy q k;unfold x6 at q
 split at q
 .obtain⟨a,rfl,e1⟩:=fx.dic0;obtain⟨b,rfl,e2⟩:=fy.dic0;exact .inr ⟨a,b,rfl,rfl,e1,e2,k _ H _ q (Gr.refl _) (.bl _)⟩
 .exact .inl (xJ O H x y _ _ Q Q' dom fx fy q k)
def jL:LO K (qE K true) yT:=by
 intro O H x y a b Q Q' dom fx fy q k;unfold yT at q
 split at q
 .obtain⟨a,rfl,e1⟩:=fx.dic0;obtain⟨b,rfl,e2⟩:=fy.dic0;exact .inr ⟨a,b,rfl,rfl,e1,e2,k _ H _ q (Gr.refl _) (.bl _)⟩
 .exact .inl (xK O H x y _ _ Q Q' dom fx fy q k)
end
noncomputable def iU:D->Bool
 | .int _=>true
 | _=>false
noncomputable def g7:D->Bool
 | .lst _=>true
 | .tup _=>true
 | _=>false
noncomputable def aM:D->List D
 | .lst ds=>ds
 | .tup ds=>ds
 | _=>[]
def toI:D->Int
 | .int i=>i
 | _=>0
noncomputable def aQ(d:D)(m:Int):Bool:=g7 d && (decide (((aM d).length:Int)=m) && (aM d).all iU)
noncomputable def Srt(d:D):Prop:=d.sort=true/\∀x∈aM d,x.sort=true
def qF(zs:List Int):(zs.map D.int).all iU=true:=by rw [all_map];exact Bq.mpr λ_ _=>rfl
theorem e5:∀{ds:List D},ds.all iU=true->ds=(ds.map toI).map D.int
 | [],_=>rfl
 | d::r,h=>by
  rw [all_cons,and_eq_true] at h;rw [map_cons,map_cons,<- e5 h.2];cases d <;> first|rfl|cases h.1
def cY{ds:List D}{k:Nat}(h:k<ds.length):itD ds k∈ds:=Ae (oh h)
section
variable {X:Cx}{K:b_}{te:TE}{pe:PTE}
noncomputable def wb(K:b_):List V->Hp->VK->Prop:=λxs H Q=>∃(p:Addr) (ns:List Int),xs=[.ref p]/\SqL K H p (ns.map V.int)/\ns.length<64/\∀ns':List Int,ns'.Perm ns->ns'.Pairwise (·<=·)->∀q,H q=none->Q (.ref q) (upd H q (.lst (ns'.map V.int)))
def tJ(K:b_)(e:X.K=K):a6 X (.builtin "sorted") (wb K):=by
 subst e;intro pins s σ H xs us Q I r h;obtain⟨p,ns,rfl,hS,hne,q⟩:=h;obtain⟨u,rfl,ru⟩:=gY r;cases (show u=k_ p from ru);obtain⟨its,rv,pl,hz⟩:=I.list hS;have hi:=ip rv;have hlen:its.length=ns.length:=by have:=rv.length;rw [length_map] at this;exact this.symm
 refine sorted_ints pl.isList hi (by omega) λout ns' ho hp hs=>?_;obtain⟨e,he⟩:=sortedAll_at s.heap its out;have hle:s.heap.objs.size<=s.heap.objs.size+1:=le_succ _;refine⟨.ref (s.heap.objs.size+1),_,I.laid (a:=s.heap.objs.size+1) (o:=.lst (ns'.map V.int)) (t':=s.toks) (λb o z=>sortedAll_old z) hle ?_,rfl,q ns' hp hs _ (I.hok.fresh hle)⟩;refine⟨?_,out.toList,e,ej ho,he⟩;rw [length_map,hp.length_eq]
 exact sz _ (by omega)
noncomputable def rT(i:Nat)(pe:PTE):PTE:=λρ Q=>match ρ[i]? with
 | some (some (.own _))=>pe ρ λp ρ1=>(match ρ1[i]?,p with
  | some (some (.own ds)),.dat (.int j)=>∃k d,(ixN ds.length j=some k/\ds.length<=1000000)/\ds[k]?=some d/\Q (.dat d) (ρ1.set i (some (.own (ds.eraseIdx k))))
  | _,_=>False)
 | _=>False
theorem FVs.eraseIdx{O:Addr->Prop}{H:Hp}:∀{xs:List V}{ds:List D} (k:Nat),FVs K O H xs ds->FVs K O H (xs.eraseIdx k) (ds.eraseIdx k)
 | _,_,_,.nil=>.nil
 | _,_,0,.cons a b=>b
 | _,_,k+1,.cons a b=>.cons a (FVs.eraseIdx k b)
def qG{i:Nat}(h:LE K te pe):LE K (tBM K "list" rp (dA i) (bA te iD)) (rT i pe):=λA ρ σ H Q Q' R q k=>by
 unfold rT at q
 split at q
 .rename_i ds0 e0;obtain⟨a0,xs0,s0,g0,f0⟩:=R.ownAt e0;refine⟨_,s0,.inl ⟨rfl,xs0,SqL.of g0⟩,h A ρ σ H _ _ R q λv H1 p ρ1 q1 f1 o1=>?_⟩;obtain⟨R1,fv⟩:=o1.frz
  split at q1
  .rename_i ds j e1;obtain⟨a,xs,s,g,f⟩:=R1.ownAt e1;rw [s0] at s;cases s;obtain⟨m,d,⟨hm,hl⟩,hd,q1⟩:=q1;obtain⟨w,hw,fw⟩:=f.getD hd;cases (show FV K _ H1 v (.int j) from fv);obtain⟨t1,t2,t3,t4⟩:=nz hm;obtain⟨R2,f2⟩:=R1.lstw (es:=ds.eraseIdx m) (ys:=xs.eraseIdx m) e1 s0 (f.eraseIdx m);have hx:xs.length=ds.length:=f.length;exact⟨a0,xs,j,m,w,rfl,rfl,g,by omega,by omega,by rw [hx];exact t1,hw,k _ _ _ _ q1 (f1.trans f2) ⟨R2,(fw.keeps f2.keeps)⟩⟩
  .exact q1.elim
 .exact q.elim
end
section
variable {X:Cx}{K:b_}{te tk:TE}{pe pk:PTE}
noncomputable def insN{α:Type}(xs:List α)(i:Int)(y:α):List α:=xs.take (min i.toNat xs.length)++[y]++xs.drop (min i.toNat xs.length)
noncomputable def oA:V->List V->Hp->VK->Prop:=λx vs H Q=>∃l xs i y,x=.ref l/\vs=[.int i,y]/\H l=some (.lst xs)/\(0<=i/\i<2^62)/\xs.length<sizeLine/\Q .non (upd H l (.lst (insN xs i y)))
def oB:MtM X "list.insert" oA:=by
 intro pins s σ H x vs v us Q I rx rv h;obtain⟨l,xs,i,y,rfl,rfl,hH,hi,hz0,q⟩:=h;cases rx
 cases rv with
 | cons ri rr =>
  cases rr with
  | cons ry rr =>
   cases rr;obtain⟨t,rfl⟩:=ri;rename_i u;obtain⟨z,its,n,r,hl,e⟩:=I.lstM hH;refine BB F.slot_list_insert ⟨_,e,rfl⟩ F.entry_list_insert (F.args_list_insert_3 _ _ _) (AutoSeq1.list_insert_list_int_val_1 l its.toArray n i t u (by rw [fitsIndex_both (by omega) (by omega)];decide) (by rw [size_toArray];omega)) ⟨e,?_⟩
   refine⟨.non,_,I.lset (its':=insN its i u) hH e ?_ ?_ ?_,rfl,q⟩
   .have:¬ i<0:=by omega
    simp only [this,if_false,size_toArray,insN,extract_toArray,push_toArray,append_toArray];congr 1;rw [extract_eq_take_drop,extract_eq_take_drop];simp [Ad]
   .exact ((r.take _).append (.cons ry .nil)).append (r.drop _) |> λh=>by unfold insN;rw [<- hl];exact h
   .unfold insN;rw [length_append,length_append,length_take,length_drop];show _+1+_<=_;omega
noncomputable def oE(i:Nat)(pk pe:PTE):PTE:=λρ Q=>match ρ[i]? with
 | some (some (.own _))=>pk ρ λkp ρ1=>(match kp with
  | .dat (.int j)=>pe ρ1 λp ρ2=>(match ρ2[i]? with
   | some (some (.own ds))=>((0<=j/\j<2^60)/\ds.length<1000000)/\Q (.dat .non) (ρ2.set i (some (.own (insN ds j p.d))))
   | _=>False)
  | _=>False)
 | _=>False
def FVs.insN{O:Addr->Prop}{H:Hp}{xs:List V}{ds:List D}{j:Int}{y:V}{d:D}(f:FVs K O H xs ds)(g:FV K O H y d):FVs K O H (L2.insN xs j y) (L2.insN ds j d):=by
 unfold L2.insN;rw [f.length];exact ((f.take _).append (.cons g .nil)).append (f.drop _)
def oF{i:Nat}(hk:LE K tk pk)(h:LE K te pe):LE K (tBM K "list" oA (dA i) (bA tk (bA te iD))) (oE i pk pe):=λA ρ σ H Q Q' R q k=>by
 unfold oE at q
 split at q
 .rename_i ds0 e0;obtain⟨a0,xs0,s0,g0,f0⟩:=R.ownAt e0;refine⟨_,s0,.inl ⟨rfl,xs0,SqL.of g0⟩,hk A ρ σ H _ _ R q λv1 H1 p1 ρ1 q1 f1 o1=>?_⟩
  split at q1
  .rename_i j;obtain⟨R1,fv1⟩:=o1;cases fv1;refine h A ρ1 σ H1 _ _ R1 q1 λv H2 p ρ2 q2 f2 o2=>?_;obtain⟨R2,fv⟩:=o2.frz
   split at q2
   .rename_i ds e2;obtain⟨a,xs,s,g,f⟩:=R2.ownAt e2;rw [s0] at s;cases s;obtain⟨R3,f3⟩:=R2.lstw e2 s0 (f.insN (j:=j) fv);exact⟨a0,xs,j,v,rfl,rfl,g,by omega,t_ (by rw [f.length];exact q2.1.2) (sz _ (o_ _)),k _ _ _ _ q2.2 ((f1.trans f2).trans f3) ⟨R3,.non⟩⟩
   .exact q2.elim
  .exact q1.elim
 .exact q.elim
end
section
variable {prog:m_}{w:World}{A:v_}{E:Value->c_->Prop}{s:c_}
def iV{l:Addr}{vs:List Value}{Q:List Value->c_->Prop}(hl:IsTup s.heap l vs.toArray)
  (h:Q vs { s with heap:=(s.heap.push (seqObj "list" #[] 0)).update s.heap.objs.size (Ba (·++vs.toArray)) }) (hsz:vs.length<=sizeLine:=by size_fits) :
  wpAny (model prog w) A (collect (.ref l)) Q E s:=by
 obtain⟨o,ho,hc,n,hd⟩:=id hl;unfold collect;refine cy (wpAny_runValue (CL entry_proto_collect' ?_));show wpAny _ _ (do again (.builtin "list.__iadd__" ⟨[<- newList [],.ref l],[]⟩)) _ _ s;refine cy (wpAny_newList (f_ ⟨Code.quiet_builtin _ (by decide +kernel),CL entry_list_iadd' ?_⟩));show wpAny _ _ (zV (.ref s.heap.objs.size) (.ref l) (.ref s.heap.objs.size)) _ _ { s with heap:=s.heap.push (seqObj "list" #[] 0) }
 unfold zV;have ho':(s.heap.push (seqObj "list" #[] 0)).get? l=some o:=e_ _ ho;refine cy (BV (T:="tuple") ⟨o,ho',hc⟩ ?_);have ht:(Aq "tuple" == Aq "tuple")=true:=by rfl
 rw [if_pos (by rw [ht];simp)];refine cy (listItems_at ho' hd ?_);refine cy (listItems_at (xs:=#[]) (n:=0) (q_ _ rfl) rfl ?_);rw [if_neg (by simp)];refine cy (listUpdate_at (xs:=#[]) (n:=0) (q_ _ rfl) rfl ?_ (AK _) (by show (#[]++vs.toArray).size<=sizeLine+1;simp only [Array.size_append,size_toArray,length_nil];omega));refine f_ ?_
 show wpAny (model prog w) A (do
   let o <- load s.heap.objs.size
   match o.data with
   | .seq xs _=>pure xs.toList
   | _=>unsupported "internal:collect") Q E { s with heap:=(s.heap.push (seqObj "list" #[] 0)).update s.heap.objs.size (Ba (·++vs.toArray)) }
 refine cy (wpAny_load (get?_update_seq (q_ _ rfl) _) ?_);show wpAny _ _ (pure ((#[]:Array Value)++vs.toArray).toList) Q E _;rw [show ((#[]:Array Value)++vs.toArray).toList=vs by simp];exact f_ h
def jM{l:Addr}{vs:List Value}{ns:List Int}{Q:Value->c_->Prop}(hl:IsTup s.heap l vs.toArray)(hI:IntsAre vs ns)(h64:vs.length<64)
  (h:∀(out:Array Value) (ns':List Int),IntsAre out.toList ns'->ns'.Perm ns->ns'.Pairwise (·<=·)->Q (.ref (s.heap.objs.size+1)) { s with heap:=sortedAll s.heap vs out }) :
  wpAny (model prog w) A (call (.builtin "sorted") [.ref l]) Q E s:=by
 refine Calls.call_function_entry kind_sorted plain_sorted entry_sorted (args_sorted1 _) ?_;unfold BR.«sorted»;refine cy (m:=checkCount "sorted" 1 1 _) (f_ ?_);refine cy (iV hl ?_);refine cy (wpAny_newList ?_)
 have hsz:((s.heap.push (seqObj "list" #[] 0)).update s.heap.objs.size (Ba (·++vs.toArray))).objs.size=s.heap.objs.size+1:=by
  rw [Heap.size_update,size_push']
 have hoL:(((s.heap.push (seqObj "list" #[] 0)).update s.heap.objs.size (Ba (·++vs.toArray))).push (seqObj "list" vs.toArray 0)).get? (s.heap.objs.size+1)=some (seqObj "list" vs.toArray 0):=by
  rw [<- hsz];exact q_ _ rfl
 show wpAny _ _ _ _ _ { s with heap:=((s.heap.push (seqObj "list" #[] 0)).update s.heap.objs.size (Ba (·++vs.toArray))).push (seqObj "list" vs.toArray 0) };rw [hsz];refine cy (zR (Ct slot_list_sort ⟨_,hoL,rfl⟩ entry_list_sort (list_sort_tree hoL hI h64 λout ns' a1 a2 a3=>⟨_,rfl,?_⟩) (args_list_sort _)));exact f_ ⟨_,rfl,h out ns' a1 a2 a3⟩
end
section
variable {X:Cx}{K:b_}
noncomputable def rV(K:b_):List V->Hp->VK->Prop:=λxs H Q=>∃(b:Bool) (p:Addr) (ns:List Int),xs=[.ref p]/\Sq b K H p (ns.map V.int)/\ns.length<64/\∀ns':List Int,ns'.Perm ns->ns'.Pairwise (·<=·)->∀q,H q=none->Q (.ref q) (upd H q (.lst (ns'.map V.int)))
def tK(K:b_)(e:X.K=K):a6 X (.builtin "sorted") (rV K):=by
 subst e;intro pins s σ H xs us Q I r h;obtain⟨b,p,ns,rfl,hS,hne,q⟩:=h;obtain⟨u,rfl,ru⟩:=gY r;cases (show u=k_ p from ru)
 cases b with
 | false=>exact tJ X.K rfl pins s σ H _ _ Q I r ⟨p,ns,rfl,hS,hne,q⟩
 | true =>
  obtain⟨its,rv,pl,hz⟩:=I.tuple hS;have hi:=ip rv;have hlen:its.length=ns.length:=by have:=rv.length;rw [length_map] at this;exact this.symm
  refine jM pl hi (by omega) λout ns' ho hp hs=>?_;obtain⟨e,he⟩:=sortedAll_at s.heap its out;have hle:s.heap.objs.size<=s.heap.objs.size+1:=le_succ _;refine⟨.ref (s.heap.objs.size+1),_,I.laid (a:=s.heap.objs.size+1) (o:=.lst (ns'.map V.int)) (t':=s.toks) (λb o z=>sortedAll_old z) hle ?_,rfl,q ns' hp hs _ (I.hok.fresh hle)⟩;refine⟨?_,out.toList,e,ej ho,he⟩;rw [length_map,hp.length_eq];exact sz _ (by omega)
noncomputable def rW:FN
 | [.lst ds],Q=>∃ns:List Int,ds=ns.map .int/\ns.length<64/\∀ns':List Int,ns'.Perm ns->ns'.Pairwise (·<=·)->Q (.own (ns'.map .int))
 | [.tup ds],Q=>∃ns:List Int,ds=ns.map .int/\ns.length<64/\∀ns':List Int,ns'.Perm ns->ns'.Pairwise (·<=·)->Q (.own (ns'.map .int))
 | _,_=>False
def qH:LC K (rV K) rW:=by
 intro O H xs as Q Q' dom fs q k;unfold rW at q
 split at q
 .obtain⟨ns,rfl,h0,q⟩:=q
  cases fs with
  | cons a b =>
   cases b;obtain⟨p,ys,rfl,e1,f1⟩:=a.lst;rw [f1.ints] at e1;exact⟨false,p,ns,rfl,SqL.of e1,h0,λns' h1 h2 p' hp'=>k _ _ _ (q ns' h1 h2) (Gr.new hp') (bL hp' (FVs.of_ints _))⟩
 .obtain⟨ns,rfl,h0,q⟩:=q
  cases fs with
  | cons a b =>
   cases b;obtain⟨p,ys,rfl,_,e1,f1⟩:=a.tup;rw [f1.ints] at e1;exact⟨true,p,ns,rfl,SqT.of e1,h0,λns' h1 h2 p' hp'=>k _ _ _ (q ns' h1 h2) (Gr.new hp') (bL hp' (FVs.of_ints _))⟩
 .exact q.elim
end
section
variable {prog:m_}{w:World}{A:v_}{E:Value->c_->Prop}{s:c_}
theorem jN{it t:Addr}{items:Array Value}(hne:t≠it):∀(n i:Nat) (s:c_) (Q:List Value->c_->Prop),s.heap.IsListIter it t i->s.heap.IsList t items->i+n<=items.size ->
  (∀h',h'.IsListIter it t (i+n)->CB it s.heap h'->Q ((items.toList.drop i).take n) { s with heap:=h' })->wpAny (model prog w) A (draw (.ref it) n) Q E s
 | 0,i,s,Q,hit,_,_,hQ=>by
  show wpAny _ _ (pure []) Q E s;exact f_ (by simpa using hQ s.heap hit (Heap.SameBut.refl ..))
 | n+1,i,s,Q,hit,ht,hle,hQ=>by
  have hlt:i<items.size:=by omega
  show wpAny _ _ (pyNext (.ref it) >>= _) Q E s;refine cy (wpAny_pyNext_list_item hit ht (x:=items[i]) (by simp [hlt]) λh₁ hit₁ hs₁=>?_);refine cy (zR (jN hne n (i+1) _ _ hit₁ (ht.extBut hs₁.extBut hne) (by omega) λh₂ hit₂ hs₂=>f_ ?_));have hd:items.toList.drop i=items[i]::items.toList.drop (i+1):=by simp [BI,hlt]
  have:=hQ h₂ (by rw [show i+(n+1)=i+1+n by omega];exact hit₂) (hs₁.trans hs₂);rw [hd,take_succ_cons] at this;exact this
def fP{t:Addr}{items:Array Value}{Q:List Value->c_->Prop}(hh:A.handled=none)(ht:s.heap.IsList t items)
  (hQ:∀h',Heap.ExtBut s.heap.objs.size s.heap h'->Q items.toList { s with heap:=h' }):wpAny (model prog w) A (unpackItems (.ref t) items.size none) Q E s:=by
 have hlt:t≠s.heap.objs.size:=by obtain⟨o,ho,_⟩:=ht;exact zI (h_ ho)
 unfold unpackItems
 refine cy ?_
 .unfold notIterableAtAll;refine cy (BN ht.typeIs PySem.F.slot_list_iter.lookup ?_);refine f_ ?_;simp only [false_eq_true,if_false];refine cy (zR (Cm ht ?_));refine cy (zR (jN hlt items.size 0 _ _ ⟨_,q_ _ rfl,rfl,rfl⟩ (ht.push _) (by omega) λh₁ hit₁ hs₁=>?_))
  have hall:List.take items.size (List.drop 0 items.toList)=items.toList:=by
   rw [drop_zero];exact Ad (by simp)
  rw [hall];rw [if_neg (by simp)];have ht₁:h₁.IsList t items:=(ht.push _).extBut hs₁.extBut hlt;refine cy (zR (wpAny_pyNext_list_end hh hit₁ ht₁ (by simp) λh₂ he₂=>?_));simp only [Option.isSome_none,false_eq_true,if_false];refine f_ (hQ h₂ λb o hb e=>he₂ b o hb (hs₁.extBut b o hb (e_ _ e)))
def e6{env:Env}{elts:List Expr}{x1}{pos:Pos}{t:Addr}{items:Array Value}{Q:Unit->c_->Prop}(hh:A.handled=none)(ht:s.heap.IsList t items)
  (hn:(assignEach elts env).length=items.size) (hstar:(assignEach elts env).findIdx? (·.1)=none)
  (h:∀h',Heap.ExtBut s.heap.objs.size s.heap h'->wpAny (model prog w) A (assignInOrder ((assignEach elts env).map (·.2)) items.toList) Q E { s with heap:=h' }) :
  wpAny (model prog w) A (assign (.Tuple elts x1 pos) env (.ref t)) Q E s:=by
 rw [assign_Tuple];refine cy (Al ?_);unfold unpack;rw [hn,hstar];exact cy (zR (fP hh ht h))
end
noncomputable def wQ(K:b_)(n:Nat)(t:TGs):TG:=λv σ H Q=>∃b a xs,v=.ref a/\Sq b K H a xs/\xs.length=n/\t xs σ H Q
section
variable {X:Cx}
def rX(K:b_)(eK:X.K=K){es:List Expr}{k:Nat}{t:TGs}{n:Nat}{pos:Pos}(hc:X.calm=true)(h:PGs X es t)
  (hn:(assignEach es X.env).length=n:=by rfl) (hst:(assignEach es X.env).findIdx? (·.1)=none:=by rfl):PG X (.Tuple es k pos) (wQ K n t):=by
 subst eK;intro pins s σ H v u Q I r hw;obtain⟨b,a,xs,e1,hq,hl,hw⟩:=hw
 cases b with
 | true=>exact uO hc h hn hst pins s σ H v u Q I r ⟨a,xs,e1,hq,hl,hw⟩
 | false =>
  subst e1;cases r;obtain⟨its,rv,ht,hz⟩:=I.list hq;refine e6 (I.ok.hd hc) ht.isList (by simp [hn,<- hl,rv.length]) hst λh' hx=>?_;have I1:Inv X pins σ H { s with heap:=h' }:=I.kept (t':=s.toks) λb o e=>hx b o (zI (h_ e)) e;exact h pins _ σ H xs _ Q I1 (by simpa using rv) hw
noncomputable def tL(n:Nat)(gs:rG):PTG:=λp ρ Q=>match p with|.dat (.tup ds)=>ds.length=n/\gs ds ρ Q|.dat (.lst ds)=>ds.length=n/\gs ds ρ Q|.own ds=>ds.length=n/\gs ds ρ Q|_=>False
end
section
variable {K:b_}{fs:List Nat}
def oG{n:Nat}{gs:TGs}{pgs:rG}(h:LGs K fs gs pgs):LGd K fs (wQ K n gs) (tL n pgs):=λfx A R H0 ρ σ H d v Q Q' hf F r fv q k=>by
 unfold tL at q
 split at q
 .rename_i e;cases e
  cases fv with
  | tup nn e f=>exact⟨true,_,_,rfl,SqT.of e,by rw [f.length];exact q.1,h fx A R H0 ρ σ H _ _ Q Q' hf F r f q.2 k⟩
 .rename_i e;cases e
  cases fv with
  | lst nn e f=>exact⟨false,_,_,rfl,SqL.of e,by rw [f.length];exact q.1,h fx A R H0 ρ σ H _ _ Q Q' hf F r f q.2 k⟩
 .rename_i e;cases e
 .exact q.elim
end
noncomputable def dP(d:D)(xs:List D):Prop:=d=.lst xs\/d=.tup xs
def rY{d:D}{xs:List D}{n:Nat}{gs:rG}{ρ:PSt}{Q:PSt->Prop}(h:dP d xs)(q:xs.length=n/\gs xs ρ Q):tL n gs (.dat d) ρ Q:=by
 rcases h with rfl|rfl <;> exact q
theorem rZ{d:D}{xs:List D}{F:Nat->(Nat->D)->Prop}(h:dP d xs)(q:F xs.length (itD xs)):(match xP d with|some (n,it)=>F n it|none=>False):=by
 rcases h with rfl|rfl <;> exact q
def dP.lst(xs:List D):dP (.lst xs) xs:=.inl rfl
def dP.tup(xs:List D):dP (.tup xs) xs:=.inr rfl
def dP.items{d:D}{xs:List D}(h:dP d xs):aM d=xs:=by rcases h with rfl|rfl <;> rfl
noncomputable def nSt:Expr->Bool
 | .Starred _ _=>false
 | _=>true
def e7{e:Expr}{es:List Expr}{env:Env}(h:nSt e=true):starEach (e::es) env=(false,eval e env)::starEach es env:=by
 cases e <;> first|rfl|cases h
theorem eG{env:Env}{pos:Pos}:∀{es:List Expr},es.all nSt=true->(backTo pos (starEach es env)).any (·.1)=false
 | [],_=>rfl
 | e::es,h=>by
  rw [all_cons,and_eq_true] at h;rw [e7 h.1];show (false || (backTo pos (starEach es env)).any (·.1))=false;rw [eG h.2];rfl
section
variable {X:Cx}{k:Nat}{x:Str}{ps:List Str}{sp:Sp}{e:Expr}{es:List Expr}{te:TE}{t:TA}{p pos:Pos}{dvs:List V}{C:Addr}{id T:String}{r:List V->Hp->VK->Prop}
def paC(ha:PE X e te)(hr:PA X es t)(hn:nSt e=true:=by rfl):PA X (e::es) (bA te t):=sF ha hr (e7 hn)
def aS(C:Cal X.prog X.w X.K X.mg X.base k x ps sp)(hr:cP k X.A)(ha:PA X (e::es) t)(hg:Gl X x:=by rfl)(hdb:(x == ("__debug__":Str))=false:=by decide)(hn:nSt e=true:=by rfl)(hp:es.all nSt=true:=by rfl) :
  PE X (.Call (.Name x p) (e::es) [] pos) (iE sp [] E0 t):=vq C hr ha hg hdb (e7 hn) (eG hp)
def ak(hc:a6 X (.builtin id) r)(hg:Gl X x)(hm:X.mg x=none)(hv:bootBuiltins x=some (.builtin id))(ha:PA X (e::es) t)(hnn:x≠"__name__":=by decide)(hdb:(x == ("__debug__":Str))=false:=by decide)(hn:nSt e=true:=by rfl)(hp:es.all nSt=true:=by rfl) :
  PE X (.Call (.Name x p) (e::es) [] pos) (tCB r t):=qb hc hg hm hv ha hnn hdb (e7 hn) (eG hp)
def a7(hc:a6 X (.type T) r)(hg:Gl X x)(hm:X.mg x=none)(hv:bootBuiltins x=some (.type T))(ha:PA X (e::es) t)(hnn:x≠"__name__":=by decide)(hdb:(x == ("__debug__":Str))=false:=by decide)(hn:nSt e=true:=by rfl)(hp:es.all nSt=true:=by rfl) :
  PE X (.Call (.Name x p) (e::es) [] pos) (tCB r t):=nu hc hg hm hv ha hnn hdb (e7 hn) (eG hp)
end
noncomputable def plT:Expr->Bool
 | .Call _ _ _ _=>true
 | .Name _ _=>true
 | .Subscript _ _ _=>true
 | .Attribute _ _ _=>true
 | _=>false
def tM{e:Expr}{env:Env}(h:plT e=true):∀whole,isTrue e env whole=(do let v <- whole;standAt e.pos;holding [v] (truthy v)):=by
 cases e <;> first|(intro _;rfl)|cases h
def bS{X:Cx}{e:Expr}{t:TE}(h:PE X e t)(hp:plT e=true:=by rfl):PT X e (tB t):=uL h (tM hp)
def nD(k:Nat):D:=.int (k:Int)
def tN(n:Nat):rQ 0 n=(p_ n).map nD:=by
 unfold rQ nD;exact AZ λk _=>by rw [C8]
def lP(a b:List Int):deq (.lst (a.map .int)) (.lst (b.map .int))=decide (a=b):=by
 unfold deq;show Bb (.list (D.pys _)) (.list (D.pys _))=_;rw [gv,gv];simp only [Bb];exact gi a b
noncomputable def mF(n:Nat):List Int:=(p_ n).map λk=>((k:Nat):Int)
def jO(n:Nat):rQ 0 n=(mF n).map D.int:=by
 unfold rQ mF;rw [map_map];exact AZ λk _=>by show D.int (0+(k:Int))=D.int (k:Int);rw [C8]
def kS(n:Nat):(mF n).Pairwise (·<=·):=by
 unfold mF;rw [pairwise_map];exact pairwise_lt_range.imp λh=>by omega
def tO{a b:List Int}{n:Nat}(hp:b.Perm a)(hs:b.Pairwise (·<=·)):decide (b=mF n)=decide (a.Perm (mF n)):=by
 by_cases h:b=mF n
 .rw [decide_eq_true h,decide_eq_true (by rw [<- h];exact hp.symm)]
 .rw [decide_eq_false h,decide_eq_false λz=>h (List.Perm.eq_of_pairwise (λx y _ _ h1 h2=>by omega) hs (kS n) (hp.trans z))]
abbrev vmB:List Value:=[.type "ValueError",.type "Exception",.type "BaseException",.type "object"]
open PySem.Builtin PySem.Builtin.ObjectAttr
section
variable {prog:m_}{w:World}{A:v_}{E:Value->c_->Prop}{K:b_}{h:Heap}{g:Array B3}{d:Drawn}{t:Nat}{os:A7}
variable {nm q:Str}{C G N x:Addr}{bs:List Value}{sn:List Str}{sub:List Value}{ab:Bool}{col:Option Bool}{k0 k1 k2 k3 k5:Option Value}{name:Str}{v:Value}{o:Obj}{vs:Array Value}
noncomputable def yU(h h':Heap)(x:Addr)(o:Obj)(name:Str)(v:Value)(dx:Addr):Prop :=
 h'.get? x=some { o with dict:=some dx }/\h.objs.size<=dx/\dx≠x/\h'.Ns1 dx (λy=>if y=name then some v else none)/\∀b ob,b≠x->h.get? b=some ob->h'.get? b=some ob
def iW{tk:Tok}{Q:Fin->c_->Prop}(X:K.In h)(hC:h.get? C=some (excClassObj nm q C N bs (.ref G::vmB) true sn sub ab col none k0 k1 k2 k3 k5 "ValueError.__new__"))
  (hna:l_ K (.ref C) name=some none) (hx:h.get? x=some o) (hc:o.cls=.ref C) (hd:o.data=.fields vs) (hdn:o.dict=none)
  (hq:∀h' tk' dx,yU h h' x o name v dx->Q (.done (.ret .none)) ⟨h',g,d,tk',os⟩) :
  wpAny (model prog w) A (BR.«object.__setattr__» ⟨[.ref x,.str name tk,v],[]⟩) Q E ⟨h,g,d,t,os⟩:=by
 have hpass:=Cp.passes (.ref x);unfold BR.«object.__setattr__»
 repeat (first
  | rw [refuse_eq]
  | (rw [refuseLoop_ref,refuseLoop_ref,hpass])
  | (with_reducible refine zZ hx ?_;rw [hc])
  | with_reducible refine wpAny_mroOf_exc hC ?_
  | (with_reducible refine (Bc X hna).at ?_)
  | wp_step)
 rw [hdn,if_neg (by simp [typeHasDict])]
 split
 .rename_i hcd;cases hcd
 split
 .rename_i c hcd;rw [hd] at hcd;cases hcd
 .have hx1:(h.push { cls:=.type "dict",data:=.dict #[] }).get? x=some o:=e_ _ hx;have hxs:x≠h.objs.size:=zI (h_ hx);refine cy (wpAny_alloc' ?_);refine cy (wpAny_update' hx1 ?_);refine f_ ?_;generalize hg2:((h.push { cls:=.type "dict",data:=.dict #[] }).update x λo=>{ cls:=o.cls,dict:=some h.objs.size,data:=o.data,slots:=o.slots })=h2
  have gd:h2.get? h.objs.size=some { cls:=.type "dict",data:=.dict #[] }:=by
   rw [<- hg2];exact (Av _ _ _ _ hxs.symm).trans (Heap.get?_push_at rfl rfl)
  have gx:h2.get? x=some { o with dict:=some h.objs.size }:=by
   rw [<- hg2];refine A6 _ hx1 ?_;have hfr:=(Heap.get?_some_iff.mp hx).2;obtain⟨oc,od,odt,osl⟩:=o;cases odt <;> first|rfl|exact hfr
  have kp:∀b ob,b≠x->h.get? b=some ob->h2.get? b=some ob:=λb ob hb e=>by
   rw [<- hg2];exact (Av _ _ _ _ hb).trans (e_ _ e)
  have hnd:h2.Ns h.objs.size (λ_=>none):=⟨_,#[],_,gd,rfl,λe he=>absurd he (by simp),λ_=>rfl⟩
  show wpAny _ _ (storeInDict h.objs.size (.str name tk) name v) _ _ _;unfold storeInDict newKeyGuard;refine cy (f_ (cy (wpAny_nsSet1 (Heap.Ns1.of_empty hnd) λh' hn' hs=>?_)));obtain⟨oD,esD,epD,hoD,hdD,hcD⟩:=hn'.count (Within.cons name v Within.nil)
  refine cy (wpAny_lookBehind hoD (by
   rw [hdD];exact pastItsLine_dict (Af hcD (by rw [length_cons,length_nil,A9];omega))) ?_)
  wp_walk
  exact hq h' _ h.objs.size ⟨(hs.2 x hxs).trans gx,o_ _,hxs.symm,hn',λb ob hb e=>(hs.2 b (zI (h_ e))).trans (kp b ob hb e)⟩
def tP{Q:Unit->c_->Prop}(X:K.In h)(hC:h.get? C=some (excClassObj nm q C N bs (.ref G::vmB) true sn sub ab col none k0 k1 k2 k3 k5 "ValueError.__new__"))
  (hsa:l_ K (.ref C) "__setattr__"=some (some (.builtin "object.__setattr__"))) (hna:l_ K (.ref C) name=some none)
  (hx:h.get? x=some o) (hc:o.cls=.ref C) (hd:o.data=.fields vs) (hdn:o.dict=none)
  (hq:∀h' tk' dx,yU h h' x o name v dx->Q () ⟨h',g,d,tk',os⟩) :
  wpAny (model prog w) A (setAttr (.ref x) name v) Q E ⟨h,g,d,t,os⟩:=by
 have SF:=Cp;have u3:=SF.slot.bind (.ref x);unfold setAttr callSpecial? specialOf;refine cy (wpAny_mkText (cy (cy (cy (BC hx ?_)))));rw [hc];refine (Bc X hsa).at ?_;refine zR (cy (wpAny_of_eq u3 (cy (CC ?_))))
 have own:(k_ C::.ref G::vmB).contains (.type "object")=true:=by
  rw [contains_cons,contains_cons,SF.hasOwner,BY,BY]
 refine BJ SF.slot.plain SF.entry ?_;simp only [checkBuiltinCall,SF.kind,SF.split];have ha:=SF.args (.ref x) (.str name t) v;show wpAny _ _ (isInstance (.ref x) (.type "object") >>= _) _ _ _;refine cy ?_;unfold isInstance;refine cy (BC hx ?_);rw [hc];refine Aw hC ?_;rw [own]
 have step:∀{Q':Fin->c_->Prop},(∀s',Q () s'->Q' (.done (.ret .none)) s')->wpAny (model prog w) A.in1 (BR.«object.__setattr__» ⟨[.ref x,.str name t,v],[]⟩) Q' E ⟨h,g,d,t+1,os⟩:=λk =>
  iW X hC hna hx hc hd hdn λh' tk' dx z=>k _ (hq h' tk' dx z)
 show wpAny _ _ (match Bh "object.__setattr__" with|some sig=>Bd "object.__setattr__" sig { pos:=[k_ x]++[BA name t,v] }|x=>pure ()) _ _ _
 cases hsig:Bh "object.__setattr__" with
 | none=>exact f_ (step λs' z=>f_ (f_ z))
 | some sig =>
  simp only [argsOk,hsig] at ha;have h2:Bd "object.__setattr__" sig ⟨[.ref x,.str name t,v],[]⟩=pure ():=ha;show wpAny _ _ (Bd "object.__setattr__" sig ⟨[.ref x,.str name t,v],[]⟩) _ _ _;rw [h2];exact f_ (step λs' z=>f_ (f_ z))
end
open PySem.Builtin PySem.Builtin.ObjectAttr
open PySem.Builtin PySem.Builtin.ObjectAttr
section
variable {prog:m_}{w:World}{A:v_}{E:Value->c_->Prop}{K:b_}{h:Heap}{g:Array B3}{d:Drawn}{t:Nat}{os:A7}
variable {nm q:Str}{C G N x dx:Addr}{bs:List Value}{sn:List Str}{sub:List Value}{ab:Bool}{col:Option Bool}{k0 k1 k2 k3 k5:Option Value}{name:Str}{v:Value}{o:Obj}{vs:Array Value}{mA:Str->Option Value}
def oH{R:Result->c_->Prop}(hC:h.get? C=some (excClassObj nm q C N bs (.ref G::vmB) true sn sub ab col none k0 k1 k2 k3 k5 "ValueError.__new__"))(hx:h.get? x=some o)(hc:o.cls=.ref C)
  (hq:R (.ok (.ret (.ref C))) ⟨h,g,d,t,os⟩):codeAny (model prog w) A (.call (.builtin "getset_descriptor.__get__") ⟨[.builtin "object.__class__",.ref x,.ref C],[]⟩) R ⟨h,g,d,t,os⟩:=by
 have hT5:(⟨h,g,d,t,os⟩:c_).TypeIs (.builtin "object.__class__") "getset_descriptor":=BZ
 have own:(k_ C::.ref G::vmB).contains (.type (".".intercalate ("object.__class__".cutAt '.').dropLast))=true:=by
  rw [PySem.F.owner_object_class];rfl
 refine BJ BQ.plain PySem.F.entry_gs_get ?_;refine BQ.check _ _ _ _ _ _ _ _ hT5 (PySem.F.args_gs_get _ _ _) ?_
 repeat (any_goals (first
  | assumption
  | (with_reducible refine zZ hx ?_;rw [hc])
  | (with_reducible refine Aw hC ?_;rw [own])
  | wp_step))
 refine⟨Code.quiet_builtin _ (by decide +kernel),CL PySem.F.entry_object_class ?_⟩
 repeat (any_goals (first
  | assumption
  | (with_reducible refine zZ hx ?_;rw [hc])
  | wp_step))
def kT{tk:Tok}{Q:Fin->c_->Prop}(X:K.In h)(hC:h.get? C=some (excClassObj nm q C N bs (.ref G::vmB) true sn sub ab col none k0 k1 k2 k3 k5 "ValueError.__new__"))(hx:h.get? x=some o)(hc:o.cls=.ref C)
  (hcl:l_ K (.ref C) "__class__"=some (some (.builtin "object.__class__"))) (hq:Q (.done (.ret (.ref C))) ⟨h,g,d,t,os⟩) :
  wpAny (model prog w) A (BR.«object.__getattribute__» ⟨[.ref x,.str "__class__" tk],[]⟩) Q E ⟨h,g,d,t,os⟩:=by
 have u5:=BZ;have u6:=BQ.lookup;have u7:=PySem.F.slot_gs_set.lookup;unfold BR.«object.__getattribute__»
 repeat (any_goals (first
  | assumption
  | (with_reducible refine zZ hx ?_;rw [hc])
  | (with_reducible refine (Bc X hcl).at ?_)
  | wp_step))
 refine oH hC hx hc ?_
 repeat (any_goals (first
  | assumption
  | wp_step))
end
open PySem.Builtin PySem.Builtin.ObjectAttr
section
variable {prog:m_}{w:World}{A:v_}{E:Value->c_->Prop}{K:b_}{h:Heap}{g:Array B3}{d:Drawn}{t:Nat}{os:A7}
variable {nm q:Str}{C G N x dx:Addr}{bs:List Value}{sn:List Str}{sub:List Value}{ab:Bool}{col:Option Bool}{k0 k1 k2 k3 k5:Option Value}{name:Str}{v:Value}{o:Obj}{vs:Array Value}{mA:Str->Option Value}
def zq{fill expr:Bool}{tk:Tok}{Q:Value->c_->Prop}(X:K.In h)(hC:h.get? C=some (excClassObj nm q C N bs (.ref G::vmB) true sn sub ab col none k0 k1 k2 k3 k5 "ValueError.__new__"))
  (hga:l_ K (.ref C) "__getattribute__"=some (some (.builtin "BaseException.__getattribute__"))) (hgh:l_ K (.ref C) "__getattr__"=some none)
  (hx:h.get? x=some o) (hc:o.cls=.ref C) (hh:handedOut v=pure v)
  (step:∀{Q':Fin->c_->Prop}{E':Value->c_->Prop},Q' (.done (.ret v)) ⟨h,g,d,t,os⟩->wpAny (model prog w) A.in1 (BR.«object.__getattribute__» ⟨[.ref x,.str name tk],[]⟩) Q' E' ⟨h,g,d,t,os⟩)
  (hq:Q v ⟨h,g,d,t,os⟩):wpAny (model prog w) A (getAttrBy (.ref x) (.str name tk) fill expr) Q E ⟨h,g,d,t,os⟩:=by
 unfold getAttrBy;refine zR (cy (BC hx ?_));rw [hc];refine cy ((Bc X hga).at ?_);have hx2:(Cq "BaseException.__getattribute__" == Cq "object.__getattribute__")=false:=by decide +kernel
 show wpAny _ _ (if (onTheHeap (.ref C) && (Cq "BaseException.__getattribute__" == Cq "object.__getattribute__"))=true then _ else _) _ _ _;rw [hx2,Cb,if_neg (by decide)];unfold getAttrByItsOwn;refine cy ((PySem.W.looks_hook X (r:=none) (by rw [if_pos (by rfl)];exact hgh)).at ?_);refine cy (wpAny_attempt ?_);unfold callGetattribute;refine zR ?_
 rw [if_neg (by cases expr <;> decide)];unfold boundAndCalled;have FB:=PySem.F.attrBase_ValueError
 have own:(k_ C::.ref G::vmB).contains (.type "BaseException")=true:=by
  rw [contains_cons,contains_cons,FB.hasBase,BY,BY]
 have ha:=PySem.F.args_bexc_ga (.ref x) (.str name tk);have hk:builtinKind "BaseException.__getattribute__"=some .slot:=by decide +kernel
 have hsp:splitId "BaseException.__getattribute__"=some ("BaseException","__getattribute__"):=by decide +kernel
 refine cy (wpAny_of_eq (FB.ga.bind (.ref x)) ?_);refine CC (BJ FB.ga.plain PySem.F.entry_bexc_ga ?_);simp only [checkBuiltinCall,hk,hsp];show wpAny _ _ (isInstance (.ref x) (.type "BaseException") >>= _) _ _ _;refine cy ?_;unfold isInstance;refine cy (BC hx ?_);rw [hc];refine Aw hC ?_;rw [own];have done:wpAny (model prog w) A (handedOut v) Q E ⟨h,g,d,t,os⟩:=by rw [hh];exact f_ hq
 show wpAny _ _ (match Bh "BaseException.__getattribute__" with|some sig=>Bd "BaseException.__getattribute__" sig { pos:=[k_ x]++[BA name tk] }|x=>pure ()) _ _ _
 cases hsig:Bh "BaseException.__getattribute__" with
 | none=>exact f_ (step done)
 | some sig =>
  simp only [argsOk,hsig] at ha;have h2:Bd "BaseException.__getattribute__" sig ⟨[.ref x,.str name tk],[]⟩=pure ():=ha;show wpAny _ _ (Bd "BaseException.__getattribute__" sig ⟨[.ref x,.str name tk],[]⟩) _ _ _;rw [h2];exact f_ (step done)
def tQ{Q:Option Value->c_->Prop}(X:K.In h)(hC:h.get? C=some (excClassObj nm q C N bs (.ref G::vmB) true sn sub ab col none k0 k1 k2 k3 k5 "ValueError.__new__"))
  (hga:l_ K (.ref C) "__getattribute__"=some (some (.builtin "BaseException.__getattribute__"))) (hgh:l_ K (.ref C) "__getattr__"=some none)
  (hcl:l_ K (.ref C) "__class__"=some (some (.builtin "object.__class__"))) (hx:h.get? x=some o) (hc:o.cls=.ref C) (hq:Q (some (.ref C)) ⟨h,g,d,t+1,os⟩) :
  wpAny (model prog w) A (getAttr? (.ref x) "__class__") Q E ⟨h,g,d,t,os⟩:=by
 unfold getAttr? getAttrBy?;refine cy (wpAny_mkText (cy (wpAny_attempt ?_)));exact zq X hC hga hgh hx hc rfl (λk=>kT X hC hx hc hcl k) (f_ hq)
structure XC (K:b_) (C G:Addr):Prop where
 obj:∃nm q N bs sn sub ab col k0 k1 k2 k3 k5,K.lookup C=some (excClassObj nm q C N bs (.ref G::vmB) true sn sub ab col none k0 k1 k2 k3 k5 "ValueError.__new__")
 ga:l_ K (.ref C) "__getattribute__"=some (some (.builtin "BaseException.__getattribute__"))
 gh:l_ K (.ref C) "__getattr__"=some none
 sa:l_ K (.ref C) "__setattr__"=some (some (.builtin "object.__setattr__"))
 cl:l_ K (.ref C) "__class__"=some (some (.builtin "object.__class__"))
def lQ{dd:Option Addr}{new:Bool}(c:XC K C G):PySem.W.KitX K (.ref x) (.ref C) (XAt x C dd new) where
 ty:=λM h X p=>by
  obtain⟨o,vs,h1,h2,_⟩:=p;exact h2 ▸ (PySem.W.Looks.ld h1).andThen .now
 it:=λM h X p=>by
  obtain⟨nm,q,N,bs,sn,sub,ab,col,k0,k1,k2,k3,k5,e⟩:=c.obj;intro A' Q' E' s' k q;unfold isType loadHead;exact cy (wpAny_loadPart (k _ _ (X _ _ e)) (f_ q))
 ne:=λh tp dd its n sl X htp=>by
  obtain⟨nm,q,N,bs,sn,sub,ab,col,k0,k1,k2,k3,k5,e⟩:=c.obj;refine eq_false_iff.mpr λz=>?_;have e2:C=tp:=BG (beq_iff_eq.mp z);subst e2;have e3:=congrArg Obj.data (zE ((X _ _ e).symm.trans htp));cases e3
 ca:=λ{prog w A E Q s} X p k=>by
  obtain⟨h,g,d,t,os⟩:=s;obtain⟨o,vs,h1,h2,_⟩:=p;obtain⟨nm,q,N,bs,sn,sub,ab,col,k0,k1,k2,k3,k5,e⟩:=c.obj;exact tQ X (X _ _ e) c.ga c.gh c.cl h1 h2 k
end
def XAt.ok{P:m_}{w:World}{H:Hp}{h:Heap}{x C:Addr}{dd:Option Addr}{new:Bool}(p:XAt x C dd new h):aO P w H h x (.ext (XAt x C dd new)):=by
 obtain⟨o,vs,h1,h2,h3,h4⟩:=id p;exact⟨p,⟨o,h1⟩,λg1 g2 ⟨o',vs',a1,a2⟩ k=>⟨o',vs',k _ a1,a2⟩⟩
section
variable {X:Cx}{pins:List (Addr×Obj)}{σ:St}{H:Hp}{s:c_}{a dx C G:Addr}{f:Str}{v:V}{fs:List (Str×V)}{A:v_}{E:Value->c_->Prop}
def Un.setX{h h':Heap}{fs ex:List Addr}{o:HO}{o2:HO}(mu:Mut (H a))(hx:H dx=none)(hd:h.get? dx=none)(k:∀b ob,b≠a->h.get? b=some ob->h'.get? b=some ob)(ha:∃o,h'.get? a=some o):Un fs ex H (upd (upd H dx o) a o2) h h':=by
 have na:∀b,H b=none->b≠a:=λb n z=>by subst z;rw [n] at mu;exact mu
 have nd:∀b ob,h.get? b=some ob->b≠dx:=λb ob e z=>by rw [z,hd] at e;cases e
 have hm:∀b u,H b=some u->¬ Mut (some u)->b≠a/\b≠dx:=λb u q nm=>⟨λz=>by subst z;rw [q] at mu;exact nm mu,λz=>by subst z;rw [hx] at q;cases q⟩
 refine⟨λb u q n _ _=>k b u (na b n) q,λb u q n _ _=>⟨u.slots,k b u (na b n) q⟩,λb u q n _=>by rw [ai (na b n),ai (nd b u q)];exact n,λb u q _=>?_,
  λb xs q=>by rw [ai (hm b _ q λz=>z).1,ai (hm b _ q λz=>z).2];exact q,λb u xs q=>by rw [ai (hm b _ q λz=>z).1,ai (hm b _ q λz=>z).2];exact q,
  λb ps q=>⟨#[],by rw [ai (hm b _ q λz=>z).1,ai (hm b _ q λz=>z).2,q];simp⟩⟩
 by_cases hb:b=a
 .subst hb;exact ha
 .exact⟨u,k b u hb q⟩
def setX{new:Bool}{y:V}{u:Value}{Q:Unit->c_->Prop}(I:Inv X pins σ H s)(ea:H a=some (.ext (XAt a C none new)))(c:XC X.K C G)(n:l_ X.K (.ref C) f=some none)(ry:bz y u)
  (h:∀dx s',H dx=none->Inv X pins σ (upd (upd H dx (.xd [(f,y)])) a (.ext (XAt a C (some dx) new))) s'->Q () s'):wpAny (model X.prog X.w) A (setAttr (.ref a) f u) Q E s:=by
 obtain⟨⟨o,vs,h1,h2,h3,h4,h5⟩,_,_⟩:=(show aO X.prog X.w H s.heap a (.ext (XAt a C none new)) from I.hok a _ ea)
 obtain⟨nm,q,N,bs,sn,sub,ab,col,k0,k1,k2,k3,k5,e⟩:=c.obj;have X2:=I.kIn;obtain⟨hh,g,d,t,os⟩:=s;refine tP X2 (X2 _ _ e) c.sa n h1 h2 h4 h3 λh' tk' dx z=>?_;obtain⟨z1,z2,z3,z4,z5⟩:=z;have hdx:H dx=none:=I.hok.fresh z2;have hg0:hh.get? dx=none:=Heap.get?_none_of_le z2;have hne:dx≠a:=z3;have mu:Mut (H a):=by rw [ea];exact zY
 refine h dx _ hdx (I.un (t':=tk') (Un.setX mu hdx hg0 z5 ⟨_,z1⟩) λb ob eb=>?_)
 by_cases hb:b=a
 .subst hb;rw [ax] at eb;cases eb;exact XAt.ok ⟨_,vs,z1,h2,rfl,h4,h5⟩
 .rw [ai hb] at eb
  by_cases hb2:b=dx
  .subst hb2;rw [ax] at eb;cases eb;refine⟨_,z4,λy'=>?_⟩;show l4 (CV y' [(f,y)]) _
   by_cases q:y'=f
   .subst q;rw [if_pos rfl];have e1:CV y' [(y',y)]=some y:=by simp [CV]
    rw [e1];exact ry
   .rw [if_neg q];have:(y' == f)=false:=beq_eq_false_iff_ne.mpr q;simp [CV,this,l4]
  .rw [ai hb2] at eb
   refine (I.hok b ob eb).stay (λc w hc e=>?_) (λc e=>?_) λc xs e=>?_
   .refine z5 c w ?_ e;rintro rfl
    rcases hc with hc|hc
    .exact hb hc.symm
    .rw [ea] at hc;cases hc
   .rw [ai,ai]
    .exact e
    .rintro rfl;rw [hdx] at e;cases e
    .rintro rfl;rw [ea] at e;cases e
   .rw [ai,ai]
    .exact e
    .rintro rfl;rw [hdx] at e;cases e
    .rintro rfl;rw [ea] at e;cases e
end
section
variable {X:Cx}{o e value:Expr}{f:Str}{pos pos':Pos}{ta tv:TE}
noncomputable def tR(K:b_)(ta tv:TE)(f:Str):TS:=λD σ H=>tv σ H λy H1=>ta σ H1 λx H2=>∃a C G new,x=.ref a/\H2 a=some (.ext (XAt a C none new))/\XC K C G/\l_ K (.ref C) f=some none /\
 ∀dx,H2 dx=none->D.nx σ (upd (upd H2 dx (.xd [(f,y)])) a (.ext (XAt a C (some dx) new)))
def tS(ha:PE X o ta)(hv:PE X value tv)(hs:swapsWith value (some (.Attribute o f pos')) pos.line X.env=pure false):PS X (.Assign [.Attribute o f pos'] value pos) (tR X.K ta tv f):=by
 intro pins s σ H D I h;refine plainObj_wpAny_Assign_Attribute (thn (hv pins s σ H _ I h) λu s1 z=>?_) hs;obtain⟨y,H1,I1,ry,q⟩:=z;refine thn (ha pins s1 σ H1 _ I1 q) λov s2 z=>?_;obtain⟨x,H2,I2,rx,a,C,G,new,ex,ea,c,n,q2⟩:=z;subst ex;obtain rfl:ov=k_ a:=rx;exact setX I2 ea c n ry λdx s3 hdx I3=>⟨σ,_,I3,q2 dx hdx⟩
end
def aO.there{P:m_}{w:World}{H:Hp}{h:Heap}{a:Addr}{o:HO}(x:aO P w H h a o):∃ob,h.get? a=some ob:=by
 cases o with
 | lst xs=>obtain⟨_,_,_,_,e⟩:=x;exact⟨_,e⟩
 | tup xs=>obtain⟨_,_,_,ob,e,_⟩:=x;exact⟨ob,e⟩
 | dK kvs=>obtain⟨_,_,_,_,o,_,_,e,_⟩:=x;exact⟨o,e⟩
 | dT kvs=>obtain⟨_,_,_,_,o,_,_,e,_⟩:=x;exact⟨o,e⟩
 | set S n=>obtain⟨o,_,_,_,e,_⟩:=x;exact⟨o,e⟩
 | ins C dx fs=>obtain⟨_,_,_,e,_⟩:=x;exact⟨_,e⟩
 | own y=>exact x
 | xd fs=>obtain⟨_,⟨o,_,_,e,_⟩,_⟩:=x;exact⟨o,e⟩
 | rng lo hi=>obtain⟨_,_,_,e⟩:=x;exact⟨_,e⟩
 | frz ob u=>obtain⟨e,_⟩:=x;exact⟨ob,e⟩
 | tbl ps=>obtain⟨_,_,_,_,_,e,_⟩:=x;exact⟨_,e⟩
 | met f y=>exact⟨_,(show h.get? a=some _ from x)⟩
 | ext φ=>exact x.2.1
def HOk.not{P:m_}{w:World}{H:Hp}{h:Heap}{a:Addr}(x:HOk P w H h)(e:h.get? a=none):H a=none:=by
 cases q:H a with
 | none=>rfl
 | some u=>obtain⟨ob,e2⟩:=(x a u q).there;rw [e] at e2;cases e2
section
variable {X:Cx}{pins:List (Addr×Obj)}{σ:St}{H:Hp}{s:c_}{h':Heap}{a:Addr}{o:HO}
def Inv.news{t':Nat}(I:Inv X pins σ H s)(k:∀b u,s.heap.get? b=some u->h'.get? b=some u)(hn:s.heap.get? a=none)(new:aO X.prog X.w (upd H a o) h' a o):Inv X pins σ (upd H a o) { s with heap:=h',toks:=t' }:=by
 have ha:=I.hok.not hn
 refine I.un ⟨λb u q _ _ _=>k b u q,λb u q _ _ _=>⟨u.slots,k b u q⟩,λb u q n _=>?_,λb u q _=>⟨u,k b u q⟩,λb xs q=>?_,λb u xs q=>?_,λb ps q=>⟨#[],?_⟩⟩ λb u q=>?_
 .rw [ai (λz=>by rw [z,hn] at q;cases q)];exact n
 .rw [ai (aH q ha)];exact q
 .rw [ai (aH q ha)];exact q
 .rw [ai (aH q ha),q];simp
 .by_cases hb:b=a
  .subst hb;rw [ax] at q;cases q;exact new
  .rw [ai hb] at q;exact (I.hok b u q).stay (λc v _ e=>k c v e) (λc e=>by rw [ai (aH e ha)];exact e) λc xs e=>by rw [ai (aH e ha)];exact e
end
structure XM (K:b_) (C G fI:Addr):Prop where
 c:XC K C G
 tail:∀h:Heap,K.In h->OwnTail h vmB (.ref G::vmB)
 init:l_ K (.ref C) "__init__"=some (some (.ref fI))
 fn:Be K (.ref fI)=some (.type "function")
 kp:we K (.ref C)=true
noncomputable def wc(K:b_)(f:Str):Sp:=λvs H Q _=>∃a C G new v,vs=[.ref a,v]/\H a=some (.ext (XAt a C none new))/\XC K C G/\l_ K (.ref C) f=some none/\∀dx,H dx=none->Q .non (upd (upd H dx (.xd [(f,v)])) a (.ext (XAt a C (some dx) new)))
structure pZ (P:m_) (w:World) (K:b_) (mg:Str->Option Value) (base:Heap) (k:Nat) (C:Addr) (x f:Str):Prop where
 ex:∃(G fI:Addr) (fd:Ag) (ps:List Str),kz P w K mg base CX0 k fI fd ps (wc K f)/\iF K fd ps []/\XM K C G fI/\l_ K (.ref C) f=some none/\mg x=some (.ref C)
noncomputable def X0(K:b_)(C:Addr):Prop:=∀h:Heap,K.In h->∃bm N nm q bs hd sn sub ab col dd k0 k1 k2 k3 k5 mN,
 h.get? C=some (excClassObj nm q C N bs bm hd sn sub ab col dd k0 k1 k2 k3 k5 "ValueError.__new__")/\h.Ns N mN/\mN "__init__"=none/\OwnTail h vmB bm
def kU{K:b_}{C:Addr}(q:Am K C vmB "ValueError.__new__"=true):X0 K C:=λh X=>by
 unfold Am at q;split at q
 case h_2=>cases q
 case h_1 dd cd sl ho =>
  split at q
  case h_2=>cases q
  case h_1 C' bm k0 k1 k2 k3 n k5 hm hs =>
   simp only [and_eq_true,beq_iff_eq,Bool.not_eq_true'] at q;obtain⟨⟨⟨⟨⟨e1,e2⟩,hdel⟩,ht⟩,hok⟩,hni⟩:=q;subst e1 e2
   cases cd with
   | mk nm bs mro ns qn hd sn sub ab col del =>
    cases sl with
    | mk l =>
     have hs:l=[k0,k1,k2,k3,some (.builtin "ValueError.__new__"),k5]:=hs;have hm:mro=.ref C'::bm:=hm;have hdel:del=false:=hdel;subst hs hm hdel;refine⟨bm,ns,nm,qn,bs,hd,sn,sub,ab,col,dd,k0,k1,k2,k3,k5,_,X _ _ ho,.of_isNs (PySem.W.isNs_of_in X hok),PySem.W.nsMap_none_of_in X hok hni,PySem.W.tail_of_in X ht⟩
def tT{K:b_}{G:Addr}(q:Am K G vmB "ValueError.__new__"=true)(hg:∃nm q N bs sn sub ab col k0 k1 k2 k3 k5,K.lookup G=some (excClassObj nm q G N bs vmB true sn sub ab col none k0 k1 k2 k3 k5 "ValueError.__new__")) :
  ∀h:Heap,K.In h->OwnTail h vmB (.ref G::vmB):=λh X=>by
 obtain⟨bm,N,nm,qn,bs,hd,sn,sub,ab,col,dd,k0,k1,k2,k3,k5,mN,h1,h2,h3,_⟩:=kU q h X;exact .own h1 h2 h3 .base
noncomputable def wd(C:Addr):TE:=λσ H Q=>∀e,H e=none->Q (.ref e) (upd H e (.ext (XAt e C none true)))
section
variable {X:Cx}{C:Addr}{x:Str}{p pos:Pos}
def kW(z:X0 X.K C)(kp:we X.K (.ref C)=true)(hm:X.mg x=some (.ref C))(hg:Gl X x:=by rfl)(hdb:(x == ("__debug__":Str))=false:=by decide):PE X (.Call (.Name x p) [] [] pos) (wd C):=by
 intro pins s σ H Q I h;refine AC (eR I hg hm ?_ hdb);refine PySem.W.callWith_K0 I.kIn kp ?_;obtain⟨bm,N,nm,qn,bs,hd,sn,sub,ab,col,dd,k0,k1,k2,k3,k5,mN,h1,h2,h3,h4⟩:=z s.heap I.kIn;have I0:=I;obtain⟨hh,g,d,tk,os⟩:=s;refine wpAny_call_exc_subT PySem.F.excBase_ValueError h4 h1 h2 h3 (λh' e made=>?_) (by show 0<=sizeLine;exact AK _);obtain⟨tt,m1,m2,m3⟩:=made.there;have new:XAt e C none true h':=⟨_,_,m1,rfl,rfl,rfl,(by show 1<6;decide),λ_=>rfl⟩
 exact⟨V.ref e,_,I0.news (t':=tk) made.keeps made.new new.ok,rfl,h e (I0.hok.not made.new)⟩
noncomputable def x8(K:b_)(D:Addr):List V->Hp->VK->Prop:=λxs H Q=>∃a C G dd new b,xs=[.ref a,.ref D]/\H a=some (.ext (XAt a C dd new))/\XC K C G/\zL K (.ref C) (.ref D)=some b/\Q (.bl b) H
def qI{D:Addr}:a6 X (.builtin "isinstance") (x8 X.K D):=by
 intro pins s σ H xs us Q I r h;obtain⟨a,C,G,dd,new,b,rfl,ea,c,e,q⟩:=h;obtain⟨u,w',rfl,rx,ry⟩:=nh r;cases (show u=k_ a from rx);cases (show w'=k_ D from ry);have ok:=(show aO X.prog X.w H s.heap a (.ext (XAt a C dd new)) from I.hok a _ ea)
 exact zP (lQ c) I.kIn ok.1 e (λz=>nomatch z) λtk=>⟨.bl b,H,I.tok _,rfl,q⟩
noncomputable def tU(K:b_):List V->Hp->VK->Prop:=λxs H Q=>∃a C G dd new n b,xs=[.ref a,.ty n]/\H a=some (.ext (XAt a C dd new))/\XC K C G/\zL K (.ref C) (.type n)=some b/\Q (.bl b) H
def oI:a6 X (.builtin "isinstance") (tU X.K):=by
 intro pins s σ H xs us Q I r h;obtain⟨a,C,G,dd,new,n,b,rfl,ea,c,e,q⟩:=h;obtain⟨u,w',rfl,rx,ry⟩:=nh r;cases (show u=k_ a from rx);cases (show w'=Aq n from ry);have ok:=(show aO X.prog X.w H s.heap a (.ext (XAt a C dd new)) from I.hok a _ ea)
 exact zP (lQ c) I.kIn ok.1 e (λz=>nomatch z) λtk=>⟨.bl b,H,I.tok _,rfl,q⟩
end
noncomputable def XCl(K:b_)(c:Str):Prop:=∃dd cd sl,K.lookup (az K c)=some ⟨.type "type",dd,.cls cd,sl⟩/\cd.name=c
structure tV (K:b_) (cs:List Str):Prop where
 g:XCl K "GlueError"
 n:∀c∈cs,XCl K c
 c:∀c∈cs,XC K (az K c) (az K "GlueError")
section
variable {K:b_}{C G D:Addr}{c d:Str}
def XCl.ne(h1:XCl K c)(h2:XCl K d)(n:c≠d):az K c≠az K d:=λe=>by
 obtain⟨_,cd,_,l1,n1⟩:=h1;obtain⟨_,cd2,_,l2,n2⟩:=h2;rw [e,l2] at l1;cases l1;exact n (n1.symm.trans n2)
def oJ(x:XC K C G)(base:Value):C6 K (.ref C) base=some ((k_ C::.ref G::vmB).contains base):=by
 obtain⟨nm,q,N,bs,sn,sub,ab,col,k0,k1,k2,k3,k5,e⟩:=x.obj;show C4 K C base=_;unfold C4 BH;rw [e];rfl
def tW(x:XC K C G)(y:∃dd cd sl,K.lookup D=some ⟨.type "type",dd,.cls cd,sl⟩):zL K (.ref C) (.ref D)=some (decide (C=D) || decide (D=G)):=by
 obtain⟨dd,cd,sl,e⟩:=y;unfold zL
 by_cases h:C=D
 .subst h;simp
 .rw [if_neg (λz=>h (BG (beq_iff_eq.mp z)))];unfold PySem.W.kitCls
  have e1:((BH K D).isSome && Be K (.ref D) == some (.type "type"))=true:=by
   have e2:BH K D=some cd:=by unfold BH;rw [e]
   have e3:Be K (.ref D)=some (.type "type"):=by show (K.lookup D).map (·.cls)=_;rw [e];rfl
   rw [e2,e3];rfl
  show (if ((BH K D).isSome && Be K (.ref D) == some (.type "type"))=true then C6 K (.ref C) (.ref D) else none)=_;rw [if_pos e1,oJ x,decide_eq_false h,C5];congr 1;rw [contains_cons,contains_cons];have t1:(k_ D == k_ C)=false:=beq_eq_false_iff_ne.mpr λz=>h (BG z).symm;have t2:vmB.contains (k_ D)=false:=rfl;rw [t1,t2,C5,Cn]
  by_cases g:D=G
  .subst g;simp
  .rw [decide_eq_false g];exact beq_eq_false_iff_ne.mpr λz=>g (BG z)
def tX(x:XC K C G):zL K (.ref C) (.type "ValueError")=some true:=by
 unfold zL;rw [if_neg (by intro z;cases beq_iff_eq.mp z)];unfold PySem.W.kitCls;show (if PySem.W.kitMeta "ValueError"=true then C6 K (.ref C) (.type "ValueError") else none)=_;rw [if_pos (by decide +kernel),oJ x];rfl
end
noncomputable def oK(c d:Str):Bool:=decide (c=d) || decide (d="GlueError")
def tY{K:b_}{cs:List Str}(X:tV K cs){c d:Str}(hc:c∈cs)(hd:d∈cs\/d="GlueError"):zL K (.ref (az K c)) (.ref (az K d))=some (oK c d):=by
 have yd:XCl K d:=hd.elim (X.n d) λe=>by rw [e];exact X.g
 obtain⟨dd,cd,sl,e1,e2⟩:=id yd;rw [tW (X.c c hc) ⟨dd,cd,sl,e1⟩];unfold oK
 congr 2
 .by_cases h:c=d
  .subst h;rw [decide_eq_true rfl,decide_eq_true rfl]
  .rw [decide_eq_false h,decide_eq_false ((X.n c hc).ne yd h)]
 .by_cases h:d="GlueError"
  .subst h;rw [decide_eq_true rfl,decide_eq_true rfl]
  .rw [decide_eq_false h,decide_eq_false (yd.ne X.g h)]
section
variable {K:b_}{ta:TA}{te:TE}{pa:PTA}{pe:PA1}{cs:List Str}
def FVc.exc{O:Addr->Prop}{H:Hp}{v:V}{c:Str}{ns:List Str}{ds:List D}(h:FVc K O H v (.exc c ns ds)):FV K O H v (.exc c ns ds):=h.fv nofun nofun
noncomputable def x9(c:Str):PTE:=λρ Q=>Q (.dat (.exc c [] [])) ρ
noncomputable def jP(cs:List Str)(d:Str)(pa:PA1):PTE:=λρ Q=>pa ρ λx ρ1=>match cont ρ1 x with
 | some (.exc c ns ds)=>cs.contains c=true/\Q (.dat (.bl (oK c d))) ρ1
 | _=>False
def bJ{d:Str}(X:tV K cs)(hd:d∈cs\/d="GlueError")(h:LA1 K te pe):LE K (tCB (x8 K (az K d)) (bA te (bA (tC (.ref (az K d))) iD))) (jP cs d pe):=λA ρ σ H Q Q' R q k=>h A ρ σ H _ _ R q λv H1 a ρ1 q1 f1 R1 o1=>by
 split at q1
 .rename_i c ns ds e;obtain⟨hc,q1⟩:=q1;have hc:c∈cs:=j_.mp hc;have ek:=tY X hc hd
  cases (R1.cont o1 e).exc with
  | exc0 n1 e1=>exact⟨_,_,_,_,_,_,rfl,e1,X.c c hc,ek,k _ H1 _ ρ1 q1 f1 ⟨R1,.bl _⟩⟩
  | exc1 n1 n2 e1 e2 m f=>exact⟨_,_,_,_,_,_,rfl,e1,X.c c hc,ek,k _ H1 _ ρ1 q1 f1 ⟨R1,.bl _⟩⟩
 .exact q1.elim
noncomputable def yV(cs:List Str)(pa:PA1):PTE:=λρ Q=>pa ρ λx ρ1=>match cont ρ1 x with
 | some (.exc c ns ds)=>cs.contains c=true/\Q (.dat (.bl true)) ρ1
 | _=>False
def wf(X:tV K cs)(h:LA1 K te pe):LE K (tCB (tU K) (bA te (bA (tC (.ty "ValueError")) iD))) (yV cs pe):=λA ρ σ H Q Q' R q k=>h A ρ σ H _ _ R q λv H1 a ρ1 q1 f1 R1 o1=>by
 split at q1
 .rename_i c ns ds e;obtain⟨hc,q1⟩:=q1;have hc:c∈cs:=j_.mp hc;have ek:=tX (X.c c hc)
  cases (R1.cont o1 e).exc with
  | exc0 n1 e1=>exact⟨_,_,_,_,_,_,_,rfl,e1,X.c c hc,ek,k _ H1 _ ρ1 q1 f1 ⟨R1,.bl _⟩⟩
  | exc1 n1 n2 e1 e2 m f=>exact⟨_,_,_,_,_,_,_,rfl,e1,X.c c hc,ek,k _ H1 _ ρ1 q1 f1 ⟨R1,.bl _⟩⟩
 .exact q1.elim
end
section
variable {X:Cx}
def cZ(K:b_)(e:X.K=K){D:Addr}:a6 X (.builtin "isinstance") (x8 K D):=by subst e;exact qI
def ya(K:b_)(e:X.K=K):a6 X (.builtin "isinstance") (tU K):=by subst e;exact oI
def a9{x:Str}{C:Addr}{p:Pos}(hm:X.mg x=some (.ref C))(hg:Gl X x:=by rfl)(hdb:(x == ("__debug__":Str))=false:=by decide):PE X (.Name x p) (tC (.ref C)):=by
 intro pins s σ H Q I h;exact eR I hg hm ⟨.ref C,H,I,rfl,h⟩ hdb
end
section
variable {P:m_}{w:World}{K:b_}{mg:Str->Option Value}{base:Heap}{x qual nm:Str}{C G fI:Addr}{st:Stmt}{fd:Ag}{N ps:List Str}
def cr(F:Fun K "__init__" qual st fI fd)(S:aA N ps (ag st))(hl:ps.length=2)
  (hb:∀(kV doc pm:Value) (an:Option Addr) (cdv ct:Value) (us:List Value),us.length=ps.length->bindArgs (zO "__init__" qual (bq st) (aL st) (ag st) .none kV doc pm an cdv ct) ⟨us,[]⟩=pure (ps.zip us))
  (hp:∀(cdv:Value) (A:v_) (outer:List Env) (s:c_) (H:Hp) (E:XK),PSs (im CX0 P w K mg base N qual (ag st) fI cdv A outer s H E).nox (aL st) (tR K (dA 0) (dA 1) nm))
  (m:XM K C G fI) (na:l_ K (.ref C) nm=some none) (hm:mg x=some (.ref C)):pZ P w K mg base 1 C x nm:=by
 refine⟨G,fI,fd,ps,F.ok (k:=0) S (λvs H Q E h=>?_) (λcdv A outer s H vs Q E hr h=>⟨_,hp cdv A outer s H E,?_⟩),F.binds hb,m,na,hm⟩
 .obtain⟨a,C,G,new,v,rfl,_⟩:=h;exact hl.symm
 .obtain⟨a,C,G,new,v,rfl,ea,c,n,q⟩:=h;exact⟨v,rfl,.ref a,rfl,a,C,G,new,rfl,ea,c,n,λdx hdx=>q dx hdx⟩
end
section
variable {X:Cx}{e:Expr}{f:Str}{pos:Pos}{ta:TE}
def bN(K:b_)(ek:X.K=K){o value:Expr}{pos':Pos}{tv:TE}(ha:PE X o ta)(hv:PE X value tv)(hs:swapsWith value (some (.Attribute o f pos')) pos.line X.env=pure false):PS X (.Assign [.Attribute o f pos'] value pos) (tR K ta tv f):=by subst ek;exact tS ha hv hs
end
noncomputable def p3(h:Heap)(e T:Addr)(fl:Value):Prop:=∃oe vs oT ts,h.get? e=some oe/\oe.data=.fields vs/\vs[1]?=some (.ref T)/\T≠e/\h.get? T=some oT/\oT.data=.fields ts/\ts[3]?=some fl
structure Moved (fs:List Addr) (e:Addr) (T0:Option Addr) (h h':Heap):Prop where
 kp:∀b o,b∉fs->b≠e->T0≠some b->h.get? b=some o->h'.get? b=some o
 sl:∀b o,b∈fs->h.get? b=some o->∃sl,h'.get? b=some { o with slots:=sl }
 ex:∀oe vs,h.get? e=some oe->oe.data=.fields vs->∃oe' vs',h'.get? e=some oe'/\oe'.cls=oe.cls/\oe'.dict=oe.dict/\oe'.data=.fields vs'/\vs'.size=vs.size
section
variable {M:Model}{A:v_}{E:Value->c_->Prop}{s:c_}{base:Heap}{env:Env}{outer:List Env}{L e T0:Addr}{oe:Obj}{vs:Array Value}
def oM{head:Value}{hadNext:Bool}{Q:Unit->c_->Prop}(hfr:A.frames=some (env::outer))(hl:s.heap.FunFrames base (env::outer))(hf:env.frame=some L)
  (he:s.heap.get? e=some oe) (hd:oe.data=.fields vs) (hsz:1<vs.size)
  (h:∀h' T,s.heap.objs.size<=T->Moved (frs (env::outer)) e none s.heap h'->p3 h' e T (rawInt L)->Q () { s with heap:=h' }) :
  wpAny M A (do let a <- frameOf env;let pl <- entryPlaceOf L hadNext;let b <- EntryCells.newEntry head a .none (rawInt L) .none pl;setField (.ref e) 1 b) Q E s:=by
 have nf:e∉frs (env::outer):=λhm=>by
  obtain⟨_,o,ho,hn⟩:=hl.mem hm;rw [he] at ho;cases ho;exact hn vs hd
 refine cy (wpAny_frameOf_fun hfr hl hf λg1 hs1=>?_);refine cy (wpAny_entryPlaceOf λpl hpl=>?_);have e1:g1.get? e=some oe:=(hs1.2.1 e nf).trans he;unfold EntryCells.newEntry newFields;refine cy (Ap ?_ (hpl.sizeOk5 _ _ _ _ _))
 have hts:∃ts:Array Value,([head,.ref L,.none,rawInt L,.none]++(if pl.isEmpty then pf 6 Ah else pl)).toArray=ts/\ts[3]?=some (rawInt L):=⟨_,rfl,by
  rcases hpl with rfl|⟨_,_,_,_,_,_,_,rfl⟩ <;> simp⟩
 obtain⟨ts,ets,t3⟩:=hts;rw [ets];generalize hg2:g1.push { cls:=.type "traceback",dict:=none,data:=.fields ts }=g2;have sz1:g1.objs.size=s.heap.objs.size:=hs1.1;have k2:∀b o,g1.get? b=some o->g2.get? b=some o:=λb o q=>by rw [<- hg2];exact e_ _ q
 have gT:g2.get? g1.objs.size=some { cls:=.type "traceback",dict:=none,data:=.fields ts }:=by rw [<- hg2];exact q_ _ rfl
 refine wpAny_setField (k2 _ _ e1) hd hsz ?_;have ne:g1.objs.size≠e:=CQ (h_ e1);generalize hg3:g2.update e (Cr (·.setIfInBounds 1 (k_ g1.objs.size)))=g3;have d3:=Obj.data_mapFields hd (·.setIfInBounds 1 (k_ g1.objs.size));have e3:g3.get? e=some (oe.mapFields (·.setIfInBounds 1 (k_ g1.objs.size))):=by rw [<- hg3];exact A6 _ (k2 _ _ e1) (Obj.isFreed_of_fields d3)
 have k3:∀b o,b≠e->g2.get? b=some o->g3.get? b=some o:=λb o hb q=>by rw [<- hg3];exact (Av _ _ _ _ hb).trans q
 refine h g3 g1.objs.size (by rw [sz1];exact o_ _) ⟨λb o hb hbe _ q=>k3 b o hbe (k2 b o ((hs1.2.1 b hb).trans q)),λb o hb q=>?_,λoe' vs' q1 q2=>?_⟩ ⟨_,_,_,ts,e3,d3,by simp [hsz],ne,k3 _ _ ne gT,rfl,t3⟩
 .obtain⟨sl,q'⟩:=hs1.2.2 b o q;exact⟨sl,k3 b _ (λz=>nf (by rw [<- z];exact hb)) (k2 b _ q')⟩
 .rw [he] at q1;cases q1;rw [hd] at q2;cases q2;obtain⟨c,dc,dt,sl⟩:=oe;cases hd;exact⟨_,_,e3,rfl,rfl,d3,by simp⟩
def tZ{Q:Unit->c_->Prop}(hfr:A.frames=some (env::outer))(hl:s.heap.FunFrames base (env::outer))(hf:env.frame=some L)
  (he:s.heap.get? e=some oe) (hd:oe.data=.fields vs) (h1:vs[1]?=some .none)
  (h:∀h' T,s.heap.objs.size<=T->Moved (frs (env::outer)) e none s.heap h'->p3 h' e T (rawInt L)->Q () { s with heap:=h' }):wpAny M A (noteFrame (.ref e) env) Q E s:=by
 unfold noteFrame;simp only [hf];refine cy (A_ he hd h1 ?_);rw [if_neg (by decide)];exact oM hfr hl hf he hd (AE.mp h1).1 h
def t5{Q:Unit->c_->Prop}(hfr:A.frames=some (env::outer))(hl:s.heap.FunFrames base (env::outer))(hf:env.frame=some L)(fly:p3 s.heap e T0 .none)(nT:T0∉frs (env::outer))
  (h:∀h' T,s.heap.objs.size<=T->Moved (frs (env::outer)) e (some T0) s.heap h'->p3 h' e T (rawInt L)->Q () { s with heap:=h' }):wpAny M A (noteFrame (.ref e) env) Q E s:=by
 obtain⟨oe,vs,oT,ts,he,hd,h1,ne,hT,hdT,h3⟩:=fly;have hsz:1<vs.size:=(AE.mp h1).1;unfold noteFrame;simp only [hf];refine cy (A_ he hd h1 ?_);rw [if_pos (show (k_ T0 != Ah)=true by simp)];refine cy (A_ hT hdT h3 ?_);rw [if_neg (show ¬ ((Ah == rawInt L)=true) by simp [rawInt])];refine cy (wpAny_setField hT hdT (AE.mp h3).1 ?_)
 have ot:∀b,b≠T0->(s.heap.update T0 (Cr (·.setIfInBounds 3 Ah))).get? b=s.heap.get? b:=λb hb=>Av _ _ _ _ hb;have sz:(s.heap.update T0 (Cr (·.setIfInBounds 3 Ah))).objs.size=s.heap.objs.size:=by simp [Heap.update]
 have hl2:(s.heap.update T0 (Cr (·.setIfInBounds 3 Ah))).FunFrames base (env::outer):=hl.of_keeps λb o q nf=>⟨o,(ot b (λz=>by rw [z,hT] at q;cases q;exact nf ts hdT)).trans q,rfl⟩
 refine oM hfr hl2 hf ((ot e (A3 ne)).trans he) hd hsz λh' T hT' mv fly=>h h' T (by rw [<- sz];exact hT') ⟨λb o h1 h2 h3 q=>mv.kp b o h1 h2 (by simp) ((ot b (λz=>h3 (by rw [z]))).trans q),λb o h1 q=>mv.sl b o h1 ((ot b (λz=>nT (by rw [<- z];exact h1))).trans q),λoe' vs' q1 q2=>mv.ex oe' vs' ((ot e (A3 ne)).trans q1) q2⟩ fly
def kX{fl:Value}{T:Addr}{Q:Unit->c_->Prop}(fly:p3 s.heap e T fl)(h:∀h',(∀b o,b≠T->s.heap.get? b=some o->h'.get? b=some o)->p3 h' e T .none->Q () { s with heap:=h' }):wpAny M A (setFlight (.ref e) none) Q E s:=by
 obtain⟨oe,vs,oT,ts,he,hd,h1,ne,hT,hdT,h3⟩:=fly;unfold setFlight;refine cy (A_ he hd h1 ?_);rw [if_pos (show (k_ T != Ah)=true by simp)];have hs3:3<ts.size:=(AE.mp h3).1;refine wpAny_setField hT hdT hs3 (h _ (λb o hb q=>(Av _ _ _ _ hb).trans q) ?_);have dT:=Obj.data_mapFields hdT (·.setIfInBounds 3 ((none:Option Addr).elim Ah λf=>rawInt f))
 exact⟨oe,vs,_,_,(Av _ _ _ _ (A3 ne)).trans he,hd,h1,ne,A6 _ hT (Obj.isFreed_of_fields dT),dT,by simp [hs3]⟩
end
noncomputable def CXe(P:m_)(w:World):CXT:=λouter H s E e s'=>∃(ea C:Addr) (dd:Option Addr) (H':Hp) (T:Addr),e=.ref ea/\s'.os=s.os/\BS s'.gens/\Un (frs outer) [] H H' s.heap s'.heap/\HOk P w H' s'.heap /\
 H' ea=some (.ext (XAt ea C dd false))/\p3 s'.heap ea T .none/\s.heap.get? T=none/\H' T=none/\E (.ref ea) dd H'
def oN{l:List Env}{h base:Heap}(hl:h.FunFrames base l){b:Addr}(hb:b∈frs l):∃o,h.get? b=some o:=by
 obtain⟨_,o,ho,_⟩:=hl.mem hb;exact⟨o,ho⟩
def XAt.moved{fs:List Addr}{ea C:Addr}{dd:Option Addr}{new:Bool}{T0:Option Addr}{h h':Heap}(x:XAt ea C dd new h)(mv:Moved fs ea T0 h h'):XAt ea C dd false h':=by
 obtain⟨o,vs,h1,h2,h3,h4,h5,_⟩:=x;obtain⟨o',vs',q1,q2,q3,q4,q5⟩:=mv.ex o vs h1 h4;exact⟨o',vs',q1,q2.trans h2,q3.trans h3,q4,by rw [q5];exact h5,nofun⟩
def HOk.moved{P:m_}{w:World}{H H':Hp}{h h1 h2:Heap}{fs:List Addr}{ea C T:Addr}{dd:Option Addr}{new:Bool}{T0:Option Addr}(ok:HOk P w H h)(hea:H ea=some (.ext (XAt ea C dd new)))(mv:Moved fs ea T0 h h1)(hT:h.objs.size<=T)(un:∀b o,b≠T->h1.get? b=some o->h2.get? b=some o)
  (hfs:∀b∈fs,H b=none) (hT0:∀b,T0=some b->H b=none) (fly:p3 h2 ea T .none) (hH:H'=upd H ea (.ext (XAt ea C dd false))):HOk P w H' h2:=λb o eb=>by
 subst hH;have ne:∀c u,H c=some u->c≠T:=λc u q=>zI (t_ (ok.lt q) hT);have kp:∀c u,c≠ea->H c=some u->∀v,h.get? c=some v->h2.get? c=some v:=λc u hc q v z=>un c v (ne c u q) (mv.kp c v (λm=>by rw [hfs c m] at q;cases q) hc (λe=>by rw [hT0 c e] at q;cases q) z)
 by_cases hb:b=ea
 .subst hb;rw [ax] at eb;cases eb;have x:XAt b C dd new h:=(ok b _ hea).1;obtain⟨o',vs',q1,q2,q3,q4,q5,q6⟩:=x.moved mv;exact XAt.ok ⟨o',vs',un b o' (ne b _ hea) q1,q2,q3,q4,q5,q6⟩
 .rw [ai hb] at eb
  refine (ok b o eb).stay (λc v hc q=>?_) (λc q=>?_) λc xs q=>?_
  .rcases hc with rfl|hc
   .exact kp c o hb eb v q
   .exact kp c _ (λz=>by rw [z,hea] at hc;cases hc) hc v q
  .rw [ai (λz=>by rw [z,hea] at q;cases q)];exact q
  .rw [ai (λz=>by rw [z,hea] at q;cases q)];exact q
section
variable {P:m_}{w:World}{K:b_}{mg:Str->Option Value}{base:Heap}{N:List Str}{qual:Str}{scope:Scope}{f:Addr}{cd:Value}{A:v_}{outer:List Env}{s0:c_}{H0:Hp}{E:XK}{pins:List (Addr×Obj)}{σ:St}{H:Hp}{s:c_}
def oO{ea C:Addr}{dd:Option Addr}(I:Inv (im (CXe P w) P w K mg base N qual scope f cd A outer s0 H0 E) pins σ H s)(hea:H ea=some (.ext (XAt ea C dd true)))(hE:E (.ref ea) dd (upd H ea (.ext (XAt ea C dd false)))) :
  (im (CXe P w) P w K mg base N qual scope f cd A outer s0 H0 E).xe (.ref ea) s:=by
 obtain⟨⟨o,vs,h1,h2,h3,h4,h5,h6⟩,_,_⟩:=(show aO P w H s.heap ea (.ext (XAt ea C dd true)) from I.hok ea _ hea)
 show wpAny (model P w) _ (leaving _ (.ref ea)) _ _ s;unfold leaving;refine cy (tZ I.ok.frames I.stack rfl h1 h4 (h6 rfl) λg1 T hT mv fly=>?_);refine kX fly λg2 un fly2=>?_;have hf2:∀b∈frs (envOfC qual scope s0.heap.objs.size f cd::outer),H b=none:=I.stkFree;have hok:=I.hok.moved hea mv hT un hf2 (λb e=>nomatch e) fly2 rfl;have old:∀b o,s0.heap.get? b=some o->b≠s0.heap.objs.size:=λb o q=>zI (h_ q)
 have bT:∀b o,s.heap.get? b=some o->b≠T:=λb o q=>zI (t_ (h_ q) hT);have nea:∀b,H b=none->b≠ea:=λb n z=>by rw [z,hea] at n;cases n
 have sub:∀b,b∈frs outer->b∈frs (envOfC qual scope s0.heap.objs.size f cd::outer):=λb hb=>w_ _ hb
 have nsub:∀b o,s0.heap.get? b=some o->b∉frs outer->b∉frs (envOfC qual scope s0.heap.objs.size f cd::outer):=λb o q hb z=>by
  rcases mem_cons.mp (show b∈s0.heap.objs.size::frs outer from z) with z|z
  .exact old b o q z
  .exact hb z
 have un0:Un (frs outer) [] H0 (upd H ea (.ext (XAt ea C dd false))) s0.heap g2:=by
  refine⟨λb ob q n hb hx=>?_,λb ob q n hb hx=>?_,λb ob q n hx=>?_,λb ob q hx=>?_,λb xs q=>?_,λb ob u q=>?_,λb ps q=>?_⟩
  .have q1:=I.base.keep b ob q n hb hx;have n1:=I.base.free b ob q n hx;exact un b ob (bT b ob q1) (mv.kp b ob (nsub b ob q hb) (nea b n1) (by simp) q1)
  .obtain⟨sl,q1⟩:=I.base.slot b ob q n hb hx;obtain⟨sl2,q2⟩:=mv.sl b _ (sub b hb) q1;exact⟨sl2,un b _ (bT b _ q1) q2⟩
  .have n1:=I.base.free b ob q n hx;rw [ai (nea b n1)];exact n1
  .obtain⟨o1,q1⟩:=I.base.there b ob q hx
   by_cases hbe:b=ea
   .subst hbe;obtain⟨o2,vs2,q2,_⟩:=mv.ex o vs h1 h4;exact⟨o2,un b o2 (bT b _ q1) q2⟩
   .by_cases hb:b∈frs (envOfC qual scope s0.heap.objs.size f cd::outer)
    .obtain⟨sl2,q2⟩:=mv.sl b _ hb q1;exact⟨_,un b _ (bT b _ q1) q2⟩
    .exact⟨o1,un b o1 (bT b _ q1) (mv.kp b o1 hb hbe (by simp) q1)⟩
  .have q1:=I.base.tups b xs q;rw [ai (λz=>by rw [z,hea] at q1;cases q1)];exact q1
  .have q1:=I.base.frzs b ob u q;rw [ai (λz=>by rw [z,hea] at q1;cases q1)];exact q1
  .obtain⟨m,q1⟩:=I.base.tbls b ps q;exact⟨m,by rw [ai (λz=>by rw [z,hea] at q1;cases q1)];exact q1⟩
 refine⟨ea,C,dd,_,T,rfl,I.os,I.bare,un0,hok,ax,fly2,?_,?_,hE⟩
 .cases q:s0.heap.get? T with
  | none=>rfl
  | some ob =>
   obtain⟨o1,q1⟩:=I.base.there T ob q (show T∉([]:List Addr) by simp);exact absurd rfl (bT T o1 q1)
 .rw [ai (λz=>by
   have:=I.hok.lt hea;rw [<- z] at this;exact absurd (t_ this hT) (AW _))]
  exact I.hok.fresh hT
end
section
variable {prog:m_}{w:World}{A:v_}{E:Value->c_->Prop}{K:b_}{env:Env}
def t6{Q:Flow->c_->Prop}{x:Sem Value}{s:c_}(hh:A.handled=none)
  (hx:wpAny (model prog w) A x (λv s₁=>∃ea C G dd,v=.ref ea/\K.In s₁.heap/\XC K C G/\XAt ea C dd true s₁.heap/\E (.ref ea) s₁) E s):wpAny (model prog w) A (raiseStmt env (some x) none) Q E s:=by
 unfold raiseStmt;refine cy (zG hx (λv s1 h1=>?_) λ_ _ z=>z);obtain⟨ea,C,G,dd,rfl,X,c,⟨o,vs,q1,q2,q3,q4,q5,q6⟩,hE⟩:=h1;obtain⟨nm,q,N,bs,sn,sub,ab,col,k0,k1,k2,k3,k5,e⟩:=c.obj;have hC:=X _ _ e;obtain⟨hp,g,d,tk,os⟩:=s1;have own:(k_ C::.ref G::vmB).contains (.type "BaseException")=true:=rfl;have qn:=q6 rfl
 repeat (first
  | (with_reducible refine zZ q1 ?_;first | rw [q2] | rw [q4] | skip)
  | with_reducible refine zZ hC ?_
  | (with_reducible refine Aw hC ?_;rw [own])
  | with_reducible refine A_ q1 q4 qn ?_
  | wp_step)
 exact wpAny_raiseNew_none hh hE
end
noncomputable def RX(X:Cx)(J:St->XK):Prop:=∀(pins:List (Addr×Obj)) (σ:St) (H:Hp) (s:c_) (ea C:Addr) (dd:Option Addr),Inv X pins σ H s->H ea=some (.ext (XAt ea C dd true))->J σ (.ref ea) dd (upd H ea (.ext (XAt ea C dd false)))->X.xe (.ref ea) s
noncomputable def r8(K:b_)(te:TE)(J:St->XK):TS:=λD σ H=>te σ H λv H1=>∃ea C G dd,v=.ref ea/\H1 ea=some (.ext (XAt ea C dd true))/\XC K C G/\J σ (.ref ea) dd (upd H1 ea (.ext (XAt ea C dd false)))
section
variable {X:Cx}{J:St->XK}{x:Expr}{pos:Pos}{te:TE}
def iX(K:b_)(ek:X.K=K)(hc:X.calm=true)(hx:RX X J)(he:PE X x te):PS X (.Raise (some x) none pos) (r8 K te J):=by
 subst ek;intro pins s σ H D I h
 have key:wpAny (model X.prog X.w) X.A (raiseStmt X.env (some (do let v <- eval x X.env;standAt pos;pure v)) none) (SP X pins D) X.xe s:=by
  refine t6 (K:=X.K) (I.ok.hd hc) (cy (zG (he pins s σ H _ I h) (λu s1 ⟨v,H1,I1,rv,ea,C,G,dd,ev,hea,c,hj⟩=>cy (Al (f_ ?_))) λ_ _ z=>z));subst ev;obtain rfl:u=k_ ea:=rv;have ok:=(show aO X.prog X.w H1 s1.heap ea (.ext (XAt ea C dd true)) from I1.hok ea _ hea)
  exact⟨ea,C,G,dd,rfl,I1.kIn,c,ok.1,hx pins σ H1 s1 ea C dd I1 hea hj⟩
 rw [arm_exec_Raise]
 first
  | exact cy (Al key)
  | (simp only [evalOpt,Option.map];exact cy (Al key))
  | (show wpAny _ _ (do standAt pos;raiseStmt X.env (some (do let v <- eval x X.env;standAt pos;pure v)) none) _ _ s;exact cy (Al key))
def oQ{P:m_}{w:World}{K:b_}{mg:Str->Option Value}{base:Heap}{N:List Str}{qual:Str}{scope:Scope}{f:Addr}{cd:Value}{A:v_}{outer:List Env}{s0:c_}{H0:Hp}{E:XK} :
  RX (im (CXe P w) P w K mg base N qual scope f cd A outer s0 H0 E) (λ_=>E):=λpins σ H s ea C dd I hea hj=>oO I hea hj
end
noncomputable def PX(CX:CXT)(X:Cx)(J:St->XK):Prop:=∀(pins:List (Addr×Obj)) (σ:St) (H:Hp) (s:c_) (e:Value) (s':c_),Inv X pins σ H s->CX X.stack H s (J σ) e s'->X.xe e s'
noncomputable def oS(sp:Sp)(J:St->XK)(t:TA):TE:=λσ H Q=>t σ H λvs H1=>sp vs H1 Q (J σ)
structure wg (P:m_) (w:World) (K:b_) (mg:Str->Option Value) (base:Heap) (k:Nat) (x:Str) (ps:List Str) (sp:Sp):Prop where
 ex:∃(f:Addr) (fd:Ag),kz P w K mg base (CXe P w) k f fd ps sp/\iF K fd ps []/\we K (.ref f)=true/\mg x=some (.ref f)
section
variable {X:Cx}{k:Nat}{x:Str}{ps:List Str}{sp:Sp}{p pos:Pos}{e:Expr}{es:List Expr}{t:TA}{J:St->XK}
def oU(C:wg X.prog X.w X.K X.mg X.base k x ps sp)(hr:cP k X.A)(hx:PX (CXe X.prog X.w) X J)(ha:PA X (e::es) t)(hg:Gl X x:=by rfl)(hdb:(x == ("__debug__":Str))=false:=by decide)(hn:nSt e=true:=by rfl)(hp:es.all nSt=true:=by rfl) :
  PE X (.Call (.Name x p) (e::es) [] pos) (oS sp J t):=by
 obtain⟨f,fd,F,hb,hk,hm⟩:=C.ex;intro pins s σ H Q I h;refine AC (eR I hg hm ?_ hdb);refine B6 (h₀:=X.base) I.ok.mod.kin hk (thn (ha pos pins s σ H _ I h) λus s1 ⟨vs,H1,I1,r,q⟩=>⟨I1.kIn,?_⟩) (e7 hn) (eG hp);have hl:us.length=ps.length:=by rw [<- r.length];exact F.len _ _ _ _ q
 refine CC (BU (F.run X.A X.stack s1 H1 ⟨us,[]⟩ us vs Q (J σ) hr I1.env0 ?_ r q) λr s' hq=>?_)
 .have:=hb s1 us I1.kIn (by rw [append_nil];exact hl);rw [append_nil] at this;exact this
 .cases r with
  | error e=>exact hx pins σ H1 s1 e s' I1 hq
  | ok fl =>
   cases fl with
   | ret u=>exact I1.after hq
   | next=>exact zQ hq
   | brk=>exact zQ hq
   | cont=>exact zQ hq
end
section
variable {X:Cx}{pins:List (Addr×Obj)}{σ:St}{H:Hp}{s:c_}
abbrev Cx.mk'(X:Cx)(e:Value):Cx:={ X with A:=X.A.mark (some e),calm:=false }
def Inv.mark(I:Inv X pins σ H s)(e:Value):Inv (X.mk' e) pins σ H s :=
 ⟨⟨I.ok.mod,I.ok.kind,I.ok.glob,I.ok.blt,I.ok.above,I.ok.inj,I.ok.has,I.ok.cab,nofun,I.ok.frames,I.ok.stk,I.ok.exf,I.ok.bs,I.ok.bsz,I.ok.noex,I.ok.exfs,I.ok.funs,I.ok.frf,I.ok.tb⟩,I.os,I.bare,I.base,I.loc,I.cell,I.free,I.freeC,I.pin,I.hok,I.len⟩
def Inv.unmark{e:Value}(I:Inv (X.mk' e) pins σ H s)(hd:X.calm=true->X.A.handled=none):Inv X pins σ H s :=
 ⟨⟨I.ok.mod,I.ok.kind,I.ok.glob,I.ok.blt,I.ok.above,I.ok.inj,I.ok.has,I.ok.cab,hd,I.ok.frames,I.ok.stk,I.ok.exf,I.ok.bs,I.ok.bsz,I.ok.noex,I.ok.exfs,I.ok.funs,I.ok.frf,I.ok.tb⟩,I.os,I.bare,I.base,I.loc,I.cell,I.free,I.freeC,I.pin,I.hok,I.len⟩
def eI{M:Model}{A:v_}{E:Value->c_->Prop}{i:Nat}{x:Str}{pos:Pos}{Q:Unit->c_->Prop}(I:Inv X pins σ H s)(hN:X.N.Nodup)(hi:X.N[i]?=some x)(hk:X.env.scope.names.lookup x=some .local)
  (h:∀s',Inv X pins (σ.set i none) H s'->Q () s'):wpAny M A (do bindName X.env x .none;unbindBehindTheSuite X.env x pos) Q E s:=by
 refine cy (wpAny_bindName (dk I hN hi (.inl hk) (v:=.non) rfl (λs1 I1=>?_) (.inr hk)));have hiσ:i<σ.length:=by rw [I.len];exact (i_.mp hi).1
 obtain⟨m,hn,hl⟩:=id I1.loc;obtain⟨u,ru,lk⟩:=hl i x .non hi (n_ hiσ) (.inl hk)
 have hm:m x=some u:=by
  rcases lk with ⟨_,z⟩|⟨z,_⟩
  .exact z
  .have z':X.env.scope.names.lookup x=some .cell\/X.env.scope.names.lookup x=some .free:=z;rw [hk] at z';rcases z' with z'|z' <;> cases z'
 unfold unbindBehindTheSuite;refine wpAny_onRaise (wpAny_unbindName_local hk hn hm (by rw [I.ok.kind];rfl) λh' u' hn' hs=>?_);have cne:=I1.cne;obtain⟨oL,_,_,hoL,_⟩:=id hn;have big:∀b o,X.s₀.heap.get? b=some o->b≠X.env.locals:=λb o q=>zI (t_ (h_ q) I.ok.above)
 refine h _ ⟨I1.ok,I1.os,I1.bare,⟨λb o q n hb hx=>(hs.2 b (big b o q)).trans (I1.base.keep b o q n hb hx),λb o q n hb hx=>?_,I1.base.free,λb o q hx=>?_,I1.base.tups,I1.base.frzs,I1.base.tbls⟩,⟨_,hn',λj y v' e1 e2 e3=>?_⟩,λy c q=>?_,I1.free,I1.freeC,λp hp=>?_,λb ob q=>?_,by simpa using I.len⟩
 .obtain⟨sl,q1⟩:=I1.base.slot b o q n hb hx;exact⟨sl,(hs.2 b (big b o q)).trans q1⟩
 .obtain⟨o',q1⟩:=I1.base.there b o q hx;exact⟨o',(hs.2 b (big b o q)).trans q1⟩
 .by_cases hj:j=i
  .subst hj;rw [n_ hiσ] at e2;cases e2
  .rw [gV (A3 hj)] at e2;obtain⟨u2,r2,q⟩:=hl j y v' e1 (by rw [gV (A3 hj)];exact e2) e3;refine⟨u2,r2,?_⟩
   rcases q with ⟨k,z⟩|⟨k,c,z1,z2⟩
   .have:y≠x:=λz=>hj (iB hN e1 (z ▸ hi));exact .inl ⟨k,by simp [this,z]⟩
   .exact .inr ⟨k,c,z1,z2.sameBut hs (cne y c z1)⟩
 .obtain⟨w',z⟩:=I1.cell y c q;exact⟨w',z.sameBut hs (cne y c q)⟩
 .obtain⟨q,n,ne,nf,dd⟩:=I1.pin p hp;exact⟨(hs.2 p.1 ne).trans q,n,ne,nf,dd⟩
 .refine (I1.hok b ob q).stay (λc w' hc z=>(hs.2 c ?_).trans z) (λ_ z=>z) λ_ _ z=>z;rintro rfl
  rcases hc with hc|hc
  .rw [<- hc,I1.free] at q;cases q
  .rw [I1.free] at hc;cases hc
end
section
variable {M:Model}{A:v_}{E:Value->c_->Prop}{K:b_}{C G D:Addr}
def oV{h:Heap}{g:Array B3}{d:Drawn}{t:Nat}{os:A7}{ea:Addr}{dd:Option Addr}{new:Bool}{Q:Bool->c_->Prop}(X:K.In h)(c:XC K C G)(x:XAt ea C dd new h)
  (hD:∃nm q N bs bm hd sn sub ab col d0 k0 k1 k2 k3 k5 nw,K.lookup D=some (excClassObj nm q D N bs bm hd sn sub ab col d0 k0 k1 k2 k3 k5 nw)/\(k_ D::bm).contains (.type "BaseException")=true)
  (hq:Q ((k_ C::.ref G::vmB).contains (.ref D)) ⟨h,g,d,t,os⟩):wpAny M A (excMatches (.ref ea) (.ref D)) Q E ⟨h,g,d,t,os⟩:=by
 obtain⟨nm,q,N,bs,sn,sub,ab,col,k0,k1,k2,k3,k5,e⟩:=c.obj;obtain⟨nm',q',N',bs',bm',hd',sn',sub',ab',col',d0',k0',k1',k2',k3',k5',nw',e2,hb⟩:=hD;obtain⟨o,vs,q1,q2,_⟩:=x;have hC:=X _ _ e;have hDo:=X _ _ e2;have f:=tc_notTuple;generalize hbb:(k_ C::.ref G::vmB).contains (.ref D)=b at hq;unfold excMatches
 repeat (first
  | (with_reducible refine zZ q1 ?_;rw [q2])
  | with_reducible refine zZ hDo ?_
  | with_reducible refine zZ hC ?_
  | (with_reducible refine Aw hDo ?_;rw [hb])
  | (with_reducible refine Aw hC ?_;rw [hbb])
  | wp_step)
 cases b <;> (wp_walk;exact hq)
end
structure FTk (X:Cx) (pins:List (Addr×Obj)) (H:Hp) (T:Addr):Prop where
 nt:H T=none
 sz:X.s₀.heap.objs.size<=T
 nl:T≠X.env.locals
 nc:∀x c,X.env.cells.lookup x=some c->c≠T
 np:∀p∈X.pn++pins,p.1≠T
section
variable {X:Cx}{pins:List (Addr×Obj)}{σ:St}{H:Hp}{s:c_}
def zr{M:Model}{Er:Value->c_->Prop}{E1:XK}{e:Value}{s':c_}{Q:Unit->c_->Prop}(hst:X.stack=X.env::X.outer)(hfm:X.env.frame=some X.env.locals)(I:Inv X pins σ H s)(h:CXe X.prog X.w X.stack H s E1 e s')
  (k:∀ea C dd H' T s2,e=.ref ea->Inv X pins σ H' s2->H' ea=some (.ext (XAt ea C dd false))->p3 s2.heap ea T .none->FTk X pins H' T->E1 (.ref ea) dd H'->Q () s2) :
  wpAny M X.A (noteFrame e X.env) (λ_ s1=>wpAny M X.A (setFlight e none) Q Er s1) Er s':=by
 obtain⟨ea,C,dd,H',T0,rfl,os,bare,un1,hok1,hea,fly0,hT0,hT0',hE1⟩:=h;have hf1:∀b∈frs X.stack,H b=none:=I.stkFree;have hss:=I.stack
 have hl:s'.heap.FunFrames X.base X.stack:=by
  have all:∀l:List Env,(∀b∈frs l,b∈frs X.stack)->s.heap.FunFrames X.base l->s'.heap.FunFrames X.base l:=by
   intro l
   induction l with
   | nil=>intro _ _;trivial
   | cons en r ih =>
    intro hs hl;obtain⟨hk,⟨L,o,hf,hn,ho,hd⟩,hr⟩:=hl;have hL:L∈frs (en::r):=by unfold frs;rw [A8,hf];exact mem_cons_self
    obtain⟨sl,q⟩:=un1.slot L o ho (hf1 L (hs L hL)) (hs L hL) (by simp);exact⟨hk,⟨L,_,hf,hn,q,hd⟩,ih (λb hb=>hs b (by unfold frs;rw [A8,hf];exact w_ _ hb)) hr⟩
  exact all _ (λ_ hb=>hb) hss
 have nT0:T0∉frs X.stack:=λz=>by
  obtain⟨o,q⟩:=oN hss z;rw [hT0] at q;cases q
 have hf2:∀b∈frs X.stack,H' b=none:=λb hb=>by
  obtain⟨o,q⟩:=oN hss hb;exact un1.free b o q (hf1 b hb) (by simp)
 have fr:=I.ok.frames;rw [hst] at fr hl nT0 hf2;refine t5 fr hl hfm fly0 nT0 λg1 T hT mv fly=>?_;refine kX fly λg2 un fly2=>?_;have hok:=hok1.moved hea mv hT un hf2 (λb e=>by cases e;exact hT0') fly2 rfl
 have upe:upd H' ea (.ext (XAt ea C dd false))=H':=by
  funext b
  by_cases z:b=ea
  .subst z;rw [ax,hea]
  .rw [ai z]
 rw [upe] at hok;have bT:∀b o,s'.heap.get? b=some o->b≠T:=λb o q=>zI (t_ (h_ q) hT);have bT0:∀b o,s.heap.get? b=some o->some T0≠some b:=λb o q z=>by cases z;rw [hT0] at q;cases q
 have nea:∀b,H' b=none->b≠ea:=λb n z=>by rw [z,hea] at n;cases n
 obtain⟨oe,vs,oT,ts,he1,he2,_⟩:=id fly0
 have u:Un (frs X.stack) [] H H' s.heap g2:=by
  rw [hst] at un1 ⊢
  refine⟨λb ob q n hb hx=>?_,λb ob q n hb hx=>?_,un1.free,λb ob q hx=>?_,un1.tups,un1.frzs,un1.tbls⟩
  .have q2:=un1.keep b ob q n hb hx;exact un b ob (bT b ob q2) (mv.kp b ob hb (nea b (un1.free b ob q n hx)) (bT0 b ob q) q2)
  .obtain⟨sl1,q2⟩:=un1.slot b ob q n hb hx;obtain⟨sl2,q3⟩:=mv.sl b _ hb q2;exact⟨sl2,un b _ (bT b _ q2) q3⟩
  .obtain⟨o2,q2⟩:=un1.there b ob q hx
   by_cases hbe:b=ea
   .subst hbe;obtain⟨o3,vs3,q3,_⟩:=mv.ex oe vs he1 he2;exact⟨o3,un b o3 (bT b _ q2) q3⟩
   .by_cases hb:b∈frs (X.env::X.outer)
    .obtain⟨sl2,q3⟩:=mv.sl b _ hb q2;exact⟨_,un b _ (bT b _ q2) q3⟩
    .exact⟨o2,un b o2 (bT b _ q2) (mv.kp b o2 hb hbe (bT0 b ob q) q2)⟩
 have far:∀b o,s.heap.get? b=some o->b<T:=λb o q=>by
  obtain⟨o2,q2⟩:=un1.there b o q (by simp);exact t_ (h_ q2) hT
 have hL:X.env.locals<T:=by
  obtain⟨m,⟨o,_,_,ho,_⟩,_⟩:=I.loc;exact far _ o ho
 refine k ea C dd H' T { s' with heap:=g2 } rfl (I.call' (s':={ s' with heap:=g2 }) os u hok bare (λb z=>nomatch z)) hea fly2 ⟨hok1.fresh hT,le_of_lt (lt_of_le_of_lt I.ok.above hL),A3 (zI hL),λx c q=>?_,λp hp=>?_⟩ hE1
 .obtain⟨v,o,ho,_⟩:=I.cell x c q;exact zI (far c o ho)
 .exact zI (far _ _ (I.pin p hp).1)
end
abbrev THd:=Addr->Addr->Option Addr->pX->St->Hp->Prop
noncomputable def PH(X:Cx)(hs:List Bm)(th:THd):Prop:=∀(pins:List (Addr×Obj)) (s:c_) (σ:St) (H:Hp) (ea C:Addr) (dd:Option Addr) (T:Addr) (D:pX),Inv X pins σ H s->H ea=some (.ext (XAt ea C dd false))->p3 s.heap ea T .none->FTk X pins H T->th ea C dd D σ H ->
 wpAny (model X.prog X.w) X.A (handleBy (.ref ea) X.env hs) (SP X pins D) X.xe s
noncomputable def hAs(K:b_)(C0:Addr)(i:Nat)(ts:TS)(tr:THd):THd:=λea C dd D σ H=>∃G,XC K C G /\
 ((k_ C::.ref G::vmB).contains (.ref C0)=true->ts { nx:=λσ' H'=>D.nx (σ'.set i none) H',bk:=λσ' H'=>D.bk (σ'.set i none) H',ct:=λσ' H'=>D.ct (σ'.set i none) H',rt:=D.rt } (σ.set i (some (.ref ea))) H) /\
 ((k_ C::.ref G::vmB).contains (.ref C0)=false->tr ea C dd D σ H)
noncomputable def XD(K:b_)(D:Addr):Prop:=∃nm q N bs bm hd sn sub ab col d0 k0 k1 k2 k3 k5 nw,K.lookup D=some (excClassObj nm q D N bs bm hd sn sub ab col d0 k0 k1 k2 k3 k5 nw)/\(k_ D::bm).contains (.type "BaseException")=true
section
variable {X:Cx}{C0:Addr}{cn n:Str}{np pos:Pos}{b0:Stmt}{suite:List Stmt}{rest:List Bm}{i:Nat}{ts:TS}{tr:THd}
def yb(K:b_)(ek:X.K=K)(hx:XD K C0)(hm:X.mg cn=some (.ref C0))(hN:X.N.Nodup)(hi:X.N[i]?=some n)(hk:X.env.scope.names.lookup n=some .local)(hs:∀e,PSs (X.mk' e).nox (b0::suite) ts)(hr:PH X rest tr)
  (hg:Gl X cn:=by rfl) (hdb:(cn == ("__debug__":Str))=false:=by decide):PH X (.ExceptHandler (some (.Name cn np)) (some n) (b0::suite) pos::rest) (hAs K C0 i ts tr):=by
 subst ek;intro pins s σ H ea C dd T D I hea fly ft h;obtain⟨G,c,h1,h2⟩:=h;have xa:XAt ea C dd false s.heap:=(show aO X.prog X.w H s.heap ea (.ext (XAt ea C dd false)) from I.hok ea _ hea).1;refine wpAny_handleBy_cons (codeAny_handlers_test ?_) (by intro z;cases z);refine eR (X:=X.mk' (.ref ea)) (I.mark (.ref ea)) hg hm ?_ hdb;have X2:=I.kIn;have I0:=I;obtain⟨hh,g,d,tk,os⟩:=s;refine oV X2 c xa hx ?_
 cases hb:(k_ C::.ref G::vmB).contains (.ref C0) with
 | false=>exact hr pins _ σ H ea C dd T D I0 hea fly ft (h2 hb)
 | true =>
  refine codeAny_handlers_suite_as ?_;refine kX fly λg2 un fly2=>?_;have I1:Inv X pins σ H { heap:=g2,gens:=g,drawn:=d,toks:=tk,os:=os }:=I0.turned (it:=T) (t':=tk) un ft.nt ft.nl (.inr ft.sz) ft.nc ft.np;refine dk (X:=X) (v:=.ref ea) I1 hN hi (.inl hk) rfl (λs2 I2=>?_) (.inr hk);refine zG (hs (.ref ea) pins s2 _ H _ ((I2.mark (.ref ea)).wish _) (h1 hb)) (λf s3 hf=>?_) λ_ _ z=>zQ z
  have un1:∀{σ' H'},Inv (X.mk' (.ref ea)).nox pins σ' H' s3->Inv X pins σ' H' s3:=λJ=>(Inv.unwish J).unmark I0.ok.hd;show wpAny _ X.A (do bindName X.env n .none;unbindBehindTheSuite X.env n pos) (λ_ s4=>SP X pins D f s4) X.xe s3
  cases f with
  | next =>
   obtain⟨σ',H',J,q⟩:=hf;exact eI (un1 J) hN hi hk λs4 I4=>⟨_,H',I4,q⟩
  | brk =>
   obtain⟨σ',H',J,q⟩:=hf;exact eI (un1 J) hN hi hk λs4 I4=>⟨_,H',I4,q⟩
  | cont =>
   obtain⟨σ',H',J,q⟩:=hf;exact eI (un1 J) hN hi hk λs4 I4=>⟨_,H',I4,q⟩
  | ret u =>
   obtain⟨v,σ',H',J,r,q⟩:=hf;exact eI (un1 J) hN hi hk λs4 I4=>⟨v,_,H',I4,r,q⟩
def wj:PH X [] (λ_ _ _ _ _ _=>False):=λ_ _ _ _ _ _ _ _ _ _ _ _ _ h=>h.elim
end
abbrev Cx.tryb(X:Cx)(pn:List (Addr×Obj))(E:Value->c_->Prop):Cx:={ X with pn:=pn,xe:=E }
noncomputable def yW(tb:(St->XK)->TS)(th:THd):TS:=λD σ H=>∃J:St->XK,tb J D σ H/\∀(σ':St) (ea:Addr) (dd:Option Addr) (H':Hp),J σ' (.ref ea) dd H'->∃C,H' ea=some (.ext (XAt ea C dd false))/\th ea C dd D σ' H'
section
variable {X:Cx}{C0:Addr}{cn n:Str}{np pos:Pos}{b0:Stmt}{suite body:List Stmt}{rest:List Bm}{h0:Bm}{hs:List Bm}{i:Nat}{ts:TS}{tr th:THd}{tb:(St->XK)->TS}
def wk(hst:X.stack=X.env::X.outer)(hfm:X.env.frame=some X.env.locals)
  (hb:∀J pn E,PX (CXe X.prog X.w) (X.tryb pn E) J->PSs (X.tryb pn E) body (tb J)) (hh:PH X (h0::hs) th):PS X (.Try body (h0::hs) [] [] pos) (yW tb th):=by
 intro pins s σ H D I h;obtain⟨J,h1,h2⟩:=h
 have mk:∀{E σ H s},Inv X pins σ H s->Inv (X.tryb (X.pn++pins) E) [] σ H s:=λI =>
  ⟨⟨I.ok.mod,I.ok.kind,I.ok.glob,I.ok.blt,I.ok.above,I.ok.inj,I.ok.has,I.ok.cab,I.ok.hd,I.ok.frames,I.ok.stk,I.ok.exf,I.ok.bs,I.ok.bsz,I.ok.noex,I.ok.exfs,I.ok.funs,I.ok.frf,I.ok.tb⟩,I.os,I.bare,I.base,I.loc,I.cell,I.free,I.freeC,λp hp=>I.pin p (by simpa using hp),I.hok,I.len⟩
 have un:∀{E pins' σ H s},Inv (X.tryb (X.pn++pins) E) pins' σ H s->Inv X pins σ H s:=λ{E pins' σ H s} I =>
  ⟨⟨I.ok.mod,I.ok.kind,I.ok.glob,I.ok.blt,I.ok.above,I.ok.inj,I.ok.has,I.ok.cab,I.ok.hd,I.ok.frames,I.ok.stk,I.ok.exf,I.ok.bs,I.ok.bsz,I.ok.noex,I.ok.exfs,I.ok.funs,I.ok.frf,I.ok.tb⟩,I.os,I.bare,I.base,I.loc,I.cell,I.free,I.freeC,λp hp=>I.pin p (zX pins' hp),I.hok,I.len⟩
 let XE:Value->c_->Prop:=λe s1=>∃σ H s,Inv X pins σ H s/\CXe X.prog X.w X.stack H s (J σ) e s1
 have px:PX (CXe X.prog X.w) (X.tryb (X.pn++pins) XE) J:=λpins' σ' H' s' e s1 I' h=>⟨σ',H',s',un I',h⟩
 refine wpAny_Try_except (zG (hb J _ _ px [] s σ H D (mk I) h1) (λf s1 hf=>?_) λe s1 he=>?_)
 .cases f with
  | next =>
   obtain⟨σ',H',I',q⟩:=hf;rw [arm_execs_nil];exact f_ ⟨σ',H',un I',q⟩
  | brk =>
   obtain⟨σ',H',I',q⟩:=hf;exact⟨σ',H',un I',q⟩
  | cont =>
   obtain⟨σ',H',I',q⟩:=hf;exact⟨σ',H',un I',q⟩
  | ret u =>
   obtain⟨v,σ',H',I',r,q⟩:=hf;exact⟨v,σ',H',un I',r,q⟩
 .obtain⟨σ',H',s',I',cx⟩:=he;refine zr hst hfm I' cx λea C dd H2 T s2 ee I2 hea fly ft hJ=>?_;subst ee;obtain⟨C2,hea2,ht⟩:=h2 σ' ea dd H2 hJ;exact hh pins s2 σ' H2 ea C2 dd T D I2 hea2 fly ft ht
end
noncomputable def XR(K:b_)(O:Addr->Prop)(H:Hp)(ea:Addr)(dd:Option Addr)(d:D):Prop:=∃c ns ds,d=.exc c ns ds/\H ea=some (.ext (XAt ea (az K c) dd false))/\FV K O H (.ref ea) d
def XR.keeps{K:b_}{O O':Addr->Prop}{H H':Hp}{ea:Addr}{dd:Option Addr}{d:D}(k:aF O H O' H')(h:XR K O H ea dd d):XR K O' H' ea dd d:=by
 obtain⟨c,ns,ds,rfl,e,f⟩:=h
 have n:¬ O ea:=by cases f with
  | exc0 n _=>exact n
  | exc1 n _ _ _ _ _=>exact n
 exact⟨c,ns,ds,rfl,(k _ _ n e).2,f.keeps k⟩
noncomputable def LSX(K:b_)(E:D->Prop)(Eo:XK)(fs:List Nat)(ts:TS)(ps:PTS):Prop:=∀(fx:List (Nat×V)) (A R:Addr->Prop) (H0:Hp) (ρ:PSt) (σ:St) (H:Hp) (D:qz) (D':pX),fx.map tj=fs->Rel K A ρ σ H->bC fx R H0 ρ σ H->ps D ρ ->
 (∀ρ' σ' H',D.nx ρ'->Rel K A ρ' σ' H'->bC fx R H0 ρ' σ' H'->D'.nx σ' H') ->
 (∀v p ρ' σ' H',D.rt p ρ'->Out K A ρ' σ' H0 H' p v->bC fx R H0 ρ' σ' H'->D'.rt v H') ->
 (∀ρ' σ' H',D.bk ρ'->Rel K A ρ' σ' H'->bC fx R H0 ρ' σ' H'->D'.bk σ' H') ->
 (∀ρ' σ' H',D.ct ρ'->Rel K A ρ' σ' H'->bC fx R H0 ρ' σ' H'->D'.ct σ' H') ->
 (∀ρ' σ' H' ea dd d,E d->Rel K A ρ' σ' H'->bC fx R H0 ρ' σ' H'->H0 ea=none->XR K (OO A ρ' σ') H' ea dd d->Eo (.ref ea) dd H')->ts D' σ H
def bC.nn{fx:List (Nat×V)}{R:Addr->Prop}{H0 H:Hp}{ρ:PSt}{σ:St}(F:bC fx R H0 ρ σ H){b:Addr}(h:H b=none):H0 b=none:=by
 cases e:H0 b with
 | none=>rfl
 | some o=>exact absurd h (F.dm b (by rw [e];exact nofun))
section
variable {K:b_}{E:D->Prop}{Eo:XK}{fs:List Nat}{ta tb ts:TS}{pa pb ps:PTS}{te:TE}{pe:PTE}{tt:TT}{pt:PTT}{wi:TI}{pi:PTI}{g:TG}{pg:PTG}
def LS.x(h:LS K fs ts ps):LSX K E Eo fs ts ps:=λfx A R H0 ρ σ H D D' hf r F q k1 k2 k3 k4 _=>h fx A R H0 ρ σ H D D' hf r F q k1 k2 k3 k4
def gw(ha:LSX K E Eo fs ta pa)(hb:LSX K E Eo fs tb pb):LSX K E Eo fs (wH ta tb) (gm pa pb):=λfx A R H0 ρ σ H D D' hf r F q k1 k2 k3 k4 k5 =>
 ha fx A R H0 ρ σ H _ _ hf r F q (λρ1 σ1 H1 q1 r1 F1=>hb fx A R H0 ρ1 σ1 H1 _ _ hf r1 F1 q1 k1 k2 k3 k4 k5) k2 k3 k4 k5
def t7(ht:LT K tt pt)(ha:LSX K E Eo fs ta pa)(hb:LSX K E Eo fs tb pb):LSX K E Eo fs (wX tt ta tb) (xO pt pa pb):=λfx A R H0 ρ σ H D D' hf r F q k1 k2 k3 k4 k5=>ht A ρ σ H _ _ r q λc H1 ρ1 q1 f1 r1=>by
 cases c with
 | true=>exact ha fx A R H0 ρ1 σ H1 D D' hf r1 (F.fr f1) q1 k1 k2 k3 k4 k5
 | false=>exact hb fx A R H0 ρ1 σ H1 D D' hf r1 (F.fr f1) q1 k1 k2 k3 k4 k5
def qJ(ht:LT K tt pt)(hb:LSX K E Eo fs tb pb):LSX K E Eo fs (mX tt tb) (oi pt pb):=λfx A R H0 ρ σ H D D' hf r F q k1 k2 k3 k4 k5=>by
 obtain⟨I,⟨m0,i0⟩,turn⟩:=q;refine⟨λm σ' H'=>∃ρ',I m ρ'/\Rel K A ρ' σ' H'/\bC fx R H0 ρ' σ' H',⟨m0,ρ,i0,r,F⟩,λm σ' H' ⟨ρ',iv,r',F'⟩=>?_⟩;refine ht A ρ' σ' H' _ _ r' (turn m ρ' iv) λb H1 ρ1 q1 f1 r1=>?_
 cases b with
 | true =>
  refine⟨λσ'' H''=>∃ρ'' m',m'<m/\I m' ρ''/\Rel K A ρ'' σ'' H''/\bC fx R H0 ρ'' σ'' H'',λσ'' H'' ⟨ρ'',m',h1,h2⟩=>⟨m',h1,ρ'',h2⟩,?_⟩;exact hb fx A R H0 ρ1 σ' H1 _ _ hf r1 (F'.fr f1) q1 (λρ3 σ3 H3 ⟨m',h1,h2⟩ r3 F3=>⟨ρ3,m',h1,h2,r3,F3⟩) k2 k1 (λρ3 σ3 H3 ⟨m',h1,h2⟩ r3 F3=>⟨ρ3,m',h1,h2,r3,F3⟩) k5
 | false=>exact k1 ρ1 σ' H1 q1 r1 (F'.fr f1)
end
noncomputable def t8(E:D->Prop)(pe:PTE):PTS:=λ_ ρ=>pe ρ λp _=>match p with
 | .dat d=>E d
 | _=>False
section
variable {K:b_}{E:D->Prop}{Eo:XK}{fs:List Nat}{ta:TA}{pa:PTA}{cs:List Str}{c f:Str}
def yc{H:Hp}{a:Addr}{o o':HO}:upd (upd H a o) a o'=upd H a o':=by
 funext b
 by_cases z:b=a
 .subst z;rw [ax,ax]
 .rw [ai z,ai z,ai z]
def gy(X:tV K cs)(hc:c∈cs):LSX K E Eo fs (r8 K (wd (az K c)) (λ_=>Eo)) (t8 E (x9 c)):=λfx A R H0 ρ σ H D D' hf r F q k1 k2 k3 k4 k5 e he=>by
 refine⟨e,az K c,az K "GlueError",none,rfl,ax,X.c c hc,?_⟩;rw [yc];have g:Gr H (upd H e (.ext (XAt e (az K c) none false))):=Gr.new he;exact k5 ρ σ _ e _ _ q (r.gr g) (F.fr g.fr) (F.nn he) ⟨_,_,_,rfl,ax,.exc0 (λz=>r.dom2 e z he) ax⟩
end
abbrev FX:=List D->(PV->Prop)->(D->Prop)->Prop
noncomputable def spX(K:b_)(c:FX):Sp:=λvs H Q E=>∃(O:Addr->Prop) (ds:List D) (Qc:PV->Prop) (Ec:D->Prop),(∀b,O b->H b≠none)/\FVs K O H vs ds/\c ds Qc Ec/\(∀r,Qc r->∀v H',Gr H H'->kq K O H H' r v->Q v H') /\
 ∀d,Ec d->∀ea dd H',Gr H H'->H ea=none->XR K O H' ea dd d->E (.ref ea) dd H'
section
variable {K:b_}{tr:TA}{pr:PTA}{ts:XK->TS}{ps:(D->Prop)->PTS}
noncomputable def wl(c:FX)(pr:PTA):PTE:=λρ Q=>pr ρ λas ρ1=>match avD as with
 | some ds=>c ds (λr=>Q r ρ1) (λ_=>False)
 | none=>False
def qK{c:FX}(h:LAs K tr pr):LE K (oS (spX K c) (λ_=>E0) tr) (wl c pr):=λA ρ σ H Q Q' R q k=>h A ρ σ H _ _ R q λvs H1 as ρ1 q1 f1 R1 o1=>by
 split at q1
 .rename_i ds e;exact⟨OO A ρ1 σ,ds,_,_,R1.dom2,o1.avD e,q1,λr qr v H' g ov=>k v H' r ρ1 qr (f1.trans g.fr) ((ov.out R1 g).h0 f1.dm),λd z=>z.elim⟩
 .exact q1.elim
end
section
variable {K:b_}{cs:List Str}
def jQ(X:tV K cs){c d:Str}(hc:c∈cs)(hd:d∈cs\/d="GlueError"):(k_ (az K c)::.ref (az K "GlueError")::vmB).contains (.ref (az K d))=oK c d:=by
 have yd:XCl K d:=hd.elim (X.n d) λe=>by rw [e];exact X.g
 have rr:∀a b:Addr,(k_ a == k_ b)=decide (a=b):=λa b=>by
  by_cases h:a=b
  .subst h;simp
  .rw [decide_eq_false h];exact beq_eq_false_iff_ne.mpr λz=>h (BG z)
 rw [contains_cons,contains_cons,rr,rr];have t2:vmB.contains (k_ (az K d))=false:=rfl;rw [t2,Cn];unfold oK
 congr 1
 .by_cases h:c=d
  .subst h;rw [decide_eq_true rfl,decide_eq_true rfl]
  .rw [decide_eq_false h,decide_eq_false λz=>(X.n c hc).ne yd h z.symm]
 .by_cases h:d="GlueError"
  .subst h;rw [decide_eq_true rfl,decide_eq_true rfl]
  .rw [decide_eq_false h,decide_eq_false (yd.ne X.g h)]
end
section
variable {K:b_}{A R:Addr->Prop}{fx:List (Nat×V)}{fs:List Nat}{H0 H:Hp}{ρ:PSt}{σ:St}{i:Nat}
def eJ{j:Nat}{q:PV}(e:(ρ.set i none)[j]?=some (some q)):j≠i/\ρ[j]?=some (some q):=by
 by_cases z:i=j
 .subst z
  by_cases hi:i<ρ.length
  .rw [n_ hi] at e;cases e
  .rw [y_ (by rw [z_];omega)] at e;cases e
 .rw [gV z] at e;exact⟨λq=>z q.symm,e⟩
def iY{b:Addr}(h:Wr (ρ.set i none) (σ.set i none) b):Wr ρ σ b:=by
 obtain⟨j,r,e1,o1,s1⟩:=h;obtain⟨n,e⟩:=eJ e1;rw [gV (λz=>n z.symm)] at s1;exact⟨j,r,e,o1,s1⟩
def Rel.unset(R1:Rel K A ρ σ H):Rel K A (ρ.set i none) (σ.set i none) H:=by
 have k:aF (OO A ρ σ) H (OO A (ρ.set i none) (σ.set i none)) H:=aF.less λb z=>z.imp id iY
 refine⟨by rw [z_,z_];exact R1.len,λj r e1=>?_,λj l p1 q1 v' e1 e2 o1 o2 s1 s2=>?_,R1.dom,λb z w=>R1.sep b z (iY w)⟩
 .obtain⟨n,e⟩:=eJ e1;obtain⟨u,s,r'⟩:=R1.get j r e;exact⟨u,by rw [gV (λz=>n z.symm)];exact s,r'.keeps k λ_ _ _=>rfl⟩
 .obtain⟨n1,e1⟩:=eJ e1;obtain⟨n2,e2⟩:=eJ e2;rw [gV (λz=>n1 z.symm)] at s1;rw [gV (λz=>n2 z.symm)] at s2;exact R1.dj j l p1 q1 v' e1 e2 o1 o2 s1 s2
def bC.unset(hf:fx.map tj=fs)(hi:fs.contains i=false)(F:bC fx R H0 ρ σ H):bC fx R H0 (ρ.set i none) (σ.set i none) H :=
 ⟨F.kp,F.dm,λb w=>F.ow b (iY w),λq hq=>by
  have:q.1≠i:=λz=>by
   have h1:i∈fs:=by rw [<- hf,<- z];exact A0 hq
   rw [j_.mpr h1] at hi;cases hi
  rw [gV (λz=>this z.symm)];exact F.fx q hq⟩
end
abbrev PTH:=D->PTS
noncomputable def LH(K:b_)(fs:List Nat)(th:THd)(ph:PTH):Prop:=∀(fx:List (Nat×V)) (A R:Addr->Prop) (H0:Hp) (ρ:PSt) (σ:St) (H:Hp) (D:qz) (D':pX) (ea:Addr) (dd:Option Addr) (c:Str) (ns:List Str) (ds:List L2.D),fx.map tj=fs->Rel K A ρ σ H->bC fx R H0 ρ σ H ->
 H ea=some (.ext (XAt ea (az K c) dd false))->FV K (OO A ρ σ) H (.ref ea) (.exc c ns ds)->ph (.exc c ns ds) D ρ ->
 (∀ρ' σ' H',D.nx ρ'->Rel K A ρ' σ' H'->bC fx R H0 ρ' σ' H'->D'.nx σ' H') ->
 (∀v p ρ' σ' H',D.rt p ρ'->Out K A ρ' σ' H0 H' p v->bC fx R H0 ρ' σ' H'->D'.rt v H') ->
 (∀ρ' σ' H',D.bk ρ'->Rel K A ρ' σ' H'->bC fx R H0 ρ' σ' H'->D'.bk σ' H') ->
 (∀ρ' σ' H',D.ct ρ'->Rel K A ρ' σ' H'->bC fx R H0 ρ' σ' H'->D'.ct σ' H')->th ea (az K c) dd D' σ H
def ye:PTH:=λ_ _ _=>False
noncomputable def zt(cs:List Str)(c0:Str)(i:Nat)(pb:PTS)(rest:PTH):PTH:=λd D ρ=>match d with
 | .exc c _ _=>cs.contains c=true/\fm (oK c c0) (pb { nx:=λρ'=>D.nx (ρ'.set i none),bk:=λρ'=>D.bk (ρ'.set i none),ct:=λρ'=>D.ct (ρ'.set i none),rt:=D.rt } (ρ.set i (some (.dat d)))) (rest d D ρ)
 | _=>False
section
variable {K:b_}{cs:List Str}{fs:List Nat}{ts:TS}{ps:PTS}{tr:THd}{pr:PTH}{c0:Str}{i:Nat}
def wm:LH K fs (λ_ _ _ _ _ _=>False) ye:=λ_ _ _ _ _ _ _ _ _ _ _ _ _ _ _ _ _ _ _ h _ _ _ _=>h
def yf(X:tV K cs)(h0:c0∈cs\/c0="GlueError")(hi:fs.contains i=false)(hs:LS K fs ts ps)(hr:LH K fs tr pr):LH K fs (hAs K (az K c0) i ts tr) (zt cs c0 i ps pr):=λfx A R H0 ρ σ H D D' ea dd c ns ds hf r F hea fv q k1 k2 k3 k4=>by
 obtain⟨hc,q⟩:=(show cs.contains c=true/\_ from q)
 have hc:c∈cs:=j_.mp hc;have ek:=jQ X hc h0
 refine⟨az K "GlueError",X.c c hc,λe=>?_,λe=>?_⟩
 .rw [ek] at e;rw [e] at q;have o:Out K A ρ σ H0 H (.dat (.exc c ns ds)) (.ref ea):=⟨r,fv⟩
  exact hs fx A R H0 _ _ H _ _ hf (o.put (i:=i)).1 (F.put hf hi o.put.2) q (λρ' σ' H' q' r' F'=>k1 _ _ _ q' r'.unset (F'.unset hf hi)) k2 (λρ' σ' H' q' r' F'=>k3 _ _ _ q' r'.unset (F'.unset hf hi)) (λρ' σ' H' q' r' F'=>k4 _ _ _ q' r'.unset (F'.unset hf hi))
 .rw [ek] at e;rw [e] at q;exact hr fx A R H0 ρ σ H D D' ea dd c ns ds hf r F hea fv q k1 k2 k3 k4
end
noncomputable def yg(c:FX)(pa:PTA)(ph:PTH):PTS:=λD ρ=>pa ρ λas ρ1=>match avD as with
 | some ds=>c ds (λ_=>D.nx ρ1) (λd=>ph d D ρ1)
 | none=>False
section
variable {K:b_}{fs:List Nat}{ta:TA}{pa:PTA}{th:THd}{ph:PTH}{c:FX}
def wn(ha:LAs K ta pa)(hh:LH K fs th ph):LS K fs (yW (λJ=>wH (sA (oS (spX K c) J ta)) sy) th) (yg c pa ph):=λfx A R H0 ρ σ H D D' hf r F q k1 k2 k3 k4=>by
 refine⟨λσ' v dd H'=>∃ρ1 ea d,v=.ref ea/\σ'=σ/\Rel K A ρ1 σ H'/\bC fx R H0 ρ1 σ H'/\XR K (OO A ρ1 σ) H' ea dd d/\ph d D ρ1,?_,λσ' ea dd H' ⟨ρ1,ea',d,ev,es,r1,F1,x1,q1⟩=>?_⟩
 .refine ha A ρ σ H _ _ r q λvs H1 as ρ1 q1 f1 R1 o1=>?_
  split at q1
  .rename_i ds e;exact⟨OO A ρ1 σ,ds,_,_,R1.dom2,o1.avD e,q1,λr qr v H' g ov=>k1 ρ1 σ H' qr (ov.out R1 g).frz.1 ((F.fr f1).fr g.fr),λd qd ea dd H' g n x=>⟨ρ1,ea,d,rfl,rfl,R1.gr g,(F.fr f1).fr g.fr,x,qd⟩⟩
  .exact q1.elim
 .cases ev;subst es;obtain⟨c,ns,ds,rfl,hea,fv⟩:=x1;exact⟨_,hea,hh fx A R H0 ρ1 σ' H' D D' ea dd c ns ds hf r1 F1 hea fv q1 k1 k2 k3 k4⟩
end
section
variable {X:Cx}{st:Stmt}{t:TS}
def PS.nox(h:PS X.nox st t):PS X st t:=λpins s σ H D I hw =>
 zG (h pins s σ H D (I.wish _) hw) (λf s' hs=>by
  cases f with
  | next=>obtain⟨σ',H',J,q⟩:=hs;exact⟨σ',H',J.unwish,q⟩
  | brk=>obtain⟨σ',H',J,q⟩:=hs;exact⟨σ',H',J.unwish,q⟩
  | cont=>obtain⟨σ',H',J,q⟩:=hs;exact⟨σ',H',J.unwish,q⟩
  | ret u=>obtain⟨v,σ',H',J,r,q⟩:=hs;exact⟨v,σ',H',J.unwish,r,q⟩) λ_ _ z=>z.elim
end
section
variable {P:m_}{w:World}{K:b_}{mg:Str->Option Value}{base:Heap}{x:Str}{st:Stmt}{N ps:List Str}{k:Nat}{sp:Sp}
def aW.okE(D:aW K mg x st)(S:aA N ps (ag st))
  (hb:∀(kV doc pm:Value) (an:Option Addr) (cdv ct:Value) (us:List Value),us.length=ps.length->bindArgs (zO x x (bq st) (aL st) (ag st) .none kV doc pm an cdv ct) ⟨us,[]⟩=pure (ps.zip us))
  (len:∀vs H Q E,sp vs H Q E->vs.length=ps.length)
  (hbody:∀(f:Addr) (cdv:Value) (A:v_) (outer:List Env) (s:c_) (H:Hp) (vs:List V) (Q:VK) (E:XK),cP k (A.deeper (envOfC x (ag st) s.heap.objs.size f cdv))->sp vs H Q E ->
   ∃t,PSs (im (CXe P w) P w K mg base N x (ag st) f cdv A outer s H E) (aL st) t/\t { nx:=λ_ H'=>Q .non H',rt:=Q } (start N vs) H):wg P w K mg base (k+1) x ps sp:=by
 obtain⟨f,fd,F,hm⟩:=D.ex;refine⟨f,fd,?_,F.binds hb,F.kp,hm⟩;obtain⟨oc,od,kV,doc,pm,an,cdv,ct,osl,rfl,lk,hcd⟩:=F.ex;exact uZ lk hcd S len λA outer s H vs Q E hr hsp=>hbody f cdv A outer s H vs Q E hr hsp
end
def px0{P:m_}{w:World}{X:Cx}:PX (CXe P w) X (λ_=>E0):=λpins σ H s e s' I h=>by
 obtain⟨_,_,_,_,_,_,_,_,_,_,_,_,_,_,z⟩:=h;exact z.elim
abbrev wR(pp:(D->Prop)->PTS)(n:Nat)(ds:List D)(Q:PV->Prop)(E:D->Prop):Prop:=pp E { nx:=λ_=>Q (.dat .non),rt:=λp _=>Q p } (bh n (ds.map .dat))
section
variable {K:b_}{ts:TS}{ps:(D->Prop)->PTS}
def zu{c:FX}{n:Nat}(hn:∀ds Q E,c ds Q E->ds.length=n){vs:List V}{H:Hp}{Q:VK}{E:XK}(h:spX K c vs H Q E):vs.length=n:=by
 obtain⟨O,ds,Qc,Ec,_,fv,hq,_⟩:=h;rw [fv.length];exact hn ds Qc Ec hq
def zv{c:FX}{N:List Str}{vs:List V}{H:Hp}{Q:VK}{E:XK}(hl:∀Ec,LSX K Ec E [] ts (ps Ec))(hn:∀ds Q E,c ds Q E->ds.length<=N.length)(hc:∀ds Q E,c ds Q E->wR ps N.length ds Q E)
  (h:spX K c vs H Q E):ts { nx:=λ_ H'=>Q .non H',rt:=Q } (start N vs) H:=by
 obtain⟨O,ds,Qc,Ec,dom,fv,hq,k,kx⟩:=h
 have nw:∀(ρ:PSt) (b:Addr),ρ=bh N.length (ds.map .dat)->¬ Wr ρ (start N vs) b:=λρ b e ⟨i,p,e1,o1,s1⟩=>by
  rw [e] at e1;have:=bw e1;rw [so] at this
  cases e2:ds[i]? with
  | none=>rw [e2] at this;cases this
  | some d=>rw [e2] at this;cases this;cases o1
 have lenv:=fv.length;have hle:=hn ds Qc Ec hq
 have R0:Rel K O (bh N.length (ds.map .dat)) (start N vs) H:=by
  refine⟨?_,λi p e=>?_,λi j p q v e1 e2 o1 o2 s1 s2=>?_,dom,λb _ w=>nw _ b rfl w⟩
  .unfold bh start;rw [length_append,length_append,length_map,length_map,length_map,length_replicate,length_replicate,lenv]
  .have:=bw e;rw [so] at this
   cases e2:ds[i]? with
   | none=>rw [e2] at this;cases this
   | some d =>
    rw [e2] at this;cases this;obtain⟨v,hv,f⟩:=fv.getD e2;exact⟨v,eE hv,f.keeps (aF.less λb z=>z.elim id λw=>absurd w (nw _ b rfl))⟩
  .have:=bw e1;rw [so] at this
   cases e3:ds[i]? with
   | none=>rw [e3] at this;cases this
   | some d=>rw [e3] at this;cases this;cases o1
 refine hl Ec [] O (λ_=>False) H _ _ H _ _ rfl R0 ⟨λ_ _ _ h=>h,λ_ h=>h,λb w=>absurd w (nw _ b rfl),λp hp=>nomatch hp⟩ (hc ds Qc Ec hq) (λρ' σ' H' q r F=>?_) (λv p ρ' σ' H' q o F=>?_) (λ_ _ _ z=>z.elim) (λ_ _ _ z=>z.elim) (λρ' σ' H' ea dd d q r F n x=>?_)
 .exact k _ q .non H' (λb o e=>F.kp b o id e) .non
 .exact k _ q v H' (λb o e=>F.kp b o id e) o.outV
 .exact kx d q ea dd H' (λb o e=>F.kp b o id e) n (x.keeps (aF.less λb z=>.inl z))
end
def wo{X:Cx}{c0 cn n:Str}{np pos:Pos}{b0:Stmt}{suite:List Stmt}{rest:List Bm}{ts:TS}{tr:THd}(i:Nat)(K:b_)(ek:X.K=K)(hx:XD K (az K c0))(hm:X.mg cn=some (.ref (az K c0)))(hN:X.N.Nodup)(hi:X.N[i]?=some n)(hk:X.env.scope.names.lookup n=some .local)(hs:∀e,PSs (X.mk' e).nox (b0::suite) ts)(hr:PH X rest tr)
  (hg:Gl X cn:=by rfl) (hdb:(cn == ("__debug__":Str))=false:=by decide):PH X (.ExceptHandler (some (.Name cn np)) (some n) (b0::suite) pos::rest) (hAs K (az K c0) i ts tr):=yb K ek hx hm hN hi hk hs hr hg hdb
def oW(d:D):(PV.dat d).d=d:=rfl
def oY(ds:List D):(PV.own ds).d=.lst ds:=rfl
def oZ(c:Str)(ns:List Str)(ds:List D):(PV.ins c ns ds).d=.obj c ns ds:=rfl
def wp(ds:List D):mkL false ds=.own ds:=rfl
def wq(ds:List D):mkL true ds=.dat (.tup ds):=rfl
noncomputable def pkm(ρ:PSt)(j:Nat):Option PV:=match ρ[j]? with
 | some v=>v
 | none=>none
def lR(v:Option PV)(r:PSt):pkm (v::r) 0=v:=rfl
def lS(v:Option PV)(r:PSt)(n:Nat):pkm (v::r) (n+1)=pkm r n:=rfl
def jR(ρ:PSt):cW [] ρ=[]:=rfl
def iy(ix:List (Option Nat))(ρ:PSt):cW (none::ix) ρ=none::cW ix ρ:=rfl
def iz(j:Nat)(ix:List (Option Nat))(ρ:PSt):cW (some j::ix) ρ=pkm ρ j::cW ix ρ:=rfl
def jS(j:Nat)(ix:List (Option Nat))(ρ:PSt)(t:Option PV)(τ:PSt):back (some j::ix) ρ (t::τ)=back ix (ρ.set j t) τ:=rfl
def jT(ix:List (Option Nat))(ρ:PSt)(t:Option PV)(τ:PSt):back (none::ix) ρ (t::τ)=back ix ρ τ:=rfl
def lT(ρ τ:PSt):back [] ρ τ=ρ:=rfl
noncomputable def zw(pe:PTE):PTE:=λρ Q=>pe ρ λp ρ1=>Q (.dat p.d) ρ1
def o0{K:b_}{ta:TE}{pe:PTE}(h:LE K ta pe):LE K ta (zw pe):=λA ρ σ H Q Q' R q k=>h A ρ σ H _ Q' R q λv H' p ρ' q f o=>k v H' (.dat p.d) ρ' q f o.frz
def o4{α β:Type}(f:α->β)(xs:List α)(i:Nat):(xs.map f).eraseIdx i=(xs.eraseIdx i).map f:=by
 rw [eraseIdx_eq_take_drop_succ,eraseIdx_eq_take_drop_succ,map_append,map_take,map_drop]
def o5{α:Type}{js:List α}{i:Nat}(h:i<js.length):(js.eraseIdx i++[js[i]]).Perm js:=by
 rw [eraseIdx_eq_take_drop_succ,append_assoc];have e:js=js.take i++(js[i]::js.drop (i+1)):=by rw [getElem_cons_drop,Cv]
 conv=>rhs;rw [e]
 exact List.Perm.append_left _ (perm_append_singleton _ _)
def wS{n i:Nat}(h:i<n):ixN n (i:Int)=some i:=by
 unfold ixN;rw [if_pos (by omega),if_pos (by omega),zK]
section
variable {X:Cx}{K:b_}{ta te:TE}{pa:PA1}{pe:PTE}
noncomputable def LPs(K:b_)(trs:List (TE×TE))(ks:List Key)(pr:PTA):Prop:=∀(A:Addr->Prop) (ρ:PSt) (σ:St) (H:Hp) (Q:List AV->PSt->Prop) (Q':List (V×V)->Hp->Prop),Rel K A ρ σ H->pr ρ Q ->
 (∀vs H' as ρ',Q as ρ'->Fr ρ σ H ρ' H'->Rel K A ρ' σ H'->rB K (OO A ρ' σ) σ H' as vs->vs.length=ks.length->Q' ((ks.zip vs).map λkv=>(kV kv.1,kv.2)) H')->lK trs σ H Q'
def t9:LPs K [] [] gk:=λA ρ σ H Q Q' R q k=>k [] H [] ρ q (Fr.refl _ _ _) R .nil rfl
def qL{tv:TE}{pv:PA1}{trs:List (TE×TE)}{ks:List Key}{pr:PTA}(kk:Key)(hv:LA1 K tv pv)(hr:LPs K trs ks pr):LPs K ((tC (kV kk),tv)::trs) (kk::ks) (bD pv pr):=λA ρ σ H Q Q' R q k =>
 hv A ρ σ H _ _ R q λv H1 a ρ1 q1 f1 R1 o1=>hr A ρ1 σ H1 _ _ R1 q1 λvs H2 as ρ2 q2 f2 R2 o2 l2=>k (v::vs) H2 _ ρ2 q2 (f1.trans f2) R2 (.cons (o1.keeps f2.keeps) o2) (by rw [length_cons,l2];rfl)
def ua{kvs:List (Key×V)}{k:Key}{v:V}(h:k∉kvs.map tj):gX kvs k v=kvs++[(k,v)]:=by
 unfold gX;rw [if_neg];intro z;obtain⟨a,m,e⟩:=any_eq_true.mp z;exact h (zW.mpr ⟨a,m,of_decide_eq_true e⟩)
theorem jU:∀(kvs acc:List (Key×V)),((acc++kvs).map tj).Nodup->fk acc kvs=acc++kvs
 | [],acc,_=>by show acc=_;rw [append_nil]
 | kv::r,acc,h=>by
  show fk (gX acc kv.1 kv.2) r=_
  have hn:kv.1∉acc.map tj:=λm=>by
   rw [map_append,map_cons] at h;exact (CI.mp h).2.2 _ m _ (mem_cons_self ..) rfl
  rw [ua hn,jU r _ (by rw [append_assoc];exact h),append_assoc];rfl
noncomputable def yh(ks:List Key)(pr:PTA):PTE:=λρ Q=>pr ρ λas ρ1=>match avD as with
 | some ds=>Q (.dat (.dic ks ds)) ρ1
 | none=>False
def ub{trs:List (TE×TE)}{ks:List Key}{pr:PTA}(hn:ks.Nodup)(h15:ks.length<=15)(h:LPs K trs ks pr):LE K (vC trs) (yh ks pr):=λA ρ σ H Q Q' R q k=>λp hp=>by
 have R1:Rel K (b8 A p) ρ σ (upd H p (.dK [])):=R.grA (Gr.new hp) hp (by rw [ax];exact nofun);refine h (b8 A p) ρ σ _ _ _ R1 q λvs H2 as ρ2 q2 f2 R2 o2 l2=>?_
 split at q2
 .rename_i ds ed;have e2:H2 p=some (.dK []):=f2.kp p _ (R1.sep p (.inr rfl)) ax;have fv:=o2.avD ed;have m1:(ks.zip vs).map tj=ks:=map_fst_zip (by omega);have m2:(ks.zip vs).map u_=vs:=map_snd_zip (by omega)
  have em:fk [] (ks.zip vs)=ks.zip vs:=by
   rw [jU _ _ (by rw [nil_append,m1];exact hn),nil_append]
  refine⟨e2,ks.zip vs,rfl,by rw [length_zip];omega,?_⟩;rw [em]
  have fr:Fr ρ σ H ρ2 (upd H2 p (.dK (ks.zip vs))):=⟨λb o n e=>by
   have nb:b≠p:=aH e hp;rw [ai nb];exact f2.kp b o n (by rw [ai nb];exact e),λb e=>by
   by_cases z:b=p
   .rw [z,ax];exact nofun
   .rw [ai z];exact f2.dm b (by rw [ai z];exact e),f2.ow⟩
  have np:¬ OO A ρ2 σ p:=λz=>z.elim (λz=>R.dom p z hp) λz=>R2.sep p (.inr rfl) z;refine k _ _ (.dat (.dic ks ds)) ρ2 q2 fr ⟨(R2.amb (o:=.dK (ks.zip vs)) (.inr rfl)).less λb z=>.inl z,.dic np ax m1 ?_⟩;rw [m2];refine fv.keeps λb o n e=>⟨λz=>n (z.imp .inl id),?_⟩
  rw [ai λz=>n (.inl (.inr z))];exact e
 .exact q2.elim
end
section
variable {X:Cx}{K:b_}
noncomputable def r9(K:b_):R2:=λx y H Q=>∃a b ys,x=.ref a/\y=.ref b/\SqT K H a []/\SqT K H b ys/\Q (.ref b) H
def qM:OpR X (binaryOp .Add) (r9 X.K):=by
 intro pins s σ H x y v u Q I rx ry h;obtain⟨a,b,ys,rfl,rfl,ha,hb,q⟩:=h;cases rx;cases ry;obtain⟨its,r1,p1,_⟩:=I.tuple ha;obtain⟨its2,r2,p2,_⟩:=I.tuple hb;have e0:its=[]:=r1.nil_iff.mpr rfl;subst e0;obtain⟨⟨cls,dd,data,sl⟩,ho,hc,n,hd⟩:=id p1;obtain⟨⟨cls2,dd2,data2,sl2⟩,ho2,hc2,n2,hd2⟩:=id p2;simp only at hc hd hc2 hd2;subst hc hd hc2 hd2;exact CD ⟨_,ho,rfl⟩ ⟨_,ho2,rfl⟩ Cs seq_tuple_add Bu Bp (Bi _ _) (tuple_addW0 a b _ _ n n2 dd dd2 sl sl2 rfl) ⟨ho,ho2,.ref b,H,I,rfl,q⟩
noncomputable def wt(K:b_):R2:=λx y H Q=>tq K x y H Q\/r9 K x y H Q
def aK(K:b_)(e:X.K=K):OpR X (binaryOp .Add) (wt K):=OpR.or (xF K e) (by subst e;exact qM)
noncomputable def iZ:F2
 | .tup a,.tup b,Q=>a.length+b.length<=1000000/\Q (.dat (.tup (a++b)))
 | a,b,Q=>xG a b Q
def aD:LO K (wt K) iZ:=by
 intro O H x y a b Q Q' dom fx fy q k;unfold iZ at q
 split at q
 .rename_i Q ds es
  cases ds with
  | cons d ds=>exact .inl (rE O H x y _ _ _ Q' dom fx fy ⟨nofun,q⟩ k)
  | nil =>
   obtain⟨p1,xs1,rfl,n1,e1,f1⟩:=fx.tup;obtain⟨p2,xs2,rfl,n2,e2,f2⟩:=fy.tup;cases f1;exact .inr ⟨p1,p2,xs2,rfl,rfl,SqT.of e1,SqT.of e2,k _ H _ q.2 (Gr.refl _) (.tup n2 e2 f2)⟩
 .exact .inl (rE O H x y _ _ _ Q' dom fx fy q k)
end
section
variable {X:Cx}
noncomputable def yX:Expr->Bool
 | .ListComp ..|.SetComp ..|.DictComp ..=>false
 | _=>true
def o8{o i e:Expr}{p:Pos}{l:Nat}{env:Env}(h:yX e=true):swapsWithSole [.Subscript o i p] e l env=pure false:=by
 show swapsWith e (some (.Subscript o i p)) l env=pure false;cases e <;> first|rfl|cases h
def kY{o i e:Expr}{p:Pos}{env:Env}:swappedStores [.Subscript o i p] e env=pure none:=rfl
def yi{o i e:Expr}{p:Pos}{te:TE}{g:TG}{pos:Pos}(he:PE X e te)(hg:PG X (.Subscript o i p) g)(hn:yX e=true:=by rfl):PS X (.Assign [.Subscript o i p] e pos) (ur te g) :=
 uP he hg (o8 hn) kY rfl
end
noncomputable def g8(K:b_)(x:Str)(st:Stmt):Prop:=∃(f:Addr) (oc kV dc pm cd ct:Value) (od an:Option Addr) (sl:Array (Option Value)),zH K mainGlobals x=some (some (.ref f)) /\
 K.lookup f=some ⟨oc,od,.func (zO x x (bq st) (aL st) (ag st) .none kV dc pm an cd ct),sl⟩/\AD K cd x=true/\we K (.ref f)=true
def wu{K:b_}{x:Str}{st:Stmt}{f:Addr}{oc kV dc pm cd ct:Value}{od an:Option Addr}{sl:Array (Option Value)}(a:zH K mainGlobals x=some (some (.ref f)))(l:K.lookup f=some ⟨oc,od,.func (zO x x (bq st) (aL st) (ag st) .none kV dc pm an cd ct),sl⟩)
  (c:AD K cd x=true) (k:we K (.ref f)=true):g8 K x st:=⟨f,oc,kV,dc,pm,cd,ct,od,an,sl,a,l,c,k⟩
def bx{K:b_}{h:Heap}{mg:Str->Option Value}{x:Str}{st:Stmt}(q:g8 K x st)(X:K.In h)(G:h.Ns mainGlobals mg):aW K mg x st:=by
 obtain⟨f,oc,kV,dc,pm,cd,ct,od,an,sl,a,l,c,k⟩:=q;exact .mk' X G a l c k
section
open PySem.AutoSeq1 (wpAny_loadPart')
open PySem.MeetsSeq PySem.MeetsSeq2 PySem.MeetsSeq3
variable {P:m_}{w:World}{A:v_}
end
noncomputable def g9(ks:List Key)(ds:List D)(k:Key):Option D:=((ks.zip ds).find? λp=>decide (p.1=k)).map (·.2)
section
variable {X:Cx}{K:b_}{O:Addr->Prop}{H:Hp}{ta td te:TE}{pa:PA1}{pe:PTE}
def FVc.dic{v:V}{ks:List Key}{ds:List D}(h:FVc K O H v (.dic ks ds)):∃a kvs,v=.ref a/\H a=some (.dK kvs)/\kvs.map tj=ks/\FVs K O H (kvs.map u_) ds:=by
 cases h.fv nofun nofun with
 | dic n e m f=>exact⟨_,_,rfl,e,m,f⟩
theorem kZ(k:Key):∀{kvs:List (Key×V)}{ks:List Key}{ds:List D},kvs.map tj=ks->FVs K O H (kvs.map u_) ds ->
  (kJ kvs k=none/\g9 ks ds k=none)\/∃v d,kJ kvs k=some v/\g9 ks ds k=some d/\FV K O H v d
 | [],_,_,rfl,.nil=>.inl ⟨rfl,rfl⟩
 | p::r,_,_,rfl,.cons (d:=d) (ds:=ds) a b=>by
  have u:∀ds',g9 ((p::r).map tj) (d::ds') k=if p.1=k then some d else g9 (r.map tj) ds' k:=λds'=>by
   unfold g9;rw [map_cons,zip_cons_cons,AQ]
   by_cases e:p.1=k
   .rw [if_pos e,decide_eq_true e];rfl
   .rw [if_neg e,decide_eq_false e]
  by_cases e:p.1=k
  .exact .inr ⟨p.2,d,fV e,by rw [u,if_pos e],a⟩
  .rw [fW e,u,if_neg e];exact kZ k rfl b
end
def hu1{u:Nat}(h:u+64<cLine):u+1<cLine:=by omega
section
variable {K:b_}{A O O':Addr->Prop}{fx:List (Nat×V)}{R:Addr->Prop}{H0 H0' H H':Hp}{ρ ρ':PSt}{σ:St}{x:Nat}{Da:Addr}{as:List Addr}{rows:List (List D)}
noncomputable def cl(x:Nat)(ρ:PSt):Option (List (List D))->PSt
 | none=>ρ
 | some rows=>ρ.set x (some (.own (rows.map D.lst)))
def o9(x:Nat)(ρ:PSt):cl x ρ none=ρ:=rfl
def pd(x:Nat)(ρ:PSt)(rows:List (List D)):cl x ρ (some rows)=ρ.set x (some (.own (rows.map D.lst))):=rfl
end
section
variable {K:b_}{A:Addr->Prop}{fx:List (Nat×V)}{R:Addr->Prop}{H0 H:Hp}{ρ:PSt}{σ:St}
noncomputable def mvd(ρ:PSt)(g r:Nat)(ds:List D):PSt:=(ρ.set r (some (.own ds))).set g none
def sd(ρ:PSt)(g r:Nat)(ds:List D):mvd ρ g r ds=(ρ.set r (some (.own ds))).set g none:=rfl
end
section
variable {X:Cx}{K:b_}{a b:Expr}{rest:List Expr}{ta tb:TE}{pe pe':PTE}
noncomputable def tBL(K:b_)(t:TE):TT:=λσ H Q=>t σ H λx H1=>∃k,xg K x H1 k/\Q k H1
def uc(K:b_)(e:X.K=K)(ha:PE X a ta)(he:∀whole,isTrue a X.env whole=(do let v <- whole;standAt a.pos;holding [v] (truthy v)):=by intro _;rfl):PT X a (tBL K ta):=by
 subst e;exact qa ha he
def FVs.emp{O:Addr->Prop}{H:Hp}{xs:List V}{ds:List D}(h:FVs K O H xs ds):(!xs.isEmpty)=!ds.isEmpty:=by cases h <;> rfl
end
theorem fZ:∀{M:Nat}{l:List Nat},l.Nodup->(∀x∈l,x<M)->l.length<=M
 | 0,l,_,h=>by
  cases l with
  | nil=>exact o_ _
  | cons x r=>exact absurd (h x mem_cons_self) (not_lt_zero _)
 | M+1,l,nd,h=>by
  by_cases c:M∈l
  .have h1:=fZ (M:=M) (nd.erase M) (λx hx=>by
    have:=h x (mem_of_mem_erase hx);have hne:x≠M:=(nd.mem_erase_iff.mp hx).1;omega)
   rw [length_erase_of_mem c] at h1;omega
  .have:=fZ (M:=M) nd (λx hx=>by
    have:=h x hx;have:x≠M:=λe=>c (e ▸ hx);omega)
   omega
def jV{ls:List Nat}(nd:ls.Nodup){i j:Nat}(hi:i<ls.length)(e:ls[i]?=ls[j]?):i=j:=(getElem?_inj hi nd).mp e
structure dQ (k:Nat) (A:v_):Prop where
 dp:A.depth+3*k+5<recursionLimit
 un:A.units+16*k+200<cLine
def cP.n{k:Nat}{A:v_}(r:cP k A):dQ k A:=⟨r.dp,r.un⟩
def cP.mark{k:Nat}{A:v_}(r:cP k A)(e:Option Value):dQ k (A.mark e):=⟨r.dp,r.un⟩
def dQ.mono{j k:Nat}{A:v_}(r:dQ k A)(h:j<=k):dQ j A:=⟨by have:=r.dp;omega,by have:=r.un;omega⟩
def dQ.deeper{k:Nat}{A:v_}(r:dQ (k+1) A)(env:Env):dQ k (A.deeper env) :=
 ⟨by have:=r.dp;show A.depth+1+3*k+5<_;omega,by have:=r.un;show A.units+3+16*k+200<_;omega⟩
def dQ.depth{k:Nat}{A:v_}(r:dQ k A):A.depth<recursionLimit:=by have:=r.dp;omega
def dQ.units{k:Nat}{A:v_}(r:dQ k A):A.units+64<cLine:=by have:=r.un;omega
structure se (P:m_) (w:World) (K:b_) (mg:Str->Option Value) (base:Heap) (k:Nat) (x:Str) (ps:List Str) (sp:Sp):Prop where
 ex:∃(f:Addr) (fd:Ag),(∀vs H Q E,sp vs H Q E->vs.length=ps.length) /\
  (∀(A:v_) (outer:List Env) (s:c_) (H:Hp) (args:Args) (us:List Value) (vs:List V) (Q:VK) (E:XK),dQ k A->ut P w K mg base A outer s H->Ci s fd args (ps.zip us)->aX vs us->sp vs H Q E ->
   codeAny (model P w) A (.call (.ref f) args) (CR CX0 outer P w H s Q E) s)/\iF K fd ps []/\we K (.ref f)=true/\mg x=some (.ref f)
abbrev cxN(P:m_)(w:World)(K:b_)(mg:Str->Option Value)(base:Heap)(N:List Str)(qual:Str)(scope:Scope)(f:Addr)(cd:Value)(A:v_)(outer:List Env)(s:c_)(H:Hp)(E:XK):Cx :=
 { im CX0 P w K mg base N qual scope f cd A outer s H E with calm:=false }
section
variable {P:m_}{w:World}{K:b_}{mg:Str->Option Value}{base:Heap}{x:Str}{st:Stmt}{N ps:List Str}{k:Nat}{sp:Sp}
def aW.okN(D:aW K mg x st)(S:aA N ps (ag st))
  (hb:∀(kV doc pm:Value) (an:Option Addr) (cdv ct:Value) (us:List Value),us.length=ps.length->bindArgs (zO x x (bq st) (aL st) (ag st) .none kV doc pm an cdv ct) ⟨us,[]⟩=pure (ps.zip us))
  (len:∀vs H Q E,sp vs H Q E->vs.length=ps.length)
  (hbody:∀(f:Addr) (cdv:Value) (A:v_) (outer:List Env) (s:c_) (H:Hp) (vs:List V) (Q:VK) (E:XK),dQ k (A.deeper (envOfC x (ag st) s.heap.objs.size f cdv))->sp vs H Q E ->
   ∃t,PSs (cxN P w K mg base N x (ag st) f cdv A outer s H E).nox (aL st) t/\t { nx:=λ_ H'=>Q .non H',rt:=Q } (start N vs) H):se P w K mg base (k+1) x ps sp:=by
 obtain⟨f,fd,F,hm⟩:=D.ex;have bd:=F.binds hb;have kp:=F.kp;obtain⟨oc,od,kV,doc,pm,an,cdv,ct,osl,rfl,lk,hcd⟩:=F.ex;refine⟨f,_,len,λA outer s H args us vs Q E hr e0 hb r hsp=>?_,bd,kp,hm⟩;have hl:=len _ _ _ _ hsp;have KX:K.In s.heap:=e0.mod.kin.keeps λb o e=>(e0.bs b o e).1;have lim:s.heap.NoLimit:=e0.mod.nolimit.keeps λb o e=>(e0.bs b o e).1
 have hkind:∀y∈ps.zip us,(ag st).names.lookup y.1=some .local\/((ag st).names.lookup y.1=some .cell/\((cellsFrom (s.heap.objs.size+1) (ag st).names []).lookup y.1).isSome=true):=λ⟨n,v⟩ hy=>by
  rcases S.par n (of_mem_zip hy).1 with q|q
  .exact .inl q
  .exact .inr ⟨q,Ay _ _ _ (.inl q)⟩
 refine codeAny_call_function hr.depth (KX _ _ lk) rfl S.co S.gen rfl (PySem.W.codeRec_of KX hcd) (hb _ _ _ _ ?_);refine B8 S.kind hkind λenv he s1 y=>?_;subst he;refine⟨lim.keeps y.toInCall.keep,codeAny_func ?_⟩;obtain⟨t,ht,hq⟩:=hbody f cdv A outer s H vs Q E (hr.deeper _) hsp;have e1:ut P w K mg base { A with handled:=none } outer s H:=⟨e0.frames,e0.mod,e0.bs,e0.bsz,e0.funs,e0.frf,e0.hok,e0.bare,e0.tb⟩
 have I0:Inv (im CX0 P w K mg base N x (ag st) f cdv { A with handled:=none } outer s H E) [] (start N vs) H s1:=jo S rfl e1 hl r y
 have I:Inv (cxN P w K mg base N x (ag st) f cdv A outer s H E) [] (start N vs) H s1 :=
  ⟨⟨I0.ok.mod,I0.ok.kind,I0.ok.glob,I0.ok.blt,I0.ok.above,I0.ok.inj,I0.ok.has,I0.ok.cab,nofun,I0.ok.frames,I0.ok.stk,I0.ok.exf,I0.ok.bs,I0.ok.bsz,I0.ok.noex,I0.ok.exfs,I0.ok.funs,I0.ok.frf,I0.ok.tb⟩,I0.os,I0.bare,I0.base,I0.loc,I0.cell,I0.free,I0.freeC,I0.pin,I0.hok,I0.len⟩
 refine zG (ht.nox [] s1 (start N vs) H _ I hq) (λfl s' hs=>?_) λe s' hs=>hs
 have fin:∀{σ':St}{H':Hp}{v:V}{u:Value},Inv (cxN P w K mg base N x (ag st) f cdv A outer s H E) [] σ' H' s'->bz v u->Q v H'->CE outer P w H s Q u s' :=
  λ{σ' H' v u} J rv q=>⟨v,H',J.os,J.bare,J.base,J.hok,rv,q⟩
 cases fl with
 | ret u =>
  obtain⟨v,σ',H',J,rv,q⟩:=hs;exact fin J rv q
 | next =>
  obtain⟨σ',H',J,q⟩:=hs;exact fin (v:=V.non) (u:=Ah) J rfl q
 | brk =>
  obtain⟨_,_,_,q⟩:=hs;exact zQ q
 | cont =>
  obtain⟨_,_,_,q⟩:=hs;exact zQ q
end
section
variable {X:Cx}{k:Nat}{x:Str}{ps:List Str}{sp:Sp}{p pos:Pos}{e:Expr}{es:List Expr}{t:TA}
def k6(C:se X.prog X.w X.K X.mg X.base k x ps sp)(hr:dQ k X.A)(ha:PA X (e::es) t)(hg:Gl X x:=by rfl)(hdb:(x == ("__debug__":Str))=false:=by decide)(he:starEach (e::es) X.env=(false,eval e X.env)::starEach es X.env:=by rfl)
  (hpl:(backTo pos (starEach es X.env)).any (·.1)=false:=by rfl):PE X (.Call (.Name x p) (e::es) [] pos) (iE sp [] E0 t):=by
 obtain⟨f,fd,len,run,hb,hk,hm⟩:=C.ex;intro pins s σ H Q I h;refine AC (eR I hg hm ?_ hdb);refine B6 (h₀:=X.base) I.ok.mod.kin hk (thn (ha pos pins s σ H _ I h) λus s1 ⟨vs,H1,I1,r,q⟩=>⟨I1.kIn,?_⟩) he hpl;have r2:aX (vs++[]) (us++[]):=r.append .nil;have hl:(us++[]).length=ps.length:=by rw [<- r2.length];exact len _ _ _ _ q
 refine CC (BU (run X.A X.stack s1 H1 ⟨us,[]⟩ (us++[]) (vs++[]) Q E0 hr I1.env0 (hb s1 us I1.kIn hl) r2 q) λr s' hq=>?_)
 cases r with
 | error e=>exact hq.elim
 | ok fl =>
  cases fl with
  | ret u=>exact I1.after hq
  | next=>exact zQ hq
  | brk=>exact zQ hq
  | cont=>exact zQ hq
end
noncomputable def yY(b:Bool):Value->Bool
 | .bool c=>c == b
 | _=>false
section
variable {X:Cx}{K:b_}{ta te:TE}{pa:PA1}{pe:PTE}
noncomputable def wv(K:b_):V->List V->Hp->VK->Prop:=λx xs H Q=>∃(p:Addr) (bs:List Bool) (b:Bool),x=.ref p/\xs=[.bl b]/\SqL K H p (bs.map V.bl)/\Q (.int (bs.countP (· == b):Nat)) H
theorem lU:∀{bs:List Bool}{its:List Value},aX (bs.map V.bl) its->its=bs.map AL
 | [],_,.nil=>rfl
 | b::bs,_,.cons r t=>by rw [map_cons,<- lU t];cases (show _=AL b from r);rfl
def ud(K:b_)(e:X.K=K):MtR X "list.count" (wv K):=by
 subst e;intro pins s σ H x xs v us Q I rx rs h;obtain⟨p,bs,b,rfl,rfl,hS,q⟩:=h;cases (show v=k_ p from rx);obtain⟨u,rfl,ru⟩:=gY rs;cases (show u=AL b from ru);obtain⟨its,rv,pl,hz⟩:=I.list hS;obtain⟨⟨cls,dd,data,sl⟩,ho,hc,n,hd⟩:=pl.isList;simp only at hc hd;subst hc hd;have ei:=lU rv
 have ec:its.toArray.toList.countP (yY b)=bs.countP (· == b):=by
  rw [ei,countP_map];rfl
 refine BB Cw ⟨_,ho,rfl⟩ PySem.F.entry_list_count (PySem.F.args_list_count_2 _ _)
  (PySem.SeqAt.list_countAt p its.toArray n dd sl (.bool b) (yY b)) ⟨ho,λy hy=>?_,⟨.int _,H,I.tok _,⟨_,rfl⟩,by rw [ec];exact q⟩⟩
 have hy:y∈its:=by simpa using hy
 rw [ei] at hy;obtain⟨c,_,rfl⟩:=zW.mp hy;exact PySem.SeqAt.EqAt.bool_bool _ _
noncomputable def ww(pa:PA1)(pe:PTE):PTE:=λρ Q=>pa ρ λx ρ1=>match cont ρ1 x with
 | some (.lst _)=>pe ρ1 λp ρ2=>(match cont ρ2 x,p with
  | some (.lst ds),.dat (.bl b)=>∃bs:List Bool,ds=bs.map .bl/\Q (.dat (.int (bs.countP (· == b):Nat))) ρ2
  | _,_=>False)
 | _=>False
def ue(ha:LA1 K ta pa)(he:LE K te pe):LE K (tBM K "list" (wv K) ta (bA te iD)) (ww pa pe):=λA ρ σ H Q Q' R q k =>
 ha A ρ σ H _ _ R q λv H1 a ρ1 q1 f1 R1 o1=>by
  split at q1
  .rename_i ds0 e1;obtain⟨a0,xs0,rfl,g0,f0⟩:=(R1.cont o1 e1).lst;refine⟨.inl ⟨rfl,xs0,SqL.of g0⟩,he A ρ1 σ H1 _ _ R1 q1 λw H2 p ρ2 q2 f2 o2=>?_⟩;obtain⟨R2,fv⟩:=o2.frz
   split at q2
   .rename_i ds j e2;obtain⟨ns,rfl,q2⟩:=q2;cases (show FV K _ H2 w (.bl j) from fv);obtain⟨a1,xs1,e3,g1,g2⟩:=(R2.cont (o1.keeps f2.keeps) e2).lst;cases e3;rw [g2.bls] at g1;exact⟨a0,ns,j,rfl,rfl,SqL.of g1,k _ H2 _ ρ2 q2 (f1.trans f2) ⟨R2,.int _⟩⟩
   .exact q2.elim
  .exact q1.elim
end
noncomputable def XI(K:b_)(G:Addr)(nm:String)(C:Addr):Prop:=zH K mainGlobals nm=some (some (.ref C))/\(∃(q:Str) (N:Addr) (bs sub:List Value) (sn:List Str) (ab:Bool) (col:Option Bool) (k0 k1 k2 k3 k5:Option Value),K.lookup C=some (excClassObj nm q C N bs (.ref G::[.type "ValueError",.type "Exception",.type "BaseException",.type "object"]) true sn sub ab col none k0 k1 k2 k3 k5 "ValueError.__new__")) /\
 l_ K (.ref C) "__getattribute__"=some (some (.builtin "BaseException.__getattribute__"))/\l_ K (.ref C) "__getattr__"=some none/\l_ K (.ref C) "__setattr__"=some (some (.builtin "object.__setattr__"))/\l_ K (.ref C) "__class__"=some (some (.builtin "object.__class__"))/\we K (.ref C)=true
def yj{K:b_}{G:Addr}{nm:String}{C:Addr}{q:Str}{N:Addr}{bs sub:List Value}{sn:List Str}{ab:Bool}{col:Option Bool}{k0 k1 k2 k3 k5:Option Value}(a:zH K mainGlobals nm=some (some (.ref C)))
  (l:K.lookup C=some (excClassObj nm q C N bs (.ref G::[.type "ValueError",.type "Exception",.type "BaseException",.type "object"]) true sn sub ab col none k0 k1 k2 k3 k5 "ValueError.__new__"))
  (g:l_ K (.ref C) "__getattribute__"=some (some (.builtin "BaseException.__getattribute__"))) (h:l_ K (.ref C) "__getattr__"=some none) (s:l_ K (.ref C) "__setattr__"=some (some (.builtin "object.__setattr__"))) (c:l_ K (.ref C) "__class__"=some (some (.builtin "object.__class__"))) (k:we K (.ref C)=true):XI K G nm C :=
 ⟨a,⟨_,_,_,_,_,_,_,_,_,_,_,_,l⟩,g,h,s,c,k⟩
noncomputable def XJ(K:b_)(C:Addr)(qn at_:String)(st:Stmt):Prop:=∃(fx:Addr) (oc kV dc pm cd ct:Value) (od an:Option Addr) (sl:Array (Option Value)),l_ K (.ref C) "__init__"=some (some (.ref fx))/\Be K (.ref fx)=some (.type "function")/\K.lookup fx=some ⟨oc,od,.func (zO "__init__" qn (bq st) (aL st) (ag st) .none kV dc pm an cd ct),sl⟩/\AD K cd qn=true/\we K (.ref fx)=true/\l_ K (.ref C) at_=some none
def yk{K:b_}{C:Addr}{qn at_:String}{st:Stmt}{fx:Addr}{oc kV dc pm cd ct:Value}{od an:Option Addr}{sl:Array (Option Value)}(i:l_ K (.ref C) "__init__"=some (some (.ref fx)))(t:Be K (.ref fx)=some (.type "function"))(l:K.lookup fx=some ⟨oc,od,.func (zO "__init__" qn (bq st) (aL st) (ag st) .none kV dc pm an cd ct),sl⟩)(c:AD K cd qn=true)(k:we K (.ref fx)=true)(n:l_ K (.ref C) at_=some none):XJ K C qn at_ st :=
 ⟨_,_,_,_,_,_,_,_,_,_,i,t,l,c,k,n⟩
section
open PySem.AutoSeq1 (wpAny_loadPart')
open PySem.MeetsSeq PySem.MeetsSeq2 PySem.MeetsSeq3
variable {P:m_}{w:World}{A:v_}
end
def cP.m{j k:Nat}{A:v_}(r:cP k A)(h:Cd j k=true):cP j A:=r.mono (By h)
section
variable {P:m_}{w:World}{K:b_}{mg:Str->Option Value}{base:Heap}{x:Str}{st:Stmt}{N ps:List Str}{k n:Nat}
abbrev mG(x:Str)(st:Stmt)(ps:List Str):Prop:=∀(kV doc pm:Value) (an:Option Addr) (cdv ct:Value) (us:List Value),us.length=ps.length->bindArgs (zO x x (bq st) (aL st) (ag st) .none kV doc pm an cdv ct) ⟨us,[]⟩=pure (ps.zip us)
def aW.oP{c:FN}{pp:PTS}(D:aW K mg x st)(S:aA N ps (ag st))(hb:mG x st ps)(ln:∀ds Q,c ds Q->ds.length=n)(h1:n=ps.length)(h2:Cd n N.length=true)(rd:∀ds Q,c ds Q->wP pp N.length ds Q)
  (hbody:∀(f:Addr) (cdv:Value) (A:v_) (outer:List Env) (s:c_) (H:Hp) (E:XK),cP k (A.deeper (envOfC x (ag st) s.heap.objs.size f cdv))->(A.deeper (envOfC x (ag st) s.heap.objs.size f cdv)).units+64<cLine ->
   ∃t,PSs (im CX0 P w K mg base N x (ag st) f cdv A outer s H E).nox (aL st) t/\LS K [] t pp):Cal P w K mg base (k+1) x ps (spP K c):=by
 refine D.ok S hb (λvs H Q E h=>(wO ln h).trans h1) λf cdv A outer s H vs Q E hr h=>?_;obtain⟨t,h3,h4⟩:=hbody f cdv A outer s H E hr hr.units;exact⟨t,h3,fnP h4 (λds Q h=>Af (Cu (ln ds Q h)) (By h2)) rd h⟩
def aW.oR{c:FR}{pp:PTS}(D:aW K mg x st)(S:aA N ps (ag st))(hb:mG x st ps)(ln:∀p ds Q,c p ds Q->ds.length+1=n)(h1:n=ps.length)(h2:Cd n N.length=true)(rd:∀p ds Q,p.isOwn=true->c p ds Q->x3 pp N.length p ds Q)
  (hbody:∀(f:Addr) (cdv:Value) (A:v_) (outer:List Env) (s:c_) (H:Hp) (E:XK),cP k (A.deeper (envOfC x (ag st) s.heap.objs.size f cdv))->(A.deeper (envOfC x (ag st) s.heap.objs.size f cdv)).units+64<cLine ->
   ∃t,PSs (im CX0 P w K mg base N x (ag st) f cdv A outer s H E).nox (aL st) t/\LS K [0] t pp):Cal P w K mg base (k+1) x ps (spR K c):=by
 refine D.ok S hb (λvs H Q E h=>(zp ln h).trans h1) λf cdv A outer s H vs Q E hr h=>?_;obtain⟨t,h3,h4⟩:=hbody f cdv A outer s H E hr hr.units;exact⟨t,h3,fnR h4 (λp ds Q h=>Af (Cu (ln p ds Q h)) (By h2)) rd h⟩
def aW.oX{c:FX}{pp:(D->Prop)->PTS}(D:aW K mg x st)(S:aA N ps (ag st))(hb:mG x st ps)(ln:∀ds Q E,c ds Q E->ds.length=n)(h1:n=ps.length)(h2:Cd n N.length=true)(rd:∀ds Q E,c ds Q E->wR pp N.length ds Q E)
  (hbody:∀(f:Addr) (cdv:Value) (A:v_) (outer:List Env) (s:c_) (H:Hp) (E:XK),cP k (A.deeper (envOfC x (ag st) s.heap.objs.size f cdv))->(A.deeper (envOfC x (ag st) s.heap.objs.size f cdv)).units+64<cLine ->
   ∃t,PSs (im (CXe P w) P w K mg base N x (ag st) f cdv A outer s H E) (aL st) t/\∀Ec,LSX K Ec E [] t (pp Ec)):wg P w K mg base (k+1) x ps (spX K c):=by
 refine D.okE S hb (λvs H Q E h=>(zu ln h).trans h1) λf cdv A outer s H vs Q E hr h=>?_;obtain⟨t,h3,h4⟩:=hbody f cdv A outer s H E hr hr.units;exact⟨t,h3,zv h4 (λds Q E h=>Af (Cu (ln ds Q E h)) (By h2)) rd h⟩
end
noncomputable def psO{fs:List Nat}{A:b_->(Str->Option Value)->Prop}{ts:b_->(Str->Option Value)->TS}{ps:PTS}(_:∀K mg,A K mg->LS K fs (ts K mg) ps):PTS:=ps
noncomputable def psX{A:b_->(Str->Option Value)->Prop}{ts:b_->(Str->Option Value)->(D->Prop)->XK->TS}{ps:(D->Prop)->PTS}(_:∀K mg,A K mg->∀Ec E,LSX K Ec E [] (ts K mg Ec E) (ps Ec)):(D->Prop)->PTS:=ps
noncomputable def cN(p:Prop):List D->Prop|[]=>p|_=>False
noncomputable def cD(f:D->List D->Prop):List D->Prop|d::r=>f d r|_=>False
noncomputable def cI(f:Int->List D->Prop):List D->Prop|.int t::r=>f t r|_=>False
noncomputable def cB(f:Bool->List D->Prop):List D->Prop|.bl t::r=>f t r|_=>False
noncomputable def cL(f:List D->List D->Prop):List D->Prop|.lst t::r=>f t r|_=>False
noncomputable def cR(f:List Int->List D->Prop):List D->Prop|.scr t::r=>f t r|_=>False
noncomputable def cX(f:Str->List Str->List D->List D->Prop):List D->Prop|.exc c ns fs::r=>f c ns fs r|_=>False
noncomputable def oL(f:List D->Prop):PV->Prop|.own ds=>f ds|_=>False
def zx{α:Type}{l:List α}(h:l.length=1):∃a,l=[a]:=match l,h with|[a],_=>⟨a,rfl⟩
def zy{α:Type}{l:List α}(h:l.length=2):∃a b,l=[a,b]:=match l,h with|[a,b],_=>⟨a,b,rfl⟩
def zA{α:Type}{l:List α}(h:l.length=3):∃a b c,l=[a,b,c]:=match l,h with|[a,b,c],_=>⟨a,b,c,rfl⟩
section
variable {P:List D->Prop}{ds:List D}
@[elab_as_elim] theorem jf {p:Prop} (h:cN p ds) (k:p->P []):P ds:=match ds,h with|[],h=>k h
@[elab_as_elim] theorem sf {f:D->List D->Prop} (h:cD f ds) (k:∀d r,f d r->P (d::r)):P ds:=match ds,h with|d::r,h=>k d r h
@[elab_as_elim] theorem mM {f:Int->List D->Prop} (h:cI f ds) (k:∀t r,f t r->P (.int t::r)):P ds:=match ds,h with|.int t::r,h=>k t r h
@[elab_as_elim] theorem zB {f:Bool->List D->Prop} (h:cB f ds) (k:∀t r,f t r->P (.bl t::r)):P ds:=match ds,h with|.bl t::r,h=>k t r h
@[elab_as_elim] theorem wT {f:List D->List D->Prop} (h:cL f ds) (k:∀t r,f t r->P (.lst t::r)):P ds:=match ds,h with|.lst t::r,h=>k t r h
@[elab_as_elim] theorem zC {f:List Int->List D->Prop} (h:cR f ds) (k:∀t r,f t r->P (.scr t::r)):P ds:=match ds,h with|.scr t::r,h=>k t r h
@[elab_as_elim] theorem yZ {f:Str->List Str->List D->List D->Prop} (h:cX f ds) (k:∀c ns fs r,f c ns fs r->P (.exc c ns fs::r)):P ds:=match ds,h with|.exc c ns fs::r,h=>k c ns fs r h
@[elab_as_elim] theorem yl {P:PV->Prop}{p:PV}{f:List D->Prop} (h:oL f p) (k:∀es,f es->P (.own es)):P p:=match p,h with|.own es,h=>k es h
end
abbrev PRl(c:FN)(pp:PTS)(m n:Nat):Prop:=∀ds Q,c ds Q->ds.length=n/\wP pp m ds Q
abbrev RRl(c:FR)(pp:PTS)(m n:Nat):Prop:=∀p ds Q,c p ds Q->ds.length+1=n/\x3 pp m p ds Q
abbrev XRl(c:FX)(pp:(D->Prop)->PTS)(m n:Nat):Prop:=∀ds Q E,c ds Q E->ds.length=n/\wR pp m ds Q E
section
variable {P:m_}{w:World}{K:b_}{mg:Str->Option Value}{base:Heap}{x:Str}{st:Stmt}{N ps:List Str}{k n:Nat}
def aW.oP2{c:FN}{pp:PTS}(D:aW K mg x st)(S:aA N ps (ag st))(hb:mG x st ps)(rl:PRl c pp N.length n)(h1:n=ps.length)(h2:Cd n N.length=true)
  (hbody:∀(f:Addr) (cdv:Value) (A:v_) (outer:List Env) (s:c_) (H:Hp) (E:XK),cP k (A.deeper (envOfC x (ag st) s.heap.objs.size f cdv))->(A.deeper (envOfC x (ag st) s.heap.objs.size f cdv)).units+64<cLine ->
   ∃t,PSs (im CX0 P w K mg base N x (ag st) f cdv A outer s H E).nox (aL st) t/\LS K [] t pp):Cal P w K mg base (k+1) x ps (spP K c):=D.oP S hb (λds Q h=>(rl ds Q h).1) h1 h2 (λds Q h=>(rl ds Q h).2) hbody
def aW.oR2{c:FR}{pp:PTS}(D:aW K mg x st)(S:aA N ps (ag st))(hb:mG x st ps)(rl:RRl c pp N.length n)(h1:n=ps.length)(h2:Cd n N.length=true)
  (hbody:∀(f:Addr) (cdv:Value) (A:v_) (outer:List Env) (s:c_) (H:Hp) (E:XK),cP k (A.deeper (envOfC x (ag st) s.heap.objs.size f cdv))->(A.deeper (envOfC x (ag st) s.heap.objs.size f cdv)).units+64<cLine ->
   ∃t,PSs (im CX0 P w K mg base N x (ag st) f cdv A outer s H E).nox (aL st) t/\LS K [0] t pp):Cal P w K mg base (k+1) x ps (spR K c):=D.oR S hb (λp ds Q h=>(rl p ds Q h).1) h1 h2 (λp ds Q _ h=>(rl p ds Q h).2) hbody
def aW.oX2{c:FX}{pp:(D->Prop)->PTS}(D:aW K mg x st)(S:aA N ps (ag st))(hb:mG x st ps)(rl:XRl c pp N.length n)(h1:n=ps.length)(h2:Cd n N.length=true)
  (hbody:∀(f:Addr) (cdv:Value) (A:v_) (outer:List Env) (s:c_) (H:Hp) (E:XK),cP k (A.deeper (envOfC x (ag st) s.heap.objs.size f cdv))->(A.deeper (envOfC x (ag st) s.heap.objs.size f cdv)).units+64<cLine ->
   ∃t,PSs (im (CXe P w) P w K mg base N x (ag st) f cdv A outer s H E) (aL st) t/\∀Ec,LSX K Ec E [] t (pp Ec)):wg P w K mg base (k+1) x ps (spX K c):=D.oX S hb (λds Q E h=>(rl ds Q E h).1) h1 h2 (λds Q E h=>(rl ds Q E h).2) hbody
end
section
variable {prog:m_}{w:World}{A:v_}{R:Result->c_->Prop}{s:c_}
theorem i3{kx vx target iter:Expr}{ifs:List Expr}{scope:Scope}{pos:Pos}{it:Value}{D:Addr}{env:Env}(I:Nat->c_->Prop)
  (turn:∀n s,I n s->wpAny (model prog w) A (pyNext it) (λr s₁=>match r with
   | none=>R (.ok .next) s₁
   | some v=>wpAny (model prog w) A (letOwnedTupleGo target it v) (λ_ s₂=>wpAny (model prog w) A (assign target env v) (λ_ s₃ =>
     wpAny (model prog w) A (forIn ifs true λc r=>if r=true then do let ok <- isTrue c env (eval c env);pure (Ar ok) else pure (Ar r)) (λok s₄ =>
      if ok=true then wpAny (model prog w) A (eval kx env) (λk s₅=>wpAny (model prog w) A (eval vx env) (λx s₆ =>
       wpAny (model prog w) A (dictSet D k x) (λ_ s₇=>∃m,m<n/\I m s₇) (λ_ _=>False) s₆) (λ_ _=>False) s₅) (λ_ _=>False) s₄
      else ∃m,m<n/\I m s₄) (λ_ _=>False) s₃) (λ_ _=>False) s₂) (λ_ _=>False) s₁) (λ_ _=>False) s)
  (n:Nat) (h:I n s) :
  codeAny (model prog w) A (.compLoop (.DictComp kx vx [⟨target,iter,ifs,0⟩] scope pos) 0 it (.ref D) env) R s:=by
 refine codeAny_loop rfl I (λn s hI=>?_) n h;show wpAny _ A ((compTurn (.DictComp kx vx [⟨target,iter,ifs,0⟩] scope pos) 0 it (.ref D) env).onRaise (λx=>do noteFrame x env;theTreesLotGoes x)) _ _ s;refine wpAny_noted ?_;rw [compTurn_dict];refine cy (Al (cy (zG (turn n s hI) (λr s₁ h₁=>?_) λ_ _ h'=>h'.elim)))
 cases r with
 | none=>exact f_ h₁
 | some v =>
  refine cy (zG h₁ (λ_ s₂ h₂=>?_) λ_ _ h'=>h'.elim);refine cy (zG h₂ (λ_ s₃ h₃=>cy (zG h₃ (λok s₄ h₄=>?_) λ_ _ h'=>h'.elim)) λ_ _ h'=>h'.elim)
  cases ok with
  | false=>exact f_ ⟨rfl,h₄⟩
  | true =>
   exact cy (cy (zG h₄ (λk s₅ h₅=>cy (zR (zG h₅ (λx s₆ h₆=>cy (Al (zR (zG h₆ (λ_ s₇ h₇=>f_ ⟨rfl,h₇⟩) λ_ _ h'=>h'.elim)))) λ_ _ h'=>h'.elim))) λ_ _ h'=>h'.elim))
end
section
variable {X:Cx}{pins:List (Addr×Obj)}{σ:St}{H:Hp}{s:c_}{a:Addr}{y v:V}{u r:Value}{A:v_}{E:Value->c_->Prop}
def pq{H':Hp}{Q:Unit->c_->Prop}(hu:A.units+1<cLine)(I:Inv X pins σ H s)(g:vB H a y v H')(ry:bz y u)(rv:bz v r)(h:∀s',Inv X pins σ H' s'->Q () s') :
  wpAny (model X.prog X.w) A (dictSet a u r) Q E s:=by
 rcases g with ⟨kvs,k,e,ey,l,eH⟩|⟨kvs,k,b,e,ey,eb,l,eH⟩
 .subst ey eH;obtain⟨z,hd,vs,rel,dd⟩:=vA I.hok e;have hz:vs.length<=sizeLine:=by rw [<- rel.length];exact z
  have hl:(gX kvs k v).length<=sizeLine:=by have:=dM kvs k v;omega
  refine wpAny_dictSet_pairs (hsz:=hz) (mw ry) dd λh' dd' hs=>h _ ?_;have he:∃q,h'.get? a=some q:=let ⟨q,_,_,hq,_⟩:=dd';⟨q,hq⟩
  exact kL I (by rw [e];exact zY) hs he (rz hl hd (rel.put k rv) dd')
 .subst ey eH;cases (show u=k_ b from ry);obtain⟨z,hd,xs,rel,dd⟩:=xr I.hok e;have hz:xs.length<=sizeLine:=by rw [<- Paired.length rel];exact z
  have hl:(gX kvs k v).length<=sizeLine:=by have:=dM kvs k v;omega
  refine wpAny_dictSet_heap (hsz:=hz) (lt_of_succ_lt hu:A.units<cLine) (jE I.hok eb) dd λh' dd' hs=>h _ ?_;obtain⟨q,es,ep,hq,h2,h3,h4,_,h5⟩:=dd';refine kL I (by rw [e];exact zY) hs ⟨q,hq⟩ ⟨hl,hd,_,(rel.put k eb rv).keeps λc ys ec=>?_,q,es,ep,hq,h2,h3,h4,h5⟩;rw [ai (wV ec e (λz=>nomatch z))];exact ec
end
noncomputable def lV(ix:List (Option Nat))(wi:TI)(g:TG)(tts:TT)(tk tv:TE):TE:=λσ H Q=>wi σ H λJ H1=>∀D,H1 D=none->∃W:Nat->Nat->St->Hp->Prop,(∃m,W 0 m (jy ix σ) (upd H1 D (.dK [])))/\∀i m τ H2,W i m τ H2 ->
 (J.stop i H2/\Q (.ref D) H2)\/(J.go i H2/\∀x H3,J.yld i H2 x H3->g x τ H3 λτ2 H4=>tts τ2 H4 λok H5=>if ok=true then tk τ2 H5 λy H6=>tv τ2 H6 λv H7=>∃H8,vB H7 D y v H8/\∃m',m'<m/\W (i+1) m' τ2 H8
  else ∃m',m'<m/\W (i+1) m' τ2 H5)
section
variable {X:Cx}{tg iter kx vx:Expr}{ifs:List Expr}{scope:Scope}{N':List Str}{ix:List (Option Nat)}{wi:TI}{g:TG}{tts:TT}{tk tv:TE}
def iA{use:Option (Value->Sem Unit)}{Qf:Value->c_->Prop}{pos p':Pos}(hu:X.A.units+1<cLine){pins:List (Addr×Obj)}{σ:St}{H:Hp}{s:c_}{Q:VK}(hc:X.calm=true)(ok:lF X.env X.N scope N' ix)(hi:PI X tg iter wi)
  (blk:∀s H fp pn,PG (aJ X N' scope s H fp pn) tg g/\PIf (aJ X N' scope s H fp pn) ifs tts/\PE (aJ X N' scope s H fp pn) kx tk/\PE (aJ X N' scope s H fp pn) vx tv)
  (hs:∀x,foldedSetIterable iter X.env x=pure x) (I:Inv X pins σ H s) (hw:lV ix wi g tts tk tv σ H Q)
  (fin:∀D C H' s',Inv X pins σ H' s'->Q (.ref D) H'->(∃m,s'.heap.Ns C m)->H' C=none->X.s₀.heap.objs.size<=C->C≠X.env.locals->(∀x c,X.env.cells.lookup x=some c->c≠C)->C∉X.fs->(∀p∈X.pn++pins,p.1≠C) ->
   compPost (model X.prog X.w) X.A X.xe use Qf (.ref D) C (.ok .next) s') :
  wpAny (model X.prog X.w) X.A (comprehension (.DictComp kx vx [⟨tg,iter,ifs,0⟩] scope pos) scope X.env p' newDict false (eval iter X.env) use) Qf X.xe s:=by
 have hclos:closureFor scope X.env=pure (dJ X.env scope.names []):=cJ λy hy e=>I.ok.has y.1 (ok.free y hy e).1;refine wpAny_comprehension_free (use:=use) rfl hs hclos ok.kind ok.loc (thn (hi pins s σ H _ I hw) λv s1 h1=>thn h1 λitv s2 h2=>?_);obtain⟨it,fp,tn,J,H2,e,I2,T,st2,f2,hW⟩:=h2;subst e;obtain⟨W,⟨m0,w0⟩,turn⟩:=hW s2.heap.objs.size (I2.hok.fresh (o_ _))
 have hfl:∀b∈fp,b<s2.heap.objs.size:=λb hb=>by
  obtain⟨o,e,_⟩:=T.obj 0 _ st2 b hb;exact h_ e
 refine Ap ?_
 have I3:Inv X pins σ (upd H2 s2.heap.objs.size (.dK [])) { s2 with heap:=s2.heap.push { cls:=.type "dict",data:=.dict #[] } } :=
  I2.laid (t':=s2.toks) (λb o e=>e_ _ e) (o_ _) (show aO X.prog X.w _ _ _ (.dK []) from iM _ I2.big)
 have st3:tn 0 (s2.heap.push { cls:=.type "dict",data:=.dict #[] }):=T.keep 0 _ _ st2 λb _ o e=>e_ _ e;have f3:∀b∈fp,mK X pins (upd H2 s2.heap.objs.size (.dK [])) b:=λb hb=>⟨by rw [ai (zI (hfl b hb))];exact (f2 b hb).1,(f2 b hb).2⟩
 have hfl3:∀b∈fp,b<(s2.heap.push { cls:=.type "dict",data:=.dict #[] }).objs.size:=λb hb=>by rw [Bw];exact Co (hfl b hb)
 generalize hs3:({ s2 with heap:=s2.heap.push { cls:=.type "dict",data:=.dict #[] } }:c_)=s3 at I3 ⊢;have eh3:s3.heap=s2.heap.push { cls:=.type "dict",data:=.dict #[] }:=by rw [<- hs3]
 rw [<- eh3] at st3 hfl3;generalize hH3:upd H2 s2.heap.objs.size (.dK [])=H3 at I3 f3 w0;generalize hD:s2.heap.objs.size=D at *;refine bQ ?_;have I4:=lH ok I3 f3 hfl3;obtain⟨hg,ht,hkx,hvx⟩:=blk s3 H3 fp pins;have st4:tn 0 (pushCells (s3.heap.push { cls:=.type "dict",data:=.dict #[] }) scope.names):=T.keep 0 _ _ st3 λb _ o e=>BM _ _ b o (e_ _ e)
 have stat:∀{H':Hp},(∀b∈fp,H' b=none)->∀b∈fp,mK (aJ X N' scope s3 H3 fp pins) [] H' b:=λhn b hb=>by
  refine⟨hn b hb,zI (hfl3 b hb),I4.ok.exfs b hb,.inl hb,(I4.ok.exf b hb).2,λp hp=>?_⟩;have hp':p∈X.pn++pins:=by simpa [aJ] using hp
  exact (f2 b hb).2.2.2.2.2 p hp'
 have loop:∀(s4:c_),Inv (aJ X N' scope s3 H3 fp pins) [] (jy ix σ) H3 s4->tn 0 s4.heap ->
   codeAny (model X.prog X.w) X.A (.compLoop (.DictComp kx vx [⟨tg,iter,ifs,0⟩] scope pos) 0 (.ref it) (.ref D) (kG scope s3.heap.objs.size X.env)) (compPost (model X.prog X.w) X.A X.xe use Qf (.ref D) s3.heap.objs.size) s4:=by
  intro s4 I4 st4;refine i3 (λn s'=>∃i τ H',Inv (aJ X N' scope s3 H3 fp pins) [] τ H' s'/\tn i s'.heap/\(∀b∈fp,H' b=none)/\W i n τ H') ?_ m0 ⟨0,_,H3,I4,st4,λb hb=>(f3 b hb).1,w0⟩;rintro n s5 ⟨i,τ,H5,I5,st5,fr5,w5⟩
  rcases turn i n τ H5 w5 with ⟨stop,qn⟩|⟨go,step⟩
  .refine thn (T.done (aJ X N' scope s3 H3 fp pins) rfl rfl rfl hc i [] s5 τ H5 (λ_ _=>False) I5 (stat fr5) st5 stop) λr s6 ⟨hr,I6⟩=>?_;subst hr;have I7:Inv X pins σ H5 s6:=I3.call' (ch:=fp) I6.os I6.base I6.hok I6.bare λb hb=>⟨(f2 b hb).2.2.2.1,(f2 b hb).2.1,(f2 b hb).2.2.2.2.1,(f2 b hb).2.2.2.2.2⟩
   obtain⟨m6,hn6,_⟩:=I6.loc
   refine fin D s3.heap.objs.size H5 s6 I7 qn ⟨m6,hn6⟩ I6.free ?_ ?_ ?_ ?_ ?_
   .exact I3.sz
   .exact CQ I3.lt
   .intro x c e z;obtain⟨v,q⟩:=I3.cell x c e;have:=q.lt;rw [z] at this;exact AW _ this
   .exact I3.nofs (o_ _)
   .intro p hp z;have:=h_ (I3.pin p hp).1;rw [z] at this;exact AW _ this
  .refine thn (T.item (aJ X N' scope s3 H3 fp pins) rfl rfl rfl hc i [] s5 τ H5 (λ_ _=>False) I5 (stat fr5) st5 go) λr s6 ⟨u,hr,h6⟩=>?_;subst hr;refine thn h6 λ_ s7 ⟨x,H7,I7,r7,y7,st7,fr7⟩=>?_;have I7':=I7.pinned (stat fr7) (T.obj _ _ st7)
   have again:∀{s8:c_}{τ8:St}{H8:Hp},Inv (aJ X N' scope s3 H3 fp pins) ([]++ii fp s7.heap) τ8 H8 s8->(∃m',m'<n/\W (i+1) m' τ8 H8) ->
     ∃m,m<n/\∃i τ H',Inv (aJ X N' scope s3 H3 fp pins) [] τ H' s8/\tn i s8.heap/\(∀b∈fp,H' b=none)/\W i m τ H':=λ{s8 τ8 H8} I8 ⟨m',hm,w8⟩=>by
    refine⟨m',hm,i+1,τ8,H8,I8.unpinned,T.keep _ _ _ st7 λb hb o e=>(I8.pin (b,o) (pj _ (pj _ (bO hb e)))).1,λb hb=>?_,w8⟩;obtain⟨o,e,d⟩:=T.obj _ _ st7 b hb;exact (I8.pin (b,o) (pj _ (pj _ (bO hb e)))).2.1
   refine thn (hg _ s7 τ H7 x u _ I7' r7 (step x H7 y7)) λ_ s8 ⟨τ8,H8,I8,q8⟩=>?_;refine thn (ht _ s8 τ8 H8 _ I8 q8) λokb s9 ⟨H9,I9,q9⟩=>?_
   cases okb with
   | false =>
    rw [if_neg r_] at q9;rw [if_neg r_];exact again I9 q9
   | true =>
    rw [if_pos rfl] at q9;rw [if_pos rfl];refine thn (hkx _ s9 τ8 H9 _ I9 q9) λk10 s10 ⟨y10,H10,I10,ry10,q10⟩=>?_;refine thn (hvx _ s10 τ8 H10 _ I10 q10) λv11 s11 ⟨x11,H11,I11,rx11,H12,g12,m',hm,w12⟩=>?_;exact pq (X:=aJ X N' scope s3 H3 fp pins) hu I11 g12 ry10 rx11 λs12 I12=>again I12 ⟨m',hm,w12⟩
 exact codeAny_compStart_dict (loop _ I4 st4) (T.self X.A 0 _ _ _ st4 (loop _ I4 st4))
def qN{pos:Pos}(N':List Str)(ix:List (Option Nat))(hc:X.calm=true)(hu:X.A.units+1<cLine)(hi:PI X tg iter wi)
  (blk:∀s H fp pn,PG (aJ X N' scope s H fp pn) tg g/\PIf (aJ X N' scope s H fp pn) ifs tts/\PE (aJ X N' scope s H fp pn) kx tk/\PE (aJ X N' scope s H fp pn) vx tv)
  (chk:eW X.env.scope X.N scope N' ix=true) (hs:∀x,foldedSetIterable iter X.env x=pure x:=by intro _;rfl) :
  PE X (.DictComp kx vx [⟨tg,iter,ifs,0⟩] scope pos) (lV ix wi g tts tk tv):=by
 intro pins s σ H Q I hw;rw [arm_eval_DictComp];refine iA (use:=none) hu hc (eA chk) hi blk hs I hw λD C H' s' I' q hm hn h1 h2 h3 h4 h5=>?_;obtain⟨m,hm⟩:=hm;refine⟨m,hm,λh' sb=>⟨.ref D,H',?_,rfl,q⟩⟩;exact I'.turned (t':=s'.toks) (λb o hb e=>(sb.2 b hb).trans e) hn h2 (.inr h1) h3 h5
theorem qO{i:Nat}{x:Str}{pos pos' cpos:Pos}(N':List Str)(ix:List (Option Nat))(hN:X.N.Nodup)(hi:X.N[i]?=some x)(hx:Loc X.env.scope x)(hc:X.calm=true)(hu:X.A.units+1<cLine)(hit:PI X tg iter wi)
  (blk:∀s H fp pn,PG (aJ X N' scope s H fp pn) tg g/\PIf (aJ X N' scope s H fp pn) ifs tts/\PE (aJ X N' scope s H fp pn) kx tk/\PE (aJ X N' scope s H fp pn) vx tv)
  (chk:eW X.env.scope X.N scope N' ix=true) (hsw:swapsWith (.DictComp kx vx [⟨tg,iter,ifs,0⟩] scope cpos) (some (.Name x pos')) pos.line X.env=pure true:=by rfl)
  (hs:∀x,foldedSetIterable iter X.env x=pure x:=by intro _;rfl) (hf:X.fn x=true\/X.env.scope.names.lookup x=some .local:=by first|exact .inl rfl|exact .inr rfl|assumption) :
  PS X (.Assign [.Name x pos'] (.DictComp kx vx [⟨tg,iter,ifs,0⟩] scope cpos) pos) (ur (lV ix wi g tts tk tv) (cf i)):=by
 intro pins s σ H D I hw;rw [exec_Assign_Name_used _ _ _ _ hsw];refine cy (Al (cy ?_));show wpAny _ X.A (do let _ <- comprehension (.DictComp kx vx [⟨tg,iter,ifs,0⟩] scope cpos) scope X.env _ newDict false (eval iter X.env) (some (assign (.Name x pos') X.env))) _ _ s;refine cy (thn (iA (use:=some (assign (.Name x pos') X.env)) (Qf:=λ_ s'=>SP X pins D .next s') hu hc (eA chk) hit blk hs I hw λD' C H' s' I' q hm hn h1 h2 h3 h4 h5=>?_) λ_ s' q=>f_ (f_ q))
 obtain⟨m,oC,es,ep,hoC,hdC,hrC⟩:=hm
 have Ip:Inv X (pins++[(C,oC)]) σ H' s':=I'.pins_of λp hp=>(z0.mp hp).elim (λz=>I'.pin p (pj _ z)) λz=>by
  have e:p=(C,oC):=by simpa using z
  subst e;exact⟨hoC,hn,h2,h4,λv z=>by rw [hdC] at z;cases z⟩
 refine Cf (dk (v:=.ref D') Ip hN hi hx rfl (λs2 I2=>?_) hf);have hC2:s2.heap.get? C=some oC:=(I2.pin (C,oC) (by simp)).1;have I2':Inv X pins (σ.set i (some (.ref D'))) H' s2:=I2.pins_of λp hp=>I2.pin p (pj _ (zX _ hp));refine⟨m,⟨oC,es,ep,hC2,hdC,hrC⟩,λh' sb=>⟨_,H',?_,q⟩⟩;exact I2'.turned (t':=s2.toks) (λb o hb e=>(sb.2 b hb).trans e) hn h2 (.inr h1) h3 h5
end
noncomputable def mO(kds:List (Key×D))(k:Key)(d:D):List (Key×D) :=
 if (kds.any λp=>decide (p.1=k))=true then kds.map (λp=>if p.1=k then (p.1,d) else p) else kds++[(k,d)]
def qP(kds:List (Key×D))(k:Key)(d:D):(mO kds k d).length<=kds.length+1:=by
 unfold mO
 split
 .rw [length_map];omega
 .rw [length_append];exact o_ _
noncomputable def KD(K:b_)(O:Addr->Prop)(H:Hp)(kvs:List (Key×V))(kds:List (Key×D)):Prop:=kvs.map tj=kds.map tj/\FVs K O H (kvs.map u_) (kds.map u_)
section
variable {K:b_}{O O':Addr->Prop}{H H':Hp}{kvs:List (Key×V)}{kds:List (Key×D)}
def KD.keeps(h:KD K O H kvs kds)(k:aF O H O' H'):KD K O' H' kvs kds:=⟨h.1,h.2.keeps k⟩
def KD.len(h:KD K O H kvs kds):kvs.length=kds.length:=by have:=congrArg List.length h.1;rwa [length_map,length_map] at this
theorem KD.map(k:Key){v:V}{d:D}(f:FV K O H v d):∀{kvs:List (Key×V)}{kds:List (Key×D)},KD K O H kvs kds ->
  KD K O H (kvs.map λp=>if p.1=k then (p.1,v) else p) (kds.map λp=>if p.1=k then (p.1,d) else p)
 | [],[],_=>⟨rfl,.nil⟩
 | [],_::_,h=>nomatch h.1
 | _::_,[],h=>nomatch h.1
 | p::r,q::s,⟨h1,h2⟩=>by
  rw [map_cons,map_cons] at h1 h2;injection h1 with e1 e2
  cases h2 with
  | cons a b =>
   obtain⟨i1,i2⟩:=KD.map k f (kvs:=r) (kds:=s) ⟨e2,b⟩
   by_cases z:p.1=k
   .refine⟨?_,?_⟩
    .rw [map_cons,map_cons,map_cons,map_cons,i1,if_pos z,if_pos (e1.symm.trans z)];exact congrArg (·::_) e1
    .rw [map_cons,map_cons,map_cons,map_cons,if_pos z,if_pos (e1.symm.trans z)];exact .cons f i2
   .refine⟨?_,?_⟩
    .rw [map_cons,map_cons,map_cons,map_cons,i1,if_neg z,if_neg λy=>z (e1.trans y)];exact congrArg (·::_) e1
    .rw [map_cons,map_cons,map_cons,map_cons,if_neg z,if_neg λy=>z (e1.trans y)];exact .cons a i2
def uf(k:Key){α β:Type}{l:List (Key×α)}{m:List (Key×β)}(h:l.map tj=m.map tj):(l.any λp=>decide (p.1=k))=m.any λp=>decide (p.1=k):=by
 have e:=congrArg (List.any · λx=>decide (x=k)) h;have e:(l.map tj).any (λx=>decide (x=k))=(m.map tj).any (λx=>decide (x=k)):=e;rw [any_map,any_map] at e;exact e
def KD.put{k:Key}{v:V}{d:D}(h:KD K O H kvs kds)(f:FV K O H v d):KD K O H (gX kvs k v) (mO kds k d):=by
 unfold gX mO;rw [uf k h.1]
 split
 .exact KD.map k f h
 .refine⟨by rw [map_append,map_append,h.1];rfl,?_⟩;rw [map_append,map_append];exact h.2.append (.cons f .nil)
end
noncomputable def kD:Int ⊕ List Nat->D
 | .inl i=>.int i
 | .inr w=>.str w
noncomputable def kK:Int ⊕ List Nat->Key
 | .inl i=>.inl i
 | .inr w=>.inr (S w)
structure ym (ix:List (Option Nat)) (ρ1:PSt) (n:Nat) (it:Nat->D) (g:PTG) (pt:PTT) (pk pv:PTE) (Q:PKt):Prop where
 ex:∃I:Nat->List (Key×D)->PSt->Prop,I 0 [] (cW ix ρ1) /\
  (∀k ys τ d,k<n->d=it k->I k ys τ->g (.dat d) τ λτ2=>pt τ2 λok τ3=>fm ok (pk τ3 λp τ4=>∃kk:Int ⊕ List Nat,p.d=kD kk/\pv τ4 λp5 τ5=>I (k+1) (mO ys (kK kk) p5.d) τ5) (I (k+1) ys τ3))/\∀ys τ,I n ys τ->Q (.dat (.dic (ys.map tj) (ys.map u_))) (back ix ρ1 τ)
noncomputable def wx(ix:List (Option Nat))(pi:PTI)(g:PTG)(pt:PTT)(pk pv:PTE):PTE:=λρ Q=>pi ρ λn it ρ1=>vW ix ρ1=true/\n<=1000000/\ym ix ρ1 n it g pt pk pv Q
def lW{K:b_}{ix:List (Option Nat)}{wi:TI}{pi:PTI}{g:TG}{pg:PTG}{tts:TT}{pt:PTT}{tk tv:TE}{pk pv:PTE}(hix:rK ix=true)(hi:LI K wi pi)(hg:∀fs:List Nat,(∀k∈fs,k∈pY ix)->LGd K fs g pg)(ht:LT K tts pt)(hk_:LE K tk pk)(hv_:LE K tv pv) :
  LE K (lV ix wi g tts tk tv) (wx ix pi pg pt pk pv):=λA ρ σ H Q Q' R q k=>hi A ρ σ H _ _ R q λJ H1 n it ρ1 q1 f1 R1 W D hD=>by
 obtain⟨hcap,hn,⟨I,i0,turn,after⟩⟩:=q1
 let τρ0:=cW ix ρ1
 let τσ0:=jy ix σ
 let Ai:Addr->Prop:=λb=>A b\/b=D\/(Wr ρ1 σ b/\¬ Wr τρ0 τσ0 b)
 let H0':=upd H1 D (.dK [])
 have wsub:∀b,Wr τρ0 τσ0 b->Wr ρ1 σ b:=λb ⟨m,p,e,o,s⟩=>by
  obtain⟨j,h1,h2⟩:=bg e;obtain⟨v,hv,_⟩:=R1.get j p h2;have:=bo h1 hv;rw [s] at this;cases this;exact⟨j,p,h2,o,hv⟩
 have nD:¬ Wr ρ1 σ D:=λz=>R1.wr z hD
 have oosub:∀b,OO Ai τρ0 τσ0 b->OO A ρ1 σ b\/b=D:=λb z=>by
  rcases z with (z|z|z)|z
  .exact .inl (.inl z)
  .exact .inr z
  .exact .inl (.inr z.1)
  .exact .inl (.inr (wsub b z))
 have kD:aF (OO A ρ1 σ) H1 (OO Ai τρ0 τσ0) H0':=λb o nn e=>by
  refine⟨λz=>?_,?_⟩
  .rcases oosub b z with z|z
   .exact nn z
   .rw [z,hD] at e;cases e
  .rw [show H0' b=H1 b from ai (aH e hD)];exact e
 have Ri:Rel K Ai τρ0 τσ0 H0':=by
  refine⟨by show (cW ix ρ1).length=(jy ix σ).length;unfold cW jy;rw [length_map,length_map],λm p e=>?_,λm l p q v e1 e2 o1 o2 s1 s2=>?_,λb z=>?_,λb z w=>?_⟩
  .obtain⟨j,h1,h2⟩:=bg e;obtain⟨v,hv,r⟩:=R1.get j p h2;refine⟨v,bo h1 hv,r.keeps kD λow a ea=>?_⟩;subst ea;exact ai (λz=>nD (by rw [<- z];exact⟨j,p,h2,ow,hv⟩))
  .obtain⟨j,h1,h2⟩:=bg e1;obtain⟨j',h3,h4⟩:=bg e2;obtain⟨v1,hv1,_⟩:=R1.get j p h2;obtain⟨v2,hv2,_⟩:=R1.get j' q h4;have t1:=bo h1 hv1;have t2:=bo h3 hv2;rw [s1] at t1;rw [s2] at t2;cases t1;cases t2;have:=R1.dj j j' p q _ h2 h4 o1 o2 hv1 hv2;subst this;exact fY hix h1 h3
  .rcases z with z|z|z
   .intro e
    by_cases zz:b=D
    .exact R1.dom b z (by rw [zz];exact hD)
    .rw [show H0' b=H1 b from ai zz] at e;exact R1.dom b z e
   .rw [z];show upd H1 D _ D≠none;rw [ax];exact nofun
   .intro e;rw [show H0' b=H1 b from ai (λzz=>nD (by rw [<- zz];exact z.1))] at e;exact R1.wr z.1 e
  .rcases z with z|z|z
   .exact R1.sep b z (wsub b w)
   .rw [z] at w;exact nD (wsub D w)
   .exact z.2 w
 let fxi:List (Nat×V):=(pY ix).filterMap λm=>match (τσ0[m]?) with|some (some v)=>some (m,v)|_=>none
 have hfx:∀p∈fxi,τσ0[p.1]?=some (some p.2):=λp hp=>by
  obtain⟨m,hm,e⟩:=AM.mp hp
  split at e
  .rename_i v ev;cases e;exact ev
  .cases e
 have hfs:∀m∈fxi.map tj,m∈pY ix:=λm hm=>by
  obtain⟨p,hp,rfl⟩:=zW.mp hm;obtain⟨m',hm',e⟩:=AM.mp hp
  split at e
  .cases e;exact hm'
  .cases e
 have hgi:=hg (fxi.map tj) hfs
 have fxget:∀(m j:Nat) (v:V),ix[m]?=some (some j)->σ[j]?=some (some v)->(m,v)∈fxi:=λm j v h1 h2=>by
  refine AM.mpr ⟨m,?_,?_⟩
  .unfold pY;refine CA.mpr ⟨mem_range.mpr (i_.mp h1).1,?_⟩;rw [g_,h1];rfl
  .show (match (jy ix σ)[m]? with|some (some v)=>some (m,v)|_=>none)=_;rw [bo h1 h2]
 let Rr:Addr->Prop:=λb=>Wr τρ0 τσ0 b\/b=D
 have hRr:∀b,Rr b->OO Ai τρ0 τσ0 b:=λb z=>z.elim (λz=>.inr z) (λz=>.inl (.inr (.inl z)));have F0:bC fxi Rr H0' τρ0 τσ0 H0':=⟨λ_ _ _ h=>h,λ_ h=>h,λb w=>.inl (.inl w),hfx⟩
 refine⟨λi m τ H2=>i+m=n/\∃ys τρ xs,I i ys τρ/\ys.length<=i/\Rel K Ai τρ τ H2/\bC fxi Rr H0' τρ τ H2/\H2 D=some (.dK xs)/\KD K (OO Ai τρ τ) H2 xs ys/\∀b,Wr τρ τ b->Wr τρ0 τσ0 b,
  ⟨n,C9 n,[],τρ0,[],i0,o_ _,Ri,F0,ax,⟨rfl,.nil⟩,λ_ h=>h⟩,λi m τ H2 ⟨him,ys,τρ,xs,iv,hy,r2,F2,eD,fD,hw⟩=>?_⟩
 have kk:aF (OO A ρ1 σ) H1 (OO Ai τρ τ) H2:=λb o nn e=>(F2.keepsR hRr) b o (kD b o nn e).1 (kD b o nn e).2;obtain⟨go,stop⟩:=W _ H2 kk r2.dom2
 by_cases hk:i<n
 .obtain⟨g1,g2⟩:=go i hk;refine .inr ⟨g1,λx H3 y=>?_⟩;obtain⟨gr,fv⟩:=g2 x H3 y;have AiD:Ai D:=.inr (.inl rfl);refine hgi fxi Ai Rr H0' τρ τ H3 _ x _ _ rfl (F2.fr gr.fr) (r2.gr gr) fv (turn i ys τρ _ hk rfl iv) λτρ2 τ2 q2 r3 F3 w3=>?_;refine ht Ai τρ2 τ2 H3 _ _ r3 q2 λok H5 τρ3 q3 f5 r5=>?_;have F5:=F3.fr f5;have fD5:KD K (OO Ai τρ3 τ2) H5 xs ys:=((fD.keeps (gr.fr (ρ:=τρ) (σ:=τ)).keeps).keeps (aF.less λb z=>z.imp id (w3 b))).keeps f5.keeps
  have eD5:H5 D=some (.dK xs):=f5.kp D _ (r3.sep D AiD) (gr D _ eD)
  cases ok with
  | true =>
   refine hk_ Ai τρ3 τ2 H5 _ _ r5 q3 λu H6 p τρ4 q4 f6 o6=>?_;obtain⟨r6,fv6⟩:=o6.frz;obtain⟨kk1,ek,q4⟩:=q4;rw [ek] at fv6;have eu:u=kV (kK kk1):=by cases kk1 <;> (cases fv6;rfl)
   have F6:=F5.fr f6;have eD6:H6 D=some (.dK xs):=f6.kp D _ (r5.sep D AiD) eD5;refine hv_ Ai τρ4 τ2 H6 _ _ r6 q4 λv H7 p7 τρ5 q5 f7 o7=>?_;obtain⟨r7,fv7⟩:=o7.frz;have F7:=F6.fr f7;have eD7:H7 D=some (.dK xs):=f7.kp D _ (r6.sep D AiD) eD6;have kw:aF (OO Ai τρ5 τ2) H7 (OO Ai τρ5 τ2) (upd H7 D (.dK (gX xs (kK kk1) v))):=λb o nn e=>⟨nn,by rw [ai (λz=>nn (by rw [z];exact .inl AiD))];exact e⟩
   have hl:xs.length=ys.length:=fD.len;subst eu
   refine⟨_,vB.k eD7 (t_ (by omega:xs.length<1000000) (sz _ (o_ _))),m - 1,by omega,by omega,mO ys (kK kk1) p7.d,τρ5,gX xs (kK kk1) v,q5,by have:=qP ys (kK kk1) p7.d;omega,r7.amb AiD,⟨λb o nn e=>?_,λb z=>?_,F7.ow,F7.fx⟩,ax,(((fD5.keeps f6.keeps).keeps f7.keeps).put fv7).keeps kw,λb z=>hw b (w3 b (f5.ow b (f6.ow b (f7.ow b z))))⟩
   .rw [ai (λz=>nn (.inr z))];exact F7.kp b o nn e
   .by_cases zz:b=D
    .rw [zz,ax];exact nofun
    .rw [ai zz];exact F7.dm b z
  | false=>exact⟨m - 1,by omega,by omega,ys,τρ3,xs,q3,by omega,r5,F5,eD5,fD5,λb z=>hw b (w3 b (f5.ow b z))⟩
 .have e:i=n:=by omega
  subst e;refine .inl ⟨stop,?_⟩;have q':=after ys τρ iv
  have cap:∀(m j:Nat),ix[m]?=some (some j)->∃p v,ρ1[j]?=some (some p)/\σ[j]?=some (some v)/\τ[m]?=some (some v):=λm j e=>by
   have h1:=Bq.mp hcap _ (Ae e);have h1:(match ρ1[j]? with|some (some _)=>true|_=>false)=true:=h1
   split at h1
   .rename_i p ep;obtain⟨v,hv,_⟩:=R1.get j p ep;exact⟨p,v,ep,hv,F2.fx _ (fxget m j v e hv)⟩
   .cases h1
  have get':∀(j:Nat) (p:PV),(back ix ρ1 τρ)[j]?=some (some p)->(∃m v,ix[m]?=some (some j)/\σ[j]?=some (some v)/\τ[m]?=some (some v)/\τρ[m]?=some (some p))\/(some j∉ix/\ρ1[j]?=some (some p)):=λj p e=>by
   by_cases hj:some j∈ix
   .obtain⟨m,hm,em⟩:=A1 hj;have em':ix[m]?=some (some j):=by rw [d_ hm,em]
    obtain⟨p0,v,h1,h2,h3⟩:=cap m j em';rw [iS ix ρ1 τρ j m hix em' (by rw [r2.len];exact (i_.mp h3).1) (i_.mp h1).1] at e;exact .inl ⟨m,v,em',h2,h3,e⟩
   .rw [eC ix ρ1 τρ j hj] at e;exact .inr ⟨hj,e⟩
  have nocap:∀(j:Nat) (p:PV) (b:Addr),some j∉ix->ρ1[j]?=some (some p)->p.isOwn=true->σ[j]?=some (some (.ref b))->¬ Wr τρ0 τσ0 b:=λj p b hj e o s ⟨m,q,e1,o1,s1⟩=>by
   obtain⟨j',h1,h2⟩:=bg e1;obtain⟨v,hv,_⟩:=R1.get j' q h2;have:=bo h1 hv;rw [s1] at this;cases this;have:=R1.dj j j' p q _ e h2 o o1 s hv;subst this;exact hj (Ae h1)
  have w':∀b,Wr (back ix ρ1 τρ) σ b->Wr τρ τ b\/(Wr ρ1 σ b/\¬ Wr τρ0 τσ0 b):=λb ⟨j,p,e,o,s⟩=>by
   rcases get' j p e with ⟨m,v,h1,h2,h3,h4⟩|⟨hj,h1⟩
   .rw [s] at h2;cases h2;exact .inl ⟨m,p,h4,o,h3⟩
   .exact .inr ⟨⟨j,p,h1,o,s⟩,nocap j p b hj h1 o s⟩
  have oo':∀b,OO (b8 A D) (back ix ρ1 τρ) σ b->OO Ai τρ τ b:=λb z=>by
   rcases z with (z|z)|z
   .exact .inl (.inl z)
   .exact .inl (.inr (.inl z))
   .rcases w' b z with z|z
    .exact .inr z
    .exact .inl (.inr (.inr z))
  have kp1:∀b o,¬ Wr τρ0 τσ0 b->b≠D->H1 b=some o->H2 b=some o:=λb o n1 n2 e=>F2.kp b o (λz=>z.elim n1 n2) (by rw [show H0' b=H1 b from ai n2];exact e);have k1:aF (OO A ρ1 σ) H1 (OO (b8 A D) (back ix ρ1 τρ) σ) H2:=λb o nn e=>⟨λz=>(kk b o nn e).1 (oo' b z),(kk b o nn e).2⟩
  have AiD:Ai D:=.inr (.inl rfl)
  have R':Rel K (b8 A D) (back ix ρ1 τρ) σ H2:=by
   refine⟨by rw [fX];exact R1.len,λj p e=>?_,λj l p q v e1 e2 o1 o2 s1 s2=>?_,λb z=>?_,λb z w=>?_⟩
   .rcases get' j p e with ⟨m,v,h1,h2,h3,h4⟩|⟨hj,h1⟩
    .obtain⟨v',hv',r⟩:=r2.get m p h4;rw [h3] at hv';cases hv';exact⟨v,h2,r.keeps (aF.less oo') λ_ _ _=>rfl⟩
    .obtain⟨v,hv,r⟩:=R1.get j p h1;refine⟨v,hv,r.keeps k1 λow a ea=>?_⟩;subst ea;obtain⟨a',u,e1,e2⟩:=r.ref ow;cases e1;rw [e2];exact kp1 a u (nocap j p a hj h1 ow hv) (λz=>by rw [z,hD] at e2;cases e2) e2
   .rcases get' j p e1 with ⟨m,v1,h1,h2,h3,h4⟩|⟨hj,h1⟩
    .rw [s1] at h2;cases h2
     rcases get' l q e2 with ⟨m',v2,g1,g2,g3,g4⟩|⟨hl,g1⟩
     .rw [s2] at g2;cases g2;have:=r2.dj m m' p q _ h4 g4 o1 o2 h3 g3;subst this;rw [h1] at g1;cases g1;rfl
     .exfalso;obtain⟨v',hv',r⟩:=r2.get m p h4;rw [h3] at hv';cases hv';obtain⟨a,u,ea,_⟩:=r.ref o1;subst ea;exact nocap l q a hl g1 o2 s2 (hw a ⟨m,p,h4,o1,h3⟩)
    .rcases get' l q e2 with ⟨m',v2,g1,g2,g3,g4⟩|⟨hl,g1⟩
     .rw [s2] at g2;cases g2;exfalso;obtain⟨v',hv',r⟩:=r2.get m' q g4;rw [g3] at hv';cases hv';obtain⟨a,u,ea,_⟩:=r.ref o2;subst ea;exact nocap j p a hj h1 o1 s1 (hw a ⟨m',q,g4,o2,g3⟩)
     .exact R1.dj j l p q v h1 g1 o1 o2 s1 s2
   .rcases z with z|z
    .exact r2.dom b (.inl z)
    .rw [z,eD];exact nofun
   .rcases w' b w with w|w
    .rcases z with z|z
     .exact r2.sep b (.inl z) w
     .rw [z] at w;exact r2.sep D AiD w
    .rcases z with z|z
     .exact R1.sep b z w.1
     .rw [z] at w;exact nD w.1
  have f2:Fr ρ1 σ H1 (back ix ρ1 τρ) H2:=by
   refine⟨λb o nn e=>kp1 b o (λz=>nn (wsub b z)) (λz=>by rw [z,hD] at e;cases e) e,λb z=>F2.dm b ?_,λb z=>?_⟩
   .intro e
    by_cases zz:b=D
    .exact z (by rw [zz];exact hD)
    .rw [show H0' b=H1 b from ai zz] at e;exact z e
   .rcases w' b z with z|z
    .exact wsub b (hw b z)
    .exact z.1
  have hD0:H D=none:=by
   cases e:H D with
   | none=>rfl
   | some o=>exact absurd hD (f1.dm D (by rw [e];exact nofun))
  have nO:¬ OO A (back ix ρ1 τρ) σ D:=λz=>z.elim (λz=>R1.dom D z hD) λz=>R'.sep D (.inr rfl) z;exact k _ H2 (.dat (.dic (ys.map tj) (ys.map u_))) _ q' (f1.trans f2) ⟨R'.less λb z=>.inl z,.dic nO eD fD.1 (fD.2.keeps (aF.less λb z=>oo' b (z.imp .inl id)))⟩
section
variable {X:Cx}{K:b_}{O:Addr->Prop}{H:Hp}{td ty:TE}{o i:Expr}{pos:Pos}
noncomputable def sg:R2:=λx y H Q=>∃a v,x=.ref a/\nW H a y (some v)/\Q v H
def qQ(hu:X.A.units+64<cLine)(ho:PE X o td)(hi:PE X i ty)(hs:xu i):PE X (.Subscript o i pos) (tOp sg td ty):=sW (by omega) ho hi hs
noncomputable def yn:D->Option Key
 | .int i=>some (.inl i)
 | .str w=>some (.inr (S w))
 | _=>none
def FV.key{v:V}{d:D}{k:Key}(h:FV K O H v d)(e:yn d=some k):v=kV k:=by
 cases h <;> first|(cases e;done)|(cases e;rfl)
noncomputable def wy:F2
 | .dic ks ds,d,Q=>∃k,yn d=some k/\∃r,g9 ks ds k=some r/\Q (.dat r)
 | _,_,_=>False
def ug:LO K sg wy:=by
 intro O H x y a b Q Q' dom fx fy q k;unfold wy at q
 split at q
 .obtain⟨kk,ek,r,hr,q⟩:=q;obtain⟨p,kvs,rfl,e,m,f⟩:=fx.dic;have ey:y=kV kk:=(fy.fv (by intro _ z;rw [z] at ek;cases ek) (by intro _ _ _ z;rw [z] at ek;cases ek)).key ek;subst ey
  rcases kZ kk m f with ⟨_,h2⟩|⟨v,d,h1,h2,fd⟩
  .rw [hr] at h2;cases h2
  .rw [hr] at h2;cases h2;exact⟨p,v,rfl,by have:=nW.k (k:=kk) e;rwa [h1] at this,k _ H _ q (Gr.refl _) fd⟩
 .exact q.elim
noncomputable def wU(neg:Bool):R2:=λx y H Q=>∃a kvs k,y=.ref a/\x=kV k/\H a=some (.dK kvs)/\Q (.bl (if neg then !(kJ kvs k).isSome else (kJ kvs k).isSome)) H
def yo(hu:X.A.units+64<cLine):OpR X (compareOp .In) (wU false):=by
 intro pins s σ H x y v u Q I rx ry h;obtain⟨a,kvs,k,rfl,rfl,e,q⟩:=h;cases (show u=k_ a from ry);exact ze (by omega) I (nW.k e) rx λs' I'=>⟨.bl _,H,I',rfl,q⟩
def qR(hu:X.A.units+64<cLine):OpR X (compareOp .NotIn) (wU true):=by
 intro pins s σ H x y v u Q I rx ry h;obtain⟨a,kvs,k,rfl,rfl,e,q⟩:=h;cases (show u=k_ a from ry);exact sU (by omega) I (nW.k e) rx λs' I'=>⟨.bl _,H,I',rfl,q⟩
noncomputable def y0(neg:Bool):F2
 | d,.dic ks ds,Q=>∃k,yn d=some k/\Q (.dat (.bl (if neg then !(g9 ks ds k).isSome else (g9 ks ds k).isSome)))
 | _,_,_=>False
def sh{neg:Bool}:LO K (wU neg) (y0 neg):=by
 intro O H x y a b Q Q' dom fx fy q k;unfold y0 at q
 split at q
 .obtain⟨kk,ek,q⟩:=q;obtain⟨p,kvs,rfl,e,m,f⟩:=fy.dic;have ey:x=kV kk:=(fx.fv (by intro _ z;rw [z] at ek;cases ek) (by intro _ _ _ z;rw [z] at ek;cases ek)).key ek;subst ey;refine⟨p,kvs,kk,rfl,rfl,e,k _ H _ q (Gr.refl _) ?_⟩
  rcases kZ kk m f with ⟨h1,h2⟩|⟨v,d,h1,h2,_⟩
  .rw [h1,h2];exact .bl _
  .rw [h1,h2];exact .bl _
 .exact q.elim
noncomputable def zD(pa:PA1):PTT:=λρ Q=>pa ρ λx ρ1=>match cont ρ1 x with
 | some (.lst ds)=>Q (!ds.isEmpty) ρ1
 | _=>False
def wz{pa:PA1}{ta:TE}(h:LA1 K ta pa):LT K (tBL K ta) (zD pa):=λA ρ σ H Q Q' R q k=>h A ρ σ H _ _ R q λv H1 x ρ1 q1 f1 R1 o1=>by
 split at q1
 .rename_i ds e;obtain⟨a0,xs,rfl,g,f⟩:=(R1.cont o1 e).lst;exact⟨!ds.isEmpty,.inl ⟨_,SqL.of g,f.emp.symm⟩,k _ H1 ρ1 q1 f1 R1⟩
 .exact q1.elim
end
end L2
namespace K23
open PySem PySem.Spec PyProof.Rows L2
noncomputable def top(i:Nat):Stmt:=PySem.Challenge.pw_shortglue_k23_order_of_joins.main.body.getD i (.Pass ⟨0,0,0,0⟩)
abbrev i4:Stmt:=top 18
abbrev dR:Stmt:=top 19
abbrev cu:Stmt:=top 20
abbrev e8:Stmt:=top 22
abbrev dS:Stmt:=top 24
abbrev bM:Stmt:=top 25
abbrev dU:Stmt:=top 27
abbrev e9:Stmt:=top 28
abbrev fb:Stmt:=top 29
abbrev dW:Stmt:=top 32
abbrev dX:Stmt:=top 33
abbrev cv:Stmt:=top 34
abbrev dY:Stmt:=top 35
abbrev dZ:Stmt:=top 36
abbrev fc:Stmt:=top 37
abbrev cw:Stmt:=top 38
abbrev c5:Stmt:=top 39
abbrev fe:Stmt:=top 40
abbrev qS:Stmt:=top 41
def pw:aA ["thing"] ["thing"] (ag i4):=⟨rfl,rfl,rfl,by decide +kernel,rfl,by decide +kernel,by decide +kernel⟩
def jW:aA ["thing"] ["thing"] (ag dR):=⟨rfl,rfl,rfl,by decide +kernel,rfl,by decide +kernel,by decide +kernel⟩
def hG:aA ["thing","many"] ["thing","many"] (ag cu):=⟨rfl,rfl,rfl,by decide +kernel,rfl,by decide +kernel,by decide +kernel⟩
def k7:aA ["thing","many"] ["thing","many"] (ag e8):=⟨rfl,rfl,rfl,by decide +kernel,rfl,by decide +kernel,by decide +kernel⟩
def jX:aA ["thing","many"] ["thing","many"] (ag dS):=⟨rfl,rfl,rfl,by decide +kernel,rfl,by decide +kernel,by decide +kernel⟩
def bb:aA ["joins","many","followers","led","order"] ["joins","many"] (ag bM):=⟨rfl,rfl,rfl,by decide +kernel,rfl,by decide +kernel,by decide +kernel⟩
def ba:aA ["_law_cell","_law_k","_law_number"] ["_law_cell","_law_k"] (ag dU):=⟨rfl,rfl,rfl,by decide +kernel,rfl,by decide +kernel,by decide +kernel⟩
def a5:aA ["_law_script","_law_many","_law_cells","_law_found","_law_turn","_law_cell","_law_rest"] ["_law_script","_law_many"] (ag e9):=⟨rfl,rfl,rfl,by decide +kernel,rfl,by decide +kernel,by decide +kernel⟩
def k8:aA ["_law_deck_here"] ["_law_deck_here"] (ag fb):=⟨rfl,rfl,rfl,by decide +kernel,rfl,by decide +kernel,by decide +kernel⟩
def jY:aA ["_law_found"] ["_law_found"] (ag dW):=⟨rfl,rfl,rfl,by decide +kernel,rfl,by decide +kernel,by decide +kernel⟩
def aU:aA ["_law_error","_law_found"] ["_law_error"] (ag dX):=⟨rfl,rfl,rfl,by decide +kernel,rfl,by decide +kernel,by decide +kernel⟩
def hU:aA ["_law_error","_law_told_here"] ["_law_error","_law_told_here"] (ag cv):=⟨rfl,rfl,rfl,by decide +kernel,rfl,by decide +kernel,by decide +kernel⟩
def c6:aA ["_law_deck_here","_law_many","_law_rest","_law_found"] ["_law_deck_here","_law_many"] (ag dY):=⟨rfl,rfl,rfl,by decide +kernel,rfl,by decide +kernel,by decide +kernel⟩
def bK:aA ["_law_deck_here","_law_order_here","_law_joins_here","_law_k","_law_number","_law_third"] ["_law_deck_here","_law_order_here"] (ag dZ):=⟨rfl,rfl,rfl,by decide +kernel,rfl,by decide +kernel,by decide +kernel⟩
def aN:aA ["_law_joins_here","_law_order_here","_law_at","_law_many","_law_found","_law_one","_law_k","_law_rest","_law_back","_law_gone"] ["_law_joins_here","_law_order_here","_law_at"] (ag fc):=⟨rfl,rfl,rfl,by decide +kernel,rfl,by decide +kernel,by decide +kernel⟩
def dE:aA ["_law_joins_here","_law_many","_law_error"] ["_law_joins_here","_law_many"] (ag cw):=⟨rfl,rfl,rfl,by decide +kernel,rfl,by decide +kernel,by decide +kernel⟩
def cz:aA ["_law_many","_law_found","_law_one"] ["_law_many"] (ag c5):=⟨rfl,rfl,rfl,by decide +kernel,rfl,by decide +kernel,by decide +kernel⟩
def gz:aA ["_law_joins_here","_law_order_here","_law_found"] ["_law_joins_here","_law_order_here"] (ag fe):=⟨rfl,rfl,rfl,by decide +kernel,rfl,by decide +kernel,by decide +kernel⟩
def eM:aA ["_law_script","_law_deck_here","_law_many","_law_order_here","_law_joins_here","_law_handed","_law_bent_here","_law_thing"] ["_law_script"] (ag qS):=⟨rfl,rfl,rfl,by decide +kernel,rfl,by decide +kernel,by decide +kernel⟩
structure Txt (mg:Str->Option Value):Prop where
 b_ValueError:mg "ValueError"=none
 b_all:mg "all"=none
 b_bool:mg "bool"=none
 b_int:mg "int"=none
 b_isinstance:mg "isinstance"=none
 b_len:mg "len"=none
 b_list:mg "list"=none
 b_max:mg "max"=none
 b_range:mg "range"=none
 b_reversed:mg "reversed"=none
 b_sorted:mg "sorted"=none
 b_tuple:mg "tuple"=none
abbrev bY:Stmt:=ci (top 2) 0
def gA:aA ["self","most"] ["self","most"] (ag bY):=⟨rfl,rfl,rfl,by decide +kernel,rfl,by decide +kernel,by decide +kernel⟩
abbrev bZ:Stmt:=ci (top 3) 0
def gB:aA ["self","at"] ["self","at"] (ag bZ):=⟨rfl,rfl,rfl,by decide +kernel,rfl,by decide +kernel,by decide +kernel⟩
abbrev c7:Stmt:=ci (top 4) 0
def i5:aA ["self","k"] ["self","k"] (ag c7):=⟨rfl,rfl,rfl,by decide +kernel,rfl,by decide +kernel,by decide +kernel⟩
abbrev b5:Stmt:=ci (top 6) 0
def gC:aA ["self","at"] ["self","at"] (ag b5):=⟨rfl,rfl,rfl,by decide +kernel,rfl,by decide +kernel,by decide +kernel⟩
abbrev bU:Stmt:=ci (top 9) 0
def fQ:aA ["self","most"] ["self","most"] (ag bU):=⟨rfl,rfl,rfl,by decide +kernel,rfl,by decide +kernel,by decide +kernel⟩
abbrev bV:Stmt:=ci (top 11) 0
def fR:aA ["self","at"] ["self","at"] (ag bV):=⟨rfl,rfl,rfl,by decide +kernel,rfl,by decide +kernel,by decide +kernel⟩
abbrev bW:Stmt:=ci (top 12) 0
def fS:aA ["self","at"] ["self","at"] (ag bW):=⟨rfl,rfl,rfl,by decide +kernel,rfl,by decide +kernel,by decide +kernel⟩
abbrev bF:Stmt:=ci (top 13) 0
def eN:aA ["self","at"] ["self","at"] (ag bF):=⟨rfl,rfl,rfl,by decide +kernel,rfl,by decide +kernel,by decide +kernel⟩
abbrev cA:Stmt:=ci (top 14) 0
def hV:aA ["self","at"] ["self","at"] (ag cA):=⟨rfl,rfl,rfl,by decide +kernel,rfl,by decide +kernel,by decide +kernel⟩
abbrev xcs:List Str:=["TooMany","NoPiece","NoLap","NoOrder","NotHeld","NoTable","NoRing","TooGreat","NoWords","NotApart","NoCounts","NotCovered","NoLine","NoPaper","NotTold"]
abbrev y6:List (Str×Str):=[("TooMany","most"),("NoPiece","at"),("NoLap","k"),("NotHeld","at"),("TooGreat","most"),("NotApart","at"),("NoCounts","at"),("NotCovered","at"),("NoLine","at")]
structure TxX (K:b_) (mg:Str->Option Value):Prop where
 all:tV K xcs
 at_:∀c g,(c,g)∈y6->l_ K (.ref (az K c)) g=some none
 m'b:mg "TooMany"=some (.ref (az K "TooMany"))
 m'c:mg "NoPiece"=some (.ref (az K "NoPiece"))
 m'd:mg "NoLap"=some (.ref (az K "NoLap"))
 m'e:mg "NoOrder"=some (.ref (az K "NoOrder"))
 m'f:mg "NotHeld"=some (.ref (az K "NotHeld"))
 m'g:mg "NoTable"=some (.ref (az K "NoTable"))
 m'h:mg "NoRing"=some (.ref (az K "NoRing"))
 m'i:mg "TooGreat"=some (.ref (az K "TooGreat"))
 m'j:mg "NoWords"=some (.ref (az K "NoWords"))
 m'k:mg "NotApart"=some (.ref (az K "NotApart"))
 m'l:mg "NoCounts"=some (.ref (az K "NoCounts"))
 m'm:mg "NotCovered"=some (.ref (az K "NotCovered"))
 m'n:mg "NoLine"=some (.ref (az K "NoLine"))
 m'o:mg "NoPaper"=some (.ref (az K "NoPaper"))
 m'p:mg "NotTold"=some (.ref (az K "NotTold"))
 m'a:mg "GlueError"=some (.ref (az K "GlueError"))
 d'b:XD K (az K "TooMany")
 d'c:XD K (az K "NoPiece")
 d'd:XD K (az K "NoLap")
 d'e:XD K (az K "NoOrder")
 d'f:XD K (az K "NotHeld")
 d'g:XD K (az K "NoTable")
 d'h:XD K (az K "NoRing")
 d'i:XD K (az K "TooGreat")
 d'j:XD K (az K "NoWords")
 d'k:XD K (az K "NotApart")
 d'l:XD K (az K "NoCounts")
 d'm:XD K (az K "NotCovered")
 d'n:XD K (az K "NoLine")
 d'o:XD K (az K "NoPaper")
 d'p:XD K (az K "NotTold")
 d'a:XD K (az K "GlueError")
 z'e:X0 K (az K "NoOrder")
 kp'e:we K (.ref (az K "NoOrder"))=true
 z'g:X0 K (az K "NoTable")
 kp'g:we K (.ref (az K "NoTable"))=true
 z'h:X0 K (az K "NoRing")
 kp'h:we K (.ref (az K "NoRing"))=true
 z'j:X0 K (az K "NoWords")
 kp'j:we K (.ref (az K "NoWords"))=true
 z'o:X0 K (az K "NoPaper")
 kp'o:we K (.ref (az K "NoPaper"))=true
 z'p:X0 K (az K "NotTold")
 kp'p:we K (.ref (az K "NotTold"))=true
local macro_rules | `(tactic| walk_at "s")=>`(tactic| first | (with_reducible omega) | (with_reducible assumption) | (with_reducible rfl) | exact le_of_ble_eq_true rfl | (simp only [length_cons,length_nil,length_append,length_map];(with_reducible omega)) | assumption | rfl | (refine ⟨?_,?_⟩ <;> first | (with_reducible omega) | (with_reducible assumption) | (with_reducible rfl) | exact le_of_ble_eq_true rfl | assumption | rfl | (refine ⟨?_,?_⟩ <;> first | (with_reducible omega) | (with_reducible assumption) | (with_reducible rfl) | exact le_of_ble_eq_true rfl | assumption | rfl | (refine ⟨?_,?_⟩ <;> first | (with_reducible omega) | (with_reducible assumption) | (with_reducible rfl) | exact le_of_ble_eq_true rfl | assumption | rfl | fail) | fail) | fail) | omega | fail)
local macro_rules | `(tactic| walk_at "r")=>`(tactic| ((try dsimp only [set_cons_zero,set_cons_succ,oW,oY,oZ,wp,wq,jR,iy,iz,lR,lS,tail_cons,jS,jT,lT,o9,pd,sd]);(conv=>whnf);(repeat (first | ((with_reducible refine And.intro ?_ ?_);(next=>walk_at "s");(conv=>whnf)) | ((with_reducible refine (show Exists _ from ?_));(first | (refine ⟨_,rfl,?_⟩) | (refine ⟨_,dP.lst _,?_⟩) | (refine ⟨_,dP.tup _,?_⟩));(conv=>whnf)) | ((refine (show fm _ _ _ from ?_));(first | (with_reducible refine zf (by assumption) ?_) | (with_reducible refine zg (by assumption) ?_) | (with_reducible refine xA (by assumption) ?_) | (with_reducible refine xB (by assumption) ?_) | ((with_reducible refine xy ?_ ?_);(next=>(first | (with_reducible rfl) | (with_reducible assumption) | (with_reducible omega)))) | ((with_reducible refine xz ?_ ?_);(next=>(first | (with_reducible rfl) | (with_reducible assumption) | (with_reducible omega)))) | ((with_reducible refine vE ?_ ?_);(next=>(first | (with_reducible rfl) | (with_reducible assumption) | (with_reducible omega)))) | ((with_reducible refine vF ?_ ?_);(next=>(first | (with_reducible rfl) | (with_reducible assumption) | (with_reducible omega)))));(conv=>whnf))));(try refine (show fm _ _ _ from ?_));(try dsimp only [set_cons_zero,set_cons_succ,oW,oY,oZ,wp,wq,jR,iy,iz,lR,lS,tail_cons,jS,jT,lT,o9,pd,sd])))
local macro_rules | `(tactic| walk_at "z")=>`(tactic| dsimp only [wP,x3,wR,bh,List.map,List.length,List.replicate,cons_append,nil_append,Nat.reduceSub,Nat.reduceAdd,Nat.zero_add])
noncomputable def eO:FN:=λa_ Q=>cD (λd=>cN (d.sort=true/\Q (.dat (.bl (g7 d))))) a_
noncomputable def bX:FN:=λa_ Q=>cD (λd=>cN (d.sort=true/\Q (.dat (.bl (iU d))))) a_
noncomputable def bi:FN:=λa_ Q=>cD (λd=>cI (λm=>cN (Srt d/\(aM d).length<=1000000/\Q (.dat (.bl (aQ d m)))))) a_
noncomputable def gD(d:D)(m:Int):Bool:=aQ d m && decide (((aM d).map toI).Perm (mF m.toNat))
def gE(js:List Nat):js.map nD=(js.map λj=>((j:Nat):Int)).map D.int:=by rw [map_map];rfl
def qT{js:List Nat}{n:Nat}{d:D}(hd:dP d (js.map nD))(hp:js.Perm (p_ n)):gD d n=true:=by
 have hl:js.length=n:=by rw [hp.length_eq,length_range]
 unfold gD aQ;rw [and_eq_true,and_eq_true,and_eq_true,hd.items]
 refine⟨⟨by rcases hd with rfl|rfl <;> rfl,decide_eq_true (by rw [length_map,hl]),?_⟩,decide_eq_true ?_⟩
 .rw [gE,all_map];exact Bq.mpr λ_ _=>rfl
 .rw [gE,map_map];show ((js.map λj=>((j:Nat):Int)).map id).Perm _;rw [map_id,zK];exact hp.map _
def qU{d:D}{n:Nat}(h:gD d n=true):∃js:List Nat,dP d (js.map nD)/\js.Perm (p_ n):=by
 unfold gD at h;rw [and_eq_true,decide_eq_true_eq,zK] at h;obtain⟨c,hp⟩:=h;unfold aQ at c;rw [and_eq_true,and_eq_true] at c;obtain⟨c1,c2,c3⟩:=c
 have back:∀zs:List Int,zs.Perm (mF n)->∃js:List Nat,zs=js.map (λj=>((j:Nat):Int))/\js.Perm (p_ n):=λzs hz=>by
  refine⟨zs.map Cy,?_,?_⟩
  .rw [map_map]
   have:∀z∈zs,((z.toNat:Nat):Int)=z:=λz m=>by
    have:=hz.mem_iff.mp m;unfold mF at this;obtain⟨k,_,e⟩:=zW.mp this;omega
   conv=>lhs;rw [<- map_id zs]
   exact AZ λz m=>(this z m).symm
  .have:=hz.map Cy;unfold mF at this;rw [map_map] at this
   have e:(p_ n).map (Cy ∘ λk=>((k:Nat):Int))=p_ n:=by
    conv=>rhs;rw [<- map_id (p_ n)]
    exact AZ λk _=>zK k
   rw [e] at this;exact this
 obtain⟨js,e,hj⟩:=back _ hp;refine⟨js,?_,hj⟩;have e2:aM d=js.map nD:=by rw [e5 c3,e,gE]
 cases d with
 | lst ds=>exact .inl (congrArg D.lst e2)
 | tup ds=>exact .inr (congrArg D.tup e2)
 | _=>cases c1
def wA{js ks:List Nat}(e:js.map nD=ks.map nD):js=ks:=by
 have:=congrArg (List.map toI) e;rw [gE,gE,map_map,map_map,map_map,map_map] at this;have:=congrArg (List.map Cy) this;rw [map_map,map_map] at this
 have id1:∀l:List Nat,l.map (Cy ∘ (toI ∘ D.int) ∘ λj=>((j:Nat):Int))=l:=λl=>by
  conv=>rhs;rw [<- map_id l]
  exact AZ λk _=>zK k
 rw [id1,id1] at this;exact this
noncomputable def ef:FN:=λa_ Q=>cD (λd=>cI (λm=>cN (Srt d/\((aM d).length<=60/\0<=m/\m<=60)/\Q (.dat (.bl (gD d m)))))) a_
noncomputable def fT(d:D)(m:Int):Bool:=g7 d && decide (((aM d).length:Int)=if 0 > m - 1 then 0 else m - 1) && (aM d).all λr=>aQ r 3
noncomputable def JOk(d:D):Prop:=Srt d/\(aM d).length<=1000/\∀r∈aM d,Srt r/\(aM r).length<=1000
def pz{d:D}(h:g7 d=true):dP d (aM d):=by
 cases d <;> first|exact .inl rfl|exact .inr rfl|cases h
def k9{r:D}{m:Nat}(h:aQ r m=true):∃zs:List Int,dP r (zs.map .int)/\zs.length=m:=by
 unfold aQ at h;rw [and_eq_true,and_eq_true] at h;obtain⟨c1,c2,c3⟩:=h;have c2:=of_decide_eq_true c2
 cases r with
 | lst ds=>exact⟨ds.map toI,.inl (congrArg _ (e5 c3)),by rw [length_map];exact AR c2⟩
 | tup ds=>exact⟨ds.map toI,.inr (congrArg _ (e5 c3)),by rw [length_map];exact AR c2⟩
 | _=>cases c1
def mH{d:D}{n:Nat}(h:fT d n=true):(aM d).length=n - 1/\dP d (aM d)/\∀r∈aM d,∃i j k:Int,dP r [.int i,.int j,.int k]:=by
 unfold fT at h;rw [and_eq_true,and_eq_true] at h;obtain⟨⟨c1,c2⟩,c3⟩:=h;have c2:=of_decide_eq_true c2;refine⟨by split at c2 <;> omega,pz c1,λr hr=>?_⟩;obtain⟨zs,hz,hl⟩:=k9 (m:=3) (Bq.mp c3 r hr)
 match zs,hl with
 | [i,j,k],_=>exact⟨i,j,k,hz⟩
def getElem?_itD{ds:List D}{k:Nat}(h:k<ds.length):ds[k]?=some (itD ds k):=by unfold itD;rw [g_,d_ h];rfl
noncomputable def c8:FN:=λa_ Q=>cD (λd=>cI (λm=>cN (JOk d/\(0<=m/\m<=60)/\Q (.dat (.bl (fT d m)))))) a_
noncomputable def cC(l:List (Key×D))(k:Key):Option D:=(l.find? λp=>decide (p.1=k)).map (·.2)
def gF(l:List (Key×D))(k:Key):g9 (l.map tj) (l.map u_) k=cC l k:=by
 unfold g9 cC;rw [List.zip_map',find?_map]
 cases e:l.find? ((λp=>decide (p.1=k)) ∘ λa=>(a.1,a.2)) with
 | none=>rw [show (l.find? λp=>decide (p.1=k))=none from e];rfl
 | some p=>rw [show (l.find? λp=>decide (p.1=k))=some p from e];rfl
theorem jZ(k j:Key)(d:D):∀l:List (Key×D),cC (l.map λp=>if p.1=k then (p.1,d) else p) j=(cC l j).map λx=>if j=k then d else x
 | []=>rfl
 | p::r=>by
  have ih:=jZ k j d r;unfold cC at ih ⊢;rw [map_cons,AQ,AQ]
  by_cases e:p.1=k
  .rw [if_pos e]
   by_cases h:p.1=j
   .rw [decide_eq_true (show (p.1,d).1=j from h)];exact congrArg some (if_pos (h.symm.trans e)).symm
   .rw [decide_eq_false (show ¬ (p.1,d).1=j from h)];exact ih
  .rw [if_neg e]
   by_cases h:p.1=j
   .rw [decide_eq_true h];exact congrArg some (if_neg λz=>e (h.trans z)).symm
   .rw [decide_eq_false h];exact ih
def gG(l:List (Key×D))(k j:Key)(d:D):cC (mO l k d) j=if j=k then some d else cC l j:=by
 unfold mO
 by_cases c:(l.any λp=>decide (p.1=k))=true
 .rw [if_pos c,jZ];obtain⟨p,hp,e⟩:=any_eq_true.mp c
  by_cases h:j=k
  .rw [if_pos h]
   cases q:cC l j with
   | some x=>exact congrArg some (if_pos h)
   | none =>
    exfalso;unfold cC at q;rw [Bz] at q;have:=find?_eq_none.mp q p hp;rw [h] at this;exact this e
  .rw [if_neg h]
   cases cC l j with
   | some x=>exact congrArg some (if_neg h)
   | none=>rfl
 .rw [if_neg c]
  have no:cC l k=none:=by
   unfold cC;rw [Bz,find?_eq_none];exact λp hp e=>c (any_eq_true.mpr ⟨p,hp,e⟩)
  unfold cC at no ⊢;rw [find?_append]
  by_cases h:j=k
  .subst h;rw [if_pos rfl,Bz.mp no,AQ,decide_eq_true rfl];rfl
  .rw [if_neg h,AQ,decide_eq_false (λz:(k,d).1=j=>h z.symm)];cases l.find? λp=>decide (p.1=j) <;> rfl
noncomputable def mI(ps:List (Int×Int)):List (Key×D):=ps.foldl (λa p=>mO a (.inl p.1) (.int p.2)) []
noncomputable def pA(ps:List (Int×Int)):List (Key×D):=ps.foldl (λa p=>mO a (.inl p.2) (.bl true)) []
def gH(ps:List (Int×Int))(p:Int×Int):mI (ps++[p])=mO (mI ps) (.inl p.1) (.int p.2):=by unfold mI;rw [foldl_append];rfl
def j0(ps:List (Int×Int))(p:Int×Int):pA (ps++[p])=mO (pA ps) (.inl p.2) (.bl true):=by unfold pA;rw [foldl_append];rfl
def i6{α:Type}{P:List α->Prop}(h0:P [])(h1:∀l a,P l->P (l++[a]))(l:List α):P l:=by
 have:∀m:List α,P m.reverse:=λm=>by
  induction m with
  | nil=>exact h0
  | cons a r ih=>rw [BW];exact h1 _ _ ih
 have:=this l.reverse
 rwa [reverse_reverse] at this
def pD(ps:List (Int×Int))(x:Int):(cC (pA ps) (.inl x)).isSome=decide (x∈ps.map u_):=by
 induction ps using i6 with
 | h0=>rfl
 | h1 l p ih =>
  rw [j0,gG,map_append]
  by_cases e:x=p.2
  .rw [if_pos (congrArg Br e),decide_eq_true (pj _ (by rw [e];exact s_.mpr rfl))];rfl
  .rw [if_neg (λz=>e (CP z)),ih];refine decide_eq_decide.mpr ⟨λz=>zX _ z,λz=>(z0.mp z).elim id λy=>absurd (s_.mp y) e⟩
def pE(ps:List (Int×Int)){x:Int}{d:D}(h:cC (mI ps) (.inl x)=some d):∃y,d=.int y/\(x,y)∈ps:=by
 induction ps using i6 with
 | h0=>cases h
 | h1 l p ih =>
  rw [gH,gG] at h
  by_cases e:x=p.1
  .rw [if_pos (congrArg Br e)] at h;cases h;exact⟨p.2,rfl,pj _ (by rw [e];exact s_.mpr rfl)⟩
  .rw [if_neg (λz=>e (CP z))] at h;obtain⟨y,e1,m⟩:=ih h;exact⟨y,e1,zX _ m⟩
def uh(ps:List (Int×Int)){x y:Int}(h:(x,y)∈ps):∃d,cC (mI ps) (.inl x)=some d:=by
 induction ps using i6 with
 | h0=>cases h
 | h1 l p ih =>
  rw [gH,gG]
  by_cases e:x=p.1
  .rw [if_pos (congrArg Br e)];exact⟨_,rfl⟩
  .rw [if_neg (λz=>e (CP z))];exact ih ((z0.mp h).elim id λz=>absurd (congrArg tj (s_.mp z)) e)
noncomputable def Chn(ps:List (Int×Int))(n:Nat)(o:List Nat):Prop:=ps.length=n - 1/\o.Perm (p_ n)/\∀(i a b:Nat),o[i]?=some a->o[i+1]?=some b->((a:Int),(b:Int))∈ps
theorem gI{α:Type}:∀{l m:List α},l.Nodup->(∀x∈l,x∈m)->m.length=l.length->m.Perm l
 | [],m,_,_,hl=>by rw [Ak.mp hl]
 | x::r,m,nd,h,hl=>by
  obtain⟨nx,nd⟩:=B7.mp nd;obtain⟨s,t,rfl⟩:=append_of_mem (h x (mem_cons_self ..))
  have e:(s++t).Perm r:=gI nd (λy hy=>by
   have:=h y (w_ _ hy)
   rcases z0.mp this with z|z
   .exact zX _ z
   .rcases mem_cons.mp z with z|z
    .rw [z] at hy;exact absurd hy nx
    .exact pj _ z) (by rw [length_append,length_cons] at hl;rw [length_append];simp only [length_cons] at hl;omega)
  exact perm_middle.trans (e.cons x)
noncomputable def stp(o:List Nat):List (Int×Int):=(p_ (o.length - 1)).map λi=>(((o.getD i 0:Nat):Int),((o.getD (i+1) 0:Nat):Int))
def Chn.perm{ps:List (Int×Int)}{n:Nat}{o:List Nat}(h:Chn ps n o):ps.Perm (stp o):=by
 obtain⟨hl,hp,hs⟩:=h;have ol:o.length=n:=by rw [hp.length_eq,length_range]
 have nd:o.Nodup:=hp.nodup_iff.mpr Ao
 refine gI ?_ (λx hx=>?_) (by unfold stp;rw [length_map,length_range,hl,ol])
 .refine pairwise_map.mpr (Ao.imp_of_mem λ{a b} ha hb ne e=>ne ?_);have ha:=mem_range.mp ha;have hb:=mem_range.mp hb;have e1:o.getD a 0=o.getD b 0:=by have:=congrArg tj e;exact AR this
  refine jV nd (i:=a) (j:=b) (by omega) ?_;rw [g_,g_,d_ (by omega),d_ (by omega)] at e1;rw [d_ (by omega),d_ (by omega)];exact congrArg some e1
 .obtain⟨i,hi,rfl⟩:=zW.mp hx;have hi:=mem_range.mp hi;exact hs i _ _ (by rw [g_,d_ (by omega)];rfl) (by rw [g_,d_ (by omega)];rfl)
def ui{o:List Nat}:(stp o).map tj=(o.dropLast).map λx=>((x:Nat):Int):=by
 unfold stp;rw [map_map];refine ext_getElem (by rw [length_map,length_map,length_range,Bn]) λi h1 h2=>?_;rw [length_map,length_range] at h1;rw [getElem_map,getElem_map,getElem_range,getElem_dropLast];show ((o.getD i 0:Nat):Int)=_;rw [g_,d_ (by omega)];rfl
def uj{o:List Nat}:(stp o).map u_=o.tail.map λx=>((x:Nat):Int):=by
 unfold stp;rw [map_map];refine ext_getElem (by rw [length_map,length_map,length_range,CW]) λi h1 h2=>?_;rw [length_map,length_range] at h1;rw [getElem_map,getElem_map,getElem_range,getElem_tail];show ((o.getD (i+1) 0:Nat):Int)=_;rw [g_,d_ (by omega)];rfl
def i7{l:List Nat}(h:l.Nodup):(l.map λx=>((x:Nat):Int)).Nodup:=pairwise_map.mpr (h.imp λ{a b} ne e=>ne (AR e))
def Chn.fst{ps:List (Int×Int)}{n:Nat}{o:List Nat}(h:Chn ps n o):(ps.map tj).Nodup/\∀p∈ps,0<=p.1/\p.1<n:=by
 have e:=h.perm.map tj;rw [ui] at e;have nd:o.Nodup:=h.2.1.nodup_iff.mpr Ao;refine⟨e.nodup_iff.mpr (i7 (nd.sublist (dropLast_sublist _))),λp hp=>?_⟩;obtain⟨x,hx,ex⟩:=zW.mp (e.mem_iff.mp (A0 hp));have:=mem_range.mp (h.2.1.mem_iff.mp ((dropLast_sublist _).subset hx));rw [<- ex];omega
def Chn.snd{ps:List (Int×Int)}{n:Nat}{o:List Nat}(h:Chn ps n o):(ps.map u_).Nodup/\∀p∈ps,0<=p.2/\p.2<n:=by
 have e:=h.perm.map u_;rw [uj] at e;have nd:o.Nodup:=h.2.1.nodup_iff.mpr Ao;refine⟨e.nodup_iff.mpr (i7 (nd.sublist (tail_sublist _))),λp hp=>?_⟩;obtain⟨x,hx,ex⟩:=zW.mp (e.mem_iff.mp (A0 hp));have:=mem_range.mp (h.2.1.mem_iff.mp (mem_of_mem_tail hx));rw [<- ex];omega
def wB{α:Type}{f:α->Int}{l:List α}(h:(l.map f).Nodup){a b:α}(ha:a∈l)(hb:b∈l)(e:f a=f b):a=b:=by
 obtain⟨i,hi,rfl⟩:=A1 ha;obtain⟨j,hj,rfl⟩:=A1 hb;have:i=j:=(getElem?_inj (by rw [length_map];exact hi) h).mp (by rw [so,so,d_ hi,d_ hj];exact congrArg some e);subst this;rfl
def Chn.at0{ps:List (Int×Int)}{n:Nat}{o:List Nat}(h:Chn ps n o){x:Nat}(hx:x<n)(hn:(x:Int)∉ps.map u_):o[0]?=some x:=by
 obtain⟨i,hi,e⟩:=A1 (h.2.1.mem_iff.mpr (mem_range.mpr hx))
 cases i with
 | zero=>rw [d_ hi,e]
 | succ j =>
  exfalso;have:=h.2.2 j _ _ (d_ (by omega)) (d_ hi);rw [e] at this;exact hn (A0 (f:=u_) this)
def j1{ps:List (Int×Int)}{n s:Nat}(hl:ps.length=n - 1)(hs:s<n)(h:∀x,x<n->x≠s->(x:Int)∈ps.map u_):(ps.map u_).Nodup/\∀p∈ps,∃y:Nat,p.2=y/\y<n/\y≠s:=by
 have nd:((p_ n).erase s).Nodup:=Ao.sublist (erase_sublist)
 have e:(ps.map u_).Perm (((p_ n).erase s).map λx=>((x:Nat):Int)):=by
  refine gI (i7 nd) (λz hz=>?_) ?_
  .obtain⟨x,hx,rfl⟩:=zW.mp hz;have:=(Ao (n:=n)).mem_erase_iff.mp hx;exact h x (mem_range.mp this.2) this.1
  .rw [length_map,length_map,hl,length_erase_of_mem (mem_range.mpr hs),length_range]
 refine⟨e.nodup_iff.mpr (i7 nd),λp hp=>?_⟩;obtain⟨x,hx,ex⟩:=zW.mp (e.mem_iff.mp (A0 (f:=u_) hp));have:=(Ao (n:=n)).mem_erase_iff.mp hx;exact⟨x,ex.symm,mem_range.mp this.2,this.1⟩
structure Wk (ps:List (Int×Int)) (n s:Nat) (o:List Nat):Prop where
 h0:o[0]?=some s
 nd:o.Nodup
 lt:∀x∈o,x<n
 st:∀(i a b:Nat),o[i]?=some a->o[i+1]?=some b->((a:Int),(b:Int))∈ps
 pre:∀o',Chn ps n o'->∀i,i<o.length->o'[i]?=o[i]?
def Wk.start{ps:List (Int×Int)}{n s:Nat}(hs:s<n)(hn:(s:Int)∉ps.map u_):Wk ps n s [s] :=
 ⟨rfl,Cc _ _,λx hx=>by rw [s_.mp hx];exact hs,λi a b _ e=>by (rw [y_ (by rw [Aj];omega)] at e;cases e),λo' h i hi=>by
  have:i=0:=by rw [Aj] at hi;omega
  subst this;exact h.at0 hs hn⟩
def Wk.ne{ps:List (Int×Int)}{n s:Nat}{o:List Nat}(w:Wk ps n s o):0<o.length:=by
 cases e:o with
 | nil=>have:=w.h0;rw [e] at this;cases this
 | cons _ _=>exact succ_pos _
def Wk.len{ps:List (Int×Int)}{n s:Nat}{o:List Nat}(w:Wk ps n s o):o.length<=n:=fZ w.nd w.lt
def Wk.next{ps:List (Int×Int)}{n s x:Nat}{o:List Nat}(w:Wk ps n s o)(hx:o[o.length - 1]?=some x){o':List Nat}(h:Chn ps n o')(hlt:o.length<n):∃z:Nat,o'[o.length]?=some z/\((x:Int),(z:Int))∈ps:=by
 have ol:o'.length=n:=by rw [h.2.1.length_eq,length_range]
 have h0:=w.ne;have e:=w.pre o' h (o.length - 1) (by omega);rw [hx] at e;have e2:o'[o.length - 1+1]?=some o'[o.length]:=by rw [sub_add_cancel h0];exact d_ (by omega)
 exact⟨_,d_ (by omega),h.2.2 _ _ _ e e2⟩
def Wk.step{ps:List (Int×Int)}{n s x:Nat}{o:List Nat}(hsn:(ps.map u_).Nodup/\∀p∈ps,∃y:Nat,p.2=y/\y<n/\y≠s)(w:Wk ps n s o)(hx:o[o.length - 1]?=some x){d:D}(hd:cC (mI ps) (.inl x)=some d):∃y:Nat,d=nD y/\Wk ps n s (o++[y]):=by
 obtain⟨y,rfl,m⟩:=pE ps hd;obtain⟨y,e,hy,hys⟩:=hsn.2 _ m;have e:_=(y:Int):=e;subst e;have h0:=w.ne
 have ny:y∉o:=λz=>by
  obtain⟨i,hi,e⟩:=A1 z
  cases i with
  | zero =>
   have:=w.h0;rw [d_ hi,e] at this;cases this;exact hys rfl
  | succ j =>
   have m2:=w.st j _ _ (d_ (by omega)) (d_ hi);rw [e] at m2;have:=congrArg tj (wB hsn.1 m2 m rfl)
   have e3:o[j]?=o[o.length - 1]?:=by
    rw [hx,d_ (by omega)];exact congrArg some (AR this)
   have:=jV w.nd (by omega) e3;omega
 refine⟨y,rfl,⟨by rw [Aa h0];exact w.h0,CI.mpr ⟨w.nd,Cc _ _,λa ha b hb e=>ny (by rw [<- s_.mp hb,<- e];exact ha)⟩,λz hz=>(z0.mp hz).elim (w.lt z) λq=>by rw [s_.mp q];exact hy,λi a b e1 e2=>?_,λo' h i hi=>?_⟩⟩
 .rcases lt_trichotomy (i+1) o.length with c|c|c
  .rw [Aa (by omega)] at e1 e2;exact w.st i a b e1 e2
  .rw [Aa (by omega)] at e1;rw [c,AF (o_ _),sub_self] at e2;cases e2;rw [show i=o.length - 1 by omega,hx] at e1;cases e1;exact m
  .rw [y_ (by rw [length_append,Aj];omega)] at e2;cases e2
 .by_cases c:i<o.length
  .rw [Aa c];exact w.pre o' h i c
  .have ei:i=o.length:=by rw [length_append,Aj] at hi;omega
   subst ei;rw [AF (o_ _),sub_self]
   rcases Cz o.length n with z|z
   .obtain⟨u,hu,m2⟩:=w.next hx h z;have:=congrArg u_ (wB h.fst.1 m2 m rfl);rw [hu];exact congrArg some (AR this)
   .exfalso;have nd2:(o++[y]).Nodup:=CI.mpr ⟨w.nd,Cc _ _,λa ha b hb e=>ny (by rw [<- s_.mp hb,<- e];exact ha)⟩;have:=fZ nd2 (M:=n) λq hq=>(z0.mp hq).elim (w.lt q) λq'=>by rw [s_.mp q'];exact hy
    rw [length_append,Aj] at this;omega
def Wk.stop{ps:List (Int×Int)}{n s x:Nat}{o:List Nat}(w:Wk ps n s o)(hx:o[o.length - 1]?=some x)(hd:cC (mI ps) (.inl x)=none){o':List Nat}(h:Chn ps n o'):o'=o:=by
 have ol:o'.length=n:=by rw [h.2.1.length_eq,length_range]
 have hl:=w.len
 rcases Cz o.length n with z|z
 .obtain⟨u,hu,m⟩:=w.next hx h z;obtain⟨d,e⟩:=uh ps m;rw [hd] at e;cases e
 .refine CH λi=>?_
  rcases Cz i o.length with c|c
  .exact w.pre o' h i c
  .rw [y_ c,y_ (by omega)]
noncomputable def prD(r:D):Int×Int:=(toI (itD (aM r) 0),toI (itD (aM r) 1))
noncomputable def p4(d:D):List (Int×Int):=(aM d).map prD
noncomputable def unl(ps:List (Int×Int))(n:Nat):List Nat:=(p_ n).filter λx=>!decide ((x:Int)∈ps.map u_)
def gJ{ps:List (Int×Int)}{n x:Nat}:x∈unl ps n ↔ x<n/\(x:Int)∉ps.map u_:=by
 unfold unl;rw [CA,mem_range,Bool.not_eq_true',decide_eq_false_iff_not]
def uk{ps:List (Int×Int)}{n:Nat}(h:1<(unl ps n).length)(o:List Nat):¬ Chn ps n o:=λc=>by
 have nd:(unl ps n).Nodup:=Ao.sublist filter_sublist
 match e:unl ps n,h with
 | a::b::r,_ =>
  have ha:=gJ.mp (show a∈unl ps n by rw [e];exact mem_cons_self ..);have hb:=gJ.mp (show b∈unl ps n by rw [e];exact w_ _ (mem_cons_self ..));have h1:=c.at0 ha.1 ha.2;have h2:=c.at0 hb.1 hb.2;rw [h1] at h2;cases h2;rw [e] at nd;exact (B7.mp nd).1 (mem_cons_self ..)
def qV{ps:List (Int×Int)}{n:Nat}(hl:ps.length=n - 1)(h:unl ps n=[]):n=0:=by
 rcases eq_zero_or_pos n with z|z
 .exact z
 .exfalso
  have led:∀x,x<n->(x:Int)∈ps.map u_:=λx hx=>by
   by_cases c:(x:Int)∈ps.map u_
   .exact c
   .have:=gJ.mpr ⟨hx,c⟩;rw [h] at this;cases this
  obtain⟨_,q⟩:=j1 hl z λx hx _=>led x hx;obtain⟨p,hp,e⟩:=zW.mp (led 0 z);obtain⟨y,e1,_,ny⟩:=q p hp;rw [e] at e1;exact ny (by omega)
def ul{ps:List (Int×Int)}{n s:Nat}(h:unl ps n=[s]):(s<n/\(s:Int)∉ps.map u_)/\∀x,x<n->x≠s->(x:Int)∈ps.map u_:=by
 refine⟨gJ.mp (by rw [h];exact s_.mpr rfl),λx hx ne=>?_⟩
 by_cases c:(x:Int)∈ps.map u_
 .exact c
 .have:=gJ.mpr ⟨hx,c⟩;rw [h] at this;exact absurd (s_.mp this) ne
def si(js:List Nat):Srt (.lst (js.map nD)):=⟨rfl,λx hx=>by
 obtain⟨j,_,rfl⟩:=zW.mp hx;rfl⟩
def qW{o:List Nat}{n:Nat}(h:gD (.lst (o.map nD)) n=false):¬ o.Perm (p_ n):=λp=>by
 rw [qT (.inl rfl) p] at h;cases h
def pF{o:List Nat}{n:Nat}(h:gD (.lst (o.map nD)) n=true):o.Perm (p_ n):=by
 obtain⟨js,hs,hp⟩:=qU h
 rcases hs with e|e
 .injection e with e;rw [wA e];exact hp
 .cases e
def qX{o:List Nat}{x:Nat}(hx:o[o.length - 1]?=some x)(h0:0<o.length):atI (o.map nD) (-1)=some (.int (x:Int)):=by
 unfold atI
 have:ixN (o.map nD).length (-1)=some (o.length - 1):=by
  unfold ixN;rw [length_map,if_neg (by omega),if_pos (by omega)];congr 1;omega
 rw [this];show (o.map nD)[o.length - 1]?=_;rw [so,hx];rfl
noncomputable def bc:FX:=λa_ Q E=>cD (λd=>cI (λm=>cN (JOk d/\(0<=m/\m<=60)/\(∀o,fT d m=true->Chn (p4 d) m.toNat o->Q (.dat (.tup (o.map nD))))/\((fT d m=false\/∀o,¬ Chn (p4 d) m.toNat o)->E (.exc "NoOrder" [] []))))) a_
noncomputable def Dk(zs:List Int):Prop:=∀x∈zs,0<=x/\x<1000
noncomputable def c9:FN:=λa_ Q=>cI (λc=>cI (λk=>cN ((0<=k/\k<=100000)/\∀z:Int,0<=z->Q (.dat (.int z))))) a_
noncomputable def eg:FN:=λa_ Q=>cR (λns=>cI (λmo=>cN ((ns.length<=64/\0<=mo/\mo<=2000)/\∀zs:List Int,Dk zs->zs.length=mo.toNat->Q (.own (zs.map .int))))) a_
noncomputable def br:FR:=λp a_ Q=>oL (λds=>cN (∃zs:List Int,ds=zs.map .int/\(Dk zs/\0<zs.length/\zs.length<=100000)/\∀(z:Int) (ys:List Int),0<=z->z<1000->Dk ys->ys.length+1=zs.length->Q (.dat (.int z)) (.own (ys.map .int))) a_) p
noncomputable def bt:FN:=λa_ Q=>cI (λz=>cN (Q (.dat (.bl true)))) a_
noncomputable def sj(c:Str):List Bool:=(["TooMany","NoPiece","NoLap","NoOrder","NotHeld","NoTable","NoRing","TooGreat","NoWords","NotApart","NoCounts","NotCovered","NoLine","NoPaper","NotTold"]:List Str).map (oK c)
def pG:∀c∈(["TooMany","NoPiece","NoLap","NoOrder","NotHeld","NoTable","NoRing","TooGreat","NoWords","NotApart","NoCounts","NotCovered","NoLine","NoPaper","NotTold"]:List Str),(sj c).countP (· == true)=1:=by decide +kernel
noncomputable def bu:FN:=λa_ Q=>cX (λc ns ds=>cN (xcs.contains c=true/\Q (.dat (.int 1)))) a_
noncomputable def bj:FN:=λa_ Q=>cX (λc ns ds=>cB (λb=>cN (xcs.contains c=true/\Q (.dat (.bl b))))) a_
def pH(js:List Nat):js.map nD=(js.map λj=>((j:Nat):Int)).map D.int:=by rw [map_map];rfl
def pI(rs:List Nat):kr (.lst (rs.map nD)) (.lst []):=by rw [pH];exact kr.of (Sh.lstI _) (Sh.lstI [])
def um(rs:List Nat):deq (.lst (rs.map nD)) (.lst [])=decide (rs=[]):=by
 rw [pH,show (D.lst [])=D.lst (([]:List Int).map D.int) from rfl,lP];exact decide_eq_decide.mpr ⟨λz=>by simpa using z,λz=>by rw [z];rfl⟩
noncomputable def de:FR:=λp a_ Q=>oL (λds=>cI (λm=>cN (∃zs:List Int,ds=zs.map .int/\(Dk zs/\m.toNat<=zs.length/\zs.length<=10000/\0<=m/\m<=40)/\∀(js:List Nat) (ys:List Int),js.Perm (p_ m.toNat)->Dk ys->ys.length+m.toNat=zs.length->Q (.dat (.lst (js.map nD))) (.own (ys.map .int)))) a_) p
noncomputable def trD(t:Nat×Nat×Int):D:=.lst [.int (t.1:Int),.int (t.2.1:Int),.int t.2.2]
noncomputable def npr(o:List Nat)(m:Nat):List (Nat×Nat):=(p_ m).map λi=>(o.getD i 0,o.getD (i+1) 0)
def qY(o:List Nat)(m:Nat):npr o (m+1)=npr o m++[(o.getD m 0,o.getD (m+1) 0)]:=by unfold npr;rw [range_succ,map_append];rfl
def pJ{o:List Nat}{i:Nat}(h:i<o.length):atI (o.map nD) (i:Int)=some (.int ((o.getD i 0:Nat):Int)):=by
 unfold atI;rw [length_map,wS h];show (o.map nD)[i]?=_;rw [so,d_ h,g_,d_ h];rfl
def pK{α β:Type}(f:α->β)(l:List α)(i:Int)(x:α):((insN l i x).map f).Perm (l.map f++[f x]):=by
 unfold insN;rw [map_append,map_append];have:=Cv (min i.toNat l.length) l
 conv=>rhs;rw [<- this,map_append]
 rw [append_assoc,append_assoc];exact (perm_append_comm (l₁:=[x].map f)).append_left _
def qZ{α β:Type}(f:α->β)(l:List α)(i:Int)(x:α):insN (l.map f) i (f x)=(insN l i x).map f:=by
 unfold insN;rw [map_append,map_append,length_map,map_take,map_drop];rfl
noncomputable def df:FR:=λp a_ Q=>oL (λes0=>cL (λes1=>cN (∃zs:List Int,es0=zs.map .int/\∃o:List Nat,es1=o.map nD/\(Dk zs/\2*(o.length - 1)+1<=zs.length/\zs.length<=10000/\o.length<=40)/\∀(ts:List (Nat×Nat×Int)) (ys:List Int),(ts.map λt=>(t.1,t.2.1)).Perm (npr o (o.length - 1))->Dk ys->ys.length+2*(o.length - 1)=zs.length->Q (.dat (.lst (ts.map trD))) (.own (ys.map .int)))) a_) p
noncomputable def cO(r:List Int):D:=.lst (r.map .int)
noncomputable def cb(t:Nat×Nat×Int):List Int:=[(t.1:Int),(t.2.1:Int),t.2.2]
def dg(ts:List (Nat×Nat×Int)):ts.map trD=(ts.map cb).map cO:=by rw [map_map];rfl
theorem gK:∀M:List (List Int),D.pys (M.map cO)=M.map λr=>(cO r).py
 | []=>rfl
 | r::M=>by rw [map_cons,map_cons,<- gK M];rfl
theorem fq:∀M:List (List Int),D.plains (M.map cO)=true
 | []=>rfl
 | r::M=>by rw [map_cons];show ((cO r).plain && D.plains (M.map cO))=true;rw [show (cO r).plain=true from eZ r,fq M];rfl
def pL(r:List Int):kI 1 (cO r).py:=by
 show kI 1 (.list (D.pys (r.map .int)));rw [gv];exact kI.list (jC r)
def f8(M:List (List Int)):Sh (.lst (M.map cO)):=by
 refine⟨fq M,?_⟩;show AA (.list (D.pys (M.map cO)))=true;rw [gK];exact (kI.list λd hd=>by obtain⟨r,_,rfl⟩:=zW.mp hd;exact pL r).shaped (by decide)
def i8(M:List (List Int)):deq (.lst (M.map cO)) (.lst [])=decide (M=[]):=by
 show Bb (.list (D.pys (M.map cO))) (.list [])=_;rw [gK];cases M <;> simp [Bb,Bk]
noncomputable def prI(r:List Int):Int×Int:=(r.getD 0 0,r.getD 1 0)
structure mP (n:Nat) (b:List (List Int)):Prop where
 l:b.length<=100/\∀r∈b,r.length<=10
 no:b.length≠n - 1\/(∃r∈b,r.length≠3)\/∀o,¬ Chn (b.map prI) n o
section
variable {o:List Nat}{ts:List (Nat×Nat×Int)}
def pM(h:ts.length<=50){x:List (List Int)}(hx:x.length<=2)(hr:∀r∈x,r.length<=10):(ts.map cb++x).length<=100/\∀r∈ts.map cb++x,r.length<=10:=by
 refine⟨by rw [length_append,length_map];omega,λr h=>(z0.mp h).elim (λz=>?_) (hr r)⟩;obtain⟨t,_,rfl⟩:=zW.mp z;show 3<=10;decide
def i9(h:ts.length<=50){n:Nat}{x:List (List Int)}(hx:x.length<=2)(hr:∀r∈x,r.length<=10)(hl:ts.length+x.length≠n - 1):mP n (ts.map cb++x) :=
 ⟨pM h hx hr,.inl (by rw [length_append,length_map];exact hl)⟩
def pN(h:ts.length<=50){n:Nat}{x:List Int}(hx:x.length<=10)(hl:x.length≠3):mP n (ts.map cb++[x]) :=
 ⟨pM h (by show 1<=2;decide) (λr m=>by rw [s_.mp m];exact hx),.inr (.inl ⟨x,pj _ (s_.mpr rfl),hl⟩)⟩
def lX(h:ts.length<=50){n:Nat}{x:List Int}(hx:x.length<=10)(hl:∀o,¬ Chn ((ts.map cb++[x]).map prI) n o):mP n (ts.map cb++[x]) :=
 ⟨pM h (by show 1<=2;decide) (λr m=>by rw [s_.mp m];exact hx),.inr (.inr hl)⟩
def ja(x:List Int):prI x∈(ts.map cb++[x]).map prI:=A0 (pj _ (s_.mpr rfl))
def pO(h:ts.length<=50){n:Nat}{x:List Int}(hx:x.length<=10)(hl:¬ (0<=(prI x).1/\(prI x).1<n)):mP n (ts.map cb++[x]):=lX h hx λo c=>hl (c.fst.2 _ (ja x))
def pP(h:ts.length<=50){n:Nat}{x:List Int}(hx:x.length<=10)(hl:¬ (0<=(prI x).2/\(prI x).2<n)):mP n (ts.map cb++[x]):=lX h hx λo c=>hl (c.snd.2 _ (ja x))
def pQ(h:ts.length<=50){n:Nat}{x:List Int}(hx:x.length<=10){t:Nat×Nat×Int}(ht:t∈ts)(e:(prI x).1=(t.1:Int)):mP n (ts.map cb++[x]):=lX h hx λo c=>by
 have:=c.fst.1;rw [map_append,map_append] at this;refine (CI.mp this).2.2 (t.1:Int) ?_ _ (s_.mpr rfl) e.symm;rw [map_map,map_map];exact zW.mpr ⟨t,ht,rfl⟩
def Chn.at_{ps:List (Int×Int)}{n:Nat}{o:List Nat}(h:Chn ps n o){a b:Nat}(m:((a:Int),(b:Int))∈ps):∃q:Nat,o[q]?=some a/\o[q+1]?=some b:=by
 obtain⟨i,hi,e⟩:=zW.mp (h.perm.mem_iff.mp m);have hi:=mem_range.mp hi;have e1:=AR (congrArg tj e);have e2:=AR (congrArg u_ e)
 refine⟨i,?_,?_⟩
 .rw [<- e1,g_,d_ (by omega)];rfl
 .rw [<- e2,g_,d_ (by omega)];rfl
def uo{ps:List (Int×Int)}{n i:Nat}{f:Nat->Nat}(h1:∀j,j<i->((f j:Int),(f (j+1):Int))∈ps)(h2:((f i:Int),(f 0:Int))∈ps)(h3:f 0<n)(o:List Nat):¬ Chn ps n o:=λc=>by
 have nd:o.Nodup:=c.2.1.nodup_iff.mpr Ao;obtain⟨q0,hq,e0⟩:=A1 (c.2.1.mem_iff.mpr (mem_range.mpr h3))
 have same:∀{p q x:Nat},o[p]?=some x->o[q]?=some x->p=q:=λ{p q x} e1 e2=>by
  have:p<o.length:=by
   rcases Cz p o.length with z|z
   .exact z
   .rw [y_ z] at e1;cases e1
  exact jV nd this (e1.trans e2.symm)
 have all:∀j,j<=i->o[q0+j]?=some (f j):=λj=>by
  induction j with
  | zero=>intro _;rw [add_zero,d_ hq,e0]
  | succ j ih =>
   intro hj;obtain⟨q,e1,e2⟩:=c.at_ (h1 j (by omega));rw [same e1 (ih (by omega))] at e2;exact e2
 obtain⟨q,e1,e2⟩:=c.at_ h2;have:=same e1 (all i (o_ _));have z:=same e2 (all 0 (AK _));omega
structure RJ (o:List Nat) (ts:List (Nat×Nat×Int)):Prop where
 p:(ts.map λt=>(t.1,t.2.1)).Perm (npr o (o.length - 1))
 pm:o.Perm (p_ o.length)
 n:o.length<=40
def RJ.len(h:RJ o ts):ts.length=o.length - 1:=by
 have:=h.p.length_eq;unfold npr at this
 rwa [length_map,length_map,length_range] at this
def RJ.steps(h:RJ o ts):((ts.map cb).map prI).Perm (stp o):=by
 have:=h.p.map λq:Nat×Nat=>((q.1:Int),(q.2:Int))
 unfold npr at this;rw [map_map,map_map] at this;rw [map_map];exact this
def RJ.chn(h:RJ o ts):Chn ((ts.map cb).map prI) o.length o:=by
 refine⟨by rw [length_map,length_map];exact h.len,h.pm,λi a b e1 e2=>h.steps.mem_iff.mpr ?_⟩
 have hb:i+1<o.length:=by
  rcases Cz (i+1) o.length with z|z
  .exact z
  .rw [y_ z] at e2;cases e2
 refine zW.mpr ⟨i,mem_range.mpr (by omega),?_⟩;rw [g_,g_,e1,e2];rfl
def RJ.back(h:RJ o ts){k:Nat}(hk:k<ts.length)(z:Int):mP o.length ((ts.take k++ts.drop (k+1)).map cb++[[((ts[k]).1:Int),((o.getD 0 0:Nat):Int),z]]):=by
 have hl:=h.len;have hn:=h.n;have nd:o.Nodup:=h.pm.nodup_iff.mpr Ao;refine lX (by rw [length_append,length_take,length_drop];omega) (by show 3<=10;decide) ?_;have hm:((ts[k]).1,(ts[k]).2.1)∈npr o (o.length - 1):=h.p.mem_iff.mp (zW.mpr ⟨ts[k],CY hk,rfl⟩);obtain⟨i,hi,e⟩:=zW.mp hm;have hi:=mem_range.mp hi;have e1:o.getD i 0=(ts[k]).1:=congrArg tj e
 refine uo (i:=i) (f:=λj=>o.getD j 0) (λj hj=>?_) ?_ (mem_range.mp (h.pm.mem_iff.mp (by rw [g_,d_ (by omega)];exact CY _)))
 .have mj:(o.getD j 0,o.getD (j+1) 0)∈ts.map λt=>(t.1,t.2.1):=h.p.mem_iff.mpr (zW.mpr ⟨j,mem_range.mpr (by omega),rfl⟩);obtain⟨t,ht,et⟩:=zW.mp mj;have e2:t.1=o.getD j 0:=congrArg tj et;have e3:t.2.1=o.getD (j+1) 0:=congrArg u_ et
  have ht2:t∈ts.take k++ts.drop (k+1):=by
   have e4:=Cv k ts;rw [BI hk] at e4;rw [<- e4] at ht
   rcases z0.mp ht with q|q
   .exact zX _ q
   .rcases mem_cons.mp q with q|q
    .exfalso;rw [q] at e2
     have:j=i:=jV nd (by omega) (by
      have:=e2.symm.trans e1.symm;rw [g_,g_,d_ (by omega),d_ (by omega)] at this;rw [d_ (by omega),d_ (by omega)];exact congrArg some this)
     omega
    .exact pj _ q
  rw [map_append];refine zX _ ?_;rw [map_map];refine zW.mpr ⟨t,ht2,?_⟩;show (((t.1:Nat):Int),((t.2.1:Nat):Int))=_;rw [e2,e3]
 .have:=ja (ts:=ts.take k++ts.drop (k+1)) [((ts[k]).1:Int),((o.getD 0 0:Nat):Int),z];rw [<- e1] at this ⊢;exact this
end
def rc{ts:List (Nat×Nat×Int)}{k:Nat}:dr (ts.map trD) none (some (k:Int))++dr (ts.map trD) (some ((k:Int)+1)) none=(ts.take k++ts.drop (k+1)).map trD:=by
 rw [show (k:Int)+1=((k+1:Nat):Int) by omega,nG,jv,map_append,map_take,map_drop]
def sk{ts:List (Nat×Nat×Int)}{i:Nat}(h:i<ts.length):atI (ts.map trD) (i:Int)=some (trD ts[i]):=by
 unfold atI;rw [length_map,wS h];show (ts.map trD)[i]?=_;rw [so,d_ h];rfl
noncomputable def eh:FN:=λa_ Q=>cL (λes=>cL (λeo=>cI (λm=>cN (∃ts:List (Nat×Nat×Int),es=ts.map trD/\∃o:List Nat,eo=o.map nD/\(RJ o ts/\0<=m/\m<1000)/\∀bs:List (List (List Int)),(∀b∈bs,mP o.length b)->bs.length<=20->Q (.dat (.lst (bs.map λb=>.lst (b.map cO)))))))) a_
noncomputable def bn:FN:=λa_ Q=>cD (λd=>cI (λm=>cN (JOk d/\(0<=m/\m<=60)/\(fT d m=false\/∀o,¬ Chn (p4 d) m.toNat o)/\Q (.dat (.bl true))))) a_
def pR(x:D)(n:Nat):nH [x] (n:Int)=pf n x:=by
 unfold nH;rw [zK]
 induction n with
 | zero=>rfl
 | succ n ih=>rw [replicate_succ,replicate_succ,flatten_cons,ih];rfl
def re{x:D}{m:Int}(hs:x.sort=true)(hi:aM x=[])(hr:g7 x=false):JOk x/\fT x m=false :=
 ⟨⟨⟨hs,by rw [hi];exact nofun⟩,by rw [hi];exact AK _,by rw [hi];exact nofun⟩,by unfold fT;rw [hr,An,An]⟩
def la(m:Int):∀x∈[D.non,D.int 7,D.bl true,D.str [97,98,99],D.str [],D.dic [] [],D.dic [.inl 0] [D.lst [D.int 0,D.int 1,D.int 1]]],JOk x/\fT x m=false:=λx hx=>by
 simp only [mem_cons,not_mem_nil,or_false] at hx;rcases hx with rfl|rfl|rfl|rfl|rfl|rfl|rfl <;> exact re rfl rfl rfl
def lb:∀y∈[D.non,D.int 7,D.str [97,98,99],D.dic [] [],D.tup [],D.lst [D.int 0,D.int 1,D.non],D.lst [D.int 0,D.bl true,D.int 1],D.lst [D.int 0,D.int 1,D.bl true],D.lst [D.int 0,D.lst [D.int 1],D.int 1]],(Srt y/\(aM y).length<=3)/\aQ y 3=false:=λy hy=>by
 have s0:∀x∈([]:List D),x.sort=true:=nofun
 have s3:∀a b c:D,a.sort=true->b.sort=true->c.sort=true->∀x∈[a,b,c],x.sort=true:=λa b c h1 h2 h3 x hx=>by
  simp only [mem_cons,not_mem_nil,or_false] at hx;rcases hx with rfl|rfl|rfl <;> assumption
 simp only [mem_cons,not_mem_nil,or_false] at hy
 rcases hy with rfl|rfl|rfl|rfl|rfl|rfl|rfl|rfl|rfl
 .exact⟨⟨⟨rfl,s0⟩,AK _⟩,rfl⟩
 .exact⟨⟨⟨rfl,s0⟩,AK _⟩,rfl⟩
 .exact⟨⟨⟨rfl,s0⟩,AK _⟩,rfl⟩
 .exact⟨⟨⟨rfl,s0⟩,AK _⟩,rfl⟩
 .exact⟨⟨⟨rfl,s0⟩,AK _⟩,rfl⟩
 .exact⟨⟨⟨rfl,s3 _ _ _ rfl rfl rfl⟩,o_ _⟩,rfl⟩
 .exact⟨⟨⟨rfl,s3 _ _ _ rfl rfl rfl⟩,o_ _⟩,rfl⟩
 .exact⟨⟨⟨rfl,s3 _ _ _ rfl rfl rfl⟩,o_ _⟩,rfl⟩
 .exact⟨⟨⟨rfl,s3 _ _ _ rfl rfl rfl⟩,o_ _⟩,rfl⟩
def up{y:D}{k:Nat}{m:Int}(h:(Srt y/\(aM y).length<=3)/\aQ y 3=false)(hk:1<=k)(hk2:k<=60):JOk (.lst (pf k y))/\fT (.lst (pf k y)) m=false:=by
 refine⟨⟨⟨rfl,λx hx=>?_⟩,?_,λr hr=>?_⟩,?_⟩
 .rw [eq_of_mem_replicate (show x∈pf k y from hx)];exact h.1.1.1
 .show (pf k y).length<=1000;rw [length_replicate];omega
 .rw [eq_of_mem_replicate (show r∈pf k y from hr)];exact⟨h.1.1,by have:=h.1.2;omega⟩
 .unfold fT
  have:((aM (.lst (pf k y))).all λr=>aQ r 3)=false:=by
   show (pf k y).all _=false
   cases k with
   | zero=>omega
   | succ k=>rw [replicate_succ,all_cons,h.2,An]
  rw [this,Cb]
noncomputable def cE:FN:=λa_ Q=>cI (λm=>cN ((0<=m/\m<=60)/\∀L:List D,(∀x∈L,JOk x/\fT x m=false)->L.length<=20->Q (.dat (.lst L)))) a_
def Chn.uniq{ps:List (Int×Int)}{n:Nat}{o o':List Nat}(h:Chn ps n o)(h':Chn ps n o'):o'=o:=by
 have ol:o.length=n:=by rw [h.2.1.length_eq,length_range]
 have ol':o'.length=n:=by rw [h'.2.1.length_eq,length_range]
 have nd:o.Nodup:=h.2.1.nodup_iff.mpr Ao;have nd':o'.Nodup:=h'.2.1.nodup_iff.mpr Ao
 have same:∀{l:List Nat},l.Nodup->∀{p q x:Nat},l[p]?=some x->l[q]?=some x->p=q:=λ{l} nd {p q x} e1 e2=>by
  have:p<l.length:=by
   rcases Cz p l.length with z|z
   .exact z
   .rw [y_ z] at e1;cases e1
  exact jV nd this (e1.trans e2.symm)
 have all:∀i,i<n->o'[i]?=o[i]?:=λi=>by
  induction i with
  | zero =>
   intro hi;have e0:o[0]?=some o[0]:=d_ (by omega);rw [e0];refine h'.at0 (mem_range.mp (h.2.1.mem_iff.mp (CY _))) λz=>?_;obtain⟨p,hp,e⟩:=zW.mp z;obtain⟨y,ey⟩:∃y:Nat,p.1=(y:Int):=⟨p.1.toNat,by have:=(h.fst.2 p hp).1;omega⟩
   obtain⟨q,_,e2⟩:=h.at_ (a:=y) (b:=o[0]) (by rw [<- ey,<- e];exact hp);have:=same nd e2 e0;omega
  | succ i ih =>
   intro hi;have e1:o[i]?=some o[i]:=d_ (by omega);have e2:o[i+1]?=some o[i+1]:=d_ (by omega);obtain⟨q,f1,f2⟩:=h'.at_ (h.2.2 i _ _ e1 e2);rw [same nd' f1 ((ih (by omega)).trans e1)] at f2;rw [f2,e2]
 refine CH λi=>?_
 rcases Cz i n with c|c
 .exact all i c
 .rw [y_ (by omega),y_ (by omega)]
def wC{r:D}{zs:List Int}(h:dP r (zs.map .int)):prD r=prI zs:=by
 unfold prD prI;rw [h.items];unfold itD
 match zs with
 | []=>rfl
 | [a]=>rfl
 | a::b::_=>rfl
def mJ{r:D}{zs:List Int}(h:dP r (zs.map .int)):aQ r 3=decide (zs.length=3):=by
 unfold aQ;rw [h.items,qF,Bool.and_true,show g7 r=true by rcases h with rfl|rfl <;> rfl,AS];exact decide_eq_decide.mpr (by rw [length_map];omega)
section
variable {d:D}{b:List (List Int)}{c:List Int->D}{n:Nat}
def lY(hd:dP d (b.map c))(hc:∀r,dP (c r) (r.map .int)):p4 d=b.map prI:=by
 unfold p4;rw [hd.items,map_map];exact AZ λr _=>wC (hc r)
def lc(hd:dP d (b.map c))(hc:∀r,dP (c r) (r.map .int))(hl:b.length<=100/\∀r∈b,r.length<=10):JOk d:=by
 have srt:∀r,(c r).sort=true:=λr=>by rcases hc r with e|e <;> rw [e] <;> rfl
 refine⟨⟨by rcases hd with e|e <;> rw [e] <;> rfl,λx hx=>?_⟩,by rw [hd.items,length_map];omega,λx hx=>?_⟩
 .rw [hd.items] at hx;obtain⟨r,_,rfl⟩:=zW.mp hx;exact srt r
 .rw [hd.items] at hx;obtain⟨r,hr,rfl⟩:=zW.mp hx;refine⟨⟨srt r,λy hy=>?_⟩,by rw [(hc r).items,length_map];have:=hl.2 r hr;omega⟩;rw [(hc r).items] at hy;obtain⟨z,_,rfl⟩:=zW.mp hy;rfl
def pS(hd:dP d (b.map c))(hc:∀r,dP (c r) (r.map .int)):fT d n=(decide (b.length=n - 1) && b.all λr=>decide (r.length=3)):=by
 unfold fT;rw [hd.items,length_map,show g7 d=true by rcases hd with rfl|rfl <;> rfl,AS]
 congr 1
 .exact decide_eq_decide.mpr (by split <;> omega)
 .rw [all_map];congr 1;funext r;exact mJ (hc r)
def lZ(hd:dP d (b.map c))(hc:∀r,dP (c r) (r.map .int))(h:mP n b):fT d n=false\/∀o,¬ Chn (p4 d) n o:=by
 rw [pS hd hc,lY hd hc]
 rcases h.no with z|⟨r,hr,z⟩|z
 .exact .inl (by rw [decide_eq_false z,An])
 .refine .inl ?_;rw [and_eq_false_iff];exact .inr (all_eq_false.mpr ⟨r,hr,by rw [decide_eq_true_eq];exact z⟩)
 .exact .inr z
def j2{o:List Nat}{ts:List (Nat×Nat×Int)}(hd:dP d ((ts.map cb).map c))(hc:∀r,dP (c r) (r.map .int))(h:RJ o ts):JOk d/\fT d o.length=true/\Chn (p4 d) o.length o:=by
 refine⟨lc hd hc ?_,?_,?_⟩
 .have:=h.len;have:=h.n;refine⟨by rw [length_map];omega,λr hr=>?_⟩;obtain⟨t,_,rfl⟩:=zW.mp hr;show 3<=10;decide
 .rw [pS hd hc,length_map,decide_eq_true h.len,AS,all_map];exact Bq.mpr λ_ _=>rfl
 .rw [lY hd hc];exact h.chn
end
noncomputable def rf(r:List Int):D:=.tup (r.map .int)
def lf(r:List Int):dP (cO r) (r.map .int):=.inl rfl
def lg(r:List Int):dP (rf r) (r.map .int):=.inr rfl
noncomputable def cF:FN:=λa_ Q=>cD (λd=>cL (λeo=>cN (∃o:List Nat,eo=o.map nD/\(JOk d/\o.length<=60)/\(fT d o.length=true/\Chn (p4 d) o.length o)/\Q (.dat (.bl true))))) a_
def sm:Nat:=8
abbrev sr:FN:=yP
noncomputable def j3(K:b_)(mg:Str->Option Value)(t:TxX K mg):=(have TX:=t;show LS K [] _ _ from (aZ (vR .list .tuple g6 (aj (i:=0)))))
def pT:PTS:=psO j3
def pU:PRl eO pT 1 1:=λ_ Q h=>sf h λd _ h=>jf h λh=>Ab rfl <| by
 walk_at "z";obtain⟨hd,q⟩:=h;cases d <;> first|(cases hd;done)|(walk_at "r";exact q)
noncomputable def fu(K:b_)(mg:Str->Option Value)(t:TxX K mg):=(have TX:=t;show LS K [] _ _ from (aZ (ir (jH .int (aj (i:=0))) (rD (jH .bool (aj (i:=0)))))))
def j4:PTS:=psO fu
def j5:PRl bX j4 1 1:=λ_ Q h=>sf h λd _ h=>jf h λh=>Ab rfl <| by
 walk_at "z";obtain⟨hd,q⟩:=h;cases d <;> first|(cases hd;done)|(walk_at "r";exact q)
noncomputable def dF(K:b_)(mg:Str->Option Value)(t:TxX K mg):=(have TX:=t;show LS K [] _ _ from (aZ (ir (aP (c:=eO) (aa (ac (au (i:=0))) ae)) (ir (ar jK (ac (bB bR (aa (aj (i:=0)) ae))) (aj (i:=1))) (bB rO (aa (ac (dO (ix:=[none]) rfl (cM (au (i:=0))) (λfs hc=>(aT (i:=0) (mE hc (by decide)))) gn (aP (c:=bX) (aa (ac (au (i:=0))) ae)))) ae))))))
def hX:PTS:=psO dF
def hZ:PRl bi hX 2 2:=λ_ Q h=>sf h λd _ h=>mM h λm _ h=>jf h λh=>Ab rfl <| by
 walk_at "z";obtain⟨⟨hd,hs⟩,hl,q⟩:=h
 have body:∀ds:List D,aM d=ds->g7 d=true->(ds.length:Int)=m->aQ d m=(ds.map iU).all id:=λds e1 e2 e3=>by
  unfold aQ;rw [e1,e2,decide_eq_true e3,AS,AS,all_map];rfl
 have no:∀ds:List D,aM d=ds->¬ (ds.length:Int)=m->aQ d m=false:=λds e1 e3=>by
  unfold aQ;rw [e1,decide_eq_false e3,An,Cb]
 cases d with
 | lst ds =>
  have hl:ds.length<=1000000:=hl;walk_at "r"
  refine fN (λc=>?_) (λc=>?_)
  .walk_at "r"
   refine x4 (λτ=>∃v,τ=[v]) (λk=>.bl (iU (itD ds k))) ?_ ?_ ?_
   .exact⟨_,rfl⟩
   .rintro k τ _ hk rfl ⟨v,rfl⟩ K1 k1;walk_at "r";exact⟨hs _ (cY hk),k1 _ ⟨_,rfl⟩⟩
   .rintro τ ⟨v,rfl⟩;walk_at "r";refine⟨(p_ ds.length).map λk=>iU (itD ds k),by rw [map_map];rfl,?_⟩;rw [body ds rfl rfl c] at q;rw [gu];exact q
  .walk_at "r";rw [no ds rfl c] at q;exact q
 | tup ds =>
  have hl:ds.length<=1000000:=hl;walk_at "r"
  refine fN (λc=>?_) (λc=>?_)
  .walk_at "r"
   refine x4 (λτ=>∃v,τ=[v]) (λk=>.bl (iU (itD ds k))) ?_ ?_ ?_
   .exact⟨_,rfl⟩
   .rintro k τ _ hk rfl ⟨v,rfl⟩ K1 k1;walk_at "r";exact⟨hs _ (cY hk),k1 _ ⟨_,rfl⟩⟩
   .rintro τ ⟨v,rfl⟩;walk_at "r";refine⟨(p_ ds.length).map λk=>iU (itD ds k),by rw [map_map];rfl,?_⟩;rw [body ds rfl rfl c] at q;rw [gu];exact q
  .walk_at "r";rw [no ds rfl c] at q;exact q
 | str l=>walk_at "r";exact q
 | non=>walk_at "r";exact q
 | bl b=>walk_at "r";exact q
 | int i=>walk_at "r";exact q
 | ty n=>cases hd
 | scr ns=>cases hd
 | dic ks ds=>walk_at "r";exact q
 | obj c ns ds=>cases hd
 | exc c ns ds=>cases hd
noncomputable def gL(K:b_)(mg:Str->Option Value)(t:TxX K mg):=(have TX:=t;show LS K [] _ _ from (aZ (ir (aP (c:=bi) (aa (ac (au (i:=0))) (aa (ac (au (i:=1))) ae))) (ar jK (ac (bB qH (aa (aj (i:=0)) ae))) (ac (lM false (aa (ac (au (i:=1))) ae)))))))
def lh:PTS:=psO gL
def li:PRl ef lh 2 2:=λ_ Q h=>sf h λd _ h=>mM h λm _ h=>jf h λh=>Ab rfl <| by
 walk_at "z";obtain⟨hd,⟨hl,hm⟩,q⟩:=h;have hl6:(aM d).length<=1000000:=by omega
 walk_at "r"
 refine uu (λc=>?_) (λc=>?_)
 .have c:aQ d m=true:=c
  obtain⟨zs,hz,hzl⟩:∃zs:List Int,dP d (zs.map .int)/\(zs.length:Int)=m:=by
   unfold aQ at c;rw [and_eq_true,and_eq_true] at c;obtain⟨c1,c2,c3⟩:=c
   cases d with
   | lst ds=>exact⟨ds.map toI,.inl (congrArg _ (e5 c3)),by rw [length_map];exact of_decide_eq_true c2⟩
   | tup ds=>exact⟨ds.map toI,.inr (congrArg _ (e5 c3)),by rw [length_map];exact of_decide_eq_true c2⟩
   | _=>cases c1
  have h64:zs.length<64:=by omega
  subst hzl;have ti:(zs.map D.int).map toI=zs:=by rw [map_map];exact List.map_id' _
  have eo:gD d zs.length=decide (zs.Perm (mF zs.length)):=by
   unfold gD;rw [c,AS,hz.items,ti,zK]
  rw [eo] at q
  have eqk:∀ns':List Int,kr (D.lst (ns'.map D.int)) (D.lst (rQ 0 ((zs.length:Nat):Int).toNat)):=λns'=>by
   rw [zK,jO];exact kr.of (Sh.lstI _) (Sh.lstI _)
  have deqk:∀ns':List Int,ns'.Perm zs->ns'.Pairwise (·<=·)->deq (D.lst (ns'.map D.int)) (D.lst (rQ 0 ((zs.length:Nat):Int).toNat))=decide (zs.Perm (mF zs.length)):=λns' h1 h2=>by
   rw [zK,jO,lP];exact tO h1 h2
  rcases hz with rfl|rfl <;> (
   walk_at "r";intro ns' h1 h2;have e1:=eqk ns';walk_at "r";rw [deqk ns' h1 h2];exact q)
 .have c:aQ d m=false:=c;walk_at "r";rw [show gD d m=false by unfold gD;rw [c];rfl] at q;exact q
noncomputable def fz(K:b_)(mg:Str->Option Value)(t:TxX K mg):=(have TX:=t;show LS K [] _ _ from (ay (g5 (mB (cU (mL (aP (c:=eO) (aa (ac (au (i:=0))) ae)))) (kP (ar jL (ac (bB bR (aa (aj (i:=0)) ae))) (ac (bB oj (aa (ac (ar n5 (aj (i:=1)) (ac (ap (i:=1))))) (aa (ac (ap (i:=0))) ae))))))) (aZ (fO (i:=false))) bE) (aZ (bB rO (aa (ac (dO (ix:=[none]) rfl (cM (au (i:=0))) (λfs hc=>(aT (i:=0) (mE hc (by decide)))) gn (aP (c:=bi) (aa (ac (au (i:=0))) (aa (ac (ap (i:=3))) ae))))) ae)))))
def j6:PTS:=psO fz
def j7:PRl c8 j6 2 2:=λ_ Q h=>sf h λd _ h=>mM h λm _ h=>jf h λh=>Ab rfl <| by
 walk_at "z";obtain⟨⟨hd,hl,hr⟩,hm,q⟩:=h;have hd1:d.sort=true:=hd.1;have hmx:0<=(if 0 > m - 1 then (0:Int) else m - 1)/\(if 0 > m - 1 then (0:Int) else m - 1)<=60:=by split <;> omega
 walk_at "r"
 refine kO (uu (λc=>?_) (λc=>?_))
 .have hsq:=pz c
  have go:∀ds:List D,aM d=ds->(ds.length:Int)=(if 0 > m - 1 then (0:Int) else m - 1)->fT d m=(ds.map λr=>aQ r 3).all id:=λds e1 e2=>by
   unfold fT;rw [e1,show g7 d=true from c,decide_eq_true e2,AS,AS,all_map];rfl
  have no:∀ds:List D,aM d=ds->¬ (ds.length:Int)=(if 0 > m - 1 then (0:Int) else m - 1)->fT d m=false:=λds e1 e2=>by
   unfold fT;rw [e1,decide_eq_false e2,Cb,An]
  generalize aM d=ds at hl hr hsq go no
  rcases hsq with rfl|rfl <;> (
   walk_at "r"
   refine my (λc2=>?_) (λc2=>?_)
   .rw [no ds rfl c2] at q;walk_at "r";exact q
   .rw [go ds rfl c2] at q;walk_at "r"
    refine x4 (λτ=>∃v,τ=[v]) (λk=>.bl (aQ (itD ds k) 3)) ?_ ?_ ?_
    .exact⟨_,rfl⟩
    .rintro k τ _ hk rfl ⟨v,rfl⟩ K1 k1;have hx:=hr _ (cY hk);have hx1:=hx.1;have hx2:(aM (itD ds k)).length<=1000000:=by omega
     walk_at "r";exact k1 _ ⟨_,rfl⟩
    .rintro τ ⟨v,rfl⟩;walk_at "r";refine⟨(p_ ds.length).map λk=>aQ (itD ds k) 3,by rw [map_map];rfl,?_⟩;rw [gu (λr=>aQ r 3)];exact q)
 .rw [show fT d m=false by unfold fT;rw [show g7 d=false from c,An,An]] at q;walk_at "r";exact q
noncomputable def cc(K:b_)(mg:Str->Option Value)(t:TxX K mg)(Ec:D->Prop)(E:XK):=(have TX:=t;show LSX K Ec E [] _ _ from (gw (t7 (cU (mL (aP (c:=c8) (aa (ac (au (i:=0))) (aa (ac (au (i:=1))) ae))))) (gy (c:="NoOrder") TX.all (j_.mp (by decide +kernel))) (LS.x bE)) (gw (LS.x (aE (lW (ix:=[none,none,none]) rfl (cM (au (i:=0))) (λfs hc=>(oG (n:=3) (dz (aT (i:=0) (mE hc (by decide))) (dz (aT (i:=1) (mE hc (by decide))) (dz (aT (i:=2) (mE hc (by decide))) n9))))) gn (au (i:=0)) (au (i:=1))) (aw (i:=2) rfl))) (gw (LS.x (aE (lW (ix:=[none,none,none]) rfl (cM (au (i:=0))) (λfs hc=>(oG (n:=3) (dz (aT (i:=0) (mE hc (by decide))) (dz (aT (i:=1) (mE hc (by decide))) (dz (aT (i:=2) (mE hc (by decide))) n9))))) gn (au (i:=1)) (fO (i:=true))) (aw (i:=3) rfl))) (gw (LS.x (aE (dO (ix:=[none,some 3]) rfl (xR (aa (ac (au (i:=1))) ae)) (λfs hc=>(aT (i:=0) (mE hc (by decide)))) (kP (ar (sh (neg:=true)) (aj (i:=0)) (aj (i:=1)))) (au (i:=0))) (aw (i:=4) rfl))) (gw (t7 (kP (ar qy (ac (bB bR (aa (aj (i:=4)) ae))) (ac (ap (i:=1))))) (gy (c:="NoOrder") TX.all (j_.mp (by decide +kernel))) (LS.x bE)) (gw (qJ (rC (wz (aj (i:=4))) (kP (ar (sh (neg:=false)) (ac (ar cp (aj (i:=4)) (ac (mz iw (ac (ap (i:=1))))))) (aj (i:=2))))) (LS.x (cV (gp (i:=4) (ar ug (aj (i:=2)) (ac (ar cp (aj (i:=4)) (ac (mz iw (ac (ap (i:=1)))))))))))) (gw (t7 (cU (mL (aP (c:=ef) (aa (ac (au (i:=4))) (aa (ac (au (i:=1))) ae))))) (gy (c:="NoOrder") TX.all (j_.mp (by decide +kernel))) (LS.x bE)) (LS.x (aZ (bB eF (aa (aj (i:=4)) ae))))))))))))
def ff:(D->Prop)->PTS:=psX cc
def fg:XRl bc ff 5 2:=λ_ Q E h=>sf h λd _ h=>mM h λm _ h=>jf h λh=>Ab rfl <| by
 walk_at "z";obtain⟨hj,hm,q,e⟩:=h;obtain⟨n,rfl⟩:∃n:Nat,m=(n:Int):=⟨m.toNat,by omega⟩
 rw [zK] at q e;walk_at "r"
 refine kO (uu (λc=>?_) (λc=>?_))
 .obtain⟨hl,hsq,hrow⟩:=mH c;have hll:(aM d).length<=1000:=hj.2.1;have qq:=λo=>q o c;have ee:(∀o,¬ Chn (p4 d) n o)->E (.exc "NoOrder" [] []):=λz=>e (.inr z);clear q e c hj;unfold p4 at qq ee;generalize aM d=ds at hl hsq hrow qq ee hll
  have tk:∀k,k<ds.length->(ds.map prD).take (k+1)=(ds.map prD).take k++[prD (itD ds k)]:=λk hk=>by
   rw [take_add_one,so,getElem?_itD hk];rfl
  have tkl:(ds.map prD).take ds.length=ds.map prD:=Ad (by rw [length_map];exact o_ _);have pl:(ds.map prD).length=n - 1:=by rw [length_map];exact hl
  walk_at "r";refine rZ hsq ?_
  refine⟨by rfl,by omega,⟨λk ys τ=>ys=mI ((ds.map prD).take k)/\∃a b c,τ=[a,b,c],⟨rfl,_,_,_,rfl⟩,?_,?_⟩⟩
  .rintro k ys τ _ hk rfl ⟨rfl,a,b,c,rfl⟩;obtain⟨i,j,u,hr⟩:=hrow _ (cY hk);have hp:prD (itD ds k)=(i,j):=by unfold prD;rw [hr.items];rfl
   have e1:=tk k hk;rw [hp] at e1;generalize itD ds k=r at hr;walk_at "r";refine rY hr ?_;walk_at "r";exact⟨.inl i,rfl,by rw [e1,gH];rfl,_,_,_,rfl⟩
  .rintro ys τ ⟨rfl,a,b,c,rfl⟩;rw [tkl];walk_at "r";refine rZ hsq ?_
   refine⟨by rfl,by omega,⟨λk ys τ=>ys=pA ((ds.map prD).take k)/\∃a b c,τ=[a,b,c],⟨rfl,_,_,_,rfl⟩,?_,?_⟩⟩
   .rintro k ys τ _ hk rfl ⟨rfl,a,b,c,rfl⟩;obtain⟨i,j,u,hr⟩:=hrow _ (cY hk);have hp:prD (itD ds k)=(i,j):=by unfold prD;rw [hr.items];rfl
    have e1:=tk k hk;rw [hp] at e1;generalize itD ds k=r at hr;walk_at "r";refine rY hr ?_;walk_at "r";exact⟨.inl j,rfl,by rw [e1,j0];rfl,_,_,_,rfl⟩
   .rintro ys τ ⟨rfl,a,b,c,rfl⟩;rw [tkl];generalize ds.map prD=ps at qq ee pl;walk_at "r"
    refine⟨⟨λk ys τ=>ys=(unl ps k).map nD/\∃v,τ=[v,some (.dat (.dic ((pA ps).map tj) ((pA ps).map u_)))],⟨rfl,_,rfl⟩,?_,?_⟩⟩
    .rintro k ys τ _ hk rfl ⟨rfl,v,rfl⟩
     have e2:unl ps (k+1)=unl ps k++if !decide ((k:Int)∈ps.map u_) then [k] else []:=by
      unfold unl;rw [range_succ,filter_append];congr 1
      by_cases z:(k:Int)∈ps.map u_
      .rw [filter_cons,decide_eq_true z];rfl
      .rw [filter_cons,decide_eq_false z];rfl
     walk_at "r";rw [if_pos rfl,gF,pD]
     refine my (λz=>?_) (λz=>?_)
     .have z:¬ (k:Int)∈ps.map u_:=z
      have hul:((unl ps k).map nD).length<1000000:=by
       rw [length_map];have:(unl ps k).length<=(p_ k).length:=length_filter_le _ _;rw [length_range] at this;omega
      walk_at "r";refine⟨?_,_,rfl⟩;rw [e2,decide_eq_false z,map_append];rfl
     .have z:(k:Int)∈ps.map u_:=z;walk_at "r";refine⟨?_,_,rfl⟩;rw [e2,decide_eq_true z,map_append];exact (append_nil _).symm
    .rintro ys τ ⟨rfl,v,rfl⟩;walk_at "r";rw [zK,length_map]
     refine fN (λc2=>?_) (λc2=>?_)
     .walk_at "r";exact ee (uk (by omega))
     .walk_at "r"
      cases eu:unl ps n with
      | nil =>
       have hn0:n=0:=qV pl eu;subst hn0;refine⟨λm ρ=>m=0/\ρ=[some (.dat d),some (.dat (.int ((0:Nat):Int))),some (.dat (.dic ((mI ps).map tj) ((mI ps).map u_))),some (.dat (.dic ((pA ps).map tj) ((pA ps).map u_))),some (.own [])],⟨0,rfl,rfl⟩,?_⟩;rintro m ρ ⟨rfl,rfl⟩;have h0:Srt (.lst []):=si [];walk_at "r";exact qq [] ⟨pl,CZ _,nofun⟩
      | cons s r =>
       have er:r=[]:=by
        rw [eu,length_cons] at c2;exact Ak.mp (by omega)
       subst er;obtain⟨⟨hs1,hs2⟩,hs3⟩:=ul eu;have hsn:=j1 pl hs1 hs3;refine⟨λm ρ=>∃o:List Nat,Wk ps n s o/\m=n - o.length/\ρ=[some (.dat d),some (.dat (.int (n:Int))),some (.dat (.dic ((mI ps).map tj) ((mI ps).map u_))),some (.dat (.dic ((pA ps).map tj) ((pA ps).map u_))),some (.own (o.map nD))],⟨n - 1,[s],Wk.start hs1 hs2,rfl,rfl⟩,?_⟩;rintro m ρ ⟨o,w,rfl,rfl⟩;have ho:=w.ne
       have hol:=w.len;obtain⟨x,hx⟩:∃x,o[o.length - 1]?=some x:=⟨_,d_ (by omega)⟩
       have hat:=qX hx ho
       have hne:(!(o.map nD).isEmpty)=true:=by
        cases o with
        | nil=>cases ho
        | cons _ _=>rfl
       walk_at "r";refine⟨_,hat,?_⟩;walk_at "r";rw [if_neg r_,gF]
       cases hk:cC (mI ps) (.inl (x:Int)) with
       | some y =>
        obtain⟨z,rfl,w'⟩:=w.step hsn hx hk;have hlen:=w'.len;rw [length_append,Aj] at hlen;have hl6:(o.map nD).length<1000000:=by rw [length_map];omega
        walk_at "r";refine⟨_,hat,?_⟩;walk_at "r";refine⟨_,(gF _ _).trans hk,hl6,n - (o.length+1),by omega,o++[z],w',by rw [length_append,Aj],by rw [map_append];rfl⟩
       | none =>
        have hsr:Srt (.lst (o.map nD)):=si o;have hln:(aM (.lst (o.map nD))).length<=60/\(0:Int)<=n/\(n:Int)<=60:=⟨by show (o.map nD).length<=60;rw [length_map];omega,hm⟩
        walk_at "r"
        refine kO (uu (λc3=>?_) (λc3=>?_))
        .have hp:=pF c3;walk_at "r";exact qq o ⟨pl,hp,w.st⟩
        .have hp:=qW c3;walk_at "r";exact ee λo' h=>hp (w.stop hx hk h ▸ h.2.1)
 .walk_at "r";exact e (.inl c)
noncomputable def fA(K:b_)(mg:Str->Option Value)(t:TxX K mg):=(have TX:=t;show LS K [] _ _ from (ay (aE (ar aD (ac (ar b9 (aj (i:=0)) (ac (ap (i:=2305843009213693951))))) (ac (ar fo (ac (ar fo (aj (i:=1)) (aj (i:=1)))) (ac (ap (i:=48271)))))) (aw (i:=2) rfl)) (ay (aE (ar b9 (ac (ar aD (ac (ar aD (aj (i:=2)) (ac (ar fo (aj (i:=1)) (ac (ap (i:=9973))))))) (ac (ap (i:=20021))))) (ac (ap (i:=2305843009213693951)))) (aw (i:=2) rfl)) (ay (aE (ar b9 (ac (ar fo (aj (i:=2)) (aj (i:=2)))) (ac (ap (i:=2305843009213693951)))) (aw (i:=2) rfl)) (ay (aE (ar fo (ac (ar aD (ac (ar aD (aj (i:=2)) (ac (ar fo (aj (i:=1)) (ac (ap (i:=16807))))))) (ac (ap (i:=11))))) (ac (ap (i:=69621)))) (aw (i:=2) rfl)) (ay (aE (ar b9 (aj (i:=2)) (ac (ap (i:=2305843009213693951)))) (aw (i:=2) rfl)) (ay (aE (ar b9 (ac (ar fo (aj (i:=2)) (aj (i:=2)))) (ac (ap (i:=2305843009213693951)))) (aw (i:=2) rfl)) (aZ (ar n6 (aj (i:=2)) (ac (ap (i:=4096))))))))))))
def j8:PTS:=psO fA
def j9:PRl c9 j8 3 2:=λ_ Q h=>mM h λc _ h=>mM h λk _ h=>jf h λh=>Ab rfl <| by
 walk_at "z";obtain⟨⟨h0,h1⟩,q⟩:=h;walk_at "r";exact q _ (ediv_nonneg (Bf _ (by decide)) (by decide))
noncomputable def gM(K:b_)(mg:Str->Option Value)(t:TxX K mg):=(have TX:=t;show LS K [] _ _ from (ay (aE (ar aD (ac (bB kQ (aa (aj (i:=0)) ae))) (ac (aC (aa (ac (bB bR (aa (aj (i:=0)) ae))) ae)))) (aw (i:=2) rfl)) (ay (aE (aC ae) (aw (i:=3) rfl)) (ay (aE (ap (i:=0)) (aw (i:=4) rfl)) (ay (iR (kP (ar tu (ac (bB bR (aa (aj (i:=3)) ae))) (aj (i:=1)))) (ay (jJ (cM (au (i:=2))) (aT (i:=5) rfl) (ay (aE (au (i:=5)) (aw (i:=6) rfl)) (ay (iQ (g5 (mB (kP (ar qy (aj (i:=4)) (ac (ap (i:=0))))) (kP (ar tu (aj (i:=5)) (ac (ar rF (ac (ap (i:=10))) (ac (ap (i:=18)))))))) (ay (cV (gp (i:=3) (ar b9 (ac (aP (c:=c9) (aa (ac (au (i:=5))) (aa (ac (ar aD (ac (bB bR (aa (aj (i:=3)) ae))) (ac (ap (i:=1))))) ae)))) (ac (ap (i:=1000)))))) (aE (ap (i:=0)) (aw (i:=6) rfl))) bE)) (iR (rC (kP (ar qy (aj (i:=6)) (ac (ap (i:=0))))) (kP (ar tu (ac (bB bR (aa (aj (i:=3)) ae))) (aj (i:=1))))) (ay (cV (gp (i:=3) (ar b9 (aj (i:=6)) (ac (ap (i:=1000)))))) (aE (ar n6 (aj (i:=6)) (ac (ap (i:=1000)))) (aw (i:=6) rfl))))))) (aE (ar aD (aj (i:=4)) (ac (ap (i:=1)))) (aw (i:=4) rfl)))) (aZ (mD (ac (dy (aj (i:=3)) du (dw (au (i:=1))))))))))))
def lj:PTS:=psO gM
def ll:PRl eg lj 7 2:=λ_ Q h=>zC h λns _ h=>mM h λmo _ h=>jf h λh=>Ab rfl <| by
 walk_at "z";obtain⟨⟨hn,h0,h1⟩,q⟩:=h;obtain⟨n,rfl⟩:∃n:Nat,mo=(n:Int):=⟨mo.toNat,by omega⟩
 have ecs:ns.map D.int++[D.int (ns.length:Int)]=(ns++[(ns.length:Int)]).map D.int:=by rw [map_append];rfl
 have hnm:(ns.map D.int).length=ns.length:=length_map _;walk_at "r";rw [ecs];generalize hcs:ns++[(ns.length:Int)]=cs;have hcl:cs.length=ns.length+1:=by rw [<- hcs,length_append];rfl
 have hcm:(cs.map D.int).length=cs.length:=length_map _;refine⟨λm ρ=>∃(x:Option PV) (zs:List Int) (tn:Nat) (v5 v6:Option PV),(x=some (.own (cs.map .int))\/x=some (.dat (.lst (cs.map .int))))/\Dk zs/\zs.length<=n+65/\tn<=zs.length/\m=n - zs.length/\ρ=[some (.dat (.scr ns)),some (.dat (.int (n:Int))),x,some (.own (zs.map .int)),some (.dat (.int (tn:Int))),v5,v6],⟨n,_,[],0,_,_,.inl rfl,nofun,AK _,AK _,rfl,rfl⟩,?_⟩
 rintro m ρ ⟨x,zs,tn,v5,v6,hx,hz,hzl,htn,hm,rfl⟩;have hzm:(zs.map D.int).length=zs.length:=length_map _
 have fin:∀zs:List Int,Dk zs->n<=zs.length->Q (.own ((zs.take n).map D.int).reverse):=λzs hz hl=>by
  rw [<- map_reverse];refine q _ (λx hx=>hz x (mem_of_mem_take (mem_reverse.mp hx))) ?_;rw [CT,length_take,zK];omega
 have p18:((10:Int)^(18:Nat))=1000000000000000000:=by decide
 rcases hx with rfl|rfl <;> (
  walk_at "r"
  refine fN (λc0=>?_) (λc0=>?_)
  .have c0:zs.length<n:=by omega
   walk_at "r"
   refine⟨λk ρ=>∃(ys:List Int) (w5 w6:Option PV),Dk ys/\ys.length<=n+k/\zs.length<=ys.length/\(0<k->zs.length<ys.length)/\ρ=[some (.dat (.scr ns)),some (.dat (.int (n:Int))),some (.dat (.lst (cs.map .int))),some (.own (ys.map .int)),some (.dat (.int (tn:Int))),w5,w6],⟨zs,_,_,hz,by omega,o_ _,λz=>absurd z (AW _),rfl⟩,?_,?_⟩
   .rintro k ρ d hk ed ⟨ys,w5,w6,hy,hyl,hzy,hpr,rfl⟩;have hk:k<cs.length:=by rw [hcm] at hk;exact hk
    have ed:d=.int (cs.getD k 0):=by rw [ed];exact tH (by rw [hcm];exact hk)
    subst ed;generalize cs.getD k 0=c;have hym:(ys.map D.int).length=ys.length:=length_map _;walk_at "r"
    refine⟨λρ=>∃(us:List Int) (r:Int),Dk us/\0<=r/\((us.length=ys.length+1/\r=0)\/(us.length=ys.length/\0<r))/\ρ=[some (.dat (.scr ns)),some (.dat (.int (n:Int))),some (.dat (.lst (cs.map .int))),some (.own (us.map .int)),some (.dat (.int (tn:Int))),some (.dat (.int c)),some (.dat (.int r))],?_,?_⟩
    .have dm:∀(us:List Int) (z:Int),Dk us->Dk (us++[z % 1000]):=λus z hu x hx=>by
      rcases z0.mp hx with w|w
      .exact hu x w
      .rw [s_.mp w];exact⟨Bf _ (by decide),A2 _ (by decide)⟩
     have app:∀(us:List Int) (z:Int),us.map D.int++[D.int (z % 1000)]=(us++[z % 1000]).map D.int:=λus z=>by rw [map_append];rfl
     walk_at "r"
     refine fN (λc1=>?_) (λc1=>?_)
     .walk_at "r";rintro z hz0;walk_at "r";exact⟨ys++[z % 1000],0,dm ys z hy,by decide,.inl ⟨by rw [length_append];rfl,rfl⟩,by rw [<- app]⟩
     .walk_at "r"
      refine fN (λc2=>?_) (λc2=>?_)
      .walk_at "r";rintro z hz0;walk_at "r";exact⟨ys++[z % 1000],0,dm ys z hy,by decide,.inl ⟨by rw [length_append];rfl,rfl⟩,by rw [<- app]⟩
      .have c3:¬ (c<1000000000000000000):=c2;walk_at "r";exact⟨ys,c,hy,by omega,.inr ⟨rfl,by omega⟩,rfl⟩
    .rintro ρ ⟨us,r,hu,hr,hc,rfl⟩
     have dm:∀(us:List Int) (z:Int),Dk us->Dk (us++[z % 1000]):=λus z hu x hx=>by
      rcases z0.mp hx with w|w
      .exact hu x w
      .rw [s_.mp w];exact⟨Bf _ (by decide),A2 _ (by decide)⟩
     have app:∀(us:List Int) (z:Int),us.map D.int++[D.int (z % 1000)]=(us++[z % 1000]).map D.int:=λus z=>by rw [map_append];rfl
     walk_at "r";refine⟨λm ρ=>∃(vs:List Int) (r:Int),Dk vs/\0<=r/\us.length<=vs.length/\(vs.length<=n\/vs.length=us.length)/\(vs.length=us.length->us.length=ys.length->0<r)/\m=n - vs.length/\ρ=[some (.dat (.scr ns)),some (.dat (.int (n:Int))),some (.dat (.lst (cs.map .int))),some (.own (vs.map .int)),some (.dat (.int (tn:Int))),some (.dat (.int c)),some (.dat (.int r))],⟨_,us,r,hu,hr,o_ _,.inr rfl,λ_ e=>by omega,rfl,rfl⟩,?_⟩
     rintro m ρ ⟨vs,r,hv,hr0,huv,hvn,hrp,hm2,rfl⟩;have hvm:(vs.map D.int).length=vs.length:=length_map _
     have done:¬ (0<r/\vs.length<n)->∃(ys:List Int) (w5 w6:Option PV),Dk ys/\ys.length<=n+(k+1)/\zs.length<=ys.length/\(0<k+1->zs.length<ys.length)/\[some (.dat (.scr ns)),some (.dat (.int (n:Int))),some (.dat (.lst (cs.map .int))),some (.own (vs.map .int)),some (.dat (.int (tn:Int))),some (.dat (.int c)),some (.dat (.int r))]=[some (PV.dat (.scr ns)),some (.dat (.int (n:Int))),some (.dat (.lst (cs.map .int))),some (.own (ys.map .int)),some (.dat (.int (tn:Int))),w5,w6]:=λhd=>by
      refine⟨vs,_,_,hv,by omega,by omega,λ_=>?_,rfl⟩
      rcases hc with ⟨e1,e2⟩|⟨e1,e2⟩
      .omega
      .by_cases g:vs.length=us.length
       .have:=hrp g e1
        by_cases k0:0<k
        .have:=hpr k0;omega
        .omega
       .omega
     walk_at "r"
     refine fN (λc3=>?_) (λc3=>?_)
     .walk_at "r"
      refine fN (λc4=>?_) (λc4=>?_)
      .walk_at "r"
       refine⟨_,?_,vs++[r % 1000],r / 1000,dm vs r hv,ediv_nonneg hr0 (by decide),?_,?_,?_,rfl,by rw [<- app]⟩
       .rw [length_append];show n - (vs.length+1)<m;omega
       .rw [length_append];omega
       .rw [length_append];show vs.length+1<=n\/_;omega
       .rw [length_append];intro e;exfalso;have e:vs.length+1=us.length:=e;omega
      .exact done (by omega)
     .exact done (by omega)
   .rintro ρ ⟨ys,w5,w6,hy,hyl,hzy,hpr,rfl⟩;rw [hcm] at hyl hpr;walk_at "r";exact⟨_,by omega,_,ys,tn+1,_,_,.inr rfl,hy,by omega,by have:=hpr (by omega);omega,rfl,by rw [show ((tn:Int)+1)=((tn+1:Nat):Int) by omega]⟩
  .have c0:n<=zs.length:=by omega
   walk_at "r";rw [nG,<- map_take];exact fin zs hz c0)
noncomputable def gN(K:b_)(mg:Str->Option Value)(t:TxX K mg):=(have TX:=t;show LS K [0] _ _ from (aZ (vX (i:=0))))
def lm:PTS:=psO gN
def lp:RRl br lm 1 1:=λ_ _ Q h=>yl h λds h=>jf h λh=>Ab rfl <| by
 walk_at "z";obtain⟨zs,rfl,⟨hz,h0,h1⟩,q⟩:=h;obtain⟨ys,z,rfl⟩:∃ys z,zs=ys++[z]:=⟨zs.dropLast,zs.getLast (ne_nil_of_length_pos h0),(dropLast_concat_getLast _).symm⟩
 have hm:((ys++[z]).map D.int)=ys.map D.int++[D.int z]:=by rw [map_append];rfl
 have hl:(ys.map D.int++[D.int z]).length - 1=(ys.map D.int).length:=by rw [length_append];rfl
 rw [hm];walk_at "r";refine⟨.int z,by rw [hl,AF (o_ _),sub_self];rfl,?_⟩;walk_at "r";rw [dropLast_concat];have hzz:=hz z (pj _ (s_.mpr rfl));exact q z ys hzz.1 hzz.2 (λx hx=>hz x (zX _ hx)) (by rw [length_append];rfl)
noncomputable def fB:PTS:=(oa (tm (xM .int (pSl 0)) (vI (xM .bool (pSl 0)))))
def dh:PRl bt fB 1 1:=λ_ Q h=>mM h λz _ h=>jf h λh=>Ab rfl <| by
 walk_at "z";walk_at "r";exact h
noncomputable def fC:PTS:=(gm (iP (qx (bD (pFz (jP xcs "TooMany" (pSl 0))) (bD (pFz (jP xcs "NoPiece" (pSl 0))) gk))) (dD 1)) (gm (iP (pOp iZ (pSl 1) (pFz (qx (bD (pFz (jP xcs "NoLap" (pSl 0))) (bD (pFz (jP xcs "NoOrder" (pSl 0))) gk))))) (dD 1)) (gm (iP (pOp iZ (pSl 1) (pFz (qx (bD (pFz (jP xcs "NotHeld" (pSl 0))) (bD (pFz (jP xcs "NoTable" (pSl 0))) gk))))) (dD 1)) (gm (iP (pOp iZ (pSl 1) (pFz (qx (bD (pFz (jP xcs "NoRing" (pSl 0))) (bD (pFz (jP xcs "TooGreat" (pSl 0))) gk))))) (dD 1)) (gm (iP (pOp iZ (pSl 1) (pFz (qx (bD (pFz (jP xcs "NoWords" (pSl 0))) (bD (pFz (jP xcs "NotApart" (pSl 0))) gk))))) (dD 1)) (gm (iP (pOp iZ (pSl 1) (pFz (qx (bD (pFz (jP xcs "NoCounts" (pSl 0))) (bD (pFz (jP xcs "NotCovered" (pSl 0))) gk))))) (dD 1)) (gm (iP (pOp iZ (pSl 1) (pFz (qx (bD (pFz (jP xcs "NoLine" (pSl 0))) (bD (pFz (jP xcs "NoPaper" (pSl 0))) gk))))) (dD 1)) (gm (iP (pOp iZ (pSl 1) (pFz (qx (bD (pFz (jP xcs "NotTold" (pSl 0))) gk)))) (dD 1)) (oa (ww (pSl 1) (pC (.bl true))))))))))))
def di:PRl bu fC 2 1:=λ_ Q h=>yZ h λc ns ds _ h=>jf h λh=>Ab rfl <| by
 walk_at "z";obtain⟨hc,q⟩:=h;have h1:=pG c (j_.mp hc);walk_at "r";refine⟨sj c,rfl,?_⟩;rw [h1];exact q
noncomputable def dG:PTS:=(gm (xO (pOr (xC (pB (jP xcs "GlueError" (pSl 0)))) (xC (pB (yV xcs (pSl 0))))) (oa (pC (.bl false))) rJ) (oa (tm (wL 1) (pOp x6 (pFz (rL bu (bD (pFz (wL 0)) gk))) (pFz (pC (.int 1)))))))
def b6:PRl bj dG 2 2:=λ_ Q h=>yZ h λc ns ds _ h=>zB h λb _ h=>jf h λh=>Ab rfl <| by
 walk_at "z";obtain⟨hc,q⟩:=h;have i1:oK c "GlueError"=true:=by unfold oK;rw [decide_eq_true (show ("GlueError":Str)="GlueError" from rfl),BY]
 walk_at "r"
 cases b with
 | true=>walk_at "r";exact q
 | false=>walk_at "r";exact q
noncomputable def fE(K:b_)(mg:Str->Option Value)(t:TxX K mg):=(have TX:=t;show LS K [0] _ _ from (ay (aE (lM false (aa (ac (au (i:=1))) ae)) (aw (i:=2) rfl)) (ay (aE (aC ae) (aw (i:=3) rfl)) (ay (iR (kP (ar jL (aj (i:=2)) (ac (aC ae)))) (cV (gp (i:=3) (qG (i:=2) (ar b9 (ac (cq (c:=br) (i:=0) ae)) (ac (bB bR (aa (aj (i:=2)) ae)))))))) (aZ (au (i:=3)))))))
def ka:PTS:=psO fE
def kc:RRl de ka 4 2:=λ_ _ Q h=>yl h λds h=>mM h λm _ h=>jf h λh=>Ab rfl <| by
 walk_at "z";obtain⟨zs,rfl,⟨hz,h0,h1,hm0,hm1⟩,q⟩:=h;obtain⟨n,rfl⟩:∃n:Nat,m=(n:Int):=⟨m.toNat,by omega⟩
 rw [zK] at q h0;walk_at "r";refine⟨λk ρ=>∃(rs js:List Nat) (ys:List Int),(js++rs).Perm (p_ n)/\Dk ys/\ys.length+js.length=zs.length/\k=rs.length/\ρ=[some (.own (ys.map .int)),some (.dat (.int (n:Int))),some (.own (rs.map nD)),some (.own (js.map nD))],⟨n,p_ n,[],zs,CZ _,hz,rfl,by rw [length_range],by rw [<- tN];rfl⟩,?_⟩;rintro k ρ ⟨rs,js,ys,hp,hy,hyl,rfl,rfl⟩
 have hpl:=hp.length_eq;rw [length_append,length_range] at hpl;have e1:=pI rs;have e2:=um rs;walk_at "r";rw [e2]
 refine my (λc=>?_) (λc=>?_)
 .have hrl:0<rs.length:=length_pos_iff.mpr c;have g0:Dk ys/\0<ys.length/\ys.length<=100000:=⟨hy,by omega,by omega⟩
  have hrm:(rs.map nD).length=rs.length:=length_map _;have hjm:(js.map nD).length=js.length:=length_map _;walk_at "r";rintro z y1 hz0 hz1 hd1 hy1;obtain⟨i,hi⟩:∃i:Nat,z % (rs.length:Int)=(i:Int):=⟨(z % (rs.length:Int)).toNat,by have:=Bf z (show (rs.length:Int)≠0 by omega);omega⟩
  have hir:i<rs.length:=by have:=A2 z (show 0<(rs.length:Int) by omega);omega
  walk_at "r";rw [hrm,hi];refine⟨i,nD rs[i],⟨wS hir,by omega⟩,by rw [so,d_ hir];rfl,by show (js.map nD).length<_;omega,rs.length - 1,by omega,rs.eraseIdx i,js++[rs[i]],y1,?_,hd1,by rw [length_append];show y1.length+(js.length+1)=_;omega,by rw [length_eraseIdx,if_pos hir],by rw [map_append,o4];rfl⟩;rw [append_assoc];exact ((perm_append_comm.trans (o5 hir)).append_left js).trans hp
 .have c:rs=[]:=c;subst c;rw [append_nil] at hp;have hjl:js.length=n:=by rw [hp.length_eq,length_range]
  walk_at "r";exact q js ys hp hy (by omega)
noncomputable def fF(K:b_)(mg:Str->Option Value)(t:TxX K mg):=(have TX:=t;show LS K [0] _ _ from (ay (aE (aC ae) (aw (i:=2) rfl)) (ay (jJ (xS (aa (ac (ap (i:=1))) (aa (ac (bB bR (aa (aj (i:=1)) ae))) ae))) (aT (i:=3) rfl) (ay (aE (cq (c:=br) (i:=0) ae) (aw (i:=4) rfl)) (ay (aE (ar cp (ac (aC (aa (ac (au (i:=4))) (aa (ac (mz iw (aj (i:=4)))) (aa (ac (ar aD (ac (ar rF (ac (ap (i:=10))) (ac (ap (i:=20))))) (aj (i:=4)))) ae))))) (ac (ar b9 (aj (i:=4)) (ac (ap (i:=3)))))) (aw (i:=5) rfl)) (cV (oF (i:=2) (ar b9 (ac (cq (c:=br) (i:=0) ae)) (ac (ar aD (ac (bB bR (aa (aj (i:=2)) ae))) (ac (ap (i:=1)))))) (aC (aa (ac (ar cp (aj (i:=1)) (ac (ar n5 (aj (i:=3)) (ac (ap (i:=1))))))) (aa (ac (ar cp (aj (i:=1)) (aj (i:=3)))) (aa (ac (au (i:=5))) ae))))))))) (aZ (o0 (au (i:=2)))))))
def kd:PTS:=psO fF
def ke:RRl df kd 6 2:=λ_ _ Q h=>yl h λes0 h=>wT h λes1 _ h=>jf h λh=>Ab rfl <| by
 walk_at "z";obtain⟨zs,rfl,o,rfl,⟨hz,h0,h1,h2⟩,q⟩:=h;have hol:(o.map nD).length=o.length:=length_map _;walk_at "r"
 refine⟨λk ρ=>∃(ts:List (Nat×Nat×Int)) (ys:List Int) (a b c:Option PV),(ts.map λt=>(t.1,t.2.1)).Perm (npr o k)/\Dk ys/\ys.length+2*k=zs.length/\ρ=[some (.own (ys.map .int)),some (.dat (.lst (o.map nD))),some (.own (ts.map trD)),a,b,c],⟨[],zs,_,_,_,CZ _,hz,by omega,rfl⟩,?_,?_⟩
 .rintro k ρ _ hk rfl ⟨ts,ys,a,b,c,hp,hy,hl,rfl⟩;have hk:k<(((o.map nD).length:Int) - 1).toNat:=hk;rw [hol] at hk;have htl:ts.length=k:=by have:=hp.length_eq;unfold npr at this;rwa [length_map,length_map,length_range] at this
  have g0:Dk ys/\0<ys.length/\ys.length<=100000:=⟨hy,by omega,by omega⟩
  walk_at "r";rintro z y1 hz0 hz1 hd1 hy1;have g1:Dk y1/\0<y1.length/\y1.length<=100000:=⟨hd1,by omega,by omega⟩
  obtain⟨th,hth⟩:∃th:Int,atI [D.int z,D.int (-z),D.int (10^Cy 20+z)] (z % 3)=some (.int th):=by
   have h0:=Bf z (show (3:Int)≠0 by decide);have h1:=A2 z (show (0:Int)<3 by decide);rcases (show z % 3=0\/z % 3=1\/z % 3=2 by omega) with h|h|h <;> rw [h] <;> exact⟨_,rfl⟩
  walk_at "r";refine⟨_,hth,?_⟩;have htm:(ts.map trD).length=ts.length:=length_map _;walk_at "r";rintro u y2 hu0 hu1 hd2 hy2;have e1:atI (o.map nD) (1+(k:Int) - 1)=some (.int ((o.getD k 0:Nat):Int)):=by rw [show 1+(k:Int) - 1=(k:Int) by omega];exact pJ (by omega)
  have e2:atI (o.map nD) (1+(k:Int))=some (.int ((o.getD (k+1) 0:Nat):Int)):=by rw [show 1+(k:Int)=((k+1:Nat):Int) by omega];exact pJ (by omega)
  have hmd:0<=u % ((ts.length:Int)+1)/\u % ((ts.length:Int)+1)<1000:=⟨Bf _ (by omega),by have:=A2 u (show 0<(ts.length:Int)+1 by omega);omega⟩
  walk_at "r";refine⟨_,e1,?_⟩;walk_at "r";refine⟨_,e2,?_⟩;walk_at "r"
  refine⟨insN ts (u % ((ts.length:Int)+1)) (o.getD k 0,o.getD (k+1) 0,th),y2,some (.dat (.int (1+(k:Int)))),some (.dat (.int z)),some (.dat (.int th)),?_,hd2,by omega,?_⟩
  .rw [qY];exact (pK _ ts _ _).trans (hp.append_right _)
  .rw [htm,<- qZ];rfl
 .rintro ρ ⟨ts,ys,a,b,c,hp,hy,hl,rfl⟩;have e:(((o.map nD).length:Int) - 1).toNat=o.length - 1:=by rw [hol];omega
  rw [e] at hp hl;walk_at "r";exact q ts ys hp hy hl
noncomputable def gO(K:b_)(mg:Str->Option Value)(t:TxX K mg):=(have TX:=t;show LS K [] _ _ from (ay (aE (bB bR (aa (aj (i:=1)) ae)) (aw (i:=3) rfl)) (ay (aE (aC (aa (ac (ar aD (aj (i:=0)) (ac (aC (aa (ac (aC (aa (ac (ap (i:=0))) (aa (ac (ap (i:=0))) (aa (ac (ap (i:=1))) ae))))) ae))))) (aa (ac (ar aD (aj (i:=0)) (ac (aC (aa (ac (aC (aa (ac (au (i:=3))) (aa (ac (ap (i:=0))) (aa (ac (ap (i:=1))) ae))))) ae))))) ae))) (aw (i:=4) rfl)) (ay (iQ (g5 (kP (ar jL (aj (i:=0)) (ac (aC ae)))) (ay (aE (ar cp (aj (i:=0)) (ac (ar b9 (aj (i:=2)) (ac (bB bR (aa (aj (i:=0)) ae)))))) (aw (i:=5) rfl)) (ay (aE (ar b9 (aj (i:=2)) (ac (bB bR (aa (aj (i:=0)) ae)))) (aw (i:=6) rfl)) (ay (aE (ar aD (ac (dy (aj (i:=0)) du (dw (au (i:=6))))) (ac (dy (aj (i:=0)) (dw (ar aD (aj (i:=6)) (ac (ap (i:=1))))) du))) (aw (i:=7) rfl)) (ay (aE (aC (aa (ac (ar cp (aj (i:=5)) (ac (ap (i:=0))))) (aa (ac (ar cp (aj (i:=1)) (ac (ap (i:=0))))) (aa (ac (ar cp (aj (i:=5)) (ac (ap (i:=2))))) ae)))) (aw (i:=8) rfl)) (ay (aE (ar aD (aj (i:=4)) (ac (aC (aa (ac (au (i:=7))) (aa (ac (ar aD (aj (i:=7)) (ac (aC (aa (ac (au (i:=8))) ae))))) (aa (ac (ar aD (aj (i:=7)) (ac (aC (aa (ac (dy (aj (i:=5)) du (dw (ap (i:=2))))) ae))))) ae)))))) (aw (i:=4) rfl)) (ay (aE (ar aD (aj (i:=4)) (ac (aC (aa (ac (ar aD (aj (i:=7)) (ac (aC (aa (ac (aC (aa (ac (ar cp (aj (i:=5)) (ac (ap (i:=0))))) (aa (ac (au (i:=3))) (aa (ac (ap (i:=0))) ae))))) ae))))) (aa (ac (ar aD (aj (i:=7)) (ac (aC (aa (ac (aC (aa (ac (mz iw (ac (ap (i:=1))))) (aa (ac (ar cp (aj (i:=5)) (ac (ap (i:=1))))) (aa (ac (ap (i:=0))) ae))))) ae))))) ae))))) (aw (i:=4) rfl)) (ay (aE (ar aD (aj (i:=4)) (ac (aC (aa (ac (ar aD (aj (i:=7)) (ac (aC (aa (ac (ar aD (aj (i:=5)) (ac (aC (aa (ac (ap (i:=0))) ae))))) ae))))) (aa (ac (ar aD (aj (i:=0)) (ac (aC (aa (ac (au (i:=5))) ae))))) ae))))) (aw (i:=4) rfl)) (aE (ar aD (aj (i:=4)) (ac (aC (aa (ac (ar aD (aj (i:=7)) (ac (aC (aa (ac (aC (aa (ac (au (i:=3))) (aa (ac (ar cp (aj (i:=5)) (ac (ap (i:=1))))) (aa (ac (ap (i:=0))) ae))))) ae))))) (aa (ac (ar aD (aj (i:=7)) (ac (aC (aa (ac (aC (aa (ac (ar cp (aj (i:=5)) (ac (ap (i:=0))))) (aa (ac (mz iw (aj (i:=3)))) (aa (ac (ap (i:=0))) ae))))) ae))))) ae))))) (aw (i:=4) rfl))))))))) bE)) (ay (iQ (g5 (kP (ar qy (ac (bB bR (aa (aj (i:=0)) ae))) (ac (ap (i:=1))))) (ay (cV (gp (i:=4) (ar aD (ac (dy (aj (i:=0)) du (dw (mz iw (ac (ap (i:=1))))))) (ac (aC (aa (ac (ar cp (aj (i:=0)) (ac (ap (i:=0))))) ae)))))) (ay (aE (ar cp (aj (i:=0)) (ac (ap (i:=0)))) (aw (i:=9) rfl)) (cV (gp (i:=4) (ar aD (ac (dy (aj (i:=0)) (dw (ap (i:=1))) du)) (ac (aC (aa (ac (aC (aa (ac (ar cp (ac (ar cp (aj (i:=0)) (ac (ap (i:=1))))) (ac (ap (i:=0))))) (aa (ac (ar cp (aj (i:=9)) (ac (ap (i:=1))))) (aa (ac (ar cp (aj (i:=9)) (ac (ap (i:=2))))) ae))))) ae)))))))) bE)) (aZ (o0 (au (i:=4)))))))))
def lq:PTS:=psO gO
def lr:PRl eh lq 10 3:=λ_ Q h=>wT h λes _ h=>wT h λeo _ h=>mM h λm _ h=>jf h λh=>Ab rfl <| by
 walk_at "z";obtain⟨ts,rfl,o,rfl,⟨hr,hm0,hm1⟩,q⟩:=h;have hl:=hr.len;have hn:=hr.n;have htm:(ts.map trD).length=ts.length:=length_map _;have hom:(o.map nD).length=o.length:=length_map _;have e1:kr (.lst (ts.map trD)) (.lst []):=by rw [dg];exact kr.of (f8 _) (Sh.lstI [])
 have e2:deq (.lst (ts.map trD)) (.lst [])=decide (ts=[]):=by rw [dg,i8];exact decide_eq_decide.mpr ⟨λz=>map_eq_nil_iff.mp z,λz=>by rw [z];rfl⟩
 have h50:ts.length<=50:=by omega
 have hlen:ts.length+1<=1000000:=by omega
 have start:∀b∈[ts.map cb++[[0,0,1]],ts.map cb++[[(o.length:Int),0,1]]],mP o.length b:=λb hb=>by
  rcases mem_cons.mp hb with rfl|hb
  .exact i9 h50 (by decide) (λr z=>by rw [s_.mp z];decide) (by show ts.length+1≠_;omega)
  .rw [s_.mp hb];exact i9 h50 (by show 1<=2;decide) (λr z=>by rw [s_.mp z];show 3<=10;decide) (by show ts.length+1≠_;omega)
 walk_at "r"
 refine⟨λρ=>∃(bs:List (List (List Int))) (a b c d e:Option PV),(∀b∈bs,mP o.length b)/\bs.length<=16/\ρ=[some (.dat (.lst (ts.map trD))),some (.dat (.lst (o.map nD))),some (.dat (.int m)),some (.dat (.int (o.length:Int))),some (.own (bs.map λb=>.lst (b.map cO))),a,b,c,d,e],?_,?_⟩
 .walk_at "r";rw [e2]
  refine my (λc=>?_) (λc=>?_)
  .have h1:0<ts.length:=length_pos_iff.mpr c;obtain⟨k,hk⟩:∃k:Nat,m % (ts.length:Int)=(k:Int):=⟨(m % (ts.length:Int)).toNat,by have:=Bf m (show (ts.length:Int)≠0 by omega);omega⟩
   have hkt:k<ts.length:=by have:=A2 m (show 0<(ts.length:Int) by omega);omega
   have a1:atI (ts.map trD) (m % (ts.length:Int))=some (trD ts[k]):=by
    rw [hk];unfold atI;rw [htm,wS hkt];show (ts.map trD)[k]?=_;rw [so,d_ hkt];rfl
   walk_at "r";rw [htm];refine⟨_,a1,?_⟩;walk_at "r";have e3:=rc (ts:=ts) (k:=k);rw [<- hk] at e3;have rl:(ts.take k++ts.drop (k+1)).length=ts.length - 1:=by rw [length_append,length_take,length_drop];omega
   have rl2:=congrArg List.length e3;rw [length_append,length_map,rl] at rl2;have rl50:(ts.take k++ts.drop (k+1)).length<=50:=by omega
   have bk:=hr.back hkt;generalize ts.take k++ts.drop (k+1)=rs at e3 rl rl50 bk;obtain⟨h0,hh0⟩:∃h0:Nat,h0=o.getD 0 0:=⟨_,rfl⟩
   have ao:atI (o.map nD) 0=some (.int ((o.getD 0 0:Nat):Int)):=pJ (i:=0) (by omega);have rm:(rs.map trD).length=rs.length:=length_map _;have ct:dr [D.int ((ts[k]).1:Int),D.int ((ts[k]).2.1:Int),D.int (ts[k]).2.2] none (some 2)=[D.int ((ts[k]).1:Int),D.int ((ts[k]).2.1:Int)]:=rfl;have al:rs.length+1<=1000000:=by omega
   rw [htm,e3];refine⟨by omega,?_⟩;walk_at "r";refine⟨_,ao,?_⟩;walk_at "r"
   refine⟨[ts.map cb++[[0,0,1]],ts.map cb++[[(o.length:Int),0,1]]]++[rs.map cb++[],rs.map cb++[[((ts[k]).1:Int),((o.getD 0 0:Nat):Int),(ts[k]).2.2]],rs.map cb++[[((ts[k]).1:Int),((ts[k]).2.1:Int)]]]++[rs.map cb++[[((ts[k]).1:Int),(o.length:Int),0]],rs.map cb++[[-1,((ts[k]).2.1:Int),0]]]++[rs.map cb++[cb ts[k]++[0]],ts.map cb++[cb ts[k]]]++[rs.map cb++[[(o.length:Int),((ts[k]).2.1:Int),0]],rs.map cb++[[((ts[k]).1:Int),-(o.length:Int),0]]],some (.dat (trD ts[k])),some (.dat (.int (m % (ts.length:Int)))),some (.dat (.lst (rs.map trD))),some (.dat (.lst [.int ((ts[k]).1:Int),.int ((o.getD 0 0:Nat):Int),.int (ts[k]).2.2])),none,?_,by show 11<=16;omega,?_⟩
   .intro b hb;simp only [z0,mem_cons,not_mem_nil,or_false] at hb
    rcases hb with ((((hb|hb)|rfl|rfl|rfl)|rfl|rfl)|rfl|rfl)|rfl|rfl
    .exact start b (by rw [hb];exact mem_cons_self ..)
    .exact start b (by rw [hb];exact w_ _ (mem_cons_self ..))
    .exact i9 rl50 (by decide) (λr z=>nomatch z) (by show rs.length+0≠_;omega)
    .exact bk _
    .exact pN rl50 (by show 2<=10;decide) (by show 2≠3;decide)
    .exact pP rl50 (by show 3<=10;decide) (by show ¬ (0<=(o.length:Int)/\(o.length:Int)<(o.length:Int));omega)
    .exact pO rl50 (by show 3<=10;decide) (by show ¬ (0<=(-1:Int)/\_);omega)
    .exact pN rl50 (by show 4<=10;decide) (by show 4≠3;decide)
    .exact i9 h50 (by show 1<=2;decide) (λr z=>by rw [s_.mp z];show 3<=10;decide) (by show ts.length+1≠_;omega)
    .exact pO rl50 (by show 3<=10;decide) (by show ¬ (0<=(o.length:Int)/\(o.length:Int)<(o.length:Int));omega)
    .exact pP rl50 (by show 3<=10;decide) (by show ¬ (0<=-(o.length:Int)/\_);omega)
   .simp only [map_append,map_cons,map_nil,dg,hom,append_nil,ct];rfl
  .walk_at "r";refine⟨[ts.map cb++[[0,0,1]],ts.map cb++[[(o.length:Int),0,1]]],none,none,none,none,none,start,by show 2<=16;omega,?_⟩;simp only [map_append,map_cons,map_nil,dg,hom];rfl
 .rintro ρ ⟨bs,a,b,c,d,e,hb,hbl,rfl⟩;walk_at "r"
  refine⟨λρ=>∃(bs:List (List (List Int))) (a b c d e:Option PV),(∀b∈bs,mP o.length b)/\bs.length<=20/\ρ=[some (.dat (.lst (ts.map trD))),some (.dat (.lst (o.map nD))),some (.dat (.int m)),some (.dat (.int (o.length:Int))),some (.own (bs.map λb=>.lst (b.map cO))),a,b,c,d,e],?_,?_⟩
  .walk_at "r";rw [htm]
   refine fN (λc1=>?_) (λc1=>?_)
   .have t0:0<ts.length:=by omega
    have t1:1<ts.length:=by omega
    have a0:=sk t0;have a1:=sk t1;have ed:dr (ts.map trD) none (some (-1))=ts.dropLast.map trD:=by rw [tI,map_dropLast]
    have et:dr (ts.map trD) (some 1) none=ts.tail.map trD:=by rw [show (1:Int)=((1:Nat):Int) from rfl,jv,map_tail,drop_one]
    have ld:(ts.dropLast.map trD).length=ts.length - 1:=by rw [length_map,Bn]
    have lt:(ts.tail.map trD).length=ts.length - 1:=by rw [length_map,CW]
    have m0:ts[0]∈ts.dropLast:=by
     rw [mem_iff_getElem];exact⟨0,by rw [Bn];omega,getElem_dropLast ..⟩
    have m1:ts[1]∈ts.tail:=by
     rw [mem_iff_getElem];exact⟨0,by rw [CW];omega,getElem_tail ..⟩
    have hbm:(bs.map λb=>D.lst (b.map cO)).length=bs.length:=length_map _;walk_at "r";refine⟨_,a0,?_⟩;walk_at "r";rw [ed];refine⟨by show _+1<=_;omega,?_⟩;walk_at "r";refine⟨_,a0,?_⟩;walk_at "r";refine⟨_,a1,?_⟩;walk_at "r";rw [et]
    refine⟨by show _+1<=_;omega,by rw [length_append,hbm];show bs.length+1<_;omega,bs++[ts.dropLast.map cb++[cb ts[0]],ts.tail.map cb++[[((ts[1]).1:Int),((ts[0]).2.1:Int),(ts[0]).2.2]]],a,b,c,d,some (.dat (trD ts[0])),?_,by rw [length_append];show bs.length+2<=20;omega,?_⟩
    .intro b hb'
     rcases z0.mp hb' with z|z
     .exact hb b z
     .rcases mem_cons.mp z with rfl|z
      .exact pQ (by rw [Bn];omega) (by show 3<=10;decide) m0 rfl
      .rw [s_.mp z];exact pQ (by rw [CW];omega) (by show 3<=10;decide) m1 rfl
    .rw [map_append,append_assoc,dg,dg,dg];simp only [map_append,map_cons,map_nil];rfl
   .walk_at "r";exact⟨bs,_,_,_,_,_,hb,by omega,rfl⟩
  .rintro ρ ⟨bs,a,b,c,d,e,hb,hbl,rfl⟩;walk_at "r";exact q bs hb hbl
noncomputable def dH(K:b_)(mg:Str->Option Value)(t:TxX K mg):=(have TX:=t;show LS K [] _ _ from (ay (wn (c:=bc) (aa (ac (au (i:=0))) (aa (ac (au (i:=1))) ae)) (yf (c0:="GlueError") (i:=2) TX.all (by first|exact AY rfl|exact AH (j_.mp (by decide +kernel))) rfl (aZ (aP (c:=bj) (aa (ac (au (i:=2))) (aa (ac (bJ (d:="NoOrder") TX.all (by first|exact AY rfl|exact AH (j_.mp (by decide +kernel))) (aj (i:=2)))) ae)))) wm)) (aZ (fO (i:=false)))))
def h7:PTS:=psO dH
def h8:PRl bn h7 3 2:=λ_ Q h=>sf h λd _ h=>mM h λm _ h=>jf h λh=>Ab rfl <| by
 walk_at "z";obtain⟨hj,hm,hn,q⟩:=h;have i1:oK "NoOrder" "NoOrder"=true:=by decide +kernel
 have i2:oK "NoOrder" "GlueError"=true:=by decide +kernel
 walk_at "r"
 refine⟨λo c1 c2=>?_,λ_=>?_⟩
 .rcases hn with z|z
  .rw [z] at c1;cases c1
  .exact absurd c2 (z o)
 .walk_at "r";exact q
noncomputable def eP(K:b_)(mg:Str->Option Value)(t:TxX K mg):=(have TX:=t;show LS K [] _ _ from (ay (aE (aC (aa (ac nZ) (aa (ac (ap (i:=7))) (aa (ac (fO (i:=true))) (aa (ac (n4 (l:=[97,98,99]))) (aa (ac (n4 (l:=[]))) (aa (ac oq) (aa (ac (ub (by first|exact List.nodup_singleton _|decide) (by decide) (qL (Br 0) (ac (aC (aa (ac (ap (i:=0))) (aa (ac (ap (i:=1))) (aa (ac (ap (i:=1))) ae))))) t9))) ae)))))))) (aw (i:=1) rfl)) (ay (jJ (cM (aC (aa (ac nZ) (aa (ac (ap (i:=7))) (aa (ac (n4 (l:=[97,98,99]))) (aa (ac oq) (aa (ac (vH ae)) (aa (ac (aC (aa (ac (ap (i:=0))) (aa (ac (ap (i:=1))) (aa (ac nZ) ae))))) (aa (ac (aC (aa (ac (ap (i:=0))) (aa (ac (fO (i:=true))) (aa (ac (ap (i:=1))) ae))))) (aa (ac (aC (aa (ac (ap (i:=0))) (aa (ac (ap (i:=1))) (aa (ac (fO (i:=true))) ae))))) (aa (ac (aC (aa (ac (ap (i:=0))) (aa (ac (aC (aa (ac (ap (i:=1))) ae))) (aa (ac (ap (i:=1))) ae))))) ae))))))))))) (aT (i:=2) rfl) (cV (gp (i:=1) (ar fo (ac (aC (aa (ac (au (i:=2))) ae))) (ac (bB oj (aa (ac (ar n5 (aj (i:=0)) (ac (ap (i:=1))))) (aa (ac (ap (i:=1))) ae)))))))) (aZ (o0 (au (i:=1)))))))
def jb:PTS:=psO eP
def jc:PRl cE jb 3 1:=λ_ Q h=>mM h λm _ h=>jf h λh=>Ab rfl <| by
 walk_at "z";obtain⟨hm,q⟩:=h;have hmx:∃k:Nat,(if 1 > m - 1 then (1:Int) else m - 1)=k/\1<=k/\k<=60:=⟨(if 1 > m - 1 then (1:Int) else m - 1).toNat,by split <;> omega,by split <;> omega,by split <;> omega⟩
 obtain⟨k,hk,hk1,hk2⟩:=hmx;have base:∀x∈[D.non,D.int 7,D.bl true,D.str [97,98,99],D.str [],D.dic [] [],D.dic [.inl 0] [D.lst [D.int 0,D.int 1,D.int 1]]],JOk x/\fT x m=false:=la m;have ones:∀y∈[D.non,D.int 7,D.str [97,98,99],D.dic [] [],D.tup [],D.lst [D.int 0,D.int 1,D.non],D.lst [D.int 0,D.bl true,D.int 1],D.lst [D.int 0,D.int 1,D.bl true],D.lst [D.int 0,D.lst [D.int 1],D.int 1]],(Srt y/\(aM y).length<=3)/\aQ y 3=false:=lb
 walk_at "r";generalize hB:[D.non,D.int 7,D.bl true,D.str [97,98,99],D.str [],D.dic [] [],D.dic [.inl 0] [D.lst [D.int 0,D.int 1,D.int 1]]]=B at base ⊢;have lB:B.length=7:=by rw [<- hB];rfl
 generalize hO:[D.non,D.int 7,D.str [97,98,99],D.dic [] [],D.tup [],D.lst [D.int 0,D.int 1,D.non],D.lst [D.int 0,D.bl true,D.int 1],D.lst [D.int 0,D.int 1,D.bl true],D.lst [D.int 0,D.lst [D.int 1],D.int 1]]=O at ones ⊢;have lO:O.length=9:=by rw [<- hO];rfl
 refine⟨λj ρ=>∃(L:List D) (v:Option PV),(∀x∈L,JOk x/\fT x m=false)/\L.length=7+j/\ρ=[some (.dat (.int m)),some (.own L),v],⟨B,none,base,lB,rfl⟩,?_,?_⟩
 .rintro j ρ _ hj rfl ⟨L,v,hL,hLl,rfl⟩;have hy:=ones _ (cY hj);generalize itD O j=y at hy;walk_at "r";rw [hk,pR];refine⟨L++[.lst (pf k y)],some (.dat y),λx hx=>?_,by rw [length_append,hLl];rfl,rfl⟩
  rcases z0.mp hx with z|z
  .exact hL x z
  .rw [s_.mp z];exact up hy hk1 hk2
 .rintro ρ ⟨L,v,hL,hLl,rfl⟩;rw [lO] at hLl;walk_at "r";exact q L hL (by omega)
noncomputable def gP(K:b_)(mg:Str->Option Value)(t:TxX K mg):=(have TX:=t;show LS K [] _ _ from (ay (aE (qK (c:=bc) (aa (ac (au (i:=0))) (aa (ac (bB bR (aa (aj (i:=1)) ae))) ae))) (aw (i:=2) rfl)) (ay (g5 (mB (cU (mL (jH .tuple (aj (i:=2))))) (kP (ar jL (ac (dO (ix:=[none]) rfl (cM (au (i:=2))) (λfs hc=>(aT (i:=0) (mE hc (by decide)))) (cU (mL (aP (c:=bt) (aa (ac (au (i:=0))) ae)))) (au (i:=0)))) (ac (aC ae))))) (aZ (fO (i:=false))) bE) (aZ (ar jK (ac (bB kQ (aa (aj (i:=2)) ae))) (aj (i:=1)))))))
def lu:PTS:=psO gP
def lv:PRl cF lu 3 2:=λ_ Q h=>sf h λd _ h=>wT h λeo _ h=>jf h λh=>Ab rfl <| by
 walk_at "z";obtain⟨o,rfl,⟨hj,hl⟩,⟨ha,hc⟩,q⟩:=h;have hom:(o.map nD).length=o.length:=length_map _;have hb:0<=(o.length:Int)/\(o.length:Int)<=60:=⟨by omega,by omega⟩
 have eqo:kr (.lst (o.map nD)) (.lst (o.map nD)):=by rw [gE];exact kr.of (Sh.lstI _) (Sh.lstI _)
 have deqo:deq (.lst (o.map nD)) (.lst (o.map nD))=true:=by rw [gE];exact iT (Sh.lstI _)
 walk_at "r";rw [hom]
 refine⟨λo' c1 c2=>?_,λz=>?_⟩
 .rw [zK] at c2;rw [hc.uniq c2];have eq0:kr (.lst []) (.lst []):=kr.of (Sh.lstI []) (Sh.lstI []);have deq0:deq (.lst []) (.lst [])=true:=iT (Sh.lstI []);walk_at "r"
  refine⟨⟨λk ys τ=>ys=[]/\∃v,τ=[v],⟨rfl,_,rfl⟩,?_,?_⟩⟩
  .rintro k ys τ _ hk rfl ⟨rfl,v,rfl⟩;obtain⟨x,_,hx⟩:=zW.mp (cY hk);rw [<- hx];walk_at "r";exact⟨_,rfl⟩
  .rintro ys τ ⟨rfl,v,rfl⟩;walk_at "r";rw [deqo];exact q
 .rw [zK] at z
  rcases z with z|z
  .rw [ha] at z;cases z
  .exact absurd hc (z o)
noncomputable def ss(K:b_)(mg:Str->Option Value)(t:TxX K mg):=(have TX:=t;show LS K [] _ _ from (ay (aE (aP (c:=eg) (aa (ac (au (i:=0))) (aa (ac (ap (i:=200))) ae))) (aw (i:=1) rfl)) (ay (aE (ar b9 (ac (cq (c:=br) (i:=1) ae)) (ac (ap (i:=15)))) (aw (i:=2) rfl)) (ay (iQ (g5 (kP (ar jK (aj (i:=2)) (ac (ap (i:=14))))) (aE (ap (i:=40)) (aw (i:=2) rfl)) bE)) (ay (aE (cq (c:=de) (i:=1) (aa (ac (au (i:=2))) ae)) (aw (i:=3) rfl)) (ay (aE (cq (c:=df) (i:=1) (aa (ac (au (i:=3))) ae)) (aw (i:=4) rfl)) (ay (aE (dO (ix:=[none]) rfl (cM (au (i:=4))) (λfs hc=>(aT (i:=0) (mE hc (by decide)))) gn (bB kQ (aa (aj (i:=0)) ae))) (aw (i:=5) rfl)) (ay (g5 (mB (cU (mL (aP (c:=cF) (aa (ac (au (i:=5))) (aa (ac (au (i:=3))) ae))))) (kP (ar jL (aj (i:=5)) (aj (i:=4))))) (aZ (fO (i:=false))) bE) (ay (jJ (cM (aP (c:=eh) (aa (ac (au (i:=4))) (aa (ac (au (i:=3))) (aa (ac (cq (c:=br) (i:=1) ae)) ae))))) (aT (i:=6) rfl) (g5 (mB (cU (mL (aP (c:=bn) (aa (ac (au (i:=6))) (aa (ac (au (i:=2))) ae))))) (cU (mL (aP (c:=bn) (aa (ac (bB eF (aa (ac (dO (ix:=[none]) rfl (cM (au (i:=6))) (λfs hc=>(aT (i:=0) (mE hc (by decide)))) gn (bB eF (aa (aj (i:=0)) ae)))) ae))) (aa (ac (au (i:=2))) ae)))))) (aZ (fO (i:=false))) bE)) (ay (jJ (cM (aP (c:=cE) (aa (ac (au (i:=2))) ae))) (aT (i:=7) rfl) (g5 (cU (mL (aP (c:=bn) (aa (ac (au (i:=7))) (aa (ac (au (i:=2))) ae))))) (aZ (fO (i:=false))) bE)) (aZ (aP (c:=cF) (aa (ac (bB eF (aa (ac (dO (ix:=[none]) rfl (cM (au (i:=4))) (λfs hc=>(aT (i:=0) (mE hc (by decide)))) gn (bB eF (aa (aj (i:=0)) ae)))) ae))) (aa (ac (au (i:=3))) ae))))))))))))))
def pV:PTS:=psO ss
def uq(ns:List Int)(h63:ns.length<=63)(Q:PV->Prop)(q:Q (.dat (.bl true))):wP pV sm [.scr ns] Q:=by
 show pV _ [some (.dat (.scr ns)),none,none,none,none,none,none,none];walk_at "r";rintro zs hz hl;have hl:zs.length=200:=hl;have g0:Dk zs/\0<zs.length/\zs.length<=100000:=⟨hz,by omega,by omega⟩
 walk_at "r";rintro z y1 hz0 hz1 hd1 hy1;have hm0:0<=z % 15/\z % 15<15:=⟨Bf z (by decide),A2 z (by decide)⟩
 walk_at "r"
 refine⟨λρ=>∃n:Nat,n<=40/\ρ=[some (.dat (.scr ns)),some (.own (y1.map .int)),some (.dat (.int (n:Int))),none,none,none,none,none],?_,?_⟩
 .walk_at "r"
  refine fN (λc=>?_) (λc=>?_)
  .walk_at "r";exact⟨40,o_ _,rfl⟩
  .walk_at "r";refine⟨(z % 15).toNat,by omega,?_⟩;rw [toNat_of_nonneg hm0.1]
 .rintro ρ ⟨n,hn,rfl⟩;have g1:Dk y1/\(n:Int).toNat<=y1.length/\y1.length<=10000/\0<=(n:Int)/\(n:Int)<=40:=⟨hd1,by omega,by omega,by omega,by omega⟩
  walk_at "r";rintro js y2 hp hd2 hy2;rw [zK] at hp hy2;have hjl:js.length=n:=by rw [hp.length_eq,length_range]
  subst hjl;have g2:Dk y2/\2*(js.length - 1)+1<=y2.length/\y2.length<=10000/\js.length<=40:=⟨hd2,by omega,by omega,hn⟩
  walk_at "r";rintro ts y3 hts hd3 hy3;have R:RJ js ts:=⟨hts,hp,hn⟩
  have htm:(ts.map trD).length=ts.length:=length_map _;have rl:=R.len
  have tkr:∀(b:List (List Int)) (c:List Int->D) (k:Nat),k<b.length->(b.take (k+1)).map c=(b.take k).map c++[c (b.getD k [])]:=λb c k hk=>by
   rw [take_add_one,d_ hk,map_append,g_,d_ hk];rfl
  have itr:∀(b:List (List Int)) (k:Nat),k<b.length->itD (b.map cO) k=cO (b.getD k []):=λb k hk=>jI (by
   rw [so,g_,d_ hk];rfl)
  have hgood:=j2 (c:=cO) (.inl rfl) lf R;have hgoodU:=j2 (c:=rf) (.inr rfl) lg R;have srl:(ts.map cb).length<=100:=by rw [length_map];omega
  have g3:Dk y3/\0<y3.length/\y3.length<=100000:=⟨hd3,by omega,by omega⟩
  have eqh:kr (.lst ((ts.map cb).map cO)) (.lst ((ts.map cb).map cO)):=kr.of (f8 _) (f8 _);have deqh:deq (.lst ((ts.map cb).map cO)) (.lst ((ts.map cb).map cO))=true:=iT (f8 _);have trr:=dg ts;rw [trr];rw [trr] at htm;generalize hrs:ts.map cb=rs at *;walk_at "r"
  refine⟨⟨λk ys τ=>ys=(rs.take k).map cO/\∃v,τ=[v],⟨rfl,_,rfl⟩,?_,?_⟩⟩
  .rintro k ys τ _ hk rfl ⟨rfl,v,rfl⟩;have hk:k<rs.length:=by rw [<- length_map cO];exact hk
   have e1:=tkr rs cO k hk;rw [itr rs k hk];walk_at "r";exact⟨e1.symm,_,rfl⟩
  .rintro ys τ ⟨rfl,v,rfl⟩;rw [length_map,CU];have h1:JOk (.lst (rs.map cO))/\js.length<=60:=⟨hgood.1,by omega⟩
   have h2:=hgood.2;walk_at "r";rintro w y4 hw0 hw1 hd4 hy4;refine⟨ts,trr.symm,js,rfl,⟨R,hw0,hw1⟩,λbs hb hbl=>?_⟩;walk_at "r"
   refine⟨λk ρ=>∃x:Option PV,ρ=[some (.dat (.scr ns)),some (.own (y4.map .int)),some (.dat (.int (js.length:Int))),some (.dat (.lst (js.map nD))),some (.dat (.lst (rs.map cO))),some (.dat (.lst (rs.map cO))),x,none],⟨_,rfl⟩,?_,?_⟩
   .rintro k ρ _ hk rfl ⟨x,rfl⟩;have hk:k<bs.length:=by rw [<- length_map (as:=bs)];exact hk
    have hbk:=hb _ (CY hk);have ek:itD (bs.map λb=>D.lst (b.map cO)) k=.lst (bs[k].map cO):=jI (by rw [so,d_ hk];rfl);rw [ek];generalize bs[k]=b at hbk;have b1:=lc (d:=.lst (b.map cO)) (.inl rfl) lf hbk.l;have b2:=lZ (d:=.lst (b.map cO)) (.inl rfl) lf hbk;have b3:=lc (d:=.tup (b.map rf)) (.inr rfl) lg hbk.l;have b4:=lZ (d:=.tup (b.map rf)) (.inr rfl) lg hbk;have hjn:0<=(js.length:Int)/\(js.length:Int)<=60:=⟨by omega,by omega⟩
    have bl:=hbk.l.1;walk_at "r"
    refine⟨⟨λk ys τ=>ys=(b.take k).map rf/\∃v,τ=[v],⟨rfl,_,rfl⟩,?_,?_⟩⟩
    .rintro k ys τ _ hk rfl ⟨rfl,v,rfl⟩;have hk:k<b.length:=by rw [<- length_map cO];exact hk
     have e1:=tkr b rf k hk;rw [itr b k hk];walk_at "r";exact⟨e1.symm,_,rfl⟩
    .rintro ys τ ⟨rfl,v,rfl⟩;rw [length_map,CU];walk_at "r";exact⟨_,rfl⟩
   .rintro ρ ⟨x,rfl⟩;have hjn:0<=(js.length:Int)/\(js.length:Int)<=60:=⟨by omega,by omega⟩
    walk_at "r";intro L hL hLl;walk_at "r"
    refine⟨λk ρ=>∃y:Option PV,ρ=[some (.dat (.scr ns)),some (.own (y4.map .int)),some (.dat (.int (js.length:Int))),some (.dat (.lst (js.map nD))),some (.dat (.lst (rs.map cO))),some (.dat (.lst (rs.map cO))),x,y],⟨_,rfl⟩,?_,?_⟩
    .rintro k ρ _ hk rfl ⟨y,rfl⟩;obtain⟨t1,t2⟩:=hL _ (cY hk);generalize itD L k=th at t1 t2;walk_at "r";refine⟨.inl t2,?_⟩;walk_at "r";exact⟨_,rfl⟩
    .rintro ρ ⟨y,rfl⟩;walk_at "r"
     refine⟨⟨λk ys τ=>ys=(rs.take k).map rf/\∃v,τ=[v],⟨rfl,_,rfl⟩,?_,?_⟩⟩
     .rintro k ys τ _ hk rfl ⟨rfl,v,rfl⟩;have hk:k<rs.length:=by rw [<- length_map cO];exact hk
      have e1:=tkr rs rf k hk;rw [itr rs k hk];walk_at "r";exact⟨e1.symm,_,rfl⟩
     .rintro ys τ ⟨rfl,v,rfl⟩;rw [length_map,CU];have h3:JOk (.tup (rs.map rf))/\js.length<=60:=⟨hgoodU.1,by omega⟩
      have h4:=hgoodU.2;walk_at "r";exact q
def wD:PRl sr pV sm 1:=λ_ Q h=>match h with|⟨ns,e,h63,q⟩=>e ▸ ⟨rfl,uq ns h63 Q q⟩
local macro_rules | `(tactic| walk_at "l")=>`(tactic| (intros;rename_i h;split at h <;> first | rfl | exact h.elim))
local macro_rules | `(tactic| walk_at "b0")=>`(tactic| exact fun _ _ _ _ _ _ us hl=>match us,hl with | [],_=>rfl)
local macro_rules | `(tactic| walk_at "b1")=>`(tactic| exact fun _ _ _ _ _ _ us hl=>match us,hl with | [_],_=>rfl)
local macro_rules | `(tactic| walk_at "b2")=>`(tactic| exact fun _ _ _ _ _ _ us hl=>match us,hl with | [_,_],_=>rfl)
local macro_rules | `(tactic| walk_at "b3")=>`(tactic| exact fun _ _ _ _ _ _ us hl=>match us,hl with | [_,_,_],_=>rfl)
local macro_rules | `(tactic| walk_at "b4")=>`(tactic| exact fun _ _ _ _ _ _ us hl=>match us,hl with | [_,_,_,_],_=>rfl)
local macro_rules | `(tactic| walk_at "b5")=>`(tactic| exact fun _ _ _ _ _ _ us hl=>match us,hl with | [_,_,_,_,_],_=>rfl)
local macro_rules | `(tactic| walk_at "b6")=>`(tactic| exact fun _ _ _ _ _ _ us hl=>match us,hl with | [_,_,_,_,_,_],_=>rfl)
local macro_rules | `(tactic| walk_at "b7")=>`(tactic| exact fun _ _ _ _ _ _ us hl=>match us,hl with | [_,_,_,_,_,_,_],_=>rfl)
section
variable (P:m_) (w:World) (K:b_) (mg:Str->Option Value) (base:Heap)
abbrev gQ:=Cal P w K mg base 1 "is_row" ["thing"] (spP K eO)
abbrev fG:=Cal P w K mg base 1 "is_number" ["thing"] (spP K bX)
abbrev b7:=Cal P w K mg base 2 "are_numbers" ["thing","many"] (spP K bi)
abbrev gR:=Cal P w K mg base 3 "is_order" ["thing","many"] (spP K ef)
abbrev fH:=Cal P w K mg base 3 "are_joins" ["thing","many"] (spP K c8)
abbrev bG:=wg P w K mg base 4 "order_of_joins" ["joins","many"] (spX K bc)
abbrev fJ:=Cal P w K mg base 1 "_law_mixed" ["_law_cell","_law_k"] (spP K c9)
abbrev gS:=Cal P w K mg base 2 "_law_deck" ["_law_script","_law_many"] (spP K eg)
abbrev cG:=Cal P w K mg base 1 "_law_next" ["_law_deck_here"] (spR K br)
abbrev kf:=se P w K mg base 1 "_law_kinds" ["_law_error"] (spP K bu)
abbrev fK:=Cal P w K mg base 2 "_law_order" ["_law_deck_here","_law_many"] (spR K de)
abbrev fL:=Cal P w K mg base 2 "_law_joins" ["_law_deck_here","_law_order_here"] (spR K df)
abbrev gU:=Cal P w K mg base 1 "_law_bent" ["_law_joins_here","_law_order_here","_law_at"] (spP K eh)
abbrev h9:=se P w K mg base 2 "_law_is_just" ["_law_error","_law_told_here"] (spP K bj)
abbrev dI:=Cal P w K mg base 5 "_law_refused" ["_law_joins_here","_law_many"] (spP K bn)
abbrev eQ:=Cal P w K mg base 1 "_law_things" ["_law_many"] (spP K cE)
abbrev kg:=se P w K mg base 1 "_law_whole" ["_law_found"] (spP K bt)
abbrev gW:=Cal P w K mg base 5 "_law_told" ["_law_joins_here","_law_order_here"] (spP K cF)
abbrev wE:=Cal P w K mg base 6 "law" ["_law_script"] (spP K sr)
end
section
variable (P:m_) (w:World) {K:b_}{mg:Str->Option Value} (base:Heap)
def pW(D:aW K mg "is_row" i4)(T:Txt mg)(TX:TxX K mg):gQ P w K mg base:=D.oP2 pw (by walk_at "b1") pU rfl rfl λ_ _ _ _ _ _ _ hr hu=>⟨_,(aq (aY (ak (xN K rfl) rfl T.b_isinstance tf (paC (pv 0) (paC (rn (paC (cQ (v:=.ty "list") rfl T.b_list B1 rfl) (paC (cQ (v:=.ty "tuple") rfl T.b_tuple BD rfl) af))) af))))),(j3 K mg TX)⟩
def kh(D:aW K mg "is_number" dR)(T:Txt mg)(TX:TxX K mg):fG P w K mg base:=D.oP2 jW (by walk_at "b1") j5 rfl rfl λ_ _ _ _ _ _ _ hr hu=>⟨_,(aq (aY (ig (ak (n8 K rfl) rfl T.b_isinstance tf (paC (pv 0) (paC (cQ (v:=.ty "int") rfl T.b_int boot_int rfl) af))) (jh (rh (ak (n8 K rfl) rfl T.b_isinstance tf (paC (pv 0) (paC (cQ (v:=.ty "bool") rfl T.b_bool boot_bool rfl) af)))))))),(fu K mg TX)⟩
def ia(D:aW K mg "are_numbers" cu)(T:Txt mg)(TX:TxX K mg)(C'1:fG P w K mg base)(C'0:gQ P w K mg base):b7 P w K mg base:=D.oP2 hG (by walk_at "b2") hZ rfl rfl λ_ _ _ _ _ _ _ hr hu=>⟨_,(aq (aY (ig (aS C'0 (hr.m rfl) (paC (pv 0) af)) (ig (iC (oy K rfl hu) (ak (dN K rfl) rfl T.b_len zM (paC (pv 0) af)) (pv 1) (bH _)) (jh (ak (v3 K rfl rfl) rfl T.b_all boot_all (paC (gj (wi:=(og K (dA 0))) (g:=(cf 0)) (tts:=qj) (te:=(iE (spP K bX) [] E0 (bA (dA 0) iD))) ["item"] [none] rfl (cK K rfl (pv 0)) (λ_ _ _ _=>⟨(a8 (i:=0) (by show As (["item"]:List Str);decide +kernel) rfl (by walk_at "o")),dL,(aS C'1 (hr.m rfl) (paC (pv 0) af))⟩) (by kernel_rfl)) af))))))),(dF K mg TX)⟩
def lw(D:aW K mg "is_order" e8)(T:Txt mg)(TX:TxX K mg)(C'2:b7 P w K mg base):gR P w K mg base:=D.oP2 k7 (by walk_at "b2") li rfl rfl λ_ _ _ _ _ _ _ hr hu=>⟨_,(aq (aY (ig (aS C'2 (hr.m rfl) (paC (pv 0) (paC (pv 1) af))) (jh (iC (oy K rfl hu) (ak (tK K rfl) rfl T.b_sorted boot_sorted (paC (pv 0) af)) (a7 (rR K rfl rfl) rfl T.b_list B1 (paC (jB rfl T.b_range (paC (pv 1) af)) af)) (bH _)))))),(gL K mg TX)⟩
def ki(D:aW K mg "are_joins" dS)(T:Txt mg)(TX:TxX K mg)(C'2:b7 P w K mg base)(C'0:gQ P w K mg base):fH P w K mg base:=D.oP2 jX (by walk_at "b2") j7 rfl rfl λ_ _ _ _ _ _ _ hr hu=>⟨_,(ah (eS (PW.pt (l5 (cS (bS (aS C'0 (hr.m rfl) (paC (pv 0) af)))) (ie (bp (oz K rfl hu) (ak (dN K rfl) rfl T.b_len zM (paC (pv 0) af)) (ak (rN rfl) rfl T.b_max boot_max (paC (aI tG (pv 1) am) (paC am af))) (bH _))))) (aq (aY fM)) bv) (aq (aY (ak (v3 K rfl rfl) rfl T.b_all boot_all (paC (gj (wi:=(og K (dA 0))) (g:=(cf 0)) (tts:=qj) (te:=(iE (spP K bi) [] E0 (bA (dA 0) (bA (tC (V.int 3)) iD)))) ["row"] [none] rfl (cK K rfl (pv 0)) (λ_ _ _ _=>⟨(a8 (i:=0) (by show As (["row"]:List Str);decide +kernel) rfl (by walk_at "o")),dL,(aS C'2 (hr.m rfl) (paC (pv 0) (paC am af)))⟩) (by kernel_rfl)) af))))),(fz K mg TX)⟩
def fh(D:aW K mg "order_of_joins" bM)(T:Txt mg)(TX:TxX K mg)(C'4:fH P w K mg base)(C'3:gR P w K mg base):bG P w K mg base:=D.oX2 bb (by walk_at "b2") fg rfl rfl λ_ _ _ _ _ _ _ hr hu=>⟨_,(ah (eS (PT.nox (cS (bS (aS C'4 (hr.m rfl) (paC (pv 0) (paC (pv 1) af)))))) (aq (iX K rfl rfl oQ (kW TX.z'e TX.kp'e TX.m'e))) bv) (ah (PS.nox (qO (wi:=(og K (dA 0))) (g:=(wQ K 3 (ji (cf 0) (ji (cf 1) (ji (cf 2) wI))))) (tts:=qj) (tk:=(dA 0)) (tv:=(dA 1)) (i:=2) ["i","j","k"] [none,none,none] bb.nd rfl (AH rfl) rfl (hu1 hu) (cK K rfl (pv 0)) (λ_ _ _ _=>⟨(rX K rfl (n:=3) rfl (dn (a8 (i:=0) (by show As (["i","j","k"]:List Str);decide +kernel) rfl (by walk_at "o")) (dn (a8 (i:=1) (by show As (["i","j","k"]:List Str);decide +kernel) rfl (by walk_at "o")) (dn (a8 (i:=2) (by show As (["i","j","k"]:List Str);decide +kernel) rfl (by walk_at "o")) mW)))),dL,(pv 0),(pv 1)⟩) (by kernel_rfl))) (ah (PS.nox (aG (i:=3) bb.nd rfl (by walk_at "o") (qN (wi:=(og K (dA 0))) (g:=(wQ K 3 (ji (cf 0) (ji (cf 1) (ji (cf 2) wI))))) (tts:=qj) (tk:=(dA 1)) (tv:=(tC (V.bl true))) ["i","j","k"] [none,none,none] rfl (hu1 hu) (cK K rfl (pv 0)) (λ_ _ _ _=>⟨(rX K rfl (n:=3) rfl (dn (a8 (i:=0) (by show As (["i","j","k"]:List Str);decide +kernel) rfl (by walk_at "o")) (dn (a8 (i:=1) (by show As (["i","j","k"]:List Str);decide +kernel) rfl (by walk_at "o")) (dn (a8 (i:=2) (by show As (["i","j","k"]:List Str);decide +kernel) rfl (by walk_at "o")) mW)))),dL,(pv 1),fM⟩) (by kernel_rfl)))) (ah (PS.nox (nQ (wi:=(sC (bA (dA 1) iD))) (g:=(cf 0)) (tts:=(sE (tOp (wU true) (dA 0) (dA 1)))) (te:=(dA 0)) (i:=4) ["number","led"] [none,some 3] bb.nd rfl (AH rfl) rfl (mZ rfl T.b_range (paC (pv 1) af)) (λ_ _ _ _=>⟨(a8 (i:=0) (by show As (["number","led"]:List Str);decide +kernel) rfl (by walk_at "o")),(nP (bp (qR hu) (pv 0) (pv 1) (by with_unfolding_all rfl))),(pv 0)⟩) (by kernel_rfl))) (ah (eS (PT.nox (bp wN (ak (dN K rfl) rfl T.b_len zM (paC (pv 4) af)) am (bH _))) (aq (iX K rfl rfl oQ (kW TX.z'e TX.kp'e TX.m'e))) bv) (ah (fU PassesOwn.leaving (PT.nox (PW.pt (rg (uc K rfl (pv 4)) (mV (bp (yo hu) (cg (iO K rfl) (pv 4) (l8 ij am) (λ_ _=>rfl)) (pv 2) (by with_unfolding_all rfl)))))) (aq (PS.nox (ce (dC K rfl x_ zS zT bI (pv 4) (paC (qQ hu (pv 2) (cg (iO K rfl) (pv 4) (l8 ij am) (λ_ _=>rfl)) (λ_ _=>rfl)) af)))))) (ah (eS (PT.nox (cS (bS (aS C'3 (hr.m rfl) (paC (pv 4) (paC (pv 1) af)))))) (aq (iX K rfl rfl oQ (kW TX.z'e TX.kp'e TX.m'e))) bv) (aq (PS.nox (aY (a7 (gq K rfl) rfl T.b_tuple BD (paC (pv 4) af)))))))))))),(λEc=>cc K mg TX Ec _)⟩
def kj(D:aW K mg "_law_mixed" dU)(T:Txt mg)(TX:TxX K mg):fJ P w K mg base:=D.oP2 ba (by walk_at "b2") j9 rfl rfl λ_ _ _ _ _ _ _ hr hu=>⟨_,(ah (aG (i:=2) ba.nd rfl (by walk_at "o") (aI (aK K rfl) (aI eY (pv 0) am) (aI jG (aI jG (pv 1) (pv 1)) am))) (ah (aG (i:=2) ba.nd rfl (by walk_at "o") (aI eY (aI (aK K rfl) (aI (aK K rfl) (pv 2) (aI jG (pv 1) am)) am) am)) (ah (aG (i:=2) ba.nd rfl (by walk_at "o") (aI eY (aI jG (pv 2) (pv 2)) am)) (ah (aG (i:=2) ba.nd rfl (by walk_at "o") (aI jG (aI (aK K rfl) (aI (aK K rfl) (pv 2) (aI jG (pv 1) am)) am) am)) (ah (aG (i:=2) ba.nd rfl (by walk_at "o") (aI eY (pv 2) am)) (ah (aG (i:=2) ba.nd rfl (by walk_at "o") (aI eY (aI jG (pv 2) (pv 2)) am)) (aq (aY (aI rS (pv 2) am))))))))),(fA K mg TX)⟩
def lx(D:aW K mg "_law_deck" e9)(T:Txt mg)(TX:TxX K mg)(C'6:fJ P w K mg base):gS P w K mg base:=D.oP2 a5 (by walk_at "b2") ll rfl rfl λ_ _ _ _ _ _ _ hr hu=>⟨_,(ah (aG (i:=2) a5.nd rfl (by walk_at "o") (aI (aK K rfl) (a7 (om K rfl) rfl T.b_list B1 (paC (pv 0) af)) (aB (paC (ak (dN K rfl) rfl T.b_len zM (paC (pv 0) af)) af)))) (ah (aG (i:=3) a5.nd rfl (by walk_at "o") (aB af)) (ah (aG (i:=4) a5.nd rfl (by walk_at "o") am) (ah (fU Au (bp xI (ak (dN K rfl) rfl T.b_len zM (paC (pv 3) af)) (pv 1) (bH _)) (ah (jj Au rfl (cK K rfl (pv 2)) (a8 (i:=5) a5.nd rfl (by walk_at "o")) (ah (aG (i:=6) a5.nd rfl (by walk_at "o") (pv 5)) (ah (iI (eS (PW.pt (l5 (bp wN (pv 4) am (bH _)) (ie (bp xI (pv 5) (aI v9 am am) (bH _))))) (ah (ce (dC K rfl x_ zS zT bI (pv 3) (paC (aI eY (aS C'6 (hr.m rfl) (paC (pv 5) (paC (aI (aK K rfl) (ak (dN K rfl) rfl T.b_len zM (paC (pv 3) af)) am) af))) am) af))) (aq (aG (i:=6) a5.nd rfl (by walk_at "o") am))) bv)) (aq (fU Au (PW.pt (rg (bp wN (pv 6) am (bH _)) (mV (bp xI (ak (dN K rfl) rfl T.b_len zM (paC (pv 3) af)) (pv 1) (bH _))))) (ah (ce (dC K rfl x_ zS zT bI (pv 3) (paC (aI eY (pv 6) am) af))) (aq (aG (i:=6) a5.nd rfl (by walk_at "o") (aI rS (pv 6) am))))))))) (aq (aG (i:=4) a5.nd rfl (by walk_at "o") (aI (aK K rfl) (pv 4) am))))) (aq (aY (kR K rfl rfl (dq (uw K rfl) (pv 3) eT (eU (pv 1))) rfl T.b_list rfl T.b_reversed))))))),(gM K mg TX)⟩
def ly(D:aW K mg "_law_next" fb)(T:Txt mg)(TX:TxX K mg):cG P w K mg base:=D.oR2 k8 (by walk_at "b1") lp rfl rfl λ_ _ _ _ _ _ _ hr hu=>⟨_,(aq (aY (vb x_ CN CO vc (pv 0)))),(gN K mg TX)⟩
def kl(D:aW K mg "_law_whole" dW)(T:Txt mg)(TX:TxX K mg):se P w K mg base 1 "_law_whole" ["_law_found"] (spP K bt):=by
 refine D.okN jY (λ_ _ _ _ _ _ us hl=>match us,hl with|[_],_=>rfl) (λvs H Q E h=>?_) (λf cdv A outer s H vs Q E hr h=>?_)
 .exact wO (λds Q h=>(dh ds Q h).1) h
 .have hu:=hr.units;exact⟨_,(aq (aY (ig (ak (n8 K rfl) rfl T.b_isinstance tf (paC (pv 0) (paC (cQ (v:=.ty "int") rfl T.b_int boot_int rfl) af))) (jh (rh (ak (n8 K rfl) rfl T.b_isinstance tf (paC (pv 0) (paC (cQ (v:=.ty "bool") rfl T.b_bool boot_bool rfl) af)))))))),fnP (K:=K) (c:=bt) (ps:=fB) (N:=["_law_found"]) (aZ (ir (jH .int (aj (i:=0))) (rD (jH .bool (aj (i:=0)))))) (λds Q h=>Af (Cu (dh ds Q h).1) (by decide)) (λds Q h=>(dh ds Q h).2) h⟩
def km(D:aW K mg "_law_kinds" dX)(T:Txt mg)(TX:TxX K mg):se P w K mg base 1 "_law_kinds" ["_law_error"] (spP K bu):=by
 refine D.okN aU (λ_ _ _ _ _ _ us hl=>match us,hl with|[_],_=>rfl) (λvs H Q E h=>?_) (λf cdv A outer s H vs Q E hr h=>?_)
 .exact wO (λds Q h=>(di ds Q h).1) h
 .have hu:=hr.units;exact⟨_,(ah (aG (i:=1) aU.nd rfl (by walk_at "o") (aB (paC (ak (cZ K rfl) rfl T.b_isinstance tf (paC (pv 0) (paC (a9 TX.m'b) af))) (paC (ak (cZ K rfl) rfl T.b_isinstance tf (paC (pv 0) (paC (a9 TX.m'c) af))) af)))) (ah (aG (i:=1) aU.nd rfl (by walk_at "o") (aI (aK K rfl) (pv 1) (aB (paC (ak (cZ K rfl) rfl T.b_isinstance tf (paC (pv 0) (paC (a9 TX.m'd) af))) (paC (ak (cZ K rfl) rfl T.b_isinstance tf (paC (pv 0) (paC (a9 TX.m'e) af))) af))))) (ah (aG (i:=1) aU.nd rfl (by walk_at "o") (aI (aK K rfl) (pv 1) (aB (paC (ak (cZ K rfl) rfl T.b_isinstance tf (paC (pv 0) (paC (a9 TX.m'f) af))) (paC (ak (cZ K rfl) rfl T.b_isinstance tf (paC (pv 0) (paC (a9 TX.m'g) af))) af))))) (ah (aG (i:=1) aU.nd rfl (by walk_at "o") (aI (aK K rfl) (pv 1) (aB (paC (ak (cZ K rfl) rfl T.b_isinstance tf (paC (pv 0) (paC (a9 TX.m'h) af))) (paC (ak (cZ K rfl) rfl T.b_isinstance tf (paC (pv 0) (paC (a9 TX.m'i) af))) af))))) (ah (aG (i:=1) aU.nd rfl (by walk_at "o") (aI (aK K rfl) (pv 1) (aB (paC (ak (cZ K rfl) rfl T.b_isinstance tf (paC (pv 0) (paC (a9 TX.m'j) af))) (paC (ak (cZ K rfl) rfl T.b_isinstance tf (paC (pv 0) (paC (a9 TX.m'k) af))) af))))) (ah (aG (i:=1) aU.nd rfl (by walk_at "o") (aI (aK K rfl) (pv 1) (aB (paC (ak (cZ K rfl) rfl T.b_isinstance tf (paC (pv 0) (paC (a9 TX.m'l) af))) (paC (ak (cZ K rfl) rfl T.b_isinstance tf (paC (pv 0) (paC (a9 TX.m'm) af))) af))))) (ah (aG (i:=1) aU.nd rfl (by walk_at "o") (aI (aK K rfl) (pv 1) (aB (paC (ak (cZ K rfl) rfl T.b_isinstance tf (paC (pv 0) (paC (a9 TX.m'n) af))) (paC (ak (cZ K rfl) rfl T.b_isinstance tf (paC (pv 0) (paC (a9 TX.m'o) af))) af))))) (ah (aG (i:=1) aU.nd rfl (by walk_at "o") (aI (aK K rfl) (pv 1) (aB (paC (ak (cZ K rfl) rfl T.b_isinstance tf (paC (pv 0) (paC (a9 TX.m'p) af))) af)))) (aq (aY (dC K rfl x_ Cw PySem.F.type_list_count (ud K rfl) (pv 1) (paC fM af)))))))))))),fnP (K:=K) (c:=bu) (ps:=fC) (N:=["_law_error","_law_found"]) (ay (aE (aC (aa (ac (bJ (d:="TooMany") TX.all (by first|exact AY rfl|exact AH (j_.mp (by decide +kernel))) (aj (i:=0)))) (aa (ac (bJ (d:="NoPiece") TX.all (by first|exact AY rfl|exact AH (j_.mp (by decide +kernel))) (aj (i:=0)))) ae))) (aw (i:=1) rfl)) (ay (aE (ar aD (aj (i:=1)) (ac (aC (aa (ac (bJ (d:="NoLap") TX.all (by first|exact AY rfl|exact AH (j_.mp (by decide +kernel))) (aj (i:=0)))) (aa (ac (bJ (d:="NoOrder") TX.all (by first|exact AY rfl|exact AH (j_.mp (by decide +kernel))) (aj (i:=0)))) ae))))) (aw (i:=1) rfl)) (ay (aE (ar aD (aj (i:=1)) (ac (aC (aa (ac (bJ (d:="NotHeld") TX.all (by first|exact AY rfl|exact AH (j_.mp (by decide +kernel))) (aj (i:=0)))) (aa (ac (bJ (d:="NoTable") TX.all (by first|exact AY rfl|exact AH (j_.mp (by decide +kernel))) (aj (i:=0)))) ae))))) (aw (i:=1) rfl)) (ay (aE (ar aD (aj (i:=1)) (ac (aC (aa (ac (bJ (d:="NoRing") TX.all (by first|exact AY rfl|exact AH (j_.mp (by decide +kernel))) (aj (i:=0)))) (aa (ac (bJ (d:="TooGreat") TX.all (by first|exact AY rfl|exact AH (j_.mp (by decide +kernel))) (aj (i:=0)))) ae))))) (aw (i:=1) rfl)) (ay (aE (ar aD (aj (i:=1)) (ac (aC (aa (ac (bJ (d:="NoWords") TX.all (by first|exact AY rfl|exact AH (j_.mp (by decide +kernel))) (aj (i:=0)))) (aa (ac (bJ (d:="NotApart") TX.all (by first|exact AY rfl|exact AH (j_.mp (by decide +kernel))) (aj (i:=0)))) ae))))) (aw (i:=1) rfl)) (ay (aE (ar aD (aj (i:=1)) (ac (aC (aa (ac (bJ (d:="NoCounts") TX.all (by first|exact AY rfl|exact AH (j_.mp (by decide +kernel))) (aj (i:=0)))) (aa (ac (bJ (d:="NotCovered") TX.all (by first|exact AY rfl|exact AH (j_.mp (by decide +kernel))) (aj (i:=0)))) ae))))) (aw (i:=1) rfl)) (ay (aE (ar aD (aj (i:=1)) (ac (aC (aa (ac (bJ (d:="NoLine") TX.all (by first|exact AY rfl|exact AH (j_.mp (by decide +kernel))) (aj (i:=0)))) (aa (ac (bJ (d:="NoPaper") TX.all (by first|exact AY rfl|exact AH (j_.mp (by decide +kernel))) (aj (i:=0)))) ae))))) (aw (i:=1) rfl)) (ay (aE (ar aD (aj (i:=1)) (ac (aC (aa (ac (bJ (d:="NotTold") TX.all (by first|exact AY rfl|exact AH (j_.mp (by decide +kernel))) (aj (i:=0)))) ae)))) (aw (i:=1) rfl)) (aZ (ue (aj (i:=1)) (fO (i:=true)))))))))))) (λds Q h=>Af (Cu (di ds Q h).1) (by decide)) (λds Q h=>(di ds Q h).2) h⟩
def ib(D:aW K mg "_law_is_just" cv)(T:Txt mg)(TX:TxX K mg)(C'10:kf P w K mg base):se P w K mg base 2 "_law_is_just" ["_law_error","_law_told_here"] (spP K bj):=by
 refine D.okN hU (λ_ _ _ _ _ _ us hl=>match us,hl with|[_,_],_=>rfl) (λvs H Q E h=>?_) (λf cdv A outer s H vs Q E hr h=>?_)
 .exact wO (λds Q h=>(b6 ds Q h).1) h
 .have hu:=hr.units;exact⟨_,(ah (eS (PW.pt (l5 (cS (bS (ak (cZ K rfl) rfl T.b_isinstance tf (paC (pv 0) (paC (a9 TX.m'a) af))))) (ie (cS (bS (ak (ya K rfl) rfl T.b_isinstance tf (paC (pv 0) (paC (cQ (v:=.ty "ValueError") rfl T.b_ValueError PyProof.Rows.Boot.«ValueError» rfl) af)))))))) (aq (aY fM)) bv) (aq (aY (ig (pv 1) (jh (iC (oy K rfl hu) (k6 C'10 (hr.mono (by decide)) (paC (pv 0) af)) am (bH _))))))),fnP (K:=K) (c:=bj) (ps:=dG) (N:=["_law_error","_law_told_here"]) (ay (g5 (mB (cU (mL (bJ (d:="GlueError") TX.all (by first|exact AY rfl|exact AH (j_.mp (by decide +kernel))) (aj (i:=0))))) (cU (mL (wf TX.all (aj (i:=0)))))) (aZ (fO (i:=false))) bE) (aZ (ir (au (i:=1)) (ar jK (ac (aP (c:=bu) (aa (ac (au (i:=0))) ae))) (ac (ap (i:=1))))))) (λds Q h=>Af (Cu (b6 ds Q h).1) (by decide)) (λds Q h=>(b6 ds Q h).2) h⟩
def kn(D:aW K mg "_law_order" dY)(T:Txt mg)(TX:TxX K mg)(C'8:cG P w K mg base):fK P w K mg base:=D.oR2 c6 (by walk_at "b2") kc rfl rfl λ_ _ _ _ _ _ _ hr hu=>⟨_,(ah (aG (i:=2) c6.nd rfl (by walk_at "o") (a7 (rR K rfl rfl) rfl T.b_list B1 (paC (jB rfl T.b_range (paC (pv 1) af)) af))) (ah (aG (i:=3) c6.nd rfl (by walk_at "o") (aB af)) (ah (fU Au (bp (oz K rfl hu) (pv 2) (aB af) (bH _)) (aq (ce (dC K rfl x_ zS zT bI (pv 3) (paC (dC K rfl x_ CN CO qf (pv 2) (paC (aI eY (aS C'8 (hr.m rfl) (paC (pv 0) af)) (ak (dN K rfl) rfl T.b_len zM (paC (pv 2) af))) af)) af))))) (aq (aY (pv 3)))))),(fE K mg TX)⟩
def ko(D:aW K mg "_law_joins" dZ)(T:Txt mg)(TX:TxX K mg)(C'8:cG P w K mg base):fL P w K mg base:=D.oR2 bK (by walk_at "b2") ke rfl rfl λ_ _ _ _ _ _ _ hr hu=>⟨_,(ah (aG (i:=2) bK.nd rfl (by walk_at "o") (aB af)) (ah (jj Au rfl (m4 rfl T.b_range (paC am (paC (ak (dN K rfl) rfl T.b_len zM (paC (pv 1) af)) af))) (a8 (i:=3) bK.nd rfl (by walk_at "o")) (ah (aG (i:=4) bK.nd rfl (by walk_at "o") (aS C'8 (hr.m rfl) (paC (pv 0) af))) (ah (aG (i:=5) bK.nd rfl (by walk_at "o") (cg (iO K rfl) (aB (paC (pv 4) (paC (l8 ij (pv 4)) (paC (aI (aK K rfl) (aI v9 am am) (pv 4)) af)))) (aI eY (pv 4) am) (λ_ _=>rfl))) (aq (ce (dC K rfl x_ PySem.F.slot_list_insert PySem.F.type_list_insert oB (pv 2) (paC (aI eY (aS C'8 (hr.m rfl) (paC (pv 0) af)) (aI (aK K rfl) (ak (dN K rfl) rfl T.b_len zM (paC (pv 2) af)) am)) (paC (aB (paC (cg (iO K rfl) (pv 1) (aI tG (pv 3) am) (λ_ _=>rfl)) (paC (cg (iO K rfl) (pv 1) (pv 3) (λ_ _=>rfl)) (paC (pv 5) af)))) af)))))))) (aq (aY (pv 2))))),(fF K mg TX)⟩
def lz(D:aW K mg "_law_bent" fc)(T:Txt mg)(TX:TxX K mg):gU P w K mg base:=D.oP2 aN (by walk_at "b3") lr rfl rfl λ_ _ _ _ _ _ _ hr hu=>⟨_,(ah (aG (i:=3) aN.nd rfl (by walk_at "o") (ak (dN K rfl) rfl T.b_len zM (paC (pv 1) af))) (ah (aG (i:=4) aN.nd rfl (by walk_at "o") (aB (paC (aI (aK K rfl) (pv 0) (aB (paC (aB (paC am (paC am (paC am af)))) af))) (paC (aI (aK K rfl) (pv 0) (aB (paC (aB (paC (pv 3) (paC am (paC am af)))) af))) af)))) (ah (iI (eS (bp (oz K rfl hu) (pv 0) (aB af) (bH _)) (ah (aG (i:=5) aN.nd rfl (by walk_at "o") (cg (iO K rfl) (pv 0) (aI eY (pv 2) (ak (dN K rfl) rfl T.b_len zM (paC (pv 0) af))) (λ_ _=>rfl))) (ah (aG (i:=6) aN.nd rfl (by walk_at "o") (aI eY (pv 2) (ak (dN K rfl) rfl T.b_len zM (paC (pv 0) af)))) (ah (aG (i:=7) aN.nd rfl (by walk_at "o") (aI (aK K rfl) (dq (uw K rfl) (pv 0) eT (eU (pv 6))) (dq (uw K rfl) (pv 0) (eU (aI (aK K rfl) (pv 6) am)) eT))) (ah (aG (i:=8) aN.nd rfl (by walk_at "o") (aB (paC (cg (iO K rfl) (pv 5) am (λ_ _=>rfl)) (paC (cg (iO K rfl) (pv 1) am (λ_ _=>rfl)) (paC (cg (iO K rfl) (pv 5) am (λ_ _=>rfl)) af))))) (ah (aG (i:=4) aN.nd rfl (by walk_at "o") (aI (aK K rfl) (pv 4) (aB (paC (pv 7) (paC (aI (aK K rfl) (pv 7) (aB (paC (pv 8) af))) (paC (aI (aK K rfl) (pv 7) (aB (paC (dq (uw K rfl) (pv 5) eT (eU am)) af))) af)))))) (ah (aG (i:=4) aN.nd rfl (by walk_at "o") (aI (aK K rfl) (pv 4) (aB (paC (aI (aK K rfl) (pv 7) (aB (paC (aB (paC (cg (iO K rfl) (pv 5) am (λ_ _=>rfl)) (paC (pv 3) (paC am af)))) af))) (paC (aI (aK K rfl) (pv 7) (aB (paC (aB (paC (l8 ij am) (paC (cg (iO K rfl) (pv 5) am (λ_ _=>rfl)) (paC am af)))) af))) af))))) (ah (aG (i:=4) aN.nd rfl (by walk_at "o") (aI (aK K rfl) (pv 4) (aB (paC (aI (aK K rfl) (pv 7) (aB (paC (aI (aK K rfl) (pv 5) (aB (paC am af))) af))) (paC (aI (aK K rfl) (pv 0) (aB (paC (pv 5) af))) af))))) (aq (aG (i:=4) aN.nd rfl (by walk_at "o") (aI (aK K rfl) (pv 4) (aB (paC (aI (aK K rfl) (pv 7) (aB (paC (aB (paC (pv 3) (paC (cg (iO K rfl) (pv 5) am (λ_ _=>rfl)) (paC am af)))) af))) (paC (aI (aK K rfl) (pv 7) (aB (paC (aB (paC (cg (iO K rfl) (pv 5) am (λ_ _=>rfl)) (paC (l8 ij (pv 3)) (paC am af)))) af))) af))))))))))))) bv)) (ah (iI (eS (bp wN (ak (dN K rfl) rfl T.b_len zM (paC (pv 0) af)) am (bH _)) (ah (ce (dC K rfl x_ zS zT bI (pv 4) (paC (aI (aK K rfl) (dq (uw K rfl) (pv 0) eT (eU (l8 ij am))) (aB (paC (cg (iO K rfl) (pv 0) am (λ_ _=>rfl)) af))) af))) (ah (aG (i:=9) aN.nd rfl (by walk_at "o") (cg (iO K rfl) (pv 0) am (λ_ _=>rfl))) (aq (ce (dC K rfl x_ zS zT bI (pv 4) (paC (aI (aK K rfl) (dq (uw K rfl) (pv 0) (eU am) eT) (aB (paC (aB (paC (cg (iO K rfl) (cg (iO K rfl) (pv 0) am (λ_ _=>rfl)) am (λ_ _=>rfl)) (paC (cg (iO K rfl) (pv 9) am (λ_ _=>rfl)) (paC (cg (iO K rfl) (pv 9) am (λ_ _=>rfl)) af)))) af))) af)))))) bv)) (aq (aY (pv 4))))))),(gO K mg TX)⟩
def ic(D:aW K mg "_law_refused" cw)(T:Txt mg)(TX:TxX K mg)(C'11:h9 P w K mg base)(C'5:bG P w K mg base):dI P w K mg base:=D.oP2 dE (by walk_at "b2") h8 rfl rfl λ_ _ _ _ _ _ _ hr hu=>⟨_,(ah (wk rfl rfl (λJ pn E px=>ah (ce (oU C'5 (hr.m rfl) px (paC (pv 0) (paC (pv 1) af)))) bv) (wo 2 K rfl TX.d'a TX.m'a dE.nd rfl rfl (λ_=>(aq (aY (k6 C'11 ((hr.mark _).mono (by decide)) (paC (pv 2) (paC (ak (cZ K rfl) rfl T.b_isinstance tf (paC (pv 2) (paC (a9 TX.m'e) af))) af)))))) wj)) (aq (aY fM))),(dH K mg TX)⟩
def jd(D:aW K mg "_law_things" c5)(T:Txt mg)(TX:TxX K mg):eQ P w K mg base:=D.oP2 cz (by walk_at "b1") jc rfl rfl λ_ _ _ _ _ _ _ hr hu=>⟨_,(@ah _ _ _ _ _ (@aG _ _ 1 _ _ _ _ cz.nd rfl (by walk_at "o") (@aB _ _ _ _ (@paC _ _ _ _ _ mU (@paC _ _ _ _ _ am (@paC _ _ _ _ _ fM (@paC _ _ _ _ _ (@kE _ _ _ ([97,98,99]) _ (by decide +kernel)) (@paC _ _ _ _ _ (@kE _ _ _ [] _ (by decide +kernel)) (@paC _ _ _ _ _ lJ (@paC _ _ _ _ _ (@sY _ _ _ _ _ (@qv _ _ _ _ _ _ (tC (kV (Br 0))) _ _ am (@aB _ _ _ _ (@paC _ _ _ _ _ am (@paC _ _ _ _ _ am (@paC _ _ _ _ _ am af rfl) rfl) rfl)) sX) rfl rfl (by intro z;cases z) (by decide)) af rfl) rfl) rfl) rfl) rfl) rfl) rfl)) rfl (by first|exact .inl rfl|exact .inr rfl|assumption)) (@ah _ _ _ _ _ (@jj _ _ _ _ _ _ _ _ Au rfl (@cK _ _ K rfl _ _ (@aB _ _ _ _ (@paC _ _ _ _ _ mU (@paC _ _ _ _ _ am (@paC _ _ _ _ _ (@kE _ _ _ ([97,98,99]) _ (by decide +kernel)) (@paC _ _ _ _ _ lJ (@paC _ _ _ _ _ (@rn _ _ _ _ _ af) (@paC _ _ _ _ _ (@aB _ _ _ _ (@paC _ _ _ _ _ am (@paC _ _ _ _ _ am (@paC _ _ _ _ _ mU af rfl) rfl) rfl)) (@paC _ _ _ _ _ (@aB _ _ _ _ (@paC _ _ _ _ _ am (@paC _ _ _ _ _ fM (@paC _ _ _ _ _ am af rfl) rfl) rfl)) (@paC _ _ _ _ _ (@aB _ _ _ _ (@paC _ _ _ _ _ am (@paC _ _ _ _ _ am (@paC _ _ _ _ _ fM af rfl) rfl) rfl)) (@paC _ _ _ _ _ (@aB _ _ _ _ (@paC _ _ _ _ _ am (@paC _ _ _ _ _ (@aB _ _ _ _ (@paC _ _ _ _ _ am af rfl)) (@paC _ _ _ _ _ am af rfl) rfl) rfl)) af rfl) rfl) rfl) rfl) rfl) rfl) rfl) rfl) rfl))) (@a8 _ _ 2 _ cz.nd rfl (by walk_at "o") (by first|exact .inl rfl|exact .inr rfl|assumption)) (@aq _ _ _ (@ce _ _ _ _ (@dC _ _ _ _ _ _ _ _ _ _ _ _ K rfl x_ zS zT bI (@pv _ 1 _ _ rfl (by walk_at "o") (by decide) (by decide)) (@paC _ _ _ _ _ (@aI _ _ _ _ _ _ _ _ jG (@aB _ _ _ _ (@paC _ _ _ _ _ (@pv _ 2 _ _ rfl (by walk_at "o") (by decide) (by decide)) af rfl)) (@ak _ _ _ _ _ _ _ _ _ (rN rfl) rfl T.b_max boot_max (@paC _ _ _ _ _ (@aI _ _ _ _ _ _ _ _ tG (@pv _ 0 _ _ rfl (by walk_at "o") (by decide) (by decide)) am) (@paC _ _ _ _ _ am af rfl) rfl) (by decide) (by decide) rfl rfl)) af rfl) rfl rfl rfl rfl rfl) rfl)) (λ_=>rfl)) (@aq _ _ _ (@aY _ _ _ _ (@pv _ 1 _ _ rfl (by walk_at "o") (by decide) (by decide)))))),(eP K mg TX)⟩
def lA(D:aW K mg "_law_told" fe)(T:Txt mg)(TX:TxX K mg)(C'9:kg P w K mg base)(C'5:bG P w K mg base):gW P w K mg base:=D.oP2 gz (by walk_at "b2") lv rfl rfl λ_ _ _ _ _ _ _ hr hu=>⟨_,(ah (aG (i:=2) gz.nd rfl (by walk_at "o") (oU C'5 (hr.m rfl) px0 (paC (pv 0) (paC (ak (dN K rfl) rfl T.b_len zM (paC (pv 1) af)) af)))) (ah (eS (PW.pt (l5 (cS (bS (ak (n8 K rfl) rfl T.b_isinstance tf (paC (pv 2) (paC (cQ (v:=.ty "tuple") rfl T.b_tuple BD rfl) af))))) (ie (bp (oz K rfl hu) (gj (wi:=(og K (dA 2))) (g:=(cf 0)) (tts:=(wW (tB (iE (spP K bt) [] E0 (bA (dA 0) iD))))) (te:=(dA 0)) ["_law_one"] [none] rfl (cK K rfl (pv 2)) (λ_ _ _ _=>⟨(a8 (i:=0) (by show As (["_law_one"]:List Str);decide +kernel) rfl (by walk_at "o")),(nP (cS (bS (k6 C'9 (hr.n.mono (by decide)) (paC (pv 0) af))))),(pv 0)⟩) (by kernel_rfl)) (aB af) (bH _))))) (aq (aY fM)) bv) (aq (aY (iC (oy K rfl hu) (a7 (om K rfl) rfl T.b_list B1 (paC (pv 2) af)) (pv 1) (bH _)))))),(gP K mg TX)⟩
def wF(D:aW K mg "law" qS)(T:Txt mg)(TX:TxX K mg)(C'14:gU P w K mg base)(C'7:gS P w K mg base)(C'13:fL P w K mg base)(C'8:cG P w K mg base)(C'12:fK P w K mg base)(C'15:dI P w K mg base)(C'16:eQ P w K mg base)(C'17:gW P w K mg base):wE P w K mg base:=D.oP2 eM (by walk_at "b1") wD rfl rfl λ_ _ _ _ _ _ _ hr hu=>⟨_,(ah (aG (i:=1) eM.nd rfl (by walk_at "o") (aS C'7 (hr.m rfl) (paC (pv 0) (paC am af)))) (ah (aG (i:=2) eM.nd rfl (by walk_at "o") (aI eY (aS C'8 (hr.m rfl) (paC (pv 1) af)) am)) (ah (iI (eS (bp (oy K rfl hu) (pv 2) am (bH _)) (aq (aG (i:=2) eM.nd rfl (by walk_at "o") am)) bv)) (ah (aG (i:=3) eM.nd rfl (by walk_at "o") (aS C'12 (hr.m rfl) (paC (pv 1) (paC (pv 2) af)))) (ah (aG (i:=4) eM.nd rfl (by walk_at "o") (aS C'13 (hr.m rfl) (paC (pv 1) (paC (pv 3) af)))) (ah (nQ (wi:=(og K (dA 4))) (g:=(cf 0)) (tts:=qj) (te:=(tCB (kN K) (bA (dA 0) iD))) (i:=5) ["_law_join"] [none] eM.nd rfl (AH rfl) rfl (cK K rfl (pv 4)) (λ_ _ _ _=>⟨(a8 (i:=0) (by show As (["_law_join"]:List Str);decide +kernel) rfl (by walk_at "o")),dL,(a7 (om K rfl) rfl T.b_list B1 (paC (pv 0) af))⟩) (by kernel_rfl)) (ah (eS (PW.pt (l5 (cS (bS (aS C'17 (hr.m rfl) (paC (pv 5) (paC (pv 3) af))))) (ie (bp (oz K rfl hu) (pv 5) (pv 4) (bH _))))) (aq (aY fM)) bv) (ah (jj Au rfl (cK K rfl (aS C'14 (hr.m rfl) (paC (pv 4) (paC (pv 3) (paC (aS C'8 (hr.m rfl) (paC (pv 1) af)) af))))) (a8 (i:=6) eM.nd rfl (by walk_at "o")) (aq (eS (PW.pt (l5 (cS (bS (aS C'15 (hr.m rfl) (paC (pv 6) (paC (pv 2) af))))) (ie (cS (bS (aS C'15 (hr.m rfl) (paC (a7 (gq K rfl) rfl T.b_tuple BD (paC (gj (wi:=(og K (dA 6))) (g:=(cf 0)) (tts:=qj) (te:=(tCB (qA K) (bA (dA 0) iD))) ["_law_join"] [none] rfl (cK K rfl (pv 6)) (λ_ _ _ _=>⟨(a8 (i:=0) (by show As (["_law_join"]:List Str);decide +kernel) rfl (by walk_at "o")),dL,(a7 (gq K rfl) rfl T.b_tuple BD (paC (pv 0) af))⟩) (by kernel_rfl)) af)) (paC (pv 2) af)))))))) (aq (aY fM)) bv))) (ah (jj Au rfl (cK K rfl (aS C'16 (hr.m rfl) (paC (pv 2) af))) (a8 (i:=7) eM.nd rfl (by walk_at "o")) (aq (eS (cS (bS (aS C'15 (hr.m rfl) (paC (pv 7) (paC (pv 2) af))))) (aq (aY fM)) bv))) (aq (aY (aS C'17 (hr.m rfl) (paC (a7 (gq K rfl) rfl T.b_tuple BD (paC (gj (wi:=(og K (dA 4))) (g:=(cf 0)) (tts:=qj) (te:=(tCB (qA K) (bA (dA 0) iD))) ["_law_join"] [none] rfl (cK K rfl (pv 4)) (λ_ _ _ _=>⟨(a8 (i:=0) (by show As (["_law_join"]:List Str);decide +kernel) rfl (by walk_at "o")),dL,(a7 (gq K rfl) rfl T.b_tuple BD (paC (pv 0) af))⟩) (by kernel_rfl)) af)) (paC (pv 3) af)))))))))))))),(ss K mg TX)⟩
end
def wG{l:CK}{w:World}{K:b_}{h:Heap}{mg:Str->Option Value}{fa:Addr}(X:K.In h)(G:h.Ns mainGlobals mg)(hfa:mg "law"=some (.ref fa))
  {C'a:Addr} (aC'a:zH K mainGlobals "GlueError"=some (some (.ref C'a))) {q'a:Str}{N'a:Addr}{bs'a sub'a:List Value}{sn'a:List Str}{ab'a:Bool}{col'a:Option Bool}{k0'a k1'a k2'a k3'a k5'a:Option Value} (lC'a:K.lookup C'a=some (excClassObj "GlueError" q'a C'a N'a bs'a [.type "ValueError",.type "Exception",.type "BaseException",.type "object"] true sn'a sub'a ab'a col'a none k0'a k1'a k2'a k3'a k5'a "ValueError.__new__")) (xq'a:Am K C'a [.type "ValueError",.type "Exception",.type "BaseException",.type "object"] "ValueError.__new__"=true)
  {C'b:Addr} (b'b:XI K C'a "TooMany" C'b)
  (j'b:XJ K C'b "TooMany.__init__" "most" bY)
  {C'c:Addr} (b'c:XI K C'a "NoPiece" C'c)
  (j'c:XJ K C'c "NoPiece.__init__" "at" bZ)
  {C'd:Addr} (b'd:XI K C'a "NoLap" C'd)
  (j'd:XJ K C'd "NoLap.__init__" "k" c7)
  {C'e:Addr} (b'e:XI K C'a "NoOrder" C'e)
  (xq'e:Am K C'e [.type "ValueError",.type "Exception",.type "BaseException",.type "object"] "ValueError.__new__"=true)
  {C'f:Addr} (b'f:XI K C'a "NotHeld" C'f)
  (j'f:XJ K C'f "NotHeld.__init__" "at" b5)
  {C'g:Addr} (b'g:XI K C'a "NoTable" C'g)
  (xq'g:Am K C'g [.type "ValueError",.type "Exception",.type "BaseException",.type "object"] "ValueError.__new__"=true)
  {C'h:Addr} (b'h:XI K C'a "NoRing" C'h)
  (xq'h:Am K C'h [.type "ValueError",.type "Exception",.type "BaseException",.type "object"] "ValueError.__new__"=true)
  {C'i:Addr} (b'i:XI K C'a "TooGreat" C'i)
  (j'i:XJ K C'i "TooGreat.__init__" "most" bU)
  {C'j:Addr} (b'j:XI K C'a "NoWords" C'j)
  (xq'j:Am K C'j [.type "ValueError",.type "Exception",.type "BaseException",.type "object"] "ValueError.__new__"=true)
  {C'k:Addr} (b'k:XI K C'a "NotApart" C'k)
  (j'k:XJ K C'k "NotApart.__init__" "at" bV)
  {C'l:Addr} (b'l:XI K C'a "NoCounts" C'l)
  (j'l:XJ K C'l "NoCounts.__init__" "at" bW)
  {C'm:Addr} (b'm:XI K C'a "NotCovered" C'm)
  (j'm:XJ K C'm "NotCovered.__init__" "at" bF)
  {C'n:Addr} (b'n:XI K C'a "NoLine" C'n)
  (j'n:XJ K C'n "NoLine.__init__" "at" cA)
  {C'o:Addr} (b'o:XI K C'a "NoPaper" C'o)
  (xq'o:Am K C'o [.type "ValueError",.type "Exception",.type "BaseException",.type "object"] "ValueError.__new__"=true)
  {C'p:Addr} (b'p:XI K C'a "NotTold" C'p)
  (xq'p:Am K C'p [.type "ValueError",.type "Exception",.type "BaseException",.type "object"] "ValueError.__new__"=true)
  (d1:g8 K "is_row" i4)
  (d2:g8 K "is_number" dR)
  (d3:g8 K "_law_mixed" dU)
  (d4:g8 K "_law_next" fb)
  (d5:g8 K "_law_whole" dW)
  (d6:g8 K "_law_kinds" dX)
  (d7:g8 K "_law_bent" fc)
  (d8:g8 K "_law_things" c5)
  (d9:g8 K "are_numbers" cu)
  (d10:g8 K "_law_deck" e9)
  (d11:g8 K "_law_is_just" cv)
  (d12:g8 K "_law_order" dY)
  (d13:g8 K "_law_joins" dZ)
  (d14:g8 K "is_order" e8)
  (d15:g8 K "are_joins" dS)
  (d16:g8 K "order_of_joins" bM)
  (d17:g8 K "_law_refused" cw)
  (d18:g8 K "_law_told" fe)
  (d19:g8 K "law" qS)
  (z1:zH K mainGlobals "ValueError"=some none)
  (z2:zH K mainGlobals "all"=some none)
  (z3:zH K mainGlobals "bool"=some none)
  (z4:zH K mainGlobals "int"=some none)
  (z5:zH K mainGlobals "isinstance"=some none)
  (z6:zH K mainGlobals "len"=some none)
  (z7:zH K mainGlobals "list"=some none)
  (z8:zH K mainGlobals "max"=some none)
  (z9:zH K mainGlobals "range"=some none)
  (z10:zH K mainGlobals "reversed"=some none)
  (z11:zH K mainGlobals "sorted"=some none)
  (z12:zH K mainGlobals "tuple"=some none) :
  ∃fd:Ag,(∀(s:c_) (v:Value),Ci s fd ⟨[v],[]⟩ [("_law_script",v)])/\∀base:Heap,K.In base->base.Ns mainGlobals mg->kz l.prog w K mg base CX0 6 fa fd ["_law_script"] (ml K):=by
 have eC'a:=aV aC'a;have tl_:=tT xq'a ⟨_,_,_,_,_,_,_,_,_,_,_,_,_,lC'a⟩;obtain⟨aC'b,⟨_,_,_,_,_,_,_,_,_,_,_,_,lC'b⟩,ga'b,gh'b,sa'b,cl'b,kc'b⟩:=b'b;have eC'b:=aV aC'b;have xc'b:XC K C'b C'a:=⟨⟨_,_,_,_,_,_,_,_,_,_,_,_,_,lC'b⟩,ga'b,gh'b,sa'b,cl'b⟩
 obtain⟨_,_,_,_,_,_,_,_,_,_,xi'b,xt'b,xl'b,xc0'b,xk'b,xn'b⟩:=j'b;obtain⟨aC'c,⟨_,_,_,_,_,_,_,_,_,_,_,_,lC'c⟩,ga'c,gh'c,sa'c,cl'c,kc'c⟩:=b'c;have eC'c:=aV aC'c;have xc'c:XC K C'c C'a:=⟨⟨_,_,_,_,_,_,_,_,_,_,_,_,_,lC'c⟩,ga'c,gh'c,sa'c,cl'c⟩
 obtain⟨_,_,_,_,_,_,_,_,_,_,xi'c,xt'c,xl'c,xc0'c,xk'c,xn'c⟩:=j'c;obtain⟨aC'd,⟨_,_,_,_,_,_,_,_,_,_,_,_,lC'd⟩,ga'd,gh'd,sa'd,cl'd,kc'd⟩:=b'd;have eC'd:=aV aC'd;have xc'd:XC K C'd C'a:=⟨⟨_,_,_,_,_,_,_,_,_,_,_,_,_,lC'd⟩,ga'd,gh'd,sa'd,cl'd⟩
 obtain⟨_,_,_,_,_,_,_,_,_,_,xi'd,xt'd,xl'd,xc0'd,xk'd,xn'd⟩:=j'd;obtain⟨aC'e,⟨_,_,_,_,_,_,_,_,_,_,_,_,lC'e⟩,ga'e,gh'e,sa'e,cl'e,kc'e⟩:=b'e;have eC'e:=aV aC'e;have xc'e:XC K C'e C'a:=⟨⟨_,_,_,_,_,_,_,_,_,_,_,_,_,lC'e⟩,ga'e,gh'e,sa'e,cl'e⟩
 obtain⟨aC'f,⟨_,_,_,_,_,_,_,_,_,_,_,_,lC'f⟩,ga'f,gh'f,sa'f,cl'f,kc'f⟩:=b'f;have eC'f:=aV aC'f;have xc'f:XC K C'f C'a:=⟨⟨_,_,_,_,_,_,_,_,_,_,_,_,_,lC'f⟩,ga'f,gh'f,sa'f,cl'f⟩
 obtain⟨_,_,_,_,_,_,_,_,_,_,xi'f,xt'f,xl'f,xc0'f,xk'f,xn'f⟩:=j'f;obtain⟨aC'g,⟨_,_,_,_,_,_,_,_,_,_,_,_,lC'g⟩,ga'g,gh'g,sa'g,cl'g,kc'g⟩:=b'g;have eC'g:=aV aC'g;have xc'g:XC K C'g C'a:=⟨⟨_,_,_,_,_,_,_,_,_,_,_,_,_,lC'g⟩,ga'g,gh'g,sa'g,cl'g⟩
 obtain⟨aC'h,⟨_,_,_,_,_,_,_,_,_,_,_,_,lC'h⟩,ga'h,gh'h,sa'h,cl'h,kc'h⟩:=b'h;have eC'h:=aV aC'h;have xc'h:XC K C'h C'a:=⟨⟨_,_,_,_,_,_,_,_,_,_,_,_,_,lC'h⟩,ga'h,gh'h,sa'h,cl'h⟩
 obtain⟨aC'i,⟨_,_,_,_,_,_,_,_,_,_,_,_,lC'i⟩,ga'i,gh'i,sa'i,cl'i,kc'i⟩:=b'i;have eC'i:=aV aC'i;have xc'i:XC K C'i C'a:=⟨⟨_,_,_,_,_,_,_,_,_,_,_,_,_,lC'i⟩,ga'i,gh'i,sa'i,cl'i⟩
 obtain⟨_,_,_,_,_,_,_,_,_,_,xi'i,xt'i,xl'i,xc0'i,xk'i,xn'i⟩:=j'i;obtain⟨aC'j,⟨_,_,_,_,_,_,_,_,_,_,_,_,lC'j⟩,ga'j,gh'j,sa'j,cl'j,kc'j⟩:=b'j;have eC'j:=aV aC'j;have xc'j:XC K C'j C'a:=⟨⟨_,_,_,_,_,_,_,_,_,_,_,_,_,lC'j⟩,ga'j,gh'j,sa'j,cl'j⟩
 obtain⟨aC'k,⟨_,_,_,_,_,_,_,_,_,_,_,_,lC'k⟩,ga'k,gh'k,sa'k,cl'k,kc'k⟩:=b'k;have eC'k:=aV aC'k;have xc'k:XC K C'k C'a:=⟨⟨_,_,_,_,_,_,_,_,_,_,_,_,_,lC'k⟩,ga'k,gh'k,sa'k,cl'k⟩
 obtain⟨_,_,_,_,_,_,_,_,_,_,xi'k,xt'k,xl'k,xc0'k,xk'k,xn'k⟩:=j'k;obtain⟨aC'l,⟨_,_,_,_,_,_,_,_,_,_,_,_,lC'l⟩,ga'l,gh'l,sa'l,cl'l,kc'l⟩:=b'l;have eC'l:=aV aC'l;have xc'l:XC K C'l C'a:=⟨⟨_,_,_,_,_,_,_,_,_,_,_,_,_,lC'l⟩,ga'l,gh'l,sa'l,cl'l⟩
 obtain⟨_,_,_,_,_,_,_,_,_,_,xi'l,xt'l,xl'l,xc0'l,xk'l,xn'l⟩:=j'l;obtain⟨aC'm,⟨_,_,_,_,_,_,_,_,_,_,_,_,lC'm⟩,ga'm,gh'm,sa'm,cl'm,kc'm⟩:=b'm;have eC'm:=aV aC'm;have xc'm:XC K C'm C'a:=⟨⟨_,_,_,_,_,_,_,_,_,_,_,_,_,lC'm⟩,ga'm,gh'm,sa'm,cl'm⟩
 obtain⟨_,_,_,_,_,_,_,_,_,_,xi'm,xt'm,xl'm,xc0'm,xk'm,xn'm⟩:=j'm;obtain⟨aC'n,⟨_,_,_,_,_,_,_,_,_,_,_,_,lC'n⟩,ga'n,gh'n,sa'n,cl'n,kc'n⟩:=b'n;have eC'n:=aV aC'n;have xc'n:XC K C'n C'a:=⟨⟨_,_,_,_,_,_,_,_,_,_,_,_,_,lC'n⟩,ga'n,gh'n,sa'n,cl'n⟩
 obtain⟨_,_,_,_,_,_,_,_,_,_,xi'n,xt'n,xl'n,xc0'n,xk'n,xn'n⟩:=j'n;obtain⟨aC'o,⟨_,_,_,_,_,_,_,_,_,_,_,_,lC'o⟩,ga'o,gh'o,sa'o,cl'o,kc'o⟩:=b'o;have eC'o:=aV aC'o;have xc'o:XC K C'o C'a:=⟨⟨_,_,_,_,_,_,_,_,_,_,_,_,_,lC'o⟩,ga'o,gh'o,sa'o,cl'o⟩
 obtain⟨aC'p,⟨_,_,_,_,_,_,_,_,_,_,_,_,lC'p⟩,ga'p,gh'p,sa'p,cl'p,kc'p⟩:=b'p;have eC'p:=aV aC'p;have xc'p:XC K C'p C'a:=⟨⟨_,_,_,_,_,_,_,_,_,_,_,_,_,lC'p⟩,ga'p,gh'p,sa'p,cl'p⟩
 have TX:TxX K mg:=⟨⟨by rw [XCl,eC'a];exact⟨_,_,_,lC'a,rfl⟩,λc hc=>by
  simp only [xcs,mem_cons,not_mem_nil,or_false] at hc
  rcases hc with rfl|rfl|rfl|rfl|rfl|rfl|rfl|rfl|rfl|rfl|rfl|rfl|rfl|rfl|rfl
  .rw [XCl,eC'b];exact⟨_,_,_,lC'b,rfl⟩
  .rw [XCl,eC'c];exact⟨_,_,_,lC'c,rfl⟩
  .rw [XCl,eC'd];exact⟨_,_,_,lC'd,rfl⟩
  .rw [XCl,eC'e];exact⟨_,_,_,lC'e,rfl⟩
  .rw [XCl,eC'f];exact⟨_,_,_,lC'f,rfl⟩
  .rw [XCl,eC'g];exact⟨_,_,_,lC'g,rfl⟩
  .rw [XCl,eC'h];exact⟨_,_,_,lC'h,rfl⟩
  .rw [XCl,eC'i];exact⟨_,_,_,lC'i,rfl⟩
  .rw [XCl,eC'j];exact⟨_,_,_,lC'j,rfl⟩
  .rw [XCl,eC'k];exact⟨_,_,_,lC'k,rfl⟩
  .rw [XCl,eC'l];exact⟨_,_,_,lC'l,rfl⟩
  .rw [XCl,eC'm];exact⟨_,_,_,lC'm,rfl⟩
  .rw [XCl,eC'n];exact⟨_,_,_,lC'n,rfl⟩
  .rw [XCl,eC'o];exact⟨_,_,_,lC'o,rfl⟩
  .rw [XCl,eC'p];exact⟨_,_,_,lC'p,rfl⟩,λc hc=>by
  simp only [xcs,mem_cons,not_mem_nil,or_false] at hc
  rcases hc with rfl|rfl|rfl|rfl|rfl|rfl|rfl|rfl|rfl|rfl|rfl|rfl|rfl|rfl|rfl
  .rw [eC'b,eC'a];exact xc'b
  .rw [eC'c,eC'a];exact xc'c
  .rw [eC'd,eC'a];exact xc'd
  .rw [eC'e,eC'a];exact xc'e
  .rw [eC'f,eC'a];exact xc'f
  .rw [eC'g,eC'a];exact xc'g
  .rw [eC'h,eC'a];exact xc'h
  .rw [eC'i,eC'a];exact xc'i
  .rw [eC'j,eC'a];exact xc'j
  .rw [eC'k,eC'a];exact xc'k
  .rw [eC'l,eC'a];exact xc'l
  .rw [eC'm,eC'a];exact xc'm
  .rw [eC'n,eC'a];exact xc'n
  .rw [eC'o,eC'a];exact xc'o
  .rw [eC'p,eC'a];exact xc'p⟩,λc g hc=>by
  simp only [y6,mem_cons,not_mem_nil,or_false,BE] at hc
  rcases hc with ⟨rfl,rfl⟩|⟨rfl,rfl⟩|⟨rfl,rfl⟩|⟨rfl,rfl⟩|⟨rfl,rfl⟩|⟨rfl,rfl⟩|⟨rfl,rfl⟩|⟨rfl,rfl⟩|⟨rfl,rfl⟩
  .rw [eC'b];exact xn'b
  .rw [eC'c];exact xn'c
  .rw [eC'd];exact xn'd
  .rw [eC'f];exact xn'f
  .rw [eC'i];exact xn'i
  .rw [eC'k];exact xn'k
  .rw [eC'l];exact xn'l
  .rw [eC'm];exact xn'm
  .rw [eC'n];exact xn'n,by rw [eC'b];exact u1 X G aC'b,by rw [eC'c];exact u1 X G aC'c,by rw [eC'd];exact u1 X G aC'd,by rw [eC'e];exact u1 X G aC'e,by rw [eC'f];exact u1 X G aC'f,by rw [eC'g];exact u1 X G aC'g,by rw [eC'h];exact u1 X G aC'h,by rw [eC'i];exact u1 X G aC'i,by rw [eC'j];exact u1 X G aC'j,by rw [eC'k];exact u1 X G aC'k,by rw [eC'l];exact u1 X G aC'l,by rw [eC'm];exact u1 X G aC'm,by rw [eC'n];exact u1 X G aC'n,by rw [eC'o];exact u1 X G aC'o,by rw [eC'p];exact u1 X G aC'p,by rw [eC'a];exact u1 X G aC'a,by rw [eC'b];exact⟨_,_,_,_,_,_,_,_,_,_,_,_,_,_,_,_,_,lC'b,rfl⟩,by rw [eC'c];exact⟨_,_,_,_,_,_,_,_,_,_,_,_,_,_,_,_,_,lC'c,rfl⟩,by rw [eC'd];exact⟨_,_,_,_,_,_,_,_,_,_,_,_,_,_,_,_,_,lC'd,rfl⟩,by rw [eC'e];exact⟨_,_,_,_,_,_,_,_,_,_,_,_,_,_,_,_,_,lC'e,rfl⟩,by rw [eC'f];exact⟨_,_,_,_,_,_,_,_,_,_,_,_,_,_,_,_,_,lC'f,rfl⟩,by rw [eC'g];exact⟨_,_,_,_,_,_,_,_,_,_,_,_,_,_,_,_,_,lC'g,rfl⟩,by rw [eC'h];exact⟨_,_,_,_,_,_,_,_,_,_,_,_,_,_,_,_,_,lC'h,rfl⟩,by rw [eC'i];exact⟨_,_,_,_,_,_,_,_,_,_,_,_,_,_,_,_,_,lC'i,rfl⟩,by rw [eC'j];exact⟨_,_,_,_,_,_,_,_,_,_,_,_,_,_,_,_,_,lC'j,rfl⟩,by rw [eC'k];exact⟨_,_,_,_,_,_,_,_,_,_,_,_,_,_,_,_,_,lC'k,rfl⟩,by rw [eC'l];exact⟨_,_,_,_,_,_,_,_,_,_,_,_,_,_,_,_,_,lC'l,rfl⟩,by rw [eC'm];exact⟨_,_,_,_,_,_,_,_,_,_,_,_,_,_,_,_,_,lC'm,rfl⟩,by rw [eC'n];exact⟨_,_,_,_,_,_,_,_,_,_,_,_,_,_,_,_,_,lC'n,rfl⟩,by rw [eC'o];exact⟨_,_,_,_,_,_,_,_,_,_,_,_,_,_,_,_,_,lC'o,rfl⟩,by rw [eC'p];exact⟨_,_,_,_,_,_,_,_,_,_,_,_,_,_,_,_,_,lC'p,rfl⟩,by rw [eC'a];exact⟨_,_,_,_,_,_,_,_,_,_,_,_,_,_,_,_,_,lC'a,rfl⟩,by rw [eC'e];exact kU xq'e,by rw [eC'e];exact kc'e,by rw [eC'g];exact kU xq'g,by rw [eC'g];exact kc'g,by rw [eC'h];exact kU xq'h,by rw [eC'h];exact kc'h,by rw [eC'j];exact kU xq'j,by rw [eC'j];exact kc'j,by rw [eC'o];exact kU xq'o,by rw [eC'o];exact kc'o,by rw [eC'p];exact kU xq'p,by rw [eC'p];exact kc'p⟩
 have D'0:=bx d1 X G;have D'1:=bx d2 X G;have D'6:=bx d3 X G;have D'8:=bx d4 X G;have D'9:=bx d5 X G;have D'10:=bx d6 X G;have D'14:=bx d7 X G;have D'16:=bx d8 X G;have D'2:=bx d9 X G;have D'7:=bx d10 X G;have D'11:=bx d11 X G;have D'12:=bx d12 X G;have D'13:=bx d13 X G;have D'3:=bx d14 X G;have D'4:=bx d15 X G
 have D'5:=bx d16 X G;have D'15:=bx d17 X G;have D'17:=bx d18 X G;have D'18:=bx d19 X G;have T:Txt mg:=⟨zJ X G z1,zJ X G z2,zJ X G z3,zJ X G z4,zJ X G z5,zJ X G z6,zJ X G z7,zJ X G z8,zJ X G z9,zJ X G z10,zJ X G z11,zJ X G z12⟩
 refine vt (st:=qS) hfa D'18 (λ_ _ _ _ _ _ s v=>.of_eq rfl) λbase=>?_
 have C_TooMany_init:pZ l.prog w K mg base 1 (az K "TooMany") "TooMany" "most":=by
  rw [eC'b];exact cr (dB (st:=bY) xl'b xc0'b xk'b) gA rfl (λ_ _ _ _ _ _ us hl=>match us,hl with|[_,_],_=>rfl) (λcdv A outer s H E=>aq (bN K rfl (pv 0) (pv 1) rfl)) ⟨xc'b,tl_,xi'b,xt'b,kc'b⟩ xn'b (u1 X G aC'b)
 have C_NoPiece_init:pZ l.prog w K mg base 1 (az K "NoPiece") "NoPiece" "at":=by
  rw [eC'c];exact cr (dB (st:=bZ) xl'c xc0'c xk'c) gB rfl (λ_ _ _ _ _ _ us hl=>match us,hl with|[_,_],_=>rfl) (λcdv A outer s H E=>aq (bN K rfl (pv 0) (pv 1) rfl)) ⟨xc'c,tl_,xi'c,xt'c,kc'c⟩ xn'c (u1 X G aC'c)
 have C_NoLap_init:pZ l.prog w K mg base 1 (az K "NoLap") "NoLap" "k":=by
  rw [eC'd];exact cr (dB (st:=c7) xl'd xc0'd xk'd) i5 rfl (λ_ _ _ _ _ _ us hl=>match us,hl with|[_,_],_=>rfl) (λcdv A outer s H E=>aq (bN K rfl (pv 0) (pv 1) rfl)) ⟨xc'd,tl_,xi'd,xt'd,kc'd⟩ xn'd (u1 X G aC'd)
 have C_NotHeld_init:pZ l.prog w K mg base 1 (az K "NotHeld") "NotHeld" "at":=by
  rw [eC'f];exact cr (dB (st:=b5) xl'f xc0'f xk'f) gC rfl (λ_ _ _ _ _ _ us hl=>match us,hl with|[_,_],_=>rfl) (λcdv A outer s H E=>aq (bN K rfl (pv 0) (pv 1) rfl)) ⟨xc'f,tl_,xi'f,xt'f,kc'f⟩ xn'f (u1 X G aC'f)
 have C_TooGreat_init:pZ l.prog w K mg base 1 (az K "TooGreat") "TooGreat" "most":=by
  rw [eC'i];exact cr (dB (st:=bU) xl'i xc0'i xk'i) fQ rfl (λ_ _ _ _ _ _ us hl=>match us,hl with|[_,_],_=>rfl) (λcdv A outer s H E=>aq (bN K rfl (pv 0) (pv 1) rfl)) ⟨xc'i,tl_,xi'i,xt'i,kc'i⟩ xn'i (u1 X G aC'i)
 have C_NotApart_init:pZ l.prog w K mg base 1 (az K "NotApart") "NotApart" "at":=by
  rw [eC'k];exact cr (dB (st:=bV) xl'k xc0'k xk'k) fR rfl (λ_ _ _ _ _ _ us hl=>match us,hl with|[_,_],_=>rfl) (λcdv A outer s H E=>aq (bN K rfl (pv 0) (pv 1) rfl)) ⟨xc'k,tl_,xi'k,xt'k,kc'k⟩ xn'k (u1 X G aC'k)
 have C_NoCounts_init:pZ l.prog w K mg base 1 (az K "NoCounts") "NoCounts" "at":=by
  rw [eC'l];exact cr (dB (st:=bW) xl'l xc0'l xk'l) fS rfl (λ_ _ _ _ _ _ us hl=>match us,hl with|[_,_],_=>rfl) (λcdv A outer s H E=>aq (bN K rfl (pv 0) (pv 1) rfl)) ⟨xc'l,tl_,xi'l,xt'l,kc'l⟩ xn'l (u1 X G aC'l)
 have C_NotCovered_init:pZ l.prog w K mg base 1 (az K "NotCovered") "NotCovered" "at":=by
  rw [eC'm];exact cr (dB (st:=bF) xl'm xc0'm xk'm) eN rfl (λ_ _ _ _ _ _ us hl=>match us,hl with|[_,_],_=>rfl) (λcdv A outer s H E=>aq (bN K rfl (pv 0) (pv 1) rfl)) ⟨xc'm,tl_,xi'm,xt'm,kc'm⟩ xn'm (u1 X G aC'm)
 have C_NoLine_init:pZ l.prog w K mg base 1 (az K "NoLine") "NoLine" "at":=by
  rw [eC'n];exact cr (dB (st:=cA) xl'n xc0'n xk'n) hV rfl (λ_ _ _ _ _ _ us hl=>match us,hl with|[_,_],_=>rfl) (λcdv A outer s H E=>aq (bN K rfl (pv 0) (pv 1) rfl)) ⟨xc'n,tl_,xi'n,xt'n,kc'n⟩ xn'n (u1 X G aC'n)
 have C'0:=pW l.prog w base D'0 T TX;have C'1:=kh l.prog w base D'1 T TX;have C'6:=kj l.prog w base D'6 T TX;have C'8:=ly l.prog w base D'8 T TX;have C'9:=kl l.prog w base D'9 T TX;have C'10:=km l.prog w base D'10 T TX;have C'14:=lz l.prog w base D'14 T TX;have C'16:=jd l.prog w base D'16 T TX
 have C'2:=ia l.prog w base D'2 T TX C'1 C'0;have C'7:=lx l.prog w base D'7 T TX C'6;have C'11:=ib l.prog w base D'11 T TX C'10;have C'12:=kn l.prog w base D'12 T TX C'8;have C'13:=ko l.prog w base D'13 T TX C'8;have C'3:=lw l.prog w base D'3 T TX C'2;have C'4:=ki l.prog w base D'4 T TX C'2 C'0
 have C'5:=fh l.prog w base D'5 T TX C'4 C'3;have C'15:=ic l.prog w base D'15 T TX C'11 C'5;have C'17:=lA l.prog w base D'17 T TX C'9 C'5;exact (wF l.prog w base D'18 T TX C'14 C'7 C'13 C'8 C'12 C'15 C'16 C'17).imp λ_ _ _ _ h=>tF h
end K23

open PySem PySem.W PyProof.Rows
local macro_rules | `(tactic| walk_at "fn") => `(tactic| (refine' L2.wu ?a ?l ?c ?k; (case a => k_is); (case l => k_is); (case c => k_is); (case k => k_is)))
local macro_rules | `(tactic| walk_at "xi") => `(tactic| (refine' L2.yj ?a ?l ?g ?h ?s ?c ?k; (case a => k_is); (case l => k_is); (case g => k_is); (case h => k_is); (case s => k_is); (case c => k_is); (case k => k_is)))
local macro_rules | `(tactic| walk_at "xj") => `(tactic| (refine' L2.yk ?i ?t ?l ?c ?k ?n; (case i => k_is); (case t => k_is); (case l => k_is); (case c => k_is); (case k => k_is); (case n => k_is)))
set_option maxRecDepth 100000 in
set_option maxHeartbeats 0 in
theorem PySem.Challenge.cw_shortglue_k23_order_of_joins_holds : PySem.Challenge.rw_shortglue_k23_order_of_joins.Holds := by
  refine topHd ?_
  k_fill
  refine L2.vv (l := PySem.Challenge.rw_shortglue_k23_order_of_joins) (k := 6) (x := "_law_script") rfl rfl ⟨rfl, by decide, by decide⟩ (fun w h Y => PySem.W.kIn_of Y) ?F
  case F =>
    intro w mg fa h KX G hmg
    refine' K23.wG KX G hmg ?aC'a ?lC'a ?xq'a ?b'b ?j'b ?b'c ?j'c ?b'd ?j'd ?b'e ?xq'e ?b'f ?j'f ?b'g ?xq'g ?b'h ?xq'h ?b'i ?j'i ?b'j ?xq'j ?b'k ?j'k ?b'l ?j'l ?b'm ?j'm ?b'n ?j'n ?b'o ?xq'o ?b'p ?xq'p ?d1 ?d2 ?d3 ?d4 ?d5 ?d6 ?d7 ?d8 ?d9 ?d10 ?d11 ?d12 ?d13 ?d14 ?d15 ?d16 ?d17 ?d18 ?d19 ?z1 ?z2 ?z3 ?z4 ?z5 ?z6 ?z7 ?z8 ?z9 ?z10 ?z11 ?z12
    (case aC'a => k_is)
    (case lC'a => k_is)
    (case xq'a => k_exc)
    (case b'b => walk_at "xi")
    (case j'b => walk_at "xj")
    (case b'c => walk_at "xi")
    (case j'c => walk_at "xj")
    (case b'd => walk_at "xi")
    (case j'd => walk_at "xj")
    (case b'e => walk_at "xi")
    (case xq'e => k_exc)
    (case b'f => walk_at "xi")
    (case j'f => walk_at "xj")
    (case b'g => walk_at "xi")
    (case xq'g => k_exc)
    (case b'h => walk_at "xi")
    (case xq'h => k_exc)
    (case b'i => walk_at "xi")
    (case j'i => walk_at "xj")
    (case b'j => walk_at "xi")
    (case xq'j => k_exc)
    (case b'k => walk_at "xi")
    (case j'k => walk_at "xj")
    (case b'l => walk_at "xi")
    (case j'l => walk_at "xj")
    (case b'm => walk_at "xi")
    (case j'm => walk_at "xj")
    (case b'n => walk_at "xi")
    (case j'n => walk_at "xj")
    (case b'o => walk_at "xi")
    (case xq'o => k_exc)
    (case b'p => walk_at "xi")
    (case xq'p => k_exc)
    (case d1 => walk_at "fn")
    (case d2 => walk_at "fn")
    (case d3 => walk_at "fn")
    (case d4 => walk_at "fn")
    (case d5 => walk_at "fn")
    (case d6 => walk_at "fn")
    (case d7 => walk_at "fn")
    (case d8 => walk_at "fn")
    (case d9 => walk_at "fn")
    (case d10 => walk_at "fn")
    (case d11 => walk_at "fn")
    (case d12 => walk_at "fn")
    (case d13 => walk_at "fn")
    (case d14 => walk_at "fn")
    (case d15 => walk_at "fn")
    (case d16 => walk_at "fn")
    (case d17 => walk_at "fn")
    (case d18 => walk_at "fn")
    (case d19 => walk_at "fn")
    (case z1 => k_is)
    (case z2 => k_is)
    (case z3 => k_is)
    (case z4 => k_is)
    (case z5 => k_is)
    (case z6 => k_is)
    (case z7 => k_is)
    (case z8 => k_is)
    (case z9 => k_is)
    (case z10 => k_is)
    (case z11 => k_is)
    (case z12 => k_is)
