import PyProof.Rows.All
import Wide.All
import OpenK.AllK
import Wide.FinOn
import Lean
import PyProof.EqAt
import PyProof.EqKinds
import PyProof.TupleCall
import KE.KSortTup
import PyProof.FString
import PyProof.StrBlock
import KE.KRevSl
import PyProof.StrLawsReplace
import PyProof.StrCalls6
import PyProof.MinMaxWalk
import PyProof.WalkInts
import PyProof.NeKinds
import KE.KEqDict
import PyProof.Rows.SumAny
import KE.KMinKey
import PyProof.Rows.CallKwBuiltin
import KE.KIntText
import KE.KLam
import PySem.Challenge.RW_shortglue_k71_whole_one_more
set_option Elab.async false
set_option linter.all false
set_option maxRecDepth 100000
open List (all_cons all_eq_true all_map any_cons any_eq_false any_eq_true any_map append_assoc append_eq_nil_iff append_nil append_of_mem append_toArray concat_eq_append cons_append cons_lt_cons_iff contains_iff_mem drop_drop drop_eq_getElem_cons drop_eq_nil_of_le drop_left drop_one drop_suffix drop_take drop_zero eq_nil_iff_forall_not_mem eq_nil_or_concat ext_getElem ext_getElem? extract_eq_take_drop extract_toArray filterMap_append filterMap_cons filterMap_eq_map filterMap_map filter_append filter_cons find?_cons find?_eq_none find?_eq_some_iff_append flatMap_append flatMap_cons flatten_cons foldl_cons forIn_cons forIn_nil getD_eq_getElem?_getD getElem?_append_left getElem?_append_right getElem?_cons_succ getElem?_eq_getElem getElem?_eq_none getElem?_inj getElem?_map getElem?_range getElem?_replicate getElem?_set_ne getElem?_set_self getElem?_take getElem?_take_of_lt getElem?_zip_eq_some getElem_cons_drop getElem_inj getElem_map getElem_mem getElem_of_mem getElem_range isEmpty_iff length_append length_cons length_drop length_eq_zero_iff length_filter_le length_flatten length_map length_nil length_pos_iff length_pos_of_mem length_range length_replicate length_set length_singleton length_take lookup_append lookup_cons map_append map_congr_left map_cons map_drop map_eq_nil_iff map_map map_nil map_replicate map_take mem_append mem_append_left mem_append_right mem_cons mem_cons_of_mem mem_cons_self mem_filter mem_filterMap mem_flatMap mem_iff_getElem? mem_map mem_map_of_mem mem_of_getElem? mem_of_mem_drop mem_of_mem_take mem_range mem_range'_1 mem_replicate mem_singleton mergeSort_perm nil_append nil_prefix nil_suffix nodup_cons nodup_nil nodup_range not_mem_nil of_mem_zip pairwise_append pairwise_cons pairwise_lt_range pairwise_mergeSort perm_append_comm perm_cons perm_ext_iff_of_nodup perm_middle prefix_append prefix_refl range_succ range_succ_eq_map replicate_succ reverse_cons reverse_reverse set_cons_succ set_cons_zero size_toArray suffix_iff_eq_drop sum_append sum_cons sum_replicate_nat tail_cons take_add take_add_one take_append_drop take_left take_length take_nil take_of_length_le take_prefix take_sublist take_succ take_succ_cons take_take take_zero zipIdx_cons zipIdx_nil zip_cons_cons zip_nil_left zip_nil_right)
open Nat (add_assoc add_comm add_mul add_sub_cancel and_one_is_mod div_add_mod eq_zero_or_pos le_add_right le_antisymm le_of_ble_eq_true le_of_eq le_of_lt le_of_not_lt le_of_succ_le le_refl le_succ log2_lt lt_log2_self lt_of_le_of_lt lt_of_lt_of_le lt_or_ge lt_succ_of_lt lt_succ_self lt_trans lt_trichotomy min_eq_left min_eq_right min_le_right min_self mod_lt mul_comm mul_le_mul mul_le_mul_right mul_pos mul_succ ne_of_gt ne_of_lt not_lt not_lt_zero not_succ_le_self pow_le_pow_right pow_pos pow_succ sub_le sub_self succ_mul succ_ne_self testBit_eq_decide_div_mod_eq testBit_lt_two_pow testBit_two_pow_add_gt testBit_two_pow_mul_add testBit_two_pow_sub_one zero_le)
open Int (add_zero ediv_nonneg ediv_one emod_lt_of_pos emod_nonneg fdiv_eq_ediv_of_nonneg fmod_eq_emod_of_nonneg le_ediv_of_mul_le mul_le_mul_of_nonneg_left natAbs_natCast natCast_ediv natCast_nonneg natCast_pow natCast_zero neg_neg ofNat_le toNat_natCast)
open Bool (and_eq_false_imp and_eq_true and_eq_true_iff beq_eq_decide_eq false_eq_true not_eq_true or_eq_true)
local macro_rules | `(tactic| walk_at "o")=>`(tactic| first | exact Or.inl rfl | exact Or.inr rfl | exact Or.inr (Or.inl rfl) | exact Or.inr (Or.inr rfl))
set_option maxHeartbeats 4000000
noncomputable section
open And renaming intro→B_
open Array renaming length_toList→D1,mk→Gz,toList_append→Fs,toList→Ft
open Bool renaming and_false→E7,eq_iff_iff→Fn,false_and→GA,false_ne_true→gV,not_eq_true'→FZ
open Classical renaming choose_spec→Gy
open False renaming elim→Eu
open ForInStep renaming yield→Ex
open Int renaming emod_lt_of_pos→GD,le_trans→GO
open List renaming Nodup→w_,all_eq_true→FY,append_nil→DQ,cons_lt_cons_iff→Ea,contains_iff_mem→EJ,drop_eq_nil_of_le→EB,ext_getElem?→Gn,filterMap_cons→E2,filterMap_map→Fe,getD_eq_getElem?_getD→d_,getElem?_append_left→EE,getElem?_append_right→Ez,getElem?_cons_succ→ET,getElem?_eq_getElem→cy,getElem?_eq_none→y_,getElem?_eq_some_iff→g_,getElem?_map→k_,getElem?_range→D0,getElem?_set_ne→m_,getElem?_set_self→pj,getElem_mem→EW,getElem_of_mem→FL,length_eq_zero_iff→Ec,length_filter_le→Fc,length_pos_iff→FS,length_range→C0,length_set→Ee,lookup_cons→D2,lookup→ED,map_eq_nil_iff→EF,mem_append_left→DG,mem_append_right→we,mem_append→DP,mem_cons_of_mem→o_,mem_cons→C_,mem_filterMap→Fd,mem_filter→DK,mem_map→EC,mem_of_getElem?→z_,mem_of_mem_drop→Gv,mem_of_mem_take→Fp,mem_range'_1→Fz,mem_singleton→DI,nodup_cons→FF,nodup_range→GH,pairwise_cons→F8,range'→EY,range→c_,replicate→u_,size_toArray→p_,suffix_iff_eq_drop→FK,take_append_drop→DS,take_of_length_le→DZ,zip_cons_cons→EQ
open Nat renaming eq_zero_or_pos→GG,le_add_right→FA,le_of_ble_eq_true→F4,le_of_eq→Ga,le_of_succ_le→Ff,le_refl→l_,le_trans→r_,lt_irrefl→DB,lt_of_lt_of_le→pf,lt_or_ge→FO,lt_succ_of_lt→F7,lt_succ_self→E5,min_eq_left→GC,min_eq_right→Gi,mul_le_mul_right→Gd,ne_of_gt→Fi,ne_of_lt→DC,not_lt_zero→GF,pow_le_pow_right→Es,sub_zero→Fx,testBit_lt_two_pow→FP,testBit_two_pow_mul_add→E1,zero_add→GM,zero_le→EI
open Nat.succ renaming inj→GN
open Ne renaming symm→EA
open Option renaming isSome_iff_exists→Ek,map_eq_some_iff→Ge
open Option.some renaming inj→q_
open Prod renaming fst→DO,snd→Fk
open PyProof renaming noPylong_small→Gf
open PyProof.Rows renaming AllBare→FW,boot_tuple→FT,callWith_type1→DD,slot_tuple_getitem→Dx
open PySem renaming Arguments→Gb,Around→t_,BindsTo→Fv,Builtin→GI,FuncData→DW,IsPair→ES,IsPart→Gh,NameKind→DX,Program→n_,PyData→Gj,Shared→cx,Within→GL,boot_len→j_,codeAny_builtin→Gw,codeAny_mono→Fw,concat_meets→Gg,mem_of_lookup→Ep,noFill_tuple_add→Gc,plainId_quiet→F9,pushCells_keeps→Gu,sizeLine_eq→EU,wpAny_Call_Name_kw→Ew,wpAny_bind→b_,wpAny_callSpecial?_slot→DE,wpAny_call_entry→D_,wpAny_execs_nil→Fm,wpAny_field→DF,wpAny_holding→DU,wpAny_letGo→EX,wpAny_mono→Eb,wpAny_newFunctionEnv_cells→FG,wpAny_newObj_type→D6,wpAny_onRaise→Fg,wpAny_passesOwn→Eh,wpAny_pure→e_,wpAny_pyIter_list→Ei,wpAny_seqItems→DM,wpAny_setField_rec→Ed,wpAny_truthy_bool→Dy,wpAny_tryCatch→EG,wpAny_updateSeq_pair→Fj,wpAny_updateSeq→Gx
open PySem.Around renaming under_plainId→Fl
open PySem.AutoSeq1 renaming wpAny_loadPart'→Eo
open PySem.Builtin renaming bitAnd→Er
open PySem.Builtin.Builtins renaming bindParams→FB
open PySem.Builtin.List renaming listTooLong→Em
open PySem.Builtin.Range renaming rangeFitsLong→Fy,rangeSize→DR,small→EL
open PySem.Builtin.Slice renaming sliceAdjust→EK,sliceApplied→FH,slicePlaces→Eg
open PySem.Builtin.SmallTypes renaming nextOf→tj,ownedTupleHandOut→EM,ownedTupleIsFree→DN
open PySem.Builtin.Str renaming occurrences→EZ,strSliceIndices→D9,subAt→E8
open PySem.Builtin.Tuple renaming tupleExact→El,tupleItemsOf→FI
open PySem.Calls renaming Name_function_global→FC
open PySem.F renaming args_tuple_add_2→EN,entry_min_loop→E9,entry_tuple_add→EV,plainAttrs_list→DT,plainAttrs_str→Gp,plain_min_loop→DJ,slot_list_append→D4,slot_tuple_add→E6,type_list_append→D5
open PySem.Heap renaming ExtBut→GE,SameBut→E3,get?_none_of_le→Fh,get?_push_of_some→cn,get?_push_size→f_,get?_update_other→Dz,get?_update_self→Ef,lt_size→h_,size_push→DA
open PySem.NameKind renaming cell→Ey,free→EO
open PySem.Obj renaming mapSeq→FJ
open PySem.PassesOwn renaming never→Dv
open PySem.SeqAt renaming shaped→Gk
open PySem.Str renaming ofString→DY
open PySem.StrLaws renaming occBody→Fo
open PySem.Value renaming bool→Ej,int→F_,none→Et,ref→x_,str→E_
open PySem.W renaming Frag→a_,boot_heap→D3,cellsFrom_some→D8,codeIn→Dw,emptyDict→DL,findIn→i_,fnOf→v_,hasDictIn→E4,instObj→D7,isFn→Fu,keepIn→s_,kia_one→DH,kitOne→FE,kla_fn→FQ,kla_obj→ER,lookIn→FD,makesIn→Gs,methodObj→FU,mg_none_of→A_,mg_of→En,nsIn→so,plainGet_of→Fq,plainGet→EH,plainOver→FX,takerIn→Gq,typeIn→GB
open PySem.Walks renaming list→Gm
open Sum renaming inl→GJ,inr→GK
open True renaming intro→Fb
namespace L2
open PySem PySem.W
noncomputable def kS(tb:String->Option GI)(p:n_)(w:World)(n₀:Nat)(ann:Option Value):Nat->SharedT->Thread->Option SharedT
 | 0,_,_=>none
 | n+1,s,t=>match through t with
  | true=>some s
  | false=>match stepOk n₀ ann t with
   | false=>none
   | true=>match stepT (denote tb) p w s t with
    | some (s',t')=>kS tb p w n₀ ann n s' t'
    | none=>none
theorem lW{tb:String->Option GI}{p:n_}{w:World}{n₀:Nat}{ann:Option Value}:∀{n:Nat}{s s':SharedT}{t:Thread},kS tb p w n₀ ann n s t=some s'->topRun tb p w n₀ ann n s.abs t=some s'.abs
 | 0,_,_,_,h=>by cases h
 | n+1,s,s',t,h=>by
  unfold kS at h;unfold topRun
  cases he:through t with
  | true=>rw [he] at h;cases h;rfl
  | false =>
   rw [he] at h
   cases hk:stepOk n₀ ann t with
   | false=>rw [hk] at h;cases h
   | true =>
    rw [hk] at h
    cases hs:stepT (denote tb) p w s t with
    | none=>rw [hs] at h;cases h
    | some r=>obtain⟨s₂,t₂⟩:=r;rw [hs] at h;rw [stepT_spec hs];exact lW h
noncomputable def vm:List Obj->Nat->BT->BT
 | [],_,t=>t
 | o::r,i,t=>vm r (i+1) (t.ins i o)
noncomputable def wd(P:Params):BT:=vm (D3 P).objs.toList 0 .nil
theorem tT:∀P,absHeap (wd P) (D3 P).objs.size (D3 P).life=D3 P:=λP=>by kernel_rfl
theorem yl{p q:n_}{loose:List Str}{Xt:cx->Bool}{α:Type}{Yf:cx->α}{Ya:World->α}{N:Nat}{g0:Bool}{m₀:Nat}{ann:Option Value}
  (e:opening p=plainProg p.main.scope.names) (hN:Nat.ble 600 N=true) (f:∀s,fenceModules? p s=some s)
  (size:∀w:World,((D3 w.params).isNs mainGlobals && (Gz []:Array GenState).size == 0,(D3 w.params).objs.size,(D3 w.params).nsMap mainGlobals "__annotations__")=(true,m₀,ann))
  (run:∀(w:World) (os:OsState),(kS treeTable p w m₀ ann N ⟨wd w.params,m₀,(D3 w.params).life,Gz [],boot_drawn,boot_toks,os⟩ (topStub p)).map (λsT=>((staticsOk (importedModules p.main.body) (D3 w.params) sT.abs.heap && namesBound p sT.abs.heap && gensDone sT.abs && laidKept (D3 w.params) sT.abs.heap),openSeen q loose (importedModules p.main.body) Xt g0 sT.abs,Yf sT.abs))=some (true,openGood q loose,Ya w)):LeftO p q loose Xt Yf Ya N g0:=λw=>by
 obtain⟨⟨h,gs,d,k,os⟩,e,e'⟩:=Ge.mp (boot_open e hN f w);obtain⟨rfl,rfl,rfl,rfl⟩:h=D3 w.params/\gs=Gz []/\d=boot_drawn/\k=boot_toks:=by simpa using e'
 obtain⟨z1,z2,z3⟩:_/\_/\_:=by simpa only [Prod.mk.injEq] using size w
 obtain⟨sT,r,l⟩:=Ge.mp (run w os);obtain⟨l1,l2,l3⟩:_/\_/\_:=by simpa only [Prod.mk.injEq] using l
 have r:=lW r
 rw [show SharedT.abs ⟨wd w.params,m₀,(D3 w.params).life,Gz [],boot_drawn,boot_toks,os⟩=⟨D3 w.params,Gz [],boot_drawn,boot_toks,os⟩ by
  unfold SharedT.abs;dsimp only;rw [<- z2,tT]] at r
 have t:topFrom treeTable p w N ⟨D3 w.params,Gz [],boot_drawn,boot_toks,os⟩=some sT.abs:=by
  unfold topFrom;dsimp only;rw [z1,z2,z3,r];show (match staticsOk (importedModules p.main.body) (D3 w.params) sT.abs.heap && namesBound p sT.abs.heap && gensDone sT.abs && laidKept (D3 w.params) sT.abs.heap with|true=>_|false=>_)=_;rw [l1]
 unfold openEnds;rw [e];show (topFrom treeTable p w N _).map _=_;rw [t];exact congrArg some (Prod.ext l2 l3)
end L2
section
open PySem PySem.W PyProof.Rows
noncomputable def wf:n_:=PySem.W.view PySem.Challenge.pw_shortglue_k71_whole_one_more [1,2,3,4,6,8,9,10,11,12,13,14,15,16,18,19,21,22,23,25,27,28,29,30,31,33,34,35,36,37,38,39,40,41,42,43]
local macro_rules | `(tactic| o_head $H)=>`(tactic| (refine holds_open (q:=wf) (loose:=[PySem.Str.ofString "is_text"]) (Xt:=fun s=>xlAt wf [] s && recOk (RowW.records (OpenRow.toRowW (OpenLaw.row PySem.Challenge.rw_shortglue_k71_whole_one_more))) s) (XP:=XL wf []) (Yf:=Hook.obs $H) (Ya:=Hook.val $H) (YP:=Hook.says $H) (N:=4316) ?hl (Hook.of $H) (Hook.keeps $H) (fun s e=>xl_of s (and_eq_true_iff.mp e).1) XL.keeps (by rfl) (by rfl) (by rfl) (fun s e=>recFacts_of (and_eq_true_iff.mp e).2) (by rfl) (by first | assumption | decide +kernel) (by decide +kernel) ⟨rfl,rfl,rfl,rfl,rfl,by decide +kernel⟩ ?hw ?hc;(case hl=>(refine L2.yl (m₀:=11) (ann:=some (.ref 6)) (by kernel_rfl) (by rfl) (fun s=>by kernel_rfl) (fun w=>by kernel_rfl) ?_;intro w os;kernel_rfl))))
set_option maxRecDepth 100000 in
set_option maxHeartbeats 0 in
open_top topHd for PySem.Challenge.rw_shortglue_k71_whole_one_more
end
-- CHANGE: your row's module here,as the last of these rows
namespace L2
open PySem PySem.Spec PyProof.Rows
abbrev Key:=Sum Int Str
noncomputable def ym:Key->Value->Bool
 | .inl k,v=>Value.isInt k v
 | .inr x,v=>Value.isStrOf x v
noncomputable def C4(w:World):Key->Int
 | .inl k=>hashInt k
 | .inr x=>hashStr w x
theorem bj:∀{k:Key}{v:Value},ym k v=true->(∃i t,k=GJ i/\v=F_ i t)\/(∃x t,k=GK x/\v=E_ x t)
 | .inl i,v,h=>by
  obtain⟨t,e⟩:=Value.isInt_shape (k:=i) (v:=v) h;exact .inl ⟨i,t,rfl,e⟩
 | .inr x,v,h=>by
  obtain⟨t,e⟩:=Value.isStrOf_shape (x:=x) (v:=v) h;exact .inr ⟨x,t,rfl,e⟩
def yn(a b:Int):decide ((GJ a:Key)=GJ b)=(a == b):=by
 by_cases e:a=b
 .subst e;simp
 .have h:¬ (GJ a:Key)=GJ b:=λq=>e (Sum.inl.inj q);rw [decide_eq_false h];exact (beq_eq_false_iff_ne.mpr e).symm
def yo(a b:Str):decide ((GK a:Key)=GK b)=decide (a=b):=by
 by_cases e:a=b
 .subst e;simp
 .have h:¬ (GK a:Key)=GK b:=λq=>e (Sum.inr.inj q);rw [decide_eq_false h,decide_eq_false e]
def yp(a:Int)(b:Str):decide ((GJ a:Key)=GK b)=false:=decide_eq_false (λq=>nomatch q)
def yq(a:Str)(b:Int):decide ((GK a:Key)=GJ b)=false:=decide_eq_false (λq=>nomatch q)
noncomputable def kT(prog:n_)(w:World):PySem.KeyKind prog w Key where
 is:=ym
 hash:=C4 w
 inj:=λv a b ha hb=>by
  rcases bj ha with ⟨i,t,rfl,rfl⟩|⟨x,t,rfl,rfl⟩
  .rcases bj hb with ⟨j,u,rfl,e⟩|⟨y,u,rfl,e⟩
   .injection e with e1 _;rw [e1]
   .exact nomatch e
  .rcases bj hb with ⟨j,u,rfl,e⟩|⟨y,u,rfl,e⟩
   .exact nomatch e
   .injection e with e1 _;rw [e1]
 byValue:=λk v h=>by
  rcases bj h with ⟨i,t,rfl,rfl⟩|⟨x,t,rfl,rfl⟩ <;> rfl
 pyHash:=λhv h=>by
  rcases bj hv with ⟨i,t,rfl,rfl⟩|⟨x,t,rfl,rfl⟩
  .exact wpAny_pyHash_int h
  .exact wpAny_pyHash_str h
 eqBool:=λhu hv h=>by
  rcases bj hu with ⟨i,t,rfl,rfl⟩|⟨x,t,rfl,rfl⟩
  .rcases bj hv with ⟨j,u,rfl,rfl⟩|⟨y,u,rfl,rfl⟩
   .rw [yn] at h;exact wpAny_eqBool_int h
   .rw [yp] at h;exact SeqAt.EqAt.int_str i t y u _ _ _ _ h
  .rcases bj hv with ⟨j,u,rfl,rfl⟩|⟨y,u,rfl,rfl⟩
   .rw [yq] at h;exact SeqAt.EqAt.str_int x t j u _ _ _ _ h
   .rw [yo] at h;exact wpAny_eqBool_str h
 «strs»:=λk x t v h=>by
  rcases bj h with ⟨i,u,rfl,e⟩|⟨y,u,rfl,e⟩
  .exact nomatch e
  .injection e with e1 _;subst e1;cases v <;> rfl
inductive V where
 | non|bl (b:Bool)|int (i:Int)|str (x:Str)|byt (b:Array UInt8)|flt (b:UInt64)|ref (a:Addr)|ty (n:String)
 deriving DecidableEq
noncomputable def cF:V->Value->Prop
 | .non,u=>u=Et
 | .bl b,u=>u=Ej b
 | .int i,u=>∃t,u=F_ i t
 | .str x,u=>∃t,u=E_ x t
 | .byt b,u=>∃t,u=Value.bytes b t
 | .flt b,u=>∃t,u=Value.float b t
 | .ref a,u=>u=x_ a
 | .ty n,u=>u=Value.type n
abbrev bB:List V->List Value->Prop:=Paired cF
def bB.length{xs:List V}{us:List Value}(r:bB xs us):xs.length=us.length:=Paired.length r
theorem bB.get:∀{xs:List V}{us:List Value}{i:Nat}{x:V},bB xs us->xs[i]?=some x->∃u,us[i]?=some u/\cF x u
 | _,_,_,_,.nil,e=>by simp at e
 | _,_,0,_,.cons r _,e=>by simp at e;subst e;exact⟨_,rfl,r⟩
 | _,_,i+1,x,.cons _ t,e=>by
  obtain⟨u,h1,h2⟩:=bB.get (i:=i) (x:=x) t (by simpa using e);exact⟨u,by simpa using h1,h2⟩
theorem bB.append:∀{xs ys:List V}{us ws:List Value},bB xs us->bB ys ws->bB (xs++ys) (us++ws)
 | _,_,_,_,.nil,s=>s
 | _,_,_,_,.cons r t,s=>.cons r (bB.append t s)
theorem bB.take:∀{xs:List V}{us:List Value} (n:Nat),bB xs us->bB (xs.take n) (us.take n)
 | _,_,0,_=>.nil
 | _,_,_+1,.nil=>.nil
 | _,_,n+1,.cons r t=>.cons r (bB.take n t)
theorem bB.drop:∀{xs:List V}{us:List Value} (n:Nat),bB xs us->bB (xs.drop n) (us.drop n)
 | _,_,0,r=>r
 | _,_,_+1,.nil=>.nil
 | _,_,n+1,.cons _ t=>bB.drop n t
noncomputable def tQ:Option V->Option Value->Prop
 | some v,some u=>cF v u
 | none,none=>True
 | _,_=>False
noncomputable def KV{κ:Type}:List (κ×V)->List (κ×Value)->Prop:=Paired λ(p:κ×V) (q:κ×Value)=>p.1=q.1/\cF p.2 q.2
noncomputable def kV:Key->V
 | .inl i=>.int i
 | .inr x=>.str x
inductive HO where
 | lst (xs:List V)
 | tup (xs:List V)
 | dK (kvs:List (Key×V))|dT (kvs:List (List Key×V))
 | set (S:Int->Bool) (n:Nat)
 | ins (C dx:Addr) (fs:List (Str×V))
 | own (x:Addr)
 | xd (fs:List (Str×V))
 | met (f x:Addr)
 | rng (lo hi:Int)
 | frz (o:Obj) (u:HO)
 | tbl (ps:Array Value)
 | ext (φ:Heap->Prop)
abbrev Hp:=Addr->Option HO
noncomputable def upd(H:Hp)(a:Addr)(o:HO):Hp:=λb=>if b=a then some o else H b
def aG{H:Hp}{a:Addr}{o:HO}:upd H a o a=some o:=by unfold upd;rw [if_pos rfl]
def ax{H:Hp}{a b:Addr}{o:HO}(h:b≠a):upd H a o b=H b:=by unfold upd;rw [if_neg h]
def aD{H:Hp}{a b:Addr}{o:HO}(h:H a=some o)(h':H b=none):a≠b:=by
 intro e;subst e;rw [h] at h';cases h'
noncomputable def dL(H:Hp)(h:Heap)(a:Addr)(q:Str):List Value->Prop
 | []=>True
 | .int _ _::.int _ _::.ref c::r=>H c=some (.own a)/\(∃(oc:Obj) (vs:Array Value) (t:Tok),h.get? c=some oc/\oc.data=.fields vs/\vs[1]?=some (.str q t))/\dL H h a q r
 | _=>False
theorem dL.stay{H H':Hp}{h h':Heap}{a:Addr}{q:Str}(k:∀b u,H b=some (.own a)->h.get? b=some u->h'.get? b=some u)(ho:∀b,H b=some (.own a)->H' b=some (.own a)):∀l:List Value,dL H h a q l->dL H' h' a q l
 | [],_=>trivial
 | .int _ _::.int _ _::.ref c::r,x=>by
  obtain⟨x1,⟨oc,vs,t,e1,e2,e3⟩,x2⟩:=x;exact⟨ho _ x1,⟨oc,vs,t,k _ _ x1 e1,e2,e3⟩,dL.stay k ho r x2⟩
noncomputable def fu(H:Hp)(h:Heap)(a:Addr)(ps:Array Value):Prop:=∃(q:Str) (t:Tok) (more real:Array Value),ps=#[.str q t]++more/\h.get? a=some { cls:=.none,data:=.fields real }/\dL H h a q real.toList
section
variable (P:n_) (w:World)
noncomputable def bC(H:Hp)(h:Heap)(a:Addr):HO->Prop
 | .lst xs=>xs.length<=sizeLine/\∃(its:List Value) (n:Nat),bB xs its/\h.get? a=some { cls:=.type "list",data:=.seq its.toArray n }
 | .tup xs=>xs.length<=sizeLine/\∃its:List Value,bB xs its/\IsTup h a its.toArray
 | .dK kvs=>kvs.length<=sizeLine/\(a == sysModules)=false/\∃vs,KV kvs vs/\h.DictOf (kT P w) a vs
 | .dT kvs=>kvs.length<=sizeLine/\(a == sysModules)=false/\∃xs:List (List Key×Addr×Value),
   Paired (λ(p:List Key×V) (q:List Key×Addr×Value)=>p.1=q.1/\H q.2.1=some (.tup (p.1.map kV))/\cF p.2 q.2.2) kvs xs /\
   ∃o es ep,h.get? a=some o/\o.ExactDict/\o.data=.dict es ep/\es.toList=xs.map (entryOfKey (tupleKind (kT P w)))/\(xs.map (·.1)).Nodup
 | .set S n=>h.SetOf (intKind P w) a S n
 | .ins C dx fs=>H dx=some (.own a)/\fs.length<=1000/\dx≠a/\h.get? a=some (D7 C dx) /\
   ∃mA,h.Ns1 dx mA/\(∀f,tQ (fs.lookup f) (mA f))/\GL mA (fs.map (·.1))
 | .own _=>∃o,h.get? a=some o
 | .xd fs=>∃mA,h.Ns1 a mA/\∀f,tQ (fs.lookup f) (mA f)
 | .rng lo hi=>∃t u v,h.get? a=some { cls:=.type "range",data:=.fields #[.int lo t,.int hi u,.int 1 v] }
 | .frz o u=>h.get? a=some o/\bC H h a u
 | .tbl ps=>fu H h a ps
 | .met f x=>h.get? a=some (FU (.ref f) (.ref x))
 | .ext φ=>φ h/\(∃o,h.get? a=some o)/\∀h1 h2:Heap,φ h1->(∀o,h1.get? a=some o->h2.get? a=some o)->φ h2
noncomputable def HOk(H:Hp)(h:Heap):Prop:=∀a o,H a=some o->bC P w H h a o
end
section
variable {P:n_}{w:World}{H H':Hp}{h h':Heap}{a:Addr}{o:HO}
def bC.lt(x:bC P w H h a o):a<h.objs.size:=by
 cases o with
 | lst xs=>obtain⟨_,_,_,_,e⟩:=x;exact h_ e
 | tup xs=>obtain⟨_,_,_,p⟩:=x;exact p.lt
 | dK kvs=>obtain⟨_,_,_,_,o,_,_,e,_⟩:=x;exact h_ e
 | dT kvs=>obtain⟨_,_,_,_,o,_,_,e,_⟩:=x;exact h_ e
 | set S n=>obtain⟨o,_,_,_,e,_⟩:=x;exact h_ e
 | ins C dx fs=>obtain⟨_,_,_,e,_⟩:=x;exact h_ e
 | own y=>obtain⟨_,e⟩:=x;exact h_ e
 | xd fs=>obtain⟨_,⟨_,_,_,e,_⟩,_⟩:=x;exact h_ e
 | rng lo hi=>obtain⟨_,_,_,e⟩:=x;exact h_ e
 | frz ob u=>obtain⟨e,_⟩:=x;exact h_ e
 | tbl ps=>obtain⟨_,_,_,_,_,e,_⟩:=x;exact h_ e
 | met f y=>exact h_ (show h.get? a=some _ from x)
 | ext φ=>obtain⟨_,⟨_,e⟩,_⟩:=x;exact h_ e
theorem Paired.mapP{α β:Type}{F G:α->β->Prop}:∀{l₁:List α}{l₂:List β},Paired F l₁ l₂->(∀a b,F a b->G a b)->Paired G l₁ l₂
 | _,_,.nil,_=>.nil
 | _,_,.cons r t,f=>.cons (f _ _ r) (Paired.mapP t f)
def bC.stay(x:bC P w H h a o)(k:∀b u,(b=a\/H b=some (.own a))->h.get? b=some u->h'.get? b=some u)
  (ho:∀b,H b=some (.own a)->H' b=some (.own a)) (ht:∀b xs,H b=some (.tup xs)->H' b=some (.tup xs)):bC P w H' h' a o:=by
 induction o with
 | lst xs=>obtain⟨z,its,n,r,e⟩:=x;exact⟨z,its,n,r,k _ _ (.inl rfl) e⟩
 | tup xs=>obtain⟨z,its,r,ob,e,c⟩:=x;exact⟨z,its,r,ob,k _ _ (.inl rfl) e,c⟩
 | dK kvs=>obtain⟨z,y,vs,r,ob,es,ep,e,c⟩:=x;exact⟨z,y,vs,r,ob,es,ep,k _ _ (.inl rfl) e,c⟩
 | dT kvs =>
  obtain⟨z,y,xs,r,ob,es,ep,e,c⟩:=x;exact⟨z,y,xs,Paired.mapP r λp q z=>⟨z.1,ht _ _ z.2.1,z.2.2⟩,ob,es,ep,k _ _ (.inl rfl) e,c⟩
 | set S n=>obtain⟨ob,es,ep,t,e,c⟩:=x;exact⟨ob,es,ep,t,k _ _ (.inl rfl) e,c⟩
 | ins C dx fs =>
  obtain⟨d,z,ne,e,mA,⟨od,es,ep,e2,c⟩,r⟩:=x;exact⟨ho _ d,z,ne,k _ _ (.inl rfl) e,mA,⟨od,es,ep,k _ _ (.inr d) e2,c⟩,r⟩
 | own y=>obtain⟨ob,e⟩:=x;exact⟨ob,k _ _ (.inl rfl) e⟩
 | xd fs=>obtain⟨mA,⟨od,es,ep,e,c⟩,r⟩:=x;exact⟨mA,⟨od,es,ep,k _ _ (.inl rfl) e,c⟩,r⟩
 | rng lo hi=>obtain⟨t,u,v,e⟩:=x;exact⟨t,u,v,k _ _ (.inl rfl) e⟩
 | frz ob u ih=>obtain⟨e,q⟩:=x;exact⟨k _ _ (.inl rfl) e,ih q⟩
 | tbl ps =>
  obtain⟨q,t,more,real,e1,e,r⟩:=x;exact⟨q,t,more,real,e1,k a _ (.inl rfl) e,dL.stay (λb u z=>k b u (.inr z)) ho _ r⟩
 | met f y =>
  have e:h.get? a=some (FU (.ref f) (.ref y)):=x;show h'.get? a=some (FU (.ref f) (.ref y));exact k a _ (.inl rfl) e
 | ext φ=>obtain⟨p,⟨o,e⟩,st⟩:=x;exact⟨st _ _ p λo q=>k _ _ (.inl rfl) q,⟨o,k _ _ (.inl rfl) e⟩,st⟩
def HOk.lt(x:HOk P w H h)(e:H a=some o):a<h.objs.size:=(x a o e).lt
def HOk.fresh(x:HOk P w H h)(e:h.objs.size<=a):H a=none:=by
 cases q:H a with
 | none=>rfl
 | some u=>exact absurd (pf (x.lt q) e) (DB _)
def HOk.kept(x:HOk P w H h)(k:∀b u,h.get? b=some u->h'.get? b=some u):HOk P w H h':=λa o e =>
 (x a o e).stay (λb u _ q=>k b u q) (λ_ q=>q) λ_ _ q=>q
def HOk.laid(x:HOk P w H h)(k:∀b u,h.get? b=some u->h'.get? b=some u)(hp:h.objs.size<=a)(new:bC P w (upd H a o) h' a o):HOk P w (upd H a o) h':=λb u e=>by
 have hn:=x.fresh hp
 by_cases hb:b=a
 .subst hb;rw [aG] at e;cases e;exact new
 .rw [ax hb] at e;exact (x b u e).stay (λc v _ q=>k c v q) (λc q=>by rw [ax (aD q hn)];exact q) λc xs q=>by rw [ax (aD q hn)];exact q
end
noncomputable def Rd(H:Hp)(a:Addr)(u:HO):Prop:=H a=some u\/∃o,H a=some (.frz o u)
def Rd.ok{P:n_}{w:World}{H:Hp}{h:Heap}{a:Addr}{u:HO}(r:Rd H a u)(x:HOk P w H h):bC P w H h a u:=by
 rcases r with r|⟨o,r⟩
 .exact x a u r
 .obtain⟨_,q⟩:=x a _ r;exact q
noncomputable def Mut:Option HO->Prop
 | some (.lst _)=>True
 | some (.dK _)=>True
 | some (.dT _)=>True
 | some (.set _ _)=>True
 | some (.ins _ _ _)=>True
 | some (.ext _)=>True
 | _=>False
section
variable {P:n_}{w:World}{H:Hp}{h h':Heap}{x e:Addr}{o':HO}
def HOk.write(ok:HOk P w H h)(mu:Mut (H x))(he:e=x\/H e=some (.own x))(k:∀b u,b≠e->h.get? b=some u->h'.get? b=some u)(heo:∃u,h'.get? e=some u)
  (new:bC P w (upd H x o') h' x o'):HOk P w (upd H x o') h':=λb u q=>by
 have nown:∀c y,H c=some (.own y)->c≠x:=λc y r z=>by subst z;rw [r] at mu;exact mu
 have ntup:∀c xs,H c=some (.tup xs)->c≠x:=λc xs r z=>by subst z;rw [r] at mu;exact mu
 by_cases hb:b=x
 .subst hb;rw [aG] at q;cases q;exact new
 .rw [ax hb] at q
  by_cases hbe:b=e
  .have q':H b=some (.own x):=by
    rcases he with z|z
    .exact absurd (hbe.trans z) hb
    .rw [hbe];exact z
   rw [q] at q';cases q';obtain⟨v,hv⟩:=heo;exact⟨v,by rw [hbe];exact hv⟩
  .refine (ok b u q).stay (λc v hc r=>k c v ?_ r) (λc r=>by rw [ax (nown c b r)];exact r) λc xs r=>by rw [ax (ntup c xs r)];exact r
   rcases hc with rfl|hc
   .exact hbe
   .rintro rfl
    rcases he with z|z
    .exact nown c b hc z
    .rw [hc] at z;cases z;exact hb rfl
end
structure Un (fs ex:List Addr) (H H':Hp) (h h':Heap):Prop where
 keep:∀b o,h.get? b=some o->H b=none->b∉fs->b∉ex->h'.get? b=some o
 slot:∀b o,h.get? b=some o->H b=none->b∈fs->b∉ex->∃sl,h'.get? b=some { o with slots:=sl }
 free:∀b o,h.get? b=some o->H b=none->b∉ex->H' b=none
 there:∀b o,h.get? b=some o->b∉ex->∃o',h'.get? b=some o'
 tups:∀b xs,H b=some (.tup xs)->H' b=some (.tup xs)
 frzs:∀b o u,H b=some (.frz o u)->H' b=some (.frz o u)
 tbls:∀b ps,H b=some (.tbl ps)->∃more,H' b=some (.tbl (ps++more))
section
variable {fs fs' ex ex':List Addr}{H H1 H2:Hp}{h h1 h2 h':Heap}{a x e:Addr}{o:HO}
def Un.any(u:Un fs ex H H1 h h1){b:Addr}{ob:Obj}(q:h.get? b=some ob)(n:H b=none)(hx:b∉ex):∃sl,h1.get? b=some { ob with slots:=sl }:=by
 by_cases hb:b∈fs
 .exact u.slot b ob q n hb hx
 .exact⟨ob.slots,u.keep b ob q n hb hx⟩
def Un.kept(k:∀b u,h.get? b=some u->h'.get? b=some u):Un fs ex H H h h' :=
 ⟨λb ob q _ _ _=>k b ob q,λb ob q _ _ _=>⟨ob.slots,k b ob q⟩,λ_ _ _ n _=>n,λb ob q _=>⟨ob,k b ob q⟩,λ_ _ q=>q,λ_ _ _ q=>q,λ_ ps q=>⟨#[],by rw [q];simp⟩⟩
def Un.refl:Un fs ex H H h h:=Un.kept λ_ _ q=>q
def Un.laid(k:∀b u,h.get? b=some u->h'.get? b=some u)(hp:h.objs.size<=a)(hn:H a=none):Un fs ex H (upd H a o) h h' where
 keep:=λb u q _ _ _=>k b u q
 slot:=λb u q _ _ _=>⟨u.slots,k b u q⟩
 free:=λb u q n _=>by rw [ax (DC (pf (h_ q) hp))];exact n
 there:=λb u q _=>⟨u,k b u q⟩
 tups:=λb xs q=>by rw [ax (aD q hn)];exact q
 frzs:=λb u xs q=>by rw [ax (aD q hn)];exact q
 tbls:=λb ps q=>⟨#[],by rw [ax (aD q hn),q];simp⟩
def Un.write(mu:Mut (H x))(he:e=x\/H e=some (.own x))(k:∀b u,b≠e->h.get? b=some u->h'.get? b=some u)(heo:∃u,h'.get? e=some u):Un fs ex H (upd H x o) h h':=by
 have hx:∀b,H b=none->b≠x:=λb n z=>by subst z;rw [n] at mu;exact mu
 have hb:∀b,H b=none->b≠e:=λb n z=>by
  subst z
  rcases he with r|r
  .exact hx b n r
  .rw [n] at r;cases r
 have hm:∀b u,H b=some u->¬ Mut (some u)->b≠x:=λb u q nm z=>by subst z;rw [q] at mu;exact nm mu
 refine⟨λb u q n _ _=>k b u (hb b n) q,λb u q n _ _=>⟨u.slots,k b u (hb b n) q⟩,λb u q n _=>by rw [ax (hx b n)];exact n,λb u q _=>?_,
  λb xs q=>by rw [ax (hm b _ q λz=>z)];exact q,λb u xs q=>by rw [ax (hm b _ q λz=>z)];exact q,λb ps q=>⟨#[],by rw [ax (hm b _ q λz=>z),q];simp⟩⟩
 by_cases hbe:b=e
 .subst hbe;exact heo
 .exact⟨u,k b u hbe q⟩
end
noncomputable def trk(h:Heap)(H:Hp):List Addr:=(c_ h.objs.size).filter λa=>(H a).isSome
noncomputable def wg(h:Heap)(H:Hp):Heap:=PySem.W.hideAll h (trk h H)
def re(h:Heap)(H:Hp):(wg h H).objs.size=h.objs.size:=PySem.W.hideAll_size _ _
def tU{h:Heap}{H:Hp}{b:Addr}{o:Obj}(e:h.get? b=some o)(n:H b=none):(wg h H).get? b=some o :=
 PySem.W.hideAll_get _ e λhm=>by
  have q:(H b).isSome=true:=(DK.mp hm).2;rw [n] at q;simp at q
def wk{h:Heap}{H:Hp}{b:Addr}{o:Obj}(e:(wg h H).get? b=some o):h.get? b=some o/\H b=none:=by
 have e':h.get? b=some o:=PySem.W.of_hideAll (trk h H) e;refine⟨e',?_⟩
 cases q:H b with
 | none=>rfl
 | some x =>
  have hm:b∈trk h H:=DK.mpr ⟨mem_range.mpr (h_ e'),by simp [q]⟩;have z:(wg h H).get? b=none:=PySem.W.hideAll_none (trk h H) hm;rw [z] at e;cases e
noncomputable def lX(base:Heap)(H:Hp):Prop:=∀(P:Addr) (r:List Nat),base.life.registered=P::r->∃(t:Tok) (more:Array Value),H P=some (.tbl (#[.str ⟨r.toArray⟩ t]++more))
def lX.un{base:Heap}{fs ex:List Addr}{H H':Hp}{h h':Heap}(x:lX base H)(u:Un fs ex H H' h h'):lX base H':=λP r e=>by
 obtain⟨t,more,q⟩:=x P r e;obtain⟨m2,q2⟩:=u.tbls P _ q;exact⟨t,more++m2,by rw [q2,Array.append_assoc]⟩
structure Mod (K:a_) (mg:Str->Option Value) (base:Heap):Prop where
 kin:K.In base
 glob:base.Ns mainGlobals mg
 blt:∃mb,base.Ns builtinsNs mb/\∀x:Str,x≠"__name__"->mb x=bootBuiltins x
 nolimit:base.NoLimit
structure Cx where
 prog:n_
 w:World
 K:a_
 mg:Str->Option Value
 base:Heap
 A:t_
 N:List Str
 s₀:cx
 H₀:Hp
 env:Env
 outer:List Env
 stack:List Env
 ex:List Addr
 fn:Str->Bool
 calm:Bool
 pn:List (Addr×Obj)
 xe:Value->cx->Prop
noncomputable def frs(l:List Env):List Addr:=l.filterMap (·.frame)
abbrev Cx.fs(X:Cx):List Addr:=frs X.outer
noncomputable def Vis(sc:Scope)(x:Str):Prop:=sc.names.lookup x=some .local\/sc.names.lookup x=some .cell\/sc.names.lookup x=some .free
noncomputable def Loc(sc:Scope)(x:Str):Prop:=sc.names.lookup x=some .local\/sc.names.lookup x=some .cell
noncomputable def C5(env:Env)(h:Heap)(m:Str->Option Value)(x:Str)(u:Value):Prop :=
 (env.kindOf x=some .local/\m x=some u)\/((env.kindOf x=some .cell\/env.kindOf x=some .free)/\∃c,env.cells.lookup x=some c/\h.IsCell c (some u))
structure Cx.Ok (X:Cx):Prop where
 mod:Mod X.K X.mg X.base
 kind:X.env.scope.kind=.function
 glob:X.env.globals=mainGlobals
 blt:X.env.builtins=builtinsNs
 above:X.s₀.heap.objs.size<=X.env.locals
 inj:∀x y c,X.env.cells.lookup x=some c->X.env.cells.lookup y=some c->x=y
 has:∀x,(X.env.kindOf x=some .cell\/X.env.kindOf x=some .free)->∃c,X.env.cells.lookup x=some c
 cab:∀x c,X.fn x=true->X.env.cells.lookup x=some c->X.s₀.heap.objs.size<=c
 hd:X.calm=true->X.A.handled=none
 frames:X.A.frames=some X.stack
 stk:X.stack=X.outer\/(X.stack=X.env::X.outer/\X.env.frame=some X.env.locals)
 exf:∀b∈X.ex,b≠X.env.locals/\∀x c,X.env.cells.lookup x=some c->c≠b
 bs:∀b o,X.base.get? b=some o->X.s₀.heap.get? b=some o/\X.H₀ b=none
 bsz:X.base.objs.size<=X.s₀.heap.objs.size
 noex:∀b o,X.base.get? b=some o->b∉X.ex
 exfs:∀b∈X.ex,b∉X.fs
 funs:X.s₀.heap.FunFrames X.base X.outer
 frf:∀b∈X.fs,X.H₀ b=none
 tb:lX X.base X.H₀
structure Inv (X:Cx) (pins:List (Addr×Obj)) (σ:List (Option V)) (H:Hp) (s:cx):Prop where
 ok:X.Ok
 os:s.os=X.s₀.os
 bare:FW s.gens
 base:Un X.fs X.ex X.H₀ H X.s₀.heap s.heap
 loc:∃m,s.heap.Ns X.env.locals m/\∀(i:Nat) (x:Str) (v:V),X.N[i]?=some x->σ[i]?=some (some v)->Vis X.env.scope x->∃u,cF v u/\C5 X.env s.heap m x u
 cell:∀x c,X.env.cells.lookup x=some c->∃v,s.heap.IsCell c v
 free:H X.env.locals=none
 freeC:∀x c,X.env.cells.lookup x=some c->H c=none
 pin:∀p∈X.pn++pins,s.heap.get? p.1=some p.2/\H p.1=none/\p.1≠X.env.locals/\p.1∉X.fs/\∀v,p.2.data≠.cell v
 hok:HOk X.prog X.w H s.heap
 len:σ.length=X.N.length
section
variable {X:Cx}{pins:List (Addr×Obj)}{σ:List (Option V)}{H H':Hp}{s:cx}{h':Heap}
def Cx.Ok.nofr(ok:X.Ok){b:Addr}{o:Obj}(e:X.base.get? b=some o):b∉X.fs:=λhb=>by
 have:=(ok.funs.mem hb).1;rw [e] at this;cases this
def Inv.bs(I:Inv X pins σ H s):∀b o,X.base.get? b=some o->s.heap.get? b=some o/\H b=none:=λb o e =>
 ⟨I.base.keep b o (I.ok.bs b o e).1 (I.ok.bs b o e).2 (I.ok.nofr e) (I.ok.noex b o e),I.base.free b o (I.ok.bs b o e).1 (I.ok.bs b o e).2 (I.ok.noex b o e)⟩
def Inv.bk(I:Inv X pins σ H s):∀b o,X.base.get? b=some o->s.heap.get? b=some o:=λb o e=>(I.bs b o e).1
def Inv.mod(I:Inv X pins σ H s):Mod X.K X.mg X.base:=I.ok.mod
def Inv.kIn(I:Inv X pins σ H s):X.K.In s.heap:=I.ok.mod.kin.keeps I.bk
def Inv.lt(I:Inv X pins σ H s):X.env.locals<s.heap.objs.size:=let ⟨_,hn,_⟩:=I.loc;hn.lt
def Inv.sz(I:Inv X pins σ H s):X.s₀.heap.objs.size<=s.heap.objs.size:=r_ I.ok.above (le_of_lt I.lt)
def Inv.nofs(I:Inv X pins σ H s){a:Addr}(h:s.heap.objs.size<=a):a∉X.fs:=λhb=>by
 obtain⟨_,o,ho,_⟩:=I.ok.funs.mem hb;exact absurd (pf (h_ ho) (r_ I.sz h)) (DB _)
def Inv.cne(I:Inv X pins σ H s):∀x c,X.env.cells.lookup x=some c->c≠X.env.locals:=λx c e z=>by
 obtain⟨v,o,ho,hd⟩:=I.cell x c e;obtain⟨m,⟨o',es,ep,ho',hd',_⟩,_⟩:=I.loc;rw [z,ho'] at ho;cases ho;rw [hd'] at hd;cases hd
def Inv.funs(I:Inv X pins σ H s):s.heap.FunFrames X.base X.outer:=by
 have all:∀(l:List Env),(∀b∈frs l,b∈X.fs)->X.s₀.heap.FunFrames X.base l->s.heap.FunFrames X.base l:=by
  intro l
  induction l with
  | nil=>intro _ _;trivial
  | cons env r ih =>
   intro hs hl;obtain⟨hk,⟨L,o,hf,hn,ho,hd⟩,hr⟩:=hl;have hL:L∈X.fs:=hs L (by unfold frs;rw [E2,hf];exact mem_cons_self);obtain⟨sl,e⟩:=I.base.slot L o ho (I.ok.frf L hL) hL λz=>I.ok.exfs L z hL;exact⟨hk,⟨L,_,hf,hn,e,hd⟩,ih (λb hb=>hs b (by unfold frs;rw [E2,hf];exact o_ _ hb)) hr⟩
 exact all X.outer (λ_ hb=>hb) I.ok.funs
def Inv.stack(I:Inv X pins σ H s):s.heap.FunFrames X.base X.stack:=by
 rcases I.ok.stk with e|⟨e,hf⟩
 .rw [e];exact I.funs
 .rw [e];obtain⟨m,hn,_⟩:=I.loc;refine .cons (by rw [I.ok.kind];decide) hf hn ?_ I.funs;exact Fh (r_ I.ok.bsz I.ok.above)
def Inv.stkSub(I:Inv X pins σ H s):∀b∈frs X.stack,b∈X.env.locals::X.fs:=λb hb=>by
 rcases I.ok.stk with e|⟨e,hf⟩
 .rw [e] at hb;exact o_ _ hb
 .rw [e] at hb;unfold frs at hb;rw [E2,hf] at hb;exact hb
def Inv.stkFree(I:Inv X pins σ H s):∀b∈frs X.stack,H b=none:=λb hb=>by
 rcases C_.mp (I.stkSub b hb) with e|hb
 .rw [e];exact I.free
 .obtain⟨_,o,ho,_⟩:=I.ok.funs.mem hb;exact I.base.free b o ho (I.ok.frf b hb) λz=>I.ok.exfs b z hb
def Inv.step{g':Array GenState}{t':Nat}{d':Drawn}{ch:List Addr}(I:Inv X pins σ H s)
  (hch:∀b∈ch,(b∈X.ex\/X.s₀.heap.objs.size<=b)/\b≠X.env.locals/\(∀x c,X.env.cells.lookup x=some c->c≠b)/\∀p∈X.pn++pins,p.1≠b)
  (keep:∀b o,b≠X.env.locals->b∉X.fs->b∉ch->s.heap.get? b=some o->H b=none->h'.get? b=some o)
  (slot:∀b o,b≠X.env.locals->b∈X.fs->b∉ch->s.heap.get? b=some o->H b=none->∃sl,h'.get? b=some { o with slots:=sl }) (free:∀b o,b∉ch->s.heap.get? b=some o->H b=none->H' b=none)
  (there:∀b o,b∉ch->s.heap.get? b=some o->∃o',h'.get? b=some o')
  (tups:∀b xs,H b=some (.tup xs)->H' b=some (.tup xs)) (frzs:∀b o u,H b=some (.frz o u)->H' b=some (.frz o u)) (tbls:∀b ps,H b=some (.tbl ps)->∃more,H' b=some (.tbl (ps++more)))
  (ns:∀m,s.heap.Ns X.env.locals m->h'.Ns X.env.locals m) (hok:HOk X.prog X.w H' h') (hg:FW g') :
  Inv X pins σ H' { s with heap:=h',gens:=g',drawn:=d',toks:=t' }:=by
 have neL:∀b o,X.s₀.heap.get? b=some o->b≠X.env.locals:=λb o e=>DC (pf (h_ e) I.ok.above)
 have neC:∀b o,X.s₀.heap.get? b=some o->b∉X.ex->b∉ch:=λb o e hx hb=>by
  rcases (hch b hb).1 with z|z
  .exact hx z
  .exact absurd (pf (h_ e) z) (DB _)
 have cellK:∀x c,X.env.cells.lookup x=some c->∀v,s.heap.IsCell c v->h'.IsCell c v:=λx c e v ⟨o,ho,hd⟩=>by
  have nch:c∉ch:=λz=>(hch c z).2.2.1 x c e rfl
  by_cases hc:c∈X.fs
  .obtain⟨sl,q⟩:=slot c o (I.cne x c e) hc nch ho (I.freeC x c e);exact⟨_,q,hd⟩
  .exact⟨o,keep c o (I.cne x c e) hc nch ho (I.freeC x c e),hd⟩
 refine⟨I.ok,I.os,hg,⟨λb o e n hb hx=>?_,λb o e n hb hx=>?_,λb o e n hx=>?_,λb o e hx=>?_,λb xs e=>tups b xs (I.base.tups b xs e),λb o xs e=>frzs b o xs (I.base.frzs b o xs e),λb ps e=>?_⟩,?_,λx c e=>?_,?_,λx c e=>?_,λp hp=>?_,hok,I.len⟩
 .exact keep b o (neL b o e) hb (neC b o e hx) (I.base.keep b o e n hb hx) (I.base.free b o e n hx)
 .obtain⟨sl,e1⟩:=I.base.slot b o e n hb hx;obtain⟨sl',e2⟩:=slot b _ (neL b o e) hb (neC b o e hx) e1 (I.base.free b o e n hx);exact⟨sl',e2⟩
 .obtain⟨o',e1⟩:=I.base.there b o e hx;exact free b o' (neC b o e hx) e1 (I.base.free b o e n hx)
 .obtain⟨o',e1⟩:=I.base.there b o e hx;exact there b o' (neC b o e hx) e1
 .obtain⟨m1,e1⟩:=I.base.tbls b ps e;obtain⟨m2,e2⟩:=tbls b _ e1;exact⟨m1++m2,by rw [e2,Array.append_assoc]⟩
 .obtain⟨m,hn,hl⟩:=I.loc;refine⟨m,ns m hn,λi x v e1 e2 e3=>?_⟩;obtain⟨u,r,l⟩:=hl i x v e1 e2 e3;refine⟨u,r,?_⟩
  rcases l with l|⟨k,c,e,z⟩
  .exact .inl l
  .exact .inr ⟨k,c,e,cellK x c e _ z⟩
 .obtain⟨v,z⟩:=I.cell x c e;exact⟨v,cellK x c e v z⟩
 .obtain⟨m,⟨o,_,_,ho,_⟩,_⟩:=I.loc;exact free _ o (λz=>(hch _ z).2.1 rfl) ho I.free
 .obtain⟨v,o,ho,hd⟩:=I.cell x c e;exact free c o (λz=>(hch c z).2.2.1 x c e rfl) ho (I.freeC x c e)
 .obtain⟨e,n,ne,nf,d⟩:=I.pin p hp;have nch:p.1∉ch:=λz=>(hch p.1 z).2.2.2 p hp rfl;exact⟨keep p.1 p.2 ne nf nch e n,free p.1 p.2 nch e n,ne,nf,d⟩
def Inv.un{t':Nat}(I:Inv X pins σ H s)(u:Un X.fs [] H H' s.heap h')(hok:HOk X.prog X.w H' h'):Inv X pins σ H' { s with heap:=h',toks:=t' }:=by
 obtain⟨m,⟨o,es,ep,ho,r⟩,_⟩:=id I.loc;obtain⟨sl,hL⟩:=u.any ho I.free (by simp)
 exact I.step (g':=s.gens) (d':=s.drawn) (ch:=[]) (λ_ z=>nomatch z) (λb o _ hb _ e n=>u.keep b o e n hb (by simp)) (λb o _ hb _ e n=>u.slot b o e n hb (by simp)) (λb o _ e n=>u.free b o e n (by simp)) (λb o _ e=>u.there b o e (by simp)) u.tups u.frzs u.tbls (λm' hm=>by
  obtain⟨o',es',ep',ho',r'⟩:=hm;rw [ho] at ho';cases ho';exact⟨_,es',ep',hL,r'⟩) hok I.bare
def Inv.call{g':Array GenState}{t':Nat}{d':Drawn}{ch:List Addr}(I:Inv X pins σ H s)(u:Un (frs X.stack) ch H H' s.heap h')(hok:HOk X.prog X.w H' h')(hg:FW g')
  (hch:∀b∈ch,(b∈X.ex\/X.s₀.heap.objs.size<=b)/\b≠X.env.locals/\(∀x c,X.env.cells.lookup x=some c->c≠b)/\∀p∈X.pn++pins,p.1≠b) :
  Inv X pins σ H' { s with heap:=h',gens:=g',drawn:=d',toks:=t' }:=by
 obtain⟨m,⟨o,es,ep,ho,r⟩,_⟩:=id I.loc;obtain⟨sl,hL⟩:=u.any ho I.free λz=>(hch _ z).2.1 rfl
 exact I.step (ch:=ch) hch (λb o hL hb hc e n=>u.keep b o e n (λz=>(C_.mp (I.stkSub b z)).elim hL hb) hc) (λb o _ _ hc e n=>u.any e n hc) (λb o hc e n=>u.free b o e n hc) (λb o hc e=>u.there b o e hc) u.tups u.frzs u.tbls (λm' hm=>by
  obtain⟨o',es',ep',ho',r'⟩:=hm;rw [ho] at ho';cases ho';exact⟨_,es',ep',hL,r'⟩) hok hg
def Inv.turned{t':Nat}{it:Addr}(I:Inv X pins σ H s)(k:∀b o,b≠it->s.heap.get? b=some o->h'.get? b=some o)(hn:H it=none)(hL:it≠X.env.locals)
  (h1:it∈X.ex\/X.s₀.heap.objs.size<=it) (h2:∀x c,X.env.cells.lookup x=some c->c≠it) (h3:∀p∈X.pn++pins,p.1≠it):Inv X pins σ H { s with heap:=h',toks:=t' }:=by
 have nit:∀b u,H b=some u->b≠it:=λb u e z=>by rw [z,hn] at e;cases e
 refine I.step (g':=s.gens) (d':=s.drawn) (ch:=[it]) (λb hb=>?_) (λb o _ _ hc e _=>k b o (λz=>hc (by simp [z])) e) (λb o _ _ hc e _=>⟨o.slots,k b o (λz=>hc (by simp [z])) e⟩) (λ_ _ _ _ n=>n)
  (λb o hc e=>⟨o,k b o (λz=>hc (by simp [z])) e⟩) (λ_ _ e=>e) (λ_ _ _ e=>e) (λb ps e=>⟨#[],by rw [e];simp⟩) (λm hm=>?_) (λb u e=>?_) I.bare
 .have e:b=it:=by simpa using hb
  subst e;exact⟨h1,hL,h2,h3⟩
 .obtain⟨o,es,ep,ho,r⟩:=hm;exact⟨o,es,ep,k _ o (EA hL) ho,r⟩
 .refine (I.hok b u e).stay (λc v hc q=>k c v ?_ q) (λ_ q=>q) λ_ _ q=>q
  rcases hc with z|z
  .rw [z];exact nit b u e
  .exact nit c _ z
def Inv.tok(I:Inv X pins σ H s)(t:Nat):Inv X pins σ H { s with toks:=t }:=I.un (h':=s.heap) (t':=t) Un.refl I.hok
def Inv.kept{t':Nat}(I:Inv X pins σ H s)(k:∀b u,s.heap.get? b=some u->h'.get? b=some u):Inv X pins σ H { s with heap:=h',toks:=t' }:=I.un (Un.kept k) (I.hok.kept k)
def Inv.laid{a:Addr}{o:HO}{t':Nat}(I:Inv X pins σ H s)(k:∀b u,s.heap.get? b=some u->h'.get? b=some u)(hp:s.heap.objs.size<=a)(new:bC X.prog X.w (upd H a o) h' a o) :
  Inv X pins σ (upd H a o) { s with heap:=h',toks:=t' }:=I.un (Un.laid k hp (I.hok.fresh hp)) (I.hok.laid k hp new)
def Inv.write{x e:Addr}{o:HO}{t':Nat}(I:Inv X pins σ H s)(mu:Mut (H x))(he:e=x\/H e=some (.own x))(k:∀b u,b≠e->s.heap.get? b=some u->h'.get? b=some u)(heo:∃u,h'.get? e=some u)
  (new:bC X.prog X.w (upd H x o) h' x o):Inv X pins σ (upd H x o) { s with heap:=h',toks:=t' }:=I.un (Un.write mu he k heo) (I.hok.write mu he k heo new)
def Inv.pins_of{pins':List (Addr×Obj)}(I:Inv X pins σ H s)(h:∀p∈pins',s.heap.get? p.1=some p.2/\H p.1=none/\p.1≠X.env.locals/\p.1∉X.fs/\∀v,p.2.data≠.cell v):Inv X pins' σ H s :=
 ⟨I.ok,I.os,I.bare,I.base,I.loc,I.cell,I.free,I.freeC,λp hp=>(DP.mp hp).elim (λz=>I.pin p (DG _ z)) (h p),I.hok,I.len⟩
def pI{N:List Str}(hN:N.Nodup){i j:Nat}{x:Str}(a:N[i]?=some x)(b:N[j]?=some x):i=j:=by
 obtain⟨h1,e1⟩:=g_.mp a;obtain⟨h2,e2⟩:=g_.mp b;exact (getElem_inj hN).mp (e1.trans e2.symm)
theorem rf{M:Model}{A:t_}{E:Value->cx->Prop}{i:Nat}{x:Str}{v:V}{u:Value}{Q:Unit->cx->Prop}(I:Inv X pins σ H s)(hN:X.N.Nodup)(hi:X.N[i]?=some x)(hx:Loc X.env.scope x)(r:cF v u)
  (h:∀s',Inv X pins (σ.set i (some v)) H s'->(∃a,E3 a s.heap s'.heap/\(a=X.env.locals\/X.env.cells.lookup x=some a))->Q () s') (hf:X.fn x=true\/X.env.scope.names.lookup x=some .local:=by first|exact .inl rfl|exact .inr rfl|assumption):wpAny M A (storeName X.env x u) Q E s:=by
 obtain⟨m,hn,hl⟩:=id I.loc;have hcls:(X.env.scope.kind == .class || (X.env.scope.kind == .module && X.env.locals != X.env.globals))=false:=by rw [I.ok.kind];rfl
 have hiσ:i<σ.length:=by rw [I.len];exact (g_.mp hi).1
 have cne:=I.cne
 have tracked:∀{a:Addr}{h':Heap},(∃o,s.heap.get? a=some o/\H a=none)->E3 a s.heap h'->HOk X.prog X.w H h':=λ{a h'} ha hs b ob e=>by
  obtain⟨_,_,hfree⟩:=ha;refine (I.hok b ob e).stay (λc w' hc q=>(hs.2 c ?_).trans q) (λ_ q=>q) λ_ _ q=>q;rintro rfl
  rcases hc with rfl|hc
  .rw [hfree] at e;cases e
  .rw [hfree] at hc;cases hc
 rcases hx with hk|hk
 .refine wpAny_storeName_local hk hn (λh' hn' hs=>?_) hcls;obtain⟨oL,_,_,hoL,_⟩:=id hn
  refine h _ ⟨I.ok,I.os,I.bare,⟨λb o e n hb hx=>?_,λb o e n hb hx=>?_,I.base.free,λb o e hx=>?_,I.base.tups,I.base.frzs,I.base.tbls⟩,⟨_,hn',λj y v' e1 e2 e3=>?_⟩,λy c e=>?_,I.free,I.freeC,λp hp=>?_,tracked ⟨oL,hoL,I.free⟩ hs,by simpa using I.len⟩ ⟨_,hs,.inl rfl⟩
  .exact (hs.2 b (DC (pf (h_ e) I.ok.above))).trans (I.base.keep b o e n hb hx)
  .obtain⟨sl,e1⟩:=I.base.slot b o e n hb hx;exact⟨sl,(hs.2 b (DC (pf (h_ e) I.ok.above))).trans e1⟩
  .obtain⟨o',e1⟩:=I.base.there b o e hx;exact⟨o',(hs.2 b (DC (pf (h_ e) I.ok.above))).trans e1⟩
  .by_cases hj:j=i
   .subst hj;rw [hi] at e1;cases e1;rw [pj hiσ] at e2;cases e2;exact⟨u,r,.inl ⟨hk,by simp⟩⟩
   .rw [m_ (EA hj)] at e2;obtain⟨u',r',q⟩:=hl j y v' e1 e2 e3;refine⟨u',r',?_⟩
    rcases q with ⟨k,e⟩|⟨k,c,e,z⟩
    .refine .inl ⟨k,?_⟩;have:y≠x:=λe=>hj (pI hN e1 (e ▸ hi));simp [this,e]
    .exact .inr ⟨k,c,e,z.sameBut hs (cne y c e)⟩
  .obtain⟨w',z⟩:=I.cell y c e;exact⟨w',z.sameBut hs (cne y c e)⟩
  .obtain⟨e,n,ne,nf,d⟩:=I.pin p hp;exact⟨(hs.2 p.1 ne).trans e,n,ne,nf,d⟩
 .have hfn:X.fn x=true:=by
   rcases hf with z|z
   .exact z
   .rw [z] at hk;cases hk
  obtain⟨c,hc⟩:=I.ok.has x (.inl hk);obtain⟨w',z⟩:=I.cell x c hc;refine wpAny_storeName_cell I.ok.kind hk hc z (λh' hc' hs=>?_);obtain⟨oc,hoc,hocd⟩:=id z
  refine h { s with heap:=h' } ⟨I.ok,I.os,I.bare,⟨λb o e n hb hx=>?_,λb o e n hb hx=>?_,I.base.free,λb o e hx=>?_,I.base.tups,I.base.frzs,I.base.tbls⟩,⟨m,hn.sameBut hs (EA (cne x c hc)),λj y v' e1 e2 e3=>?_⟩,λy c' e=>?_,I.free,I.freeC,λp hp=>?_,tracked ⟨oc,hoc,I.freeC x c hc⟩ hs,by simpa using I.len⟩ ⟨c,hs,.inr hc⟩
  .exact (hs.2 b (DC (pf (h_ e) (I.ok.cab x c hfn hc)))).trans (I.base.keep b o e n hb hx)
  .obtain⟨sl,e1⟩:=I.base.slot b o e n hb hx;exact⟨sl,(hs.2 b (DC (pf (h_ e) (I.ok.cab x c hfn hc)))).trans e1⟩
  .obtain⟨o',e1⟩:=I.base.there b o e hx;exact⟨o',(hs.2 b (DC (pf (h_ e) (I.ok.cab x c hfn hc)))).trans e1⟩
  .by_cases hj:j=i
   .subst hj;rw [hi] at e1;cases e1;rw [pj hiσ] at e2;cases e2;exact⟨u,r,.inr ⟨.inl hk,c,hc,hc'⟩⟩
   .rw [m_ (EA hj)] at e2;obtain⟨u',r',q⟩:=hl j y v' e1 e2 e3;refine⟨u',r',?_⟩
    rcases q with q|⟨k,c',e,z'⟩
    .exact .inl q
    .refine .inr ⟨k,c',e,z'.sameBut hs ?_⟩;rintro rfl;exact hj (pI hN e1 (I.ok.inj _ _ _ e hc ▸ hi))
  .by_cases hcc:c'=c
   .subst hcc;exact⟨_,hc'⟩
   .obtain⟨w2,z2⟩:=I.cell y c' e;exact⟨w2,z2.sameBut hs hcc⟩
  .obtain⟨e,n,ne,nf,d⟩:=I.pin p hp;refine⟨(hs.2 p.1 ?_).trans e,n,ne,nf,d⟩;intro q;rw [q,hoc] at e;have q':oc=p.2:=q_ e;exact d w' (by rw [<- q'];exact hocd)
theorem iW{M:Model}{A:t_}{E:Value->cx->Prop}{i:Nat}{x:Str}{v:V}{u:Value}{Q:Unit->cx->Prop}(I:Inv X pins σ H s)(hN:X.N.Nodup)(hi:X.N[i]?=some x)(hx:Loc X.env.scope x)(r:cF v u)
  (h:∀s',Inv X pins (σ.set i (some v)) H s'->Q () s') (hf:X.fn x=true\/X.env.scope.names.lookup x=some .local:=by first|exact .inl rfl|exact .inr rfl|assumption):wpAny M A (storeName X.env x u) Q E s :=
 rf I hN hi hx r (λs' I' _=>h s' I') hf
def Inv.call'{s':cx}{ch:List Addr}(I:Inv X pins σ H s)(ho:s'.os=s.os)(u:Un (frs X.stack) ch H H' s.heap s'.heap)(hok:HOk X.prog X.w H' s'.heap)(hg:FW s'.gens)
  (hch:∀b∈ch,(b∈X.ex\/X.s₀.heap.objs.size<=b)/\b≠X.env.locals/\(∀x c,X.env.cells.lookup x=some c->c≠b)/\∀p∈X.pn++pins,p.1≠b):Inv X pins σ H' s':=by
 obtain⟨h',g',d',t',o'⟩:=s';have e:o'=s.os:=ho;subst e;exact I.call (g':=g') (t':=t') (d':=d') u hok hg hch
end
abbrev XK:=Value->Option Addr->Hp->Prop
abbrev St:=List (Option V)
abbrev VK:=V->Hp->Prop
abbrev TE:=St->Hp->VK->Prop
abbrev TT:=St->Hp->(Bool->Hp->Prop)->Prop
abbrev TA:=St->Hp->(List V->Hp->Prop)->Prop
structure yc where
 nx:St->Hp->Prop
 rt:VK
 bk:St->Hp->Prop:=λ_ _=>False
 ct:St->Hp->Prop:=λ_ _=>False
abbrev TS:=yc->St->Hp->Prop
noncomputable def EP(X:Cx)(pins:List (Addr×Obj))(σ:St)(Q:VK)(u:Value)(s':cx):Prop:=∃v H',Inv X pins σ H' s'/\cF v u/\Q v H'
noncomputable def TP(X:Cx)(pins:List (Addr×Obj))(σ:St)(Q:Bool->Hp->Prop)(b:Bool)(s':cx):Prop:=∃H',Inv X pins σ H' s'/\Q b H'
noncomputable def AP(X:Cx)(pins:List (Addr×Obj))(σ:St)(Q:List V->Hp->Prop)(us:List Value)(s':cx):Prop:=∃vs H',Inv X pins σ H' s'/\bB vs us/\Q vs H'
noncomputable def SP(X:Cx)(pins:List (Addr×Obj))(D:yc)(f:Flow)(s':cx):Prop :=
 match f with
 | .next=>∃σ' H',Inv X pins σ' H' s'/\D.nx σ' H'
 | .brk=>∃σ' H',Inv X pins σ' H' s'/\D.bk σ' H'
 | .cont=>∃σ' H',Inv X pins σ' H' s'/\D.ct σ' H'
 | .ret u=>∃v σ' H',Inv X pins σ' H' s'/\cF v u/\D.rt v H'
noncomputable def PE(X:Cx)(e:Expr)(t:TE):Prop :=
 ∀(pins:List (Addr×Obj)) (s:cx) (σ:St) (H:Hp) (Q:VK),Inv X pins σ H s->t σ H Q->wpAny (model X.prog X.w) X.A (eval e X.env) (EP X pins σ Q) X.xe s
noncomputable def PT(X:Cx)(e:Expr)(t:TT):Prop :=
 ∀(pins:List (Addr×Obj)) (s:cx) (σ:St) (H:Hp) (Q:Bool->Hp->Prop),Inv X pins σ H s->t σ H Q->wpAny (model X.prog X.w) X.A (isTrue e X.env (eval e X.env)) (TP X pins σ Q) X.xe s
noncomputable def PW(X:Cx)(e:Expr)(t:TT):Prop :=
 ∀(whole:Sem Value) (pins:List (Addr×Obj)) (s:cx) (σ:St) (H:Hp) (Q:Bool->Hp->Prop),Inv X pins σ H s->t σ H Q->wpAny (model X.prog X.w) X.A (isTrue e X.env whole) (TP X pins σ Q) X.xe s
def PW.pt{X:Cx}{e:Expr}{t:TT}(h:PW X e t):PT X e t:=h _
noncomputable def PA(X:Cx)(es:List Expr)(t:TA):Prop :=
 ∀(pos:Pos) (pins:List (Addr×Obj)) (s:cx) (σ:St) (H:Hp) (Q:List V->Hp->Prop),Inv X pins σ H s->t σ H Q->wpAny (model X.prog X.w) X.A (spliced (backTo pos (starEach es X.env))) (AP X pins σ Q) X.xe s
noncomputable def PS(X:Cx)(st:Stmt)(t:TS):Prop :=
 ∀(pins:List (Addr×Obj)) (s:cx) (σ:St) (H:Hp) (D:yc),Inv X pins σ H s->t D σ H->wpAny (model X.prog X.w) X.A (exec st X.env) (SP X pins D) X.xe s
noncomputable def PSs(X:Cx)(st:List Stmt)(t:TS):Prop :=
 ∀(pins:List (Addr×Obj)) (s:cx) (σ:St) (H:Hp) (D:yc),Inv X pins σ H s->t D σ H->wpAny (model X.prog X.w) X.A (execs st X.env) (SP X pins D) X.xe s
def thn{α:Type}{t:Sem α}{Q Q':α->cx->Prop}{M:Model}{A:t_}{E:Value->cx->Prop}{s:cx}(h:wpAny M A t Q E s)(hQ:∀a s,Q a s->Q' a s):wpAny M A t Q' E s:=Eb h hQ λ_ _ x=>x
section
variable {X:Cx}
noncomputable def aV(i:Nat):TE:=λσ H Q=>∃v,σ[i]?=some (some v)/\Q v H
def tC(v:V):TE:=λ_ H Q=>Q v H
def yr{i:Nat}{x:Str}{pos:Pos}(hN:X.N[i]?=some x)(hv:Vis X.env.scope x)(hd:(x == ("__debug__":Str))=false:=by decide)(hcd:(x == ("__classdict__":Str))=false:=by decide):PE X (.Name x pos) (aV i):=by
 intro pins s σ H Q I h;obtain⟨v,e,h⟩:=h;obtain⟨m,hn,hl⟩:=I.loc;obtain⟨u,r,l⟩:=hl i x v hN e hv;have fin:EP X pins σ Q u s:=⟨v,H,I,r,h⟩
 rcases l with ⟨hk,hm⟩|⟨hk,c,hc,hcell⟩
 .exact wpAny_Name (wpAny_loadName_local I.ok.kind hk hn hm fin) hd
 .rcases hk with hk|hk
  .exact wpAny_Name (wpAny_loadName_cell I.ok.kind hk hc hcell fin) hd
  .exact wpAny_Name (wpAny_loadName_free I.ok.kind hk hc hcell fin hcd) hd
def aq{i j pos}:PE X (.Constant (.int i) j pos) (tC (.int i)):=λ_ _ _ H _ I h=>wpAny_Constant_int ⟨.int i,H,I.tok _,⟨_,rfl⟩,h⟩
def qe{b j pos}:PE X (.Constant (.bool b) j pos) (tC (.bl b)):=λ_ _ _ H _ I h=>Constant_bool ⟨.bl b,H,I,rfl,h⟩
def yt{x j pos}:PE X (.Constant (.str x) j pos) (tC (.str x)):=λ_ _ _ H _ I h=>Calls.Constant_str ⟨.str x,H,I.tok _,⟨_,rfl⟩,h⟩
noncomputable def Gl(X:Cx)(x:Str):Prop:=X.env.kindOf x=some .globalImplicit
def nE{E:Value->cx->Prop}{pins:List (Addr×Obj)}{s:cx}{σ:St}{H:Hp}{x:Str}{u:Value}{pos:Pos}{Q:Value->cx->Prop}(I:Inv X pins σ H s)(hg:Gl X x)(hm:X.mg x=some u)(h:Q u s)
  (hd:(x == ("__debug__":Str))=false:=by decide):wpAny (model X.prog X.w) X.A (eval (.Name x pos) X.env) Q E s :=
 FC I.ok.kind hg (Calls.loadGlobal_global (by rw [I.ok.glob];exact I.mod.glob.keeps I.bk) hm h) hd
def gm{E:Value->cx->Prop}{pins:List (Addr×Obj)}{s:cx}{σ:St}{H:Hp}{x:Str}{u:Value}{pos:Pos}{Q:Value->cx->Prop}(I:Inv X pins σ H s)(hg:Gl X x)(hm:X.mg x=none)(hv:bootBuiltins x=some u)(h:Q u s)
  (hn:x≠"__name__":=by decide) (hd:(x == ("__debug__":Str))=false:=by decide):wpAny (model X.prog X.w) X.A (eval (.Name x pos) X.env) Q E s:=by
 obtain⟨mb,h1,h2⟩:=I.mod.blt;exact FC I.ok.kind hg (Calls.loadGlobal_builtin (by rw [I.ok.glob];exact I.mod.glob.keeps I.bk) hm (by rw [I.ok.blt];exact h1.keeps I.bk) ((h2 x hn).trans hv) h) hd
def wl{x:Str}{v:V}{u:Value}{pos:Pos}(hg:Gl X x)(hm:X.mg x=some u)(r:cF v u)(hd:(x == ("__debug__":Str))=false:=by decide):PE X (.Name x pos) (tC v) :=
 λ_ _ _ H _ I h=>nE I hg hm ⟨v,H,I,r,h⟩ hd
def nF{x:Str}{v:V}{u:Value}{pos:Pos}(hg:Gl X x)(hm:X.mg x=none)(hv:bootBuiltins x=some u)(r:cF v u)(hn:x≠"__name__":=by decide)(hd:(x == ("__debug__":Str))=false:=by decide):PE X (.Name x pos) (tC v) :=
 λ_ _ _ H _ I h=>gm I hg hm hv ⟨v,H,I,r,h⟩ hn hd
variable {a b:Expr}{ta tb:TE}{pos:Pos}
noncomputable def tB(t:TE):TT:=λσ H Q=>t σ H λx H1=>∃c,x=.bl c/\Q c H1
def yu{e:Expr}{t:TE}(h:PE X e t)(he:∀whole,isTrue e X.env whole=(do let v <- whole;standAt e.pos;holding [v] (truthy v)):=by intro _;rfl):PT X e (tB t):=by
 intro pins s σ H Q I hw;refine isTrue_plain (thn (h pins s σ H _ I hw) λv s1 ⟨x,H1,I1,r1,q1⟩=>?_) (he _);obtain⟨d,rfl,q⟩:=q1;cases r1;exact Dy ⟨H1,I1,q⟩
variable {tA tB':TT}{rest:List Expr}
noncomputable def Be(t u:TT):TT:=λσ H Q=>t σ H λc H1=>if c=true then u σ H1 Q else Q false H1
noncomputable def tOr(t u:TT):TT:=λσ H Q=>t σ H λc H1=>if c=true then Q true H1 else u σ H1 Q
noncomputable def Ci(t:TT):TT:=λσ H Q=>t σ H λc H1=>Q (!c) H1
def fT(ha:PT X a tA):PW X (.BoolOp .And [a] pos) tA:=by
 intro wh pins s σ H Q I h;refine isTrue_and (thn (ha pins s σ H Q I h) λc s1 e=>?_)
 cases c with
 | true=>exact isTrue_and_nil e
 | false=>exact e
def lY(ha:PT X a tA):PW X (.BoolOp .Or [a] pos) tA:=by
 intro wh pins s σ H Q I h;refine isTrue_or (thn (ha pins s σ H Q I h) λc s1 e=>?_)
 cases c with
 | false=>exact isTrue_or_nil e
 | true=>exact e
def i4(ha:PT X a tA)(hb:PW X (.BoolOp .And (b::rest) pos) tB'):PW X (.BoolOp .And (a::b::rest) pos) (Be tA tB'):=by
 intro wh pins s σ H Q I h;refine isTrue_and (thn (ha pins s σ H _ I h) λc s1 ⟨H1,I1,q1⟩=>?_)
 cases c with
 | true=>exact hb wh pins s1 σ H1 Q I1 q1
 | false=>exact⟨H1,I1,q1⟩
def rg(ha:PT X a tA)(hb:PW X (.BoolOp .Or (b::rest) pos) tB'):PW X (.BoolOp .Or (a::b::rest) pos) (tOr tA tB'):=by
 intro wh pins s σ H Q I h;refine isTrue_or (thn (ha pins s σ H _ I h) λc s1 ⟨H1,I1,q1⟩=>?_)
 cases c with
 | true=>exact⟨H1,I1,q1⟩
 | false=>exact hb wh pins s1 σ H1 Q I1 q1
def lZ(ha:PT X a tA):PT X (.UnaryOp .Not a pos) (Ci tA):=by
 intro pins s σ H Q I h;exact isTrue_not (ha pins s σ H (λc H1=>Q (!c) H1) I h)
noncomputable def yv(ta tb:TE):TE:=λσ H Q=>ta σ H λx H1=>∃c,x=.bl c/\if c=true then tb σ H1 Q else Q (.bl false) H1
noncomputable def yw(ta:TE):TE:=λσ H Q=>ta σ H λx H1=>∃c,x=.bl c/\Q (.bl (!c)) H1
def vn{op}{t:TE}(h:PE X a t):PE X (.BoolOp op [a] pos) t:=λpins s σ H Q I hw=>BoolOp_one (h pins s σ H Q I hw)
def yx(ha:PE X a ta)(hb:PE X (.BoolOp .And (b::rest) pos) tb):PE X (.BoolOp .And (a::b::rest) pos) (yv ta tb):=by
 intro pins s σ H Q I h;refine BoolOp_and (thn (ha pins s σ H _ I h) λv s1 ⟨x,H1,I1,r1,q1⟩=>?_);obtain⟨c,rfl,q1⟩:=q1;cases r1;refine Dy ?_
 cases c with
 | true=>exact hb pins s1 σ H1 Q I1 q1
 | false=>exact⟨.bl false,H1,I1,rfl,q1⟩
def yy(ha:PE X a ta):PE X (.UnaryOp .Not a pos) (yw ta):=by
 intro pins s σ H Q I h;refine UnaryOp_ (thn (ha pins s σ H _ I h) λv s1 ⟨x,H1,I1,r1,q1⟩=>?_);obtain⟨c,rfl,q1⟩:=q1;cases r1;exact not_of (Dy ⟨.bl (!c),H1,I1,rfl,q1⟩)
noncomputable def tIf(t:TT)(ta tb:TE):TE:=λσ H Q=>t σ H λc H1=>if c=true then ta σ H1 Q else tb σ H1 Q
def tV{c:Expr}(hc:PT X c tA)(ha:PE X a ta)(hb:PE X b tb):PE X (.IfExp c a b pos) (tIf tA ta tb):=by
 intro pins s σ H Q I h;refine wpAny_IfExp (thn (hc pins s σ H _ I h) λd s1 ⟨H1,I1,q1⟩=>?_)
 cases d with
 | true=>exact ha pins s1 σ H1 Q I1 q1
 | false=>exact hb pins s1 σ H1 Q I1 q1
end
noncomputable def SqL(K:a_)(H:Hp)(a:Addr)(xs:List V):Prop :=
 Rd H a (.lst xs) \/
  ∃(o:Obj) (its:Array Value) (n:Nat),K.lookup a=some o/\o.cls=.type "list"/\o.dict=none/\o.data=.seq its n/\its.size<=sizeLine/\bB xs its.toList
noncomputable def SqT(K:a_)(H:Hp)(a:Addr)(xs:List V):Prop :=
 Rd H a (.tup xs) \/
  ∃(o:Obj) (its:Array Value) (n:Nat),K.lookup a=some o/\o.cls=.type "tuple"/\o.data=.seq its n/\its.size<=sizeLine/\bB xs its.toList
noncomputable def C6:Value->Option V
 | .none=>some .non
 | .bool b=>some (.bl b)
 | .int i _=>some (.int i)
 | .str x _=>some (.str x)
 | .bytes b _=>some (.byt b)
 | .float b _=>some (.flt b)
 | .ref a=>some (.ref a)
 | .type n=>some (.ty n)
 | _=>none
def cF.abs{x:V}{u:Value}(r:cF x u):C6 u=some x:=by
 cases x with
 | non=>cases r;rfl
 | bl _=>cases r;rfl
 | int _=>obtain⟨t,rfl⟩:=r;rfl
 | str _=>obtain⟨t,rfl⟩:=r;rfl
 | byt _=>obtain⟨t,rfl⟩:=r;rfl
 | flt _=>obtain⟨t,rfl⟩:=r;rfl
 | ref _=>cases r;rfl
 | ty _=>cases r;rfl
def cF.inj{x y:V}{u:Value}(r:cF x u)(q:cF y u):x=y:=q_ (r.abs.symm.trans q.abs)
theorem bB.inj:∀{xs ys:List V}{us:List Value},bB xs us->bB ys us->xs=ys
 | _,_,_,.nil,.nil=>rfl
 | _,_,_,.cons r t,.cons r' t'=>by rw [r.inj r',bB.inj t t']
section
variable {X:Cx}{pins:List (Addr×Obj)}{σ:St}{H:Hp}{s:cx}{a:Addr}{xs ys:List V}
def SqL.of{K:a_}(h:H a=some (.lst xs)):SqL K H a xs:=.inl (.inl h)
def SqT.of{K:a_}(h:H a=some (.tup xs)):SqT K H a xs:=.inl (.inl h)
def Inv.list(I:Inv X pins σ H s)(h:SqL X.K H a xs):∃its:List Value,bB xs its/\PlainL s.heap a its.toArray/\xs.length<=sizeLine:=by
 rcases h with h|⟨o,its,n,hk,hc,hd,hs,hz,r⟩
 .obtain⟨z,its,n,r,e⟩:=h.ok I.hok;exact⟨its,r,⟨_,n,e,rfl,rfl,rfl⟩,z⟩
 .refine⟨its.toList,r,⟨o,n,I.kIn a o hk,hc,hd,by simpa using hs⟩,?_⟩;have e:=r.length;simp only [D1] at e;omega
def Inv.tuple(I:Inv X pins σ H s)(h:SqT X.K H a xs):∃its:List Value,bB xs its/\IsTup s.heap a its.toArray/\xs.length<=sizeLine:=by
 rcases h with h|⟨o,its,n,hk,hc,hs,hz,r⟩
 .obtain⟨z,its,r,p⟩:=h.ok I.hok;exact⟨its,r,p,z⟩
 .refine⟨its.toList,r,⟨o,I.kIn a o hk,hc,n,by simpa using hs⟩,?_⟩;have e:=r.length;simp only [D1] at e;omega
def Inv.list_inj(I:Inv X pins σ H s)(h:SqL X.K H a xs)(h':SqL X.K H a ys):xs=ys:=by
 obtain⟨its,r,⟨o,n,e,_,_,d⟩,_⟩:=I.list h;obtain⟨its',r',⟨o',n',e',_,_,d'⟩,_⟩:=I.list h';rw [e] at e';cases e';rw [d] at d';injection d' with d1 _;have:its=its':=by simpa using congrArg Ft d1
 subst this;exact r.inj r'
def Inv.tuple_inj(I:Inv X pins σ H s)(h:SqT X.K H a xs)(h':SqT X.K H a ys):xs=ys:=by
 obtain⟨its,r,⟨o,e,_,n,d⟩,_⟩:=I.tuple h;obtain⟨its',r',⟨o',e',_,n',d'⟩,_⟩:=I.tuple h';rw [e] at e';cases e';rw [d] at d';injection d' with d1 _;have:its=its':=by simpa using congrArg Ft d1
 subst this;exact r.inj r'
end
abbrev Cx.wish(X:Cx)(E:Value->cx->Prop):Cx:={ X with xe:=E }
abbrev Cx.nox(X:Cx):Cx:=X.wish λ_ _=>False
def Cx.Ok.wish{X:Cx}(ok:X.Ok)(E:Value->cx->Prop):(X.wish E).Ok :=
 ⟨ok.mod,ok.kind,ok.glob,ok.blt,ok.above,ok.inj,ok.has,ok.cab,ok.hd,ok.frames,ok.stk,ok.exf,ok.bs,ok.bsz,ok.noex,ok.exfs,ok.funs,ok.frf,ok.tb⟩
def Cx.Ok.unwish{X:Cx}{E:Value->cx->Prop}(ok:(X.wish E).Ok):X.Ok :=
 ⟨ok.mod,ok.kind,ok.glob,ok.blt,ok.above,ok.inj,ok.has,ok.cab,ok.hd,ok.frames,ok.stk,ok.exf,ok.bs,ok.bsz,ok.noex,ok.exfs,ok.funs,ok.frf,ok.tb⟩
section
variable {X:Cx}{pins:List (Addr×Obj)}{σ:St}{H:Hp}{s:cx}{E:Value->cx->Prop}
def Inv.wish(I:Inv X pins σ H s)(E:Value->cx->Prop):Inv (X.wish E) pins σ H s:=⟨I.ok.wish E,I.os,I.bare,I.base,I.loc,I.cell,I.free,I.freeC,I.pin,I.hok,I.len⟩
def Inv.unwish(I:Inv (X.wish E) pins σ H s):Inv X pins σ H s:=⟨I.ok.unwish,I.os,I.bare,I.base,I.loc,I.cell,I.free,I.freeC,I.pin,I.hok,I.len⟩
def SP.unwish{D:yc}{f:Flow}{s':cx}(h:SP (X.wish E) pins D f s'):SP X pins D f s':=by
 cases f with
 | next=>obtain⟨σ',H',I,q⟩:=h;exact⟨σ',H',I.unwish,q⟩
 | brk=>obtain⟨σ',H',I,q⟩:=h;exact⟨σ',H',I.unwish,q⟩
 | cont=>obtain⟨σ',H',I,q⟩:=h;exact⟨σ',H',I.unwish,q⟩
 | ret u=>obtain⟨v,σ',H',I,r,q⟩:=h;exact⟨v,σ',H',I.unwish,r,q⟩
def PSs.nox{st:List Stmt}{t:TS}(h:PSs X.nox st t):PSs X st t:=λpins s σ H D I hw =>
 Eb (h pins s σ H D (I.wish _) hw) (λ_ _ q=>q.unwish) λ_ _ z=>Eu z
end
section
variable {X:Cx}{st:Stmt}{rest:List Stmt}{t u:TS}{e:Expr}{te:TE}{pos:Pos}
def yz:TS:=λD σ H=>D.nx σ H
noncomputable def Cj(t u:TS):TS:=λD σ H=>t { D with nx:=u D } σ H
def ba:PSs X [] yz:=λ_ _ σ H _ I h=>Fm ⟨σ,H,I,h⟩
def ai(h1:PS X st t)(h2:PSs X rest u):PSs X (st::rest) (Cj t u):=by
 intro pins s σ H D I h;refine wpAny_execs_cons (thn (h1 pins s σ H { D with nx:=u D } I h) λf s1 q=>?_)
 cases f with
 | next =>
  obtain⟨σ',H',I',q⟩:=q;exact h2 pins s1 σ' H' D I' q
 | ret v=>exact q
 | brk=>exact q
 | cont=>exact q
def am(h1:PS X st t):PSs X [st] t:=by
 intro pins s σ H D I h;refine wpAny_execs_cons (thn (h1 pins s σ H D I h) λf s1 q=>?_)
 cases f with
 | next=>exact Fm q
 | ret v=>exact q
 | brk=>exact q
 | cont=>exact q
def Inv.quiet{pins:List (Addr×Obj)}{σ:St}{H:Hp}{s:cx}(I:Inv X pins σ H s):interactive X.env=false:=by simp [interactive,I.ok.kind]
noncomputable def yA(te:TE):TS:=λD σ H=>te σ H λ_ H1=>D.nx σ H1
def eR(he:PE X e te)(hs:swapsWith e none pos.line X.env=pure false:=by rfl):PS X (.Expr e pos) (yA te):=by
 intro pins s σ H D I h;exact wpAny_Expr_any (thn (he pins s σ H _ I h) λv s1 ⟨x,H1,I1,r1,q1⟩=>⟨σ,H1,I1,q1⟩) I.quiet hs
def Ck(te:TE):TS:=λD σ H=>te σ H D.rt
def aM(he:PE X e te):PS X (.Return (some e) pos) (Ck te):=by
 intro pins s σ H D I h;exact wpAny_Return_some (thn (he pins s σ H _ I h) λv s1 ⟨x,H1,I1,r1,q1⟩=>⟨x,σ,H1,I1,r1,q1⟩)
noncomputable def Cm(c:TT)(t u:TS):TS:=λD σ H=>c σ H λb H1=>if b=true then t D σ H1 else u D σ H1
def dk{c:Expr}{a b:List Stmt}{tc:TT}(hc:PT X c tc)(ha:PSs X a t)(hb:PSs X b u):PS X (.If c a b pos) (Cm tc t u):=by
 intro pins s σ H D I h;refine wpAny_If (thn (hc pins s σ H _ I h) λd s1 ⟨H1,I1,q1⟩=>?_)
 cases d with
 | true=>exact ha pins s1 σ H1 D I1 q1
 | false=>exact hb pins s1 σ H1 D I1 q1
def vo:TS:=λ_ _ _=>False
def kU:PS X st vo:=λ_ _ _ _ _ _ h=>h.elim
end
abbrev TG:=V->St->Hp->(St->Hp->Prop)->Prop
abbrev TGs:=List V->St->Hp->(St->Hp->Prop)->Prop
noncomputable def PG(X:Cx)(target:Expr)(t:TG):Prop :=
 ∀(pins:List (Addr×Obj)) (s:cx) (σ:St) (H:Hp) (v:V) (u:Value) (Q:St->Hp->Prop),Inv X pins σ H s->cF v u->t v σ H Q ->
  wpAny (model X.prog X.w) X.A (assign target X.env u) (λ_ s'=>∃σ' H',Inv X pins σ' H' s'/\Q σ' H') X.xe s
noncomputable def PGs(X:Cx)(ts:List Expr)(t:TGs):Prop :=
 ∀(pins:List (Addr×Obj)) (s:cx) (σ:St) (H:Hp) (vs:List V) (us:List Value) (Q:St->Hp->Prop),Inv X pins σ H s->bB vs us->t vs σ H Q ->
  wpAny (model X.prog X.w) X.A (assignInOrder ((assignEach ts X.env).map (·.2)) us) (λ_ s'=>∃σ' H',Inv X pins σ' H' s'/\Q σ' H') X.xe s
abbrev TIp:=V->V->Hp->VK->Prop
noncomputable def PIp(X:Cx)(op:Operator)(t:TIp):Prop :=
 ∀(pins:List (Addr×Obj)) (s:cx) (σ:St) (H:Hp) (x y:V) (v u:Value) (Q:VK),Inv X pins σ H s->cF x v->cF y u->t x y H Q ->
  wpAny (model X.prog X.w) X.A (inplaceOp op v u) (EP X pins σ Q) X.xe s
section
variable {X:Cx}{pos:Pos}
noncomputable def bw(i:Nat):TG:=λv σ H Q=>Q (σ.set i (some v)) H
theorem aE{i:Nat}{x:Str}(hN:X.N.Nodup)(hi:X.N[i]?=some x)(hx:Loc X.env.scope x)(hf:X.fn x=true\/X.env.scope.names.lookup x=some .local:=by first|exact .inl rfl|exact .inr rfl|assumption):PG X (.Name x pos) (bw i):=by
 intro pins s σ H v u Q I r h;exact wpAny_assign_Name (iW I hN hi hx r (λs' I'=>⟨_,H,I',h⟩) hf)
def wm:TGs:=λvs σ H Q=>vs=[]/\Q σ H
noncomputable def iI(t:TG)(u:TGs):TGs:=λvs σ H Q=>∃v r,vs=v::r/\t v σ H λσ' H'=>u r σ' H' Q
def gN:PGs X [] wm:=by
 intro pins s σ H vs us Q I r h;obtain⟨e,h⟩:=h;subst e;cases r;exact assignInOrder_nil ⟨σ,H,I,h⟩
def bS{e:Expr}{es:List Expr}{t:TG}{u:TGs}(h1:PG X e t)(h2:PGs X es u)
  (hs:(assignEach (e::es) X.env).map (·.2)=assign e X.env::(assignEach es X.env).map (·.2):=by rfl):PGs X (e::es) (iI t u):=by
 intro pins s σ H vs us Q I r h;obtain⟨v,vr,e1,h⟩:=h;subst e1
 cases r with
 | cons r rr =>
  rw [hs];refine assignInOrder_cons (thn (h1 pins s σ H _ _ _ I r h) λ_ s1 ⟨σ1,H1,I1,q1⟩=>?_);exact h2 pins s1 σ1 H1 _ _ Q I1 rr q1
noncomputable def C7(K:a_)(n:Nat)(t:TGs):TG:=λv σ H Q=>∃a xs,v=.ref a/\SqT K H a xs/\xs.length=n/\t xs σ H Q
def yB{es:List Expr}{k:Nat}{t:TGs}{n:Nat}(hc:X.calm=true)(h:PGs X es t)
  (hn:(assignEach es X.env).length=n:=by rfl) (hst:(assignEach es X.env).findIdx? (·.1)=none:=by rfl):PG X (.Tuple es k pos) (C7 X.K n t):=by
 intro pins s σ H v u Q I r hw;obtain⟨a,xs,e1,hq,hl,hw⟩:=hw;subst e1;cases r;obtain⟨its,rv,ht,hz⟩:=I.tuple hq;refine assign_Tuple_tuple (I.ok.hd hc) ht (by simp [hn,<- hl,rv.length]) hst λh' hx=>?_;have I1:Inv X pins σ H { s with heap:=h' }:=I.kept (t':=s.toks) λb o e=>hx b o (DC (h_ e)) e;exact h pins _ σ H xs _ Q I1 (by simpa using rv) hw
noncomputable def yC(te:TE)(g:TG):TS:=λD σ H=>te σ H λx H1=>g x σ H1 D.nx
def yD{tg e:Expr}{te:TE}{g:TG}(he:PE X e te)(hg:PG X tg g)(hs:swapsWithSole [tg] e pos.line X.env=pure false:=by rfl)(hw:swappedStores [tg] e X.env=pure none:=by rfl)
  (h1:(assignEach [tg] X.env).map (·.2)=[assign tg X.env]:=by rfl):PS X (.Assign [tg] e pos) (yC te g):=by
 intro pins s σ H D I h;refine wpAny_Assign_stores (thn (he pins s σ H _ I h) λv s1 ⟨x,H1,I1,r1,q1⟩=>?_) hs hw;rw [h1];exact thn (hg pins s1 σ H1 x v _ I1 r1 q1) λ_ s2 q=>q
theorem aN{i:Nat}{x:Str}{e:Expr}{te:TE}{pos':Pos}(hN:X.N.Nodup)(hi:X.N[i]?=some x)(hx:Loc X.env.scope x)(he:PE X e te)(hs:swapsWith e (some (.Name x pos')) pos.line X.env=pure false:=by rfl)(hf:X.fn x=true\/X.env.scope.names.lookup x=some .local:=by first|exact .inl rfl|exact .inr rfl|assumption) :
  PS X (.Assign [.Name x pos'] e pos) (yC te (bw i)):=by
 intro pins s σ H D I h;refine wpAny_Assign_Name (thn (he pins s σ H _ I h) λv s1 ⟨y,H1,I1,r1,q1⟩=>?_) hs;exact iW I1 hN hi hx r1 (λs2 I2=>⟨_,H1,I2,q1⟩) hf
noncomputable def Cn(i:Nat)(te:TE)(ti:TIp):TS:=λD σ H=>∃x,σ[i]?=some (some x)/\te σ H λy H1=>ti x y H1 λz H2=>D.nx (σ.set i (some z)) H2
theorem yE{i:Nat}{x:Str}{e:Expr}{te:TE}{op:Operator}{ti:TIp}{pos':Pos}(hN:X.N.Nodup)(hi:X.N[i]?=some x)(hx:Loc X.env.scope x)(he:PE X e te)(ho:PIp X op ti)(hf:X.fn x=true\/X.env.scope.names.lookup x=some .local:=by first|exact .inl rfl|exact .inr rfl|assumption) :
  PS X (.AugAssign (.Name x pos') op e pos) (Cn i te ti):=by
 intro pins s σ H D I h;obtain⟨v,e1,h⟩:=h;obtain⟨m,hn,hl⟩:=I.loc;have vis:Vis X.env.scope x:=by rcases hx with k|k;exact .inl k;exact .inr (.inl k)
 obtain⟨u,r,l⟩:=hl i x v hi e1 vis;refine wpAny_AugAssign_Name ?_
 have go:wpAny (model X.prog X.w) X.A (eval e X.env) (λw s₂=>wpAny (model X.prog X.w) X.A (inplaceOp op u w) (λr s₃=>wpAny (model X.prog X.w) X.A (storeName X.env x r) (λ_=>SP X pins D .next) X.xe s₃) X.xe s₂) X.xe s:=by
  refine thn (he pins s σ H _ I h) λw s1 ⟨y,H1,I1,r1,q1⟩=>?_;refine thn (ho pins s1 σ H1 v y u w _ I1 r r1 q1) λz s2 ⟨zv,H2,I2,r2,q2⟩=>?_;exact iW I2 hN hi hx r2 (λs3 I3=>⟨_,H2,I3,q2⟩) hf
 rcases l with ⟨hk,hm⟩|⟨hk,c,hc,hcell⟩
 .exact wpAny_loadName_local I.ok.kind hk hn hm go
 .rcases hk with hk|hk
  .exact wpAny_loadName_cell I.ok.kind hk hc hcell go
  .rcases hx with k|k
   .have:X.env.scope.names.lookup x=some .free:=hk;rw [k] at this;cases this
   .have:X.env.scope.names.lookup x=some .free:=hk;rw [k] at this;cases this
end
section
variable {X:Cx}{pos:Pos}
noncomputable def vp(c:TT)(tb:TS):TS:=λD σ H=>∃W:Nat->St->Hp->Prop,(∃m,W m σ H)/\∀m σ H,W m σ H ->
 c σ H λb H1=>if b=true then ∃N:St->Hp->Prop,(∀σ' H',N σ' H'->∃m',m'<m/\W m' σ' H')/\tb { D with nx:=N,ct:=N,bk:=D.nx } σ H1 else D.nx σ H1
def tW{c:Expr}{body:List Stmt}{tc:TT}{tb:TS}(hp:PassesOwn (model X.prog X.w) X.A X.env X.xe)(hc:PT X c tc)(hb:PSs X body tb):PS X (.While c body [] pos) (vp tc tb):=by
 intro pins s σ H D I h;obtain⟨W,⟨m0,w0⟩,turn⟩:=h;refine wpAny_While (codeAny_whileLoop (λn s'=>∃σ' H',Inv X pins σ' H' s'/\W n σ' H') ?_ m0 ⟨σ,H,I,w0⟩);rintro n s1 ⟨σ1,H1,I1,w1⟩;refine Eh hp (thn (hc pins s1 σ1 H1 _ I1 (turn n σ1 H1 w1)) λb s2 ⟨H2,I2,q2⟩=>?_)
 cases b with
 | true =>
  obtain⟨N,hN,q2⟩:=q2;rw [if_pos rfl];refine Eh hp (thn (hb pins s2 σ1 H2 _ I2 q2) λf s3 q3=>?_)
  cases f with
  | next =>
   obtain⟨σ3,H3,I3,n3⟩:=q3;obtain⟨m',hm,w3⟩:=hN σ3 H3 n3;exact⟨m',hm,σ3,H3,I3,w3⟩
  | cont =>
   obtain⟨σ3,H3,I3,n3⟩:=q3;obtain⟨m',hm,w3⟩:=hN σ3 H3 n3;exact⟨m',hm,σ3,H3,I3,w3⟩
  | brk=>exact q3
  | ret v=>exact q3
 | false =>
  rw [if_neg gV];exact Fm ⟨σ1,H2,I2,q2⟩
end
structure It where
 go:Nat->Hp->Prop
 yld:Nat->Hp->V->Hp->Prop
 stop:Nat->Hp->Prop
noncomputable def qY(X:Cx)(pins:List (Addr×Obj))(H:Hp)(b:Addr):Prop :=
 H b=none/\b≠X.env.locals/\b∉X.fs/\(b∈X.ex\/X.s₀.heap.objs.size<=b)/\(∀x c,X.env.cells.lookup x=some c->c≠b)/\∀p∈X.pn++pins,p.1≠b
def Inv.fpOk{X:Cx}{pins:List (Addr×Obj)}{σ:St}{H H':Hp}{s:cx}{b:Addr}(I:Inv X pins σ H s)(hb:s.heap.objs.size<=b)(hn:H' b=none):qY X pins H' b:=by
 refine⟨hn,Fi (pf I.lt hb),I.nofs hb,.inr (r_ I.sz hb),λx c e z=>?_,λp hp z=>?_⟩
 .obtain⟨v,q⟩:=I.cell x c e;exact absurd (pf q.lt (by rw [z];exact hb)) (DB _)
 .exact absurd (pf (h_ (I.pin p hp).1) (by rw [z];exact hb)) (DB _)
structure wn (P:n_) (w:World) (K:a_) (tg:Expr) (J:It) (fp:List Addr) (it:Addr) (tn:Nat->Heap->Prop):Prop where
 mem:it∈fp
 obj:∀i h,tn i h->∀b∈fp,∃o,h.get? b=some o/\∀v,o.data≠.cell v
 keep:∀i h h',tn i h->(∀b∈fp,∀o,h.get? b=some o->h'.get? b=some o)->tn i h'
 item:∀(X:Cx),X.prog=P->X.w=w->X.K=K->X.calm=true->∀(i:Nat) (pins:List (Addr×Obj)) (s:cx) (σ:St) (H:Hp) (E:Value->cx->Prop),Inv X pins σ H s->(∀b∈fp,qY X pins H b)->tn i s.heap->J.go i H ->
  wpAny (model P w) X.A (pyNext (.ref it)) (λr s1=>∃u,r=some u /\
   wpAny (model P w) X.A (letOwnedTupleGo tg (.ref it) u) (λ_ s2=>∃x H',Inv X pins σ H' s2/\cF x u/\J.yld i H x H'/\tn (i+1) s2.heap/\∀b∈fp,H' b=none) E s1) E s
 done:∀(X:Cx),X.prog=P->X.w=w->X.K=K->X.calm=true->∀(i:Nat) (pins:List (Addr×Obj)) (s:cx) (σ:St) (H:Hp) (E:Value->cx->Prop),Inv X pins σ H s->(∀b∈fp,qY X pins H b)->tn i s.heap->J.stop i H ->
  wpAny (model P w) X.A (pyNext (.ref it)) (λr s1=>r=none/\Inv X pins σ H s1) E s
 self:∀(A:t_) (i:Nat) (s:cx) (Q:Value->cx->Prop) (E:Value->cx->Prop),tn i s.heap->Q (.ref it) s->wpAny (model P w) A (pyIter (.ref it)) Q E s
abbrev TI:=St->Hp->(It->Hp->Prop)->Prop
noncomputable def PIE(X:Cx)(pins:List (Addr×Obj))(σ:St)(tg:Expr)(R:It->Hp->Prop)(itv:Value)(s2:cx):Prop :=
 ∃(it:Addr) (fp:List Addr) (tn:Nat->Heap->Prop) (J:It) (H':Hp),itv=.ref it/\Inv X pins σ H' s2/\wn X.prog X.w X.K tg J fp it tn/\tn 0 s2.heap/\(∀b∈fp,qY X pins H' b)/\R J H'
noncomputable def PI(X:Cx)(tg iter:Expr)(wi:TI):Prop :=
 ∀(pins:List (Addr×Obj)) (s:cx) (σ:St) (H:Hp) (R:It->Hp->Prop),Inv X pins σ H s->wi σ H R ->
  wpAny (model X.prog X.w) X.A (eval iter X.env) (λv s1=>wpAny (model X.prog X.w) X.A (pyIter v) (PIE X pins σ tg R) X.xe s1) X.xe s
def wo{M:Model}{A:t_}{E:Value->cx->Prop}{s:cx}{tg:Expr}{it:Addr}{u:Value}{o:Obj}{n:String}{vs:Array Value}{Q:Unit->cx->Prop}(ho:s.heap.get? it=some o)(hc:o.cls=.type n)(hd:o.data=.fields vs)
    (hn:["enumerate","zip","dict_itemiterator","dict_reverseitemiterator","odict_iterator","itertools.zip_longest","itertools.pairwise"].contains n=false) (hQ:Q () s):wpAny M A (letOwnedTupleGo tg (.ref it) u) Q E s:=by
  unfold letOwnedTupleGo
  cases tg <;> first
    | exact e_ hQ
    | (cases u <;> first
        | exact e_ hQ
        | (refine b_ (wpAny_load ho ?_)
           rw [hc,hd];show wpAny M A (if (["enumerate","zip","dict_itemiterator","dict_reverseitemiterator","odict_iterator","itertools.zip_longest","itertools.pairwise"].contains n && vs[0]? == some (rawInt _))=true then _ else _) Q E s;rw [if_neg (by intro h;rw [hn,GA] at h;cases h)];exact e_ hQ))
noncomputable def Itl(K:a_)(a:Addr):It :=
 ⟨λi H=>∃xs x,SqL K H a xs/\xs[i]?=some x,λi H x H'=>H'=H/\∀xs,SqL K H a xs->xs[i]?=some x,λi H=>∃xs,SqL K H a xs/\xs.length<=i⟩
noncomputable def Itt(K:a_)(a:Addr):It :=
 ⟨λi H=>∃xs x,SqT K H a xs/\xs[i]?=some x,λi H x H'=>H'=H/\∀xs,SqT K H a xs->xs[i]?=some x,λi H=>∃xs,SqT K H a xs/\xs.length<=i⟩
noncomputable def Itr(lo:Int)(n:Nat):It:=⟨λi _=>i<n,λi H x H'=>H'=H/\x=.int (lo+i),λi _=>n<=i⟩
def rh{P:n_}{w:World}{K:a_}{tg:Expr}(a it:Addr):wn P w K tg (Itl K a) [it] it (λi h=>h.IsListIter it a i) where
 mem:=by simp
 obj:=λi h st b hb=>by
  have e:b=it:=by simpa using hb
  subst e;obtain⟨o,e,c,d⟩:=st;exact⟨o,e,λv z=>by rw [d] at z;cases z⟩
 keep:=λi h h' st k=>st.at λo e=>k it (by simp) o e
 item:=by
  intro X hP hw hK hc i pins s σ H E I hf st hg;subst hP hw hK;obtain⟨xs,x,hq,hx⟩:=hg;obtain⟨its,rv,p,hz⟩:=I.list hq;obtain⟨u,hu,ru⟩:=rv.get hx;obtain⟨f0,f1,f2,f3,f4,f5⟩:=hf it (by simp);refine wpAny_pyNext_list_item st p.isList (x:=u) (by simpa using hu) λh' st' sb=>?_;have I1:Inv X pins σ H { s with heap:=h' }:=I.turned (t':=s.toks) (λb o hb e=>(sb.2 b hb).trans e) f0 f1 f3 f4 f5;obtain⟨o,e,c,d⟩:=id st'
  exact⟨u,rfl,wo (s:={ s with heap:=h' }) e c d (by decide) ⟨x,H,I1,ru,⟨rfl,λys hy=>by rw [I.list_inj hy hq];exact hx⟩,st',λb hb=>(hf b hb).1⟩⟩
 done:=by
  intro X hP hw hK hc i pins s σ H E I hf st hg;subst hP hw hK;obtain⟨xs,hq,hx⟩:=hg;obtain⟨its,rv,p,hz⟩:=I.list hq;obtain⟨f0,f1,f2,f3,f4,f5⟩:=hf it (by simp);have hl:=rv.length;exact wpAny_pyNext_list_end (I.ok.hd hc) st p.isList (by simp;omega) λh' eb=>⟨rfl,I.turned (t':=s.toks) (λb o hb e=>eb b o hb e) f0 f1 f3 f4 f5⟩
 self:=λ_ _ _ _ _ st h=>wpAny_pyIter_listiter st h
def qf{P:n_}{w:World}{K:a_}{tg:Expr}(a it:Addr):wn P w K tg (Itt K a) [it] it (λi h=>h.IsTupleIter it a i) where
 mem:=by simp
 obj:=λi h st b hb=>by
  have e:b=it:=by simpa using hb
  subst e;obtain⟨o,e,c,d⟩:=st;exact⟨o,e,λv z=>by rw [d] at z;cases z⟩
 keep:=λi h h' st k=>st.at λo e=>k it (by simp) o e
 item:=by
  intro X hP hw hK hc i pins s σ H E I hf st hg;subst hP hw hK;obtain⟨xs,x,hq,hx⟩:=hg;obtain⟨its,rv,p,hz⟩:=I.tuple hq;obtain⟨u,hu,ru⟩:=rv.get hx;obtain⟨f0,f1,f2,f3,f4,f5⟩:=hf it (by simp);refine wpAny_pyNext_tuple_item st (show s.heap.IsTuple a its.toArray from p) (x:=u) (by simpa using hu) λh' st' sb=>?_;have I1:Inv X pins σ H { s with heap:=h' }:=I.turned (t':=s.toks) (λb o hb e=>(sb.2 b hb).trans e) f0 f1 f3 f4 f5
  obtain⟨o,e,c,d⟩:=id st';exact⟨u,rfl,wo (s:={ s with heap:=h' }) e c d (by decide) ⟨x,H,I1,ru,⟨rfl,λys hy=>by rw [I.tuple_inj hy hq];exact hx⟩,st',λb hb=>(hf b hb).1⟩⟩
 done:=by
  intro X hP hw hK hc i pins s σ H E I hf st hg;subst hP hw hK;obtain⟨xs,hq,hx⟩:=hg;obtain⟨its,rv,p,hz⟩:=I.tuple hq;obtain⟨f0,f1,f2,f3,f4,f5⟩:=hf it (by simp);have hl:=rv.length;exact wpAny_pyNext_tuple_end (I.ok.hd hc) st (show s.heap.IsTuple a its.toArray from p) (by simp;omega) λh' eb=>⟨rfl,I.turned (t':=s.toks) (λb o hb e=>eb b o hb e) f0 f1 f3 f4 f5⟩
 self:=λ_ _ _ _ _ st h=>wpAny_pyIter_tupleiter st h
def qg{P:n_}{w:World}{K:a_}{tg:Expr}(it:Addr)(lo:Int)(n:Nat):wn P w K tg (Itr lo n) [it] it (λi h=>IsRangeIter h it (lo+(i:Nat)*1) ((n:Int) - (i:Nat)) 1) where
 mem:=by simp
 obj:=λi h st b hb=>by
  have e:b=it:=by simpa using hb
  subst e
  exact⟨_,st,λv z=>by
   have z':Data.fields _=Data.cell v:=z;cases z'⟩
 keep:=λi h h' st k=>k it (by simp) _ st
 item:=by
  intro X hP hw hK hc i pins s σ H E I hf st hg;subst hP hw hK;obtain⟨f0,f1,f2,f3,f4,f5⟩:=hf it (by simp);have W:=Walks.range (prog:=X.prog) (w:=X.w) (I.ok.hd hc) it lo 1 n;refine W.item i s _ _ hg st λv h' tk hv st' kk=>?_;obtain⟨t,rfl⟩:=hv;have I1:Inv X pins σ H { s with heap:=h',toks:=tk }:=I.turned (λb o hb e=>kk b o (by simpa using hb) e) f0 f1 f3 f4 f5;refine⟨_,rfl,wo (s:={ s with heap:=h',toks:=tk }) (n:="range_iterator") st' rfl rfl (by decide) ⟨.int (lo+i),H,I1,⟨t,?_⟩,⟨rfl,rfl⟩,st',λb hb=>(hf b hb).1⟩⟩
  rw [Int.mul_one]
 done:=by
  intro X hP hw hK hc i pins s σ H E I hf st hg;subst hP hw hK;obtain⟨f0,f1,f2,f3,f4,f5⟩:=hf it (by simp);exact wpAny_pyNext_range_end (I.ok.hd hc) st (by have:n<=i:=hg;omega) λh' eb=>⟨rfl,I.turned (t':=s.toks) (λb o hb e=>eb b o hb e) f0 f1 f3 f4 f5⟩
 self:=λ_ _ _ _ _ st h=>wpAny_pyIter_rangeiter st h
section
variable {X:Cx}{tg:Expr}
def tX{pins:List (Addr×Obj)}{σ:St}{H:Hp}{s:cx}{R:It->Hp->Prop}{E:Value->cx->Prop}{lo hi:Int}{t u v:Tok}{tk:Nat}(I:Inv X pins σ H s)(h1:-(2^62)<=lo)(h2:lo<2^62)(h3:-(2^62)<=hi)(h4:hi<2^62)
  (q:R (Itr lo (hi - lo).toNat) H):wpAny (model X.prog X.w) X.A (pyIter (.ref s.heap.objs.size)) (PIE X pins σ tg R) E { s with heap:=s.heap.push { cls:=.type "range",data:=.fields #[.int lo t,.int hi u,.int 1 v] },toks:=tk }:=by
 refine wpAny_pyIter_range (IsRange.new ..) (small_one h1 h2 h3 h4) ?_;have I1:Inv X pins σ H { s with heap:=s.heap.push { cls:=.type "range",data:=.fields #[.int lo t,.int hi u,.int 1 v] },toks:=tk }:=I.kept λb o e=>cn _ e
 refine⟨(s.heap.push { cls:=.type "range",data:=.fields #[.int lo t,.int hi u,.int 1 v] }).objs.size,[(s.heap.push { cls:=.type "range",data:=.fields #[.int lo t,.int hi u,.int 1 v] }).objs.size],_,_,H,rfl,
  I1.kept (t':=tk) λb o e=>cn _ e,qg _ lo (hi - lo).toNat,?_,λb hb=>?_,q⟩
 .have e1:lo+((0:Nat):Int)*1=lo:=by simp
  have e2:(((hi - lo).toNat:Nat):Int) - ((0:Nat):Int)=DR lo hi 1:=by rw [rangeSize_one];split <;> omega
  show IsRangeIter _ _ (lo+((0:Nat):Int)*1) ((((hi - lo).toNat:Nat):Int) - ((0:Nat):Int)) 1;rw [e1,e2];exact f_ _ rfl
 .have e:b=(s.heap.push { cls:=.type "range",data:=.fields #[.int lo t,.int hi u,.int 1 v] }).objs.size:=by simpa using hb
  subst e;exact I1.fpOk (l_ _) (I1.hok.fresh (l_ _))
noncomputable def ri(ta:TA):TI:=λσ H R=>ta σ H λvs H1=>∃j:Int,vs=[.int j]/\-(2^62)<=j/\j<2^62/\R (Itr 0 j.toNat) H1
def cw{a:Expr}{ta:TA}{p pos:Pos}(hg:Gl X "range")(hm:X.mg "range"=none)(ha:PA X [a] ta)(hs:starEach [a] X.env=[(false,eval a X.env)]:=by rfl):PI X tg (.Call (.Name "range" p) [a] [] pos) (ri ta):=by
 intro pins s σ H R I h;refine Call_ (gm I hg hm boot_range (DD (thn (ha pos pins s σ H _ I h) λus s1 ⟨vs,H1,I1,r1,q1⟩=>?_) hs rfl));obtain⟨j,e,q1,q2,q⟩:=q1;subst e
 cases r1 with
 | cons r rr =>
  cases rr;obtain⟨t,rfl⟩:=r;exact call_range_1 (tX I1 (by omega) (by omega) q1 q2 (by simpa using q))
noncomputable def Co(wi:TI)(g:TG)(tb:TS):TS:=λD σ H=>wi σ H λJ H1=>∃W:Nat->Nat->St->Hp->Prop,(∃m,W 0 m σ H1)/\∀i m σ H,W i m σ H ->
 (J.stop i H/\D.nx σ H)\/(J.go i H/\∃N:St->Hp->Prop,(∀σ' H',N σ' H'->∃m',m'<m/\W (i+1) m' σ' H')/\∀x H',J.yld i H x H'->g x σ H' λσ2 H2=>tb { D with nx:=N,ct:=N,bk:=D.nx } σ2 H2)
noncomputable def l0(fp:List Addr)(h:Heap):List (Addr×Obj):=fp.filterMap λb=>(h.get? b).map λo=>(b,o)
def fw{fp:List Addr}{h:Heap}{b:Addr}{o:Obj}(hb:b∈fp)(e:h.get? b=some o):(b,o)∈l0 fp h:=Fd.mpr ⟨b,hb,by rw [e];rfl⟩
def rj{fp:List Addr}{h:Heap}{p:Addr×Obj}(hp:p∈l0 fp h):p.1∈fp/\h.get? p.1=some p.2:=by
 obtain⟨b,hb,e⟩:=Fd.mp hp
 cases q:h.get? b with
 | none=>rw [q] at e;cases e
 | some o =>
  rw [q] at e;have e':(b,o)=p:=q_ e;subst e';exact⟨hb,q⟩
def Inv.pinned{pins:List (Addr×Obj)}{σ:St}{H:Hp}{s:cx}{fp:List Addr}(I:Inv X pins σ H s)(hf:∀b∈fp,qY X pins H b)(ho:∀b∈fp,∃o,s.heap.get? b=some o/\∀v,o.data≠.cell v):Inv X (pins++l0 fp s.heap) σ H s :=
 I.pins_of λp hp=>(DP.mp hp).elim (λz=>I.pin p (we _ z)) λz=>by
  obtain⟨hb,e⟩:=rj z;obtain⟨f0,f1,f2,_⟩:=hf p.1 hb;obtain⟨o,e',d⟩:=ho p.1 hb;rw [e] at e';cases e';exact⟨e,f0,f1,f2,d⟩
def Inv.unpinned{pins pl:List (Addr×Obj)}{σ:St}{H:Hp}{s:cx}(I:Inv X (pins++pl) σ H s):Inv X pins σ H s:=I.pins_of λp hp=>I.pin p (we _ (DG _ hp))
def dM{iter:Expr}{body:List Stmt}{wi:TI}{g:TG}{tb:TS}{pos:Pos}(hp:PassesOwn (model X.prog X.w) X.A X.env X.xe)(hc:X.calm=true)(hi:PI X tg iter wi)(hg:PG X tg g)(hb:PSs X body tb)
  (hs:∀x,foldedSetIterable iter X.env x=pure x:=by intro _;rfl):PS X (.For tg iter body [] pos) (Co wi g tb):=by
 intro pins s σ H D I h;refine wpAny_For (thn (hi pins s σ H _ I h) λv s1 h1=>thn h1 λitv s2 h2=>?_) hs;obtain⟨it,fp,tn,J,H2,e,I2,T,st2,f2,W,⟨m0,w0⟩,turn⟩:=h2;subst e
 -- what stays true of the iterator's objects through the loop
 have stat:∀{H':Hp},(∀b∈fp,H' b=none)->∀b∈fp,qY X pins H' b:=λhn b hb=>⟨hn b hb,(f2 b hb).2⟩
 refine codeAny_forLoop_any (λn s'=>∃i σ' H',Inv X pins σ' H' s'/\tn i s'.heap/\(∀b∈fp,H' b=none)/\W i n σ' H') ?_ m0 ⟨0,σ,H2,I2,st2,λb hb=>(f2 b hb).1,w0⟩;rintro n s3 ⟨i,σ3,H3,I3,st3,fr3,w3⟩
 rcases turn i n σ3 H3 w3 with ⟨stop,qn⟩|⟨go,N,hN,step⟩
 .refine Eh hp (thn (T.done X rfl rfl rfl hc i pins s3 σ3 H3 X.xe I3 (stat fr3) st3 stop) λr s4 ⟨hr,I4⟩=>?_);subst hr;exact Fm ⟨σ3,H3,I4,qn⟩
 .refine Eh hp (thn (T.item X rfl rfl rfl hc i pins s3 σ3 H3 X.xe I3 (stat fr3) st3 go) λr s4 ⟨u,hr,h4⟩=>?_);subst hr;refine Eh hp (thn h4 λ_ s5 ⟨x,H5,I5,r5,y5,st5,fr5⟩=>?_);have I5':=I5.pinned (stat fr5) (T.obj _ _ st5);refine Eh hp (thn (hg _ s5 σ3 H5 x u _ I5' r5 (step x H5 y5)) λ_ s6 ⟨σ6,H6,I6,q6⟩=>?_);refine Eh hp (thn (hb _ s6 σ6 H6 _ I6 q6) λf s7 q7=>?_)
  have again:∀{σ7:St}{H7:Hp},Inv X (pins++l0 fp s5.heap) σ7 H7 s7->N σ7 H7->∃m,m<n/\∃i σ' H',Inv X pins σ' H' s7/\tn i s7.heap/\(∀b∈fp,H' b=none)/\W i m σ' H':=λ{σ7 H7} I7 n7=>by
   obtain⟨m',hm,w7⟩:=hN σ7 H7 n7;refine⟨m',hm,i+1,σ7,H7,I7.unpinned,T.keep _ _ _ st5 λb hb o e=>(I7.pin (b,o) (we _ (we _ (fw hb e)))).1,λb hb=>?_,w7⟩;obtain⟨o,e,d⟩:=T.obj _ _ st5 b hb;exact (I7.pin (b,o) (we _ (we _ (fw hb e)))).2.1
  cases f with
  | next=>obtain⟨σ7,H7,I7,n7⟩:=q7;exact again I7 n7
  | cont=>obtain⟨σ7,H7,I7,n7⟩:=q7;exact again I7 n7
  | brk=>obtain⟨σ7,H7,I7,q7⟩:=q7;exact⟨σ7,H7,I7.unpinned,q7⟩
  | ret v=>obtain⟨x7,σ7,H7,I7,r7,q7⟩:=q7;exact⟨x7,σ7,H7,I7.unpinned,r7,q7⟩
end
abbrev R2:=V->V->Hp->VK->Prop
noncomputable def OpR(X:Cx)(f:Value->Value->Sem Value)(r:R2):Prop :=
 ∀(pins:List (Addr×Obj)) (s:cx) (σ:St) (H:Hp) (x y:V) (v u:Value) (Q:VK),Inv X pins σ H s->cF x v->cF y u->r x y H Q ->
  wpAny (model X.prog X.w) X.A (f v u) (EP X pins σ Q) X.xe s
noncomputable def UnR(X:Cx)(f:Value->Sem Value)(r:V->Hp->VK->Prop):Prop :=
 ∀(pins:List (Addr×Obj)) (s:cx) (σ:St) (H:Hp) (x:V) (v:Value) (Q:VK),Inv X pins σ H s->cF x v->r x H Q ->
  wpAny (model X.prog X.w) X.A (f v) (EP X pins σ Q) X.xe s
noncomputable def bx(X:Cx)(f:Value)(r:List V->Hp->VK->Prop):Prop :=
 ∀(pins:List (Addr×Obj)) (s:cx) (σ:St) (H:Hp) (xs:List V) (us:List Value) (Q:VK),Inv X pins σ H s->bB xs us->r xs H Q ->
  wpAny (model X.prog X.w) X.A (call f us) (EP X pins σ Q) X.xe s
noncomputable def C8(X:Cx)(r:V->Hp->(Bool->Hp->Prop)->Prop):Prop :=
 ∀(pins:List (Addr×Obj)) (s:cx) (σ:St) (H:Hp) (x:V) (v:Value) (Q:Bool->Hp->Prop),Inv X pins σ H s->cF x v->r x H Q ->
  wpAny (model X.prog X.w) X.A (truthy v) (TP X pins σ Q) X.xe s
noncomputable def tOp(r:R2)(ta tb:TE):TE:=λσ H Q=>ta σ H λx H1=>tb σ H1 λy H2=>r x y H2 Q
noncomputable def tUn(r:V->Hp->VK->Prop)(ta:TE):TE:=λσ H Q=>ta σ H λx H1=>r x H1 Q
noncomputable def rI(C:Int->Int->Prop)(g:Int->Int->V):R2:=λx y H Q=>∃i j,x=.int i/\y=.int j/\C i j/\Q (g i j) H
noncomputable def rI0(g:Int->Int->V):R2:=λx y H Q=>∃i j,x=.int i/\y=.int j/\Q (g i j) H
noncomputable def rU(g:Int->V):V->Hp->VK->Prop:=λx H Q=>∃i,x=.int i/\Q (g i) H
section
variable {X:Cx}{a b c:Expr}{ta tb tc:TE}{pos:Pos}
def Bf(ha:PE X a ta)(hb:PE X b tb){pins:List (Addr×Obj)}{s:cx}{σ:St}{H:Hp}{R:V->V->Hp->Prop}(I:Inv X pins σ H s)
  (h:ta σ H λx H1=>tb σ H1 λy H2=>R x y H2) {Q:Value->cx->Prop}{f:Value->Value->Sem Value}
  (hf:∀v u s2 x y H2,Inv X pins σ H2 s2->cF x v->cF y u->R x y H2->wpAny (model X.prog X.w) X.A (f v u) Q X.xe s2) :
  wpAny (model X.prog X.w) X.A (eval a X.env) (λv s₁=>wpAny (model X.prog X.w) X.A (eval b X.env) (λu s₂=>wpAny (model X.prog X.w) X.A (f v u) Q X.xe s₂) X.xe s₁) X.xe s:=by
 refine thn (ha pins s σ H _ I h) λv s1 ⟨x,H1,I1,r1,q1⟩=>?_;refine thn (hb pins s1 σ H1 _ I1 q1) λu s2 ⟨y,H2,I2,r2,q2⟩=>?_;exact hf v u s2 x y H2 I2 r1 r2 q2
def aR{op:Operator}{r:R2}(ho:OpR X (binaryOp op) r)(ha:PE X a ta)(hb:PE X b tb):PE X (.BinOp a op b pos) (tOp r ta tb):=by
 intro pins s σ H Q I h;exact wpAny_BinOp (Bf ha hb I h λv u s2 x y H2 I2 rx ry q=>ho pins s2 σ H2 x y v u Q I2 rx ry q)
def wp{op:UnaryOp}{r:V->Hp->VK->Prop}(ho:UnR X (unaryOp op) r)(ha:PE X a ta):PE X (.UnaryOp op a pos) (tUn r ta):=by
 intro pins s σ H Q I h;exact UnaryOp_ (thn (ha pins s σ H _ I h) λv s1 ⟨x,H1,I1,r1,q1⟩=>ho pins s1 σ H1 x v Q I1 r1 q1)
def opI{f:Value->Value->Sem Value}{C:Int->Int->Prop}{g:Int->Int->Int}
  (rule:∀(i j:Int) (t u:Tok) (s:cx) (Q:Value->cx->Prop) (E:Value->cx->Prop),C i j->Q (.int (g i j) s.toks) { s with toks:=s.toks+1 }->wpAny (model X.prog X.w) X.A (f (.int i t) (.int j u)) Q E s) :
  OpR X f (rI C λi j=>.int (g i j)):=by
 intro pins s σ H x y v u Q I rx ry h;obtain⟨i,j,rfl,rfl,hc,q⟩:=h;obtain⟨t,rfl⟩:=rx;obtain⟨t',rfl⟩:=ry;exact rule i j t t' s _ _ hc ⟨.int (g i j),H,I.tok _,⟨_,rfl⟩,q⟩
def A2{f:Value->Value->Sem Value}{g:Int->Int->Int}
  (rule:∀(i j:Int) (t u:Tok) (s:cx) (Q:Value->cx->Prop) (E:Value->cx->Prop),Q (.int (g i j) s.toks) { s with toks:=s.toks+1 }->wpAny (model X.prog X.w) X.A (f (.int i t) (.int j u)) Q E s) :
  OpR X f (rI0 λi j=>.int (g i j)):=by
 intro pins s σ H x y v u Q I rx ry h;obtain⟨i,j,rfl,rfl,q⟩:=h;obtain⟨t,rfl⟩:=rx;obtain⟨t',rfl⟩:=ry;exact rule i j t t' s _ _ ⟨.int (g i j),H,I.tok _,⟨_,rfl⟩,q⟩
def yd{f:Value->Value->Sem Value}{g:Int->Int->Bool}
  (rule:∀(i j:Int) (t u:Tok) (s:cx) (Q:Value->cx->Prop) (E:Value->cx->Prop),Q (.bool (g i j)) s->wpAny (model X.prog X.w) X.A (f (.int i t) (.int j u)) Q E s) :
  OpR X f (rI0 λi j=>.bl (g i j)):=by
 intro pins s σ H x y v u Q I rx ry h;obtain⟨i,j,rfl,rfl,q⟩:=h;obtain⟨t,rfl⟩:=rx;obtain⟨t',rfl⟩:=ry;exact rule i j t t' s _ _ ⟨.bl (g i j),H,I,rfl,q⟩
noncomputable def Bg(i j:Int):Prop:=0<j/\j<1073741824
noncomputable def yF(i j:Int):Prop:=0<=j/\j<=1000000/\i.natAbs<2^64
noncomputable def A3(i j:Int):Prop:=(-(2^64)<i/\i<2^64)\/(-(2^64)<j/\j<2^64)
def A3.ok{i j:Int}(h:A3 i j):IntMulOk i j:=by
 rcases h with ⟨h1,h2⟩|⟨h1,h2⟩
 .exact .of_left (intBits_le_64 h1 h2)
 .exact .of_right (intBits_le_64 h1 h2)
def qh(k:Nat):(0:Int)<=2^k:=by
 rw [two_pow_cast];exact natCast_nonneg _
def yG:OpR X (binaryOp .Add) (rI0 λi j=>.int (i+j)):=A2 λ_ _ _ _ _ _ _ q=>add_int q
def yH:OpR X (binaryOp .Sub) (rI0 λi j=>.int (i - j)):=A2 λ_ _ _ _ _ _ _ q=>sub_int q
def yI:OpR X (binaryOp .Mult) (rI A3 λi j=>.int (i*j)):=opI λ_ _ _ _ _ _ _ hc q=>mul_int q hc.ok
def wq:OpR X (binaryOp .FloorDiv) (rI Bg λi j=>.int (i / j)):=opI λi j _ _ _ _ _ hc q=>by
 have h1:(0:Int)<j:=hc.1;have h2:j<1073741824:=hc.2;exact floordiv_int (by omega) (by rw [fdiv_eq_ediv_of_nonneg i (by omega)];exact q) (.inl (Gf (by omega)))
def yJ:OpR X (binaryOp .Mod) (rI (λ_ j=>0<j) λi j=>.int (i % j)):=opI λi j _ _ _ _ _ hc q=>by
 have h1:(0:Int)<j:=hc;exact mod_int' (by omega) (by rw [fmod_eq_emod_of_nonneg i (by omega)];exact q)
def yK:OpR X (binaryOp .Pow) (rI yF λi j=>.int (i^j.toNat)):=opI λ_ _ _ _ _ _ _ hc q=>pow_int_small hc.1 hc.2.1 hc.2.2 q
def yL:OpR X (binaryOp .LShift) (rI yF λi j=>.int (i*2^j.toNat)):=opI λ_ _ _ _ _ _ _ hc q=>lshift_int_small hc.1 hc.2.1 hc.2.2 q
def yM:OpR X (binaryOp .RShift) (rI (λ_ j=>0<=j) λi j=>.int (i / 2^j.toNat)):=opI λi j _ _ _ _ _ hc q =>
 rshift_int hc (by rw [fdiv_eq_ediv_of_nonneg i (qh _)];exact q)
def yN:OpR X (binaryOp .BitAnd) (rI0 λi j=>.int (Er i j)):=A2 λ_ _ _ _ _ _ _ q=>and_int q
def wt:OpR X (inplaceOp .Add) (rI0 λi j=>.int (i+j)):=A2 λ_ _ _ _ _ _ _ q=>iadd_int q
def unI{f:Value->Sem Value}{g:Int->Int}
  (rule:∀(i:Int) (t:Tok) (s:cx) (Q:Value->cx->Prop) (E:Value->cx->Prop),Q (.int (g i) s.toks) { s with toks:=s.toks+1 }->wpAny (model X.prog X.w) X.A (f (.int i t)) Q E s) :
  UnR X f (rU λi=>.int (g i)):=by
 intro pins s σ H x v Q I rx h;obtain⟨i,rfl,q⟩:=h;obtain⟨t,rfl⟩:=rx;exact rule i t s _ _ ⟨.int (g i),H,I.tok _,⟨_,rfl⟩,q⟩
def rk:UnR X (unaryOp .USub) (rU λi=>.int (-i)):=unI λ_ _ _ _ _ q=>neg_int q
end
noncomputable def Cp:V->V->Bool
 | .non,.non=>true|.non,.int _=>true|.int _,.non=>true|.non,.bl _=>true|.bl _,.non=>true|.non,.str _=>true|.str _,.non=>true
 | .int _,.int _=>true|.bl _,.bl _=>true|.str _,.str _=>true|.byt _,.byt _=>true
 | .int _,.str _=>true|.str _,.int _=>true|.bl _,.str _=>true|.str _,.bl _=>true
 | _,_=>false
noncomputable def rEq:R2:=λx y H Q=>Cp x y=true/\Q (.bl (decide (x=y))) H
noncomputable def rNe:R2:=λx y H Q=>Cp x y=true/\Q (.bl (!decide (x=y))) H
def rm{i j:Int}:decide (V.int i=V.int j)=(i == j):=by
 rw [Fn];simp
def vq{i j:Bool}:decide (V.bl i=V.bl j)=(i == j):=by
 rw [Fn];simp
def rn{i j:Str}:decide (V.str i=V.str j)=(i == j):=by
 rw [Fn];simp
def ro{i j:Array UInt8}:decide (V.byt i=V.byt j)=(i.toList == j.toList):=by
 rw [Fn];cases i;cases j;simp
section
variable {X:Cx}{a b c:Expr}{ta tb tc:TE}{pos:Pos}
def aY{pins:List (Addr×Obj)}{σ:St}{H:Hp}{s:cx}{Q:VK}{k k':Bool}(I:Inv X pins σ H s)(q:Q (.bl k) H)(e:k=k'):EP X pins σ Q (.bool k') s:=by
 subst e;exact⟨.bl k,H,I,rfl,q⟩
def Bh:OpR X (compareOp .Eq) rEq:=by
 intro pins s σ H x y v u Q I rx ry h;obtain⟨hs,q⟩:=h
 cases x with
 | non =>
  cases rx
  cases y with
  | non=>cases ry;exact PySem.EqNone.eq_none_none (aY I q (by simp))
  | bl j=>cases ry;exact PySem.EqNone.eq_none_bool (aY I q (by simp))
  | int j=>obtain⟨t',rfl⟩:=ry;exact PySem.EqNone.eq_none_int (aY I q (by simp))
  | str j=>obtain⟨t',rfl⟩:=ry;exact PySem.EqNone.eq_none_str (aY I q (by simp))
  | _=>exact absurd (show false=true from hs) gV
 | bl i =>
  cases rx
  cases y with
  | non=>cases ry;exact PySem.EqNone.eq_bool_none (aY I q (by simp))
  | bl j=>cases ry;exact eq_bool (aY I q vq)
  | str j=>obtain⟨t',rfl⟩:=ry;exact PySem.EqMixed.eq_bool_str (aY I q (by simp))
  | _=>exact absurd (show false=true from hs) gV
 | int i =>
  obtain⟨t,rfl⟩:=rx
  cases y with
  | non=>cases ry;exact PySem.EqNone.eq_int_none (aY I q (by simp))
  | int j=>obtain⟨t',rfl⟩:=ry;exact eq_int (aY I q rm)
  | str j=>obtain⟨t',rfl⟩:=ry;exact PySem.EqMixed.eq_int_str (aY I q (by simp))
  | _=>exact absurd (show false=true from hs) gV
 | str i =>
  obtain⟨t,rfl⟩:=rx
  cases y with
  | non=>cases ry;exact PySem.EqNone.eq_str_none (aY I q (by simp))
  | bl j=>cases ry;exact PySem.EqMixed.eq_str_bool (aY I q (by simp))
  | int j=>obtain⟨t',rfl⟩:=ry;exact PySem.EqMixed.eq_str_int (aY I q (by simp))
  | str j=>obtain⟨t',rfl⟩:=ry;exact eq_str (aY I q rn)
  | _=>exact absurd (show false=true from hs) gV
 | byt i =>
  obtain⟨t,rfl⟩:=rx
  cases y with
  | byt j=>obtain⟨t',rfl⟩:=ry;exact PySem.W.eq_bytes (aY I q ro)
  | _=>exact absurd (show false=true from hs) gV
 | _=>cases y <;> exact absurd (show false=true from hs) gV
def Bi:OpR X (compareOp .NotEq) rNe:=by
 intro pins s σ H x y v u Q I rx ry h;obtain⟨hs,q⟩:=h
 cases x with
 | non =>
  cases rx
  cases y with
  | non=>cases ry;exact PySem.EqNone.ne_none_none (aY I q (by simp))
  | bl j=>cases ry;exact PySem.EqNone.ne_none_bool (aY I q (by simp))
  | int j=>obtain⟨t',rfl⟩:=ry;exact PySem.EqNone.ne_none_int (aY I q (by simp))
  | str j=>obtain⟨t',rfl⟩:=ry;exact PySem.EqNone.ne_none_str (aY I q (by simp))
  | _=>exact absurd (show false=true from hs) gV
 | bl i =>
  cases rx
  cases y with
  | non=>cases ry;exact PySem.EqNone.ne_bool_none (aY I q (by simp))
  | bl j=>cases ry;exact ne_bool (aY I q (congrArg not vq))
  | str j=>obtain⟨t',rfl⟩:=ry;exact PySem.EqMixed.ne_bool_str (aY I q (by simp))
  | _=>exact absurd (show false=true from hs) gV
 | int i =>
  obtain⟨t,rfl⟩:=rx
  cases y with
  | non=>cases ry;exact PySem.EqNone.ne_int_none (aY I q (by simp))
  | int j=>obtain⟨t',rfl⟩:=ry;exact ne_int (aY I q (congrArg not rm))
  | str j=>obtain⟨t',rfl⟩:=ry;exact PySem.EqMixed.ne_int_str (aY I q (by simp))
  | _=>exact absurd (show false=true from hs) gV
 | str i =>
  obtain⟨t,rfl⟩:=rx
  cases y with
  | non=>cases ry;exact PySem.EqNone.ne_str_none (aY I q (by simp))
  | bl j=>cases ry;exact PySem.EqMixed.ne_str_bool (aY I q (by simp))
  | int j=>obtain⟨t',rfl⟩:=ry;exact PySem.EqMixed.ne_str_int (aY I q (by simp))
  | str j=>obtain⟨t',rfl⟩:=ry;exact ne_str (aY I q (congrArg not rn))
  | _=>exact absurd (show false=true from hs) gV
 | byt i =>
  obtain⟨t,rfl⟩:=rx
  cases y with
  | byt j=>obtain⟨t',rfl⟩:=ry;exact PySem.W.ne_bytes (aY I q (congrArg not ro))
  | _=>exact absurd (show false=true from hs) gV
 | _=>cases y <;> exact absurd (show false=true from hs) gV
def Bj:OpR X (compareOp .Lt) (rI0 λi j=>.bl (decide (i<j))):=yd λ_ _ _ _ _ _ _ q=>lt_int q
def Bk:OpR X (compareOp .LtE) (rI0 λi j=>.bl (decide (i<=j))):=yd λ_ _ _ _ _ _ _ q=>le_int q
def Bl:OpR X (compareOp .Gt) (rI0 λi j=>.bl (decide (j<i))):=yd λ_ _ _ _ _ _ _ q=>gt_int q
def Bm:OpR X (compareOp .GtE) (rI0 λi j=>.bl (decide (j<=i))):=yd λ_ _ _ _ _ _ _ q=>ge_int q
def rp:OpR X (compareOp .Lt) (λx y H Q=>∃i j,x=.str i/\y=.str j/\Q (.bl (decide (i.cps.toList<j.cps.toList))) H):=by
 intro pins s σ H x y v u Q I rx ry h;obtain⟨i,j,rfl,rfl,q⟩:=h;obtain⟨t,rfl⟩:=rx;obtain⟨t',rfl⟩:=ry;exact lt_str (aY I q rfl)
def OpR.or{f:Value->Value->Sem Value}{r r':R2}(h:OpR X f r)(h':OpR X f r'):OpR X f (λx y H Q=>r x y H Q\/r' x y H Q):=by
 intro pins s σ H x y v u Q I rx ry q
 rcases q with q|q
 .exact h pins s σ H x y v u Q I rx ry q
 .exact h' pins s σ H x y v u Q I rx ry q
def a8(b:Expr){op:CmpOp}(h:op≠.In:=by decide)(h2:op≠.NotIn:=by decide):behindInMarks op b=false:=by
 have e1:(op == CmpOp.In)=false:=by cases op <;> first|rfl|exact absurd rfl h
 have e2:(op == CmpOp.NotIn)=false:=by cases op <;> first|rfl|exact absurd rfl h2
 cases b <;> simp [behindInMarks,e1,e2]
def i5{op:CmpOp}{r:R2}(ho:OpR X (compareOp op) r)(ha:PE X a ta)(hb:PE X b tb)(hm:behindInMarks op b=false):PE X (.Compare a [op] [b] pos) (tOp r ta tb):=by
 intro pins s σ H Q I h;exact wpAny_Compare1 (Bf ha hb I h λv u s2 x y H2 I2 rx ry q=>ho pins s2 σ H2 x y v u Q I2 rx ry q) hm
noncomputable def nG(t:TE):TT:=λσ H Q=>t σ H λx H'=>∃k,x=.bl k/\Q k H'
def aI{op:CmpOp}{r:R2}(ho:OpR X (compareOp op) r)(ha:PE X a ta)(hb:PE X b tb)(hm:behindInMarks op b=false):PT X (.Compare a [op] [b] pos) (nG (tOp r ta tb)):=by
 intro pins s σ H Q I h
 refine wpAny_isTrue_Compare1 (thn (ha pins s σ H _ I h) λv s1 ⟨x,H1,I1,r1,q1⟩=>thn (hb pins s1 σ H1 _ I1 q1) λu s2 ⟨y,H2,I2,r2,q2⟩ =>
  thn (ho pins s2 σ H2 x y v u _ I2 r1 r2 q2) λc s3 ⟨z,H3,I3,r3,k,e,q3⟩=>?_) hm
 subst e;cases r3;exact Dy ⟨H3,I3,q3⟩
noncomputable def pJ(r r':R2)(ta tb tc:TE):TE:=λσ H Q=>ta σ H λx H1=>tb σ H1 λy H2=>r x y H2 λz H3=>∃k,z=.bl k /\
 (if k=true then tc σ H3 λw' H4=>r' y w' H4 Q else Q (.bl false) H3)
def tY{op op':CmpOp}{r r':R2}(ho:OpR X (compareOp op) r)(ho':OpR X (compareOp op') r')(ha:PE X a ta)(hb:PE X b tb)(hc:PE X c tc)
  (hm:lastMarks [op,op'] [b,c]=false:=by with_unfolding_all rfl):PE X (.Compare a [op,op'] [b,c] pos) (pJ r r' ta tb tc):=by
 intro pins s σ H Q I h
 refine Compare_chain (thn (ha pins s σ H _ I h) λv s1 ⟨x,H1,I1,r1,q1⟩=>chain_link (thn (hb pins s1 σ H1 _ I1 q1) λu s2 ⟨y,H2,I2,r2,q2⟩ =>
  thn (ho pins s2 σ H2 x y v u _ I2 r1 r2 q2) λd s3 ⟨z,H3,I3,r3,k,e,q3⟩=>?_)) hm
 subst e;cases r3;refine Dy ?_
 cases k with
 | false=>exact ite_ff ⟨.bl false,H3,I3,rfl,q3⟩
 | true=>exact ite_tt (chain_last (thn (hc pins s3 σ H3 _ I3 q3) λw' s4 ⟨z',H4,I4,r4,q4⟩=>ho' pins s4 σ H4 y z' u w' Q I4 r2 r4 q4))
def tZ{op op':CmpOp}{r r':R2}(ho:OpR X (compareOp op) r)(ho':OpR X (compareOp op') r')(ha:PE X a ta)(hb:PE X b tb)(hc:PE X c tc)
  (hm:lastMarks [op,op'] [b,c]=false:=by with_unfolding_all rfl):PT X (.Compare a [op,op'] [b,c] pos) (nG (pJ r r' ta tb tc)):=by
 intro pins s σ H Q I h
 refine isTrue_chain (thn (ha pins s σ H _ I h) λv s1 ⟨x,H1,I1,r1,q1⟩=>test_link (thn (hb pins s1 σ H1 _ I1 q1) λu s2 ⟨y,H2,I2,r2,q2⟩ =>
  thn (ho pins s2 σ H2 x y v u _ I2 r1 r2 q2) λd s3 ⟨z,H3,I3,r3,k,e,q3⟩=>?_)) hm
 subst e;cases r3;refine Dy ?_
 cases k with
 | false =>
  obtain⟨k',e',q'⟩:=q3;cases e';exact ite_ff ⟨H3,I3,q'⟩
 | true =>
  refine ite_tt (test_last (thn (hc pins s3 σ H3 _ I3 q3) λw' s4 ⟨z',H4,I4,r4,q4⟩=>thn (ho' pins s4 σ H4 y z' u w' _ I4 r2 r4 q4) λd' s5 ⟨z2,H5,I5,r5,k2,e2,q5⟩=>?_));subst e2;cases r5;exact Dy ⟨H5,I5,q5⟩
noncomputable def A4(K:a_)(x:V)(H:Hp)(k:Bool):Prop :=
 match x with
 | .non=>k=false
 | .bl b=>k=b
 | .int i=>k=(i != 0)
 | .str y=>y.length<=sizeLine/\k=((y.length:Int) != 0)
 | .byt y=>y.size<=sizeLine/\k=((y.size:Int) != 0)
 | .ref p=>(∃xs,SqL K H p xs/\k=!xs.isEmpty)\/(∃xs,SqT K H p xs/\k=!xs.isEmpty)\/∃kvs,H p=some (.dK kvs)/\k=!kvs.isEmpty
 | _=>False
def qi{κ:Type}{kvs:List (κ×V)}{vs:List (κ×Value)}(r:KV kvs vs):(!vs.isEmpty)=!kvs.isEmpty:=by
 cases r <;> rfl
def kj{xs:List V}{its:List Value}(r:bB xs its):(!its.toArray.isEmpty)=!xs.isEmpty:=by
 cases r <;> simp
def kl:(sizeLine:Nat)<2^63:=by rw [EU];decide
def vt:C8 X (λx H Q=>∃k,A4 X.K x H k/\Q k H):=by
 intro pins s σ H x v Q I rx h;obtain⟨k,e,q⟩:=h;have hl:=kl;have hs:sizeLine=16777216:=EU
 cases x with
 | non =>
  cases rx;have e':k=false:=e;subst e';exact truthy_none ⟨H,I,q⟩
 | bl b =>
  cases rx;have e':k=b:=e;subst e';exact Dy ⟨H,I,q⟩
 | int i =>
  obtain⟨t,rfl⟩:=rx;have e':k=(i != 0):=e;subst e';exact PySem.P.truthy_int ⟨H,I,q⟩
 | str y =>
  obtain⟨t,rfl⟩:=rx;obtain⟨hy,e'⟩:y.length<=sizeLine/\k=((y.length:Int) != 0):=e;subst e';exact PySem.P.truthy_str (by omega) ⟨H,I.tok _,q⟩
 | byt y =>
  obtain⟨t,rfl⟩:=rx;obtain⟨hy,e'⟩:y.size<=sizeLine/\k=((y.size:Int) != 0):=e;subst e';exact PySem.W.truthy_bytes (by omega) ⟨H,I.tok _,q⟩
 | ref p =>
  cases rx;have e':(∃xs,SqL X.K H p xs/\k=!xs.isEmpty)\/(∃xs,SqT X.K H p xs/\k=!xs.isEmpty)\/∃kvs,H p=some (.dK kvs)/\k=!kvs.isEmpty:=e
  rcases e' with ⟨xs,hx,e'⟩|⟨xs,hx,e'⟩|⟨kvs,hx,e'⟩
  .subst e';obtain⟨its,r,pl,hz⟩:=I.list hx;have hlen:=r.length;exact wpAny_truthy_list pl.isList (by simp only [p_];omega) ⟨H,I.tok _,by rw [kj r];exact q⟩
  .subst e';obtain⟨its,r,pl,hz⟩:=I.tuple hx;have hlen:=r.length;exact truthy_tuple pl (by simp only [p_];omega) ⟨H,I.tok _,by rw [kj r];exact q⟩
  .subst e';obtain⟨hz,hS,vs,r,m⟩:kvs.length<=sizeLine/\(p == sysModules)=false/\∃vs,KV kvs vs/\s.heap.DictOf (kT X.prog X.w) p vs:=I.hok p _ hx;have hlen:kvs.length=vs.length:=Paired.length r;exact wpAny_truthy_dict hS m (by omega) ⟨H,I.tok _,by rw [qi r];exact q⟩
 | _=>exact (show False from e).elim
def t7(ha:PE X a ta)(he:∀whole,isTrue a X.env whole=(do let v <- whole;standAt a.pos;holding [v] (truthy v))) :
  PT X a (λσ H Q=>ta σ H λx H'=>∃k,A4 X.K x H' k/\Q k H'):=by
 intro pins s σ H Q I h;exact isTrue_plain (thn (ha pins s σ H _ I h) λv s1 ⟨x,H1,I1,r1,q1⟩=>vt pins s1 σ H1 x v Q I1 r1 q1) (he _)
def qj:OpR X (binaryOp .Add) (λx y H Q=>∃i j,x=.str i/\y=.str j/\i.length+j.length<=sizeLine/\Q (.str (i++j)) H):=by
 intro pins s σ H x y v u Q I rx ry h;obtain⟨i,j,rfl,rfl,hz,q⟩:=h;obtain⟨t,rfl⟩:=rx;obtain⟨t',rfl⟩:=ry;exact add_str (λt' tk=>⟨.str (i++j),H,I.tok _,⟨_,rfl⟩,q⟩) hz
def gn{x:V}{us:List Value}(r:bB [x] us):∃u,us=[u]/\cF x u:=by
 cases r with
 | cons r1 r2=>cases r2;exact⟨_,rfl,r1⟩
def t9{x y:V}{us:List Value}(r:bB [x,y] us):∃u w',us=[u,w']/\cF x u/\cF y w':=by
 cases r with
 | cons r1 r2 =>
  cases r2 with
  | cons r3 r4=>cases r4;exact⟨_,_,rfl,r1,r3⟩
def ua:bx X (.builtin "abs") (λxs H Q=>∃i,xs=[.int i]/\Q (.int (if i<0 then -i else i)) H):=by
 intro pins s σ H xs us Q I r h;obtain⟨i,rfl,q⟩:=h;obtain⟨u,rfl,t,rfl⟩:=gn r;exact call_abs_int λu tk=>⟨.int (if i<0 then -i else i),H,I.tok _,⟨_,rfl⟩,q⟩
def rq(hc:X.calm=true):bx X (.builtin "min") (λxs H Q=>∃i j,xs=[.int i,.int j]/\Q (.int (if j<i then j else i)) H):=by
 intro pins s σ H xs us Q I r h;obtain⟨i,j,rfl,q⟩:=h;obtain⟨u,w',rfl,⟨t,rfl⟩,⟨t',rfl⟩⟩:=t9 r;refine min_two_ints (I.ok.hd hc) λh' tk k=>⟨_,H,I.kept k,?_,q⟩
 by_cases hj:j<i
 .rw [if_pos hj,if_pos hj];exact⟨_,rfl⟩
 .rw [if_neg hj,if_neg hj];exact⟨_,rfl⟩
end
structure wu (h:Heap) (x dx C:Addr) (mA:Str->Option Value):Prop where
 obj:h.get? x=some (D7 C dx)
 ns:h.Ns1 dx mA
 ne:dx≠x
def rz{h:Heap}{dx:Addr}{mA:Str->Option Value}(n:h.Ns1 dx mA):∃od,h.get? dx=some od/\∀name,FD name od=some (mA name):=by
 obtain⟨o,es,ep,ho,hd,hk,_,hm⟩:=n;refine⟨o,ho,λname=>?_⟩;have e:=hm name;unfold nsFind findBy at e;rw [<- Array.find?_toList] at e;unfold FD;rw [hd];dsimp only
 split
 .rename_i y q;rw [q] at e;exact congrArg some e
 .rename_i q;rw [q] at e
  have a:es.toList.any (·.refKey)=false:=by
   rw [any_eq_false];intro y hy;obtain⟨z,t,hkey⟩:=hk y (Array.mem_toList_iff.mp hy);simp [DictEntry.refKey,hkey]
  have a':¬ es.toList.any (·.refKey)=true:=by rw [a];exact gV
  rw [if_neg a'];exact congrArg some e
def wu.look{h:Heap}{x dx C:Addr}{mA:Str->Option Value}(I:wu h x dx C mA):∃od,PySem.W.InstAt h x (D7 C dx) C (some od)/\∀name,FD name od=some (mA name) :=
 let ⟨od,ho,hl⟩:=rz I.ns
 ⟨od,⟨I.obj,rfl,rfl,ho⟩,hl⟩
section
variable {prog:n_}{w:World}{A:t_}{E:Value->cx->Prop}{s:cx}{K:a_}{x dx C f:Addr}{mA:Str->Option Value}{name:Str}{v:Value}
def wv{expr:Bool}{Q:Value->cx->Prop}(X:K.In s.heap)(I:wu s.heap x dx C mA)(hg:EH K C name=true)(hh:E4 K C=true)
  (ha:i_ K (.ref C) name=some none) (hv:mA name=some v) (hv':PySem.W.handedIn v=true) (h:Q v { s with toks:=s.toks+1 }) :
  wpAny (model prog w) A (getAttr (.ref x) name expr) Q E s:=by
 obtain⟨od,J,hl⟩:=I.look;exact PySem.W.get_value X J (Fq hg).1 (PySem.W.findObj_own hh ha rfl (by rw [hl,hv])) hv' h
def ub{pl:Sem Bool}{Q:Value×List Value->cx->Prop}(X:K.In s.heap)(I:wu s.heap x dx C mA)(hg:EH K C name=true)
  (hf:i_ K (.ref C) name=some (some (.ref f))) (ht:Fu K (.ref f)=true) (hv:mA name=none) (h:Q (.ref f,[.ref x]) s) :
  wpAny (model prog w) A (getMethod (.ref x) name pl) Q E s:=by
 obtain⟨od,J,hl⟩:=I.look;exact PySem.W.method_fn X J (Fq hg).1 (Fq hg).2 hf (beq_iff_eq.mp ht) (by show (FD name od).map (·.isSome)=some false;rw [hl,hv];rfl) h
def ww{ns:List Str}{Q:Unit->cx->Prop}(X:K.In s.heap)(I:wu s.heap x dx C mA)
  (hs:i_ K (.ref C) "__setattr__"=some (some (.builtin "object.__setattr__"))) (hp:FX K C=true) (ht:Gq K C name=some none) (hh:E4 K C=true)
  (hw:GL mA ns) (hsz:ns.length<=sizeLine)
  (h:∀h',wu h' x dx C (λy=>if y=name then some v else mA y)->E3 dx s.heap h'->Q () { s with heap:=h',toks:=s.toks+2 }) :
  wpAny (model prog w) A (setAttr (.ref x) name v) Q E s:=by
 obtain⟨od,J,hl⟩:=I.look;refine PySem.W.set_plain X J hs (PySem.W.osa_open (s:={ s with toks:=s.toks+1 }) (r:=none) X J hp ht λb=>?_);obtain⟨cd,hc,hd'⟩:=PySem.W.any_some hh;have hx:s.heap.get? x=some ⟨.ref C,some dx,.plain,#[]⟩:=I.obj;refine b_ (e_ (b_ (b_ (wpAny_loadPart hx (b_ (PySem.W.Looks.here (s:={ s with toks:=s.toks+1 }) (PySem.W.looks_clsIn X hc) ?_))))))
 rw [hd'];refine e_ (a:=some dx) (b_ (e_ (b_ ?_)));refine wpAny_nsSet1 (s:={ s with toks:=s.toks+1 }) I.ns λh' hn2 hs2=>?_;obtain⟨oD,esD,epD,hoD,hdD,hcD⟩:=hn2.count (PySem.Within.cons name v hw);refine b_ (wpAny_lookBehind hoD (by rw [hdD];exact pastItsLine_dict (r_ hcD (by rw [length_cons];omega))) ?_);exact e_ (h _ ⟨(hs2.2 _ (EA I.ne)).trans I.obj,hn2,I.ne⟩ hs2)
def uc{R:Result->cx->Prop}{vs:List Value}{kw:List (Str×Value)}(X:K.In s.heap)(hm:Gs K C=true)
  (hi:i_ K (.ref C) "__init__"=some (some (.ref f))) (hf:GB K (.ref f)=some (.type "function"))
  (h:codeAny (model prog w) (A.under (.builtin "type.__call__" ⟨.ref C::vs,kw⟩)) (.call (.ref f) ⟨.ref (s.heap.objs.size+1)::vs,kw⟩) (PySem.W.InitBack (s.heap.objs.size+1) R)
   { s with heap:=(s.heap.push DL).push (D7 C s.heap.objs.size) }) :
  codeAny (model prog w) A (.call (.ref C) ⟨vs,kw⟩) R s:=by
 obtain⟨hh,g,d,t,os⟩:=s;exact PySem.W.make_core (PySem.W.makes_of X hm) (PySem.W.looks_findIn X hi) (λself=>PySem.W.bind_fn X self hf) (.inl rfl) h
end
noncomputable def km(f:Str)(v:V):List (Str×V)->List (Str×V)
 | []=>[(f,v)]
 | (g,x)::r=>if g=f then (g,v)::r else (g,x)::km f v r
theorem i6(f g:Str)(v:V):∀fs:List (Str×V),(km f v fs).lookup g=if g=f then some v else fs.lookup g
 | []=>by
  show ED g [(f,v)]=_
  by_cases h:g=f
  .have hb:(g == f)=true:=beq_iff_eq.mpr h;simp only [ED,hb,if_pos h]
  .have hb:(g == f)=false:=beq_eq_false_iff_ne.mpr h;simp only [ED,hb,if_neg h]
 | (k,x)::r=>by
  have ih:=i6 f g v r;rw [show km f v ((k,x)::r)=(if k=f then (k,v)::r else (k,x)::km f v r) from rfl]
  by_cases hk:k=f
  .rw [if_pos hk]
   by_cases h:g=k
   .have hb:(g == k)=true:=beq_iff_eq.mpr h;simp only [ED,hb,if_pos (h.trans hk)]
   .have hb:(g == k)=false:=beq_eq_false_iff_ne.mpr h;simp only [ED,hb,if_neg (λe:g=f=>h (e.trans hk.symm))]
  .rw [if_neg hk]
   by_cases h:g=k
   .have hb:(g == k)=true:=beq_iff_eq.mpr h;simp only [ED,hb,if_neg (λe:g=f=>hk (h.symm.trans e))]
   .have hb:(g == k)=false:=beq_eq_false_iff_ne.mpr h;simp only [ED,hb];exact ih
theorem i8(f:Str)(v:V):∀fs:List (Str×V),f∈(km f v fs).map (·.1)/\∀g,g∈fs.map (·.1)->g∈(km f v fs).map (·.1)
 | []=>⟨by simp [km],λg h=>by simp at h⟩
 | (k,x)::r=>by
  obtain⟨i1,i2⟩:=i8 f v r;rw [show km f v ((k,x)::r)=(if k=f then (k,v)::r else (k,x)::km f v r) from rfl]
  by_cases hk:k=f
  .rw [if_pos hk];subst hk;exact⟨by simp,λg h=>by simpa using h⟩
  .rw [if_neg hk]
   refine⟨?_,λg h=>?_⟩
   .rw [map_cons];exact o_ _ i1
   .rw [map_cons] at h ⊢
    rcases C_.mp h with e|e
    .exact C_.mpr (.inl e)
    .exact o_ _ (i2 g e)
theorem i9(f:Str)(v:V):∀fs:List (Str×V),(km f v fs).length<=fs.length+1
 | []=>by simp [km]
 | (k,x)::r=>by
  have ih:=i9 f v r;rw [show km f v ((k,x)::r)=(if k=f then (k,v)::r else (k,x)::km f v r) from rfl]
  by_cases hk:k=f
  .rw [if_pos hk,length_cons,length_cons];omega
  .rw [if_neg hk,length_cons,length_cons];omega
def tQ.some_of{v:V}{o:Option Value}(r:tQ (some v) o):∃u,o=some u/\cF v u:=by
 cases o with
 | none=>exact (show False from r).elim
 | some u=>exact⟨u,rfl,r⟩
def tQ.none_of{o:Option Value}(r:tQ none o):o=none:=by
 cases o with
 | none=>rfl
 | some u=>exact (show False from r).elim
def rA{v:V}{u:Value}(r:cF v u):PySem.W.handedIn u=true:=by
 cases v with
 | non=>cases (show u=Et from r);rfl
 | bl b=>cases (show u=Ej b from r);rfl
 | int i=>obtain⟨t,e⟩:=(show ∃t,u=F_ i t from r);cases e;rfl
 | str x=>obtain⟨t,e⟩:=(show ∃t,u=E_ x t from r);cases e;rfl
 | byt b=>obtain⟨t,e⟩:=(show ∃t,u=Value.bytes b t from r);cases e;rfl
 | flt b=>obtain⟨t,e⟩:=(show ∃t,u=Value.float b t from r);cases e;rfl
 | ref a=>cases (show u=x_ a from r);rfl
 | ty n=>cases (show u=Value.type n from r);rfl
section
variable {P:n_}{w:World}{H H':Hp}{h h':Heap}{a C dx:Addr}{fs fs':List (Str×V)}
def kW(hok:HOk P w H h)(e:H a=some (.ins C dx fs)):∃mA,wu h a dx C mA/\(∀f,tQ (fs.lookup f) (mA f))/\GL mA (fs.map (·.1))/\fs.length<=1000/\H dx=some (.own a):=by
 obtain⟨d,z,ne,ob,mA,n,r,q⟩:=(show bC P w H h a (.ins C dx fs) from hok a _ e)
 exact⟨mA,⟨ob,n,ne⟩,r,q,z,d⟩
end
structure Cls (K:a_) (C:Addr):Prop where
 pg:EH K C Str.empty=true
 hd:E4 K C=true
 po:FX K C=true
 sa:i_ K (.ref C) "__setattr__"=some (some (.builtin "object.__setattr__"))
def Cls.get{K:a_}{C:Addr}(c:Cls K C)(f:Str):EH K C f=true:=c.pg
noncomputable def dq(K:a_)(C:Addr)(f:Str):Prop:=i_ K (.ref C) f=some none
def dq.taker{K:a_}{C:Addr}{f:Str}(n:dq K C f):Gq K C f=some none:=by
 unfold Gq;rw [show i_ K (.ref C) f=some none from n];rfl
structure A5 (K:a_) (C:Addr) (m:Str) (f:Addr):Prop where
 at_:i_ K (.ref C) m=some (some (.ref f))
 fn:Fu K (.ref f)=true
 kp:s_ K (.ref f)=true
section
variable {X:Cx}{pins:List (Addr×Obj)}{σ:St}{H:Hp}{s:cx}{a C dx:Addr}{fs:List (Str×V)}{f:Str}{v:V}{A:t_}{E:Value->cx->Prop}
def qk{b:Bool}{Q:Value->cx->Prop}(I:Inv X pins σ H s)(e:H a=some (.ins C dx fs))(c:Cls X.K C)(n:dq X.K C f)(l:fs.lookup f=some v)
  (h:∀u s',Inv X pins σ H s'->cF v u->Q u s'):wpAny (model X.prog X.w) A (getAttr (.ref a) f b) Q E s:=by
 obtain⟨mA,O,r,_,_,_⟩:=kW I.hok e;obtain⟨u,hu,ru⟩:=tQ.some_of (v:=v) (o:=mA f) (by rw [<- l];exact r f);exact wv I.kIn O (c.get f) c.hd n hu (rA ru) (h u _ (I.tok _) ru)
def ql{m:Str}{g:Addr}{pl:Sem Bool}{Q:Value×List Value->cx->Prop}(I:Inv X pins σ H s)(e:H a=some (.ins C dx fs))(c:Cls X.K C)(k:A5 X.K C m g)(l:fs.lookup m=none)
  (h:Q (.ref g,[.ref a]) s):wpAny (model X.prog X.w) A (getMethod (.ref a) m pl) Q E s:=by
 obtain⟨mA,O,r,_,_,_⟩:=kW I.hok e;have hn:mA m=none:=tQ.none_of (by rw [<- l];exact r m);exact ub I.kIn O (c.get m) k.at_ k.fn hn h
def qm{y:V}{u:Value}{Q:Unit->cx->Prop}(I:Inv X pins σ H s)(e:H a=some (.ins C dx fs))(c:Cls X.K C)(n:dq X.K C f)(hl:fs.length<1000)(ry:cF y u)
  (h:∀s',Inv X pins σ (upd H a (.ins C dx (km f y fs))) s'->Q () s'):wpAny (model X.prog X.w) A (setAttr (.ref a) f u) Q E s:=by
 obtain⟨mA,O,r,wi,_,ho⟩:=kW I.hok e;have hz:(fs.map (·.1)).length<=sizeLine:=by rw [length_map,EU];omega
 refine ww I.kIn O c.sa c.po n.taker c.hd wi hz λh' O' sb=>h _ ?_;have hd:∃o,h'.get? dx=some o:=let ⟨o,_,_,e',_⟩:=O'.ns;⟨o,e'⟩
 refine I.write (x:=a) (e:=dx) (by rw [e];exact Fb) (.inr ho) (λb q hb z=>(sb.2 b hb).trans z) hd ?_
 refine⟨by rw [ax O.ne];exact ho,?_,O.ne,O'.obj,_,O'.ns,λg=>?_,λg hg=>?_⟩
 .have:=i9 f y fs;omega
 .show tQ ((km f y fs).lookup g) (if g=f then some u else mA g);rw [i6]
  by_cases q:g=f
  .rw [if_pos q,if_pos q];exact ry
  .rw [if_neg q,if_neg q];exact r g
 .by_cases q:g=f
  .rw [q];exact (i8 f y fs).1
  .refine (i8 f y fs).2 g (wi g λz=>hg ?_);show (if g=f then some u else mA g)=none;rw [if_neg q];exact z
def Inv.made(I:Inv X pins σ H s):Inv X pins σ (upd (upd H s.heap.objs.size (.own (s.heap.objs.size+1))) (s.heap.objs.size+1) (.ins C s.heap.objs.size []))
  { s with heap:=(s.heap.push DL).push (D7 C s.heap.objs.size) }:=by
 have e1:(s.heap.push DL).get? s.heap.objs.size=some DL:=f_ s.heap rfl
 have e2:((s.heap.push DL).push (D7 C s.heap.objs.size)).get? (s.heap.objs.size+1)=some (D7 C s.heap.objs.size):=by
  have:=f_ (s.heap.push DL) (o:=D7 C s.heap.objs.size) rfl
  rwa [DA] at this
 have e3:(s.heap.push DL).Ns s.heap.objs.size (λ_=>none):=⟨DL,#[],_,e1,rfl,(λe he=>absurd he (by simp)),λ_=>rfl⟩
 have I1:=I.laid (a:=s.heap.objs.size) (o:=.own (s.heap.objs.size+1)) (h':=s.heap.push DL) (t':=s.toks) (λb u q=>cn _ q) (l_ _) ⟨_,e1⟩;refine I1.laid (a:=s.heap.objs.size+1) (o:=.ins C s.heap.objs.size []) (t':=s.toks) (λb u q=>cn _ q) (Ga (DA _ _)) ?_;have ne:s.heap.objs.size≠s.heap.objs.size+1:=DC (E5 _)
 refine⟨by rw [ax ne,aG],EI _,ne,e2,λ_=>none,(Heap.Ns1.of_empty e3).at λo q=>cn _ q,λ_=>Fb,λy hy=>absurd rfl hy⟩
def wx{prog:n_}{w:World}{env:Env}{e:Expr}{f:Str}{pos:Pos}{s:cx}{Q:Value->cx->Prop}(hb:attributeBase e f env (eval e env)=eval e env)
  (h:wpAny (model prog w) A (eval e env) (λo s₁=>wpAny (model prog w) A (getAttr o f true) Q E s₁) E s):wpAny (model prog w) A (eval (.Attribute e f pos) env) Q E s :=
 Attribute_any_ h (by rw [arm_eval_Attribute,hb])
end
noncomputable def tR(K:a_)(ta:TE)(f:Str):TE:=λσ H Q=>ta σ H λx H1=>∃a C dx fs v,x=.ref a/\H1 a=some (.ins C dx fs)/\Cls K C/\dq K C f/\fs.lookup f=some v/\Q v H1
noncomputable def Cq(K:a_)(ta tv:TE)(f:Str):TS:=λD σ H=>tv σ H λy H1=>ta σ H1 λx H2=>∃a C dx fs,x=.ref a/\H2 a=some (.ins C dx fs)/\Cls K C/\dq K C f/\fs.length<1000 /\
 D.nx σ (upd H2 a (.ins C dx (km f y fs)))
section
variable {X:Cx}{o e value:Expr}{f:Str}{pos pos' tpos:Pos}{ta tv:TE}
def yO(he:PE X e ta)(hb:attributeBase e f X.env (eval e X.env)=eval e X.env):PE X (.Attribute e f pos) (tR X.K ta f):=by
 intro pins s σ H Q I h;refine wx hb (thn (he pins s σ H _ I h) λu s1 ⟨x,H1,I1,rx,a,C,dx,fs,v,ex,ea,c,n,l,q⟩=>?_);subst ex;obtain rfl:u=x_ a:=rx;exact qk I1 ea c n l λu' s2 I2 ru=>⟨v,H1,I2,ru,q⟩
def ko(ha:PE X o ta)(hv:PE X value tv)(hs:swapsWith value (some (.Attribute o f pos')) pos.line X.env=pure false):PS X (.Assign [.Attribute o f pos'] value pos) (Cq X.K ta tv f):=by
 intro pins s σ H D I h;refine plainObj_wpAny_Assign_Attribute (thn (hv pins s σ H _ I h) λu s1 ⟨y,H1,I1,ry,q⟩=>thn (ha pins s1 σ H1 _ I1 q) λov s2 ⟨x,H2,I2,rx,a,C,dx,fs,ex,ea,c,n,l,q2⟩=>?_) hs;subst ex;obtain rfl:ov=x_ a:=rx;exact qm I2 ea c n l ry λs3 I3=>⟨σ,_,I3,q2⟩
end
section
variable {X:Cx}{pins:List (Addr×Obj)}{σ:St}{H:Hp}{s:cx}{A:t_}{E:Value->cx->Prop}{Q:Value->cx->Prop}{c:Value}{b:Bool}
inductive nH (K:a_) (H:Hp):V->Value->Prop where
 | non:nH K H .non (.type "NoneType")
 | bl (x:Bool):nH K H (.bl x) (.type "bool")
 | int (i:Int):nH K H (.int i) (.type "int")
 | str (x:Str):nH K H (.str x) (.type "str")
 | flt (x:UInt64):nH K H (.flt x) (.type "float")
 | lst {a:Addr}{xs:List V} (e:H a=some (.lst xs)):nH K H (.ref a) (.type "list")
 | frz {a:Addr}{o:Obj}{xs:List V} (e:H a=some (.frz o (.lst xs))):nH K H (.ref a) (.type "list")
 | tup {a:Addr}{xs:List V} (e:H a=some (.tup xs)):nH K H (.ref a) (.type "tuple")
 | dK {a:Addr}{kvs:List (Key×V)} (e:H a=some (.dK kvs)):nH K H (.ref a) (.type "dict")
 | dT {a:Addr}{kvs:List (List Key×V)} (e:H a=some (.dT kvs)):nH K H (.ref a) (.type "dict")
 | ins {a C dx:Addr}{fs:List (Str×V)} (e:H a=some (.ins C dx fs)) (cl:Cls K C) (ha:i_ K (.ref C) "__class__"=some (some (.builtin "object.__class__")))
   (hn:PySem.W.specialIn K (.builtin "object.__class__") "__get__"=some (some (.builtin "getset_descriptor.__get__"))) (htk:PySem.W.takesIn K (.builtin "object.__class__")=some true)
   (hm:PySem.W.mroIn K C (.type "object")=some true):nH K H (.ref a) (.ref C)
def rB{x:V}{u t:Value}(I:Inv X pins σ H s)(rx:cF x u)(ty:nH X.K H x t)(e:FE X.K t c=some b)(h:∀tk,Q (.bool b) { s with toks:=tk }) :
  wpAny (model X.prog X.w) A (call (.builtin "isinstance") [u,c]) Q E s:=by
 cases ty with
 | non=>cases (show u=Et from rx);exact DH PySem.W.kitx_none I.kIn Fb e (λz=>nomatch z) h
 | bl y=>cases (show u=Ej y from rx);exact DH PySem.W.kitx_bool I.kIn Fb e (λz=>nomatch z) h
 | int i=>obtain⟨t,q⟩:=(show ∃t,u=F_ i t from rx);cases q;exact DH PySem.W.kitx_int I.kIn Fb e (λz=>nomatch z) h
 | str y=>obtain⟨t,q⟩:=(show ∃t,u=E_ y t from rx);cases q;exact DH PySem.W.kitx_str I.kIn Fb e (λz=>nomatch z) h
 | flt y=>obtain⟨t,q⟩:=(show ∃t,u=Value.float y t from rx);cases q;exact DH PySem.W.kitx_float I.kIn Fb e (λz=>nomatch z) h
 | @lst a xs ea =>
  cases (show u=x_ a from rx);obtain⟨_,_,n,_,h1⟩:=(show bC X.prog X.w H s.heap a (.lst xs) from I.hok a _ ea)
  exact DH PySem.W.kitx_list I.kIn ⟨_,h1,rfl⟩ e (λz=>nomatch z) h
 | @frz a ob xs ea =>
  cases (show u=x_ a from rx);obtain⟨_,_,_,n,_,h1⟩:=(show bC X.prog X.w H s.heap a (.frz ob (.lst xs)) from I.hok a _ ea)
  exact DH PySem.W.kitx_list I.kIn ⟨_,h1,rfl⟩ e (λz=>nomatch z) h
 | @tup a xs ea =>
  cases (show u=x_ a from rx);obtain⟨_,_,_,p⟩:=(show bC X.prog X.w H s.heap a (.tup xs) from I.hok a _ ea)
  obtain⟨o,h1,h2,_⟩:=p;exact DH PySem.W.kitx_tuple I.kIn ⟨o,h1,h2⟩ e (λz=>nomatch z) h
 | @dK a kvs ea =>
  cases (show u=x_ a from rx);obtain⟨_,_,vs,_,p⟩:=(show bC X.prog X.w H s.heap a (.dK kvs) from I.hok a _ ea)
  obtain⟨o,es,ep,h1,h2,_⟩:=p;exact DH PySem.W.kitx_dict I.kIn ⟨o,h1,h2.1⟩ e (λz=>nomatch z) h
 | @dT a kvs ea =>
  cases (show u=x_ a from rx);obtain⟨_,_,xs,_,o,es,ep,h1,h2,_⟩:=(show bC X.prog X.w H s.heap a (.dT kvs) from I.hok a _ ea)
  exact DH PySem.W.kitx_dict I.kIn ⟨o,h1,h2.1⟩ e (λz=>nomatch z) h
 | @ins a C dx fs ea cl ha hn htk hm =>
  cases (show u=x_ a from rx);obtain⟨mA,O,_⟩:=kW I.hok ea;obtain⟨od,J,_⟩:=O.look;exact DH (PySem.W.kitx_own (cl.get _) cl.hd ha hn htk hm) I.kIn J e (λz=>nomatch z) h
end
structure cQ (k:Nat) (A:t_):Prop where
 hd:A.handled=none
 dp:A.depth+3*k+5<recursionLimit
 un:A.units+16*k+200<cLine
def cQ.mono{j k:Nat}{A:t_}(r:cQ k A)(h:j<=k):cQ j A:=⟨r.hd,by have:=r.dp;omega,by have:=r.un;omega⟩
def cQ.deeper{k:Nat}{A:t_}(r:cQ (k+1) A)(env:Env):cQ k (A.deeper env) :=
 ⟨r.hd,by have:=r.dp;show A.depth+1+3*k+5<_;omega,by have:=r.un;show A.units+3+16*k+200<_;omega⟩
def cQ.in1{k:Nat}{A:t_}(r:cQ (k+1) A):cQ k A.in1 :=
 ⟨r.hd,by have:=r.dp;show A.depth+3*k+5<_;omega,by have:=r.un;show A.units+1+16*k+200<_;omega⟩
def qo{A:t_}{C:Addr}{us:List Value}{kw:List (Str×Value)}:(A.under (.builtin "type.__call__" ⟨.ref C::us,kw⟩)).depth=A.depth+1:=by
 first|rfl|simp [Around.under,Code.weight,Code.isCreation,Code.isGuard,Code.isCaller,Code.frames,Code.isFrame,guardIds]
def qp{A:t_}{C:Addr}{us:List Value}{kw:List (Str×Value)}:(A.under (.builtin "type.__call__" ⟨.ref C::us,kw⟩)).units=A.units+1:=by
 first|rfl|simp [Around.under,Code.cUnits,Code.frames,Code.isFrame]
def cQ.make{k:Nat}{A:t_}(r:cQ (k+1) A)(C:Addr)(us:List Value)(kw:List (Str×Value)):cQ k (A.under (.builtin "type.__call__" ⟨.ref C::us,kw⟩)) :=
 ⟨r.hd,by have:=r.dp;rw [qo];omega,by have:=r.un;rw [qp];omega⟩
def cQ.depth{k:Nat}{A:t_}(r:cQ k A):A.depth<recursionLimit:=by have:=r.dp;omega
def cQ.units{k:Nat}{A:t_}(r:cQ k A):A.units+64<cLine:=by have:=r.un;omega
def dZ:TA:=λ_ H Q=>Q [] H
noncomputable def aU(ta:TE)(tr:TA):TA:=λσ H Q=>ta σ H λx H1=>tr σ H1 λxs H2=>Q (x::xs) H2
section
variable {X:Cx}{e:Expr}{es:List Expr}{te:TE}{t:TA}{pos:Pos}
def af:PA X [] dZ:=λ_ _ _ _ H Q I h=>Calls.spliced_nil ⟨[],H,I,.nil,h⟩
def wy(ha:PE X e te)(hr:PA X es t)(hs:starEach (e::es) X.env=(false,eval e X.env)::starEach es X.env:=by rfl):PA X (e::es) (aU te t):=by
 intro pos pins s σ H Q I h;rw [hs];show wpAny _ _ (spliced ((false,eval e X.env)::backTo pos (starEach es X.env))) _ _ s;refine Calls.spliced_cons (thn (ha pins s σ H _ I h) λu s1 ⟨x,H1,I1,r1,q1⟩=>?_);exact thn (hr pos pins s1 σ H1 _ I1 q1) λus s2 ⟨xs,H2,I2,r2,q2⟩=>⟨x::xs,H2,I2,.cons r1 r2,q2⟩
noncomputable def ye(t:TA):TE:=λσ H Q=>t σ H λxs H1=>xs.length<=sizeLine/\∀p,H1 p=none->Q (.ref p) (upd H1 p (.tup xs))
noncomputable def Bn(t:TA):TE:=λσ H Q=>t σ H λxs H1=>xs.length<=sizeLine/\∀p,H1 p=none->Q (.ref p) (upd H1 p (.lst xs))
def pK{x1}(h:PA X es t):PE X (.Tuple es x1 pos) (ye t):=by
 intro pins s σ H Q I hq;refine wpAny_Tuple_spliced (thn (h pos pins s σ H _ I hq) λus s1 ⟨xs,H1,I1,r,z,q⟩=>⟨by rw [<- r.length];exact z,?_⟩);have hf:H1 s1.heap.objs.size=none:=I1.hok.fresh (l_ _);refine⟨.ref s1.heap.objs.size,upd H1 s1.heap.objs.size (.tup xs),I1.laid (t':=s1.toks) (λb u e=>cn _ e) (l_ _) ?_,rfl,q _ hf⟩;exact⟨z,us,r,⟨_,f_ _ rfl,rfl,_,rfl⟩⟩
def dt(h:PA X es t):PE X (.List es pos) (Bn t):=by
 intro pins s σ H Q I hq;refine wpAny_List_spliced (thn (h pos pins s σ H _ I hq) λus s1 ⟨xs,H1,I1,r,z,q⟩=>⟨by rw [<- r.length];exact z,?_⟩);have hf:H1 s1.heap.objs.size=none:=I1.hok.fresh (l_ _);refine⟨.ref s1.heap.objs.size,upd H1 s1.heap.objs.size (.lst xs),I1.laid (t':=s1.toks) (λb u e=>cn _ e) (l_ _) ?_,rfl,q _ hf⟩;exact⟨z,us,0,r,f_ _ rfl⟩
end
abbrev Sp:=List V->Hp->VK->XK->Prop
abbrev CXT:=List Env->Hp->cx->XK->Value->cx->Prop
structure qZ (P:n_) (w:World) (K:a_) (mg:Str->Option Value) (base:Heap) (A:t_) (outer:List Env) (s:cx) (H:Hp):Prop where
 frames:A.frames=some outer
 mod:Mod K mg base
 bs:∀b o,base.get? b=some o->s.heap.get? b=some o/\H b=none
 bsz:base.objs.size<=s.heap.objs.size
 funs:s.heap.FunFrames base outer
 frf:∀b∈frs outer,H b=none
 hok:HOk P w H s.heap
 bare:FW s.gens
 tb:lX base H
noncomputable def CE(outer:List Env)(P:n_)(w:World)(H:Hp)(s:cx)(Q:VK)(u:Value)(s':cx):Prop :=
 ∃v H',s'.os=s.os/\FW s'.gens/\Un (frs outer) [] H H' s.heap s'.heap/\HOk P w H' s'.heap/\cF v u/\Q v H'
noncomputable def CR(CX:CXT)(outer:List Env)(P:n_)(w:World)(H:Hp)(s:cx)(Q:VK)(E:XK)(r:Result)(s':cx):Prop :=
 match r with
 | .ok (.ret u)=>CE outer P w H s Q u s'
 | .ok _=>False
 | .error e=>CX outer H s E e s'
structure lU (P:n_) (w:World) (K:a_) (mg:Str->Option Value) (base:Heap) (CX:CXT) (k:Nat) (f:Addr) (fd:DW) (ps:List Str) (sp:Sp):Prop where
 len:∀vs H Q E,sp vs H Q E->vs.length=ps.length
 run:∀(A:t_) (outer:List Env) (s:cx) (H:Hp) (args:Args) (us:List Value) (vs:List V) (Q:VK) (E:XK),cQ k A->qZ P w K mg base A outer s H->Fv s fd args (ps.zip us)->bB vs us->sp vs H Q E ->
  codeAny (model P w) A (.call (.ref f) args) (CR CX outer P w H s Q E) s
def lU.imp{P:n_}{w:World}{K:a_}{mg:Str->Option Value}{base:Heap}{CX:CXT}{k:Nat}{f:Addr}{fd:DW}{ps:List Str}{sp sp':Sp}(F:lU P w K mg base CX k f fd ps sp)
  (h:∀vs H Q E,sp' vs H Q E->sp vs H Q E):lU P w K mg base CX k f fd ps sp' :=
 ⟨λvs H Q E q=>F.len vs H Q E (h _ _ _ _ q),λA outer s H args us vs Q E hr he hb hv hs=>F.run A outer s H args us vs Q E hr he hb hv (h _ _ _ _ hs)⟩
def qZ.make{P:n_}{w:World}{K:a_}{mg:Str->Option Value}{base:Heap}{A:t_}{outer:List Env}{s:cx}{H:Hp}(e:qZ P w K mg base A outer s H)(C:Addr)(us:List Value)(kw:List (Str×Value)) :
  qZ P w K mg base (A.under (.builtin "type.__call__" ⟨.ref C::us,kw⟩)) outer s H:=⟨by first|exact e.frames|(simpa [Around.under,Code.envs,Code.isFrame,pushEnvs] using e.frames),e.mod,e.bs,e.bsz,e.funs,e.frf,e.hok,e.bare,e.tb⟩
def qZ.in1{P:n_}{w:World}{K:a_}{mg:Str->Option Value}{base:Heap}{A:t_}{outer:List Env}{s:cx}{H:Hp}(e:qZ P w K mg base A outer s H) :
  qZ P w K mg base A.in1 outer s H:=⟨e.frames,e.mod,e.bs,e.bsz,e.funs,e.frf,e.hok,e.bare,e.tb⟩
section
variable {X:Cx}{pins:List (Addr×Obj)}{σ:St}{H:Hp}{s s':cx}
def Inv.env0(I:Inv X pins σ H s):qZ X.prog X.w X.K X.mg X.base X.A X.stack s H :=
 ⟨I.ok.frames,I.ok.mod,I.bs,r_ I.ok.bsz I.sz,I.stack,I.stkFree,I.hok,I.bare,I.ok.tb.un I.base⟩
def Inv.after{Q:VK}{u:Value}(I:Inv X pins σ H s)(h:CE X.stack X.prog X.w H s Q u s'):EP X pins σ Q u s':=by
 obtain⟨v,H',os,bare,un,hok,r,q⟩:=h;obtain⟨hh,g,d,t,os'⟩:=s';obtain rfl:os'=s.os:=os;exact⟨v,H',I.call (h':=hh) (g':=g) (d':=d) (t':=t) (ch:=[]) un hok bare (λb z=>absurd z (by simp)),r,q⟩
end
noncomputable def d5(sp:Sp)(dvs:List V)(E:XK)(t:TA):TE:=λσ H Q=>t σ H λvs H1=>sp (vs++dvs) H1 Q E
noncomputable def wz(C:Addr)(m:Str)(sp:Sp)(dvs:List V)(E:XK)(ta:TE)(t:TA):TE:=λσ H Q=>ta σ H λx H1=>∃a dx fs,x=.ref a/\H1 a=some (.ins C dx fs)/\fs.lookup m=none /\
 t σ H1 λvs H2=>sp (x::(vs++dvs)) H2 Q E
noncomputable def ud(C:Addr)(sp:Sp)(dvs:List V)(E:XK)(t:TA):TE:=λσ H Q=>t σ H λvs H1=>∀x dx,H1 x=none->H1 dx=none->dx≠x ->
 sp (.ref x::(vs++dvs)) (upd (upd H1 dx (.own x)) x (.ins C dx [])) (λv H2=>v=.non/\Q (.ref x) H2) E
noncomputable def iJ(K:a_)(fd:DW)(ps:List Str)(ds:List Value):Prop :=
 ∀(s:cx) (us:List Value),K.In s.heap->(us++ds).length=ps.length->Fv s fd ⟨us,[]⟩ (ps.zip (us++ds))
def iJ.all{K:a_}{fd:DW}{ps:List Str}(h:∀us:List Value,us.length=ps.length->bindArgs fd ⟨us,[]⟩=pure (ps.zip us)):iJ K fd ps []:=λs us _ hl=>by
 rw [DQ] at hl ⊢;exact .of_eq (h us hl)
noncomputable def kq(CX:CXT)(X:Cx)(E:XK):Prop:=∀(pins:List (Addr×Obj)) (σ:St) (H:Hp) (s:cx) (e:Value) (s':cx),Inv X pins σ H s->CX X.stack H s E e s'->X.xe e s'
section
variable {X:Cx}{CX:CXT}{k:Nat}{f C:Addr}{fd:DW}{ps:List Str}{sp:Sp}{dvs:List V}{ds:List Value}{E:XK}{x m:Str}{p pos apos:Pos}{e o:Expr}{es:List Expr}{ta:TE}{t:TA}
def vv{pins:List (Addr×Obj)}{σ:St}{H:Hp}{s:cx}{Q:VK}{us:List Value}{vs:List V}(F:lU X.prog X.w X.K X.mg X.base CX k f fd ps sp)(hr:cQ k X.A)(hb:iJ X.K fd ps ds)(hd:bB dvs ds)(hx:kq CX X E)
  (I:Inv X pins σ H s) (r:bB vs us) (h:sp (vs++dvs) H Q E):wpAny (model X.prog X.w) X.A (call (.ref f) us) (EP X pins σ Q) X.xe s:=by
 have r2:bB (vs++dvs) (us++ds):=r.append hd;have hl:(us++ds).length=ps.length:=by rw [<- r2.length];exact F.len _ _ _ _ h
 refine wpAny_call (Fw (F.run X.A X.stack s H ⟨us,[]⟩ (us++ds) (vs++dvs) Q E hr I.env0 (hb s us I.kIn hl) r2 h) λr s' hq=>?_)
 cases r with
 | error e=>exact hx pins σ H s e s' I hq
 | ok fl =>
  cases fl with
  | ret u=>exact I.after hq
  | next=>exact Eu hq
  | brk=>exact Eu hq
  | cont=>exact Eu hq
def rC(F:lU X.prog X.w X.K X.mg X.base CX k f fd ps sp)(hr:cQ k X.A)(hg:Gl X x)(hm:X.mg x=some (.ref f))(hk:s_ X.K (.ref f)=true)(hb:iJ X.K fd ps ds)(hd:bB dvs ds)(hx:kq CX X E)
  (ha:PA X (e::es) t) (hdb:(x == ("__debug__":Str))=false:=by decide) (he:starEach (e::es) X.env=(false,eval e X.env)::starEach es X.env:=by rfl) (hpl:(backTo pos (starEach es X.env)).any (·.1)=false:=by rfl) :
  PE X (.Call (.Name x p) (e::es) [] pos) (d5 sp dvs E t):=by
 intro pins s σ H Q I h;refine Ew (nE I hg hm ?_ hdb);refine PySem.W.callWith_K (h₀:=X.base) I.ok.mod.kin hk (thn (ha pos pins s σ H _ I h) λus s1 ⟨vs,H1,I1,r,q⟩=>⟨I1.kIn,?_⟩) he hpl;exact vv F hr hb hd hx I1 r q
def ue{pl:Sem Bool}(he:PE X o ta)(c:Cls X.K C)(hm:A5 X.K C m f)(F:lU X.prog X.w X.K X.mg X.base CX k f fd ps sp)(hr:cQ k X.A)(hb:iJ X.K fd ps ds)(hd:bB dvs ds)(hx:kq CX X E)
  (ht:eval (.Call (.Attribute o m apos) [] [] pos) X.env=(do
   let ov <- eval o X.env
   standAt apos.atName
   let (f,first) <- holding [ov] (getMethod ov m pl)
   callWith pos f first (backTo pos (starEach [] X.env)) (backToKw pos (keywordEach [] X.env))):=by rfl) :
  PE X (.Call (.Attribute o m apos) [] [] pos) (wz C m sp dvs E ta dZ):=by
 intro pins s σ H Q I h;refine PySem.W.methodCall_KW (pl:=pl) (thn (he pins s σ H _ I h) λu s1 ⟨x,H1,I1,rx,a,dx,fs,ex,ea,l,q⟩=>?_) ht;subst ex;obtain rfl:u=x_ a:=rx;refine ql I1 ea c hm l ?_;exact PySem.W.callWith_K0 (first:=[.ref a]) I1.kIn hm.kp (vv (us:=[.ref a]) (vs:=[.ref a]) F hr hb hd hx I1 (.cons rfl .nil) q)
structure Mk (K:a_) (C f:Addr):Prop where
 makes:Gs K C=true
 init:i_ K (.ref C) "__init__"=some (some (.ref f))
 fn:Fu K (.ref f)=true
 kp:s_ K (.ref C)=true
def uf{pins:List (Addr×Obj)}{σ:St}{H:Hp}{s:cx}{Q:VK}{us:List Value}{vs:List V}(M:Mk X.K C f)(F:lU X.prog X.w X.K X.mg X.base CX k f fd ps sp)(hr:cQ (k+1) X.A)(hb:iJ X.K fd ps ds)(hd:bB dvs ds)
  (hx:kq CX X E) (I:Inv X pins σ H s) (r:bB vs us)
  (h:∀x dx,H x=none->H dx=none->dx≠x->sp (.ref x::(vs++dvs)) (upd (upd H dx (.own x)) x (.ins C dx [])) (λv H2=>v=.non/\Q (.ref x) H2) E) :
  wpAny (model X.prog X.w) X.A (call (.ref C) us) (EP X pins σ Q) X.xe s:=by
 have hq:=h (s.heap.objs.size+1) s.heap.objs.size (I.hok.fresh (le_succ _)) (I.hok.fresh (l_ _)) (DC (E5 _));have I2:=Inv.made (C:=C) I;have r2:bB (V.ref (s.heap.objs.size+1)::(vs++dvs)) (x_ (s.heap.objs.size+1)::(us++ds)):=.cons rfl (r.append hd)
 have hl:(x_ (s.heap.objs.size+1)::us++ds).length=ps.length:=by
  have e:=r2.length;rw [F.len _ _ _ _ hq] at e;exact e.symm
 refine wpAny_call (uc (f:=f) I.kIn M.makes M.init (beq_iff_eq.mp M.fn) (Fw (F.run _ X.stack _ _ ⟨x_ (s.heap.objs.size+1)::us,[]⟩ (x_ (s.heap.objs.size+1)::(us++ds)) _ _ E (hr.make C us [])
  (I2.env0.make C us []) (hb _ (x_ (s.heap.objs.size+1)::us) I2.kIn hl) r2 hq) λr s' hq'=>?_))
 cases r with
 | error e=>exact hx pins σ _ _ e s' I2 hq'
 | ok fl =>
  cases fl with
  | ret u =>
   obtain⟨v,H',I3,rv,ev,q3⟩:=I2.after hq';subst ev;exact⟨rv,⟨V.ref (s.heap.objs.size+1),H',I3,rfl,q3⟩⟩
  | next=>exact Eu hq'
  | brk=>exact Eu hq'
  | cont=>exact Eu hq'
def wA(M:Mk X.K C f)(F:lU X.prog X.w X.K X.mg X.base CX k f fd ps sp)(hr:cQ (k+1) X.A)(hg:Gl X x)(hm:X.mg x=some (.ref C))(hb:iJ X.K fd ps ds)(hd:bB dvs ds)(hx:kq CX X E)
  (ha:PA X (e::es) t) (hdb:(x == ("__debug__":Str))=false:=by decide) (he:starEach (e::es) X.env=(false,eval e X.env)::starEach es X.env:=by rfl) (hpl:(backTo pos (starEach es X.env)).any (·.1)=false:=by rfl) :
  PE X (.Call (.Name x p) (e::es) [] pos) (ud C sp dvs E t):=by
 intro pins s σ H Q I h;refine Ew (nE I hg hm ?_ hdb);refine PySem.W.callWith_K (h₀:=X.base) I.ok.mod.kin M.kp (thn (ha pos pins s σ H _ I h) λus s1 ⟨vs,H1,I1,r,q⟩=>⟨I1.kIn,?_⟩) he hpl;exact uf M F hr hb hd hx I1 r q
end
structure aB (N P:List Str) (sc:Scope):Prop where
 kind:sc.kind=.function
 co:sc.isCoroutine=false
 gen:sc.isGenerator=false
 nd:N.Nodup
 pre:N.take P.length=P
 par:∀x∈P,sc.names.lookup x=some .local\/sc.names.lookup x=some .cell
 nofree:∀y∈sc.names,y.2≠.free
theorem l4{kindOf:Str->Option DX}{x:Str}:∀{binds:List (Str×Value)}{m:Str->Option Value},(∀v,(x,v)∉binds)->bindL kindOf binds m x=m x
 | [],_,_=>rfl
 | (n,v)::r,m,h=>by
  unfold bindL;rw [l4 λw hw=>h w (o_ _ hw)]
  split
  .have:x≠n:=by rintro rfl;exact h v mem_cons_self
   simp [this]
  .rfl
theorem l6{kindOf:Str->Option DX}{x:Str}:∀{binds:List (Str×Value)}{m:Str->Option Value},(∀v,(x,v)∉binds)->bindC kindOf binds m x=m x
 | [],_,_=>rfl
 | (n,v)::r,m,h=>by
  unfold bindC;rw [l6 λw hw=>h w (o_ _ hw)]
  split
  .rfl
  .have:x≠n:=by rintro rfl;exact h v mem_cons_self
   simp [this]
theorem l8{kindOf:Str->Option DX}{x:Str}{v:Value}:∀{P:List Str}{vs:List Value}{i:Nat}{m:Str->Option Value},P.Nodup->P[i]?=some x->vs[i]?=some v->kindOf x=some .local ->
  bindL kindOf (P.zip vs) m x=some v
 | [],_,_,_,_,h,_,_=>by simp at h
 | _::_,[],_,_,_,_,h,_=>by simp at h
 | p::P,w::vs,0,m,nd,h1,h2,hk=>by
  simp at h1 h2;subst h1;subst h2;show bindL kindOf ((p,w)::P.zip vs) m p=_;unfold bindL;rw [l4 λv hv=>(FF.mp nd).1 (of_mem_zip hv).1,if_pos hk];simp
 | p::P,w::vs,i+1,m,nd,h1,h2,hk=>by
  show bindL kindOf ((p,w)::P.zip vs) m x=_;unfold bindL;exact l8 (i:=i) (FF.mp nd).2 (by simpa using h1) (by simpa using h2) hk
theorem l9{kindOf:Str->Option DX}{x:Str}{v:Value}:∀{P:List Str}{vs:List Value}{i:Nat}{m:Str->Option Value},P.Nodup->P[i]?=some x->vs[i]?=some v->kindOf x≠some .local ->
  bindC kindOf (P.zip vs) m x=some v
 | [],_,_,_,_,h,_,_=>by simp at h
 | _::_,[],_,_,_,_,h,_=>by simp at h
 | p::P,w::vs,0,m,nd,h1,h2,hk=>by
  simp at h1 h2;subst h1;subst h2;show bindC kindOf ((p,w)::P.zip vs) m p=_;unfold bindC;rw [l6 λv hv=>(FF.mp nd).1 (of_mem_zip hv).1,if_neg hk];simp
 | p::P,w::vs,i+1,m,nd,h1,h2,hk=>by
  show bindC kindOf ((p,w)::P.zip vs) m x=_;unfold bindC;exact l9 (i:=i) (FF.mp nd).2 (by simpa using h1) (by simpa using h2) hk
noncomputable def start(N:List Str)(vs:List V):St:=vs.map some++u_ (N.length - vs.length) none
noncomputable def md(CX:CXT)(P:n_)(w:World)(K:a_)(mg:Str->Option Value)(base:Heap)(N:List Str)(qual:Str)(scope:Scope)(f:Addr)(cd:Value)(A:t_)(outer:List Env)(s:cx)(H:Hp)(E:XK):Cx where
 prog:=P
 w:=w
 K:=K
 mg:=mg
 base:=base
 A:=A.deeper (envOfC qual scope s.heap.objs.size f cd)
 N:=N
 s₀:=s
 H₀:=H
 env:=envOfC qual scope s.heap.objs.size f cd
 outer:=outer
 stack:=envOfC qual scope s.heap.objs.size f cd::outer
 ex:=[]
 calm:=true
 fn:=λ_=>true
 pn:=[]
 xe:=λe s'=>wpAny (model P w) (A.deeper (envOfC qual scope s.heap.objs.size f cd)) (leaving (envOfC qual scope s.heap.objs.size f cd) e) (λ_ s''=>CX outer H s E e s'') (λe' s''=>CX outer H s E e' s'') s'
def pL{sc:Scope}{n:Nat}{x:Str}(h:sc.names.lookup x=some .cell):∃c,(cellsFrom n sc.names []).lookup x=some c:=by
 have q:=D8 sc.names n [] (.inl h);exact Ek.mp q
def me{CX:CXT}{P:n_}{w:World}{K:a_}{mg:Str->Option Value}{base:Heap}{N ps:List Str}{qual:Str}{scope:Scope}{f:Addr}{cd:Value}{A:t_}{outer:List Env}{s s1:cx}{H:Hp}{E:XK}{us:List Value}{vs:List V}
  (S:aB N ps scope) (hd:A.handled=none) (e0:qZ P w K mg base A outer s H) (hl:vs.length=ps.length) (r:bB vs us)
  (x:InCallC s s.heap.objs.size (bindL (envOfC qual scope s.heap.objs.size f cd).kindOf (ps.zip us) λ_=>none) (cellsFrom (s.heap.objs.size+1) scope.names []) (bindC (envOfC qual scope s.heap.objs.size f cd).kindOf (ps.zip us) λ_=>none) s1) :
  Inv (md CX P w K mg base N qual scope f cd A outer s H E) [] (start N vs) H s1:=by
 have hpl:ps.length<=N.length:=by have:=congrArg List.length S.pre;rw [length_take] at this;omega
 obtain⟨h1,tk,rfl,hk⟩:=x.done;have noA:∀b:Addr,b∉(md CX P w K mg base N qual scope f cd A outer s H E).ex:=λb z=>absurd (show b∈([]:List Addr) from z) (by simp)
 refine⟨⟨e0.mod,S.kind,rfl,rfl,l_ _,λy z c h1 h2=>?_,λy hy=>?_,λy c _ h=>?_,λ_=>hd,Around.frames_deeper e0.frames,.inr ⟨rfl,rfl⟩,λb z=>absurd z (noA b),e0.bs,e0.bsz,λb _ _=>noA b,λb z=>absurd z (noA b),e0.funs,e0.frf,e0.tb⟩,
  rfl,e0.bare,Un.kept hk,⟨_,x.toInCall.ns,λi y v h1 h2 h3=>?_⟩,λy c h=>⟨_,x.cell y c h⟩,e0.hok.fresh (l_ _),λy c h=>?_,λp hp=>absurd (show p∈([]:List (Addr×Obj)) from hp) (by simp),e0.hok.kept hk,?_⟩
 .exact name_of_addr x.apart (Ep h1) (Ep h2)
 .have hy:scope.names.lookup y=some .cell\/scope.names.lookup y=some .free:=hy
  rcases hy with hy|hy
  .exact pL hy
  .exact absurd rfl (S.nofree _ (Ep hy))
 .exact le_of_lt (x.above y c (Ep h))
 .have hi:i<vs.length:=by
   unfold start at h2
   by_cases hi:i<vs.length
   .exact hi
   .rw [Ez (by simpa using hi)] at h2;rw [getElem?_replicate] at h2;split at h2 <;> cases h2
  have ha:vs[i]?=some v:=by
   unfold start at h2;rw [EE (by simpa using hi),k_] at h2
   cases e:vs[i]? with
   | none=>rw [e] at h2;cases h2
   | some a=>rw [e] at h2;cases h2;rfl
  obtain⟨u,hu,rv⟩:=r.get ha
  have hp:ps[i]?=some y:=by
   rw [<- S.pre,getElem?_take_of_lt (by omega)];exact h1
  have ndP:ps.Nodup:=by rw [<- S.pre];exact S.nd.sublist (take_sublist _ _)
  refine⟨u,rv,?_⟩
  rcases S.par y (z_ hp) with k|k
  .exact .inl ⟨k,l8 ndP hp hu k⟩
  .obtain⟨c,e⟩:=pL (n:=s.heap.objs.size+1) k;refine .inr ⟨.inl k,c,e,?_⟩;have q:=x.cell y c e;rw [l9 ndP hp hu (by show scope.names.lookup y≠_;rw [k];decide)] at q;exact q
 .exact e0.hok.fresh (le_of_lt (x.above y c (Ep h)))
 .unfold start;show _=N.length;rw [length_append,length_map,length_replicate];omega
def wB{CX:CXT}{P:n_}{w:World}{K:a_}{mg:Str->Option Value}{base:Heap}{k:Nat}{f:Addr}{name qual:Str}{params:Gb}{body:List Stmt}{scope:Scope}{dV kV doc pm cdv ct oc:Value}{an od:Option Addr}
  {osl:Array (Option Value)}{N ps:List Str}{sp:Sp} (lk:K.lookup f=some ⟨oc,od,.func (v_ name qual params body scope dV kV doc pm an cdv ct),osl⟩) (hcd:Dw K cdv qual=true) (S:aB N ps scope)
  (len:∀vs H Q E,sp vs H Q E->vs.length=ps.length)
  (hbody:∀(A:t_) (outer:List Env) (s:cx) (H:Hp) (vs:List V) (Q:VK) (E:XK),cQ k (A.deeper (envOfC qual scope s.heap.objs.size f cdv))->sp vs H Q E ->
   ∃t,PSs (md CX P w K mg base N qual scope f cdv A outer s H E) body t/\t { nx:=λ_ H'=>Q .non H',rt:=Q } (start N vs) H) :
  lU P w K mg base CX (k+1) f (v_ name qual params body scope dV kV doc pm an cdv ct) ps sp:=by
 refine⟨len,λA outer s H args us vs Q E hr e0 hb r hsp=>?_⟩;have hl:=len _ _ _ _ hsp;have KX:K.In s.heap:=e0.mod.kin.keeps λb o e=>(e0.bs b o e).1;have lim:s.heap.NoLimit:=e0.mod.nolimit.keeps λb o e=>(e0.bs b o e).1
 have hkind:∀y∈ps.zip us,scope.names.lookup y.1=some .local\/(scope.names.lookup y.1=some .cell/\((cellsFrom (s.heap.objs.size+1) scope.names []).lookup y.1).isSome=true):=λ⟨n,v⟩ hy=>by
  rcases S.par n (of_mem_zip hy).1 with q|q
  .exact .inl q
  .exact .inr ⟨q,D8 _ _ _ (.inl q)⟩
 refine codeAny_call_function hr.depth (KX _ _ lk) rfl S.co S.gen rfl (PySem.W.codeRec_of KX hcd) (hb _ _ _ _ ?_);refine FG S.kind hkind λenv he s1 x=>?_;subst he;refine⟨lim.keeps x.toInCall.keep,codeAny_func ?_⟩;obtain⟨t,ht,hq⟩:=hbody A outer s H vs Q E (hr.deeper _) hsp;have I:Inv (md CX P w K mg base N qual scope f cdv A outer s H E) [] (start N vs) H s1:=me S hr.hd e0 hl r x
 refine Eb (ht [] s1 (start N vs) H _ I hq) (λfl s' hs=>?_) λe s' hs=>hs
 have fin:∀{σ':St}{H':Hp}{v:V}{u:Value},Inv (md CX P w K mg base N qual scope f cdv A outer s H E) [] σ' H' s'->cF v u->Q v H'->CE outer P w H s Q u s' :=
  λ{σ' H' v u} J rv q=>⟨v,H',J.os,J.bare,J.base,J.hok,rv,q⟩
 cases fl with
 | ret u =>
  obtain⟨v,σ',H',J,rv,q⟩:=hs;exact fin J rv q
 | next =>
  obtain⟨σ',H',J,q⟩:=hs;exact fin (v:=V.non) (u:=Et) J rfl q
 | brk =>
  obtain⟨_,_,_,q⟩:=hs;exact Eu q
 | cont =>
  obtain⟨_,_,_,q⟩:=hs;exact Eu q
section
variable {X:Cx}{x:Str}{p pos:Pos}{e:Expr}{es:List Expr}{t:TA}{id T:String}{r:List V->Hp->VK->Prop}
noncomputable def tCB(r:List V->Hp->VK->Prop)(t:TA):TE:=λσ H Q=>t σ H λvs H1=>r vs H1 Q
def ug(hc:bx X (.builtin id) r)(hg:Gl X x)(hm:X.mg x=none)(hv:bootBuiltins x=some (.builtin id))(ha:PA X (e::es) t)(hn:x≠"__name__":=by decide)(hdb:(x == ("__debug__":Str))=false:=by decide)
  (he:starEach (e::es) X.env=(false,eval e X.env)::starEach es X.env:=by rfl) (hpl:(backTo pos (starEach es X.env)).any (·.1)=false:=by rfl):PE X (.Call (.Name x p) (e::es) [] pos) (tCB r t):=by
 intro pins s σ H Q I h;refine Ew (gm I hg hm hv ?_ hn hdb);exact PyProof.Rows.callWith_builtin1 (thn (ha pos pins s σ H _ I h) λus s1 ⟨vs,H1,I1,r1,q1⟩=>hc pins s1 σ H1 vs us Q I1 r1 q1) he hpl
def rD(hc:bx X (.type T) r)(hg:Gl X x)(hm:X.mg x=none)(hv:bootBuiltins x=some (.type T))(ha:PA X (e::es) t)(hn:x≠"__name__":=by decide)(hdb:(x == ("__debug__":Str))=false:=by decide)
  (he:starEach (e::es) X.env=(false,eval e X.env)::starEach es X.env:=by rfl) (hpl:(backTo pos (starEach es X.env)).any (·.1)=false:=by rfl):PE X (.Call (.Name x p) (e::es) [] pos) (tCB r t):=by
 intro pins s σ H Q I h;refine Ew (gm I hg hm hv ?_ hn hdb);exact DD (thn (ha pos pins s σ H _ I h) λus s1 ⟨vs,H1,I1,r1,q1⟩=>hc pins s1 σ H1 vs us Q I1 r1 q1) he hpl
end
end L2
namespace HT
open PySem PyProof.Rows
def eqAt_int(A:t_)(s:cx)(a:Int)(t:Tok)(c:Int)(u:Tok):∃e,SeqAt.EqAt A s (.int a t) (.int c u) e/\(e=true ↔ a=c) :=
 ⟨(a == c),SeqAt.EqAt.int_int a t c u,by simp⟩
def rcLt_int(A:t_)(s:cx)(a:Int)(t:Tok)(c:Int)(u:Tok)(prog:n_)(w:World)(E:Value->cx->Prop)(Q:Value->cx->Prop)(h:Q (.bool (decide (a<c))) s) :
  wpAny (model prog w) A (richCompare .Lt (.int a t) (.int c u)) Q E s :=
 (PyProof.Rows.lt_int h:wpAny (model prog w) A (compareOp .Lt (.int a t) (.int c u)) Q E s)
section
open PySem.SeqAt
open PySem.AutoSeq1 (wpAny_loadPart')
open PySem.MeetsSeq PySem.MeetsSeq2 PySem.MeetsSeq3
end
section
variable {prog:n_}{w:World}{A:t_}{E:Value->cx->Prop}{s:cx}
def cat_tup{t b:Addr}{vs ws:List Value}{Q:Value->cx->Prop}(ht:IsTup s.heap t vs.toArray)(hb:IsTup s.heap b ws.toArray)(hv:vs≠[])
  (h1:ws=[]->Q (.ref t) s) (h2:ws≠[]->Q (.ref s.heap.objs.size) { s with heap:=s.heap.push { cls:=.type "tuple",data:=.seq (vs++ws).toArray } })
  (hsz:vs.length+ws.length<=sizeLine):wpAny (model prog w) A (binaryOp .Add (.ref t) (.ref b)) Q E s:=by
 obtain⟨⟨cls,dd,data,sl⟩,ho,hc,n,hd⟩:=id ht;obtain⟨⟨cls2,dd2,data2,sl2⟩,ho2,hc2,n2,hd2⟩:=id hb;simp only at hc hd hc2 hd2;subst hc hd hc2 hd2;have e:vs.toArray++ws.toArray=(vs++ws).toArray:=by simp
 by_cases hw:ws=[]
 .exact Gg ⟨_,ho,rfl⟩ ⟨_,ho2,rfl⟩ Gc seq_tuple_add E6 EV (EN _ _)
   (tuple_addW1 t b vs.toArray ws.toArray n n2 dd dd2 sl sl2 (by simpa using hv) (by simp [hw])) ⟨ho,ho2,h1 hw⟩
 .refine Gg ⟨_,ho,rfl⟩ ⟨_,ho2,rfl⟩ Gc seq_tuple_add E6 EV (EN _ _)
   (tuple_addW2 t b vs.toArray ws.toArray n n2 dd dd2 sl sl2 (by simpa using hv) (by simpa using hw) (by rw [p_,p_];exact hsz)) ⟨ho,ho2,?_⟩
  rw [e];exact h2 hw
noncomputable def sIx(n d:Nat):Option Int->Nat
 | none=>d
 | some v=>if v<0 then (v+(n:Int)).toNat else min v.toNat n
def sIx_nat(n d k:Nat):sIx n d (some (k:Int))=min k n:=by
 show (if (k:Int)<0 then ((k:Int)+(n:Int)).toNat else min (k:Int).toNat n)=min k n;rw [if_neg (by omega),toNat_natCast]
def sIx_le(n d:Nat)(hd:d<=n)(o:Option Int):sIx n d o<=n:=by
 cases o with
 | none=>exact hd
 | some v =>
  show (if v<0 then (v+(n:Int)).toNat else min v.toNat n)<=n
  by_cases hv:v<0
  .rw [if_pos hv];omega
  .rw [if_neg hv];exact min_le_right _ _
def clip_eq(v:Int)(n d:Nat):(if v<0 then max (v+(n:Int)) 0 else min v (n:Int))=((sIx n d (some v):Nat):Int):=by
 show (if v<0 then max (v+(n:Int)) 0 else min v (n:Int))=(((if v<0 then (v+(n:Int)).toNat else min v.toNat n):Nat):Int)
 by_cases hv:v<0
 .simp only [if_pos hv];omega
 .simp only [if_neg hv];omega
def qq(lo hi:Option Int)(n:Nat):EK lo hi 1 (n:Int)=(((sIx n 0 lo:Nat):Int),((sIx n n hi:Nat):Int)):=by
 have h1:¬ ((1:Int)<0):=by omega
 unfold EK;simp only [h1,if_false]
 refine Prod.ext ?_ ?_
 .cases lo with
  | none=>rfl
  | some v=>exact clip_eq v n 0
 .cases hi with
  | none=>rfl
  | some v=>exact clip_eq v n n
def qt(i j:Nat):Eg (i:Int) (j:Int) 1=j - i:=by
 unfold Eg;have h1:(1:Int) > 0:=by omega
 simp only [h1,if_true,ediv_one];split <;> omega
def kr{v:Value}{o:Option Int}{Q:Option Int->cx->Prop}(p:Gh v o)(h:Q o s):wpAny (model prog w) A (Builtin.Slice.slicePartIndex v) Q E s:=by
 cases p with
 | none=>exact slicePart_none h
 | int i t=>exact slicePart_int h
def eI{sl:Addr}{vl vu:Value}{lo hi:Option Int}{n:Nat}{Q:Int×Int×Nat->cx->Prop}(hs:s.heap.IsSliceOf sl vl vu .none)(pl:Gh vl lo)(pu:Gh vu hi)
  (h:Q (((sIx n 0 lo:Nat):Int),1,sIx n n hi - sIx n 0 lo) s):wpAny (model prog w) A (FH (.ref sl) (pure (n:Int))) Q E s:=by
 obtain⟨os,hos,hcs,hds⟩:=id hs;unfold FH Builtin.Slice.sliceFields;refine b_ (b_ (DF hos hds (x:=vl) rfl (b_ (DF hos hds (x:=vu) rfl (b_ (DF hos hds (x:=.none) rfl (e_ ?_)))))));refine b_ (slicePart_none ?_);show wpAny _ _ (if ((1:Int) == 0)=true then _ else _) _ _ s;rw [if_neg (by decide)];refine b_ (kr pl (b_ (kr pu (b_ (e_ ?_)))))
 show wpAny _ _ (match EK lo hi 1 (n:Int) with|(lo,hi)=>pure (lo,(1:Int),Eg lo hi 1)) _ _ s;rw [qq lo hi n];show wpAny _ _ (pure (((sIx n 0 lo:Nat):Int),(1:Int),Eg ((sIx n 0 lo:Nat):Int) ((sIx n n hi:Nat):Int) 1)) _ _ s;rw [qt];exact e_ h
def uh(xs:Array Value)(i k:Nat):((c_ k).filterMap λ(m:Nat)=>xs[((i:Int)+(m:Int)*1).toNat]?).toArray=((xs.toList.drop i).take k).toArray:=by
 have e:(λ(m:Nat)=>xs[((i:Int)+(m:Int)*1).toNat]?)=λm=>xs[i+m]?:=by
  funext m;have:((i:Int)+(m:Int)*1).toNat=i+m:=by omega
  rw [this]
 rw [e];have:=pick_run xs i k;rw [Fe] at this;have e2:((λx=>xs[x]?) ∘ λx=>i+x)=λm=>xs[i+m]?:=rfl;rw [e2] at this;rw [this]
def getItem_tuple_cut{t sl:Addr}{items:Array Value}{vl vu:Value}{lo hi:Option Int}{Q:Value->cx->Prop}(ht:IsTup s.heap t items)(hs:s.heap.IsSliceOf sl vl vu .none)(pl:Gh vl lo)(pu:Gh vu hi)
  (hw:¬ (sIx items.size 0 lo=0/\sIx items.size items.size hi=items.size))
  (h:Q (.ref s.heap.objs.size) { s with heap:=s.heap.push { cls:=.type "tuple",data:=.seq ((items.toList.drop (sIx items.size 0 lo)).take (sIx items.size items.size hi - sIx items.size 0 lo)).toArray } })
  (hsz:items.size<=sizeLine):wpAny (model prog w) A (getItem (.ref t) (.ref sl)) Q E s:=by
 have htake:sizeOk (.seq ((items.toList.drop (sIx items.size 0 lo)).take (sIx items.size items.size hi - sIx items.size 0 lo)).toArray):=by
  show ((items.toList.drop (sIx items.size 0 lo)).take (sIx items.size items.size hi - sIx items.size 0 lo)).toArray.size<=sizeLine;rw [p_,length_take,length_drop,D1];omega
 have hj:sIx items.size items.size hi<=items.size:=sIx_le _ _ (l_ _) hi;obtain⟨os,hos,hcs,hds⟩:=id hs;have hTs:s.TypeIs (.ref sl) "slice":=⟨os,hos,hcs⟩
 unfold getItem
 try with_reducible refine DU ?_
 first|refine b_ (e_ ?_)|skip
 refine b_ (wpAny_sequenceKey ht.typeIs (by decide) ?_)
 refine b_ (DE (name:=DY "__getitem__") ht.typeIs Dx
  (D_ Dx ht.typeIs entry_tuple_getitem ?_ (args_tuple_getitem _ _)))
 show wpAny _ _ (FI (.ref t) >>= _) _ _ s;refine b_ (tupleItemsOf_ ht ?_);refine b_ (wpAny_typeOf hTs ?_);rw [if_pos (by decide)];refine b_ (eI hs pl pu ?_)
 have hno:¬ ((((sIx items.size 0 lo:Nat):Int) == 0 && (1:Int) == 1 && (sIx items.size items.size hi - sIx items.size 0 lo) == items.size)=true):=by
  intro q;rw [and_eq_true,and_eq_true] at q;have q1:((sIx items.size 0 lo:Nat):Int)=0:=eq_of_beq q.1.1;have q2:sIx items.size items.size hi - sIx items.size 0 lo=items.size:=eq_of_beq q.2;exact hw ⟨by omega,by omega⟩
 show wpAny _ _ (if (((sIx items.size 0 lo:Nat):Int) == 0 && (1:Int) == 1 && (sIx items.size items.size hi - sIx items.size 0 lo) == items.size)=true then _ else _) _ _ s;rw [if_neg hno,uh]
 first
  | exact b_ (m:=El _) (D6 (e_ ⟨_,rfl,e_ h⟩) htake)
  | exact b_ (m:=El _) (D6 (b_ (e_ (e_ ⟨_,rfl,e_ h⟩))) htake)
  | exact b_ (b_ (m:=El _) (D6 (e_ (e_ ⟨_,rfl,e_ h⟩)) htake))
  | exact b_ (b_ (m:=El _) (D6 (e_ ⟨_,rfl,e_ h⟩) htake))
end
end HT
namespace L2
open PySem PySem.Spec PyProof.Rows
abbrev TO:=St->Hp->(Option Int->Hp->Prop)->Prop
noncomputable def PO(X:Cx)(e:Option Expr)(t:TO):Prop :=
 ∀(pins:List (Addr×Obj)) (s:cx) (σ:St) (H:Hp) (Q:Option Int->Hp->Prop),Inv X pins σ H s->t σ H Q ->
  wpAny (model X.prog X.w) X.A (evalPart e X.env) (λu s'=>∃o H',Inv X pins σ H' s'/\Gh u o/\Q o H') X.xe s
def gO:TO:=λ_ H Q=>Q none H
noncomputable def qu(t:TE):TO:=λσ H Q=>t σ H λx H1=>∃i,x=.int i/\Q (some i) H1
def kt{ns:List Int}:∀{us:List Value},bB (ns.map V.int) us->IntsAre us ns:=by
 induction ns with
 | nil=>intro us r;rw [map_nil] at r;cases r;exact .nil
 | cons n ns ih =>
  intro us r;rw [map_cons] at r
  cases r with
  | cons r1 r2 =>
   obtain⟨t,e⟩:=r1;subst e;exact .cons n t (ih r2)
section
variable {X:Cx}{e:Expr}{te:TE}{lo hi:Option Expr}{tl th:TO}{pos p2:Pos}
def cj:PO X none gO:=by
 intro pins s σ H Q I h;rw [evalPart_none];exact e_ ⟨none,H,I,.none,h⟩
def bF(h:PE X e te):PO X (some e) (qu te):=by
 intro pins s σ H Q I hw;rw [evalPart_some];refine thn (h pins s σ H _ I hw) λu s1 ⟨x,H1,I1,r1,q1⟩=>?_;obtain⟨i,rfl,q⟩:=q1;obtain⟨t,rfl⟩:=r1;exact⟨some i,H1,I1,.int i t,q⟩
noncomputable def SlR(X:Cx)(r:V->Option Int->Option Int->Hp->VK->Prop):Prop :=
 ∀(pins:List (Addr×Obj)) (s:cx) (σ:St) (H:Hp) (x:V) (v vl vu:Value) (lo hi:Option Int) (sl:Addr) (Q:VK),Inv X pins σ H s->cF x v->s.heap.IsSliceOf sl vl vu .none->Gh vl lo->Gh vu hi->r x lo hi H Q ->
  ∃T id,typeLookup (.type T) "__getitem__"=pure (some (.builtin id))/\s.TypeIs v T/\wpAny (model X.prog X.w) X.A (getItem v (.ref sl)) (EP X pins σ Q) X.xe s
def SlR.or{r r':V->Option Int->Option Int->Hp->VK->Prop}(h:SlR X r)(h':SlR X r'):SlR X (λx lo hi H Q=>r x lo hi H Q\/r' x lo hi H Q):=by
 intro pins s σ H x v vl vu lo hi sl Q I rx hs pl pu q
 rcases q with q|q
 .exact h pins s σ H x v vl vu lo hi sl Q I rx hs pl pu q
 .exact h' pins s σ H x v vl vu lo hi sl Q I rx hs pl pu q
noncomputable def tSl(r:V->Option Int->Option Int->Hp->VK->Prop)(te:TE)(tl th:TO):TE:=λσ H Q=>te σ H λx H1=>tl σ H1 λl H2=>th σ H2 λu H3=>r x l u H3 Q
def bn{r:V->Option Int->Option Int->Hp->VK->Prop}(hr:SlR X r)(he:PE X e te)(hl:PO X lo tl)(hu:PO X hi th):PE X (.Subscript e (.Slice lo hi none p2) pos) (tSl r te tl th):=by
 intro pins s σ H Q I h;refine Subscript_ (thn (he pins s σ H _ I h) λv s1 ⟨x,H1,I1,r1,q1⟩=>?_);refine wpAny_Slice (thn (hl pins s1 σ H1 _ I1 q1) λvl s2 ⟨l,H2,I2,pl,q2⟩=>thn (hu pins s2 σ H2 _ I2 q2) λvu s3 ⟨u,H3,I3,pu,q3⟩=>?_);rw [evalPart_none];refine e_ ?_;have I4:Inv X pins σ H3 { s3 with heap:=s3.heap.push { cls:=.type "slice",data:=.fields #[vl,vu,.none] } }:=I3.kept (t':=s3.toks) λb ob q=>cn _ q
 obtain⟨T,id,hT,ht,hg⟩:=hr pins { s3 with heap:=s3.heap.push { cls:=.type "slice",data:=.fields #[vl,vu,.none] } } σ H3 x v vl vu l u s3.heap.objs.size Q I4 r1 (Heap.IsSliceOf.new ..) pl pu q3;show wpAny (model X.prog X.w) X.A (subscriptTail e (.Slice lo hi none p2) v (.ref s3.heap.objs.size)) (EP X pins σ Q) X.xe { s3 with heap:=s3.heap.push { cls:=.type "slice",data:=.fields #[vl,vu,.none] } };exact tail_any (ops:=[.ref s3.heap.objs.size,v]) ht hT hg (by with_unfolding_all rfl)
noncomputable def wC(xs:List V)(lo hi:Option Int):List V:=(xs.drop (HT.sIx xs.length 0 lo)).take (HT.sIx xs.length xs.length hi - HT.sIx xs.length 0 lo)
def ja(xs:List V)(lo hi:Option Int):(wC xs lo hi).length<=xs.length:=by
 unfold wC;rw [length_take,length_drop];omega
noncomputable def Cr(K:a_):V->Option Int->Option Int->Hp->VK->Prop:=λx lo hi H Q=>∃a xs,x=.ref a/\SqT K H a xs /\
 ¬ (HT.sIx xs.length 0 lo=0/\HT.sIx xs.length xs.length hi=xs.length)/\∀p,H p=none->Q (.ref p) (upd H p (.tup (wC xs lo hi)))
def yP:SlR X (Cr X.K):=by
 intro pins s σ H x v vl vu lo hi sl Q I rx hs pl pu h;obtain⟨a,xs,rfl,hx,hw,q⟩:=h;cases rx;obtain⟨its,r,ht,hz⟩:=I.tuple hx;have hlen:its.toArray.size=xs.length:=by rw [p_];exact r.length.symm
 refine⟨"tuple",_,Dx.lookup,ht.typeIs,?_⟩;refine HT.getItem_tuple_cut ht hs pl pu (by rw [hlen];exact hw) ?_ (by rw [hlen];exact hz);rw [hlen];refine⟨.ref s.heap.objs.size,_,I.laid (t':=s.toks) (o:=.tup (wC xs lo hi)) (λb ob q=>cn _ q) (l_ _) ?_,rfl,q _ (I.hok.fresh (l_ _))⟩;exact⟨r_ (ja xs lo hi) hz,_,(r.drop (HT.sIx xs.length 0 lo)).take (HT.sIx xs.length xs.length hi - HT.sIx xs.length 0 lo),IsTup.new _ _⟩
noncomputable def yQ(K:a_):R2:=λx y H Q=>∃a b xs ys,x=.ref a/\y=.ref b/\SqT K H a xs/\SqT K H b ys/\xs≠[]/\xs.length+ys.length<=sizeLine /\
 (ys=[]->Q (.ref a) H)/\(ys≠[]->∀p,H p=none->Q (.ref p) (upd H p (.tup (xs++ys))))
def bB.nil_iff{xs:List V}{us:List Value}(r:bB xs us):us=[] ↔ xs=[]:=by
 cases r with
 | nil=>simp
 | cons _ _=>simp
def wD:OpR X (binaryOp .Add) (yQ X.K):=by
 intro pins s σ H x y v u Q I rx ry h;obtain⟨a,b,xs,ys,rfl,rfl,ha,hb,hx,hz,q1,q2⟩:=h;cases rx;cases ry;obtain⟨its,r1,p1,_⟩:=I.tuple ha;obtain⟨its2,r2,p2,_⟩:=I.tuple hb;refine HT.cat_tup p1 p2 (λz=>hx (r1.nil_iff.mp z)) (λz=>⟨.ref a,H,I,rfl,q1 (r2.nil_iff.mp z)⟩) (λz=>?_) (by rw [<- r1.length,<- r2.length];exact hz);refine⟨.ref s.heap.objs.size,_,I.laid (t':=s.toks) (o:=.tup (xs++ys)) (λb ob q=>cn _ q) (l_ _) ?_,rfl,q2 (λw=>z (r2.nil_iff.mpr w)) _ (I.hok.fresh (l_ _))⟩
 exact⟨by rw [length_append];exact hz,_,r1.append r2,IsTup.new _ _⟩
end
noncomputable def ixN(n:Nat)(i:Int):Option Nat:=if 0<=i then (if i<n then some i.toNat else none) else if -(n:Int)<=i then some (i+n).toNat else none
noncomputable def atI{α:Type}(xs:List α)(i:Int):Option α:=(ixN xs.length i).bind λj=>xs[j]?
def wE{n:Nat}{i:Int}{j:Nat}(h:ixN n i=some j):seqIndex? i n=some j/\j<n/\-(n:Int)<=i/\i<n:=by
 unfold ixN at h
 by_cases h0:0<=i
 .rw [if_pos h0] at h
  by_cases h1:i<n
  .rw [if_pos h1] at h;have e:i.toNat=j:=q_ h;exact⟨by rw [seqIndex_of h0 h1,e],by omega,by omega,h1⟩
  .rw [if_neg h1] at h;cases h
 .rw [if_neg h0] at h
  by_cases h1:-(n:Int)<=i
  .rw [if_pos h1] at h;have e:(i+n).toNat=j:=q_ h;exact⟨by rw [seqIndex_neg (by omega) h1,e],by omega,h1,by omega⟩
  .rw [if_neg h1] at h;cases h
def nI{α:Type}{xs:List α}{i:Int}{v:α}(h:atI xs i=some v):∃j,seqIndex? i xs.length=some j/\xs[j]?=some v/\j<xs.length/\-(xs.length:Int)<=i/\i<xs.length:=by
 unfold atI at h
 cases e:ixN xs.length i with
 | none=>rw [e] at h;cases h
 | some j =>
  rw [e] at h;obtain⟨h1,h2,h3,h4⟩:=wE e;exact⟨j,h1,h,h2,h3,h4⟩
def wF{α:Type}{xs:List α}{j:Nat}{v:α}(h:xs[j]?=some v):atI xs (j:Int)=some v:=by
 have hj:j<xs.length:=(g_.mp h).1
 have e:ixN xs.length (j:Int)=some j:=by
  unfold ixN;rw [if_pos (by omega),if_pos (by omega)];simp
 unfold atI;rw [e];exact h
noncomputable def wG(b:Expr):Prop:=∀o i,subscripted b false o i=operate [o,i] (getItem o i)
noncomputable def IxR(X:Cx)(r:R2):Prop :=
 ∀(value slice:Expr) (pins:List (Addr×Obj)) (s:cx) (σ:St) (H:Hp) (x y:V) (v u:Value) (Q:VK),Inv X pins σ H s->cF x v->cF y u->r x y H Q ->
  subscripted slice false v u=operate [v,u] (getItem v u)->wpAny (model X.prog X.w) X.A (subscriptTail value slice v u) (EP X pins σ Q) X.xe s
noncomputable def MtR(X:Cx)(id:String)(r:V->List V->Hp->VK->Prop):Prop :=
 ∀(pins:List (Addr×Obj)) (s:cx) (σ:St) (H:Hp) (x:V) (xs:List V) (v:Value) (us:List Value) (Q:VK),Inv X pins σ H s->cF x v->bB xs us->r x xs H Q ->
  wpAny (model X.prog X.w) X.A (call (.builtin id) (v::us)) (EP X pins σ Q) X.xe s
section
variable {X:Cx}{a b:Expr}{ta tb:TE}{pos:Pos}
def IxR.or{r r':R2}(h:IxR X r)(h':IxR X r'):IxR X (λx y H Q=>r x y H Q\/r' x y H Q):=by
 intro value slice pins s σ H x y v u Q I rx ry q hs
 rcases q with q|q
 .exact h value slice pins s σ H x y v u Q I rx ry q hs
 .exact h' value slice pins s σ H x y v u Q I rx ry q hs
def ck{r:R2}(hr:IxR X r)(ha:PE X a ta)(hb:PE X b tb)(hs:wG b):PE X (.Subscript a b pos) (tOp r ta tb):=by
 intro pins s σ H Q I h;exact Subscript_ (Bf ha hb I h λv u s2 x y H2 I2 rx ry q=>hr a b pins s2 σ H2 x y v u Q I2 rx ry q (hs _ _))
noncomputable def Cs(K:a_):R2:=λx y H Q=>∃p xs i v,x=.ref p/\y=.int i/\SqL K H p xs/\atI xs i=some v/\Q v H
noncomputable def Ct(K:a_):R2:=λx y H Q=>∃p xs i v,x=.ref p/\y=.int i/\SqT K H p xs/\atI xs i=some v/\Q v H
noncomputable def C9:R2:=λx y H Q=>∃z i c,x=.str z/\y=.int i/\z.length<=sizeLine/\atI z.cps.toList i=some c/\Q (.str ⟨#[c]⟩) H
def wH:IxR X (Cs X.K):=by
 intro value slice pins s σ H x y v u Q I rx ry h hs;obtain⟨p,xs,i,z,rfl,rfl,hq,he,q⟩:=h;cases rx;obtain⟨t,rfl⟩:=ry;obtain⟨its,r,pl,hz⟩:=I.list hq;obtain⟨j,h1,h2,h3,h4,h5⟩:=nI he;obtain⟨w,ew,rw'⟩:=r.get h2;have hl:=r.length;have hn:=kl;have fin:EP X pins σ Q w s:=⟨z,H,I,rw',q⟩
 by_cases h0:0<=i
 .have hj:i.toNat=j:=by
   rw [seqIndex_of h0 h5] at h1;exact q_ h1
  exact item_listR pl.isList h0 (by omega) (by rw [hj];simpa using ew) fin hs
 .have hj:(i+(its.toArray.size:Int)).toNat=j:=by
   rw [seqIndex_neg (by omega) h4] at h1;rw [p_,<- hl];exact q_ h1
  exact subscriptTail_builtinR (x:=w) pl.isList.typeIs slot_list_getitem.lookup
   (wpAny_getItem_list_neg (Q:=λr s'=>r=w/\EP X pins σ Q r s') pl.isList (by omega) (by rw [p_] <;> omega) (by omega) (by rw [hj];simpa using ew) ⟨rfl,fin⟩) hs
def yR:IxR X (Ct X.K):=by
 intro value slice pins s σ H x y v u Q I rx ry h hs;obtain⟨p,xs,i,z,rfl,rfl,hq,he,q⟩:=h;cases rx;obtain⟨t,rfl⟩:=ry;obtain⟨its,r,pl,hz⟩:=I.tuple hq;obtain⟨j,h1,h2,h3,h4,h5⟩:=nI he;obtain⟨w,ew,rw'⟩:=r.get h2;have hl:=r.length;have hn:=kl;have fin:EP X pins σ Q w s:=⟨z,H,I,rw',q⟩
 exact subscriptTail_builtinR (x:=w) pl.typeIs slot_tuple_getitem.lookup
  (getItem_tuple (j:=j) (Q:=λr s'=>r=w/\EP X pins σ Q r s') pl (by omega) (by omega) (by rw [p_,<- hl];exact h1) (by simpa using ew) ⟨rfl,fin⟩) hs
def yS:IxR X C9:=by
 intro value slice pins s σ H x y v u Q I rx ry h hs;obtain⟨z,i,c,rfl,rfl,hz,he,q⟩:=h;obtain⟨t,rfl⟩:=rx;obtain⟨t',rfl⟩:=ry;obtain⟨j,h1,h2,h3,h4,h5⟩:=nI he;have hl:z.cps.toList.length=z.length:=by simp [Str.length]
 rw [hl] at h1 h4 h5;have hn:=kl
 exact tail_any (typeIs_str s z t) slot_str_getitem.lookup (getItem_str (c:=c) (by
  have e1:decide (i < -(2^63:Int))=false:=decide_eq_false (by omega);have e2:decide (i >= 2^63)=false:=decide_eq_false (by omega);rw [e1,e2,Bool.or_false]) (by rw [h1];simpa using h2) ⟨.str ⟨#[c]⟩,H,I.tok _,⟨_,rfl⟩,q⟩) hs
def mf(lo hi:Option Int)(n:Nat):(sliceBounds lo hi none n).1=((HT.sIx n 0 lo:Nat):Int)/\(sliceBounds lo hi none n).2.1=((HT.sIx n n hi:Nat):Int)/\(sliceBounds lo hi none n).2.2=1:=by
 refine⟨?_,?_,rfl⟩
 .cases lo with
  | none=>simp [sliceBounds,HT.sIx]
  | some i =>
   simp only [sliceBounds,HT.sIx,Option.getD_none,show (1:Int) > 0 by decide,if_true]
   by_cases h:i<0
   .simp only [h,if_true] <;> omega
   .simp only [h,if_false] <;> omega
 .cases hi with
  | none=>simp [sliceBounds,HT.sIx]
  | some i =>
   simp only [sliceBounds,HT.sIx,Option.getD_none,show (1:Int) > 0 by decide,if_true]
   by_cases h:i<0
   .simp only [h,if_true] <;> omega
   .simp only [h,if_false] <;> omega
def kX(its:List Value)(lo hi:Option Int):slicePick its.toArray lo hi none=((its.drop (HT.sIx its.length 0 lo)).take (HT.sIx its.length its.length hi - HT.sIx its.length 0 lo)).toArray:=by
 obtain⟨h1,h2,h3⟩:=mf lo hi its.toArray.size;unfold slicePick;rw [h1,h2,h3];simp only [sliceRange_one,pick_run,p_] <;> rfl
noncomputable def Cu(K:a_):V->Option Int->Option Int->Hp->VK->Prop:=λx lo hi H Q=>∃a xs,x=.ref a/\SqL K H a xs/\∀p,H p=none->Q (.ref p) (upd H p (.lst (wC xs lo hi)))
def wI:SlR X (Cu X.K):=by
 intro pins s σ H x v vl vu lo hi sl Q I rx hs pl pu h;obtain⟨a,xs,rfl,hx,q⟩:=h;cases rx;obtain⟨its,r,ht,hz⟩:=I.list hx;have hlen:=r.length;refine⟨"list",_,slot_list_getitem.lookup,ht.isList.typeIs,?_⟩;refine wpAny_getItem_list_slice ht.isList hs pl pu .none (by simp) ?_ (by rw [p_] <;> omega);rw [kX,<- hlen];refine⟨.ref s.heap.objs.size,_,I.laid (t':=s.toks) (o:=.lst (wC xs lo hi)) (λb ob q=>cn _ q) (l_ _) ?_,rfl,q _ (I.hok.fresh (l_ _))⟩
 exact⟨r_ (ja xs lo hi) hz,_,0,(r.drop (HT.sIx xs.length 0 lo)).take (HT.sIx xs.length xs.length hi - HT.sIx xs.length 0 lo),f_ _ rfl⟩
noncomputable def j7:V->Bool
 | .non=>true
 | .bl _=>true
 | .int _=>true
 | .str _=>true
 | _=>false
noncomputable def eqV:V->V->Bool
 | .non,.non=>true
 | .bl a,.bl b=>a == b
 | .bl a,.int b=>(if a then 1 else 0) == b
 | .int a,.bl b=>a == (if b then 1 else 0)
 | .int a,.int b=>a == b
 | .str a,.str b=>a == b
 | _,_=>false
def yT{A:t_}{s:cx}{y x:V}{u v:Value}(ry:cF y u)(rx:cF x v)(fy:j7 y=true)(fx:j7 x=true):SeqAt.EqAt A s u v (eqV y x):=by
 cases y with
 | non =>
  cases ry
  cases x with
  | non=>cases rx;exact SeqAt.EqAt.same _
  | bl b=>cases rx;exact SeqAt.EqAt.none_bool b
  | int b=>obtain⟨t,rfl⟩:=rx;exact SeqAt.EqAt.none_int b t
  | str b=>obtain⟨t,rfl⟩:=rx;exact SeqAt.EqAt.none_str b t
  | _=>exact absurd (show false=true from fx) gV
 | bl a =>
  cases ry
  cases x with
  | non=>cases rx;exact SeqAt.EqAt.bool_none a
  | bl b=>cases rx;exact SeqAt.EqAt.bool_bool a b
  | int b=>obtain⟨t,rfl⟩:=rx;exact SeqAt.EqAt.bool_int a b t
  | str b=>obtain⟨t,rfl⟩:=rx;exact SeqAt.EqAt.bool_str a b t
  | _=>exact absurd (show false=true from fx) gV
 | int a =>
  obtain⟨t',rfl⟩:=ry
  cases x with
  | non=>cases rx;exact SeqAt.EqAt.int_none a t'
  | bl b=>cases rx;exact SeqAt.EqAt.int_bool a t' b
  | int b=>obtain⟨t,rfl⟩:=rx;exact SeqAt.EqAt.int_int a t' b t
  | str b=>obtain⟨t,rfl⟩:=rx;exact SeqAt.EqAt.int_str a t' b t
  | _=>exact absurd (show false=true from fx) gV
 | str a =>
  obtain⟨t',rfl⟩:=ry
  cases x with
  | non=>cases rx;exact SeqAt.EqAt.str_none a t'
  | bl b=>cases rx;exact SeqAt.EqAt.str_bool a t' b
  | int b=>obtain⟨t,rfl⟩:=rx;exact SeqAt.EqAt.str_int a t' b t
  | str b=>obtain⟨t,rfl⟩:=rx;exact SeqAt.EqAt.str_str a t' b t
  | _=>exact absurd (show false=true from fx) gV
 | _=>exact absurd (show false=true from fy) gV
noncomputable def eqU(x:V)(u:Value):Bool:=match u with
 | .none=>eqV .non x
 | .bool b=>eqV (.bl b) x
 | .int i _=>eqV (.int i) x
 | .str z _=>eqV (.str z) x
 | _=>false
def vw{x y:V}{u:Value}(r:cF y u)(f:j7 y=true):eqU x u=eqV y x:=by
 cases y with
 | non=>cases r;rfl
 | bl b=>cases r;rfl
 | int i=>obtain⟨t,rfl⟩:=r;rfl
 | str z=>obtain⟨t,rfl⟩:=r;rfl
 | _=>exact absurd (show false=true from f) gV
theorem jb{x:V}:∀{xs:List V}{us:List Value},bB xs us->xs.all j7=true->us.any (eqU x)=xs.any λy=>eqV y x
 | _,_,.nil,_=>rfl
 | y::xs,u::us,.cons r t,f=>by
  rw [all_cons,and_eq_true] at f;rw [any_cons,any_cons,vw r f.1,jb t f.2]
theorem gp{A:t_}{s:cx}{x:V}{v:Value}(rx:cF x v)(fx:j7 x=true):∀{xs:List V}{us:List Value},bB xs us->xs.all j7=true->∀u∈us,SeqAt.EqAt A s u v (eqU x u)
 | _,_,.nil,_=>λu hu=>by cases hu
 | y::xs,u::us,.cons r t,f=>λu' hu=>by
  rw [all_cons,and_eq_true] at f
  rcases C_.mp hu with rfl|hu
  .rw [vw r f.1];exact yT r rx f.1 fx
  .exact gp rx fx t f.2 u' hu
noncomputable def inV(x:V)(xs:List V):Bool:=xs.any λy=>eqV y x
noncomputable def rIn(K:a_)(neg:Bool):R2:=λx y H Q=>∃p xs,y=.ref p/\(SqL K H p xs\/SqT K H p xs)/\j7 x=true/\xs.all j7=true/\Q (.bl (if neg then !inV x xs else inV x xs)) H
def rE:OpR X (compareOp .In) (rIn X.K false):=by
 intro pins s σ H x y v u Q I rx ry h;obtain⟨p,xs,rfl,hq,fx,fs,q⟩:=h;cases ry
 rcases hq with hq|hq
 .obtain⟨its,r,pl,hz⟩:=I.list hq;refine SeqAt.in_listAt (eqU x) pl.isList (λw hw=>gp rx fx r fs w (by simpa using hw)) ⟨.bl _,H,I,rfl,?_⟩;rw [show its.toArray.any (eqU x)=its.any (eqU x) by simp,jb r fs];exact q
 .obtain⟨its,r,pl,hz⟩:=I.tuple hq;refine SeqAt.in_tupleAt (eqU x) pl (λw hw=>gp rx fx r fs w (by simpa using hw)) ⟨.bl _,H,I,rfl,?_⟩;rw [show its.toArray.any (eqU x)=its.any (eqU x) by simp,jb r fs];exact q
def mh:OpR X (compareOp .NotIn) (rIn X.K true):=by
 intro pins s σ H x y v u Q I rx ry h;obtain⟨p,xs,rfl,hq,fx,fs,q⟩:=h;cases ry
 rcases hq with hq|hq
 .obtain⟨its,r,pl,hz⟩:=I.list hq;refine SeqAt.notIn_listAt (eqU x) pl.isList (λw hw=>gp rx fx r fs w (by simpa using hw)) ⟨.bl _,H,I,rfl,?_⟩;rw [show its.toArray.any (eqU x)=its.any (eqU x) by simp,jb r fs];exact q
 .obtain⟨its,r,pl,hz⟩:=I.tuple hq;refine SeqAt.notIn_tupleAt (eqU x) pl (λw hw=>gp rx fx r fs w (by simpa using hw)) ⟨.bl _,H,I,rfl,?_⟩;rw [show its.toArray.any (eqU x)=its.any (eqU x) by simp,jb r fs];exact q
def iw:bx X (.builtin "len") (λxs H Q=>∃p ys,xs=[.ref p]/\(SqL X.K H p ys\/SqT X.K H p ys)/\Q (.int ys.length) H):=by
 intro pins s σ H xs us Q I r h;obtain⟨p,ys,rfl,hq,q⟩:=h;obtain⟨u,rfl,rx⟩:=gn r;cases rx;have hn:=kl
 rcases hq with hq|hq
 .obtain⟨its,r',pl,hz⟩:=I.list hq;have hlen:=r'.length;exact Calls.call_len_list pl.isList (by simp only [p_] <;> omega) ⟨.int ys.length,H,I.tok _,⟨s.toks+1,by rw [p_,hlen]⟩,q⟩
 .obtain⟨its,r',pl,hz⟩:=I.tuple hq;have hlen:=r'.length;exact len_tuple pl (by simp only [p_] <;> omega) ⟨.int ys.length,H,I.tok _,⟨s.toks+1,by rw [p_,hlen]⟩,q⟩
def mj:bx X (.builtin "len") (λxs H Q=>∃z,xs=[.str z]/\z.length<=sizeLine/\Q (.int z.length) H):=by
 intro pins s σ H xs us Q I r h;obtain⟨z,rfl,hz,q⟩:=h;obtain⟨u,rfl,t,rfl⟩:=gn r;have hn:=kl;exact len_str (by omega) ⟨.int z.length,H,I.tok _,⟨_,rfl⟩,q⟩
def bx.or{f:Value}{r r':List V->Hp->VK->Prop}(h:bx X f r)(h':bx X f r'):bx X f (λxs H Q=>r xs H Q\/r' xs H Q):=by
 intro pins s σ H xs us Q I rs q
 rcases q with q|q
 .exact h pins s σ H xs us Q I rs q
 .exact h' pins s σ H xs us Q I rs q
def ml:bx X (.type "list") (λxs H Q=>∃p ys,xs=[.ref p]/\(SqL X.K H p ys\/SqT X.K H p ys)/\∀l,H l=none->Q (.ref l) (upd H l (.lst ys))):=by
 intro pins s σ H xs us Q I r h;obtain⟨p,ys,rfl,hq,q⟩:=h;obtain⟨u,rfl,rx⟩:=gn r;cases rx
 have fin:∀(its:List Value),bB ys its->ys.length<=sizeLine->∀(h':Heap) (c':Nat),(∀b o',s.heap.get? b=some o'->h'.get? b=some o') ->
   h'.get? s.heap.objs.size=some { cls:=.type "list",dict:=none,data:=.seq its.toArray c',slots:=#[] }->EP X pins σ Q (.ref s.heap.objs.size) { s with heap:=h' }:=λits r' hz h' c' kp e =>
  ⟨.ref s.heap.objs.size,_,I.laid (t':=s.toks) kp (l_ _) (show bC X.prog X.w _ h' _ (.lst ys) from ⟨hz,its,c',r',e⟩),rfl,q _ (I.hok.fresh (l_ _))⟩
 rcases hq with hq|hq
 .obtain⟨its,r',pl,hz⟩:=I.list hq;have hlen:=r'.length;obtain⟨o,ho,hc,n,hd⟩:=pl.isList;exact call_list_seq p (.inl rfl) ho hc hd (λh' c' kp e=>fin its r' hz h' c' kp e) (by simp only [p_] <;> omega)
 .obtain⟨its,r',pl,hz⟩:=I.tuple hq;have hlen:=r'.length;obtain⟨o,ho,hc,n,hd⟩:=pl;exact call_list_seq p (.inr rfl) ho hc hd (λh' c' kp e=>fin its r' hz h' c' kp e) (by simp only [p_] <;> omega)
def kY:bx X (.type "tuple") (λxs H Q=>∃p ys,xs=[.ref p]/\((SqL X.K H p ys/\∀l,H l=none->Q (.ref l) (upd H l (.tup ys)))\/(SqT X.K H p ys/\Q (.ref p) H))):=by
 intro pins s σ H xs us Q I r h;obtain⟨p,ys,rfl,h⟩:=h;obtain⟨u,rfl,rx⟩:=gn r;cases rx
 rcases h with ⟨hq,q⟩|⟨hq,q⟩
 .obtain⟨its,r',pl,hz⟩:=I.list hq;have hlen:=r'.length;refine call_tuple_list pl.isList (λh' kp=>?_) (by simp only [p_] <;> omega);have I1:Inv X pins σ H { s with heap:=h' }:=I.kept (t':=s.toks) kp
  have I2:Inv X pins σ (upd H h'.objs.size (.tup ys)) { s with heap:=h'.push { cls:=.type "tuple",data:=.seq its.toArray } } :=
   I1.laid (t':=s.toks) (λb o e=>cn _ e) (l_ _) (show bC X.prog X.w _ _ _ (.tup ys) from ⟨hz,its,r',IsTup.new _ _⟩)
  exact⟨.ref h'.objs.size,_,I2,rfl,q _ (I1.hok.fresh (l_ _))⟩
 .obtain⟨its,r',pl,hz⟩:=I.tuple hq;exact call_tuple_same pl ⟨.ref p,H,I,rfl,q⟩
noncomputable def tyV(K:a_)(T:String)(x:V)(H:Hp):Prop:=match x with
 | .str _=>T="str"
 | .int _=>T="int"
 | .ref p=>(T="list"/\∃xs,SqL K H p xs)\/(T="tuple"/\∃o,K.lookup p=some o/\o.cls=.type "tuple"/\o.dict=none) \/
   (T="dict"/\((∃kvs,H p=some (.dK kvs))\/∃kvs,H p=some (.dT kvs)))\/(T="set"/\∃S n,H p=some (.set S n))
 | _=>False
def vx{pins:List (Addr×Obj)}{σ:St}{H:Hp}{s:cx}{T:String}{x:V}{v:Value}(I:Inv X pins σ H s)(r:cF x v)(ty:tyV X.K T x H) :
  s.TypeIs v T/\∀a,v=.ref a->∃ob,s.heap.get? a=some ob/\ob.dict=none:=by
 cases x with
 | str z =>
  obtain⟨t,rfl⟩:=r;cases (show T="str" from ty);exact⟨typeIs_str s z t,λ_ e=>nomatch e⟩
 | int i =>
  obtain⟨t,rfl⟩:=r;cases (show T="int" from ty);exact⟨typeIs_int s i t,λ_ e=>nomatch e⟩
 | ref p =>
  cases r
  rcases ty with ⟨rfl,xs,hq⟩|⟨rfl,o,hk,hc,hd⟩|⟨rfl,hk⟩|⟨rfl,S,n,hk⟩
  .obtain⟨its,_,pl,_⟩:=I.list hq;refine⟨pl.isList.typeIs,λa e=>?_⟩;cases e;obtain⟨o,n,e,c,hd,_⟩:=pl;exact⟨o,e,hd⟩
  .refine⟨⟨o,I.kIn p o hk,hc⟩,λa e=>?_⟩;cases e;exact⟨o,I.kIn _ o hk,hd⟩
  .have z:∃o,s.heap.get? p=some o/\o.ExactDict:=by
    rcases hk with ⟨kvs,hk⟩|⟨kvs,hk⟩
    .obtain⟨_,_,_,_,o,_,_,e,ex,_⟩:=I.hok p _ hk;exact⟨o,e,ex⟩
    .obtain⟨_,_,_,_,o,_,_,e,ex,_⟩:=I.hok p _ hk;exact⟨o,e,ex⟩
   obtain⟨o,e,ex⟩:=z;refine⟨⟨o,e,ex.1⟩,λa e2=>?_⟩;cases e2;exact⟨o,e,ex.2.1⟩
  .obtain⟨o,_,_,_,e,ex,_⟩:=I.hok p _ hk;refine⟨⟨o,e,ex.1⟩,λa e2=>?_⟩;cases e2;exact⟨o,e,ex.2.1⟩
 | _=>exact Eu ty
noncomputable def A6(K:a_)(T:String)(r:V->List V->Hp->VK->Prop)(to:TE):TE:=λσ H Q=>to σ H λx H1=>tyV K T x H1/\r x [] H1 Q
noncomputable def tBM(K:a_)(T:String)(r:V->List V->Hp->VK->Prop)(to:TE)(t:TA):TE:=λσ H Q=>to σ H λx H1=>tyV K T x H1/\t σ H1 λxs H2=>r x xs H2 Q
variable {o e:Expr}{es:List Expr}{to:TE}{t:TA}{name:Str}{apos cpos:Pos}{T id:String}{r:V->List V->Hp->VK->Prop}
def yU(pa:PlainAttrs T)(slot:Slot T name id)(hty:typeOf (.builtin id)=pure (.type "method_descriptor"))(hm:MtR X id r)(ho:PE X o to)
  (hbase:attributeBase o name X.env (eval o X.env)=eval o X.env:=by rfl) (hline:(apos.endLine == cpos.line)=true:=by rfl):PE X (.Call (.Attribute o name apos) [] [] cpos) (A6 X.K T r to):=by
 intro pins s σ H Q I h;refine wpAny_Call_method0_late hbase hline (thn (ho pins s σ H _ I h) λv s1 ⟨x,H1,I1,r1,ty,q1⟩=>?_);obtain⟨h1,h2⟩:=vx I1 r1 ty;exact⟨T,id,pa,slot,hty,h1,h2,Calls.callWith_builtin rfl (PySem.evalArgs_none (hm pins s1 σ H1 x [] v [] Q I1 r1 .nil q1))⟩
def Bo(pa:PlainAttrs T)(slot:Slot T name id)(hty:typeOf (.builtin id)=pure (.type "method_descriptor"))(hm:MtR X id r)(ho:PE X o to)(ha:PA X (e::es) t)
  (hbase:attributeBase o name X.env (eval o X.env)=eval o X.env:=by rfl)
  (hfew:((backTo cpos (starEach (e::es) X.env)).all (λx=>!x.1) && (backToKw cpos (keywordEach [] X.env)).all (λx=>x.1.isSome)
   && decide ((e::es).length+([]:List Keyword).length+(if ([]:List Keyword).isEmpty then 0 else 1)<30))=true:=by rfl)
  (hline:(apos.endLine == cpos.line)=true:=by rfl) (hs:starEach (e::es) X.env=(false,eval e X.env)::starEach es X.env:=by rfl) (hplain:(backTo cpos (starEach es X.env)).any (·.1)=false:=by rfl) :
  PE X (.Call (.Attribute o name apos) (e::es) [] cpos) (tBM X.K T r to t):=by
 intro pins s σ H Q I h;refine wpAny_Call_method_late hbase hfew hline rfl (thn (ho pins s σ H _ I h) λv s1 ⟨x,H1,I1,r1,ty,q1⟩=>?_);obtain⟨h1,h2⟩:=vx I1 r1 ty;refine⟨T,id,pa,slot,hty,h1,h2,?_⟩;have hA:=ha cpos pins s1 σ H1 _ I1 q1;rw [hs] at hA ⊢;refine Calls.callWith_builtin (by show (false || (backTo cpos (starEach es X.env)).any (·.1))=false;rw [hplain] <;> rfl) (Calls.evalArgs_plain ?_);exact thn hA λus s2 ⟨vs,H2,I2,r2,q2⟩=>hm pins s2 σ H2 x vs v us Q I2 r1 r2 q2
end
noncomputable def MtM(X:Cx)(id:String)(r:V->List V->Hp->VK->Prop):Prop :=
 ∀(pins:List (Addr×Obj)) (s:cx) (σ:St) (H:Hp) (x:V) (xs:List V) (v:Value) (us:List Value) (Q:VK),Inv X pins σ H s->cF x v->bB xs us->r x xs H Q ->
  wpAny (model X.prog X.w) X.A (call (.builtin id) (v::us)) (EP X pins σ Q) X.xe s
theorem bB.one:∀{x:V}{us:List Value},bB [x] us->∃u,us=[u]/\cF x u
 | _,_,.cons r .nil=>⟨_,rfl,r⟩
theorem bB.zero:∀{us:List Value},bB [] us->us=[]
 | _,.nil=>rfl
theorem bB.rep{xs:List V}{us:List Value}(h:bB xs us):∀k:Nat,bB (u_ k xs).flatten (u_ k us).flatten
 | 0=>.nil
 | k+1=>by
  rw [replicate_succ,replicate_succ,flatten_cons,flatten_cons];exact bB.append h (bB.rep h k)
theorem mn(its:List Value):∀(k:Nat) (acc:List Value),
  List.foldl (λx1 x2=>x1++x2) acc.toArray (u_ k its.toArray)=(acc++(u_ k its).flatten).toArray
 | 0,acc=>by simp
 | k+1,acc=>by
  have e:acc.toArray++its.toArray=(acc++its).toArray:=by simp
  have e2:(acc++its)++(u_ k its).flatten=acc++(u_ (k+1) its).flatten:=by
   rw [replicate_succ,flatten_cons,append_assoc]
  rw [<- e2,<- mn its k (acc++its),<- e,replicate_succ,foldl_cons]
section
variable {X:Cx}{pins:List (Addr×Obj)}{σ:St}{H:Hp}{s:cx}{l b:Addr}{xs ys zs:List V}
def Inv.lset{its its':List Value}{n:Nat}{f:Array Value->Array Value}{t':Nat}(I:Inv X pins σ H s)(hH:H l=some (.lst xs))
  (e:s.heap.get? l=some { cls:=.type "list",data:=.seq its.toArray n }) (hf:f its.toArray=its'.toArray) (hv:bB ys its') (hz:ys.length<=sizeLine) :
  Inv X pins σ (upd H l (.lst ys)) { s with heap:=s.heap.update l (FJ f),toks:=t' }:=by
 have q:=PySem.IsL.update e f;rw [hf] at q;refine I.write (x:=l) (e:=l) (by rw [hH];exact trivial) (.inl rfl) (λb' u hb hu=>(Dz s.heap (FJ f) (EA hb)).trans hu) ⟨_,q⟩ ?_;exact⟨hz,its',_,hv,q⟩
def Inv.lnew{its:List Value}{t':Nat}(I:Inv X pins σ H s)(hv:bB ys its)(hz:ys.length<=sizeLine) :
  Inv X pins σ (upd H s.heap.objs.size (.lst ys)) { s with heap:=s.heap.push { cls:=.type "list",data:=.seq its.toArray },toks:=t' } :=
 I.laid (λ_ _ q=>cn _ q) (l_ _) ⟨hz,its,0,hv,f_ _ rfl⟩
def Inv.fresh(I:Inv X pins σ H s):H s.heap.objs.size=none:=I.hok.fresh (l_ _)
def Inv.lstM(I:Inv X pins σ H s)(hH:H l=some (.lst xs)):xs.length<=sizeLine/\∃(its:List Value) (n:Nat),bB xs its/\xs.length=its.length/\s.heap.get? l=some { cls:=.type "list",data:=.seq its.toArray n }:=by
 obtain⟨z,its,n,r,e⟩:=I.hok l _ hH;exact⟨z,its,n,r,r.length,e⟩
def pM{n:Nat}(h:n<=sizeLine):Em n=false:=by
 unfold Em;exact decide_eq_false (by omega)
end
section
variable {X:Cx}
noncomputable def rF:V->List V->Hp->VK->Prop:=λx vs H Q=>∃l xs y,x=.ref l/\vs=[y]/\H l=some (.lst xs)/\xs.length<sizeLine/\Q .non (upd H l (.lst (xs++[y])))
def dN:MtM X "list.append" rF:=by
 intro pins s σ H x vs v us Q I rx rv h;obtain⟨l,xs,y,rfl,rfl,hH,hz,q⟩:=h;cases rx;obtain⟨u,rfl,ru⟩:=rv.one;obtain⟨z,its,n,r,hl,e⟩:=I.lstM hH;refine call_meets F.slot_list_append ⟨_,e,rfl⟩ F.entry_list_append (F.args_list_append_2 _ _) (PySem.list_append l its.toArray n u (by rw [p_];omega)) ⟨e,?_⟩;refine⟨.non,_,I.lset (its':=its++[u]) hH e (by simp) (r.append (.cons ru .nil)) ?_,rfl,q⟩;rw [length_append,length_singleton]
 omega
noncomputable def rG:V->List V->Hp->VK->Prop:=λx vs H Q=>∃l b xs zs,x=.ref l/\vs=[.ref b]/\H l=some (.lst xs)/\H b=some (.lst zs)/\xs.length+zs.length<=sizeLine/\Q .non (upd H l (.lst (xs++zs)))
def rH:MtM X "list.extend" rG:=by
 intro pins s σ H x vs v us Q I rx rv h;obtain⟨l,b,xs,zs,rfl,rfl,hH,hB,hz,q⟩:=h;cases rx;obtain⟨u,rfl,ru⟩:=rv.one;cases ru;obtain⟨z,its,n,r,hl,e⟩:=I.lstM hH;obtain⟨z2,its2,n2,r2,hl2,e2⟩:=I.lstM hB;have hsz:its.toArray.size+its2.toArray.size<=sizeLine:=by rw [p_,p_];omega
 have hlong:¬ (!its.toArray.isEmpty && Em (its.toArray.size+its2.toArray.size))=true:=by
  rw [pM hsz,E7];exact gV
 refine call_meets F.slot_list_extend ⟨_,e,rfl⟩ F.entry_list_extend (F.args_list_extend_2 _ _)
  (AutoSeq1.list_extend_list_list_0 l its.toArray n b its2.toArray n2 hlong (by rw [p_];omega) (by omega)) ⟨e,e2,?_⟩
 refine⟨.non,_,I.lset (its':=its++its2) hH e (by simp) (r.append r2) ?_,rfl,q⟩;rw [length_append];omega
noncomputable def Cv:R2:=λx y H Q=>∃l k xs,x=.ref l/\y=.int k/\H l=some (.lst xs)/\-(2^63)<=k/\k<2^63/\xs.length*k.toNat<=sizeLine /\
 ∀p,H p=none->Q (.ref p) (upd H p (.lst (u_ k.toNat xs).flatten))
def wJ{α:Type}(xs:List α)(k:Nat):(u_ k xs).flatten.length=k*xs.length:=by
 induction k with
 | zero=>simp
 | succ k ih=>rw [replicate_succ,flatten_cons,length_append,ih,succ_mul,add_comm]
def yV:OpR X (binaryOp .Mult) Cv:=by
 intro pins s σ H x y v u Q I rx ry h;obtain⟨l,k,xs,rfl,rfl,hH,h1,h2,hz,q⟩:=h;cases rx;obtain⟨t,rfl⟩:=ry;obtain⟨z,its,n,r,hl,e⟩:=I.lstM hH;have hlen:its.toArray.size*k.toNat<=sizeLine:=by rw [p_,<- hl];exact hz
 have hcap:¬ its.toArray.size*k.toNat > (2^63 - 1) / 8:=by
  have:(sizeLine:Nat)<=(2^63 - 1) / 8:=by decide
  omega
 have hfit:¬ (!Builtin.List.listFitsIndex k)=true:=by
  rw [fitsIndex_both h1 h2];exact gV
 have hlong:¬ Em (its.toArray.size*k.toNat)=true:=by
  rw [pM hlen];exact gV
 have hnew:List.foldl (λx1 x2=>x1++x2) #[] (u_ (if its.toArray.isEmpty=true then 0 else k.toNat) its.toArray)=(u_ k.toNat its).flatten.toArray:=by
  have f0:∀m:Nat,List.foldl (λx1 x2=>x1++x2) #[] (u_ m its.toArray)=(u_ m its).flatten.toArray:=λm=>by
   have:=mn its m [];rw [nil_append] at this;exact this
  rw [f0]
  cases its with
  | nil=>simp
  | cons a r'=>rw [if_neg (by simp)]
 refine wpAny_binaryOp_repeat_ref (T:="list") (U:="int") (by decide) ⟨_,e,rfl⟩ (λs'=>typeIs_int s' k t) noFill_list_mul F.fills_int_mul F.slot_int_rmul repeat_list F.slot_int_index.lookup
  (call_meets F.slot_int_rmul (typeIs_int s k t) F.entry_int_rmul (F.args_int_rmul_2 _ _) (int___rmul___int_list k t l its.toArray n)
   ⟨e,rfl,⟨_,e,rfl⟩,call_meets F.slot_list_mul ⟨_,e,rfl⟩ F.entry_list_mul (F.args_list_mul_2 _ _) (AutoListH.list___mul___list_int_3 l its.toArray n k t hfit hcap hlong) ⟨e,?_⟩⟩)
 rw [hnew];exact⟨.ref _,_,I.lnew (t':=s.toks) (r.rep k.toNat) (by rw [wJ,mul_comm];exact hz),rfl,q _ I.fresh⟩
end
end L2
namespace Att
open PySem PySem.W PySem.Calls PyProof.Rows
def jc{P:Params}{h:Heap}:∀(ns:List Int) (vs:List Value),WellAll P h vs (ns.map WData.int)->IntsAre vs ns:=by
 intro ns
 induction ns with
 | nil =>
  intro vs w;rw [map_nil] at w;cases w;exact .nil
 | cons n ns ih =>
  intro vs w;rw [map_cons] at w
  cases w with
  | cons a b =>
   cases a;exact .cons _ _ (ih _ b)
def rJ{l:OpenLaw}{n:Nat}(hn:l.most=some n){P:Params}{h:Heap}{args:List WData}{vals:List Value}
  (hpre:l.row.toRowW.claim.pre args=true) (hwl:WellAll P h vals args) :
  ∃a vs ns,vals=[x_ a]/\args=[WData.list (ns.map WData.int)]/\h.get? a=some { cls:=.type "list",data:=.seq vs.toArray }/\IntsAre vs ns/\ns.length<=n:=by
 have hsh:WShape.hasAll [] args [.list .int]=true:=(pre_splitW hpre).1;have hc:l.pre.holds [] { args:=args }=true:=(pre_splitW hpre).2;obtain⟨d,r,rfl,h1,h2⟩:=hasAllW_cons hsh;obtain rfl:=hasAllW_nil h2;obtain⟨xs,rfl,h3⟩:=hasW_list h1;obtain⟨ns,rfl⟩:=items_int h3
 have hlen:ns.length<=n:=by
  unfold OpenLaw.pre at hc
  have h4:(WTm.not (.lt (.lit (.int (n:Int))) (.len (.arg 0)))).holds [] { args:=[.list (ns.map .int)] }=true:=by
   have h4:=(holds_andW hc).1;rw [hn] at h4;exact h4
  have h5:=condW_of h4 (w_not (w_lt w_lit (w_len_list (w_arg rfl))));rw [length_map] at h5;refine le_of_not_lt λq=>?_;have q':(n:Int)<((ns.length:Nat):Int):=by omega
  first
   | (rw [decide_eq_true q'] at h5;exact absurd h5 (by decide))
   | (simp at h5;omega)
 cases hwl with
 | cons w1 w2 =>
  cases w2
  cases w1 with
  | list ho hall=>exact⟨_,_,ns,rfl,rfl,ho,jc ns _ hall,hlen⟩
def rK(l:OpenLaw)(args:List WData):l.row.toRowW.claim.post args (.bool true) args=true :=
 postW_of (r:=l.row.toRowW) (X:=(true == true))
  (show WShape.has [] (.bool true) .bool=true by first|rfl|decide|simp [WShape.has,WShape.arms,WShape.armsAll])
  (show (WTm.eq .res (.lit (.bool true))).value [] { args:=args,res:=some (.bool true),after:=args }=some (.bool (true == true)) from w_eq_bool (w_res rfl) w_lit) rfl
def attach_call{l:OpenLaw}{n:Nat}{q:n_}{loose:List Str}{XP:(Str->Option Value)->Heap->Prop}{YP:World->Heap->Prop}{d:DefRec}
  (hn:l.most=some n) (hdf:d.params.defaults=[])
  (call:∀(w:World) (s₀ s₁:cx) (mg mb:Str->Option Value) (fa:Addr) (o:Obj) (pm cd doc:Value) (a:Addr) (vs:List Value) (ns:List Int),
   Ground q loose [] XP w s₀ mg mb s₁.heap->YP w s₁.heap ->
   s₁.heap.get? fa=some o->o.data=.func (docDef d.name d.params d.body d.scope pm cd doc)->s₁.heap.CodeRec cd d.name->mg d.name=some (.ref fa) ->
   s₁.heap.get? a=some { cls:=.type "list",data:=.seq vs.toArray }->IntsAre vs ns->ns.length<=n->s₁.gens=#[] ->
   codeAny (model l.prog w) callerA (.call (.ref fa) ⟨[.ref a],[]⟩) (λr s'=>r=.ok (.ret (.bool true))/\OldK s₁.heap s'.heap/\s'.os=s₁.os/\FW s'.gens) s₁) :
  WalkO q loose XP YP l.row.toRowW d [] (λf vs=>PySem.call f vs):=by
 intro w s₀ s₁ mg mb G Y fa o pm cd doc dV kV ho hd hcd hD hmg hg args vals as hpre hlay hrd hwl hlo;obtain rfl:dV=.none:=Dflts.none hD hdf;obtain rfl:kV=.none:=Dflts.noKw hD;obtain⟨a,vs,ns,rfl,rfl,hobj,hints,hlen⟩:=rJ hn hpre hwl;refine enter_call (Fw (call w s₀ s₁ mg mb fa o pm cd doc a vs ns G Y ho (fd_plain hd) hcd hmg hobj hints hlen hg) λr s' hq=>?_);obtain⟨rfl,h2,h3,h4⟩:=hq;exact⟨.inl ⟨.bool true,.bool true,[],rfl,λ_=>rfl,.bool true,rK l _,λ_=>⟨List.Pairwise.nil,λ_ hm=>(nomatch hm)⟩⟩,h2,h3,h4⟩
end Att
namespace L2
open PySem PySem.Spec PyProof.Rows
theorem mq:∀{vs:List Value}{ns:List Int},IntsAre vs ns->bB (ns.map V.int) vs
 | _,_,.nil=>.nil
 | _,_,.cons n t h=>.cons ⟨t,rfl⟩ (mq h)
noncomputable def rL(s:Stmt)(j:Nat):Stmt:=match s with
 | .ClassDef _ _ _ body _ _ _ _ _ _ _=>body.getD j (.Pass ⟨0,0,0,0⟩)
 | _=>.Pass ⟨0,0,0,0⟩
noncomputable def bb(s:Stmt):Gb:=match s with
 | .FunctionDef _ a _ _ _ _ _ _ _ _=>a
 | _=>{ posonlyargs:=[],args:=[],vararg:=none,kwonlyargs:=[],kw_defaults:=[],kwarg:=none,defaults:=[] }
noncomputable def aJ(s:Stmt):List Stmt:=match s with
 | .FunctionDef _ _ b _ _ _ _ _ _ _=>b
 | _=>[]
noncomputable def ah(s:Stmt):Scope:=match s with
 | .FunctionDef _ _ _ _ _ _ sc _ _ _=>sc
 | _=>{ kind:=.function,names:=[],isGenerator:=false,isCoroutine:=false }
abbrev CX0:CXT:=λ_ _ _ _ _ _=>False
abbrev E0:XK:=λ_ _ _=>False
def ui{X:Cx}:kq CX0 X E0:=λ_ _ _ _ _ _ _ h=>h.elim
structure Fun (K:a_) (x qual:Str) (st:Stmt) (f:Addr) (fd:DW):Prop where
 ex:∃(oc:Value) (od:Option Addr) (kV doc pm:Value) (an:Option Addr) (cdv ct:Value) (osl:Array (Option Value)),
  fd=v_ x qual (bb st) (aJ st) (ah st) .none kV doc pm an cdv ct/\K.lookup f=some ⟨oc,od,.func fd,osl⟩/\Dw K cdv qual=true
 kp:s_ K (.ref f)=true
section
variable {P:n_}{w:World}{K:a_}{mg:Str->Option Value}{base:Heap}
def Fun.ok{x qual:Str}{st:Stmt}{f:Addr}{fd:DW}{N ps:List Str}{k:Nat}{sp:Sp}(F:Fun K x qual st f fd)(S:aB N ps (ah st))(len:∀vs H Q E,sp vs H Q E->vs.length=ps.length)
  (hbody:∀(cdv:Value) (A:t_) (outer:List Env) (s:cx) (H:Hp) (vs:List V) (Q:VK) (E:XK),cQ k (A.deeper (envOfC qual (ah st) s.heap.objs.size f cdv))->sp vs H Q E ->
   ∃t,PSs (md CX0 P w K mg base N qual (ah st) f cdv A outer s H E).nox (aJ st) t/\t { nx:=λ_ H'=>Q .non H',rt:=Q } (start N vs) H):lU P w K mg base CX0 (k+1) f fd ps sp:=by
 obtain⟨oc,od,kV,doc,pm,an,cdv,ct,osl,rfl,lk,hcd⟩:=F.ex;refine wB lk hcd S len λA outer s H vs Q E hr hsp=>?_;obtain⟨t,h,q⟩:=hbody cdv A outer s H vs Q E hr hsp;exact⟨t,h.nox,q⟩
def Fun.binds{x qual:Str}{st:Stmt}{f:Addr}{fd:DW}{ps:List Str}(F:Fun K x qual st f fd)
  (h:∀(kV doc pm:Value) (an:Option Addr) (cdv ct:Value) (us:List Value),us.length=ps.length->bindArgs (v_ x qual (bb st) (aJ st) (ah st) .none kV doc pm an cdv ct) ⟨us,[]⟩=pure (ps.zip us)):iJ K fd ps []:=by
 obtain⟨oc,od,kV,doc,pm,an,cdv,ct,osl,rfl,lk,hcd⟩:=F.ex;exact .all (h kV doc pm an cdv ct)
def rM{x qual:Str}{st:Stmt}{f:Addr}{oc:Value}{od an:Option Addr}{osl:Array (Option Value)}{kV doc pm cdv ct:Value}(l:K.lookup f=some ⟨oc,od,.func (v_ x qual (bb st) (aJ st) (ah st) .none kV doc pm an cdv ct),osl⟩)
  (c:Dw K cdv qual=true) (k:s_ K (.ref f)=true):Fun K x qual st f (v_ x qual (bb st) (aJ st) (ah st) .none kV doc pm an cdv ct):=⟨⟨oc,od,kV,doc,pm,an,cdv,ct,osl,rfl,l,c⟩,k⟩
end
section
variable {X:Cx}
theorem pv(i:Nat){x:Str}{pos:Pos}(hN:X.N[i]?=some x:=by rfl)(hv:Vis X.env.scope x:=by first|exact Or.inl rfl|exact Or.inr (Or.inl rfl)|exact Or.inr (Or.inr rfl))(hd:(x == ("__debug__":Str))=false:=by decide)
  (hcd:(x == ("__classdict__":Str))=false:=by decide):PE X (.Name x pos) (aV i):=yr hN hv hd hcd
end
def S(l:List Nat):Str:=⟨l.toArray⟩
def eP(l:List Nat):(S l).length=l.length:=by simp [S,Str.length]
def yW(a b:List Nat):S a++S b=S (a++b):=by
 show (⟨a.toArray++b.toArray⟩:Str)=⟨(a++b).toArray⟩
 rw [append_toArray]
def wK{a b:List Nat}(h:S a=S b):a=b:=by
 have h':=congrArg (λx:Str=>x.cps.toList) h;simpa [S] using h'
def Db{a b:List Nat}(h:a≠b):S a≠S b:=λe=>h (wK e)
def yX{a b:List Nat}:V.str (S a)=V.str (S b) ↔ a=b:=⟨λh=>wK (V.str.inj h),λh=>by rw [h]⟩
def yY(a b:List Nat):decide (V.str (S a)=V.str (S b))=decide (a=b):=by
 by_cases h:a=b
 .rw [decide_eq_true h,decide_eq_true (yX.mpr h)]
 .rw [decide_eq_false h,decide_eq_false (λz=>h (yX.mp z))]
noncomputable def cA{α:Type}(xs:List α)(lo hi:Option Int):List α:=(xs.drop (HT.sIx xs.length 0 lo)).take (HT.sIx xs.length xs.length hi - HT.sIx xs.length 0 lo)
def dD{α:Type}(xs:List α)(lo hi:Option Int):(cA xs lo hi).length<=xs.length:=by
 unfold cA;rw [length_take,length_drop];omega
def rN(xs:List V)(lo hi:Option Int):wC xs lo hi=cA xs lo hi:=rfl
def yZ(lo hi:Option Int)(n:Nat):D9 lo hi 1 n=(c_ (HT.sIx n n hi - HT.sIx n 0 lo)).map (λk=>HT.sIx n 0 lo+k):=by
 have key:∀(o:Option Int) (d:Nat),d<=n->(match o with|none=>(d:Int)|some i=>max 0 (min (if i<0 then i+(n:Int) else i) (n:Int)))=((HT.sIx n d o:Nat):Int):=by
  intro o d hd
  cases o with
  | none=>rfl
  | some i =>
   show max 0 (min (if i<0 then i+(n:Int) else i) (n:Int))=_;rw [<- HT.clip_eq i n d]
   by_cases h:i<0
   .rw [if_pos h,if_pos h];omega
   .rw [if_neg h,if_neg h];omega
 have k1:=key lo 0 (EI _);have k2:=key hi n (l_ _);unfold D9;simp only [show (1:Int) > 0 by decide,if_true];refine Eq.trans (congrArg (λa=>sliceRange a _ 1) k1) (Eq.trans (congrArg (λb=>sliceRange _ b 1) k2) ?_);unfold sliceRange;simp only [show (1:Int) > 0 by decide,if_true];generalize HT.sIx n 0 lo=a;generalize HT.sIx n n hi=b
 have ec:(if (a:Int)<(b:Int) then ((b:Int) - (a:Int)+1 - 1) / 1 else 0).toNat=b - a:=by
  split <;> omega
 rw [ec];apply map_congr_left;intro k _;omega
def rO{α:Type}(l:List α)(a m:Nat):((c_ m).map (λk=>a+k)).filterMap (λi=>l[i]?)=(l.drop a).take m:=by
 induction m generalizing a with
 | zero=>simp
 | succ m ih =>
  rw [range_succ_eq_map,map_cons,map_map,E2];have e:((λk=>a+k) ∘ Nat.succ)=λk=>(a+1)+k:=by funext k;simp;omega
  rw [e,ih (a+1)]
  cases h:l[a+0]? with
  | none =>
   have hl:l.length<=a:=by simpa using List.getElem?_eq_none_iff.mp h
   rw [EB hl,EB (by omega)];simp
  | some v =>
   have hl:a<l.length:=by simpa using (g_.mp h).1
   have hv:l[a]=v:=by simpa using (g_.mp h).2
   rw [drop_eq_getElem_cons hl,hv];rfl
def wL(l:List Nat)(lo hi:Option Int):Txt.slice (S l) lo hi=S (cA l lo hi):=by
 have e1:(D9 lo hi 1 (S l).length).filterMap ((S l).cps[·]?)=cA l lo hi:=by
  rw [yZ,eP];have e:(λi:Nat=>(S l).cps[i]?)=λi:Nat=>l[i]?:=by funext i;simp [S]
  rw [e];exact rO l _ _
 unfold Txt.slice
 split
 .rename_i h;have h2:(D9 lo hi 1 (S l).length).length=(S l).length:=by simpa using h
  rw [yZ,eP,length_map,C0] at h2;have a0:=HT.sIx_le l.length 0 (EI _) lo;have b0:=HT.sIx_le l.length l.length (l_ _) hi;unfold cA
  by_cases hz:l.length=0
  .have:l=[]:=Ec.mp hz;subst this;simp
  .have ha:HT.sIx l.length 0 lo=0:=by omega
   have hb:HT.sIx l.length l.length hi=l.length:=by omega
   rw [ha,hb];simp
 .rw [e1];rfl
def eT{α:Type}(l:List α)(k:Nat):cA l none (some (k:Int))=l.take k:=by
 unfold cA;rw [HT.sIx_nat];show (l.drop 0).take (min k l.length - 0)=l.take k;rw [drop_zero,Fx]
 by_cases h:k<=l.length
 .rw [GC h]
 .rw [Gi (by omega),DZ (l_ _),DZ (by omega)]
def dO{α:Type}(l:List α)(k:Nat):cA l (some (k:Int)) none=l.drop k:=by
 unfold cA;rw [HT.sIx_nat];show (l.drop (min k l.length)).take (l.length - min k l.length)=l.drop k
 by_cases h:k<=l.length
 .rw [GC h,DZ (by rw [length_drop];exact l_ _)]
 .rw [Gi (by omega),sub_self,take_zero,EB (by omega)]
def mr{α:Type}(l:List α)(i j:Nat):cA l (some (i:Int)) (some (j:Int))=(l.drop i).take (j - i):=by
 unfold cA;rw [HT.sIx_nat,HT.sIx_nat]
 by_cases h:i<=l.length
 .rw [GC h]
  by_cases h2:j<=l.length
  .rw [GC h2]
  .rw [Gi (by omega),DZ (by rw [length_drop];omega),DZ (by rw [length_drop];omega)]
 .have e:min i l.length=l.length:=Gi (by omega);rw [e,EB (l_ _),EB (by omega),take_nil,take_nil]
section
variable {X:Cx}
noncomputable def Cw:V->Option Int->Option Int->Hp->VK->Prop:=λx lo hi H Q=>∃l,x=.str (S l)/\l.length<=sizeLine/\Q (.str (S (cA l lo hi))) H
def y0:SlR X Cw:=by
 intro pins s σ H x v vl vu lo hi sl Q I rx hs pl pu h;obtain⟨l,rfl,hz,q⟩:=h;obtain⟨t,rfl⟩:=rx;refine⟨"str",_,slot_str_getitem.lookup,typeIs_str s _ t,?_⟩
 obtain⟨l',hl',el⟩:∃l':Option (Int×Tok),vl=partValue l'/\l'.map (·.1)=lo:=by
  cases pl with
  | none=>exact⟨none,rfl,rfl⟩
  | int i t=>exact⟨some (i,t),rfl,rfl⟩
 obtain⟨u',hu',eu⟩:∃l':Option (Int×Tok),vu=partValue l'/\l'.map (·.1)=hi:=by
  cases pu with
  | none=>exact⟨none,rfl,rfl⟩
  | int i t=>exact⟨some (i,t),rfl,rfl⟩
 subst hl' hu';refine wpAny_getItem_str_slice (l:=l') (u:=u') (st:=none) hs rfl ?_;have hm:∀t' k,EP X pins σ Q (.str (Txt.slice (S l) lo hi) t') { s with toks:=k }:=λt' k=>⟨.str (S (cA l lo hi)),H,I.tok _,⟨t',by rw [wL]⟩,q⟩
 have hlen:(Txt.slice (S l) lo hi).length<=sizeLine:=r_ (Txt.slice_le _ _ _) (by rw [eP];exact hz);subst el eu;exact post_val_or_str ⟨hlen,hm⟩
noncomputable def uj{α:Type}(l:List α)(n:Int):List α:=(u_ n.toNat l).flatten
def rP(k:Nat)(l acc:List Nat):(u_ k l.toArray).foldl (·++·) acc.toArray=(acc++(u_ k l).flatten).toArray:=by
 induction k generalizing acc with
 | zero=>simp
 | succ k ih =>
  rw [replicate_succ,foldl_cons,append_toArray,ih (acc++l),replicate_succ,flatten_cons,append_assoc]
def Bp(l:List Nat)(n:Int):Txt.mul (S l) n=S (uj l n):=by
 unfold Txt.mul uj
 by_cases h:n<1
 .rw [if_pos h];have:n.toNat=0:=by omega
  rw [this];rfl
 .rw [if_neg h]
  split
  .rename_i h2;rw [eP] at h2;simp only [or_eq_true,beq_iff_eq] at h2
   rcases h2 with h2|h2
   .subst h2;simp [S]
   .have:l=[]:=Ec.mp h2;subst this;simp [S]
  .have e:=rP n.toNat l [];show (⟨_⟩:Str)=_
   have e':(u_ n.toNat (S l).cps).foldl (·++·) #[]=((u_ n.toNat l).flatten).toArray:=by
    simpa [S] using e
   rw [e'];rfl
def nJ{α:Type}(l:List α)(n:Int):(uj l n).length=n.toNat*l.length:=by
 unfold uj;rw [length_flatten,map_replicate,sum_replicate_nat]
def qv:OpR X (binaryOp .Mult) (λx y H Q=>∃l n,x=.str (S l)/\y=.int n/\-1000000<=n/\n<=1000000/\n.toNat*l.length<=sizeLine/\Q (.str (S (uj l n))) H):=by
 intro pins s σ H x y v u Q I rx ry h;obtain⟨l,n,rfl,rfl,h1,h2,hz,q⟩:=h;obtain⟨t,rfl⟩:=rx;obtain⟨t',rfl⟩:=ry;have hs:sizeLine=16777216:=EU;have hz':n.toNat*l.length<=16777216:=by rw [<- hs];exact hz
 refine SB.mul ⟨?_,λhn hc=>?_,λhn hc=>?_⟩ λt' k=>⟨.str (S (uj l n)),H,I.tok _,⟨t',by rw [Bp]⟩,q⟩
 .rw [decide_eq_false (by omega),decide_eq_false (by omega)];rfl
 .rw [eP];intro hgt
  have hl:l.length<=16777216:=by
   have:1*l.length<=n.toNat*l.length:=Gd _ (by omega);omega
  have hdiv:(2^63 - 1:Int) / 1000000<=(2^63 - 1) / n:=by
   apply le_ediv_of_mul_le (by omega);have:=mul_le_mul_of_nonneg_left h2 (show (0:Int)<=(2^63 - 1) / 1000000 by decide);have e2:((2^63 - 1:Int) / 1000000)*1000000<=2^63 - 1:=by decide
   omega
  have e3:(2^63 - 1:Int) / 1000000=9223372036854:=by decide
  omega
 .rw [eP];have:l.length*n.toNat<=16777216:=by rw [mul_comm];exact hz'
  exact decide_eq_false (by omega)
def rQ:OpR X (compareOp .LtE) (λx y H Q=>∃i j,x=.str i/\y=.str j/\Q (.bl (!decide (j.cps.toList<i.cps.toList))) H):=by
 intro pins s σ H x y v u Q I rx ry h;obtain⟨i,j,rfl,rfl,q⟩:=h;obtain⟨t,rfl⟩:=rx;obtain⟨t',rfl⟩:=ry;exact PySem.P.le_str ⟨.bl _,H,I,rfl,q⟩
end
noncomputable def Its(xs:List V):It:=⟨λi _=>i<xs.length,λi H x H'=>H'=H/\xs[i]?=some x,λi _=>xs.length=i⟩
def rR{M:Model}{A:t_}{E:Value->cx->Prop}{s:cx}{tg:Expr}{it:Addr}{u:Value}{Q:Unit->cx->Prop}(hu:∀a,u≠.ref a)(hQ:Q () s):wpAny M A (letOwnedTupleGo tg (.ref it) u) Q E s:=by
 unfold letOwnedTupleGo
 cases tg <;> first
  | exact e_ hQ
  | (cases u <;> first
    | exact e_ hQ
    | exact absurd rfl (hu _))
def jd{P:n_}{w:World}{K:a_}{tg:Expr}{it:Addr}{xs:List V}{n:Nat}{Pt:Nat->Value->Prop}{St:Nat->Heap->Prop}
  (W:∀A:t_,A.handled=none->Walks P w A it [it] [it] n Pt St) (hn:xs.length=n)
  (hv:∀i v,i<n->Pt i v->∃x,xs[i]?=some x/\cF x v) (hsc:∀i v,Pt i v->∀a,v≠.ref a)
  (hobj:∀i h,St i h->∃o,h.get? it=some o/\∀v,o.data≠.cell v)
  (hfr:∀i h h',St i h->(∀b∈[it],∀o,h.get? b=some o->h'.get? b=some o)->St i h')
  (hself:∀(A:t_) (i:Nat) (s:cx) (Q:Value->cx->Prop) (E:Value->cx->Prop),St i s.heap->Q (.ref it) s->wpAny (model P w) A (pyIter (.ref it)) Q E s) :
  wn P w K tg (Its xs) [it] it St where
 mem:=by simp
 obj:=λi h st b hb=>by
  have e:b=it:=by simpa using hb
  subst e;exact hobj i h st
 keep:=λi h h' st k=>hfr i h h' st k
 item:=by
  intro X hP hw hK hc i pins s σ H E I hf st hg;subst hP hw hK;obtain⟨f0,f1,f2,f3,f4,f5⟩:=hf it (by simp);refine (W X.A (I.ok.hd hc)).item i s _ _ (by rw [<- hn];exact hg) st λv h' tk hp st' kk=>?_;obtain⟨x,hx,rx⟩:=hv i v (by rw [<- hn];exact hg) hp;have I1:Inv X pins σ H { s with heap:=h',toks:=tk }:=I.turned (λb o hb e=>kk b o (by simpa using hb) e) f0 f1 f3 f4 f5;exact⟨v,rfl,rR (s:={ s with heap:=h',toks:=tk }) (hsc i v hp) ⟨x,H,I1,rx,⟨rfl,hx⟩,st',λb hb=>(hf b hb).1⟩⟩
 done:=by
  intro X hP hw hK hc i pins s σ H E I hf st hg;subst hP hw hK;obtain⟨f0,f1,f2,f3,f4,f5⟩:=hf it (by simp);have e:n=i:=hn.symm.trans hg;subst e;exact (W X.A (I.ok.hd hc)).done s _ _ st λh' tk kk=>⟨rfl,I.turned (λb o hb e=>kk b o (by simpa using hb) e) f0 f1 f3 f4 f5⟩
 self:=hself
section
variable {X:Cx}{tg:Expr}
noncomputable def eU(l:List Nat):List V:=l.map λc=>V.str (S [c])
def qw{l:List Nat}{i:Nat}{x:V}(h:(eU l)[i]?=some x):∃c,l[i]?=some c/\x=.str (S [c]):=by
 unfold eU at h;rw [k_] at h
 cases e:l[i]? with
 | none=>rw [e] at h;cases h
 | some c=>rw [e] at h;exact⟨c,rfl,(q_ h).symm⟩
def gQ(l:List Nat):(eU l).length=l.length:=length_map _
noncomputable def kZ(i:Int)(n:Nat):List V:=(c_ n).map λ(k:Nat)=>V.int (i - k)
def je(i:Int)(n:Nat):(kZ i n).length=n:=by simp [kZ]
def rS{i:Int}{n k:Nat}{x:V}(h:(kZ i n)[k]?=some x):k<n/\x=.int (i - k):=by
 unfold kZ at h;rw [k_] at h
 by_cases hk:k<n
 .rw [D0 hk] at h;exact⟨hk,(q_ h).symm⟩
 .rw [y_ (by simp;omega)] at h;cases h
noncomputable def y4(ta:TA):TI:=λσ H R=>ta σ H λvs H1=>∃i j:Int,vs=[.int i,.int j,.int (-1)]/\(-(2^60)<=i/\i<2^60/\-(2^60)<=j/\j<2^60)/\R (Its (kZ i (i - j).toNat)) H1
def fH(i j:Int):DR i j (-1)=(((i - j).toNat:Nat):Int):=by
 unfold DR;rw [if_neg (by decide)];simp only [neg_neg,ediv_one];split <;> omega
def mw{a b c:Expr}{ta:TA}{p pos:Pos}(hg:Gl X "range")(hm:X.mg "range"=none)(ha:PA X [a,b,c] ta)
  (hs:starEach [a,b,c] X.env=[(false,eval a X.env),(false,eval b X.env),(false,eval c X.env)]:=by rfl) (hs2:starEach [b,c] X.env=[(false,eval b X.env),(false,eval c X.env)]:=by rfl) :
  PI X tg (.Call (.Name "range" p) [a,b,c] [] pos) (y4 ta):=by
 intro pins s σ H R I h;refine Call_ (gm I hg hm boot_range (DD (thn (ha pos pins s σ H _ I h) λus s1 ⟨vs,H1,I1,r1,q1⟩=>?_) (by rw [hs,hs2]) (by rw [hs2];rfl)));obtain⟨i,j,e,⟨q1,q2,q3,q4⟩,q⟩:=q1;subst e
 cases r1 with
 | cons r rr =>
  cases rr with
  | cons r' rr =>
   cases rr with
   | cons r'' rr =>
    cases rr;obtain⟨t,rfl⟩:=r;obtain⟨t',rfl⟩:=r';obtain⟨t'',rfl⟩:=r'';refine call_range_3 (by decide) ?_ (.inl (Gf (by decide)))
    refine wpAny_pyIter_range (IsRange.new ..) ?_ ?_
    .unfold EL;rw [fH];simp only [Fy,and_eq_true,or_eq_true,decide_eq_true_eq,beq_iff_eq,show ¬ (-1:Int) > 0 by decide,if_false];omega
    have I2:Inv X pins σ H1 { s1 with heap:=s1.heap.push { cls:=.type "range",data:=.fields #[.int i t,.int j t',.int (-1) t''] },toks:=s1.toks }:=I1.kept λb o e=>cn _ e
    refine⟨_,[(s1.heap.push { cls:=.type "range",data:=.fields #[.int i t,.int j t',.int (-1) t''] }).objs.size],_,Its (kZ i (i - j).toNat),H1,rfl,I2.kept (t':=s1.toks) λb o e=>cn _ e,
     jd (λA hA=>Walks.range hA _ i (-1) (i - j).toNat) (je _ _) ?_ ?_ ?_ ?_ (λA i s Q E st q=>wpAny_pyIter_rangeiter st q),?_,λb hb=>?_,q⟩
    .rintro k v hk ⟨t,rfl⟩
     refine⟨.int (i - k),?_,t,?_⟩
     .unfold kZ;rw [k_,D0 hk];rfl
     .have e:i+(k:Int)*(-1)=i - k:=by omega
      rw [e]
    .rintro k v ⟨t,rfl⟩ a z;cases z
    .exact λk h st=>⟨_,st,λv z=>by
      have z':Data.fields _=Data.cell v:=z;cases z'⟩
    .exact λk h h' st kk=>kk _ (by simp) _ st
    .show IsRangeIter _ _ (i+((0:Nat):Int)*(-1)) ((((i - j).toNat:Nat):Int) - ((0:Nat):Int)) (-1);rw [<- fH];simp only [natCast_zero,Int.zero_mul,add_zero,Int.sub_zero];exact f_ _ rfl
    .have e:b=(s1.heap.push { cls:=.type "range",data:=.fields #[.int i t,.int j t',.int (-1) t''] }).objs.size:=by simpa using hb
     subst e;exact I2.fpOk (l_ _) (I2.hok.fresh (l_ _))
end
section
variable {X:Cx}
def nK:bx X (.builtin "isinstance") (λxs H Q=>∃x n t b,xs=[x,.ty n]/\nH X.K H x t/\FE X.K t (.type n)=some b/\Q (.bl b) H):=by
 intro pins s σ H xs us Q I r h;obtain⟨x,n,t,b,rfl,ty,e,q⟩:=h;obtain⟨u,w',rfl,rx,ry⟩:=t9 r;cases (show w'=Value.type n from ry);exact rB I rx ty e λtk=>⟨.bl b,H,I.tok _,rfl,q⟩
mutual
inductive DV (K:a_) (H:Hp):V->Gj->Prop
 | non:DV K H .non .none
 | bl (b:Bool):DV K H (.bl b) (.bool b)
 | int (i:Int):DV K H (.int i) (.int i)
 | str (x:Str):DV K H (.str x) (.str x)
 | lst {a:Addr}{xs:List V}{ds:List Gj}:SqL K H a xs->DVs K H xs ds->DV K H (.ref a) (.list ds)
 | tup {a:Addr}{xs:List V}{ds:List Gj}:SqT K H a xs->DVs K H xs ds->DV K H (.ref a) (.tuple ds)
inductive DVs (K:a_) (H:Hp):List V->List Gj->Prop
 | nil:DVs K H [] []
 | cons {x:V}{d:Gj}{xs:List V}{ds:List Gj}:DV K H x d->DVs K H xs ds->DVs K H (x::xs) (d::ds)
end
mutual
theorem DV.reads{pins:List (Addr×Obj)}{σ:St}{H:Hp}{s:cx}(I:Inv X pins σ H s):∀{x:V}{d:Gj}{u:Value},DV X.K H x d->cF x u->∃as,Reads s.heap u d as
 | _,_,u,.non,r=>by cases (show u=Et from r);exact⟨_,.none⟩
 | _,_,u,.bl b,r=>by cases (show u=Ej b from r);exact⟨_,.bool b⟩
 | _,_,u,.int i,r=>by obtain⟨t,e⟩:=(show ∃t,u=F_ i t from r);subst e;exact⟨_,.int i t⟩
 | _,_,u,.str x,r=>by obtain⟨t,e⟩:=(show ∃t,u=E_ x t from r);subst e;exact⟨_,.str x t⟩
 | _,_,u,.lst (a:=a) hq hs,r=>by
  cases (show u=x_ a from r);obtain⟨its,rv,pl,_⟩:=I.list hq;obtain⟨o,ho,hc,n,hd⟩:=pl.isList;obtain⟨as,ra⟩:=DVs.reads I hs rv;exact⟨_,.list ho hc hd ra⟩
 | _,_,u,.tup (a:=a) hq hs,r=>by
  cases (show u=x_ a from r);obtain⟨its,rv,pl,_⟩:=I.tuple hq;obtain⟨o,ho,hc,n,hd⟩:=pl;obtain⟨as,ra⟩:=DVs.reads I hs rv;exact⟨_,.tuple ho hc hd ra⟩
theorem DVs.reads{pins:List (Addr×Obj)}{σ:St}{H:Hp}{s:cx}(I:Inv X pins σ H s):∀{xs:List V}{ds:List Gj}{us:List Value},DVs X.K H xs ds->bB xs us->∃as,ReadsAll s.heap us ds as
 | _,_,_,.nil,.nil=>⟨_,.nil⟩
 | _,_,_,.cons h hs,.cons r rs=>by
  obtain⟨as,ra⟩:=DV.reads I h r;obtain⟨bs,rb⟩:=DVs.reads I hs rs;exact⟨_,.cons ra rb⟩
end
noncomputable def Bq(K:a_)(neg:Bool):R2:=λx y H Q=>∃da db,DV K H x da/\DV K H y db/\Gk da=true/\Gk db=true/\Q (.bl (if neg then !PyData.eqv da db else PyData.eqv da db)) H
def y6(hu:X.A.units+64<cLine):OpR X (compareOp .Eq) (Bq X.K false):=by
 intro pins s σ H x y v u Q I rx ry h;obtain⟨da,db,ha,hb,sa,sb,q⟩:=h;obtain⟨as,ra⟩:=DV.reads I ha rx;obtain⟨bs,rb⟩:=DV.reads I hb ry;exact eq_dataH ra rb sa sb hu ⟨.bl _,H,I,rfl,q⟩
def y8(hu:X.A.units+64<cLine):OpR X (compareOp .NotEq) (Bq X.K true):=by
 intro pins s σ H x y v u Q I rx ry h;obtain⟨da,db,ha,hb,sa,sb,q⟩:=h;obtain⟨as,ra⟩:=DV.reads I ha rx;obtain⟨bs,rb⟩:=DV.reads I hb ry;exact ne_dataH ra rb sa sb hu ⟨.bl _,H,I,rfl,q⟩
theorem DVs.ints{K:a_}{H:Hp}:∀ns:List Int,DVs K H (ns.map V.int) (ns.map PyData.int)
 | []=>.nil
 | n::ns=>.cons (.int n) (DVs.ints ns)
def nM:MtR X "str.endswith" (λx xs H Q=>∃a b,x=.str (S a)/\xs=[.str (S b)]/\Q (.bl (decide (b <:+ a))) H):=by
 intro pins s σ H x xs v us Q I rx rs h;obtain⟨a,b,rfl,rfl,q⟩:=h;obtain⟨t,rfl⟩:=rx;obtain⟨u,rfl,t',rfl⟩:=gn rs
 have e:Txt.endswith (S a) (S b)=decide (b <:+ a):=by
  unfold Txt.endswith E8;rw [eP,eP]
  have e1:((S a).cps.extract (a.length - b.length) (a.length - b.length+b.length))=((a.drop (a.length - b.length)).take b.length).toArray:=by
   show a.toArray.extract _ _=_;rw [extract_toArray,extract_eq_take_drop];have e2:a.length - b.length+b.length - (a.length - b.length)=b.length:=by omega
   rw [e2]
  rw [e1]
  by_cases h:b <:+ a
  .rw [decide_eq_true h];have hl:=h.length_le;have hd:a.drop (a.length - b.length)=b:=(FK.mp h).symm;rw [hd];simp [S,hl]
  .rw [decide_eq_false h]
   by_cases hl:b.length<=a.length
   .have hne:¬ (a.drop (a.length - b.length)).take b.length=b:=λz=>h (by
     rw [DZ (by rw [length_drop];omega)] at z;exact FK.mpr z.symm)
    simp only [and_eq_false_imp];intro _;show (((a.drop (a.length - b.length)).take b.length).toArray == b.toArray)=false;rw [beq_eq_false_iff_ne];intro z;exact hne (by simpa using congrArg Ft z)
   .rw [decide_eq_false (by omega)];rfl
 exact SC.endswith ⟨.bl _,H,I,rfl,by rw [e];exact q⟩
end
section
variable {X:Cx}{a b:Expr}{ta tb:TE}{pos:Pos}
def bM{x:Str}{l:List Nat}{j:Nat}(h:x=S l):PE X (.Constant (.str x) j pos) (tC (.str (S l))):=by
 subst h;exact yt
def rT:bx X (.builtin "len") (λxs H Q=>∃l,xs=[.str (S l)]/\l.length<=sizeLine/\Q (.int l.length) H):=by
 intro pins s σ H xs us Q I r h;obtain⟨l,rfl,hz,q⟩:=h;exact mj pins s σ H _ us Q I r ⟨S l,rfl,by rw [eP];exact hz,by rw [eP];exact q⟩
noncomputable def y9:R2:=λx y H Q=>∃l i c,x=.str (S l)/\y=.int i/\l.length<=sizeLine/\atI l i=some c/\Q (.str (S [c])) H
def wM:IxR X y9:=by
 intro value slice pins s σ H x y v u Q I rx ry q hs;obtain⟨l,i,c,rfl,rfl,hz,ha,q⟩:=q;exact yS value slice pins s σ H _ _ v u Q I rx ry ⟨S l,i,c,rfl,rfl,by rw [eP];exact hz,ha,q⟩ hs
def wN:OpR X (binaryOp .Add) (λx y H Q=>∃i j,x=.str (S i)/\y=.str (S j)/\i.length+j.length<=sizeLine/\Q (.str (S (i++j))) H):=by
 intro pins s σ H x y v u Q I rx ry h;obtain⟨i,j,rfl,rfl,hz,q⟩:=h;exact qj pins s σ H _ _ v u Q I rx ry ⟨S i,S j,rfl,rfl,by rw [eP,eP];exact hz,by rw [yW];exact q⟩
def za:OpR X (compareOp .Eq) (λx y H Q=>∃i j,x=.str (S i)/\y=.str (S j)/\Q (.bl (decide (i=j))) H):=by
 intro pins s σ H x y v u Q I rx ry h;obtain⟨i,j,rfl,rfl,q⟩:=h;exact Bh pins s σ H _ _ v u Q I rx ry ⟨rfl,by rw [yY];exact q⟩
def zb:OpR X (compareOp .NotEq) (λx y H Q=>∃i j,x=.str (S i)/\y=.str (S j)/\Q (.bl (!decide (i=j))) H):=by
 intro pins s σ H x y v u Q I rx ry h;obtain⟨i,j,rfl,rfl,q⟩:=h;exact Bi pins s σ H _ _ v u Q I rx ry ⟨rfl,by rw [yY];exact q⟩
def zc:OpR X (compareOp .Eq) (rI0 λi j=>.bl (decide (i=j))):=yd λ_ _ _ _ _ _ _ q=>eq_int (by rw [beq_eq_decide_eq];exact q)
def zd:OpR X (compareOp .NotEq) (rI0 λi j=>.bl (!decide (i=j))):=yd λ_ _ _ _ _ _ _ q=>ne_int (by rw [bne,beq_eq_decide_eq];exact q)
def rV:bx X (.builtin "len") (λxs H Q=>∃p ys,xs=[.ref p]/\SqL X.K H p ys/\Q (.int ys.length) H):=by
 intro pins s σ H xs us Q I r h;obtain⟨p,ys,e,hq,q⟩:=h;exact iw pins s σ H xs us Q I r ⟨p,ys,e,.inl hq,q⟩
def rW:bx X (.builtin "len") (λxs H Q=>∃p ys,xs=[.ref p]/\SqT X.K H p ys/\Q (.int ys.length) H):=by
 intro pins s σ H xs us Q I r h;obtain⟨p,ys,e,hq,q⟩:=h;exact iw pins s σ H xs us Q I r ⟨p,ys,e,.inr hq,q⟩
end
structure Cal (P:n_) (w:World) (K:a_) (mg:Str->Option Value) (base:Heap) (k:Nat) (x:Str) (ps:List Str) (sp:Sp):Prop where
 ex:∃(f:Addr) (fd:DW),lU P w K mg base CX0 k f fd ps sp/\iJ K fd ps []/\s_ K (.ref f)=true/\mg x=some (.ref f)/\∃oc od osl,K.lookup f=some ⟨oc,od,.func fd,osl⟩
structure bE (K:a_) (mg:Str->Option Value) (x:Str) (st:Stmt):Prop where
 ex:∃(f:Addr) (fd:DW),Fun K x x st f fd/\mg x=some (.ref f)
section
variable {P:n_}{w:World}{K:a_}{mg:Str->Option Value}{base:Heap}{x:Str}{st:Stmt}{N ps:List Str}{k:Nat}{sp:Sp}
def bE.ok(D:bE K mg x st)(S:aB N ps (ah st))
  (hb:∀(kV doc pm:Value) (an:Option Addr) (cdv ct:Value) (us:List Value),us.length=ps.length->bindArgs (v_ x x (bb st) (aJ st) (ah st) .none kV doc pm an cdv ct) ⟨us,[]⟩=pure (ps.zip us))
  (len:∀vs H Q E,sp vs H Q E->vs.length=ps.length)
  (hbody:∀(f:Addr) (cdv:Value) (A:t_) (outer:List Env) (s:cx) (H:Hp) (vs:List V) (Q:VK) (E:XK),cQ k (A.deeper (envOfC x (ah st) s.heap.objs.size f cdv))->sp vs H Q E ->
   ∃t,PSs (md CX0 P w K mg base N x (ah st) f cdv A outer s H E).nox (aJ st) t/\t { nx:=λ_ H'=>Q .non H',rt:=Q } (start N vs) H):Cal P w K mg base (k+1) x ps sp:=by
 obtain⟨f,fd,F,hm⟩:=D.ex
 have lk:∃oc od osl,K.lookup f=some ⟨oc,od,.func fd,osl⟩:=by
  obtain⟨oc,od,kV,doc,pm,an,cdv,ct,osl,rfl,lk,hcd⟩:=F.ex;exact⟨oc,od,osl,lk⟩
 exact⟨f,fd,F.ok S len λcdv A outer s H vs Q E hr h=>hbody f cdv A outer s H vs Q E hr h,F.binds hb,F.kp,hm,lk⟩
def bE.mk'{K:a_}{h:Heap}{mg:Str->Option Value}{x:Str}{st:Stmt}{f:Addr}{oc:Value}{od an:Option Addr}{osl:Array (Option Value)}{kV doc pm cdv ct:Value}(X:K.In h)(G:h.Ns mainGlobals mg)
  (a:so K mainGlobals x=some (some (.ref f))) (l:K.lookup f=some ⟨oc,od,.func (v_ x x (bb st) (aJ st) (ah st) .none kV doc pm an cdv ct),osl⟩)
  (c:Dw K cdv x=true) (k:s_ K (.ref f)=true):bE K mg x st:=⟨f,_,rM (st:=st) l c k,En X G a⟩
end
section
variable {X:Cx}{k:Nat}{x:Str}{ps:List Str}{sp:Sp}{p pos:Pos}{e:Expr}{es:List Expr}{t:TA}
def ze(C:Cal X.prog X.w X.K X.mg X.base k x ps sp)(hr:cQ k X.A)(ha:PA X (e::es) t)(hg:Gl X x:=by rfl)(hdb:(x == ("__debug__":Str))=false:=by decide)(he:starEach (e::es) X.env=(false,eval e X.env)::starEach es X.env:=by rfl)
  (hpl:(backTo pos (starEach es X.env)).any (·.1)=false:=by rfl):PE X (.Call (.Name x p) (e::es) [] pos) (d5 sp [] E0 t):=by
 obtain⟨f,fd,F,hb,hk,hm,_⟩:=C.ex;exact rC F hr hg hm hk hb .nil ui ha hdb he hpl
end
noncomputable def nN(K:a_):Sp:=λvs H Q _=>∃(a:Addr) (ns:List Int),vs=[.ref a]/\SqL K H a (ns.map V.int)/\ns.length<=63/\∀H',Q (.bl true) H'
def wO{α β:Type}{f:α->β}{xs:List α}{i:Int}{v:α}(h:atI xs i=some v):atI (xs.map f) i=some (f v):=by
 unfold atI at h ⊢;rw [length_map]
 cases e:ixN xs.length i with
 | none=>rw [e] at h;cases h
 | some j =>
  rw [e] at h;show (xs.map f)[j]?=some (f v);have h':xs[j]?=some v:=h;rw [k_,h'];rfl
def eV{α:Type}{xs:List α}{i:Int}{j:Nat}{v:α}(h:xs[j]?=some v)(e:i=(j:Int)):atI xs i=some v:=by subst e;exact wF h
def sz(n:Nat)(h:n<=1000000):n<=sizeLine:=by rw [EU];omega
def uk{ns:List Int}{i:Nat}{x:V}(h:(ns.map V.int)[i]?=some x):∃z,ns[i]?=some z/\x=.int z:=by
 rw [k_] at h
 cases e:ns[i]? with
 | none=>rw [e] at h;cases h
 | some z=>rw [e] at h;exact⟨z,rfl,(q_ h).symm⟩
section
variable {X:Cx}{st:Stmt}{t:TS}
noncomputable def zf(t:TS):TS:=λD σ H=>∃J:St->Hp->Prop,t { D with nx:=J } σ H/\∀σ' H',J σ' H'->D.nx σ' H'
def nO(h:PS X st t):PS X st (zf t):=by
 intro pins s σ H D I q;obtain⟨J,q1,q2⟩:=q;refine thn (h pins s σ H _ I q1) λf s' r=>?_
 cases f with
 | next=>obtain⟨σ',H',I',r'⟩:=r;exact⟨σ',H',I',q2 σ' H' r'⟩
 | brk=>exact r
 | cont=>exact r
 | ret u=>exact r
end
def wP{α:Type}{xs:List α}{n:Nat}(hn:xs.length=n)(h:0<n)(i:Int):∃v,v∈xs/\atI xs (i % (n:Int))=some v:=by
 have h1:0<=i % (n:Int):=emod_nonneg _ (by omega);have h2:i % (n:Int)<n:=GD _ (by omega);have h3:(i % (n:Int)).toNat<xs.length:=by omega
 refine⟨xs[(i % (n:Int)).toNat],EW h3,?_⟩;exact eV (j:=(i % (n:Int)).toNat) (cy h3) (by omega)
def ul{α β:Type}(f:α->β)(xs:List α)(lo hi:Option Int):cA (xs.map f) lo hi=(cA xs lo hi).map f:=by
 unfold cA;rw [length_map,map_take,map_drop]
theorem cU{x:Str}{c:Addr}:∀(names:List (Str×DX)) (n:Nat) (acc:List (Str×Addr)),(cellsFrom n names acc).lookup x=some c->(n<=c/\(x,Ey)∈names)\/acc.lookup x=some c
 | [],n,acc,h=>.inr h
 | (y,k)::r,n,acc,h=>by
  unfold cellsFrom at h
  split at h
  .rename_i hk;have hk':k=.cell:=by simpa using hk
   subst hk'
   rcases cU r (n+1) ((y,n)::acc) h with ⟨h1,h2⟩|h1
   .exact .inl ⟨by omega,o_ _ h2⟩
   .rw [D2] at h1
    cases e:x == y with
    | true =>
     rw [e] at h1;have:n=c:=q_ h1;have ex:x=y:=by simpa using e
     subst ex;exact .inl ⟨by omega,mem_cons_self⟩
    | false=>rw [e] at h1;exact .inr h1
  .rcases cU r n acc h with ⟨h1,h2⟩|h1
   .exact .inl ⟨h1,o_ _ h2⟩
   .exact .inr h1
theorem d7{x:Str}:∀(names:List (Str×DX)) (n:Nat) (acc:List (Str×Addr)),(x,Ey)∉names->(cellsFrom n names acc).lookup x=acc.lookup x
 | [],_,_,_=>rfl
 | (y,k)::r,n,acc,h=>by
  unfold cellsFrom
  split
  .rename_i hk;have hk':k=.cell:=by simpa using hk
   subst hk';rw [d7 r (n+1) _ (λz=>h (o_ _ z)),D2]
   have:(x == y)=false:=by
    rw [beq_eq_false_iff_ne];intro e;subst e;exact h mem_cons_self
   rw [this]
  .exact d7 r n acc (λz=>h (o_ _ z))
theorem ee{x y:Str}{c:Addr}:∀(names:List (Str×DX)) (n:Nat) (acc:List (Str×Addr)),(∀z d,acc.lookup z=some d->d<n) ->
  (cellsFrom n names acc).lookup x=some c->(cellsFrom n names acc).lookup y=some c->n<=c->x=y
 | [],n,acc,ha,h1,h2,hc=>absurd (ha x c h1) (not_lt.mpr hc)
 | (z,k)::r,n,acc,ha,h1,h2,hc=>by
  unfold cellsFrom at h1 h2
  split at h1
  .rename_i hk;rw [if_pos hk] at h2
   have ha':∀w d,((z,n)::acc).lookup w=some d->d<n+1:=λw d e=>by
    rw [D2] at e
    cases q:w == z with
    | true=>rw [q] at e;cases e;exact E5 _
    | false=>rw [q] at e;exact F7 (ha w d e)
   by_cases hcn:n+1<=c
   .exact ee r (n+1) _ ha' h1 h2 hcn
   .have e:c=n:=le_antisymm (not_lt.mp hcn) hc;subst e
    have key:∀w:Str,(cellsFrom (c+1) r ((z,c)::acc)).lookup w=some c->w=z:=λw hw=>by
     rcases cU r (c+1) _ hw with ⟨q,_⟩|q
     .exact absurd q (not_succ_le_self _)
     .rw [D2] at q
      cases q2:w == z with
      | true=>simpa using q2
      | false=>rw [q2] at q;exact absurd (ha w c q) (DB _)
    rw [key x h1,key y h2]
  .rename_i hk;rw [if_neg hk] at h2;exact ee r n acc ha h1 h2 hc
noncomputable def gq(env:Env):List (Str×DX)->List (Str×Addr)->List (Str×Addr)
 | [],acc=>acc
 | (n,k)::r,acc=>if (k == .free)=true then gq env r ((n,(env.cells.lookup n).getD 0)::acc) else gq env r acc
theorem ef{env:Env}{x:Str}{c:Addr}:∀(names:List (Str×DX)) (acc:List (Str×Addr)),(gq env names acc).lookup x=some c->((x,EO)∈names/\c=(env.cells.lookup x).getD 0)\/acc.lookup x=some c
 | [],acc,h=>.inr h
 | (y,k)::r,acc,h=>by
  unfold gq at h
  split at h
  .rename_i hk;have hk':k=.free:=by simpa using hk
   subst hk'
   rcases ef r _ h with ⟨h1,h2⟩|h1
   .exact .inl ⟨o_ _ h1,h2⟩
   .rw [D2] at h1
    cases e:x == y with
    | true =>
     rw [e] at h1;have ex:x=y:=by simpa using e
     subst ex;exact .inl ⟨mem_cons_self,(q_ h1).symm⟩
    | false=>rw [e] at h1;exact .inr h1
  .rcases ef r acc h with ⟨h1,h2⟩|h1
   .exact .inl ⟨o_ _ h1,h2⟩
   .exact .inr h1
theorem gu{env:Env}{x:Str}:∀(names:List (Str×DX)) (acc:List (Str×Addr)),((x,EO)∈names\/(acc.lookup x).isSome=true)->((gq env names acc).lookup x).isSome=true
 | [],acc,h=>h.elim (λz=>nomatch z) id
 | (y,k)::r,acc,h=>by
  unfold gq
  split
  .rename_i hk;refine gu r _ ?_
   by_cases e:(x == y)=true
   .exact .inr (by rw [D2,e];rfl)
   .rcases h with h|h
    .rcases C_.mp h with z|z
     .cases z;exact absurd (by simp) e
     .exact .inl z
    .exact .inr (by rw [D2];rw [not_eq_true] at e;rw [e];exact h)
  .rename_i hk;refine gu r acc ?_
   rcases h with h|h
   .rcases C_.mp h with z|z
    .cases z;exact absurd rfl hk
    .exact .inl z
   .exact .inr h
def iK{scope:Scope}{env:Env}(h:∀x∈scope.names,x.2=.free->∃c,env.cells.lookup x.1=some c):closureFor scope env=pure (gq env scope.names []):=by
 unfold closureFor
 have key:∀(names:List (Str×DX)) (acc:List (Str×Addr)),(∀x∈names,x.2=.free->∃c,env.cells.lookup x.1=some c) ->
   (forIn names acc λ(x:Str×DX) (r:List (Str×Addr))=>(if (x.2 == EO)=true then do let y <- cellOf env x.1;pure (Ex ((x.1,y)::r)) else pure (Ex r):Sem _))=pure (gq env names acc):=by
  intro names
  induction names with
  | nil=>intro acc _;rfl
  | cons p r ih =>
   intro acc hp;obtain⟨n,k⟩:=p;rw [forIn_cons];have hr:∀x∈r,x.2=.free->∃c,env.cells.lookup x.1=some c:=λx hx=>hp x (o_ _ hx);unfold gq
   by_cases hk:(k == EO)=true
   .obtain⟨c,hc⟩:=hp (n,k) mem_cons_self (by simpa using hk);have hc':env.cells.lookup n=some c:=hc;have e1:cellOf env n=pure c:=by unfold cellOf;rw [hc']
    simp only [hk,if_true];rw [e1,hc'];simp only [pure_bind];exact ih _ hr
   .rw [if_neg hk,if_neg hk];simp only [pure_bind];exact ih _ hr
 have e:=key scope.names [] h;have e2:∀(m:Sem (List (Str×Addr))),(m >>= λr=>pure r)=m:=λm=>bind_pure m;rw [<- e]
 first
  | rfl
  | exact (e2 _)
noncomputable def rX(scope:Scope)(C:Addr)(env:Env):Env :=
 { scope:=relabel scope env,locals:=C,globals:=env.globals,cells:=cellsFrom (C+1) scope.names (gq env scope.names []),qual:=env.qual,func:=none,code:=env.code,frame:=env.frame,builtins:=env.builtins }
noncomputable def bO(X:Cx)(N':List Str)(scope:Scope)(s:cx)(H:Hp)(fp:List Addr)(pins:List (Addr×Obj)):Cx :=
 { X with N:=N',s₀:=s,H₀:=H,env:=rX scope s.heap.objs.size X.env,outer:=X.stack,stack:=X.stack,ex:=fp,fn:=λx=>decide ((x,Ey)∈scope.names),pn:=X.pn++pins,xe:=λ_ _=>False }
noncomputable def k6(sc0:Scope)(N:List Str)(scope:Scope)(N':List Str)(ix:List (Option Nat)):Bool :=
 decide (scope.kind=.function) && scope.names.all (λy=>(!decide (y.2=.local) || decide (scope.names.lookup y.1=some .local)) &&
  (!decide (y.2=.free) || ((decide (sc0.names.lookup y.1=some .cell) || decide (sc0.names.lookup y.1=some .free)) && !decide ((y.1,Ey)∈scope.names)))) &&
 decide (N'.length=ix.length) && (N'.zip ix).all (λp=>match p.2 with|none=>true|some j=>decide (N[j]?=some p.1) && decide (scope.names.lookup p.1=some .free))
structure rY (env:Env) (N:List Str) (scope:Scope) (N':List Str) (ix:List (Option Nat)):Prop where
 kind:scope.kind=.function
 loc:∀y∈scope.names,y.2=.local->scope.names.lookup y.1=some .local
 free:∀y∈scope.names,y.2=.free->(env.kindOf y.1=some .cell\/env.kindOf y.1=some .free)/\(y.1,Ey)∉scope.names
 len:N'.length=ix.length
 slot:∀(i:Nat) (x:Str) (j:Nat),N'[i]?=some x->ix[i]?=some (some j)->N[j]?=some x/\scope.names.lookup x=some .free
def mx{env:Env}{N:List Str}{scope:Scope}{N':List Str}{ix:List (Option Nat)}(h:k6 env.scope N scope N' ix=true):rY env N scope N' ix:=by
 unfold k6 at h;simp only [and_eq_true,decide_eq_true_eq,FY] at h;obtain⟨⟨⟨h1,h2⟩,h3⟩,h4⟩:=h
 refine⟨h1,λy hy e=>?_,λy hy e=>?_,h3,λi x j e1 e2=>?_⟩
 .have:=(h2 y hy).1;rw [e] at this;simpa using this
 .have:=(h2 y hy).2;rw [e] at this;simpa [Env.kindOf] using this
 .have hm:(x,some j)∈N'.zip ix:=by
   refine z_ (i:=i) ?_;rw [getElem?_zip_eq_some];exact⟨e1,e2⟩
  have:=h4 _ hm;simpa using this
noncomputable def rlf(env:Env)(p:Str×DX):Str×DX:=match p with|(n,k)=>if (k == EO && env.scope.kind == .function && env.kindOf n == some .cell) then (n,.cell) else (n,k)
def rZ(env:Env)(n:Str)(k:DX):∃k',rlf env (n,k)=(n,k')/\(k'=k\/(k=.free/\k'=.cell)):=by
 unfold rlf
 by_cases c:(k == EO && env.scope.kind == .function && env.kindOf n == some .cell)=true
 .refine⟨.cell,if_pos c,.inr ⟨?_,rfl⟩⟩;simp only [and_eq_true,beq_iff_eq] at c;exact c.1.1
 .exact⟨k,if_neg c,.inl rfl⟩
theorem pN{env:Env}:∀{names:List (Str×DX)}{x:Str},names.lookup x=some .free->(names.map (rlf env)).lookup x=some .cell\/(names.map (rlf env)).lookup x=some .free
 | [],_,h=>by simp at h
 | (n,k)::r,x,h=>by
  have ih:=@pN env r x;obtain⟨k',e,hk'⟩:=rZ env n k;rw [map_cons,e]
  cases hx:x == n with
  | true =>
   simp only [D2,hx] at h ⊢;have hk:k=.free:=q_ h
   rcases hk' with z|z
   .right;rw [z,hk]
   .left;rw [z.2]
  | false =>
   simp only [D2,hx] at h ⊢;exact ih h
theorem k8{env:Env}:∀{names:List (Str×DX)}{x:Str}{k':DX},(names.map (rlf env)).lookup x=some k'->k'=.cell\/k'=.free->names.lookup x=some .cell\/names.lookup x=some .free
 | [],_,_,h,_=>by simp at h
 | (n,k)::r,x,k',h,hk'=>by
  have ih:=@k8 env r x k';obtain⟨k2,e,hk2⟩:=rZ env n k;rw [map_cons,e] at h
  cases hx:x == n with
  | true =>
   simp only [D2,hx] at h ⊢;have:k2=k':=q_ h;subst this
   rcases hk2 with z|z
   .rw [<- z]
    rcases hk' with q|q
    .left;rw [q]
    .right;rw [q]
   .right;rw [z.1]
  | false =>
   simp only [D2,hx] at h ⊢;exact ih h hk'
def my{x:Str}{c:Addr}:∀(names:List (Str×DX)) (n:Nat) (acc:List (Str×Addr)),(cellsFrom n names acc).lookup x=some c->(x,c)∈cellsFrom n names []\/acc.lookup x=some c:=by
 have app:∀(names:List (Str×DX)) (n:Nat) (acc:List (Str×Addr)),cellsFrom n names acc=cellsFrom n names []++acc:=by
  intro names
  induction names with
  | nil=>intro n acc;rfl
  | cons p r ih =>
   intro n acc;obtain⟨y,k⟩:=p;unfold cellsFrom
   split
   .rw [ih (n+1) ((y,n)::acc),ih (n+1) [(y,n)],append_assoc];rfl
   .exact ih n acc
 intro names n acc h;rw [app] at h;rw [lookup_append] at h
 cases e:(cellsFrom n names []).lookup x with
 | some d =>
  rw [e] at h;have:d=c:=by simpa using h
  subst this;exact .inl (mem_of_lookup e)
 | none=>rw [e] at h;exact .inr (by simpa using h)
noncomputable def r0(ix:List (Option Nat))(σ:St):St:=ix.map λo=>match o with
 | none=>none
 | some j=>match σ[j]? with
  | some v=>v
  | none=>none
section
variable {X:Cx}{pins:List (Addr×Obj)}{σ:St}{H:Hp}{s:cx}
def um{N':List Str}{ix:List (Option Nat)}{scope:Scope}{fp:List Addr}(ok:rY X.env X.N scope N' ix)(I:Inv X pins σ H s)(hf:∀b∈fp,qY X pins H b)(hfl:∀b∈fp,b<s.heap.objs.size) :
  Inv (bO X N' scope s H fp pins) [] (r0 ix σ) H { s with heap:=pushCells (s.heap.push { cls:=.type "dict",data:=.dict #[] }) scope.names }:=by
 have hk4:∀b o,s.heap.get? b=some o->(pushCells (s.heap.push { cls:=.type "dict",data:=.dict #[] }) scope.names).get? b=some o:=λb o e=>Gu _ _ b o (cn _ e)
 have hclo:∀x c,(gq X.env scope.names []).lookup x=some c->X.env.cells.lookup x=some c:=λx c e=>by
  rcases ef scope.names [] e with ⟨h1,h2⟩|h1
  .obtain⟨d,hd⟩:=I.ok.has x (ok.free _ h1 rfl).1;rw [hd] at h2 ⊢;rw [h2];rfl
  .cases h1
 have hcl:∀x c,X.env.cells.lookup x=some c->c<s.heap.objs.size:=λx c e=>by
  obtain⟨v,q⟩:=I.cell x c e;exact q.lt
 have own:=cellsFrom_ok scope.names (s.heap.push { cls:=.type "dict",data:=.dict #[] }) (s.heap.objs.size+1) [] ⟨λ_ _ hm=>(nomatch hm),List.Pairwise.nil⟩ (by rw [DA];exact l_ _);rw [DA] at own
 have cases:∀x c,(cellsFrom (s.heap.objs.size+1) scope.names (gq X.env scope.names [])).lookup x=some c ->
   ((pushCells (s.heap.push { cls:=.type "dict",data:=.dict #[] }) scope.names).IsCell c none/\s.heap.objs.size+1<=c)\/X.env.cells.lookup x=some c:=λx c e=>by
  rcases my _ _ _ e with h|h
  .exact .inl (own.empty x c h)
  .exact .inr (hclo x c h)
 have fs':∀b,b∈frs X.stack->b<s.heap.objs.size:=λb hb=>by
  rcases C_.mp (I.stkSub b hb) with z|z
  .rw [z];exact I.lt
  .by_cases q:b<s.heap.objs.size
   .exact q
   .exact absurd z (I.nofs (not_lt.mp q))
 have cix:(bO X N' scope s H fp pins).Ok:=by
  refine⟨I.ok.mod,ok.kind,I.ok.glob,I.ok.blt,l_ _,λx y c h1 h2=>?_,λx hx=>?_,λx c hx e=>?_,I.ok.hd,I.ok.frames,.inl rfl,λb hb=>⟨DC (hfl b hb),λx c e=>?_⟩,λb o e=>I.bs b o e,r_ I.ok.bsz I.sz,λb o e hb=>?_,λb hb=>?_,I.stack,I.stkFree,I.ok.tb.un I.base⟩
  .rcases cases x c h1 with ⟨_,z⟩|z
   .exact ee scope.names _ _ (λw d e=>F7 (hcl w d (hclo w d e))) h1 h2 z
   .rcases cases y c h2 with ⟨_,z2⟩|z2
    .exact absurd (hcl x c z) (not_lt.mpr (Ff z2))
    .exact I.ok.inj x y c z z2
  .have hx':scope.names.lookup x=some .cell\/scope.names.lookup x=some .free:=by
    rcases hx with z|z
    .exact k8 (env:=X.env) z (.inl rfl)
    .exact k8 (env:=X.env) z (.inr rfl)
   rcases hx' with z|z
   .exact Ek.mp (D8 scope.names _ _ (.inl z))
   .exact Ek.mp (D8 scope.names _ _ (.inr (gu _ _ (.inl (mem_of_lookup z)))))
  .have hx':(x,Ey)∈scope.names:=of_decide_eq_true hx
   rcases cases x c e with ⟨_,z⟩|z
   .exact Ff z
   .rcases my _ _ _ e with h|h
    .exact Ff (own.empty x c h).2
    .rcases ef scope.names [] h with ⟨h1,_⟩|h1
     .exact absurd hx' (ok.free _ h1 rfl).2
     .cases h1
  .intro z
   rcases cases x c e with ⟨_,z2⟩|z2
   .rw [z] at z2;exact absurd (hfl b hb) (not_lt.mpr (Ff z2))
   .exact (hf b hb).2.2.2.2.1 x c z2 z
  .rcases (hf b hb).2.2.2.1 with z|z
   .exact I.ok.noex b o e z
   .exact absurd (h_ (I.ok.bs b o e).1) (not_lt.mpr z)
  .intro z
   rcases C_.mp (I.stkSub b z) with q|q
   .exact (hf b hb).2.1 q
   .exact (hf b hb).2.2.1 q
 refine⟨cix,rfl,I.bare,Un.kept hk4,⟨λ_=>none,?_,λi x v e1 e2 e3=>?_⟩,λx c e=>?_,I.hok.fresh (l_ _),λx c e=>?_,λp hp=>?_,I.hok.kept hk4,?_⟩
 .exact (Heap.Ns.new s.heap (.type "dict")).keeps (Gu _ _)
 .have e2':∃j,ix[i]?=some (some j)/\σ[j]?=some (some v):=by
   unfold r0 at e2;rw [k_] at e2
   cases q:ix[i]? with
   | none=>rw [q] at e2;cases e2
   | some o =>
    rw [q] at e2
    cases o with
    | none=>cases (q_ e2)
    | some j =>
     refine⟨j,rfl,?_⟩;have e2'':(match σ[j]? with|some v=>v|none=>none)=some v:=q_ e2
     cases r:σ[j]? with
     | none=>rw [r] at e2'';cases e2''
     | some w=>rw [r] at e2'';exact congrArg some e2''
  obtain⟨j,hj,hv⟩:=e2';obtain⟨hN,hfr⟩:=ok.slot i x j e1 hj;have hk:=(ok.free _ (mem_of_lookup hfr) rfl).1
  have hvis:Vis X.env.scope x:=by
   rcases hk with z|z
   .exact .inr (.inl z)
   .exact .inr (.inr z)
  obtain⟨m,hn,hl⟩:=I.loc;obtain⟨u,ru,lk⟩:=hl j x v hN hv hvis
  refine⟨u,ru,.inr ⟨?_,?_⟩⟩
  .exact pN (env:=X.env) hfr
  .rcases lk with ⟨z,_⟩|⟨_,c,hc,hcell⟩
   .rcases hk with q|q
    .rw [z] at q;cases q
    .rw [z] at q;cases q
   .refine⟨c,?_,hcell.keeps hk4⟩;show (cellsFrom (s.heap.objs.size+1) scope.names (gq X.env scope.names [])).lookup x=some c;rw [d7 scope.names _ _ (ok.free _ (mem_of_lookup hfr) rfl).2];obtain⟨d,hd⟩:=Ek.mp (gu (env:=X.env) scope.names [] (.inl (mem_of_lookup hfr)));rw [hd,<- hclo x d hd,hc]
 .rcases cases x c e with ⟨z,_⟩|z
  .exact⟨none,z⟩
  .obtain⟨v,q⟩:=I.cell x c z;exact⟨v,q.keeps hk4⟩
 .rcases cases x c e with ⟨_,z⟩|z
  .exact I.hok.fresh (Ff z)
  .exact I.freeC x c z
 .have hp':p∈X.pn++pins:=by simpa [bO] using hp
  obtain⟨q1,q2,q3,q4,q5⟩:=I.pin p hp';refine⟨hk4 _ _ q1,q2,DC (h_ q1),λz=>?_,q5⟩
  rcases C_.mp (I.stkSub p.1 z) with q|q
  .exact q3 q
  .exact q4 q
 .unfold r0;rw [length_map];exact ok.len.symm
end
section
variable {M:Model}{A:t_}{E:Value->cx->Prop}{s:cx}
def fU{scope:Scope}{globals:Addr}{cl:List (Str×Addr)}{qual:Str}{func:Option Addr}{code:Value}{env:Env}{Q:Env->cx->Prop}
  (hQ:Q { scope:=scope,locals:=s.heap.objs.size,globals:=globals,cells:=cellsFrom (s.heap.objs.size+1) scope.names cl,qual:=qual,func:=func,code:=env.code,frame:=env.frame,builtins:=env.builtins }
   { s with heap:=pushCells (s.heap.push { cls:=.type "dict",data:=.dict #[] }) scope.names }) :
  wpAny M A (newFunctionEnv scope globals cl [] qual func code (some env)) Q E s:=by
 simp only [newFunctionEnv,Option.isSome_some,if_true];refine b_ (wpAny_alloc ?_);refine b_ (wpAny_layCells _ (λname kind cells=>by cases hkc:kind == Ey <;> simp [hkc]) _ _ _ _ ?_);rw [show ({ s with heap:=s.heap.push { cls:=.type "dict",data:=.dict #[] } }:cx).heap.objs.size=s.heap.objs.size+1 from DA ..];simp only [forIn_nil];exact b_ (e_ (e_ hQ))
end
section
variable {prog:n_}{w:World}{A:t_}{R:Result->cx->Prop}{s:cx}
theorem mB{elt target iter:Expr}{ifs:List Expr}{scope:Scope}{pos:Pos}{it acc:Value}{env:Env}(I:Nat->cx->Prop)
  (turn:∀n s,I n s->wpAny (model prog w) A (pyNext it) (λr s₁=>match r with
   | none=>R (.ok .next) s₁
   | some v=>wpAny (model prog w) A (letOwnedTupleGo target it v) (λ_ s₂=>wpAny (model prog w) A (assign target env v) (λ_ s₃ =>
     wpAny (model prog w) A (forIn ifs true λc r=>if r=true then do let ok <- isTrue c env (eval c env);pure (Ex ok) else pure (Ex r)) (λok s₄ =>
      if ok=true then wpAny (model prog w) A (eval elt env) (λx s₅ =>
       wpAny (model prog w) A (call (.builtin "list.append") [acc,x]) (λ_ s₆=>∃m,m<n/\I m s₆) (λ_ _=>False) s₅) (λ_ _=>False) s₄
      else ∃m,m<n/\I m s₄) (λ_ _=>False) s₃) (λ_ _=>False) s₂) (λ_ _=>False) s₁) (λ_ _=>False) s)
  (n:Nat) (h:I n s) :
  codeAny (model prog w) A (.compLoop (.ListComp elt [⟨target,iter,ifs,0⟩] scope pos) 0 it acc env) R s:=by
 refine codeAny_loop rfl I (λn s hI=>?_) n h;show wpAny _ A ((compTurn (.ListComp elt [⟨target,iter,ifs,0⟩] scope pos) 0 it acc env).onRaise (λx=>do noteFrame x env;theTreesLotGoes x)) _ _ s;refine wpAny_noted ?_;rw [compTurn_list];refine b_ (wpAny_standAt (b_ (Eb (turn n s hI) (λr s₁ h₁=>?_) λ_ _ h'=>h'.elim)))
 cases r with
 | none=>exact e_ h₁
 | some v =>
  refine b_ (Eb h₁ (λ_ s₂ h₂=>?_) λ_ _ h'=>h'.elim);refine b_ (Eb h₂ (λ_ s₃ h₃=>b_ (Eb h₃ (λok s₄ h₄=>?_) λ_ _ h'=>h'.elim)) λ_ _ h'=>h'.elim)
  cases ok with
  | false=>exact e_ ⟨rfl,h₄⟩
  | true =>
   exact b_ (b_ (Eb h₄ (λx s₅ h₅=>b_ (Eb h₅ (λ_ s₆ h₆=>e_ (e_ ⟨rfl,h₆⟩)) λ_ _ h'=>h'.elim)) λ_ _ h'=>h'.elim))
end
noncomputable def PIf(X:Cx)(ifs:List Expr)(t:TT):Prop :=
 ∀(pins:List (Addr×Obj)) (s:cx) (σ:St) (H:Hp) (Q:Bool->Hp->Prop),Inv X pins σ H s->t σ H Q ->
  wpAny (model X.prog X.w) X.A (forIn ifs true λc r=>if r=true then do let ok <- isTrue c X.env (eval c X.env);pure (Ex ok) else pure (Ex r)) (TP X pins σ Q) X.xe s
def jf:TT:=λ_ H Q=>Q true H
section
variable {X:Cx}
def bG:PIf X [] jf:=λ_ _ _ H _ I h=>wpAny_tests_nil ⟨H,I,h⟩
def gR{c:Expr}{t:TT}(h:PT X c t):PIf X [c] t:=λpins s σ H Q I q=>wpAny_tests_one (h pins s σ H Q I q)
end
noncomputable def mC(ix:List (Option Nat))(wi:TI)(g:TG)(tts:TT)(te:TE):TE:=λσ H Q=>wi σ H λJ H1=>∀D,H1 D=none->∃W:Nat->Nat->St->Hp->Prop,(∃m,W 0 m (r0 ix σ) (upd H1 D (.lst [])))/\∀i m τ H2,W i m τ H2 ->
 (J.stop i H2/\Q (.ref D) H2)\/(J.go i H2/\∀x H3,J.yld i H2 x H3->g x τ H3 λτ2 H4=>tts τ2 H4 λok H5=>if ok=true then te τ2 H5 λv H6=>∃ys,H6 D=some (.lst ys)/\ys.length<sizeLine/\∃m',m'<m/\W (i+1) m' τ2 (upd H6 D (.lst (ys++[v])))
  else ∃m',m'<m/\W (i+1) m' τ2 H5)
section
variable {X:Cx}{tg iter elt:Expr}{ifs:List Expr}{scope:Scope}{N':List Str}{ix:List (Option Nat)}{wi:TI}{g:TG}{tts:TT}{te:TE}
def mD{use:Option (Value->Sem Unit)}{Qf:Value->cx->Prop}{pos p':Pos}{pins:List (Addr×Obj)}{σ:St}{H:Hp}{s:cx}{Q:VK}(hc:X.calm=true)(ok:rY X.env X.N scope N' ix)(hi:PI X tg iter wi)
  (blk:∀s H fp pn,PG (bO X N' scope s H fp pn) tg g/\PIf (bO X N' scope s H fp pn) ifs tts/\PE (bO X N' scope s H fp pn) elt te)
  (hs:∀x,foldedSetIterable iter X.env x=pure x) (I:Inv X pins σ H s) (hw:mC ix wi g tts te σ H Q)
  (fin:∀D C H' s',Inv X pins σ H' s'->Q (.ref D) H'->(∃m,s'.heap.Ns C m)->H' C=none->X.s₀.heap.objs.size<=C->C≠X.env.locals->(∀x c,X.env.cells.lookup x=some c->c≠C)->C∉X.fs->(∀p∈X.pn++pins,p.1≠C) ->
   compPost (model X.prog X.w) X.A X.xe use Qf (.ref D) C (.ok .next) s') :
  wpAny (model X.prog X.w) X.A (comprehension (.ListComp elt [⟨tg,iter,ifs,0⟩] scope pos) scope X.env p' (newList []) false (eval iter X.env) use) Qf X.xe s:=by
 have hclos:closureFor scope X.env=pure (gq X.env scope.names []):=iK λy hy e=>I.ok.has y.1 (ok.free y hy e).1;refine wpAny_comprehension_free (use:=use) rfl hs hclos ok.kind ok.loc (thn (hi pins s σ H _ I hw) λv s1 h1=>thn h1 λitv s2 h2=>?_);obtain⟨it,fp,tn,J,H2,e,I2,T,st2,f2,hW⟩:=h2;subst e;obtain⟨W,⟨m0,w0⟩,turn⟩:=hW s2.heap.objs.size (I2.hok.fresh (l_ _))
 have hfl:∀b∈fp,b<s2.heap.objs.size:=λb hb=>by
  obtain⟨o,e,_⟩:=T.obj 0 _ st2 b hb;exact h_ e
 refine D6 ?_
 have I3:Inv X pins σ (upd H2 s2.heap.objs.size (.lst [])) { s2 with heap:=s2.heap.push { cls:=.type "list",dict:=none,data:=.seq ([]:List Value).toArray } } :=
  I2.laid (t':=s2.toks) (λb o e=>cn _ e) (l_ _) (show bC X.prog X.w _ _ _ (.lst []) from ⟨EI _,[],0,.nil,f_ _ rfl⟩)
 have st3:tn 0 (s2.heap.push { cls:=.type "list",dict:=none,data:=.seq ([]:List Value).toArray }):=T.keep 0 _ _ st2 λb _ o e=>cn _ e;have f3:∀b∈fp,qY X pins (upd H2 s2.heap.objs.size (.lst [])) b:=λb hb=>⟨by rw [ax (DC (hfl b hb))];exact (f2 b hb).1,(f2 b hb).2⟩
 have hfl3:∀b∈fp,b<(s2.heap.push { cls:=.type "list",dict:=none,data:=.seq ([]:List Value).toArray }).objs.size:=λb hb=>by rw [DA];exact F7 (hfl b hb)
 generalize hs3:({ s2 with heap:=s2.heap.push { cls:=.type "list",dict:=none,data:=.seq ([]:List Value).toArray } }:cx)=s3 at I3 ⊢;have eh3:s3.heap=s2.heap.push { cls:=.type "list",dict:=none,data:=.seq ([]:List Value).toArray }:=by rw [<- hs3]
 rw [<- eh3] at st3 hfl3;generalize hH3:upd H2 s2.heap.objs.size (.lst [])=H3 at I3 f3 w0;generalize hD:s2.heap.objs.size=D at *;refine fU ?_;have I4:=um ok I3 f3 hfl3;obtain⟨hg,ht,he⟩:=blk s3 H3 fp pins;have st4:tn 0 (pushCells (s3.heap.push { cls:=.type "dict",data:=.dict #[] }) scope.names):=T.keep 0 _ _ st3 λb _ o e=>Gu _ _ b o (cn _ e)
 have stat:∀{H':Hp},(∀b∈fp,H' b=none)->∀b∈fp,qY (bO X N' scope s3 H3 fp pins) [] H' b:=λhn b hb=>by
  refine⟨hn b hb,DC (hfl3 b hb),I4.ok.exfs b hb,.inl hb,(I4.ok.exf b hb).2,λp hp=>?_⟩;have hp':p∈X.pn++pins:=by simpa [bO] using hp
  exact (f2 b hb).2.2.2.2.2 p hp'
 have loop:∀(s4:cx),Inv (bO X N' scope s3 H3 fp pins) [] (r0 ix σ) H3 s4->tn 0 s4.heap ->
   codeAny (model X.prog X.w) X.A (.compLoop (.ListComp elt [⟨tg,iter,ifs,0⟩] scope pos) 0 (.ref it) (.ref D) (rX scope s3.heap.objs.size X.env)) (compPost (model X.prog X.w) X.A X.xe use Qf (.ref D) s3.heap.objs.size) s4:=by
  intro s4 I4 st4;refine mB (λn s'=>∃i τ H',Inv (bO X N' scope s3 H3 fp pins) [] τ H' s'/\tn i s'.heap/\(∀b∈fp,H' b=none)/\W i n τ H') ?_ m0 ⟨0,_,H3,I4,st4,λb hb=>(f3 b hb).1,w0⟩;rintro n s5 ⟨i,τ,H5,I5,st5,fr5,w5⟩
  rcases turn i n τ H5 w5 with ⟨stop,qn⟩|⟨go,step⟩
  .refine thn (T.done (bO X N' scope s3 H3 fp pins) rfl rfl rfl hc i [] s5 τ H5 (λ_ _=>False) I5 (stat fr5) st5 stop) λr s6 ⟨hr,I6⟩=>?_;subst hr;have I7:Inv X pins σ H5 s6:=I3.call' (ch:=fp) I6.os I6.base I6.hok I6.bare λb hb=>⟨(f2 b hb).2.2.2.1,(f2 b hb).2.1,(f2 b hb).2.2.2.2.1,(f2 b hb).2.2.2.2.2⟩
   obtain⟨m6,hn6,_⟩:=I6.loc
   refine fin D s3.heap.objs.size H5 s6 I7 qn ⟨m6,hn6⟩ I6.free ?_ ?_ ?_ ?_ ?_
   .exact I3.sz
   .exact Fi I3.lt
   .intro x c e z;obtain⟨v,q⟩:=I3.cell x c e;have:=q.lt;rw [z] at this;exact DB _ this
   .exact I3.nofs (l_ _)
   .intro p hp z;have:=h_ (I3.pin p hp).1;rw [z] at this;exact DB _ this
  .refine thn (T.item (bO X N' scope s3 H3 fp pins) rfl rfl rfl hc i [] s5 τ H5 (λ_ _=>False) I5 (stat fr5) st5 go) λr s6 ⟨u,hr,h6⟩=>?_;subst hr;refine thn h6 λ_ s7 ⟨x,H7,I7,r7,y7,st7,fr7⟩=>?_;have I7':=I7.pinned (stat fr7) (T.obj _ _ st7)
   have again:∀{s8:cx}{τ8:St}{H8:Hp},Inv (bO X N' scope s3 H3 fp pins) ([]++l0 fp s7.heap) τ8 H8 s8->(∃m',m'<n/\W (i+1) m' τ8 H8) ->
     ∃m,m<n/\∃i τ H',Inv (bO X N' scope s3 H3 fp pins) [] τ H' s8/\tn i s8.heap/\(∀b∈fp,H' b=none)/\W i m τ H':=λ{s8 τ8 H8} I8 ⟨m',hm,w8⟩=>by
    refine⟨m',hm,i+1,τ8,H8,I8.unpinned,T.keep _ _ _ st7 λb hb o e=>(I8.pin (b,o) (we _ (we _ (fw hb e)))).1,λb hb=>?_,w8⟩;obtain⟨o,e,d⟩:=T.obj _ _ st7 b hb;exact (I8.pin (b,o) (we _ (we _ (fw hb e)))).2.1
   refine thn (hg _ s7 τ H7 x u _ I7' r7 (step x H7 y7)) λ_ s8 ⟨τ8,H8,I8,q8⟩=>?_;refine thn (ht _ s8 τ8 H8 _ I8 q8) λokb s9 ⟨H9,I9,q9⟩=>?_
   cases okb with
   | false =>
    rw [if_neg gV] at q9;rw [if_neg gV];exact again I9 q9
   | true =>
    rw [if_pos rfl] at q9;rw [if_pos rfl];refine thn (he _ s9 τ8 H9 _ I9 q9) λv10 s10 ⟨x10,H10,I10,r10,q10⟩=>?_;obtain⟨ys,hD10,hz,m',hm,w10⟩:=q10;refine thn (dN (X:=bO X N' scope s3 H3 fp pins) _ s10 τ8 H10 (.ref D) [x10] (.ref D) [v10] (λ_ H'=>∃m',m'<n/\W (i+1) m' τ8 H') I10 rfl (.cons r10 .nil) ⟨D,ys,x10,rfl,rfl,hD10,hz,m',hm,w10⟩) λ_ s11 ⟨_,H11,I11,_,q11⟩=>?_;exact again I11 q11
 exact codeAny_compStart_list (loop _ I4 st4) (T.self X.A 0 _ _ _ st4 (loop _ I4 st4))
def bg{pos:Pos}(N':List Str)(ix:List (Option Nat))(hc:X.calm=true)(hi:PI X tg iter wi)
  (blk:∀s H fp pn,PG (bO X N' scope s H fp pn) tg g/\PIf (bO X N' scope s H fp pn) ifs tts/\PE (bO X N' scope s H fp pn) elt te)
  (chk:k6 X.env.scope X.N scope N' ix=true) (hs:∀x,foldedSetIterable iter X.env x=pure x:=by intro _;rfl) :
  PE X (.ListComp elt [⟨tg,iter,ifs,0⟩] scope pos) (mC ix wi g tts te):=by
 intro pins s σ H Q I hw;rw [eval_ListComp];refine mD (use:=none) hc (mx chk) hi blk hs I hw λD C H' s' I' q hm hn h1 h2 h3 h4 h5=>?_;obtain⟨m,hm⟩:=hm;refine⟨m,hm,λh' sb=>⟨.ref D,H',?_,rfl,q⟩⟩;exact I'.turned (t':=s'.toks) (λb o hb e=>(sb.2 b hb).trans e) hn h2 (.inr h1) h3 h5
end
section
variable {X:Cx}{tg iter elt:Expr}{ifs:List Expr}{scope:Scope}{N':List Str}{ix:List (Option Nat)}{wi:TI}{g:TG}{tts:TT}{te:TE}
theorem r8{i:Nat}{x:Str}{pos pos' cpos:Pos}(N':List Str)(ix:List (Option Nat))(hN:X.N.Nodup)(hi:X.N[i]?=some x)(hx:Loc X.env.scope x)(hc:X.calm=true)(hit:PI X tg iter wi)
  (blk:∀s H fp pn,PG (bO X N' scope s H fp pn) tg g/\PIf (bO X N' scope s H fp pn) ifs tts/\PE (bO X N' scope s H fp pn) elt te)
  (chk:k6 X.env.scope X.N scope N' ix=true) (hsw:swapsWith (.ListComp elt [⟨tg,iter,ifs,0⟩] scope cpos) (some (.Name x pos')) pos.line X.env=pure true:=by rfl)
  (hs:∀x,foldedSetIterable iter X.env x=pure x:=by intro _;rfl) (hf:X.fn x=true\/X.env.scope.names.lookup x=some .local:=by first|exact .inl rfl|exact .inr rfl|assumption) :
  PS X (.Assign [.Name x pos'] (.ListComp elt [⟨tg,iter,ifs,0⟩] scope cpos) pos) (yC (mC ix wi g tts te) (bw i)):=by
 intro pins s σ H D I hw;rw [exec_Assign_Name_used _ _ _ _ hsw];refine b_ (wpAny_standAt (b_ ?_));show wpAny _ X.A (do let _ <- comprehension (.ListComp elt [⟨tg,iter,ifs,0⟩] scope cpos) scope X.env _ (newList []) false (eval iter X.env) (some (assign (.Name x pos') X.env))) _ _ s;refine b_ (thn (mD (use:=some (assign (.Name x pos') X.env)) (Qf:=λ_ s'=>SP X pins D .next s') hc (mx chk) hit blk hs I hw λD' C H' s' I' q hm hn h1 h2 h3 h4 h5=>?_) λ_ s' q=>e_ (e_ q))
 obtain⟨m,oC,es,ep,hoC,hdC,hrC⟩:=hm
 have Ip:Inv X (pins++[(C,oC)]) σ H' s':=I'.pins_of λp hp=>(DP.mp hp).elim (λz=>I'.pin p (we _ z)) λz=>by
  have e:p=(C,oC):=by simpa using z
  subst e;exact⟨hoC,hn,h2,h4,λv z=>by rw [hdC] at z;cases z⟩
 refine wpAny_assign_Name (iW (v:=.ref D') Ip hN hi hx rfl (λs2 I2=>?_) hf);have hC2:s2.heap.get? C=some oC:=(I2.pin (C,oC) (by simp)).1;have I2':Inv X pins (σ.set i (some (.ref D'))) H' s2:=I2.pins_of λp hp=>I2.pin p (we _ (DG _ hp));refine⟨m,⟨oC,es,ep,hC2,hdC,hrC⟩,λh' sb=>⟨_,H',?_,q⟩⟩;exact I2'.turned (t':=s2.toks) (λb o hb e=>(sb.2 b hb).trans e) hn h2 (.inr h1) h3 h5
end
noncomputable def vy(p:Addr)(a b c:Int):HO:=.ext λh=>∃t u v,IsRange h p a b c t u v
noncomputable def nP(a c:Int)(n:Nat):List V:=(c_ n).map λ(k:Nat)=>V.int (a+k*c)
def qx{a c:Int}{n:Nat}{acc:Array Value}(h:ItemsOf (λi v=>∃t,v=.int (a+i*c) t) acc n):bB (nP a c n) acc.toList:=by
 obtain⟨hn,hi⟩:=h
 have key:∀(m:Nat) (us:List Value) (f:Nat->Int),us.length=m->(∀i u,us[i]?=some u->∃t,u=F_ (f i) t)->bB ((c_ m).map λk=>V.int (f k)) us:=by
  intro m
  induction m with
  | zero=>intro us f hl _;rw [Ec] at hl;subst hl;exact .nil
  | succ m ih =>
   intro us f hl hu
   cases us with
   | nil=>simp at hl
   | cons u r =>
    rw [range_succ_eq_map,map_cons,map_map];refine .cons (hu 0 u rfl) (ih r (λk=>f (k+1)) (by simpa using hl) λi v e=>hu (i+1) v (by simpa using e))
 refine key n acc.toList (λk=>a+k*c) (by simpa using hn) λi u e=>?_;exact hi i u (by simpa using e)
def r9(a c:Int)(n:Nat):(nP a c n).length=n:=by simp [nP]
section
variable {X:Cx}
def uo{pins:List (Addr×Obj)}{σ:St}{H:Hp}{s:cx}{a b c:Int}{t u v:Tok}{tk:Nat}(I:Inv X pins σ H s) :
  Inv X pins σ (upd H s.heap.objs.size (vy s.heap.objs.size a b c)) { s with heap:=s.heap.push { cls:=.type "range",data:=.fields #[.int a t,.int b u,.int c v] },toks:=tk }:=by
 refine I.laid (λb o e=>cn _ e) (l_ _) ⟨⟨t,u,v,IsRange.new ..⟩,⟨_,f_ _ rfl⟩,λh1 h2 ⟨t,u,v,z⟩ k=>⟨t,u,v,k _ z⟩⟩
def sd{a:Expr}{ta:TA}{p pos:Pos}(hg:Gl X "range")(hm:X.mg "range"=none)(ha:PA X [a] ta)(hs:starEach [a] X.env=[(false,eval a X.env)]:=by rfl) :
  PE X (.Call (.Name "range" p) [a] [] pos) (λσ H Q=>ta σ H λvs H1=>∃j:Int,vs=[.int j]/\∀p,H1 p=none->Q (.ref p) (upd H1 p (vy p 0 j 1))):=by
 intro pins s σ H Q I h;refine Call_ (gm I hg hm boot_range (DD (thn (ha pos pins s σ H _ I h) λus s1 ⟨vs,H1,I1,r1,q1⟩=>?_) hs rfl));obtain⟨j,e,q⟩:=q1;subst e
 cases r1 with
 | cons r rr =>
  cases rr;obtain⟨t,rfl⟩:=r;exact call_range_1 ⟨.ref s1.heap.objs.size,_,uo I1,rfl,q _ (I1.hok.fresh (l_ _))⟩
noncomputable def Br(K:a_)(mk:List V->HO):List V->Hp->VK->Prop:=λxs H Q=>∃p a b c n,xs=[.ref p]/\H p=some (vy p a b c)/\EL a b c=true/\DR a b c=((n:Nat):Int)/\n<=1000000/\∀l,H l=none->Q (.ref l) (upd H l (mk (nP a c n)))
def qy(hc:X.calm=true):bx X (.type "list") (Br X.K .lst):=by
 intro pins s σ H xs us Q I r h;obtain⟨p,a,b,c,n,rfl,hp,hsm,hsz,hn,q⟩:=h;obtain⟨u,rfl,rx⟩:=gn r;cases rx;obtain⟨⟨t,u,v,hr⟩,_,_⟩:=(show bC X.prog X.w H s.heap p (vy p a b c) from I.hok p _ hp)
 have hs:sizeLine=16777216:=EU;refine call_list_range (I.ok.hd hc) hr hsm hsz (by omega) λh' tk acc c' hk e hacc=>?_;exact⟨.ref s.heap.objs.size,_,I.laid (t':=tk) hk (l_ _) (show bC X.prog X.w _ h' _ (.lst (nP a c n)) from ⟨by rw [r9];omega,acc.toList,c',qx hacc,by simpa using e⟩),rfl,q _ (I.hok.fresh (l_ _))⟩
end
noncomputable def dE(k:Bool)(h:Heap)(a:Addr)(its:Array Value):Prop:=∃o,h.get? a=some o/\o.cls=.type (cond k "tuple" "list")/\∃n,o.data=.seq its n
noncomputable def bQ(k:Bool)(h:Heap)(it a:Addr)(i:Nat):Prop:=∃o,h.get? it=some o/\o.cls=.type (cond k "tuple_iterator" "list_iterator")/\o.data=.fields #[.ref a,.int i 0]
def dE.mv{k:Bool}{h h':Heap}{a:Addr}{its:Array Value}(r:dE k h a its)(f:∀o,h.get? a=some o->h'.get? a=some o):dE k h' a its:=let ⟨o,e,q⟩:=r;⟨o,f o e,q⟩
def bQ.mv{k:Bool}{h h':Heap}{it a:Addr}{i:Nat}(r:bQ k h it a i)(f:∀o,h.get? it=some o->h'.get? it=some o):bQ k h' it a i:=let ⟨o,e,q⟩:=r;⟨o,f o e,q⟩
section
variable {P:n_}{w:World}{A:t_}{E:Value->cx->Prop}{s:cx}{k:Bool}{it a:Addr}{i:Nat}{its:Array Value}
def mE{x:Value}{Q:Value->cx->Prop}(W:s.heap.IsTupleIter it a i)(R:s.heap.IsTuple a its)(hx:its[i]?=some x)
  (hQ:∀h',h'.IsTupleIter it a (i+1)->E3 it s.heap h'->Q x { s with heap:=h' }):wpAny (model P w) A (tj (.ref it)) Q E s:=by
 have hT:=W.typeIs;obtain⟨o,ho,c,d⟩:=W;obtain⟨ol,hol,_,nl,dl⟩:=R;unfold tj;refine b_ (DE (name:=DY "__next__") hT F.slot_tuple_iterator_next (D_ F.slot_tuple_iterator_next hT F.entry_tuple_iterator_next ?_ (F.args_tuple_iterator_next_1 _)));refine b_ (m:=field (.ref it) 0) (DF ho d (x:=.ref a) rfl ?_);have nn:¬ ((x_ a == Et)=true):=gV
 show wpAny _ _ (if (x_ a == Et)=true then _ else _) _ _ s;rw [if_neg nn];refine b_ (m:=field (.ref it) 1) (DF ho d (x:=.int i 0) rfl ?_);refine b_ (m:=seqItems? (.ref a)) (DM hol dl ?_);simp only [toNat_natCast,hx];exact b_ (wpAny_setField ho d (by simp) (e_ ⟨x,rfl,e_ (hQ _ ⟨_,Ef _ ho (Obj.isFreed_of_fields (Obj.data_mapFields d _)),(Obj.cls_mapFields ..).trans c,by rw [Obj.data_mapFields d];simp [rawInt]⟩ (Heap.SameBut.update ..))⟩))
def nQ{Q:Value->cx->Prop}(hh:A.handled=none)(W:s.heap.IsTupleIter it a i)(R:s.heap.IsTuple a its)(hx:its[i]?=none)
  (hE:∀h' e,GE it s.heap h'->(∃o,h'.get? e=some o/\o.cls=.type "StopIteration")->E (.ref e) { s with heap:=h' }):wpAny (model P w) A (tj (.ref it)) Q E s:=by
 have hT:=W.typeIs;obtain⟨o,ho,c,d⟩:=W;obtain⟨ol,hol,_,nl,dl⟩:=R;unfold tj;refine b_ (DE (name:=DY "__next__") hT F.slot_tuple_iterator_next (D_ F.slot_tuple_iterator_next hT F.entry_tuple_iterator_next ?_ (F.args_tuple_iterator_next_1 _)));refine b_ (m:=field (.ref it) 0) (DF ho d (x:=.ref a) rfl ?_);have nn:¬ ((x_ a == Et)=true):=gV
 show wpAny _ _ (if (x_ a == Et)=true then _ else _) _ _ s;rw [if_neg nn];refine b_ (m:=field (.ref it) 1) (DF ho d (x:=.int i 0) rfl ?_);refine b_ (m:=seqItems? (.ref a)) (DM hol dl ?_);simp only [toNat_natCast,hx];refine b_ (wpAny_rule (b_ (wpAny_setField ho d (by simp) (b_ (m:=newExc (.type "StopIteration") []) ?_))));simp only [newExc,newTuple]
 refine b_ (D6 (b_ (m:=firstArgMember _ _) (wpAny_of_eq (a:=Et) (by first|rfl|(simp only [firstArgMember];rfl)) (D6 ?_ (by size_fits)))) (by size_fits));simp only [raiseNew];refine b_ (wpAny_handled ?_)
 first|rw [show A.in1.handled=none from hh]|rw [hh]
 exact b_ (e_ (wpAny_throw (hE _ _ (((Heap.SameBut.update ..).extBut.push _).push _) ⟨_,f_ _ rfl,rfl⟩)))
def du{x:Value}{Q:Value->cx->Prop}(W:bQ k s.heap it a i)(R:dE k s.heap a its)(hx:its[i]?=some x)
  (hQ:∀h',bQ k h' it a (i+1)->E3 it s.heap h'->Q x { s with heap:=h' }):wpAny (model P w) A (tj (.ref it)) Q E s:=by
 cases k with
 | false=>exact wpAny_nextOf_list_item W R hx hQ
 | true=>exact mE W R hx hQ
def eh{Q:Value->cx->Prop}(hh:A.handled=none)(W:bQ k s.heap it a i)(R:dE k s.heap a its)(hx:its[i]?=none)
  (hE:∀h' e,GE it s.heap h'->(∃o,h'.get? e=some o/\o.cls=.type "StopIteration")->E (.ref e) { s with heap:=h' }):wpAny (model P w) A (tj (.ref it)) Q E s:=by
 cases k with
 | false=>exact wpAny_nextOf_list_end hh W R hx hE
 | true=>exact nQ hh W R hx hE
end
structure ZA (z U V i j:Addr):Prop where
 Uz:U≠z
 Vz:V≠z
 iz:i≠z
 jz:j≠z
 UV:U≠V
 Ui:U≠i
 Uj:U≠j
 Vi:V≠i
 Vj:V≠j
 ij:i≠j
section
variable {P:n_}{w:World}{A:t_}{E:Value->cx->Prop}{s:cx}{k l:Bool}{z U V i j a c:Addr}{n:Nat}{xs ys:Array Value}{x y u v:Value}
def wQ{Q:Value->cx->Prop}(D:ZA z U V i j)(az:a≠z)(cz:c≠z)(ci:c≠i)(cV:c≠V)(hz:IsZip s.heap z U V .none)(hU:ES s.heap U (.ref i) (.ref j))(hV:ES s.heap V u v)
  (W1:bQ k s.heap i a n) (W2:bQ l s.heap j c n) (R1:dE k s.heap a xs) (R2:dE l s.heap c ys) (hx:xs[n]?=some x) (hy:ys[n]?=some y)
  (hQ:∀h',IsZip h' z U V (rawInt s.heap.objs.size)->ES h' V x y->bQ k h' i a (n+1)->bQ l h' j c (n+1)->ES h' s.heap.objs.size x y->h'.objs.size=s.heap.objs.size+1 ->
   (∀b o,b≠z->b≠V->b≠i->b≠j->s.heap.get? b=some o->h'.get? b=some o)->Q (.ref s.heap.objs.size) { s with heap:=h' }) :
  wpAny (model P w) A (GI.«zip.__next__» ⟨[.ref z],[]⟩) (λf s'=>∃r,f=.done (.ret r)/\Q r s') E s:=by
 refine b_ (m:=field (.ref z) 2) (DF hz rfl (x:=.bool false) rfl (b_ (m:=field (.ref z) 3) (DF hz rfl (x:=.ref U) rfl (b_ (DM hU rfl ?_)))));refine b_ (m:=DN (.ref z)) ?_;unfold DN;refine b_ (DF hz rfl (x:=.none) rfl (e_ ?_));simp only [if_true];refine b_ (wpAny_rule (b_ (DF hz rfl (x:=.ref V) rfl (b_ (Ed hz (by simp) λg1 z1 b1=>b_ ?_)))))
 replace z1:IsZip g1 z U V .ellipsis:=z1
 simp only [zipIdx_cons,zipIdx_nil,forIn_cons,forIn_nil];have e1:=b1.extBut;refine b_ (b_ (Fg (b_ (m:=tj (.ref i)) (du (W1.mv λo e=>e1 _ o D.iz e) (R1.mv λo e=>e1 _ o az e) hx λg2 w1 b2=>e_ ?_))));have e2:=b2.extBut;have v2:ES g2 V u v:=e2 _ _ D.Vi (e1 _ _ D.Vz hV);refine b_ (DM v2 rfl (b_ (Fj v2 λg3 v3 b3=>b_ (EX (e_ ?_)))))
 replace v3:ES g3 V x v:=v3
 have e3:=b3.extBut;refine b_ (b_ (Fg (b_ (m:=tj (.ref j)) (du (W2.mv λo e=>e3 _ o D.Vj.symm (e2 _ o D.ij.symm (e1 _ o D.jz e))) (R2.mv λo e=>e3 _ o cV (e2 _ o ci (e1 _ o cz e))) hy λg4 w2 b4=>e_ ?_))));have e4:=b4.extBut;have v4:ES g4 V x v:=e4 _ _ D.Vj v3;refine b_ (DM v4 rfl (b_ (Fj v4 λg5 v5 b5=>b_ (EX (e_ (e_ ?_))))))
 replace v5:ES g5 V x y:=v5
 have e5:=b5.extBut;refine b_ (DM v5 rfl (b_ (wpAny_newTuple ?_)));have sz:g5.objs.size=s.heap.objs.size:=by rw [b5.1,b4.1,b3.1,b2.1,b1.1]
 have z5:IsZip g5 z U V .ellipsis:=e5 _ _ D.Vz.symm (e4 _ _ D.jz.symm (e3 _ _ D.Vz.symm (e2 _ _ D.iz.symm z1)));have k5:∀b o,b≠z->b≠V->b≠i->b≠j->s.heap.get? b=some o->g5.get? b=some o:=λb o q1 q2 q3 q4 e=>e5 _ _ q2 (e4 _ _ q4 (e3 _ _ q2 (e2 _ _ q3 (e1 _ _ q1 e))));have w15:bQ k g5 i a (n+1):=w1.mv λo e=>e5 _ o D.Vi.symm (e4 _ o D.ij (e3 _ o D.Vi.symm e));have w25:bQ l g5 j c (n+1):=w2.mv λo e=>e5 _ o D.Vj.symm e
 have zlt:z<g5.objs.size:=h_ z5;refine b_ (m:=EM (.ref z) (.ref g5.objs.size)) ?_;unfold EM;have z6:IsZip (g5.push { cls:=.type "tuple",data:=.seq #[x,y] }) z U V .ellipsis:=cn _ z5;refine b_ (Ed z6 (by simp) λg7 z7 b7=>?_)
 replace z7:IsZip g7 z U V (rawInt g5.objs.size):=z7
 refine Ed z7 (by simp) λg8 z8 b8=>?_
 replace z8:IsZip g8 z U V (rawInt g5.objs.size):=z8
 have up:∀b o,b≠z->g5.get? b=some o->g8.get? b=some o:=λb o q e=>b8.extBut _ _ q (b7.extBut _ _ q (cn _ e));have t8:ES g8 g5.objs.size x y:=b8.extBut _ _ (Fi zlt) (b7.extBut _ _ (Fi zlt) (f_ _ rfl));have s8:g8.objs.size=g5.objs.size+1:=by rw [b8.1,b7.1,DA]
 rw [sz] at z8 t8 s8;refine e_ ⟨_,rfl,?_⟩;show Q (.ref g5.objs.size) _;rw [sz];exact hQ g8 z8 (up _ _ D.Vz v5) (w15.mv λo e=>up _ o D.iz e) (w25.mv λo e=>up _ o D.jz e) t8 s8 λb o q1 q2 q3 q4 e=>up b o q1 (k5 b o q1 q2 q3 q4 e)
def zg{Q:Fin->cx->Prop}(hh:A.handled=none)(D:ZA z U V i j)(az:a≠z)(cz:c≠z)(ci:c≠i)(cV:c≠V)(hz:IsZip s.heap z U V .none)(hU:ES s.heap U (.ref i) (.ref j))(hV:ES s.heap V u v)
  (W1:bQ k s.heap i a n) (W2:bQ l s.heap j c n) (R1:dE k s.heap a xs) (R2:dE l s.heap c ys) (hend:xs[n]?=none\/ys[n]?=none)
  (hE:∀h' e,(∀b o,b≠z->b≠V->b≠i->b≠j->s.heap.get? b=some o->h'.get? b=some o)->(∃o,h'.get? e=some o/\o.cls=.type "StopIteration")->E (.ref e) { s with heap:=h' }) :
  wpAny (model P w) A (GI.«zip.__next__» ⟨[.ref z],[]⟩) Q E s:=by
 refine b_ (m:=field (.ref z) 2) (DF hz rfl (x:=.bool false) rfl (b_ (m:=field (.ref z) 3) (DF hz rfl (x:=.ref U) rfl (b_ (DM hU rfl ?_)))));refine b_ (m:=DN (.ref z)) ?_;unfold DN;refine b_ (DF hz rfl (x:=.none) rfl (e_ ?_));simp only [if_true];refine b_ (wpAny_rule (b_ (DF hz rfl (x:=.ref V) rfl (b_ (Ed hz (by simp) λg1 z1 b1=>b_ ?_)))))
 replace z1:IsZip g1 z U V .ellipsis:=z1
 simp only [zipIdx_cons,zipIdx_nil,forIn_cons,forIn_nil];have e1:=b1.extBut
 cases hx:xs[n]? with
 | none =>
  refine b_ (b_ (Fg (b_ (m:=tj (.ref i)) (eh hh (W1.mv λo e=>e1 _ o D.iz e) (R1.mv λo e=>e1 _ o az e) hx λg2 e b2 he=>?_))));obtain⟨oe,ge,ce⟩:=he;have z2:IsZip g2 z U V .ellipsis:=b2 _ _ D.iz.symm z1;have ez:e≠z:=λq=>by subst q;rw [z2] at ge;cases ge;simp at ce
  exact Ed z2 (by simp) λg3 _ b3=>hE g3 e (λb o q1 _ q3 _ q=>b3.extBut _ _ q1 (b2 _ _ q3 (e1 _ _ q1 q))) ⟨oe,b3.extBut _ _ ez ge,ce⟩
 | some x =>
  have hy:ys[n]?=none:=by
   rcases hend with q|q
   .rw [hx] at q;cases q
   .exact q
  refine b_ (b_ (Fg (b_ (m:=tj (.ref i)) (du (W1.mv λo e=>e1 _ o D.iz e) (R1.mv λo e=>e1 _ o az e) hx λg2 w1 b2=>e_ ?_))));have e2:=b2.extBut;have v2:ES g2 V u v:=e2 _ _ D.Vi (e1 _ _ D.Vz hV);refine b_ (DM v2 rfl (b_ (Fj v2 λg3 v3 b3=>b_ (EX (e_ ?_)))))
  have e3:=b3.extBut;refine b_ (b_ (Fg (b_ (m:=tj (.ref j)) (eh hh (W2.mv λo e=>e3 _ o D.Vj.symm (e2 _ o D.ij.symm (e1 _ o D.jz e))) (R2.mv λo e=>e3 _ o cV (e2 _ o ci (e1 _ o cz e))) hy λg4 e b4 he=>?_))));obtain⟨oe,ge,ce⟩:=he;have z4:IsZip g4 z U V .ellipsis:=b4 _ _ D.jz.symm (e3 _ _ D.Vz.symm (e2 _ _ D.iz.symm z1));have ez:e≠z:=λq=>by subst q;rw [z4] at ge;cases ge;simp at ce
  exact Ed z4 (by simp) λg5 _ b5=>hE g5 e (λb o q1 q2 q3 q4 q=>b5.extBut _ _ q1 (b4 _ _ q4 (e3 _ _ q2 (e2 _ _ q3 (e1 _ _ q1 q))))) ⟨oe,b5.extBut _ _ ez ge,ce⟩
end
noncomputable def Sq(k:Bool)(K:a_)(H:Hp)(a:Addr)(xs:List V):Prop:=cond k (SqT K H a xs) (SqL K H a xs)
section
variable {X:Cx}{pins:List (Addr×Obj)}{σ:St}{H:Hp}{s:cx}{k l:Bool}{a b c:Addr}{xs ys:List V}
def Inv.row(I:Inv X pins σ H s)(h:Sq k X.K H a xs):∃its:List Value,bB xs its/\dE k s.heap a its.toArray/\xs.length<=sizeLine:=by
 cases k with
 | false=>obtain⟨its,r,p,z⟩:=I.list h;exact⟨its,r,p.isList,z⟩
 | true=>obtain⟨its,r,p,z⟩:=I.tuple h;exact⟨its,r,p,z⟩
def Inv.row_inj(I:Inv X pins σ H s)(h:Sq k X.K H a xs)(h':Sq k X.K H a ys):xs=ys:=by
 cases k with
 | false=>exact I.list_inj h h'
 | true=>exact I.tuple_inj h h'
def se{u:HO}(r:Rd H a u):∃v,H a=some v:=by
 rcases r with r|⟨o,r⟩ <;> exact⟨_,r⟩
def Inv.row_ne(I:Inv X pins σ H s)(h:Sq k X.K H a xs)(f:qY X pins H b):a≠b:=by
 have kk:∀o,X.K.lookup a=some o->a≠b:=λo e z=>by
  have e1:=I.ok.mod.kin a o e
  rcases f.2.2.2.1 with q|q
  .exact I.ok.noex a o e1 (z ▸ q)
  .exact absurd (pf (h_ (I.ok.bs a o e1).1) (z ▸ q)) (DB _)
 have hh:∀u,H a=some u->a≠b:=λu e z=>by rw [z,f.1] at e;cases e
 cases k with
 | false =>
  rcases h with r|⟨o,its,n,e,_⟩
  .obtain⟨v,e⟩:=se r;exact hh v e
  .exact kk o e
 | true =>
  rcases h with r|⟨o,its,n,e,_⟩
  .obtain⟨v,e⟩:=se r;exact hh v e
  .exact kk o e
def Inv.yielded{h':Heap}{T:Addr}{zs:List V}{t':Nat}{ch:List Addr}(I:Inv X pins σ H s)(hf:∀b∈ch,qY X pins H b)(hT:s.heap.objs.size<=T)
  (kp:∀b o,b∉ch->s.heap.get? b=some o->h'.get? b=some o) (new:bC X.prog X.w (upd H T (.tup zs)) h' T (.tup zs)):Inv X pins σ (upd H T (.tup zs)) { s with heap:=h',toks:=t' }:=by
 have hn:H T=none:=I.hok.fresh hT;have nT:∀b u,H b=some u->b≠T:=λb u e z=>by rw [z,hn] at e;cases e
 have oT:∀b o,s.heap.get? b=some o->b≠T:=λb o e z=>absurd (pf (h_ e) (z ▸ hT)) (DB _);have nc:∀b u,H b=some u->b∉ch:=λb u e z=>by rw [(hf b z).1] at e;cases e
 refine I.step (g':=s.gens) (d':=s.drawn) (ch:=ch) (λb hb=>⟨(hf b hb).2.2.2.1,(hf b hb).2.1,(hf b hb).2.2.2.2.1,(hf b hb).2.2.2.2.2⟩) (λb o _ _ hc e _=>kp b o hc e) (λb o _ _ hc e _=>⟨o.slots,kp b o hc e⟩)
  (λb o _ e n=>by rw [ax (oT b o e)];exact n) (λb o hc e=>⟨o,kp b o hc e⟩) (λb xs e=>by rw [ax (nT b _ e)];exact e) (λb o u e=>by rw [ax (nT b _ e)];exact e)
  (λb ps e=>⟨#[],by rw [ax (nT b _ e),e];simp⟩) (λm hm=>?_) (λb u e=>?_) I.bare
 .obtain⟨o,es,ep,ho,r⟩:=hm;exact⟨o,es,ep,kp _ o (λz=>(hf _ z).2.1 rfl) ho,r⟩
 .by_cases hb:b=T
  .subst hb;rw [aG] at e;cases e;exact new
  .rw [ax hb] at e;refine (I.hok b u e).stay (λc v hc q=>kp c v ?_ q) (λc q=>by rw [ax (nT c _ q)];exact q) λc xs q=>by rw [ax (nT c _ q)];exact q
   rcases hc with z|z
   .rw [z];exact nc b u e
   .exact nc c _ z
end
noncomputable def Itz(k l:Bool)(K:a_)(a c:Addr):It :=
  ⟨λi H=>∃xs ys x y,Sq k K H a xs/\Sq l K H c ys/\xs[i]?=some x/\ys[i]?=some y,
   λi H p H'=>∃T x y,H T=none/\p=.ref T/\(∀xs,Sq k K H a xs->xs[i]?=some x)/\(∀ys,Sq l K H c ys->ys[i]?=some y)/\H'=upd H T (.tup [x,y]),
   λi H=>∃xs ys,Sq k K H a xs/\Sq l K H c ys/\(xs.length<=i\/ys.length<=i)⟩
def uq{P:n_}{w:World}{K:a_}{es:List Expr}{ct:Nat}{tp:Pos}{k l:Bool}{a c z U V i j:Addr}(D:ZA z U V i j) :
  wn P w K (.Tuple es ct tp) (Itz k l K a c) [z,U,V,i,j] z (λn h=>IsZip h z U V .none/\ES h U (.ref i) (.ref j)/\(∃u v,ES h V u v)/\bQ k h i a n/\bQ l h j c n) where
 mem:=by simp
 obj:=λn h st b hb=>by
  obtain⟨hz,hU,⟨u,v,hV⟩,⟨o1,g1,c1,d1⟩,⟨o2,g2,c2,d2⟩⟩:=st;simp only [C_,not_mem_nil,or_false] at hb
  rcases hb with rfl|rfl|rfl|rfl|rfl
  .exact⟨_,hz,λv q=>by cases q⟩
  .exact⟨_,hU,λv q=>by cases q⟩
  .exact⟨_,hV,λv q=>by cases q⟩
  .exact⟨_,g1,λv q=>by rw [d1] at q;cases q⟩
  .exact⟨_,g2,λv q=>by rw [d2] at q;cases q⟩
 keep:=λn h h' st kk=>by
  obtain⟨hz,hU,⟨u,v,hV⟩,w1,w2⟩:=st;exact⟨kk z (by simp) _ hz,kk U (by simp) _ hU,⟨u,v,kk V (by simp) _ hV⟩,w1.mv λo e=>kk i (by simp) o e,w2.mv λo e=>kk j (by simp) o e⟩
 item:=by
  intro X hP hw hK hc n pins s σ H E I hf st hg;subst hP hw hK;obtain⟨xs,ys,x,y,q1,q2,hx,hy⟩:=hg;obtain⟨hz,hU,⟨u,v,hV⟩,w1,w2⟩:=st;obtain⟨its,rv,p,_⟩:=I.row q1;obtain⟨jts,rv',p',_⟩:=I.row q2;obtain⟨ux,hux,rx⟩:=rv.get hx;obtain⟨uy,huy,ry⟩:=rv'.get hy;have hT:s.TypeIs (.ref z) "zip":=⟨_,hz,rfl⟩
  have nz:=I.row_ne q1 (hf z (by simp));have mz:=I.row_ne q2 (hf z (by simp));have mi:=I.row_ne q2 (hf i (by simp));have mV:=I.row_ne q2 (hf V (by simp));unfold pyNext
  refine b_ (wpAny_attempt (DE (name:=DY "__next__") hT F.slot_zip_next (D_ F.slot_zip_next hT F.entry_zip_next
   (wQ (x:=ux) (y:=uy) D nz mz mi mV hz hU hV w1 w2 p p' (by simpa using hux) (by simpa using huy) λh' a1 a2 a3 a4 a5 a6 a7=>e_ ?_) (F.args_zip_next_1 _))))
  refine⟨_,rfl,wpAny_letOwnedTupleGo_zip a1 λg gz gs=>?_⟩;have lt:∀{b o},s.heap.get? b=some o->s.heap.objs.size≠b:=λe=>Fi (h_ e)
  have kp:∀b o,b∉[z,V,i,j]->s.heap.get? b=some o->g.get? b=some o:=λb o hb e=>by
   simp only [C_,not_mem_nil,or_false,not_or] at hb;exact gs.extBut _ _ hb.1 (a7 b o hb.1 hb.2.1 hb.2.2.1 hb.2.2.2 e)
  have I2:Inv X pins σ (upd H s.heap.objs.size (.tup [x,y])) { s with heap:=g,toks:=s.toks }:=I.yielded (ch:=[z,V,i,j]) (λb hb=>hf b (by
   simp only [C_,not_mem_nil,or_false] at hb ⊢;rcases hb with q|q|q|q <;> simp [q])) (l_ _) kp ⟨by show 2<=sizeLine;decide,[ux,uy],.cons rx (.cons ry .nil),_,gs.extBut _ _ (lt hz) a5,rfl,_,rfl⟩
  refine⟨.ref s.heap.objs.size,_,I2,rfl,⟨_,x,y,I.hok.fresh (l_ _),rfl,λxs' q=>by rw [I.row_inj q q1];exact hx,λys' q=>by rw [I.row_inj q q2];exact hy,rfl⟩,
   ⟨gz,gs.extBut _ _ D.Uz (a7 _ _ D.Uz D.UV D.Ui D.Uj hU),⟨_,_,gs.extBut _ _ D.Vz a2⟩,a3.mv λo e=>gs.extBut _ o D.iz e,a4.mv λo e=>gs.extBut _ o D.jz e⟩,λb hb=>?_⟩
  rw [ax ?_]
  .exact (hf b hb).1
  .intro q;subst q;simp only [C_,not_mem_nil,or_false] at hb;obtain⟨o1,g1,_⟩:=w1;obtain⟨o2,g2,_⟩:=w2
   rcases hb with q|q|q|q|q
   .exact lt hz q
   .exact lt hU q
   .exact lt hV q
   .exact lt g1 q
   .exact lt g2 q
 done:=by
  intro X hP hw hK hc n pins s σ H E I hf st hg;subst hP hw hK;obtain⟨xs,ys,q1,q2,hend⟩:=hg;obtain⟨hz,hU,⟨u,v,hV⟩,w1,w2⟩:=st;obtain⟨its,rv,p,_⟩:=I.row q1;obtain⟨jts,rv',p',_⟩:=I.row q2;have e1:=rv.length;have e2:=rv'.length;have hT:s.TypeIs (.ref z) "zip":=⟨_,hz,rfl⟩
  unfold pyNext
  refine b_ (wpAny_attempt (DE (name:=DY "__next__") hT F.slot_zip_next (D_ F.slot_zip_next hT F.entry_zip_next
   (zg (I.ok.hd hc) D (I.row_ne q1 (hf z (by simp))) (I.row_ne q2 (hf z (by simp))) (I.row_ne q2 (hf i (by simp))) (I.row_ne q2 (hf V (by simp))) hz hU hV w1 w2 p p' ?_ λh' e hk he=>?_) (F.args_zip_next_1 _))))
  .rcases hend with q|q
   .exact .inl (by simp;omega)
   .exact .inr (by simp;omega)
  .obtain⟨o,ho,hcl⟩:=he;refine b_ (wpAny_isInstance (T:="StopIteration") (b:=true) ⟨o,ho,hcl⟩ isSubtype_stop (e_ ⟨rfl,?_⟩))
   exact I.step (g':=s.gens) (d':=s.drawn) (t':=s.toks) (ch:=[z,V,i,j]) (λb hb=>by
     have q:=hf b (by
      simp only [C_,not_mem_nil,or_false] at hb ⊢;rcases hb with q|q|q|q <;> simp [q])
     exact⟨q.2.2.2.1,q.2.1,q.2.2.2.2.1,q.2.2.2.2.2⟩) (λb o _ _ hc e _=>by
     simp only [C_,not_mem_nil,or_false,not_or] at hc;exact hk b o hc.1 hc.2.1 hc.2.2.1 hc.2.2.2 e) (λb o _ _ hc e _=>⟨o.slots,by
     simp only [C_,not_mem_nil,or_false,not_or] at hc;exact hk b o hc.1 hc.2.1 hc.2.2.1 hc.2.2.2 e⟩) (λ_ _ _ _ q=>q) (λb o hc e=>⟨o,by
     simp only [C_,not_mem_nil,or_false,not_or] at hc;exact hk b o hc.1 hc.2.1 hc.2.2.1 hc.2.2.2 e⟩) (λ_ _ e=>e) (λ_ _ _ e=>e) (λb ps e=>⟨#[],by rw [e];simp⟩) (λm hm=>by
     obtain⟨o,es,ep,ho,r⟩:=hm;exact⟨o,es,ep,hk _ o (hf z (by simp)).2.1.symm (hf V (by simp)).2.1.symm (hf i (by simp)).2.1.symm (hf j (by simp)).2.1.symm ho,r⟩) (λb u e=>by
     have nn:∀b u,H b=some u->b≠z/\b≠V/\b≠i/\b≠j:=λb u e=>⟨λq=>(by rw [q,(hf z (by simp)).1] at e;cases e),λq=>(by rw [q,(hf V (by simp)).1] at e;cases e),λq=>(by rw [q,(hf i (by simp)).1] at e;cases e),λq=>(by rw [q,(hf j (by simp)).1] at e;cases e)⟩
     refine (I.hok b u e).stay (λc v hc q=>?_) (λ_ q=>q) λ_ _ q=>q
     have n4:c≠z/\c≠V/\c≠i/\c≠j:=by
      rcases hc with q|q
      .rw [q];exact nn b u e
      .exact nn c _ q
     exact hk c v n4.1 n4.2.1 n4.2.2.1 n4.2.2.2 q) I.bare
 self:=λ_ _ _ _ _ st h=>wpAny_pyIter_zip st.1 h
def Bs(n:Nat):ZA (n+4) (n+2) (n+3) n (n+1):=by
 refine⟨?_,?_,?_,?_,?_,?_,?_,?_,?_,?_⟩ <;> (intro h;have h2:@Eq Nat _ _:=h;omega)
section
variable {P:n_}{w:World}{A:t_}{E:Value->cx->Prop}{s:cx}{k l:Bool}
abbrev iM(k:Bool)(a:Addr):Obj:={ cls:=.type (cond k "tuple_iterator" "list_iterator"),data:=.fields #[.ref a,.int 0 0] }
def dP{a:Addr}{its:Array Value}{Q:Value->cx->Prop}(R:dE k s.heap a its)(hQ:Q (.ref s.heap.objs.size) { s with heap:=s.heap.push (iM k a) }):wpAny (model P w) A (pyIter (.ref a)) Q E s:=by
 cases k with
 | false=>exact Ei R hQ
 | true=>exact wpAny_pyIter_tuple R hQ
abbrev zg1(h:Heap)(k:Bool)(a:Addr):Heap:=h.push (iM k a)
abbrev zg2(h:Heap)(k l:Bool)(a c:Addr):Heap:=(zg1 h k a).push (iM l c)
abbrev zg3(h:Heap)(k l:Bool)(a c:Addr):Heap:=(zg2 h k l a c).push { cls:=.type "tuple",data:=.seq #[.ref h.objs.size,.ref (zg1 h k a).objs.size] }
abbrev zg4(h:Heap)(k l:Bool)(a c:Addr):Heap:=(zg3 h k l a c).push { cls:=.type "tuple",data:=.seq #[.none,.none] }
abbrev zg5(h:Heap)(k l:Bool)(a c:Addr):Heap:=(zg4 h k l a c).push { cls:=.type "zip",data:=.fields #[.none,.bool false,.bool false,.ref (zg2 h k l a c).objs.size,.ref (zg3 h k l a c).objs.size] }
def wR(k l:Bool)(a c:Addr)(xs ys:Array Value):Meets (GI.«zip.__new__» ⟨[.type "zip",.ref a,.ref c],[]⟩) (λ_ R s=>dE k s.heap a xs/\dE l s.heap c ys /\
   R (.ok (.ret (.ref (zg4 s.heap k l a c).objs.size))) { s with heap:=zg5 s.heap k l a c }) :=
 .of_wp λprog w A R s h=>by
  obtain⟨hp,g,d,tk,os⟩:=s;obtain⟨r1,r2,h⟩:=h;have hsub:=sub_zip;have R1:dE k (Shared.heap ⟨hp,g,d,tk,os⟩) a xs:=r1;have R2:dE l (Shared.heap ⟨hp.push (iM k a),g,d,tk,os⟩) c ys:=r2.mv λo e=>cn _ e
  wp_walk using dP R1,dP R2
  exact⟨_,rfl,h⟩
def wS{a c:Addr}{xs ys:Array Value}{Q:Value->cx->Prop}(r1:dE k s.heap a xs)(r2:dE l s.heap c ys)
  (h:∀h',IsZip h' (s.heap.objs.size+4) (s.heap.objs.size+2) (s.heap.objs.size+3) .none->ES h' (s.heap.objs.size+2) (.ref s.heap.objs.size) (.ref (s.heap.objs.size+1)) ->
   ES h' (s.heap.objs.size+3) .none .none->bQ k h' s.heap.objs.size a 0->bQ l h' (s.heap.objs.size+1) c 0->(∀b o,s.heap.get? b=some o->h'.get? b=some o)->Q (.ref (s.heap.objs.size+4)) { s with heap:=h' }) :
  wpAny (model P w) A (call (.type "zip") [.ref a,.ref c]) Q E s:=by
 refine callType_new F.called_zip (by decide) (F.typeCall_zip_2 _ _) (F.newCall_zip_2 _ _) (λobj=>F.args_object_init_3 obj _ _) F.entry_zip_new (wR k l a c xs ys) ⟨r1,r2,?_⟩;have z1:(zg1 s.heap k a).objs.size=s.heap.objs.size+1:=DA ..;have z2:(zg2 s.heap k l a c).objs.size=s.heap.objs.size+2:=by rw [DA,z1]
 have z3:(zg3 s.heap k l a c).objs.size=s.heap.objs.size+3:=by rw [DA,z2]
 have z4:(zg4 s.heap k l a c).objs.size=s.heap.objs.size+4:=by rw [DA,z3]
 have m4:∀b o,(zg4 s.heap k l a c).get? b=some o->(zg5 s.heap k l a c).get? b=some o:=λb o e=>cn _ e;have m3:∀b o,(zg3 s.heap k l a c).get? b=some o->(zg5 s.heap k l a c).get? b=some o:=λb o e=>m4 b o (cn _ e);have m2:∀b o,(zg2 s.heap k l a c).get? b=some o->(zg5 s.heap k l a c).get? b=some o:=λb o e=>m3 b o (cn _ e);have m1:∀b o,(zg1 s.heap k a).get? b=some o->(zg5 s.heap k l a c).get? b=some o:=λb o e=>m2 b o (cn _ e)
 have g5:(zg5 s.heap k l a c).get? (zg4 s.heap k l a c).objs.size=some _:=f_ _ rfl;have g4:=m4 _ _ (f_ (zg3 s.heap k l a c) (o:={ cls:=.type "tuple",data:=.seq #[.none,.none] }) rfl);have g3:=m3 _ _ (f_ (zg2 s.heap k l a c) (o:={ cls:=.type "tuple",data:=.seq #[.ref s.heap.objs.size,.ref (zg1 s.heap k a).objs.size] }) rfl);have g2:=m2 _ _ (f_ (zg1 s.heap k a) (o:=iM l c) rfl)
 have g1:=m1 _ _ (f_ s.heap (o:=iM k a) rfl);show _/\_;rw [z2,z3,z4] at g5;rw [z1,z2] at g3;rw [z3] at g4;rw [z1] at g2;rw [z4];exact⟨⟨_,g5,rfl⟩,h _ g5 g3 g4 ⟨_,g1,rfl,rfl⟩ ⟨_,g2,rfl,rfl⟩ λb o e=>m1 b o (cn _ e)⟩
end
noncomputable def stA(a b:List Nat)(i:Nat):Bool:=decide (i+b.length<=a.length/\(a.drop i).take b.length=b)
noncomputable def fnd(a b:List Nat)(lo:Nat):Int:=match (EY lo (a.length+1 - lo)).find? (stA a b) with|some k=>(k:Int)|none=>-1
theorem mF(s sub:Str)(hi:Nat):∀(l:List Nat) (st:Array Nat×Nat),st.fst.size=1->(forIn l st (Fo s sub hi 1)).run.fst=st.fst
 | [],_,_=>rfl
 | x::l,st,h=>by
  rw [forIn_cons];unfold Fo;rw [if_neg (λz=>by have:=z.1.1.1;omega)];exact mF s sub hi l (st.fst,st.snd) h
theorem mG(s sub:Str)(hi:Nat)(p:Nat->Bool)(hp:∀i,p i=true ↔ (i+sub.length<=hi/\E8 s sub i=true)):∀(l:List Nat) (free:Nat),(∀i∈l,free<=i) ->
  (forIn l ((#[]:Array Nat),free) (Fo s sub hi 1)).run.fst=(match l.find? p with|some k=>#[k]|none=>#[])
 | [],_,_=>rfl
 | x::l,free,hf=>by
  rw [forIn_cons,find?_cons];unfold Fo;have hx:free<=x:=hf x (mem_cons_self ..)
  cases c:p x with
  | true =>
   have hc:=(hp x).mp c;rw [if_pos ⟨⟨⟨by simp,hx⟩,hc.1⟩,hc.2⟩];exact mF s sub hi l (#[x],x+sub.length) rfl
  | false =>
   rw [if_neg (λz=>by
    have:=(hp x).mpr ⟨z.1.2,z.2⟩;rw [c] at this;cases this)]
   exact mG s sub hi p hp l free λi h=>hf i (o_ _ h)
def wT(a b:List Nat)(i:Nat):E8 (S a) (S b) i=decide ((a.drop i).take b.length=b):=by
 unfold E8;rw [eP]
 have e1:((S a).cps.extract i (i+b.length))=((a.drop i).take b.length).toArray:=by
  show a.toArray.extract _ _=_;rw [extract_toArray,extract_eq_take_drop];congr 2;omega
 rw [e1];show (((a.drop i).take b.length).toArray == b.toArray)=_
 by_cases h:(a.drop i).take b.length=b
 .rw [decide_eq_true h,h];simp
 .rw [decide_eq_false h,beq_eq_false_iff_ne];intro z;exact h (by simpa using congrArg Ft z)
theorem sf(a b:List Nat)(lo:Nat):(match EZ (S a) (S b) lo (S a).length 1 with|k::_=>(k:Int)|[]=>-1)=fnd a b lo:=by
 rw [StrLaws.occ_eq,eP,mG (S a) (S b) a.length (stA a b) (λi=>?_) _ lo (λi hi=>(Fz.mp hi).1)]
 .unfold fnd;cases (EY lo (a.length+1 - lo)).find? (stA a b) <;> rfl
 .unfold stA;rw [wT,eP];simp
section
variable {X:Cx}
def ur:MtR X "str.find" (λx xs H Q=>∃a b,x=.str (S a)/\xs=[.str (S b)]/\Q (.int (fnd a b 0)) H):=by
 intro pins s σ H x xs v us Q I rx rs h;obtain⟨a,b,rfl,rfl,q⟩:=h;obtain⟨t,rfl⟩:=rx;obtain⟨u,rfl,t',rfl⟩:=gn rs;have e:Txt.find (S a) (S b)=fnd a b 0:=sf a b 0;exact SC.find ⟨.int _,H,I.tok _,⟨_,rfl⟩,by rw [e];exact q⟩
end
def iX{a b:List Nat}{lo:Nat}(h:fnd a b lo≠-1):∃k:Nat,fnd a b lo=(k:Int)/\lo<=k/\stA a b k=true/\∀j,lo<=j->j<k->stA a b j=false:=by
 unfold fnd at h ⊢
 cases e:(EY lo (a.length+1 - lo)).find? (stA a b) with
 | none=>rw [e] at h;exact absurd rfl h
 | some k =>
  obtain⟨h1,h2⟩:=find?_eq_some_iff_append.mp e;obtain⟨as,bs,hl,hn⟩:=h2;have hk:k∈EY lo (a.length+1 - lo):=by rw [hl];simp
  refine⟨k,rfl,(Fz.mp hk).1,h1,λj hj1 hj2=>?_⟩;have hj:j∈EY lo (a.length+1 - lo):=Fz.mpr ⟨hj1,by have:=(Fz.mp hk).2;omega⟩;have hs:(EY lo (a.length+1 - lo)).Pairwise (·<·):=List.pairwise_lt_range';rw [hl] at hj hs
  rcases DP.mp hj with z|z
  .have:=hn j z;simpa using this
  .rcases C_.mp z with z|z
   .omega
   .have:=(F8.mp (pairwise_append.mp hs).2.1).1 j z;omega
def ut{a b:List Nat}{lo:Nat}(h:fnd a b lo=-1):∀j,lo<=j->stA a b j=false:=by
 unfold fnd at h
 cases e:(EY lo (a.length+1 - lo)).find? (stA a b) with
 | some k=>rw [e] at h;simp only at h;omega
 | none =>
  intro j hj
  by_cases hlt:j<a.length+1
  .have:=find?_eq_none.mp e j (Fz.mpr ⟨hj,by omega⟩);simpa using this
  .unfold stA;rw [decide_eq_false (λz=>by have:=z.1;omega)]
section
variable {X:Cx}{tg:Expr}
noncomputable def Itk(k:Bool)(K:a_)(a:Addr):It:=cond k (Itt K a) (Itl K a)
noncomputable def zh(K:a_):R2:=λx y H Q=>∃l b xs zs,x=.ref l/\y=.ref b/\SqL K H l xs/\SqL K H b zs/\xs.length+zs.length<=sizeLine/\∀p,H p=none->Q (.ref p) (upd H p (.lst (xs++zs)))
def wU:OpR X (binaryOp .Add) (zh X.K):=by
 intro pins s σ H x y v u Q I rx ry h;obtain⟨l,b,xs,zs,rfl,rfl,hH,hB,hz,q⟩:=h;cases rx;cases ry;obtain⟨its,r,pl,hl⟩:=I.list hH;obtain⟨its2,r2,pl2,hl2⟩:=I.list hB;obtain⟨⟨cls,dd,data,sl⟩,ho,hc,n,hd⟩:=pl.isList;obtain⟨⟨cls2,dd2,data2,sl2⟩,ho2,hc2,n2,hd2⟩:=pl2.isList;simp only at hc hd hc2 hd2;subst hc hd hc2 hd2;have n1:=r.length;have n2':=r2.length;have ea:its.toArray++its2.toArray=(its++its2).toArray:=by simp
 have fin:EP X pins σ Q (.ref s.heap.objs.size) { s with heap:=s.heap.push { cls:=.type "list",data:=.seq (its.toArray++its2.toArray) } }:=by
  rw [ea];exact⟨.ref _,_,I.lnew (t':=s.toks) (r.append r2) (by rw [length_append];omega),rfl,q _ I.fresh⟩
 exact Gg ⟨_,ho,rfl⟩ ⟨_,ho2,rfl⟩ noFill_list_add seq_list_add PySem.F.slot_list_add PySem.F.entry_list_add (PySem.F.args_list_add_2 _ _) (list_addW l b its.toArray its2.toArray n n2 dd dd2 sl sl2 (by simp;omega)) ⟨ho,ho2,fin⟩
end
def tx(l:List Nat):V:=.str (S l)
noncomputable def Lts(l:List Nat):Prop:=∀c∈l,97<=c/\c<=122
def Lts.nil:Lts []:=λc h=>nomatch h
def Lts.app{a b:List Nat}(x:Lts a)(y:Lts b):Lts (a++b):=λc h=>(DP.mp h).elim (x c) (y c)
def Lts.one{c:Nat}(h:97<=c/\c<=122):Lts [c]:=λd hd=>by
 have:d=c:=by simpa using hd
 subst this;exact h
def Lts.take{a:List Nat}(x:Lts a)(n:Nat):Lts (a.take n):=λc h=>x c (Fp h)
def Lts.drop{a:List Nat}(x:Lts a)(n:Nat):Lts (a.drop n):=λc h=>x c (Gv h)
theorem jg(p:Nat->Prop)(h0:p 0):∀n,0<n->∃k,k<n/\p k/\∀j,j<n->p j->j<=k
 | 0,h=>absurd h (by decide)
 | 1,_=>⟨0,by decide,h0,λj hj _=>by omega⟩
 | n+2,_=>by
  obtain⟨k,h1,h2,h3⟩:=jg p h0 (n+1) (by omega)
  by_cases c:p (n+1)
  .exact⟨n+1,by omega,c,λj hj _=>by omega⟩
  .refine⟨k,by omega,h2,λj hj hp=>?_⟩
   by_cases e:j=n+1
   .subst e;exact absurd hp c
   .exact h3 j (by omega) hp
section
variable {κ:Type} [DecidableEq κ]
def KV.length{kvs:List (κ×V)}{vs:List (κ×Value)}(r:KV kvs vs):kvs.length=vs.length:=Paired.length r
end
section
variable {P:n_}{w:World}{H:Hp}{h:Heap}{a:Addr}
def Bt{u:HO}(ok:HOk P w H h)(e:Rd H a u):bC P w H h a u:=e.ok ok
def Bu{kvs:List (Key×V)}(ok:HOk P w H h)(e:Rd H a (.dK kvs)):kvs.length<=sizeLine/\(a == sysModules)=false/\∃vs,KV kvs vs/\h.DictOf (kT P w) a vs :=
 show bC P w H h a (.dK kvs) from Bt ok e
end
section
variable {X:Cx}{pins:List (Addr×Obj)}{σ:St}{H:Hp}{s:cx}{a:Addr}{kvs:List (Key×V)}{k:Key}{u:Value}{A:t_}{E:Value->cx->Prop}
def Bv{Q:Value->cx->Prop}(I:Inv X pins σ H s)(e:Rd H a (.dK kvs))(h:∀t s',Inv X pins σ H s'->Q (.int kvs.length t) s'):wpAny (model X.prog X.w) A (call (.builtin "len") [.ref a]) Q E s:=by
 obtain⟨z,hd,vs,rel,dd⟩:=Bu I.hok e;refine call_len_dict hd dd (by rw [<- rel.length];rw [EU] at z;omega) ?_;rw [<- rel.length];exact h _ _ (I.tok _)
end
section
variable {X:Cx}
def k9{x:Str}{i:Int}{pos:Pos}(hg:Gl X x)(h:∃t,X.mg x=some (.int i t))(hd:(x == ("__debug__":Str))=false:=by decide):PE X (.Name x pos) (tC (.int i)):=by
 obtain⟨t,e⟩:=h;exact wl (u:=.int i t) hg e ⟨t,rfl⟩ hd
end
structure zi (P:n_) (w:World) (K:a_) (mg:Str->Option Value) (base:Heap) (k:Nat) (x:Str) (ps:List Str) (dvs:List V) (sp:Sp):Prop where
 ex:∃(f:Addr) (fd:DW),lU P w K mg base CX0 k f fd ps sp/\(∀n,n<=dvs.length->∃ds,bB (dvs.drop n) ds/\iJ K fd ps ds)/\s_ K (.ref f)=true/\mg x=some (.ref f)
structure pO (K:a_) (mg:Str->Option Value) (x:Str) (st:Stmt) (dvs:List V):Prop where
 ex:∃(f dT:Addr) (oc:Value) (od an dd:Option Addr) (kV doc pm cdv ct:Value) (osl sl:Array (Option Value)) (items:List Value) (n:Nat),
  K.lookup f=some ⟨oc,od,.func (v_ x x (bb st) (aJ st) (ah st) (.ref dT) kV doc pm an cdv ct),osl⟩/\Dw K cdv x=true/\s_ K (.ref f)=true/\mg x=some (.ref f) /\
  K.lookup dT=some ⟨.type "tuple",dd,.seq items.toArray n,sl⟩/\bB dvs items
section
variable {P:n_}{w:World}{K:a_}{mg:Str->Option Value}{base:Heap}{x:Str}{st:Stmt}{N ps:List Str}{k:Nat}{sp:Sp}{dvs:List V}
def pO.ok(D:pO K mg x st dvs)(S:aB N ps (ah st))
  (hb:∀(dT:Addr) (kV doc pm:Value) (an:Option Addr) (cdv ct:Value) (items:List Value) (us:List Value) (n:Nat),items.length=dvs.length->n<=dvs.length->(us++items.drop n).length=ps.length ->
   ∃k,bindArgs (v_ x x (bb st) (aJ st) (ah st) (.ref dT) kV doc pm an cdv ct) ⟨us,[]⟩=seqItems? (.ref dT) >>= k/\k (some items.toArray)=pure (ps.zip (us++items.drop n)))
  (len:∀vs H Q E,sp vs H Q E->vs.length=ps.length)
  (hbody:∀(f:Addr) (cdv:Value) (A:t_) (outer:List Env) (s:cx) (H:Hp) (vs:List V) (Q:VK) (E:XK),cQ k (A.deeper (envOfC x (ah st) s.heap.objs.size f cdv))->sp vs H Q E ->
   ∃t,PSs (md CX0 P w K mg base N x (ah st) f cdv A outer s H E).nox (aJ st) t/\t { nx:=λ_ H'=>Q .non H',rt:=Q } (start N vs) H):zi P w K mg base (k+1) x ps dvs sp:=by
 obtain⟨f,dT,oc,od,an,dd,kV,doc,pm,cdv,ct,osl,sl,items,n,lk,hcd,kp,hm,lt,rv⟩:=D.ex;have hl:=rv.length
 refine⟨f,_,wB lk hcd S len λA outer s H vs Q E hr hsp=>?_,λj hj=>⟨items.drop j,rv.drop j,λs us X hlen=>?_⟩,kp,hm⟩
 .obtain⟨t,h,q⟩:=hbody f cdv A outer s H vs Q E hr hsp;exact⟨t,h.nox,q⟩
 .obtain⟨k,h1,h2⟩:=hb dT kV doc pm an cdv ct items us j hl.symm hj hlen;exact BindsTo.of_defaults rfl (X dT _ lt) rfl h1 h2
end
section
variable {X:Cx}{k:Nat}{x:Str}{ps:List Str}{sp:Sp}{p pos:Pos}{e:Expr}{es:List Expr}{t:TA}{dvs:List V}
def wV(j:Nat)(C:zi X.prog X.w X.K X.mg X.base k x ps dvs sp)(hr:cQ k X.A)(hj:j<=dvs.length)(ha:PA X (e::es) t)(hg:Gl X x:=by rfl)(hdb:(x == ("__debug__":Str))=false:=by decide)(he:starEach (e::es) X.env=(false,eval e X.env)::starEach es X.env:=by rfl)
  (hpl:(backTo pos (starEach es X.env)).any (·.1)=false:=by rfl):PE X (.Call (.Name x p) (e::es) [] pos) (d5 sp (dvs.drop j) E0 t):=by
 obtain⟨f,fd,F,hb,hk,hm⟩:=C.ex;obtain⟨ds,rv,hb⟩:=hb j hj;exact rC F hr hg hm hk hb rv ui ha hdb he hpl
def lc(bs:List Bool):(c_ bs.length).all (λi=>bs.getD i false)=bs.all id:=by
 induction bs with
 | nil=>rfl
 | cons b bs ih=>rw [length_cons,range_succ_eq_map,all_cons,all_map,all_cons,<- ih];rfl
def lf(bs:List Bool):(c_ bs.length).any (λi=>bs.getD i false)=bs.any id:=by
 induction bs with
 | nil=>rfl
 | cons b bs ih=>rw [length_cons,range_succ_eq_map,any_cons,any_map,any_cons,<- ih];rfl
def sg{bs:List Bool}{its:List Value}(r:bB (bs.map V.bl) its){i:Nat}{v:Value}(h:its.toArray[i]?=some v):v=.bool (bs.getD i false):=by
 have h':its[i]?=some v:=by simpa using h
 have hl:=r.length;rw [length_map] at hl;have hi:i<bs.length:=by have:=(g_.mp h').1;omega
 obtain⟨u,e1,e2⟩:=r.get (i:=i) (x:=V.bl bs[i]) (by rw [k_,cy hi];rfl);rw [h'] at e1;cases e1;rw [show v=Ej bs[i] from e2,d_,cy hi];rfl
def uu(hc:X.calm=true):bx X (.builtin "all") (λxs H Q=>∃(p:Addr) (bs:List Bool),xs=[.ref p]/\SqL X.K H p (bs.map V.bl)/\Q (.bl (bs.all id)) H):=by
 intro pins s σ H xs us Q I r h;obtain⟨p,bs,rfl,hS,q⟩:=h;obtain⟨u,rfl,ru⟩:=gn r;cases (show u=x_ p from ru);obtain⟨its,rv,pl,hz⟩:=I.list hS;have hl:=rv.length;rw [length_map] at hl;have hps:p<s.heap.objs.size:=let ⟨o,ho,_⟩:=pl.isList;h_ ho
 obtain⟨f0,f1,f2,f3,f4,f5⟩:=I.fpOk (H':=H) (l_ s.heap.objs.size) (I.hok.fresh (l_ _))
 refine call_all_walk (Ei pl.isList ⟨s.heap.objs.size,_,_,its.toArray.size,_,_,λi=>bs.getD i false,rfl,Gm (by exact I.ok.hd hc) s.heap.objs.size p (DC hps) its.toArray,⟨⟨_,f_ _ rfl,rfl,rfl⟩,pl.isList.push _⟩,λi v s Q E hP hQ=>?_,λh' tk hk=>?_⟩)
 .rw [sg rv hP];exact Dy hQ
 .have I1:Inv X pins σ H { s with heap:=s.heap.push { cls:=.type "list_iterator",data:=.fields #[.ref p,.int 0 0] } }:=I.kept (t':=s.toks) λb o e=>cn _ e;have I2:=I1.turned (h':=h') (t':=tk) (it:=s.heap.objs.size) (λb o hb e=>hk b o (by simpa using hb) e) f0 f1 f3 f4 f5;refine⟨.bl (bs.all id),H,I2,?_,q⟩;show Ej _=Ej _;rw [p_,<- hl,lc]
def uv(hc:X.calm=true):bx X (.builtin "any") (λxs H Q=>∃(p:Addr) (bs:List Bool),xs=[.ref p]/\SqL X.K H p (bs.map V.bl)/\Q (.bl (bs.any id)) H):=by
 intro pins s σ H xs us Q I r h;obtain⟨p,bs,rfl,hS,q⟩:=h;obtain⟨u,rfl,ru⟩:=gn r;cases (show u=x_ p from ru);obtain⟨its,rv,pl,hz⟩:=I.list hS;have hl:=rv.length;rw [length_map] at hl;have hps:p<s.heap.objs.size:=let ⟨o,ho,_⟩:=pl.isList;h_ ho
 obtain⟨f0,f1,f2,f3,f4,f5⟩:=I.fpOk (H':=H) (l_ s.heap.objs.size) (I.hok.fresh (l_ _))
 refine call_any_walk (Ei pl.isList ⟨s.heap.objs.size,_,_,its.toArray.size,_,_,λi=>bs.getD i false,rfl,Gm (by exact I.ok.hd hc) s.heap.objs.size p (DC hps) its.toArray,⟨⟨_,f_ _ rfl,rfl,rfl⟩,pl.isList.push _⟩,λi v s Q E hP hQ=>?_,λh' tk hk=>?_⟩)
 .rw [sg rv hP];exact Dy hQ
 .have I1:Inv X pins σ H { s with heap:=s.heap.push { cls:=.type "list_iterator",data:=.fields #[.ref p,.int 0 0] } }:=I.kept (t':=s.toks) λb o e=>cn _ e;have I2:=I1.turned (h':=h') (t':=tk) (it:=s.heap.objs.size) (λb o hb e=>hk b o (by simpa using hb) e) f0 f1 f3 f4 f5;refine⟨.bl (bs.any id),H,I2,?_,q⟩;show Ej _=Ej _;rw [p_,<- hl,lf]
end
section
variable {X:Cx}{o e f:Expr}{apos cpos:Pos}{td ty tx:TE}
def sh:bx X (.builtin "len") (λxs H Q=>∃p kvs,xs=[.ref p]/\Rd H p (.dK kvs)/\Q (.int kvs.length) H):=by
 intro pins s σ H xs us Q I r h;obtain⟨p,kvs,rfl,hd,q⟩:=h;obtain⟨u,rfl,ru⟩:=gn r;cases (show u=x_ p from ru);exact Bv I hd λt s' I'=>⟨.int kvs.length,H,I',⟨t,rfl⟩,q⟩
end
noncomputable def bo(K:a_)(x:Str):Addr:=match so K mainGlobals x with
 | some (some (.ref C))=>C
 | _=>0
def uw{K:a_}{x:Str}{C:Addr}(h:so K mainGlobals x=some (some (.ref C))):bo K x=C:=by unfold bo;rw [h]
structure A7 (P:n_) (w:World) (K:a_) (mg:Str->Option Value) (base:Heap) (k:Nat) (C:Addr) (m:Str) (ps:List Str) (sp:Sp):Prop where
 ex:∃(f:Addr) (fd:DW),lU P w K mg base CX0 k f fd ps sp/\iJ K fd ps []/\A5 K C m f
structure zj (P:n_) (w:World) (K:a_) (mg:Str->Option Value) (base:Heap) (k:Nat) (C:Addr) (x:Str) (ps:List Str) (sp:Sp):Prop where
 ex:∃(f:Addr) (fd:DW),lU P w K mg base CX0 k f fd ps sp/\iJ K fd ps []/\Mk K C f/\mg x=some (.ref C)
structure pP (K:a_) (C:Addr) (m qual:Str) (st:Stmt):Prop where
 ex:∃(f:Addr) (fd:DW),Fun K m qual st f fd/\A5 K C m f
structure pQ (K:a_) (mg:Str->Option Value) (C:Addr) (x qual:Str) (st:Stmt):Prop where
 ex:∃(f:Addr) (fd:DW),Fun K "__init__" qual st f fd/\Mk K C f/\mg x=some (.ref C)
section
variable {P:n_}{w:World}{K:a_}{mg:Str->Option Value}{base:Heap}{x m qual:Str}{C:Addr}{st:Stmt}{N ps:List Str}{k:Nat}{sp:Sp}
def pP.ok(D:pP K C m qual st)(S:aB N ps (ah st))
  (hb:∀(kV doc pm:Value) (an:Option Addr) (cdv ct:Value) (us:List Value),us.length=ps.length->bindArgs (v_ m qual (bb st) (aJ st) (ah st) .none kV doc pm an cdv ct) ⟨us,[]⟩=pure (ps.zip us))
  (len:∀vs H Q E,sp vs H Q E->vs.length=ps.length)
  (hbody:∀(f:Addr) (cdv:Value) (A:t_) (outer:List Env) (s:cx) (H:Hp) (vs:List V) (Q:VK) (E:XK),cQ k (A.deeper (envOfC qual (ah st) s.heap.objs.size f cdv))->sp vs H Q E ->
   ∃t,PSs (md CX0 P w K mg base N qual (ah st) f cdv A outer s H E).nox (aJ st) t/\t { nx:=λ_ H'=>Q .non H',rt:=Q } (start N vs) H):A7 P w K mg base (k+1) C m ps sp:=by
 obtain⟨f,fd,F,hm⟩:=D.ex;exact⟨f,fd,F.ok S len λcdv A outer s H vs Q E hr h=>hbody f cdv A outer s H vs Q E hr h,F.binds hb,hm⟩
def pQ.ok(D:pQ K mg C x qual st)(S:aB N ps (ah st))
  (hb:∀(kV doc pm:Value) (an:Option Addr) (cdv ct:Value) (us:List Value),us.length=ps.length->bindArgs (v_ "__init__" qual (bb st) (aJ st) (ah st) .none kV doc pm an cdv ct) ⟨us,[]⟩=pure (ps.zip us))
  (len:∀vs H Q E,sp vs H Q E->vs.length=ps.length)
  (hbody:∀(f:Addr) (cdv:Value) (A:t_) (outer:List Env) (s:cx) (H:Hp) (vs:List V) (Q:VK) (E:XK),cQ k (A.deeper (envOfC qual (ah st) s.heap.objs.size f cdv))->sp vs H Q E ->
   ∃t,PSs (md CX0 P w K mg base N qual (ah st) f cdv A outer s H E).nox (aJ st) t/\t { nx:=λ_ H'=>Q .non H',rt:=Q } (start N vs) H):zj P w K mg base (k+1) C x ps sp:=by
 obtain⟨f,fd,F,hm,e⟩:=D.ex;exact⟨f,fd,F.ok S len λcdv A outer s H vs Q E hr h=>hbody f cdv A outer s H vs Q E hr h,F.binds hb,hm,e⟩
end
section
variable {X:Cx}{k:Nat}{x m:Str}{C:Addr}{ps:List Str}{sp:Sp}{p pos apos:Pos}{o e:Expr}{es:List Expr}{ta:TE}{t:TA}
def wW(M:zj X.prog X.w X.K X.mg X.base k C x ps sp)(hr:cQ (k+1) X.A)(ha:PA X (e::es) t)(hg:Gl X x:=by rfl)(hdb:(x == ("__debug__":Str))=false:=by decide)(he:starEach (e::es) X.env=(false,eval e X.env)::starEach es X.env:=by rfl)
  (hpl:(backTo pos (starEach es X.env)).any (·.1)=false:=by rfl):PE X (.Call (.Name x p) (e::es) [] pos) (ud C sp [] E0 t):=by
 obtain⟨f,fd,F,hb,hk,hm⟩:=M.ex;exact wA hk F hr hg hm hb .nil ui ha hdb he hpl
def pR{pl:Sem Bool}(he:PE X o ta)(c:Cls X.K C)(M:A7 X.prog X.w X.K X.mg X.base k C m ps sp)(hr:cQ k X.A)
  (ht:eval (.Call (.Attribute o m apos) [] [] pos) X.env=(do
   let ov <- eval o X.env
   standAt apos.atName
   let (f,first) <- holding [ov] (getMethod ov m pl)
   callWith pos f first (backTo pos (starEach [] X.env)) (backToKw pos (keywordEach [] X.env))):=by rfl) :
  PE X (.Call (.Attribute o m apos) [] [] pos) (wz C m sp [] E0 ta dZ):=by
 obtain⟨f,fd,F,hb,hm⟩:=M.ex;exact ue (pl:=pl) he c hm F hr hb .nil ui ht
end
def sj{prog:n_}{w:World}{A:t_}(k:Bool)(hh:A.handled=none)(it a:Addr)(hne:a≠it)(its:Array Value) :
  Draws prog w A it [it,a] its.size (λi v=>its[i]?=some v) (λi h=>bQ k h it a i/\dE k h a its) where
 live:=λ_ _ st=>let ⟨o,ho,_⟩:=st.1;⟨o,ho⟩
 frame:=λ_ _ _ st hk=>⟨st.1.mv λo e=>hk it (by simp) o e,st.2.mv λo e=>hk a (by simp) o e⟩
 item:=λi s Q E hi st hQ=>by
  refine du st.1 st.2 (x:=its[i]) (by simp [hi]) λh' hit' hs'=>?_;exact hQ _ h' s.toks (by simp [hi]) ⟨hit',st.2.mv λo e=>hs'.extBut _ o hne e⟩ hs'
 done:=λs Q E st hE=>eh hh st.1 st.2 (by simp) hE
noncomputable def Ite(k:Bool)(K:a_)(a:Addr):It :=
  ⟨λi H=>∃xs x,Sq k K H a xs/\xs[i]?=some x,
   λi H p H'=>∃T x,H T=none/\p=.ref T/\(∀xs,Sq k K H a xs->xs[i]?=some x)/\H'=upd H T (.tup [.int (i:Int),x]),
   λi H=>∃xs,Sq k K H a xs/\xs.length<=i⟩
def sk{P:n_}{w:World}{K:a_}{es:List Expr}{ct:Nat}{tp:Pos}{k:Bool}{a e it:Addr}(hei:e≠it) :
  wn P w K (.Tuple es ct tp) (Ite k K a) [e,it] e (λn h=>(∃old,IsEnum h e it ((n:Nat):Int) old)/\bQ k h it a n) where
 mem:=by simp
 obj:=λn h st b hb=>by
  obtain⟨⟨old,he⟩,o1,g1,c1,d1⟩:=st;simp only [C_,not_mem_nil,or_false] at hb
  rcases hb with rfl|rfl
  .exact⟨_,he,λv q=>by cases q⟩
  .exact⟨_,g1,λv q=>by rw [d1] at q;cases q⟩
 keep:=λn h h' st kk=>by
  obtain⟨⟨old,he⟩,w1⟩:=st;exact⟨⟨old,kk e (by simp) _ he⟩,w1.mv λo q=>kk it (by simp) o q⟩
 item:=by
  intro X hP hw hK hc n pins s σ H E I hf st hg;subst hP hw hK;obtain⟨xs,x,q1,hx⟩:=hg;obtain⟨⟨old,he⟩,w1⟩:=st;obtain⟨its,rv,p,_⟩:=I.row q1;obtain⟨ux,hux,rx⟩:=rv.get hx;have ne:=I.row_ne q1 (hf e (by simp));have ni:=I.row_ne q1 (hf it (by simp))
  have hlt:n<its.toArray.size:=by
   have:=(g_.mp hux).1;simpa using this
  have hhd:X.A.in1.handled=none:=by exact I.ok.hd hc
  refine wpAny_pyNext_enum_itemD (sj k hhd it a ni its.toArray) he ⟨w1,p⟩ hlt hei (by simp [hei,EA ne]) λy h' tk hP ho hst ht hsz hk=>?_
  have hy:y=ux:=by
   have h1:its[n]?=some y:=by simpa using hP
   rw [hux] at h1;exact (q_ h1).symm
  subst hy;refine⟨_,rfl,wpAny_letOwnedTupleGo_enum ho λg ge gs=>?_⟩;have lt:∀{b o},s.heap.get? b=some o->s.heap.objs.size≠b:=λq=>Fi (h_ q)
  have kp:∀b o,b∉[e,it]->s.heap.get? b=some o->g.get? b=some o:=λb o hb q=>by
   simp only [C_,not_mem_nil,or_false,not_or] at hb;exact gs.extBut _ _ hb.1 (hk b o hb.1 hb.2 q)
  have I2:Inv X pins σ (upd H s.heap.objs.size (.tup [.int (n:Int),x])) { s with heap:=g,toks:=tk+1 }:=I.yielded (ch:=[e,it]) (λb hb=>hf b hb) (l_ _) kp
   ⟨by show 2<=sizeLine;decide,[.int (n:Int) tk,y],.cons ⟨tk,rfl⟩ (.cons rx .nil),_,gs.extBut _ _ (lt he) ht,rfl,_,rfl⟩
  refine⟨.ref s.heap.objs.size,_,I2,rfl,⟨_,x,I.hok.fresh (l_ _),rfl,λxs' q=>by rw [I.row_inj q q1];exact hx,rfl⟩,⟨⟨y,by simpa using ge⟩,hst.1.mv λo q=>gs.extBut _ o (EA hei) q⟩,λb hb=>?_⟩
  rw [ax ?_]
  .exact (hf b hb).1
  .intro q;subst q;simp only [C_,not_mem_nil,or_false] at hb;obtain⟨o1,g1,_⟩:=w1
   rcases hb with q|q
   .exact lt he q
   .exact lt g1 q
 done:=by
  intro X hP hw hK hc n pins s σ H E I hf st hg;subst hP hw hK;obtain⟨xs,q1,hend⟩:=hg;obtain⟨⟨old,he⟩,w1⟩:=st;obtain⟨its,rv,p,_⟩:=I.row q1;have e1:=rv.length;have ni:=I.row_ne q1 (hf it (by simp));have hhd:X.A.in1.handled=none:=by exact I.ok.hd hc
  obtain⟨f0,f1,f2,f3,f4,f5⟩:=hf it (by simp)
  -- the walk's end is wherever the row has no item
  have hT:s.TypeIs (.ref e) "enumerate":=⟨_,he,rfl⟩
  unfold pyNext
  refine b_ (wpAny_attempt (DE (name:=DY "__next__") hT F.slot_enumerate_next
   (D_ F.slot_enumerate_next hT F.entry_enumerate_next ?_ (F.args_enumerate_next_1 _))))
  show wpAny _ _ (field (.ref e) 2 >>= _) _ _ _;refine b_ (DF he rfl (x:=.ref it) rfl ?_);refine b_ (eh hhd w1 p (by simp;omega) λh' x he' hx'=>?_);obtain⟨o,ho,hcl⟩:=hx';refine b_ (wpAny_isInstance (T:="StopIteration") (b:=true) ⟨o,ho,hcl⟩ isSubtype_stop ?_);exact e_ ⟨rfl,I.turned (t':=s.toks) (λb o hb q=>he' b o hb q) f0 f1 f3 f4 f5⟩
 self:=λ_ _ _ _ _ st h=>let ⟨⟨_,he⟩,_⟩:=st;wpAny_pyIter_enum he h
section
variable {P:n_}{w:World}{A:t_}{E:Value->cx->Prop}{s:cx}{k:Bool}
def uz(k:Bool)(a:Addr)(xs:Array Value):Meets (GI.«enumerate.__new__» ⟨[.type "enumerate",.ref a],[]⟩) (λ_ R s=>dE k s.heap a xs /\
   R (.ok (.ret (.ref (s.heap.push (iM k a)).objs.size))) { s with heap:=(s.heap.push (iM k a)).push { cls:=.type "enumerate",data:=.fields #[.none,.bool false,.ref s.heap.objs.size,rawInt 0,.none,.none] } }) :=
 .of_wp λprog w A R s h=>by
  obtain⟨hp,g,d,tk,os⟩:=s;obtain⟨r1,h⟩:=h;have hsub:=sub_enumerate;have R1:dE k (Shared.heap ⟨hp,g,d,tk,os⟩) a xs:=r1;obtain⟨⟨cls,dd,data,sl⟩,ho,hc,n,hd⟩:=id r1;simp only at hc hd;subst hc hd
  wp_walk using Eo ho
  refine wpAny_stack_any λst=>e_ ?_
  split
  .rename_i c _ _ _ _ _
   cases (c == Value.type "enumerate")
   .wp_walk using Eo ho,dP R1
    exact⟨_,rfl,h⟩
   .wp_walk using Eo ho,dP R1
    exact⟨_,rfl,h⟩
  .wp_walk using Eo ho,dP R1
   exact⟨_,rfl,h⟩
def uA{a:Addr}{xs:Array Value}{Q:Value->cx->Prop}(r1:dE k s.heap a xs)
  (h:∀h',IsEnum h' (s.heap.objs.size+1) s.heap.objs.size 0 .none->bQ k h' s.heap.objs.size a 0->(∀b o,s.heap.get? b=some o->h'.get? b=some o)->Q (.ref (s.heap.objs.size+1)) { s with heap:=h' }) :
  wpAny (model P w) A (call (.type "enumerate") [.ref a]) Q E s:=by
 refine callType_new F.called_enumerate (by decide) (F.typeCall_enumerate_1 _) (F.newCall_enumerate_1 _) (λobj=>F.args_object_init_2 obj _) F.entry_enumerate_new (uz k a xs) ⟨r1,?_⟩;have z1:(s.heap.push (iM k a)).objs.size=s.heap.objs.size+1:=DA ..;have g2:((s.heap.push (iM k a)).push { cls:=.type "enumerate",data:=.fields #[.none,.bool false,.ref s.heap.objs.size,rawInt 0,.none,.none] }).get? (s.heap.push (iM k a)).objs.size=some _:=f_ _ rfl
 have g1:=cn { cls:=.type "enumerate",data:=.fields #[.none,.bool false,.ref s.heap.objs.size,rawInt 0,.none,.none] } (f_ s.heap (o:=iM k a) rfl);show _/\_;rw [z1] at g2 ⊢;exact⟨⟨_,g2,rfl⟩,h _ g2 ⟨_,g1,rfl,rfl⟩ λb o q=>cn _ (cn _ q)⟩
end
section
variable {X:Cx}{es:List Expr}{ct:Nat}{tp:Pos}
noncomputable def wX(K:a_)(ta:TA):TI:=λσ H R=>ta σ H λvs H1=>∃k a,vs=[.ref a]/\(∃xs,Sq k K H1 a xs)/\R (Ite k K a) H1
def wY{a:Expr}{ta:TA}{p pos:Pos}(hg:Gl X "enumerate")(hm:X.mg "enumerate"=none)(ha:PA X [a] ta)(hs:starEach [a] X.env=[(false,eval a X.env)]:=by rfl) :
  PI X (.Tuple es ct tp) (.Call (.Name "enumerate" p) [a] [] pos) (wX X.K ta):=by
 intro pins s σ H R I h;refine Call_ (gm I hg hm boot_enumerate (DD (thn (ha pos pins s σ H _ I h) λus s1 ⟨vs,H1,I1,r1,q1⟩=>?_) hs rfl));obtain⟨k,a,e,⟨xs,q1⟩,q⟩:=q1;subst e
 cases r1 with
 | cons r rr =>
  cases rr;cases r;obtain⟨its,rv,p,_⟩:=I1.row q1;refine uA p λh' g1 g2 kk=>wpAny_pyIter_enum g1 ?_;have I2:Inv X pins σ H1 { s1 with heap:=h',toks:=s1.toks }:=I1.kept kk;refine⟨s1.heap.objs.size+1,[s1.heap.objs.size+1,s1.heap.objs.size],_,_,H1,rfl,I2,sk (k:=k) (a:=a) (it:=s1.heap.objs.size) (Fi (E5 _)),⟨⟨_,g1⟩,g2⟩,λb hb=>?_,q⟩
  have hle:s1.heap.objs.size<=b:=by
   simp only [C_,not_mem_nil,or_false] at hb
   rcases hb with e|e
   .rw [e];exact FA _ _
   .rw [e];exact l_ _
  exact I1.fpOk hle (I1.hok.fresh hle)
end
section
variable {X:Cx}
def sm(hc:X.calm=true):bx X (.builtin "min") (λxs H Q=>∃(p:Addr) (ns:List Int),xs=[.ref p]/\SqL X.K H p (ns.map V.int)/\0<ns.length/\∀m:Int,m∈ns->(∀a∈ns,m<=a)->Q (.int m) H):=by
 intro pins s σ H xs us Q I r h;obtain⟨p,ns,rfl,hS,hne,q⟩:=h;obtain⟨u,rfl,ru⟩:=gn r;cases (show u=x_ p from ru);obtain⟨its,rv,pl,hz⟩:=I.list hS;have hi:=kt rv;have hl:=pl.isList;obtain⟨ys,e⟩:=hi.allInts.items;have hns:ns=ys.toList.map (·.1):=by rw [<- hi.numsOf,<- nums_intItems,<- e]
 have hsz:0<ys.size:=by
  have h3:=hne;rw [hns,length_map,D1] at h3;exact h3
 rw [e] at hl;refine min_intList (by exact I.ok.hd hc) hl hsz λv h' tk hv hk=>?_;obtain⟨t,rfl⟩:=intItems_at hv;obtain⟨h1,h2⟩:=argBest_lt (numAt ys) (ys.size - 1)
 refine⟨.int _,H,I.kept (t':=tk) hk,⟨t,rfl⟩,q _ ?_ λa ha=>?_⟩
 .rw [hns,numAt_eq];exact getD_mem (by rw [length_map,D1];omega)
 .rw [hns] at ha;obtain⟨j,hj,rfl⟩:=mem_getD ha;rw [length_map,D1] at hj;rw [<- numAt_eq];exact h2 j (by omega)
theorem ku(ns:List Int):∀k,k<=ns.length->preSum (λi=>ns.getD i 0) k=(ns.take k).sum
 | 0,_=>rfl
 | k+1,h=>by
  rw [preSum,ku ns k (by omega),take_add_one,cy (by omega),sum_append,d_,cy (by omega)];simp
def sr(hc:X.calm=true):bx X (.builtin "sum") (λxs H Q=>∃(p:Addr) (ns:List Int),xs=[.ref p]/\SqL X.K H p (ns.map V.int)/\Q (.int ns.sum) H):=by
 intro pins s σ H xs us Q I r h;obtain⟨p,ns,rfl,hS,q⟩:=h;obtain⟨u,rfl,ru⟩:=gn r;cases (show u=x_ p from ru);obtain⟨its,rv,pl,hz⟩:=I.list hS;have hi:=kt rv;have hl:=pl.isList;obtain⟨ys,e⟩:=hi.allInts.items;have hns:ns=ys.toList.map (·.1):=by rw [<- hi.numsOf,<- nums_intItems,<- e]
 rw [e] at hl;refine sum_intListG (by exact I.ok.hd hc) hl λh' tk t' hk=>⟨.int ns.sum,H,I.kept (t':=tk) hk,⟨t',?_⟩,q⟩
 have hlen:ys.size=ns.length:=by rw [hns,length_map,D1]
 have hnum:numAt ys=λi=>ns.getD i 0:=by
  funext i;rw [numAt_eq,hns]
 rw [hnum,hlen,ku ns ns.length (l_ _),take_length]
end
section
variable {X:Cx}{es:List Expr}{ct:Nat}{tp:Pos}
noncomputable def uB(K:a_)(ta:TA):TI:=λσ H R=>ta σ H λvs H1=>∃k l a c,vs=[.ref a,.ref c]/\(∃xs ys,Sq k K H1 a xs/\Sq l K H1 c ys)/\R (Itz k l K a c) H1
def wZ{a b:Expr}{ta:TA}{p pos:Pos}(hg:Gl X "zip")(hm:X.mg "zip"=none)(ha:PA X [a,b] ta)
  (hs:starEach [a,b] X.env=[(false,eval a X.env),(false,eval b X.env)]:=by rfl) (hs2:starEach [b] X.env=[(false,eval b X.env)]:=by rfl) :
  PI X (.Tuple es ct tp) (.Call (.Name "zip" p) [a,b] [] pos) (uB X.K ta):=by
 intro pins s σ H R I h;refine Call_ (gm I hg hm boot_zip (DD (thn (ha pos pins s σ H _ I h) λus s1 ⟨vs,H1,I1,r1,q1⟩=>?_) (by rw [hs,hs2]) (by rw [hs2];rfl)));obtain⟨k,l,a,c,e,⟨xs,ys,q1,q2⟩,q⟩:=q1;subst e
 cases r1 with
 | cons r rr =>
  cases rr with
  | cons r' rr =>
   cases rr;cases r;cases r';obtain⟨its,rv,p,_⟩:=I1.row q1;obtain⟨jts,rv',p',_⟩:=I1.row q2;refine wS p p' λh' g1 g2 g3 g4 g5 kk=>wpAny_pyIter_zip g1 ?_;have I2:Inv X pins σ H1 { s1 with heap:=h',toks:=s1.toks }:=I1.kept kk
   refine⟨s1.heap.objs.size+4,[s1.heap.objs.size+4,s1.heap.objs.size+2,s1.heap.objs.size+3,s1.heap.objs.size,s1.heap.objs.size+1],_,_,H1,rfl,I2,uq (i:=s1.heap.objs.size) (j:=s1.heap.objs.size+1)
    (Bs _),⟨g1,g2,⟨_,_,g3⟩,g4,g5⟩,λb hb=>?_,q⟩
   have hle:s1.heap.objs.size<=b:=by
    simp only [C_,not_mem_nil,or_false] at hb
    rcases hb with e|e|e|e|e
    .rw [e];exact FA _ _
    .rw [e];exact FA _ _
    .rw [e];exact FA _ _
    .rw [e];exact l_ _
    .rw [e];exact FA _ _
   exact I1.fpOk hle (I1.hok.fresh hle)
end
section
variable {X:Cx}{e:Expr}{ta:TE}{f:Str}{pos:Pos}
def cG(K:a_)(eK:X.K=K)(he:PE X e ta)(hb:attributeBase e f X.env (eval e X.env)=eval e X.env):PE X (.Attribute e f pos) (tR K ta f):=eK ▸ yO he hb
noncomputable def Bw(K:a_):List V->Hp->VK->Prop:=λxs H Q=>∃p ys,xs=[.ref p]/\SqL K H p ys/\Q (.int ys.length) H
noncomputable def Bx(K:a_):List V->Hp->VK->Prop:=λxs H Q=>∃p ys,xs=[.ref p]/\SqT K H p ys/\Q (.int ys.length) H
noncomputable def Cy(K:a_):List V->Hp->VK->Prop:=λxs H Q=>∃x n t b,xs=[x,.ty n]/\nH K H x t/\FE K t (.type n)=some b/\Q (.bl b) H
noncomputable def ss(K:a_):List V->Hp->VK->Prop:=λxs H Q=>∃p ys,xs=[.ref p]/\(SqL K H p ys\/SqT K H p ys)/\∀l,H l=none->Q (.ref l) (upd H l (.lst ys))
end
section
variable {X:Cx}{o e:Expr}{es:List Expr}{to:TE}{t:TA}{name:Str}{apos cpos:Pos}{T id:String}{r:V->List V->Hp->VK->Prop}
def iy(K:a_)(eK:X.K=K)(pa:PlainAttrs T)(slot:Slot T name id)(hty:typeOf (.builtin id)=pure (.type "method_descriptor"))(hm:MtR X id r)(ho:PE X o to)(ha:PA X (e::es) t)
  (hbase:attributeBase o name X.env (eval o X.env)=eval o X.env:=by rfl)
  (hfew:((backTo cpos (starEach (e::es) X.env)).all (λx=>!x.1) && (backToKw cpos (keywordEach [] X.env)).all (λx=>x.1.isSome)
   && decide ((e::es).length+([]:List Keyword).length+(if ([]:List Keyword).isEmpty then 0 else 1)<30))=true:=by rfl)
  (hline:(apos.endLine == cpos.line)=true:=by rfl) (hs:starEach (e::es) X.env=(false,eval e X.env)::starEach es X.env:=by rfl) (hplain:(backTo cpos (starEach es X.env)).any (·.1)=false:=by rfl) :
  PE X (.Call (.Attribute o name apos) (e::es) [] cpos) (tBM K T r to t):=eK ▸ Bo pa slot hty hm ho ha hbase hfew hline hs hplain
end
noncomputable def fA(c:Bool)(A B:Prop):Prop:=match c with|true=>A|false=>B
def w6{c:Bool}{A B:Prop}(h1:c=true->A)(h2:c=false->B):fA c A B:=by
 cases c with
 | true=>exact h1 rfl
 | false=>exact h2 rfl
def ei{p:Prop}[Decidable p]{A B:Prop}(h1:p->A)(h2:¬ p->B):fA (decide p) A B:=w6 (λh=>h1 (of_decide_eq_true h)) (λh=>h2 (of_decide_eq_false h))
def mH{p:Prop}[Decidable p]{A B:Prop}(h1:¬ p->A)(h2:p->B):fA (!decide p) A B:=w6 (λh=>h1 λz=>by rw [decide_eq_true z] at h;cases h) (λh=>h2 (by
 by_cases z:p
 .exact z
 .rw [decide_eq_false z] at h;cases h))
def By{p:Prop}[Decidable p]{A B:Prop}(h:p)(hA:A):fA (decide p) A B:=ei (λ_=>hA) (λz=>absurd h z)
def Bz{p:Prop}[Decidable p]{A B:Prop}(h:¬ p)(hB:B):fA (decide p) A B:=ei (λz=>absurd z h) (λ_=>hB)
def zk{p:Prop}[Decidable p]{A B:Prop}(h:¬ p)(hA:A):fA (!decide p) A B:=mH (λ_=>hA) (λz=>absurd z h)
def zm{p:Prop}[Decidable p]{A B:Prop}(h:p)(hB:B):fA (!decide p) A B:=mH (λz=>absurd h z) (λ_=>hB)
def lg{c:Bool}{A B:Prop}(h:fA c B A):fA (!c) A B:=by
 cases c <;> exact h
def Dc{c:Bool}{A B:Prop}(h:c=true)(hA:A):fA c A B:=by subst h;exact hA
def Dd{c:Bool}{A B:Prop}(h:c=false)(hB:B):fA c A B:=by subst h;exact hB
def BA{c:Bool}{A B:Prop}(h:c=false)(hA:A):fA (!c) A B:=by subst h;exact hA
def w9{c:Bool}{A B:Prop}(h:c=true)(hB:B):fA (!c) A B:=by subst h;exact hB
inductive D where
 | non|bl (b:Bool)|int (i:Int)|str (l:List Nat)|ty (n:String)
 | lst (ds:List D)|tup (ds:List D)|scr (ns:List Int)|dic (ks:List Key) (ds:List D)|obj (c:Str) (ns:List Str) (ds:List D)|exc (c:Str) (ns:List Str) (ds:List D)
noncomputable def XAt(x C:Addr)(dd:Option Addr)(new:Bool)(h:Heap):Prop:=∃o vs,h.get? x=some o/\o.cls=.ref C/\o.dict=dd/\o.data=.fields vs/\1<vs.size/\(new=true->vs[1]?=some .none)
noncomputable def gv(A:Addr->Prop)(a:Addr):Addr->Prop:=λb=>A b\/b=a
noncomputable def yf(K:a_)(O:Addr->Prop)(H:Hp)(a:Addr)(xs:List V):Prop :=
 (¬ O a/\Rd H a (.lst xs))\/∃(o:Obj) (its:Array Value) (n:Nat),K.lookup a=some o/\o.cls=.type "list"/\o.dict=none/\o.data=.seq its n/\its.size<=sizeLine/\bB xs its.toList
def yf.sq{K:a_}{O:Addr->Prop}{H:Hp}{a:Addr}{xs:List V}(h:yf K O H a xs):SqL K H a xs:=h.elim (λz=>.inl z.2) .inr
noncomputable def aQ(O:Addr->Prop)(H:Hp)(O':Addr->Prop)(H':Hp):Prop:=∀b o,¬ O b->H b=some o->¬ O' b/\H' b=some o
def Rd.keeps{O O':Addr->Prop}{H H':Hp}{a:Addr}{u:HO}(k:aQ O H O' H')(n:¬ O a)(r:Rd H a u):¬ O' a/\Rd H' a u:=by
 rcases r with e|⟨o,e⟩
 .exact⟨(k _ _ n e).1,.inl (k _ _ n e).2⟩
 .exact⟨(k _ _ n e).1,.inr ⟨o,(k _ _ n e).2⟩⟩
def yf.keeps{K:a_}{O O':Addr->Prop}{H H':Hp}{a:Addr}{xs:List V}(k:aQ O H O' H')(h:yf K O H a xs):yf K O' H' a xs:=by
 rcases h with ⟨n,r⟩|r
 .exact .inl (r.keeps k n)
 .exact .inr r
mutual
inductive FV (K:a_) (O:Addr->Prop) (H:Hp):V->D->Prop
 | non:FV K O H .non .non
 | bl (b:Bool):FV K O H (.bl b) (.bl b)
 | int (i:Int):FV K O H (.int i) (.int i)
 | str (l:List Nat):l.length<=1000000->FV K O H (.str (S l)) (.str l)
 | ty (n:String):FV K O H (.ty n) (.ty n)
 | scr {a:Addr}{ns:List Int}:yf K O H a (ns.map V.int)->FV K O H (.ref a) (.scr ns)
 | lst {a:Addr}{xs:List V}{ds:List D}:¬ O a->H a=some (.lst xs)->FVs K O H xs ds->FV K O H (.ref a) (.lst ds)
 | tup {a:Addr}{xs:List V}{ds:List D}:¬ O a->H a=some (.tup xs)->FVs K O H xs ds->FV K O H (.ref a) (.tup ds)
 | dic {a:Addr}{kvs:List (Key×V)}{ks:List Key}{ds:List D}:¬ O a->H a=some (.dK kvs)->kvs.map DO=ks->FVs K O H (kvs.map Fk) ds->FV K O H (.ref a) (.dic ks ds)
 | obj {a dx:Addr}{c:Str}{fs:List (Str×V)}{ns:List Str}{ds:List D}:¬ O a->H a=some (.ins (bo K c) dx fs)->fs.map DO=ns->FVs K O H (fs.map Fk) ds->FV K O H (.ref a) (.obj c ns ds)
 | exc0 {a:Addr}{c:Str}{new:Bool}:¬ O a->H a=some (.ext (XAt a (bo K c) none new))->FV K O H (.ref a) (.exc c [] [])
 | exc1 {a dx:Addr}{c:Str}{new:Bool}{fs:List (Str×V)}{ns:List Str}{ds:List D}:¬ O a->¬ O dx->H a=some (.ext (XAt a (bo K c) (some dx) new))->H dx=some (.xd fs)->fs.map DO=ns->FVs K O H (fs.map Fk) ds->FV K O H (.ref a) (.exc c ns ds)
inductive FVs (K:a_) (O:Addr->Prop) (H:Hp):List V->List D->Prop
 | nil:FVs K O H [] []
 | cons {x:V}{d:D}{xs:List V}{ds:List D}:FV K O H x d->FVs K O H xs ds->FVs K O H (x::xs) (d::ds)
end
section
variable {K:a_}{O O':Addr->Prop}{H H':Hp}
mutual
theorem FV.keeps(k:aQ O H O' H'):∀{v:V}{d:D},FV K O H v d->FV K O' H' v d
 | _,_,.non=>.non
 | _,_,.bl b=>.bl b
 | _,_,.int i=>.int i
 | _,_,.str l h=>.str l h
 | _,_,.ty n=>.ty n
 | _,_,.scr s=>.scr (s.keeps k)
 | _,_,.lst n e f=>.lst (k _ _ n e).1 (k _ _ n e).2 (FVs.keeps k f)
 | _,_,.tup n e f=>.tup (k _ _ n e).1 (k _ _ n e).2 (FVs.keeps k f)
 | _,_,.dic n e m f=>.dic (k _ _ n e).1 (k _ _ n e).2 m (FVs.keeps k f)
 | _,_,.obj n e m f=>.obj (k _ _ n e).1 (k _ _ n e).2 m (FVs.keeps k f)
 | _,_,.exc0 n e=>.exc0 (k _ _ n e).1 (k _ _ n e).2
 | _,_,.exc1 n n2 e e2 m f=>.exc1 (k _ _ n e).1 (k _ _ n2 e2).1 (k _ _ n e).2 (k _ _ n2 e2).2 m (FVs.keeps k f)
theorem FVs.keeps(k:aQ O H O' H'):∀{vs:List V}{ds:List D},FVs K O H vs ds->FVs K O' H' vs ds
 | _,_,.nil=>.nil
 | _,_,.cons a b=>.cons (FV.keeps k a) (FVs.keeps k b)
end
theorem FVs.length:∀{vs:List V}{ds:List D},FVs K O H vs ds->vs.length=ds.length
 | _,_,.nil=>rfl
 | _,_,.cons _ b=>by rw [length_cons,length_cons,b.length]
theorem FVs.get:∀{vs:List V}{ds:List D}{i:Nat}{v:V},FVs K O H vs ds->vs[i]?=some v->∃d,ds[i]?=some d/\FV K O H v d
 | _,_,0,_,.cons a _,e=>by simp at e;subst e;exact⟨_,rfl,a⟩
 | _,_,i+1,v,.cons _ b,e=>by
  obtain⟨d,h1,h2⟩:=b.get (i:=i) (v:=v) (by simpa using e);exact⟨d,by simpa using h1,h2⟩
theorem FVs.getD:∀{vs:List V}{ds:List D}{i:Nat}{d:D},FVs K O H vs ds->ds[i]?=some d->∃v,vs[i]?=some v/\FV K O H v d
 | _,_,0,_,.cons a _,e=>by simp at e;subst e;exact⟨_,rfl,a⟩
 | _,_,i+1,v,.cons _ b,e=>by
  obtain⟨d,h1,h2⟩:=b.getD (i:=i) (d:=v) (by simpa using e);exact⟨d,by simpa using h1,h2⟩
theorem FVs.append:∀{vs ws:List V}{ds es:List D},FVs K O H vs ds->FVs K O H ws es->FVs K O H (vs++ws) (ds++es)
 | _,_,_,_,.nil,s=>s
 | _,_,_,_,.cons a b,s=>.cons a (b.append s)
theorem FVs.take:∀{vs:List V}{ds:List D} (n:Nat),FVs K O H vs ds->FVs K O H (vs.take n) (ds.take n)
 | _,_,0,_=>.nil
 | _,_,_+1,.nil=>.nil
 | _,_,n+1,.cons r t=>.cons r (t.take n)
theorem FVs.drop:∀{vs:List V}{ds:List D} (n:Nat),FVs K O H vs ds->FVs K O H (vs.drop n) (ds.drop n)
 | _,_,0,r=>r
 | _,_,_+1,.nil=>.nil
 | _,_,n+1,.cons _ t=>t.drop n
theorem FVs.ints:∀{vs:List V}{ns:List Int},FVs K O H vs (ns.map D.int)->vs=ns.map V.int
 | _,[],.nil=>rfl
 | _,n::r,h=>by
  cases h with
  | cons a b=>cases a;rw [FVs.ints b];rfl
theorem FVs.of_ints:∀ns:List Int,FVs K O H (ns.map V.int) (ns.map D.int)
 | []=>.nil
 | n::r=>.cons (.int n) (FVs.of_ints r)
theorem FVs.strs:∀{vs:List V}{ws:List (List Nat)},FVs K O H vs (ws.map D.str)->vs=ws.map tx
 | _,[],.nil=>rfl
 | _,n::r,h=>by
  cases h with
  | cons a b=>cases a;rw [FVs.strs b];rfl
theorem FVs.strs_le:∀{vs:List V}{ws:List (List Nat)},FVs K O H vs (ws.map D.str)->∀w∈ws,w.length<=1000000
 | _,[],.nil=>nofun
 | _,n::r,h=>by
  cases h with
  | cons a b =>
   cases a with
   | str _ z =>
    intro w hw
    rcases C_.mp hw with e|e
    .rw [e];exact z
    .exact FVs.strs_le b w e
theorem FVs.bls:∀{vs:List V}{bs:List Bool},FVs K O H vs (bs.map D.bl)->vs=bs.map V.bl
 | _,[],.nil=>rfl
 | _,n::r,h=>by
  cases h with
  | cons a b=>cases a;rw [FVs.bls b];rfl
end
inductive PV where
 | dat (d:D)|own (ds:List D)|ins (c:Str) (ns:List Str) (ds:List D)
noncomputable def PV.isOwn:PV->Bool
 | .dat _=>false
 | _=>true
noncomputable def PV.d:PV->D
 | .dat d=>d
 | .own ds=>.lst ds
 | .ins c ns ds=>.obj c ns ds
abbrev PSt:=List (Option PV)
noncomputable def Wr(ρ:PSt)(σ:St)(b:Addr):Prop:=∃(i:Nat) (p:PV),ρ[i]?=some (some p)/\p.isOwn=true/\σ[i]?=some (some (.ref b))
noncomputable def OO(A:Addr->Prop)(ρ:PSt)(σ:St)(b:Addr):Prop:=A b\/Wr ρ σ b
noncomputable def RS(K:a_)(O:Addr->Prop)(H:Hp):PV->V->Prop
 | .dat d,v=>FV K O H v d
 | .own ds,v=>∃a xs,v=.ref a/\H a=some (.lst xs)/\FVs K O H xs ds
 | .ins c ns ds,v=>∃a dx fs,v=.ref a/\H a=some (.ins (bo K c) dx fs)/\fs.map DO=ns/\FVs K O H (fs.map Fk) ds
structure Rel (K:a_) (A:Addr->Prop) (ρ:PSt) (σ:St) (H:Hp):Prop where
 len:ρ.length=σ.length
 get:∀(i:Nat) (p:PV),ρ[i]?=some (some p)->∃v,σ[i]?=some (some v)/\RS K (OO A ρ σ) H p v
 dj:∀(i j:Nat) (p q:PV) (v:V),ρ[i]?=some (some p)->ρ[j]?=some (some q)->p.isOwn=true->q.isOwn=true->σ[i]?=some (some v)->σ[j]?=some (some v)->i=j
 dom:∀b,A b->H b≠none
 sep:∀b,A b->¬ Wr ρ σ b
structure Fr (ρ:PSt) (σ:St) (H:Hp) (ρ':PSt) (H':Hp):Prop where
 kp:∀b o,¬ Wr ρ σ b->H b=some o->H' b=some o
 dm:∀b,H b≠none->H' b≠none
 ow:∀b,Wr ρ' σ b->Wr ρ σ b
def Fr.refl(ρ:PSt)(σ:St)(H:Hp):Fr ρ σ H ρ H:=⟨λ_ _ _ h=>h,λ_ h=>h,λ_ h=>h⟩
def Fr.trans{ρ ρ1 ρ2:PSt}{σ:St}{H H1 H2:Hp}(a:Fr ρ σ H ρ1 H1)(b:Fr ρ1 σ H1 ρ2 H2):Fr ρ σ H ρ2 H2 :=
 ⟨λc o n h=>b.kp c o (λz=>n (a.ow c z)) (a.kp c o n h),λc h=>b.dm c (a.dm c h),λc h=>a.ow c (b.ow c h)⟩
def Fr.keeps{ρ ρ':PSt}{σ:St}{H H':Hp}{A:Addr->Prop}(f:Fr ρ σ H ρ' H'):aQ (OO A ρ σ) H (OO A ρ' σ) H':=λb o n h =>
 ⟨λz=>z.elim (λz=>n (.inl z)) (λz=>n (.inr (f.ow b z))),f.kp b o (λz=>n (.inr z)) h⟩
def Fr.new{ρ:PSt}{σ:St}{H:Hp}{p:Addr}{o:HO}(h:H p=none):Fr ρ σ H ρ (upd H p o) :=
 ⟨λb u _ e=>by rw [ax (aD e h)];exact e,λb e=>by
  by_cases z:b=p
  .rw [z,aG];exact nofun
  .rw [ax z];exact e,λ_ h=>h⟩
def aQ.fresh{O:Addr->Prop}{H:Hp}{p:Addr}{o:HO}(h:H p=none):aQ O H (gv O p) (upd H p o):=λb u n e =>
 ⟨λz=>z.elim n (λz=>by rw [z,h] at e;cases e),by rw [ax (aD e h)];exact e⟩
def aQ.less{O O':Addr->Prop}{H:Hp}(h:∀b,O' b->O b):aQ O H O' H:=λb o n e=>⟨λz=>n (h b z),e⟩
def RS.keeps{K:a_}{O O':Addr->Prop}{H H':Hp}{p:PV}{v:V}(k:aQ O H O' H')(w:p.isOwn=true->∀a,v=.ref a->H' a=H a)(h:RS K O H p v):RS K O' H' p v:=by
 cases p with
 | dat d=>exact FV.keeps k h
 | own ds =>
  obtain⟨a,xs,e,g,f⟩:=h;exact⟨a,xs,e,by rw [w rfl a e];exact g,f.keeps k⟩
 | ins c ns ds =>
  obtain⟨a,dx,fs,e,g,m,f⟩:=h;exact⟨a,dx,fs,e,by rw [w rfl a e];exact g,m,f.keeps k⟩
def RS.ref{K:a_}{O:Addr->Prop}{H:Hp}{p:PV}{v:V}(h:RS K O H p v)(o:p.isOwn=true):∃a u,v=.ref a/\H a=some u:=by
 cases p with
 | dat d=>cases o
 | own ds=>obtain⟨a,xs,e,g,f⟩:=h;exact⟨a,_,e,g⟩
 | ins c ns ds=>obtain⟨a,dx,fs,e,g,m,f⟩:=h;exact⟨a,_,e,g⟩
def Rel.wr{K:a_}{A:Addr->Prop}{ρ:PSt}{σ:St}{H:Hp}(R:Rel K A ρ σ H){b:Addr}(h:Wr ρ σ b):H b≠none:=by
 obtain⟨i,p,e,o,s⟩:=h;obtain⟨v,s',r⟩:=R.get i p e;rw [s] at s';cases s';obtain⟨a,u,e1,e2⟩:=r.ref o;cases e1;rw [e2];exact nofun
def Rel.oo{K:a_}{A:Addr->Prop}{ρ:PSt}{σ:St}{H:Hp}(R:Rel K A ρ σ H){b:Addr}(h:H b=none):¬ OO A ρ σ b:=λz=>z.elim (λz=>R.dom b z h) (λz=>R.wr z h)
def Rel.grow{K:a_}{A:Addr->Prop}{ρ:PSt}{σ:St}{H:Hp}(R:Rel K A ρ σ H){p:Addr}{o:HO}(h:H p=none):Rel K A ρ σ (upd H p o):=by
 have k:aQ (OO A ρ σ) H (OO A ρ σ) (upd H p o):=Fr.keeps (Fr.new h);refine⟨R.len,λi q e=>?_,R.dj,λb z=>(Fr.new (ρ:=ρ) (σ:=σ) h).dm b (R.dom b z),R.sep⟩;obtain⟨v,s,r⟩:=R.get i q e;refine⟨v,s,r.keeps k λow a ea=>?_⟩;obtain⟨a',u,e1,e2⟩:=r.ref ow;rw [ea] at e1;cases e1;rw [ax (aD e2 h)]
def Rel.less{K:a_}{A A':Addr->Prop}{ρ:PSt}{σ:St}{H:Hp}(R:Rel K A ρ σ H)(h:∀b,A' b->A b):Rel K A' ρ σ H:=by
 refine⟨R.len,λi q e=>?_,R.dj,λb z=>R.dom b (h b z),λb z=>R.sep b (h b z)⟩;obtain⟨v,s,r⟩:=R.get i q e;exact⟨v,s,r.keeps (aQ.less λb z=>z.imp (h b) id) λ_ _ _=>rfl⟩
def Rel.write{K:a_}{A:Addr->Prop}{ρ:PSt}{σ:St}{H:Hp}(R:Rel K A ρ σ H){i:Nat}{p q:PV}{a:Addr}{o:HO}(e:ρ[i]?=some (some p))(ow:p.isOwn=true)(ow':q.isOwn=true)(es:σ[i]?=some (some (.ref a)))
  (new:RS K (OO A ρ σ) (upd H a o) q (.ref a)):Rel K A (ρ.set i (some q)) σ (upd H a o)/\Fr ρ σ H (ρ.set i (some q)) (upd H a o):=by
 have hi:i<ρ.length:=(g_.mp e).1;have wa:Wr ρ σ a:=⟨i,p,e,ow,es⟩
 have weq:∀b,Wr (ρ.set i (some q)) σ b ↔ Wr ρ σ b:=λb=>by
  constructor
  .rintro⟨j,r,e1,o1,s1⟩
   by_cases z:i=j
   .subst z;exact⟨i,p,e,ow,s1⟩
   .rw [m_ z] at e1;exact⟨j,r,e1,o1,s1⟩
  .rintro⟨j,r,e1,o1,s1⟩
   by_cases z:i=j
   .subst z;exact⟨i,q,pj hi,ow',s1⟩
   .exact⟨j,r,by rw [m_ z];exact e1,o1,s1⟩
 have oeq:OO A (ρ.set i (some q)) σ=OO A ρ σ:=funext λb=>propext (or_congr Iff.rfl (weq b));have kp:∀b u,¬ Wr ρ σ b->H b=some u->upd H a o b=some u:=λb u n h=>by rw [ax (λz=>n (by rw [z];exact wa))];exact h
 have k:aQ (OO A ρ σ) H (OO A ρ σ) (upd H a o):=λb u n h=>⟨n,kp b u (λz=>n (.inr z)) h⟩
 have dm:∀b,H b≠none->upd H a o b≠none:=λb n=>by
  by_cases z:b=a
  .rw [z,aG];exact nofun
  .rw [ax z];exact n
 refine⟨⟨by rw [Ee];exact R.len,λj r e1=>?_,λj l p1 q1 v e1 e2 o1 o2 s1 s2=>?_,λb z=>dm b (R.dom b z),λb z w=>R.sep b z ((weq b).mp w)⟩,⟨kp,dm,λb w=>(weq b).mp w⟩⟩
 .rw [oeq]
  by_cases z:i=j
  .subst z;rw [pj hi] at e1;cases e1;exact⟨_,es,new⟩
  .rw [m_ z] at e1;obtain⟨v,s,rr⟩:=R.get j r e1;refine⟨v,s,rr.keeps k λow2 b eb=>?_⟩;rw [ax];intro zz;subst zz;rw [eb] at s;exact z (R.dj i j p r _ e e1 ow ow2 es s)
 .have ex:∀(m:Nat) (x:PV),(ρ.set i (some q))[m]?=some (some x)->x.isOwn=true->∃y:PV,ρ[m]?=some (some y)/\y.isOwn=true:=λm x em ox=>by
   by_cases z:i=m
   .subst z;exact⟨p,e,ow⟩
   .rw [m_ z] at em;exact⟨x,em,ox⟩
  obtain⟨y1,h1,h2⟩:=ex j p1 e1 o1;obtain⟨y2,h3,h4⟩:=ex l q1 e2 o2;exact R.dj j l y1 y2 v h1 h3 h2 h4 s1 s2
def Rel.frz{K:a_}{A:Addr->Prop}{ρ:PSt}{σ:St}{H:Hp}(R:Rel K A ρ σ H){i:Nat}{p:PV}(e:ρ[i]?=some (some p)) :
  Rel K A (ρ.set i (some (.dat p.d))) σ H/\Fr ρ σ H (ρ.set i (some (.dat p.d))) H:=by
 have hi:i<ρ.length:=(g_.mp e).1
 have ex:∀(m:Nat) (x:PV),(ρ.set i (some (.dat p.d)))[m]?=some (some x)->x.isOwn=true->m≠i/\ρ[m]?=some (some x):=λm x em ox=>by
  by_cases z:i=m
  .subst z;rw [pj hi] at em;cases em;cases ox
  .rw [m_ z] at em;exact⟨λq=>z q.symm,em⟩
 have ow:∀b,Wr (ρ.set i (some (.dat p.d))) σ b->Wr ρ σ b:=λb ⟨j,r,e1,o1,s1⟩=>⟨j,r,(ex j r e1 o1).2,o1,s1⟩
 have k:aQ (OO A ρ σ) H (OO A (ρ.set i (some (.dat p.d))) σ) H:=aQ.less λb z=>z.imp id (ow b);refine⟨⟨by rw [Ee];exact R.len,λj r e1=>?_,λj l p1 q1 v e1 e2 o1 o2 s1 s2=>R.dj j l p1 q1 v (ex j p1 e1 o1).2 (ex l q1 e2 o2).2 o1 o2 s1 s2,R.dom,λb z w=>R.sep b z (ow b w)⟩,⟨λ_ _ _ h=>h,λ_ h=>h,ow⟩⟩
 by_cases z:i=j
 .subst z;rw [pj hi] at e1;cases e1;obtain⟨v,s,r⟩:=R.get i p e;refine⟨v,s,?_⟩
  have na:∀a,v=.ref a->p.isOwn=true->¬ OO A (ρ.set i (some (.dat p.d))) σ a:=λa ea oo z=>by
   subst ea
   rcases z with z|⟨j,r,e1,o1,s1⟩
   .exact R.sep a z ⟨i,p,e,oo,s⟩
   .obtain⟨n1,n2⟩:=ex j r e1 o1;exact n1 (R.dj j i r p _ n2 e o1 oo s1 s)
  cases p with
  | dat d=>exact FV.keeps k r
  | own ds =>
   obtain⟨a,xs,rfl,g,f⟩:=r;exact .lst (na a rfl rfl) g (f.keeps k)
  | ins c ns ds =>
   obtain⟨a,dx,fs,rfl,g,m,f⟩:=r;exact .obj (na a rfl rfl) g m (f.keeps k)
 .rw [m_ z] at e1;obtain⟨v,s,r⟩:=R.get j _ e1;exact⟨v,s,r.keeps k λ_ _ _=>rfl⟩
abbrev PKt:=PV->PSt->Prop
abbrev PTE:=PSt->PKt->Prop
abbrev PTT:=PSt->(Bool->PSt->Prop)->Prop
inductive AV where
 | v (d:D)|sl (i:Nat)
abbrev PA1:=PSt->(AV->PSt->Prop)->Prop
abbrev PTA:=PSt->(List AV->PSt->Prop)->Prop
noncomputable def Out(K:a_)(A:Addr->Prop)(ρ:PSt)(σ:St)(H0 H:Hp):PV->V->Prop
 | .dat d,v=>Rel K A ρ σ H/\FV K (OO A ρ σ) H v d
 | .own ds,v=>∃a xs,v=.ref a/\¬ A a/\H0 a=none/\H a=some (.lst xs)/\Rel K (gv A a) ρ σ H/\FVs K (OO (gv A a) ρ σ) H xs ds
 | .ins c ns ds,v=>∃a dx fs,v=.ref a/\¬ A a/\H0 a=none/\H a=some (.ins (bo K c) dx fs)/\fs.map DO=ns/\Rel K (gv A a) ρ σ H/\FVs K (OO (gv A a) ρ σ) H (fs.map Fk) ds
noncomputable def LE(K:a_)(te:TE)(pe:PTE):Prop:=∀(A:Addr->Prop) (ρ:PSt) (σ:St) (H:Hp) (Q:PKt) (Q':VK),Rel K A ρ σ H->pe ρ Q ->
 (∀v H' p ρ',Q p ρ'->Fr ρ σ H ρ' H'->Out K A ρ' σ H H' p v->Q' v H')->te σ H Q'
noncomputable def LT(K:a_)(tt:TT)(pt:PTT):Prop:=∀(A:Addr->Prop) (ρ:PSt) (σ:St) (H:Hp) (Q:Bool->PSt->Prop) (Q':Bool->Hp->Prop),Rel K A ρ σ H->pt ρ Q ->
 (∀b H' ρ',Q b ρ'->Fr ρ σ H ρ' H'->Rel K A ρ' σ H'->Q' b H')->tt σ H Q'
noncomputable def AOk(K:a_)(O:Addr->Prop)(σ:St)(H:Hp):AV->V->Prop
 | .v d,v=>FV K O H v d
 | .sl i,v=>σ[i]?=some (some v)
noncomputable def LA1(K:a_)(te:TE)(pa:PA1):Prop:=∀(A:Addr->Prop) (ρ:PSt) (σ:St) (H:Hp) (Q:AV->PSt->Prop) (Q':VK),Rel K A ρ σ H->pa ρ Q ->
 (∀v H' av ρ',Q av ρ'->Fr ρ σ H ρ' H'->Rel K A ρ' σ H'->AOk K (OO A ρ' σ) σ H' av v->Q' v H')->te σ H Q'
inductive xa (K:a_) (O:Addr->Prop) (σ:St) (H:Hp):List AV->List V->Prop
 | nil:xa K O σ H [] []
 | cons {a:AV}{v:V}{as:List AV}{vs:List V}:AOk K O σ H a v->xa K O σ H as vs->xa K O σ H (a::as) (v::vs)
noncomputable def LAs(K:a_)(ta:TA)(pa:PTA):Prop:=∀(A:Addr->Prop) (ρ:PSt) (σ:St) (H:Hp) (Q:List AV->PSt->Prop) (Q':List V->Hp->Prop),Rel K A ρ σ H->pa ρ Q ->
 (∀vs H' as ρ',Q as ρ'->Fr ρ σ H ρ' H'->Rel K A ρ' σ H'->xa K (OO A ρ' σ) σ H' as vs->Q' vs H')->ta σ H Q'
section
variable {K:a_}{A O O':Addr->Prop}{ρ ρ':PSt}{σ:St}{H H' H0:Hp}
def AOk.keeps{a:AV}{v:V}(k:aQ O H O' H')(h:AOk K O σ H a v):AOk K O' σ H' a v:=by
 cases a with
 | v d=>exact FV.keeps k h
 | sl i=>exact h
def Out.frz{p:PV}{v:V}(h:Out K A ρ σ H0 H p v):Rel K A ρ σ H/\FV K (OO A ρ σ) H v p.d:=by
 cases p with
 | dat d=>exact h
 | own ds =>
  obtain⟨a,xs,rfl,na,_,e,R,f⟩:=h;refine⟨R.less λb z=>.inl z,.lst (λz=>?_) e (f.keeps (aQ.less λb z=>z.imp .inl id))⟩;exact z.elim na (λz=>R.sep a (.inr rfl) z)
 | ins c ns ds =>
  obtain⟨a,dx,fs,rfl,na,_,e,m,R,f⟩:=h;refine⟨R.less λb z=>.inl z,.obj (λz=>?_) e m (f.keeps (aQ.less λb z=>z.imp .inl id))⟩;exact z.elim na (λz=>R.sep a (.inr rfl) z)
def Out.h0{p:PV}{v:V}{H1:Hp}(h:Out K A ρ σ H0 H p v)(dm:∀b,H1 b≠none->H0 b≠none):Out K A ρ σ H1 H p v:=by
 have k:∀a,H0 a=none->H1 a=none:=λa e=>by
  cases z:H1 a with
  | none=>rfl
  | some o=>exact absurd e (dm a (by rw [z];exact nofun))
 cases p with
 | dat d=>exact h
 | own ds=>obtain⟨a,xs,e1,na,e2,r⟩:=h;exact⟨a,xs,e1,na,k a e2,r⟩
 | ins c ns ds=>obtain⟨a,dx,fs,e1,na,e2,r⟩:=h;exact⟨a,dx,fs,e1,na,k a e2,r⟩
noncomputable def Gr(H H':Hp):Prop:=∀b o,H b=some o->H' b=some o
def Gr.fr(g:Gr H H'):Fr ρ σ H ρ H':=⟨λb o _ h=>g b o h,λb h=>by
 cases e:H b with
 | none=>exact absurd e h
 | some o=>rw [g b o e];exact nofun,λ_ h=>h⟩
def Gr.new{p:Addr}{o:HO}(h:H p=none):Gr H (upd H p o):=λb u e=>by rw [ax (aD e h)];exact e
def Gr.refl(H:Hp):Gr H H:=λ_ _ h=>h
def Rel.gr(R:Rel K A ρ σ H)(g:Gr H H'):Rel K A ρ σ H':=by
 refine⟨R.len,λi q e=>?_,R.dj,λb z=>(g.fr (ρ:=ρ) (σ:=σ)).dm b (R.dom b z),R.sep⟩;obtain⟨v,s,r⟩:=R.get i q e;refine⟨v,s,r.keeps (g.fr (ρ:=ρ) (σ:=σ)).keeps λow a ea=>?_⟩;obtain⟨a',u,e1,e2⟩:=r.ref ow;rw [ea] at e1;cases e1;rw [e2];exact g _ _ e2
def Rel.grA(R:Rel K A ρ σ H)(g:Gr H H'){p:Addr}(h:H p=none)(h':H' p≠none):Rel K (gv A p) ρ σ H':=by
 have k:aQ (OO A ρ σ) H (OO (gv A p) ρ σ) H':=λb u n e=>by
  refine⟨λz=>?_,g _ _ e⟩
  rcases z with (z|z)|z
  .exact n (.inl z)
  .rw [z,h] at e;cases e
  .exact n (.inr z)
 refine⟨R.len,λi q e=>?_,R.dj,λb z=>?_,λb z w=>?_⟩
 .obtain⟨v,s,r⟩:=R.get i q e;refine⟨v,s,r.keeps k λow a ea=>?_⟩;obtain⟨a',u,e1,e2⟩:=r.ref ow;rw [ea] at e1;cases e1;rw [e2];exact g _ _ e2
 .rcases z with z|z
  .exact (g.fr (ρ:=ρ) (σ:=σ)).dm b (R.dom b z)
  .rw [z];exact h'
 .rcases z with z|z
  .exact R.sep b z w
  .exact R.wr w (by rw [z];exact h)
noncomputable def nR(K:a_)(O:Addr->Prop)(H0 H:Hp):PV->V->Prop
 | .dat d,v=>FV K O H v d
 | .own ds,v=>∃a xs,v=.ref a/\H0 a=none/\H a=some (.lst xs)/\FVs K (gv O a) H xs ds
 | .ins c ns ds,v=>∃a dx fs,v=.ref a/\H0 a=none/\H a=some (.ins (bo K c) dx fs)/\fs.map DO=ns/\FVs K (gv O a) H (fs.map Fk) ds
def nR.out{p:PV}{v:V}(R:Rel K A ρ σ H)(g:Gr H H')(h:nR K (OO A ρ σ) H H' p v):Out K A ρ σ H H' p v:=by
 cases p with
 | dat d=>exact⟨R.gr g,h⟩
 | own ds =>
  obtain⟨a,xs,rfl,e0,e,f⟩:=h;refine⟨a,xs,rfl,λz=>R.dom a z e0,e0,e,R.grA g e0 (by rw [e];exact nofun),f.keeps (aQ.less λb z=>?_)⟩
  rcases z with (z|z)|z
  .exact .inl (.inl z)
  .exact .inr z
  .exact .inl (.inr z)
 | ins c ns ds =>
  obtain⟨a,dx,fs,rfl,e0,e,m,f⟩:=h;refine⟨a,dx,fs,rfl,λz=>R.dom a z e0,e0,e,m,R.grA g e0 (by rw [e];exact nofun),f.keeps (aQ.less λb z=>?_)⟩
  rcases z with (z|z)|z
  .exact .inl (.inl z)
  .exact .inr z
  .exact .inl (.inr z)
noncomputable def FVc(K:a_)(O:Addr->Prop)(H:Hp)(v:V)(d:D):Prop:=FV K O H v d\/(∃a xs ds,v=.ref a/\d=.lst ds/\H a=some (.lst xs)/\FVs K O H xs ds) \/
 ∃a dx c fs ns ds,v=.ref a/\d=.obj c ns ds/\H a=some (.ins (bo K c) dx fs)/\fs.map DO=ns/\FVs K O H (fs.map Fk) ds
noncomputable def cont(ρ:PSt):AV->Option D
 | .v d=>some d
 | .sl i=>match ρ[i]? with|some (some p)=>some p.d|_=>none
def Rel.cont{av:AV}{v:V}{d:D}(R:Rel K A ρ σ H)(h:AOk K (OO A ρ σ) σ H av v)(e:L2.cont ρ av=some d):FVc K (OO A ρ σ) H v d:=by
 cases av with
 | v d'=>cases e;exact .inl h
 | sl i =>
  have h:σ[i]?=some (some v):=h;simp only [L2.cont] at e
  split at e
  .rename_i p ep;cases e;obtain⟨v',s,r⟩:=R.get i p ep;rw [h] at s;cases s
   cases p with
   | dat d=>exact .inl r
   | own ds=>obtain⟨a,xs,e1,e2,f⟩:=r;exact .inr (.inl ⟨a,xs,ds,e1,rfl,e2,f⟩)
   | ins c ns ds=>obtain⟨a,dx,fs,e1,e2,m,f⟩:=r;exact .inr (.inr ⟨a,dx,c,fs,ns,ds,e1,rfl,e2,m,f⟩)
  .cases e
def FVc.lst{v:V}{ds:List D}(h:FVc K O H v (.lst ds)):∃a xs,v=.ref a/\H a=some (.lst xs)/\FVs K O H xs ds:=by
 rcases h with h|⟨a,xs,ds',e1,e2,e3,f⟩|⟨a,dx,c,fs,ns,ds',e1,e2,_⟩
 .cases h with
  | lst n s f=>exact⟨_,_,rfl,s,f⟩
 .cases e2;exact⟨a,xs,e1,e3,f⟩
 .cases e2
def FVc.fv{v:V}{d:D}(h:FVc K O H v d)(n:∀ds,d≠.lst ds)(n':∀c ns ds,d≠.obj c ns ds):FV K O H v d:=by
 rcases h with h|⟨a,xs,ds',e1,e2,e3,f⟩|⟨a,dx,c,fs,ns,ds',e1,e2,_⟩
 .exact h
 .exact absurd e2 (n _)
 .exact absurd e2 (n' _ _ _)
def FVc.tup{v:V}{ds:List D}(h:FVc K O H v (.tup ds)):∃a xs,v=.ref a/\¬ O a/\H a=some (.tup xs)/\FVs K O H xs ds:=by
 cases h.fv nofun nofun with
 | tup n s f=>exact⟨_,_,rfl,n,s,f⟩
def FVc.scr{v:V}{ns:List Int}(h:FVc K O H v (.scr ns)):∃a,v=.ref a/\SqL K H a (ns.map V.int):=by
 cases h.fv nofun nofun with
 | scr s=>exact⟨_,rfl,s.sq⟩
def FVc.int{v:V}{i:Int}(h:FVc K O H v (.int i)):v=.int i:=by cases h.fv nofun nofun;rfl
def FVc.str{v:V}{i:List Nat}(h:FVc K O H v (.str i)):v=.str (S i)/\i.length<=1000000:=by
 cases h.fv nofun nofun with
 | str _ z=>exact⟨rfl,z⟩
end
def pC(d:D):PTE:=λρ Q=>Q (.dat d) ρ
noncomputable def uC(i:Nat):PTE:=λρ Q=>match ρ[i]? with
 | some (some (.dat d))=>Q (.dat d) ρ
 | some (some (.own ds))=>Q (.dat (.lst ds)) (ρ.set i (some (.dat (.lst ds))))
 | some (some (.ins c ns ds))=>Q (.dat (.obj c ns ds)) (ρ.set i (some (.dat (.obj c ns ds))))
 | _=>False
noncomputable def pSl(i:Nat):PA1:=λρ Q=>match ρ[i]? with
 | some (some (.dat d))=>Q (.v d) ρ
 | some (some (.own _))=>Q (.sl i) ρ
 | some (some (.ins _ _ _))=>Q (.sl i) ρ
 | _=>False
noncomputable def pFz(pe:PTE):PA1:=λρ Q=>pe ρ λp ρ1=>Q (.v p.d) ρ1
def fG:PTA:=λρ Q=>Q [] ρ
noncomputable def bY(pa:PA1)(pr:PTA):PTA:=λρ Q=>pa ρ λa ρ1=>pr ρ1 λas ρ2=>Q (a::as) ρ2
section
variable {K:a_}{ta tb tc:TE}{pa pb pc:PA1}{pe pe':PTE}{tr:TA}{pr:PTA}
def BB{v:V}{d:D}(h:∀O H,FV K O H v d):LE K (tC v) (pC d):=λA ρ σ H Q Q' R q k=>k v H (.dat d) ρ q (Fr.refl _ _ _) ⟨R,h _ _⟩
def le_int{i:Int}:LE K (tC (.int i)) (pC (.int i)):=BB λ_ _=>.int i
def qz{i:Bool}:LE K (tC (.bl i)) (pC (.bl i)):=BB λ_ _=>.bl i
def le_str{l:List Nat}(h:l.length<=1000000:=by decide):LE K (tC (.str (S l))) (pC (.str l)):=BB λ_ _=>.str l h
def aj{i:Nat}:LE K (aV i) (uC i):=by
 intro A ρ σ H Q Q' R q k;unfold uC at q
 split at q
 .rename_i d e;obtain⟨v,s,r⟩:=R.get i _ e;exact⟨v,s,k v H (.dat d) ρ q (Fr.refl _ _ _) ⟨R,r⟩⟩
 .rename_i ds e;obtain⟨R',f⟩:=R.frz e;obtain⟨v,s,r⟩:=R'.get i _ (pj (g_.mp e).1);exact⟨v,s,k v H (.dat (.lst ds)) _ q f ⟨R',r⟩⟩
 .rename_i c ns ds e;obtain⟨R',f⟩:=R.frz e;obtain⟨v,s,r⟩:=R'.get i _ (pj (g_.mp e).1);exact⟨v,s,k v H (.dat (.obj c ns ds)) _ q f ⟨R',r⟩⟩
 .exact q.elim
def ak{i:Nat}:LA1 K (aV i) (pSl i):=by
 intro A ρ σ H Q Q' R q k;unfold pSl at q
 split at q
 .rename_i d e;obtain⟨v,s,r⟩:=R.get i _ e;exact⟨v,s,k v H _ ρ q (Fr.refl _ _ _) R r⟩
 .rename_i e;obtain⟨v,s,r⟩:=R.get i _ e;exact⟨v,s,k v H _ ρ q (Fr.refl _ _ _) R s⟩
 .rename_i e;obtain⟨v,s,r⟩:=R.get i _ e;exact⟨v,s,k v H _ ρ q (Fr.refl _ _ _) R s⟩
 .exact q.elim
def ac(h:LE K ta pe):LA1 K ta (pFz pe):=λA ρ σ H Q Q' R q k=>h A ρ σ H _ Q' R q λv H' p ρ' q f o=>k v H' _ ρ' q f o.frz.1 o.frz.2
def ae:LAs K dZ fG:=λA ρ σ H Q Q' R q k=>k [] H [] ρ q (Fr.refl _ _ _) R .nil
def aa(h:LA1 K ta pa)(hr:LAs K tr pr):LAs K (aU ta tr) (bY pa pr):=λA ρ σ H Q Q' R q k =>
 h A ρ σ H _ _ R q λv H1 a ρ1 q1 f1 R1 o1=>hr A ρ1 σ H1 _ _ R1 q1 λvs H2 as ρ2 q2 f2 R2 o2=>k _ H2 _ ρ2 q2 (f1.trans f2) R2 (.cons (o1.keeps f2.keeps) o2)
noncomputable def LO(K:a_)(r:R2)(f:D->D->(PV->Prop)->Prop):Prop:=∀(O:Addr->Prop) (H:Hp) (x y:V) (a b:D) (Q:PV->Prop) (Q':VK),(∀b,O b->H b≠none)->FVc K O H x a->FVc K O H y b->f a b Q ->
 (∀v H' p,Q p->Gr H H'->nR K O H H' p v->Q' v H')->r x y H Q'
noncomputable def op2(f:D->D->(PV->Prop)->Prop)(ρ:PSt)(x y:AV)(Q:PKt):Prop:=match cont ρ x,cont ρ y with
 | some a,some b=>f a b λp=>Q p ρ
 | _,_=>False
noncomputable def pOp(f:D->D->(PV->Prop)->Prop)(pa pb:PA1):PTE:=λρ Q=>pa ρ λx ρ1=>pb ρ1 λy ρ2=>op2 f ρ2 x y Q
def Rel.dom2{A:Addr->Prop}{ρ:PSt}{σ:St}{H:Hp}(R:Rel K A ρ σ H):∀b,OO A ρ σ b->H b≠none:=λb z=>z.elim (R.dom b) R.wr
def ao{r:R2}{f:D->D->(PV->Prop)->Prop}(o:LO K r f)(ha:LA1 K ta pa)(hb:LA1 K tb pb):LE K (tOp r ta tb) (pOp f pa pb):=λA ρ σ H Q Q' R q k =>
 ha A ρ σ H _ _ R q λv H1 a ρ1 q1 f1 R1 o1=>hb A ρ1 σ H1 _ _ R1 q1 λw H2 b ρ2 q2 f2 R2 o2=>by
  unfold op2 at q2
  split at q2
  .rename_i da db e1 e2;exact o _ H2 v w da db _ _ R2.dom2 (R2.cont (o1.keeps f2.keeps) e1) (R2.cont o2 e2) q2 λz H3 p q3 g ov=>k z H3 p ρ2 q3 ((f1.trans f2).trans g.fr) ((ov.out R2 g).h0 λb z=>f2.dm b (f1.dm b z))
  .exact q2.elim
noncomputable def LU(K:a_)(r:V->Hp->VK->Prop)(f:D->(PV->Prop)->Prop):Prop:=∀(O:Addr->Prop) (H:Hp) (x:V) (a:D) (Q:PV->Prop) (Q':VK),(∀b,O b->H b≠none)->FVc K O H x a->f a Q ->
 (∀v H' p,Q p->Gr H H'->nR K O H H' p v->Q' v H')->r x H Q'
noncomputable def op1(f:D->(PV->Prop)->Prop)(ρ:PSt)(x:AV)(Q:PKt):Prop:=match cont ρ x with
 | some a=>f a λp=>Q p ρ
 | _=>False
noncomputable def pUn(f:D->(PV->Prop)->Prop)(pa:PA1):PTE:=λρ Q=>pa ρ λx ρ1=>op1 f ρ1 x Q
def xb{r:V->Hp->VK->Prop}{f:D->(PV->Prop)->Prop}(o:LU K r f)(ha:LA1 K ta pa):LE K (tUn r ta) (pUn f pa):=λA ρ σ H Q Q' R q k =>
 ha A ρ σ H _ _ R q λv H1 a ρ1 q1 f1 R1 o1=>by
  unfold op1 at q1
  split at q1
  .rename_i da e1;exact o _ H1 v da _ _ R1.dom2 (R1.cont o1 e1) q1 λz H3 p q3 g ov=>k z H3 p ρ1 q3 (f1.trans g.fr) ((ov.out R1 g).h0 λb z=>f1.dm b z)
  .exact q1.elim
inductive yg (K:a_) (O:Addr->Prop) (H:Hp):List V->List D->Prop
 | nil:yg K O H [] []
 | cons {x:V}{d:D}{xs:List V}{ds:List D}:FVc K O H x d->yg K O H xs ds->yg K O H (x::xs) (d::ds)
noncomputable def conts(ρ:PSt):List AV->Option (List D)
 | []=>some []
 | a::r=>match cont ρ a,conts ρ r with
  | some d,some ds=>some (d::ds)
  | _,_=>none
theorem Rel.conts{A:Addr->Prop}{ρ:PSt}{σ:St}{H:Hp}(R:Rel K A ρ σ H):∀{as:List AV}{vs:List V}{ds:List D},xa K (OO A ρ σ) σ H as vs->L2.conts ρ as=some ds->yg K (OO A ρ σ) H vs ds
 | _,_,_,.nil,e=>by cases e;exact .nil
 | _,_,_,.cons a b,e=>by
  unfold L2.conts at e
  split at e
  .rename_i e1 e2;cases e;exact .cons (R.cont a e1) (R.conts b e2)
  .cases e
noncomputable def LC(K:a_)(r:List V->Hp->VK->Prop)(f:List D->(PV->Prop)->Prop):Prop:=∀(O:Addr->Prop) (H:Hp) (xs:List V) (as:List D) (Q:PV->Prop) (Q':VK),(∀b,O b->H b≠none)->yg K O H xs as->f as Q ->
 (∀v H' p,Q p->Gr H H'->nR K O H H' p v->Q' v H')->r xs H Q'
noncomputable def opN(f:List D->(PV->Prop)->Prop)(ρ:PSt)(as:List AV)(Q:PKt):Prop:=match conts ρ as with
 | some ds=>f ds λp=>Q p ρ
 | _=>False
noncomputable def pCB(f:List D->(PV->Prop)->Prop)(pr:PTA):PTE:=λρ Q=>pr ρ λas ρ1=>opN f ρ1 as Q
def aW{r:List V->Hp->VK->Prop}{f:List D->(PV->Prop)->Prop}(o:LC K r f)(ha:LAs K tr pr):LE K (tCB r tr) (pCB f pr):=λA ρ σ H Q Q' R q k =>
 ha A ρ σ H _ _ R q λvs H1 as ρ1 q1 f1 R1 o1=>by
  unfold opN at q1
  split at q1
  .rename_i ds e1;exact o _ H1 vs ds _ _ R1.dom2 (R1.conts o1 e1) q1 λz H3 p q3 g ov=>k z H3 p ρ1 q3 (f1.trans g.fr) ((ov.out R1 g).h0 λb z=>f1.dm b z)
  .exact q1.elim
noncomputable def avD:List AV->Option (List D)
 | []=>some []
 | .v d::r=>match avD r with|some ds=>some (d::ds)|none=>none
 | .sl _::_=>none
theorem xa.avD{O:Addr->Prop}{σ:St}{H:Hp}:∀{as:List AV}{vs:List V}{ds:List D},xa K O σ H as vs->L2.avD as=some ds->FVs K O H vs ds
 | _,_,_,.nil,e=>by cases e;exact .nil
 | .v d::r,_,_,.cons a b,e=>by
  simp only [L2.avD] at e
  split at e
  .rename_i e1;cases e;exact .cons a (b.avD e1)
  .cases e
 | .sl i::r,_,_,.cons a b,e=>by cases e
noncomputable def De(pr:PTA):PTE:=λρ Q=>pr ρ λas ρ1=>match avD as with
 | some ds=>ds.length<=1000000/\Q (.own ds) ρ1
 | _=>False
noncomputable def Df(pr:PTA):PTE:=λρ Q=>pr ρ λas ρ1=>match avD as with
 | some ds=>ds.length<=1000000/\Q (.dat (.tup ds)) ρ1
 | _=>False
def dw(ha:LAs K tr pr):LE K (Bn tr) (De pr):=λA ρ σ H Q Q' R q k =>
 ha A ρ σ H _ _ R q λvs H1 as ρ1 q1 f1 R1 o1=>by
  split at q1
  .rename_i ds e1;have fs:=o1.avD e1;refine⟨sz _ (by rw [fs.length];exact q1.1),λp hp=>k _ _ (.own ds) ρ1 q1.2 (f1.trans (Fr.new hp)) ?_⟩;have g:Gr H1 (upd H1 p (.lst vs)):=Gr.new hp;exact (nR.out (p:=.own ds) R1 g ⟨p,vs,rfl,hp,aG,fs.keeps (aQ.fresh hp)⟩).h0 λb z=>f1.dm b z
  .exact q1.elim
def su(ha:LAs K tr pr):LE K (ye tr) (Df pr):=λA ρ σ H Q Q' R q k =>
 ha A ρ σ H _ _ R q λvs H1 as ρ1 q1 f1 R1 o1=>by
  split at q1
  .rename_i ds e1;have fs:=o1.avD e1;refine⟨sz _ (by rw [fs.length];exact q1.1),λp hp=>k _ _ (.dat (.tup ds)) ρ1 q1.2 (f1.trans (Fr.new hp)) ⟨R1.grow hp,?_⟩⟩;exact .tup (R1.oo hp) aG (fs.keeps (Fr.new hp).keeps)
  .exact q1.elim
noncomputable def pB(pe:PTE):PTT:=λρ Q=>pe ρ λp ρ1=>match p with
 | .dat (.bl b)=>Q b ρ1
 | _=>False
def uD(h:LE K ta pe):LT K (tB ta) (pB pe):=λA ρ σ H Q Q' R q k=>h A ρ σ H _ _ R q λv H1 p ρ1 q1 f1 o1=>by
 split at q1
 .rename_i b;obtain⟨R1,f⟩:=o1;cases f;exact⟨b,rfl,k b H1 ρ1 q1 f1 R1⟩
 .exact q1.elim
def fJ(h:LE K ta pe):LT K (nG ta) (pB pe):=uD h
noncomputable def Dg(a b:PTT):PTT:=λρ Q=>a ρ λc ρ1=>fA c (b ρ1 Q) (Q false ρ1)
noncomputable def pOr(a b:PTT):PTT:=λρ Q=>a ρ λc ρ1=>fA c (Q true ρ1) (b ρ1 Q)
noncomputable def BC(a:PTT):PTT:=λρ Q=>a ρ λc ρ1=>Q (!c) ρ1
variable {tta ttb:TT}{pta ptb:PTT}
def jh(ha:LT K tta pta)(hb:LT K ttb ptb):LT K (Be tta ttb) (Dg pta ptb):=λA ρ σ H Q Q' R q k=>ha A ρ σ H _ _ R q λc H1 ρ1 q1 f1 R1=>by
 cases c with
 | true=>exact hb A ρ1 σ H1 _ _ R1 q1 λb H2 ρ2 q2 f2 R2=>k b H2 ρ2 q2 (f1.trans f2) R2
 | false=>exact k false H1 ρ1 q1 f1 R1
def sv(ha:LT K tta pta)(hb:LT K ttb ptb):LT K (tOr tta ttb) (pOr pta ptb):=λA ρ σ H Q Q' R q k=>ha A ρ σ H _ _ R q λc H1 ρ1 q1 f1 R1=>by
 cases c with
 | false=>exact hb A ρ1 σ H1 _ _ R1 q1 λb H2 ρ2 q2 f2 R2=>k b H2 ρ2 q2 (f1.trans f2) R2
 | true=>exact k true H1 ρ1 q1 f1 R1
def mI(ha:LT K tta pta):LT K (Ci tta) (BC pta):=λA ρ σ H Q Q' R q k=>ha A ρ σ H _ _ R q λc H1 ρ1 q1 f1 R1=>k _ H1 ρ1 q1 f1 R1
noncomputable def BD(a b:PTE):PTE:=λρ Q=>a ρ λp ρ1=>match p with
 | .dat (.bl c)=>fA c (b ρ1 Q) (Q (.dat (.bl false)) ρ1)
 | _=>False
noncomputable def BE(a:PTE):PTE:=λρ Q=>a ρ λp ρ1=>match p with
 | .dat (.bl c)=>Q (.dat (.bl (!c))) ρ1
 | _=>False
def zn(ha:LE K ta pe)(hb:LE K tb pe'):LE K (yv ta tb) (BD pe pe'):=λA ρ σ H Q Q' R q k=>ha A ρ σ H _ _ R q λv H1 p ρ1 q1 f1 o1=>by
 split at q1
 .rename_i c;obtain⟨R1,f⟩:=o1;cases f;refine⟨c,rfl,?_⟩
  cases c with
  | true=>exact hb A ρ1 σ H1 _ _ R1 q1 λb H2 p2 ρ2 q2 f2 o2=>k b H2 p2 ρ2 q2 (f1.trans f2) (o2.h0 λb z=>f1.dm b z)
  | false=>exact k _ H1 _ ρ1 q1 f1 ⟨R1,.bl false⟩
 .exact q1.elim
def zo(ha:LE K ta pe):LE K (yw ta) (BE pe):=λA ρ σ H Q Q' R q k=>ha A ρ σ H _ _ R q λv H1 p ρ1 q1 f1 o1=>by
 split at q1
 .rename_i c;obtain⟨R1,f⟩:=o1;cases f;exact⟨c,rfl,k _ H1 _ ρ1 q1 f1 ⟨R1,.bl (!c)⟩⟩
 .exact q1.elim
noncomputable def pIf(t:PTT)(a b:PTE):PTE:=λρ Q=>t ρ λc ρ1=>fA c (a ρ1 Q) (b ρ1 Q)
def BF(ht:LT K tta pta)(ha:LE K ta pe)(hb:LE K tb pe'):LE K (tIf tta ta tb) (pIf pta pe pe'):=λA ρ σ H Q Q' R q k=>ht A ρ σ H _ _ R q λc H1 ρ1 q1 f1 R1=>by
 cases c with
 | true=>exact ha A ρ1 σ H1 _ _ R1 q1 λb H2 p2 ρ2 q2 f2 o2=>k b H2 p2 ρ2 q2 (f1.trans f2) (o2.h0 λb z=>f1.dm b z)
 | false=>exact hb A ρ1 σ H1 _ _ R1 q1 λb H2 p2 ρ2 q2 f2 o2=>k b H2 p2 ρ2 q2 (f1.trans f2) (o2.h0 λb z=>f1.dm b z)
end
abbrev F2:=D->D->(PV->Prop)->Prop
noncomputable def fI0(g:Int->Int->D):F2
 | .int i,.int j,Q=>Q (.dat (g i j))
 | _,_,_=>False
noncomputable def fI(C:Int->Int->Prop)(g:Int->Int->D):F2
 | .int i,.int j,Q=>C i j/\Q (.dat (g i j))
 | _,_,_=>False
section
variable {K:a_}{X:Cx}
def uE{g:Int->Int->V}{g':Int->Int->D}(h:∀i j O H,FV K O H (g i j) (g' i j)):LO K (rI0 g) (fI0 g'):=by
 intro O H x y a b Q Q' dom fx fy q k;unfold fI0 at q
 split at q
 .rename_i i j;exact⟨i,j,fx.int,fy.int,k _ H _ q (Gr.refl _) (h i j _ _)⟩
 .exact q.elim
def zq{C:Int->Int->Prop}{g:Int->Int->V}{g':Int->Int->D}(h:∀i j O H,FV K O H (g i j) (g' i j)):LO K (rI C g) (fI C g'):=by
 intro O H x y a b Q Q' dom fx fy q k;unfold fI at q
 split at q
 .rename_i i j;exact⟨i,j,fx.int,fy.int,q.1,k _ H _ q.2 (Gr.refl _) (h i j _ _)⟩
 .exact q.elim
def ek{O:Addr->Prop}{H:Hp}{xs:List V}{ds:List D}{p:Addr}(hp:H p=none)(f:FVs K O H xs ds):nR K O H (upd H p (.lst xs)) (.own ds) (.ref p) :=
 ⟨p,xs,rfl,hp,aG,f.keeps (aQ.fresh hp)⟩
def ji{O:Addr->Prop}{H:Hp}{xs:List V}{ds:List D}{p:Addr}(dom:∀b,O b->H b≠none)(hp:H p=none)(f:FVs K O H xs ds):nR K O H (upd H p (.tup xs)) (.dat (.tup ds)) (.ref p) :=
 .tup (λz=>dom p z hp) aG (f.keeps λb o n e=>⟨n,by rw [ax (aD e hp)];exact e⟩)
noncomputable def BG:R2:=λx y H Q=>∃i j,x=.str (S i)/\y=.str (S j)/\i.length+j.length<=sizeLine/\Q (.str (S (i++j))) H
noncomputable def xc(K:a_):R2:=λx y H Q=>rI0 (λi j=>.int (i+j)) x y H Q\/BG x y H Q\/zh K x y H Q\/yQ K x y H Q
def BH(K:a_)(e:X.K=K):OpR X (binaryOp .Add) (xc K):=by
 subst e;exact OpR.or yG (OpR.or wN (OpR.or wU wD))
noncomputable def BI:F2
 | .int i,.int j,Q=>Q (.dat (.int (i+j)))
 | .str a,.str b,Q=>a.length+b.length<=1000000/\Q (.dat (.str (a++b)))
 | .lst a,.lst b,Q=>a.length+b.length<=1000000/\Q (.own (a++b))
 | .scr a,.lst b,Q=>a.length+b.length<=1000000/\Q (.own (a.map .int++b))
 | .tup a,.tup b,Q=>a≠[]/\a.length+b.length<=1000000/\Q (.dat (.tup (a++b)))
 | _,_,_=>False
def vz:LO K (xc K) BI:=by
 intro O H x y a b Q Q' dom fx fy q k;unfold BI at q
 split at q
 .rename_i i j;exact .inl ⟨i,j,fx.int,fy.int,k _ H _ q (Gr.refl _) (.int _)⟩
 .rename_i i j;exact .inr (.inl ⟨i,j,fx.str.1,fy.str.1,sz _ q.1,k _ H _ q.2 (Gr.refl _) (.str _ (by rw [length_append];exact q.1))⟩)
 .rename_i i j;obtain⟨a,xs,rfl,e1,f1⟩:=fx.lst;obtain⟨b,ys,rfl,e2,f2⟩:=fy.lst;exact .inr (.inr (.inl ⟨a,b,xs,ys,rfl,rfl,SqL.of e1,SqL.of e2,sz _ (by rw [f1.length,f2.length];exact q.1),λp hp=>k _ _ _ q.2 (Gr.new hp) (ek hp (f1.append f2))⟩))
 .rename_i i j;obtain⟨a,rfl,e1⟩:=fx.scr;obtain⟨b,ys,rfl,e2,f2⟩:=fy.lst;exact .inr (.inr (.inl ⟨a,b,_,ys,rfl,rfl,e1,SqL.of e2,sz _ (by rw [length_map,f2.length];exact q.1),λp hp=>k _ _ _ q.2 (Gr.new hp) (ek hp ((FVs.of_ints i).append f2))⟩))
 .rename_i i j;obtain⟨a,xs,rfl,n1,e1,f1⟩:=fx.tup;obtain⟨b,ys,rfl,n2,e2,f2⟩:=fy.tup;have l1:=f1.length;have l2:=f2.length
  refine .inr (.inr (.inr ⟨a,b,xs,ys,rfl,rfl,SqT.of e1,SqT.of e2,λz=>q.1 ?_,sz _ (by rw [l1,l2];exact q.2.1),λz=>?_,λ_ p hp=>k _ _ _ q.2.2 (Gr.new hp) (ji dom hp (f1.append f2))⟩))
  .exact Ec.mp (by rw [<- l1,z];rfl)
  .have:j=[]:=Ec.mp (by rw [<- l2,z];rfl);subst this;exact k _ H _ q.2.2 (Gr.refl _) (by rw [DQ];exact .tup n1 e1 f1)
 .exact q.elim
def jj:LO K (rI0 λi j=>.int (i - j)) (fI0 λi j=>.int (i - j)):=uE λ_ _ _ _=>.int _
def kx:LO K (rI (λ_ j=>0<j) λi j=>.int (i % j)) (fI (λ_ j=>0<j) λi j=>.int (i % j)):=zq λ_ _ _ _=>.int _
def sw:LO K (rI Bg λi j=>.int (i / j)) (fI (λ_ j=>0<j/\j<1073741824) λi j=>.int (i / j)):=zq λ_ _ _ _=>.int _
def zr:LO K (rI yF λi j=>.int (i^j.toNat)) (fI (λi j=>0<=j/\j<=1000000/\i.natAbs<2^64) λi j=>.int (i^j.toNat)):=zq λ_ _ _ _=>.int _
noncomputable def BJ:R2:=λx y H Q=>∃l n,x=.str (S l)/\y=.int n/\-1000000<=n/\n<=1000000/\n.toNat*l.length<=sizeLine/\Q (.str (S (uj l n))) H
noncomputable def zt:R2:=λx y H Q=>rI A3 (λi j=>.int (i*j)) x y H Q\/BJ x y H Q\/Cv x y H Q
def lh:OpR X (binaryOp .Mult) zt:=OpR.or yI (OpR.or qv yV)
noncomputable def Cz:F2
 | .int i,.int j,Q=>((-(2^64)<i/\i<2^64)\/(-(2^64)<j/\j<2^64))/\Q (.dat (.int (i*j)))
 | .str a,.int n,Q=>(-1000000<=n/\n<=1000000/\n.toNat*a.length<=1000000)/\Q (.dat (.str (uj a n)))
 | .lst a,.int n,Q=>(-1000000<=n/\n<=1000000/\a.length*n.toNat<=1000000)/\Q (.own (uj a n))
 | _,_,_=>False
theorem FVs.rep{O:Addr->Prop}{H:Hp}{xs:List V}{ds:List D}(f:FVs K O H xs ds):∀n,FVs K O H (u_ n xs).flatten (u_ n ds).flatten
 | 0=>.nil
 | n+1=>by rw [replicate_succ,replicate_succ,flatten_cons,flatten_cons];exact f.append (f.rep n)
def gw:LO K zt Cz:=by
 intro O H x y a b Q Q' dom fx fy q k;unfold Cz at q
 split at q
 .rename_i i j;exact .inl ⟨i,j,fx.int,fy.int,q.1,k _ H _ q.2 (Gr.refl _) (.int _)⟩
 .rename_i i j;exact .inr (.inl ⟨i,j,fx.str.1,fy.int,q.1.1,q.1.2.1,sz _ q.1.2.2,k _ H _ q.2 (Gr.refl _) (.str _ (by rw [nJ];exact q.1.2.2))⟩)
 .rename_i i j;obtain⟨a,xs,rfl,e1,f1⟩:=fx.lst;exact .inr (.inr ⟨a,j,xs,rfl,fy.int,e1,by omega,by omega,sz _ (by rw [f1.length];exact q.1.2.2),λp hp=>k _ _ _ q.2 (Gr.new hp) (ek hp (f1.rep _))⟩)
 .exact q.elim
noncomputable def CA:R2:=λx y H Q=>rI0 (λi j=>.bl (decide (i<j))) x y H Q\/∃i j,x=.str i/\y=.str j/\Q (.bl (decide (i.cps.toList<j.cps.toList))) H
noncomputable def A8:R2:=λx y H Q=>rI0 (λi j=>.bl (decide (i<=j))) x y H Q\/∃i j,x=.str i/\y=.str j/\Q (.bl (!decide (j.cps.toList<i.cps.toList))) H
def zu:OpR X (compareOp .Lt) CA:=OpR.or Bj rp
def A9:OpR X (compareOp .LtE) A8:=OpR.or Bk rQ
noncomputable def fLt:F2
 | .int i,.int j,Q=>Q (.dat (.bl (decide (i<j))))
 | .str i,.str j,Q=>Q (.dat (.bl (decide (i<j))))
 | _,_,_=>False
noncomputable def fLe:F2
 | .int i,.int j,Q=>Q (.dat (.bl (decide (i<=j))))
 | .str i,.str j,Q=>Q (.dat (.bl (!decide (j<i))))
 | _,_,_=>False
def sx:LO K CA fLt:=by
 intro O H x y a b Q Q' dom fx fy q k;unfold fLt at q
 split at q
 .rename_i i j;exact .inl ⟨i,j,fx.int,fy.int,k _ H _ q (Gr.refl _) (.bl _)⟩
 .rename_i i j;exact .inr ⟨_,_,fx.str.1,fy.str.1,k _ H _ q (Gr.refl _) (.bl _)⟩
 .exact q.elim
def uF:LO K A8 fLe:=by
 intro O H x y a b Q Q' dom fx fy q k;unfold fLe at q
 split at q
 .rename_i i j;exact .inl ⟨i,j,fx.int,fy.int,k _ H _ q (Gr.refl _) (.bl _)⟩
 .rename_i i j;exact .inr ⟨_,_,fx.str.1,fy.str.1,k _ H _ q (Gr.refl _) (.bl _)⟩
 .exact q.elim
def lj:LO K (rI0 λi j=>.bl (decide (j<i))) (fI0 λi j=>.bl (decide (j<i))):=uE λ_ _ _ _=>.bl _
def zw:LO K (rI0 λi j=>.bl (decide (j<=i))) (fI0 λi j=>.bl (decide (j<=i))):=uE λ_ _ _ _=>.bl _
mutual
noncomputable def D.py:D->Gj
 | .non=>.none|.bl b=>.bool b|.int i=>.int i|.str l=>.str (S l)|.ty _=>.none
 | .lst ds=>.list (D.pys ds)|.tup ds=>.tuple (D.pys ds)|.scr ns=>.list (ns.map .int)|.dic _ _=>.none|.obj _ _ _=>.none|.exc _ _ _=>.none
noncomputable def D.pys:List D->List Gj
 | []=>[]
 | d::r=>d.py::D.pys r
end
mutual
noncomputable def D.plain:D->Bool
 | .non=>true|.bl _=>true|.int _=>true|.str _=>true|.ty _=>false
 | .lst ds=>D.plains ds|.tup ds=>D.plains ds|.scr _=>true|.dic _ _=>false|.obj _ _ _=>false|.exc _ _ _=>false
noncomputable def D.plains:List D->Bool
 | []=>true
 | d::r=>d.plain && D.plains r
end
mutual
theorem FV.dv{O:Addr->Prop}{H:Hp}:∀{v:V}{d:D},FV K O H v d->d.plain=true->DV K H v d.py
 | _,_,.non,_=>.non
 | _,_,.bl b,_=>.bl b
 | _,_,.int i,_=>.int i
 | _,_,.str l h,_=>.str (S l)
 | _,_,.ty n,p=>nomatch p
 | _,_,.scr s,_=>.lst s.sq (DVs.ints _)
 | _,_,.lst n e f,p=>.lst (SqL.of e) (FVs.dvs f p)
 | _,_,.tup n e f,p=>.tup (SqT.of e) (FVs.dvs f p)
 | _,_,.dic _ _ _ _,p=>nomatch p
 | _,_,.obj _ _ _ _,p=>nomatch p
 | _,_,.exc0 _ _,p=>nomatch p
 | _,_,.exc1 _ _ _ _ _ _,p=>nomatch p
theorem FVs.dvs{O:Addr->Prop}{H:Hp}:∀{vs:List V}{ds:List D},FVs K O H vs ds->D.plains ds=true->DVs K H vs (D.pys ds)
 | _,_,.nil,_=>.nil
 | _,_,.cons a b,p=>by
  have p:(_ && _)=true:=p;rw [and_eq_true] at p;exact .cons (FV.dv a p.1) (FVs.dvs b p.2)
end
def FVc.dv{O:Addr->Prop}{H:Hp}{v:V}{d:D}(h:FVc K O H v d)(p:d.plain=true):DV K H v d.py:=by
 rcases h with h|⟨a,xs,ds',rfl,rfl,e3,f⟩|⟨a,dx,c,fs,ns,ds',e1,rfl,_⟩
 .exact h.dv p
 .exact .lst (SqL.of e3) (f.dvs p)
 .cases p
noncomputable def zx(K:a_)(neg:Bool):R2:=λx y H Q=>rI0 (λi j=>.bl (if neg then !decide (i=j) else decide (i=j))) x y H Q\/(∃i j,x=.str (S i)/\y=.str (S j)/\Q (.bl (if neg then !decide (i=j) else decide (i=j))) H)\/Bq K neg x y H Q
def Dh(K:a_)(e:X.K=K)(hu:X.A.units+64<cLine):OpR X (compareOp .Eq) (zx K false):=by
 subst e;exact OpR.or zc (OpR.or za (y6 hu))
def Di(K:a_)(e:X.K=K)(hu:X.A.units+64<cLine):OpR X (compareOp .NotEq) (zx K true):=by
 subst e;exact OpR.or zd (OpR.or zb (y8 hu))
noncomputable def CB(a b:D):Prop:=a.plain=true/\b.plain=true/\Gk a.py=true/\Gk b.py=true
noncomputable def deq(a b:D):Bool:=PyData.eqv a.py b.py
noncomputable def fEq:F2
 | .int i,.int j,Q=>Q (.dat (.bl (decide (i=j))))
 | .str i,.str j,Q=>Q (.dat (.bl (decide (i=j))))
 | a,b,Q=>CB a b/\Q (.dat (.bl (deq a b)))
noncomputable def fNe:F2
 | .int i,.int j,Q=>Q (.dat (.bl (!decide (i=j))))
 | .str i,.str j,Q=>Q (.dat (.bl (!decide (i=j))))
 | a,b,Q=>CB a b/\Q (.dat (.bl (!deq a b)))
def BK:LO K (zx K false) fEq:=by
 intro O H x y a b Q Q' dom fx fy q k;unfold fEq at q
 split at q
 .rename_i i j;exact .inl ⟨i,j,fx.int,fy.int,k _ H _ q (Gr.refl _) (.bl _)⟩
 .rename_i i j;exact .inr (.inl ⟨i,j,fx.str.1,fy.str.1,k _ H _ q (Gr.refl _) (.bl _)⟩)
 .exact .inr (.inr ⟨_,_,fx.dv q.1.1,fy.dv q.1.2.1,q.1.2.2.1,q.1.2.2.2,k _ H _ q.2 (Gr.refl _) (.bl _)⟩)
def BL:LO K (zx K true) fNe:=by
 intro O H x y a b Q Q' dom fx fy q k;unfold fNe at q
 split at q
 .rename_i i j;exact .inl ⟨i,j,fx.int,fy.int,k _ H _ q (Gr.refl _) (.bl _)⟩
 .rename_i i j;exact .inr (.inl ⟨i,j,fx.str.1,fy.str.1,k _ H _ q (Gr.refl _) (.bl _)⟩)
 .exact .inr (.inr ⟨_,_,fx.dv q.1.1,fy.dv q.1.2.1,q.1.2.2.1,q.1.2.2.2,k _ H _ q.2 (Gr.refl _) (.bl _)⟩)
noncomputable def D.fl:D->Bool
 | .non=>true|.bl _=>true|.int _=>true|.str _=>true
 | _=>false
noncomputable def eqF:D->D->Bool
 | .non,.non=>true
 | .bl a,.bl b=>a == b
 | .bl a,.int b=>(if a then 1 else 0) == b
 | .int a,.bl b=>a == (if b then 1 else 0)
 | .int a,.int b=>a == b
 | .str a,.str b=>a == b
 | _,_=>false
noncomputable def inD(x:D)(xs:List D):Bool:=xs.any λy=>eqF y x
def FV.fl{O:Addr->Prop}{H:Hp}{v:V}{d:D}(h:FV K O H v d)(f:d.fl=true):j7 v=true:=by cases h <;> first|rfl|cases f
def zy(a b:List Nat):(S a == S b)=(a == b):=by
 by_cases h:a=b
 .subst h;rw [beq_self_eq_true,beq_self_eq_true]
 .rw [beq_eq_false_iff_ne.mpr h,beq_eq_false_iff_ne.mpr (Db h)]
def FV.eqF{O:Addr->Prop}{H:Hp}{v w:V}{d e:D}(h:FV K O H v d)(f:d.fl=true)(h':FV K O H w e)(f':e.fl=true):eqV v w=L2.eqF d e:=by
 cases h <;> first|(cases f;done)|(cases h' <;> first|(cases f';done)|rfl|exact zy _ _)
theorem FVs.inD{O:Addr->Prop}{H:Hp}{v:V}{d:D}(h:FV K O H v d)(f:d.fl=true):∀{xs:List V}{ds:List D},FVs K O H xs ds->ds.all D.fl=true->xs.all j7=true/\inV v xs=L2.inD d ds
 | _,_,.nil,_=>⟨rfl,rfl⟩
 | _,_,.cons a b,g=>by
  rw [all_cons,and_eq_true] at g;obtain⟨i1,i2⟩:=b.inD h f g.2;refine⟨by rw [all_cons,a.fl g.1,i1];rfl,?_⟩;unfold inV L2.inD at i2 ⊢;rw [any_cons,any_cons,i2,a.eqF g.1 h f]
noncomputable def fIn(neg:Bool):F2
 | a,.lst ds,Q=>(a.fl=true/\ds.all D.fl=true)/\Q (.dat (.bl (if neg then !inD a ds else inD a ds)))
 | a,.tup ds,Q=>(a.fl=true/\ds.all D.fl=true)/\Q (.dat (.bl (if neg then !inD a ds else inD a ds)))
 | _,_,_=>False
def FVc.fl{O:Addr->Prop}{H:Hp}{v:V}{d:D}(h:FVc K O H v d)(f:d.fl=true):FV K O H v d:=h.fv (λ_ z=>by rw [z] at f;cases f) (λ_ _ _ z=>by rw [z] at f;cases f)
def Dj(K:a_)(e:X.K=K):OpR X (compareOp .In) (rIn K false):=by subst e;exact rE
def xf(K:a_)(e:X.K=K):OpR X (compareOp .NotIn) (rIn K true):=by subst e;exact mh
def zA{neg:Bool}:LO K (rIn K neg) (fIn neg):=by
 intro O H x y a b Q Q' dom fx fy q k;unfold fIn at q
 split at q
 .obtain⟨p,xs,rfl,e1,f1⟩:=fy.lst;obtain⟨g1,g2⟩:=f1.inD (fx.fl q.1.1) q.1.1 q.1.2;exact⟨p,xs,rfl,.inl (SqL.of e1),(fx.fl q.1.1).fl q.1.1,g1,by rw [g2];exact k _ H _ q.2 (Gr.refl _) (.bl _)⟩
 .obtain⟨p,xs,rfl,n1,e1,f1⟩:=fy.tup;obtain⟨g1,g2⟩:=f1.inD (fx.fl q.1.1) q.1.1 q.1.2;exact⟨p,xs,rfl,.inr (SqT.of e1),(fx.fl q.1.1).fl q.1.1,g1,by rw [g2];exact k _ H _ q.2 (Gr.refl _) (.bl _)⟩
 .exact q.elim
noncomputable def qA(K:a_):R2:=λx y H Q=>Cs K x y H Q\/Ct K x y H Q\/y9 x y H Q
def gT(K:a_)(e:X.K=K):IxR X (qA K):=by
 subst e;exact IxR.or wH (IxR.or yR wM)
noncomputable def fIx:F2
 | .lst ds,.int i,Q=>∃d,atI ds i=some d/\Q (.dat d)
 | .tup ds,.int i,Q=>∃d,atI ds i=some d/\Q (.dat d)
 | .scr ns,.int i,Q=>∃d,atI ns i=some d/\Q (.dat (.int d))
 | .str l,.int i,Q=>∃c,atI l i=some c/\Q (.dat (.str [c]))
 | _,_,_=>False
def FVs.atI{O:Addr->Prop}{H:Hp}{vs:List V}{ds:List D}{i:Int}{d:D}(f:FVs K O H vs ds)(h:L2.atI ds i=some d):∃v,L2.atI vs i=some v/\FV K O H v d:=by
 unfold L2.atI at h ⊢;rw [f.length]
 cases e:ixN ds.length i with
 | none=>rw [e] at h;cases h
 | some j=>rw [e] at h;exact f.getD h
def cm:LO K (qA K) fIx:=by
 intro O H x y a b Q Q' dom fx fy q k;unfold fIx at q
 split at q
 .obtain⟨d,hd,q⟩:=q;obtain⟨p,xs,rfl,e1,f1⟩:=fx.lst;obtain⟨v,hv,fv⟩:=f1.atI hd;exact .inl ⟨p,xs,_,v,rfl,fy.int,SqL.of e1,hv,k _ H _ q (Gr.refl _) fv⟩
 .obtain⟨d,hd,q⟩:=q;obtain⟨p,xs,rfl,n1,e1,f1⟩:=fx.tup;obtain⟨v,hv,fv⟩:=f1.atI hd;exact .inr (.inl ⟨p,xs,_,v,rfl,fy.int,SqT.of e1,hv,k _ H _ q (Gr.refl _) fv⟩)
 .obtain⟨d,hd,q⟩:=q;obtain⟨p,rfl,e1⟩:=fx.scr;exact .inl ⟨p,_,_,_,rfl,fy.int,e1,wO hd,k _ H _ q (Gr.refl _) (.int d)⟩
 .obtain⟨c,hc,q⟩:=q;exact .inr (.inr ⟨_,_,c,fx.str.1,fy.int,sz _ fx.str.2,hc,k _ H _ q (Gr.refl _) (.str _ (by show 1<=1000000;decide))⟩)
 .exact q.elim
end
end L2
namespace L2
open PySem PySem.Spec PyProof.Rows _root_.HT
section
variable {prog:n_}{w:World}{A:t_}{E:Value->cx->Prop}{s:cx}
def gU{t sl:Addr}{items:Array Value}{vl vu:Value}{lo hi:Option Int}{Q:Value->cx->Prop}(ht:IsTup s.heap t items)(hs:s.heap.IsSliceOf sl vl vu .none)(pl:Gh vl lo)(pu:Gh vu hi)
  (hw:sIx items.size 0 lo=0/\sIx items.size items.size hi=items.size)
  (h:Q (.ref t) s):wpAny (model prog w) A (getItem (.ref t) (.ref sl)) Q E s:=by
 obtain⟨os,hos,hcs,hds⟩:=id hs;have hTs:s.TypeIs (.ref sl) "slice":=⟨os,hos,hcs⟩
 unfold getItem
 try with_reducible refine DU ?_
 first|refine b_ (e_ ?_)|skip
 refine b_ (wpAny_sequenceKey ht.typeIs (by decide) ?_)
 refine b_ (DE (name:=DY "__getitem__") ht.typeIs Dx
  (D_ Dx ht.typeIs entry_tuple_getitem ?_ (args_tuple_getitem _ _)))
 show wpAny _ _ (FI (.ref t) >>= _) _ _ s;refine b_ (tupleItemsOf_ ht ?_);refine b_ (wpAny_typeOf hTs ?_);rw [if_pos (by decide)];refine b_ (eI hs pl pu ?_)
 have hyes:(((sIx items.size 0 lo:Nat):Int) == 0 && (1:Int) == 1 && (sIx items.size items.size hi - sIx items.size 0 lo) == items.size)=true:=by
  rw [hw.1,hw.2,Fx];simp
 show wpAny _ _ (if (((sIx items.size 0 lo:Nat):Int) == 0 && (1:Int) == 1 && (sIx items.size items.size hi - sIx items.size 0 lo) == items.size)=true then _ else _) _ _ s;rw [if_pos hyes];refine b_ (m:=Builtin.Tuple.tupleIsExact _) (b_ (wpAny_typeOf ht.typeIs (e_ ?_)));rw [if_pos (by decide)]
 first
  | exact b_ (m:=rule _) (e_ (e_ ⟨_,rfl,e_ h⟩))
  | exact e_ ⟨_,rfl,e_ h⟩
  | exact b_ (wpAny_rule (e_ ⟨_,rfl,e_ h⟩))
noncomputable def zB(K:a_):V->Option Int->Option Int->Hp->VK->Prop:=λx lo hi H Q=>∃a xs,x=.ref a/\SqT K H a xs/\(sIx xs.length 0 lo=0/\sIx xs.length xs.length hi=xs.length)/\Q (.ref a) H
def xg{X:Cx}:SlR X (zB X.K):=by
 intro pins s σ H x v vl vu lo hi sl Q I rx hs pl pu h;obtain⟨a,xs,rfl,hx,hw,q⟩:=h;cases rx;obtain⟨its,r,ht,hz⟩:=I.tuple hx;have hlen:its.toArray.size=xs.length:=by rw [p_];exact r.length.symm
 refine⟨"tuple",_,Dx.lookup,ht.typeIs,?_⟩;exact gU ht hs pl pu (by rw [hlen];exact hw) ⟨.ref a,H,I,rfl,q⟩
end
end L2
namespace L2
open PySem PySem.Spec PyProof.Rows
section
variable {K:a_}{X:Cx}{ta tb tc to:TE}{pa pb pc:PA1}{pe:PTE}{tr:TA}{pr:PTA}
noncomputable def sy(f f':F2)(pa pb pc:PA1):PTE:=λρ Q=>pa ρ λx ρ1=>pb ρ1 λy ρ2=>op2 f ρ2 x y λp ρ3=>match p with
 | .dat (.bl k)=>fA k (pc ρ3 λz ρ4=>op2 f' ρ4 y z Q) (Q (.dat (.bl false)) ρ3)
 | _=>False
def pS{r r':R2}{f f':F2}(o:LO K r f)(o':LO K r' f')(ha:LA1 K ta pa)(hb:LA1 K tb pb)(hc:LA1 K tc pc):LE K (pJ r r' ta tb tc) (sy f f' pa pb pc):=λA ρ σ H Q Q' R q k =>
 ha A ρ σ H _ _ R q λv H1 a ρ1 q1 f1 R1 o1=>hb A ρ1 σ H1 _ _ R1 q1 λw H2 b ρ2 q2 f2 R2 o2=>by
  unfold op2 at q2
  split at q2
  .rename_i da db e1 e2;refine o _ H2 v w da db _ _ R2.dom2 (R2.cont (o1.keeps f2.keeps) e1) (R2.cont o2 e2) q2 λz H3 p q3 g ov=>?_;dsimp only at q3
   split at q3
   .rename_i c;cases ov;refine⟨c,rfl,?_⟩;have R3:=R2.gr g
    cases c with
    | true =>
     refine hc A ρ2 σ H3 _ _ R3 q3 λu H4 cc ρ4 q4 f4 R4 o4=>?_
     try unfold op2 at q4
     split at q4
     .rename_i dc dd e3 e4;have o2':AOk K (OO A ρ4 σ) σ H4 b w:=(o2.keeps (g.fr (ρ:=ρ2) (σ:=σ)).keeps).keeps f4.keeps;exact o' _ H4 w u _ _ _ _ R4.dom2 (R4.cont o2' e3) (R4.cont o4 e4) q4 λz H5 p q5 g5 ov=>k z H5 p ρ4 q5 ((((f1.trans f2).trans g.fr).trans f4).trans g5.fr) ((ov.out R4 g5).h0 λb z=>f4.dm b ((g.fr (ρ:=ρ2) (σ:=σ)).dm b (f2.dm b (f1.dm b z))))
     .exact q4.elim
    | false=>exact k _ H3 _ ρ2 q3 ((f1.trans f2).trans g.fr) ⟨R3,.bl false⟩
   .exact q3.elim
  .exact q2.elim
abbrev PTO:=PSt->(Option Int->PSt->Prop)->Prop
noncomputable def LPo(K:a_)(t:TO)(p:PTO):Prop:=∀(A:Addr->Prop) (ρ:PSt) (σ:St) (H:Hp) (Q:Option Int->PSt->Prop) (Q':Option Int->Hp->Prop),Rel K A ρ σ H->p ρ Q ->
 (∀b H' ρ',Q b ρ'->Fr ρ σ H ρ' H'->Rel K A ρ' σ H'->Q' b H')->t σ H Q'
def zC:PTO:=λρ Q=>Q none ρ
noncomputable def zD(pe:PTE):PTO:=λρ Q=>pe ρ λp ρ1=>match p with
 | .dat (.int i)=>Q (some i) ρ1
 | _=>False
def bJ:LPo K gO zC:=λA ρ σ H Q Q' R q k=>k none H ρ q (Fr.refl _ _ _) R
def be(h:LE K ta pe):LPo K (qu ta) (zD pe):=λA ρ σ H Q Q' R q k=>h A ρ σ H _ _ R q λv H1 p ρ1 q1 f1 o1=>by
 split at q1
 .rename_i i;obtain⟨R1,f⟩:=o1;cases f;exact⟨i,rfl,k _ H1 ρ1 q1 f1 R1⟩
 .exact q1.elim
noncomputable def xh(K:a_):V->Option Int->Option Int->Hp->VK->Prop:=λx lo hi H Q=>Cu K x lo hi H Q\/Cw x lo hi H Q\/Cr K x lo hi H Q\/zB K x lo hi H Q
def nS(K:a_)(e:X.K=K):SlR X (xh K):=by
 subst e;exact SlR.or wI (SlR.or y0 (SlR.or yP xg))
noncomputable def fSl:D->Option Int->Option Int->(PV->Prop)->Prop
 | .lst ds,lo,hi,Q=>Q (.own (cA ds lo hi))
 | .scr ns,lo,hi,Q=>Q (.own ((cA ns lo hi).map .int))
 | .str l,lo,hi,Q=>Q (.dat (.str (cA l lo hi)))
 | .tup ds,lo,hi,Q=>Q (.dat (.tup (cA ds lo hi)))
 | _,_,_,_=>False
def FVs.cut{O:Addr->Prop}{H:Hp}{xs:List V}{ds:List D}(f:FVs K O H xs ds)(lo hi:Option Int):FVs K O H (cA xs lo hi) (cA ds lo hi):=by
 unfold cA;rw [f.length];exact (f.drop _).take _
noncomputable def zE(pa:PA1)(pl ph:PTO):PTE:=λρ Q=>pa ρ λx ρ1=>pl ρ1 λlo ρ2=>ph ρ2 λhi ρ3=>match cont ρ3 x with
 | some d=>fSl d lo hi λp=>Q p ρ3
 | _=>False
def xi{α:Type}{ds:List α}{lo hi:Option Int}{n:Nat}(h:n=ds.length)(hw:HT.sIx n 0 lo=0/\HT.sIx n n hi=n):cA ds lo hi=ds:=by
 subst h;unfold cA;rw [hw.1,hw.2,drop_zero,Fx,take_length]
def lsl{O:Addr->Prop}{H:Hp}{x:V}{d:D}{lo hi:Option Int}{Q:PV->Prop}{Q':VK}(dom:∀b,O b->H b≠none)(fx:FVc K O H x d)(q:fSl d lo hi Q)(k:∀v H' p,Q p->Gr H H'->nR K O H H' p v->Q' v H'):xh K x lo hi H Q':=by
 unfold fSl at q
 split at q
 .obtain⟨a,xs,rfl,e1,f1⟩:=fx.lst;exact .inl ⟨a,xs,rfl,SqL.of e1,λp hp=>k _ _ _ q (Gr.new hp) (ek hp (f1.cut _ _))⟩
 .obtain⟨a,rfl,e1⟩:=fx.scr;exact .inl ⟨a,_,rfl,e1,λp hp=>k _ _ _ q (Gr.new hp) (ek hp (by rw [rN,ul];exact FVs.of_ints _))⟩
 .exact .inr (.inl ⟨_,fx.str.1,sz _ fx.str.2,k _ H _ q (Gr.refl _) (.str _ (r_ (dD _ _ _) fx.str.2))⟩)
 .obtain⟨a,xs,rfl,n1,e1,f1⟩:=fx.tup
  by_cases hw:HT.sIx xs.length 0 lo=0/\HT.sIx xs.length xs.length hi=xs.length
  .refine .inr (.inr (.inr ⟨a,xs,rfl,SqT.of e1,hw,k _ H _ q (Gr.refl _) ?_⟩));rw [xi f1.length hw];exact .tup n1 e1 f1
  .exact .inr (.inr (.inl ⟨a,xs,rfl,SqT.of e1,hw,λp hp=>k _ _ _ q (Gr.new hp) (ji dom hp (f1.cut _ _))⟩))
 .exact q.elim
def bq{tl th:TO}{pl ph:PTO}(ha:LA1 K ta pa)(hl:LPo K tl pl)(hh:LPo K th ph):LE K (tSl (xh K) ta tl th) (zE pa pl ph):=λA ρ σ H Q Q' R q k =>
 ha A ρ σ H _ _ R q λv H1 a ρ1 q1 f1 R1 o1=>hl A ρ1 σ H1 _ _ R1 q1 λlo H2 ρ2 q2 f2 R2=>hh A ρ2 σ H2 _ _ R2 q2 λhi H3 ρ3 q3 f3 R3=>by
  split at q3
  .rename_i d e1;exact lsl R3.dom2 (R3.cont (o1.keeps (f2.trans f3).keeps) e1) q3 λz H4 p q4 g ov=>k z H4 p ρ3 q4 (((f1.trans f2).trans f3).trans g.fr) ((ov.out R3 g).h0 λb z=>f3.dm b (f2.dm b (f1.dm b z)))
  .exact q3.elim
abbrev FN:=List D->(PV->Prop)->Prop
noncomputable def jk(K:a_):List V->Hp->VK->Prop:=λxs H Q=>(∃l,xs=[.str (S l)]/\l.length<=sizeLine/\Q (.int l.length) H)\/Bw K xs H Q\/Bx K xs H Q\/∃p kvs,xs=[.ref p]/\Rd H p (.dK kvs)/\Q (.int kvs.length) H
def bD(K:a_)(e:X.K=K):bx X (.builtin "len") (jk K):=by
 subst e;exact bx.or rT (bx.or rV (bx.or rW sh))
noncomputable def yh:FN
 | [.str l],Q=>Q (.dat (.int l.length))
 | [.lst l],Q=>Q (.dat (.int l.length))
 | [.tup l],Q=>Q (.dat (.int l.length))
 | [.scr l],Q=>Q (.dat (.int l.length))
 | [.dic ks _],Q=>Q (.dat (.int ks.length))
 | _,_=>False
def aT:LC K (jk K) yh:=by
 intro O H xs as Q Q' dom fs q k;unfold yh at q
 split at q
 .cases fs with|cons a b=>cases b;rw [a.str.1];exact .inl ⟨_,rfl,sz _ a.str.2,k _ H _ q (Gr.refl _) (.int _)⟩
 .cases fs with
  | cons a b =>
   cases b;obtain⟨p,ys,rfl,e1,f1⟩:=a.lst;exact .inr (.inl ⟨p,ys,rfl,SqL.of e1,by rw [f1.length];exact k _ H _ q (Gr.refl _) (.int _)⟩)
 .cases fs with
  | cons a b =>
   cases b;obtain⟨p,ys,rfl,n1,e1,f1⟩:=a.tup;exact .inr (.inr (.inl ⟨p,ys,rfl,SqT.of e1,by rw [f1.length];exact k _ H _ q (Gr.refl _) (.int _)⟩))
 .cases fs with
  | cons a b =>
   cases b;obtain⟨p,rfl,e1⟩:=a.scr;exact .inr (.inl ⟨p,_,rfl,e1,by rw [length_map];exact k _ H _ q (Gr.refl _) (.int _)⟩)
 .cases fs with
  | cons a b =>
   cases b
   cases a.fv nofun nofun with
   | dic n e m f=>subst m;exact .inr (.inr (.inr ⟨_,_,rfl,.inl e,k _ H _ q (Gr.refl _) (by rw [length_map];exact .int _)⟩))
 .exact q.elim
inductive Kd where
 | int|bool|str|list|tuple|dict
noncomputable def Kd.nm:Kd->String
 | .int=>"int"|.bool=>"bool"|.str=>"str"|.list=>"list"|.tuple=>"tuple"|.dict=>"dict"
noncomputable def isK:Kd->D->Bool
 | .int,.int _=>true
 | .int,.bl _=>true
 | .bool,.bl _=>true
 | .str,.str _=>true
 | .list,.lst _=>true
 | .tuple,.tup _=>true
 | .dict,.dic _ _=>true
 | _,_=>false
noncomputable def D.sort:D->Bool
 | .obj _ _ _=>false
 | .exc _ _ _=>false
 | .scr _=>false
 | .ty _=>false
 | _=>true
def FVc.ty{O:Addr->Prop}{H:Hp}{v:V}{d:D}(h:FVc K O H v d)(s:d.sort=true):∃t,nH K H v t/\∀k:Kd,FE K t (.type k.nm)=some (isK k d):=by
 rcases h with h|⟨a,xs,ds',rfl,rfl,e3,f⟩|⟨a,dx,c,fs,ns,ds',rfl,rfl,_⟩
 .cases h with
  | non=>exact⟨_,.non,λk=>by cases k <;> rfl⟩
  | bl b=>exact⟨_,.bl b,λk=>by cases k <;> rfl⟩
  | int i=>exact⟨_,.int i,λk=>by cases k <;> rfl⟩
  | str l h=>exact⟨_,.str _,λk=>by cases k <;> rfl⟩
  | ty n=>cases s
  | scr _=>cases s
  | lst n e f=>exact⟨_,.lst e,λk=>by cases k <;> rfl⟩
  | tup n e f=>exact⟨_,.tup e,λk=>by cases k <;> rfl⟩
  | dic n e m f=>exact⟨_,.dK e,λk=>by cases k <;> rfl⟩
  | obj _ _ _ _=>cases s
  | exc0 _ _=>cases s
  | exc1 _ _ _ _ _ _=>cases s
 .exact⟨_,.lst e3,λk=>by cases k <;> rfl⟩
 .cases s
def xj(K:a_)(e:X.K=K):bx X (.builtin "isinstance") (Cy K):=by subst e;exact nK
noncomputable def CC(k:Kd)(pa:PA1):PTE:=λρ Q=>pa ρ λx ρ1=>match cont ρ1 x with
 | some d=>fA d.sort (Q (.dat (.bl (isK k d))) ρ1) False
 | _=>False
def sA(k:Kd)(ha:LA1 K ta pa):LE K (tCB (Cy K) (aU ta (aU (tC (.ty k.nm)) dZ))) (CC k pa):=λA ρ σ H Q Q' R q kk =>
 ha A ρ σ H _ _ R q λv H1 a ρ1 q1 f1 R1 o1=>by
  split at q1
  .rename_i d e1
   cases hs:d.sort with
   | false=>rw [hs] at q1;exact q1.elim
   | true =>
    rw [hs] at q1;obtain⟨t,ty,hk⟩:=(R1.cont o1 e1).ty hs;exact⟨v,k.nm,t,isK k d,rfl,ty,hk k,kk _ H1 _ ρ1 q1 f1 ⟨R1,.bl _⟩⟩
  .exact q1.elim
end
structure zF where
 nx:PSt->Prop
 rt:PV->PSt->Prop
 bk:PSt->Prop:=λ_=>False
 ct:PSt->Prop:=λ_=>False
abbrev PTS:=zF->PSt->Prop
structure eQ (fx:List (Nat×V)) (R:Addr->Prop) (H0:Hp) (ρ:PSt) (σ:St) (H:Hp):Prop where
 kp:∀b o,¬ R b->H0 b=some o->H b=some o
 dm:∀b,H0 b≠none->H b≠none
 ow:∀b,Wr ρ σ b->R b\/H0 b=none
 fx:∀p∈fx,σ[p.1]?=some (some p.2)
section
variable {K:a_}{fx:List (Nat×V)}{A R:Addr->Prop}{H0 H H':Hp}{ρ ρ':PSt}{σ:St}
def eQ.fr(F:eQ fx R H0 ρ σ H)(f:Fr ρ σ H ρ' H'):eQ fx R H0 ρ' σ H' :=
 ⟨λb o n e=>f.kp b o (λw=>(F.ow b w).elim n (λz=>by rw [z] at e;cases e)) (F.kp b o n e),λb z=>f.dm b (F.dm b z),λb w=>F.ow b (f.ow b w),F.fx⟩
def eQ.start(hfx:∀p∈fx,σ[p.1]?=some (some p.2)):eQ fx (Wr ρ σ) H ρ σ H:=⟨λ_ _ _ h=>h,λ_ h=>h,λ_ h=>.inl h,hfx⟩
def eQ.keepsR{ρ1:PSt}{σ1:St}{H1:Hp}(F:eQ fx R H1 ρ σ H)(hR:∀b,R b->OO A ρ1 σ1 b):aQ (OO A ρ1 σ1) H1 (OO A ρ σ) H:=λb o n e=>by
 refine⟨λz=>?_,F.kp b o (λz=>n (hR b z)) e⟩
 rcases z with z|z
 .exact n (.inl z)
 .rcases F.ow b z with z|z
  .exact n (hR b z)
  .rw [z] at e;cases e
def eQ.keeps{ρ1:PSt}{σ1:St}{H1:Hp}(F:eQ fx (Wr ρ1 σ1) H1 ρ σ H):aQ (OO A ρ1 σ1) H1 (OO A ρ σ) H:=F.keepsR λb z=>.inr z
def eQ.trans{fx':List (Nat×V)}{ρ1:PSt}{σ1:St}{H1:Hp}(F:eQ fx R H0 ρ1 σ1 H1)(G:eQ fx' (Wr ρ1 σ1) H1 ρ σ H)(hfx:∀p∈fx,σ[p.1]?=some (some p.2)):eQ fx R H0 ρ σ H:=by
 refine⟨λb o n e=>G.kp b o (λw=>(F.ow b w).elim n (λz=>by rw [z] at e;cases e)) (F.kp b o n e),λb z=>G.dm b (F.dm b z),λb w=>?_,hfx⟩
 rcases G.ow b w with z|z
 .exact F.ow b z
 .refine .inr ?_
  cases e:H0 b with
  | none=>rfl
  | some o=>exact absurd z (F.dm b (by rw [e];exact nofun))
def Out.put{p:PV}{v:V}{i:Nat}(h:Out K A ρ σ H0 H p v):Rel K A (ρ.set i (some p)) (σ.set i (some v)) H/\∀b,Wr (ρ.set i (some p)) (σ.set i (some v)) b->Wr ρ σ b\/H0 b=none:=by
 have get:∀(j:Nat) (q:PV),(ρ.set i (some p))[j]?=some (some q)->(j=i/\q=p/\i<ρ.length)\/(j≠i/\ρ[j]?=some (some q)):=λj q e=>by
  by_cases z:i=j
  .subst z
   by_cases hi:i<ρ.length
   .rw [pj hi] at e;cases e;exact .inl ⟨rfl,rfl,hi⟩
   .rw [y_ (by rw [Ee];omega)] at e;cases e
  .rw [m_ z] at e;exact .inr ⟨λq=>z q.symm,e⟩
 cases p with
 | dat d =>
  obtain⟨R1,f⟩:=h
  have ow:∀b,Wr (ρ.set i (some (.dat d))) (σ.set i (some v)) b->Wr ρ σ b:=λb ⟨j,r,e1,o1,s1⟩=>by
   rcases get j r e1 with ⟨_,rfl,_⟩|⟨n,e⟩
   .cases o1
   .rw [m_ (λz=>n z.symm)] at s1;exact⟨j,r,e,o1,s1⟩
  have k:aQ (OO A ρ σ) H (OO A (ρ.set i (some (.dat d))) (σ.set i (some v))) H:=aQ.less λb z=>z.imp id (ow b)
  refine⟨⟨by rw [Ee,Ee];exact R1.len,λj r e1=>?_,λj l p1 q1 v' e1 e2 o1 o2 s1 s2=>?_,R1.dom,λb z w=>R1.sep b z (ow b w)⟩,λb w=>.inl (ow b w)⟩
  .rcases get j r e1 with ⟨rfl,rfl,hi⟩|⟨n,e⟩
   .exact⟨v,pj (by rw [<- R1.len];exact hi),f.keeps k⟩
   .obtain⟨u,s,r'⟩:=R1.get j r e;exact⟨u,by rw [m_ (λz=>n z.symm)];exact s,r'.keeps k λ_ _ _=>rfl⟩
  .rcases get j p1 e1 with ⟨_,rfl,_⟩|⟨n1,e1⟩
   .cases o1
   .rcases get l q1 e2 with ⟨_,rfl,_⟩|⟨n2,e2⟩
    .cases o2
    .rw [m_ (λz=>n1 z.symm)] at s1;rw [m_ (λz=>n2 z.symm)] at s2;exact R1.dj j l p1 q1 v' e1 e2 o1 o2 s1 s2
 | own ds =>
  obtain⟨a,xs,rfl,na,hn,e0,R1,f⟩:=h
  have ow:∀b,Wr (ρ.set i (some (.own ds))) (σ.set i (some (.ref a))) b->Wr ρ σ b\/b=a:=λb ⟨j,r,e1,o1,s1⟩=>by
   rcases get j r e1 with ⟨rfl,rfl,hi⟩|⟨n,e⟩
   .rw [pj (by rw [<- R1.len];exact hi)] at s1;cases s1;exact .inr rfl
   .rw [m_ (λz=>n z.symm)] at s1;exact .inl ⟨j,r,e,o1,s1⟩
  have k:aQ (OO (gv A a) ρ σ) H (OO A (ρ.set i (some (.own ds))) (σ.set i (some (.ref a)))) H:=aQ.less λb z=>by
   rcases z with z|z
   .exact .inl (.inl z)
   .rcases ow b z with z|z
    .exact .inr z
    .exact .inl (.inr z)
  refine⟨⟨by rw [Ee,Ee];exact R1.len,λj r e1=>?_,λj l p1 q1 v' e1 e2 o1 o2 s1 s2=>?_,λb z=>R1.dom b (.inl z),λb z w=>?_⟩,λb w=>(ow b w).imp id λz=>by rw [z];exact hn⟩
  .rcases get j r e1 with ⟨rfl,rfl,hi⟩|⟨n,e⟩
   .exact⟨_,pj (by rw [<- R1.len];exact hi),a,xs,rfl,e0,f.keeps k⟩
   .obtain⟨u,s,r'⟩:=R1.get j r e;exact⟨u,by rw [m_ (λz=>n z.symm)];exact s,r'.keeps k λ_ _ _=>rfl⟩
  .rcases get j p1 e1 with ⟨rfl,rfl,hi⟩|⟨n1,e1'⟩
   .rw [pj (by rw [<- R1.len];exact hi)] at s1;cases s1
    rcases get l q1 e2 with ⟨rfl,rfl,_⟩|⟨n2,e2⟩
    .rfl
    .rw [m_ (λz=>n2 z.symm)] at s2;exact absurd ⟨l,q1,e2,o2,s2⟩ (R1.sep a (.inr rfl))
   .rw [m_ (λz=>n1 z.symm)] at s1
    rcases get l q1 e2 with ⟨rfl,rfl,hi⟩|⟨n2,e2⟩
    .rw [pj (by rw [<- R1.len];exact hi)] at s2;cases s2;exact absurd ⟨j,p1,e1',o1,s1⟩ (R1.sep a (.inr rfl))
    .rw [m_ (λz=>n2 z.symm)] at s2;exact R1.dj j l p1 q1 v' e1' e2 o1 o2 s1 s2
  .rcases ow b w with w|w
   .exact R1.sep b (.inl z) w
   .rw [w] at z;exact na z
 | ins c ns ds =>
  obtain⟨a,dx,fs,rfl,na,hn,e0,m,R1,f⟩:=h
  have ow:∀b,Wr (ρ.set i (some (.ins c ns ds))) (σ.set i (some (.ref a))) b->Wr ρ σ b\/b=a:=λb ⟨j,r,e1,o1,s1⟩=>by
   rcases get j r e1 with ⟨rfl,rfl,hi⟩|⟨n,e⟩
   .rw [pj (by rw [<- R1.len];exact hi)] at s1;cases s1;exact .inr rfl
   .rw [m_ (λz=>n z.symm)] at s1;exact .inl ⟨j,r,e,o1,s1⟩
  have k:aQ (OO (gv A a) ρ σ) H (OO A (ρ.set i (some (.ins c ns ds))) (σ.set i (some (.ref a)))) H:=aQ.less λb z=>by
   rcases z with z|z
   .exact .inl (.inl z)
   .rcases ow b z with z|z
    .exact .inr z
    .exact .inl (.inr z)
  refine⟨⟨by rw [Ee,Ee];exact R1.len,λj r e1=>?_,λj l p1 q1 v' e1 e2 o1 o2 s1 s2=>?_,λb z=>R1.dom b (.inl z),λb z w=>?_⟩,λb w=>(ow b w).imp id λz=>by rw [z];exact hn⟩
  .rcases get j r e1 with ⟨rfl,rfl,hi⟩|⟨n,e⟩
   .exact⟨_,pj (by rw [<- R1.len];exact hi),a,dx,fs,rfl,e0,m,f.keeps k⟩
   .obtain⟨u,s,r'⟩:=R1.get j r e;exact⟨u,by rw [m_ (λz=>n z.symm)];exact s,r'.keeps k λ_ _ _=>rfl⟩
  .rcases get j p1 e1 with ⟨rfl,rfl,hi⟩|⟨n1,e1'⟩
   .rw [pj (by rw [<- R1.len];exact hi)] at s1;cases s1
    rcases get l q1 e2 with ⟨rfl,rfl,_⟩|⟨n2,e2⟩
    .rfl
    .rw [m_ (λz=>n2 z.symm)] at s2;exact absurd ⟨l,q1,e2,o2,s2⟩ (R1.sep a (.inr rfl))
   .rw [m_ (λz=>n1 z.symm)] at s1
    rcases get l q1 e2 with ⟨rfl,rfl,hi⟩|⟨n2,e2⟩
    .rw [pj (by rw [<- R1.len];exact hi)] at s2;cases s2;exact absurd ⟨j,p1,e1',o1,s1⟩ (R1.sep a (.inr rfl))
    .rw [m_ (λz=>n2 z.symm)] at s2;exact R1.dj j l p1 q1 v' e1' e2 o1 o2 s1 s2
  .rcases ow b w with w|w
   .exact R1.sep b (.inl z) w
   .rw [w] at z;exact na z
end
abbrev PTG:=PV->PSt->(PSt->Prop)->Prop
abbrev xk:=List D->PSt->(PSt->Prop)->Prop
noncomputable def LG(K:a_)(fs:List Nat)(g:TG)(pg:PTG):Prop:=∀(fx:List (Nat×V)) (A R:Addr->Prop) (H0:Hp) (ρ:PSt) (σ:St) (H:Hp) (p:PV) (v:V) (Q:PSt->Prop) (Q':St->Hp->Prop),fx.map DO=fs->eQ fx R H0 ρ σ H->Out K A ρ σ H0 H p v->pg p ρ Q ->
 (∀ρ' σ' H',Q ρ'->Rel K A ρ' σ' H'->eQ fx R H0 ρ' σ' H'->Q' σ' H')->g v σ H Q'
noncomputable def LGs(K:a_)(fs:List Nat)(g:TGs)(pg:xk):Prop:=∀(fx:List (Nat×V)) (A R:Addr->Prop) (H0:Hp) (ρ:PSt) (σ:St) (H:Hp) (ds:List D) (vs:List V) (Q:PSt->Prop) (Q':St->Hp->Prop),fx.map DO=fs->eQ fx R H0 ρ σ H->Rel K A ρ σ H->FVs K (OO A ρ σ) H vs ds->pg ds ρ Q ->
 (∀ρ' σ',Q ρ'->Rel K A ρ' σ' H->eQ fx R H0 ρ' σ' H->(∀b,Wr ρ' σ' b->Wr ρ σ b)->Q' σ' H)->g vs σ H Q'
noncomputable def LGd(K:a_)(fs:List Nat)(g:TG)(pg:PTG):Prop:=∀(fx:List (Nat×V)) (A R:Addr->Prop) (H0:Hp) (ρ:PSt) (σ:St) (H:Hp) (d:D) (v:V) (Q:PSt->Prop) (Q':St->Hp->Prop),fx.map DO=fs->eQ fx R H0 ρ σ H->Rel K A ρ σ H->FV K (OO A ρ σ) H v d->pg (.dat d) ρ Q ->
 (∀ρ' σ',Q ρ'->Rel K A ρ' σ' H->eQ fx R H0 ρ' σ' H->(∀b,Wr ρ' σ' b->Wr ρ σ b)->Q' σ' H)->g v σ H Q'
noncomputable def fK(i:Nat):PTG:=λp ρ Q=>Q (ρ.set i (some p))
noncomputable def zG:xk:=λds ρ Q=>match ds with|[]=>Q ρ|_=>False
noncomputable def vA(g:PTG)(gs:xk):xk:=λds ρ Q=>match ds with|d::r=>g (.dat d) ρ λρ1=>gs r ρ1 Q|[]=>False
section
variable {K:a_}{fs:List Nat}
def eQ.put{fx:List (Nat×V)}{R:Addr->Prop}{H0 H:Hp}{ρ:PSt}{σ:St}{i:Nat}{p:PV}{v:V}(hf:fx.map DO=fs)(hi:fs.contains i=false)(F:eQ fx R H0 ρ σ H)(ow:∀b,Wr (ρ.set i (some p)) (σ.set i (some v)) b->Wr ρ σ b\/H0 b=none):eQ fx R H0 (ρ.set i (some p)) (σ.set i (some v)) H :=
 ⟨F.kp,F.dm,λb w=>(ow b w).elim (F.ow b) .inr,λq hq=>by
  have:q.1≠i:=λz=>by
   have h1:i∈fs:=by rw [<- hf,<- z];exact mem_map_of_mem hq
   rw [EJ.mpr h1] at hi;cases hi
  rw [m_ (λz=>this z.symm)];exact F.fx q hq⟩
def aC{i:Nat}(hi:fs.contains i=false):LG K fs (bw i) (fK i):=λfx A R H0 ρ σ H p v Q Q' hf F o q k=>k _ _ _ q o.put.1 (F.put hf hi o.put.2)
def gW:LGs K fs wm zG:=λfx A R H0 ρ σ H ds vs Q Q' hf F r fv q k=>by
 unfold zG at q
 split at q
 .cases fv;exact⟨rfl,k _ _ q r F λ_ h=>h⟩
 .exact q.elim
def au{i:Nat}(hi:fs.contains i=false):LGd K fs (bw i) (fK i):=λfx A R H0 ρ σ H d v Q Q' hf F r fv q k=>by
 have o:Out K A ρ σ H0 H (.dat d) v:=⟨r,fv⟩
 have ow:∀b,Wr (ρ.set i (some (.dat d))) (σ.set i (some v)) b->Wr ρ σ b:=λb ⟨j,p,e1,o1,s1⟩=>by
  by_cases z:i=j
  .subst z
   by_cases hl:i<ρ.length
   .rw [pj hl] at e1;cases e1;cases o1
   .rw [y_ (by rw [Ee];omega)] at e1;cases e1
  .rw [m_ z] at e1 s1;exact⟨j,p,e1,o1,s1⟩
 exact k _ _ q o.put.1 (F.put hf hi o.put.2) ow
def bT{g:TG}{pg:PTG}{gs:TGs}{pgs:xk}(hg:LGd K fs g pg)(h:LGs K fs gs pgs):LGs K fs (iI g gs) (vA pg pgs):=λfx A R H0 ρ σ H ds vs Q Q' hf F r fv q k=>by
 unfold vA at q
 split at q
 .cases fv with
  | cons a b =>
   exact⟨_,_,rfl,hg fx A R H0 ρ σ H _ _ _ _ hf F r a q λρ1 σ1 q1 r1 F1 w1=>h fx A R H0 ρ1 σ1 H _ _ _ _ hf F1 r1 (b.keeps (aQ.less λb z=>z.imp id (w1 b))) q1 λρ2 σ2 q2 r2 F2 w2=>k ρ2 σ2 q2 r2 F2 λb z=>w1 b (w2 b z)⟩
 .exact q.elim
end
noncomputable def LS(K:a_)(fs:List Nat)(ts:TS)(ps:PTS):Prop:=∀(fx:List (Nat×V)) (A R:Addr->Prop) (H0:Hp) (ρ:PSt) (σ:St) (H:Hp) (D:zF) (D':yc),fx.map DO=fs->Rel K A ρ σ H->eQ fx R H0 ρ σ H->ps D ρ ->
 (∀ρ' σ' H',D.nx ρ'->Rel K A ρ' σ' H'->eQ fx R H0 ρ' σ' H'->D'.nx σ' H') ->
 (∀v p ρ' σ' H',D.rt p ρ'->Out K A ρ' σ' H0 H' p v->eQ fx R H0 ρ' σ' H'->D'.rt v H') ->
 (∀ρ' σ' H',D.bk ρ'->Rel K A ρ' σ' H'->eQ fx R H0 ρ' σ' H'->D'.bk σ' H') ->
 (∀ρ' σ' H',D.ct ρ'->Rel K A ρ' σ' H'->eQ fx R H0 ρ' σ' H'->D'.ct σ' H')->ts D' σ H
def vB:PTS:=λD ρ=>D.nx ρ
noncomputable def ll(a b:PTS):PTS:=λD ρ=>a { D with nx:=b D } ρ
noncomputable def vC(pe:PTE):PTS:=λD ρ=>pe ρ λ_ ρ1=>D.nx ρ1
def uG(pe:PTE):PTS:=λD ρ=>pe ρ D.rt
noncomputable def CD(t:PTT)(a b:PTS):PTS:=λD ρ=>t ρ λc ρ1=>fA c (a D ρ1) (b D ρ1)
def xl:PTS:=λ_ _=>False
noncomputable def zH(pe:PTE)(g:PTG):PTS:=λD ρ=>pe ρ λp ρ1=>g p ρ1 D.nx
noncomputable def zI(a:PTS):PTS:=λD ρ=>∃J:PSt->Prop,a { D with nx:=J } ρ/\∀ρ',J ρ'->D.nx ρ'
section
variable {K:a_}{fs:List Nat}{ta tb:TS}{pa pb:PTS}{te:TE}{pe:PTE}{tt:TT}{pt:PTT}
def bc:LS K fs yz vB:=λfx A R H0 ρ σ H D D' hf r F q k1 k2 k3 k4=>k1 _ _ _ q r F
def lm:LS K fs vo xl:=λfx A R H0 ρ σ H D D' hf r F q k1 k2 k3 k4=>q
def aw(ha:LS K fs ta pa)(hb:LS K fs tb pb):LS K fs (Cj ta tb) (ll pa pb):=λfx A R H0 ρ σ H D D' hf r F q k1 k2 k3 k4 =>
 ha fx A R H0 ρ σ H _ _ hf r F q (λρ1 σ1 H1 q1 r1 F1=>hb fx A R H0 ρ1 σ1 H1 _ _ hf r1 F1 q1 k1 k2 k3 k4) k2 k3 k4
def eW(h:LE K te pe):LS K fs (yA te) (vC pe):=λfx A R H0 ρ σ H D D' hf r F q k1 k2 k3 k4=>h A ρ σ H _ _ r q λv H1 p ρ1 q1 f1 o1=>k1 _ _ _ q1 o1.frz.1 (F.fr f1)
def aO(h:LE K te pe):LS K fs (Ck te) (uG pe):=λfx A R H0 ρ σ H D D' hf r F q k1 k2 k3 k4=>h A ρ σ H _ _ r q λv H1 p ρ1 q1 f1 o1=>k2 v p ρ1 σ H1 q1 (o1.h0 F.dm) (F.fr f1)
def dn(ht:LT K tt pt)(ha:LS K fs ta pa)(hb:LS K fs tb pb):LS K fs (Cm tt ta tb) (CD pt pa pb):=λfx A R H0 ρ σ H D D' hf r F q k1 k2 k3 k4=>ht A ρ σ H _ _ r q λc H1 ρ1 q1 f1 r1=>by
 cases c with
 | true=>exact ha fx A R H0 ρ1 σ H1 D D' hf r1 (F.fr f1) q1 k1 k2 k3 k4
 | false=>exact hb fx A R H0 ρ1 σ H1 D D' hf r1 (F.fr f1) q1 k1 k2 k3 k4
def aH{g:TG}{pg:PTG}(h:LE K te pe)(hg:LG K fs g pg):LS K fs (yC te g) (zH pe pg):=λfx A R H0 ρ σ H D D' hf r F q k1 k2 k3 k4=>h A ρ σ H _ _ r q λv H1 p ρ1 q1 f1 o1 =>
 hg fx A R H0 ρ1 σ H1 p v _ _ hf (F.fr f1) (o1.h0 F.dm) q1 k1
def nU(h:LS K fs ta pa):LS K fs (zf ta) (zI pa):=λfx A R H0 ρ σ H D D' hf r F q k1 k2 k3 k4=>by
 obtain⟨J,q1,q2⟩:=q;refine⟨λσ' H'=>∃ρ',J ρ'/\Rel K A ρ' σ' H'/\eQ fx R H0 ρ' σ' H',?_,λσ' H' ⟨ρ',j,r',F'⟩=>k1 ρ' σ' H' (q2 ρ' j) r' F'⟩;exact h fx A R H0 ρ σ H _ _ hf r F q1 (λρ' σ' H' j r' F'=>⟨ρ',j,r',F'⟩) k2 k3 k4
end
noncomputable def iA(K:a_)(tl:TE):TI:=λσ H R=>tl σ H λx H1=>(∃k a xs,x=.ref a/\Sq k K H1 a xs/\R (Itk k K a) H1)\/∃l,x=.str (S l)/\R (Its (eU l)) H1
section
variable {X:Cx}{tg:Expr}
def xm{l:Expr}{tl:TE}(hl:PE X l tl):PI X tg l (iA X.K tl):=by
 intro pins s σ H R I h;refine thn (hl pins s σ H _ I h) λv s1 ⟨x,H1,I1,r1,q1⟩=>?_
 have fin:∀b∈[s1.heap.objs.size],qY X pins H1 b:=λb hb=>by
  have e:b=s1.heap.objs.size:=by simpa using hb
  subst e;exact I1.fpOk (l_ _) (I1.hok.fresh (l_ _))
 rcases q1 with ⟨k,a,xs,e,hq,q⟩|⟨l,e,q⟩
 .subst e;cases r1
  cases k with
  | false =>
   obtain⟨its,rv,p,hz⟩:=I1.list hq;refine Ei p.isList ?_;exact⟨s1.heap.objs.size,[s1.heap.objs.size],_,_,H1,rfl,I1.kept (t':=s1.toks) λb o e=>cn _ e,rh a _,⟨_,f_ _ rfl,rfl,rfl⟩,fin,q⟩
  | true =>
   obtain⟨its,rv,p,hz⟩:=I1.tuple hq;refine wpAny_pyIter_tuple (show s1.heap.IsTuple a its.toArray from p) ?_;exact⟨s1.heap.objs.size,[s1.heap.objs.size],_,_,H1,rfl,I1.kept (t':=s1.toks) λb o e=>cn _ e,qf a _,⟨_,f_ _ rfl,rfl,rfl⟩,fin,q⟩
 .subst e;obtain⟨t,rfl⟩:=r1
  have hv:∀i v,i<(S l).cps.size->SignAt (S l) i v->∃x,(eU l)[i]?=some x/\cF x v:=λi v _ ⟨c,u,hc,e⟩=>by
   subst e;have hc':l[i]?=some c:=by simpa [S] using hc
   exact⟨.str (S [c]),by unfold eU;rw [k_,hc'];rfl,u,rfl⟩
  have hsc:∀i v,SignAt (S l) i v->∀a,v≠.ref a:=λi v ⟨c,u,hc,e⟩ a z=>by subst e;cases z
  have hn:(eU l).length=(S l).cps.size:=by rw [gQ];simp [S]
  have hobj:∀ty i (h:Heap),h.IsStrIter s1.heap.objs.size ty (S l) t i->∃o,h.get? s1.heap.objs.size=some o/\∀v,o.data≠.cell v:=λty i h ⟨o,ho,_,hd⟩=>⟨o,ho,λv z=>by rw [hd] at z;cases z⟩
  have hfr:∀ty i (h h':Heap),h.IsStrIter s1.heap.objs.size ty (S l) t i->(∀b∈[s1.heap.objs.size],∀o,h.get? b=some o->h'.get? b=some o)->h'.IsStrIter s1.heap.objs.size ty (S l) t i:=λty i h h' ⟨o,ho,r⟩ k=>⟨o,k _ (by simp) o ho,r⟩
  cases ha:(S l).cps.all (·<128)
  .refine wpAny_pyIter_wide ha ⟨s1.heap.objs.size,[s1.heap.objs.size],_,Its (eU l),H1,rfl,I1.kept (t':=s1.toks) λb o e=>cn _ e,
    jd (λA hA=>Walks.strWide hA _ (S l) t) hn hv hsc (hobj _) (hfr _) (λA i s Q E st q=>wpAny_pyIter_striter_wide st q),⟨_,f_ _ rfl,rfl,rfl⟩,fin,q⟩
  .refine wpAny_pyIter_ascii ha ⟨s1.heap.objs.size,[s1.heap.objs.size],_,Its (eU l),H1,rfl,I1.kept (t':=s1.toks) λb o e=>cn _ e,
    jd (λA hA=>Walks.strAscii hA _ (S l) t) hn hv hsc (hobj _) (hfr _) (λA i s Q E st q=>wpAny_pyIter_striter_ascii st q),⟨_,f_ _ rfl,rfl,rfl⟩,fin,q⟩
def bH(K:a_)(e:X.K=K){l:Expr}{tl:TE}(hl:PE X l tl):PI X tg l (iA K tl):=by subst e;exact xm hl
end
abbrev PTI:=PSt->(Nat->(Nat->D)->PSt->Prop)->Prop
noncomputable def Wlk(K:a_)(O:Addr->Prop)(H:Hp)(J:It)(n:Nat)(it:Nat->D):Prop:=∀(O':Addr->Prop) (H':Hp),aQ O H O' H'->(∀b,O' b->H' b≠none) ->
 (∀k,k<n->J.go k H'/\∀x H'',J.yld k H' x H''->Gr H' H''/\FV K O' H'' x (it k))/\J.stop n H'
noncomputable def LI(K:a_)(wi:TI)(pi:PTI):Prop:=∀(A:Addr->Prop) (ρ:PSt) (σ:St) (H:Hp) (Q:Nat->(Nat->D)->PSt->Prop) (Q':It->Hp->Prop),Rel K A ρ σ H->pi ρ Q ->
 (∀J H' n it ρ',Q n it ρ'->Fr ρ σ H ρ' H'->Rel K A ρ' σ H'->Wlk K (OO A ρ' σ) H' J n it->Q' J H')->wi σ H Q'
noncomputable def itD(ds:List D)(k:Nat):D:=ds.getD k .non
def eX{ds:List D}{k:Nat}{d:D}(h:ds[k]?=some d):itD ds k=d:=by unfold itD;rw [d_,h];rfl
noncomputable def CF:D->Option (Nat×(Nat->D))
 | .lst ds=>some (ds.length,itD ds)
 | .tup ds=>some (ds.length,itD ds)
 | .scr ns=>some (ns.length,λk=>.int (ns.getD k 0))
 | .str l=>some (l.length,λk=>.str [l.getD k 0])
 | _=>none
noncomputable def qB(pe:PTE):PTI:=λρ Q=>pe ρ λp ρ1=>match CF p.d with
 | some (n,it)=>Q n it ρ1
 | none=>False
section
variable {K:a_}{te:TE}{pe:PTE}{ta:TA}{pa:PTA}
def FV.row{O:Addr->Prop}{H:Hp}{v:V}{d:D}{n:Nat}{it:Nat->D}(h:FV K O H v d)(e:CF d=some (n,it)) :
  (∃k a xs,v=.ref a/\xs.length=n/\(∀O' H',aQ O H O' H'->Sq k K H' a xs/\∀j x,xs[j]?=some x->FV K O' H' x (it j)))\/∃l,v=.str (S l)/\l.length=n/\(∀k,it k=.str [l.getD k 0]):=by
 cases h with
 | lst nn e0 f =>
  cases e;refine .inl ⟨false,_,_,rfl,f.length,λO' H' k=>⟨SqL.of (k _ _ nn e0).2,λj x hx=>?_⟩⟩;obtain⟨d,hd,fd⟩:=f.get hx;rw [eX hd];exact fd.keeps k
 | tup nn e0 f =>
  cases e;refine .inl ⟨true,_,_,rfl,f.length,λO' H' k=>⟨SqT.of (k _ _ nn e0).2,λj x hx=>?_⟩⟩;obtain⟨d,hd,fd⟩:=f.get hx;rw [eX hd];exact fd.keeps k
 | scr s =>
  cases e;refine .inl ⟨false,_,_,rfl,length_map _,λO' H' k=>⟨(s.keeps k).sq,λj x hx=>?_⟩⟩;obtain⟨z,hz,rfl⟩:=uk hx;show FV K O' H' (V.int z) (D.int (List.getD _ j 0));rw [d_,hz];exact .int z
 | str l hl=>cases e;exact .inr ⟨l,rfl,rfl,λ_=>rfl⟩
 | non=>cases e
 | bl b=>cases e
 | int i=>cases e
 | ty n=>cases e
 | dic _ _ _ _=>cases e
 | obj _ _ _ _=>cases e
 | exc0 _ _=>cases e
 | exc1 _ _ _ _ _ _=>cases e
def bI(h:LE K te pe):LI K (iA K te) (qB pe):=λA ρ σ H Q Q' R q k=>h A ρ σ H _ _ R q λv H1 p ρ1 q1 f1 o1=>by
 obtain⟨R1,fv⟩:=o1.frz
 split at q1
 .rename_i n it e
  rcases fv.row e with ⟨b,a,xs,rfl,hl,hr⟩|⟨l,rfl,hl,hi⟩
  .refine .inl ⟨b,a,xs,rfl,(hr _ H1 (λb o n h=>⟨n,h⟩)).1,k _ H1 n it ρ1 q1 f1 R1 λO' H' kk dom=>?_⟩;obtain⟨sq,hx⟩:=hr O' H' kk
   cases b with
   | false =>
    refine⟨λj hj=>⟨⟨xs,_,sq,cy (by rw [hl];exact hj)⟩,λx H'' ⟨e,y⟩=>?_⟩,⟨xs,sq,by rw [hl];exact l_ _⟩⟩;subst e;exact⟨Gr.refl _,hx j x (y xs sq)⟩
   | true =>
    refine⟨λj hj=>⟨⟨xs,_,sq,cy (by rw [hl];exact hj)⟩,λx H'' ⟨e,y⟩=>?_⟩,⟨xs,sq,by rw [hl];exact l_ _⟩⟩;subst e;exact⟨Gr.refl _,hx j x (y xs sq)⟩
  .refine .inr ⟨l,rfl,k _ H1 n it ρ1 q1 f1 R1 λO' H' kk dom=>?_⟩;refine⟨λj hj=>⟨by show j<(eU l).length;rw [gQ,hl];exact hj,λx H'' ⟨e,y⟩=>?_⟩,by show (eU l).length=n;rw [gQ,hl]⟩;subst e;obtain⟨c,hc,rfl⟩:=qw y;rw [hi,d_,hc];exact⟨Gr.refl _,.str _ (by show 1<=1000000;decide)⟩
 .exact q1.elim
noncomputable def Dk(pa:PTA):PTI:=λρ Q=>pa ρ λas ρ1=>match as with
 | [.v (.int j)]=>(-(2^60)<=j/\j<2^60)/\Q j.toNat (λk=>.int (k:Int)) ρ1
 | _=>False
noncomputable def Dl(pa:PTA):PTI:=λρ Q=>pa ρ λas ρ1=>match as with
 | [.v (.int i),.v (.int j),.v (.int (-1))]=>(-(2^60)<=i/\i<2^60/\-(2^60)<=j/\j<2^60)/\Q (i - j).toNat (λk=>.int (i - (k:Int))) ρ1
 | _=>False
def BM{O:Addr->Prop}{H:Hp}{lo:Int}{n:Nat}{it:Nat->D}(h:∀k:Nat,it k=.int (lo+k)):Wlk K O H (Itr lo n) n it:=λO' H' _ _ =>
 ⟨λj hj=>⟨hj,λx H'' ⟨e,y⟩=>by subst e y;rw [h];exact⟨Gr.refl _,.int _⟩⟩,l_ _⟩
def BN{O:Addr->Prop}{H:Hp}{lo:Int}{n:Nat}:Wlk K O H (Its (kZ lo n)) n (λk=>.int (lo - (k:Int))):=λO' H' _ _ =>
 ⟨λj hj=>⟨by show j<(kZ lo n).length;rw [je];exact hj,λx H'' ⟨e,y⟩=>by subst e;rw [(rS y).2];exact⟨Gr.refl _,.int _⟩⟩,je _ _⟩
def mJ(h:LAs K ta pa):LI K (ri ta) (Dk pa):=λA ρ σ H Q Q' R q k=>h A ρ σ H _ _ R q λvs H1 as ρ1 q1 f1 R1 o1=>by
 split at q1
 .rename_i j
  cases o1 with
  | cons a b =>
   cases b;cases a;exact⟨j,rfl,by omega,by omega,k _ H1 _ _ ρ1 q1.2 f1 R1 (BM λk=>by rw [Int.zero_add])⟩
 .exact q1.elim
def zJ(h:LAs K ta pa):LI K (y4 ta) (Dl pa):=λA ρ σ H Q Q' R q k=>h A ρ σ H _ _ R q λvs H1 as ρ1 q1 f1 R1 o1=>by
 split at q1
 .rename_i i j
  cases o1 with
  | cons a b =>
   cases b with
   | cons c d =>
    cases d with
    | cons e f =>
     cases f;cases a;cases c;cases e;exact⟨i,j,rfl,q1.1,k _ H1 _ _ ρ1 q1.2 f1 R1 BN⟩
 .exact q1.elim
noncomputable def rowD:D->Option (List D)
 | .lst ds=>some ds
 | .tup ds=>some ds
 | .scr ns=>some (ns.map .int)
 | _=>none
def FV.rowD{O:Addr->Prop}{H:Hp}{v:V}{d:D}{ds:List D}(h:FV K O H v d)(e:L2.rowD d=some ds) :
  ∃k a xs,v=.ref a/\xs.length=ds.length/\(∀O' H',aQ O H O' H'->Sq k K H' a xs/\FVs K O' H' xs ds):=by
 cases h with
 | lst nn e0 f=>cases e;exact⟨false,_,_,rfl,f.length,λO' H' k=>⟨SqL.of (k _ _ nn e0).2,f.keeps k⟩⟩
 | tup nn e0 f=>cases e;exact⟨true,_,_,rfl,f.length,λO' H' k=>⟨SqT.of (k _ _ nn e0).2,f.keeps k⟩⟩
 | scr s=>cases e;exact⟨false,_,_,rfl,by rw [length_map,length_map],λO' H' k=>⟨(s.keeps k).sq,FVs.of_ints _⟩⟩
 | str l hl=>cases e
 | non=>cases e
 | bl b=>cases e
 | int i=>cases e
 | ty n=>cases e
 | dic _ _ _ _=>cases e
 | obj _ _ _ _=>cases e
 | exc0 _ _=>cases e
 | exc1 _ _ _ _ _ _=>cases e
noncomputable def BO(pa:PTA):PTI:=λρ Q=>pa ρ λas ρ1=>match as with
 | [.v a,.v b]=>(match rowD a,rowD b with
  | some xs,some ys=>Q (min xs.length ys.length) (λk=>.tup [itD xs k,itD ys k]) ρ1
  | _,_=>False)
 | _=>False
noncomputable def zK(pa:PTA):PTI:=λρ Q=>pa ρ λas ρ1=>match as with
 | [.v a]=>(match rowD a with
  | some xs=>Q xs.length (λk=>.tup [.int (k:Int),itD xs k]) ρ1
  | _=>False)
 | _=>False
def zL(h:LAs K ta pa):LI K (uB K ta) (BO pa):=λA ρ σ H Q Q' R q k=>h A ρ σ H _ _ R q λvs H1 as ρ1 q1 f1 R1 o1=>by
 split at q1
 .rename_i da db
  cases o1 with
  | cons o1 o2 =>
   cases o2 with
   | cons o2 o3 =>
    cases o3
    split at q1
    .rename_i xs ys ex ey;obtain⟨b1,a1,us,rfl,l1,w1⟩:=FV.rowD (show FV K _ H1 _ da from o1) ex;obtain⟨b2,a2,ws,rfl,l2,w2⟩:=FV.rowD (show FV K _ H1 _ db from o2) ey;have t1:=w1 _ H1 (λb o n h=>⟨n,h⟩);have t2:=w2 _ H1 (λb o n h=>⟨n,h⟩);refine⟨b1,b2,a1,a2,rfl,⟨us,ws,t1.1,t2.1⟩,k _ H1 _ _ ρ1 q1 f1 R1 λO' H' kk dom=>?_⟩;obtain⟨s1,g1⟩:=w1 O' H' kk;obtain⟨s2,g2⟩:=w2 O' H' kk;refine⟨λj hj=>?_,⟨us,ws,s1,s2,by omega⟩⟩
     have h1:j<us.length:=by omega
     have h2:j<ws.length:=by omega
     refine⟨⟨us,ws,_,_,s1,s2,cy h1,cy h2⟩,λx H'' ⟨T,u,w,hT,e,y1,y2,e2⟩=>?_⟩;subst e e2;obtain⟨d1,hd1,fd1⟩:=g1.get (y1 us s1);obtain⟨d2,hd2,fd2⟩:=g2.get (y2 ws s2);have e1:itD xs j=d1:=by unfold itD;rw [d_,hd1];rfl
     have e2:itD ys j=d2:=by unfold itD;rw [d_,hd2];rfl
     rw [e1,e2];have kk2:aQ O' H' O' (upd H' T (.tup [u,w])):=λb o n e=>⟨n,by rw [ax (aD e hT)];exact e⟩
     exact⟨Gr.new hT,.tup (λz=>dom T z hT) aG (.cons (fd1.keeps kk2) (.cons (fd2.keeps kk2) .nil))⟩
    .exact q1.elim
 .exact q1.elim
def sB(h:LAs K ta pa):LI K (wX K ta) (zK pa):=λA ρ σ H Q Q' R q k=>h A ρ σ H _ _ R q λvs H1 as ρ1 q1 f1 R1 o1=>by
 split at q1
 .rename_i da
  cases o1 with
  | cons o1 o3 =>
   cases o3
   split at q1
   .rename_i xs ex;obtain⟨b1,a1,us,rfl,l1,w1⟩:=FV.rowD (show FV K _ H1 _ da from o1) ex;have t1:=w1 _ H1 (λb o n h=>⟨n,h⟩);refine⟨b1,a1,rfl,⟨us,t1.1⟩,k _ H1 _ _ ρ1 q1 f1 R1 λO' H' kk dom=>?_⟩;obtain⟨s1,g1⟩:=w1 O' H' kk;refine⟨λj hj=>?_,⟨us,s1,by omega⟩⟩;have h1:j<us.length:=by omega
    refine⟨⟨us,_,s1,cy h1⟩,λx H'' ⟨T,u,hT,e,y1,e2⟩=>?_⟩;subst e e2;obtain⟨d1,hd1,fd1⟩:=g1.get (y1 us s1);have e1:itD xs j=d1:=by unfold itD;rw [d_,hd1];rfl
    rw [e1];have kk2:aQ O' H' O' (upd H' T (.tup [.int (j:Int),u])):=λb o n e=>⟨n,by rw [ax (aD e hT)];exact e⟩
    exact⟨Gr.new hT,.tup (λz=>dom T z hT) aG (.cons (.int _) (.cons (fd1.keeps kk2) .nil))⟩
   .exact q1.elim
 .exact q1.elim
end
noncomputable def BP(pi:PTI)(g:PTG)(pb:PTS):PTS:=λD ρ=>pi ρ λn it ρ1=>∃I:Nat->PSt->Prop,I 0 ρ1/\(∀k ρ d,k<n->d=it k->I k ρ->g (.dat d) ρ λρ2=>pb { D with nx:=I (k+1),ct:=I (k+1),bk:=D.nx } ρ2)/\∀ρ,I n ρ->D.nx ρ
noncomputable def xn(pt:PTT)(pb:PTS):PTS:=λD ρ=>∃I:Nat->PSt->Prop,(∃m,I m ρ)/\∀m ρ,I m ρ->pt ρ λb ρ1=>fA b (pb { D with nx:=λρ'=>∃m',m'<m/\I m' ρ',ct:=λρ'=>∃m',m'<m/\I m' ρ',bk:=D.nx } ρ1) (D.nx ρ1)
section
variable {K:a_}{fs:List Nat}{wi:TI}{pi:PTI}{g:TG}{pg:PTG}{tb:TS}{pb:PTS}{tt:TT}{pt:PTT}
def dQ(hi:LI K wi pi)(hg:LGd K fs g pg)(hb:LS K fs tb pb):LS K fs (Co wi g tb) (BP pi pg pb):=λfx A R H0 ρ σ H D D' hf r F q k1 k2 k3 k4=>hi A ρ σ H _ _ r q λJ H1 n it ρ1 q1 f1 r1 W=>by
 obtain⟨I,i0,turn,after⟩:=q1;have F1:=F.fr f1;refine⟨λi m σ' H'=>i+m=n/\∃ρ',I i ρ'/\Rel K A ρ' σ' H'/\eQ fx (Wr ρ1 σ) H1 ρ' σ' H',⟨n,GM n,ρ1,i0,r1,eQ.start F1.fx⟩,λi m σ' H' ⟨him,ρ',iv,r',F'⟩=>?_⟩;obtain⟨go,stop⟩:=W _ H' F'.keeps r'.dom2
 by_cases hk:i<n
 .obtain⟨g1,g2⟩:=go i hk;refine .inr ⟨g1,λσ'' H''=>∃ρ'',I (i+1) ρ''/\Rel K A ρ'' σ'' H''/\eQ fx (Wr ρ1 σ) H1 ρ'' σ'' H'',λσ'' H'' z=>⟨m - 1,by omega,by omega,z⟩,λx H'' y=>?_⟩;obtain⟨gr,fv⟩:=g2 x H'' y;refine hg fx A (Wr ρ1 σ) H1 ρ' σ' H'' _ x _ _ hf (F'.fr gr.fr) (r'.gr gr) fv (turn i ρ' _ hk rfl iv) λρ2 σ2 q2 r2 F2 _=>?_;refine hb fx A (Wr ρ1 σ) H1 ρ2 σ2 H'' _ _ hf r2 F2 q2 (λρ3 σ3 H3 q3 r3 F3=>⟨ρ3,q3,r3,F3⟩) (λv p ρ3 σ3 H3 q3 o3 F3=>k2 v p ρ3 σ3 H3 q3 (o3.h0 F1.dm) (F1.trans F3 F3.fx)) (λρ3 σ3 H3 q3 r3 F3=>k1 ρ3 σ3 H3 q3 r3 (F1.trans F3 F3.fx)) (λρ3 σ3 H3 q3 r3 F3=>⟨ρ3,q3,r3,F3⟩)
 .have e:i=n:=by omega
  subst e;exact .inl ⟨stop,k1 ρ' σ' H' (after ρ' iv) r' (F1.trans F' F'.fx)⟩
def uH(ht:LT K tt pt)(hb:LS K fs tb pb):LS K fs (vp tt tb) (xn pt pb):=λfx A R H0 ρ σ H D D' hf r F q k1 k2 k3 k4=>by
 obtain⟨I,⟨m0,i0⟩,turn⟩:=q;refine⟨λm σ' H'=>∃ρ',I m ρ'/\Rel K A ρ' σ' H'/\eQ fx R H0 ρ' σ' H',⟨m0,ρ,i0,r,F⟩,λm σ' H' ⟨ρ',iv,r',F'⟩=>?_⟩;refine ht A ρ' σ' H' _ _ r' (turn m ρ' iv) λb H1 ρ1 q1 f1 r1=>?_
 cases b with
 | true =>
  refine⟨λσ'' H''=>∃ρ'' m',m'<m/\I m' ρ''/\Rel K A ρ'' σ'' H''/\eQ fx R H0 ρ'' σ'' H'',λσ'' H'' ⟨ρ'',m',h1,h2⟩=>⟨m',h1,ρ'',h2⟩,?_⟩;exact hb fx A R H0 ρ1 σ' H1 _ _ hf r1 (F'.fr f1) q1 (λρ3 σ3 H3 ⟨m',h1,h2⟩ r3 F3=>⟨ρ3,m',h1,h2,r3,F3⟩) k2 k1 (λρ3 σ3 H3 ⟨m',h1,h2⟩ r3 F3=>⟨ρ3,m',h1,h2,r3,F3⟩)
 | false=>exact k1 ρ1 σ' H1 q1 r1 (F'.fr f1)
end
noncomputable def aX(ix:List (Option Nat))(ρ:PSt):PSt:=ix.map λo=>match o with
 | none=>none
 | some j=>match ρ[j]? with
  | some v=>v
  | none=>none
noncomputable def en:List (Option Nat)->PSt->PSt->PSt
 | some j::ix,ρ,t::τ=>en ix (ρ.set j t) τ
 | none::ix,ρ,_::τ=>en ix ρ τ
 | _,ρ,_=>ρ
noncomputable def xo:List (Option Nat)->Bool
 | []=>true
 | none::r=>xo r
 | some j::r=>!r.contains (some j) && xo r
theorem lp:∀(ix:List (Option Nat)) (ρ τ:PSt),(en ix ρ τ).length=ρ.length
 | [],ρ,τ=>by unfold en;rfl
 | some j::ix,ρ,t::τ=>by show (en ix (ρ.set j t) τ).length=_;rw [lp ix,Ee]
 | none::ix,ρ,t::τ=>by show (en ix ρ τ).length=_;exact lp ix ρ τ
 | some j::ix,ρ,[]=>by unfold en;rfl
 | none::ix,ρ,[]=>by unfold en;rfl
theorem iY:∀(ix:List (Option Nat)) (ρ τ:PSt) (j:Nat),some j∉ix->(en ix ρ τ)[j]?=ρ[j]?
 | [],ρ,τ,j,_=>by unfold en;rfl
 | some i::ix,ρ,t::τ,j,h=>by
  show (en ix (ρ.set i t) τ)[j]?=_;rw [iY ix _ τ j (λz=>h (o_ _ z)),m_ (λz=>h (by rw [z];exact mem_cons_self ..))]
 | none::ix,ρ,t::τ,j,h=>by show (en ix ρ τ)[j]?=_;exact iY ix ρ τ j λz=>h (o_ _ z)
 | some i::ix,ρ,[],j,_=>by unfold en;rfl
 | none::ix,ρ,[],j,_=>by unfold en;rfl
theorem nV:∀(ix:List (Option Nat)) (ρ τ:PSt) (j k:Nat),xo ix=true->ix[k]?=some (some j)->k<τ.length->j<ρ.length->(en ix ρ τ)[j]?=τ[k]?
 | some i::ix,ρ,t::τ,j,k,h,e,hk,hj=>by
  have h:(!ix.contains (some i) && xo ix)=true:=h;rw [and_eq_true] at h;show (en ix (ρ.set i t) τ)[j]?=_
  cases k with
  | zero =>
   have e:some (some i)=some (some j):=e;cases e
   have hn:some i∉ix:=λz=>by
    have:=h.1;rw [EJ.mpr z] at this;cases this
   rw [iY ix _ τ i hn,pj hj];rfl
  | succ k =>
   have e:ix[k]?=some (some j):=by simpa using e
   rw [nV ix _ τ j k h.2 e (by simpa using hk) (by rw [Ee];exact hj)];simp
 | none::ix,ρ,t::τ,j,k,h,e,hk,hj=>by
  show (en ix ρ τ)[j]?=_
  cases k with
  | zero=>cases e
  | succ k =>
   have e:ix[k]?=some (some j):=by simpa using e
   rw [nV ix _ τ j k h e (by simpa using hk) hj];simp
 | [],ρ,τ,j,k,h,e,hk,hj=>by simp at e
 | some i::ix,ρ,[],j,k,h,e,hk,hj=>absurd hk (GF _)
 | none::ix,ρ,[],j,k,h,e,hk,hj=>absurd hk (GF _)
theorem lq:∀{ix:List (Option Nat)}{k l j:Nat},xo ix=true->ix[k]?=some (some j)->ix[l]?=some (some j)->k=l
 | some i::ix,k,l,j,h,e1,e2=>by
  have h:(!ix.contains (some i) && xo ix)=true:=h;rw [and_eq_true] at h
  have no:∀m,ix[m]?≠some (some i):=λm z=>by
   have:=h.1;rw [EJ.mpr (z_ z)] at this;cases this
  cases k with
  | zero =>
   have e1:some (some i)=some (some j):=e1;cases e1
   cases l with
   | zero=>rfl
   | succ l=>exact absurd (by simpa using e2) (no l)
  | succ k =>
   cases l with
   | zero =>
    have e2:some (some i)=some (some j):=e2;cases e2;exact absurd (by simpa using e1) (no k)
   | succ l=>rw [lq (k:=k) (l:=l) h.2 (by simpa using e1) (by simpa using e2)]
 | none::ix,k,l,j,h,e1,e2=>by
  cases k with
  | zero=>cases e1
  | succ k =>
   cases l with
   | zero=>cases e2
   | succ l=>rw [lq (ix:=ix) (k:=k) (l:=l) (j:=j) h (by simpa using e1) (by simpa using e2)]
 | [],k,l,j,h,e1,e2=>by simp at e1
def eY{ix:List (Option Nat)}{ρ:PSt}{k:Nat}{p:PV}(h:(aX ix ρ)[k]?=some (some p)):∃j,ix[k]?=some (some j)/\ρ[j]?=some (some p):=by
 unfold aX at h;rw [k_] at h
 cases e:ix[k]? with
 | none=>rw [e] at h;cases h
 | some o =>
  rw [e] at h
  cases o with
  | none=>cases h
  | some j =>
   refine⟨j,rfl,?_⟩;have h:some (match ρ[j]? with|some v=>v|none=>none)=some (some p):=h
   cases e2:ρ[j]? with
   | none=>rw [e2] at h;cases h
   | some v=>rw [e2] at h;exact h
def fB{ix:List (Option Nat)}{σ:St}{k j:Nat}{v:V}(h:ix[k]?=some (some j))(e:σ[j]?=some (some v)):(r0 ix σ)[k]?=some (some v):=by
 unfold r0;rw [k_,h];show some (match σ[j]? with|some v=>v|none=>none)=some (some v);rw [e]
def Rel.amb{K:a_}{A:Addr->Prop}{ρ:PSt}{σ:St}{H:Hp}{a:Addr}{o:HO}(R:Rel K A ρ σ H)(ha:A a):Rel K A ρ σ (upd H a o):=by
 have k:aQ (OO A ρ σ) H (OO A ρ σ) (upd H a o):=λb u n e=>⟨n,by rw [ax (λz=>n (by rw [z];exact .inl ha))];exact e⟩
 refine⟨R.len,λi q e=>?_,R.dj,λb z=>?_,R.sep⟩
 .obtain⟨v,s,r⟩:=R.get i q e;refine⟨v,s,r.keeps k λow b eb=>?_⟩;rw [ax];intro z;subst z eb;exact R.sep b ha ⟨i,q,e,ow,s⟩
 .by_cases z':b=a
  .rw [z',aG];exact nofun
  .rw [ax z'];exact R.dom b z
noncomputable def BQ(ix:List (Option Nat))(ρ:PSt):Bool:=ix.all λo=>match o with|none=>true|some j=>(match ρ[j]? with|some (some _)=>true|_=>false)
structure jl (ix:List (Option Nat)) (ρ1:PSt) (n:Nat) (it:Nat->D) (g:PTG) (pt:PTT) (pe:PTE) (Q:PKt):Prop where
 ex:∃I:Nat->List D->PSt->Prop,I 0 [] (aX ix ρ1) /\
  (∀k ys τ d,k<n->d=it k->I k ys τ->g (.dat d) τ λτ2=>pt τ2 λok τ3=>fA ok (pe τ3 λp τ4=>I (k+1) (ys++[p.d]) τ4) (I (k+1) ys τ3))/\∀ys τ,I n ys τ->Q (.own ys) (en ix ρ1 τ)
noncomputable def qC(ix:List (Option Nat))(pi:PTI)(g:PTG)(pt:PTT)(pe:PTE):PTE:=λρ Q=>pi ρ λn it ρ1=>BQ ix ρ1=true/\n<=1000000/\jl ix ρ1 n it g pt pe Q
def uI:PTT:=λρ Q=>Q true ρ
def cB{K:a_}:LT K jf uI:=λA ρ σ H Q Q' R q k=>k true H ρ q (Fr.refl _ _ _) R
noncomputable def yi(ix:List (Option Nat)):List Nat:=(c_ ix.length).filter λk=>(ix.getD k none).isSome
def aZ{K:a_}{ix:List (Option Nat)}{wi:TI}{pi:PTI}{g:TG}{pg:PTG}{tts:TT}{pt:PTT}{te:TE}{pe:PTE}(hix:xo ix=true)(hi:LI K wi pi)(hg:∀fs:List Nat,(∀k∈fs,k∈yi ix)->LGd K fs g pg)(ht:LT K tts pt)(he:LE K te pe) :
  LE K (mC ix wi g tts te) (qC ix pi pg pt pe):=λA ρ σ H Q Q' R q k=>hi A ρ σ H _ _ R q λJ H1 n it ρ1 q1 f1 R1 W D hD=>by
 obtain⟨hcap,hn,⟨I,i0,turn,after⟩⟩:=q1
 let τρ0:=aX ix ρ1
 let τσ0:=r0 ix σ
 let Ai:Addr->Prop:=λb=>A b\/b=D\/(Wr ρ1 σ b/\¬ Wr τρ0 τσ0 b)
 let H0':=upd H1 D (.lst [])
 have wsub:∀b,Wr τρ0 τσ0 b->Wr ρ1 σ b:=λb ⟨m,p,e,o,s⟩=>by
  obtain⟨j,h1,h2⟩:=eY e;obtain⟨v,hv,_⟩:=R1.get j p h2;have:=fB h1 hv;rw [s] at this;cases this;exact⟨j,p,h2,o,hv⟩
 have nD:¬ Wr ρ1 σ D:=λz=>R1.wr z hD
 have oosub:∀b,OO Ai τρ0 τσ0 b->OO A ρ1 σ b\/b=D:=λb z=>by
  rcases z with (z|z|z)|z
  .exact .inl (.inl z)
  .exact .inr z
  .exact .inl (.inr z.1)
  .exact .inl (.inr (wsub b z))
 have kD:aQ (OO A ρ1 σ) H1 (OO Ai τρ0 τσ0) H0':=λb o nn e=>by
  refine⟨λz=>?_,?_⟩
  .rcases oosub b z with z|z
   .exact nn z
   .rw [z,hD] at e;cases e
  .rw [show H0' b=H1 b from ax (aD e hD)];exact e
 have Ri:Rel K Ai τρ0 τσ0 H0':=by
  refine⟨by show (aX ix ρ1).length=(r0 ix σ).length;unfold aX r0;rw [length_map,length_map],λm p e=>?_,λm l p q v e1 e2 o1 o2 s1 s2=>?_,λb z=>?_,λb z w=>?_⟩
  .obtain⟨j,h1,h2⟩:=eY e;obtain⟨v,hv,r⟩:=R1.get j p h2;refine⟨v,fB h1 hv,r.keeps kD λow a ea=>?_⟩;subst ea;exact ax (λz=>nD (by rw [<- z];exact⟨j,p,h2,ow,hv⟩))
  .obtain⟨j,h1,h2⟩:=eY e1;obtain⟨j',h3,h4⟩:=eY e2;obtain⟨v1,hv1,_⟩:=R1.get j p h2;obtain⟨v2,hv2,_⟩:=R1.get j' q h4;have t1:=fB h1 hv1;have t2:=fB h3 hv2;rw [s1] at t1;rw [s2] at t2;cases t1;cases t2;have:=R1.dj j j' p q _ h2 h4 o1 o2 hv1 hv2;subst this;exact lq hix h1 h3
  .rcases z with z|z|z
   .intro e
    by_cases zz:b=D
    .exact R1.dom b z (by rw [zz];exact hD)
    .rw [show H0' b=H1 b from ax zz] at e;exact R1.dom b z e
   .rw [z];show upd H1 D _ D≠none;rw [aG];exact nofun
   .intro e;rw [show H0' b=H1 b from ax (λzz=>nD (by rw [<- zz];exact z.1))] at e;exact R1.wr z.1 e
  .rcases z with z|z|z
   .exact R1.sep b z (wsub b w)
   .rw [z] at w;exact nD (wsub D w)
   .exact z.2 w
 let fxi:List (Nat×V):=(yi ix).filterMap λm=>match (τσ0[m]?) with|some (some v)=>some (m,v)|_=>none
 have hfx:∀p∈fxi,τσ0[p.1]?=some (some p.2):=λp hp=>by
  obtain⟨m,hm,e⟩:=Fd.mp hp
  split at e
  .rename_i v ev;cases e;exact ev
  .cases e
 have hfs:∀m∈fxi.map DO,m∈yi ix:=λm hm=>by
  obtain⟨p,hp,rfl⟩:=EC.mp hm;obtain⟨m',hm',e⟩:=Fd.mp hp
  split at e
  .cases e;exact hm'
  .cases e
 have hgi:=hg (fxi.map DO) hfs
 have fxget:∀(m j:Nat) (v:V),ix[m]?=some (some j)->σ[j]?=some (some v)->(m,v)∈fxi:=λm j v h1 h2=>by
  refine Fd.mpr ⟨m,?_,?_⟩
  .unfold yi;refine DK.mpr ⟨mem_range.mpr (g_.mp h1).1,?_⟩;rw [d_,h1];rfl
  .show (match (r0 ix σ)[m]? with|some (some v)=>some (m,v)|_=>none)=_;rw [fB h1 h2]
 let Rr:Addr->Prop:=λb=>Wr τρ0 τσ0 b\/b=D
 have hRr:∀b,Rr b->OO Ai τρ0 τσ0 b:=λb z=>z.elim (λz=>.inr z) (λz=>.inl (.inr (.inl z)));have F0:eQ fxi Rr H0' τρ0 τσ0 H0':=⟨λ_ _ _ h=>h,λ_ h=>h,λb w=>.inl (.inl w),hfx⟩
 refine⟨λi m τ H2=>i+m=n/\∃ys τρ xs,I i ys τρ/\ys.length<=i/\Rel K Ai τρ τ H2/\eQ fxi Rr H0' τρ τ H2/\H2 D=some (.lst xs)/\FVs K (OO Ai τρ τ) H2 xs ys/\∀b,Wr τρ τ b->Wr τρ0 τσ0 b,
  ⟨n,GM n,[],τρ0,[],i0,l_ _,Ri,F0,aG,.nil,λ_ h=>h⟩,λi m τ H2 ⟨him,ys,τρ,xs,iv,hy,r2,F2,eD,fD,hw⟩=>?_⟩
 have kk:aQ (OO A ρ1 σ) H1 (OO Ai τρ τ) H2:=λb o nn e=>(F2.keepsR hRr) b o (kD b o nn e).1 (kD b o nn e).2;obtain⟨go,stop⟩:=W _ H2 kk r2.dom2
 by_cases hk:i<n
 .obtain⟨g1,g2⟩:=go i hk;refine .inr ⟨g1,λx H3 y=>?_⟩;obtain⟨gr,fv⟩:=g2 x H3 y;have AiD:Ai D:=.inr (.inl rfl);refine hgi fxi Ai Rr H0' τρ τ H3 _ x _ _ rfl (F2.fr gr.fr) (r2.gr gr) fv (turn i ys τρ _ hk rfl iv) λτρ2 τ2 q2 r3 F3 w3=>?_;refine ht Ai τρ2 τ2 H3 _ _ r3 q2 λok H5 τρ3 q3 f5 r5=>?_;have F5:=F3.fr f5;have fD5:FVs K (OO Ai τρ3 τ2) H5 xs ys:=((fD.keeps (gr.fr (ρ:=τρ) (σ:=τ)).keeps).keeps (aQ.less λb z=>z.imp id (w3 b))).keeps f5.keeps
  have eD5:H5 D=some (.lst xs):=f5.kp D _ (r3.sep D AiD) (gr D _ eD)
  cases ok with
  | true =>
   refine he Ai τρ3 τ2 H5 _ _ r5 q3 λv H6 p τρ4 q4 f6 o6=>?_;obtain⟨r6,fv6⟩:=o6.frz;have F6:=F5.fr f6;have eD6:H6 D=some (.lst xs):=f6.kp D _ (r5.sep D AiD) eD5;have kw:aQ (OO Ai τρ4 τ2) H6 (OO Ai τρ4 τ2) (upd H6 D (.lst (xs++[v]))):=λb o nn e=>⟨nn,by rw [ax (λz=>nn (by rw [z];exact .inl AiD))];exact e⟩
   refine⟨xs,eD6,?_,m - 1,by omega,by omega,ys++[p.d],τρ4,xs++[v],q4,by rw [length_append];show _+1<=_;omega,r6.amb AiD,⟨λb o nn e=>?_,λb z=>?_,F6.ow,F6.fx⟩,aG,((fD5.keeps f6.keeps).append (.cons fv6 .nil)).keeps kw,λb z=>hw b (w3 b (f5.ow b (f6.ow b z)))⟩
   .have:xs.length=ys.length:=fD.length;exact pf (by omega:xs.length<1000000) (sz _ (l_ _))
   .rw [ax (λz=>nn (.inr z))];exact F6.kp b o nn e
   .by_cases zz:b=D
    .rw [zz,aG];exact nofun
    .rw [ax zz];exact F6.dm b z
  | false=>exact⟨m - 1,by omega,by omega,ys,τρ3,xs,q3,by omega,r5,F5,eD5,fD5,λb z=>hw b (w3 b (f5.ow b z))⟩
 .have e:i=n:=by omega
  subst e;refine .inl ⟨stop,?_⟩;have q':=after ys τρ iv
  have cap:∀(m j:Nat),ix[m]?=some (some j)->∃p v,ρ1[j]?=some (some p)/\σ[j]?=some (some v)/\τ[m]?=some (some v):=λm j e=>by
   have h1:=FY.mp hcap _ (z_ e);have h1:(match ρ1[j]? with|some (some _)=>true|_=>false)=true:=h1
   split at h1
   .rename_i p ep;obtain⟨v,hv,_⟩:=R1.get j p ep;exact⟨p,v,ep,hv,F2.fx _ (fxget m j v e hv)⟩
   .cases h1
  have get':∀(j:Nat) (p:PV),(en ix ρ1 τρ)[j]?=some (some p)->(∃m v,ix[m]?=some (some j)/\σ[j]?=some (some v)/\τ[m]?=some (some v)/\τρ[m]?=some (some p))\/(some j∉ix/\ρ1[j]?=some (some p)):=λj p e=>by
   by_cases hj:some j∈ix
   .obtain⟨m,hm,em⟩:=FL hj;have em':ix[m]?=some (some j):=by rw [cy hm,em]
    obtain⟨p0,v,h1,h2,h3⟩:=cap m j em';rw [nV ix ρ1 τρ j m hix em' (by rw [r2.len];exact (g_.mp h3).1) (g_.mp h1).1] at e;exact .inl ⟨m,v,em',h2,h3,e⟩
   .rw [iY ix ρ1 τρ j hj] at e;exact .inr ⟨hj,e⟩
  have nocap:∀(j:Nat) (p:PV) (b:Addr),some j∉ix->ρ1[j]?=some (some p)->p.isOwn=true->σ[j]?=some (some (.ref b))->¬ Wr τρ0 τσ0 b:=λj p b hj e o s ⟨m,q,e1,o1,s1⟩=>by
   obtain⟨j',h1,h2⟩:=eY e1;obtain⟨v,hv,_⟩:=R1.get j' q h2;have:=fB h1 hv;rw [s1] at this;cases this;have:=R1.dj j j' p q _ e h2 o o1 s hv;subst this;exact hj (z_ h1)
  have w':∀b,Wr (en ix ρ1 τρ) σ b->Wr τρ τ b\/(Wr ρ1 σ b/\¬ Wr τρ0 τσ0 b):=λb ⟨j,p,e,o,s⟩=>by
   rcases get' j p e with ⟨m,v,h1,h2,h3,h4⟩|⟨hj,h1⟩
   .rw [s] at h2;cases h2;exact .inl ⟨m,p,h4,o,h3⟩
   .exact .inr ⟨⟨j,p,h1,o,s⟩,nocap j p b hj h1 o s⟩
  have oo':∀b,OO (gv A D) (en ix ρ1 τρ) σ b->OO Ai τρ τ b:=λb z=>by
   rcases z with (z|z)|z
   .exact .inl (.inl z)
   .exact .inl (.inr (.inl z))
   .rcases w' b z with z|z
    .exact .inr z
    .exact .inl (.inr (.inr z))
  have kp1:∀b o,¬ Wr τρ0 τσ0 b->b≠D->H1 b=some o->H2 b=some o:=λb o n1 n2 e=>F2.kp b o (λz=>z.elim n1 n2) (by rw [show H0' b=H1 b from ax n2];exact e);have k1:aQ (OO A ρ1 σ) H1 (OO (gv A D) (en ix ρ1 τρ) σ) H2:=λb o nn e=>⟨λz=>(kk b o nn e).1 (oo' b z),(kk b o nn e).2⟩
  have AiD:Ai D:=.inr (.inl rfl)
  have R':Rel K (gv A D) (en ix ρ1 τρ) σ H2:=by
   refine⟨by rw [lp];exact R1.len,λj p e=>?_,λj l p q v e1 e2 o1 o2 s1 s2=>?_,λb z=>?_,λb z w=>?_⟩
   .rcases get' j p e with ⟨m,v,h1,h2,h3,h4⟩|⟨hj,h1⟩
    .obtain⟨v',hv',r⟩:=r2.get m p h4;rw [h3] at hv';cases hv';exact⟨v,h2,r.keeps (aQ.less oo') λ_ _ _=>rfl⟩
    .obtain⟨v,hv,r⟩:=R1.get j p h1;refine⟨v,hv,r.keeps k1 λow a ea=>?_⟩;subst ea;obtain⟨a',u,e1,e2⟩:=r.ref ow;cases e1;rw [e2];exact kp1 a u (nocap j p a hj h1 ow hv) (λz=>by rw [z,hD] at e2;cases e2) e2
   .rcases get' j p e1 with ⟨m,v1,h1,h2,h3,h4⟩|⟨hj,h1⟩
    .rw [s1] at h2;cases h2
     rcases get' l q e2 with ⟨m',v2,g1,g2,g3,g4⟩|⟨hl,g1⟩
     .rw [s2] at g2;cases g2;have:=r2.dj m m' p q _ h4 g4 o1 o2 h3 g3;subst this;rw [h1] at g1;cases g1;rfl
     .exfalso;obtain⟨v',hv',r⟩:=r2.get m p h4;rw [h3] at hv';cases hv';obtain⟨a,u,ea,_⟩:=r.ref o1;subst ea;exact nocap l q a hl g1 o2 s2 (hw a ⟨m,p,h4,o1,h3⟩)
    .rcases get' l q e2 with ⟨m',v2,g1,g2,g3,g4⟩|⟨hl,g1⟩
     .rw [s2] at g2;cases g2;exfalso;obtain⟨v',hv',r⟩:=r2.get m' q g4;rw [g3] at hv';cases hv';obtain⟨a,u,ea,_⟩:=r.ref o2;subst ea;exact nocap j p a hj h1 o1 s1 (hw a ⟨m',q,g4,o2,g3⟩)
     .exact R1.dj j l p q v h1 g1 o1 o2 s1 s2
   .rcases z with z|z
    .exact r2.dom b (.inl z)
    .rw [z,eD];exact nofun
   .rcases w' b w with w|w
    .rcases z with z|z
     .exact r2.sep b (.inl z) w
     .rw [z] at w;exact r2.sep D AiD w
    .rcases z with z|z
     .exact R1.sep b z w.1
     .rw [z] at w;exact nD w.1
  have f2:Fr ρ1 σ H1 (en ix ρ1 τρ) H2:=by
   refine⟨λb o nn e=>kp1 b o (λz=>nn (wsub b z)) (λz=>by rw [z,hD] at e;cases e) e,λb z=>F2.dm b ?_,λb z=>?_⟩
   .intro e
    by_cases zz:b=D
    .exact z (by rw [zz];exact hD)
    .rw [show H0' b=H1 b from ax zz] at e;exact z e
   .rcases w' b z with z|z
    .exact wsub b (hw b z)
    .exact z.1
  have hD0:H D=none:=by
   cases e:H D with
   | none=>rfl
   | some o=>exact absurd hD (f1.dm D (by rw [e];exact nofun))
  exact k _ H2 (.own ys) _ q' (f1.trans f2) ⟨D,xs,rfl,λz=>R1.dom D z hD,hD0,eD,R',fD.keeps (aQ.less oo')⟩
section
variable {K:a_}{A A':Addr->Prop}{ρ:PSt}{σ:St}{H H':Hp}
def Rel.lstw(R:Rel K A ρ σ H){i:Nat}{ds es:List D}{a:Addr}{ys:List V}(e:ρ[i]?=some (some (.own ds)))(es':σ[i]?=some (some (.ref a)))(f:FVs K (OO A ρ σ) H ys es) :
  Rel K A (ρ.set i (some (.own es))) σ (upd H a (.lst ys))/\Fr ρ σ H (ρ.set i (some (.own es))) (upd H a (.lst ys)):=by
 have wa:OO A ρ σ a:=.inr ⟨i,_,e,rfl,es'⟩;exact R.write (q:=.own es) e rfl rfl es' ⟨a,ys,rfl,aG,f.keeps λb u n h=>⟨n,by rw [ax (λz=>n (by rw [z];exact wa))];exact h⟩⟩
def Rel.ownAt(R:Rel K A ρ σ H){i:Nat}{ds:List D}(e:ρ[i]?=some (some (.own ds))):∃a xs,σ[i]?=some (some (.ref a))/\H a=some (.lst xs)/\FVs K (OO A ρ σ) H xs ds:=by
 obtain⟨v,s,a,xs,rfl,g,f⟩:=R.get i _ e;exact⟨a,xs,s,g,f⟩
end
noncomputable def CG(i:Nat)(pe:PTE):PTE:=λρ Q=>match ρ[i]? with
 | some (some (.own _))=>pe ρ λp ρ1=>(match ρ1[i]? with
  | some (some (.own ds))=>ds.length<1000000/\Q (.dat .non) (ρ1.set i (some (.own (ds++[p.d]))))
  | _=>False)
 | _=>False
section
variable {K:a_}{te tk:TE}{pe pk:PTE}{fs:List Nat}
def mK{i:Nat}(h:LE K te pe):LE K (tBM K "list" rF (aV i) (aU te dZ)) (CG i pe):=λA ρ σ H Q Q' R q k=>by
 unfold CG at q
 split at q
 .rename_i ds0 e0;obtain⟨a0,xs0,s0,g0,f0⟩:=R.ownAt e0;refine⟨_,s0,.inl ⟨rfl,xs0,SqL.of g0⟩,h A ρ σ H _ _ R q λv H1 p ρ1 q1 f1 o1=>?_⟩;obtain⟨R1,fv⟩:=o1.frz
  split at q1
  .rename_i ds e1;obtain⟨a,xs,s,g,f⟩:=R1.ownAt e1;rw [s0] at s;cases s;obtain⟨R2,f2⟩:=R1.lstw e1 s0 (f.append (.cons fv .nil));exact⟨a0,xs,v,rfl,rfl,g,pf (by rw [f.length];exact q1.1) (sz _ (l_ _)),k _ _ _ _ q1.2 (f1.trans f2) ⟨R2,.non⟩⟩
  .exact q1.elim
 .exact q.elim
end
noncomputable def spP(K:a_)(c:FN):Sp:=λvs H Q _=>∃(O:Addr->Prop) (ds:List D) (Qc:PV->Prop),(∀b,O b->H b≠none)/\FVs K O H vs ds/\c ds Qc/\∀r,Qc r->∀v H',Gr H H'->nR K O H H' r v->Q v H'
noncomputable def mL(c:FN)(pr:PTA):PTE:=λρ Q=>pr ρ λas ρ1=>match avD as with
 | some ds=>c ds λr=>Q r ρ1
 | none=>False
def jm{N:List Str}{vs:List V}{i:Nat}{v:V}(h:vs[i]?=some v):(start N vs)[i]?=some (some v):=by
 unfold start;rw [EE (by rw [length_map];exact (g_.mp h).1),k_,h];rfl
noncomputable def cC(n:Nat)(ps:List PV):PSt:=ps.map some++u_ (n - ps.length) none
def dR{n:Nat}{ps:List PV}{i:Nat}{p:PV}(h:(cC n ps)[i]?=some (some p)):ps[i]?=some p:=by
 unfold cC at h
 by_cases hi:i<ps.length
 .rw [EE (by rw [length_map];exact hi),k_] at h
  cases e:ps[i]? with
  | none=>rw [e] at h;cases h
  | some q=>rw [e] at h;cases h;rfl
 .rw [Ez (by rw [length_map];omega)] at h;have:=z_ h;rw [mem_replicate] at this;cases this.2
section
variable {K:a_}{tr:TA}{pr:PTA}{ts:TS}{ps:PTS}
def ar{c:FN}(h:LAs K tr pr):LE K (d5 (spP K c) [] E0 tr) (mL c pr):=λA ρ σ H Q Q' R q k=>h A ρ σ H _ _ R q λvs H1 as ρ1 q1 f1 R1 o1=>by
 split at q1
 .rename_i ds e;rw [DQ];exact⟨OO A ρ1 σ,ds,_,R1.dom2,o1.avD e,q1,λr qr v H' g ov=>k v H' r ρ1 qr (f1.trans g.fr) ((ov.out R1 g).h0 f1.dm)⟩
 .exact q1.elim
def Out.outV{O:Addr->Prop}{ρ:PSt}{σ:St}{H H':Hp}{p:PV}{v:V}(h:Out K O ρ σ H H' p v):nR K O H H' p v:=by
 cases p with
 | dat d=>exact h.2.keeps (aQ.less λb z=>.inl z)
 | own ds =>
  obtain⟨a,xs,e1,na,e2,e3,R,f⟩:=h;exact⟨a,xs,e1,e2,e3,f.keeps (aQ.less λb z=>.inl z)⟩
 | ins c ns ds =>
  obtain⟨a,dx,fs,e1,na,e2,e3,m,R,f⟩:=h;exact⟨a,dx,fs,e1,e2,e3,m,f.keeps (aQ.less λb z=>.inl z)⟩
def fnP{c:FN}{N:List Str}(hl:LS K [] ts ps)(hn:∀ds Q,c ds Q->ds.length<=N.length)(hc:∀ds Q,c ds Q->ps { nx:=λ_=>Q (.dat .non),rt:=λp _=>Q p } (cC N.length (ds.map .dat)))
  {vs:List V}{H:Hp}{Q:VK}{E:XK} (h:spP K c vs H Q E):ts { nx:=λ_ H'=>Q .non H',rt:=Q } (start N vs) H:=by
 obtain⟨O,ds,Qc,dom,fv,hq,k⟩:=h
 have nw:∀(ρ:PSt) (b:Addr),ρ=cC N.length (ds.map .dat)->¬ Wr ρ (start N vs) b:=λρ b e ⟨i,p,e1,o1,s1⟩=>by
  rw [e] at e1;have:=dR e1;rw [k_] at this
  cases e2:ds[i]? with
  | none=>rw [e2] at this;cases this
  | some d=>rw [e2] at this;cases this;cases o1
 have lenv:=fv.length;have hle:=hn ds Qc hq
 have R0:Rel K O (cC N.length (ds.map .dat)) (start N vs) H:=by
  refine⟨?_,λi p e=>?_,λi j p q v e1 e2 o1 o2 s1 s2=>?_,dom,λb _ w=>nw _ b rfl w⟩
  .unfold cC start;rw [length_append,length_append,length_map,length_map,length_map,length_replicate,length_replicate,lenv]
  .have:=dR e;rw [k_] at this
   cases e2:ds[i]? with
   | none=>rw [e2] at this;cases this
   | some d =>
    rw [e2] at this;cases this;obtain⟨v,hv,f⟩:=fv.getD e2;exact⟨v,jm hv,f.keeps (aQ.less λb z=>z.elim id λw=>absurd w (nw _ b rfl))⟩
  .have:=dR e1;rw [k_] at this
   cases e3:ds[i]? with
   | none=>rw [e3] at this;cases this
   | some d=>rw [e3] at this;cases this;cases o1
 refine hl [] O (λ_=>False) H _ _ H _ _ rfl R0 ⟨λ_ _ _ h=>h,λ_ h=>h,λb w=>absurd w (nw _ b rfl),λp hp=>nomatch hp⟩ (hc ds Qc hq) (λρ' σ' H' q r F=>?_) (λv p ρ' σ' H' q o F=>?_) (λ_ _ _ z=>z.elim) (λ_ _ _ z=>z.elim)
 .exact k _ q .non H' (λb o e=>F.kp b o id e) .non
 .exact k _ q v H' (λb o e=>F.kp b o id e) o.outV
abbrev FR:=PV->List D->(PV->PV->Prop)->Prop
noncomputable def spR(K:a_)(c:FR):Sp:=λvs H Q _=>∃(A:Addr->Prop) (a:Addr) (p:PV) (ws:List V) (ds:List D) (Qc:PV->PV->Prop),vs=.ref a::ws/\p.isOwn=true/\(∀b,A b->H b≠none)/\¬ A a/\RS K (gv A a) H p (.ref a)/\FVs K (gv A a) H ws ds/\c p ds Qc /\
 ∀r p',Qc r p'->p'.isOwn=true->∀v H',(∀b o,b≠a->H b=some o->H' b=some o)->H' a≠none->RS K (gv A a) H' p' (.ref a)->nR K (gv A a) H H' r v->(∀a',v=.ref a'->r.isOwn=true->RS K (gv (gv A a) a') H' p' (.ref a))->Q v H'
noncomputable def yj(Q:PV->PV->Prop)(r:PV)(ρ:PSt):Prop:=match ρ[0]? with
 | some (some p)=>p.isOwn=true/\Q r p
 | _=>False
def fnR{c:FR}{N:List Str}(hl:LS K [0] ts ps)(hn:∀p ds Q,c p ds Q->ds.length+1<=N.length)(hc:∀p ds Q,p.isOwn=true->c p ds Q->ps { nx:=yj Q (.dat .non),rt:=yj Q } (cC N.length (p::ds.map .dat)))
  {vs:List V}{H:Hp}{Q:VK}{E:XK} (h:spR K c vs H Q E):ts { nx:=λ_ H'=>Q .non H',rt:=Q } (start N vs) H:=by
 obtain⟨A,a,p,ws,ds,Qc,rfl,ow,dom,na,rs,fv,hq,k⟩:=h;have s0:(start N (V.ref a::ws))[0]?=some (some (.ref a)):=jm rfl;have b0:(cC N.length (p::ds.map .dat))[0]?=some (some p):=rfl
 have wr:∀b,Wr (cC N.length (p::ds.map .dat)) (start N (.ref a::ws)) b->b=a:=λb ⟨i,q,e1,o1,s1⟩=>by
  have:=dR e1
  cases i with
  | zero=>rw [s0] at s1;cases s1;rfl
  | succ i =>
   rw [ET,k_] at this
   cases e2:ds[i]? with
   | none=>rw [e2] at this;cases this
   | some d=>rw [e2] at this;cases this;cases o1
 have wa:Wr (cC N.length (p::ds.map .dat)) (start N (.ref a::ws)) a:=⟨0,p,b0,ow,s0⟩
 have oeq:OO A (cC N.length (p::ds.map .dat)) (start N (.ref a::ws))=gv A a:=funext λb=>propext ⟨λz=>z.imp id (wr b),λz=>z.imp id λz=>by rw [z];exact wa⟩;have lenv:=fv.length;have hle:=hn p ds Qc hq
 have R0:Rel K A (cC N.length (p::ds.map .dat)) (start N (.ref a::ws)) H:=by
  refine⟨?_,λi q e=>?_,λi j q1 q2 v e1 e2 o1 o2 s1 s2=>?_,dom,λb z w=>?_⟩
  .unfold cC start;simp only [length_append,length_map,length_replicate,length_cons,lenv]
  .have:=dR e;rw [oeq]
   cases i with
   | zero=>cases this;exact⟨_,s0,rs⟩
   | succ i =>
    rw [ET,k_] at this
    cases e2:ds[i]? with
    | none=>rw [e2] at this;cases this
    | some d =>
     rw [e2] at this;cases this;obtain⟨v,hv,f⟩:=fv.getD e2;exact⟨v,jm (by rw [ET];exact hv),f⟩
  .have own0:∀(i:Nat) (q:PV),(cC N.length (p::ds.map .dat))[i]?=some (some q)->q.isOwn=true->i=0:=λi q e o=>by
    have:=dR e
    cases i with
    | zero=>rfl
    | succ i =>
     rw [ET,k_] at this
     cases e2:ds[i]? with
     | none=>rw [e2] at this;cases this
     | some d=>rw [e2] at this;cases this;cases o
   rw [own0 i q1 e1 o1,own0 j q2 e2 o2]
  .rw [wr b w] at z;exact na z
 have fin:∀(v:V) (r:PV) (ρ':PSt) (σ':St) (H':Hp),yj Qc r ρ'->Out K A ρ' σ' H H' r v->eQ [(0,.ref a)] (λb=>b=a) H ρ' σ' H'->Q v H':=λv r ρ' σ' H' q o F=>by
  unfold yj at q
  split at q
  .rename_i p' e';obtain⟨ow',q⟩:=q;have sa:=F.fx (0,.ref a) (DI.mpr rfl);have wa':Wr ρ' σ' a:=⟨0,p',e',ow',sa⟩
   have kpa:∀b o,b≠a->H b=some o->H' b=some o:=λb o n e=>F.kp b o n e
   cases r with
   | dat d =>
    obtain⟨R1,f1⟩:=o;obtain⟨v1,s1,rs1⟩:=R1.get 0 p' e';rw [sa] at s1;cases s1;have less:∀b,gv A a b->OO A ρ' σ' b:=λb z=>z.imp id λz=>by rw [z];exact wa'
    exact k _ p' q ow' v H' kpa (R1.wr wa') (rs1.keeps (aQ.less less) λ_ _ _=>rfl) (f1.keeps (aQ.less less)) (λ_ _ z=>nomatch z)
   | own es =>
    obtain⟨a',xs,rfl,n1,n2,e3,R1,f1⟩:=o;obtain⟨v1,s1,rs1⟩:=R1.get 0 p' e';rw [sa] at s1;cases s1
    have less:∀b,gv (gv A a) a' b->OO (gv A a') ρ' σ' b:=λb z=>by
     rcases z with (z|z)|z
     .exact .inl (.inl z)
     .exact .inr (by rw [z];exact wa')
     .exact .inl (.inr z)
    exact k _ p' q ow' _ H' kpa (R1.wr wa') (rs1.keeps (aQ.less λb z=>less b (.inl z)) λ_ _ _=>rfl) ⟨a',xs,rfl,n2,e3,f1.keeps (aQ.less less)⟩ (λa'' e _=>by cases e;exact rs1.keeps (aQ.less less) λ_ _ _=>rfl)
   | ins c ns es =>
    obtain⟨a',dx,fs,rfl,n1,n2,e3,m,R1,f1⟩:=o;obtain⟨v1,s1,rs1⟩:=R1.get 0 p' e';rw [sa] at s1;cases s1
    have less:∀b,gv (gv A a) a' b->OO (gv A a') ρ' σ' b:=λb z=>by
     rcases z with (z|z)|z
     .exact .inl (.inl z)
     .exact .inr (by rw [z];exact wa')
     .exact .inl (.inr z)
    exact k _ p' q ow' _ H' kpa (R1.wr wa') (rs1.keeps (aQ.less λb z=>less b (.inl z)) λ_ _ _=>rfl) ⟨a',dx,fs,rfl,n2,e3,m,f1.keeps (aQ.less less)⟩ (λa'' e _=>by cases e;exact rs1.keeps (aQ.less less) λ_ _ _=>rfl)
  .exact q.elim
 refine hl [(0,.ref a)] A (λb=>b=a) H _ _ H _ _ rfl R0 ⟨λ_ _ _ h=>h,λ_ h=>h,λb w=>.inl (wr b w),λq hq=>by rw [DI.mp hq];exact s0⟩ (hc p ds Qc ow hq) (λρ' σ' H' q r F=>fin .non (.dat .non) ρ' σ' H' q ⟨r,.non⟩ F) (λv p ρ' σ' H' q o F=>fin v p ρ' σ' H' q o F) (λ_ _ _ z=>z.elim) (λ_ _ _ z=>z.elim)
end
noncomputable def CH:FN:=λas Q=>∃ns:List Int,as=[.scr ns]/\ns.length<=63/\Q (.dat (.bl true))
def xp{K:a_}{vs:List V}{H:Hp}{Q:VK}{E:XK}(h:nN K vs H Q E):spP K CH vs H Q E:=by
 obtain⟨a,ns,rfl,hS,h63,q⟩:=h
 refine⟨λ_=>False,[.scr ns],λr=>r=.dat (.bl true),nofun,.cons (.scr ?_) .nil,⟨ns,rfl,h63,rfl⟩,λr e v H' g o=>?_⟩
 .rcases hS with h|h
  .exact .inl ⟨id,h⟩
  .exact .inr h
 .subst e;cases o;exact q H'
section
variable {K:a_}{X:Cx}
noncomputable def CI:List V->Hp->VK->Prop:=λxs H Q=>∃i,xs=[.int i]/\Q (.int (if i<0 then -i else i)) H
noncomputable def zM:List V->Hp->VK->Prop:=λxs H Q=>∃i j,xs=[.int i,.int j]/\Q (.int (if j<i then j else i)) H
def zN:bx X (.builtin "abs") CI:=ua
def vD(hc:X.calm=true):bx X (.builtin "min") zM:=rq hc
noncomputable def CJ:FN
 | [.int i],Q=>Q (.dat (.int (if i<0 then -i else i)))
 | _,_=>False
noncomputable def zO:FN
 | [.int i,.int j],Q=>Q (.dat (.int (if j<i then j else i)))
 | _,_=>False
def vE:LC K CI CJ:=by
 intro O H xs as Q Q' dom fs q k;unfold CJ at q
 split at q
 .cases fs with|cons a b=>cases b;rw [a.int];exact⟨_,rfl,k _ H _ q (Gr.refl _) (.int _)⟩
 .exact q.elim
def sC:LC K zM zO:=by
 intro O H xs as Q Q' dom fs q k;unfold zO at q
 split at q
 .cases fs with
  | cons a b=>cases b with|cons b c=>cases c;rw [a.int,b.int];exact⟨_,_,rfl,k _ H _ q (Gr.refl _) (.int _)⟩
 .exact q.elim
noncomputable def zP(K:a_):List V->Hp->VK->Prop:=λxs H Q=>∃(p:Addr) (ns:List Int),xs=[.ref p]/\SqL K H p (ns.map V.int)/\0<ns.length/\∀m:Int,m∈ns->(∀a∈ns,m<=a)->Q (.int m) H
noncomputable def zQ(K:a_):List V->Hp->VK->Prop:=λxs H Q=>∃(p:Addr) (ns:List Int),xs=[.ref p]/\SqL K H p (ns.map V.int)/\Q (.int ns.sum) H
noncomputable def CK(K:a_):List V->Hp->VK->Prop:=λxs H Q=>∃(p:Addr) (bs:List Bool),xs=[.ref p]/\SqL K H p (bs.map V.bl)/\Q (.bl (bs.all id)) H
noncomputable def CL(K:a_):List V->Hp->VK->Prop:=λxs H Q=>∃(p:Addr) (bs:List Bool),xs=[.ref p]/\SqL K H p (bs.map V.bl)/\Q (.bl (bs.any id)) H
def zR(K:a_)(e:X.K=K)(hc:X.calm=true):bx X (.builtin "min") (zP K):=by subst e;exact sm hc
def zS(K:a_)(e:X.K=K)(hc:X.calm=true):bx X (.builtin "sum") (zQ K):=by subst e;exact sr hc
def BR(K:a_)(e:X.K=K)(hc:X.calm=true):bx X (.builtin "all") (CK K):=by subst e;exact uu hc
def BS(K:a_)(e:X.K=K)(hc:X.calm=true):bx X (.builtin "any") (CL K):=by subst e;exact uv hc
noncomputable def zT:FN
 | [.lst ds],Q=>∃ns:List Int,ds=ns.map .int/\0<ns.length/\∀m:Int,m∈ns->(∀a∈ns,m<=a)->Q (.dat (.int m))
 | _,_=>False
noncomputable def xq:FN
 | [.lst ds],Q=>∃ns:List Int,ds=ns.map .int/\Q (.dat (.int ns.sum))
 | _,_=>False
noncomputable def BU:FN
 | [.lst ds],Q=>∃bs:List Bool,ds=bs.map .bl/\Q (.dat (.bl (bs.all id)))
 | _,_=>False
noncomputable def CM:FN
 | [.lst ds],Q=>∃bs:List Bool,ds=bs.map .bl/\Q (.dat (.bl (bs.any id)))
 | _,_=>False
def xr:LC K (zP K) zT:=by
 intro O H xs as Q Q' dom fs q k;unfold zT at q
 split at q
 .obtain⟨ns,rfl,h0,q⟩:=q
  cases fs with
  | cons a b =>
   cases b;obtain⟨p,ys,rfl,e1,f1⟩:=a.lst;rw [f1.ints] at e1;exact⟨p,ns,rfl,SqL.of e1,h0,λm hm hle=>k _ H _ (q m hm hle) (Gr.refl _) (.int _)⟩
 .exact q.elim
def xt:LC K (zQ K) xq:=by
 intro O H xs as Q Q' dom fs q k;unfold xq at q
 split at q
 .obtain⟨ns,rfl,q⟩:=q
  cases fs with
  | cons a b =>
   cases b;obtain⟨p,ys,rfl,e1,f1⟩:=a.lst;rw [f1.ints] at e1;exact⟨p,ns,rfl,SqL.of e1,k _ H _ q (Gr.refl _) (.int _)⟩
 .exact q.elim
def zU:LC K (CK K) BU:=by
 intro O H xs as Q Q' dom fs q k;unfold BU at q
 split at q
 .obtain⟨ns,rfl,q⟩:=q
  cases fs with
  | cons a b =>
   cases b;obtain⟨p,ys,rfl,e1,f1⟩:=a.lst;rw [f1.bls] at e1;exact⟨p,ns,rfl,SqL.of e1,k _ H _ q (Gr.refl _) (.bl _)⟩
 .exact q.elim
def zV:LC K (CL K) CM:=by
 intro O H xs as Q Q' dom fs q k;unfold CM at q
 split at q
 .obtain⟨ns,rfl,q⟩:=q
  cases fs with
  | cons a b =>
   cases b;obtain⟨p,ys,rfl,e1,f1⟩:=a.lst;rw [f1.bls] at e1;exact⟨p,ns,rfl,SqL.of e1,k _ H _ q (Gr.refl _) (.bl _)⟩
 .exact q.elim
noncomputable def xu(K:a_):List V->Hp->VK->Prop:=λxs H Q=>∃p ys,xs=[.ref p]/\((SqL K H p ys/\∀l,H l=none->Q (.ref l) (upd H l (.tup ys)))\/(SqT K H p ys/\Q (.ref p) H))
def gX(K:a_)(e:X.K=K):bx X (.type "tuple") (xu K):=by subst e;exact kY
def zW(K:a_)(e:X.K=K):bx X (.type "list") (ss K):=by subst e;exact ml
noncomputable def kz:FN
 | [.lst ds],Q=>Q (.dat (.tup ds))
 | [.tup ds],Q=>Q (.dat (.tup ds))
 | [.scr ns],Q=>Q (.dat (.tup (ns.map .int)))
 | _,_=>False
noncomputable def xv:FN
 | [.lst ds],Q=>Q (.own ds)
 | [.tup ds],Q=>Q (.own ds)
 | [.scr ns],Q=>Q (.own (ns.map .int))
 | _,_=>False
def fC:LC K (xu K) kz:=by
 intro O H xs as Q Q' dom fs q k;unfold kz at q
 split at q
 .cases fs with
  | cons a b =>
   cases b;obtain⟨p,ys,rfl,e1,f1⟩:=a.lst;exact⟨p,ys,rfl,.inl ⟨SqL.of e1,λl hl=>k _ _ _ q (Gr.new hl) (ji dom hl f1)⟩⟩
 .cases fs with
  | cons a b =>
   cases b;obtain⟨p,ys,rfl,n1,e1,f1⟩:=a.tup;exact⟨p,ys,rfl,.inr ⟨SqT.of e1,k _ H _ q (Gr.refl _) (.tup n1 e1 f1)⟩⟩
 .cases fs with
  | cons a b =>
   cases b;obtain⟨p,rfl,e1⟩:=a.scr;exact⟨p,_,rfl,.inl ⟨e1,λl hl=>k _ _ _ q (Gr.new hl) (ji dom hl (FVs.of_ints _))⟩⟩
 .exact q.elim
def xw:LC K (ss K) xv:=by
 intro O H xs as Q Q' dom fs q k;unfold xv at q
 split at q
 .cases fs with
  | cons a b =>
   cases b;obtain⟨p,ys,rfl,e1,f1⟩:=a.lst;exact⟨p,ys,rfl,.inl (SqL.of e1),λl hl=>k _ _ _ q (Gr.new hl) (ek hl f1)⟩
 .cases fs with
  | cons a b =>
   cases b;obtain⟨p,ys,rfl,n1,e1,f1⟩:=a.tup;exact⟨p,ys,rfl,.inr (SqT.of e1),λl hl=>k _ _ _ q (Gr.new hl) (ek hl f1)⟩
 .cases fs with
  | cons a b =>
   cases b;obtain⟨p,rfl,e1⟩:=a.scr;exact⟨p,_,rfl,.inl e1,λl hl=>k _ _ _ q (Gr.new hl) (ek hl (FVs.of_ints _))⟩
 .exact q.elim
variable {ta:TE}{pa:PA1}{tr:TA}{pr:PTA}{pe:PTE}
noncomputable def q0(i:Int)(n:Nat):List D:=(c_ n).map λ(k:Nat)=>D.int (i+(k:Int))
noncomputable def mkL(tup:Bool)(ds:List D):PV:=match tup with|true=>.dat (.tup ds)|false=>.own ds
noncomputable def zX(tup:Bool)(pr:PTA):PTE:=λρ Q=>pr ρ λas ρ1=>match as with
 | [.v (.int j)]=>(0<=j/\j<=1000000)/\Q (mkL tup (q0 0 j.toNat)) ρ1
 | _=>False
def zY{O:Addr->Prop}{H:Hp}(i:Int)(n:Nat):FVs K O H (nP i 1 n) (q0 i n):=by
 have e:∀l:List Nat,FVs K O H (l.map λ(k:Nat)=>V.int (i+k*1)) (l.map λ(k:Nat)=>D.int (i+(k:Int))):=λl=>by
  induction l with
  | nil=>exact .nil
  | cons a r ih=>exact .cons (by show FV K O H (V.int (i+(a:Int)*1)) (D.int (i+(a:Int)));rw [show i+(a:Int)*1=i+(a:Int) by omega];exact .int _) ih
 exact e _
def kA{i j:Int}(h:i<=j):DR i j 1=(((j - i).toNat:Nat):Int):=by
 unfold DR;rw [if_pos (by decide)];simp only [ediv_one];split <;> omega
def qD{i j:Int}(h0:-1000000<=i)(h1:i<=j)(h2:j<=1000000):EL i j 1=true:=by
 unfold EL;rw [kA h1];simp only [Fy,and_eq_true,or_eq_true,decide_eq_true_eq,beq_iff_eq,show (1:Int) > 0 by decide,if_true];omega
noncomputable def mkO(tup:Bool):List V->HO:=match tup with|true=>.tup|false=>.lst
def zZ{O:Addr->Prop}{H:Hp}{xs:List V}{ds:List D}{p:Addr}(tup:Bool)(dom:∀b,O b->H b≠none)(hp:H p=none)(f:FVs K O H xs ds):nR K O H (upd H p (mkO tup xs)) (mkL tup ds) (.ref p):=by
 cases tup with
 | true=>exact ji dom hp f
 | false=>exact ek hp f
def uJ(tup:Bool)(h:LAs K tr pr):LE K (tCB (Br K (mkO tup)) (aU (λσ H Q=>tr σ H λvs H1=>∃j:Int,vs=[.int j]/\∀p,H1 p=none->Q (.ref p) (upd H1 p (vy p 0 j 1))) dZ)) (zX tup pr):=λA ρ σ H Q Q' R q k=>h A ρ σ H _ _ R q λvs H1 as ρ1 q1 f1 R1 o1=>by
 split at q1
 .rename_i j
  cases o1 with
  | cons a b =>
   cases b;cases a;refine⟨j,rfl,λp hp=>⟨p,0,j,1,j.toNat,rfl,aG,qD (by decide) q1.1.1 q1.1.2,by rw [kA q1.1.1,Int.sub_zero],by omega,λl hl=>?_⟩⟩;have g:Gr H1 (upd H1 p (vy p 0 j 1)):=Gr.new hp;have R2:=R1.gr g;have g2:Gr (upd H1 p (vy p 0 j 1)) (upd (upd H1 p (vy p 0 j 1)) l (mkO tup (nP 0 1 j.toNat))):=Gr.new hl;exact k _ _ _ ρ1 q1.2 (f1.trans (g.fr.trans g2.fr)) ((nR.out R2 g2 (zZ tup R2.dom2 hl (zY 0 _))).h0 λb z=>(g.fr (ρ:=ρ1) (σ:=σ)).dm b (f1.dm b z))
 .exact q1.elim
def z0(K:a_)(e:X.K=K)(hc:X.calm=true):bx X (.type "list") (Br K (mkO false)):=by subst e;exact qy hc
abbrev FM:=List Nat->List D->(PV->Prop)->Prop
noncomputable def LM(K:a_)(r:V->List V->Hp->VK->Prop)(f:FM):Prop:=∀(O:Addr->Prop) (H:Hp) (l:List Nat) (xs:List V) (as:List D) (Q:PV->Prop) (Q':VK),(∀b,O b->H b≠none)->l.length<=1000000->yg K O H xs as->f l as Q ->
 (∀v H' p,Q p->Gr H H'->nR K O H H' p v->Q' v H')->r (.str (S l)) xs H Q'
noncomputable def pSM(f:FM)(pe:PTE)(pr:PTA):PTE:=λρ Q=>pe ρ λp ρ1=>match p with
 | .dat (.str l)=>pr ρ1 λas ρ2=>(match conts ρ2 as with
  | some ds=>f l ds λr=>Q r ρ2
  | none=>False)
 | _=>False
def Aa{r:V->List V->Hp->VK->Prop}{f:FM}(o:LM K r f)(he:LE K ta pe)(hr:LAs K tr pr):LE K (tBM K "str" r ta tr) (pSM f pe pr):=λA ρ σ H Q Q' R q k=>he A ρ σ H _ _ R q λv H1 p ρ1 q1 f1 o1=>by
 split at q1
 .rename_i l;obtain⟨R1,fv⟩:=o1
  cases fv with
  | str _ hl =>
   refine⟨rfl,hr A ρ1 σ H1 _ _ R1 q1 λvs H2 as ρ2 q2 f2 R2 o2=>?_⟩
   split at q2
   .rename_i ds e;exact o _ H2 l vs ds _ _ R2.dom2 hl (R2.conts o2 e) q2 λz H3 p q3 g ov=>k z H3 p ρ2 q3 ((f1.trans f2).trans g.fr) ((ov.out R2 g).h0 λb z=>f2.dm b (f1.dm b z))
   .exact q2.elim
 .exact q1.elim
noncomputable def Ab:V->List V->Hp->VK->Prop:=λx xs H Q=>∃a b,x=.str (S a)/\xs=[.str (S b)]/\Q (.bl (decide (b <:+ a))) H
noncomputable def vF:V->List V->Hp->VK->Prop:=λx xs H Q=>∃a b,x=.str (S a)/\xs=[.str (S b)]/\Q (.int (fnd a b 0)) H
def xx:MtR X "str.endswith" Ab:=nM
def uK:MtR X "str.find" vF:=ur
noncomputable def Ac:FM
 | a,[.str b],Q=>Q (.dat (.bl (decide (b <:+ a))))
 | _,_,_=>False
noncomputable def vG:FM
 | a,[.str b],Q=>Q (.dat (.int (fnd a b 0)))
 | _,_,_=>False
def xy:LM K Ab Ac:=by
 intro O H l xs as Q Q' dom hl fs q k;unfold Ac at q
 split at q
 .cases fs with|cons a b=>cases b;rw [a.str.1];exact⟨_,_,rfl,rfl,k _ H _ q (Gr.refl _) (.bl _)⟩
 .exact q.elim
def uL:LM K vF vG:=by
 intro O H l xs as Q Q' dom hl fs q k;unfold vG at q
 split at q
 .cases fs with|cons a b=>cases b;rw [a.str.1];exact⟨_,_,rfl,rfl,k _ H _ q (Gr.refl _) (.int _)⟩
 .exact q.elim
noncomputable def dy(f:Str):List Str->Option Nat
 | []=>none
 | n::r=>if n=f then some 0 else (dy f r).map (·+1)
theorem mM{f:Str}:∀{fs:List (Str×V)}{k:Nat},dy f (fs.map DO)=some k->fs.lookup f=(fs.map Fk)[k]?
 | [],k,h=>by cases h
 | (n,v)::r,k,h=>by
  unfold dy at h;rw [map_cons] at h;simp only at h;rw [D2]
  by_cases e:n=f
  .rw [if_pos e] at h;cases h;rw [show (f == n)=true by rw [e];exact beq_self_eq_true _];rfl
  .rw [if_neg e] at h;rw [show (f == n)=false from beq_eq_false_iff_ne.mpr λz=>e z.symm]
   cases e2:dy f (r.map DO) with
   | none=>rw [e2] at h;cases h
   | some j=>rw [e2] at h;cases h;show ED f r=_;rw [mM e2];simp
theorem jn{f:Str}:∀{fs:List (Str×V)},dy f (fs.map DO)=none->fs.lookup f=none
 | [],h=>rfl
 | (n,v)::r,h=>by
  unfold dy at h;rw [map_cons] at h;simp only at h;rw [D2]
  by_cases e:n=f
  .rw [if_pos e] at h;cases h
  .rw [if_neg e] at h;rw [show (f == n)=false from beq_eq_false_iff_ne.mpr λz=>e z.symm]
   cases e2:dy f (r.map DO) with
   | none=>exact jn e2
   | some j=>rw [e2] at h;cases h
theorem lr{f:Str}{v:V}:∀{fs:List (Str×V)},dy f (fs.map DO)=none->km f v fs=fs++[(f,v)]
 | [],h=>rfl
 | (n,x)::r,h=>by
  unfold dy at h;rw [map_cons] at h;simp only at h
  by_cases e:n=f
  .rw [if_pos e] at h;cases h
  .rw [if_neg e] at h
   cases e2:dy f (r.map DO) with
   | none=>unfold km;rw [if_neg e,lr e2];rfl
   | some j=>rw [e2] at h;cases h
def FVc.obj{O:Addr->Prop}{H:Hp}{v:V}{c:Str}{ns:List Str}{ds:List D}(h:FVc K O H v (.obj c ns ds)):∃a dx fs,v=.ref a/\H a=some (.ins (bo K c) dx fs)/\fs.map DO=ns/\FVs K O H (fs.map Fk) ds:=by
 rcases h with h|⟨a,xs,ds',e1,e2,e3,f⟩|⟨a,dx,c,fs,ns,ds',e1,e2,e3,m,f⟩
 .cases h with
  | obj n e m f=>exact⟨_,_,_,rfl,e,m,f⟩
 .cases e2
 .cases e2;exact⟨a,dx,fs,e1,e3,m,f⟩
noncomputable def sD(c0:Str)(ns0:List Str)(k:Nat)(pa:PA1):PTE:=λρ Q=>pa ρ λx ρ1=>match cont ρ1 x with
 | some (.obj c ns ds)=>(c=c0/\ns=ns0)/\∃d,ds[k]?=some d/\Q (.dat d) ρ1
 | _=>False
def eJ{c0 f:Str}{ns0:List Str}{i:Nat}(hc:Cls K (bo K c0))(hn:dq K (bo K c0) f)(hk:dy f ns0=some i)(h:LA1 K ta pa):LE K (tR K ta f) (sD c0 ns0 i pa):=λA ρ σ H Q Q' R q k=>h A ρ σ H _ _ R q λv H1 a ρ1 q1 f1 R1 o1=>by
 split at q1
 .rename_i c ns ds e;obtain⟨⟨rfl,rfl⟩,d,hd,q1⟩:=q1;obtain⟨a,dx,fs,rfl,e1,m,f⟩:=(R1.cont o1 e).obj;obtain⟨v,hv,fv⟩:=f.getD hd;exact⟨a,_,dx,fs,v,rfl,e1,hc,hn,by rw [mM (k:=i) (by rw [m];exact hk)];exact hv,k v H1 _ ρ1 q1 f1 ⟨R1,fv⟩⟩
 .exact q1.elim
noncomputable def jo(c0:Str)(ns0:List Str)(f:Str)(i:Nat)(pe:PTE):PTS:=λD ρ=>pe ρ λp ρ1=>match ρ1[i]? with
 | some (some (.ins c ns ds))=>(c=c0/\ns=ns0/\ns0.length<1000)/\D.nx (ρ1.set i (some (.ins c0 (ns0++[f]) (ds++[p.d]))))
 | _=>False
def gY{fs':List Nat}{c0 f:Str}{ns0:List Str}{i:Nat}(hc:Cls K (bo K c0))(hn:dq K (bo K c0) f)(hk:dy f ns0=none)(h:LE K ta pe):LS K fs' (Cq K (aV i) ta f) (jo c0 ns0 f i pe):=λfx A R H0 ρ σ H D D' hf r F q k1 k2 k3 k4=>h A ρ σ H _ _ r q λv H1 p ρ1 q1 f1 o1=>by
 obtain⟨R1,fv⟩:=o1.frz
 split at q1
 .rename_i c ns ds e;obtain⟨⟨rfl,rfl,hl⟩,q1⟩:=q1;obtain⟨w,s,a,dx,fs,rfl,g,m,ff⟩:=R1.get i _ e;have hk':dy f (fs.map DO)=none:=by rw [m];exact hk
  have wa:OO A ρ1 σ a:=.inr ⟨i,_,e,rfl,s⟩;have kw:∀o,aQ (OO A ρ1 σ) H1 (OO A ρ1 σ) (upd H1 a o):=λo b u n h=>⟨n,by rw [ax (λz=>n (by rw [z];exact wa))];exact h⟩
  obtain⟨R2,f2⟩:=R1.write (o:=.ins (bo K c) dx (km f v fs)) (q:=.ins c (ns++[f]) (ds++[p.d])) e rfl rfl s ⟨a,dx,km f v fs,rfl,aG,by rw [lr hk',map_append,m];rfl,by rw [lr hk',map_append];exact (ff.append (.cons fv .nil)).keeps (kw _)⟩;refine⟨_,s,a,_,dx,fs,rfl,g,hc,hn,?_,k1 _ _ _ q1 R2 ((F.fr f1).fr f2)⟩;have:fs.length=ns.length:=by rw [<- m,length_map]
  omega
 .exact q1.elim
noncomputable def BV(c0:Str)(c:FR)(pr:PTA):PTE:=λρ Q=>pr ρ λas ρ1=>match avD as with
 | some ds=>c (.ins c0 [] []) ds λr p'=>(match r,p' with
  | .dat .non,.ins c1 ns es=>c1=c0/\Q (.ins c1 ns es) ρ1
  | _,_=>False)
 | none=>False
def nW{c0:Str}{c:FR}(h:LAs K tr pr):LE K (ud (bo K c0) (spR K c) [] E0 tr) (BV c0 c pr):=λA ρ σ H Q Q' R q k=>h A ρ σ H _ _ R q λvs H1 as ρ1 q1 f1 R1 o1=>by
 split at q1
 .rename_i ds e;intro x dx hx hdx hne;rw [DQ]
  let H2:=upd (upd H1 dx (.own x)) x (.ins (bo K c0) dx [])
  have g2:Gr H1 H2:=λb o z=>by
   show upd (upd H1 dx (.own x)) x _ b=_;rw [ax (aD z hx),ax (aD z hdx)];exact z
  have nx:¬ OO A ρ1 σ x:=R1.oo hx
  have keep2:aQ (OO A ρ1 σ) H1 (gv (OO A ρ1 σ) x) H2:=λb o n z=>by
   refine⟨λy=>?_,g2 b o z⟩
   rcases y with y|y
   .exact n y
   .rw [y,hx] at z;cases z
  refine⟨OO A ρ1 σ,x,.ins c0 [] [],vs,ds,_,rfl,rfl,λb z=>(g2.fr (ρ:=ρ1) (σ:=σ)).dm b (R1.dom2 b z),nx,⟨x,dx,[],rfl,aG,rfl,.nil⟩,(o1.avD e).keeps keep2,q1,λr p' qr ow' v H' kp ha rs ov _=>?_⟩
  split at qr
  .obtain⟨rfl,qr⟩:=qr;cases ov;refine⟨rfl,?_⟩;obtain⟨a',dx',fs,ea,e2,m,f⟩:=rs;cases ea;have g:Gr H1 H':=λb o z=>kp b o (aD z hx) (g2 b o z)
   have hx0:H x=none:=by
    cases eb:H x with
    | none=>rfl
    | some o=>exact absurd hx (f1.dm x (by rw [eb];exact nofun))
   refine k _ H' _ ρ1 qr (f1.trans g.fr) ⟨x,dx',fs,rfl,λz=>nx (.inl z),hx0,e2,m,R1.grA g hx (by rw [e2];exact nofun),f.keeps (aQ.less λb z=>?_)⟩
   rcases z with (z|z)|z
   .exact .inl (.inl z)
   .exact .inr z
   .exact .inl (.inr z)
  .exact qr.elim
 .exact q1.elim
noncomputable def Ad(c0:Str)(ns0:List Str)(c:FN)(pe:PTE)(pr:PTA):PTE:=λρ Q=>pe ρ λp ρ1=>match p.d with
 | .obj c1 ns ds=>(c1=c0/\ns=ns0)/\pr ρ1 λas ρ2=>(match avD as with
  | some es=>c (.obj c1 ns ds::es) λr=>Q r ρ2
  | none=>False)
 | _=>False
def pT{c0 m:Str}{ns0:List Str}{c:FN}(hm:dy m ns0=none)(he:LE K ta pe)(hr:LAs K tr pr):LE K (wz (bo K c0) m (spP K c) [] E0 ta tr) (Ad c0 ns0 c pe pr):=λA ρ σ H Q Q' R q k=>he A ρ σ H _ _ R q λv H1 p ρ1 q1 f1 o1=>by
 obtain⟨R1,fv⟩:=o1.frz
 split at q1
 .rename_i c1 ns ds e;rw [e] at fv;obtain⟨⟨rfl,rfl⟩,q1⟩:=q1;obtain⟨a,dx,fs,rfl,e1,mm,f⟩:=FVc.obj (.inl fv);refine⟨a,dx,fs,rfl,e1,jn (by rw [mm];exact hm),hr A ρ1 σ H1 _ _ R1 q1 λvs H2 as ρ2 q2 f2 R2 o2=>?_⟩
  split at q2
  .rename_i es e3;rw [DQ];exact⟨OO A ρ2 σ,_::es,_,R2.dom2,.cons (fv.keeps f2.keeps) (o2.avD e3),q2,λr qr v H' g ov=>k v H' r ρ2 qr ((f1.trans f2).trans g.fr) ((ov.out R2 g).h0 λb z=>f2.dm b (f1.dm b z))⟩
  .exact q2.elim
 .exact q1.elim
end
abbrev sE:R2:=rI0 λi j=>.int (i - j)
abbrev BW:R2:=rI (λ_ j=>0<j) λi j=>.int (i % j)
abbrev BX:R2:=rI Bg λi j=>.int (i / j)
abbrev BY:R2:=rI yF λi j=>.int (i^j.toNat)
abbrev BZ:R2:=rI0 λi j=>.bl (decide (j<i))
abbrev Dm:R2:=rI0 λi j=>.bl (decide (j<=i))
abbrev Ae:V->Hp->VK->Prop:=rU λi=>.int (-i)
noncomputable def CN:D->(PV->Prop)->Prop
 | .int i,Q=>Q (.dat (.int (-i)))
 | _,_=>False
section
variable {K:a_}{X:Cx}{ta:TE}{tr:TA}{pr:PTA}{ts:TS}{ps:PTS}
def nX:OpR X (binaryOp .Sub) sE:=yH
def qE:OpR X (binaryOp .Mod) BW:=yJ
def vH:OpR X (binaryOp .FloorDiv) BX:=wq
def B0:OpR X (binaryOp .Pow) BY:=yK
def uM:OpR X (compareOp .Gt) BZ:=Bl
def CO:OpR X (compareOp .GtE) Dm:=Bm
def sF:LU K Ae CN:=by
 intro O H x a Q Q' dom fx q k;unfold CN at q
 split at q
 .rename_i i;exact⟨i,fx.int,k _ H _ q (Gr.refl _) (.int _)⟩
 .exact q.elim
def pU{es:List Expr}{ct:Nat}{tp:Pos}(K:a_)(e:X.K=K){a:Expr}{ta:TA}{p pos:Pos}(hg:Gl X "enumerate")(hm:X.mg "enumerate"=none)(ha:PA X [a] ta)(hs:starEach [a] X.env=[(false,eval a X.env)]:=by rfl) :
  PI X (.Tuple es ct tp) (.Call (.Name "enumerate" p) [a] [] pos) (wX K ta):=by subst e;exact wY hg hm ha hs
def xz{es:List Expr}{ct:Nat}{tp:Pos}(K:a_)(e:X.K=K){a b:Expr}{ta:TA}{p pos:Pos}(hg:Gl X "zip")(hm:X.mg "zip"=none)(ha:PA X [a,b] ta)
  (hs:starEach [a,b] X.env=[(false,eval a X.env),(false,eval b X.env)]:=by rfl) (hs2:starEach [b] X.env=[(false,eval b X.env)]:=by rfl) :
  PI X (.Tuple es ct tp) (.Call (.Name "zip" p) [a,b] [] pos) (uB K ta):=by subst e;exact wZ hg hm ha hs hs2
def gZ{ix:List (Option Nat)}{fs:List Nat}{i:Nat}(h:∀k∈fs,k∈yi ix)(hi:(yi ix).contains i=false):fs.contains i=false:=by
 cases e:fs.contains i with
 | false=>rfl
 | true =>
  have:=h i (EJ.mp e);rw [EJ.mpr this] at hi;cases hi
noncomputable def Af(c:FN)(es:List D)(pr:PTA):PTE:=λρ Q=>pr ρ λas ρ1=>match avD as with
 | some ds=>c (ds++es) λr=>Q r ρ1
 | none=>False
def uN{c:FN}{vs0:List V}{ds:List D}(hd:∀{O:Addr->Prop}{H:Hp},FVs K O H vs0 ds)(h:LAs K tr pr):LE K (d5 (spP K c) vs0 E0 tr) (Af c ds pr):=λA ρ σ H Q Q' R q k=>h A ρ σ H _ _ R q λvs H1 as ρ1 q1 f1 R1 o1=>by
 split at q1
 .rename_i es e;exact⟨OO A ρ1 σ,_,_,R1.dom2,(o1.avD e).append hd,q1,λr qr v H' g ov=>k v H' r ρ1 qr (f1.trans g.fr) ((ov.out R1 g).h0 f1.dm)⟩
 .exact q1.elim
def Ba{c:FN}{n:Nat}(hn:∀ds Q,c ds Q->ds.length=n){vs:List V}{H:Hp}{Q:VK}{E:XK}(h:spP K c vs H Q E):vs.length=n:=by
 obtain⟨O,ds,Qc,_,f,hq,_⟩:=h;rw [f.length];exact hn ds Qc hq
def Dn{c:FR}{n:Nat}(hn:∀p ds Q,c p ds Q->ds.length+1=n){vs:List V}{H:Hp}{Q:VK}{E:XK}(h:spR K c vs H Q E):vs.length=n:=by
 obtain⟨A,a,p,ws,ds,Qc,rfl,_,_,_,_,f,hq,_⟩:=h;rw [length_cons,f.length];exact hn p ds Qc hq
abbrev Bb(pp:PTS)(n:Nat)(ds:List D)(Q:PV->Prop):Prop:=pp { nx:=λ_=>Q (.dat .non),rt:=λp _=>Q p } (cC n (ds.map .dat))
abbrev CP(pp:PTS)(n:Nat)(p:PV)(ds:List D)(Q:PV->PV->Prop):Prop:=pp { nx:=yj Q (.dat .non),rt:=yj Q } (cC n (p::ds.map .dat))
end
end L2
namespace L2
def Cal.imp{P:PySem.Program}{w:PySem.World}{K:a_}{mg:PySem.Str->Option PySem.Value}{base:PySem.Heap}{k:Nat}{x:PySem.Str}{ps:List PySem.Str}{sp sp':Sp}(C:Cal P w K mg base k x ps sp)(h:∀vs H Q E,sp' vs H Q E->sp vs H Q E):Cal P w K mg base k x ps sp':=by
 obtain⟨f,fd,F,r⟩:=C.ex;exact⟨f,fd,F.imp h,r⟩
end L2
namespace L2
open PySem PySem.Spec PyProof.Rows
def cfm{ix:List (Option Nat)}{ρ1:PSt}{n:Nat}{it:Nat->D}{g:PTG}{pt:PTT}{pe:PTE}{Q:PKt}(T:PSt->Prop)(f:Nat->Option D)(h0:T (aX ix ρ1))
  (hs:∀k τ d,k<n->d=it k->T τ->∀(K1:D->PSt->Prop) (K2:PSt->Prop),(∀d τ',f k=some d->T τ'->K1 d τ')->(∀τ',f k=none->T τ'->K2 τ')->g (.dat d) τ λτ2=>pt τ2 λok τ3=>fA ok (pe τ3 λp τ4=>K1 p.d τ4) (K2 τ3))
  (hq:∀τ,T τ->Q (.own ((c_ n).filterMap f)) (en ix ρ1 τ)) :
  jl ix ρ1 n it g pt pe Q:=by
 refine⟨λk ys τ=>ys=(c_ k).filterMap f/\T τ,⟨rfl,h0⟩,λk ys τ dd hk ed ⟨e,t⟩=>?_,λys τ ⟨e,t⟩=>by rw [e];exact hq τ t⟩
 have r:(c_ (k+1)).filterMap f=(c_ k).filterMap f++(f k).toList:=by
  rw [range_succ,filterMap_append]
  cases e:f k with
  | none=>rw [show [k].filterMap f=[] by simp [e]];rfl
  | some d=>rw [show [k].filterMap f=[d] by simp [e]];rfl
 refine hs k τ dd hk ed t (λd τ'=>(ys++[d]=(c_ (k+1)).filterMap f/\T τ')) (λτ'=>(ys=(c_ (k+1)).filterMap f/\T τ')) (λd τ' h t'=>⟨?_,t'⟩) (λτ' h t'=>⟨?_,t'⟩)
 .rw [r,e,h];rfl
 .rw [r,e,h];simp
def tS{ix:List (Option Nat)}{ρ1:PSt}{n:Nat}{it:Nat->D}{g:PTG}{pe:PTE}{Q:PKt}(T:PSt->Prop)(f:Nat->D)(h0:T (aX ix ρ1))
  (hs:∀k τ d,k<n->d=it k->T τ->∀K1:D->PSt->Prop,(∀τ',T τ'->K1 (f k) τ')->g (.dat d) τ λτ2=>pe τ2 λp τ4=>K1 p.d τ4)
  (hq:∀τ,T τ->Q (.own ((c_ n).map f)) (en ix ρ1 τ)) :
  jl ix ρ1 n it g uI pe Q:=by
 refine cfm T (λk=>some (f k)) h0 (λk τ d hk ed t K1 K2 k1 k2=>?_) λτ t=>?_
 .exact hs k τ d hk ed t K1 λτ' t'=>k1 _ τ' rfl t'
 .have:(c_ n).filterMap (λk=>some (f k))=(c_ n).map f:=by rw [<- filterMap_eq_map];rfl
  rw [this];exact hq τ t
def eo{β:Type}(f:Nat->β)(l:List Nat):(c_ l.length).map (λk=>f (l.getD k 0))=l.map f:=by
 apply Gn;intro i;rw [k_,k_]
 by_cases h:i<l.length
 .rw [D0 h];show some (f (l.getD i 0))=_;rw [d_,cy h];rfl
 .rw [y_ (by rw [C0];omega),y_ (by omega)];rfl
noncomputable def pw(ws:List (List Nat))(k:Nat):List Nat:=ws.getD k []
def cE{ws:List (List Nat)}{k:Nat}(h:k<ws.length):ws[k]?=some (pw ws k):=by unfold pw;rw [d_,cy h];rfl
def bL{ws:List (List Nat)}{k:Nat}(h:k<ws.length):pw ws k∈ws:=z_ (cE h)
def eZ{ws:List (List Nat)}{k:Nat}(h:k<(ws.map D.str).length):itD (ws.map D.str) k=.str (pw ws k):=eX (by rw [k_,cE (by rwa [length_map] at h)];rfl)
def bN{ws:List (List Nat)}{i:Int}{k:Nat}(h:k<ws.length)(e:i=(k:Int)):atI (ws.map D.str) i=some (.str (pw ws k)):=eV (j:=k) (by rw [k_,cE h];rfl) e
def mN{l:List Nat}{k:Nat}(h:k<l.length):l.take (k+1)=l.take k++[l.getD k 0]:=by
 rw [take_succ,d_,cy h];rfl
noncomputable def Pc(m:Nat)(w:List Nat):Prop:=0<w.length/\w.length<=m/\Lts w
noncomputable def Pcs(m:Nat)(ws:List (List Nat)):Prop:=∀w∈ws,Pc m w
def Pcs.app{m:Nat}{ws:List (List Nat)}{w:List Nat}(h:Pcs m ws)(h':Pc m w):Pcs m (ws++[w]):=λv hv=>by
 rcases DP.mp hv with z|z
 .exact h v z
 .rw [DI.mp z];exact h'
noncomputable def ltB(c:Nat):Bool:=decide (97<=c) && decide (c<=122)
noncomputable def uO:D->Int->Int->Bool
 | .str l,a,b=>(decide (a<=(l.length:Int)) && decide ((l.length:Int)<=b)) && l.all ltB
 | _,_,_=>false
def lu(l:List Nat)(a b:Int):uO (.str l) a b=((decide (a<=(l.length:Int)) && decide ((l.length:Int)<=b)) && l.all ltB):=rfl
noncomputable def B1:D->Nat
 | .str l=>l.length
 | _=>0
def fV{l:List Nat}:l.all ltB=true ↔ Lts l:=by
 rw [FY];unfold Lts ltB
 constructor
 .intro h c hc;have:=h c hc;rw [and_eq_true,decide_eq_true_eq,decide_eq_true_eq] at this;exact this
 .intro h c hc;rw [and_eq_true,decide_eq_true_eq,decide_eq_true_eq];exact h c hc
def sG{w:List Nat}:uO (.str w) 1 60=true ↔ Pc 60 w:=by
 unfold uO Pc;rw [and_eq_true,and_eq_true,decide_eq_true_eq,decide_eq_true_eq,fV]
 constructor
 .rintro⟨⟨h1,h2⟩,h3⟩;exact⟨by omega,by omega,h3⟩
 .rintro⟨h1,h2,h3⟩;exact⟨⟨by omega,by omega⟩,h3⟩
def nY(i j:Nat):(!decide (([j]:List Nat)<[i]))=decide (i<=j):=by
 by_cases h:i<=j
 .rw [decide_eq_true h]
  have:¬ ([j]:List Nat)<[i]:=by
   rw [Ea]
   rintro (z|⟨_,z⟩)
   .omega
   .exact absurd z (List.lt_irrefl _)
  rw [decide_eq_false this];rfl
 .rw [decide_eq_false h]
  have:([j]:List Nat)<[i]:=by
   rw [Ea];exact .inl (by omega)
  rw [decide_eq_true this];rfl
section
variable {X:Cx}{K:a_}
noncomputable def sH(neg:Bool):R2:=λx y H Q=>∃a b,x=.ref a/\y=.ref b/\H a=some (.dK [])/\H b=some (.dK [])/\Q (.bl (!neg)) H
def uP(hu:X.A.units+64<cLine):OpR X (compareOp .Eq) (sH false):=by
 intro pins s σ H x y v u Q I rx ry ⟨a,b,e1,e2,h1,h2,q⟩;subst e1 e2;cases rx;cases ry;obtain⟨_,y1,vs,r1,p1⟩:=(show bC X.prog X.w H s.heap a (.dK []) from I.hok a _ h1)
 obtain⟨_,y2,ws,r2,p2⟩:=(show bC X.prog X.w H s.heap b (.dK []) from I.hok b _ h2)
 cases r1;cases r2;exact PySem.W.keq_eq (r:=true) y1 y2 p1 p2 (by omega) (λ_=>.nil) ⟨.bl true,H,I,rfl,q⟩
def uQ(hu:X.A.units+64<cLine):OpR X (compareOp .NotEq) (sH true):=by
 intro pins s σ H x y v u Q I rx ry ⟨a,b,e1,e2,h1,h2,q⟩;subst e1 e2;cases rx;cases ry;obtain⟨_,y1,vs,r1,p1⟩:=(show bC X.prog X.w H s.heap a (.dK []) from I.hok a _ h1)
 obtain⟨_,y2,ws,r2,p2⟩:=(show bC X.prog X.w H s.heap b (.dK []) from I.hok b _ h2)
 cases r1;cases r2;exact PySem.W.keq_ne (r:=true) y1 y2 p1 p2 (by omega) (λ_=>.nil) ⟨.bl false,H,I,rfl,q⟩
noncomputable def uR(K:a_)(neg:Bool):R2:=λx y H Q=>zx K neg x y H Q\/sH neg x y H Q
def mO(K:a_)(e:X.K=K)(hu:X.A.units+64<cLine):OpR X (compareOp .Eq) (uR K false):=OpR.or (Dh K e hu) (uP hu)
def qF(K:a_)(e:X.K=K)(hu:X.A.units+64<cLine):OpR X (compareOp .NotEq) (uR K true):=OpR.or (Di K e hu) (uQ hu)
noncomputable def CQ:F2
 | .dic [] [],.dic [] [],Q=>Q (.dat (.bl true))
 | a,b,Q=>fEq a b Q
noncomputable def CS:F2
 | .dic [] [],.dic [] [],Q=>Q (.dat (.bl false))
 | a,b,Q=>fNe a b Q
def FVc.dic0{O:Addr->Prop}{H:Hp}{v:V}(h:FVc K O H v (.dic [] [])):∃a,v=.ref a/\H a=some (.dK []):=by
 cases h.fv nofun nofun with
 | dic n e m f =>
  rename_i a kvs
  cases kvs with
  | nil=>exact⟨a,rfl,e⟩
  | cons x r=>cases m
def iB:LO K (uR K false) CQ:=by
 intro O H x y a b Q Q' dom fx fy q k;unfold CQ at q
 split at q
 .obtain⟨a,rfl,e1⟩:=fx.dic0;obtain⟨b,rfl,e2⟩:=fy.dic0;exact .inr ⟨a,b,rfl,rfl,e1,e2,k _ H _ q (Gr.refl _) (.bl _)⟩
 .exact .inl (BK O H x y _ _ Q Q' dom fx fy q k)
def kC:LO K (uR K true) CS:=by
 intro O H x y a b Q Q' dom fx fy q k;unfold CS at q
 split at q
 .obtain⟨a,rfl,e1⟩:=fx.dic0;obtain⟨b,rfl,e2⟩:=fy.dic0;exact .inr ⟨a,b,rfl,rfl,e1,e2,k _ H _ q (Gr.refl _) (.bl _)⟩
 .exact .inl (BL O H x y _ _ Q Q' dom fx fy q k)
end
section
variable {X:Cx}{K:a_}{te:TE}{pe:PTE}{fs:List Nat}
noncomputable def vI:TIp:=λx y H Q=>rI0 (λi j=>.int (i+j)) x y H Q\/∃a b,x=.str (S a)/\y=.str (S b)/\a.length+b.length<=1000000/\Q (.str (S (a++b))) H
def xA:PIp X .Add vI:=by
 intro pins s σ H x y v u Q I rx ry q
 rcases q with q|⟨a,b,rfl,rfl,hl,q⟩
 .exact wt pins s σ H x y v u Q I rx ry q
 .obtain⟨t,rfl⟩:=rx;obtain⟨t',rfl⟩:=ry;refine PyProof.Rows.iadd_str (λt2 k=>⟨.str (S (a++b)),H,I.tok k,⟨t2,by rw [yW]⟩,q⟩) ?_;rw [eP,eP];exact r_ hl (sz _ (l_ _))
noncomputable def ipD:D->D->(D->Prop)->Prop
 | .int a,.int b,Q=>Q (.int (a+b))
 | .str a,.str b,Q=>a.length+b.length<=1000000/\Q (.str (a++b))
 | _,_,_=>False
noncomputable def Ag(i:Nat)(pe:PTE):PTS:=λE ρ=>match ρ[i]? with
 | some (some (.dat d))=>pe ρ λp ρ1=>(match ρ1[i]? with
  | some (some (.dat d'))=>d'=d/\ipD d p.d λr=>fK i (.dat r) ρ1 E.nx
  | _=>False)
 | _=>False
def Ah{i:Nat}(hi:LG K fs (bw i) (fK i))(h:LE K te pe):LS K fs (Cn i te vI) (Ag i pe):=λfx A R H0 ρ σ H E E' hf r F q k1 k2 k3 k4=>by
 unfold Ag at q
 split at q
 .rename_i d e;obtain⟨v0,s0,rs0⟩:=r.get i _ e;refine⟨v0,s0,h A ρ σ H _ _ r q λv H1 p ρ1 q1 f1 o1=>?_⟩;obtain⟨R1,fv⟩:=o1.frz
  split at q1
  .rename_i d' e1;obtain⟨rfl,q1⟩:=q1;obtain⟨v1,s1,rs1⟩:=R1.get i _ e1;rw [s0] at s1;cases s1;have fv1:FV K (OO A ρ1 σ) H1 v0 d':=rs1;unfold ipD at q1
   split at q1
   .rename_i a b ep;rw [ep] at fv;cases fv1;cases fv;exact .inl ⟨a,b,rfl,rfl,hi fx A R H0 ρ1 σ H1 (.dat (.int (a+b))) _ _ _ hf (F.fr f1) ⟨R1,.int _⟩ q1 k1⟩
   .rename_i a b ep;rw [ep] at fv;cases fv1;cases fv;exact .inr ⟨a,b,rfl,rfl,q1.1,hi fx A R H0 ρ1 σ H1 (.dat (.str (a++b))) _ _ _ hf (F.fr f1) ⟨R1,.str _ (by rw [length_append];exact q1.1)⟩ q1.2 k1⟩
   .exact q1.elim
  .exact q1.elim
 .exact q.elim
abbrev Aj:R2:=rI yF λi j=>.int (i*2^j.toNat)
abbrev Do:F2:=fI (λi j=>0<=j/\j<=1000000/\i.natAbs<2^64) λi j=>.int (i*2^j.toNat)
def Ak:OpR X (binaryOp .LShift) Aj:=yL
def vJ:LO K Aj Do:=zq λ_ _ _ _=>.int _
abbrev B2:R2:=rI (λ_ j=>0<=j) λi j=>.int (i / 2^j.toNat)
abbrev Dp:F2:=fI (λ_ j=>0<=j) λi j=>.int (i / 2^j.toNat)
def B3:OpR X (binaryOp .RShift) B2:=yM
def Al:LO K B2 Dp:=zq λ_ _ _ _=>.int _
abbrev xB:R2:=rI0 λi j=>.int (Er i j)
abbrev B4:F2:=fI0 λi j=>.int (Er i j)
def Am:OpR X (binaryOp .BitAnd) xB:=yN
def xC:LO K xB B4:=uE λ_ _ _ _=>.int _
end
section
variable {prog:n_}{w:World}{A:t_}{E:Value->cx->Prop}{s:cx}
theorem mP{it t:Addr}{items:Array Value}(hne:t≠it):∀(n i:Nat) (s:cx) (Q:List Value->cx->Prop),s.heap.IsListIter it t i->s.heap.IsList t items->i+n<=items.size ->
  (∀h',h'.IsListIter it t (i+n)->E3 it s.heap h'->Q ((items.toList.drop i).take n) { s with heap:=h' })->wpAny (model prog w) A (draw (.ref it) n) Q E s
 | 0,i,s,Q,hit,_,_,hQ=>by
  show wpAny _ _ (pure []) Q E s;exact e_ (by simpa using hQ s.heap hit (Heap.SameBut.refl ..))
 | n+1,i,s,Q,hit,ht,hle,hQ=>by
  have hlt:i<items.size:=by omega
  show wpAny _ _ (pyNext (.ref it) >>= _) Q E s;refine b_ (wpAny_pyNext_list_item hit ht (x:=items[i]) (by simp [hlt]) λh₁ hit₁ hs₁=>?_);refine b_ (DU (mP hne n (i+1) _ _ hit₁ (ht.extBut hs₁.extBut hne) (by omega) λh₂ hit₂ hs₂=>e_ ?_));have hd:items.toList.drop i=items[i]::items.toList.drop (i+1):=by simp [drop_eq_getElem_cons,hlt]
  have:=hQ h₂ (by rw [show i+(n+1)=i+1+n by omega];exact hit₂) (hs₁.trans hs₂);rw [hd,take_succ_cons] at this;exact this
def iN{t:Addr}{items:Array Value}{Q:List Value->cx->Prop}(hh:A.handled=none)(ht:s.heap.IsList t items)
  (hQ:∀h',GE s.heap.objs.size s.heap h'->Q items.toList { s with heap:=h' }):wpAny (model prog w) A (unpackItems (.ref t) items.size none) Q E s:=by
 have hlt:t≠s.heap.objs.size:=by obtain⟨o,ho,_⟩:=ht;exact DC (h_ ho)
 unfold unpackItems
 refine b_ ?_
 .unfold notIterableAtAll;refine b_ (wpAny_specialOf ht.typeIs PySem.F.slot_list_iter.lookup ?_);refine e_ ?_;simp only [false_eq_true,if_false];refine b_ (DU (Ei ht ?_));refine b_ (DU (mP hlt items.size 0 _ _ ⟨_,f_ _ rfl,rfl,rfl⟩ (ht.push _) (by omega) λh₁ hit₁ hs₁=>?_))
  have hall:List.take items.size (List.drop 0 items.toList)=items.toList:=by
   rw [drop_zero];exact DZ (by simp)
  rw [hall];rw [if_neg (by simp)];have ht₁:h₁.IsList t items:=(ht.push _).extBut hs₁.extBut hlt;refine b_ (DU (wpAny_pyNext_list_end hh hit₁ ht₁ (by simp) λh₂ he₂=>?_));simp only [Option.isSome_none,false_eq_true,if_false];refine e_ (hQ h₂ λb o hb e=>he₂ b o hb (hs₁.extBut b o hb (cn _ e)))
def g9{env:Env}{elts:List Expr}{x1}{pos:Pos}{t:Addr}{items:Array Value}{Q:Unit->cx->Prop}(hh:A.handled=none)(ht:s.heap.IsList t items)
  (hn:(assignEach elts env).length=items.size) (hstar:(assignEach elts env).findIdx? (·.1)=none)
  (h:∀h',GE s.heap.objs.size s.heap h'->wpAny (model prog w) A (assignInOrder ((assignEach elts env).map (·.2)) items.toList) Q E { s with heap:=h' }) :
  wpAny (model prog w) A (assign (.Tuple elts x1 pos) env (.ref t)) Q E s:=by
 rw [assign_Tuple];refine b_ (wpAny_standAt ?_);unfold unpack;rw [hn,hstar];exact b_ (DU (iN hh ht h))
end
noncomputable def xD(K:a_)(n:Nat)(t:TGs):TG:=λv σ H Q=>∃b a xs,v=.ref a/\Sq b K H a xs/\xs.length=n/\t xs σ H Q
section
variable {X:Cx}
def kE(K:a_)(eK:X.K=K){es:List Expr}{k:Nat}{t:TGs}{n:Nat}{pos:Pos}(hc:X.calm=true)(h:PGs X es t)
  (hn:(assignEach es X.env).length=n:=by rfl) (hst:(assignEach es X.env).findIdx? (·.1)=none:=by rfl):PG X (.Tuple es k pos) (xD K n t):=by
 subst eK;intro pins s σ H v u Q I r hw;obtain⟨b,a,xs,e1,hq,hl,hw⟩:=hw
 cases b with
 | true=>exact yB hc h hn hst pins s σ H v u Q I r ⟨a,xs,e1,hq,hl,hw⟩
 | false =>
  subst e1;cases r;obtain⟨its,rv,ht,hz⟩:=I.list hq;refine g9 (I.ok.hd hc) ht.isList (by simp [hn,<- hl,rv.length]) hst λh' hx=>?_;have I1:Inv X pins σ H { s with heap:=h' }:=I.kept (t':=s.toks) λb o e=>hx b o (DC (h_ e)) e;exact h pins _ σ H xs _ Q I1 (by simpa using rv) hw
noncomputable def sI(n:Nat)(gs:xk):PTG:=λp ρ Q=>match p with|.dat (.tup ds)=>ds.length=n/\gs ds ρ Q|.dat (.lst ds)=>ds.length=n/\gs ds ρ Q|.own ds=>ds.length=n/\gs ds ρ Q|_=>False
end
section
variable {K:a_}{fs:List Nat}
def hG{n:Nat}{gs:TGs}{pgs:xk}(h:LGs K fs gs pgs):LGd K fs (xD K n gs) (sI n pgs):=λfx A R H0 ρ σ H d v Q Q' hf F r fv q k=>by
 unfold sI at q
 split at q
 .rename_i e;cases e
  cases fv with
  | tup nn e f=>exact⟨true,_,_,rfl,SqT.of e,by rw [f.length];exact q.1,h fx A R H0 ρ σ H _ _ Q Q' hf F r f q.2 k⟩
 .rename_i e;cases e
  cases fv with
  | lst nn e f=>exact⟨false,_,_,rfl,SqL.of e,by rw [f.length];exact q.1,h fx A R H0 ρ σ H _ _ Q Q' hf F r f q.2 k⟩
 .rename_i e;cases e
 .exact q.elim
end
noncomputable def rc(d:D)(xs:List D):Prop:=d=.lst xs\/d=.tup xs
def xE{d:D}{xs:List D}{Q:PV->Prop}(h:rc d xs)(q:Q (.own xs)):xv [d] Q:=by
 rcases h with rfl|rfl <;> exact q
def rc.lst(xs:List D):rc (.lst xs) xs:=.inl rfl
def rc.tup(xs:List D):rc (.tup xs) xs:=.inr rfl
noncomputable def nSt:Expr->Bool
 | .Starred _ _=>false
 | _=>true
def fW{e:Expr}{es:List Expr}{env:Env}(h:nSt e=true):starEach (e::es) env=(false,eval e env)::starEach es env:=by
 cases e <;> first|rfl|cases h
theorem fE{env:Env}{pos:Pos}:∀{es:List Expr},es.all nSt=true->(backTo pos (starEach es env)).any (·.1)=false
 | [],_=>rfl
 | e::es,h=>by
  rw [all_cons,and_eq_true] at h;rw [fW h.1];show (false || (backTo pos (starEach es env)).any (·.1))=false;rw [fE h.2];rfl
section
variable {X:Cx}{k:Nat}{x:Str}{ps:List Str}{sp:Sp}{e:Expr}{es:List Expr}{te:TE}{t:TA}{p pos:Pos}{dvs:List V}{C:Addr}{id T:String}{r:List V->Hp->VK->Prop}
def paC(ha:PE X e te)(hr:PA X es t)(hn:nSt e=true:=by rfl):PA X (e::es) (aU te t):=wy ha hr (fW hn)
def aA(C:Cal X.prog X.w X.K X.mg X.base k x ps sp)(hr:cQ k X.A)(ha:PA X (e::es) t)(hg:Gl X x:=by rfl)(hdb:(x == ("__debug__":Str))=false:=by decide)(hn:nSt e=true:=by rfl)(hp:es.all nSt=true:=by rfl) :
  PE X (.Call (.Name x p) (e::es) [] pos) (d5 sp [] E0 t):=ze C hr ha hg hdb (fW hn) (fE hp)
def uS(j:Nat)(C:zi X.prog X.w X.K X.mg X.base k x ps dvs sp)(hr:cQ k X.A)(hj:j<=dvs.length)(ha:PA X (e::es) t)(hg:Gl X x:=by rfl)(hdb:(x == ("__debug__":Str))=false:=by decide)(hn:nSt e=true:=by rfl)(hp:es.all nSt=true:=by rfl) :
  PE X (.Call (.Name x p) (e::es) [] pos) (d5 sp (dvs.drop j) E0 t):=wV j C hr hj ha hg hdb (fW hn) (fE hp)
def lv(M:zj X.prog X.w X.K X.mg X.base k C x ps sp)(hr:cQ (k+1) X.A)(ha:PA X (e::es) t)(hg:Gl X x:=by rfl)(hdb:(x == ("__debug__":Str))=false:=by decide)(hn:nSt e=true:=by rfl)(hp:es.all nSt=true:=by rfl) :
  PE X (.Call (.Name x p) (e::es) [] pos) (ud C sp [] E0 t):=wW M hr ha hg hdb (fW hn) (fE hp)
def al(hc:bx X (.builtin id) r)(hg:Gl X x)(hm:X.mg x=none)(hv:bootBuiltins x=some (.builtin id))(ha:PA X (e::es) t)(hnn:x≠"__name__":=by decide)(hdb:(x == ("__debug__":Str))=false:=by decide)(hn:nSt e=true:=by rfl)(hp:es.all nSt=true:=by rfl) :
  PE X (.Call (.Name x p) (e::es) [] pos) (tCB r t):=ug hc hg hm hv ha hnn hdb (fW hn) (fE hp)
def bV(hc:bx X (.type T) r)(hg:Gl X x)(hm:X.mg x=none)(hv:bootBuiltins x=some (.type T))(ha:PA X (e::es) t)(hnn:x≠"__name__":=by decide)(hdb:(x == ("__debug__":Str))=false:=by decide)(hn:nSt e=true:=by rfl)(hp:es.all nSt=true:=by rfl) :
  PE X (.Call (.Name x p) (e::es) [] pos) (tCB r t):=rD hc hg hm hv ha hnn hdb (fW hn) (fE hp)
end
noncomputable def plT:Expr->Bool
 | .Call _ _ _ _=>true
 | .Name _ _=>true
 | .Subscript _ _ _=>true
 | .Attribute _ _ _=>true
 | _=>false
def xF{e:Expr}{env:Env}(h:plT e=true):∀whole,isTrue e env whole=(do let v <- whole;standAt e.pos;holding [v] (truthy v)):=by
 cases e <;> first|(intro _;rfl)|cases h
def fb{X:Cx}{e:Expr}{t:TE}(h:PE X e t)(hp:plT e=true:=by rfl):PT X e (tB t):=yu h (xF hp)
noncomputable def d0(a b:List Nat):Bool:=decide (0<=fnd b a 0)
noncomputable def bX(ps:List (List Nat))(i:Nat):Bool:=!decide (pw ps i∈ps.take i) && !(ps.filter λo=>decide ((pw ps i).length<o.length)).any λo=>d0 (pw ps i) o
def jp{a b:List Nat}:d0 a b=true ↔ ∃k,stA b a k=true:=by
 unfold d0
 constructor
 .intro h;have h0:fnd b a 0≠-1:=λz=>by rw [z] at h;exact absurd (of_decide_eq_true h) (by decide)
  obtain⟨k,_,_,h1,_⟩:=iX h0;exact⟨k,h1⟩
 .rintro⟨k,hk⟩
  by_cases h0:fnd b a 0=-1
  .rw [ut h0 k (EI _)] at hk;cases hk
  .obtain⟨j,e,_⟩:=iX h0;rw [e];exact decide_eq_true (by omega)
def uT(a:List Nat):d0 a a=true:=jp.mpr ⟨0,decide_eq_true ⟨by omega,by rw [drop_zero,take_length]⟩⟩
def sJ{a b c:List Nat}(h1:d0 a b=true)(h2:d0 b c=true):d0 a c=true:=by
 obtain⟨k1,e1⟩:=jp.mp h1;obtain⟨k2,e2⟩:=jp.mp h2;obtain⟨l1,t1⟩:=of_decide_eq_true e1;obtain⟨l2,t2⟩:=of_decide_eq_true e2;refine jp.mpr ⟨k2+k1,decide_eq_true ⟨by omega,?_⟩⟩
 have hb:b.drop k1=(c.drop (k2+k1)).take (b.length - k1):=by
  rw [<- t2,drop_take,drop_drop,t2]
 have ha:a=((c.drop (k2+k1)).take (b.length - k1)).take a.length:=by rw [<- hb,t1]
 rw [take_take,show min a.length (b.length - k1)=a.length by omega] at ha;exact ha.symm
def lw{ps:List (List Nat)}{i:Nat}:bX ps i=true ↔ pw ps i∉ps.take i/\∀o∈ps,(pw ps i).length<o.length->d0 (pw ps i) o=false:=by
 unfold bX;rw [and_eq_true,FZ,FZ,decide_eq_false_iff_not,any_eq_false]
 constructor
 .rintro⟨h1,h2⟩;refine⟨h1,λo ho hl=>?_⟩;have:=h2 o (DK.mpr ⟨ho,decide_eq_true hl⟩);simpa using this
 .rintro⟨h1,h2⟩;refine⟨h1,λo ho=>?_⟩;obtain⟨m1,m2⟩:=DK.mp ho;rw [h2 o m1 (of_decide_eq_true m2)];decide
def mQ{ps:List (List Nat)}(hw:∀w∈ps,w.length<=60):∀(m i:Nat),i<ps.length->(61 - (pw ps i).length)*(ps.length+1)+i<=m->∃j,j<ps.length/\bX ps j=true/\d0 (pw ps i) (pw ps j)=true:=by
 intro m
 induction m with
 | zero =>
  intro i hi h;have hl:=hw _ (z_ (cE hi));have:0<(61 - (pw ps i).length)*(ps.length+1):=mul_pos (by omega) (by omega);omega
 | succ m ih =>
  intro i hi h;have hl:=hw _ (z_ (cE hi))
  by_cases hk:bX ps i=true
  .exact⟨i,hi,hk,uT _⟩
  .by_cases h1:pw ps i∈ps.take i
   .obtain⟨i',hi'⟩:=mem_iff_getElem?.mp h1
    have hlt:i'<i:=by
     have:=(g_.mp hi').1;rw [length_take] at this;omega
    have he:pw ps i'=pw ps i:=by
     rw [getElem?_take,if_pos hlt] at hi';have:=cE (ws:=ps) (k:=i') (by omega);rw [hi'] at this;exact (q_ this).symm
    obtain⟨j,a1,a2,a3⟩:=ih i' (by omega) (by rw [he];omega);exact⟨j,a1,a2,by rw [<- he];exact a3⟩
   .have h2:∃o∈ps,(pw ps i).length<o.length/\d0 (pw ps i) o=true:=by
     apply Classical.byContradiction;intro z;refine hk (lw.mpr ⟨h1,λo ho hlo=>?_⟩)
     cases hs:d0 (pw ps i) o with
     | false=>rfl
     | true=>exact absurd ⟨o,ho,hlo,hs⟩ z
    obtain⟨o,ho,hlo,hs⟩:=h2;obtain⟨i',hi'⟩:=mem_iff_getElem?.mp ho;have hlt:i'<ps.length:=(g_.mp hi').1
    have he:pw ps i'=o:=by
     have:=cE hlt;rw [hi'] at this;exact (q_ this).symm
    have hm:(61 - o.length+1)*(ps.length+1)<=(61 - (pw ps i).length)*(ps.length+1):=Gd _ (by have:=hw o ho;omega);rw [add_mul,Nat.one_mul] at hm;obtain⟨j,a1,a2,a3⟩:=ih i' hlt (by rw [he];omega);rw [he] at a3;exact⟨j,a1,a2,sJ hs a3⟩
noncomputable def lx(a b:List Nat)(k:Nat):Prop:=k<min a.length b.length/\b.take k <:+ a/\∀j,j<min a.length b.length->b.take j <:+ a->j<=k
def lx.uniq{a b:List Nat}{j k:Nat}(x:lx a b j)(y:lx a b k):j=k:=le_antisymm (y.2.2 j x.1 x.2.1) (x.2.2 k y.1 y.2.1)
noncomputable def et(a b:List Nat):Nat:=open Classical in if h:∃k,lx a b k then Classical.choose h else 0
def hM{a b:List Nat}(ha:0<a.length)(hb:0<b.length):lx a b (et a b):=by
 obtain⟨k,h1,h2,h3⟩:=jg (λk=>b.take k <:+ a) (by rw [take_zero];exact nil_suffix) (min a.length b.length) (by omega);have h:∃k,lx a b k:=⟨k,h1,h2,h3⟩
 unfold et;rw [dif_pos h];exact Gy h
def ly{a b:List Nat}{k:Nat}(h:lx a b k):et a b=k:=(hM (by have:=h.1;omega) (by have:=h.1;omega)).uniq h
noncomputable def ay(ps:List (List Nat)):List Nat:=(c_ ps.length).filter (bX ps)
noncomputable def sK(ps:List (List Nat)):List Nat:=(c_ ps.length).filter λi=>!decide (i∈ay ps)
noncomputable def ag(ps:List (List Nat)):List (List Nat):=(ay ps).map (pw ps)
def cW{ps:List (List Nat)}{i:Nat}(h:i∈ay ps):i<ps.length:=mem_range.mp (DK.mp h).1
def fF(ps:List (List Nat)):(ay ps).length<=ps.length:=r_ (Fc ..) (by rw [C0];omega)
def cp{m:Nat}{ps:List (List Nat)}(h:Pcs m ps):Pcs m (ag ps):=λw hw=>by
 obtain⟨i,hi,rfl⟩:=EC.mp hw;exact h _ (bL (cW hi))
def cM(ps:List (List Nat)):(ag ps).length<=ps.length:=by unfold ag;rw [length_map];exact fF ps
noncomputable def jq(ps:List (List Nat))(i:Nat):List Nat:=(ay ps).filter λj=>d0 (pw ps i) (pw ps j)
noncomputable def pV(ps:List (List Nat))(i:Nat):Nat:=(jq ps i).headD 0
def uU{l:List Nat}(h:l.Pairwise (·<·)){m:Nat}(hm:m∈l)(hle:∀a∈l,m<=a):l.headD 0=m:=by
 cases l with
 | nil=>cases hm
 | cons x r =>
  show x=m;have h1:=hle x (mem_cons_self ..)
  rcases C_.mp hm with e|e
  .exact e.symm
  .have:=(F8.mp h).1 m e;omega
def iC(ps:List (List Nat)):(ay ps).Pairwise (·<·):=pairwise_lt_range.filter _
def sL{ps:List (List Nat)}{i m:Nat}(hm:m∈jq ps i)(hle:∀a∈jq ps i,m<=a):pV ps i=m:=uU ((iC ps).filter _) hm hle
def qG{ps:List (List Nat)}(hw:∀w∈ps,w.length<=60){i:Nat}(hi:i<ps.length):∃j,j∈jq ps i:=by
 obtain⟨j,h1,h2,h3⟩:=mQ hw _ i hi (l_ _);exact⟨j,DK.mpr ⟨DK.mpr ⟨mem_range.mpr h1,h2⟩,h3⟩⟩
noncomputable def cX(ps:List (List Nat))(i:Nat):D:=.tup [.int (i:Int),.int (pV ps i:Int),.int (fnd (pw ps (pV ps i)) (pw ps i) 0)]
noncomputable def mR(ws:List (List Nat)):D:=.tup (ws.map λw=>.tup (ws.map λv=>.int (et w v:Int)))
noncomputable def nZ(ps:List (List Nat)):Int:=((ag ps).map λw=>(w.length:Int)).sum
def nD(k:Nat):D:=.int (k:Int)
noncomputable def uV:List Str:=["pieces","kept","words","left","laps","total"]
noncomputable def uW(ps:List (List Nat)):List D:=[.tup (ps.map .str),.tup ((ay ps).map nD),.tup ((ag ps).map .str),.tup ((sK ps).map (cX ps)),mR (ag ps),.int (nZ ps)]
def sM{ks:List Nat}{k:Nat}(h:k<(ks.map nD).length):itD (ks.map nD) k=.int ((ks.getD k 0:Nat):Int):=eX (by
 have h:k<ks.length:=by rwa [length_map] at h
 rw [k_,d_,cy h];rfl)
theorem lz(w:List Nat):∀ws:List (List Nat),inD (.str w) (ws.map .str)=decide (w∈ws)
 | []=>by simp [inD]
 | v::r=>by
  have ih:=lz w r;unfold inD at ih ⊢;rw [map_cons,any_cons,ih];show ((v == w) || decide (w∈r))=_
  by_cases h:v=w
  .subst h;simp
  .rw [beq_eq_false_iff_ne.mpr h,Bool.false_or]
   by_cases h2:w∈r
   .rw [decide_eq_true h2,decide_eq_true (o_ _ h2)]
   .rw [decide_eq_false h2,decide_eq_false (λz=>(C_.mp z).elim (λe=>h e.symm) h2)]
theorem sN(k:Nat):∀ks:List Nat,inD (.int (k:Int)) (ks.map nD)=decide (k∈ks)
 | []=>by simp [inD]
 | v::r=>by
  have ih:=sN k r;unfold inD at ih ⊢;rw [map_cons,any_cons,ih];show (((v:Int) == (k:Int)) || decide (k∈r))=_
  by_cases h:v=k
  .subst h;simp
  .rw [show ((v:Int) == (k:Int))=false from beq_eq_false_iff_ne.mpr (by omega),Bool.false_or]
   by_cases h2:k∈r
   .rw [decide_eq_true h2,decide_eq_true (o_ _ h2)]
   .rw [decide_eq_false h2,decide_eq_false (λz=>(C_.mp z).elim (λe=>h e.symm) h2)]
def sO(ws:List (List Nat)):(ws.map D.str).all D.fl=true:=by rw [all_map];exact FY.mpr λ_ _=>rfl
def An(ks:List Nat):(ks.map nD).all D.fl=true:=by rw [all_map];exact FY.mpr λ_ _=>rfl
def mS(ws:List (List Nat)):(c_ ws.length).map (pw ws)=ws:=by
 apply Gn;intro k;rw [k_]
 by_cases hk:k<ws.length
 .rw [D0 hk,cE hk];rfl
 .rw [y_ (by rw [C0];omega),y_ (by omega)];rfl
def uX{β:Type}(f:List Nat->Option β)(ws:List (List Nat)):(c_ ws.length).filterMap (λk=>f (pw ws k))=ws.filterMap f:=by
 conv=>rhs;rw [<- mS ws]
 rw [Fe];rfl
theorem bR{α β:Type}(p:α->Bool)(g:α->β):∀l:List α,l.filterMap (λa=>if p a=true then some (g a) else none)=(l.filter p).map g
 | []=>rfl
 | a::r=>by
  rw [E2,filter_cons]
  cases h:p a with
  | true=>simp [bR p g r]
  | false=>simp [bR p g r]
def uY{β:Type}(f:Nat->Option β)(ks:List Nat):(c_ ks.length).filterMap (λk=>f (ks.getD k 0))=ks.filterMap f:=by
 have e:(c_ ks.length).map (λk=>ks.getD k 0)=ks:=by
  have:=eo (λk=>k) ks;rw [List.map_id'] at this;exact this
 conv=>rhs;rw [<- e]
 rw [Fe];rfl
def hO(n:Nat):(q0 0 n).length=n:=by unfold q0;rw [length_map,C0]
def lA{n j:Nat}(h:j<(q0 0 n).length):itD (q0 0 n) j=.int (j:Int):=eX (by
 rw [hO] at h;unfold q0;rw [k_,D0 h];show some (D.int (0+(j:Int)))=_;rw [Int.zero_add])
open PySem.Builtin PySem.Builtin.ObjectAttr
open PySem.Builtin PySem.Builtin.ObjectAttr
open PySem.Builtin PySem.Builtin.ObjectAttr
open PySem.Builtin PySem.Builtin.ObjectAttr
def sP(d:D):(PV.dat d).d=d:=rfl
def sQ(ds:List D):(PV.own ds).d=.lst ds:=rfl
def sR(c:Str)(ns:List Str)(ds:List D):(PV.ins c ns ds).d=.obj c ns ds:=rfl
def Ao(ds:List D):mkL false ds=.own ds:=rfl
def Ap(ds:List D):mkL true ds=.dat (.tup ds):=rfl
noncomputable def pkm(ρ:PSt)(j:Nat):Option PV:=match ρ[j]? with
 | some v=>v
 | none=>none
def pW(v:Option PV)(r:PSt):pkm (v::r) 0=v:=rfl
def pX(v:Option PV)(r:PSt)(n:Nat):pkm (v::r) (n+1)=pkm r n:=rfl
def mT(ρ:PSt):aX [] ρ=[]:=rfl
def kF(ix:List (Option Nat))(ρ:PSt):aX (none::ix) ρ=none::aX ix ρ:=rfl
def kG(j:Nat)(ix:List (Option Nat))(ρ:PSt):aX (some j::ix) ρ=pkm ρ j::aX ix ρ:=rfl
def mU(j:Nat)(ix:List (Option Nat))(ρ:PSt)(t:Option PV)(τ:PSt):en (some j::ix) ρ (t::τ)=en ix (ρ.set j t) τ:=rfl
def mW(ix:List (Option Nat))(ρ:PSt)(t:Option PV)(τ:PSt):en (none::ix) ρ (t::τ)=en ix ρ τ:=rfl
def pY(ρ τ:PSt):en [] ρ τ=ρ:=rfl
noncomputable def Dq(pe:PTE):PTE:=λρ Q=>pe ρ λp ρ1=>Q (.dat p.d) ρ1
def mX{K:a_}{ta:TE}{pe:PTE}(h:LE K ta pe):LE K ta (Dq pe):=λA ρ σ H Q Q' R q k=>h A ρ σ H _ Q' R q λv H' p ρ' q f o=>k v H' (.dat p.d) ρ' q f o.frz
def n6{α:Type}{e:α->D}{xs:List α}{k:Nat}(h:k<xs.length):itD (xs.map e) k=e xs[k]:=eX (by rw [k_,cy h];rfl)
def sS{α β:Type}(f:α->β)(xs:List α)(g:Nat->β)(h:∀k (hk:k<xs.length),g k=f xs[k]):(c_ xs.length).map g=xs.map f:=by
 apply Gn;intro i;rw [k_,k_]
 by_cases hi:i<xs.length
 .rw [D0 hi,cy hi];exact congrArg some (h i hi)
 .rw [y_ (by rw [C0];omega),y_ (by omega)];rfl
section
variable {α:Type}{e:α->D}{xs:List α}{ix:List (Option Nat)}{ρ1:PSt}{g:PTG}{pt:PTT}{pe:PTE}{Q:PKt}
def CT(T:PSt->Prop)(f:α->Option D)(h0:T (aX ix ρ1))
  (hs:∀x∈xs,∀τ,T τ->∀(K1:D->PSt->Prop) (K2:PSt->Prop),(∀d τ',f x=some d->T τ'->K1 d τ')->(∀τ',f x=none->T τ'->K2 τ')->g (.dat (e x)) τ λτ2=>pt τ2 λok τ3=>fA ok (pe τ3 λp τ4=>K1 p.d τ4) (K2 τ3))
  (hq:∀τ,T τ->Q (.own (xs.filterMap f)) (en ix ρ1 τ)):jl ix ρ1 (xs.map e).length (itD (xs.map e)) g pt pe Q:=by
 refine cfm T (λk=>(xs[k]?).bind f) h0 (λk τ d hk ed t K1 K2 k1 k2=>?_) λτ t=>?_
 .rw [length_map] at hk;rw [n6 hk] at ed;subst ed;have eg:(xs[k]?).bind f=f xs[k]:=by rw [cy hk];rfl
  rw [eg] at k1 k2;exact hs _ (EW hk) τ t K1 K2 k1 k2
 .have e1:(c_ (xs.map e).length).filterMap (λk=>(xs[k]?).bind f)=xs.filterMap f:=by
   rw [length_map];have h1:(c_ xs.length).map (λk=>(xs[k]?).bind f)=xs.map f:=sS f xs _ λk hk=>by rw [cy hk];rfl
   have h2:∀l:List Nat,l.filterMap (λk=>(xs[k]?).bind f)=(l.map λk=>(xs[k]?).bind f).filterMap id:=λl=>by rw [Fe];rfl
   rw [h2,h1,Fe];rfl
  rw [e1];exact hq τ t
def Aq(T:PSt->Prop)(f:α->D)(h0:T (aX ix ρ1))
  (hs:∀x∈xs,∀τ,T τ->∀K1:D->PSt->Prop,(∀τ',T τ'->K1 (f x) τ')->g (.dat (e x)) τ λτ2=>pe τ2 λp τ4=>K1 p.d τ4)
  (hq:∀τ,T τ->Q (.own (xs.map f)) (en ix ρ1 τ)):jl ix ρ1 (xs.map e).length (itD (xs.map e)) g uI pe Q:=by
 refine CT T (λx=>some (f x)) h0 (λx hx τ t K1 K2 k1 k2=>?_) λτ t=>?_
 .exact hs x hx τ t K1 λτ' t'=>k1 _ τ' rfl t'
 .rw [show xs.filterMap (λx=>some (f x))=xs.map f by rw [<- filterMap_eq_map];rfl];exact hq τ t
def B5{β:Type}(p:α->Bool)(f:α->β):∀xs:List α,xs.filterMap (λx=>if p x=true then some (f x) else none)=(xs.filter p).map f:=bR p f
def cfX(T:PSt->Prop)(p:α->Bool)(f:α->D)(h0:T (aX ix ρ1))
  (hs:∀x∈xs,∀τ,T τ->∀(K1:D->PSt->Prop) (K2:PSt->Prop),(∀τ',p x=true->T τ'->K1 (f x) τ')->(∀τ',p x=false->T τ'->K2 τ')->g (.dat (e x)) τ λτ2=>pt τ2 λok τ3=>fA ok (pe τ3 λp τ4=>K1 p.d τ4) (K2 τ3))
  (hq:∀τ,T τ->Q (.own ((xs.filter p).map f)) (en ix ρ1 τ)):jl ix ρ1 (xs.map e).length (itD (xs.map e)) g pt pe Q:=by
 refine CT T (λx=>if p x=true then some (f x) else none) h0 (λx hx τ t K1 K2 k1 k2=>hs x hx τ t K1 K2 (λτ' h t'=>k1 _ τ' (by rw [if_pos h]) t') λτ' h t'=>k2 τ' (by rw [if_neg (by rw [h];decide)]) t') λτ t=>?_;rw [B5];exact hq τ t
def cm1(f:α->D)
  (hs:∀x∈xs,∀(v:Option PV) (K1:D->PSt->Prop),(∀v',K1 (f x) (v'::(aX ix ρ1).tail))->g (.dat (e x)) (v::(aX ix ρ1).tail) λτ2=>pe τ2 λp τ4=>K1 p.d τ4)
  (hq:∀v:Option PV,Q (.own (xs.map f)) (en ix ρ1 (v::(aX ix ρ1).tail))) (hx:aX ix ρ1=none::(aX ix ρ1).tail:=by rfl):jl ix ρ1 (xs.map e).length (itD (xs.map e)) g uI pe Q:=by
 refine Aq (λτ=>∃v,τ=v::(aX ix ρ1).tail) f ⟨none,hx⟩ ?_ ?_
 .rintro x hx τ ⟨v,rfl⟩ K1 k1;exact hs x hx v K1 λv'=>k1 _ ⟨v',rfl⟩
 .rintro τ ⟨v,rfl⟩;exact hq v
def cf1(p:α->Bool)(f:α->D)
  (hs:∀x∈xs,∀(v:Option PV) (K1:D->PSt->Prop) (K2:PSt->Prop),(∀v',p x=true->K1 (f x) (v'::(aX ix ρ1).tail))->(∀v',p x=false->K2 (v'::(aX ix ρ1).tail))->g (.dat (e x)) (v::(aX ix ρ1).tail) λτ2=>pt τ2 λok τ3=>fA ok (pe τ3 λp τ4=>K1 p.d τ4) (K2 τ3))
  (hq:∀v:Option PV,Q (.own ((xs.filter p).map f)) (en ix ρ1 (v::(aX ix ρ1).tail))) (hx:aX ix ρ1=none::(aX ix ρ1).tail:=by rfl):jl ix ρ1 (xs.map e).length (itD (xs.map e)) g pt pe Q:=by
 refine cfX (λτ=>∃v,τ=v::(aX ix ρ1).tail) p f ⟨none,hx⟩ ?_ ?_
 .rintro x hx τ ⟨v,rfl⟩ K1 K2 k1 k2;exact hs x hx v K1 K2 (λv' h=>k1 _ h ⟨v',rfl⟩) λv' h=>k2 _ h ⟨v',rfl⟩
 .rintro τ ⟨v,rfl⟩;exact hq v
end
def cmR{ix:List (Option Nat)}{ρ1:PSt}{g:PTG}{pe:PTE}{Q:PKt}{n:Nat}{it:Nat->D}(f:Nat->D)
  (hs:∀k,k<n->∀(v:Option PV) (K1:D->PSt->Prop),(∀v',K1 (f k) (v'::(aX ix ρ1).tail))->g (.dat (it k)) (v::(aX ix ρ1).tail) λτ2=>pe τ2 λp τ4=>K1 p.d τ4)
  (hq:∀v:Option PV,Q (.own ((c_ n).map f)) (en ix ρ1 (v::(aX ix ρ1).tail))) (hx:aX ix ρ1=none::(aX ix ρ1).tail:=by rfl):jl ix ρ1 n it g uI pe Q:=by
 refine tS (λτ=>∃v,τ=v::(aX ix ρ1).tail) f ⟨none,hx⟩ ?_ ?_
 .rintro k τ d hk rfl ⟨v,rfl⟩ K1 k1;exact hs k hk v K1 λv'=>k1 _ ⟨v',rfl⟩
 .rintro τ ⟨v,rfl⟩;exact hq v
def cfR{ix:List (Option Nat)}{ρ1:PSt}{g:PTG}{pt:PTT}{pe:PTE}{Q:PKt}{n:Nat}{it:Nat->D}(p:Nat->Bool)(f:Nat->D)
  (hs:∀k,k<n->∀(v:Option PV) (K1:D->PSt->Prop) (K2:PSt->Prop),(∀v',p k=true->K1 (f k) (v'::(aX ix ρ1).tail))->(∀v',p k=false->K2 (v'::(aX ix ρ1).tail))->g (.dat (it k)) (v::(aX ix ρ1).tail) λτ2=>pt τ2 λok τ3=>fA ok (pe τ3 λp τ4=>K1 p.d τ4) (K2 τ3))
  (hq:∀v:Option PV,Q (.own (((c_ n).filter p).map f)) (en ix ρ1 (v::(aX ix ρ1).tail))) (hx:aX ix ρ1=none::(aX ix ρ1).tail:=by rfl):jl ix ρ1 n it g pt pe Q:=by
 refine cfm (λτ=>∃v,τ=v::(aX ix ρ1).tail) (λk=>if p k=true then some (f k) else none) ⟨none,hx⟩ ?_ ?_
 .rintro k τ d hk rfl ⟨v,rfl⟩ K1 K2 k1 k2;exact hs k hk v K1 K2 (λv' h=>k1 _ _ (by rw [if_pos h]) ⟨v',rfl⟩) λv' h=>k2 _ (by rw [if_neg (by rw [h];decide)]) ⟨v',rfl⟩
 .rintro τ ⟨v,rfl⟩;rw [bR];exact hq v
section
variable {α:Type}{e:α->D}{xs:List α}{ρ1:PSt}{g:PTG}{pb:PTS}{nx bk:PSt->Prop}{rt:PV->PSt->Prop}
def CU(J:List α->PSt->Prop)(h0:J [] ρ1)
  (hs:∀pre x suf ρ,xs=pre++x::suf->J pre ρ->g (.dat (e x)) ρ λρ2=>pb { nx:=J (pre++[x]),rt:=rt,bk:=bk,ct:=J (pre++[x]) } ρ2) (hq:∀ρ,J xs ρ->nx ρ) :
  ∃I:Nat->PSt->Prop,I 0 ρ1/\(∀k ρ d,k<(xs.map e).length->d=itD (xs.map e) k->I k ρ->g (.dat d) ρ λρ2=>pb { nx:=I (k+1),rt:=rt,bk:=bk,ct:=I (k+1) } ρ2)/\∀ρ,I (xs.map e).length ρ->nx ρ:=by
 refine⟨λk ρ=>J (xs.take k) ρ,by show J (xs.take 0) ρ1;rw [take_zero];exact h0,λk ρ d hk ed hJ=>?_,λρ h=>hq ρ (by have h:J (xs.take (xs.map e).length) ρ:=h;rw [length_map,take_length] at h;exact h)⟩;rw [length_map] at hk;rw [n6 hk] at ed;subst ed;have ht:xs.take (k+1)=xs.take k++[xs[k]]:=by rw [take_succ,cy hk];rfl
 show g _ ρ λρ2=>pb { nx:=J (xs.take (k+1)),rt:=rt,bk:=bk,ct:=J (xs.take (k+1)) } ρ2;rw [ht];exact hs _ _ (xs.drop (k+1)) ρ (by rw [getElem_cons_drop,DS]) hJ
def Dr{it:Nat->D}(J:List α->PSt->Prop)(h0:J [] ρ1)
  (hs:∀pre x suf ρ,xs=pre++x::suf->J pre ρ->g (.dat (.tup [.int (pre.length:Int),e x])) ρ λρ2=>pb { nx:=J (pre++[x]),rt:=rt,bk:=bk,ct:=J (pre++[x]) } ρ2) (hq:∀ρ,J xs ρ->nx ρ)
  (hit:∀k,it k=.tup [.int (k:Int),itD (xs.map e) k]:=by intro k;rfl) :
  ∃I:Nat->PSt->Prop,I 0 ρ1/\(∀k ρ d,k<(xs.map e).length->d=it k->I k ρ->g (.dat d) ρ λρ2=>pb { nx:=I (k+1),rt:=rt,bk:=bk,ct:=I (k+1) } ρ2)/\∀ρ,I (xs.map e).length ρ->nx ρ:=by
 refine⟨λk ρ=>J (xs.take k) ρ,by show J (xs.take 0) ρ1;rw [take_zero];exact h0,λk ρ d hk ed hJ=>?_,λρ h=>hq ρ (by have h:J (xs.take (xs.map e).length) ρ:=h;rw [length_map,take_length] at h;exact h)⟩;rw [length_map] at hk;rw [hit,n6 hk] at ed;subst ed;have ht:xs.take (k+1)=xs.take k++[xs[k]]:=by rw [take_succ,cy hk];rfl
 show g _ ρ λρ2=>pb { nx:=J (xs.take (k+1)),rt:=rt,bk:=bk,ct:=J (xs.take (k+1)) } ρ2;rw [ht];have hl:(xs.take k).length=k:=by rw [length_take];omega
 have:=hs (xs.take k) xs[k] (xs.drop (k+1)) ρ (by rw [getElem_cons_drop,DS]) hJ;rw [hl] at this;exact this
end
def sU{t w:List Nat}{k:Nat}:stA t w k=true ↔ ∃a b,t=a++w++b/\a.length=k:=by
 unfold stA;rw [decide_eq_true_eq]
 constructor
 .rintro⟨h1,h2⟩;refine⟨t.take k,t.drop (k+w.length),?_,by rw [length_take];omega⟩
  have h3:t.drop k=w++t.drop (k+w.length):=by
   conv=>lhs;rw [<- DS w.length (t.drop k),h2,drop_drop]
  rw [append_assoc,<- h3,DS]
 .rintro⟨a,b,rfl,rfl⟩;refine⟨by rw [length_append,length_append];omega,?_⟩;rw [append_assoc,drop_left,take_left]
def dS{a b:List Nat}:d0 a b=true ↔ a <:+: b:=by
 rw [jp]
 constructor
 .rintro⟨k,hk⟩;obtain⟨u,v,e,_⟩:=sU.mp hk;exact⟨u,v,e.symm⟩
 .rintro⟨u,v,e⟩;exact⟨u.length,sU.mpr ⟨u,v,e.symm,rfl⟩⟩
def sV{a b:List Nat}:d0 a b=true ↔ 0<=fnd b a 0:=by unfold d0;exact decide_eq_true_iff
def uZ{a b t:List Nat}{k:Nat}(h:lx a b k)(ht:a <:+ t):b <:+ t++b.drop k:=by
 obtain⟨u,hu⟩:=List.IsSuffix.trans h.2.1 ht;refine⟨u,?_⟩;rw [<- hu,append_assoc,DS]
def n8{α:Type}{P:List α->Prop}(h0:P [])(h1:∀l a,P l->P (l++[a]))(l:List α):P l:=by
 have go:∀r:List α,P r.reverse:=λr=>by
  induction r with
  | nil=>exact h0
  | cons a r ih=>rw [reverse_cons];exact h1 _ _ ih
 have:=go l.reverse
 rwa [reverse_reverse] at this
noncomputable def glT(ws:List (List Nat)):Nat->List Nat->List Nat
 | _,[]=>[]
 | i,j::r=>(pw ws j).drop (et (pw ws i) (pw ws j))++glT ws j r
noncomputable def glN(ws:List (List Nat)):List Nat->List Nat
 | []=>[]
 | j::r=>pw ws j++glT ws j r
noncomputable def Ar(ws:List (List Nat)):Nat->List Nat->Nat
 | _,[]=>0
 | i,j::r=>et (pw ws i) (pw ws j)+Ar ws j r
noncomputable def CV(ws:List (List Nat)):List Nat->Nat
 | []=>0
 | j::r=>Ar ws j r
theorem pZ(ws:List (List Nat))(j:Nat):∀(i:Nat) (r:List Nat) (l:Nat),glT ws i (r++[l]++[j])=glT ws i (r++[l])++(pw ws j).drop (et (pw ws l) (pw ws j))
 | i,[],l=>by
  show (pw ws l).drop _++((pw ws j).drop _++[])=(pw ws l).drop _++[]++_;rw [DQ,DQ]
 | i,a::r,l=>by
  show (pw ws a).drop _++glT ws a (r++[l]++[j])=(pw ws a).drop _++glT ws a (r++[l])++_;rw [pZ ws j a r l,append_assoc]
def lB(ws:List (List Nat))(pre:List Nat)(l j:Nat):glN ws (pre++[l]++[j])=glN ws (pre++[l])++(pw ws j).drop (et (pw ws l) (pw ws j)):=by
 cases pre with
 | nil=>show pw ws l++((pw ws j).drop _++[])=pw ws l++[]++_;rw [DQ,DQ]
 | cons a r =>
  show pw ws a++glT ws a (r++[l]++[j])=pw ws a++glT ws a (r++[l])++_;rw [pZ,append_assoc]
theorem sW{ws:List (List Nat)}:∀{i:Nat}{r:List Nat},0<(pw ws i).length->(∀j∈r,0<(pw ws j).length)->(glT ws i r).length+Ar ws i r=(r.map λj=>(pw ws j).length).sum
 | i,[],_,_=>rfl
 | i,j::r,hi,h=>by
  have hj:=h j (mem_cons_self ..);have ih:=sW (i:=j) (r:=r) hj λk hk=>h k (o_ _ hk);have hl:=(hM hi hj).1;show ((pw ws j).drop _++glT ws j r).length+(et _ _+Ar ws j r)=_;rw [length_append,length_drop,map_cons,sum_cons,<- ih];omega
def xG{ws:List (List Nat)}{js:List Nat}(h:∀j∈js,0<(pw ws j).length):(glN ws js).length+CV ws js=(js.map λj=>(pw ws j).length).sum:=by
 cases js with
 | nil=>rfl
 | cons j r =>
  have:=sW (h j (mem_cons_self ..)) λk hk=>h k (o_ _ hk);show (pw ws j++glT ws j r).length+Ar ws j r=_;rw [length_append,map_cons,sum_cons,<- this];omega
def xH{ws:List (List Nat)}:∀{pre:List Nat}{l:Nat},(∀j∈pre++[l],0<(pw ws j).length)->pw ws l <:+ glN ws (pre++[l]):=λ{pre}=>by
 induction pre using n8 with
 | h0=>intro l _;exact⟨[],by show pw ws l=pw ws l++[];rw [DQ]⟩
 | h1 pre a ih =>
  intro l h;rw [lB];have ha:=h a (by simp);have hl:=h l (by simp);exact uZ (hM ha hl) (ih λj hj=>h j (DG _ hj))
def xI{ws:List (List Nat)}(pre suf:List Nat):glN ws pre <+: glN ws (pre++suf):=by
 induction suf using n8 with
 | h0=>rw [DQ];exact prefix_refl _
 | h1 suf a ih =>
  rw [<- append_assoc]
  rcases eq_nil_or_concat (pre++suf) with e|⟨r,l,e⟩
  .have:pre=[]:=(append_eq_nil_iff.mp e).1;rw [this];exact nil_prefix
  .rw [concat_eq_append] at e;rw [e] at ih ⊢;rw [lB];exact ih.trans (prefix_append _ _)
def vK{ws:List (List Nat)}{js:List Nat}(h:∀j∈js,0<(pw ws j).length){j:Nat}(hj:j∈js):pw ws j <:+: glN ws js:=by
 obtain⟨pre,suf,rfl⟩:=append_of_mem hj;have e:pre++j::suf=(pre++[j])++suf:=by simp
 rw [e] at h ⊢;exact (xH λk hk=>h k (DG _ hk)).isInfix.trans (xI _ suf).isInfix
def sX{t:List Nat}{a b c:Nat}(h1:a<=b)(h2:b<=c):(t.drop a).take (b - a)++(t.drop b).take (c - b)=(t.drop a).take (c - a):=by
 rw [show c - a=(b - a)+(c - b) by omega,take_add,drop_drop,show a+(b - a)=b by omega]
theorem mY{ws:List (List Nat)}{t:List Nat}{P:Nat->Nat}:∀{i:Nat}{r:List Nat},(∀j∈i::r,0<(pw ws j).length/\stA t (pw ws j) (P j)=true)->(i::r).Pairwise (λa b=>P a<P b)->(i::r).Pairwise (λa b=>¬ pw ws b <:+: pw ws a) ->
  ∃e,e<=t.length/\P i+(pw ws i).length<=e/\(glT ws i r).length<=e - (P i+(pw ws i).length)/\((glT ws i r).length=e - (P i+(pw ws i).length)->glT ws i r=(t.drop (P i+(pw ws i).length)).take (e - (P i+(pw ws i).length)))
 | i,[],h,_,_=>⟨P i+(pw ws i).length,(of_decide_eq_true (h i (mem_cons_self ..)).2).1,l_ _,EI _,λ_=>by rw [sub_self,take_zero];rfl⟩
 | i,j::r,h,hp,ha=>by
  obtain⟨p1,p2⟩:=F8.mp hp;obtain⟨a1,a2⟩:=F8.mp ha;obtain⟨e,e1,e2,e3,e4⟩:=mY (i:=j) (r:=r) (λk hk=>h k (o_ _ hk)) p2 a2;have hij:=p1 j (mem_cons_self ..);have nij:=a1 j (mem_cons_self ..);obtain⟨i0,iS⟩:=h i (mem_cons_self ..);obtain⟨j0,jS⟩:=h j (o_ _ (mem_cons_self ..));obtain⟨iL,iE⟩:=of_decide_eq_true iS;obtain⟨jL,jE⟩:=of_decide_eq_true jS;obtain⟨k1,k2,k3⟩:=hM i0 j0
  generalize hwi:pw ws i=wi at *;generalize hwj:pw ws j=wj at *
  have hend:P i+wi.length<P j+wj.length:=by
   rcases FO (P i+wi.length) (P j+wj.length) with z|z
   .exact z
   .refine absurd ?_ nij
    have e:wj=((wi.drop (P j - P i)).take wj.length):=by
     conv=>rhs;rw [<- iE]
     rw [drop_take,drop_drop,show P i+(P j - P i)=P j by omega,take_take,show min wj.length (wi.length - (P j - P i))=wj.length by omega,jE]
    rw [e];exact (take_prefix _ _).isInfix.trans (drop_suffix _ _).isInfix
  have hgl:glT ws i (j::r)=wj.drop (et wi wj)++glT ws j r:=by show (pw ws j).drop (et (pw ws i) (pw ws j))++_=_;rw [hwi,hwj]
  have hk:P i+wi.length - P j<=et wi wj:=by
   rcases GG (P i+wi.length - P j) with z|z
   .omega
   .refine k3 _ (by omega) ?_;refine⟨wi.take (wi.length - (P i+wi.length - P j)),?_⟩
    have e:wj.take (P i+wi.length - P j)=wi.drop (wi.length - (P i+wi.length - P j)):=by
     conv=>lhs;rw [<- jE]
     conv=>rhs;rw [<- iE]
     rw [take_take,drop_take,drop_drop]
     congr 1
     .rw [length_take,length_drop];omega
     .congr 1;rw [length_take,length_drop];omega
    rw [e,DS]
  refine⟨e,e1,by omega,?_,λhe=>?_⟩
  .rw [hgl,length_append,length_drop];omega
  .rw [hgl,length_append,length_drop] at he;have o1:P j<=P i+wi.length:=by omega
   have o2:et wi wj=P i+wi.length - P j:=by omega
   rw [hgl,e4 (by omega),<- sX (t:=t) (a:=P i+wi.length) (b:=P j+wj.length) (c:=e) (by omega) (by omega)];congr 1;rw [o2]
   conv=>lhs;rw [<- jE]
   rw [drop_take,drop_drop,show P j+(P i+wi.length - P j)=P i+wi.length by omega];congr 1;omega
def sY{ws:List (List Nat)}{t:List Nat}{P:Nat->Nat}{js:List Nat}(h:∀j∈js,0<(pw ws j).length/\stA t (pw ws j) (P j)=true)(hp:js.Pairwise (λa b=>P a<P b))(ha:js.Pairwise (λa b=>¬ pw ws b <:+: pw ws a)) :
  (glN ws js).length<=t.length/\((glN ws js).length=t.length->glN ws js=t):=by
 cases js with
 | nil=>exact⟨EI _,λe=>(Ec.mp e.symm).symm⟩
 | cons i r =>
  obtain⟨e,e1,e2,e3,e4⟩:=mY h hp ha;obtain⟨iL,iE⟩:=of_decide_eq_true (h i (mem_cons_self ..)).2;have hg:glN ws (i::r)=pw ws i++glT ws i r:=rfl;rw [hg,length_append];refine⟨by omega,λz=>?_⟩;have p0:P i=0:=by omega
  rw [e4 (by omega)];have el:e=t.length:=by omega
  rw [p0,drop_zero] at iE;rw [el,p0,GM];have:=sX (t:=t) (a:=0) (b:=(pw ws i).length) (c:=t.length) (EI _) (by omega);rw [drop_zero,Fx,Fx,take_length,iE] at this;exact this
def sZ{a b:List Nat}(h:a <:+: b):a.length<=b.length:=h.length_le
def qH{ps:List (List Nat)}{a b:Nat}(ha:a<ps.length)(hb:b<ps.length)(ka:bX ps a=true)(kb:bX ps b=true)(h:a≠b):¬ pw ps a <:+: pw ps b:=λhi=>by
 obtain⟨a1,a2⟩:=lw.mp ka;obtain⟨b1,b2⟩:=lw.mp kb
 rcases FO (pw ps a).length (pw ps b).length with z|z
 .have:=a2 _ (bL hb) z;rw [dS.mpr hi] at this;cases this
 .have e:pw ps a=pw ps b:=hi.eq_of_length (by have:=sZ hi;omega)
  have mem:∀{x y:Nat},x<y->y<ps.length->pw ps x=pw ps y->pw ps y∈ps.take y:=λ{x y} h1 h2 h3=>by
   rw [<- h3];refine z_ (i:=x) ?_;rw [getElem?_take,if_pos h1];exact cE (by omega)
  rcases FO a b with z|z
  .exact b1 (mem z hb e)
  .exact a1 (mem (by omega) ha e.symm)
def p5{ps:List (List Nat)}{i:Nat}(h:i<(ag ps).length):∃k,(ay ps)[i]?=some k/\pw (ag ps) i=pw ps k/\k<ps.length/\bX ps k=true:=by
 have hk:i<(ay ps).length:=by unfold ag at h;rwa [length_map] at h
 have hm:=EW hk;refine⟨(ay ps)[i],cy hk,?_,cW hm,(DK.mp hm).2⟩;unfold ag pw;rw [d_,k_,cy hk];rfl
def hX{ps:List (List Nat)}{i j:Nat}(hi:i<(ag ps).length)(hj:j<(ag ps).length)(h:i≠j):¬ pw (ag ps) i <:+: pw (ag ps) j:=by
 obtain⟨a,a1,a2,a3,a4⟩:=p5 hi;obtain⟨b,b1,b2,b3,b4⟩:=p5 hj;rw [a2,b2];refine qH a3 b3 a4 b4 λe=>h ?_;subst e;have nd:(ay ps).Nodup:=(iC ps).imp λh=>DC h;have l1:=(g_.mp a1).1;exact (getElem?_inj l1 nd).mp (a1.trans b1.symm)
def u0{ps:List (List Nat)}{t:List Nat}(hw:∀w∈ps,w.length<=60)(h:∀w∈ag ps,w <:+: t){p:List Nat}(hp:p∈ps):p <:+: t:=by
 obtain⟨i,hi,rfl⟩:=FL hp;have e:pw ps i=ps[i]:=q_ ((cE hi).symm.trans (cy hi));obtain⟨j,j1,j2,j3⟩:=mQ hw _ i hi (l_ _);rw [e] at j3;exact (dS.mp j3).trans (h _ (EC.mpr ⟨j,DK.mpr ⟨mem_range.mpr j1,j2⟩,rfl⟩))
def Ds{α β:Type}(f:α->β)(xs:List α):cA (xs.map f) (some 1) none=(xs.tail).map f:=by
 rw [show (1:Int)=((1:Nat):Int) from rfl,dO,<- map_drop,drop_one]
def cm2{α:Type}{e:α->D}{xs:List α}{ix:List (Option Nat)}{ρ1:PSt}{g:PTG}{pe:PTE}{Q:PKt}(f:α->D)
  (hs:∀x∈xs,∀(v w:Option PV) (K1:D->PSt->Prop),(∀v' w',K1 (f x) (v'::w'::(aX ix ρ1).tail.tail))->g (.dat (e x)) (v::w::(aX ix ρ1).tail.tail) λτ2=>pe τ2 λp τ4=>K1 p.d τ4)
  (hq:∀v w:Option PV,Q (.own (xs.map f)) (en ix ρ1 (v::w::(aX ix ρ1).tail.tail))) (hx:aX ix ρ1=none::none::(aX ix ρ1).tail.tail:=by rfl):jl ix ρ1 (xs.map e).length (itD (xs.map e)) g uI pe Q:=by
 refine Aq (λτ=>∃v w,τ=v::w::(aX ix ρ1).tail.tail) f ⟨none,none,hx⟩ ?_ ?_
 .rintro x hx τ ⟨v,w,rfl⟩ K1 k1;exact hs x hx v w K1 λv' w'=>k1 _ ⟨v',w',rfl⟩
 .rintro τ ⟨v,w,rfl⟩;exact hq v w
def tm(a b:List Nat):(!(EZ (S b) (S a) 0 (S b).length 1).isEmpty)=d0 a b:=by
 have e:=sf b a 0;unfold d0;rw [<- e]
 cases EZ (S b) (S a) 0 (S b).length 1 with
 | nil=>rfl
 | cons k r=>exact (decide_eq_true (by omega:(0:Int)<=(k:Int))).symm
section
variable {X:Cx}{K:a_}
noncomputable def B6(neg:Bool):R2:=λx y H Q=>∃a b,x=.str (S a)/\y=.str (S b)/\Q (.bl (if neg then !d0 a b else d0 a b)) H
def As:OpR X (compareOp .In) (B6 false):=by
 intro pins s σ H x y v u Q I rx ry h;obtain⟨a,b,rfl,rfl,q⟩:=h;obtain⟨t,rfl⟩:=rx;obtain⟨t',rfl⟩:=ry;exact P.in_str ⟨.bl _,H,I,rfl,by rw [tm];exact q⟩
def tu:OpR X (compareOp .NotIn) (B6 true):=by
 intro pins s σ H x y v u Q I rx ry h;obtain⟨a,b,rfl,rfl,q⟩:=h;obtain⟨t,rfl⟩:=rx;obtain⟨t',rfl⟩:=ry;exact P.notIn_str ⟨.bl _,H,I,rfl,by rw [tm];exact q⟩
noncomputable def At(K:a_)(neg:Bool):R2:=λx y H Q=>rIn K neg x y H Q\/B6 neg x y H Q
def Au(K:a_)(e:X.K=K):OpR X (compareOp .In) (At K false):=OpR.or (Dj K e) As
def iZ(K:a_)(e:X.K=K):OpR X (compareOp .NotIn) (At K true):=OpR.or (xf K e) tu
noncomputable def B7(neg:Bool):F2
 | .str a,.str b,Q=>Q (.dat (.bl (if neg then !d0 a b else d0 a b)))
 | a,.lst ds,Q=>(a.fl=true/\ds.all D.fl=true)/\Q (.dat (.bl (if neg then !inD a ds else inD a ds)))
 | a,.tup ds,Q=>(a.fl=true/\ds.all D.fl=true)/\Q (.dat (.bl (if neg then !inD a ds else inD a ds)))
 | _,_,_=>False
def kH{neg:Bool}:LO K (At K neg) (B7 neg):=by
 intro O H x y a b Q Q' dom fx fy q k;unfold B7 at q
 split at q
 .obtain⟨rfl,_⟩:=fx.str;obtain⟨rfl,_⟩:=fy.str;exact .inr ⟨_,_,rfl,rfl,k _ H _ q (Gr.refl _) (.bl _)⟩
 .exact .inl (zA O H x y _ _ Q Q' dom fx fy q k)
 .exact .inl (zA O H x y _ _ Q Q' dom fx fy q k)
 .exact q.elim
end
def tw{js:List Nat}{n:Nat}(h:js.Perm (c_ n)):js.length=n:=by rw [h.length_eq,C0]
def vM{ws:List (List Nat)}{m:Nat}(hw:∀j,(pw ws j).length<=m):∀js:List Nat,(glN ws js).length<=js.length*m:=by
 have go:∀(r:List Nat) (i:Nat),(glT ws i r).length<=r.length*m:=λr=>by
  induction r with
  | nil=>intro i;exact EI _
  | cons j r ih =>
   intro i;show ((pw ws j).drop _++glT ws j r).length<=_;rw [length_append,length_drop,length_cons,succ_mul];have:=ih j;have:=hw j;omega
 intro js
 cases js with
 | nil=>exact EI _
 | cons j r =>
  show (pw ws j++glT ws j r).length<=_;rw [length_append,length_cons,succ_mul];have:=go r j;have:=hw j;omega
def u4{ws:List (List Nat)}{m:Nat}(hw:∀w∈ws,w.length<=m)(j:Nat):(pw ws j).length<=m:=by
 by_cases h:j<ws.length
 .exact hw _ (bL h)
 .unfold pw;rw [d_,y_ (by omega)];exact EI _
def Av{t a b:List Nat}(ha:a <:+: t)(hb:b <:+: t)(h1:¬ a <:+: b)(h2:¬ b <:+: a):fnd t a 0≠fnd t b 0:=λe=>by
 have f:∀w:List Nat,w <:+: t->∃k:Nat,fnd t w 0=(k:Int)/\stA t w k=true:=λw hw=>by
  obtain⟨k,e,_,h,_⟩:=iX (a:=t) (b:=w) (lo:=0) λz=>by have:=sV.mp (dS.mpr hw);omega
  exact⟨k,e,h⟩
 obtain⟨k,k1,k2⟩:=f a ha;obtain⟨l,l1,l2⟩:=f b hb;have e:k=l:=by omega
 subst e;obtain⟨_,ea⟩:=of_decide_eq_true k2;obtain⟨_,eb⟩:=of_decide_eq_true l2
 rcases Nat.le_total a.length b.length with z|z
 .refine h1 ?_;have:a=b.take a.length:=by rw [<- eb,take_take,show min a.length b.length=a.length by omega,ea]
  rw [this];exact (take_prefix _ _).isInfix
 .refine h2 ?_;have:b=a.take b.length:=by rw [<- ea,take_take,show min b.length a.length=b.length by omega,eb]
  rw [this];exact (take_prefix _ _).isInfix
def xJ{ps:List (List Nat)}{t:List Nat}(hp:Pcs 60 ps)(hin:∀w∈ag ps,w <:+: t){js:List Nat}(h1:js.Perm (c_ (ag ps).length))(h2:js.Pairwise (λa b=>fnd t (pw (ag ps) a) 0<fnd t (pw (ag ps) b) 0)) :
  (glN (ag ps) js).length<=t.length/\((glN (ag ps) js).length=t.length->glN (ag ps) js=t)/\(∀w∈ag ps,w <:+: glN (ag ps) js)/\((glN (ag ps) js).length:Int)=nZ ps - (CV (ag ps) js:Int):=by
 have hlt:∀j∈js,j<(ag ps).length:=λj hj=>mem_range.mp (h1.mem_iff.mp hj);have hpos:∀j∈js,0<(pw (ag ps) j).length:=λj hj=>(cp hp _ (bL (hlt j hj))).1
 have pl:∀j∈js,fnd t (pw (ag ps) j) 0=((fnd t (pw (ag ps) j) 0).toNat:Int)/\stA t (pw (ag ps) j) (fnd t (pw (ag ps) j) 0).toNat=true:=λj hj=>by
  have h0:=sV.mp (dS.mpr (hin _ (bL (hlt j hj))));obtain⟨k,e,_,h,_⟩:=iX (a:=t) (b:=pw (ag ps) j) (lo:=0) λz=>by omega
  rw [e,toNat_natCast];exact⟨rfl,h⟩
 have nd:js.Nodup:=h1.nodup_iff.mpr GH;have ap:js.Pairwise (λa b=>¬ pw (ag ps) b <:+: pw (ag ps) a):=nd.imp_of_mem λ{a b} ma mb ne=>hX (hlt b mb) (hlt a ma) (EA ne)
 obtain⟨s1,s2⟩:=sY (P:=λj=>(fnd t (pw (ag ps) j) 0).toNat) (λj hj=>⟨hpos j hj,(pl j hj).2⟩) (h2.imp_of_mem λ{a b} ma mb h=>by
  have e1:=(pl a ma).1;have e2:=(pl b mb).1;show (fnd t (pw (ag ps) a) 0).toNat<(fnd t (pw (ag ps) b) 0).toNat;omega) ap
 refine⟨s1,s2,λw hw=>?_,?_⟩
 .obtain⟨j,hj,rfl⟩:=FL hw;rw [show (ag ps)[j]=pw (ag ps) j from q_ ((cy hj).symm.trans (cE hj))];exact vK hpos (h1.mem_iff.mpr (mem_range.mpr hj))
 .have e:=xG hpos;have e2:(js.map λj=>(pw (ag ps) j).length).sum=((c_ (ag ps).length).map λj=>(pw (ag ps) j).length).sum:=(h1.map _).sum_nat
  have e3:(c_ (ag ps).length).map (λj=>(pw (ag ps) j).length)=(ag ps).map List.length:=by
   conv=>rhs;rw [<- mS (ag ps),map_map]
   rfl
  have e4:∀l:List (List Nat),(l.map λw=>(w.length:Int)).sum=((l.map List.length).sum:Int):=λl=>by
   induction l with
   | nil=>rfl
   | cons a r ih=>rw [map_cons,sum_cons,ih,map_cons,sum_cons];omega
  unfold nZ;rw [e4,<- e3,<- e2,<- e];omega
section
variable {X:Cx}{K:a_}{ta te:TE}{pa:PA1}{pe:PTE}
noncomputable def jr(n:Int):Nat:=if n == 0 then 0 else n.natAbs.log2+1
noncomputable def xK:V->List V->Hp->VK->Prop:=λx xs H Q=>∃n,x=.int n/\xs=[]/\Q (.int (jr n:Nat)) H
def xL:MtR X "int.bit_length" xK:=by
 intro pins s σ H x xs v us Q I rx rs h;obtain⟨n,rfl,rfl,q⟩:=h;obtain⟨t,rfl⟩:=rx;have hus:=rs.zero;subst hus;exact call_gives F.slot_int_bit_length (typeIs_int s n t) F.entry_int_bit_length (F.args_int_bit_length_1 _) (AutoIntG2.int_bit_length_int_0 n t) ⟨.int _,H,I.tok _,⟨_,rfl⟩,q⟩
noncomputable def Aw(pe:PTE):PTE:=λρ Q=>pe ρ λp ρ1=>match p with
 | .dat (.int n)=>Q (.dat (.int (jr n:Nat))) ρ1
 | _=>False
def xM(he:LE K te pe):LE K (A6 K "int" xK te) (Aw pe):=λA ρ σ H Q Q' R q k=>he A ρ σ H _ _ R q λv H1 p ρ1 q1 f1 o1=>by
 unfold Aw at *
 split at q1
 .obtain⟨R1,fv⟩:=o1;cases fv;exact⟨rfl,_,rfl,rfl,k _ H1 _ ρ1 q1 f1 ⟨R1,.int _⟩⟩
 .exact q1.elim
def xN{o:Expr}{to:TE}{name:Str}{apos cpos:Pos}{T id:String}{r:V->List V->Hp->VK->Prop}(K:a_)(eK:X.K=K)(pa:PlainAttrs T)(slot:Slot T name id)(hty:typeOf (.builtin id)=pure (.type "method_descriptor"))(hm:MtR X id r)(ho:PE X o to)
  (hbase:attributeBase o name X.env (eval o X.env)=eval o X.env:=by rfl) (hline:(apos.endLine == cpos.line)=true:=by rfl):PE X (.Call (.Attribute o name apos) [] [] cpos) (A6 K T r to):=eK ▸ yU pa slot hty hm ho hbase hline
end
section
variable {X:Cx}{K:a_}
noncomputable def vN(K:a_):R2:=λx y H Q=>∃a b ys,x=.ref a/\y=.ref b/\SqT K H a []/\SqT K H b ys/\Q (.ref b) H
def u5:OpR X (binaryOp .Add) (vN X.K):=by
 intro pins s σ H x y v u Q I rx ry h;obtain⟨a,b,ys,rfl,rfl,ha,hb,q⟩:=h;cases rx;cases ry;obtain⟨its,r1,p1,_⟩:=I.tuple ha;obtain⟨its2,r2,p2,_⟩:=I.tuple hb;have e0:its=[]:=r1.nil_iff.mpr rfl;subst e0;obtain⟨⟨cls,dd,data,sl⟩,ho,hc,n,hd⟩:=id p1;obtain⟨⟨cls2,dd2,data2,sl2⟩,ho2,hc2,n2,hd2⟩:=id p2;simp only at hc hd hc2 hd2;subst hc hd hc2 hd2;exact Gg ⟨_,ho,rfl⟩ ⟨_,ho2,rfl⟩ Gc seq_tuple_add E6 EV (EN _ _) (tuple_addW0 a b _ _ n n2 dd dd2 sl sl2 rfl) ⟨ho,ho2,.ref b,H,I,rfl,q⟩
noncomputable def n9(K:a_):R2:=λx y H Q=>xc K x y H Q\/vN K x y H Q
def a9(K:a_)(e:X.K=K):OpR X (binaryOp .Add) (n9 K):=OpR.or (BH K e) (by subst e;exact u5)
noncomputable def Ax:F2
 | .tup a,.tup b,Q=>a.length+b.length<=1000000/\Q (.dat (.tup (a++b)))
 | a,b,Q=>BI a b Q
def aK:LO K (n9 K) Ax:=by
 intro O H x y a b Q Q' dom fx fy q k;unfold Ax at q
 split at q
 .rename_i Q ds es
  cases ds with
  | cons d ds=>exact .inl (vz O H x y _ _ _ Q' dom fx fy ⟨nofun,q⟩ k)
  | nil =>
   obtain⟨p1,xs1,rfl,n1,e1,f1⟩:=fx.tup;obtain⟨p2,xs2,rfl,n2,e2,f2⟩:=fy.tup;cases f1;exact .inr ⟨p1,p2,xs2,rfl,rfl,SqT.of e1,SqT.of e2,k _ H _ q.2 (Gr.refl _) (.tup n2 e2 f2)⟩
 .exact .inl (vz O H x y _ _ _ Q' dom fx fy q k)
end
section
variable {X:Cx}
noncomputable def CW:Expr->Bool
 | .ListComp ..|.SetComp ..|.DictComp ..=>false
 | _=>true
def tz{o i e:Expr}{p:Pos}{l:Nat}{env:Env}(h:CW e=true):swapsWithSole [.Subscript o i p] e l env=pure false:=by
 show swapsWith e (some (.Subscript o i p)) l env=pure false;cases e <;> first|rfl|cases h
def oa{o i e:Expr}{p:Pos}{env:Env}:swappedStores [.Subscript o i p] e env=pure none:=rfl
def B8{o i e:Expr}{p:Pos}{te:TE}{g:TG}{pos:Pos}(he:PE X e te)(hg:PG X (.Subscript o i p) g)(hn:CW e=true:=by rfl):PS X (.Assign [.Subscript o i p] e pos) (yC te g) :=
 yD he hg (tz hn) oa rfl
end
noncomputable def gM(K:a_)(x:Str)(st:Stmt):Prop:=∃(f:Addr) (oc kV dc pm cd ct:Value) (od an:Option Addr) (sl:Array (Option Value)),so K mainGlobals x=some (some (.ref f)) /\
 K.lookup f=some ⟨oc,od,.func (v_ x x (bb st) (aJ st) (ah st) .none kV dc pm an cd ct),sl⟩/\Dw K cd x=true/\s_ K (.ref f)=true
def Ay{K:a_}{x:Str}{st:Stmt}{f:Addr}{oc kV dc pm cd ct:Value}{od an:Option Addr}{sl:Array (Option Value)}(a:so K mainGlobals x=some (some (.ref f)))(l:K.lookup f=some ⟨oc,od,.func (v_ x x (bb st) (aJ st) (ah st) .none kV dc pm an cd ct),sl⟩)
  (c:Dw K cd x=true) (k:s_ K (.ref f)=true):gM K x st:=⟨f,oc,kV,dc,pm,cd,ct,od,an,sl,a,l,c,k⟩
def bi{K:a_}{h:Heap}{mg:Str->Option Value}{x:Str}{st:Stmt}(q:gM K x st)(X:K.In h)(G:h.Ns mainGlobals mg):bE K mg x st:=by
 obtain⟨f,oc,kV,dc,pm,cd,ct,od,an,sl,a,l,c,k⟩:=q;exact .mk' X G a l c k
section
open PySem.AutoSeq1 (wpAny_loadPart')
open PySem.MeetsSeq PySem.MeetsSeq2 PySem.MeetsSeq3
variable {P:n_}{w:World}{A:t_}
end
noncomputable def CY(i:Nat)(pe:PTE):PTE:=λρ Q=>match ρ[i]? with
 | some (some (.own _))=>pe ρ λp ρ1=>(match ρ1[i]?,p.d with
  | some (some (.own ds)),.lst es=>ds.length+es.length<=1000000/\Q (.dat .non) (ρ1.set i (some (.own (ds++es))))
  | _,_=>False)
 | _=>False
section
variable {K:a_}{te:TE}{pe:PTE}
def Az{i:Nat}(h:LE K te pe):LE K (tBM K "list" rG (aV i) (aU te dZ)) (CY i pe):=λA ρ σ H Q Q' R q k=>by
 unfold CY at q
 split at q
 .rename_i ds0 e0;obtain⟨a0,xs0,s0,g0,f0⟩:=R.ownAt e0;refine⟨_,s0,.inl ⟨rfl,xs0,SqL.of g0⟩,h A ρ σ H _ _ R q λv H1 p ρ1 q1 f1 o1=>?_⟩;obtain⟨R1,fv⟩:=o1.frz
  split at q1
  .rename_i ds es e1 e2;rw [e2] at fv;obtain⟨a,xs,s,g,f⟩:=R1.ownAt e1;rw [s0] at s;cases s
   cases fv with
   | lst no ez fz =>
    obtain⟨R2,f2⟩:=R1.lstw e1 s0 (f.append fz);exact⟨a0,_,xs,_,rfl,rfl,g,ez,r_ (by rw [f.length,fz.length];exact q1.1) (sz _ (l_ _)),k _ _ _ _ q1.2 (f1.trans f2) ⟨R2,.non⟩⟩
  .exact q1.elim
 .exact q.elim
end
section
variable {K:a_}{A O O':Addr->Prop}{fx:List (Nat×V)}{R:Addr->Prop}{H0 H0' H H':Hp}{ρ ρ':PSt}{σ:St}{x:Nat}{Da:Addr}{as:List Addr}{rows:List (List D)}
noncomputable def cl(x:Nat)(ρ:PSt):Option (List (List D))->PSt
 | none=>ρ
 | some rows=>ρ.set x (some (.own (rows.map D.lst)))
def tD(x:Nat)(ρ:PSt):cl x ρ none=ρ:=rfl
def tE(x:Nat)(ρ:PSt)(rows:List (List D)):cl x ρ (some rows)=ρ.set x (some (.own (rows.map D.lst))):=rfl
end
section
variable {K:a_}{A:Addr->Prop}{fx:List (Nat×V)}{R:Addr->Prop}{H0 H:Hp}{ρ:PSt}{σ:St}
noncomputable def mvd(ρ:PSt)(g r:Nat)(ds:List D):PSt:=(ρ.set r (some (.own ds))).set g none
def vO(ρ:PSt)(g r:Nat)(ds:List D):mvd ρ g r ds=(ρ.set r (some (.own ds))).set g none:=rfl
end
section
variable {X:Cx}{K:a_}
noncomputable def tBI(t:TE):TT:=λσ H Q=>t σ H λx H1=>∃i,x=.int i/\Q (i != 0) H1
def AA{e:Expr}{t:TE}(h:PE X e t)(he:∀whole,isTrue e X.env whole=(do let v <- whole;standAt e.pos;holding [v] (truthy v)):=by intro _;rfl):PT X e (tBI t):=by
 intro pins s σ H Q I hw;refine isTrue_plain (thn (h pins s σ H _ I hw) λv s1 ⟨x,H1,I1,r1,q1⟩=>?_) (he _);obtain⟨d,rfl,q⟩:=q1;obtain⟨t,rfl⟩:=r1;exact truthy_int ⟨H1,I1,q⟩
noncomputable def pBI(pe:PTE):PTT:=λρ Q=>pe ρ λp ρ1=>match p with
 | .dat (.int i)=>Q (i != 0) ρ1
 | _=>False
def B9{te:TE}{pe:PTE}(h:LE K te pe):LT K (tBI te) (pBI pe):=λA ρ σ H Q Q' R q k=>h A ρ σ H _ _ R q λv H1 p ρ1 q1 f1 o1=>by
 split at q1
 .rename_i b;obtain⟨R1,f⟩:=o1;cases f;exact⟨b,rfl,k _ H1 ρ1 q1 f1 R1⟩
 .exact q1.elim
end
noncomputable def ahB(a b:List Nat):Bool:=if a.length≠b.length then decide (a.length<b.length) else decide (a<b)
theorem mZ:∀a:List Nat,¬ a<a
 | []=>by simp
 | x::a=>by rw [Ea];exact λz=>z.elim (λh=>DB _ h) λh=>mZ a h.2
theorem tF:∀a b:List Nat,a.length=b.length->a<b\/a=b\/b<a
 | [],[],_=>.inr (.inl rfl)
 | x::a,y::b,h=>by
  rw [Ea,Ea]
  rcases lt_trichotomy x y with c|c|c
  .exact .inl (.inl c)
  .subst c
   rcases tF a b (GN h) with e|e|e
   .exact .inl (.inr ⟨rfl,e⟩)
   .exact .inr (.inl (by rw [e]))
   .exact .inr (.inr (.inr ⟨rfl,e⟩))
  .exact .inr (.inr (.inl c))
theorem lC:∀a b c:List Nat,a.length=b.length->b.length=c.length->a<b->b<c->a<c
 | [],[],_,_,_,h,_=>absurd h (mZ [])
 | x::a,y::b,z::c,h1,h2,p,q=>by
  rw [Ea] at *
  rcases p with p|⟨p,p'⟩ <;> rcases q with q|⟨q,q'⟩
  .exact .inl (lt_trans p q)
  .exact .inl (q ▸ p)
  .exact .inl (p ▸ q)
  .exact .inr ⟨p.trans q,lC a b c (GN h1) (GN h2) p' q'⟩
theorem tG:∀u a b:List Nat,(u++a<u++b) ↔ a<b
 | [],_,_=>Iff.rfl
 | x::u,a,b=>by
  show x::(u++a)<x::(u++b) ↔ _;rw [Ea];exact⟨λh=>h.elim (λh=>absurd h (DB _)) λh=>(tG u a b).mp h.2,λh=>.inr ⟨rfl,(tG u a b).mpr h⟩⟩
def kI{a b:List Nat}:ahB a b=false ↔ b.length<a.length\/(a.length=b.length/\¬ a<b):=by
 unfold ahB
 by_cases h:a.length=b.length
 .rw [if_neg (λz=>z h),decide_eq_false_iff_not];exact⟨λz=>.inr ⟨h,z⟩,λz=>z.elim (λz=>by omega) λz=>z.2⟩
 .rw [if_pos h,decide_eq_false_iff_not];exact⟨λz=>.inl (by omega),λz=>z.elim (λz=>by omega) λz=>absurd z.1 h⟩
def m7(a:List Nat):ahB a a=false:=kI.mpr (.inr ⟨rfl,mZ a⟩)
def og{a b:List Nat}(h:ahB a b=false)(h':ahB b a=false):a=b:=by
 rw [kI] at h h'
 rcases h with h|⟨h,n⟩
 .rcases h' with h'|⟨h',_⟩ <;> omega
 .rcases h' with h'|⟨h',n'⟩
  .omega
  .rcases tF a b h with e|e|e
   .exact absurd e n
   .exact e
   .exact absurd e n'
def i3{a b c:List Nat}(h:ahB a b=false)(h':ahB b c=false):ahB a c=false:=by
 rw [kI] at *
 rcases h with h|⟨h,n⟩
 .left;rcases h' with h'|⟨h',_⟩ <;> omega
 .rcases h' with h'|⟨h',n'⟩
  .left;omega
  .refine .inr ⟨h.trans h',λz=>?_⟩
   rcases tF a b h with e|e|e
   .exact n e
   .exact n' (e ▸ z)
   .exact n' (lC b a c h.symm (h.trans h') e z)
def Ca{a b:List Nat}(h:ahB a b=true):ahB b a=false:=by
 rw [kI];unfold ahB at h
 by_cases e:a.length=b.length
 .rw [if_neg (λz=>z e),decide_eq_true_eq] at h;exact .inr ⟨e.symm,λz=>mZ a (lC a b a e e.symm h z)⟩
 .rw [if_pos e,decide_eq_true_eq] at h;exact .inl h
def AB(u a b:List Nat):ahB (u++a) (u++b)=ahB a b:=by
 unfold ahB;rw [length_append,length_append]
 by_cases h:a.length=b.length
 .rw [if_neg (by omega),if_neg (by omega)];exact decide_eq_decide.mpr (tG u a b)
 .rw [if_pos (by omega),if_pos (by omega)];exact decide_eq_decide.mpr (by omega)
def vP{a b:List Nat}(h:ahB a b=false):b.length<=a.length:=by
 rw [kI] at h;omega
noncomputable def Lst(S:List Nat->Prop)(t:List Nat):Prop:=S t/\∀u,S u->ahB u t=false
def Lst.uniq{S:List Nat->Prop}{t u:List Nat}(h:Lst S t)(h':Lst S u):t=u:=og (h'.2 t h.1) (h.2 u h'.1)
def Lst.congr{S S':List Nat->Prop}{t:List Nat}(h:Lst S t)(e:∀u,S u ↔ S' u):Lst S' t:=⟨(e t).mp h.1,λu hu=>h.2 u ((e u).mpr hu)⟩
def lD(t:List Nat):Lst (·∈[t]) t:=⟨DI.mpr rfl,λu hu=>by rw [DI.mp hu];exact m7 t⟩
def lE{ts:List (List Nat)}{b t:List Nat}(h:Lst (·∈ts) b):Lst (·∈ts++[t]) (if ahB t b=true then t else b):=by
 by_cases c:ahB t b=true
 .rw [if_pos c];refine⟨we _ (DI.mpr rfl),λu hu=>?_⟩
  rcases DP.mp hu with h'|h'
  .exact i3 (h.2 u h') (Ca c)
  .rw [DI.mp h'];exact m7 t
 .rw [if_neg c];refine⟨DG _ h.1,λu hu=>?_⟩
  rcases DP.mp hu with h'|h'
  .exact h.2 u h'
  .rw [DI.mp h'];exact not_eq_true _ ▸ c
def vQ:∀{ts:List (List Nat)},ts≠[]->∃t,Lst (·∈ts) t:=λ{ts}=>by
 induction ts using n8 with
 | h0=>exact λh=>absurd rfl h
 | h1 l a ih =>
  intro _
  by_cases c:l=[]
  .rw [c];exact⟨a,lD a⟩
  .obtain⟨t,ht⟩:=ih c;exact⟨_,lE ht⟩
inductive Way (L:List (List (Nat×Nat))):Nat->List Nat->Prop
 | nil {n:Nat}:L.getD n []=[]->Way L n []
 | cons {n j r:Nat}{js:List Nat}:(j,r)∈L.getD n []->Way L r js->Way L n (j::js)
noncomputable def tlG(hd:Nat->Nat->List Nat)(ls:Nat->List Nat):Nat->List Nat->List Nat
 | i,[]=>ls i
 | i,j::r=>hd i j++tlG hd ls j r
noncomputable def yk(L:List (List (Nat×Nat)))(hd:Nat->Nat->List Nat)(ls:Nat->List Nat)(n i:Nat)(t:List Nat):Prop:=∃js,Way L n js/\t=tlG hd ls i js
def xO{L:List (List (Nat×Nat))}{hd:Nat->Nat->List Nat}{ls:Nat->List Nat}{n i:Nat}(h:L.getD n []=[]):Lst (yk L hd ls n i) (ls i):=⟨⟨[],.nil h,rfl⟩,λu ⟨js,w,e⟩=>by
 cases w with
 | nil _=>rw [e];exact m7 _
 | cons m _=>rw [h] at m;cases m⟩
def u6{L:List (List (Nat×Nat))}{hd:Nat->Nat->List Nat}{ls:Nat->List Nat}{n i:Nat}{E:Nat->Nat->List Nat}(hn:L.getD n []≠[])(hE:∀p∈L.getD n [],Lst (yk L hd ls p.2 p.1) (E p.2 p.1)){t:List Nat}(h:Lst (·∈(L.getD n []).map λp=>hd i p.1++E p.2 p.1) t):Lst (yk L hd ls n i) t:=by
 obtain⟨hm,hl⟩:=h;obtain⟨p,hp,rfl⟩:=EC.mp hm;obtain⟨js,w,e⟩:=(hE p hp).1;refine⟨⟨p.1::js,.cons hp w,by rw [e];rfl⟩,λu ⟨js',w',e'⟩=>?_⟩
 cases w' with
 | nil z=>exact absurd z hn
 | @cons _ j r js'' m w'' =>
  have h1:=(hE (j,r) m).2 _ ⟨js'',w'',rfl⟩;rw [e'];refine i3 (b:=hd i j++E r j) ?_ (hl _ (EC.mpr ⟨(j,r),m,rfl⟩));show ahB (hd i j++_) _=false;rw [AB];exact h1
def xP{L:List (List (Nat×Nat))}{hd:Nat->Nat->List Nat}{ls:Nat->List Nat}{n:Nat}{E:Nat->Nat->List Nat}(hn:L.getD n []≠[])(hE:∀p∈L.getD n [],Lst (yk L hd ls p.2 p.1) (E p.2 p.1)){t:List Nat}(h:Lst (·∈(L.getD n []).map λp=>E p.2 p.1) t):Lst (λu=>∃j js,Way L n (j::js)/\u=tlG hd ls j js) t:=by
 obtain⟨hm,hl⟩:=h;obtain⟨p,hp,rfl⟩:=EC.mp hm;obtain⟨js,w,e⟩:=(hE p hp).1;refine⟨⟨p.1,js,.cons hp w,e⟩,λu ⟨j,js',w',e'⟩=>?_⟩
 cases w' with
 | @cons _ _ r _ m w''=>rw [e'];exact i3 ((hE (j,r) m).2 _ ⟨js',w'',rfl⟩) (hl _ (EC.mpr ⟨(j,r),m,rfl⟩))
noncomputable def hdW(ws:List (List Nat))(i j:Nat):List Nat:=(pw ws i).take ((pw ws i).length - et (pw ws i) (pw ws j))
def xQ{a b:List Nat}{k:Nat}(h:lx a b k):a=a.take (a.length - k)++b.take k:=by
 have h1:=h.1;obtain⟨u,e⟩:=h.2.1;have hl:(b.take k).length=k:=by rw [length_take];omega
 have:u=a.take (a.length - k):=by
  rw [<- e,length_append,hl,add_sub_cancel,take_left]
 rw [<- this,e]
theorem tH{ws:List (List Nat)}:∀(js:List Nat) (i:Nat),0<(pw ws i).length->(∀j∈js,0<(pw ws j).length)->tlG (hdW ws) (pw ws) i js=glN ws (i::js)
 | [],i,_,_=>by show pw ws i=pw ws i++_;rw [show glT ws i []=[] from rfl,DQ]
 | j::r,i,hi,hj=>by
  have h0:=hj j mem_cons_self;have ih:=tH r j h0 λk hk=>hj k (o_ _ hk);have hs:=xQ (hM hi h0);show hdW ws i j++tlG (hdW ws) (pw ws) j r=pw ws i++((pw ws j).drop (et (pw ws i) (pw ws j))++glT ws j r)
  rw [ih];show _++(pw ws j++glT ws j r)=_;unfold hdW;generalize et (pw ws i) (pw ws j)=k at hs ⊢;generalize hA:(pw ws i).take ((pw ws i).length - k)=A at hs ⊢;rw [hs,append_assoc,<- append_assoc (as:=(pw ws j).take _),DS]
def vR{L:List (List (Nat×Nat))}{w:Nat}(h:∀n,∀p∈L.getD n [],p.1<w){n:Nat}{js:List Nat}(hw:Way L n js):∀j∈js,j<w:=by
 induction hw with
 | nil _=>exact λj hj=>nomatch hj
 | cons m _ ih=>exact λj hj=>(C_.mp hj).elim (λe=>e ▸ h _ _ m) (ih j)
def xR{L:List (List (Nat×Nat))}(h:∀n,∀p∈L.getD n [],p.2<n){n:Nat}{js:List Nat}(hw:Way L n js):js.length<=n:=by
 induction hw with
 | nil _=>exact EI _
 | cons m _ ih=>have:=h _ _ m;show _+1<=_;omega
theorem tI{hd:Nat->Nat->List Nat}{ls:Nat->List Nat}{w m:Nat}(h1:∀i j,(hd i j).length<=m)(h2:∀i,(ls i).length<=m):∀(js:List Nat) (i:Nat),(tlG hd ls i js).length<=m*(js.length+1)
 | [],i=>by show (ls i).length<=m*1;rw [Nat.mul_one];exact h2 i
 | j::r,i=>by
  have:=tI h1 h2 (w:=w) r j;have:=h1 i j;show (hd i j++_).length<=m*(r.length+1+1);rw [length_append,mul_succ];omega
noncomputable def hZ(m:Nat):List Nat:=(c_ 12).filter m.testBit
def lF{m n i:Nat}(hm:m<2^n)(h:m.testBit i=true):i<n:=by
 rcases FO i n with h2|h2
 .exact h2
 .rw [FP (pf hm (Es (n:=2) (by decide) h2))] at h;cases h
def fc{m j:Nat}(hm:m<4096):j∈hZ m ↔ m.testBit j=true:=by
 unfold hZ;rw [DK,mem_range];exact⟨λh=>h.2,λh=>⟨lF (n:=12) hm h,h⟩⟩
def lG{m i:Nat}(hm:m<4096)(h:m.testBit i=true):2^i<=m/\∀j,(m - 2^i).testBit j=(m.testBit j && decide (j≠i)):=by
 have ge:∀s:Nat,s.testBit i=true->2^i<=s:=λs hs=>by
  rcases FO s (2^i) with z|z
  .rw [FP z] at hs;cases hs
  .exact z
 refine⟨ge m h,λj=>?_⟩;obtain⟨q,s,hs,e⟩:∃q s,s<2^(i+1)/\m=2^(i+1)*q+s:=⟨m / 2^(i+1),m % 2^(i+1),mod_lt _ (pow_pos (by decide)),(div_add_mod m (2^(i+1))).symm⟩
 subst e
 have hsb:s.testBit i=true:=by
  rw [E1 _ hs,if_pos (by omega)] at h;exact h
 have h1:=ge s hsb;obtain⟨r,rfl⟩:∃r,s=2^i+r:=⟨s - 2^i,by omega⟩
 have hp:2^(i+1)=2^i+2^i:=by rw [pow_succ];omega
 have hr:r<2^i:=by omega
 rw [show 2^(i+1)*q+(2^i+r) - 2^i=2^(i+1)*q+r by omega,E1 _ (show r<2^(i+1) by omega),E1 _ hs]
 by_cases c:j<i+1
 .rw [if_pos c,if_pos c]
  rcases FO j i with z|z
  .rw [testBit_two_pow_add_gt z];simp;omega
  .have:j=i:=by omega
   subst this;rw [FP hr];simp
 .rw [if_neg c,if_neg c];simp;omega
noncomputable def h7(n:Nat):List (List (Nat×Nat)):=(c_ (2^n)).map λm=>(hZ m).map λi=>(i,m - 2^i)
def gx{n m:Nat}(h:m<2^n):(h7 n).getD m []=(hZ m).map λi=>(i,m - 2^i):=by
 unfold h7;rw [d_,k_,D0 h];rfl
def lH{n m:Nat}(hn:n<=12){p:Nat×Nat}(h:p∈(h7 n).getD m []):m<2^n/\p.1<n/\p.2<m/\m.testBit p.1=true/\p.2=m - 2^p.1:=by
 by_cases c:m<2^n
 .rw [gx c] at h;obtain⟨i,hi,rfl⟩:=EC.mp h;have h12:m<4096:=pf c (Es (n:=2) (by decide) hn);have hb:=(fc h12).mp hi;have:=(lG h12 hb).1;have h0:0<2^i:=pow_pos (by decide);exact⟨c,lF c hb,by show m - 2^i<m;omega,hb,rfl⟩
 .rw [d_,y_ (by unfold h7;rw [length_map,C0];omega)] at h;cases h
theorem lI{n:Nat}(hn:n<=12):∀(js:List Nat) (m:Nat),m<2^n->(Way (h7 n) m js ↔ js.Nodup/\∀i,i∈js ↔ m.testBit i=true)
 | [],m,hm=>by
  have h12:m<4096:=pf hm (Es (n:=2) (by decide) hn)
  constructor
  .rintro (h|_);rw [gx hm] at h;have h:=EF.mp h;exact⟨nodup_nil,λi=>⟨λz=>(not_mem_nil z).elim,λz=>by rw [<- fc h12,h] at z;cases z⟩⟩
  .rintro⟨_,h⟩;refine .nil ?_;rw [gx hm,EF];exact eq_nil_iff_forall_not_mem.mpr λi hi=>nomatch (h i).mpr ((fc h12).mp hi)
 | j::r,m,hm=>by
  have h12:m<4096:=pf hm (Es (n:=2) (by decide) hn)
  constructor
  .intro h
   cases h with
   | @cons _ _ r' _ hc hw =>
    obtain⟨_,c2,c3,c4,c5⟩:=lH hn hc;have c4:m.testBit j=true:=c4;have c5:r'=m - 2^j:=c5;subst c5;obtain⟨nd,hi⟩:=(lI hn r _ (lt_trans c3 hm)).mp hw;have hb:=(lG h12 c4).2
    refine⟨FF.mpr ⟨λz=>?_,nd⟩,λi=>?_⟩
    .have:=(hi j).mp z;rw [hb,decide_eq_false (λz=>z rfl),E7] at this;cases this
    .rw [C_,hi,hb]
     by_cases e:i=j
     .subst e;simp [c4]
     .simp [e]
  .rintro⟨nd,hi⟩;have c4:=(hi j).mp mem_cons_self;obtain⟨c1,hb⟩:=lG h12 c4;obtain⟨nj,nd⟩:=FF.mp nd
   refine .cons (r:=m - 2^j) ?_ ((lI hn r _ (lt_of_le_of_lt (sub_le _ _) hm)).mpr ⟨nd,λi=>?_⟩)
   .rw [gx hm];exact EC.mpr ⟨j,(fc h12).mpr c4,rfl⟩
   .rw [hb,and_eq_true,decide_eq_true_eq,<- hi,C_];refine⟨λh=>⟨.inr h,λe=>nj (e ▸ h)⟩,λh=>h.1.elim (λe=>absurd e h.2) id⟩
def p6{n:Nat}(hn:n<=12){js:List Nat}:Way (h7 n) (2^n - 1) js ↔ js.Perm (c_ n):=by
 have h0:0<2^n:=pow_pos (by decide);rw [lI hn js _ (by omega)]
 constructor
 .rintro⟨nd,h⟩;refine (perm_ext_iff_of_nodup nd GH).mpr λi=>?_;rw [h,testBit_two_pow_sub_one,mem_range,decide_eq_true_eq]
 .intro h;refine⟨h.nodup_iff.mpr GH,λi=>?_⟩;rw [h.mem_iff,testBit_two_pow_sub_one,mem_range,decide_eq_true_eq]
noncomputable def oh(ps:List (List Nat))(u:List Nat):Prop:=∀p∈ps,p <:+: u
noncomputable def GlS(ws:List (List Nat))(u:List Nat):Prop:=∃js:List Nat,js.Perm (c_ ws.length)/\u=glN ws js
def oi{ps:List (List Nat)}{u:List Nat}(hin:∀w∈ag ps,w <:+: u):∃js:List Nat,js.Perm (c_ (ag ps).length)/\js.Pairwise (λa b=>fnd u (pw (ag ps) a) 0<fnd u (pw (ag ps) b) 0):=by
 let le:Nat->Nat->Bool:=λa b=>decide (fnd u (pw (ag ps) a) 0<=fnd u (pw (ag ps) b) 0)
 have hp:=mergeSort_perm (c_ (ag ps).length) le
 have hs:((c_ (ag ps).length).mergeSort le).Pairwise (λa b=>le a b=true):=pairwise_mergeSort (le:=le) (λa b c h1 h2=>decide_eq_true (GO (of_decide_eq_true h1) (of_decide_eq_true h2))) (λa b=>by
  rcases Int.le_total (fnd u (pw (ag ps) a) 0) (fnd u (pw (ag ps) b) 0) with h|h
  .rw [show le a b=true from decide_eq_true h,Bool.true_or]
  .rw [show le b a=true from decide_eq_true h,Bool.or_true]) _
 have nd:=hp.nodup_iff.mpr GH;refine⟨_,hp,(hs.and nd).imp_of_mem λ{a b} ma mb h=>?_⟩;have la:=mem_range.mp (hp.mem_iff.mp ma);have lb:=mem_range.mp (hp.mem_iff.mp mb);have h1:fnd u (pw (ag ps) a) 0<=fnd u (pw (ag ps) b) 0:=of_decide_eq_true h.1;have h2:=Av (hin _ (bL la)) (hin _ (bL lb)) (hX la lb h.2) (hX lb la (EA h.2));omega
def lJ{ps:List (List Nat)}(hp:Pcs 60 ps){js:List Nat}(h:js.Perm (c_ (ag ps).length)):oh ps (glN (ag ps) js):=λp hpp=>by
 refine u0 (λw hw=>(hp w hw).2.1) (λw hw=>?_) hpp;obtain⟨j,hj,rfl⟩:=FL hw;rw [show (ag ps)[j]=pw (ag ps) j from q_ ((cy hj).symm.trans (cE hj))];exact vK (λk hk=>(cp hp _ (bL (mem_range.mp (h.mem_iff.mp hk)))).1) (h.mem_iff.mpr (mem_range.mpr hj))
def u7{ps:List (List Nat)}{w:List Nat}(h:w∈ag ps):w∈ps:=by
 unfold ag at h;obtain⟨k,hk,rfl⟩:=EC.mp h;exact bL (cW hk)
def p7{ps:List (List Nat)}(hp:Pcs 60 ps){u:List Nat}(h:oh ps u):∃js:List Nat,js.Perm (c_ (ag ps).length)/\ahB u (glN (ag ps) js)=false:=by
 have hin:∀w∈ag ps,w <:+: u:=λw hw=>h w (u7 hw);obtain⟨js,h1,h2⟩:=oi hin;obtain⟨b1,b2,_,_⟩:=xJ hp hin h1 h2;refine⟨js,h1,?_⟩
 by_cases e:(glN (ag ps) js).length=u.length
 .rw [b2 e];exact m7 u
 .rw [kI];left;omega
def p8{ps:List (List Nat)}(hp:Pcs 60 ps){t:List Nat}(h:Lst (GlS (ag ps)) t):Lst (oh ps) t:=by
 obtain⟨⟨js,h1,e⟩,hl⟩:=h;refine⟨by rw [e];exact lJ hp h1,λu hu=>?_⟩;obtain⟨ks,k1,k2⟩:=p7 hp hu;exact i3 k2 (hl _ ⟨ks,k1,rfl⟩)
def u8{ps:List (List Nat)}(hp:Pcs 60 ps){t:List Nat}(h:Lst (oh ps) t):Lst (GlS (ag ps)) t:=by
 obtain⟨ks,k1,k2⟩:=p7 hp h.1;have e:t=glN (ag ps) ks:=og k2 (h.2 _ (lJ hp k1));exact⟨⟨ks,k1,e⟩,λu ⟨js,h1,e1⟩=>by rw [e1];exact h.2 _ (lJ hp h1)⟩
section
variable {X:Cx}{K:a_}{a b:Expr}{rest:List Expr}{ta tb:TE}{pe pe':PTE}
noncomputable def tBL(K:a_)(t:TE):TT:=λσ H Q=>t σ H λx H1=>∃k,A4 K x H1 k/\Q k H1
def xS(K:a_)(e:X.K=K)(ha:PE X a ta)(he:∀whole,isTrue a X.env whole=(do let v <- whole;standAt a.pos;holding [v] (truthy v)):=by intro _;rfl):PT X a (tBL K ta):=by
 subst e;exact t7 ha he
noncomputable def pBL(pe:PTE):PTT:=λρ Q=>pe ρ λp ρ1=>match p.d with
 | .lst ds=>Q (!ds.isEmpty) ρ1
 | .tup ds=>Q (!ds.isEmpty) ρ1
 | _=>False
def FVs.emp{O:Addr->Prop}{H:Hp}{xs:List V}{ds:List D}(h:FVs K O H xs ds):(!xs.isEmpty)=!ds.isEmpty:=by cases h <;> rfl
def Cb(h:LE K ta pe):LT K (tBL K ta) (pBL pe):=λA ρ σ H Q Q' R q k=>h A ρ σ H _ _ R q λv H1 p ρ1 q1 f1 o1=>by
 obtain⟨R1,f⟩:=o1.frz
 split at q1
 .rename_i ds e;rw [e] at f
  cases f with
  | lst na ea fa=>exact⟨!ds.isEmpty,.inl ⟨_,SqL.of ea,fa.emp.symm⟩,k _ H1 ρ1 q1 f1 R1⟩
 .rename_i ds e;rw [e] at f
  cases f with
  | tup na ea fa=>exact⟨!ds.isEmpty,.inr (.inl ⟨_,SqT.of ea,fa.emp.symm⟩),k _ H1 ρ1 q1 f1 R1⟩
 .exact q1.elim
noncomputable def CZ(K:a_)(ta tb:TE):TE:=λσ H Q=>ta σ H λx H1=>∃k,A4 K x H1 k/\if k=true then Q x H1 else tb σ H1 Q
def AC(K:a_)(e:X.K=K)(ha:PE X a ta)(hb:PE X (.BoolOp .Or (b::rest) pos) tb):PE X (.BoolOp .Or (a::b::rest) pos) (CZ K ta tb):=by
 subst e;intro pins s σ H Q I h;refine BoolOp_or (thn (ha pins s σ H _ I h) λv s1 ⟨x,H1,I1,r1,q1⟩=>?_);obtain⟨k,hk,q1⟩:=q1;refine thn (vt pins s1 σ H1 x v (λk' H'=>k'=k/\H'=H1) I1 r1 ⟨k,hk,rfl,rfl⟩) λc s2 z=>?_;obtain⟨H2,I2,z1,z2⟩:=z;subst z1 z2
 cases c with
 | false=>exact hb pins s2 σ _ Q I2 q1
 | true=>exact⟨x,_,I2,r1,q1⟩
noncomputable def Dt(a b:PTE):PTE:=λρ Q=>a ρ λp ρ1=>match p.d with
 | .lst ds=>fA (!ds.isEmpty) (Q p ρ1) (b ρ1 Q)
 | .tup ds=>fA (!ds.isEmpty) (Q p ρ1) (b ρ1 Q)
 | _=>False
def AD(ha:LE K ta pe)(hb:LE K tb pe'):LE K (CZ K ta tb) (Dt pe pe'):=λA ρ σ H Q Q' R q k=>ha A ρ σ H _ _ R q λv H1 p ρ1 q1 f1 o1=>by
 obtain⟨R1,f⟩:=o1.frz
 have fin:∀c:Bool,fA c (Q p ρ1) (pe' ρ1 Q)->(if c=true then Q' v H1 else tb σ H1 Q'):=λc z=>by
  cases c with
  | false=>exact hb A ρ1 σ H1 _ _ R1 z λb H2 p2 ρ2 q2 f2 o2=>k b H2 p2 ρ2 q2 (f1.trans f2) (o2.h0 λb z=>f1.dm b z)
  | true=>exact k _ H1 _ ρ1 z f1 o1
 split at q1
 .rename_i ds e;rw [e] at f
  cases f with
  | lst na ea fa=>exact⟨!ds.isEmpty,.inl ⟨_,SqL.of ea,fa.emp.symm⟩,fin _ q1⟩
 .rename_i ds e;rw [e] at f
  cases f with
  | tup na ea fa=>exact⟨!ds.isEmpty,.inr (.inl ⟨_,SqT.of ea,fa.emp.symm⟩),fin _ q1⟩
 .exact q1.elim
end
noncomputable def XI(K:a_)(G:Addr)(nm:String)(C:Addr):Prop:=so K mainGlobals nm=some (some (.ref C))/\(∃(q:Str) (N:Addr) (bs sub:List Value) (sn:List Str) (ab:Bool) (col:Option Bool) (k0 k1 k2 k3 k5:Option Value),K.lookup C=some (excClassObj nm q C N bs (.ref G::[.type "ValueError",.type "Exception",.type "BaseException",.type "object"]) true sn sub ab col none k0 k1 k2 k3 k5 "ValueError.__new__")) /\
 i_ K (.ref C) "__getattribute__"=some (some (.builtin "BaseException.__getattribute__"))/\i_ K (.ref C) "__getattr__"=some none/\i_ K (.ref C) "__setattr__"=some (some (.builtin "object.__setattr__"))/\i_ K (.ref C) "__class__"=some (some (.builtin "object.__class__"))/\s_ K (.ref C)=true
def Cc{K:a_}{G:Addr}{nm:String}{C:Addr}{q:Str}{N:Addr}{bs sub:List Value}{sn:List Str}{ab:Bool}{col:Option Bool}{k0 k1 k2 k3 k5:Option Value}(a:so K mainGlobals nm=some (some (.ref C)))
  (l:K.lookup C=some (excClassObj nm q C N bs (.ref G::[.type "ValueError",.type "Exception",.type "BaseException",.type "object"]) true sn sub ab col none k0 k1 k2 k3 k5 "ValueError.__new__"))
  (g:i_ K (.ref C) "__getattribute__"=some (some (.builtin "BaseException.__getattribute__"))) (h:i_ K (.ref C) "__getattr__"=some none) (s:i_ K (.ref C) "__setattr__"=some (some (.builtin "object.__setattr__"))) (c:i_ K (.ref C) "__class__"=some (some (.builtin "object.__class__"))) (k:s_ K (.ref C)=true):XI K G nm C :=
 ⟨a,⟨_,_,_,_,_,_,_,_,_,_,_,_,l⟩,g,h,s,c,k⟩
noncomputable def XJ(K:a_)(C:Addr)(qn at_:String)(st:Stmt):Prop:=∃(fx:Addr) (oc kV dc pm cd ct:Value) (od an:Option Addr) (sl:Array (Option Value)),i_ K (.ref C) "__init__"=some (some (.ref fx))/\GB K (.ref fx)=some (.type "function")/\K.lookup fx=some ⟨oc,od,.func (v_ "__init__" qn (bb st) (aJ st) (ah st) .none kV dc pm an cd ct),sl⟩/\Dw K cd qn=true/\s_ K (.ref fx)=true/\i_ K (.ref C) at_=some none
def Cd{K:a_}{C:Addr}{qn at_:String}{st:Stmt}{fx:Addr}{oc kV dc pm cd ct:Value}{od an:Option Addr}{sl:Array (Option Value)}(i:i_ K (.ref C) "__init__"=some (some (.ref fx)))(t:GB K (.ref fx)=some (.type "function"))(l:K.lookup fx=some ⟨oc,od,.func (v_ "__init__" qn (bb st) (aJ st) (ah st) .none kV dc pm an cd ct),sl⟩)(c:Dw K cd qn=true)(k:s_ K (.ref fx)=true)(n:i_ K (.ref C) at_=some none):XJ K C qn at_ st :=
 ⟨_,_,_,_,_,_,_,_,_,_,i,t,l,c,k,n⟩
section
open PySem.AutoSeq1 (wpAny_loadPart')
open PySem.MeetsSeq PySem.MeetsSeq2 PySem.MeetsSeq3
variable {P:n_}{w:World}{A:t_}
end
def cQ.m{j k:Nat}{A:t_}(r:cQ k A)(h:Nat.ble j k=true):cQ j A:=r.mono (F4 h)
section
variable {P:n_}{w:World}{K:a_}{mg:Str->Option Value}{base:Heap}{x:Str}{st:Stmt}{N ps:List Str}{k n:Nat}
abbrev xT(x:Str)(st:Stmt)(ps:List Str):Prop:=∀(kV doc pm:Value) (an:Option Addr) (cdv ct:Value) (us:List Value),us.length=ps.length->bindArgs (v_ x x (bb st) (aJ st) (ah st) .none kV doc pm an cdv ct) ⟨us,[]⟩=pure (ps.zip us)
def bE.oP{c:FN}{pp:PTS}(D:bE K mg x st)(S:aB N ps (ah st))(hb:xT x st ps)(ln:∀ds Q,c ds Q->ds.length=n)(h1:n=ps.length)(h2:Nat.ble n N.length=true)(rd:∀ds Q,c ds Q->Bb pp N.length ds Q)
  (hbody:∀(f:Addr) (cdv:Value) (A:t_) (outer:List Env) (s:cx) (H:Hp) (E:XK),cQ k (A.deeper (envOfC x (ah st) s.heap.objs.size f cdv))->(A.deeper (envOfC x (ah st) s.heap.objs.size f cdv)).units+64<cLine ->
   ∃t,PSs (md CX0 P w K mg base N x (ah st) f cdv A outer s H E).nox (aJ st) t/\LS K [] t pp):Cal P w K mg base (k+1) x ps (spP K c):=by
 refine D.ok S hb (λvs H Q E h=>(Ba ln h).trans h1) λf cdv A outer s H vs Q E hr h=>?_;obtain⟨t,h3,h4⟩:=hbody f cdv A outer s H E hr hr.units;exact⟨t,h3,fnP h4 (λds Q h=>r_ (Ga (ln ds Q h)) (F4 h2)) rd h⟩
end
noncomputable def psO{fs:List Nat}{A:a_->(Str->Option Value)->Prop}{ts:a_->(Str->Option Value)->TS}{ps:PTS}(_:∀K mg,A K mg->LS K fs (ts K mg) ps):PTS:=ps
noncomputable def cN(p:Prop):List D->Prop|[]=>p|_=>False
noncomputable def cD(f:D->List D->Prop):List D->Prop|d::r=>f d r|_=>False
noncomputable def cS(f:List Nat->List D->Prop):List D->Prop|.str t::r=>f t r|_=>False
noncomputable def cI(f:Int->List D->Prop):List D->Prop|.int t::r=>f t r|_=>False
noncomputable def cL(f:List D->List D->Prop):List D->Prop|.lst t::r=>f t r|_=>False
noncomputable def cT(f:List D->List D->Prop):List D->Prop|.tup t::r=>f t r|_=>False
noncomputable def cR(f:List Int->List D->Prop):List D->Prop|.scr t::r=>f t r|_=>False
noncomputable def cO(f:Str->List Str->List D->List D->Prop):List D->Prop|.obj c ns fs::r=>f c ns fs r|_=>False
def Ce{α:Type}{l:List α}(h:l.length=1):∃a,l=[a]:=match l,h with|[a],_=>⟨a,rfl⟩
def AE{α:Type}{l:List α}(h:l.length=2):∃a b,l=[a,b]:=match l,h with|[a,b],_=>⟨a,b,rfl⟩
def Cf{α:Type}{l:List α}(h:l.length=3):∃a b c,l=[a,b,c]:=match l,h with|[a,b,c],_=>⟨a,b,c,rfl⟩
noncomputable def oI(c:Str)(f:Prop):PV->Prop|.ins c' ns ds=>c'=c/\ns=[]/\ds=[]/\f|_=>False
section
variable {P:List D->Prop}{ds:List D}
@[elab_as_elim] theorem gy {p:Prop} (h:cN p ds) (k:p->P []):P ds:=match ds,h with|[],h=>k h
@[elab_as_elim] theorem AF {f:D->List D->Prop} (h:cD f ds) (k:∀d r,f d r->P (d::r)):P ds:=match ds,h with|d::r,h=>k d r h
@[elab_as_elim] theorem tJ {f:List Nat->List D->Prop} (h:cS f ds) (k:∀t r,f t r->P (.str t::r)):P ds:=match ds,h with|.str t::r,h=>k t r h
@[elab_as_elim] theorem qI {f:Int->List D->Prop} (h:cI f ds) (k:∀t r,f t r->P (.int t::r)):P ds:=match ds,h with|.int t::r,h=>k t r h
@[elab_as_elim] theorem xU {f:List D->List D->Prop} (h:cL f ds) (k:∀t r,f t r->P (.lst t::r)):P ds:=match ds,h with|.lst t::r,h=>k t r h
@[elab_as_elim] theorem vS {f:List D->List D->Prop} (h:cT f ds) (k:∀t r,f t r->P (.tup t::r)):P ds:=match ds,h with|.tup t::r,h=>k t r h
@[elab_as_elim] theorem Bc {f:List Int->List D->Prop} (h:cR f ds) (k:∀t r,f t r->P (.scr t::r)):P ds:=match ds,h with|.scr t::r,h=>k t r h
@[elab_as_elim] theorem Cg {f:Str->List Str->List D->List D->Prop} (h:cO f ds) (k:∀c ns fs r,f c ns fs r->P (.obj c ns fs::r)):P ds:=match ds,h with|.obj c ns fs::r,h=>k c ns fs r h
@[elab_as_elim] theorem Du {P:PV->Prop}{p:PV}{c:Str}{f:Prop} (h:oI c f p) (k:f->P (.ins c [] [])):P p:=match p,h with|.ins _ _ _,⟨e1,e2,e3,hf⟩=>by subst e1 e2 e3;exact k hf
end
abbrev PRl(c:FN)(pp:PTS)(m n:Nat):Prop:=∀ds Q,c ds Q->ds.length=n/\Bb pp m ds Q
abbrev RRl(c:FR)(pp:PTS)(m n:Nat):Prop:=∀p ds Q,c p ds Q->ds.length+1=n/\CP pp m p ds Q
section
variable {P:n_}{w:World}{K:a_}{mg:Str->Option Value}{base:Heap}{x:Str}{st:Stmt}{N ps:List Str}{k n:Nat}
def bE.oP2{c:FN}{pp:PTS}(D:bE K mg x st)(S:aB N ps (ah st))(hb:xT x st ps)(rl:PRl c pp N.length n)(h1:n=ps.length)(h2:Nat.ble n N.length=true)
  (hbody:∀(f:Addr) (cdv:Value) (A:t_) (outer:List Env) (s:cx) (H:Hp) (E:XK),cQ k (A.deeper (envOfC x (ah st) s.heap.objs.size f cdv))->(A.deeper (envOfC x (ah st) s.heap.objs.size f cdv)).units+64<cLine ->
   ∃t,PSs (md CX0 P w K mg base N x (ah st) f cdv A outer s H E).nox (aJ st) t/\LS K [] t pp):Cal P w K mg base (k+1) x ps (spP K c):=D.oP S hb (λds Q h=>(rl ds Q h).1) h1 h2 (λds Q h=>(rl ds Q h).2) hbody
end
def AG{CX:CXT}{P:n_}{w:World}{K:a_}{mg:Str->Option Value}{base:Heap}{k:Nat}{f:Addr}{name qual:Str}{params:Gb}{body:Expr}{scope:Scope}{pm cdv ctv:Value}{N ps:List Str}{A:t_}{outer:List Env}{s:cx}{H:Hp}{us:List Value}{vs:List V}{te:TE}{Q:VK}{E:XK}
  (S:aB N ps scope) (ho:s.heap.get? f=some { cls:=.type "function",data:=.func (FQ name qual params body scope [] pm cdv ctv) }) (hcd:s.heap.CodeRec cdv qual)
  (hr:cQ (k+1) A) (e0:qZ P w K mg base A outer s H) (r:bB vs us) (hl:vs.length=ps.length) (hb:Fv s (FQ name qual params body scope [] pm cdv ctv) ⟨us,[]⟩ (ps.zip us))
  (hbody:PE (md CX P w K mg base N qual scope f cdv A outer s H E).nox body te) (hq:te (start N vs) H Q) :
  codeAny (model P w) A (.call (.ref f) ⟨us,[]⟩) (CR CX outer P w H s Q E) s:=by
 have lim:s.heap.NoLimit:=e0.mod.nolimit.keeps λb o e=>(e0.bs b o e).1
 have hkind:∀y∈ps.zip us,scope.names.lookup y.1=some .local\/(scope.names.lookup y.1=some .cell/\((cellsFrom (s.heap.objs.size+1) scope.names []).lookup y.1).isSome=true):=λ⟨n,v⟩ hy=>by
  rcases S.par n (of_mem_zip hy).1 with q|q
  .exact .inl q
  .exact .inr ⟨q,D8 _ _ _ (.inl q)⟩
 refine PySem.W.kla_callFunE hr.depth ho rfl S.co S.gen rfl hcd (hb _ _ _ _ ?_);refine FG S.kind hkind λenv he s1 x=>?_;subst he;refine⟨lim.keeps x.toInCall.keep,PySem.W.kla_codeExpr ?_⟩;have I:Inv (md CX P w K mg base N qual scope f cdv A outer s H E).nox [] (start N vs) H s1:=(me S hr.hd e0 hl r x).wish _;refine Eb (hbody [] s1 (start N vs) H Q I hq) (λu s' hs=>?_) λe s' hs=>hs.elim
 obtain⟨v,H',J,rv,q⟩:=hs;exact⟨v,H',J.os,J.bare,J.base,J.hok,rv,q⟩
section
variable {H:Hp}{h:Heap}{a:Addr}{q:Str}
theorem dL.trip:∀l:List Value,dL H h a q l->TriplesOk l
 | [],_=>trivial
 | .int _ _::.int _ _::.ref c::r,x=>dL.trip r x.2.2
theorem dL.found{pos:Pos}{cv:Value}:∀l:List Value,dL H h a q l->codeAmong pos l=some cv->∃c,cv=.ref c/\h.CodeRec (.ref c) q/\H c=some (.own a)
 | [],_,e=>nomatch e
 | .int i u::.int j v::.ref c::r,x,e=>by
  obtain⟨x1,⟨oc,vs,t,e1,e2,e3⟩,x2⟩:=x;rw [codeAmong] at e
  by_cases z:(i == pos.line && j == pos.col)=true
  .rw [if_pos z] at e;cases e;exact⟨c,rfl,⟨c,oc,vs,t,rfl,e1,e2,e3⟩,x1⟩
  .rw [if_neg z] at e;exact dL.found r x2 e
theorem dL.snoc{i j:Int}{c:Addr}(hc:H c=some (.own a))(hr:h.CodeRec (.ref c) q):∀l:List Value,dL H h a q l->dL H h a q (l++[rawInt i,rawInt j,.ref c])
 | [],_=>by
  obtain⟨c2,oc,vs,t,e0,e1,e2,e3⟩:=hr;cases e0;exact⟨hc,⟨oc,vs,t,e1,e2,e3⟩,trivial⟩
 | .int _ _::.int _ _::.ref c::r,x=>⟨x.1,x.2.1,dL.snoc hc hr r x.2.2⟩
end
structure j8 (mg:Str->Option Value) (base:Heap) (cdv:Value) (P:Addr) (q:Str):Prop where
 code:∃c,cdv=.ref c/\PySem.W.CodeHd base c P
 reg:∃r:List Nat,base.life.registered=P::r/\q=⟨r.toArray⟩
 blt:∃bm ob,mg "__builtins__"=some (.ref bm)/\bm≠builtinsNs/\bm≠mainGlobals/\base.get? bm=some ob/\ob.cls=.type "module"/\ob.dict=some builtinsNs/\ob.data=.plain
section
variable {X:Cx}{pins:List (Addr×Obj)}{σ:St}{H:Hp}{s:cx}
def AH{P:Addr}{q name:Str}{params:Gb}{body:Expr}{scope:Scope}{pos:Pos}{fl:Nat}{M:Model}{A:t_}{E:Value->cx->Prop}{Q:Value->cx->Prop}(I:Inv X pins σ H s)(L:j8 X.mg X.base X.env.code P q)(hfree:∀x∈scope.names,x.2≠.free)
  (k:∀f c' ctv H' s',Inv X pins σ H' s'->(∀b o,H b=some o->H' b=some o)->s'.heap.get? f=some (ER name q params body scope [] ((X.mg "__name__").getD .none) c' ctv)->H' f=none->s.heap.get? f=none->s'.heap.CodeRec (.ref c') q->H' c'=some (.own P)->Q (.ref f) s') :
  wpAny M A (makeFunction name q params (.expr body) scope X.env [] [] [] pos fl) Q E s:=by
 obtain⟨c,hc,C⟩:=L.code;obtain⟨r,hreg,rfl⟩:=L.reg;obtain⟨bm,ob,b1,b2,b3,b4,b5,b6,b7⟩:=L.blt;obtain⟨t,more,hP⟩:=(I.ok.tb.un I.base) P r hreg;obtain⟨q2,t2,more2,real,e1,hreal,tri⟩:=(show fu H s.heap P _ from I.hok P _ hP)
 have eq:q2=⟨r.toArray⟩:=by
  have:=congrArg Ft e1;rw [Fs,Fs] at this;injection (List.cons.inj (show E_ ⟨r.toArray⟩ t::more.toList=E_ q2 t2::more2.toList from this)).1 with z _;exact z.symm
 subst eq;have hcl:=closureFor_none (env:=X.env) hfree;have hg:=I.mod.glob.keeps I.bk
 have gP:mainGlobals≠P:=λz=>by
  obtain⟨o,es,ep,e,_⟩:=I.mod.glob;rw [z] at e;have:=(I.bs P _ e).2;rw [hP] at this;cases this
 have bP:bm≠P:=λz=>by
  rw [z] at b4;have:=(I.bs P _ b4).2;rw [hP] at this;cases this
 have hb:s.heap.BuiltinsAt X.mg P:=⟨bm,ob,b1,b2,b3,bP,I.bk _ _ b4,b5,b6,b7⟩
 cases hf:codeAmong pos real.toList with
 | some cv =>
  obtain⟨c',rfl,rec,own⟩:=tri.found _ hf;refine PySem.W.kla_makeFunctionHit hcl I.ok.glob hg hc (C.keeps I.bk) hreal (tri.trip _) hf hb λctv h' tk hk hsz=>?_;obtain⟨hh,g,d,tk0,os⟩:=s;have hn:hh.get? h'.objs.size=none:=Fh hsz;refine k _ c' ctv H _ (I.kept (t':=tk) λb o e=>cn _ (hk b o e)) (λ_ _ e=>e) (f_ _ rfl) (I.hok.fresh hsz) hn (rec.keeps λb o e=>cn _ (hk b o e)) own
 | none =>
  refine PySem.W.kla_makeFunction hcl I.ok.glob hg hc (C.keeps I.bk) hreal (tri.trip _) hf gP hb λc' ctv h' tk hx hge hlt rec htb=>?_;obtain⟨hh,g,d,tk0,os⟩:=s;have hcn:H c'=none:=I.hok.fresh hge;have hfn:H h'.objs.size=none:=I.hok.fresh (r_ hge (le_of_lt hlt));have up:∀b o,b≠P->hh.get? b=some o->(h'.push (ER name ⟨r.toArray⟩ params body scope [] ((X.mg "__name__").getD .none) c' ctv)).get? b=some o:=λb o nb e=>cn _ (hx b o nb e)
  have ne:∀b,H b=none->b≠P:=λb e z=>by rw [z,hP] at e;cases e
  have cP:P≠c':=λz=>by rw [z] at hP;rw [hcn] at hP;cases hP
  have low:∀b o,hh.get? b=some o->b≠c':=λb o e z=>not_lt.mpr hge (by rw [<- z];exact h_ e);have rec2:=rec.keeps (h':=h'.push (ER name ⟨r.toArray⟩ params body scope [] ((X.mg "__name__").getD .none) c' ctv)) λb o e=>cn _ e
  refine k _ c' ctv (upd H c' (.own P)) _ (I.un (t':=tk) (H':=upd H c' (.own P)) ⟨λb o e n _ _=>up b o (ne b n) e,λb o e n _ _=>⟨o.slots,up b o (ne b n) e⟩,λb o e n _=>by rw [ax (low b o e)];exact n,λb o e _=>?_,λb xs e=>?_,λb o u e=>?_,λb ps e=>⟨#[],?_⟩⟩ λb u e=>?_) (λb o e=>?_) (f_ _ rfl) ?_ (Fh (r_ hge (le_of_lt hlt))) rec2 aG
  .by_cases z:b=P
   .rw [z];exact⟨_,cn _ htb⟩
   .exact⟨o,up b o z e⟩
  .rw [ax (aD e hcn)];exact e
  .rw [ax (aD e hcn)];exact e
  .rw [ax (aD e hcn),e];simp
  .by_cases z:b=c'
   .subst z;rw [aG] at e;cases e;obtain⟨c2,oc,vs,t,e0,e1,_⟩:=rec2;cases e0;exact⟨oc,e1⟩
   .rw [ax z] at e
    by_cases zp:b=P
    .subst zp;rw [hP] at e;cases e;refine⟨_,t,more,_,rfl,cn _ htb,?_⟩;rw [Fs];refine dL.snoc aG rec2 _ (dL.stay (λb2 u e2 e3=>up b2 u (λz2=>by rw [z2,hP] at e2;cases e2) e3) (λb2 e2=>by rw [ax (aD e2 hcn)];exact e2) _ tri)
    .refine (I.hok b u e).stay (λb2 u2 hb2 e2=>up b2 u2 (λz2=>?_) e2) (λb2 e2=>by rw [ax (aD e2 hcn)];exact e2) λb2 xs e2=>by rw [ax (aD e2 hcn)];exact e2
     rcases hb2 with z3|z3
     .exact zp (z3.symm.trans z2)
     .rw [z2,hP] at z3;cases z3
  .rw [ax (aD e hcn)];exact e
  .rw [ax (Fi hlt)];exact hfn
end
inductive h8:List Value->List Key->Prop
 | nil:h8 [] []
 | int (a:Int) (t:Tok) {vs:List Value}{ks:List Key}:h8 vs ks->h8 (.int a t::vs) (.inl a::ks)
 | str (x:Str) (t:Tok) {vs:List Value}{ks:List Key}:h8 vs ks->h8 (.str x t::vs) (.inr x::ks)
noncomputable def kLt:List Key->List Key->Bool
 | [],[]=>false
 | [],_::_=>true
 | _::_,[]=>false
 | .inl a::xs,.inl b::ys=>if a=b then kLt xs ys else decide (a<b)
 | .inr a::xs,.inr b::ys=>if a=b then kLt xs ys else decide (a.cps.toList<b.cps.toList)
 | _::_,_::_=>false
noncomputable def tK:List Key->List Key->Prop
 | .inl _::xs,.inl _::ys=>tK xs ys
 | .inr _::xs,.inr _::ys=>tK xs ys
 | _::_,_::_=>False
 | _,_=>True
theorem h8.length:∀{vs:List Value}{ks:List Key},h8 vs ks->vs.length=ks.length
 | _,_,.nil=>rfl
 | _,_,.int a t h=>by rw [length_cons,length_cons,h.length]
 | _,_,.str a t h=>by rw [length_cons,length_cons,h.length]
def u9(A:t_)(s:cx)(a:Str)(t:Tok)(c:Str)(u:Tok):∃e,SeqAt.EqAt A s (.str a t) (.str c u) e/\(e=true ↔ a=c) :=
 ⟨(a == c),SeqAt.EqAt.str_str a t c u,by simp⟩
def va(A:t_)(s:cx)(a:Str)(t:Tok)(c:Str)(u:Tok)(prog:n_)(w:World)(E:Value->cx->Prop)(Q:Value->cx->Prop)(h:Q (.bool (decide (a.cps.toList<c.cps.toList))) s) :
  wpAny (model prog w) A (richCompare .Lt (.str a t) (.str c u)) Q E s :=
 (lt_str h:wpAny (model prog w) A (compareOp .Lt (.str a t) (.str c u)) Q E s)
section
open PySem.SeqAt
open PySem.AutoSeq1 (wpAny_loadPart')
open PySem.MeetsSeq PySem.MeetsSeq2 PySem.MeetsSeq3
def oj(l b:Addr)(items items2:Array Value)(n n2:Nat)(dd dd2:Option Addr)(sl sl2:Array (Option Value))(ns ms:List Key)(hi:h8 items.toList ns)(hj:h8 items2.toList ms)(hk:tK ns ms) :
  Meets (GI.«tuple.__lt__» ⟨[.ref l,.ref b],[]⟩)
   (λ_ R s=>s.heap.get? l=some { cls:=.type "tuple",dict:=dd,data:=.seq items n,slots:=sl }/\s.heap.get? b=some { cls:=.type "tuple",dict:=dd2,data:=.seq items2 n2,slots:=sl2 } /\
    R (.ok (.ret (.bool (kLt ns ms)))) s) :=
 .of_wp λprog w A R s h=>by
  obtain⟨hp,g,d,tk,os⟩:=s;obtain⟨hl,hb,h⟩:=h;have f2:=AutoSeq1.sub_tuple_tuple;have z1:items.size=ns.length:=by rw [<- hi.length];simp
  have z2:items2.size=ms.length:=by rw [<- hj.length];simp
  wp_walk using wpAny_loadPart' hl,wpAny_loadPart' hb,wpAny_forIn_list _ (λrest b s'=>b.1=none/\s'=⟨hp,g,d,tk,os⟩/\∃(vs ws:List Value) (ns' ms':List Key),rest=vs.zip ws /\
   h8 vs ns'/\h8 ws ms'/\tK ns' ms'/\ns'.length+items2.size=ms'.length+items.size/\R (.ok (.ret (.bool (kLt ns' ms')))) ⟨hp,g,d,tk,os⟩) _
  case turn =>
   rintro⟨y,x⟩ rest b s' ⟨hb',rfl,vs,ws,ns',ms',hz,hvi,hwi,hlk,hlen,hR⟩
   cases hvi with
   | nil=>rw [zip_nil_left] at hz;cases hz
   | int a t hvi' =>
    cases hwi with
    | nil=>rw [zip_nil_right] at hz;cases hz
    | str c u hwi'=>exact absurd hlk id
    | int c u hwi' =>
     rw [EQ] at hz;injection hz with hyx hrest;injection hyx with hy hx;subst hy hx;rw [kLt] at hR;simp only [length_cons] at hlen;obtain⟨e,he,hiff⟩:=HT.eqAt_int A.in1 ⟨hp,g,d,tk,os⟩ a t c u;refine b_ (he prog w _ _ ?_)
     cases e with
     | true =>
      rw [if_pos (hiff.mp rfl)] at hR
      wp_walk
      exact⟨rfl,rfl,_,_,_,_,hrest,hvi',hwi',hlk,by omega,hR⟩
     | false =>
      rw [if_neg (λq=>absurd (hiff.mpr q) gV)] at hR;have hri:=HT.rcLt_int A.in1 ⟨hp,g,d,tk,os⟩ a t c u prog w
      wp_walk using hri
      exact⟨_,rfl,by simpa using hR⟩
   | str a t hvi' =>
    cases hwi with
    | nil=>rw [zip_nil_right] at hz;cases hz
    | int c u hwi'=>exact absurd hlk id
    | str c u hwi' =>
     rw [EQ] at hz;injection hz with hyx hrest;injection hyx with hy hx;subst hy hx;rw [kLt] at hR;simp only [length_cons] at hlen;obtain⟨e,he,hiff⟩:=u9 A.in1 ⟨hp,g,d,tk,os⟩ a t c u;refine b_ (he prog w _ _ ?_)
     cases e with
     | true =>
      rw [if_pos (hiff.mp rfl)] at hR
      wp_walk
      exact⟨rfl,rfl,_,_,_,_,hrest,hvi',hwi',hlk,by omega,hR⟩
     | false =>
      rw [if_neg (λq=>absurd (hiff.mpr q) gV)] at hR;have hri:=va A.in1 ⟨hp,g,d,tk,os⟩ a t c u prog w
      wp_walk using hri
      exact⟨_,rfl,by simpa using hR⟩
  case fin =>
   rintro⟨b1,b2⟩ s' ⟨hb',rfl,vs,ws,ns',ms',hz,hvi,hwi,hlk,hlen,hR⟩;simp only at hb';subst hb'
   have hv:kLt ns' ms'=decide (items.size<items2.size):=by
    cases hvi with
    | nil =>
     cases hwi with
     | nil =>
      simp only [length_nil] at hlen;exact (decide_eq_false (by omega)).symm
     | int c u hw =>
      simp only [length_nil,length_cons] at hlen;exact (decide_eq_true (by omega)).symm
     | str c u hw =>
      simp only [length_nil,length_cons] at hlen;exact (decide_eq_true (by omega)).symm
    | int a t hv =>
     cases hwi with
     | nil =>
      simp only [length_nil,length_cons] at hlen;exact (decide_eq_false (by omega)).symm
     | int c u hw=>rw [EQ] at hz;cases hz
     | str c u hw=>rw [EQ] at hz;cases hz
    | str a t hv =>
     cases hwi with
     | nil =>
      simp only [length_nil,length_cons] at hlen;exact (decide_eq_false (by omega)).symm
     | int c u hw=>rw [EQ] at hz;cases hz
     | str c u hw=>rw [EQ] at hz;cases hz
   rw [hv] at hR
   wp_walk
   exact⟨_,rfl,by simpa [Builtin.Tuple.tupleCompareSizes] using hR⟩
  case h =>
   exact⟨rfl,rfl,items.toList,items2.toList,ns,ms,rfl,hi,hj,hk,by omega,h⟩
end
def vc{prog:n_}{w:World}{A:t_}{E:Value->cx->Prop}{s:cx}{l b:Addr}{items items2:Array Value}{ns ms:List Key}{Q:Value->cx->Prop}(hl:IsTup s.heap l items)(hb:IsTup s.heap b items2)(hi:h8 items.toList ns)(hj:h8 items2.toList ms)(hk:tK ns ms)
  (hu:A.units<cLine) (h:Q (.bool (kLt ns ms)) s):wpAny (model prog w) A (richCompare .Lt (.ref l) (.ref b)) Q E s:=by
 obtain⟨⟨cls,dd,data,sl⟩,ho,hc,n,hd⟩:=id hl;obtain⟨⟨cls2,dd2,data2,sl2⟩,ho2,hc2,n2,hd2⟩:=id hb;simp only at hc hd hc2 hd2;subst hc hd hc2 hd2
 exact richCompare_meets_room (op:=.Lt) ⟨_,ho,rfl⟩ ⟨_,ho2,rfl⟩ PySem.F.slot_tuple_lt PySem.F.entry_tuple_lt (PySem.F.args_tuple_lt_2 _ _) (oj l b items items2 n n2 dd dd2 sl sl2 ns ms hi hj hk)
  ⟨ho,ho2,show Ej (kLt ns ms)≠Value.notImplemented/\Q (.bool (kLt ns ms)) s from ⟨(λx=>nomatch x),h⟩⟩ hu
section
variable {P:n_}{w:World}{A:t_}{R:Result->cx->Prop}{I S q l:Addr}{vs:List Value}{γ:Type}{G F:γ->cx->Prop}{Ky:Nat->Value->γ->Prop}{bt:Nat->Nat->Bool}
structure xV {γ:Type} (P:n_) (w:World) (A:t_) (I S q l:Addr) (vs:List Value) (G F:γ->cx->Prop) (Ky:Nat->Value->γ->Prop) (bt:Nat->Nat->Bool):Prop where
 hh:A.handled=none
 si:S≠I
 li:l≠I
 lst:∀c z,G c z->z.heap.IsList l vs.toArray
 fr:∀c z h' tk,G c z->(∀b o,b≠I->b≠S->z.heap.get? b=some o->h'.get? b=some o)->(∃o,h'.get? I=some o)->(∃o,h'.get? S=some o)->G c { z with heap:=h',toks:=tk }
 fin:∀c z h' tk,G c z->(∀b o,b≠I->b≠S->z.heap.get? b=some o->h'.get? b=some o)->F c { z with heap:=h',toks:=tk }
 turn:∀(i:Nat) (v:Value) (c:γ) (z:cx),vs[i]?=some v->G c z->wpAny (model P w) A.in1 (call (.ref q) [v]) (λkv z'=>∃c',G c' z'/\Ky i kv c'/\(∀j kw,Ky j kw c->Ky j kw c')/\(∀o,z.heap.get? I=some o->z'.heap.get? I=some o)/\∀o,z.heap.get? S=some o->z'.heap.get? S=some o) (λ_ _=>False) z
 cmp:∀(i j:Nat) (a b:Value) (c:γ) (z:cx) (Q E:Value->cx->Prop),G c z->Ky i a c->Ky j b c->Q (.bool (bt i j)) z->wpAny (model P w) A.in1 (richCompare .Lt a b) Q E z
def Bd:(toString "min"++toString ".loop":String)="min.loop":=by decide
theorem lK(K:xV P w A I S q l vs G F Ky bt)(hR:∀v c z,vs[argBest bt (vs.length - 1)]?=some v->F c z->R (.ok (.ret v)) z) :
  ∀(r j:Nat) (gh:γ) (z:cx) (vb kb:Value) (c:Nat),vs.length=j+1+r->G gh z->Ky (argBest bt j) kb gh->vs[argBest bt j]?=some vb->z.heap.get? S=some (seqObj "list" #[vb,kb] c)->z.heap.IsListIter I l (j+1) ->
   codeAny (model P w) A (.builtin "min.loop" ⟨[.ref I,.ref q,.ref S],[]⟩) R z
 | 0,j,gh,z,vb,kb,c,hn,g,ky,hv,hS,it=>by
  have W:=Gm (prog:=P) (w:=w) (A:=A.in1) K.hh I l K.li vs.toArray;have hsz:vs.toArray.size=vs.length:=p_ ..;refine Gw E9 ?_;rw [Fl DJ _];show wpAny _ A.in1 (seqItems? (.ref S) >>= _) _ _ z;refine b_ (DM hS rfl ?_);show wpAny _ A.in1 (tryCatch (pyNext (.ref I)) _ >>= _) _ _ _;refine b_ (EG (W.done z _ _ ⟨by rw [hsz,hn];exact it,K.lst gh z g⟩ λh' tk hk=>?_))
  have hS':=hk S _ (by simpa using K.si) hS;show wpAny _ A.in1 (updateSeq S (λ_=>#[]) >>= _) _ _ _;refine b_ (Gx hS' rfl (b_ (EX (e_ ?_))));refine hR vb gh _ (by rw [hn];exact hv) (K.fin gh z _ tk g λb o h1 h2 e=>(Dz _ _ (EA h2)).trans (hk b o (by simpa using h1) e))
 | r+1,j,gh,z,vb,kb,c,hn,g,ky,hv,hS,it=>by
  have W:=Gm (prog:=P) (w:=w) (A:=A.in1) K.hh I l K.li vs.toArray;have hsz:vs.toArray.size=vs.length:=p_ ..;refine Gw E9 ?_;rw [Fl DJ _];show wpAny _ A.in1 (seqItems? (.ref S) >>= _) _ _ z;refine b_ (DM hS rfl ?_);show wpAny _ A.in1 (tryCatch (pyNext (.ref I)) _ >>= _) _ _ _;refine b_ (EG (W.item (j+1) z _ _ (by rw [hsz];omega) ⟨it,K.lst gh z g⟩ λv h' tk hP hst hk=>?_))
  have hv1:vs[j+1]?=some v:=by simpa using hP
  have same:∀b o,b≠I->b≠S->z.heap.get? b=some o->h'.get? b=some o:=λb o h1 _ e=>hk b o (by simpa using h1) e;have hS1:=hk S _ (by simpa using K.si) hS;obtain⟨oI,hoI,hoc,hod⟩:=hst.1;have g1:=K.fr gh z h' tk g same ⟨_,hoI⟩ ⟨_,hS1⟩;show wpAny _ A.in1 (tryCatch (holding [v] (call (.ref q) [v])) _ >>= _) _ _ _;refine b_ (EG (DU (Eb (K.turn (j+1) v gh _ hv1 g1) (λkv z2 hz=>?_) λ_ _ hF=>hF.elim)))
  obtain⟨gh2,g2,kn,kold,hI2,hS2⟩:=hz;have ky2:=kold _ _ ky;have hS2:=hS2 _ hS1;have hI2:=hI2 _ hoI;show wpAny _ A.in1 (tryCatch (holding [v,kv] (richCompare .Lt kv kb >>= _)) _ >>= _) _ _ _;refine b_ (EG (DU (b_ (K.cmp (j+1) (argBest bt j) kv kb gh2 z2 _ _ g2 kn ky2 ?_))));refine b_ (DU (Dy ?_));refine b_ (EX (e_ ?_))
  cases hb:bt (j+1) (argBest bt j) with
  | true =>
   have e2:argBest bt (j+1)=j+1:=by show (if bt (j+1) (argBest bt j) then _ else _)=_;rw [hb];rfl
   simp only [if_true];refine b_ (Gx hS2 rfl (b_ (EX ?_)));rw [Bd];have same2:∀b o,b≠I->b≠S->z2.heap.get? b=some o->(z2.heap.update S (FJ λ_=>#[v,kv])).get? b=some o:=λb o _ h2 e=>(Dz _ _ (EA h2)).trans e;refine e_ ⟨F9 DJ _,lK K hR r (j+1) gh2 { z2 with heap:=z2.heap.update S (FJ λ_=>#[v,kv]) } v kv _ (by omega) (K.fr gh2 z2 _ z2.toks g2 same2 ⟨_,(Dz _ _ K.si).trans hI2⟩ ⟨_,Ef _ hS2 rfl⟩) (by rw [e2];exact kn) (by rw [e2];exact hv1) (Ef _ hS2 rfl) ⟨oI,(Dz _ _ K.si).trans hI2,hoc,hod⟩⟩
  | false =>
   have e2:argBest bt (j+1)=argBest bt j:=by show (if bt (j+1) (argBest bt j) then _ else _)=_;rw [hb];rfl
   simp only [false_eq_true,if_false];refine b_ (EX ?_);rw [Bd];exact e_ ⟨F9 DJ _,lK K hR r (j+1) gh2 z2 vb kb c (by omega) g2 (by rw [e2];exact ky2) (by rw [e2];exact hv) hS2 ⟨oI,hI2,hoc,hod⟩⟩
def xW{s:cx}{Q E:Value->cx->Prop}{g0:γ}(hls:s.heap.IsList l vs.toArray)(hne:0<vs.length)(K:xV P w A s.heap.objs.size (s.heap.objs.size+1) q l vs G F Ky bt)
  (hg:∀h' tk,(∀b o,s.heap.get? b=some o->h'.get? b=some o)->(∃o,h'.get? s.heap.objs.size=some o)->(∃o,h'.get? (s.heap.objs.size+1)=some o)->G g0 { s with heap:=h',toks:=tk }) (hQ:∀v c z,vs[argBest bt (vs.length - 1)]?=some v->F c z->Q v z) :
  wpAny (model P w) A (call (.builtin "min") [.ref l] [(DY "key",.ref q)]) Q E s:=by
 refine kmk_tree PySem.F.kind_min PySem.F.plain_min PySem.F.entry_min (kmk_min_key _ _) ?_;show wpAny _ A.in1 (FB "min" ["key","default"] 0 ⟨[],[(DY "key",.ref q)]⟩ >>= _) _ _ s;refine b_ (wpAny_of_eq (show FB "min" ["key","default"] 0 ⟨[],[(DY "key",.ref q)]⟩=pure [some (.ref q),none] from rfl) ?_);refine b_ (e_ ?_)
 refine b_ (Ei hls ?_);refine b_ (wpAny_newList ?_ (EI _));rw [Bd];have hsz1:(s.heap.push { cls:=.type "list_iterator",data:=.fields #[.ref l,.int 0 0] }).objs.size=s.heap.objs.size+1:=DA ..;rw [hsz1];generalize hh2:(s.heap.push { cls:=.type "list_iterator",data:=.fields #[.ref l,.int 0 0] }).push (seqObj "list" #[] 0)=h2;have old:∀b o,s.heap.get? b=some o->h2.get? b=some o:=λb o e=>by rw [<- hh2];exact cn _ (cn _ e)
 have gI:h2.get? s.heap.objs.size=some { cls:=.type "list_iterator",data:=.fields #[.ref l,.int 0 0] }:=by rw [<- hh2];exact cn _ (f_ _ rfl)
 have gS:h2.get? (s.heap.objs.size+1)=some (seqObj "list" #[] 0):=by
  have:=f_ (s.heap.push { cls:=.type "list_iterator",data:=.fields #[.ref l,.int 0 0] }) (o:=seqObj "list" #[] 0) rfl;rw [hsz1] at this;rw [<- hh2];exact this
 refine e_ ⟨F9 DJ _,?_⟩;have W:=Gm (prog:=P) (w:=w) (A:=A.in1) K.hh s.heap.objs.size l K.li vs.toArray;have hsz:vs.toArray.size=vs.length:=p_ ..;refine Gw E9 ?_;rw [Fl DJ _];show wpAny _ A.in1 (seqItems? (.ref _) >>= _) _ _ _;refine b_ (DM gS rfl ?_);show wpAny _ A.in1 (tryCatch (pyNext (.ref s.heap.objs.size)) _ >>= _) _ _ _
 have g2:=hg h2 s.toks old ⟨_,gI⟩ ⟨_,gS⟩;refine b_ (EG (W.item 0 _ _ _ (by rw [hsz];exact hne) ⟨⟨_,gI,rfl,rfl⟩,K.lst _ _ g2⟩ λv h' tk hP hst hk=>?_));have hv0:vs[0]?=some v:=by simpa using hP
 have hS1:=hk (s.heap.objs.size+1) _ (by simp) gS;obtain⟨oI,hoI,hoc,hod⟩:=hst.1;have g3:=K.fr _ _ h' tk g2 (λb o h1 _ e=>hk b o (by simpa using h1) e) ⟨_,hoI⟩ ⟨_,hS1⟩;show wpAny _ A.in1 (tryCatch (holding [v] (call (.ref q) [v])) _ >>= _) _ _ _;refine b_ (EG (DU (Eb (K.turn 0 v _ _ hv0 g3) (λkv z2 hz=>?_) λ_ _ hF=>hF.elim)));obtain⟨gh2,g4,kn,_,hI2,hS2⟩:=hz
 have hS2:=hS2 _ hS1;have hI2:=hI2 _ hoI;show wpAny _ A.in1 (updateSeq (s.heap.objs.size+1) (λ_=>#[v,kv]) >>= _) _ _ _;refine b_ (Gx hS2 rfl ?_);rw [Bd];have same2:∀b o,b≠s.heap.objs.size->b≠s.heap.objs.size+1->z2.heap.get? b=some o->(z2.heap.update (s.heap.objs.size+1) (FJ λ_=>#[v,kv])).get? b=some o:=λb o _ h2 e=>(Dz _ _ (EA h2)).trans e
 refine e_ ⟨F9 DJ _,lK (R:=λr s'=>match r with|.ok (.ret v)=>Q v s'|.ok _=>False|.error e=>E e s') K (λv c z hv g=>hQ v c z hv g) (vs.length - 1) 0 gh2 { z2 with heap:=z2.heap.update (s.heap.objs.size+1) (FJ λ_=>#[v,kv]) } v kv _ (by omega) (K.fr gh2 z2 _ z2.toks g4 same2 ⟨_,(Dz _ _ K.si).trans hI2⟩ ⟨_,Ef _ hS2 rfl⟩) kn hv0 (Ef _ hS2 rfl) ⟨oI,(Dz _ _ K.si).trans hI2,hoc,hod⟩⟩
end
open Classical in
noncomputable def erT(T:Addr->Prop)(H:Hp):Hp:=λb=>if T b then none else H b
open Classical in
noncomputable def reT(T:Addr->Prop)(H H':Hp):Hp:=λb=>if T b then H b else H' b
def m8{T:Addr->Prop}{H:Hp}{b:Addr}(h:T b):erT T H b=none:=if_pos h
def bZ{T:Addr->Prop}{H:Hp}{b:Addr}(h:¬ T b):erT T H b=H b:=if_neg h
def p9{T:Addr->Prop}{H H':Hp}{b:Addr}(h:T b):reT T H H' b=H b:=if_pos h
def dF{T:Addr->Prop}{H H':Hp}{b:Addr}(h:¬ T b):reT T H H' b=H' b:=if_neg h
noncomputable def Tl(H:Hp)(Pt l:Addr)(b:Addr):Prop:=b=Pt\/b=l\/H b=some (.own Pt)
section
variable {P:n_}{w:World}{H H4:Hp}{h h':Heap}{Pt l:Addr}{ps:Array Value}{xs:List V}{fs:List Addr}
def Tl.cases(hP:H Pt=some (.tbl ps))(hl:H l=some (.lst xs)){b:Addr}(t:Tl H Pt l b):H b=some (.tbl ps)/\b=Pt\/H b=some (.lst xs)/\b=l\/H b=some (.own Pt):=by
 rcases t with e|e|e
 .exact .inl ⟨by rw [e];exact hP,e⟩
 .exact .inr (.inl ⟨by rw [e];exact hl,e⟩)
 .exact .inr (.inr e)
def AI(hP:H Pt=some (.tbl ps))(hl:H l=some (.lst xs))(ok:HOk P w H h):HOk P w (erT (Tl H Pt l) H) h:=λa o e=>by
 by_cases ta:Tl H Pt l a
 .rw [m8 ta] at e;cases e
 .rw [bZ ta] at e
  refine (ok a o e).stay (λb u _ q=>q) (λb q=>?_) λb ys q=>?_
  .rw [bZ λtb=>?_]
   .exact q
   .rcases tb.cases hP hl with ⟨z,_⟩|⟨z,_⟩|z
    .rw [q] at z;cases z
    .rw [q] at z;cases z
    .rw [q] at z;exact ta (.inl (by cases z;rfl))
  .rw [bZ λtb=>?_]
   .exact q
   .rcases tb.cases hP hl with ⟨z,_⟩|⟨z,_⟩|z <;> (rw [q] at z;cases z)
def AJ(hP:H Pt=some (.tbl ps))(hl:H l=some (.lst xs))(ok:HOk P w H h)(u:Un fs [] (erT (Tl H Pt l) H) H4 h h')(ok4:HOk P w H4 h')(hfs:∀b∈fs,H b=none) :
  HOk P w (reT (Tl H Pt l) H H4) h'/\Un fs [] H (reT (Tl H Pt l) H H4) h h'/\(∀b,Tl H Pt l b->H4 b=none)/\∀b o,Tl H Pt l b->h.get? b=some o->h'.get? b=some o:=by
 have some_:∀b,Tl H Pt l b->∃o,H b=some o:=λb t=>by
  rcases t.cases hP hl with ⟨z,_⟩|⟨z,_⟩|z <;> exact⟨_,z⟩
 have nf:∀b,Tl H Pt l b->b∉fs:=λb t hb=>by
  obtain⟨o,e⟩:=some_ b t;rw [hfs b hb] at e;cases e
 have kp:∀b o,Tl H Pt l b->h.get? b=some o->h'.get? b=some o:=λb o t e=>u.keep b o e (m8 t) (nf b t) (by simp)
 have obj:∀b,Tl H Pt l b->∃o,h.get? b=some o:=λb t=>by
  rcases t.cases hP hl with ⟨z,_⟩|⟨z,_⟩|z
  .obtain⟨_,_,_,_,_,e,_⟩:=(show fu H h b _ from ok b _ z);exact⟨_,e⟩
  .obtain⟨_,_,_,_,e⟩:=(show bC P w H h b (.lst xs) from ok b _ z);exact⟨_,e⟩
  .exact (show bC P w H h b (.own Pt) from ok b _ z)
 have no4:∀b,Tl H Pt l b->H4 b=none:=λb t=>by
  obtain⟨o,e⟩:=obj b t;exact u.free b o e (m8 t) (by simp)
 refine⟨λa o e=>?_,⟨λb o e n hb hx=>u.keep b o e ?_ hb hx,λb o e n hb hx=>u.slot b o e ?_ hb hx,λb o e n hx=>?_,λb o e hx=>u.there b o e hx,λb ys e=>?_,λb o v e=>?_,λb qs e=>?_⟩,no4,kp⟩
 .by_cases ta:Tl H Pt l a
  .rw [p9 ta] at e
   rcases ta.cases hP hl with ⟨z,rfl⟩|⟨z,_⟩|z
   .rw [e] at z;cases z;obtain⟨q,t,more,real,e1,e2,tri⟩:=(show fu H h a _ from ok a _ e)
    exact⟨q,t,more,real,e1,kp _ _ ta e2,dL.stay (λb v hb hv=>kp b v (.inr (.inr hb)) hv) (λb hb=>by rw [p9 (.inr (.inr hb))];exact hb) _ tri⟩
   .rw [e] at z;cases z;obtain⟨z1,its,n,r,e2⟩:=(show bC P w H h a (.lst xs) from ok a _ e)
    exact⟨z1,its,n,r,kp _ _ ta e2⟩
   .rw [e] at z;cases z;obtain⟨ob,e2⟩:=(show bC P w H h a (.own Pt) from ok a _ e)
    exact⟨ob,kp _ _ ta e2⟩
  .rw [dF ta] at e
   refine (ok4 a o e).stay (λb u _ q=>q) (λb q=>?_) λb ys q=>?_
   .rw [dF λtb=>?_]
    .exact q
    .rw [no4 b tb] at q;cases q
   .rw [dF λtb=>?_]
    .exact q
    .rw [no4 b tb] at q;cases q
 .have nt:¬ Tl H Pt l b:=λt=>by obtain⟨o,e⟩:=some_ b t;rw [n] at e;cases e
  rw [bZ nt];exact n
 .have nt:¬ Tl H Pt l b:=λt=>by obtain⟨o,e⟩:=some_ b t;rw [n] at e;cases e
  rw [bZ nt];exact n
 .have nt:¬ Tl H Pt l b:=λt=>by obtain⟨o,e⟩:=some_ b t;rw [n] at e;cases e
  rw [dF nt];exact u.free b o e (by rw [bZ nt];exact n) hx
 .have nt:¬ Tl H Pt l b:=λt=>by rcases t.cases hP hl with ⟨z,_⟩|⟨z,_⟩|z <;> (rw [e] at z;cases z)
  rw [dF nt];exact u.tups b ys (by rw [bZ nt];exact e)
 .have nt:¬ Tl H Pt l b:=λt=>by rcases t.cases hP hl with ⟨z,_⟩|⟨z,_⟩|z <;> (rw [e] at z;cases z)
  rw [dF nt];exact u.frzs b o v (by rw [bZ nt];exact e)
 .by_cases nt:Tl H Pt l b
  .rw [p9 nt,e];exact⟨#[],by simp⟩
  .rw [dF nt];exact u.tbls b qs (by rw [bZ nt];exact e)
end
theorem AK{h base:Heap}{L:Life}:∀{l:List Env},h.FunFrames base l->h.FunFrames { base with life:=L } l
 | [],_=>trivial
 | _::_,⟨a,b,c⟩=>⟨a,b,AK c⟩
def AL(a b:List Nat):kLt [.inl (a.length:Int),.inr (S a)] [.inl (b.length:Int),.inr (S b)]=ahB a b:=by
 unfold ahB;show (if (a.length:Int)=(b.length:Int) then (if S a=S b then false else decide ((S a).cps.toList<(S b).cps.toList)) else decide ((a.length:Int)<(b.length:Int)))=_
 by_cases h:a.length=b.length
 .rw [if_pos (by omega)]
  by_cases e:a=b
  .subst e;rw [if_pos rfl,if_neg (λz=>z rfl)];exact (decide_eq_false (mZ a)).symm
  .rw [if_neg (λz=>e (wK z)),if_neg (λz=>z h)];rfl
 .rw [if_neg (by omega),if_pos h];exact decide_eq_decide.mpr (by omega)
theorem qa(ws:List (List Nat)):∀k,k<ws.length->Lst (·∈ws.take (k+1)) (ws.getD (argBest (λi j=>ahB (ws.getD i []) (ws.getD j [])) k) [])/\argBest (λi j=>ahB (ws.getD i []) (ws.getD j [])) k<=k
 | 0,h=>by
  have e:ws.take 1=[ws.getD 0 []]:=by
   cases ws with
   | nil=>cases h
   | cons a r=>rfl
  rw [show 0+1=1 from rfl,e];exact⟨lD _,l_ _⟩
 | k+1,h=>by
  obtain⟨ih,ik⟩:=qa ws k (by omega)
  have e:ws.take (k+1+1)=ws.take (k+1)++[ws.getD (k+1) []]:=by
   rw [take_succ,d_,cy h];rfl
  rw [e];have hs:=lE (t:=ws.getD (k+1) []) ih;show Lst _ (ws.getD (if ahB (ws.getD (k+1) []) (ws.getD (argBest _ k) [])=true then k+1 else argBest _ k) [])/\(if ahB (ws.getD (k+1) []) (ws.getD (argBest _ k) [])=true then k+1 else argBest _ k)<=k+1
  by_cases c:ahB (ws.getD (k+1) []) (ws.getD (argBest (λi j=>ahB (ws.getD i []) (ws.getD j [])) k) [])=true
  .rw [if_pos c] at hs ⊢;exact⟨hs,l_ _⟩
  .rw [if_neg c] at hs ⊢;exact⟨hs,by omega⟩
section
variable {X:Cx}{pins:List (Addr×Obj)}{σ:St}{H:Hp}{s:cx}{h':Heap}
def Inv.turned2{t':Nat}{it it2:Addr}(I:Inv X pins σ H s)(k:∀b o,b≠it->b≠it2->s.heap.get? b=some o->h'.get? b=some o)(hn:H it=none)(hn2:H it2=none)
  (hch:∀b,b=it\/b=it2->X.s₀.heap.objs.size<=b/\b≠X.env.locals/\(∀x c,X.env.cells.lookup x=some c->c≠b)/\∀p∈X.pn++pins,p.1≠b):Inv X pins σ H { s with heap:=h',toks:=t' }:=by
 have nit:∀b u,H b=some u->b≠it/\b≠it2:=λb u e=>⟨λz=>(by rw [z,hn] at e;cases e),λz=>(by rw [z,hn2] at e;cases e)⟩
 have two:∀b,b∉[it,it2]->b≠it/\b≠it2:=λb hb=>⟨λz=>hb (by simp [z]),λz=>hb (by simp [z])⟩
 refine I.step (g':=s.gens) (d':=s.drawn) (ch:=[it,it2]) (λb hb=>?_) (λb o _ _ hc e _=>k b o (two b hc).1 (two b hc).2 e) (λb o _ _ hc e _=>⟨o.slots,k b o (two b hc).1 (two b hc).2 e⟩) (λ_ _ _ _ n=>n)
  (λb o hc e=>⟨o,k b o (two b hc).1 (two b hc).2 e⟩) (λ_ _ e=>e) (λ_ _ _ e=>e) (λb ps e=>⟨#[],by rw [e];simp⟩) (λm hm=>?_) (λb u e=>?_) I.bare
 .obtain⟨a1,a2,a3,a4⟩:=hch b (by simpa using hb);exact⟨.inr a1,a2,a3,a4⟩
 .obtain⟨o,es,ep,ho,r⟩:=hm;exact⟨o,es,ep,k _ o (EA (hch it (.inl rfl)).2.1) (EA (hch it2 (.inr rfl)).2.1) ho,r⟩
 .refine (I.hok b u e).stay (λc v hc q=>?_) (λ_ q=>q) λ_ _ q=>q
  have:c≠it/\c≠it2:=by
   rcases hc with z|z
   .rw [z];exact nit b u e
   .exact nit c _ z
  exact k c v this.1 this.2 q
def vd{Pt f l c':Addr}{ps:Array Value}{ws:List (List Nat)}{px name q:Str}{params:Gb}{body:Expr}{scope:Scope}{pm ctv:Value}{te:TE}{Q:VK}(I:Inv X pins σ H s)(hr:cQ 2 X.A)(hP:H Pt=some (.tbl ps))(hl:H l=some (.lst (ws.map tx)))(hne:ws≠[])
  (hf:s.heap.get? f=some (ER name q params body scope [] pm c' ctv)) (hfn:H f=none) (hff:f∉frs X.stack) (rec:s.heap.CodeRec (.ref c') q) (hown:H c'=some (.own Pt)) (S1:aB [px] [px] scope)
  (hb:∀(s:cx) (v:Value),Fv s (FQ name q params body scope [] pm (.ref c') ctv) ⟨[v],[]⟩ [(px,v)])
  (hbody:∀(A':t_) (z:cx) (H':Hp),PE (md CX0 X.prog X.w X.K X.mg { X.base with life:={} } [px] q scope f (.ref c') A' X.stack z H' E0).nox body te)
  (hte:∀(t:List Nat) (H':Hp) (Q:VK),t∈ws->(∀p,H' p=none->Q (.ref p) (upd H' p (.tup [.int (t.length:Int),.str (S t)])))->te [some (.str (S t))] H' Q)
  (hQ:∀t H',Lst (·∈ws) t->(∀b o,H b=some o->H' b=some o)->Q (.str (S t)) H') :
  wpAny (model X.prog X.w) X.A (call (.builtin "min") [.ref l] [(DY "key",.ref f)]) (EP X pins σ Q) X.xe s:=by
 obtain⟨zl,its,n0,rv,hls⟩:=(show bC X.prog X.w H s.heap l (.lst (ws.map tx)) from I.hok l _ hl)
 have hlen:its.length=ws.length:=by rw [<- rv.length,length_map]
 have hws:0<ws.length:=FS.mpr hne
 have item:∀i v,its[i]?=some v->∃(t:List Nat) (tk:Tok),ws[i]?=some t/\v=E_ (S t) tk:=λi v e=>by
  have hi:=(g_.mp e).1;have ew:(ws.map tx)[i]?=some (tx ws[i]):=by rw [k_,cy (by omega)];rfl
  obtain⟨u,hu,ru⟩:=rv.get ew;rw [e] at hu;cases hu;obtain⟨tk,e2⟩:=ru;exact⟨ws[i],tk,cy (by omega),e2⟩
 -- what lies below the new ones
 have lN:X.env.locals<s.heap.objs.size:=I.lt
 have lowc:∀x c,X.env.cells.lookup x=some c->c<s.heap.objs.size:=λx c e=>by
  obtain⟨v,o,ho,_⟩:=I.cell x c e;exact h_ ho
 have lowp:∀p∈X.pn++pins,p.1<s.heap.objs.size:=λp hp=>h_ (I.pin p hp).1
 have lowf:∀b∈frs X.stack,b<s.heap.objs.size:=λb hb=>by
  obtain⟨_,o,ho,_⟩:=I.stack.mem hb;exact h_ ho
 have fN:=h_ hf;have lL:=h_ hls;obtain⟨c2,oc,vsc,tq,ec2,hoc,hdc,hqc⟩:=id rec;cases ec2;have cN:=h_ hoc;have hI0:H s.heap.objs.size=none:=I.hok.fresh (l_ _);have hS0:H (s.heap.objs.size+1)=none:=I.hok.fresh (le_succ _)
 have hch:∀b,b=s.heap.objs.size\/b=s.heap.objs.size+1->X.s₀.heap.objs.size<=b/\b≠X.env.locals/\(∀x c,X.env.cells.lookup x=some c->c≠b)/\∀p∈X.pn++pins,p.1≠b:=λb hb=>by
  have hge:s.heap.objs.size<=b:=by
   rcases hb with e|e
   .rw [e];exact l_ _
   .rw [e];exact le_succ _
  exact⟨r_ I.sz hge,Fi (pf lN hge),λx c e=>DC (pf (lowc x c e) hge),λp hp=>DC (pf (lowp p hp) hge)⟩
 have base:∀b,b<s.heap.objs.size->b≠s.heap.objs.size/\b≠s.heap.objs.size+1:=λb h=>⟨DC h,DC (F7 h)⟩
 let G:Hp->cx->Prop:=λH3 z=>Inv X pins σ H3 z/\(∀b o,H b=some o->H3 b=some o)/\z.heap.get? f=some (ER name q params body scope [] pm c' ctv)/\H3 f=none/\z.heap.get? l=some { cls:=.type "list",data:=.seq its.toArray n0 }/\z.heap.get? c'=some oc /\
  H3 s.heap.objs.size=none/\H3 (s.heap.objs.size+1)=none/\(∃o,z.heap.get? s.heap.objs.size=some o)/\∃o,z.heap.get? (s.heap.objs.size+1)=some o
 let F:Hp->cx->Prop:=λH3 z=>Inv X pins σ H3 z/\∀b o,H b=some o->H3 b=some o
 let Ky:Nat->Value->Hp->Prop:=λi kv H3=>∃p t,kv=.ref p/\ws[i]?=some t/\H3 p=some (.tup [.int (t.length:Int),.str (S t)])
 have KW:xV X.prog X.w X.A s.heap.objs.size (s.heap.objs.size+1) f l its G F Ky (λi j=>ahB (ws.getD i []) (ws.getD j [])):={
  hh:=hr.hd
  si:=succ_ne_self _
  li:=DC lL
  lst:=λc z g=>⟨_,g.2.2.2.2.1,rfl,n0,rfl⟩
  fr:=λc z h' tk g k e1 e2=>by
   obtain⟨g1,g2,g3,g4,g5,g6,g7,g8,_,_⟩:=g;exact⟨g1.turned2 k g7 g8 hch,g2,k _ _ (base f fN).1 (base f fN).2 g3,g4,k _ _ (base l lL).1 (base l lL).2 g5,k _ _ (base c' cN).1 (base c' cN).2 g6,g7,g8,e1,e2⟩
  fin:=λc z h' tk g k=>by
   obtain⟨g1,g2,g3,g4,g5,g6,g7,g8,_,_⟩:=g;exact⟨g1.turned2 k g7 g8 hch,g2⟩
  turn:=λi v H3 z hv g=>by
   obtain⟨I3,g2,g3,g4,g5,g6,g7,g8,⟨oI,gI⟩,⟨oS,gS⟩⟩:=g;obtain⟨t,tk,ht,rfl⟩:=item i v hv;have hP3:=g2 _ _ hP;have hl3:=g2 _ _ hl;have ho3:=g2 _ _ hown;have e0:=I3.env0
   have e1:qZ X.prog X.w X.K X.mg { X.base with life:={} } X.A.in1 X.stack z (erT (Tl H3 Pt l) H3):=by
    refine⟨e0.in1.frames,⟨λb o e=>e0.mod.kin b o e,e0.mod.glob,e0.mod.blt,e0.mod.nolimit⟩,λb o e=>⟨(e0.bs b o e).1,?_⟩,e0.bsz,AK e0.funs,λb hb=>?_,AI hP3 hl3 e0.hok,e0.bare,λ_ _ y=>nomatch (show ([]:List Addr)=_ from y)⟩
    .have n:=(e0.bs b o e).2
     by_cases tb:Tl H3 Pt l b
     .exact m8 tb
     .rw [bZ tb];exact n
    .have n:=e0.frf b hb
     by_cases tb:Tl H3 Pt l b
     .exact m8 tb
     .rw [bZ tb];exact n
   refine wpAny_call (Fw (AG (CX:=CX0) (k:=0) (Q:=λv' H4=>∃p,v'=.ref p/\erT (Tl H3 Pt l) H3 p=none/\H4=upd (erT (Tl H3 Pt l) H3) p (.tup [.int (t.length:Int),.str (S t)])) (E:=E0) S1 g3 ⟨c',oc,vsc,tq,rfl,g6,hdc,hqc⟩ (cQ.in1 hr) e1 (vs:=[.str (S t)]) (us:=[.str (S t) tk]) (.cons ⟨tk,rfl⟩ .nil) rfl (hb z _) (hbody _ _ _) (hte t _ _ (z_ ht) λp hp=>⟨p,rfl,hp,rfl⟩)) λr s' hq=>?_)
   cases r with
   | error e=>exact (hq:False).elim
   | ok fl =>
    cases fl with
    | next=>exact (hq:False).elim
    | brk=>exact (hq:False).elim
    | cont=>exact (hq:False).elim
    | ret u =>
     obtain⟨v',H4,os,bare,un,ok4,rv',p,rfl,hp,e4⟩:=hq;obtain⟨hok5,un5,no4,kp⟩:=AJ hP3 hl3 I3.hok un ok4 e0.frf
     have np:¬ Tl H3 Pt l p:=λtp=>by
      have:=no4 p tp;rw [e4,aG] at this;cases this
     have h3p:H3 p=none:=by rw [bZ np] at hp;exact hp
     have gr:∀b o,H3 b=some o->reT (Tl H3 Pt l) H3 H4 b=some o:=λb o e=>by
      by_cases tb:Tl H3 Pt l b
      .rw [p9 tb];exact e
      .rw [dF tb,e4,ax (aD e h3p),bZ tb];exact e
     have out:∀b o,z.heap.get? b=some o->H3 b=none->reT (Tl H3 Pt l) H3 H4 b=none/\(b∉frs X.stack->s'.heap.get? b=some o):=λb o e n=>by
      have nt:¬ Tl H3 Pt l b:=λtb=>by
       rcases tb.cases hP3 hl3 with ⟨y,_⟩|⟨y,_⟩|y <;> (rw [n] at y;cases y)
      have ne:erT (Tl H3 Pt l) H3 b=none:=by rw [bZ nt];exact n
      exact⟨by rw [dF nt];exact un.free b o e ne (by simp),λhb=>un.keep b o e ne hb (by simp)⟩
     obtain rfl:u=x_ p:=rv';obtain⟨hh,gg,dd,tt,os'⟩:=s';obtain rfl:os'=z.os:=os;have I5:Inv X pins σ (reT (Tl H3 Pt l) H3 H4) { z with heap:=hh,gens:=gg,drawn:=dd,toks:=tt }:=I3.call (h':=hh) (g':=gg) (d':=dd) (t':=tt) (ch:=[]) un5 hok5 bare (λb z=>absurd z (by simp));have fI:s.heap.objs.size∉frs X.stack:=λhb=>DB _ (lowf _ hb);have fS:s.heap.objs.size+1∉frs X.stack:=λhb=>DB _ (lt_trans (E5 _) (lowf _ hb))
     refine⟨_,⟨I5,λb o e=>gr b o (g2 b o e),(out f _ g3 g4).2 hff,(out f _ g3 g4).1,kp l _ (.inr (.inl rfl)) g5,kp c' _ (.inr (.inr ho3)) g6,(out _ _ gI g7).1,(out _ _ gS g8).1,⟨_,(out _ _ gI g7).2 fI⟩,⟨_,(out _ _ gS g8).2 fS⟩⟩,⟨p,t,rfl,ht,by rw [dF np,e4,aG]⟩,?_,λo e=>?_,λo e=>?_⟩
     .rintro j kw ⟨p2,t2,e1,e2,e3⟩;exact⟨p2,t2,e1,e2,gr _ _ e3⟩
     .exact (out _ _ e g7).2 fI
     .exact (out _ _ e g8).2 fS
  cmp:=λi j a b H3 z Q' E g ka kb hq=>by
   obtain⟨p1,t1,rfl,w1,k1⟩:=ka;obtain⟨p2,t2,rfl,w2,k2⟩:=kb;obtain⟨_,its1,r1,u1⟩:=(show bC X.prog X.w H3 z.heap p1 (.tup _) from g.1.hok p1 _ k1)
   obtain⟨_,its2,r2,u2⟩:=(show bC X.prog X.w H3 z.heap p2 (.tup _) from g.1.hok p2 _ k2)
   obtain⟨a1,b1,rfl,⟨m1,rfl⟩,⟨m2,rfl⟩⟩:=t9 r1;obtain⟨a2,b2,rfl,⟨m3,rfl⟩,⟨m4,rfl⟩⟩:=t9 r2;have e1:ws.getD i []=t1:=by rw [d_,w1];rfl
   have e2:ws.getD j []=t2:=by rw [d_,w2];rfl
   rw [e1,e2,<- AL] at hq;exact vc u1 u2 (.int _ _ (.str _ _ .nil)) (.int _ _ (.str _ _ .nil)) trivial (by have:=hr.un;show X.A.units+1<_;omega) hq }
 have hls':s.heap.IsList l its.toArray:=⟨_,hls,rfl,n0,rfl⟩
 refine xW (g0:=H) hls' (by omega) KW (λh' tk k e1 e2=>⟨I.kept k,λ_ _ e=>e,k _ _ hf,hfn,k _ _ hls,k _ _ hoc,hI0,hS0,e1,e2⟩) λv H3 z hv g=>?_;obtain⟨I3,g2⟩:=g;obtain⟨t,tk,ht,rfl⟩:=item _ _ hv;obtain⟨hL,_⟩:=qa ws (its.length - 1) (by omega);rw [d_,ht,DZ (by omega)] at hL;exact⟨.str (S t),H3,I3,⟨tk,rfl⟩,hQ t H3 hL g2⟩
end
noncomputable def AM(tl:TE):TE:=λσ H Q=>tl σ H λx H1=>∃(l:Addr) (ws:List (List Nat)),x=.ref l/\H1 l=some (.lst (ws.map tx))/\ws≠[]/\(∀t∈ws,t.length<=1000000)/\∀t H',Lst (·∈ws) t->(∀b o,H1 b=some o->H' b=some o)->Q (.str (S t)) H'
noncomputable def vT(K:a_):TE:=ye (aU (tCB (jk K) (aU (aV 0) dZ)) (aU (aV 0) dZ))
def ve(K:a_){t:List Nat}{H':Hp}{Q:VK}(ht:t.length<=1000000)(h:∀p,H' p=none->Q (.ref p) (upd H' p (.tup [.int (t.length:Int),.str (S t)]))):vT K [some (.str (S t))] H' Q :=
 ⟨_,rfl,.inl ⟨t,rfl,r_ ht (by decide),_,rfl,(by show 2<=sizeLine;decide),h⟩⟩
section
variable {X:Cx}{e:Expr}{p kp pos lpos:Pos}{params:Gb}{body:Expr}{scope:Scope}{px:Str}{te:TE}{Pt:Addr}
def xX(K:a_)(eK:X.K=K)(hc:X.calm=true)(hr:cQ 2 X.A)(hg:Gl X "min")(hm:X.mg "min"=none)(ha:PA X [e] (aU te dZ))(L:j8 X.mg X.base X.env.code Pt (X.env.qual++"<lambda>"))(hfree:∀x∈scope.names,x.2≠.free)(hdef:defaultsOf params X.env=([],[]))
  (S1:aB [px] [px] scope) (hb:∀(pm ctv:Value) (c':Addr) (s:cx) (v:Value),Fv s (FQ "<lambda>" (X.env.qual++"<lambda>") params body scope [] pm (.ref c') ctv) ⟨[v],[]⟩ [(px,v)])
  (hbody:∀(f c':Addr) (A':t_) (z:cx) (H':Hp),PE (md CX0 X.prog X.w X.K X.mg { X.base with life:={} } [px] (X.env.qual++"<lambda>") scope f (.ref c') A' X.stack z H' E0).nox body (vT K))
  (hs:backTo pos (starEach [e] X.env)=(false,eval e X.env)::backTo pos (starEach [] X.env):=by rfl) (hpl:(backTo pos (starEach [e] X.env)).any (·.1)=false:=by rfl) :
  PE X (.Call (.Name "min" p) [e] [⟨some (DY "key"),.Lambda params body scope lpos,kp⟩] pos) (AM te):=by
 intro pins s σ H Q I h;refine Ew (gm I hg hm boot_min ?_);refine PyProof.Rows.callWith_kw (thn (ha pos pins s σ H (λvs H1=>match vs with|[x]=>∃(l:Addr) (ws:List (List Nat)),x=.ref l/\H1 l=some (.lst (ws.map tx))/\ws≠[]/\(∀t∈ws,t.length<=1000000)/\∀t H',Lst (·∈ws) t->(∀b o,H1 b=some o->H' b=some o)->Q (.str (S t)) H'|_=>False) I h) λus s1 ⟨vs,H1,I1,r1,q1⟩=>?_) hs hpl
 match vs,r1,q1 with
 | [x],r1,q1 =>
  obtain⟨u,rfl,ru⟩:=gn r1;obtain⟨l,ws,rfl,hl,hne,hle,hQ⟩:=q1;cases (show u=x_ l from ru);refine PyProof.Rows.kws_cons (PySem.W.kla_eval hdef (AH I1 L hfree λf c' ctv H2 s2 I2 gr hf hfn hnew rec own=>PyProof.Rows.kws_nil ?_));obtain⟨r,hreg,_⟩:=L.reg;obtain⟨t,more,hP⟩:=(I2.ok.tb.un I2.base) Pt r hreg;refine vd I2 hr hP (gr _ _ hl) hne hf hfn (λhb=>?_) rec own S1 (λs v=>hb _ ctv c' s v) (λA' z H'=>hbody f c' A' z H') (λt H' Q' ht h=>ve K (hle t ht) h) λt H' hL g2=>hQ t H' hL λb o e=>g2 b o (gr b o e)
  obtain⟨_,o,ho,_⟩:=I1.stack.mem hb;rw [hnew] at ho;cases ho
end
noncomputable def Ch(pe:PTE):PTE:=λρ Q=>pe ρ λp ρ1=>match p.d with
 | .lst ds=>∃ws:List (List Nat),ds=ws.map .str/\ws≠[]/\∀t,Lst (·∈ws) t->Q (.dat (.str t)) ρ1
 | _=>False
def xY{K:a_}{te:TE}{pe:PTE}(he:LE K te pe):LE K (AM te) (Ch pe):=λA ρ σ H Q Q' R q k=>he A ρ σ H _ _ R q λv H1 p ρ1 q1 f1 o1=>by
 obtain⟨R1,fv⟩:=o1.frz
 split at q1
 .rename_i ds e;obtain⟨ws,rfl,hne,q1⟩:=q1;rw [e] at fv
  cases fv with
  | lst n s f =>
   have hle:=FVs.strs_le f;rw [FVs.strs f] at s;exact⟨_,ws,rfl,s,hne,hle,λt H' hL g=>k _ H' _ ρ1 (q1 t hL) (f1.trans (Gr.fr g)) ⟨R1.gr g,.str t (hle t hL.1)⟩⟩
 .exact q1.elim
structure xZ (K:a_) (mg:Str->Option Value) (nm:Str) (c Pt:Addr):Prop where
 fn:∃(f:Addr) (oc:Value) (od:Option Addr) (fd:DW) (osl:Array (Option Value)),mg nm=some (.ref f)/\K.lookup f=some ⟨oc,od,.func fd,osl⟩/\fd.code=.ref c
 cd:∃(cls:Value) (dd:Option Addr) (vs:Array Value) (sl:Array (Option Value)),K.lookup c=some ⟨cls,dd,.fields vs,sl⟩/\vs[11]?=some (.ref Pt)
 no:K.lookup Pt=none
def tL{P:n_}{w:World}{K:a_}{mg mb:Str->Option Value}{k:Nat}{fa a c Pt bm:Addr}{ob:Obj}{fd:DW}{x:Str}{s1:cx}{vs:List Value}{ns:List Int}{r:List Nat}
  (KX:K.In s1.heap) (hns:s1.heap.Ns mainGlobals mg) (hb:s1.heap.Ns builtinsNs mb) (hbb:∀x:Str,x≠"__name__"->mb x=bootBuiltins x) (hlim:s1.heap.NoLimit) (hg:s1.gens=#[])
  (hT:s1.heap.get? Pt=some (PySem.W.tabObj #[])) (hC:PySem.W.CodeHd s1.heap c Pt) (hKP:K.lookup Pt=none) (m1:mg "__builtins__"=some (.ref bm)) (m2:bm≠builtinsNs) (m3:s1.heap.get? bm=some ob) (m4:ob.cls=.type "module") (m5:ob.dict=some builtinsNs) (m6:ob.data=.plain)
  (ha:s1.heap.get? a=some { cls:=.type "list",data:=.seq vs.toArray }) (hi:IntsAre vs ns) (hl:ns.length<=sizeLine) (hl63:ns.length<=63) (hr:cQ k callerA)
  (F:∀base:Heap,K.In base->base.Ns mainGlobals mg->j8 mg base (.ref c) Pt ⟨r.toArray⟩->lU P w K mg base CX0 k fa fd [x] (nN K)) (hbind:∀(s:cx) (u:Value),Fv s fd ⟨[u],[]⟩ [(x,u)]) :
  codeAny (model P w) callerA (.call (.ref fa) ⟨[.ref a],[]⟩) (λr s'=>r=.ok (.ret (.bool true))/\OldK s1.heap s'.heap/\s'.os=s1.os/\FW s'.gens) s1:=by
 have go:∀H:Hp,H Pt=some (.tbl #[.str ⟨r.toArray⟩ 0])->(∀b,H b≠none->b=a\/b=Pt)->(H a=none\/∃o xs,H a=some (.frz o (.lst xs))/\K.lookup a=none)->HOk P w H s1.heap->SqL K H a (ns.map V.int) ->
   codeAny (model P w) callerA (.call (.ref fa) ⟨[.ref a],[]⟩) (λr s'=>r=.ok (.ret (.bool true))/\OldK s1.heap s'.heap/\s'.os=s1.os/\FW s'.gens) s1:=by
  intro H hP hA hF hok hS
  have none_of:∀b o,s1.heap.get? b=some o->(∀xs n,o.data≠.seq xs n)->b≠Pt->H b=none:=λb o e nd np=>by
   cases q:H b with
   | none=>rfl
   | some u =>
    rcases hA b (by rw [q];exact nofun) with z|z
    .rw [z,ha] at e;cases e;exact absurd rfl (nd _ _)
    .exact absurd z np
  have np:∀b o,s1.heap.get? b=some o->(∀ws,o.data≠.fields ws)->b≠Pt:=λb o e nd z=>by
   rw [z,hT] at e;cases e;exact nd _ rfl
  have g0:∀b o,s1.heap.get? b=some o->H b=none->({ wg s1.heap H with life:={ registered:=Pt::r } }:Heap).get? b=some o:=λb o e n=>tU e n;have gb:∀b o,({ wg s1.heap H with life:={ registered:=Pt::r } }:Heap).get? b=some o->s1.heap.get? b=some o/\H b=none:=λb o e=>wk e;generalize hB:({ wg s1.heap H with life:={ registered:=Pt::r } }:Heap)=base at g0 gb;have hreg:base.life.registered=Pt::r:=by rw [<- hB]
  have hsz:base.objs.size<=s1.heap.objs.size:=by rw [<- hB];exact Ga (re _ _)
  have nsB:∀{b:Addr}{m:Str->Option Value},s1.heap.Ns b m->base.Ns b m:=λ{b m} z=>by
   obtain⟨o,es,ep,e,d,z⟩:=z;exact⟨o,es,ep,g0 b o e (none_of b o e (λ_ _ y=>by rw [d] at y;cases y) (np b o e λ_ y=>by rw [d] at y;cases y)),d,z⟩
  have kB:K.In base:=λb o e=>g0 b o (KX b o e) (by
   cases q:H b with
   | none=>rfl
   | some u =>
    rcases hA b (by rw [q];exact nofun) with z|z
    .rcases hF with y|⟨_,_,_,y⟩
     .rw [z,y] at q;cases q
     .rw [z,y] at e;cases e
    .rw [z,hKP] at e;cases e)
  have M:Mod K mg base:=by
   obtain⟨mc,h1,h2⟩:=hlim;exact⟨kB,nsB hns,⟨mb,nsB hb,hbb⟩,mc,nsB h1,h2⟩
  have bmG:bm≠mainGlobals:=λz=>by
   obtain⟨o,es,ep,e,d,_⟩:=hns;rw [z,e] at m3;cases m3;rw [d] at m6;cases m6
  have L:j8 mg base (.ref c) Pt ⟨r.toArray⟩:=by
   refine⟨⟨c,rfl,?_⟩,⟨r,hreg,rfl⟩,⟨bm,ob,m1,m2,bmG,g0 bm ob m3 (none_of bm ob m3 (λ_ _ y=>by rw [m6] at y;cases y) (np bm ob m3 λ_ y=>by rw [m6] at y;cases y)),m4,m5,m6⟩⟩;obtain⟨o,ws,fi,tf,fg,tg,inF,tx,tt,e1,e2,e3,e4,e5,e6,e7,e8,e9,e10⟩:=hC;exact⟨o,ws,fi,tf,fg,tg,inF,tx,tt,g0 c o e1 (none_of c o e1 (λ_ _ y=>by rw [e3] at y;cases y) e10),e2,e3,e4,e5,e6,e7,e8,e9,e10⟩
  have e0:qZ P w K mg base callerA [] s1 H:=⟨rfl,M,gb,hsz,trivial,λb hb=>absurd (show b∈([]:List Addr) from hb) (by simp),hok,.of_eq hg,λP' r' z=>by
   rw [hreg] at z;cases z;exact⟨0,#[],by rw [hP];rfl⟩⟩
  refine Fw ((F base kB (nsB hns) L).run callerA [] s1 H ⟨[.ref a],[]⟩ [.ref a] [.ref a] (λv _=>v=.bl true) (λ_ _ _=>False) hr e0 (hbind s1 (.ref a)) (.cons rfl .nil) ⟨a,ns,rfl,hS,hl63,λ_=>rfl⟩) λres s' h=>?_
  cases res with
  | error e=>exact (h:False).elim
  | ok fl =>
   cases fl with
   | next=>exact (h:False).elim
   | brk=>exact (h:False).elim
   | cont=>exact (h:False).elim
   | ret u =>
    obtain⟨v,H',os,bare,un,hok',r',rfl⟩:=h;obtain rfl:u=Ej true:=r';refine⟨rfl,⟨λb o e=>?_,λb o e=>un.there b o e (by simp)⟩,os,bare⟩
    by_cases bp:b=Pt
    .subst bp;rw [hT] at e;cases e;obtain⟨more,q⟩:=un.tbls b _ hP;obtain⟨_,_,_,real,_,e2,_⟩:=(show fu H' s'.heap b _ from hok' b _ q)
     obtain⟨o,ws,_,_,_,_,_,_,_,e3,e4,e5,e6,_⟩:=hC;exact .inr (.inl ⟨⟨c,o,ws,e3,e4,e5,e6⟩,rfl,#[],real,rfl,by rw [e2];simp⟩)
    .cases q:H b with
     | none=>exact .inl (un.keep b o e q (λz=>absurd (show b∈([]:List Addr) from z) (by simp)) (by simp))
     | some u =>
      obtain rfl:b=a:=(hA b (by rw [q];exact nofun)).resolve_right bp
      rcases hF with y|⟨ob2,xs,y,_⟩
      .rw [q] at y;cases y
      .have y2:=un.frzs b ob2 _ y;obtain⟨e1,_⟩:=hok b _ y;obtain⟨e2,_⟩:=hok' b _ y2;rw [e] at e1;cases e1;exact .inl e2
 have rv:=mq hi;have lenV:=hi.length;have aP:a≠Pt:=λz=>by rw [z,hT] at ha;cases ha
 have tabOk:∀H:Hp,fu H s1.heap Pt #[.str ⟨r.toArray⟩ 0]:=λH=>⟨_,0,#[],#[],rfl,hT,trivial⟩
 cases hk:K.lookup a with
 | some o =>
  have e:=KX a o hk;rw [ha] at e;cases e
  refine go (λb=>if b=Pt then some (.tbl #[.str ⟨r.toArray⟩ 0]) else none) (if_pos rfl) (λb z=>?_) (.inl (if_neg aP)) (λb u z=>?_) (.inr ⟨_,vs.toArray,_,hk,rfl,rfl,rfl,by rw [p_,lenV];exact hl,by simpa using rv⟩)
  .by_cases h:b=Pt
   .exact .inr h
   .exact absurd (if_neg h) z
  .by_cases h:b=Pt
   .subst h;have z':=(if_pos rfl).symm.trans z;cases z';exact tabOk _
   .have z':=(if_neg h).symm.trans z;cases z'
 | none =>
  refine go (λb=>if b=Pt then some (.tbl #[.str ⟨r.toArray⟩ 0]) else if b=a then some (.frz { cls:=.type "list",data:=.seq vs.toArray } (.lst (ns.map V.int))) else none) (if_pos rfl) (λb z=>?_) (.inr ⟨_,_,(if_neg aP).trans (if_pos rfl),hk⟩) (λb u z=>?_) (.inl (.inr ⟨{ cls:=.type "list",data:=.seq vs.toArray },(if_neg aP).trans (if_pos rfl)⟩))
  .by_cases h:b=Pt
   .exact .inr h
   .by_cases h2:b=a
    .exact .inl h2
    .exact absurd ((if_neg h).trans (if_neg h2)) z
  .by_cases h:b=Pt
   .subst h;have z':=(if_pos rfl).symm.trans z;cases z';exact tabOk _
   .by_cases h2:b=a
    .subst h2;have z':=((if_neg h).trans (if_pos rfl)).symm.trans z;cases z';exact⟨ha,by rw [length_map];exact hl,vs,_,rv,ha⟩
    .have z':=((if_neg h).trans (if_neg h2)).symm.trans z;cases z'
def x0{l:PySem.W.OpenLaw}{q:n_}{loose:List Str}{XP:(Str->Option Value)->Heap->Prop}{YP:World->Heap->Prop}{d:DefRec}{K:Params->a_}{k:Nat}{x:Str}(nm:Str)(r:List Nat)(hrec:(recsOf q).any (λd=>d.name == nm)=true)(hn:l.most=some 63)(hdf:d.params.defaults=[])(hr:cQ k callerA)
  (hY:∀(w:World) (h:Heap),YP w h->(K w.params).In h)
  (F:∀(w:World) (mg:Str->Option Value) (fa:Addr) (h:Heap),(K w.params).In h->h.Ns mainGlobals mg->mg d.name=some (.ref fa) ->
   ∃(c Pt:Addr) (fd:DW),xZ (K w.params) mg nm c Pt/\(∀(s:cx) (u:Value),Fv s fd ⟨[u],[]⟩ [(x,u)]) /\
    ∀base:Heap,(K w.params).In base->base.Ns mainGlobals mg->j8 mg base (.ref c) Pt ⟨r.toArray⟩->lU l.prog w (K w.params) mg base CX0 k fa fd [x] (nN (K w.params))) :
  PySem.W.WalkO q loose XP YP l.row.toRowW d [] (λf vs=>PySem.call f vs):=by
 refine Att.attach_call hn hdf λw s0 s1 mg mb fa o pm cd doc a vs ns G Y ho hd hcd hmg hobj hints hlen hg=>?_;have KX:=hY w _ Y;obtain⟨c,Pt,fd,LI,hb,hF⟩:=F w mg fa _ KX G.T.g hmg;obtain⟨dr,hdr,hnm⟩:=any_eq_true.mp hrec;have hnm:dr.name=nm:=by simpa using hnm
 obtain⟨a2,o2,fd2,c2,P2,t1,t2,t3,t4,t5,t6⟩:=G.T.tab dr hdr;obtain⟨f,oc,od,fd3,osl,u1,u2,u3⟩:=LI.fn;rw [hnm,u1] at t1;cases t1;have e:=KX _ _ u2;rw [t2] at e;cases e;cases t3;rw [u3] at t4;cases t4;have C:=PySem.W.CodeHd.of t5 t6;obtain⟨cls,dd,ws,sl,v1,v2⟩:=LI.cd
 obtain rfl:P2=Pt:=by
  have e:=KX _ _ v1;obtain⟨o3,ws3,_,_,_,_,_,_,_,e1,_,e3,e4,_⟩:=C;rw [e] at e1;cases e1;cases e3;rw [v2] at e4;cases e4;rfl
 obtain⟨bm,ob,b1,b2,b3,b4,b5,b6⟩:=G.T.bmain;exact tL KX G.T.g G.T.b G.T.builtins G.T.nolimit hg t6.2 C LI.no b1 b2 b3 b4 b5 b6 hobj hints (r_ hlen (by decide)) hlen hr hF hb
structure m9 (K:a_) (mg:Str->Option Value) (x:Str) (st:Stmt) (c Pt:Addr):Prop where
 ex:∃(f:Addr) (oc:Value) (od:Option Addr) (kV doc pm:Value) (an:Option Addr) (ct:Value) (osl:Array (Option Value)),K.lookup f=some ⟨oc,od,.func (v_ x x (bb st) (aJ st) (ah st) .none kV doc pm an (.ref c) ct),osl⟩/\Dw K (.ref c) x=true/\s_ K (.ref f)=true/\mg x=some (.ref f)
 lam:xZ K mg x c Pt
def x3{K:a_}{h:Heap}{mg:Str->Option Value}{x:Str}{st:Stmt}{f c Pt:Addr}{oc cls:Value}{od an dd:Option Addr}{osl sl:Array (Option Value)}{kV doc pm ct:Value}{vs:Array Value}(X:K.In h)(G:h.Ns mainGlobals mg)
  (a:so K mainGlobals x=some (some (.ref f))) (l:K.lookup f=some ⟨oc,od,.func (v_ x x (bb st) (aJ st) (ah st) .none kV doc pm an (.ref c) ct),osl⟩)
  (cc:Dw K (.ref c) x=true) (k:s_ K (.ref f)=true) (o:K.lookup c=some ⟨cls,dd,.fields vs,sl⟩) (v:vs[11]?=some (.ref Pt)) (n:K.lookup Pt=none):m9 K mg x st c Pt :=
 ⟨⟨f,oc,od,kV,doc,pm,an,ct,osl,l,cc,k,En X G a⟩,⟨f,oc,od,_,osl,En X G a,l,rfl⟩,⟨cls,dd,vs,sl,o,v⟩,n⟩
section
variable {P:n_}{w:World}{K:a_}{mg:Str->Option Value}{base:Heap}{x:Str}{st:Stmt}{N ps:List Str}{k n:Nat}{cd Pt:Addr}
def m9.oP2{c:FN}{pp:PTS}(D:m9 K mg x st cd Pt)(S:aB N ps (ah st))(hb:xT x st ps)(rl:PRl c pp N.length n)(h1:n=ps.length)(h2:Nat.ble n N.length=true)
  (hbody:∀(f:Addr) (A:t_) (outer:List Env) (s:cx) (H:Hp) (E:XK),cQ k (A.deeper (envOfC x (ah st) s.heap.objs.size f (.ref cd)))->(A.deeper (envOfC x (ah st) s.heap.objs.size f (.ref cd))).units+64<cLine ->
   ∃t,PSs (md CX0 P w K mg base N x (ah st) f (.ref cd) A outer s H E).nox (aJ st) t/\LS K [] t pp):Cal P w K mg base (k+1) x ps (spP K c):=by
 obtain⟨f,oc,od,kV,doc,pm,an,ct,osl,lk,hcd,hk,hm⟩:=D.ex;refine⟨f,_,wB lk hcd S (λvs H Q E h=>(Ba (λds Q h=>(rl ds Q h).1) h).trans h1) λA outer s H vs Q E hr h=>?_,.all (hb kV doc pm an (.ref cd) ct),hk,hm,oc,od,osl,lk⟩;obtain⟨t,h3,h4⟩:=hbody f A outer s H E hr hr.units;exact⟨t,h3.nox,fnP h4 (λds Q h=>r_ (Ga (rl ds Q h).1) (F4 h2)) (λds Q h=>(rl ds Q h).2) h⟩
end
def x4{P:n_}{w:World}{K:a_}{mg:Str->Option Value}{fa c Pt:Addr}{st:Stmt}{k:Nat}{x q:Str}(hfa:mg "law"=some (.ref fa))(D:bE K mg "law" st)
  (hbind:∀(kV doc pm:Value) (an:Option Addr) (cdv ct:Value) (s:cx) (v:Value),Fv s (v_ "law" "law" (bb st) (aJ st) (ah st) .none kV doc pm an cdv ct) ⟨[v],[]⟩ [(x,v)])
  (h:∀base:Heap,j8 mg base (.ref c) Pt q->Cal P w K mg base k "law" [x] (nN K)) :
  ∃fd:DW,(∀(s:cx) (v:Value),Fv s fd ⟨[v],[]⟩ [(x,v)])/\∀base:Heap,K.In base->base.Ns mainGlobals mg->j8 mg base (.ref c) Pt q->lU P w K mg base CX0 k fa fd [x] (nN K):=by
 obtain⟨f,fd,F,hm⟩:=D.ex;have e:=hfa.symm.trans hm;cases e;obtain⟨oc,od,kV,doc,pm,an,cdv,ct,osl,rfl,lk,hcd⟩:=F.ex;refine⟨_,λs v=>hbind kV doc pm an cdv ct s v,λbase kb nb L=>?_⟩;obtain⟨f',fd',F',_,_,hm',oc',od',osl',lk'⟩:=(h base L).ex;have e:=hfa.symm.trans hm';cases e;rw [lk] at lk';cases lk';exact F'
end L2
namespace K71
open PySem PySem.Spec PyProof.Rows L2
noncomputable def top(i:Nat):Stmt:=PySem.Challenge.pw_shortglue_k71_whole_one_more.main.body.getD i (.Pass ⟨0,0,0,0⟩)
abbrev jt:Stmt:=top 6
abbrev h9:Stmt:=top 9
abbrev ia:Stmt:=top 10
abbrev cq:Stmt:=top 11
abbrev ib:Stmt:=top 12
abbrev fX:Stmt:=top 13
abbrev ic:Stmt:=top 14
abbrev cY:Stmt:=top 15
abbrev ie:Stmt:=top 16
abbrev x5:Stmt:=top 18
abbrev ig:Stmt:=top 19
abbrev dU:Stmt:=top 24
abbrev eA:Stmt:=top 25
abbrev dG:Stmt:=top 27
abbrev cZ:Stmt:=top 28
abbrev ju:Stmt:=top 29
abbrev ii:Stmt:=top 30
abbrev br:Stmt:=rL (top 31) 0
abbrev bu:Stmt:=rL (top 31) 1
abbrev il:Stmt:=top 33
abbrev im:Stmt:=top 34
abbrev b9:Stmt:=top 35
abbrev fe:Stmt:=top 36
abbrev jv:Stmt:=top 37
abbrev io:Stmt:=top 38
abbrev fh:Stmt:=top 39
abbrev fY:Stmt:=top 40
abbrev bz:Stmt:=top 41
abbrev ip:Stmt:=top 42
abbrev vf:Stmt:=top 43
def qJ:aB ["mark"] ["mark"] (ah jt):=⟨rfl,rfl,rfl,by decide +kernel,rfl,by decide +kernel,by decide +kernel⟩
def om:aB ["one","other"] ["one","other"] (ah h9):=⟨rfl,rfl,rfl,by decide +kernel,rfl,by decide +kernel,by decide +kernel⟩
def eB:aB ["texts","best","text"] ["texts"] (ah ia):=⟨rfl,rfl,rfl,by decide +kernel,rfl,by decide +kernel,by decide +kernel⟩
def gA:aB ["family"] ["family"] (ah cq):=⟨rfl,rfl,rfl,by decide +kernel,rfl,by decide +kernel,by decide +kernel⟩
def oq:aB ["words","laps"] ["words","laps"] (ah ib):=⟨rfl,rfl,rfl,by decide +kernel,rfl,by decide +kernel,by decide +kernel⟩
def ng:aB ["many"] ["many"] (ah fX):=⟨rfl,rfl,rfl,by decide +kernel,rfl,by decide +kernel,by decide +kernel⟩
def eC:aB ["heads","lasts","lefts","ends","choices","nexts"] ["heads","lasts","lefts"] (ah ic):=⟨rfl,rfl,rfl,by decide +kernel,rfl,by decide +kernel,by decide +kernel⟩
def eL:aB ["words","laps","lefts","ends"] ["words","laps","lefts"] (ah cY):=⟨rfl,rfl,rfl,by decide +kernel,rfl,by decide +kernel,by decide +kernel⟩
def ot:aB ["family"] ["family"] (ah ie):=⟨rfl,rfl,rfl,by decide +kernel,rfl,by decide +kernel,by decide +kernel⟩
def vU:aB ["one","other","k"] ["one","other"] (ah x5):=⟨rfl,rfl,rfl,by decide +kernel,rfl,by decide +kernel,by decide +kernel⟩
def ou:aB ["words"] ["words"] (ah ig):=⟨rfl,rfl,rfl,by decide +kernel,rfl,by decide +kernel,by decide +kernel⟩
def qK:aB ["thing","least","most"] ["thing","least","most"] (ah dU):=⟨rfl,rfl,rfl,by decide +kernel,rfl,by decide +kernel,by decide +kernel⟩
def j9:aB ["text","piece"] ["text","piece"] (ah eA):=⟨rfl,rfl,rfl,by decide +kernel,rfl,by decide +kernel,by decide +kernel⟩
def c6:aB ["things","at","thing"] ["things"] (ah dG):=⟨rfl,rfl,rfl,by decide +kernel,rfl,by decide +kernel,by decide +kernel⟩
def iO:aB ["piece","other"] ["piece","other"] (ah cZ):=⟨rfl,rfl,rfl,by decide +kernel,rfl,by decide +kernel,by decide +kernel⟩
def iq:aB ["pieces","at","piece","longer"] ["pieces","at"] (ah ju):=⟨rfl,rfl,rfl,by decide +kernel,rfl,by decide +kernel,by decide +kernel⟩
def jw:aB ["pieces","kept","at","holder"] ["pieces","kept","at"] (ah ii):=⟨rfl,rfl,rfl,by decide +kernel,rfl,by decide +kernel,by decide +kernel⟩
def fM:aB ["self","pieces","indexes"] ["self","pieces"] (ah br):=⟨rfl,rfl,rfl,by decide +kernel,rfl,by decide +kernel,by decide +kernel⟩
def kc:aB ["self"] ["self"] (ah bu):=⟨rfl,rfl,rfl,by decide +kernel,rfl,by decide +kernel,by decide +kernel⟩
def oy:aB ["_law_script","_law_k"] ["_law_script","_law_k"] (ah il):=⟨rfl,rfl,rfl,by decide +kernel,rfl,by decide +kernel,by decide +kernel⟩
def fZ:aB ["_law_script","_law_k","_law_many","_law_a"] ["_law_script","_law_k","_law_many"] (ah im):=⟨rfl,rfl,rfl,by decide +kernel,rfl,by decide +kernel,by decide +kernel⟩
def aF:aB ["_law_cell_here","_law_most","_law_pieces_here","_law_piece","_law_signs","_law_digit"] ["_law_cell_here","_law_most"] (ah b9):=⟨rfl,rfl,rfl,by decide +kernel,rfl,by decide +kernel,by decide +kernel⟩
def bf:aB ["_law_script","_law_most","_law_letters","_law_text","_law_k","_law_pieces_here","_law_at"] ["_law_script","_law_most"] (ah fe):=⟨rfl,rfl,rfl,by decide +kernel,rfl,by decide +kernel,by decide +kernel⟩
def kJ:aB ["_law_one","_law_other","_law_k"] ["_law_one","_law_other"] (ah jv):=⟨rfl,rfl,rfl,by decide +kernel,rfl,by decide +kernel,by decide +kernel⟩
def c8:aB ["_law_pieces_here","_law_kept_here","_law_k","_law_piece","_law_longer"] ["_law_pieces_here"] (ah io):=⟨rfl,rfl,rfl,by decide +kernel,rfl,by decide +kernel,by decide +kernel⟩
def bK:aB ["_law_many","_law_found","_law_k","_law_longer","_law_order"] ["_law_many"] (ah fh):=⟨rfl,rfl,rfl,by decide +kernel,rfl,by decide +kernel,by decide +kernel⟩
def bW:aB ["_law_words","_law_order","_law_text","_law_k","_law_shared"] ["_law_words","_law_order"] (ah fY):=⟨rfl,rfl,rfl,by decide +kernel,rfl,by decide +kernel,by decide +kernel⟩
def fj:aB ["_law_pieces_here","_law_words"] ["_law_pieces_here"] (ah bz):=⟨rfl,rfl,rfl,by decide +kernel,rfl,by decide +kernel,by decide +kernel⟩
def cr:aB ["_law_script","_law_earlier","_law_drawn","_law_at","_law_text","_law_k"] ["_law_script","_law_earlier"] (ah ip):=⟨rfl,rfl,rfl,by decide +kernel,rfl,by decide +kernel,by decide +kernel⟩
def jx:aB ["_law_script","_law_pieces_here","_law_earlier","_law_more_here","_law_at","_law_found","_law_piece"] ["_law_script"] (ah vf):=⟨rfl,rfl,rfl,by decide +kernel,rfl,by decide +kernel,by decide +kernel⟩
structure Txt (mg:Str->Option Value):Prop where
 b_abs:mg "abs"=none
 b_all:mg "all"=none
 b_any:mg "any"=none
 b_enumerate:mg "enumerate"=none
 b_isinstance:mg "isinstance"=none
 b_len:mg "len"=none
 b_list:mg "list"=none
 b_min:mg "min"=none
 b_range:mg "range"=none
 b_str:mg "str"=none
 b_sum:mg "sum"=none
 b_tuple:mg "tuple"=none
 b_zip:mg "zip"=none
 g_MOST_PIECES:∃t,mg "MOST_PIECES"=some (.int 40 t)
 g_MOST_SHORTEST_WORDS:∃t,mg "MOST_SHORTEST_WORDS"=some (.int 12 t)
 g_MOST_SIGNS:∃t,mg "MOST_SIGNS"=some (.int 60 t)
structure TxC (K:a_):Prop where
 cl_Family:Cls K (bo K "Family")
 n_Family_pieces:dq K (bo K "Family") "pieces"
 n_Family_kept:dq K (bo K "Family") "kept"
 n_Family_words:dq K (bo K "Family") "words"
 n_Family_left:dq K (bo K "Family") "left"
 n_Family_laps:dq K (bo K "Family") "laps"
 n_Family_total:dq K (bo K "Family") "total"
local macro_rules | `(tactic| walk_at "s")=>`(tactic| first | (with_reducible omega) | (with_reducible assumption) | (with_reducible rfl) | exact le_of_ble_eq_true rfl | (simp only [length_cons,length_nil,length_append,length_map];(with_reducible omega)) | assumption | rfl | (refine ⟨?_,?_⟩ <;> first | (with_reducible omega) | (with_reducible assumption) | (with_reducible rfl) | exact le_of_ble_eq_true rfl | assumption | rfl | (refine ⟨?_,?_⟩ <;> first | (with_reducible omega) | (with_reducible assumption) | (with_reducible rfl) | exact le_of_ble_eq_true rfl | assumption | rfl | (refine ⟨?_,?_⟩ <;> first | (with_reducible omega) | (with_reducible assumption) | (with_reducible rfl) | exact le_of_ble_eq_true rfl | assumption | rfl | fail) | fail) | fail) | omega | fail)
local macro_rules | `(tactic| walk_at "r")=>`(tactic| ((try dsimp only [set_cons_zero,set_cons_succ,sP,sQ,sR,Ao,Ap,mT,kF,kG,pW,pX,tail_cons,mU,mW,pY,tD,tE,vO]);(conv=>whnf);(repeat (first | ((with_reducible refine And.intro ?_ ?_);(next=>walk_at "s");(conv=>whnf)) | ((with_reducible refine (show Exists _ from ?_));(first | (refine ⟨_,rfl,?_⟩) | (refine ⟨_,rc.lst _,?_⟩) | (refine ⟨_,rc.tup _,?_⟩));(conv=>whnf)) | ((refine (show fA _ _ _ from ?_));(first | (with_reducible refine Dc (by assumption) ?_) | (with_reducible refine Dd (by assumption) ?_) | (with_reducible refine BA (by assumption) ?_) | (with_reducible refine w9 (by assumption) ?_) | ((with_reducible refine By ?_ ?_);(next=>(first | (with_reducible rfl) | (with_reducible assumption) | (with_reducible omega)))) | ((with_reducible refine Bz ?_ ?_);(next=>(first | (with_reducible rfl) | (with_reducible assumption) | (with_reducible omega)))) | ((with_reducible refine zk ?_ ?_);(next=>(first | (with_reducible rfl) | (with_reducible assumption) | (with_reducible omega)))) | ((with_reducible refine zm ?_ ?_);(next=>(first | (with_reducible rfl) | (with_reducible assumption) | (with_reducible omega)))));(conv=>whnf))));(try refine (show fA _ _ _ from ?_));(try dsimp only [set_cons_zero,set_cons_succ,sP,sQ,sR,Ao,Ap,mT,kF,kG,pW,pX,tail_cons,mU,mW,pY,tD,tE,vO])))
local macro_rules | `(tactic| walk_at "z")=>`(tactic| dsimp only [Bb,CP,cC,List.map,List.length,List.replicate,cons_append,nil_append,Nat.reduceSub,Nat.reduceAdd,Nat.zero_add])
def AN(m i:Nat):Er ((m:Int) / 2^(i:Int).toNat) 1=if m.testBit i then 1 else 0:=by
 have e:(m:Int) / 2^(i:Int).toNat=((m / 2^i:Nat):Int):=by
  rw [toNat_natCast,natCast_ediv,natCast_pow];rfl
 rw [e];generalize hq:m / 2^i=q
 have h:Er (q:Int) 1=((q &&& 1:Nat):Int):=by
  unfold Er;simp
 rw [h,and_one_is_mod]
 have ht:m.testBit i=decide (q % 2=1):=by
  rw [testBit_eq_decide_div_mod_eq,hq]
 rw [ht]
 by_cases c:q % 2=1
 .rw [decide_eq_true c,if_pos rfl,c];rfl
 .rw [decide_eq_false c,if_neg (by decide),show q % 2=0 by omega];rfl
def nh{k:Nat}(h:k<4096):k<2^jr (k:Int)/\jr (k:Int)<=12:=by
 unfold jr
 by_cases c:k=0
 .subst c;exact⟨by decide,by decide⟩
 .have e:((k:Int) == 0)=false:=by rw [beq_eq_false_iff_ne];omega
  rw [e,if_neg (by decide),natAbs_natCast];refine⟨lt_log2_self,?_⟩;have:=(log2_lt c (k:=12)).mpr h;omega
def qM{k:Nat}(h:k<4096):(c_ (jr (k:Int))).filter k.testBit=hZ k:=by
 obtain⟨h1,h2⟩:=nh h;unfold hZ;generalize jr (k:Int)=n at h1 h2;obtain⟨d,hd⟩:∃d,12=n+d:=⟨12 - n,by omega⟩
 have:∀d,(c_ (n+d)).filter k.testBit=(c_ n).filter k.testBit:=λd=>by
  induction d with
  | zero=>rfl
  | succ d ih =>
   rw [<- add_assoc,range_succ,filter_append,ih,filter_cons,if_neg]
   .simp
   .intro z;have:=lF h1 z;omega
 rw [hd,this d]
def C1(n:Nat):(1:Int)*2^(n:Int).toNat=((2^n:Nat):Int):=by rw [toNat_natCast,Int.one_mul,natCast_pow];rfl
def nk(k:Nat):(hZ k).length<=12:=by
 unfold hZ;refine r_ (Fc ..) ?_;rw [C0];exact l_ _
noncomputable def dW:FN:=λds Q=>cI (λm=>cN (∃k:Nat,m=(k:Int)/\k<4096/\Q (.own ((hZ k).map nD)))) ds
noncomputable def f8:FN:=λds Q=>cS (λa=>cS (λb=>cN (Q (.dat (.bl (ahB a b)))))) ds
noncomputable def c9:FN:=λds Q=>cL (λds=>cN (∃ts:List (List Nat),ds=ts.map .str/\(ts≠[]/\ts.length<=100000)/\∀t,Lst (·∈ts) t->Q (.dat (.str t)))) ds
noncomputable def ca:FN:=λds Q=>cO (λc ns fs=>cN (c="Family"/\ns=uV/\∃ps:List (List Nat),fs=uW ps/\(ag ps).length<=12/\Q (.dat .non))) ds
noncomputable def hdD(w:Nat)(hd:Nat->Nat->List Nat):List D:=(c_ w).map λi=>.lst ((c_ w).map λj=>.str (hd i j))
def vV{α β:Type}[Inhabited α](f:List Nat->β)(ws:List (List Nat)):ws.map f=(c_ ws.length).map λi=>f (pw ws i):=by
 refine ext_getElem (by rw [length_map,length_map,C0]) λi h1 h2=>?_;rw [length_map] at h1;rw [getElem_map,getElem_map,getElem_range];congr 1;exact q_ ((cy h1).symm.trans (cE h1))
noncomputable def f9:FN:=λds Q=>cT (λds=>cT (λls=>cN (∃ws:List (List Nat),ds=ws.map .str/\(.tup ls=mR ws/\ws.length<=200/\∀w∈ws,0<w.length/\w.length<=60)/\Q (.dat (.lst (hdD ws.length (hdW ws))))))) ds
noncomputable def chD(c:List (Nat×Nat)):D:=.lst (c.map λp=>.tup [nD p.1,nD p.2])
noncomputable def C2(L:List (List (Nat×Nat))):D:=.lst (L.map chD)
noncomputable def fk:FN:=λds Q=>cI (λm=>cN (∃k:Nat,m=(k:Int)/\k<=12/\Q (.dat (C2 (h7 k))))) ds
structure jy (L:List (List (Nat×Nat))) (hd:Nat->Nat->List Nat) (ls:Nat->List Nat) (w k:Nat) (es:List (List (List Nat))):Prop where
 len:es.length=k
 wid:∀n,n<k->(es.getD n []).length=w
 lst:∀n,n<k->∀i,i<w->Lst (yk L hd ls n i) ((es.getD n []).getD i [])
noncomputable def esD(es:List (List (List Nat))):List D:=es.map λe=>.lst (e.map .str)
structure ga (L:List (List (Nat×Nat))) (w:Nat):Prop where
 many:L.length<=4096
 ch:∀n,∀p∈L.getD n [],p.1<w/\p.2<n
 few:∀n,(L.getD n []).length<=100
def jy.snoc{L:List (List (Nat×Nat))}{hd:Nat->Nat->List Nat}{ls:Nat->List Nat}{w k:Nat}{es:List (List (List Nat))}(h:jy L hd ls w k es){e:List (List Nat)}(hw:e.length=w)(he:∀i,i<w->Lst (yk L hd ls k i) (e.getD i [])):jy L hd ls w (k+1) (es++[e]):=by
 have g1:∀n,n<k->(es++[e]).getD n []=es.getD n []:=λn hn=>by rw [d_,EE (by rw [h.len];exact hn),<- d_]
 have g2:(es++[e]).getD k []=e:=by rw [d_,Ez (by rw [h.len];exact l_ _),h.len,sub_self];rfl
 refine⟨by rw [length_append,h.len];rfl,λn hn=>?_,λn hn i hi=>?_⟩
 .by_cases c:n<k
  .rw [g1 n c];exact h.wid n c
  .rw [show n=k by omega,g2];exact hw
 .by_cases c:n<k
  .rw [g1 n c];exact h.lst n c i hi
  .rw [show n=k by omega,g2];exact he i hi
def jy.txt{L:List (List (Nat×Nat))}{hd:Nat->Nat->List Nat}{ls:Nat->List Nat}{w k:Nat}{es:List (List (List Nat))}(h:jy L hd ls w k es)(hL:ga L w)(h1:∀i j,(hd i j).length<=60)(h2:∀i,(ls i).length<=60){n i:Nat}(hn:n<k)(hk:n<=4096)(hi:i<w):((es.getD n []).getD i []).length<=300000:=by
 obtain⟨⟨js,hw,e⟩,_⟩:=h.lst n hn i hi;rw [e];have:=tI (w:=w) h1 h2 js i;have:=xR (λn p hp=>(hL.ch n p hp).2) hw;omega
def vW{L:List (List (Nat×Nat))}{k:Nat}(h:k<L.length):itD (L.map chD) k=chD (L.getD k []):=eX (by rw [k_,cy h,d_,cy h];rfl)
def vX{es:List (List (List Nat))}{n:Nat}(h:n<es.length):atI (esD es) (n:Int)=some (.lst ((es.getD n []).map .str)):=eV (j:=n) (by unfold esD;rw [k_,cy h,d_,cy h];rfl) rfl
def AO{w:Nat}{hd:Nat->Nat->List Nat}{i j:Nat}(hj:j<w):atI ((c_ w).map λj=>D.str (hd i j)) (j:Int)=some (.str (hd i j)):=eV (j:=j) (by rw [k_,D0 hj];rfl) rfl
noncomputable def vg(ts:List (List Nat)):List Nat:=open Classical in if h:ts≠[] then Classical.choose (vQ h) else []
def qb{ts:List (List Nat)}(h:ts≠[]):Lst (·∈ts) (vg ts):=by unfold vg;rw [dif_pos h];exact Gy (vQ h)
def vY{w:Nat}{f:Nat->List Nat}{i:Nat}(h:i<w):((c_ w).map f).getD i []=f i:=by rw [d_,k_,D0 h];rfl
noncomputable def gc:FN:=λds Q=>cL (λhs=>cD (λla=>cL (λcs=>cN (∃(w:Nat) (hd:Nat->Nat->List Nat),hs=hdD w hd/\∃L:List (List (Nat×Nat)),cs=L.map chD/\∃ls:Nat->List Nat,(rc la ((c_ w).map λi=>.str (ls i))/\ga L w/\(∀i j,(hd i j).length<=60)/\(∀i,(ls i).length<=60)/\w<=200)/\∀es:List (List (List Nat)),jy L hd ls w L.length es->Q (.dat (.lst (esD es))))))) ds
def AQ{ws:List (List Nat)}(hw:∀w∈ws,0<w.length/\w.length<=60)(i j:Nat):(hdW ws i j).length<=60:=by
 unfold hdW;rw [length_take];have:=u4 (λw h=>(hw w h).2) i;omega
def AR{ws:List (List Nat)}(hw:∀w∈ws,0<w.length/\w.length<=60){L:List (List (Nat×Nat))}(hL:ga L ws.length){n:Nat}(hn:L.getD n []≠[]){t:List Nat}(h:Lst (λu=>∃j js,Way L n (j::js)/\u=tlG (hdW ws) (pw ws) j js) t):Lst (λu=>∃js,Way L n js/\u=glN ws js) t:=by
 have hp:∀i,i<ws.length->0<(pw ws i).length:=λi hi=>(hw _ (bL hi)).1
 refine h.congr λu=>⟨λ⟨j,js,w,e⟩=>?_,λ⟨js,w,e⟩=>?_⟩
 .have hl:=vR (λn p hp=>(hL.ch n p hp).1) w;exact⟨j::js,w,by rw [e,tH js j (hp j (hl j mem_cons_self)) λk hk=>hp k (hl k (o_ _ hk))]⟩
 .cases js with
  | nil=>cases w with|nil z=>exact absurd z hn
  | cons j js =>
   have hl:=vR (λn p hp=>(hL.ch n p hp).1) w;exact⟨j,js,w,by rw [e,tH js j (hp j (hl j mem_cons_self)) λk hk=>hp k (hl k (o_ _ hk))]⟩
def x6{ws:List (List Nat)}{L:List (List (Nat×Nat))}{n:Nat}(hn:L.getD n []=[]):Lst (λu=>∃js,Way L n js/\u=glN ws js) []:=by
 refine⟨⟨[],.nil hn,rfl⟩,λu ⟨js,w,e⟩=>?_⟩
 cases w with
 | nil _=>rw [e];exact m7 _
 | cons m _=>rw [hn] at m;cases m
def x8{ds:List D}(h:0<ds.length):atI ds (-1)=some (itD ds (ds.length - 1)):=by
 unfold atI ixN;rw [if_neg (by decide),if_pos (by omega),show ((-1:Int)+(ds.length:Int)).toNat=ds.length - 1 by omega];unfold itD;show ds[ds.length - 1]?=_;rw [d_,cy (by omega)];rfl
noncomputable def cH:FN:=λds Q=>cT (λds=>cT (λls=>cL (λcs=>cN (∃ws:List (List Nat),ds=ws.map .str/\∃L:List (List (Nat×Nat)),cs=L.map chD/\(.tup ls=mR ws/\ws.length<=200/\(∀w∈ws,0<w.length/\w.length<=60)/\ga L ws.length/\0<L.length)/\∀t,Lst (λu=>∃js,Way L (L.length - 1) js/\u=glN ws js) t->Q (.dat (.str t)))))) ds
def gB(n:Nat):(h7 n).length=2^n:=by unfold h7;rw [length_map,C0]
def vh{n:Nat}(h:n<=12):ga (h7 n) n :=
 ⟨by rw [gB];exact Es (n:=2) (by decide) h,λm p hp=>⟨(lH h hp).2.1,(lH h hp).2.2.1⟩,λm=>by
  by_cases c:m<2^n
  .rw [gx c,length_map];exact r_ (nk m) (by decide)
  .rw [d_,y_ (by rw [gB];omega)];exact EI _⟩
noncomputable def de:FN:=λds Q=>cO (λc ns fs=>cN (c="Family"/\ns=uV/\∃ps:List (List Nat),fs=uW ps/\(Pcs 60 ps/\(ag ps).length<=12)/\∀t,Lst (oh ps) t->Q (.dat (.str t)))) ds
noncomputable def nq:FN:=λds Q=>cS (λa=>cS (λb=>cN ((0<a.length/\a.length<=10000)/\(0<b.length/\b.length<=10000)/\Q (.dat (.int (et a b:Int)))))) ds
noncomputable def eE:FN:=λds Q=>cT (λds=>cN (∃ws:List (List Nat),ds=ws.map .str/\(ws.length<=1000/\∀w∈ws,0<w.length/\w.length<=10000)/\Q (.dat (mR ws)))) ds
noncomputable def dX:FN:=λds Q=>cD (λd=>cI (λa=>cI (λb=>cN (d.sort=true/\B1 d<=1000000/\Q (.dat (.bl (uO d a b))))))) ds
noncomputable def cu:FN:=λds Q=>cS (λa=>cS (λb=>cN (Q (.dat (.int (fnd a b 0)))))) ds
noncomputable def cb:FN:=λds Q=>cD (λd=>cN (∃ws:List (List Nat),rc d (ws.map .str)/\(ws.length<=40/\Pcs 60 ws)/\Q (.dat .non))) ds
noncomputable def bd:FN:=λds Q=>cS (λa=>cS (λb=>cN (Q (.dat (.bl (d0 a b)))))) ds
noncomputable def dY:FN:=λds Q=>cT (λds=>cI (λi=>cN (∃ws:List (List Nat),ds=ws.map .str/\(ws.length<=1000/\∀w∈ws,w.length<=10000)/\(0<=i/\i<(ws.length:Int))/\Q (.dat (.bl (bX ws i.toNat)))))) ds
noncomputable def df:FN:=λds Q=>cT (λds=>cT (λks=>cI (λi=>cN (∃ws:List (List Nat),ds=ws.map .str/\ks=(ay ws).map nD/\(ws.length<=1000/\∀w∈ws,w.length<=60)/\(0<=i/\i<(ws.length:Int))/\Q (.dat (cX ws i.toNat)))))) ds
noncomputable def bh:FR:=λp ds Q=>oI "Family" (cD (λd=>cN (∃ws:List (List Nat),rc d (ws.map .str)/\(ws.length<=40/\Pcs 60 ws)/\Q (.dat .non) (.ins "Family" uV (uW ws)))) ds) p
noncomputable def bA:FN:=λds Q=>cO (λc ns fs=>cN (c="Family"/\ns=uV/\∃ws:List (List Nat),fs=uW ws/\Q (.dat (.int ((ag ws).length:Int))))) ds
noncomputable def dh:FN:=λds Q=>cR (λns=>cI (λk=>cN ((0<=k/\k<=1000000)/\∀x:Int,0<=x->Q (.dat (.int x))))) ds
noncomputable def aS:FN:=λds Q=>cR (λns=>cI (λk=>cI (λm=>cN ((0<=k/\k<=10000)/\(0<m/\m<=1000000)/\∀x:Int,0<=x->x<m->Q (.dat (.int x)))))) ds
abbrev C3:List Nat:=[97,98,99,100,101,102,103,104,105,106,107,108,109,110,111,112,113,114,115,116,117,118,119,120,121,122]
def vi:Lts C3:=fV.mp (by decide)
noncomputable def bv:FN:=λds Q=>cI (λc=>cI (λmo=>cN (0<=c/\(0<mo/\mo<=40)/\∀ps:List (List Nat),ps.length<=mo.toNat->Pcs 9 ps->Q (.dat (.lst (ps.map .str)))))) ds
noncomputable def eF:FN:=λds Q=>cR (λns=>cI (λmo=>cN ((0<mo/\mo<=40)/\∀ps:List (List Nat),ps.length<=mo.toNat->Pcs 9 ps->Q (.dat (.lst (ps.map .str)))))) ds
noncomputable def ir:FN:=λds Q=>cS (λa=>cS (λb=>cN ((0<a.length/\a.length<=10000)/\(0<b.length/\b.length<=10000)/\Q (.dat (.int (et a b:Int)))))) ds
noncomputable def eG:FN:=λds Q=>cL (λds=>cN (∃ps:List (List Nat),ds=ps.map .str/\(ps.length<=40/\∀w∈ps,w.length<=60)/\Q (.dat (.lst ((ay ps).map nD))))) ds
noncomputable def dz(k:Nat)(js:List Nat):List (List Nat):=(c_ (k+1)).map λa=>js.take a++[k]++js.drop a
noncomputable def cf:Nat->List (List Nat)
 | 0=>[[]]
 | k+1=>(cf k).flatMap (dz k)
def tM(k:Nat)(js:List Nat):(dz k js).length=k+1:=by unfold dz;rw [length_map,C0]
theorem gC:∀{k:Nat}{js:List Nat},js∈cf k->js.Perm (c_ k)
 | 0,js,h=>by rw [DI.mp h];exact .refl _
 | k+1,js,h=>by
  obtain⟨o,ho,hj⟩:=mem_flatMap.mp h;obtain⟨a,_,rfl⟩:=EC.mp hj;have ih:=gC ho;rw [range_succ]
  have e:(o.take a++[k]++o.drop a).Perm (o++[k]):=by
   rw [append_assoc];refine (List.Perm.append_left (o.take a) (perm_append_comm (l₁:=[k]) (l₂:=o.drop a))).trans ?_;rw [<- append_assoc,DS]
  exact e.trans (ih.append_right [k])
theorem jA:∀{k:Nat}{js:List Nat},js.Perm (c_ k)->js∈cf k
 | 0,js,h=>by rw [List.Perm.eq_nil h];exact DI.mpr rfl
 | k+1,js,h=>by
  have hk:k∈js:=h.mem_iff.mpr (mem_range.mpr (E5 k));obtain⟨u,w,rfl⟩:=append_of_mem hk
  have hp:(u++w).Perm (c_ k):=by
   have h1:(u++k::w).Perm (k::(u++w)):=perm_middle;have h2:(c_ (k+1)).Perm (k::c_ k):=by rw [range_succ];exact perm_append_comm
   exact (perm_cons k).mp ((h1.symm.trans h).trans h2)
  have hl:(u++w).length=k:=by rw [hp.length_eq,C0]
  rw [length_append] at hl;refine mem_flatMap.mpr ⟨u++w,jA hp,EC.mpr ⟨u.length,mem_range.mpr (by omega),?_⟩⟩;rw [take_left,drop_left,append_assoc];rfl
theorem lM(k:Nat):∀R:List (List Nat),(R.flatMap (dz k)).length=R.length*(k+1)
 | []=>by rw [length_nil,Nat.zero_mul];rfl
 | o::r=>by rw [flatMap_cons,length_append,lM k r,tM,length_cons,succ_mul,add_comm]
def gD(k:Nat):(cf (k+1)).length=(cf k).length*(k+1):=lM k _
theorem qc:∀{k:Nat},k<=5->(cf k).length<=120
 | 0,_=>by decide
 | 1,_=>by decide
 | 2,_=>by decide
 | 3,_=>by decide
 | 4,_=>by decide
 | 5,_=>by rw [gD,gD,gD,gD,gD];decide
abbrev lV(js:List Nat):D:=.lst (js.map nD)
def AS(k:Nat)(R:List (List Nat)){j:Nat}{o:List Nat}(h:R[j]?=some o):(R.take (j+1)).flatMap (dz k)=(R.take j).flatMap (dz k)++dz k o:=by
 have e:R.take (j+1)=R.take j++[o]:=by rw [take_add_one,h];rfl
 rw [e,flatMap_append];simp
noncomputable def cK:FN:=λds Q=>cI (λn=>cN (∃k:Nat,n=(k:Int)/\k<=5/\Q (.dat (.lst ((cf k).map lV))))) ds
def qd{ws:List (List Nat)}{js:List Nat}{k:Nat}(h:k<js.length):glN ws (js.take (k+1))=glN ws (js.take k)++(pw ws (js.getD k 0)).drop (if k=0 then 0 else et (pw ws (js.getD (k - 1) 0)) (pw ws (js.getD k 0))):=by
 have t1:js.take (k+1)=js.take k++[js.getD k 0]:=mN h
 by_cases e:k=0
 .subst e;rw [if_pos rfl,t1,take_zero,drop_zero];show pw ws _++[]=[]++pw ws _;rw [DQ,nil_append]
 .have t0:js.take k=js.take (k - 1)++[js.getD (k - 1) 0]:=by
   have:=mN (l:=js) (k:=k - 1) (by omega)
   rwa [show k - 1+1=k by omega] at this
  rw [if_neg e,t1,t0,lB]
noncomputable def dA:FN:=λds Q=>cL (λds=>cD (λd=>cN (∃ws:List (List Nat),ds=ws.map .str/\(ws.length<=60/\∀w∈ws,0<w.length/\w.length<=60)/\∃js:List Nat,rc d (js.map nD)/\(js.length<=60/\∀j∈js,j<ws.length)/\Q (.dat (.str (glN ws js)))))) ds
def tN{ps:List (List Nat)}{t:List Nat}(h:Lst (·∈(cf (ag ps).length).map (glN (ag ps))) t):Lst (GlS (ag ps)) t :=
 h.congr λu=>⟨λz=>by obtain⟨js,hj,rfl⟩:=EC.mp z;exact⟨js,gC hj,rfl⟩,λ⟨js,hj,e⟩=>EC.mpr ⟨js,jA hj,e.symm⟩⟩
noncomputable def cg:FN:=λds Q=>cL (λds=>cN (∃ps:List (List Nat),ds=ps.map .str/\(ps.length<=40/\Pcs 60 ps)/\(ag ps).length<=5/\∀t,Lst (oh ps) t->Q (.dat (.str t)))) ds
def oz{b:Bool}{A B:Prop}(hB:B)(hA:B->b=true->A):fA b A B:=by
 cases b with
 | true=>exact hA hB rfl
 | false=>exact hB
def vZ{ws:List (List Nat)}(h:∀w∈ws,Lts w)(j:Nat):Lts (pw ws j):=by
 by_cases c:j<ws.length
 .exact h _ (bL c)
 .unfold pw;rw [d_,y_ (by omega)];exact Lts.nil
theorem tO{ws:List (List Nat)}(h:∀w∈ws,Lts w):∀(r:List Nat) (j:Nat),Lts (glT ws j r)
 | [],_=>Lts.nil
 | k::r,j=>((vZ h k).drop _).app (tO h r k)
theorem x9{ws:List (List Nat)}(h:∀w∈ws,Lts w):∀js:List Nat,Lts (glN ws js)
 | []=>Lts.nil
 | j::r=>(vZ h j).app (tO h r j)
def nr{ps:List (List Nat)}(hps:Pcs 60 ps)(hn:ps.length<=5){t:List Nat}(ht:Lst (oh ps) t):t.length<=300/\Lts t:=by
 obtain⟨⟨js,hj,e⟩,_⟩:=u8 hps ht;have hwp:=cp hps;have h1:=vM (u4 λw hw=>(hwp w hw).2.1) js;have h2:=tw hj;have h3:=cM ps;have h4:js.length*60<=5*60:=Gd 60 (by omega);rw [e];exact⟨by omega,x9 (λw hw=>(hwp w hw).2.2) js⟩
def vj{ps:List (List Nat)}{p t u:List Nat}(ht:Lst (oh ps) t)(hu:Lst (oh (ps++[p])) u):t.length<=u.length/\u.length<=t.length+p.length/\(p <:+: t->u=t)/\∀x∈ps++[p],x <:+: u:=by
 have h1:oh ps u:=λx hx=>hu.1 x (DG _ hx)
 have h2:oh (ps++[p]) (t++p):=λx hx=>by
  rcases DP.mp hx with h|h
  .obtain⟨a,b,e⟩:=ht.1 x h;exact⟨a,b++p,by rw [<- e,<- append_assoc]⟩
  .rw [DI.mp h];exact⟨t,[],by rw [DQ]⟩
 have h3:=vP (hu.2 _ h2);rw [length_append] at h3;refine⟨vP (ht.2 u h1),h3,λhp=>?_,hu.1⟩
 have h4:oh (ps++[p]) t:=λx hx=>by
  rcases DP.mp hx with h|h
  .exact ht.1 x h
  .rw [DI.mp h];exact hp
 exact og (ht.2 u h1) (hu.2 t h4)
def vk{ps:List (List Nat)}{p t:List Nat}(j:Nat)(h:Lst (oh (ps.take j++[p]++ps.drop j)) t):Lst (oh (ps++[p])) t :=
 h.congr λu=>⟨λz x hx=>z x (by
  rw [append_assoc]
  rcases DP.mp hx with h|h
  .rw [<- DS j ps] at h
   rcases DP.mp h with h|h
   .exact DG _ h
   .exact we _ (we _ h)
  .exact we _ (DG _ h)),λz x hx=>z x (by
  rw [append_assoc] at hx
  rcases DP.mp hx with h|h
  .exact DG _ (Fp h)
  .rcases DP.mp h with h|h
   .exact we _ h
   .exact DG _ (Gv h))⟩
def AT{ps:List (List Nat)}(h:Pcs 9 ps):Pcs 60 ps:=λw hw=>⟨(h w hw).1,by have:=(h w hw).2.1;omega,(h w hw).2.2⟩
def ya{ps:List (List Nat)}{p:List Nat}(j:Nat)(h:Pcs 60 ps)(hp:Pc 60 p):Pcs 60 (ps.take j++[p]++ps.drop j)/\(ps.take j++[p]++ps.drop j).length=ps.length+1:=by
 refine⟨λw hw=>?_,?_⟩
 .rw [append_assoc] at hw
  rcases DP.mp hw with z|z
  .exact h w (Fp z)
  .rcases DP.mp z with z|z
   .rw [DI.mp z];exact hp
   .exact h w (Gv z)
 .rw [length_append,length_append,length_take,length_drop];show _+1+_=_;omega
noncomputable def gd:FN:=λds Q=>cR (λns=>cS (λe=>cN (e.length<=4000/\Lts e/\∀p:List Nat,0<p.length->p.length<=9->Lts p->Q (.dat (.str p))))) ds
def v7:Nat:=7
abbrev v8:FN:=CH
noncomputable def kK(K:a_)(mg:Str->Option Value)(t:TxC K):=(have TC:=t;show LS K [] _ _ from (aO (aZ (ix:=[none,some 0]) rfl (mJ (aa (ac (xM (aj (i:=0)))) ae)) (λfs hc=>(au (i:=0) (gZ hc (by decide)))) (B9 (ao xC (ac (ao Al (ak (i:=1)) (ak (i:=0)))) (ac (le_int (i:=1))))) (aj (i:=0)))))
def qN:PTS:=psO kK
def qO:PRl dW qN 1 1:=λ_ Q h=>qI h λm _ h=>gy h λh=>B_ rfl <| by
 walk_at "z";obtain⟨k,rfl,hk,q⟩:=h;have hb:=qM hk;have hb8:=(nh hk).2;walk_at "r"
 refine cfR (λj=>k.testBit j) (λj=>nD j) (λj hj v K1 K2 k1 k2=>?_) (λv=>?_)
 .have e:=AN k j;show (0:Int)<=(j:Int)/\fA (Er ((k:Int) / 2^(j:Int).toNat) 1 != 0) _ _;refine⟨by omega,?_⟩;rw [e]
  cases h:k.testBit j with
  | true=>exact k1 _ h
  | false=>exact k2 _ h
 .rw [toNat_natCast,hb];exact q
noncomputable def jB(K:a_)(mg:Str->Option Value)(t:TxC K):=(have TC:=t;show LS K [] _ _ from (aw (dn (fJ (ao kC (ac (aW aT (aa (ak (i:=0)) ae))) (ac (aW aT (aa (ak (i:=1)) ae))))) (aO (ao sx (ac (aW aT (aa (ak (i:=0)) ae))) (ac (aW aT (aa (ak (i:=1)) ae))))) bc) (aO (ao sx (ak (i:=0)) (ak (i:=1))))))
def oA:PTS:=psO jB
def oB:PRl f8 oA 2 2:=λ_ Q h=>tJ h λa _ h=>tJ h λb _ h=>gy h λh=>B_ rfl <| by
 walk_at "z";have h:Q (.dat (.bl (ahB a b))):=h;unfold ahB at h;walk_at "r"
 refine mH (λc=>?_) (λc=>?_)
 .rw [if_pos (by omega)] at h;walk_at "r";rw [show decide ((a.length:Int)<(b.length:Int))=decide (a.length<b.length) from decide_eq_decide.mpr (by omega)];exact h
 .rw [if_neg (by omega)] at h;walk_at "r";exact h
noncomputable def jC(K:a_)(mg:Str->Option Value)(t:TxC K):=(have TC:=t;show LS K [] _ _ from (aw (aH (ao cm (ak (i:=0)) (ac (le_int (i:=0)))) (aC (i:=1) rfl)) (aw (dQ (bI (bq (ak (i:=0)) (be (le_int (i:=1))) bJ)) (au (i:=2) rfl) (dn (uD (ar (c:=f8) (aa (ac (aj (i:=2))) (aa (ac (aj (i:=1))) ae)))) (aH (aj (i:=2)) (aC (i:=1) rfl)) bc)) (aO (aj (i:=1))))))
def oE:PTS:=psO jC
def oF:PRl c9 oE 3 1:=λ_ Q h=>xU h λds _ h=>gy h λh=>B_ rfl <| by
 walk_at "z";obtain⟨ts,rfl,⟨hne,hl⟩,q⟩:=h;obtain⟨t0,r,rfl⟩:∃t0 r,ts=t0::r:=by cases ts with|nil=>exact absurd rfl hne|cons t0 r=>exact⟨t0,r,rfl⟩
 have hl:r.length+1<=100000:=hl;have c1:cA ((t0::r).map D.str) (some 1) none=r.map D.str:=Ds _ _;have hat:atI ((t0::r).map D.str) 0=some (.str t0):=eV (j:=0) rfl rfl;walk_at "r";refine⟨_,hat,?_⟩;walk_at "r";rw [c1];walk_at "r"
 refine CU (α:=List Nat) (e:=D.str) (xs:=r) (λ(pre:List (List Nat)) ρ=>∃(b:List Nat) (v:Option PV),Lst (·∈t0::pre) b/\ρ=[some (.dat (.lst ((t0::r).map .str))),some (.dat (.str b)),v]) ⟨_,_,lD t0,rfl⟩ ?_ ?_
 .rintro pre x suf ρ ej ⟨b,v,hb,rfl⟩;have hs:=lE (t:=x) hb;walk_at "r"
  refine w6 (λc=>?_) (λc=>?_)
  .rw [if_pos c] at hs;walk_at "r";exact⟨x,_,hs,rfl⟩
  .rw [if_neg (by rw [c];decide)] at hs;exact⟨b,_,hs,rfl⟩
 rintro ρ ⟨b,v,hb,rfl⟩;walk_at "r";exact q b hb
noncomputable def dB(K:a_)(mg:Str->Option Value)(t:TxC K):=(have TC:=t;show LS K [] _ _ from (dn (fJ (ao lj (ac (pT (c0:="Family") (m:="many") (ns0:=["pieces","kept","words","left","laps","total"]) (c:=bA) (by decide +kernel) (aj (i:=0)) ae)) (ac (le_int (i:=12))))) lm bc))
def gE:PTS:=psO dB
def gF:PRl ca gE 1 1:=λ_ Q h=>Cg h λc ns fs _ h=>gy h λh=>B_ rfl <| by
 walk_at "z";obtain⟨rfl,rfl,ps,rfl,h12,q⟩:=h;walk_at "r";exact q
noncomputable def jD(K:a_)(mg:Str->Option Value)(t:TxC K):=(have TC:=t;show LS K [] _ _ from (aO (mX (aZ (ix:=[none,none]) rfl (zL (aa (ac (aj (i:=0))) (aa (ac (aj (i:=1))) ae))) (λfs hc=>(hG (n:=2) (bT (au (i:=0) (gZ hc (by decide))) (bT (au (i:=1) (gZ hc (by decide))) gW)))) cB (aZ (ix:=[none,some 0]) rfl (bI (aj (i:=1))) (λfs hc=>(au (i:=0) (gZ hc (by decide)))) cB (bq (ak (i:=1)) bJ (be (ao jj (ac (aW aT (aa (ak (i:=1)) ae))) (ak (i:=0))))))))))
def oG:PTS:=psO jD
def oH:PRl f9 oG 2 2:=λ_ Q h=>vS h λds _ h=>vS h λls _ h=>gy h λh=>B_ rfl <| by
 walk_at "z";obtain⟨ws,rfl,⟨hls,hn,hw⟩,q⟩:=h;unfold mR at hls;cases hls;have hm1:(ws.map D.str).length=ws.length:=length_map _;have hm2:(ws.map λw=>D.tup (ws.map λv=>.int (et w v:Int))).length=ws.length:=length_map _;walk_at "r"
 refine tS (λτ=>∃v w:Option PV,τ=[v,w]) (λi=>.lst ((c_ ws.length).map λj=>.str (hdW ws i j))) ⟨_,_,rfl⟩ ?_ ?_
 .rintro i τ _ hi rfl ⟨v,w,rfl⟩ K1 k1;rw [hm1,hm2,min_self] at hi;have hwi:=hw _ (bL hi);rw [show itD (ws.map D.str) i=.str (pw ws i) from eX (by rw [k_,cE hi];rfl),show itD (ws.map λw=>D.tup (ws.map λv=>.int (et w v:Int))) i=.tup (ws.map λv=>.int (et (pw ws i) v:Int)) from eX (by rw [k_,cE hi];rfl)];walk_at "r"
  refine cm1 (e:=λu=>D.int (et (pw ws i) u:Int)) (xs:=ws) (λu=>.str ((pw ws i).take ((pw ws i).length - et (pw ws i) u))) (λu hu v K2 k2=>?_) (λv=>?_)
  .have hl:=(hM hwi.1 (hw u hu).1).1;walk_at "r";rw [show ((pw ws i).length:Int) - (et (pw ws i) u:Int)=(((pw ws i).length - et (pw ws i) u:Nat):Int) by omega,eT];exact k2 _
  .rw [vV (α:=Nat) (λu=>D.str ((pw ws i).take ((pw ws i).length - et (pw ws i) u))) ws];exact k1 _ ⟨_,_,rfl⟩
 .rintro τ ⟨v,w,rfl⟩;rw [hm1,hm2,min_self];exact q
noncomputable def iD(K:a_)(mg:Str->Option Value)(t:TxC K):=(have TC:=t;show LS K [] _ _ from (aO (mX (aZ (ix:=[none]) rfl (mJ (aa (ac (ao vJ (ac (le_int (i:=1))) (ak (i:=0)))) ae)) (λfs hc=>(au (i:=0) (gZ hc (by decide)))) cB (aZ (ix:=[none,some 0]) rfl (bI (ar (c:=dW) (aa (ac (aj (i:=0))) ae))) (λfs hc=>(au (i:=0) (gZ hc (by decide)))) cB (su (aa (ac (aj (i:=0))) (aa (ac (ao jj (ak (i:=1)) (ac (ao vJ (ac (le_int (i:=1))) (ak (i:=0)))))) ae))))))))
def nu:PTS:=psO iD
def nv:PRl fk nu 1 1:=λ_ Q h=>qI h λm _ h=>gy h λh=>B_ rfl <| by
 walk_at "z";obtain⟨k,rfl,hk,q⟩:=h;have hS:0<=(k:Int)/\(k:Int)<=1000000/\(1:Int).natAbs<2^64:=⟨by omega,by omega,by decide⟩
 have hp:2^k<=4096:=Es (n:=2) (by decide) hk;have eS:=C1 k;have hr2:(-1000000:Int)<=1*2^(k:Int).toNat:=by rw [eS];exact GO (show (-1000000:Int)<=0 by decide) (natCast_nonneg _)
 have hr3:(1:Int)*2^(k:Int).toNat<=1000000:=by rw [eS];exact GO (ofNat_le.mpr hp) (by decide)
 walk_at "r";rw [eS]
 refine cmR (λm=>chD ((hZ m).map λi=>(i,m - 2^i))) (λm hm v K1 k1=>?_) (λv=>?_)
 .rw [toNat_natCast] at hm;have h12:m<4096:=by omega
  have hl:=nk m;walk_at "r"
  refine cm1 (e:=nD) (xs:=hZ m) (λi=>.tup [nD i,nD (m - 2^i)]) (λi hi v K2 k2=>?_) (λv=>?_)
  .have hb:=(fc h12).mp hi;have hi12:=lF (n:=12) h12 hb;have hle:=(lG h12 hb).1;have hS:0<=(i:Int)/\(i:Int)<=1000000/\(1:Int).natAbs<2^64:=⟨by omega,by omega,by decide⟩
   have eS:=C1 i;walk_at "r";rw [eS,show (m:Int) - ((2^i:Nat):Int)=((m - 2^i:Nat):Int) by omega];exact k2 _
  .walk_at "r";have e:(hZ m).map (λi=>D.tup [nD i,nD (m - 2^i)])=((hZ m).map λi=>(i,m - 2^i)).map λp=>.tup [nD p.1,nD p.2]:=by rw [map_map];rfl
   rw [e];exact k1 _
 .rw [toNat_natCast];walk_at "r";unfold C2 h7 at q;rw [map_map] at q;exact q
noncomputable def jF(K:a_)(mg:Str->Option Value)(t:TxC K):=(have TC:=t;show LS K [] _ _ from (aw (aH (dw ae) (aC (i:=3) rfl)) (aw (dQ (bI (aj (i:=2))) (au (i:=4) rfl) (aw (aH (aZ (ix:=[none,none,some 3]) rfl (bI (aj (i:=4))) (λfs hc=>(hG (n:=2) (bT (au (i:=0) (gZ hc (by decide))) (bT (au (i:=1) (gZ hc (by decide))) gW)))) cB (su (aa (ac (aj (i:=0))) (aa (ac (ao cm (ac (ao cm (ak (i:=2)) (ak (i:=1)))) (ak (i:=0)))) ae)))) (aC (i:=5) rfl)) (eW (mK (i:=3) (BF (Cb (aj (i:=5))) (aZ (ix:=[none,some 5]) rfl (bI (aj (i:=0))) (λfs hc=>(au (i:=0) (gZ hc (by decide)))) cB (ar (c:=c9) (aa (ac (aZ (ix:=[none,none,some 0]) rfl (bI (aj (i:=1))) (λfs hc=>(hG (n:=2) (bT (au (i:=0) (gZ hc (by decide))) (bT (au (i:=1) (gZ hc (by decide))) gW)))) cB (ao aK (ac (ao cm (ak (i:=2)) (ak (i:=0)))) (ak (i:=1))))) ae))) (aW xw (aa (ak (i:=1)) ae))))))) (aO (aj (i:=3))))))
def oJ:PTS:=psO jF
def oK:PRl gc oJ 6 3:=λ_ Q h=>xU h λhs _ h=>AF h λla _ h=>xU h λcs _ h=>gy h λh=>B_ rfl <| by
 walk_at "z";obtain⟨w,hd,rfl,L,rfl,ls,⟨hla,hL,h60,hl60,hw⟩,q⟩:=h;have hcm:(L.map chD).length=L.length:=length_map _;have hmany:=hL.many;have hhl:(hdD w hd).length=w:=by unfold hdD;rw [length_map,C0]
 walk_at "r"
 refine⟨λk ρ=>∃(es:List (List (List Nat))) (v3 v4 v5:Option PV),jy L hd ls w k es/\ρ=[some (.dat (.lst (hdD w hd))),some (.dat la),some (.dat (.lst (L.map chD))),some (.own (esD es)),v4,v5],⟨[],none,_,_,⟨rfl,(λn h=>absurd h (GF _)),λn h=>absurd h (GF _)⟩,rfl⟩,?_,?_⟩
 .rintro k ρ d hk ed ⟨es,v3,v4,v5,hE,rfl⟩;rw [hcm] at hk;subst ed;rw [vW hk];have hch:=hL.ch k;have hfew:=hL.few k;have hel:=hE.len;generalize hc:L.getD k []=c at hch hfew;have hcl:(c.map λp=>D.tup [nD p.1,nD p.2]).length=c.length:=length_map _;have hesl:(esD es).length=k:=by unfold esD;rw [length_map];exact hel
  have hE2:∀p∈c,p.2<k/\p.1<w/\(es.getD p.2 []).length=w/\((es.getD p.2 []).getD p.1 []).length<=300000:=λp hp=>by
   have:=hch p hp;exact⟨this.2,this.1,hE.wid _ this.2,hE.txt hL h60 hl60 this.2 (by omega) this.1⟩
  walk_at "r"
  refine cm2 (e:=λp:Nat×Nat=>D.tup [nD p.1,nD p.2]) (xs:=c) (λp=>.tup [nD p.1,.str ((es.getD p.2 []).getD p.1 [])]) (λp hp v w2 K1 k1=>?_) (λv w2=>?_)
  .obtain⟨p1,p2,p3,p4⟩:=hE2 p hp;show sI 2 _ (.dat (.tup [.int (p.1:Int),.int (p.2:Int)])) _ _;walk_at "r";refine⟨_,vX (by omega),?_⟩;walk_at "r";refine⟨_,bN (k:=p.1) (by rw [p3];exact p2) rfl,?_⟩;walk_at "r";exact k1 _ _
  have hnl:(c.map λp=>D.tup [nD p.1,.str ((es.getD p.2 []).getD p.1 [])]).length=c.length:=length_map _;have hnil:(!(c.map λp=>D.tup [nD p.1,.str ((es.getD p.2 []).getD p.1 [])]).isEmpty)=!c.isEmpty:=by cases c <;> rfl
  walk_at "r";rw [hnil]
  cases hce:c.isEmpty with
  | true =>
   have hcn:c=[]:=isEmpty_iff.mp hce;walk_at "r";refine xE hla ?_;walk_at "r";refine⟨es++[(c_ w).map ls],none,_,_,hE.snoc (by rw [length_map,C0]) (λi hi=>by rw [vY hi];exact xO (by rw [hc];exact hcn)),by unfold esD;rw [map_append,map_cons,map_map];rfl⟩
  | false =>
   have hcn:c≠[]:=λz=>by rw [z] at hce;cases hce
   walk_at "r";unfold hdD
   refine cm1 (e:=λi=>D.lst ((c_ w).map λj=>D.str (hd i j))) (xs:=c_ w) (λi=>.str (vg (c.map λp=>hd i p.1++(es.getD p.2 []).getD p.1 []))) (λi hi v K1 k1=>?_) (λv=>?_)
   .have hi:=mem_range.mp hi;have hrl:((c_ w).map λj=>D.str (hd i j)).length=w:=by rw [length_map,C0]
    walk_at "r"
    refine cm2 (e:=λp:Nat×Nat=>D.tup [nD p.1,.str ((es.getD p.2 []).getD p.1 [])]) (xs:=c) (λp=>.str (hd i p.1++(es.getD p.2 []).getD p.1 [])) (λp hp v w2 K1 k1=>?_) (λv w2=>?_)
    .obtain⟨p1,p2,p3,p4⟩:=hE2 p hp;have h6:=h60 i p.1;show sI 2 _ (.dat (.tup [.int (p.1:Int),.str ((es.getD p.2 []).getD p.1 [])])) _ _;walk_at "r";refine⟨_,AO p2,?_⟩;walk_at "r";exact k1 _ _
    have e1:c.map (λp=>D.str (hd i p.1++(es.getD p.2 []).getD p.1 []))=(c.map λp=>hd i p.1++(es.getD p.2 []).getD p.1 []).map .str:=by rw [map_map];rfl
    have hne:c.map (λp=>hd i p.1++(es.getD p.2 []).getD p.1 [])≠[]/\(c.map λp=>hd i p.1++(es.getD p.2 []).getD p.1 []).length<=100000:=⟨λz=>hcn (EF.mp z),by rw [length_map];omega⟩
    rw [e1];walk_at "r";intro t ht;rw [ht.uniq (qb hne.1)];exact k1 _
   walk_at "r";refine⟨es++[(c_ w).map λi=>vg (c.map λp=>hd i p.1++(es.getD p.2 []).getD p.1 [])],none,_,_,hE.snoc (by rw [length_map,C0]) (λi hi=>?_),by unfold esD;rw [map_append,map_cons,map_map];rfl⟩;rw [vY hi]
   refine u6 (E:=λn j=>(es.getD n []).getD j []) (by rw [hc];exact hcn) (λp hp=>?_) ?_
   .rw [hc] at hp;have:=hch p hp;exact hE.lst _ this.2 _ this.1
   .rw [hc];exact qb λz=>hcn (EF.mp z)
 rintro ρ ⟨es,v3,v4,v5,hE,rfl⟩;rw [hcm] at hE;walk_at "r";exact q es hE
noncomputable def eM(K:a_)(mg:Str->Option Value)(t:TxC K):=(have TC:=t;show LS K [] _ _ from (aw (aH (ar (c:=gc) (aa (ac (ar (c:=f9) (aa (ac (aj (i:=0))) (aa (ac (aj (i:=1))) ae)))) (aa (ac (aj (i:=0))) (aa (ac (aj (i:=2))) ae)))) (aC (i:=3) rfl)) (aO (ar (c:=c9) (aa (ac (AD (aZ (ix:=[none,none,some 3]) rfl (bI (ao cm (ak (i:=2)) (ac (xb sF (ac (le_int (i:=1))))))) (λfs hc=>(hG (n:=2) (bT (au (i:=0) (gZ hc (by decide))) (bT (au (i:=1) (gZ hc (by decide))) gW)))) cB (ao cm (ac (ao cm (ak (i:=2)) (ak (i:=1)))) (ak (i:=0)))) (dw (aa (ac (le_str (l:=[]))) ae)))) ae)))))
def iP:PTS:=psO eM
def iQ:PRl cH iP 4 3:=λ_ Q h=>vS h λds _ h=>vS h λls _ h=>xU h λcs _ h=>gy h λh=>B_ rfl <| by
 walk_at "z";obtain⟨ws,rfl,L,rfl,⟨hls,hn,hw,hL,h0⟩,q⟩:=h;have g1:.tup ls=mR ws/\ws.length<=200/\∀w∈ws,0<w.length/\w.length<=60:=⟨hls,hn,hw⟩
 have hcm:(L.map chD).length=L.length:=length_map _;have hmany:=hL.many;have g2:rc (.tup (ws.map .str)) ((c_ ws.length).map λi=>.str (pw ws i))/\ga L ws.length/\(∀i j,(hdW ws i j).length<=60)/\(∀i,(pw ws i).length<=60)/\ws.length<=200:=⟨by rw [<- vV (α:=Nat) D.str ws];exact .inr rfl,hL,AQ hw,u4 λw h=>(hw w h).2,hn⟩
 walk_at "r";refine⟨_,_,rfl,L,rfl,pw ws,g2,?_⟩;intro es hE;have hel:=hE.len
 have hlast:atI (L.map chD) (-1)=some (chD (L.getD (L.length - 1) [])):=by
  have:=x8 (ds:=L.map chD) (by omega);rw [this,hcm,vW (by omega)]
 have hch:=hL.ch (L.length - 1);have hfew:=hL.few (L.length - 1);generalize hc:L.getD (L.length - 1) []=c at hch hfew hlast;have hcl:(c.map λp=>D.tup [nD p.1,nD p.2]).length=c.length:=length_map _;have hnil:(!(c.map λp=>D.str ((es.getD p.2 []).getD p.1 [])).isEmpty)=!c.isEmpty:=by cases c <;> rfl
 walk_at "r";refine⟨_,hlast,?_⟩;walk_at "r"
 refine cm2 (e:=λp:Nat×Nat=>D.tup [nD p.1,nD p.2]) (xs:=c) (λp=>.str ((es.getD p.2 []).getD p.1 [])) (λp hp v w2 K1 k1=>?_) (λv w2=>?_)
 .have p0:=hch p hp;have p3:=hE.wid p.2 (by omega);show sI 2 _ (.dat (.tup [.int (p.1:Int),.int (p.2:Int)])) _ _;walk_at "r";refine⟨_,vX (by omega),?_⟩;walk_at "r";refine⟨_,bN (k:=p.1) (by rw [p3];exact p0.1) rfl,?_⟩;exact k1 _ _
 walk_at "r";rw [hnil]
 cases hce:c.isEmpty with
 | true =>
  have hcn:c=[]:=isEmpty_iff.mp hce;have e1:[D.str []]=[([]:List Nat)].map .str:=rfl;have g3:[([]:List Nat)]≠[]/\[([]:List Nat)].length<=100000:=⟨by decide,by decide⟩
  walk_at "r";refine⟨[[]],rfl,g3,?_⟩;intro t ht;rw [ht.uniq (lD [])];exact q _ (x6 (by rw [hc];exact hcn))
 | false =>
  have hcn:c≠[]:=λz=>by rw [z] at hce;cases hce
  have e1:c.map (λp=>D.str ((es.getD p.2 []).getD p.1 []))=(c.map λp=>(es.getD p.2 []).getD p.1 []).map .str:=by rw [map_map];rfl
  have g3:c.map (λp=>(es.getD p.2 []).getD p.1 [])≠[]/\(c.map λp=>(es.getD p.2 []).getD p.1 []).length<=100000:=⟨λz=>hcn (EF.mp z),by rw [length_map];omega⟩
  walk_at "r";refine⟨_,e1,g3,?_⟩;intro t ht;refine q _ (AR hw hL (by rw [hc];exact hcn) (xP (E:=λn j=>(es.getD n []).getD j []) (by rw [hc];exact hcn) (λp hp=>?_) (by rw [hc];exact ht)));rw [hc] at hp;have p0:=hch p hp;exact hE.lst _ (by omega) _ p0.1
noncomputable def jG(K:a_)(mg:Str->Option Value)(t:TxC K):=(have TC:=t;show LS K [] _ _ from (aw (eW (ar (c:=ca) (aa (ac (aj (i:=0))) ae))) (aO (ar (c:=cH) (aa (ac (eJ (ns0:=["pieces","kept","words","left","laps","total"]) TC.cl_Family TC.n_Family_words (i:=2) (by decide +kernel) (ak (i:=0)))) (aa (ac (eJ (ns0:=["pieces","kept","words","left","laps","total"]) TC.cl_Family TC.n_Family_laps (i:=4) (by decide +kernel) (ak (i:=0)))) (aa (ac (ar (c:=fk) (aa (ac (pT (c0:="Family") (m:="many") (ns0:=["pieces","kept","words","left","laps","total"]) (c:=bA) (by decide +kernel) (aj (i:=0)) ae)) ae))) ae)))))))
def oM:PTS:=psO jG
def oN:PRl de oM 1 1:=λ_ Q h=>Cg h λc ns fs _ h=>gy h λh=>B_ rfl <| by
 walk_at "z";obtain⟨rfl,rfl,ps,rfl,⟨hps,h12⟩,q⟩:=h;have hwp:=cp hps;have hw:∀w∈ag ps,0<w.length/\w.length<=60:=λw h=>⟨(hwp w h).1,(hwp w h).2.1⟩
 have hlt:=λ(t:List Nat) (h:Lst (GlS (ag ps)) t)=>q t (p8 hps h);have g1:mR (ag ps)=mR (ag ps)/\(ag ps).length<=200/\(∀w∈ag ps,0<w.length/\w.length<=60)/\ga (h7 (ag ps).length) (ag ps).length/\0<(h7 (ag ps).length).length:=⟨rfl,by omega,hw,vh h12,by rw [gB];exact pow_pos (by decide)⟩
 walk_at "r";intro t ht;refine hlt t ?_;rw [gB] at ht;exact ht.congr λu=>⟨λ⟨js,w,e⟩=>⟨js,(p6 h12).mp w,e⟩,λ⟨js,w,e⟩=>⟨js,(p6 h12).mpr w,e⟩⟩
noncomputable def v9(K:a_)(mg:Str->Option Value)(t:TxC K):=(have TC:=t;show LS K [] _ _ from (aw (dQ (zJ (aa (ac (ao jj (ac (aW sC (aa (ac (aW aT (aa (ak (i:=0)) ae))) (aa (ac (aW aT (aa (ak (i:=1)) ae))) ae)))) (ac (le_int (i:=1))))) (aa (ac (le_int (i:=0))) (aa (ac (xb sF (ac (le_int (i:=1))))) ae)))) (au (i:=2) rfl) (dn (uD (Aa xy (aj (i:=0)) (aa (ac (bq (ak (i:=1)) bJ (be (aj (i:=2))))) ae))) (aO (aj (i:=2))) bc)) (aO (le_int (i:=0)))))
def AU:PTS:=psO v9
def AW:PRl nq AU 3 2:=λ_ Q h=>tJ h λa _ h=>tJ h λb _ h=>gy h λh=>B_ rfl <| by
 walk_at "z";obtain⟨⟨a0,a1⟩,⟨b0,b1⟩,q⟩:=h;have hm:(if (b.length:Int)<(a.length:Int) then (b.length:Int) else (a.length:Int))=((min a.length b.length:Nat):Int):=by split <;> omega
 walk_at "r"
 refine⟨λi ρ=>(∃v2:Option PV,ρ=[some (.dat (.str a)),some (.dat (.str b)),v2])/\∀j,min a.length b.length - i<=j->j<min a.length b.length->¬ b.take j <:+ a,⟨⟨_,rfl⟩,λj h1 h2=>by omega⟩,?_,?_⟩
 .rintro i ρ d hi ed ⟨⟨v2,rfl⟩,ih⟩;have hi:i<(((if (b.length:Int)<(a.length:Int) then (b.length:Int) else (a.length:Int)) - 1) - 0).toNat:=hi;have ed:d=.int (((if (b.length:Int)<(a.length:Int) then (b.length:Int) else (a.length:Int)) - 1) - (i:Int)):=ed;rw [hm] at hi ed;obtain⟨k,hk,hk2⟩:∃k:Nat,(((min a.length b.length:Nat):Int) - 1) - (i:Int)=(k:Int)/\k=min a.length b.length - 1 - i:=⟨min a.length b.length - 1 - i,by omega,rfl⟩
  rw [hk] at ed;subst ed;walk_at "r";rw [eT]
  refine ei (λc=>?_) (λc=>?_)
  .walk_at "r"
   rw [show et a b=k from ly ⟨by omega,c,λj h1 h2=>by
    rcases FO k j with h|h
    .exact absurd h2 (ih j (by omega) h1)
    .exact h⟩] at q
   exact q
  .refine⟨⟨_,rfl⟩,λj h1 h2=>?_⟩
   by_cases hj:j=k
   .rw [hj];exact c
   .exact ih j (by omega) h2
 .rintro ρ ⟨⟨v2,rfl⟩,ih⟩;rw [hm] at ih;walk_at "r"
  rw [show et a b=0 from ly ⟨by omega,by rw [take_zero];exact nil_suffix,λj h1 h2=>by
   rcases GG j with h|h
   .omega
   .exact absurd h2 (ih j (by omega) h1)⟩] at q
  exact q
noncomputable def jH(K:a_)(mg:Str->Option Value)(t:TxC K):=(have TC:=t;show LS K [] _ _ from (aO (aW fC (aa (ac (aZ (ix:=[none,some 0]) rfl (bI (aj (i:=0))) (λfs hc=>(au (i:=0) (gZ hc (by decide)))) cB (aW fC (aa (ac (aZ (ix:=[none,some 0]) rfl (bI (aj (i:=1))) (λfs hc=>(au (i:=0) (gZ hc (by decide)))) cB (ar (c:=nq) (aa (ac (aj (i:=1))) (aa (ac (aj (i:=0))) ae))))) ae)))) ae))))
def oO:PTS:=psO jH
def oQ:PRl eE oO 1 1:=λ_ Q h=>vS h λds _ h=>gy h λh=>B_ rfl <| by
 walk_at "z";obtain⟨ws,rfl,⟨hn,hw⟩,q⟩:=h;have hlm:(ws.map D.str).length=ws.length:=length_map _
 have rr:∀f:List Nat->D,(c_ (ws.map D.str).length).map (λk=>f (pw ws k))=ws.map f:=λf=>by
  rw [hlm];apply Gn;intro k;rw [k_,k_]
  by_cases hk:k<ws.length
  .rw [D0 hk,cE hk];rfl
  .rw [y_ (by rw [C0];omega),y_ (by omega)];rfl
 walk_at "r"
 refine tS (λτ=>∃v,τ=[v,some (.dat (.tup (ws.map .str)))]) (λk=>.tup (ws.map λv=>.int (et (pw ws k) v:Int))) ?_ ?_ ?_
 .exact⟨_,rfl⟩
 .rintro k τ d hk ed ⟨v,rfl⟩ K1 k1;rw [eZ hk] at ed;subst ed;have w1:=hw _ (bL (show k<ws.length by omega));walk_at "r"
  refine tS (λτ=>∃v,τ=[v,some (.dat (.str (pw ws k)))]) (λj=>.int (et (pw ws k) (pw ws j):Int)) ?_ ?_ ?_
  .exact⟨_,rfl⟩
  .rintro j τ d hj ed ⟨v,rfl⟩ K2 k2;rw [eZ hj] at ed;subst ed;have w2:=hw _ (bL (show j<ws.length by omega));walk_at "r";exact k2 _ ⟨_,rfl⟩
  .rintro τ ⟨v,rfl⟩;rw [rr (λw=>D.int (et (pw ws k) w:Int))];walk_at "r";exact k1 _ ⟨_,rfl⟩
 .rintro τ ⟨v,rfl⟩;rw [rr (λw=>D.tup (ws.map λv=>.int (et w v:Int)))];walk_at "r";exact q
noncomputable def kM:PTS:=(ll (CD (pOr (BC (pB (CC .str (pSl 0)))) (BC (pB (sy fLe fLe (pSl 1) (pFz (pCB yh (bY (pSl 0) fG))) (pSl 2))))) (uG (pC (.bl false))) vB) (uG (pCB BU (bY (pFz (qC [none] (qB (uC 0)) (fK 0) uI (sy fLe fLe (pFz (pC (.str [97]))) (pSl 0) (pFz (pC (.str [122])))))) fG))))
def iu:PRl dX kM 3 3:=λ_ Q h=>AF h λd _ h=>qI h λa _ h=>qI h λb _ h=>gy h λh=>B_ rfl <| by
 walk_at "z";obtain⟨hd,hl,q⟩:=h
 cases d with
 | str l =>
  have hl:l.length<=1000000:=hl;walk_at "r"
  refine ei (λc1=>?_) (λc1=>?_)
  .walk_at "r"
   refine mH (λc2=>?_) (λc2=>?_)
   .walk_at "r";rw [show uO (.str l) a b=false by rw [lu,decide_eq_false c2,E7];rfl] at q;exact q
   .walk_at "r"
    refine tS (λτ=>∃v,τ=[v]) (λk=>.bl (ltB (l.getD k 0))) ?_ ?_ ?_
    .exact⟨_,rfl⟩
    .rintro k τ _ hk rfl ⟨v,rfl⟩ K1 k1;walk_at "r"
     refine mH (λc=>?_) (λc=>?_)
     .have hc:97<=l.getD k 0:=of_decide_eq_true (by rw [<- nY];rw [decide_eq_false c];rfl);walk_at "r";show K1 (.bl (!decide (([122]:List Nat)<[l.getD k 0]))) _;rw [nY];rw [show ltB (l.getD k 0)=decide (l.getD k 0<=122) by unfold ltB;rw [decide_eq_true hc];rfl] at k1;exact k1 _ ⟨_,rfl⟩
     .have hc:¬ 97<=l.getD k 0:=of_decide_eq_false (by rw [<- nY,decide_eq_true c];rfl);walk_at "r";rw [show ltB (l.getD k 0)=false by unfold ltB;rw [decide_eq_false hc];rfl] at k1;exact k1 _ ⟨_,rfl⟩
    .rintro τ ⟨v,rfl⟩;walk_at "r";refine⟨(c_ l.length).map λk=>ltB (l.getD k 0),by rw [map_map];rfl,?_⟩
     have e:uO (.str l) a b=(((c_ l.length).map λk=>ltB (l.getD k 0)).all id):=by
      rw [lu,decide_eq_true c1,decide_eq_true c2,Bool.and_self,Bool.true_and,eo];rw [all_map];rfl
     rw [e] at q;exact q
  .walk_at "r";rw [show uO (.str l) a b=false by rw [lu,decide_eq_false c1,GA];rfl] at q;exact q
 | non=>walk_at "r";exact q
 | bl b=>walk_at "r";exact q
 | int i=>walk_at "r";exact q
 | ty n=>cases hd
 | lst ds=>walk_at "r";exact q
 | tup ds=>walk_at "r";exact q
 | scr ns=>cases hd
 | dic ks ds=>walk_at "r";exact q
 | obj c ns ds=>cases hd
 | exc c ns ds=>cases hd
noncomputable def fO(K:a_)(mg:Str->Option Value)(t:TxC K):=(have TC:=t;show LS K [] _ _ from (aO (Aa uL (aj (i:=0)) (aa (ak (i:=1)) ae))))
def kd:PTS:=psO fO
def ke:PRl cu kd 2 2:=λ_ Q h=>tJ h λa _ h=>tJ h λb _ h=>gy h λh=>B_ rfl <| by
 walk_at "z";walk_at "r";exact h
noncomputable def fm(K:a_)(mg:Str->Option Value)(t:TxC K):=(have TC:=t;show LS K [] _ _ from (aw (dn (fJ (ao lj (ac (aW aT (aa (ak (i:=0)) ae))) (ac (le_int (i:=40))))) lm bc) (dQ (sB (aa (ac (aj (i:=0))) ae)) (hG (n:=2) (bT (au (i:=1) rfl) (bT (au (i:=2) rfl) gW))) (dn (mI (uD (uN (c:=dX) (vs0:=[]) (ds:=[]) (by repeat (first|exact .nil|exact .cons (.int _) .nil|refine .cons (.int _) ?_)) (aa (ac (aj (i:=2))) (aa (ac (le_int (i:=1))) (aa (ac (le_int (i:=60))) ae)))))) lm bc))))
def jI:PTS:=psO fm
def jJ:PRl cb jI 3 1:=λ_ Q h=>AF h λd _ h=>gy h λh=>B_ rfl <| by
 walk_at "z";obtain⟨ws,hd,⟨hn,hp⟩,q⟩:=h;have hlm:(ws.map D.str).length=ws.length:=length_map _
 rcases hd with rfl|rfl
 .walk_at "r"
  refine⟨λk ρ=>∃v1 v2:Option PV,ρ=[some (.dat (.lst (ws.map .str))),v1,v2],⟨_,_,rfl⟩,?_,?_⟩
  .rintro k ρ d hk ed ⟨v1,v2,rfl⟩;have ed:d=.tup [.int k,itD (ws.map D.str) k]:=ed;rw [eZ hk] at ed;subst ed;have hw:=hp _ (bL (show k<ws.length by omega));have ht:uO (.str (pw ws k)) 1 60=true:=sG.mpr hw;have h1:(pw ws k).length<=1000000:=by have:=hw.2.1;omega
   walk_at "r";refine w9 ht ?_;exact⟨_,_,rfl⟩
  .rintro ρ ⟨v1,v2,rfl⟩;exact q
 .walk_at "r"
  refine⟨λk ρ=>∃v1 v2:Option PV,ρ=[some (.dat (.tup (ws.map .str))),v1,v2],⟨_,_,rfl⟩,?_,?_⟩
  .rintro k ρ d hk ed ⟨v1,v2,rfl⟩;have ed:d=.tup [.int k,itD (ws.map D.str) k]:=ed;rw [eZ hk] at ed;subst ed;have hw:=hp _ (bL (show k<ws.length by omega));have ht:uO (.str (pw ws k)) 1 60=true:=sG.mpr hw;have h1:(pw ws k).length<=1000000:=by have:=hw.2.1;omega
   walk_at "r";refine w9 ht ?_;exact⟨_,_,rfl⟩
  .rintro ρ ⟨v1,v2,rfl⟩;exact q
noncomputable def eN(K:a_)(mg:Str->Option Value)(t:TxC K):=(have TC:=t;show LS K [] _ _ from (aO (ao zw (ac (ar (c:=cu) (aa (ac (aj (i:=1))) (aa (ac (aj (i:=0))) ae)))) (ac (le_int (i:=0))))))
def iR:PTS:=psO eN
def iT:PRl bd iR 2 2:=λ_ Q h=>tJ h λa _ h=>tJ h λb _ h=>gy h λh=>B_ rfl <| by
 walk_at "z";walk_at "r";exact h
noncomputable def kN(K:a_)(mg:Str->Option Value)(t:TxC K):=(have TC:=t;show LS K [] _ _ from (aw (aH (ao cm (ak (i:=0)) (ak (i:=1))) (aC (i:=2) rfl)) (aw (aH (aZ (ix:=[none,some 2]) rfl (bI (aj (i:=0))) (λfs hc=>(au (i:=0) (gZ hc (by decide)))) (fJ (ao lj (ac (aW aT (aa (ak (i:=0)) ae))) (ac (aW aT (aa (ak (i:=1)) ae))))) (aj (i:=0))) (aC (i:=3) rfl)) (aO (zn (ao (kH (neg:=true)) (ak (i:=2)) (ac (bq (ak (i:=0)) bJ (be (aj (i:=1)))))) (zo (aW zV (aa (ac (aZ (ix:=[none,some 2]) rfl (bI (aj (i:=3))) (λfs hc=>(au (i:=0) (gZ hc (by decide)))) cB (ar (c:=bd) (aa (ac (aj (i:=1))) (aa (ac (aj (i:=0))) ae))))) ae))))))))
def qP:PTS:=psO kN
def qQ:PRl dY qP 4 2:=λ_ Q h=>vS h λds _ h=>qI h λi _ h=>gy h λh=>B_ rfl <| by
 walk_at "z";obtain⟨ws,rfl,⟨hn,hw⟩,hi,q⟩:=h;obtain⟨k,rfl⟩:∃k:Nat,i=(k:Int):=⟨i.toNat,by omega⟩
 have hk:k<ws.length:=by omega
 have hlm:(ws.map D.str).length=ws.length:=length_map _;have w1:=hw _ (bL hk);walk_at "r";refine⟨_,bN hk rfl,?_⟩;walk_at "r"
 refine cfm (λτ=>∃v,τ=[v,some (.dat (.str (pw ws k)))]) (λj=>if (pw ws k).length<(pw ws j).length then some (.str (pw ws j)) else none) ?_ ?_ ?_
 .exact⟨_,rfl⟩
 .rintro j τ d hj ed ⟨v,rfl⟩ K1 K2 k1 k2;rw [eZ hj] at ed;subst ed;have w2:=hw _ (bL (show j<ws.length by omega));walk_at "r"
  refine ei (λc=>?_) (λc=>?_)
  .walk_at "r";exact k1 _ _ (by rw [if_pos (by omega)]) ⟨_,rfl⟩
  .exact k2 _ (by rw [if_neg (by omega)]) ⟨_,rfl⟩
 .rintro τ ⟨v,rfl⟩
  have e1:(c_ (ws.map D.str).length).filterMap (λj=>if (pw ws k).length<(pw ws j).length then some (D.str (pw ws j)) else none)=(ws.filter λo=>decide ((pw ws k).length<o.length)).map D.str:=by
   rw [hlm,uX (λw=>if (pw ws k).length<w.length then some (D.str w) else none) ws,<- bR];congr 1;funext w
   by_cases h:(pw ws k).length<w.length
   .rw [if_pos h,if_pos (decide_eq_true h)]
   .rw [if_neg h,if_neg (by rw [decide_eq_false h];decide)]
  rw [e1];have hll:(ws.filter λo=>decide ((pw ws k).length<o.length)).length<=ws.length:=Fc ..;generalize hL:(ws.filter λo=>decide ((pw ws k).length<o.length))=ls at hll ⊢;have hlm2:(ls.map D.str).length=ls.length:=length_map _;have c1:cA (ws.map D.str) none (some (k:Int))=(ws.take k).map D.str:=by rw [eT,map_take]
  have hfl:(cA (ws.map D.str) none (some (k:Int))).all D.fl=true:=by rw [c1];exact sO _
  have hin:inD (.str (pw ws k)) (cA (ws.map D.str) none (some (k:Int)))=decide (pw ws k∈ws.take k):=by rw [c1];exact lz _ _
  have hkb:bX ws k=(!inD (.str (pw ws k)) (cA (ws.map D.str) none (some (k:Int))) && !ls.any λo=>d0 (pw ws k) o):=by
   unfold bX;rw [hin,hL]
  rw [toNat_natCast,hkb] at q;walk_at "r"
  refine lg (w6 (λc=>?_) (λc=>?_))
  .walk_at "r";have c:inD (.str (pw ws k)) (cA (ws.map D.str) none (some (k:Int)))=true:=c;rw [c] at q;exact q
  .have c:inD (.str (pw ws k)) (cA (ws.map D.str) none (some (k:Int)))=false:=c;rw [c,Bool.not_false,Bool.true_and] at q;walk_at "r"
   refine tS (λτ=>∃v,τ=[v,some (.dat (.str (pw ws k)))]) (λj=>.bl (d0 (pw ws k) (pw ls j))) ?_ ?_ ?_
   .exact⟨_,rfl⟩
   .rintro j τ d hj ed ⟨v,rfl⟩ K1 k1;rw [eZ hj] at ed;subst ed;walk_at "r";exact k1 _ ⟨_,rfl⟩
   .rintro τ ⟨v,rfl⟩;walk_at "r"
    refine⟨ls.map λo=>d0 (pw ws k) o,?_,?_⟩
    .rw [hlm2,map_map]
     conv=>rhs;rw [<- mS ls,map_map]
     rfl
    .rw [show ((ls.map λo=>d0 (pw ws k) o).any id)=ls.any (λo=>d0 (pw ws k) o) by rw [any_map];rfl];walk_at "r";exact q
noncomputable def jK(K:a_)(mg:Str->Option Value)(t:TxC K):=(have TC:=t;show LS K [] _ _ from (aw (aH (aW xr (aa (ac (aZ (ix:=[none,some 0,some 2]) rfl (bI (aj (i:=1))) (λfs hc=>(au (i:=0) (gZ hc (by decide)))) (uD (ar (c:=bd) (aa (ac (ao cm (ak (i:=1)) (ak (i:=2)))) (aa (ac (ao cm (ak (i:=1)) (ak (i:=0)))) ae)))) (aj (i:=0)))) ae)) (aC (i:=3) rfl)) (aO (su (aa (ac (aj (i:=2))) (aa (ac (aj (i:=3))) (aa (ac (ar (c:=cu) (aa (ac (ao cm (ak (i:=0)) (ak (i:=3)))) (aa (ac (ao cm (ak (i:=0)) (ak (i:=2)))) ae)))) ae)))))))
def oR:PTS:=psO jK
def oU:PRl df oR 4 3:=λ_ Q h=>vS h λds _ h=>vS h λks _ h=>qI h λi _ h=>gy h λh=>B_ rfl <| by
 walk_at "z";obtain⟨ws,rfl,rfl,⟨hn,hw⟩,hi,q⟩:=h;obtain⟨k,rfl⟩:∃k:Nat,i=(k:Int):=⟨i.toNat,by omega⟩
 have hk:k<ws.length:=by omega
 rw [toNat_natCast] at q;have hkl:=fF ws;have hkm:((ay ws).map nD).length=(ay ws).length:=length_map _;walk_at "r"
 refine cfm (λτ=>∃v,τ=[v,some (.dat (.tup (ws.map .str))),some (.dat (.int (k:Int)))]) (λj=>if d0 (pw ws k) (pw ws ((ay ws).getD j 0))=true then some (nD ((ay ws).getD j 0)) else none) ?_ ?_ ?_
 .exact⟨_,rfl⟩
 .rintro j τ d hj ed ⟨v,rfl⟩ K1 K2 k1 k2;have hj2:(ay ws).getD j 0<ws.length:=cW (z_ (by rw [d_,cy (show j<(ay ws).length by omega)];rfl));rw [sM hj] at ed;subst ed;generalize (ay ws).getD j 0=z at hj2 k1 k2 ⊢;walk_at "r";refine⟨_,bN hk rfl,?_⟩;walk_at "r";refine⟨_,bN hj2 rfl,?_⟩;walk_at "r"
  cases hc:d0 (pw ws k) (pw ws z) with
  | true=>walk_at "r";exact k1 _ _ (by rw [if_pos hc];rfl) ⟨_,rfl⟩
  | false=>walk_at "r";exact k2 _ (by rw [if_neg (by rw [hc];decide)]) ⟨_,rfl⟩
 .rintro τ ⟨v,rfl⟩
  have e1:(c_ ((ay ws).map nD).length).filterMap (λj=>if d0 (pw ws k) (pw ws ((ay ws).getD j 0))=true then some (nD ((ay ws).getD j 0)) else none)=((jq ws k).map λj=>((j:Nat):Int)).map D.int:=by
   rw [hkm,uY (λj=>if d0 (pw ws k) (pw ws j)=true then some (nD j) else none) (ay ws),bR (λj=>d0 (pw ws k) (pw ws j)) nD,map_map];rfl
  rw [e1];obtain⟨h0,hh0⟩:=qG hw hk;walk_at "r";refine⟨by rw [length_map];exact length_pos_of_mem hh0,λm hm hle=>?_⟩;obtain⟨z,hz,rfl⟩:=EC.mp hm;have hz2:z<ws.length:=cW (DK.mp hz).1;have hho:pV ws k=z:=sL hz λa ha=>by have:=hle _ (mem_map_of_mem ha);omega
  walk_at "r";refine⟨_,bN hz2 rfl,?_⟩;walk_at "r";refine⟨_,bN hk rfl,?_⟩;walk_at "r";unfold cX at q;rw [hho] at q;exact q
noncomputable def fP:PTS:=(ll (vC (mL cb (bY (pFz (uC 1)) fG))) (ll (jo "Family" [] "pieces" 0 (pCB kz (bY (pSl 1) fG))) (ll (zH (zX false (bY (pFz (pCB yh (bY (pFz (sD "Family" ["pieces"] 0 (pSl 0))) fG))) fG)) (fK 2)) (ll (jo "Family" ["pieces"] "kept" 0 (pCB kz (bY (pFz (qC [none,some 0] (qB (uC 2)) (fK 0) (pB (mL dY (bY (pFz (sD "Family" ["pieces"] 0 (pSl 1))) (bY (pFz (uC 0)) fG)))) (uC 0))) fG))) (ll (jo "Family" ["pieces","kept"] "words" 0 (pCB kz (bY (pFz (qC [none,some 0] (qB (sD "Family" ["pieces","kept"] 1 (pSl 0))) (fK 0) uI (pOp fIx (pFz (sD "Family" ["pieces","kept"] 0 (pSl 1))) (pSl 0)))) fG))) (ll (jo "Family" ["pieces","kept","words"] "left" 0 (pCB kz (bY (pFz (qC [none,some 0] (qB (uC 2)) (fK 0) (pB (pOp (B7 true) (pSl 0) (pFz (sD "Family" ["pieces","kept","words"] 1 (pSl 1))))) (mL df (bY (pFz (sD "Family" ["pieces","kept","words"] 0 (pSl 1))) (bY (pFz (sD "Family" ["pieces","kept","words"] 1 (pSl 1))) (bY (pFz (uC 0)) fG)))))) fG))) (ll (jo "Family" ["pieces","kept","words","left"] "laps" 0 (mL eE (bY (pFz (sD "Family" ["pieces","kept","words","left"] 2 (pSl 0))) fG))) (jo "Family" ["pieces","kept","words","left","laps"] "total" 0 (pCB xq (bY (pFz (qC [none] (qB (sD "Family" ["pieces","kept","words","left","laps"] 2 (pSl 0))) (fK 0) uI (pCB yh (bY (pSl 0) fG)))) fG))))))))))
def dH:RRl bh fP 3 2:=λ_ _ Q h=>Du h λh=>AF h λd _ h=>gy h λh=>B_ rfl <| by
 walk_at "z";obtain⟨ws,hd,⟨hn,hp⟩,q⟩:=h;have hlm:(ws.map D.str).length=ws.length:=length_map _;have hkl:=fF ws;have hkm:((ay ws).map nD).length=(ay ws).length:=length_map _;have hrl:(q0 0 (((ws.map D.str).length:Nat):Int).toNat).length=ws.length:=by rw [hO];omega
 have hk1:ws.length<=1000/\∀w∈ws,w.length<=10000:=⟨by omega,λw hw=>by have:=(hp w hw).2.1;omega⟩
 have hk2:ws.length<=1000/\∀w∈ws,w.length<=60:=⟨by omega,λw hw=>(hp w hw).2.1⟩
 walk_at "r";refine⟨ws,hd,⟨hn,hp⟩,?_⟩
 rcases hd with rfl|rfl
 .walk_at "r"
  refine cfm (λτ=>∃v,τ=[v,some (.ins "Family" ["pieces"] [.tup (ws.map .str)])]) (λj=>if bX ws j=true then some (nD j) else none) ?_ ?_ ?_
  .exact⟨_,rfl⟩
  .rintro j τ d hj ed ⟨v,rfl⟩ K1 K2 k1 k2;have hj2:j<ws.length:=by rw [hO] at hj;omega
   rw [lA hj] at ed;subst ed;walk_at "r";rw [toNat_natCast]
   cases hc:bX ws j with
   | true=>walk_at "r";exact k1 _ _ (by rw [if_pos hc];rfl) ⟨_,rfl⟩
   | false=>walk_at "r";exact k2 _ (by rw [if_neg (by rw [hc];decide)]) ⟨_,rfl⟩
  .rintro τ ⟨v,rfl⟩
   have e1:(c_ (q0 0 (((ws.map D.str).length:Nat):Int).toNat).length).filterMap (λj=>if bX ws j=true then some (nD j) else none)=(ay ws).map nD:=by
    rw [hO,hlm,toNat_natCast,bR (bX ws) nD];rfl
   rw [e1];walk_at "r"
   refine tS (λτ=>∃v,τ=[v,some (.ins "Family" ["pieces","kept"] [.tup (ws.map .str),.tup ((ay ws).map nD)])]) (λk=>.str (pw ws ((ay ws).getD k 0))) ?_ ?_ ?_
   .exact⟨_,rfl⟩
   .rintro j τ d hj ed ⟨v,rfl⟩ K1 k1;have hj2:(ay ws).getD j 0<ws.length:=cW (z_ (by rw [d_,cy (show j<(ay ws).length by omega)];rfl));rw [sM hj] at ed;subst ed;walk_at "r";refine⟨_,bN hj2 rfl,?_⟩;walk_at "r";exact k1 _ ⟨_,rfl⟩
   .rintro τ ⟨v,rfl⟩
    have e2:(c_ ((ay ws).map nD).length).map (λk=>D.str (pw ws ((ay ws).getD k 0)))=(ag ws).map D.str:=by
     rw [hkm,eo (λj=>D.str (pw ws j)) (ay ws)];unfold ag;rw [map_map];rfl
    rw [e2];have hwl:=cM ws;have hwm:((ag ws).map D.str).length=(ag ws).length:=length_map _;have hwp:=cp hp;have hwq:(ag ws).length<=1000/\∀w∈ag ws,0<w.length/\w.length<=10000:=⟨by omega,λw hw=>⟨(hwp w hw).1,by have:=(hwp w hw).2.1;omega⟩⟩
    have hfl:((ay ws).map nD).all D.fl=true:=An _;walk_at "r"
    refine cfm (λτ=>∃v,τ=[v,some (.ins "Family" ["pieces","kept","words"] [.tup (ws.map .str),.tup ((ay ws).map nD),.tup ((ag ws).map .str)])]) (λj=>if (!decide (j∈ay ws))=true then some (cX ws j) else none) ?_ ?_ ?_
    .exact⟨_,rfl⟩
    .rintro j τ d hj ed ⟨v,rfl⟩ K1 K2 k1 k2;have hj2:j<ws.length:=by omega
     rw [lA hj] at ed;subst ed;have hin:=sN j (ay ws);walk_at "r"
     refine lg (w6 (λc=>?_) (λc=>?_))
     .have c:inD (.int (j:Int)) ((ay ws).map nD)=true:=c;rw [hin] at c;exact k2 _ (by rw [c];rfl) ⟨_,rfl⟩
     .have c:inD (.int (j:Int)) ((ay ws).map nD)=false:=c;rw [hin] at c;walk_at "r";rw [toNat_natCast];exact k1 _ _ (by rw [c];rfl) ⟨_,rfl⟩
    .rintro τ ⟨v,rfl⟩
     have e3:(c_ (q0 0 (((ws.map D.str).length:Nat):Int).toNat).length).filterMap (λj=>if (!decide (j∈ay ws))=true then some (cX ws j) else none)=(sK ws).map (cX ws):=by
      rw [hrl,bR (λj=>!decide (j∈ay ws)) (cX ws)];rfl
     rw [e3];walk_at "r"
     refine tS (λτ=>∃v,τ=[v]) (λk=>.int ((pw (ag ws) k).length:Int)) ?_ ?_ ?_
     .exact⟨_,rfl⟩
     .rintro j τ d hj ed ⟨v,rfl⟩ K1 k1;rw [eZ hj] at ed;subst ed;walk_at "r";exact k1 _ ⟨_,rfl⟩
     .rintro τ ⟨v,rfl⟩
      have e4:(c_ ((ag ws).map D.str).length).map (λk=>D.int ((pw (ag ws) k).length:Int))=((ag ws).map λw=>(w.length:Int)).map D.int:=by
       rw [hwm,map_map]
       conv=>rhs;rw [<- mS (ag ws),map_map]
       rfl
      rw [e4];walk_at "r";exact q
 .walk_at "r"
  refine cfm (λτ=>∃v,τ=[v,some (.ins "Family" ["pieces"] [.tup (ws.map .str)])]) (λj=>if bX ws j=true then some (nD j) else none) ?_ ?_ ?_
  .exact⟨_,rfl⟩
  .rintro j τ d hj ed ⟨v,rfl⟩ K1 K2 k1 k2;have hj2:j<ws.length:=by rw [hO] at hj;omega
   rw [lA hj] at ed;subst ed;walk_at "r";rw [toNat_natCast]
   cases hc:bX ws j with
   | true=>walk_at "r";exact k1 _ _ (by rw [if_pos hc];rfl) ⟨_,rfl⟩
   | false=>walk_at "r";exact k2 _ (by rw [if_neg (by rw [hc];decide)]) ⟨_,rfl⟩
  .rintro τ ⟨v,rfl⟩
   have e1:(c_ (q0 0 (((ws.map D.str).length:Nat):Int).toNat).length).filterMap (λj=>if bX ws j=true then some (nD j) else none)=(ay ws).map nD:=by
    rw [hO,hlm,toNat_natCast,bR (bX ws) nD];rfl
   rw [e1];walk_at "r"
   refine tS (λτ=>∃v,τ=[v,some (.ins "Family" ["pieces","kept"] [.tup (ws.map .str),.tup ((ay ws).map nD)])]) (λk=>.str (pw ws ((ay ws).getD k 0))) ?_ ?_ ?_
   .exact⟨_,rfl⟩
   .rintro j τ d hj ed ⟨v,rfl⟩ K1 k1;have hj2:(ay ws).getD j 0<ws.length:=cW (z_ (by rw [d_,cy (show j<(ay ws).length by omega)];rfl));rw [sM hj] at ed;subst ed;walk_at "r";refine⟨_,bN hj2 rfl,?_⟩;walk_at "r";exact k1 _ ⟨_,rfl⟩
   .rintro τ ⟨v,rfl⟩
    have e2:(c_ ((ay ws).map nD).length).map (λk=>D.str (pw ws ((ay ws).getD k 0)))=(ag ws).map D.str:=by
     rw [hkm,eo (λj=>D.str (pw ws j)) (ay ws)];unfold ag;rw [map_map];rfl
    rw [e2];have hwl:=cM ws;have hwm:((ag ws).map D.str).length=(ag ws).length:=length_map _;have hwp:=cp hp;have hwq:(ag ws).length<=1000/\∀w∈ag ws,0<w.length/\w.length<=10000:=⟨by omega,λw hw=>⟨(hwp w hw).1,by have:=(hwp w hw).2.1;omega⟩⟩
    have hfl:((ay ws).map nD).all D.fl=true:=An _;walk_at "r"
    refine cfm (λτ=>∃v,τ=[v,some (.ins "Family" ["pieces","kept","words"] [.tup (ws.map .str),.tup ((ay ws).map nD),.tup ((ag ws).map .str)])]) (λj=>if (!decide (j∈ay ws))=true then some (cX ws j) else none) ?_ ?_ ?_
    .exact⟨_,rfl⟩
    .rintro j τ d hj ed ⟨v,rfl⟩ K1 K2 k1 k2;have hj2:j<ws.length:=by omega
     rw [lA hj] at ed;subst ed;have hin:=sN j (ay ws);walk_at "r"
     refine lg (w6 (λc=>?_) (λc=>?_))
     .have c:inD (.int (j:Int)) ((ay ws).map nD)=true:=c;rw [hin] at c;exact k2 _ (by rw [c];rfl) ⟨_,rfl⟩
     .have c:inD (.int (j:Int)) ((ay ws).map nD)=false:=c;rw [hin] at c;walk_at "r";rw [toNat_natCast];exact k1 _ _ (by rw [c];rfl) ⟨_,rfl⟩
    .rintro τ ⟨v,rfl⟩
     have e3:(c_ (q0 0 (((ws.map D.str).length:Nat):Int).toNat).length).filterMap (λj=>if (!decide (j∈ay ws))=true then some (cX ws j) else none)=(sK ws).map (cX ws):=by
      rw [hrl,bR (λj=>!decide (j∈ay ws)) (cX ws)];rfl
     rw [e3];walk_at "r"
     refine tS (λτ=>∃v,τ=[v]) (λk=>.int ((pw (ag ws) k).length:Int)) ?_ ?_ ?_
     .exact⟨_,rfl⟩
     .rintro j τ d hj ed ⟨v,rfl⟩ K1 k1;rw [eZ hj] at ed;subst ed;walk_at "r";exact k1 _ ⟨_,rfl⟩
     .rintro τ ⟨v,rfl⟩
      have e4:(c_ ((ag ws).map D.str).length).map (λk=>D.int ((pw (ag ws) k).length:Int))=((ag ws).map λw=>(w.length:Int)).map D.int:=by
       rw [hwm,map_map]
       conv=>rhs;rw [<- mS (ag ws),map_map]
       rfl
      rw [e4];walk_at "r";exact q
noncomputable def fQ:PTS:=(uG (pCB yh (bY (pFz (sD "Family" ["pieces","kept","words","left","laps","total"] 2 (pSl 0))) fG)))
def dI:PRl bA fQ 1 1:=λ_ Q h=>Cg h λc ns fs _ h=>gy h λh=>B_ rfl <| by
 walk_at "z";obtain⟨rfl,rfl,ws,rfl,q⟩:=h;walk_at "r";rw [length_map];exact q
noncomputable def jM(K:a_)(mg:Str->Option Value)(t:TxC K):=(have TC:=t;show LS K [] _ _ from (aw (dn (fJ (ao iB (ac (aW aT (aa (ak (i:=0)) ae))) (ac (le_int (i:=0))))) (aO (ao aK (ac (ao gw (ac (le_int (i:=5))) (ak (i:=1)))) (ac (le_int (i:=3))))) bc) (aO (aW vE (aa (ac (ao cm (ak (i:=0)) (ac (ao kx (ak (i:=1)) (ac (aW aT (aa (ak (i:=0)) ae))))))) ae)))))
def oV:PTS:=psO jM
def oW:PRl dh oV 2 2:=λ_ Q h=>Bc h λns _ h=>qI h λk _ h=>gy h λh=>B_ rfl <| by
 walk_at "z";obtain⟨hk,q⟩:=h;walk_at "r"
 refine ei (λc=>?_) (λc=>?_)
 .walk_at "r";exact q _ (by omega)
 .have h0:0<ns.length:=by omega
  obtain⟨v,hv,e⟩:=wP (n:=ns.length) rfl h0 k;walk_at "r";refine⟨v,e,?_⟩;walk_at "r";exact q _ (by split <;> omega)
noncomputable def jN(K:a_)(mg:Str->Option Value)(t:TxC K):=(have TC:=t;show LS K [] _ _ from (aw (aH (ao kx (ac (ao aK (ac (ao aK (ac (ao gw (ac (ao kx (ac (ar (c:=dh) (aa (ac (aj (i:=0))) (aa (ac (aj (i:=1))) ae)))) (ac (le_int (i:=1000003))))) (ac (le_int (i:=48271))))) (ac (ao gw (ac (ao gw (ak (i:=1)) (ak (i:=1)))) (ac (le_int (i:=7919))))))) (ac (le_int (i:=101))))) (ac (le_int (i:=2147483647)))) (aC (i:=3) rfl)) (aw (aH (ao kx (ac (ao aK (ac (ao aK (ac (ao gw (ak (i:=3)) (ak (i:=3)))) (ac (ao gw (ac (le_int (i:=31))) (ak (i:=3)))))) (ac (ao gw (ak (i:=1)) (ac (le_int (i:=104729))))))) (ac (le_int (i:=2147483629)))) (aC (i:=3) rfl)) (aO (ao kx (ac (ao sw (ak (i:=3)) (ac (le_int (i:=11))))) (ak (i:=2)))))))
def oX:PTS:=psO jN
def oY:PRl aS oX 4 3:=λ_ Q h=>Bc h λns _ h=>qI h λk _ h=>qI h λm _ h=>gy h λh=>B_ rfl <| by
 walk_at "z";obtain⟨hk,hm,q⟩:=h;walk_at "r";rintro x hx;walk_at "r";exact q _ (emod_nonneg _ (by omega)) (GD _ hm.1)
noncomputable def di(K:a_)(mg:Str->Option Value)(t:TxC K):=(have TC:=t;show LS K [] _ _ from (aw (aH (dw ae) (aC (i:=2) rfl)) (aw (aH (le_str (l:=[])) (aC (i:=3) rfl)) (aw (aH (le_int (i:=0)) (aC (i:=4) rfl)) (aw (uH (jh (fJ (ao lj (ak (i:=0)) (ac (le_int (i:=0))))) (fJ (ao sx (ak (i:=4)) (ac (le_int (i:=60)))))) (aw (aH (ao kx (ak (i:=0)) (ac (le_int (i:=27)))) (aC (i:=5) rfl)) (aw (aH (ao sw (ak (i:=0)) (ac (le_int (i:=27)))) (aC (i:=0) rfl)) (aw (Ah (i:=4) (aC (i:=4) rfl) (le_int (i:=1))) (aw (nU (dn (fJ (ao sx (ak (i:=5)) (ac (le_int (i:=26))))) (aH (ao aK (ak (i:=3)) (ac (ao cm (ac (le_str (l:=[97,98,99,100,101,102,103,104,105,106,107,108,109,110,111,112,113,114,115,116,117,118,119,120,121,122]))) (ak (i:=5))))) (aC (i:=3) rfl)) bc)) (dn (jh (fJ (ao kC (ak (i:=3)) (ac (le_str (l:=[]))))) (sv (fJ (ao iB (ak (i:=5)) (ac (le_int (i:=26))))) (fJ (ao iB (ac (aW aT (aa (ak (i:=3)) ae))) (ac (le_int (i:=9))))))) (aw (eW (mK (i:=2) (aj (i:=3)))) (aH (le_str (l:=[])) (aC (i:=3) rfl))) bc)))))) (aw (nU (dn (fJ (ao kC (ak (i:=3)) (ac (le_str (l:=[]))))) (eW (mK (i:=2) (aj (i:=3)))) bc)) (aO (mX (bq (ak (i:=2)) bJ (be (aj (i:=1))))))))))))
def gf:PTS:=psO di
def gi:PRl bv gf 6 2:=λ_ Q h=>qI h λc _ h=>qI h λmo _ h=>gy h λh=>B_ rfl <| by
 walk_at "z";obtain⟨hc,hmo,q⟩:=h;walk_at "r";refine⟨λm ρ=>∃(c:Int) (ps:List (List Nat)) (w:List Nat) (s:Int) (v5:Option PV),ρ=[some (.dat (.int c)),some (.dat (.int mo)),some (.own (ps.map .str)),some (.dat (.str w)),some (.dat (.int s)),v5]/\0<=c/\Pcs 9 ps/\Lts w/\w.length<9/\s+m=60/\0<=s/\ps.length<=s,⟨60,c,[],[],0,none,rfl,hc,nofun,Lts.nil,by decide,rfl,by decide,by decide⟩,?_⟩;rintro m ρ ⟨c,ps,w,s,v5,rfl,hc,hps,hw,hwl,hs,hs0,hpl⟩
 have hlm:(ps.map D.str).length=ps.length:=length_map _
 have fin:∀ps:List (List Nat),ps.length<=61->Pcs 9 ps->Q (.dat (.lst (cA (ps.map D.str) none (some mo)))):=λps hl hp=>by
  obtain⟨n,rfl⟩:∃n:Nat,mo=(n:Int):=⟨mo.toNat,by omega⟩
  rw [eT,<- map_take];exact q _ (by rw [length_take];omega) λw hw=>hp w (Fp hw)
 walk_at "r"
 refine ei (λc0=>?_) (λc0=>?_)
 .walk_at "r"
  refine ei (λc1=>?_) (λc1=>?_)
  .have hd0:0<=c % 27:=emod_nonneg _ (by decide);have hd1:c % 27<27:=GD _ (by decide);have hc2:0<=c / 27:=ediv_nonneg hc (by decide);generalize hdg:c % 27=dg at hd0 hd1;generalize hcc:c / 27=cc at hc2;walk_at "r";rw [hdg,hcc]
   refine⟨λρ=>∃w:List Nat,ρ=[some (.dat (.int cc)),some (.dat (.int mo)),some (.own (ps.map .str)),some (.dat (.str w)),some (.dat (.int (s+1))),some (.dat (.int dg))]/\Lts w/\w.length<=9,?_,?_⟩
   .walk_at "r";refine ei (λc2=>?_) (λc2=>⟨w,rfl,hw,by omega⟩);obtain⟨j,rfl⟩:∃j:Nat,dg=(j:Int):=⟨dg.toNat,by omega⟩
    have hj:j<C3.length:=by show j<26;omega
    walk_at "r";refine⟨_,eV (cy hj) rfl,?_⟩;walk_at "r";exact⟨hw.app (Lts.one (vi _ (EW hj))),by rw [length_append];show _+1<=_;omega⟩
   .rintro ρ ⟨w,rfl,hw,hwl⟩;walk_at "r"
    refine mH (λc2=>?_) (λc2=>?_)
    .have hw0:0<w.length:=FS.mpr c2
     have app:∃m',m'<m/\∃(c:Int) (ps':List (List Nat)) (w':List Nat) (s':Int) (v5:Option PV),[some (PV.dat (.int cc)),some (.dat (.int mo)),some (.own (ps.map .str++[.str w])),some (.dat (.str [])),some (.dat (.int (s+1))),some (.dat (.int dg))]=[some (.dat (.int c)),some (.dat (.int mo)),some (.own (ps'.map .str)),some (.dat (.str w')),some (.dat (.int s')),v5]/\0<=c/\Pcs 9 ps'/\Lts w'/\w'.length<9/\s'+m'=60/\0<=s'/\ps'.length<=s' :=
      ⟨m - 1,by omega,cc,ps++[w],[],s+1,_,by rw [map_append];rfl,hc2,hps.app ⟨hw0,hwl,hw⟩,Lts.nil,by decide,by omega,by omega,by rw [length_append];show ((_+1:Nat):Int)<=_;omega⟩
     walk_at "r"
     refine ei (λc3=>?_) (λc3=>?_)
     .walk_at "r";exact app
     .walk_at "r"
      refine ei (λc4=>?_) (λc4=>?_)
      .walk_at "r";exact app
      .exact⟨m - 1,by omega,cc,ps,w,s+1,_,rfl,hc2,hps,hw,by omega,by omega,by omega,by omega⟩
    .exact⟨m - 1,by omega,cc,ps,w,s+1,_,rfl,hc2,hps,hw,by rw [c2];decide,by omega,by omega,by omega⟩
  .walk_at "r"
   refine⟨λρ=>∃ps:List (List Nat),(ps.length<=61/\Pcs 9 ps)/\ρ=[some (.dat (.int c)),some (.dat (.int mo)),some (.own (ps.map .str)),some (.dat (.str w)),some (.dat (.int s)),v5],?_,?_⟩
   .walk_at "r";refine mH (λh=>?_) λ_=>⟨ps,⟨by omega,hps⟩,rfl⟩
    walk_at "r";exact⟨ps++[w],⟨by rw [length_append];show _+1<=_;omega,hps.app ⟨FS.mpr h,by omega,hw⟩⟩,by rw [map_append];rfl⟩
   rintro ρ ⟨ps,⟨h1,h2⟩,rfl⟩;walk_at "r";exact fin ps h1 h2
 .walk_at "r"
  refine⟨λρ=>∃ps:List (List Nat),(ps.length<=61/\Pcs 9 ps)/\ρ=[some (.dat (.int c)),some (.dat (.int mo)),some (.own (ps.map .str)),some (.dat (.str w)),some (.dat (.int s)),v5],?_,?_⟩
  .walk_at "r";refine mH (λh=>?_) λ_=>⟨ps,⟨by omega,hps⟩,rfl⟩
   walk_at "r";exact⟨ps++[w],⟨by rw [length_append];show _+1<=_;omega,hps.app ⟨FS.mpr h,by omega,hw⟩⟩,by rw [map_append];rfl⟩
  rintro ρ ⟨ps,⟨h1,h2⟩,rfl⟩;walk_at "r";exact fin ps h1 h2
noncomputable def gG(K:a_)(mg:Str->Option Value)(t:TxC K):=(have TC:=t;show LS K [] _ _ from (aw (dn (fJ (ao zw (ac (ar (c:=dh) (aa (ac (aj (i:=0))) (aa (ac (le_int (i:=0))) ae)))) (ac (ao zr (ac (le_int (i:=10))) (ac (le_int (i:=18))))))) (aO (mX (ar (c:=bv) (aa (ac (ar (c:=dh) (aa (ac (aj (i:=0))) (aa (ac (le_int (i:=0))) ae)))) (aa (ac (aj (i:=1))) ae))))) bc) (aw (aH (ao cm (ac (dw (aa (ac (le_str (l:=[97,98]))) (aa (ac (le_str (l:=[97,98,99]))) (aa (ac (le_str (l:=[120,121,122,97,98]))) ae))))) (ac (ar (c:=aS) (aa (ac (aj (i:=0))) (aa (ac (le_int (i:=1))) (aa (ac (le_int (i:=3))) ae)))))) (aC (i:=2) rfl)) (aw (aH (le_str (l:=[])) (aC (i:=3) rfl)) (aw (dQ (mJ (aa (ac (le_int (i:=14))) ae)) (au (i:=4) rfl) (aH (ao aK (ak (i:=3)) (ac (ao cm (ak (i:=2)) (ac (ar (c:=aS) (aa (ac (aj (i:=0))) (aa (ac (ao aK (ac (le_int (i:=20))) (ak (i:=4)))) (aa (ac (aW aT (aa (ak (i:=2)) ae))) ae)))))))) (aC (i:=3) rfl))) (aw (aH (dw ae) (aC (i:=5) rfl)) (aw (dQ (mJ (aa (ac (ao aK (ac (le_int (i:=1))) (ac (ar (c:=aS) (aa (ac (aj (i:=0))) (aa (ac (le_int (i:=2))) (aa (ac (aj (i:=1))) ae))))))) ae)) (au (i:=4) rfl) (aw (aH (ar (c:=aS) (aa (ac (aj (i:=0))) (aa (ac (ao aK (ac (le_int (i:=40))) (ac (ao gw (ac (le_int (i:=2))) (ak (i:=4)))))) (aa (ac (le_int (i:=12))) ae)))) (aC (i:=6) rfl)) (eW (mK (i:=5) (bq (ak (i:=3)) (be (aj (i:=6))) (be (ao aK (ac (ao aK (ak (i:=6)) (ac (le_int (i:=1))))) (ac (ar (c:=aS) (aa (ac (aj (i:=0))) (aa (ac (ao aK (ac (le_int (i:=41))) (ac (ao gw (ac (le_int (i:=2))) (ak (i:=4)))))) (aa (ac (le_int (i:=7))) ae)))))))))))) (aO (mX (aj (i:=5)))))))))))
def lO:PTS:=psO gG
def lP:PRl eF lO 7 2:=λ_ Q h=>Bc h λns _ h=>qI h λmo _ h=>gy h λh=>B_ rfl <| by
 walk_at "z";obtain⟨hmo,q⟩:=h;walk_at "r";rintro x hx;walk_at "r"
 refine ei (λc=>?_) (λc=>?_)
 .walk_at "r";rintro y hy;walk_at "r";exact q
 .walk_at "r";rintro x hx0 hx1
  obtain⟨ls,hls0,hls1,hls2,hat⟩:∃ls:List Nat,0<ls.length/\ls.length<=5/\Lts ls/\atI [D.str [97,98],D.str [97,98,99],D.str [120,121,122,97,98]] x=some (.str ls):=by
   have:x=0\/x=1\/x=2:=by omega
   rcases this with rfl|rfl|rfl
   .exact⟨[97,98],by decide,by decide,fV.mp (by decide),rfl⟩
   .exact⟨[97,98,99],by decide,by decide,fV.mp (by decide),rfl⟩
   .exact⟨[120,121,122,97,98],by decide,by decide,fV.mp (by decide),rfl⟩
  walk_at "r";refine⟨_,hat,?_⟩;walk_at "r"
  refine⟨λk ρ=>∃(t:List Nat) (v4:Option PV),ρ=[some (.dat (.scr ns)),some (.dat (.int mo)),some (.dat (.str ls)),some (.dat (.str t)),v4,none,none]/\t.length=k/\Lts t,⟨[],none,rfl,rfl,Lts.nil⟩,?_,?_⟩
  .rintro k ρ _ hk rfl ⟨t,v4,rfl,htl,ht⟩;have hk:k<14:=hk;walk_at "r";rintro x hx0 hx1;obtain⟨j,rfl⟩:∃j:Nat,x=(j:Int):=⟨x.toNat,by omega⟩
   have hj:j<ls.length:=by omega
   walk_at "r";refine⟨_,eV (cy hj) rfl,?_⟩;walk_at "r";exact⟨_,_,rfl,by rw [length_append,htl];rfl,ht.app (Lts.one (hls2 _ (EW hj)))⟩
  .rintro ρ ⟨t,v4,rfl,htl,ht⟩;have htl:t.length=14:=htl;walk_at "r";rintro n hn0 hn1;walk_at "r"
   refine⟨λk ρ=>∃(ps:List (List Nat)) (v4 v6:Option PV),ρ=[some (.dat (.scr ns)),some (.dat (.int mo)),some (.dat (.str ls)),some (.dat (.str t)),v4,some (.own (ps.map .str)),v6]/\ps.length=k/\Pcs 9 ps,⟨[],_,none,rfl,rfl,nofun⟩,?_,?_⟩
   .rintro k ρ _ hk rfl ⟨ps,v4,v6,rfl,hpl,hps⟩;have hk:k<(1+n).toNat:=hk;have hlm:(ps.map D.str).length=ps.length:=length_map _;walk_at "r";rintro x hx0 hx1;obtain⟨i,rfl⟩:∃i:Nat,x=(i:Int):=⟨x.toNat,by omega⟩
    walk_at "r";rintro y hy0 hy1;obtain⟨j,rfl⟩:∃j:Nat,y=(j:Int):=⟨y.toNat,by omega⟩
    walk_at "r";refine⟨ps++[cA t (some (i:Int)) (some ((i:Int)+1+(j:Int)))],_,_,by rw [map_append];rfl,by rw [length_append,hpl];rfl,hps.app ?_⟩;rw [show (i:Int)+1+(j:Int)=((i+1+j:Nat):Int) by omega,mr];exact⟨by rw [length_take,length_drop];omega,by rw [length_take,length_drop];omega,(ht.drop _).take _⟩
   .rintro ρ ⟨ps,v4,v6,rfl,hpl,hps⟩;have hpl:ps.length=(1+n).toNat:=hpl;walk_at "r";exact q ps (by omega) hps
noncomputable def kO(K:a_)(mg:Str->Option Value)(t:TxC K):=(have TC:=t;show LS K [] _ _ from (aw (dQ (zJ (aa (ac (ao jj (ac (aW sC (aa (ac (aW aT (aa (ak (i:=0)) ae))) (aa (ac (aW aT (aa (ak (i:=1)) ae))) ae)))) (ac (le_int (i:=1))))) (aa (ac (le_int (i:=0))) (aa (ac (xb sF (ac (le_int (i:=1))))) ae)))) (au (i:=2) rfl) (dn (fJ (ao iB (ac (bq (ak (i:=0)) (be (ao jj (ac (aW aT (aa (ak (i:=0)) ae))) (ak (i:=2)))) bJ)) (ac (bq (ak (i:=1)) bJ (be (aj (i:=2))))))) (aO (aj (i:=2))) bc)) (aO (le_int (i:=0)))))
def qR:PTS:=psO kO
def qS:PRl ir qR 3 2:=λ_ Q h=>tJ h λa _ h=>tJ h λb _ h=>gy h λh=>B_ rfl <| by
 walk_at "z";obtain⟨⟨a0,a1⟩,⟨b0,b1⟩,q⟩:=h;have hm:(if (b.length:Int)<(a.length:Int) then (b.length:Int) else (a.length:Int))=((min a.length b.length:Nat):Int):=by split <;> omega
 walk_at "r"
 refine⟨λi ρ=>(∃v2:Option PV,ρ=[some (.dat (.str a)),some (.dat (.str b)),v2])/\∀j,min a.length b.length - i<=j->j<min a.length b.length->¬ b.take j <:+ a,⟨⟨_,rfl⟩,λj h1 h2=>by omega⟩,?_,?_⟩
 .rintro i ρ d hi ed ⟨⟨v2,rfl⟩,ih⟩;have hi:i<(((if (b.length:Int)<(a.length:Int) then (b.length:Int) else (a.length:Int)) - 1) - 0).toNat:=hi;have ed:d=.int (((if (b.length:Int)<(a.length:Int) then (b.length:Int) else (a.length:Int)) - 1) - (i:Int)):=ed;rw [hm] at hi ed;obtain⟨k,hk,hk2⟩:∃k:Nat,(((min a.length b.length:Nat):Int) - 1) - (i:Int)=(k:Int)/\k=min a.length b.length - 1 - i:=⟨min a.length b.length - 1 - i,by omega,rfl⟩
  rw [hk] at ed;subst ed;walk_at "r"
  have e1:cA a (some ((a.length:Int) - (k:Int))) none=a.drop (a.length - k):=by
   rw [show (a.length:Int) - (k:Int)=((a.length - k:Nat):Int) by omega,dO]
  have e2:cA b none (some (k:Int))=b.take k:=eT b k
  have sfx:a.drop (a.length - k)=b.take k ↔ b.take k <:+ a:=by
   rw [FK,length_take,show min k b.length=k by omega];exact⟨λh=>h.symm,λh=>h.symm⟩
  rw [e1,e2]
  refine ei (λc=>?_) (λc=>?_)
  .walk_at "r"
   rw [show et a b=k from ly ⟨by omega,sfx.mp c,λj h1 h2=>by
    rcases FO k j with h|h
    .exact absurd h2 (ih j (by omega) h1)
    .exact h⟩] at q
   exact q
  .refine⟨⟨_,rfl⟩,λj h1 h2=>?_⟩
   by_cases hj:j=k
   .rw [hj];exact λz=>c (sfx.mpr z)
   .exact ih j (by omega) h2
 .rintro ρ ⟨⟨v2,rfl⟩,ih⟩;rw [hm] at ih;walk_at "r"
  rw [show et a b=0 from ly ⟨by omega,by rw [take_zero];exact nil_suffix,λj h1 h2=>by
   rcases GG j with h|h
   .omega
   .exact absurd h2 (ih j (by omega) h1)⟩] at q
  exact q
noncomputable def jO(K:a_)(mg:Str->Option Value)(t:TxC K):=(have TC:=t;show LS K [] _ _ from (aw (aH (dw ae) (aC (i:=1) rfl)) (aw (dQ (sB (aa (ac (aj (i:=0))) ae)) (hG (n:=2) (bT (au (i:=2) rfl) (bT (au (i:=3) rfl) gW))) (aw (aH (aZ (ix:=[none,some 3]) rfl (bI (aj (i:=0))) (λfs hc=>(au (i:=0) (gZ hc (by decide)))) (jh (fJ (ao lj (ac (aW aT (aa (ak (i:=0)) ae))) (ac (aW aT (aa (ak (i:=1)) ae))))) (fJ (ao (kH (neg:=false)) (ak (i:=1)) (ak (i:=0))))) (aj (i:=0))) (aC (i:=4) rfl)) (dn (jh (fJ (ao iB (ac (aW aT (aa (ak (i:=4)) ae))) (ac (le_int (i:=0))))) (fJ (ao (kH (neg:=true)) (ak (i:=3)) (ac (bq (ak (i:=0)) bJ (be (aj (i:=2)))))))) (eW (mK (i:=1) (aj (i:=2)))) bc))) (aO (aj (i:=1))))))
def oZ:PTS:=psO jO
def o0:PRl eG oZ 5 1:=λ_ Q h=>xU h λds _ h=>gy h λh=>B_ rfl <| by
 walk_at "z";obtain⟨ps,rfl,⟨hn,hw⟩,q⟩:=h;have hlm:(ps.map D.str).length=ps.length:=length_map _;walk_at "r"
 refine Dr (α:=List Nat) (λ(pre:List (List Nat)) ρ=>∃v2 v3 v4:Option PV,ρ=[some (.dat (.lst (ps.map .str))),some (.own (((c_ pre.length).filter (bX ps)).map nD)),v2,v3,v4]) ⟨_,_,_,rfl⟩ ?_ ?_
 .rintro pre p suf ρ ej ⟨v2,v3,v4,rfl⟩;have hk:pre.length<ps.length:=by rw [ej];simp
  have hp:pw ps pre.length=p:=by
   have:=cE hk;rw [ej,Ez (l_ _)] at this;simp at this;exact (this.trans (by rw [<- ej])).symm
  have hpl:p.length<=60:=hw p (by rw [ej];simp)
  have hml:(((c_ pre.length).filter (bX ps)).map nD).length<=ps.length:=by
   rw [length_map];refine r_ (Fc ..) ?_;rw [C0];omega
  walk_at "r"
  refine cf1 (λo=>decide (p.length<o.length) && d0 p o) (λo=>.str o) (λo ho v K1 K2 k1 k2=>?_) (λv=>?_)
  .walk_at "r"
   refine ei (λc=>?_) (λc=>?_)
   .walk_at "r"
    cases hs:d0 p o with
    | true=>exact k1 _ (by rw [decide_eq_true (by omega:p.length<o.length)];exact hs)
    | false=>exact k2 _ (by rw [hs,E7])
   .exact k2 _ (by rw [decide_eq_false (by omega:¬ p.length<o.length),GA])
  .have c1:cA (ps.map D.str) none (some (pre.length:Int))=(ps.take pre.length).map D.str:=by rw [eT,map_take]
   have hfl:(cA (ps.map D.str) none (some (pre.length:Int))).all D.fl=true:=by rw [c1];exact sO _
   have hin:inD (.str p) (cA (ps.map D.str) none (some (pre.length:Int)))=decide (p∈ps.take pre.length):=by rw [c1];exact lz _ _
   have hkb:bX ps pre.length=(!decide (p∈ps.take pre.length) && decide ((ps.filter λo=>decide (p.length<o.length) && d0 p o).length=0)):=by
    unfold bX;rw [hp];congr 1
    cases hf:(ps.filter λo=>decide (p.length<o.length) && d0 p o) with
    | nil =>
     rw [length_nil,decide_eq_true rfl,FZ,any_eq_false];intro o ho z;obtain⟨m1,m2⟩:=DK.mp ho;have:o∈ps.filter λo=>decide (p.length<o.length) && d0 p o:=DK.mpr ⟨m1,by rw [m2];exact z⟩;rw [hf] at this;cases this
    | cons o r =>
     rw [length_cons,decide_eq_false (by omega)];have:o∈ps.filter λo=>decide (p.length<o.length) && d0 p o:=by rw [hf];exact mem_cons_self ..
     obtain⟨m1,m2⟩:=DK.mp this;rw [and_eq_true] at m2;rw [Bool.not_eq_false',any_eq_true];exact⟨o,DK.mpr ⟨m1,m2.1⟩,m2.2⟩
   have hrs:(c_ (pre++[p]).length).filter (bX ps)=(c_ pre.length).filter (bX ps)++(if bX ps pre.length=true then [pre.length] else []):=by
    rw [length_append,show pre.length+[p].length=pre.length+1 from rfl,range_succ,filter_append];congr 1;rw [filter_cons];rfl
   rw [hrs];generalize (c_ pre.length).filter (bX ps)=ks at hml;walk_at "r";rw [length_map]
   refine ei (λc=>?_) (λc=>?_)
   .walk_at "r";rw [hin]
    refine lg (w6 (λc2=>?_) (λc2=>?_))
    .walk_at "r";have e:bX ps pre.length=false:=by rw [hkb,c2];rfl
     exact⟨_,_,_,by rw [e,if_neg (by decide),DQ]⟩
    .walk_at "r";have e:bX ps pre.length=true:=by rw [hkb,c2,decide_eq_true (Int.ofNat.inj c)];rfl
     exact⟨_,_,_,by rw [e,if_pos rfl,map_append];rfl⟩
   .walk_at "r";have e:bX ps pre.length=false:=by rw [hkb,show decide ((ps.filter λo=>decide (p.length<o.length) && d0 p o).length=0)=false from decide_eq_false λz=>c (by rw [z];rfl),E7]
    exact⟨_,_,_,by rw [e,if_neg (by decide),DQ]⟩
 .rintro ρ ⟨v2,v3,v4,rfl⟩;walk_at "r";exact q
noncomputable def gH(K:a_)(mg:Str->Option Value)(t:TxC K):=(have TC:=t;show LS K [] _ _ from (aw (aH (dw (aa (ac (dw ae)) ae)) (aC (i:=1) rfl)) (aw (dQ (mJ (aa (ac (aj (i:=0))) ae)) (au (i:=2) rfl) (aw (aH (dw ae) (aC (i:=3) rfl)) (aw (dQ (bI (aj (i:=1))) (au (i:=4) rfl) (eW (Az (i:=3) (aZ (ix:=[none,some 4,some 2]) rfl (mJ (aa (ac (ao aK (ak (i:=2)) (ac (le_int (i:=1))))) ae)) (λfs hc=>(au (i:=0) (gZ hc (by decide)))) cB (ao aK (ac (ao aK (ac (bq (ak (i:=1)) bJ (be (aj (i:=0))))) (ac (dw (aa (ac (aj (i:=2))) ae))))) (ac (bq (ak (i:=1)) (be (aj (i:=0))) bJ))))))) (aH (aj (i:=3)) (aC (i:=1) rfl))))) (aO (aj (i:=1))))))
def lQ:PTS:=psO gH
def lR:PRl cK lQ 5 1:=λ_ Q h=>qI h λn _ h=>gy h λh=>B_ rfl <| by
 walk_at "z";obtain⟨n,rfl,hn,q⟩:=h;walk_at "r"
 refine⟨λk ρ=>∃(x:PV) (v2 v3 v4:Option PV),(x=.own ((cf k).map lV)\/x=.dat (.lst ((cf k).map lV)))/\ρ=[some (.dat (.int (n:Int))),some x,v2,v3,v4],⟨_,_,_,_,.inl rfl,rfl⟩,?_,?_⟩
 .rintro k ρ _ hk rfl ⟨x,v2,v3,v4,hx,rfl⟩;have hk:k<n:=by rw [toNat_natCast] at hk;exact hk
  have hol:(cf k).length<=120:=qc (by omega);have hom:((cf k).map lV).length=(cf k).length:=length_map _
  rcases hx with rfl|rfl <;> (
   walk_at "r"
   refine⟨λj ρ=>∃v4:Option PV,ρ=[some (.dat (.int (n:Int))),some (.dat (.lst ((cf k).map lV))),some (.dat (.int (k:Int))),some (.own ((((cf k).take j).flatMap (dz k)).map lV)),v4],⟨_,rfl⟩,?_,?_⟩
   .rintro j ρ d hj ed ⟨v4,rfl⟩;rw [hom] at hj;subst ed;obtain⟨o,hjo⟩:∃o,(cf k)[j]?=some o:=⟨_,cy hj⟩
    have hpj:=gC (z_ hjo);have hfl:=AS k _ hjo;rw [eX (show ((cf k).map lV)[j]?=some (lV o) by rw [k_,hjo];rfl)];have hjl:o.length=k:=by rw [hpj.length_eq,C0]
    have hacc:((((cf k).take j).flatMap (dz k)).map lV).length<=120*6:=by
     rw [length_map,lM,length_take];exact mul_le_mul (by omega) (by omega)
    have hom:(o.map nD).length=o.length:=length_map _;walk_at "r"
    refine cmR (λa=>lV (o.take a++[k]++o.drop a)) (λa ha v K1 k1=>?_) (λv=>?_)
    .have c1:cA (o.map nD) none (some (a:Int))=(o.take a).map nD:=by rw [eT,map_take]
     have c2:cA (o.map nD) (some (a:Int)) none=(o.drop a).map nD:=by rw [dO,map_drop]
     have g1:(cA (o.map nD) none (some (a:Int))).length+[D.int (k:Int)].length<=1000000:=by rw [c1,length_map,length_take];show _+1<=_;omega
     have g2:(cA (o.map nD) none (some (a:Int))++[D.int (k:Int)]).length+(cA (o.map nD) (some (a:Int)) none).length<=1000000:=by rw [length_append,c1,c2,length_map,length_take,length_map,length_drop];show _+1+_<=_;omega
     walk_at "r";rw [c1,c2];have e:(o.take a).map nD++[D.int (k:Int)]++(o.drop a).map nD=(o.take a++[k]++o.drop a).map nD:=by rw [map_append,map_append];rfl
     rw [e];exact k1 _
    .rw [show ((k:Int)+1).toNat=k+1 by omega,show (c_ (k+1)).map (λa=>lV (o.take a++[k]++o.drop a))=(dz k o).map lV by unfold dz;rw [map_map];rfl];have g3:((((cf k).take j).flatMap (dz k)).map lV).length+((dz k o).map lV).length<=1000000:=by rw [length_map (f:=lV) (as:=dz k o),tM];omega
     walk_at "r";exact⟨_,by rw [hfl,map_append]⟩
   .rintro ρ ⟨v4,rfl⟩;rw [hom,show (cf k).length=(cf k).length from rfl,take_length];walk_at "r";exact⟨_,_,_,_,by first|exact .inl rfl|exact .inr rfl,rfl⟩)
 .rintro ρ ⟨x,v2,v3,v4,hx,rfl⟩;rw [toNat_natCast] at hx
  rcases hx with rfl|rfl
  .walk_at "r";exact q
  .walk_at "r";exact q
noncomputable def iF(K:a_)(mg:Str->Option Value)(t:TxC K):=(have TC:=t;show LS K [] _ _ from (aw (aH (le_str (l:=[])) (aC (i:=2) rfl)) (aw (dQ (mJ (aa (ac (aW aT (aa (ak (i:=1)) ae))) ae)) (au (i:=3) rfl) (aw (aH (le_int (i:=0)) (aC (i:=4) rfl)) (aw (nU (dn (fJ (ao lj (ak (i:=3)) (ac (le_int (i:=0))))) (aH (ar (c:=ir) (aa (ac (ao cm (ak (i:=0)) (ac (ao cm (ak (i:=1)) (ac (ao jj (ak (i:=3)) (ac (le_int (i:=1))))))))) (aa (ac (ao cm (ak (i:=0)) (ac (ao cm (ak (i:=1)) (ak (i:=3)))))) ae))) (aC (i:=4) rfl)) bc)) (aH (ao aK (ak (i:=2)) (ac (bq (ac (ao cm (ak (i:=0)) (ac (ao cm (ak (i:=1)) (ak (i:=3)))))) (be (aj (i:=4))) bJ))) (aC (i:=2) rfl))))) (aO (aj (i:=2))))))
def ny:PTS:=psO iF
def nA:PRl dA ny 5 2:=λ_ Q h=>xU h λds _ h=>AF h λd _ h=>gy h λh=>B_ rfl <| by
 walk_at "z";obtain⟨ws,rfl,⟨hn,hw⟩,js,hd,⟨hjl,hj⟩,q⟩:=h;have hjm:(js.map nD).length=js.length:=length_map _;have hpw:=u4 λw hw'=>(hw w hw').2;have hgl:=vM hpw;have e1:(((js.map nD).length:Nat):Int).toNat=js.length:=by omega
 have atj:∀k,k<js.length->atI (js.map nD) (k:Int)=some (.int ((js.getD k 0:Nat):Int)):=λk hk=>eV (j:=k) (by rw [k_,cy hk,d_,cy hk];rfl) rfl;have hjk:∀k,k<js.length->js.getD k 0<ws.length:=λk hk=>hj _ (by rw [d_,cy hk];exact EW _)
 rcases hd with rfl|rfl
 .walk_at "r"
  refine⟨λk ρ=>∃v3 v4:Option PV,ρ=[some (.dat (.lst (ws.map .str))),some (.dat (.lst (js.map nD))),some (.dat (.str (glN ws (js.take k)))),v3,v4],⟨_,_,rfl⟩,?_,?_⟩
  .rintro k ρ _ hk rfl ⟨v3,v4,rfl⟩;have hk:k<js.length:=by rw [<- e1];exact hk
   have hb:=hjk k hk;have c2:=hpw (js.getD k 0);have g1:=hgl (js.take k);rw [length_take,show min k js.length=k by omega] at g1;walk_at "r"
   refine⟨λρ=>∃v3:Option PV,ρ=[some (.dat (.lst (ws.map .str))),some (.dat (.lst (js.map nD))),some (.dat (.str (glN ws (js.take k)))),some (.dat (.int (k:Int))),some (.dat (.int ((if k=0 then 0 else et (pw ws (js.getD (k - 1) 0)) (pw ws (js.getD k 0)):Nat):Int)))]/\v3=none,?_,?_⟩
   .walk_at "r"
    refine ei (λc=>?_) (λc=>?_)
    .have ha:=hjk (k - 1) (by omega);have w1:=hw _ (bL ha);have w2:=hw _ (bL hb);have w3:(pw ws (js.getD (k - 1) 0)).length<=10000:=by omega
     have w4:(pw ws (js.getD k 0)).length<=10000:=by omega
     have hat:=atj (k - 1) (by omega);rw [show ((k - 1:Nat):Int)=(k:Int) - 1 by omega] at hat;walk_at "r";refine⟨_,hat,?_⟩;walk_at "r";refine⟨_,bN ha rfl,?_⟩;walk_at "r";refine⟨_,atj k hk,?_⟩;walk_at "r";refine⟨_,bN hb rfl,?_⟩;walk_at "r";exact⟨none,by rw [if_neg (by omega)],rfl⟩
    .walk_at "r";exact⟨none,by rw [if_pos (by omega)];rfl,rfl⟩
   .rintro ρ ⟨v3,rfl,rfl⟩;have c1:=dD (pw ws (js.getD k 0)) (some ((if k=0 then 0 else et (pw ws (js.getD (k - 1) 0)) (pw ws (js.getD k 0)):Nat):Int)) none;walk_at "r";refine⟨_,atj k hk,?_⟩;walk_at "r";refine⟨_,bN hb rfl,?_⟩;walk_at "r";exact⟨_,_,by rw [qd hk,dO]⟩
  .rintro ρ ⟨v3,v4,rfl⟩;rw [e1,take_length];walk_at "r";exact q
 .walk_at "r"
  refine⟨λk ρ=>∃v3 v4:Option PV,ρ=[some (.dat (.lst (ws.map .str))),some (.dat (.tup (js.map nD))),some (.dat (.str (glN ws (js.take k)))),v3,v4],⟨_,_,rfl⟩,?_,?_⟩
  .rintro k ρ _ hk rfl ⟨v3,v4,rfl⟩;have hk:k<js.length:=by rw [<- e1];exact hk
   have hb:=hjk k hk;have c2:=hpw (js.getD k 0);have g1:=hgl (js.take k);rw [length_take,show min k js.length=k by omega] at g1;walk_at "r"
   refine⟨λρ=>∃v3:Option PV,ρ=[some (.dat (.lst (ws.map .str))),some (.dat (.tup (js.map nD))),some (.dat (.str (glN ws (js.take k)))),some (.dat (.int (k:Int))),some (.dat (.int ((if k=0 then 0 else et (pw ws (js.getD (k - 1) 0)) (pw ws (js.getD k 0)):Nat):Int)))]/\v3=none,?_,?_⟩
   .walk_at "r"
    refine ei (λc=>?_) (λc=>?_)
    .have ha:=hjk (k - 1) (by omega);have w1:=hw _ (bL ha);have w2:=hw _ (bL hb);have w3:(pw ws (js.getD (k - 1) 0)).length<=10000:=by omega
     have w4:(pw ws (js.getD k 0)).length<=10000:=by omega
     have hat:=atj (k - 1) (by omega);rw [show ((k - 1:Nat):Int)=(k:Int) - 1 by omega] at hat;walk_at "r";refine⟨_,hat,?_⟩;walk_at "r";refine⟨_,bN ha rfl,?_⟩;walk_at "r";refine⟨_,atj k hk,?_⟩;walk_at "r";refine⟨_,bN hb rfl,?_⟩;walk_at "r";exact⟨none,by rw [if_neg (by omega)],rfl⟩
    .walk_at "r";exact⟨none,by rw [if_pos (by omega)];rfl,rfl⟩
   .rintro ρ ⟨v3,rfl,rfl⟩;have c1:=dD (pw ws (js.getD k 0)) (some ((if k=0 then 0 else et (pw ws (js.getD (k - 1) 0)) (pw ws (js.getD k 0)):Nat):Int)) none;walk_at "r";refine⟨_,atj k hk,?_⟩;walk_at "r";refine⟨_,bN hb rfl,?_⟩;walk_at "r";exact⟨_,_,by rw [qd hk,dO]⟩
  .rintro ρ ⟨v3,v4,rfl⟩;rw [e1,take_length];walk_at "r";exact q
noncomputable def fo(K:a_)(mg:Str->Option Value)(t:TxC K):=(have TC:=t;show LS K [] _ _ from (aw (aH (aZ (ix:=[none,some 0]) rfl (bI (ar (c:=eG) (aa (ac (aj (i:=0))) ae))) (λfs hc=>(au (i:=0) (gZ hc (by decide)))) cB (ao cm (ak (i:=1)) (ak (i:=0)))) (aC (i:=1) rfl)) (aO (xY (aZ (ix:=[none,some 1]) rfl (bI (ar (c:=cK) (aa (ac (aW aT (aa (ak (i:=1)) ae))) ae))) (λfs hc=>(au (i:=0) (gZ hc (by decide)))) cB (ar (c:=dA) (aa (ac (aj (i:=1))) (aa (ac (aj (i:=0))) ae))))))))
def jP:PTS:=psO fo
def jQ:PRl cg jP 2 1:=λ_ Q h=>xU h λds _ h=>gy h λh=>B_ rfl <| by
 walk_at "z";obtain⟨ps,rfl,hk2,hn,q⟩:=h;have hk:ps.length<=40/\∀w∈ps,w.length<=60:=⟨hk2.1,λw hw=>(hk2.2 w hw).2.1⟩
 have hix:=fF ps;have him:((ay ps).map nD).length=(ay ps).length:=length_map _;walk_at "r"
 refine cm1 (e:=nD) (xs:=ay ps) (λi=>.str (pw ps i)) (λi hi v K1 k1=>?_) (λv=>?_)
 .have hi2:i<ps.length:=mem_range.mp (DK.mp hi).1;walk_at "r";refine⟨_,bN hi2 rfl,?_⟩;exact k1 _
 have ew:(ay ps).map (λi=>D.str (pw ps i))=(ag ps).map .str:=by unfold ag;rw [map_map];rfl
 rw [ew];have hwp:=cp hk2.2;have hwm:((ag ps).map D.str).length=(ag ps).length:=length_map _;have hw:(ag ps).length<=60/\∀w∈ag ps,0<w.length/\w.length<=60:=⟨by omega,λw h=>⟨(hwp w h).1,(hwp w h).2.1⟩⟩
 have hlt:=λ(t:List Nat) (h:Lst (GlS (ag ps)) t)=>q t (p8 hk2.2 h);have hol:=qc hn;have hom:((cf (ag ps).length).map lV).length=(cf (ag ps).length).length:=length_map _;walk_at "r";rw [hwm]
 refine⟨λk ys τ=>∃(v:Option PV) (x:PV),τ=[v,some x]/\(x=.own ((ag ps).map .str)\/x=.dat (.lst ((ag ps).map .str)))/\ys=((cf (ag ps).length).take k).map λjs=>.str (glN (ag ps) js),⟨none,_,rfl,.inl rfl,rfl⟩,?_,?_⟩
 .rintro k ys τ d hk ed ⟨v,x,rfl,hx,rfl⟩;rw [hom] at hk;subst ed;obtain⟨js,hjo⟩:∃js,(cf (ag ps).length)[k]?=some js:=⟨_,cy hk⟩
  have hp:=gC (z_ hjo);have hjs:js.length<=60/\∀j∈js,j<(ag ps).length:=⟨by rw [tw hp];omega,λj h=>mem_range.mp (hp.mem_iff.mp h)⟩
  have e:(cf (ag ps).length).take (k+1)=(cf (ag ps).length).take k++[js]:=by rw [take_add_one,hjo];rfl
  rw [eX (show ((cf (ag ps).length).map lV)[k]?=some (lV js) by rw [k_,hjo];rfl)]
  rcases hx with rfl|rfl <;> (
   walk_at "r";exact⟨_,_,rfl,by first|exact .inl rfl|exact .inr rfl,by rw [e,map_append];rfl⟩)
 rintro ys τ ⟨v,x,rfl,hx,rfl⟩;rw [hom,take_length];show ∃ws,_=_/\_;refine⟨(cf (ag ps).length).map (glN (ag ps)),by rw [map_map];rfl,λz=>?_,λt ht=>hlt t (tN ht)⟩;have h0:=jA (List.Perm.refl (c_ (ag ps).length));rw [EF.mp z] at h0;cases h0
noncomputable def jR(K:a_)(mg:Str->Option Value)(t:TxC K):=(have TC:=t;show LS K [] _ _ from (aw (aH (ar (c:=aS) (aa (ac (aj (i:=0))) (aa (ac (le_int (i:=230))) (aa (ac (le_int (i:=3))) ae)))) (aC (i:=2) rfl)) (aw (dn (jh (fJ (ao iB (ak (i:=2)) (ac (le_int (i:=0))))) (fJ (ao lj (ac (aW aT (aa (ak (i:=1)) ae))) (ac (le_int (i:=1)))))) (aw (aH (ar (c:=aS) (aa (ac (aj (i:=0))) (aa (ac (le_int (i:=231))) (aa (ac (aW aT (aa (ak (i:=1)) ae))) ae)))) (aC (i:=3) rfl)) (aO (bq (ak (i:=1)) (be (aj (i:=3))) (be (ao aK (ac (ao aK (ak (i:=3)) (ac (le_int (i:=1))))) (ac (ar (c:=aS) (aa (ac (aj (i:=0))) (aa (ac (le_int (i:=232))) (aa (ac (le_int (i:=6))) ae)))))))))) bc) (aw (dn (jh (fJ (ao iB (ak (i:=2)) (ac (le_int (i:=1))))) (fJ (ao lj (ac (aW aT (aa (ak (i:=0)) ae))) (ac (le_int (i:=0)))))) (aO (ao cm (ac (ao aK (ac (ar (c:=bv) (aa (ac (aW vE (aa (ac (ao cm (ak (i:=0)) (ac (ao jj (ac (aW aT (aa (ak (i:=0)) ae))) (ac (le_int (i:=1))))))) ae))) (aa (ac (le_int (i:=1))) ae)))) (ac (dw (aa (ac (le_str (l:=[98,97]))) ae))))) (ac (le_int (i:=0))))) bc) (aw (aH (le_str (l:=[])) (aC (i:=4) rfl)) (aw (dQ (mJ (aa (ac (ao aK (ac (le_int (i:=1))) (ac (ar (c:=aS) (aa (ac (aj (i:=0))) (aa (ac (le_int (i:=233))) (aa (ac (le_int (i:=6))) ae))))))) ae)) (au (i:=5) rfl) (aH (ao aK (ak (i:=4)) (ac (ao cm (ac (le_str (l:=[97,98,99]))) (ac (ar (c:=aS) (aa (ac (aj (i:=0))) (aa (ac (ao aK (ac (le_int (i:=234))) (ak (i:=5)))) (aa (ac (le_int (i:=3))) ae)))))))) (aC (i:=4) rfl))) (aO (aj (i:=4)))))))))
def o5:PTS:=psO jR
def o7:PRl gd o5 6 2:=λ_ Q h=>Bc h λns _ h=>tJ h λe _ h=>gy h λh=>B_ rfl <| by
 walk_at "z";obtain⟨he,hL,q⟩:=h;walk_at "r";rintro x hx0 hx1;walk_at "r"
 refine oz ?_ (λhB c=>?_)
 .walk_at "r"
  refine oz ?_ (λhB c=>?_)
  .walk_at "r";rintro n hn0 hn1;walk_at "r"
   refine⟨λk ρ=>∃(t:List Nat) (v5:Option PV),ρ=[some (.dat (.scr ns)),some (.dat (.str e)),some (.dat (.int x)),none,some (.dat (.str t)),v5]/\t.length=k/\Lts t,⟨[],none,rfl,rfl,Lts.nil⟩,?_,?_⟩
   .rintro k ρ _ hk rfl ⟨t,v5,rfl,htl,ht⟩;have hk:k<(1+n).toNat:=hk;walk_at "r";rintro y hy0 hy1;obtain⟨j,rfl⟩:∃j:Nat,y=(j:Int):=⟨y.toNat,by omega⟩
    have hj:j<[97,98,99].length:=by show j<3;omega
    walk_at "r";refine⟨_,eV (cy hj) rfl,?_⟩;have hl:Lts ([97,98,99]:List Nat):=fV.mp (by decide);walk_at "r";exact⟨_,_,rfl,by rw [length_append,htl];rfl,ht.app (Lts.one (hl _ (EW hj)))⟩
   .rintro ρ ⟨t,v5,rfl,htl,ht⟩;have htl:t.length=(1+n).toNat:=htl;walk_at "r";exact q t (by omega) (by omega) ht
  .walk_at "r";refine ei (λc1=>?_) (λc1=>hB);have h0:ns.length - 1<ns.length:=by omega
   walk_at "r";refine⟨ns[ns.length - 1],eV (j:=ns.length - 1) (cy h0) (by omega),?_⟩;walk_at "r";rintro ps hpl hps;have hpl:ps.length<=1:=hpl;have g:(ps.map D.str).length+[D.str [98,97]].length<=1000000:=by rw [length_map];show _+1<=_;omega
   cases ps with
   | nil =>
    walk_at "r";exact q _ (by decide) (by decide) (fV.mp (by decide))
   | cons p r =>
    walk_at "r";refine⟨_,eV (j:=0) rfl rfl,?_⟩;have hp:=hps p (mem_cons_self ..);exact q _ hp.1 hp.2.1 hp.2.2
 .walk_at "r";refine ei (λc1=>?_) (λc1=>hB);walk_at "r";rintro y hy0 hy1;obtain⟨i,rfl⟩:∃i:Nat,y=(i:Int):=⟨y.toNat,by omega⟩
  walk_at "r";rintro z hz0 hz1;obtain⟨j,rfl⟩:∃j:Nat,z=(j:Int):=⟨z.toNat,by omega⟩
  walk_at "r";rw [show (i:Int)+1+(j:Int)=((i+1+j:Nat):Int) by omega,mr];exact q _ (by rw [length_take,length_drop];omega) (by rw [length_take,length_drop];omega) ((hL.drop _).take _)
noncomputable def wb(K:a_)(mg:Str->Option Value)(t:TxC K):=(have TC:=t;show LS K [] _ _ from (aw (aH (ar (c:=eF) (aa (ac (aj (i:=0))) (aa (ac (le_int (i:=4))) ae))) (aC (i:=1) rfl)) (aw (aH (ar (c:=de) (aa (ac (nW (c0:="Family") (c:=bh) (aa (ac (aj (i:=1))) ae))) ae)) (aC (i:=2) rfl)) (aw (dn (sv (mI (uD (sA .str (ak (i:=2))))) (fJ (ao kC (ak (i:=2)) (ac (ar (c:=cg) (aa (ac (aj (i:=1))) ae)))))) (aO (qz (i:=false))) bc) (aw (aH (ar (c:=gd) (aa (ac (aj (i:=0))) (aa (ac (aj (i:=2))) ae))) (aC (i:=3) rfl)) (aw (aH (ar (c:=aS) (aa (ac (aj (i:=0))) (aa (ac (le_int (i:=250))) (aa (ac (ao aK (ac (aW aT (aa (ak (i:=1)) ae))) (ac (le_int (i:=1))))) ae)))) (aC (i:=4) rfl)) (aw (aH (ar (c:=de) (aa (ac (nW (c0:="Family") (c:=bh) (aa (ac (ao aK (ac (ao aK (ac (bq (ak (i:=1)) bJ (be (aj (i:=4))))) (ac (dw (aa (ac (aj (i:=3))) ae))))) (ac (bq (ak (i:=1)) (be (aj (i:=4))) bJ)))) ae))) ae)) (aC (i:=5) rfl)) (aw (dn (sv (mI (uD (sA .str (ak (i:=5))))) (fJ (ao kC (ak (i:=5)) (ac (ar (c:=cg) (aa (ac (ao aK (ak (i:=1)) (ac (dw (aa (ac (aj (i:=3))) ae))))) ae)))))) (aO (qz (i:=false))) bc) (aw (dn (sv (fJ (ao sx (ac (aW aT (aa (ak (i:=5)) ae))) (ac (aW aT (aa (ak (i:=2)) ae))))) (fJ (ao lj (ac (aW aT (aa (ak (i:=5)) ae))) (ac (ao aK (ac (aW aT (aa (ak (i:=2)) ae))) (ac (aW aT (aa (ak (i:=3)) ae)))))))) (aO (qz (i:=false))) bc) (aw (dn (jh (fJ (ao (kH (neg:=false)) (ak (i:=3)) (ak (i:=2)))) (fJ (ao kC (ak (i:=5)) (ak (i:=2))))) (aO (qz (i:=false))) bc) (aw (dQ (bI (ao aK (ak (i:=1)) (ac (dw (aa (ac (aj (i:=3))) ae))))) (au (i:=6) rfl) (dn (fJ (ao (kH (neg:=true)) (ak (i:=6)) (ak (i:=5)))) (aO (qz (i:=false))) bc)) (aO (ao iB (ac (ar (c:=de) (aa (ac (nW (c0:="Family") (c:=bh) (aa (ac (aj (i:=1))) ae))) ae))) (ak (i:=2)))))))))))))))
def tP:PTS:=psO wb
def yb(ns:List Int)(h63:ns.length<=63)(Q:PV->Prop)(q:Q (.dat (.bl true))):Bb tP v7 [.scr ns] Q:=by
 show tP _ [some (.dat (.scr ns)),none,none,none,none,none,none];walk_at "r";rintro ps hpl hps9;have hpl:ps.length<=4:=hpl;have hps:=AT hps9;have hk2:ps.length<=40/\Pcs 60 ps:=⟨by omega,hps⟩
 have hwn:=cM ps;have hpm:(ps.map D.str).length=ps.length:=length_map _;have h5:(ag ps).length<=5:=by omega
 have h12:Pcs 60 ps/\(ag ps).length<=12:=⟨hps,by omega⟩
 walk_at "r";intro t ht;obtain⟨ht3,htL⟩:=nr hps (by omega) ht;have ht4:t.length<=4000:=by omega
 walk_at "r";intro t' ht';cases ht'.uniq ht;walk_at "r";intro p hp0 hp9 hpL;walk_at "r";rintro x hx0 hx1;obtain⟨j,rfl⟩:∃j:Nat,x=(j:Int):=⟨x.toNat,by omega⟩
 have hj:j<=ps.length:=by omega
 have c1:cA (ps.map D.str) none (some (j:Int))=(ps.take j).map .str:=by rw [eT,map_take]
 have c2:cA (ps.map D.str) (some (j:Int)) none=(ps.drop j).map .str:=by rw [dO,map_drop]
 have g1:(cA (ps.map D.str) none (some (j:Int))).length+[D.str p].length<=1000000:=by rw [c1,length_map,length_take];show _+1<=_;omega
 have g2:(cA (ps.map D.str) none (some (j:Int))++[D.str p]).length+(cA (ps.map D.str) (some (j:Int)) none).length<=1000000:=by rw [length_append,c1,c2,length_map,length_take,length_map,length_drop];show _+1+_<=_;omega
 have e1:cA (ps.map D.str) none (some (j:Int))++[D.str p]++cA (ps.map D.str) (some (j:Int)) none=(ps.take j++[p]++ps.drop j).map .str:=by rw [c1,c2,map_append,map_append];rfl
 obtain⟨hqs,hql⟩:=ya j hps ⟨hp0,by omega,hpL⟩;have hold:=λ(t:List Nat) (h:Lst (oh (ps.take j++[p]++ps.drop j)) t)=>vk j h;have hqn:=cM (ps.take j++[p]++ps.drop j);walk_at "r";rw [e1];generalize ps.take j++[p]++ps.drop j=qs at hqs hql hold hqn;have hqm:(qs.map D.str).length=qs.length:=length_map _;have k2:qs.length<=40/\Pcs 60 qs:=⟨by omega,hqs⟩
 have k12:Pcs 60 qs/\(ag qs).length<=12:=⟨hqs,by omega⟩
 walk_at "r";intro u hu;have hu:=hold u hu;have hrs:Pcs 60 (ps++[p]):=hps.app ⟨hp0,by omega,hpL⟩;have hrl:(ps++[p]).length=ps.length+1:=length_append;have hrn:=cM (ps++[p]);have r2:(ps++[p]).length<=40/\Pcs 60 (ps++[p]):=⟨by omega,hrs⟩
 have r5:(ag (ps++[p])).length<=5:=by omega
 obtain⟨hu3,huL⟩:=nr hrs (by omega) hu;obtain⟨m1,m2,m3,m4⟩:=vj ht hu;have er:ps.map D.str++[D.str p]=(ps++[p]).map .str:=by rw [map_append];rfl
 have g3:(ps.map D.str).length+[D.str p].length<=1000000:=by rw [hpm];show _+1<=_;omega
 walk_at "r";refine⟨ps++[p],er,r2,r5,λu' hu'=>?_⟩;cases hu'.uniq hu;clear hu';walk_at "r"
 refine oz ?_ (λhB c=>?_)
 .walk_at "r";rw [er]
  refine CU (α:=List Nat) (e:=D.str) (xs:=ps++[p]) (λ_ ρ=>∃v6:Option PV,ρ=[some (.dat (.scr ns)),some (.dat (.lst (ps.map .str))),some (.dat (.str t)),some (.dat (.str p)),some (.dat (.int (j:Int))),some (.dat (.str u)),v6]) ⟨_,rfl⟩ ?_ ?_
  .rintro pre x suf ρ ej ⟨v6,rfl⟩;have hx:d0 x u=true:=dS.mpr (m4 x (by rw [ej];simp));have hxl:x.length<=60:=(hrs x (by rw [ej];simp)).2.1;clear ej;walk_at "r";rw [hx];exact⟨_,rfl⟩
  .rintro ρ ⟨v6,rfl⟩;walk_at "r";intro w hw;cases hw.uniq ht;walk_at "r";rw [show decide (t=t)=true from decide_eq_true rfl];exact q
 .have e:u=t:=m3 (dS.mp c);walk_at "r";exact (((hB:_/\_).2:_/\_).2:_)
def AX:PRl v8 tP v7 1:=λ_ Q h=>match h with|⟨ns,e,h63,q⟩=>e ▸ ⟨rfl,yb ns h63 Q q⟩
local macro_rules | `(tactic| walk_at "l")=>`(tactic| (intros;rename_i h;split at h <;> first | rfl | exact h.elim))
local macro_rules | `(tactic| walk_at "b0")=>`(tactic| exact fun _ _ _ _ _ _ us hl=>match us,hl with | [],_=>rfl)
local macro_rules | `(tactic| walk_at "b1")=>`(tactic| exact fun _ _ _ _ _ _ us hl=>match us,hl with | [_],_=>rfl)
local macro_rules | `(tactic| walk_at "b2")=>`(tactic| exact fun _ _ _ _ _ _ us hl=>match us,hl with | [_,_],_=>rfl)
local macro_rules | `(tactic| walk_at "b3")=>`(tactic| exact fun _ _ _ _ _ _ us hl=>match us,hl with | [_,_,_],_=>rfl)
local macro_rules | `(tactic| walk_at "b4")=>`(tactic| exact fun _ _ _ _ _ _ us hl=>match us,hl with | [_,_,_,_],_=>rfl)
local macro_rules | `(tactic| walk_at "b5")=>`(tactic| exact fun _ _ _ _ _ _ us hl=>match us,hl with | [_,_,_,_,_],_=>rfl)
local macro_rules | `(tactic| walk_at "b6")=>`(tactic| exact fun _ _ _ _ _ _ us hl=>match us,hl with | [_,_,_,_,_,_],_=>rfl)
local macro_rules | `(tactic| walk_at "b7")=>`(tactic| exact fun _ _ _ _ _ _ us hl=>match us,hl with | [_,_,_,_,_,_,_],_=>rfl)
section
variable (P:n_) (w:World) (K:a_) (mg:Str->Option Value) (base:Heap)
abbrev kP:=Cal P w K mg base 1 "members" ["mark"] (spP K dW)
abbrev jT:=Cal P w K mg base 1 "is_ahead" ["one","other"] (spP K f8)
abbrev gj:=Cal P w K mg base 2 "foremost" ["texts"] (spP K c9)
abbrev fR:=A7 P w K mg base 1 (bo K "Family") "many" ["self"] (spP K bA)
abbrev dC:=Cal P w K mg base 2 "check_few_words" ["family"] (spP K ca)
abbrev jU:=Cal P w K mg base 1 "heads_of" ["words","laps"] (spP K f9)
abbrev iG:=Cal P w K mg base 2 "sets_left" ["many"] (spP K fk)
abbrev jV:=Cal P w K mg base 3 "all_ends" ["heads","lasts","lefts"] (spP K gc)
abbrev eO:=Cal P w K mg base 4 "foremost_text" ["words","laps","lefts"] (spP K cH)
abbrev jW:=Cal P w K mg base 5 "shortest" ["family"] (spP K de)
abbrev wc:=Cal P w K mg base 1 "lap" ["one","other"] (spP K nq)
abbrev jX:=Cal P w K mg base 2 "all_laps" ["words"] (spP K eE)
abbrev dJ:=Cal P w K mg base 1 "first_place" ["text","piece"] (spP K cu)
abbrev qT:=zi P w K mg base 1 "is_text" ["thing","least","most"] [.int 0,.int 4000] (spP K dX)
abbrev fq:=Cal P w K mg base 2 "check_pieces" ["things"] (spP K cb)
abbrev cJ:=Cal P w K mg base 2 "stands_within" ["piece","other"] (spP K bd)
abbrev kQ:=Cal P w K mg base 3 "is_kept" ["pieces","at"] (spP K dY)
abbrev jY:=Cal P w K mg base 3 "left_row" ["pieces","kept","at"] (spP K df)
abbrev gk:=Cal P w K mg base 1 "_law_cell" ["_law_script","_law_k"] (spP K dh)
abbrev eH:=Cal P w K mg base 2 "_law_draw" ["_law_script","_law_k","_law_many"] (spP K aS)
abbrev bU:=Cal P w K mg base 1 "_law_digit_pieces" ["_law_cell_here","_law_most"] (spP K bv)
abbrev gJ:=Cal P w K mg base 3 "_law_pieces" ["_law_script","_law_most"] (spP K eF)
abbrev kR:=Cal P w K mg base 1 "_law_lap" ["_law_one","_law_other"] (spP K ir)
abbrev jZ:=Cal P w K mg base 1 "_law_kept" ["_law_pieces_here"] (spP K eG)
abbrev gK:=Cal P w K mg base 1 "_law_orders" ["_law_many"] (spP K cK)
abbrev iH:=Cal P w K mg base 2 "_law_glued" ["_law_words","_law_order"] (spP K dA)
abbrev ft:=Cal P w K mg base 3 "_law_shortest" ["_law_pieces_here"] (spP K cg)
abbrev j4:=Cal P w K mg base 3 "_law_more" ["_law_script","_law_earlier"] (spP K gd)
abbrev kf:=zj P w K mg base 4 (bo K "Family") "Family" ["self","pieces"] (spR K bh)
abbrev AY:=Cal P w K mg base 6 "law" ["_law_script"] (spP K v8)
end
section
variable (P:n_) (w:World) {K:a_}{mg:Str->Option Value} (base:Heap)
def qU(D:bE K mg "members" jt)(T:Txt mg)(TC:TxC K):kP P w K mg base:=D.oP2 qJ (by walk_at "b1") qO rfl rfl λ_ _ _ _ _ _ _ hr hu=>⟨_,(am (aM (bg (wi:=(ri (aU (A6 K "int" xK (aV 0)) dZ))) (g:=(bw 0)) (tts:=(tBI (tOp xB (tOp B2 (aV 1) (aV 0)) (tC (V.int 1))))) (te:=(aV 0)) ["i","mark"] [none,some 0] rfl (cw rfl T.b_range (paC (xN K rfl PySem.F.plainAttrs_int PySem.F.slot_int_bit_length PySem.F.type_int_bit_length xL (pv 0)) af)) (λ_ _ _ _=>⟨(aE (i:=0) (by show w_ (["i","mark"]:List Str);decide +kernel) rfl (by walk_at "o")),(gR (AA (aR Am (aR B3 (pv 1) (pv 0)) aq))),(pv 0)⟩) (by kernel_rfl)))),(kK K mg TC)⟩
def o8(D:bE K mg "is_ahead" h9)(T:Txt mg)(TC:TxC K):jT P w K mg base:=D.oP2 om (by walk_at "b2") oB rfl rfl λ_ _ _ _ _ _ _ hr hu=>⟨_,(ai (dk (aI (qF K rfl hu) (al (bD K rfl) rfl T.b_len j_ (paC (pv 0) af)) (al (bD K rfl) rfl T.b_len j_ (paC (pv 1) af)) (a8 _)) (am (aM (i5 zu (al (bD K rfl) rfl T.b_len j_ (paC (pv 0) af)) (al (bD K rfl) rfl T.b_len j_ (paC (pv 1) af)) (a8 _)))) ba) (am (aM (i5 zu (pv 0) (pv 1) (a8 _))))),(jB K mg TC)⟩
def o9(D:bE K mg "foremost" ia)(T:Txt mg)(TC:TxC K)(C'1:jT P w K mg base):gj P w K mg base:=D.oP2 eB (by walk_at "b1") oF rfl rfl λ_ _ _ _ _ _ _ hr hu=>⟨_,(ai (aN (i:=1) eB.nd rfl (by walk_at "o") (ck (gT K rfl) (pv 0) aq (λ_ _=>rfl))) (ai (dM Dv rfl (bH K rfl (bn (nS K rfl) (pv 0) (bF aq) cj)) (aE (i:=2) eB.nd rfl (by walk_at "o")) (am (dk (fb (aA C'1 (hr.m rfl) (paC (pv 2) (paC (pv 1) af)))) (am (aN (i:=1) eB.nd rfl (by walk_at "o") (pv 2))) ba))) (am (aM (pv 1))))),(jC K mg TC)⟩
def gL(D:bE K mg "check_few_words" cq)(T:Txt mg)(TC:TxC K)(C'18:fR P w K mg base):dC P w K mg base:=D.oP2 gA (by walk_at "b1") gF rfl rfl λ_ _ _ _ _ _ _ hr hu=>⟨_,(am (dk (aI uM (pR (pv 0) TC.cl_Family C'18 (hr.m rfl)) (k9 rfl T.g_MOST_SHORTEST_WORDS) (a8 _)) (am kU) ba)),(dB K mg TC)⟩
def pd(D:bE K mg "heads_of" ib)(T:Txt mg)(TC:TxC K):jU P w K mg base:=D.oP2 oq (by walk_at "b2") oH rfl rfl λ_ _ _ _ _ _ _ hr hu=>⟨_,(am (aM (bg (wi:=(uB K (aU (aV 0) (aU (aV 1) dZ)))) (g:=(xD K 2 (iI (bw 0) (iI (bw 1) wm)))) (tts:=jf) (te:=(mC [none,some 0] (iA K (aV 1)) (bw 0) jf (tSl (xh K) (aV 1) gO (qu (tOp sE (tCB (jk K) (aU (aV 1) dZ)) (aV 0)))))) ["word","row"] [none,none] rfl (xz K rfl rfl T.b_zip (paC (pv 0) (paC (pv 1) af))) (λ_ _ _ _=>⟨(kE K rfl (n:=2) rfl (bS (aE (i:=0) (by show w_ (["word","row"]:List Str);decide +kernel) rfl (by walk_at "o")) (bS (aE (i:=1) (by show w_ (["word","row"]:List Str);decide +kernel) rfl (by walk_at "o")) gN))),bG,(bg (wi:=(iA K (aV 1))) (g:=(bw 0)) (tts:=jf) (te:=(tSl (xh K) (aV 1) gO (qu (tOp sE (tCB (jk K) (aU (aV 1) dZ)) (aV 0))))) ["k","word"] [none,some 0] rfl (bH K rfl (pv 1)) (λ_ _ _ _=>⟨(aE (i:=0) (by show w_ (["k","word"]:List Str);decide +kernel) rfl (by walk_at "o")),bG,(bn (nS K rfl) (pv 1) cj (bF (aR nX (al (bD K rfl) rfl T.b_len j_ (paC (pv 1) af)) (pv 0))))⟩) (by kernel_rfl))⟩) (by kernel_rfl)))),(jD K mg TC)⟩
def nB(D:bE K mg "sets_left" fX)(T:Txt mg)(TC:TxC K)(C'0:kP P w K mg base):iG P w K mg base:=D.oP2 ng (by walk_at "b1") nv rfl rfl λ_ _ _ _ _ _ _ hr hu=>⟨_,(am (aM (bg (wi:=(ri (aU (tOp Aj (tC (V.int 1)) (aV 0)) dZ))) (g:=(bw 0)) (tts:=jf) (te:=(mC [none,some 0] (iA K (d5 (spP K dW) [] E0 (aU (aV 0) dZ))) (bw 0) jf (ye (aU (aV 0) (aU (tOp sE (aV 1) (tOp Aj (tC (V.int 1)) (aV 0))) dZ))))) ["mark"] [none] rfl (cw rfl T.b_range (paC (aR Ak aq (pv 0)) af)) (λ_ _ _ _=>⟨(aE (i:=0) (by show w_ (["mark"]:List Str);decide +kernel) rfl (by walk_at "o")),bG,(bg (wi:=(iA K (d5 (spP K dW) [] E0 (aU (aV 0) dZ)))) (g:=(bw 0)) (tts:=jf) (te:=(ye (aU (aV 0) (aU (tOp sE (aV 1) (tOp Aj (tC (V.int 1)) (aV 0))) dZ)))) ["i","mark"] [none,some 0] rfl (bH K rfl (aA C'0 (hr.m rfl) (paC (pv 0) af))) (λ_ _ _ _=>⟨(aE (i:=0) (by show w_ (["i","mark"]:List Str);decide +kernel) rfl (by walk_at "o")),bG,(pK (paC (pv 0) (paC (aR nX (pv 1) (aR Ak aq (pv 0))) af)))⟩) (by kernel_rfl))⟩) (by kernel_rfl)))),(iD K mg TC)⟩
def pq(D:bE K mg "all_ends" ic)(T:Txt mg)(TC:TxC K)(C'2:gj P w K mg base):jV P w K mg base:=D.oP2 eC (by walk_at "b3") oK rfl rfl λ_ _ _ _ _ _ _ hr hu=>⟨_,(ai (aN (i:=3) eC.nd rfl (by walk_at "o") (dt af)) (ai (dM Dv rfl (bH K rfl (pv 2)) (aE (i:=4) eC.nd rfl (by walk_at "o")) (ai (aN (i:=5) eC.nd rfl (by walk_at "o") (bg (wi:=(iA K (aV 4))) (g:=(xD K 2 (iI (bw 0) (iI (bw 1) wm)))) (tts:=jf) (te:=(ye (aU (aV 0) (aU (tOp (qA K) (tOp (qA K) (aV 2) (aV 1)) (aV 0)) dZ)))) ["j","rest","ends"] [none,none,some 3] rfl (bH K rfl (pv 4)) (λ_ _ _ _=>⟨(kE K rfl (n:=2) rfl (bS (aE (i:=0) (by show w_ (["j","rest","ends"]:List Str);decide +kernel) rfl (by walk_at "o")) (bS (aE (i:=1) (by show w_ (["j","rest","ends"]:List Str);decide +kernel) rfl (by walk_at "o")) gN))),bG,(pK (paC (pv 0) (paC (ck (gT K rfl) (ck (gT K rfl) (pv 2) (pv 1) (λ_ _=>rfl)) (pv 0) (λ_ _=>rfl)) af)))⟩) (by kernel_rfl))) (am (eR (iy K rfl DT D4 D5 dN (pv 3) (paC (tV (xS K rfl (pv 5)) (bg (wi:=(iA K (aV 0))) (g:=(bw 0)) (tts:=jf) (te:=(d5 (spP K c9) [] E0 (aU (mC [none,none,some 0] (iA K (aV 1)) (xD K 2 (iI (bw 0) (iI (bw 1) wm))) jf (tOp (n9 K) (tOp (qA K) (aV 2) (aV 0)) (aV 1))) dZ))) ["row","nexts"] [none,some 5] rfl (bH K rfl (pv 0)) (λ_ _ _ _=>⟨(aE (i:=0) (by show w_ (["row","nexts"]:List Str);decide +kernel) rfl (by walk_at "o")),bG,(aA C'2 (hr.m rfl) (paC (bg (wi:=(iA K (aV 1))) (g:=(xD K 2 (iI (bw 0) (iI (bw 1) wm)))) (tts:=jf) (te:=(tOp (n9 K) (tOp (qA K) (aV 2) (aV 0)) (aV 1))) ["j","end","row"] [none,none,some 0] rfl (bH K rfl (pv 1)) (λ_ _ _ _=>⟨(kE K rfl (n:=2) rfl (bS (aE (i:=0) (by show w_ (["j","end","row"]:List Str);decide +kernel) rfl (by walk_at "o")) (bS (aE (i:=1) (by show w_ (["j","end","row"]:List Str);decide +kernel) rfl (by walk_at "o")) gN))),bG,(aR (a9 K rfl) (ck (gT K rfl) (pv 2) (pv 0) (λ_ _=>rfl)) (pv 1))⟩) (by kernel_rfl)) af))⟩) (by kernel_rfl)) (bV (zW K rfl) rfl T.b_list boot_list (paC (pv 1) af))) af)))))) (am (aM (pv 3))))),(jF K mg TC)⟩
def iU(D:bE K mg "foremost_text" cY)(T:Txt mg)(TC:TxC K)(C'6:jV P w K mg base)(C'2:gj P w K mg base)(C'4:jU P w K mg base):eO P w K mg base:=D.oP2 eL (by walk_at "b3") iQ rfl rfl λ_ _ _ _ _ _ _ hr hu=>⟨_,(ai (aN (i:=3) eL.nd rfl (by walk_at "o") (aA C'6 (hr.m rfl) (paC (aA C'4 (hr.m rfl) (paC (pv 0) (paC (pv 1) af))) (paC (pv 0) (paC (pv 2) af))))) (am (aM (aA C'2 (hr.m rfl) (paC (AC K rfl (bg (wi:=(iA K (tOp (qA K) (aV 2) (tUn Ae (tC (V.int 1)))))) (g:=(xD K 2 (iI (bw 0) (iI (bw 1) wm)))) (tts:=jf) (te:=(tOp (qA K) (tOp (qA K) (aV 2) (aV 1)) (aV 0))) ["j","rest","ends"] [none,none,some 3] rfl (bH K rfl (ck (gT K rfl) (pv 2) (wp rk aq) (λ_ _=>rfl))) (λ_ _ _ _=>⟨(kE K rfl (n:=2) rfl (bS (aE (i:=0) (by show w_ (["j","rest","ends"]:List Str);decide +kernel) rfl (by walk_at "o")) (bS (aE (i:=1) (by show w_ (["j","rest","ends"]:List Str);decide +kernel) rfl (by walk_at "o")) gN))),bG,(ck (gT K rfl) (ck (gT K rfl) (pv 2) (pv 1) (λ_ _=>rfl)) (pv 0) (λ_ _=>rfl))⟩) (by kernel_rfl)) (vn (dt (paC (bM (l:=[]) (by decide +kernel)) af)))) af))))),(eM K mg TC)⟩
def pz(D:bE K mg "shortest" ie)(T:Txt mg)(TC:TxC K)(C'18:fR P w K mg base)(C'3:dC P w K mg base)(C'7:eO P w K mg base)(C'5:iG P w K mg base):jW P w K mg base:=D.oP2 ot (by walk_at "b1") oN rfl rfl λ_ _ _ _ _ _ _ hr hu=>⟨_,(ai (eR (aA C'3 (hr.m rfl) (paC (pv 0) af))) (am (aM (aA C'7 (hr.m rfl) (paC (cG K rfl (pv 0) rfl) (paC (cG K rfl (pv 0) rfl) (paC (aA C'5 (hr.m rfl) (paC (pR (pv 0) TC.cl_Family C'18 (hr.m rfl)) af)) af))))))),(jG K mg TC)⟩
def AZ(D:bE K mg "lap" x5)(T:Txt mg)(TC:TxC K):wc P w K mg base:=D.oP2 vU (by walk_at "b2") AW rfl rfl λ_ _ _ _ _ _ _ hr hu=>⟨_,(ai (dM Dv rfl (mw rfl T.b_range (paC (aR nX (al (vD rfl) rfl T.b_min boot_min (paC (al (bD K rfl) rfl T.b_len j_ (paC (pv 0) af)) (paC (al (bD K rfl) rfl T.b_len j_ (paC (pv 1) af)) af))) aq) (paC aq (paC (wp rk aq) af)))) (aE (i:=2) vU.nd rfl (by walk_at "o")) (am (dk (fb (iy K rfl Gp PySem.F.slot_str_endswith PySem.F.type_str_endswith xx (pv 0) (paC (bn (nS K rfl) (pv 1) cj (bF (pv 2))) af))) (am (aM (pv 2))) ba))) (am (aM aq))),(v9 K mg TC)⟩
def pA(D:bE K mg "all_laps" ig)(T:Txt mg)(TC:TxC K)(C'9:wc P w K mg base):jX P w K mg base:=D.oP2 ou (by walk_at "b1") oQ rfl rfl λ_ _ _ _ _ _ _ hr hu=>⟨_,(am (aM (bV (gX K rfl) rfl T.b_tuple FT (paC (bg (wi:=(iA K (aV 0))) (g:=(bw 0)) (tts:=jf) (te:=(tCB (xu K) (aU (mC [none,some 0] (iA K (aV 1)) (bw 0) jf (d5 (spP K nq) [] E0 (aU (aV 1) (aU (aV 0) dZ)))) dZ))) ["one","words"] [none,some 0] rfl (bH K rfl (pv 0)) (λ_ _ _ _=>⟨(aE (i:=0) (by show w_ (["one","words"]:List Str);decide +kernel) rfl (by walk_at "o")),bG,(bV (gX K rfl) rfl T.b_tuple FT (paC (bg (wi:=(iA K (aV 1))) (g:=(bw 0)) (tts:=jf) (te:=(d5 (spP K nq) [] E0 (aU (aV 1) (aU (aV 0) dZ)))) ["other","one"] [none,some 0] rfl (bH K rfl (pv 1)) (λ_ _ _ _=>⟨(aE (i:=0) (by show w_ (["other","one"]:List Str);decide +kernel) rfl (by walk_at "o")),bG,(aA C'9 (hr.m rfl) (paC (pv 1) (paC (pv 0) af)))⟩) (by kernel_rfl)) af))⟩) (by kernel_rfl)) af)))),(jH K mg TC)⟩
def qV(D:pO K mg "is_text" dU [.int 0,.int 4000])(T:Txt mg)(TC:TxC K):zi P w K mg base 1 "is_text" ["thing","least","most"] [.int 0,.int 4000] (spP K dX):=by
 refine D.ok qK (λdT kV doc pm an cdv ct items us n hi hn hl=>?_) (λvs H Q E h=>?_) (λf cdv A outer s H vs Q E hr h=>?_)
 .obtain⟨i0,i1,rfl⟩:=AE hi;have hn':n=0\/n=1\/n=2:=by (have:n<=2:=hn);omega
  rcases hn' with rfl|rfl|rfl
  .have hl2:us.length=1:=by (simp at hl;omega)
   obtain⟨_,rfl⟩:=Ce hl2;exact⟨_,rfl,rfl⟩
  .have hl2:us.length=2:=by (simp at hl;omega)
   obtain⟨_,_,rfl⟩:=AE hl2;exact⟨_,rfl,rfl⟩
  .have hl2:us.length=3:=by (simp at hl;omega)
   obtain⟨_,_,_,rfl⟩:=Cf hl2;exact⟨_,rfl,rfl⟩
 .exact Ba (λds Q h=>(iu ds Q h).1) h
 .have hu:=hr.units;exact⟨_,(ai (dk (PW.pt (rg (lZ (fb (al (xj K rfl) rfl T.b_isinstance boot_isinstance (paC (pv 0) (paC (nF (v:=.ty "str") rfl T.b_str boot_str rfl) af))))) (lY (lZ (tZ A9 A9 (pv 1) (al (bD K rfl) rfl T.b_len j_ (paC (pv 0) af)) (pv 2)))))) (am (aM qe)) ba) (am (aM (al (BR K rfl rfl) rfl T.b_all boot_all (paC (bg (wi:=(iA K (aV 0))) (g:=(bw 0)) (tts:=jf) (te:=(pJ A8 A8 (tC (V.str (S [97]))) (aV 0) (tC (V.str (S [122]))))) ["sign"] [none] rfl (bH K rfl (pv 0)) (λ_ _ _ _=>⟨(aE (i:=0) (by show w_ (["sign"]:List Str);decide +kernel) rfl (by walk_at "o")),bG,(tY A9 A9 (bM (l:=[97]) (by decide +kernel)) (pv 0) (bM (l:=[122]) (by decide +kernel)))⟩) (by kernel_rfl)) af))))),fnP (K:=K) (c:=dX) (ps:=kM) (N:=["thing","least","most"]) (aw (dn (sv (mI (uD (sA .str (ak (i:=0))))) (mI (fJ (pS uF uF (ak (i:=1)) (ac (aW aT (aa (ak (i:=0)) ae))) (ak (i:=2)))))) (aO (qz (i:=false))) bc) (aO (aW zU (aa (ac (aZ (ix:=[none]) rfl (bI (aj (i:=0))) (λfs hc=>(au (i:=0) (gZ hc (by decide)))) cB (pS uF uF (ac (le_str (l:=[97]))) (ak (i:=0)) (ac (le_str (l:=[122])))))) ae)))) (λds Q h=>r_ (Ga (iu ds Q h).1) (by decide)) (λds Q h=>(iu ds Q h).2) h⟩
def kg(D:bE K mg "first_place" eA)(T:Txt mg)(TC:TxC K):dJ P w K mg base:=D.oP2 j9 (by walk_at "b2") ke rfl rfl λ_ _ _ _ _ _ _ hr hu=>⟨_,(am (aM (iy K rfl Gp PySem.F.slot_str_find PySem.F.type_str_find uK (pv 0) (paC (pv 1) af)))),(fO K mg TC)⟩
def j5(D:bE K mg "check_pieces" dG)(T:Txt mg)(TC:TxC K)(C'11:qT P w K mg base):fq P w K mg base:=D.oP2 c6 (by walk_at "b1") jJ rfl rfl λ_ _ _ _ _ _ _ hr hu=>⟨_,(ai (dk (aI uM (al (bD K rfl) rfl T.b_len j_ (paC (pv 0) af)) (k9 rfl T.g_MOST_PIECES) (a8 _)) (am kU) ba) (am (dM Dv rfl (pU K rfl rfl T.b_enumerate (paC (pv 0) af)) (kE K rfl (n:=2) rfl (bS (aE (i:=1) c6.nd rfl (by walk_at "o")) (bS (aE (i:=2) c6.nd rfl (by walk_at "o")) gN))) (am (dk (lZ (fb (uS 2 C'11 (hr.m rfl) (by decide) (paC (pv 2) (paC aq (paC (k9 rfl T.g_MOST_SIGNS) af)))))) (am kU) ba))))),(fm K mg TC)⟩
def iV(D:bE K mg "stands_within" cZ)(T:Txt mg)(TC:TxC K)(C'12:dJ P w K mg base):cJ P w K mg base:=D.oP2 iO (by walk_at "b2") iT rfl rfl λ_ _ _ _ _ _ _ hr hu=>⟨_,(am (aM (i5 CO (aA C'12 (hr.m rfl) (paC (pv 1) (paC (pv 0) af))) aq (a8 _)))),(eN K mg TC)⟩
def qW(D:bE K mg "is_kept" ju)(T:Txt mg)(TC:TxC K)(C'14:cJ P w K mg base):kQ P w K mg base:=D.oP2 iq (by walk_at "b2") qQ rfl rfl λ_ _ _ _ _ _ _ hr hu=>⟨_,(ai (aN (i:=2) iq.nd rfl (by walk_at "o") (ck (gT K rfl) (pv 0) (pv 1) (λ_ _=>rfl))) (ai (r8 (wi:=(iA K (aV 0))) (g:=(bw 0)) (tts:=(nG (tOp BZ (tCB (jk K) (aU (aV 0) dZ)) (tCB (jk K) (aU (aV 1) dZ))))) (te:=(aV 0)) (i:=3) ["other","piece"] [none,some 2] iq.nd rfl (Or.inl rfl) rfl (bH K rfl (pv 0)) (λ_ _ _ _=>⟨(aE (i:=0) (by show w_ (["other","piece"]:List Str);decide +kernel) rfl (by walk_at "o")),(gR (aI uM (al (bD K rfl) rfl T.b_len j_ (paC (pv 0) af)) (al (bD K rfl) rfl T.b_len j_ (paC (pv 1) af)) (a8 _))),(pv 0)⟩) (by kernel_rfl)) (am (aM (yx (i5 (iZ K rfl) (pv 2) (bn (nS K rfl) (pv 0) cj (bF (pv 1))) (by with_unfolding_all rfl)) (vn (yy (al (BS K rfl rfl) rfl T.b_any boot_any (paC (bg (wi:=(iA K (aV 3))) (g:=(bw 0)) (tts:=jf) (te:=(d5 (spP K bd) [] E0 (aU (aV 1) (aU (aV 0) dZ)))) ["other","piece"] [none,some 2] rfl (bH K rfl (pv 3)) (λ_ _ _ _=>⟨(aE (i:=0) (by show w_ (["other","piece"]:List Str);decide +kernel) rfl (by walk_at "o")),bG,(aA C'14 (hr.m rfl) (paC (pv 1) (paC (pv 0) af)))⟩) (by kernel_rfl)) af))))))))),(kN K mg TC)⟩
def pD(D:bE K mg "left_row" ii)(T:Txt mg)(TC:TxC K)(C'12:dJ P w K mg base)(C'14:cJ P w K mg base):jY P w K mg base:=D.oP2 jw (by walk_at "b3") oU rfl rfl λ_ _ _ _ _ _ _ hr hu=>⟨_,(ai (aN (i:=3) jw.nd rfl (by walk_at "o") (al (zR K rfl rfl) rfl T.b_min boot_min (paC (bg (wi:=(iA K (aV 1))) (g:=(bw 0)) (tts:=(tB (d5 (spP K bd) [] E0 (aU (tOp (qA K) (aV 1) (aV 2)) (aU (tOp (qA K) (aV 1) (aV 0)) dZ))))) (te:=(aV 0)) ["one","pieces","at"] [none,some 0,some 2] rfl (bH K rfl (pv 1)) (λ_ _ _ _=>⟨(aE (i:=0) (by show w_ (["one","pieces","at"]:List Str);decide +kernel) rfl (by walk_at "o")),(gR (fb (aA C'14 (hr.m rfl) (paC (ck (gT K rfl) (pv 1) (pv 2) (λ_ _=>rfl)) (paC (ck (gT K rfl) (pv 1) (pv 0) (λ_ _=>rfl)) af))))),(pv 0)⟩) (by kernel_rfl)) af))) (am (aM (pK (paC (pv 2) (paC (pv 3) (paC (aA C'12 (hr.m rfl) (paC (ck (gT K rfl) (pv 0) (pv 3) (λ_ _=>rfl)) (paC (ck (gT K rfl) (pv 0) (pv 2) (λ_ _=>rfl)) af))) af))))))),(jK K mg TC)⟩
def kh(D:pQ K mg (bo K "Family") "Family" "Family.__init__" br)(T:Txt mg)(TC:TxC K)(C'10:jX P w K mg base)(C'13:fq P w K mg base)(C'15:kQ P w K mg base)(C'16:jY P w K mg base):zj P w K mg base 4 (bo K "Family") "Family" ["self","pieces"] (spR K bh):=by
 refine D.ok fM (λ_ _ _ _ _ _ us hl=>match us,hl with|[_,_],_=>rfl) (λvs H Q E h=>?_) (λf cdv A outer s H vs Q E hr h=>?_)
 .exact Dn (λp ds Q h=>(dH p ds Q h).1) h
 .have hu:=hr.units;exact⟨_,(ai (eR (aA C'13 (hr.mono (by decide)) (paC (pv 1) af))) (ai (ko (pv 0) (bV (gX K rfl) rfl T.b_tuple FT (paC (pv 1) af)) rfl) (ai (aN (i:=2) fM.nd rfl (by walk_at "o") (bV (z0 K rfl rfl) rfl T.b_list boot_list (paC (sd rfl T.b_range (paC (al (bD K rfl) rfl T.b_len j_ (paC (cG K rfl (pv 0) rfl) af)) af)) af))) (ai (ko (pv 0) (bV (gX K rfl) rfl T.b_tuple FT (paC (bg (wi:=(iA K (aV 2))) (g:=(bw 0)) (tts:=(tB (d5 (spP K dY) [] E0 (aU (tR K (aV 1) "pieces") (aU (aV 0) dZ))))) (te:=(aV 0)) ["at","self"] [none,some 0] rfl (bH K rfl (pv 2)) (λ_ _ _ _=>⟨(aE (i:=0) (by show w_ (["at","self"]:List Str);decide +kernel) rfl (by walk_at "o")),(gR (fb (aA C'15 (hr.mono (by decide)) (paC (cG K rfl (pv 1) rfl) (paC (pv 0) af))))),(pv 0)⟩) (by kernel_rfl)) af)) rfl) (ai (ko (pv 0) (bV (gX K rfl) rfl T.b_tuple FT (paC (bg (wi:=(iA K (tR K (aV 0) "kept"))) (g:=(bw 0)) (tts:=jf) (te:=(tOp (qA K) (tR K (aV 1) "pieces") (aV 0))) ["at","self"] [none,some 0] rfl (bH K rfl (cG K rfl (pv 0) rfl)) (λ_ _ _ _=>⟨(aE (i:=0) (by show w_ (["at","self"]:List Str);decide +kernel) rfl (by walk_at "o")),bG,(ck (gT K rfl) (cG K rfl (pv 1) rfl) (pv 0) (λ_ _=>rfl))⟩) (by kernel_rfl)) af)) rfl) (ai (ko (pv 0) (bV (gX K rfl) rfl T.b_tuple FT (paC (bg (wi:=(iA K (aV 2))) (g:=(bw 0)) (tts:=(nG (tOp (At K true) (aV 0) (tR K (aV 1) "kept")))) (te:=(d5 (spP K df) [] E0 (aU (tR K (aV 1) "pieces") (aU (tR K (aV 1) "kept") (aU (aV 0) dZ))))) ["at","self"] [none,some 0] rfl (bH K rfl (pv 2)) (λ_ _ _ _=>⟨(aE (i:=0) (by show w_ (["at","self"]:List Str);decide +kernel) rfl (by walk_at "o")),(gR (aI (iZ K rfl) (pv 0) (cG K rfl (pv 1) rfl) (by with_unfolding_all rfl))),(aA C'16 (hr.mono (by decide)) (paC (cG K rfl (pv 1) rfl) (paC (cG K rfl (pv 1) rfl) (paC (pv 0) af))))⟩) (by kernel_rfl)) af)) rfl) (ai (ko (pv 0) (aA C'10 (hr.mono (by decide)) (paC (cG K rfl (pv 0) rfl) af)) rfl) (am (ko (pv 0) (al (zS K rfl rfl) rfl T.b_sum boot_sum (paC (bg (wi:=(iA K (tR K (aV 0) "words"))) (g:=(bw 0)) (tts:=jf) (te:=(tCB (jk K) (aU (aV 0) dZ))) ["word"] [none] rfl (bH K rfl (cG K rfl (pv 0) rfl)) (λ_ _ _ _=>⟨(aE (i:=0) (by show w_ (["word"]:List Str);decide +kernel) rfl (by walk_at "o")),bG,(al (bD K rfl) rfl T.b_len j_ (paC (pv 0) af))⟩) (by kernel_rfl)) af)) rfl))))))))),fnR (K:=K) (c:=bh) (ps:=fP) (N:=["self","pieces","indexes"]) (aw (eW (ar (c:=cb) (aa (ac (aj (i:=1))) ae))) (aw (gY (c0:="Family") (ns0:=[]) (i:=0) TC.cl_Family TC.n_Family_pieces (by decide +kernel) (aW fC (aa (ak (i:=1)) ae))) (aw (aH (uJ false (aa (ac (aW aT (aa (ac (eJ (ns0:=["pieces"]) TC.cl_Family TC.n_Family_pieces (i:=0) (by decide +kernel) (ak (i:=0)))) ae))) ae)) (aC (i:=2) rfl)) (aw (gY (c0:="Family") (ns0:=["pieces"]) (i:=0) TC.cl_Family TC.n_Family_kept (by decide +kernel) (aW fC (aa (ac (aZ (ix:=[none,some 0]) rfl (bI (aj (i:=2))) (λfs hc=>(au (i:=0) (gZ hc (by decide)))) (uD (ar (c:=dY) (aa (ac (eJ (ns0:=["pieces"]) TC.cl_Family TC.n_Family_pieces (i:=0) (by decide +kernel) (ak (i:=1)))) (aa (ac (aj (i:=0))) ae)))) (aj (i:=0)))) ae))) (aw (gY (c0:="Family") (ns0:=["pieces","kept"]) (i:=0) TC.cl_Family TC.n_Family_words (by decide +kernel) (aW fC (aa (ac (aZ (ix:=[none,some 0]) rfl (bI (eJ (ns0:=["pieces","kept"]) TC.cl_Family TC.n_Family_kept (i:=1) (by decide +kernel) (ak (i:=0)))) (λfs hc=>(au (i:=0) (gZ hc (by decide)))) cB (ao cm (ac (eJ (ns0:=["pieces","kept"]) TC.cl_Family TC.n_Family_pieces (i:=0) (by decide +kernel) (ak (i:=1)))) (ak (i:=0))))) ae))) (aw (gY (c0:="Family") (ns0:=["pieces","kept","words"]) (i:=0) TC.cl_Family TC.n_Family_left (by decide +kernel) (aW fC (aa (ac (aZ (ix:=[none,some 0]) rfl (bI (aj (i:=2))) (λfs hc=>(au (i:=0) (gZ hc (by decide)))) (fJ (ao (kH (neg:=true)) (ak (i:=0)) (ac (eJ (ns0:=["pieces","kept","words"]) TC.cl_Family TC.n_Family_kept (i:=1) (by decide +kernel) (ak (i:=1)))))) (ar (c:=df) (aa (ac (eJ (ns0:=["pieces","kept","words"]) TC.cl_Family TC.n_Family_pieces (i:=0) (by decide +kernel) (ak (i:=1)))) (aa (ac (eJ (ns0:=["pieces","kept","words"]) TC.cl_Family TC.n_Family_kept (i:=1) (by decide +kernel) (ak (i:=1)))) (aa (ac (aj (i:=0))) ae)))))) ae))) (aw (gY (c0:="Family") (ns0:=["pieces","kept","words","left"]) (i:=0) TC.cl_Family TC.n_Family_laps (by decide +kernel) (ar (c:=eE) (aa (ac (eJ (ns0:=["pieces","kept","words","left"]) TC.cl_Family TC.n_Family_words (i:=2) (by decide +kernel) (ak (i:=0)))) ae))) (gY (c0:="Family") (ns0:=["pieces","kept","words","left","laps"]) (i:=0) TC.cl_Family TC.n_Family_total (by decide +kernel) (aW xt (aa (ac (aZ (ix:=[none]) rfl (bI (eJ (ns0:=["pieces","kept","words","left","laps"]) TC.cl_Family TC.n_Family_words (i:=2) (by decide +kernel) (ak (i:=0)))) (λfs hc=>(au (i:=0) (gZ hc (by decide)))) cB (aW aT (aa (ak (i:=0)) ae)))) ae)))))))))) (λp ds Q h=>r_ (Ga (dH p ds Q h).1) (by decide)) (λp ds Q _ h=>(dH p ds Q h).2) h⟩
def ki(D:pP K (bo K "Family") "many" "Family.many" bu)(T:Txt mg)(TC:TxC K):A7 P w K mg base 1 (bo K "Family") "many" ["self"] (spP K bA):=by
 refine D.ok kc (λ_ _ _ _ _ _ us hl=>match us,hl with|[_],_=>rfl) (λvs H Q E h=>?_) (λf cdv A outer s H vs Q E hr h=>?_)
 .exact Ba (λds Q h=>(dI ds Q h).1) h
 .have hu:=hr.units;exact⟨_,(am (aM (al (bD K rfl) rfl T.b_len j_ (paC (cG K rfl (pv 0) rfl) af)))),fnP (K:=K) (c:=bA) (ps:=fQ) (N:=["self"]) (aO (aW aT (aa (ac (eJ (ns0:=["pieces","kept","words","left","laps","total"]) TC.cl_Family TC.n_Family_words (i:=2) (by decide +kernel) (ak (i:=0)))) ae))) (λds Q h=>r_ (Ga (dI ds Q h).1) (by decide)) (λds Q h=>(dI ds Q h).2) h⟩
def pE(D:bE K mg "_law_cell" il)(T:Txt mg)(TC:TxC K):gk P w K mg base:=D.oP2 oy (by walk_at "b2") oW rfl rfl λ_ _ _ _ _ _ _ hr hu=>⟨_,(ai (dk (aI (mO K rfl hu) (al (bD K rfl) rfl T.b_len j_ (paC (pv 0) af)) aq (a8 _)) (am (aM (aR (a9 K rfl) (aR lh aq (pv 1)) aq))) ba) (am (aM (al zN rfl T.b_abs boot_abs (paC (ck (gT K rfl) (pv 0) (aR qE (pv 1) (al (bD K rfl) rfl T.b_len j_ (paC (pv 0) af))) (λ_ _=>rfl)) af))))),(jM K mg TC)⟩
def pF(D:bE K mg "_law_draw" im)(T:Txt mg)(TC:TxC K)(C'19:gk P w K mg base):eH P w K mg base:=D.oP2 fZ (by walk_at "b3") oY rfl rfl λ_ _ _ _ _ _ _ hr hu=>⟨_,(ai (aN (i:=3) fZ.nd rfl (by walk_at "o") (aR qE (aR (a9 K rfl) (aR (a9 K rfl) (aR lh (aR qE (aA C'19 (hr.m rfl) (paC (pv 0) (paC (pv 1) af))) aq) aq) (aR lh (aR lh (pv 1) (pv 1)) aq)) aq) aq)) (ai (aN (i:=3) fZ.nd rfl (by walk_at "o") (aR qE (aR (a9 K rfl) (aR (a9 K rfl) (aR lh (pv 3) (pv 3)) (aR lh aq (pv 3))) (aR lh (pv 1) aq)) aq)) (am (aM (aR qE (aR vH (pv 3) aq) (pv 2)))))),(jN K mg TC)⟩
def gl(D:bE K mg "_law_digit_pieces" b9)(T:Txt mg)(TC:TxC K):bU P w K mg base:=D.oP2 aF (by walk_at "b2") gi rfl rfl λ_ _ _ _ _ _ _ hr hu=>⟨_,(ai (aN (i:=2) aF.nd rfl (by walk_at "o") (dt af)) (ai (aN (i:=3) aF.nd rfl (by walk_at "o") (bM (l:=[]) (by decide +kernel))) (ai (aN (i:=4) aF.nd rfl (by walk_at "o") aq) (ai (tW Dv (PW.pt (i4 (aI uM (pv 0) aq (a8 _)) (fT (aI zu (pv 4) aq (a8 _))))) (ai (aN (i:=5) aF.nd rfl (by walk_at "o") (aR qE (pv 0) aq)) (ai (aN (i:=0) aF.nd rfl (by walk_at "o") (aR vH (pv 0) aq)) (ai (yE (i:=4) aF.nd rfl (by walk_at "o") aq xA) (ai (nO (dk (aI zu (pv 5) aq (a8 _)) (am (aN (i:=3) aF.nd rfl (by walk_at "o") (aR (a9 K rfl) (pv 3) (ck (gT K rfl) (bM (l:=[97,98,99,100,101,102,103,104,105,106,107,108,109,110,111,112,113,114,115,116,117,118,119,120,121,122]) (by decide +kernel)) (pv 5) (λ_ _=>rfl))))) ba)) (am (dk (PW.pt (i4 (aI (qF K rfl hu) (pv 3) (bM (l:=[]) (by decide +kernel)) (a8 _)) (fT (PW.pt (rg (aI (mO K rfl hu) (pv 5) aq (a8 _)) (lY (aI (mO K rfl hu) (al (bD K rfl) rfl T.b_len j_ (paC (pv 3) af)) aq (a8 _)))))))) (ai (eR (iy K rfl DT D4 D5 dN (pv 2) (paC (pv 3) af))) (am (aN (i:=3) aF.nd rfl (by walk_at "o") (bM (l:=[]) (by decide +kernel))))) ba))))))) (ai (nO (dk (aI (qF K rfl hu) (pv 3) (bM (l:=[]) (by decide +kernel)) (a8 _)) (am (eR (iy K rfl DT D4 D5 dN (pv 2) (paC (pv 3) af)))) ba)) (am (aM (bn (nS K rfl) (pv 2) cj (bF (pv 1)))))))))),(di K mg TC)⟩
def lS(D:bE K mg "_law_pieces" fe)(T:Txt mg)(TC:TxC K)(C'19:gk P w K mg base)(C'21:bU P w K mg base)(C'20:eH P w K mg base):gJ P w K mg base:=D.oP2 bf (by walk_at "b2") lP rfl rfl λ_ _ _ _ _ _ _ hr hu=>⟨_,(ai (dk (aI CO (aA C'19 (hr.m rfl) (paC (pv 0) (paC aq af))) (aR B0 aq aq) (a8 _)) (am (aM (aA C'21 (hr.m rfl) (paC (aA C'19 (hr.m rfl) (paC (pv 0) (paC aq af))) (paC (pv 1) af))))) ba) (ai (aN (i:=2) bf.nd rfl (by walk_at "o") (ck (gT K rfl) (dt (paC (bM (l:=[97,98]) (by decide +kernel)) (paC (bM (l:=[97,98,99]) (by decide +kernel)) (paC (bM (l:=[120,121,122,97,98]) (by decide +kernel)) af)))) (aA C'20 (hr.m rfl) (paC (pv 0) (paC aq (paC aq af)))) (λ_ _=>rfl))) (ai (aN (i:=3) bf.nd rfl (by walk_at "o") (bM (l:=[]) (by decide +kernel))) (ai (dM Dv rfl (cw rfl T.b_range (paC aq af)) (aE (i:=4) bf.nd rfl (by walk_at "o")) (am (aN (i:=3) bf.nd rfl (by walk_at "o") (aR (a9 K rfl) (pv 3) (ck (gT K rfl) (pv 2) (aA C'20 (hr.m rfl) (paC (pv 0) (paC (aR (a9 K rfl) aq (pv 4)) (paC (al (bD K rfl) rfl T.b_len j_ (paC (pv 2) af)) af)))) (λ_ _=>rfl)))))) (ai (aN (i:=5) bf.nd rfl (by walk_at "o") (dt af)) (ai (dM Dv rfl (cw rfl T.b_range (paC (aR (a9 K rfl) aq (aA C'20 (hr.m rfl) (paC (pv 0) (paC aq (paC (pv 1) af))))) af)) (aE (i:=4) bf.nd rfl (by walk_at "o")) (ai (aN (i:=6) bf.nd rfl (by walk_at "o") (aA C'20 (hr.m rfl) (paC (pv 0) (paC (aR (a9 K rfl) aq (aR lh aq (pv 4))) (paC aq af))))) (am (eR (iy K rfl DT D4 D5 dN (pv 5) (paC (bn (nS K rfl) (pv 3) (bF (pv 6)) (bF (aR (a9 K rfl) (aR (a9 K rfl) (pv 6) aq) (aA C'20 (hr.m rfl) (paC (pv 0) (paC (aR (a9 K rfl) aq (aR lh aq (pv 4))) (paC aq af))))))) af)))))) (am (aM (pv 5))))))))),(gG K mg TC)⟩
def qX(D:bE K mg "_law_lap" jv)(T:Txt mg)(TC:TxC K):kR P w K mg base:=D.oP2 kJ (by walk_at "b2") qS rfl rfl λ_ _ _ _ _ _ _ hr hu=>⟨_,(ai (dM Dv rfl (mw rfl T.b_range (paC (aR nX (al (vD rfl) rfl T.b_min boot_min (paC (al (bD K rfl) rfl T.b_len j_ (paC (pv 0) af)) (paC (al (bD K rfl) rfl T.b_len j_ (paC (pv 1) af)) af))) aq) (paC aq (paC (wp rk aq) af)))) (aE (i:=2) kJ.nd rfl (by walk_at "o")) (am (dk (aI (mO K rfl hu) (bn (nS K rfl) (pv 0) (bF (aR nX (al (bD K rfl) rfl T.b_len j_ (paC (pv 0) af)) (pv 2))) cj) (bn (nS K rfl) (pv 1) cj (bF (pv 2))) (a8 _)) (am (aM (pv 2))) ba))) (am (aM aq))),(kO K mg TC)⟩
def pG(D:bE K mg "_law_kept" io)(T:Txt mg)(TC:TxC K):jZ P w K mg base:=D.oP2 c8 (by walk_at "b1") o0 rfl rfl λ_ _ _ _ _ _ _ hr hu=>⟨_,(ai (aN (i:=1) c8.nd rfl (by walk_at "o") (dt af)) (ai (dM Dv rfl (pU K rfl rfl T.b_enumerate (paC (pv 0) af)) (kE K rfl (n:=2) rfl (bS (aE (i:=2) c8.nd rfl (by walk_at "o")) (bS (aE (i:=3) c8.nd rfl (by walk_at "o")) gN))) (ai (r8 (wi:=(iA K (aV 0))) (g:=(bw 0)) (tts:=(Be (nG (tOp BZ (tCB (jk K) (aU (aV 0) dZ)) (tCB (jk K) (aU (aV 1) dZ)))) (nG (tOp (At K false) (aV 1) (aV 0))))) (te:=(aV 0)) (i:=4) ["_law_other","_law_piece"] [none,some 3] c8.nd rfl (Or.inl rfl) rfl (bH K rfl (pv 0)) (λ_ _ _ _=>⟨(aE (i:=0) (by show w_ (["_law_other","_law_piece"]:List Str);decide +kernel) rfl (by walk_at "o")),(gR (PW.pt (i4 (aI uM (al (bD K rfl) rfl T.b_len j_ (paC (pv 0) af)) (al (bD K rfl) rfl T.b_len j_ (paC (pv 1) af)) (a8 _)) (fT (aI (Au K rfl) (pv 1) (pv 0) (by with_unfolding_all rfl)))))),(pv 0)⟩) (by kernel_rfl)) (am (dk (PW.pt (i4 (aI (mO K rfl hu) (al (bD K rfl) rfl T.b_len j_ (paC (pv 4) af)) aq (a8 _)) (fT (aI (iZ K rfl) (pv 3) (bn (nS K rfl) (pv 0) cj (bF (pv 2))) (by with_unfolding_all rfl))))) (am (eR (iy K rfl DT D4 D5 dN (pv 1) (paC (pv 2) af)))) ba)))) (am (aM (pv 1))))),(jO K mg TC)⟩
def lT(D:bE K mg "_law_orders" fh)(T:Txt mg)(TC:TxC K):gK P w K mg base:=D.oP2 bK (by walk_at "b1") lR rfl rfl λ_ _ _ _ _ _ _ hr hu=>⟨_,(ai (aN (i:=1) bK.nd rfl (by walk_at "o") (dt (paC (dt af) af))) (ai (dM Dv rfl (cw rfl T.b_range (paC (pv 0) af)) (aE (i:=2) bK.nd rfl (by walk_at "o")) (ai (aN (i:=3) bK.nd rfl (by walk_at "o") (dt af)) (ai (dM Dv rfl (bH K rfl (pv 1)) (aE (i:=4) bK.nd rfl (by walk_at "o")) (am (eR (iy K rfl DT PySem.F.slot_list_extend PySem.F.type_list_extend rH (pv 3) (paC (bg (wi:=(ri (aU (tOp (n9 K) (aV 2) (tC (V.int 1))) dZ))) (g:=(bw 0)) (tts:=jf) (te:=(tOp (n9 K) (tOp (n9 K) (tSl (xh K) (aV 1) gO (qu (aV 0))) (Bn (aU (aV 2) dZ))) (tSl (xh K) (aV 1) (qu (aV 0)) gO))) ["_law_at","_law_order","_law_k"] [none,some 4,some 2] rfl (cw rfl T.b_range (paC (aR (a9 K rfl) (pv 2) aq) af)) (λ_ _ _ _=>⟨(aE (i:=0) (by show w_ (["_law_at","_law_order","_law_k"]:List Str);decide +kernel) rfl (by walk_at "o")),bG,(aR (a9 K rfl) (aR (a9 K rfl) (bn (nS K rfl) (pv 1) cj (bF (pv 0))) (dt (paC (pv 2) af))) (bn (nS K rfl) (pv 1) (bF (pv 0)) cj))⟩) (by kernel_rfl)) af))))) (am (aN (i:=1) bK.nd rfl (by walk_at "o") (pv 3)))))) (am (aM (pv 1))))),(gH K mg TC)⟩
def nC(D:bE K mg "_law_glued" fY)(T:Txt mg)(TC:TxC K)(C'23:kR P w K mg base):iH P w K mg base:=D.oP2 bW (by walk_at "b2") nA rfl rfl λ_ _ _ _ _ _ _ hr hu=>⟨_,(ai (aN (i:=2) bW.nd rfl (by walk_at "o") (bM (l:=[]) (by decide +kernel))) (ai (dM Dv rfl (cw rfl T.b_range (paC (al (bD K rfl) rfl T.b_len j_ (paC (pv 1) af)) af)) (aE (i:=3) bW.nd rfl (by walk_at "o")) (ai (aN (i:=4) bW.nd rfl (by walk_at "o") aq) (ai (nO (dk (aI uM (pv 3) aq (a8 _)) (am (aN (i:=4) bW.nd rfl (by walk_at "o") (aA C'23 (hr.m rfl) (paC (ck (gT K rfl) (pv 0) (ck (gT K rfl) (pv 1) (aR nX (pv 3) aq) (λ_ _=>rfl)) (λ_ _=>rfl)) (paC (ck (gT K rfl) (pv 0) (ck (gT K rfl) (pv 1) (pv 3) (λ_ _=>rfl)) (λ_ _=>rfl)) af))))) ba)) (am (aN (i:=2) bW.nd rfl (by walk_at "o") (aR (a9 K rfl) (pv 2) (bn (nS K rfl) (ck (gT K rfl) (pv 0) (ck (gT K rfl) (pv 1) (pv 3) (λ_ _=>rfl)) (λ_ _=>rfl)) (bF (pv 4)) cj))))))) (am (aM (pv 2))))),(iF K mg TC)⟩
def j6{cd_ Pt_:Addr}(D:m9 K mg "_law_shortest" bz cd_ Pt_)(T:Txt mg)(LH:j8 mg base (.ref cd_) Pt_ (("_law_shortest"++".<locals>.")++"<lambda>"))(TC:TxC K)(C'26:iH P w K mg base)(C'24:jZ P w K mg base)(C'25:gK P w K mg base):ft P w K mg base:=D.oP2 fj (by walk_at "b1") jQ rfl rfl λ_ _ _ _ _ _ hr hu=>⟨_,(ai (aN (i:=1) fj.nd rfl (by walk_at "o") (bg (wi:=(iA K (d5 (spP K eG) [] E0 (aU (aV 0) dZ)))) (g:=(bw 0)) (tts:=jf) (te:=(tOp (qA K) (aV 1) (aV 0))) ["_law_k","_law_pieces_here"] [none,some 0] rfl (bH K rfl (aA C'24 (hr.m rfl) (paC (pv 0) af))) (λ_ _ _ _=>⟨(aE (i:=0) (by show w_ (["_law_k","_law_pieces_here"]:List Str);decide +kernel) rfl (by walk_at "o")),bG,(ck (gT K rfl) (pv 1) (pv 0) (λ_ _=>rfl))⟩) (by kernel_rfl))) (am (aM (xX K rfl rfl (hr.m rfl) rfl T.b_min (paC (bg (wi:=(iA K (d5 (spP K cK) [] E0 (aU (tCB (jk K) (aU (aV 1) dZ)) dZ)))) (g:=(bw 0)) (tts:=jf) (te:=(d5 (spP K dA) [] E0 (aU (aV 1) (aU (aV 0) dZ)))) ["_law_order","_law_words"] [none,some 1] rfl (bH K rfl (aA C'25 (hr.m rfl) (paC (al (bD K rfl) rfl T.b_len j_ (paC (pv 1) af)) af))) (λ_ _ _ _=>⟨(aE (i:=0) (by show w_ (["_law_order","_law_words"]:List Str);decide +kernel) rfl (by walk_at "o")),bG,(aA C'26 (hr.m rfl) (paC (pv 1) (paC (pv 0) af)))⟩) (by kernel_rfl)) af) LH (by decide +kernel) rfl ⟨rfl,rfl,rfl,by decide +kernel,rfl,by decide +kernel,by decide +kernel⟩ (λ_ _ _ _ _=>.of_eq rfl) (λ_ _ _ _ _=>pK (paC (al (bD K rfl) rfl T.b_len j_ (paC (pv 0) af)) (paC (pv 0) af))))))),(fo K mg TC)⟩
def pH(D:bE K mg "_law_more" ip)(T:Txt mg)(TC:TxC K)(C'21:bU P w K mg base)(C'20:eH P w K mg base):j4 P w K mg base:=D.oP2 cr (by walk_at "b2") o7 rfl rfl λ_ _ _ _ _ _ _ hr hu=>⟨_,(ai (aN (i:=2) cr.nd rfl (by walk_at "o") (aA C'20 (hr.m rfl) (paC (pv 0) (paC aq (paC aq af))))) (ai (dk (PW.pt (i4 (aI (mO K rfl hu) (pv 2) aq (a8 _)) (fT (aI uM (al (bD K rfl) rfl T.b_len j_ (paC (pv 1) af)) aq (a8 _))))) (ai (aN (i:=3) cr.nd rfl (by walk_at "o") (aA C'20 (hr.m rfl) (paC (pv 0) (paC aq (paC (al (bD K rfl) rfl T.b_len j_ (paC (pv 1) af)) af))))) (am (aM (bn (nS K rfl) (pv 1) (bF (pv 3)) (bF (aR (a9 K rfl) (aR (a9 K rfl) (pv 3) aq) (aA C'20 (hr.m rfl) (paC (pv 0) (paC aq (paC aq af)))))))))) ba) (ai (dk (PW.pt (i4 (aI (mO K rfl hu) (pv 2) aq (a8 _)) (fT (aI uM (al (bD K rfl) rfl T.b_len j_ (paC (pv 0) af)) aq (a8 _))))) (am (aM (ck (gT K rfl) (aR (a9 K rfl) (aA C'21 (hr.m rfl) (paC (al zN rfl T.b_abs boot_abs (paC (ck (gT K rfl) (pv 0) (aR nX (al (bD K rfl) rfl T.b_len j_ (paC (pv 0) af)) aq) (λ_ _=>rfl)) af)) (paC aq af))) (dt (paC (bM (l:=[98,97]) (by decide +kernel)) af))) aq (λ_ _=>rfl)))) ba) (ai (aN (i:=4) cr.nd rfl (by walk_at "o") (bM (l:=[]) (by decide +kernel))) (ai (dM Dv rfl (cw rfl T.b_range (paC (aR (a9 K rfl) aq (aA C'20 (hr.m rfl) (paC (pv 0) (paC aq (paC aq af))))) af)) (aE (i:=5) cr.nd rfl (by walk_at "o")) (am (aN (i:=4) cr.nd rfl (by walk_at "o") (aR (a9 K rfl) (pv 4) (ck (gT K rfl) (bM (l:=[97,98,99]) (by decide +kernel)) (aA C'20 (hr.m rfl) (paC (pv 0) (paC (aR (a9 K rfl) aq (pv 5)) (paC aq af)))) (λ_ _=>rfl)))))) (am (aM (pv 4)))))))),(jR K mg TC)⟩
def A0(D:bE K mg "law" vf)(T:Txt mg)(TC:TxC K)(C'17:kf P w K mg base)(C'20:eH P w K mg base)(C'28:j4 P w K mg base)(C'22:gJ P w K mg base)(C'27:ft P w K mg base)(C'8:jW P w K mg base):AY P w K mg base:=D.oP2 jx (by walk_at "b1") AX rfl rfl λ_ _ _ _ _ _ _ hr hu=>⟨_,(ai (aN (i:=1) jx.nd rfl (by walk_at "o") (aA C'22 (hr.m rfl) (paC (pv 0) (paC aq af)))) (ai (aN (i:=2) jx.nd rfl (by walk_at "o") (aA C'8 (hr.m rfl) (paC (lv C'17 (hr.m rfl) (paC (pv 1) af)) af))) (ai (dk (PW.pt (rg (lZ (fb (al (xj K rfl) rfl T.b_isinstance boot_isinstance (paC (pv 2) (paC (nF (v:=.ty "str") rfl T.b_str boot_str rfl) af))))) (lY (aI (qF K rfl hu) (pv 2) (aA C'27 (hr.m rfl) (paC (pv 1) af)) (a8 _))))) (am (aM qe)) ba) (ai (aN (i:=3) jx.nd rfl (by walk_at "o") (aA C'28 (hr.m rfl) (paC (pv 0) (paC (pv 2) af)))) (ai (aN (i:=4) jx.nd rfl (by walk_at "o") (aA C'20 (hr.m rfl) (paC (pv 0) (paC aq (paC (aR (a9 K rfl) (al (bD K rfl) rfl T.b_len j_ (paC (pv 1) af)) aq) af))))) (ai (aN (i:=5) jx.nd rfl (by walk_at "o") (aA C'8 (hr.m rfl) (paC (lv C'17 (hr.m rfl) (paC (aR (a9 K rfl) (aR (a9 K rfl) (bn (nS K rfl) (pv 1) cj (bF (pv 4))) (dt (paC (pv 3) af))) (bn (nS K rfl) (pv 1) (bF (pv 4)) cj)) af)) af))) (ai (dk (PW.pt (rg (lZ (fb (al (xj K rfl) rfl T.b_isinstance boot_isinstance (paC (pv 5) (paC (nF (v:=.ty "str") rfl T.b_str boot_str rfl) af))))) (lY (aI (qF K rfl hu) (pv 5) (aA C'27 (hr.m rfl) (paC (aR (a9 K rfl) (pv 1) (dt (paC (pv 3) af))) af)) (a8 _))))) (am (aM qe)) ba) (ai (dk (PW.pt (rg (aI zu (al (bD K rfl) rfl T.b_len j_ (paC (pv 5) af)) (al (bD K rfl) rfl T.b_len j_ (paC (pv 2) af)) (a8 _)) (lY (aI uM (al (bD K rfl) rfl T.b_len j_ (paC (pv 5) af)) (aR (a9 K rfl) (al (bD K rfl) rfl T.b_len j_ (paC (pv 2) af)) (al (bD K rfl) rfl T.b_len j_ (paC (pv 3) af))) (a8 _))))) (am (aM qe)) ba) (ai (dk (PW.pt (i4 (aI (Au K rfl) (pv 3) (pv 2) (by with_unfolding_all rfl)) (fT (aI (qF K rfl hu) (pv 5) (pv 2) (a8 _))))) (am (aM qe)) ba) (ai (dM Dv rfl (bH K rfl (aR (a9 K rfl) (pv 1) (dt (paC (pv 3) af)))) (aE (i:=6) jx.nd rfl (by walk_at "o")) (am (dk (aI (iZ K rfl) (pv 6) (pv 5) (by with_unfolding_all rfl)) (am (aM qe)) ba))) (am (aM (i5 (mO K rfl hu) (aA C'8 (hr.m rfl) (paC (lv C'17 (hr.m rfl) (paC (pv 1) af)) af)) (pv 2) (a8 _)))))))))))))),(wb K mg TC)⟩
end
def A1{l:PySem.W.OpenLaw}{w:World}{K:a_}{h:Heap}{mg:Str->Option Value}{fa:Addr}(X:K.In h)(G:h.Ns mainGlobals mg)(hfa:mg "law"=some (.ref fa))
  {C_Family:Addr} (aC_Family:so K mainGlobals "Family"=some (some (.ref C_Family))) (pg_Family:EH K C_Family Str.empty=true) (hd_Family:E4 K C_Family=true) (po_Family:FX K C_Family=true) (sa_Family:i_ K (.ref C_Family) "__setattr__"=some (some (.builtin "object.__setattr__"))) (mk_Family:Gs K C_Family=true) (kc_Family:s_ K (.ref C_Family)=true)
  (n_Family_pieces:i_ K (.ref C_Family) "pieces"=some none)
  (n_Family_kept:i_ K (.ref C_Family) "kept"=some none)
  (n_Family_words:i_ K (.ref C_Family) "words"=some none)
  (n_Family_left:i_ K (.ref C_Family) "left"=some none)
  (n_Family_laps:i_ K (.ref C_Family) "laps"=some none)
  (n_Family_total:i_ K (.ref C_Family) "total"=some none)
  (d1:gM K "members" jt)
  (d2:gM K "is_ahead" h9)
  (d3:gM K "heads_of" ib)
  (d4:gM K "lap" x5)
  {f5:Addr}{oc5 kV5 dc5 pm5 cd5 ct5:Value}{od5 an5 dd5:Option Addr}{sl5 st5:Array (Option Value)}{dT5:Addr}{n5:Nat}{u5_0 u5_1:Tok} (a5:so K mainGlobals "is_text"=some (some (.ref f5))) (l5:K.lookup f5=some ⟨oc5,od5,.func (v_ "is_text" "is_text" (bb dU) (aJ dU) (ah dU) (.ref dT5) kV5 dc5 pm5 an5 cd5 ct5),sl5⟩) (c5:Dw K cd5 "is_text"=true) (k5:s_ K (.ref f5)=true) (t5:K.lookup dT5=some ⟨.type "tuple",dd5,.seq [.int 0 u5_0,.int 4000 u5_1].toArray n5,st5⟩)
  (d6:gM K "first_place" eA)
  {f7:Addr}{oc7 kV7 dc7 pm7 cd7 ct7:Value}{od7 an7:Option Addr}{sl7:Array (Option Value)} (a7:i_ K (.ref C_Family) "many"=some (some (.ref f7))) (i7:Fu K (.ref f7)=true) (l7:K.lookup f7=some ⟨oc7,od7,.func (v_ "many" "Family.many" (bb bu) (aJ bu) (ah bu) .none kV7 dc7 pm7 an7 cd7 ct7),sl7⟩) (c7:Dw K cd7 "Family.many"=true) (k7:s_ K (.ref f7)=true)
  (d8:gM K "_law_cell" il)
  (d9:gM K "_law_digit_pieces" b9)
  (d10:gM K "_law_lap" jv)
  (d11:gM K "_law_kept" io)
  (d12:gM K "_law_orders" fh)
  (d13:gM K "foremost" ia)
  (d14:gM K "check_few_words" cq)
  (d15:gM K "sets_left" fX)
  (d16:gM K "all_laps" ig)
  (d17:gM K "check_pieces" dG)
  (d18:gM K "stands_within" cZ)
  (d19:gM K "_law_draw" im)
  (d20:gM K "_law_glued" fY)
  (d21:gM K "all_ends" ic)
  (d22:gM K "is_kept" ju)
  (d23:gM K "left_row" ii)
  (d24:gM K "_law_pieces" fe)
  {fL cL PL:Addr}{ocL clsL:Value}{odL anL ddL:Option Addr}{oslL slL:Array (Option Value)}{kVL dcL pmL ctL:Value}{vsL:Array Value} (aL:so K mainGlobals "_law_shortest"=some (some (.ref fL))) (lL:K.lookup fL=some ⟨ocL,odL,.func (v_ "_law_shortest" "_law_shortest" (bb bz) (aJ bz) (ah bz) .none kVL dcL pmL anL (.ref cL) ctL),oslL⟩) (qL:Dw K (.ref cL) "_law_shortest"=true) (kL:s_ K (.ref fL)=true) (oL:K.lookup cL=some ⟨clsL,ddL,.fields vsL,slL⟩) (vL:vsL[11]?=some (.ref PL)) (nL:K.lookup PL=none)
  (d26:gM K "_law_more" ip)
  (d27:gM K "foremost_text" cY)
  {f28:Addr}{oc28 kV28 dc28 pm28 cd28 ct28:Value}{od28 an28:Option Addr}{sl28:Array (Option Value)} (a28:i_ K (.ref C_Family) "__init__"=some (some (.ref f28))) (i28:Fu K (.ref f28)=true) (l28:K.lookup f28=some ⟨oc28,od28,.func (v_ "__init__" "Family.__init__" (bb br) (aJ br) (ah br) .none kV28 dc28 pm28 an28 cd28 ct28),sl28⟩) (c28:Dw K cd28 "Family.__init__"=true) (k28:s_ K (.ref f28)=true)
  (d29:gM K "shortest" ie)
  (d30:gM K "law" vf)
  (z1:so K mainGlobals "abs"=some none)
  (z2:so K mainGlobals "all"=some none)
  (z3:so K mainGlobals "any"=some none)
  (z4:so K mainGlobals "enumerate"=some none)
  (z5:so K mainGlobals "isinstance"=some none)
  (z6:so K mainGlobals "len"=some none)
  (z7:so K mainGlobals "list"=some none)
  (z8:so K mainGlobals "min"=some none)
  (z9:so K mainGlobals "range"=some none)
  (z10:so K mainGlobals "str"=some none)
  (z11:so K mainGlobals "sum"=some none)
  (z12:so K mainGlobals "tuple"=some none)
  (z13:so K mainGlobals "zip"=some none)
  {ty1:Tok} (y1:so K mainGlobals "MOST_PIECES"=some (some (.int 40 ty1)))
  {ty2:Tok} (y2:so K mainGlobals "MOST_SHORTEST_WORDS"=some (some (.int 12 ty2)))
  {ty3:Tok} (y3:so K mainGlobals "MOST_SIGNS"=some (some (.int 60 ty3))) :
  ∃(c Pt:Addr) (fd:DW),xZ K mg "_law_shortest" c Pt/\(∀(s:cx) (v:Value),Fv s fd ⟨[v],[]⟩ [("_law_script",v)])/\∀base:Heap,K.In base->base.Ns mainGlobals mg->j8 mg base (.ref c) Pt ⟨([95,108,97,119,95,115,104,111,114,116,101,115,116,46,60,108,111,99,97,108,115,62,46,60,108,97,109,98,100,97,62]:List Nat).toArray⟩->lU l.prog w K mg base CX0 6 fa fd ["_law_script"] (nN K):=by
 have eC_Family:=uw aC_Family;have TC:TxC K:=⟨by rw [eC_Family];exact⟨pg_Family,hd_Family,po_Family,sa_Family⟩,by show i_ K (.ref (bo K "Family")) "pieces"=some none;rw [eC_Family];exact n_Family_pieces,by show i_ K (.ref (bo K "Family")) "kept"=some none;rw [eC_Family];exact n_Family_kept,by show i_ K (.ref (bo K "Family")) "words"=some none;rw [eC_Family];exact n_Family_words,by show i_ K (.ref (bo K "Family")) "left"=some none;rw [eC_Family];exact n_Family_left,by show i_ K (.ref (bo K "Family")) "laps"=some none;rw [eC_Family];exact n_Family_laps,by show i_ K (.ref (bo K "Family")) "total"=some none;rw [eC_Family];exact n_Family_total⟩
 have D'0:=bi d1 X G;have D'1:=bi d2 X G;have D'4:=bi d3 X G;have D'9:=bi d4 X G;have D'11:pO K mg "is_text" dU [.int 0,.int 4000]:=⟨⟨f5,dT5,oc5,od5,an5,dd5,kV5,dc5,pm5,cd5,ct5,sl5,st5,[.int 0 u5_0,.int 4000 u5_1],n5,l5,c5,k5,En X G a5,t5,(.cons ⟨_,rfl⟩ (.cons ⟨_,rfl⟩ .nil))⟩⟩
 have D'12:=bi d6 X G;have D'18:pP K (bo K "Family") "many" "Family.many" bu:=by rw [eC_Family];exact⟨⟨f7,_,rM (st:=bu) l7 c7 k7,⟨a7,i7,k7⟩⟩⟩
 have D'19:=bi d8 X G;have D'21:=bi d9 X G;have D'23:=bi d10 X G;have D'24:=bi d11 X G;have D'25:=bi d12 X G;have D'2:=bi d13 X G;have D'3:=bi d14 X G;have D'5:=bi d15 X G;have D'10:=bi d16 X G;have D'13:=bi d17 X G;have D'14:=bi d18 X G;have D'20:=bi d19 X G;have D'26:=bi d20 X G;have D'6:=bi d21 X G
 have D'15:=bi d22 X G;have D'16:=bi d23 X G;have D'22:=bi d24 X G;have D'27:m9 K mg "_law_shortest" bz cL PL:=x3 X G aL lL qL kL oL vL nL;have D'28:=bi d26 X G;have D'7:=bi d27 X G;have D'17:pQ K mg (bo K "Family") "Family" "Family.__init__" br:=by rw [eC_Family];exact⟨⟨f28,_,rM (st:=br) l28 c28 k28,⟨mk_Family,a28,i28,kc_Family⟩,En X G aC_Family⟩⟩
 have D'8:=bi d29 X G;have D'29:=bi d30 X G;have T:Txt mg:=⟨A_ X G z1,A_ X G z2,A_ X G z3,A_ X G z4,A_ X G z5,A_ X G z6,A_ X G z7,A_ X G z8,A_ X G z9,A_ X G z10,A_ X G z11,A_ X G z12,A_ X G z13,⟨_,En X G y1⟩,⟨_,En X G y2⟩,⟨_,En X G y3⟩⟩
 have hq:(("_law_shortest"++".<locals>.")++"<lambda>":Str)=⟨([95,108,97,119,95,115,104,111,114,116,101,115,116,46,60,108,111,99,97,108,115,62,46,60,108,97,109,98,100,97,62]:List Nat).toArray⟩:=by kernel_rfl
 refine⟨cL,PL,?_⟩
 refine (λkey=>?_:(∀base:Heap,j8 mg base (.ref cL) PL (("_law_shortest"++".<locals>.")++"<lambda>")->Cal l.prog w K mg base 6 "law" ["_law_script"] (nN K))->_) λbase LH=>?_
 .obtain⟨fd,hb,hF⟩:=x4 (st:=vf) hfa D'29 (λ_ _ _ _ _ _ s v=>.of_eq rfl) key;exact⟨fd,D'27.lam,hb,λbase kb nb LH=>hF base kb nb (by rw [hq];exact LH)⟩
 have C'0:=qU l.prog w base D'0 T TC;have C'1:=o8 l.prog w base D'1 T TC;have C'4:=pd l.prog w base D'4 T TC;have C'9:=AZ l.prog w base D'9 T TC;have C'11:=qV l.prog w base D'11 T TC;have C'12:=kg l.prog w base D'12 T TC;have C'18:=ki l.prog w base D'18 T TC;have C'19:=pE l.prog w base D'19 T TC;have C'21:=gl l.prog w base D'21 T TC
 have C'23:=qX l.prog w base D'23 T TC;have C'24:=pG l.prog w base D'24 T TC;have C'25:=lT l.prog w base D'25 T TC;have C'2:=o9 l.prog w base D'2 T TC C'1;have C'3:=gL l.prog w base D'3 T TC C'18;have C'5:=nB l.prog w base D'5 T TC C'0;have C'10:=pA l.prog w base D'10 T TC C'9
 have C'13:=j5 l.prog w base D'13 T TC C'11;have C'14:=iV l.prog w base D'14 T TC C'12;have C'20:=pF l.prog w base D'20 T TC C'19;have C'26:=nC l.prog w base D'26 T TC C'23;have C'6:=pq l.prog w base D'6 T TC C'2;have C'15:=qW l.prog w base D'15 T TC C'14;have C'16:=pD l.prog w base D'16 T TC C'12 C'14
 have C'22:=lS l.prog w base D'22 T TC C'19 C'21 C'20;have C'27:=j6 l.prog w base D'27 T LH TC C'26 C'24 C'25;have C'28:=pH l.prog w base D'28 T TC C'21 C'20;have C'7:=iU l.prog w base D'7 T TC C'6 C'2 C'4;have C'17:=kh l.prog w base D'17 T TC C'10 C'13 C'15 C'16
 have C'8:=pz l.prog w base D'8 T TC C'18 C'3 C'7 C'5;exact (A0 l.prog w base D'29 T TC C'17 C'20 C'28 C'22 C'27 C'8).imp λ_ _ _ _ h=>xp h
end K71

open PySem PySem.W PyProof.Rows
local macro_rules | `(tactic| walk_at "fn") => `(tactic| (refine' L2.Ay ?a ?l ?c ?k; (case a => k_is); (case l => k_is); (case c => k_is); (case k => k_is)))
local macro_rules | `(tactic| walk_at "xi") => `(tactic| (refine' L2.Cc ?a ?l ?g ?h ?s ?c ?k; (case a => k_is); (case l => k_is); (case g => k_is); (case h => k_is); (case s => k_is); (case c => k_is); (case k => k_is)))
local macro_rules | `(tactic| walk_at "xj") => `(tactic| (refine' L2.Cd ?i ?t ?l ?c ?k ?n; (case i => k_is); (case t => k_is); (case l => k_is); (case c => k_is); (case k => k_is); (case n => k_is)))
set_option maxRecDepth 100000 in
set_option maxHeartbeats 0 in
theorem PySem.Challenge.cw_shortglue_k71_whole_one_more_holds : PySem.Challenge.rw_shortglue_k71_whole_one_more.Holds := by
  refine topHd ?_
  k_fill
  refine L2.x0 (l := PySem.Challenge.rw_shortglue_k71_whole_one_more) (k := 6) (x := "_law_script") "_law_shortest" [95, 108, 97, 119, 95, 115, 104, 111, 114, 116, 101, 115, 116, 46, 60, 108, 111, 99, 97, 108, 115, 62, 46, 60, 108, 97, 109, 98, 100, 97, 62] ?R rfl rfl ⟨rfl, by decide, by decide⟩ (fun w h Y => PySem.W.km_in_of Y) ?F
  (case R => kernel_rfl)
  case F =>
    intro w mg fa h KX G hmg
    refine' K71.A1 KX G hmg ?aC_Family ?pg_Family ?hd_Family ?po_Family ?sa_Family ?mk_Family ?kc_Family ?n_Family_pieces ?n_Family_kept ?n_Family_words ?n_Family_left ?n_Family_laps ?n_Family_total ?d1 ?d2 ?d3 ?d4 ?a5 ?l5 ?c5 ?k5 ?t5 ?d6 ?a7 ?i7 ?l7 ?c7 ?k7 ?d8 ?d9 ?d10 ?d11 ?d12 ?d13 ?d14 ?d15 ?d16 ?d17 ?d18 ?d19 ?d20 ?d21 ?d22 ?d23 ?d24 ?aL ?lL ?qL ?kL ?oL ?vL ?nL ?d26 ?d27 ?a28 ?i28 ?l28 ?c28 ?k28 ?d29 ?d30 ?z1 ?z2 ?z3 ?z4 ?z5 ?z6 ?z7 ?z8 ?z9 ?z10 ?z11 ?z12 ?z13 ?y1 ?y2 ?y3
    (case aC_Family => k_is)
    (case pg_Family => k_is)
    (case hd_Family => k_is)
    (case po_Family => k_is)
    (case sa_Family => k_is)
    (case mk_Family => k_is)
    (case kc_Family => k_is)
    (case n_Family_pieces => k_is)
    (case n_Family_kept => k_is)
    (case n_Family_words => k_is)
    (case n_Family_left => k_is)
    (case n_Family_laps => k_is)
    (case n_Family_total => k_is)
    (case d1 => walk_at "fn")
    (case d2 => walk_at "fn")
    (case d3 => walk_at "fn")
    (case d4 => walk_at "fn")
    (case a5 => k_is)
    (case l5 => k_is)
    (case c5 => k_is)
    (case k5 => k_is)
    (case t5 => k_is)
    (case d6 => walk_at "fn")
    (case a7 => k_is)
    (case i7 => k_is)
    (case l7 => k_is)
    (case c7 => k_is)
    (case k7 => k_is)
    (case d8 => walk_at "fn")
    (case d9 => walk_at "fn")
    (case d10 => walk_at "fn")
    (case d11 => walk_at "fn")
    (case d12 => walk_at "fn")
    (case d13 => walk_at "fn")
    (case d14 => walk_at "fn")
    (case d15 => walk_at "fn")
    (case d16 => walk_at "fn")
    (case d17 => walk_at "fn")
    (case d18 => walk_at "fn")
    (case d19 => walk_at "fn")
    (case d20 => walk_at "fn")
    (case d21 => walk_at "fn")
    (case d22 => walk_at "fn")
    (case d23 => walk_at "fn")
    (case d24 => walk_at "fn")
    (case aL => k_is)
    (case lL => k_is)
    (case qL => k_is)
    (case kL => k_is)
    (case oL => k_is)
    (case vL => rfl)
    (case nL => kernel_rfl)
    (case d26 => walk_at "fn")
    (case d27 => walk_at "fn")
    (case a28 => k_is)
    (case i28 => k_is)
    (case l28 => k_is)
    (case c28 => k_is)
    (case k28 => k_is)
    (case d29 => walk_at "fn")
    (case d30 => walk_at "fn")
    (case z1 => k_is)
    (case z2 => k_is)
    (case z3 => k_is)
    (case z4 => k_is)
    (case z5 => k_is)
    (case z6 => k_is)
    (case z7 => k_is)
    (case z8 => k_is)
    (case z9 => k_is)
    (case z10 => k_is)
    (case z11 => k_is)
    (case z12 => k_is)
    (case z13 => k_is)
    (case y1 => k_is)
    (case y2 => k_is)
    (case y3 => k_is)
