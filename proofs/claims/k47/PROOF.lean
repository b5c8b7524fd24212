import PyProof.Rows.All
import Wide.All
import OpenK.AllK
import Wide.FinOn
import Lean
import PyProof.EqAt
import PyProof.EqKinds
import PyProof.TupleCall
import KE.KSortTup
import PyProof.FString
import PyProof.StrBlock
import KE.KRevSl
import PyProof.StrLawsReplace
import PyProof.StrCalls6
import PyProof.MinMaxWalk
import PyProof.WalkInts
import PyProof.NeKinds
import KE.KEqDict
import PyProof.Rows.SumAny
import KE.KMinKey
import PyProof.Rows.CallKwBuiltin
import PySem.Challenge.RW_shortglue_k47_whole_row_and_round
set_option Elab.async false
set_option linter.all false
set_option maxRecDepth 100000
open List (all_cons all_eq_true all_map any_cons any_eq_false any_map append_assoc append_eq_nil_iff append_nil append_of_mem append_toArray concat_eq_append cons_lt_cons_iff cons_ne_nil contains_iff_mem drop_drop drop_eq_getElem_cons drop_eq_nil_of_le drop_left drop_one drop_suffix drop_take drop_zero eq_nil_iff_forall_not_mem eq_nil_or_concat eq_of_mem_replicate eraseIdxIfInBounds_toArray eraseIdx_eq_take_drop_succ ext_getElem ext_getElem? extract_eq_take_drop extract_toArray filterMap_append filterMap_cons filterMap_eq_map filterMap_map filter_append filter_cons filter_eq_self find?_cons find?_eq_none find?_eq_some_iff_append find?_some flatten_append flatten_cons flatten_nil foldl_cons forIn_cons forIn_nil getD_cons_succ getD_eq_getElem?_getD getElem?_append_left getElem?_append_right getElem?_cons_succ getElem?_drop getElem?_eq_getElem getElem?_eq_none getElem?_inj getElem?_map getElem?_range getElem?_replicate getElem?_set_ne getElem?_set_self getElem?_take getElem?_take_of_lt getElem?_zip_eq_some getElem_append_left getElem_append_right getElem_cons_drop getElem_drop getElem_idxOf getElem_inj getElem_map getElem_mem getElem_of_mem getElem_range getElem_take getLastD_concat getLastD_cons getLast_cons getLast_eq_getLastD idxOf_lt_length_of_mem infix_refl isEmpty_iff length_append length_cons length_drop length_eq_zero_iff length_eraseIdx length_filter_le length_flatten length_map length_nil length_pos_iff length_pos_of_mem length_range length_replicate length_set length_singleton length_take lookup_append lookup_cons map_append map_congr_left map_cons map_drop map_eq_nil_iff map_map map_nil map_replicate map_take mem_append mem_append_left mem_append_right mem_cons mem_cons_of_mem mem_cons_self mem_filter mem_filterMap mem_flatten mem_iff_getElem? mem_map mem_map_of_mem mem_of_find?_eq_some mem_of_getElem? mem_of_mem_drop mem_of_mem_take mem_range mem_range'_1 mem_replicate mem_singleton mergeSort_perm nil_append nil_prefix nil_suffix nodup_cons nodup_nil nodup_range not_mem_nil of_mem_zip pairwise_append pairwise_cons pairwise_iff_getElem pairwise_lt_range pairwise_map pairwise_mergeSort perm_append_comm perm_append_singleton perm_ext_iff_of_nodup prefix_append prefix_refl range_succ range_succ_eq_map replicate_succ reverse_cons reverse_reverse set_cons_succ set_cons_zero size_toArray suffix_iff_eq_drop sum_append sum_cons sum_replicate_nat tail_cons take_add take_add_one take_append_drop take_left take_length take_nil take_of_length_le take_prefix take_sublist take_succ take_succ_cons take_take take_zero zipIdx_cons zipIdx_nil)
open Nat (add_assoc add_comm add_mod_mod add_mod_right add_mul add_sub_cancel add_sub_cancel_left and_one_is_mod div_add_mod div_le_self div_mul_le_self eq_zero_or_pos le_add_right le_antisymm le_of_ble_eq_true le_of_eq le_of_lt le_of_not_lt le_of_succ_le le_refl le_succ le_zero log2_lt lt_log2_self lt_mul_div_succ lt_of_le_of_lt lt_of_lt_of_le lt_or_ge lt_succ_of_lt lt_succ_self lt_trans max_le min_eq_left min_eq_right min_le_right min_self mod_add_mod mod_eq_of_lt mod_eq_sub_mod mod_lt mod_self mul_comm mul_le_mul_right mul_pos mul_succ mul_zero ne_of_gt ne_of_lt not_lt not_lt_zero not_succ_le_self pow_le_pow_right pow_pos pow_succ sub_le succ_le_succ succ_mul testBit_eq_decide_div_mod_eq testBit_lt_two_pow testBit_two_pow_add_gt testBit_two_pow_mul_add testBit_two_pow_sub_one zero_le zero_lt_succ)
open Int (add_emod dvd_of_emod_eq_zero dvd_refl ediv_nonneg ediv_one emod_emod_of_dvd emod_eq_of_lt emod_lt_of_pos emod_nonneg fdiv_eq_ediv_of_nonneg fmod_eq_emod_of_nonneg le_ediv_of_mul_le mul_le_mul_of_nonneg_left mul_nonneg natAbs_natCast natCast_add natCast_ediv natCast_emod natCast_nonneg natCast_pow natCast_zero neg_neg ofNat_le sub_emod toNat_natCast toNat_of_nonneg zero_emod zero_mul)
open Bool (and_eq_false_imp and_eq_true and_eq_true_iff beq_eq_decide_eq false_eq_true not_eq_true or_eq_true)
local macro_rules | `(tactic| walk_at "o")=>`(tactic| first | exact Or.inl rfl | exact Or.inr rfl | exact Or.inr (Or.inl rfl) | exact Or.inr (Or.inr rfl))
set_option maxHeartbeats 4000000
noncomputable section
namespace L2
open PySem PySem.W
def nL(tb:String->Option Builtin)(p:Program)(w:World)(n₀:Nat)(ann:Option Value):Nat->SharedT->Thread->Option SharedT
 | 0,_,_=>none
 | n+1,s,t=>match through t with
  | true=>some s
  | false=>match stepOk n₀ ann t with
   | false=>none
   | true=>match stepT (denote tb) p w s t with
    | some (s',t')=>nL tb p w n₀ ann n s' t'
    | none=>none
theorem pd{tb:String->Option Builtin}{p:Program}{w:World}{n₀:Nat}{ann:Option Value}:∀{n:Nat}{s s':SharedT}{t:Thread},nL tb p w n₀ ann n s t=some s'->topRun tb p w n₀ ann n s.abs t=some s'.abs
 | 0,_,_,_,h=>by cases h
 | n+1,s,s',t,h=>by
  unfold nL at h;unfold topRun
  cases he:through t with
  | true=>rw [he] at h;cases h;rfl
  | false =>
   rw [he] at h
   cases hk:stepOk n₀ ann t with
   | false=>rw [hk] at h;cases h
   | true =>
    rw [hk] at h
    cases hs:stepT (denote tb) p w s t with
    | none=>rw [hs] at h;cases h
    | some r=>obtain⟨s₂,t₂⟩:=r;rw [hs] at h;rw [stepT_spec hs];exact pd h
def yR:List Obj->Nat->BT->BT
 | [],_,t=>t
 | o::r,i,t=>yR r (i+1) (t.ins i o)
def zQ(P:Params):BT:=yR (boot_heap P).objs.toList 0 .nil
theorem xC:∀P,absHeap (zQ P) (boot_heap P).objs.size (boot_heap P).life=boot_heap P:=fun P=>by kernel_rfl
theorem BO{p q:Program}{loose:List Str}{Xt:Shared->Bool}{α:Type}{Yf:Shared->α}{Ya:World->α}{N:Nat}{g0:Bool}{m₀:Nat}{ann:Option Value}
  (e:opening p=plainProg p.main.scope.names) (hN:Nat.ble 600 N=true) (f:∀s,fenceModules? p s=some s)
  (size:∀w:World,((boot_heap w.params).isNs mainGlobals && (Array.mk []:Array GenState).size == 0,(boot_heap w.params).objs.size,(boot_heap w.params).nsMap mainGlobals "__annotations__")=(true,m₀,ann))
  (run:∀(w:World) (os:OsState),(nL treeTable p w m₀ ann N ⟨zQ w.params,m₀,(boot_heap w.params).life,Array.mk [],boot_drawn,boot_toks,os⟩ (topStub p)).map (fun sT=>((staticsOk (importedModules p.main.body) (boot_heap w.params) sT.abs.heap && namesBound p sT.abs.heap && gensDone sT.abs && laidKept (boot_heap w.params) sT.abs.heap),openSeen q loose (importedModules p.main.body) Xt g0 sT.abs,Yf sT.abs))=some (true,openGood q loose,Ya w)):LeftO p q loose Xt Yf Ya N g0:=fun w=>by
 obtain⟨⟨h,gs,d,k,os⟩,e,e'⟩:=Option.map_eq_some_iff.mp (boot_open e hN f w);obtain⟨rfl,rfl,rfl,rfl⟩:h=boot_heap w.params/\gs=Array.mk []/\d=boot_drawn/\k=boot_toks:=by simpa using e'
 obtain⟨z1,z2,z3⟩:_/\_/\_:=by simpa only [Prod.mk.injEq] using size w
 obtain⟨sT,r,l⟩:=Option.map_eq_some_iff.mp (run w os);obtain⟨l1,l2,l3⟩:_/\_/\_:=by simpa only [Prod.mk.injEq] using l
 have r:=pd r
 rw [show SharedT.abs ⟨zQ w.params,m₀,(boot_heap w.params).life,Array.mk [],boot_drawn,boot_toks,os⟩=⟨boot_heap w.params,Array.mk [],boot_drawn,boot_toks,os⟩ by
  unfold SharedT.abs;dsimp only;rw [<- z2,xC]] at r
 have t:topFrom treeTable p w N ⟨boot_heap w.params,Array.mk [],boot_drawn,boot_toks,os⟩=some sT.abs:=by
  unfold topFrom;dsimp only;rw [z1,z2,z3,r];show (match staticsOk (importedModules p.main.body) (boot_heap w.params) sT.abs.heap && namesBound p sT.abs.heap && gensDone sT.abs && laidKept (boot_heap w.params) sT.abs.heap with|true=>_|false=>_)=_;rw [l1]
 unfold openEnds;rw [e];show (topFrom treeTable p w N _).map _=_;rw [t];exact congrArg some (Prod.ext l2 l3)
end L2
section
open PySem PySem.W PyProof.Rows
def zR:Program:=PySem.W.view PySem.Challenge.pw_shortglue_k47_whole_row_and_round [1,2,3,4,5,7,8,9,11,13,15,16,17,18,19,20,21,22,23,25,27,29,30,32,33,34,35,36,38,39,40,41,42,43,44,45,46,47,48,49,50,51,52,53,54,55,56]
local macro_rules | `(tactic| o_head $H)=>`(tactic| (refine holds_open (q:=zR) (loose:=[PySem.Str.ofString "is_text"]) (Xt:=fun s=>xlAt zR [] s && recOk (RowW.records (OpenRow.toRowW (OpenLaw.row PySem.Challenge.rw_shortglue_k47_whole_row_and_round))) s) (XP:=XL zR []) (Yf:=Hook.obs $H) (Ya:=Hook.val $H) (YP:=Hook.says $H) (N:=5364) ?hl (Hook.of $H) (Hook.keeps $H) (fun s e=>xl_of s (and_eq_true_iff.mp e).1) XL.keeps (by rfl) (by rfl) (by rfl) (fun s e=>recFacts_of (and_eq_true_iff.mp e).2) (by rfl) (by first | assumption | decide +kernel) (by decide +kernel) ⟨rfl,rfl,rfl,rfl,rfl,by decide +kernel⟩ ?hw ?hc;(case hl=>(refine L2.BO (m₀:=11) (ann:=some (.ref 6)) (by kernel_rfl) (by rfl) (fun s=>by kernel_rfl) (fun w=>by kernel_rfl) ?_;intro w os;kernel_rfl))))
set_option maxRecDepth 100000 in
set_option maxHeartbeats 0 in
open_top topHd for PySem.Challenge.rw_shortglue_k47_whole_row_and_round
end
-- CHANGE: your row's module here,as the last of these rows
namespace L2
open PySem PySem.Spec PyProof.Rows
abbrev Key:=Sum Int Str
def BP:Key->Value->Bool
 | .inl k,v=>Value.isInt k v
 | .inr x,v=>Value.isStrOf x v
def FF(w:World):Key->Int
 | .inl k=>hashInt k
 | .inr x=>hashStr w x
theorem cC:∀{k:Key}{v:Value},BP k v=true->(∃i t,k=Sum.inl i/\v=Value.int i t)\/(∃x t,k=Sum.inr x/\v=Value.str x t)
 | .inl i,v,h=>by
  obtain⟨t,e⟩:=Value.isInt_shape (k:=i) (v:=v) h;exact .inl ⟨i,t,rfl,e⟩
 | .inr x,v,h=>by
  obtain⟨t,e⟩:=Value.isStrOf_shape (x:=x) (v:=v) h;exact .inr ⟨x,t,rfl,e⟩
theorem BQ(a b:Int):decide ((Sum.inl a:Key)=Sum.inl b)=(a == b):=by
 by_cases e:a=b
 .subst e;simp
 .have h:¬ (Sum.inl a:Key)=Sum.inl b:=fun q=>e (Sum.inl.inj q);rw [decide_eq_false h];exact (beq_eq_false_iff_ne.mpr e).symm
theorem BR(a b:Str):decide ((Sum.inr a:Key)=Sum.inr b)=decide (a=b):=by
 by_cases e:a=b
 .subst e;simp
 .have h:¬ (Sum.inr a:Key)=Sum.inr b:=fun q=>e (Sum.inr.inj q);rw [decide_eq_false h,decide_eq_false e]
theorem BS(a:Int)(b:Str):decide ((Sum.inl a:Key)=Sum.inr b)=false:=decide_eq_false (fun q=>nomatch q)
theorem BU(a:Str)(b:Int):decide ((Sum.inr a:Key)=Sum.inl b)=false:=decide_eq_false (fun q=>nomatch q)
def nM(prog:Program)(w:World):PySem.KeyKind prog w Key where
 is:=BP
 hash:=FF w
 inj:=fun v a b ha hb=>by
  rcases cC ha with ⟨i,t,rfl,rfl⟩|⟨x,t,rfl,rfl⟩
  .rcases cC hb with ⟨j,u,rfl,e⟩|⟨y,u,rfl,e⟩
   .injection e with e1 _;rw [e1]
   .exact nomatch e
  .rcases cC hb with ⟨j,u,rfl,e⟩|⟨y,u,rfl,e⟩
   .exact nomatch e
   .injection e with e1 _;rw [e1]
 byValue:=fun k v h=>by
  rcases cC h with ⟨i,t,rfl,rfl⟩|⟨x,t,rfl,rfl⟩ <;> rfl
 pyHash:=fun hv h=>by
  rcases cC hv with ⟨i,t,rfl,rfl⟩|⟨x,t,rfl,rfl⟩
  .exact wpAny_pyHash_int h
  .exact wpAny_pyHash_str h
 eqBool:=fun hu hv h=>by
  rcases cC hu with ⟨i,t,rfl,rfl⟩|⟨x,t,rfl,rfl⟩
  .rcases cC hv with ⟨j,u,rfl,rfl⟩|⟨y,u,rfl,rfl⟩
   .rw [BQ] at h;exact wpAny_eqBool_int h
   .rw [BS] at h;exact SeqAt.EqAt.int_str i t y u _ _ _ _ h
  .rcases cC hv with ⟨j,u,rfl,rfl⟩|⟨y,u,rfl,rfl⟩
   .rw [BU] at h;exact SeqAt.EqAt.str_int x t j u _ _ _ _ h
   .rw [BR] at h;exact wpAny_eqBool_str h
 «strs»:=fun k x t v h=>by
  rcases cC h with ⟨i,u,rfl,e⟩|⟨y,u,rfl,e⟩
  .exact nomatch e
  .injection e with e1 _;subst e1;cases v <;> rfl
inductive V where
 | non|bl (b:Bool)|int (i:Int)|str (x:Str)|byt (b:Array UInt8)|flt (b:UInt64)|ref (a:Addr)|ty (n:String)
 deriving DecidableEq
def dS:V->Value->Prop
 | .non,u=>u=Value.none
 | .bl b,u=>u=Value.bool b
 | .int i,u=>∃t,u=Value.int i t
 | .str x,u=>∃t,u=Value.str x t
 | .byt b,u=>∃t,u=Value.bytes b t
 | .flt b,u=>∃t,u=Value.float b t
 | .ref a,u=>u=Value.ref a
 | .ty n,u=>u=Value.type n
abbrev cm:List V->List Value->Prop:=Paired dS
theorem cm.length{xs:List V}{us:List Value}(r:cm xs us):xs.length=us.length:=Paired.length r
theorem cm.get:∀{xs:List V}{us:List Value}{i:Nat}{x:V},cm xs us->xs[i]?=some x->∃u,us[i]?=some u/\dS x u
 | _,_,_,_,.nil,e=>by simp at e
 | _,_,0,_,.cons r _,e=>by simp at e;subst e;exact⟨_,rfl,r⟩
 | _,_,i+1,x,.cons _ t,e=>by
  obtain⟨u,h1,h2⟩:=cm.get (i:=i) (x:=x) t (by simpa using e);exact⟨u,by simpa using h1,h2⟩
theorem cm.set{x:V}{u:Value}(r:dS x u):∀{xs:List V}{us:List Value} (i:Nat),cm xs us->cm (xs.set i x) (us.set i u)
 | _,_,_,.nil=>.nil
 | _,_,0,.cons _ t=>.cons r t
 | _,_,i+1,.cons q t=>.cons q (cm.set r i t)
theorem cm.append:∀{xs ys:List V}{us ws:List Value},cm xs us->cm ys ws->cm (xs++ys) (us++ws)
 | _,_,_,_,.nil,s=>s
 | _,_,_,_,.cons r t,s=>.cons r (cm.append t s)
theorem cm.take:∀{xs:List V}{us:List Value} (n:Nat),cm xs us->cm (xs.take n) (us.take n)
 | _,_,0,_=>.nil
 | _,_,_+1,.nil=>.nil
 | _,_,n+1,.cons r t=>.cons r (cm.take n t)
theorem cm.drop:∀{xs:List V}{us:List Value} (n:Nat),cm xs us->cm (xs.drop n) (us.drop n)
 | _,_,0,r=>r
 | _,_,_+1,.nil=>.nil
 | _,_,n+1,.cons _ t=>cm.drop n t
def xw:Option V->Option Value->Prop
 | some v,some u=>dS v u
 | none,none=>True
 | _,_=>False
def KV{κ:Type}:List (κ×V)->List (κ×Value)->Prop:=Paired fun (p:κ×V) (q:κ×Value)=>p.1=q.1/\dS p.2 q.2
def kV:Key->V
 | .inl i=>.int i
 | .inr x=>.str x
inductive HO where
 | lst (xs:List V)
 | tup (xs:List V)
 | dK (kvs:List (Key×V))|dT (kvs:List (List Key×V))
 | set (S:Int->Bool) (n:Nat)
 | ins (C dx:Addr) (fs:List (Str×V))
 | own (x:Addr)
 | xd (fs:List (Str×V))
 | met (f x:Addr)
 | rng (lo hi:Int)
 | frz (o:Obj) (u:HO)
 | tbl (ps:Array Value)
 | ext (φ:Heap->Prop)
abbrev Hp:=Addr->Option HO
def upd(H:Hp)(a:Addr)(o:HO):Hp:=fun b=>if b=a then some o else H b
theorem bi{H:Hp}{a:Addr}{o:HO}:upd H a o a=some o:=by unfold upd;rw [if_pos rfl]
theorem aM{H:Hp}{a b:Addr}{o:HO}(h:b≠a):upd H a o b=H b:=by unfold upd;rw [if_neg h]
theorem aZ{H:Hp}{a b:Addr}{o:HO}(h:H a=some o)(h':H b=none):a≠b:=by
 intro e;subst e;rw [h] at h';cases h'
section
variable (P:Program) (w:World)
def dq(H:Hp)(h:Heap)(a:Addr):HO->Prop
 | .lst xs=>xs.length<=sizeLine/\∃(its:List Value) (n:Nat),cm xs its/\h.get? a=some { cls:=.type "list",data:=.seq its.toArray n }
 | .tup xs=>xs.length<=sizeLine/\∃its:List Value,cm xs its/\IsTup h a its.toArray
 | .dK kvs=>kvs.length<=sizeLine/\(a == sysModules)=false/\∃vs,KV kvs vs/\h.DictOf (nM P w) a vs
 | .dT kvs=>kvs.length<=sizeLine/\(a == sysModules)=false/\∃xs:List (List Key×Addr×Value),
   Paired (fun (p:List Key×V) (q:List Key×Addr×Value)=>p.1=q.1/\H q.2.1=some (.tup (p.1.map kV))/\dS p.2 q.2.2) kvs xs /\
   ∃o es ep,h.get? a=some o/\o.ExactDict/\o.data=.dict es ep/\es.toList=xs.map (entryOfKey (tupleKind (nM P w)))/\(xs.map (·.1)).Nodup
 | .set S n=>h.SetOf (intKind P w) a S n
 | .ins C dx fs=>H dx=some (.own a)/\fs.length<=1000/\dx≠a/\h.get? a=some (PySem.W.instObj C dx) /\
   ∃mA,h.Ns1 dx mA/\(∀f,xw (fs.lookup f) (mA f))/\PySem.Within mA (fs.map (·.1))
 | .own _=>∃o,h.get? a=some o
 | .xd fs=>∃mA,h.Ns1 a mA/\∀f,xw (fs.lookup f) (mA f)
 | .rng lo hi=>∃t u v,h.get? a=some { cls:=.type "range",data:=.fields #[.int lo t,.int hi u,.int 1 v] }
 | .frz o u=>h.get? a=some o/\dq H h a u
 | .tbl ps=>h.get? a=some { cls:=.none,data:=.fields ps }
 | .met f x=>h.get? a=some (PySem.W.methodObj (.ref f) (.ref x))
 | .ext φ=>φ h/\(∃o,h.get? a=some o)/\∀h1 h2:Heap,φ h1->(∀o,h1.get? a=some o->h2.get? a=some o)->φ h2
def HOk(H:Hp)(h:Heap):Prop:=∀a o,H a=some o->dq P w H h a o
end
section
variable {P:Program}{w:World}{H H':Hp}{h h':Heap}{a:Addr}{o:HO}
theorem dq.lt(x:dq P w H h a o):a<h.objs.size:=by
 cases o with
 | lst xs=>obtain⟨_,_,_,_,e⟩:=x;exact Heap.lt_size e
 | tup xs=>obtain⟨_,_,_,p⟩:=x;exact p.lt
 | dK kvs=>obtain⟨_,_,_,_,o,_,_,e,_⟩:=x;exact Heap.lt_size e
 | dT kvs=>obtain⟨_,_,_,_,o,_,_,e,_⟩:=x;exact Heap.lt_size e
 | set S n=>obtain⟨o,_,_,_,e,_⟩:=x;exact Heap.lt_size e
 | ins C dx fs=>obtain⟨_,_,_,e,_⟩:=x;exact Heap.lt_size e
 | own y=>obtain⟨_,e⟩:=x;exact Heap.lt_size e
 | xd fs=>obtain⟨_,⟨_,_,_,e,_⟩,_⟩:=x;exact Heap.lt_size e
 | rng lo hi=>obtain⟨_,_,_,e⟩:=x;exact Heap.lt_size e
 | frz ob u=>obtain⟨e,_⟩:=x;exact Heap.lt_size e
 | tbl ps=>exact Heap.lt_size (show h.get? a=some _ from x)
 | met f y=>exact Heap.lt_size (show h.get? a=some _ from x)
 | ext φ=>obtain⟨_,⟨_,e⟩,_⟩:=x;exact Heap.lt_size e
theorem Paired.mapP{α β:Type}{F G:α->β->Prop}:∀{l₁:List α}{l₂:List β},Paired F l₁ l₂->(∀a b,F a b->G a b)->Paired G l₁ l₂
 | _,_,.nil,_=>.nil
 | _,_,.cons r t,f=>.cons (f _ _ r) (Paired.mapP t f)
theorem dq.stay(x:dq P w H h a o)(k:∀b u,(b=a\/H b=some (.own a))->h.get? b=some u->h'.get? b=some u)
  (ho:∀b,H b=some (.own a)->H' b=some (.own a)) (ht:∀b xs,H b=some (.tup xs)->H' b=some (.tup xs)):dq P w H' h' a o:=by
 induction o with
 | lst xs=>obtain⟨z,its,n,r,e⟩:=x;exact⟨z,its,n,r,k _ _ (.inl rfl) e⟩
 | tup xs=>obtain⟨z,its,r,ob,e,c⟩:=x;exact⟨z,its,r,ob,k _ _ (.inl rfl) e,c⟩
 | dK kvs=>obtain⟨z,y,vs,r,ob,es,ep,e,c⟩:=x;exact⟨z,y,vs,r,ob,es,ep,k _ _ (.inl rfl) e,c⟩
 | dT kvs =>
  obtain⟨z,y,xs,r,ob,es,ep,e,c⟩:=x;exact⟨z,y,xs,Paired.mapP r fun p q z=>⟨z.1,ht _ _ z.2.1,z.2.2⟩,ob,es,ep,k _ _ (.inl rfl) e,c⟩
 | set S n=>obtain⟨ob,es,ep,t,e,c⟩:=x;exact⟨ob,es,ep,t,k _ _ (.inl rfl) e,c⟩
 | ins C dx fs =>
  obtain⟨d,z,ne,e,mA,⟨od,es,ep,e2,c⟩,r⟩:=x;exact⟨ho _ d,z,ne,k _ _ (.inl rfl) e,mA,⟨od,es,ep,k _ _ (.inr d) e2,c⟩,r⟩
 | own y=>obtain⟨ob,e⟩:=x;exact⟨ob,k _ _ (.inl rfl) e⟩
 | xd fs=>obtain⟨mA,⟨od,es,ep,e,c⟩,r⟩:=x;exact⟨mA,⟨od,es,ep,k _ _ (.inl rfl) e,c⟩,r⟩
 | rng lo hi=>obtain⟨t,u,v,e⟩:=x;exact⟨t,u,v,k _ _ (.inl rfl) e⟩
 | frz ob u ih=>obtain⟨e,q⟩:=x;exact⟨k _ _ (.inl rfl) e,ih q⟩
 | tbl ps =>
  have e:h.get? a=some { cls:=.none,data:=.fields ps }:=x;show h'.get? a=some { cls:=.none,data:=.fields ps };exact k a _ (.inl rfl) e
 | met f y =>
  have e:h.get? a=some (PySem.W.methodObj (.ref f) (.ref y)):=x;show h'.get? a=some (PySem.W.methodObj (.ref f) (.ref y));exact k a _ (.inl rfl) e
 | ext φ=>obtain⟨p,⟨o,e⟩,st⟩:=x;exact⟨st _ _ p fun o q=>k _ _ (.inl rfl) q,⟨o,k _ _ (.inl rfl) e⟩,st⟩
theorem HOk.lt(x:HOk P w H h)(e:H a=some o):a<h.objs.size:=(x a o e).lt
theorem HOk.fresh(x:HOk P w H h)(e:h.objs.size<=a):H a=none:=by
 cases q:H a with
 | none=>rfl
 | some u=>exact absurd (lt_of_lt_of_le (x.lt q) e) (Nat.lt_irrefl _)
theorem HOk.kept(x:HOk P w H h)(k:∀b u,h.get? b=some u->h'.get? b=some u):HOk P w H h':=fun a o e =>
 (x a o e).stay (fun b u _ q=>k b u q) (fun _ q=>q) fun _ _ q=>q
theorem HOk.laid(x:HOk P w H h)(k:∀b u,h.get? b=some u->h'.get? b=some u)(hp:h.objs.size<=a)(new:dq P w (upd H a o) h' a o):HOk P w (upd H a o) h':=fun b u e=>by
 have hn:=x.fresh hp
 by_cases hb:b=a
 .subst hb;rw [bi] at e;cases e;exact new
 .rw [aM hb] at e;exact (x b u e).stay (fun c v _ q=>k c v q) (fun c q=>by rw [aM (aZ q hn)];exact q) fun c xs q=>by rw [aM (aZ q hn)];exact q
end
def Rd(H:Hp)(a:Addr)(u:HO):Prop:=H a=some u\/∃o,H a=some (.frz o u)
theorem Rd.ok{P:Program}{w:World}{H:Hp}{h:Heap}{a:Addr}{u:HO}(r:Rd H a u)(x:HOk P w H h):dq P w H h a u:=by
 rcases r with r|⟨o,r⟩
 .exact x a u r
 .obtain⟨_,q⟩:=x a _ r;exact q
def Mut:Option HO->Prop
 | some (.lst _)=>True
 | some (.dK _)=>True
 | some (.dT _)=>True
 | some (.set _ _)=>True
 | some (.ins _ _ _)=>True
 | some (.ext _)=>True
 | _=>False
section
variable {P:Program}{w:World}{H:Hp}{h h':Heap}{x e:Addr}{o':HO}
theorem HOk.write(ok:HOk P w H h)(mu:Mut (H x))(he:e=x\/H e=some (.own x))(k:∀b u,b≠e->h.get? b=some u->h'.get? b=some u)(heo:∃u,h'.get? e=some u)
  (new:dq P w (upd H x o') h' x o'):HOk P w (upd H x o') h':=fun b u q=>by
 have nown:∀c y,H c=some (.own y)->c≠x:=fun c y r z=>by subst z;rw [r] at mu;exact mu
 have ntup:∀c xs,H c=some (.tup xs)->c≠x:=fun c xs r z=>by subst z;rw [r] at mu;exact mu
 by_cases hb:b=x
 .subst hb;rw [bi] at q;cases q;exact new
 .rw [aM hb] at q
  by_cases hbe:b=e
  .have q':H b=some (.own x):=by
    rcases he with z|z
    .exact absurd (hbe.trans z) hb
    .rw [hbe];exact z
   rw [q] at q';cases q';obtain⟨v,hv⟩:=heo;exact⟨v,by rw [hbe];exact hv⟩
  .refine (ok b u q).stay (fun c v hc r=>k c v ?_ r) (fun c r=>by rw [aM (nown c b r)];exact r) fun c xs r=>by rw [aM (ntup c xs r)];exact r
   rcases hc with rfl|hc
   .exact hbe
   .rintro rfl
    rcases he with z|z
    .exact nown c b hc z
    .rw [hc] at z;cases z;exact hb rfl
end
structure Un (fs ex:List Addr) (H H':Hp) (h h':Heap):Prop where
 keep:∀b o,h.get? b=some o->H b=none->b∉fs->b∉ex->h'.get? b=some o
 slot:∀b o,h.get? b=some o->H b=none->b∈fs->b∉ex->∃sl,h'.get? b=some { o with slots:=sl }
 free:∀b o,h.get? b=some o->H b=none->b∉ex->H' b=none
 there:∀b o,h.get? b=some o->b∉ex->∃o',h'.get? b=some o'
 tups:∀b xs,H b=some (.tup xs)->H' b=some (.tup xs)
 frzs:∀b o u,H b=some (.frz o u)->H' b=some (.frz o u)
 tbls:∀b ps,H b=some (.tbl ps)->∃more,H' b=some (.tbl (ps++more))
section
variable {fs fs' ex ex':List Addr}{H H1 H2:Hp}{h h1 h2 h':Heap}{a x e:Addr}{o:HO}
theorem Un.any(u:Un fs ex H H1 h h1){b:Addr}{ob:Obj}(q:h.get? b=some ob)(n:H b=none)(hx:b∉ex):∃sl,h1.get? b=some { ob with slots:=sl }:=by
 by_cases hb:b∈fs
 .exact u.slot b ob q n hb hx
 .exact⟨ob.slots,u.keep b ob q n hb hx⟩
theorem Un.kept(k:∀b u,h.get? b=some u->h'.get? b=some u):Un fs ex H H h h' :=
 ⟨fun b ob q _ _ _=>k b ob q,fun b ob q _ _ _=>⟨ob.slots,k b ob q⟩,fun _ _ _ n _=>n,fun b ob q _=>⟨ob,k b ob q⟩,fun _ _ q=>q,fun _ _ _ q=>q,fun _ ps q=>⟨#[],by rw [q];simp⟩⟩
theorem Un.refl:Un fs ex H H h h:=Un.kept fun _ _ q=>q
theorem Un.laid(k:∀b u,h.get? b=some u->h'.get? b=some u)(hp:h.objs.size<=a)(hn:H a=none):Un fs ex H (upd H a o) h h' where
 keep:=fun b u q _ _ _=>k b u q
 slot:=fun b u q _ _ _=>⟨u.slots,k b u q⟩
 free:=fun b u q n _=>by rw [aM (ne_of_lt (lt_of_lt_of_le (Heap.lt_size q) hp))];exact n
 there:=fun b u q _=>⟨u,k b u q⟩
 tups:=fun b xs q=>by rw [aM (aZ q hn)];exact q
 frzs:=fun b u xs q=>by rw [aM (aZ q hn)];exact q
 tbls:=fun b ps q=>⟨#[],by rw [aM (aZ q hn),q];simp⟩
theorem Un.write(mu:Mut (H x))(he:e=x\/H e=some (.own x))(k:∀b u,b≠e->h.get? b=some u->h'.get? b=some u)(heo:∃u,h'.get? e=some u):Un fs ex H (upd H x o) h h':=by
 have hx:∀b,H b=none->b≠x:=fun b n z=>by subst z;rw [n] at mu;exact mu
 have hb:∀b,H b=none->b≠e:=fun b n z=>by
  subst z
  rcases he with r|r
  .exact hx b n r
  .rw [n] at r;cases r
 have hm:∀b u,H b=some u->¬ Mut (some u)->b≠x:=fun b u q nm z=>by subst z;rw [q] at mu;exact nm mu
 refine⟨fun b u q n _ _=>k b u (hb b n) q,fun b u q n _ _=>⟨u.slots,k b u (hb b n) q⟩,fun b u q n _=>by rw [aM (hx b n)];exact n,fun b u q _=>?_,
  fun b xs q=>by rw [aM (hm b _ q fun z=>z)];exact q,fun b u xs q=>by rw [aM (hm b _ q fun z=>z)];exact q,fun b ps q=>⟨#[],by rw [aM (hm b _ q fun z=>z),q];simp⟩⟩
 by_cases hbe:b=e
 .subst hbe;exact heo
 .exact⟨u,k b u hbe q⟩
end
def trk(h:Heap)(H:Hp):List Addr:=(List.range h.objs.size).filter fun a=>(H a).isSome
def xD(h:Heap)(H:Hp):Heap:=PySem.W.hideAll h (trk h H)
theorem uV(h:Heap)(H:Hp):(xD h H).objs.size=h.objs.size:=PySem.W.hideAll_size _ _
theorem xE{h:Heap}{H:Hp}{b:Addr}{o:Obj}(e:h.get? b=some o)(n:H b=none):(xD h H).get? b=some o :=
 PySem.W.hideAll_get _ e fun hm=>by
  have q:(H b).isSome=true:=(mem_filter.mp hm).2;rw [n] at q;simp at q
theorem zS{h:Heap}{H:Hp}{b:Addr}{o:Obj}(e:(xD h H).get? b=some o):h.get? b=some o/\H b=none:=by
 have e':h.get? b=some o:=PySem.W.of_hideAll (trk h H) e;refine⟨e',?_⟩
 cases q:H b with
 | none=>rfl
 | some x =>
  have hm:b∈trk h H:=mem_filter.mpr ⟨mem_range.mpr (Heap.lt_size e'),by simp [q]⟩;have z:(xD h H).get? b=none:=PySem.W.hideAll_none (trk h H) hm;rw [z] at e;cases e
structure Mod (K:PySem.W.Frag) (mg:Str->Option Value) (base:Heap):Prop where
 kin:K.In base
 glob:base.Ns mainGlobals mg
 blt:∃mb,base.Ns builtinsNs mb/\∀x:Str,x≠"__name__"->mb x=bootBuiltins x
 nolimit:base.NoLimit
structure Cx where
 prog:Program
 w:World
 K:PySem.W.Frag
 mg:Str->Option Value
 base:Heap
 A:Around
 N:List Str
 s₀:Shared
 H₀:Hp
 env:Env
 outer:List Env
 stack:List Env
 ex:List Addr
 fn:Str->Bool
 calm:Bool
 pn:List (Addr×Obj)
 xe:Value->Shared->Prop
def frs(l:List Env):List Addr:=l.filterMap (·.frame)
abbrev Cx.fs(X:Cx):List Addr:=frs X.outer
def Vis(sc:Scope)(x:Str):Prop:=sc.names.lookup x=some .local\/sc.names.lookup x=some .cell\/sc.names.lookup x=some .free
def Loc(sc:Scope)(x:Str):Prop:=sc.names.lookup x=some .local\/sc.names.lookup x=some .cell
def FG(env:Env)(h:Heap)(m:Str->Option Value)(x:Str)(u:Value):Prop :=
 (env.kindOf x=some .local/\m x=some u)\/((env.kindOf x=some .cell\/env.kindOf x=some .free)/\∃c,env.cells.lookup x=some c/\h.IsCell c (some u))
structure Cx.Ok (X:Cx):Prop where
 mod:Mod X.K X.mg X.base
 kind:X.env.scope.kind=.function
 glob:X.env.globals=mainGlobals
 blt:X.env.builtins=builtinsNs
 above:X.s₀.heap.objs.size<=X.env.locals
 inj:∀x y c,X.env.cells.lookup x=some c->X.env.cells.lookup y=some c->x=y
 has:∀x,(X.env.kindOf x=some .cell\/X.env.kindOf x=some .free)->∃c,X.env.cells.lookup x=some c
 cab:∀x c,X.fn x=true->X.env.cells.lookup x=some c->X.s₀.heap.objs.size<=c
 hd:X.calm=true->X.A.handled=none
 frames:X.A.frames=some X.stack
 stk:X.stack=X.outer\/(X.stack=X.env::X.outer/\X.env.frame=some X.env.locals)
 exf:∀b∈X.ex,b≠X.env.locals/\∀x c,X.env.cells.lookup x=some c->c≠b
 bs:∀b o,X.base.get? b=some o->X.s₀.heap.get? b=some o/\X.H₀ b=none
 bsz:X.base.objs.size<=X.s₀.heap.objs.size
 noex:∀b o,X.base.get? b=some o->b∉X.ex
 exfs:∀b∈X.ex,b∉X.fs
 funs:X.s₀.heap.FunFrames X.base X.outer
 frf:∀b∈X.fs,X.H₀ b=none
structure Inv (X:Cx) (pins:List (Addr×Obj)) (σ:List (Option V)) (H:Hp) (s:Shared):Prop where
 ok:X.Ok
 os:s.os=X.s₀.os
 bare:AllBare s.gens
 base:Un X.fs X.ex X.H₀ H X.s₀.heap s.heap
 loc:∃m,s.heap.Ns X.env.locals m/\∀(i:Nat) (x:Str) (v:V),X.N[i]?=some x->σ[i]?=some (some v)->Vis X.env.scope x->∃u,dS v u/\FG X.env s.heap m x u
 cell:∀x c,X.env.cells.lookup x=some c->∃v,s.heap.IsCell c v
 free:H X.env.locals=none
 freeC:∀x c,X.env.cells.lookup x=some c->H c=none
 pin:∀p∈X.pn++pins,s.heap.get? p.1=some p.2/\H p.1=none/\p.1≠X.env.locals/\p.1∉X.fs/\∀v,p.2.data≠.cell v
 hok:HOk X.prog X.w H s.heap
 len:σ.length=X.N.length
section
variable {X:Cx}{pins:List (Addr×Obj)}{σ:List (Option V)}{H H':Hp}{s:Shared}{h':Heap}
theorem Cx.Ok.nofr(ok:X.Ok){b:Addr}{o:Obj}(e:X.base.get? b=some o):b∉X.fs:=fun hb=>by
 have:=(ok.funs.mem hb).1;rw [e] at this;cases this
theorem Inv.bs(I:Inv X pins σ H s):∀b o,X.base.get? b=some o->s.heap.get? b=some o/\H b=none:=fun b o e =>
 ⟨I.base.keep b o (I.ok.bs b o e).1 (I.ok.bs b o e).2 (I.ok.nofr e) (I.ok.noex b o e),I.base.free b o (I.ok.bs b o e).1 (I.ok.bs b o e).2 (I.ok.noex b o e)⟩
theorem Inv.bk(I:Inv X pins σ H s):∀b o,X.base.get? b=some o->s.heap.get? b=some o:=fun b o e=>(I.bs b o e).1
theorem Inv.mod(I:Inv X pins σ H s):Mod X.K X.mg X.base:=I.ok.mod
theorem Inv.kIn(I:Inv X pins σ H s):X.K.In s.heap:=I.ok.mod.kin.keeps I.bk
theorem Inv.lt(I:Inv X pins σ H s):X.env.locals<s.heap.objs.size:=let ⟨_,hn,_⟩:=I.loc;hn.lt
theorem Inv.sz(I:Inv X pins σ H s):X.s₀.heap.objs.size<=s.heap.objs.size:=Nat.le_trans I.ok.above (le_of_lt I.lt)
theorem Inv.nofs(I:Inv X pins σ H s){a:Addr}(h:s.heap.objs.size<=a):a∉X.fs:=fun hb=>by
 obtain⟨_,o,ho,_⟩:=I.ok.funs.mem hb;exact absurd (lt_of_lt_of_le (Heap.lt_size ho) (Nat.le_trans I.sz h)) (Nat.lt_irrefl _)
theorem Inv.cne(I:Inv X pins σ H s):∀x c,X.env.cells.lookup x=some c->c≠X.env.locals:=fun x c e z=>by
 obtain⟨v,o,ho,hd⟩:=I.cell x c e;obtain⟨m,⟨o',es,ep,ho',hd',_⟩,_⟩:=I.loc;rw [z,ho'] at ho;cases ho;rw [hd'] at hd;cases hd
theorem Inv.funs(I:Inv X pins σ H s):s.heap.FunFrames X.base X.outer:=by
 have all:∀(l:List Env),(∀b∈frs l,b∈X.fs)->X.s₀.heap.FunFrames X.base l->s.heap.FunFrames X.base l:=by
  intro l
  induction l with
  | nil=>intro _ _;trivial
  | cons env r ih =>
   intro hs hl;obtain⟨hk,⟨L,o,hf,hn,ho,hd⟩,hr⟩:=hl;have hL:L∈X.fs:=hs L (by unfold frs;rw [filterMap_cons,hf];exact mem_cons_self);obtain⟨sl,e⟩:=I.base.slot L o ho (I.ok.frf L hL) hL fun z=>I.ok.exfs L z hL;exact⟨hk,⟨L,_,hf,hn,e,hd⟩,ih (fun b hb=>hs b (by unfold frs;rw [filterMap_cons,hf];exact mem_cons_of_mem _ hb)) hr⟩
 exact all X.outer (fun _ hb=>hb) I.ok.funs
theorem Inv.stack(I:Inv X pins σ H s):s.heap.FunFrames X.base X.stack:=by
 rcases I.ok.stk with e|⟨e,hf⟩
 .rw [e];exact I.funs
 .rw [e];obtain⟨m,hn,_⟩:=I.loc;refine .cons (by rw [I.ok.kind];decide) hf hn ?_ I.funs;exact Heap.get?_none_of_le (Nat.le_trans I.ok.bsz I.ok.above)
theorem Inv.stkSub(I:Inv X pins σ H s):∀b∈frs X.stack,b∈X.env.locals::X.fs:=fun b hb=>by
 rcases I.ok.stk with e|⟨e,hf⟩
 .rw [e] at hb;exact mem_cons_of_mem _ hb
 .rw [e] at hb;unfold frs at hb;rw [filterMap_cons,hf] at hb;exact hb
theorem Inv.stkFree(I:Inv X pins σ H s):∀b∈frs X.stack,H b=none:=fun b hb=>by
 rcases mem_cons.mp (I.stkSub b hb) with e|hb
 .rw [e];exact I.free
 .obtain⟨_,o,ho,_⟩:=I.ok.funs.mem hb;exact I.base.free b o ho (I.ok.frf b hb) fun z=>I.ok.exfs b z hb
theorem Inv.step{g':Array GenState}{t':Nat}{d':Drawn}{ch:List Addr}(I:Inv X pins σ H s)
  (hch:∀b∈ch,(b∈X.ex\/X.s₀.heap.objs.size<=b)/\b≠X.env.locals/\(∀x c,X.env.cells.lookup x=some c->c≠b)/\∀p∈X.pn++pins,p.1≠b)
  (keep:∀b o,b≠X.env.locals->b∉X.fs->b∉ch->s.heap.get? b=some o->H b=none->h'.get? b=some o)
  (slot:∀b o,b≠X.env.locals->b∈X.fs->b∉ch->s.heap.get? b=some o->H b=none->∃sl,h'.get? b=some { o with slots:=sl }) (free:∀b o,b∉ch->s.heap.get? b=some o->H b=none->H' b=none)
  (there:∀b o,b∉ch->s.heap.get? b=some o->∃o',h'.get? b=some o')
  (tups:∀b xs,H b=some (.tup xs)->H' b=some (.tup xs)) (frzs:∀b o u,H b=some (.frz o u)->H' b=some (.frz o u)) (tbls:∀b ps,H b=some (.tbl ps)->∃more,H' b=some (.tbl (ps++more)))
  (ns:∀m,s.heap.Ns X.env.locals m->h'.Ns X.env.locals m) (hok:HOk X.prog X.w H' h') (hg:AllBare g') :
  Inv X pins σ H' { s with heap:=h',gens:=g',drawn:=d',toks:=t' }:=by
 have neL:∀b o,X.s₀.heap.get? b=some o->b≠X.env.locals:=fun b o e=>ne_of_lt (lt_of_lt_of_le (Heap.lt_size e) I.ok.above)
 have neC:∀b o,X.s₀.heap.get? b=some o->b∉X.ex->b∉ch:=fun b o e hx hb=>by
  rcases (hch b hb).1 with z|z
  .exact hx z
  .exact absurd (lt_of_lt_of_le (Heap.lt_size e) z) (Nat.lt_irrefl _)
 have cellK:∀x c,X.env.cells.lookup x=some c->∀v,s.heap.IsCell c v->h'.IsCell c v:=fun x c e v ⟨o,ho,hd⟩=>by
  have nch:c∉ch:=fun z=>(hch c z).2.2.1 x c e rfl
  by_cases hc:c∈X.fs
  .obtain⟨sl,q⟩:=slot c o (I.cne x c e) hc nch ho (I.freeC x c e);exact⟨_,q,hd⟩
  .exact⟨o,keep c o (I.cne x c e) hc nch ho (I.freeC x c e),hd⟩
 refine⟨I.ok,I.os,hg,⟨fun b o e n hb hx=>?_,fun b o e n hb hx=>?_,fun b o e n hx=>?_,fun b o e hx=>?_,fun b xs e=>tups b xs (I.base.tups b xs e),fun b o xs e=>frzs b o xs (I.base.frzs b o xs e),fun b ps e=>?_⟩,?_,fun x c e=>?_,?_,fun x c e=>?_,fun p hp=>?_,hok,I.len⟩
 .exact keep b o (neL b o e) hb (neC b o e hx) (I.base.keep b o e n hb hx) (I.base.free b o e n hx)
 .obtain⟨sl,e1⟩:=I.base.slot b o e n hb hx;obtain⟨sl',e2⟩:=slot b _ (neL b o e) hb (neC b o e hx) e1 (I.base.free b o e n hx);exact⟨sl',e2⟩
 .obtain⟨o',e1⟩:=I.base.there b o e hx;exact free b o' (neC b o e hx) e1 (I.base.free b o e n hx)
 .obtain⟨o',e1⟩:=I.base.there b o e hx;exact there b o' (neC b o e hx) e1
 .obtain⟨m1,e1⟩:=I.base.tbls b ps e;obtain⟨m2,e2⟩:=tbls b _ e1;exact⟨m1++m2,by rw [e2,Array.append_assoc]⟩
 .obtain⟨m,hn,hl⟩:=I.loc;refine⟨m,ns m hn,fun i x v e1 e2 e3=>?_⟩;obtain⟨u,r,l⟩:=hl i x v e1 e2 e3;refine⟨u,r,?_⟩
  rcases l with l|⟨k,c,e,z⟩
  .exact .inl l
  .exact .inr ⟨k,c,e,cellK x c e _ z⟩
 .obtain⟨v,z⟩:=I.cell x c e;exact⟨v,cellK x c e v z⟩
 .obtain⟨m,⟨o,_,_,ho,_⟩,_⟩:=I.loc;exact free _ o (fun z=>(hch _ z).2.1 rfl) ho I.free
 .obtain⟨v,o,ho,hd⟩:=I.cell x c e;exact free c o (fun z=>(hch c z).2.2.1 x c e rfl) ho (I.freeC x c e)
 .obtain⟨e,n,ne,nf,d⟩:=I.pin p hp;have nch:p.1∉ch:=fun z=>(hch p.1 z).2.2.2 p hp rfl;exact⟨keep p.1 p.2 ne nf nch e n,free p.1 p.2 nch e n,ne,nf,d⟩
theorem Inv.un{t':Nat}(I:Inv X pins σ H s)(u:Un X.fs [] H H' s.heap h')(hok:HOk X.prog X.w H' h'):Inv X pins σ H' { s with heap:=h',toks:=t' }:=by
 obtain⟨m,⟨o,es,ep,ho,r⟩,_⟩:=id I.loc;obtain⟨sl,hL⟩:=u.any ho I.free (by simp)
 exact I.step (g':=s.gens) (d':=s.drawn) (ch:=[]) (fun _ z=>nomatch z) (fun b o _ hb _ e n=>u.keep b o e n hb (by simp)) (fun b o _ hb _ e n=>u.slot b o e n hb (by simp)) (fun b o _ e n=>u.free b o e n (by simp)) (fun b o _ e=>u.there b o e (by simp)) u.tups u.frzs u.tbls (fun m' hm=>by
  obtain⟨o',es',ep',ho',r'⟩:=hm;rw [ho] at ho';cases ho';exact⟨_,es',ep',hL,r'⟩) hok I.bare
theorem Inv.call{g':Array GenState}{t':Nat}{d':Drawn}{ch:List Addr}(I:Inv X pins σ H s)(u:Un (frs X.stack) ch H H' s.heap h')(hok:HOk X.prog X.w H' h')(hg:AllBare g')
  (hch:∀b∈ch,(b∈X.ex\/X.s₀.heap.objs.size<=b)/\b≠X.env.locals/\(∀x c,X.env.cells.lookup x=some c->c≠b)/\∀p∈X.pn++pins,p.1≠b) :
  Inv X pins σ H' { s with heap:=h',gens:=g',drawn:=d',toks:=t' }:=by
 obtain⟨m,⟨o,es,ep,ho,r⟩,_⟩:=id I.loc;obtain⟨sl,hL⟩:=u.any ho I.free fun z=>(hch _ z).2.1 rfl
 exact I.step (ch:=ch) hch (fun b o hL hb hc e n=>u.keep b o e n (fun z=>(mem_cons.mp (I.stkSub b z)).elim hL hb) hc) (fun b o _ _ hc e n=>u.any e n hc) (fun b o hc e n=>u.free b o e n hc) (fun b o hc e=>u.there b o e hc) u.tups u.frzs u.tbls (fun m' hm=>by
  obtain⟨o',es',ep',ho',r'⟩:=hm;rw [ho] at ho';cases ho';exact⟨_,es',ep',hL,r'⟩) hok hg
theorem Inv.turned{t':Nat}{it:Addr}(I:Inv X pins σ H s)(k:∀b o,b≠it->s.heap.get? b=some o->h'.get? b=some o)(hn:H it=none)(hL:it≠X.env.locals)
  (h1:it∈X.ex\/X.s₀.heap.objs.size<=it) (h2:∀x c,X.env.cells.lookup x=some c->c≠it) (h3:∀p∈X.pn++pins,p.1≠it):Inv X pins σ H { s with heap:=h',toks:=t' }:=by
 have nit:∀b u,H b=some u->b≠it:=fun b u e z=>by rw [z,hn] at e;cases e
 refine I.step (g':=s.gens) (d':=s.drawn) (ch:=[it]) (fun b hb=>?_) (fun b o _ _ hc e _=>k b o (fun z=>hc (by simp [z])) e) (fun b o _ _ hc e _=>⟨o.slots,k b o (fun z=>hc (by simp [z])) e⟩) (fun _ _ _ _ n=>n)
  (fun b o hc e=>⟨o,k b o (fun z=>hc (by simp [z])) e⟩) (fun _ _ e=>e) (fun _ _ _ e=>e) (fun b ps e=>⟨#[],by rw [e];simp⟩) (fun m hm=>?_) (fun b u e=>?_) I.bare
 .have e:b=it:=by simpa using hb
  subst e;exact⟨h1,hL,h2,h3⟩
 .obtain⟨o,es,ep,ho,r⟩:=hm;exact⟨o,es,ep,k _ o (Ne.symm hL) ho,r⟩
 .refine (I.hok b u e).stay (fun c v hc q=>k c v ?_ q) (fun _ q=>q) fun _ _ q=>q
  rcases hc with z|z
  .rw [z];exact nit b u e
  .exact nit c _ z
theorem Inv.tok(I:Inv X pins σ H s)(t:Nat):Inv X pins σ H { s with toks:=t }:=I.un (h':=s.heap) (t':=t) Un.refl I.hok
theorem Inv.kept{t':Nat}(I:Inv X pins σ H s)(k:∀b u,s.heap.get? b=some u->h'.get? b=some u):Inv X pins σ H { s with heap:=h',toks:=t' }:=I.un (Un.kept k) (I.hok.kept k)
theorem Inv.laid{a:Addr}{o:HO}{t':Nat}(I:Inv X pins σ H s)(k:∀b u,s.heap.get? b=some u->h'.get? b=some u)(hp:s.heap.objs.size<=a)(new:dq X.prog X.w (upd H a o) h' a o) :
  Inv X pins σ (upd H a o) { s with heap:=h',toks:=t' }:=I.un (Un.laid k hp (I.hok.fresh hp)) (I.hok.laid k hp new)
theorem Inv.write{x e:Addr}{o:HO}{t':Nat}(I:Inv X pins σ H s)(mu:Mut (H x))(he:e=x\/H e=some (.own x))(k:∀b u,b≠e->s.heap.get? b=some u->h'.get? b=some u)(heo:∃u,h'.get? e=some u)
  (new:dq X.prog X.w (upd H x o) h' x o):Inv X pins σ (upd H x o) { s with heap:=h',toks:=t' }:=I.un (Un.write mu he k heo) (I.hok.write mu he k heo new)
theorem Inv.pins_of{pins':List (Addr×Obj)}(I:Inv X pins σ H s)(h:∀p∈pins',s.heap.get? p.1=some p.2/\H p.1=none/\p.1≠X.env.locals/\p.1∉X.fs/\∀v,p.2.data≠.cell v):Inv X pins' σ H s :=
 ⟨I.ok,I.os,I.bare,I.base,I.loc,I.cell,I.free,I.freeC,fun p hp=>(mem_append.mp hp).elim (fun z=>I.pin p (mem_append_left _ z)) (h p),I.hok,I.len⟩
theorem sG{N:List Str}(hN:N.Nodup){i j:Nat}{x:Str}(a:N[i]?=some x)(b:N[j]?=some x):i=j:=by
 obtain⟨h1,e1⟩:=List.getElem?_eq_some_iff.mp a;obtain⟨h2,e2⟩:=List.getElem?_eq_some_iff.mp b;exact (getElem_inj hN).mp (e1.trans e2.symm)
theorem uW{M:Model}{A:Around}{E:Value->Shared->Prop}{i:Nat}{x:Str}{v:V}{u:Value}{Q:Unit->Shared->Prop}(I:Inv X pins σ H s)(hN:X.N.Nodup)(hi:X.N[i]?=some x)(hx:Loc X.env.scope x)(r:dS v u)
  (h:∀s',Inv X pins (σ.set i (some v)) H s'->(∃a,Heap.SameBut a s.heap s'.heap/\(a=X.env.locals\/X.env.cells.lookup x=some a))->Q () s') (hf:X.fn x=true\/X.env.scope.names.lookup x=some .local:=by first|exact .inl rfl|exact .inr rfl|assumption):wpAny M A (storeName X.env x u) Q E s:=by
 obtain⟨m,hn,hl⟩:=id I.loc;have hcls:(X.env.scope.kind == .class || (X.env.scope.kind == .module && X.env.locals != X.env.globals))=false:=by rw [I.ok.kind];rfl
 have hiσ:i<σ.length:=by rw [I.len];exact (List.getElem?_eq_some_iff.mp hi).1
 have cne:=I.cne
 have tracked:∀{a:Addr}{h':Heap},(∃o,s.heap.get? a=some o/\H a=none)->Heap.SameBut a s.heap h'->HOk X.prog X.w H h':=fun {a h'} ha hs b ob e=>by
  obtain⟨_,_,hfree⟩:=ha;refine (I.hok b ob e).stay (fun c w' hc q=>(hs.2 c ?_).trans q) (fun _ q=>q) fun _ _ q=>q;rintro rfl
  rcases hc with rfl|hc
  .rw [hfree] at e;cases e
  .rw [hfree] at hc;cases hc
 rcases hx with hk|hk
 .refine wpAny_storeName_local hk hn (fun h' hn' hs=>?_) hcls;obtain⟨oL,_,_,hoL,_⟩:=id hn
  refine h _ ⟨I.ok,I.os,I.bare,⟨fun b o e n hb hx=>?_,fun b o e n hb hx=>?_,I.base.free,fun b o e hx=>?_,I.base.tups,I.base.frzs,I.base.tbls⟩,⟨_,hn',fun j y v' e1 e2 e3=>?_⟩,fun y c e=>?_,I.free,I.freeC,fun p hp=>?_,tracked ⟨oL,hoL,I.free⟩ hs,by simpa using I.len⟩ ⟨_,hs,.inl rfl⟩
  .exact (hs.2 b (ne_of_lt (lt_of_lt_of_le (Heap.lt_size e) I.ok.above))).trans (I.base.keep b o e n hb hx)
  .obtain⟨sl,e1⟩:=I.base.slot b o e n hb hx;exact⟨sl,(hs.2 b (ne_of_lt (lt_of_lt_of_le (Heap.lt_size e) I.ok.above))).trans e1⟩
  .obtain⟨o',e1⟩:=I.base.there b o e hx;exact⟨o',(hs.2 b (ne_of_lt (lt_of_lt_of_le (Heap.lt_size e) I.ok.above))).trans e1⟩
  .by_cases hj:j=i
   .subst hj;rw [hi] at e1;cases e1;rw [getElem?_set_self hiσ] at e2;cases e2;exact⟨u,r,.inl ⟨hk,by simp⟩⟩
   .rw [getElem?_set_ne (Ne.symm hj)] at e2;obtain⟨u',r',q⟩:=hl j y v' e1 e2 e3;refine⟨u',r',?_⟩
    rcases q with ⟨k,e⟩|⟨k,c,e,z⟩
    .refine .inl ⟨k,?_⟩;have:y≠x:=fun e=>hj (sG hN e1 (e ▸ hi));simp [this,e]
    .exact .inr ⟨k,c,e,z.sameBut hs (cne y c e)⟩
  .obtain⟨w',z⟩:=I.cell y c e;exact⟨w',z.sameBut hs (cne y c e)⟩
  .obtain⟨e,n,ne,nf,d⟩:=I.pin p hp;exact⟨(hs.2 p.1 ne).trans e,n,ne,nf,d⟩
 .have hfn:X.fn x=true:=by
   rcases hf with z|z
   .exact z
   .rw [z] at hk;cases hk
  obtain⟨c,hc⟩:=I.ok.has x (.inl hk);obtain⟨w',z⟩:=I.cell x c hc;refine wpAny_storeName_cell I.ok.kind hk hc z (fun h' hc' hs=>?_);obtain⟨oc,hoc,hocd⟩:=id z
  refine h { s with heap:=h' } ⟨I.ok,I.os,I.bare,⟨fun b o e n hb hx=>?_,fun b o e n hb hx=>?_,I.base.free,fun b o e hx=>?_,I.base.tups,I.base.frzs,I.base.tbls⟩,⟨m,hn.sameBut hs (Ne.symm (cne x c hc)),fun j y v' e1 e2 e3=>?_⟩,fun y c' e=>?_,I.free,I.freeC,fun p hp=>?_,tracked ⟨oc,hoc,I.freeC x c hc⟩ hs,by simpa using I.len⟩ ⟨c,hs,.inr hc⟩
  .exact (hs.2 b (ne_of_lt (lt_of_lt_of_le (Heap.lt_size e) (I.ok.cab x c hfn hc)))).trans (I.base.keep b o e n hb hx)
  .obtain⟨sl,e1⟩:=I.base.slot b o e n hb hx;exact⟨sl,(hs.2 b (ne_of_lt (lt_of_lt_of_le (Heap.lt_size e) (I.ok.cab x c hfn hc)))).trans e1⟩
  .obtain⟨o',e1⟩:=I.base.there b o e hx;exact⟨o',(hs.2 b (ne_of_lt (lt_of_lt_of_le (Heap.lt_size e) (I.ok.cab x c hfn hc)))).trans e1⟩
  .by_cases hj:j=i
   .subst hj;rw [hi] at e1;cases e1;rw [getElem?_set_self hiσ] at e2;cases e2;exact⟨u,r,.inr ⟨.inl hk,c,hc,hc'⟩⟩
   .rw [getElem?_set_ne (Ne.symm hj)] at e2;obtain⟨u',r',q⟩:=hl j y v' e1 e2 e3;refine⟨u',r',?_⟩
    rcases q with q|⟨k,c',e,z'⟩
    .exact .inl q
    .refine .inr ⟨k,c',e,z'.sameBut hs ?_⟩;rintro rfl;exact hj (sG hN e1 (I.ok.inj _ _ _ e hc ▸ hi))
  .by_cases hcc:c'=c
   .subst hcc;exact⟨_,hc'⟩
   .obtain⟨w2,z2⟩:=I.cell y c' e;exact⟨w2,z2.sameBut hs hcc⟩
  .obtain⟨e,n,ne,nf,d⟩:=I.pin p hp;refine⟨(hs.2 p.1 ?_).trans e,n,ne,nf,d⟩;intro q;rw [q,hoc] at e;have q':oc=p.2:=Option.some.inj e;exact d w' (by rw [<- q'];exact hocd)
theorem nN{M:Model}{A:Around}{E:Value->Shared->Prop}{i:Nat}{x:Str}{v:V}{u:Value}{Q:Unit->Shared->Prop}(I:Inv X pins σ H s)(hN:X.N.Nodup)(hi:X.N[i]?=some x)(hx:Loc X.env.scope x)(r:dS v u)
  (h:∀s',Inv X pins (σ.set i (some v)) H s'->Q () s') (hf:X.fn x=true\/X.env.scope.names.lookup x=some .local:=by first|exact .inl rfl|exact .inr rfl|assumption):wpAny M A (storeName X.env x u) Q E s :=
 uW I hN hi hx r (fun s' I' _=>h s' I') hf
theorem Inv.call'{s':Shared}{ch:List Addr}(I:Inv X pins σ H s)(ho:s'.os=s.os)(u:Un (frs X.stack) ch H H' s.heap s'.heap)(hok:HOk X.prog X.w H' s'.heap)(hg:AllBare s'.gens)
  (hch:∀b∈ch,(b∈X.ex\/X.s₀.heap.objs.size<=b)/\b≠X.env.locals/\(∀x c,X.env.cells.lookup x=some c->c≠b)/\∀p∈X.pn++pins,p.1≠b):Inv X pins σ H' s':=by
 obtain⟨h',g',d',t',o'⟩:=s';have e:o'=s.os:=ho;subst e;exact I.call (g':=g') (t':=t') (d':=d') u hok hg hch
end
abbrev XK:=Value->Option Addr->Hp->Prop
abbrev St:=List (Option V)
abbrev VK:=V->Hp->Prop
abbrev TE:=St->Hp->VK->Prop
abbrev TT:=St->Hp->(Bool->Hp->Prop)->Prop
abbrev TA:=St->Hp->(List V->Hp->Prop)->Prop
structure BC where
 nx:St->Hp->Prop
 rt:VK
 bk:St->Hp->Prop:=fun _ _=>False
 ct:St->Hp->Prop:=fun _ _=>False
abbrev TS:=BC->St->Hp->Prop
def EP(X:Cx)(pins:List (Addr×Obj))(σ:St)(Q:VK)(u:Value)(s':Shared):Prop:=∃v H',Inv X pins σ H' s'/\dS v u/\Q v H'
def TP(X:Cx)(pins:List (Addr×Obj))(σ:St)(Q:Bool->Hp->Prop)(b:Bool)(s':Shared):Prop:=∃H',Inv X pins σ H' s'/\Q b H'
def AP(X:Cx)(pins:List (Addr×Obj))(σ:St)(Q:List V->Hp->Prop)(us:List Value)(s':Shared):Prop:=∃vs H',Inv X pins σ H' s'/\cm vs us/\Q vs H'
def SP(X:Cx)(pins:List (Addr×Obj))(D:BC)(f:Flow)(s':Shared):Prop :=
 match f with
 | .next=>∃σ' H',Inv X pins σ' H' s'/\D.nx σ' H'
 | .brk=>∃σ' H',Inv X pins σ' H' s'/\D.bk σ' H'
 | .cont=>∃σ' H',Inv X pins σ' H' s'/\D.ct σ' H'
 | .ret u=>∃v σ' H',Inv X pins σ' H' s'/\dS v u/\D.rt v H'
def PE(X:Cx)(e:Expr)(t:TE):Prop :=
 ∀(pins:List (Addr×Obj)) (s:Shared) (σ:St) (H:Hp) (Q:VK),Inv X pins σ H s->t σ H Q->wpAny (model X.prog X.w) X.A (eval e X.env) (EP X pins σ Q) X.xe s
def PT(X:Cx)(e:Expr)(t:TT):Prop :=
 ∀(pins:List (Addr×Obj)) (s:Shared) (σ:St) (H:Hp) (Q:Bool->Hp->Prop),Inv X pins σ H s->t σ H Q->wpAny (model X.prog X.w) X.A (isTrue e X.env (eval e X.env)) (TP X pins σ Q) X.xe s
def PW(X:Cx)(e:Expr)(t:TT):Prop :=
 ∀(whole:Sem Value) (pins:List (Addr×Obj)) (s:Shared) (σ:St) (H:Hp) (Q:Bool->Hp->Prop),Inv X pins σ H s->t σ H Q->wpAny (model X.prog X.w) X.A (isTrue e X.env whole) (TP X pins σ Q) X.xe s
theorem PW.pt{X:Cx}{e:Expr}{t:TT}(h:PW X e t):PT X e t:=h _
def PA(X:Cx)(es:List Expr)(t:TA):Prop :=
 ∀(pos:Pos) (pins:List (Addr×Obj)) (s:Shared) (σ:St) (H:Hp) (Q:List V->Hp->Prop),Inv X pins σ H s->t σ H Q->wpAny (model X.prog X.w) X.A (spliced (backTo pos (starEach es X.env))) (AP X pins σ Q) X.xe s
def PS(X:Cx)(st:Stmt)(t:TS):Prop :=
 ∀(pins:List (Addr×Obj)) (s:Shared) (σ:St) (H:Hp) (D:BC),Inv X pins σ H s->t D σ H->wpAny (model X.prog X.w) X.A (exec st X.env) (SP X pins D) X.xe s
def PSs(X:Cx)(st:List Stmt)(t:TS):Prop :=
 ∀(pins:List (Addr×Obj)) (s:Shared) (σ:St) (H:Hp) (D:BC),Inv X pins σ H s->t D σ H->wpAny (model X.prog X.w) X.A (execs st X.env) (SP X pins D) X.xe s
theorem thn{α:Type}{t:Sem α}{Q Q':α->Shared->Prop}{M:Model}{A:Around}{E:Value->Shared->Prop}{s:Shared}(h:wpAny M A t Q E s)(hQ:∀a s,Q a s->Q' a s):wpAny M A t Q' E s:=wpAny_mono h hQ fun _ _ x=>x
section
variable {X:Cx}
def bz(i:Nat):TE:=fun σ H Q=>∃v,σ[i]?=some (some v)/\Q v H
def tC(v:V):TE:=fun _ H Q=>Q v H
theorem BV{i:Nat}{x:Str}{pos:Pos}(hN:X.N[i]?=some x)(hv:Vis X.env.scope x)(hd:(x == ("__debug__":Str))=false:=by decide)(hcd:(x == ("__classdict__":Str))=false:=by decide):PE X (.Name x pos) (bz i):=by
 intro pins s σ H Q I h;obtain⟨v,e,h⟩:=h;obtain⟨m,hn,hl⟩:=I.loc;obtain⟨u,r,l⟩:=hl i x v hN e hv;have fin:EP X pins σ Q u s:=⟨v,H,I,r,h⟩
 rcases l with ⟨hk,hm⟩|⟨hk,c,hc,hcell⟩
 .exact wpAny_Name (wpAny_loadName_local I.ok.kind hk hn hm fin) hd
 .rcases hk with hk|hk
  .exact wpAny_Name (wpAny_loadName_cell I.ok.kind hk hc hcell fin) hd
  .exact wpAny_Name (wpAny_loadName_free I.ok.kind hk hc hcell fin hcd) hd
theorem ay{i j pos}:PE X (.Constant (.int i) j pos) (tC (.int i)):=fun _ _ _ H _ I h=>wpAny_Constant_int ⟨.int i,H,I.tok _,⟨_,rfl⟩,h⟩
theorem md{b j pos}:PE X (.Constant (.bool b) j pos) (tC (.bl b)):=fun _ _ _ H _ I h=>Constant_bool ⟨.bl b,H,I,rfl,h⟩
theorem BW{x j pos}:PE X (.Constant (.str x) j pos) (tC (.str x)):=fun _ _ _ H _ I h=>Calls.Constant_str ⟨.str x,H,I.tok _,⟨_,rfl⟩,h⟩
def Gl(X:Cx)(x:Str):Prop:=X.env.kindOf x=some .globalImplicit
theorem qQ{E:Value->Shared->Prop}{pins:List (Addr×Obj)}{s:Shared}{σ:St}{H:Hp}{x:Str}{u:Value}{pos:Pos}{Q:Value->Shared->Prop}(I:Inv X pins σ H s)(hg:Gl X x)(hm:X.mg x=some u)(h:Q u s)
  (hd:(x == ("__debug__":Str))=false:=by decide):wpAny (model X.prog X.w) X.A (eval (.Name x pos) X.env) Q E s :=
 Calls.Name_function_global I.ok.kind hg (Calls.loadGlobal_global (by rw [I.ok.glob];exact I.mod.glob.keeps I.bk) hm h) hd
theorem iQ{E:Value->Shared->Prop}{pins:List (Addr×Obj)}{s:Shared}{σ:St}{H:Hp}{x:Str}{u:Value}{pos:Pos}{Q:Value->Shared->Prop}(I:Inv X pins σ H s)(hg:Gl X x)(hm:X.mg x=none)(hv:bootBuiltins x=some u)(h:Q u s)
  (hn:x≠"__name__":=by decide) (hd:(x == ("__debug__":Str))=false:=by decide):wpAny (model X.prog X.w) X.A (eval (.Name x pos) X.env) Q E s:=by
 obtain⟨mb,h1,h2⟩:=I.mod.blt;exact Calls.Name_function_global I.ok.kind hg (Calls.loadGlobal_builtin (by rw [I.ok.glob];exact I.mod.glob.keeps I.bk) hm (by rw [I.ok.blt];exact h1.keeps I.bk) ((h2 x hn).trans hv) h) hd
theorem zT{x:Str}{v:V}{u:Value}{pos:Pos}(hg:Gl X x)(hm:X.mg x=some u)(r:dS v u)(hd:(x == ("__debug__":Str))=false:=by decide):PE X (.Name x pos) (tC v) :=
 fun _ _ _ H _ I h=>qQ I hg hm ⟨v,H,I,r,h⟩ hd
theorem qR{x:Str}{v:V}{u:Value}{pos:Pos}(hg:Gl X x)(hm:X.mg x=none)(hv:bootBuiltins x=some u)(r:dS v u)(hn:x≠"__name__":=by decide)(hd:(x == ("__debug__":Str))=false:=by decide):PE X (.Name x pos) (tC v) :=
 fun _ _ _ H _ I h=>iQ I hg hm hv ⟨v,H,I,r,h⟩ hn hd
variable {a b:Expr}{ta tb:TE}{pos:Pos}
def tB(t:TE):TT:=fun σ H Q=>t σ H fun x H1=>∃c,x=.bl c/\Q c H1
theorem BX{e:Expr}{t:TE}(h:PE X e t)(he:∀whole,isTrue e X.env whole=(do let v <- whole;standAt e.pos;holding [v] (truthy v)):=by intro _;rfl):PT X e (tB t):=by
 intro pins s σ H Q I hw;refine isTrue_plain (thn (h pins s σ H _ I hw) fun v s1 ⟨x,H1,I1,r1,q1⟩=>?_) (he _);obtain⟨d,rfl,q⟩:=q1;cases r1;exact wpAny_truthy_bool ⟨H1,I1,q⟩
variable {tA tB':TT}{rest:List Expr}
def E6(t u:TT):TT:=fun σ H Q=>t σ H fun c H1=>if c=true then u σ H1 Q else Q false H1
def tOr(t u:TT):TT:=fun σ H Q=>t σ H fun c H1=>if c=true then Q true H1 else u σ H1 Q
def D4(t:TT):TT:=fun σ H Q=>t σ H fun c H1=>Q (!c) H1
theorem uX(ha:PT X a tA):PW X (.BoolOp .And [a] pos) tA:=by
 intro wh pins s σ H Q I h;refine isTrue_and (thn (ha pins s σ H Q I h) fun c s1 e=>?_)
 cases c with
 | true=>exact isTrue_and_nil e
 | false=>exact e
theorem pq(ha:PT X a tA):PW X (.BoolOp .Or [a] pos) tA:=by
 intro wh pins s σ H Q I h;refine isTrue_or (thn (ha pins s σ H Q I h) fun c s1 e=>?_)
 cases c with
 | false=>exact isTrue_or_nil e
 | true=>exact e
theorem yS(ha:PT X a tA)(hb:PW X (.BoolOp .And (b::rest) pos) tB'):PW X (.BoolOp .And (a::b::rest) pos) (E6 tA tB'):=by
 intro wh pins s σ H Q I h;refine isTrue_and (thn (ha pins s σ H _ I h) fun c s1 ⟨H1,I1,q1⟩=>?_)
 cases c with
 | true=>exact hb wh pins s1 σ H1 Q I1 q1
 | false=>exact⟨H1,I1,q1⟩
theorem tS(ha:PT X a tA)(hb:PW X (.BoolOp .Or (b::rest) pos) tB'):PW X (.BoolOp .Or (a::b::rest) pos) (tOr tA tB'):=by
 intro wh pins s σ H Q I h;refine isTrue_or (thn (ha pins s σ H _ I h) fun c s1 ⟨H1,I1,q1⟩=>?_)
 cases c with
 | true=>exact⟨H1,I1,q1⟩
 | false=>exact hb wh pins s1 σ H1 Q I1 q1
theorem jJ(ha:PT X a tA):PT X (.UnaryOp .Not a pos) (D4 tA):=by
 intro pins s σ H Q I h;exact isTrue_not (ha pins s σ H (fun c H1=>Q (!c) H1) I h)
def BY(ta tb:TE):TE:=fun σ H Q=>ta σ H fun x H1=>∃c,x=.bl c/\if c=true then tb σ H1 Q else Q (.bl false) H1
def BZ(ta:TE):TE:=fun σ H Q=>ta σ H fun x H1=>∃c,x=.bl c/\Q (.bl (!c)) H1
theorem uY{op}{t:TE}(h:PE X a t):PE X (.BoolOp op [a] pos) t:=fun pins s σ H Q I hw=>BoolOp_one (h pins s σ H Q I hw)
theorem yT(ha:PE X a ta)(hb:PE X (.BoolOp .And (b::rest) pos) tb):PE X (.BoolOp .And (a::b::rest) pos) (BY ta tb):=by
 intro pins s σ H Q I h;refine BoolOp_and (thn (ha pins s σ H _ I h) fun v s1 ⟨x,H1,I1,r1,q1⟩=>?_);obtain⟨c,rfl,q1⟩:=q1;cases r1;refine wpAny_truthy_bool ?_
 cases c with
 | true=>exact hb pins s1 σ H1 Q I1 q1
 | false=>exact⟨.bl false,H1,I1,rfl,q1⟩
theorem B0(ha:PE X a ta):PE X (.UnaryOp .Not a pos) (BZ ta):=by
 intro pins s σ H Q I h;refine UnaryOp_ (thn (ha pins s σ H _ I h) fun v s1 ⟨x,H1,I1,r1,q1⟩=>?_);obtain⟨c,rfl,q1⟩:=q1;cases r1;exact not_of (wpAny_truthy_bool ⟨.bl (!c),H1,I1,rfl,q1⟩)
def tIf(t:TT)(ta tb:TE):TE:=fun σ H Q=>t σ H fun c H1=>if c=true then ta σ H1 Q else tb σ H1 Q
theorem xF{c:Expr}(hc:PT X c tA)(ha:PE X a ta)(hb:PE X b tb):PE X (.IfExp c a b pos) (tIf tA ta tb):=by
 intro pins s σ H Q I h;refine wpAny_IfExp (thn (hc pins s σ H _ I h) fun d s1 ⟨H1,I1,q1⟩=>?_)
 cases d with
 | true=>exact ha pins s1 σ H1 Q I1 q1
 | false=>exact hb pins s1 σ H1 Q I1 q1
end
def SqL(K:PySem.W.Frag)(H:Hp)(a:Addr)(xs:List V):Prop :=
 Rd H a (.lst xs) \/
  ∃(o:Obj) (its:Array Value) (n:Nat),K.lookup a=some o/\o.cls=.type "list"/\o.dict=none/\o.data=.seq its n/\its.size<=sizeLine/\cm xs its.toList
def SqT(K:PySem.W.Frag)(H:Hp)(a:Addr)(xs:List V):Prop :=
 Rd H a (.tup xs) \/
  ∃(o:Obj) (its:Array Value) (n:Nat),K.lookup a=some o/\o.cls=.type "tuple"/\o.data=.seq its n/\its.size<=sizeLine/\cm xs its.toList
def FH:Value->Option V
 | .none=>some .non
 | .bool b=>some (.bl b)
 | .int i _=>some (.int i)
 | .str x _=>some (.str x)
 | .bytes b _=>some (.byt b)
 | .float b _=>some (.flt b)
 | .ref a=>some (.ref a)
 | .type n=>some (.ty n)
 | _=>none
theorem dS.abs{x:V}{u:Value}(r:dS x u):FH u=some x:=by
 cases x with
 | non=>cases r;rfl
 | bl _=>cases r;rfl
 | int _=>obtain⟨t,rfl⟩:=r;rfl
 | str _=>obtain⟨t,rfl⟩:=r;rfl
 | byt _=>obtain⟨t,rfl⟩:=r;rfl
 | flt _=>obtain⟨t,rfl⟩:=r;rfl
 | ref _=>cases r;rfl
 | ty _=>cases r;rfl
theorem dS.inj{x y:V}{u:Value}(r:dS x u)(q:dS y u):x=y:=Option.some.inj (r.abs.symm.trans q.abs)
theorem cm.inj:∀{xs ys:List V}{us:List Value},cm xs us->cm ys us->xs=ys
 | _,_,_,.nil,.nil=>rfl
 | _,_,_,.cons r t,.cons r' t'=>by rw [r.inj r',cm.inj t t']
section
variable {X:Cx}{pins:List (Addr×Obj)}{σ:St}{H:Hp}{s:Shared}{a:Addr}{xs ys:List V}
theorem SqL.of{K:PySem.W.Frag}(h:H a=some (.lst xs)):SqL K H a xs:=.inl (.inl h)
theorem SqT.of{K:PySem.W.Frag}(h:H a=some (.tup xs)):SqT K H a xs:=.inl (.inl h)
theorem Inv.list(I:Inv X pins σ H s)(h:SqL X.K H a xs):∃its:List Value,cm xs its/\PlainL s.heap a its.toArray/\xs.length<=sizeLine:=by
 rcases h with h|⟨o,its,n,hk,hc,hd,hs,hz,r⟩
 .obtain⟨z,its,n,r,e⟩:=h.ok I.hok;exact⟨its,r,⟨_,n,e,rfl,rfl,rfl⟩,z⟩
 .refine⟨its.toList,r,⟨o,n,I.kIn a o hk,hc,hd,by simpa using hs⟩,?_⟩;have e:=r.length;simp only [Array.length_toList] at e;omega
theorem Inv.tuple(I:Inv X pins σ H s)(h:SqT X.K H a xs):∃its:List Value,cm xs its/\IsTup s.heap a its.toArray/\xs.length<=sizeLine:=by
 rcases h with h|⟨o,its,n,hk,hc,hs,hz,r⟩
 .obtain⟨z,its,r,p⟩:=h.ok I.hok;exact⟨its,r,p,z⟩
 .refine⟨its.toList,r,⟨o,I.kIn a o hk,hc,n,by simpa using hs⟩,?_⟩;have e:=r.length;simp only [Array.length_toList] at e;omega
theorem Inv.list_inj(I:Inv X pins σ H s)(h:SqL X.K H a xs)(h':SqL X.K H a ys):xs=ys:=by
 obtain⟨its,r,⟨o,n,e,_,_,d⟩,_⟩:=I.list h;obtain⟨its',r',⟨o',n',e',_,_,d'⟩,_⟩:=I.list h';rw [e] at e';cases e';rw [d] at d';injection d' with d1 _;have:its=its':=by simpa using congrArg Array.toList d1
 subst this;exact r.inj r'
theorem Inv.tuple_inj(I:Inv X pins σ H s)(h:SqT X.K H a xs)(h':SqT X.K H a ys):xs=ys:=by
 obtain⟨its,r,⟨o,e,_,n,d⟩,_⟩:=I.tuple h;obtain⟨its',r',⟨o',e',_,n',d'⟩,_⟩:=I.tuple h';rw [e] at e';cases e';rw [d] at d';injection d' with d1 _;have:its=its':=by simpa using congrArg Array.toList d1
 subst this;exact r.inj r'
end
abbrev Cx.wish(X:Cx)(E:Value->Shared->Prop):Cx:={ X with xe:=E }
abbrev Cx.nox(X:Cx):Cx:=X.wish fun _ _=>False
theorem Cx.Ok.wish{X:Cx}(ok:X.Ok)(E:Value->Shared->Prop):(X.wish E).Ok :=
 ⟨ok.mod,ok.kind,ok.glob,ok.blt,ok.above,ok.inj,ok.has,ok.cab,ok.hd,ok.frames,ok.stk,ok.exf,ok.bs,ok.bsz,ok.noex,ok.exfs,ok.funs,ok.frf⟩
theorem Cx.Ok.unwish{X:Cx}{E:Value->Shared->Prop}(ok:(X.wish E).Ok):X.Ok :=
 ⟨ok.mod,ok.kind,ok.glob,ok.blt,ok.above,ok.inj,ok.has,ok.cab,ok.hd,ok.frames,ok.stk,ok.exf,ok.bs,ok.bsz,ok.noex,ok.exfs,ok.funs,ok.frf⟩
section
variable {X:Cx}{pins:List (Addr×Obj)}{σ:St}{H:Hp}{s:Shared}{E:Value->Shared->Prop}
theorem Inv.wish(I:Inv X pins σ H s)(E:Value->Shared->Prop):Inv (X.wish E) pins σ H s:=⟨I.ok.wish E,I.os,I.bare,I.base,I.loc,I.cell,I.free,I.freeC,I.pin,I.hok,I.len⟩
theorem Inv.unwish(I:Inv (X.wish E) pins σ H s):Inv X pins σ H s:=⟨I.ok.unwish,I.os,I.bare,I.base,I.loc,I.cell,I.free,I.freeC,I.pin,I.hok,I.len⟩
theorem SP.unwish{D:BC}{f:Flow}{s':Shared}(h:SP (X.wish E) pins D f s'):SP X pins D f s':=by
 cases f with
 | next=>obtain⟨σ',H',I,q⟩:=h;exact⟨σ',H',I.unwish,q⟩
 | brk=>obtain⟨σ',H',I,q⟩:=h;exact⟨σ',H',I.unwish,q⟩
 | cont=>obtain⟨σ',H',I,q⟩:=h;exact⟨σ',H',I.unwish,q⟩
 | ret u=>obtain⟨v,σ',H',I,r,q⟩:=h;exact⟨v,σ',H',I.unwish,r,q⟩
theorem PSs.nox{st:List Stmt}{t:TS}(h:PSs X.nox st t):PSs X st t:=fun pins s σ H D I hw =>
 wpAny_mono (h pins s σ H D (I.wish _) hw) (fun _ _ q=>q.unwish) fun _ _ z=>False.elim z
end
section
variable {X:Cx}{st:Stmt}{rest:List Stmt}{t u:TS}{e:Expr}{te:TE}{pos:Pos}
def B1:TS:=fun D σ H=>D.nx σ H
def E7(t u:TS):TS:=fun D σ H=>t { D with nx:=u D } σ H
theorem bJ:PSs X [] B1:=fun _ _ σ H _ I h=>wpAny_execs_nil ⟨σ,H,I,h⟩
theorem aj(h1:PS X st t)(h2:PSs X rest u):PSs X (st::rest) (E7 t u):=by
 intro pins s σ H D I h;refine wpAny_execs_cons (thn (h1 pins s σ H { D with nx:=u D } I h) fun f s1 q=>?_)
 cases f with
 | next =>
  obtain⟨σ',H',I',q⟩:=q;exact h2 pins s1 σ' H' D I' q
 | ret v=>exact q
 | brk=>exact q
 | cont=>exact q
theorem aq(h1:PS X st t):PSs X [st] t:=by
 intro pins s σ H D I h;refine wpAny_execs_cons (thn (h1 pins s σ H D I h) fun f s1 q=>?_)
 cases f with
 | next=>exact wpAny_execs_nil q
 | ret v=>exact q
 | brk=>exact q
 | cont=>exact q
theorem Inv.quiet{pins:List (Addr×Obj)}{σ:St}{H:Hp}{s:Shared}(I:Inv X pins σ H s):interactive X.env=false:=by simp [interactive,I.ok.kind]
def B2(te:TE):TS:=fun D σ H=>te σ H fun _ H1=>D.nx σ H1
theorem gu(he:PE X e te)(hs:swapsWith e none pos.line X.env=pure false:=by rfl):PS X (.Expr e pos) (B2 te):=by
 intro pins s σ H D I h;exact wpAny_Expr_any (thn (he pins s σ H _ I h) fun v s1 ⟨x,H1,I1,r1,q1⟩=>⟨σ,H1,I1,q1⟩) I.quiet hs
def E8(te:TE):TS:=fun D σ H=>te σ H D.rt
theorem aQ(he:PE X e te):PS X (.Return (some e) pos) (E8 te):=by
 intro pins s σ H D I h;exact wpAny_Return_some (thn (he pins s σ H _ I h) fun v s1 ⟨x,H1,I1,r1,q1⟩=>⟨x,σ,H1,I1,r1,q1⟩)
def E9(c:TT)(t u:TS):TS:=fun D σ H=>c σ H fun b H1=>if b=true then t D σ H1 else u D σ H1
theorem dB{c:Expr}{a b:List Stmt}{tc:TT}(hc:PT X c tc)(ha:PSs X a t)(hb:PSs X b u):PS X (.If c a b pos) (E9 tc t u):=by
 intro pins s σ H D I h;refine wpAny_If (thn (hc pins s σ H _ I h) fun d s1 ⟨H1,I1,q1⟩=>?_)
 cases d with
 | true=>exact ha pins s1 σ H1 D I1 q1
 | false=>exact hb pins s1 σ H1 D I1 q1
def yU:TS:=fun _ _ _=>False
theorem kv:PS X st yU:=fun _ _ _ _ _ _ h=>h.elim
end
abbrev TG:=V->St->Hp->(St->Hp->Prop)->Prop
abbrev TGs:=List V->St->Hp->(St->Hp->Prop)->Prop
def PG(X:Cx)(target:Expr)(t:TG):Prop :=
 ∀(pins:List (Addr×Obj)) (s:Shared) (σ:St) (H:Hp) (v:V) (u:Value) (Q:St->Hp->Prop),Inv X pins σ H s->dS v u->t v σ H Q ->
  wpAny (model X.prog X.w) X.A (assign target X.env u) (fun _ s'=>∃σ' H',Inv X pins σ' H' s'/\Q σ' H') X.xe s
def PGs(X:Cx)(ts:List Expr)(t:TGs):Prop :=
 ∀(pins:List (Addr×Obj)) (s:Shared) (σ:St) (H:Hp) (vs:List V) (us:List Value) (Q:St->Hp->Prop),Inv X pins σ H s->cm vs us->t vs σ H Q ->
  wpAny (model X.prog X.w) X.A (assignInOrder ((assignEach ts X.env).map (·.2)) us) (fun _ s'=>∃σ' H',Inv X pins σ' H' s'/\Q σ' H') X.xe s
abbrev D5:=V->V->V->Hp->(Hp->Prop)->Prop
def Fa(X:Cx)(t:D5):Prop :=
 ∀(pins:List (Addr×Obj)) (s:Shared) (σ:St) (H:Hp) (o i v:V) (ov iv u:Value) (Q:Hp->Prop),Inv X pins σ H s->dS o ov->dS i iv->dS v u->t o i v H Q ->
  wpAny (model X.prog X.w) X.A (setItem ov iv u) (fun _ s'=>∃H',Inv X pins σ H' s'/\Q H') X.xe s
section
variable {X:Cx}{pos:Pos}
def cw(i:Nat):TG:=fun v σ H Q=>Q (σ.set i (some v)) H
theorem aJ{i:Nat}{x:Str}(hN:X.N.Nodup)(hi:X.N[i]?=some x)(hx:Loc X.env.scope x)(hf:X.fn x=true\/X.env.scope.names.lookup x=some .local:=by first|exact .inl rfl|exact .inr rfl|assumption):PG X (.Name x pos) (cw i):=by
 intro pins s σ H v u Q I r h;exact wpAny_assign_Name (nN I hN hi hx r (fun s' I'=>⟨_,H,I',h⟩) hf)
def zU:TGs:=fun vs σ H Q=>vs=[]/\Q σ H
def ke(t:TG)(u:TGs):TGs:=fun vs σ H Q=>∃v r,vs=v::r/\t v σ H fun σ' H'=>u r σ' H' Q
theorem kC:PGs X [] zU:=by
 intro pins s σ H vs us Q I r h;obtain⟨e,h⟩:=h;subst e;cases r;exact assignInOrder_nil ⟨σ,H,I,h⟩
theorem dG{e:Expr}{es:List Expr}{t:TG}{u:TGs}(h1:PG X e t)(h2:PGs X es u)
  (hs:(assignEach (e::es) X.env).map (·.2)=assign e X.env::(assignEach es X.env).map (·.2):=by rfl):PGs X (e::es) (ke t u):=by
 intro pins s σ H vs us Q I r h;obtain⟨v,vr,e1,h⟩:=h;subst e1
 cases r with
 | cons r rr =>
  rw [hs];refine assignInOrder_cons (thn (h1 pins s σ H _ _ _ I r h) fun _ s1 ⟨σ1,H1,I1,q1⟩=>?_);exact h2 pins s1 σ1 H1 _ _ Q I1 rr q1
def FI(K:PySem.W.Frag)(n:Nat)(t:TGs):TG:=fun v σ H Q=>∃a xs,v=.ref a/\SqT K H a xs/\xs.length=n/\t xs σ H Q
theorem B3{es:List Expr}{k:Nat}{t:TGs}{n:Nat}(hc:X.calm=true)(h:PGs X es t)
  (hn:(assignEach es X.env).length=n:=by rfl) (hst:(assignEach es X.env).findIdx? (·.1)=none:=by rfl):PG X (.Tuple es k pos) (FI X.K n t):=by
 intro pins s σ H v u Q I r hw;obtain⟨a,xs,e1,hq,hl,hw⟩:=hw;subst e1;cases r;obtain⟨its,rv,ht,hz⟩:=I.tuple hq;refine assign_Tuple_tuple (I.ok.hd hc) ht (by simp [hn,<- hl,rv.length]) hst fun h' hx=>?_;have I1:Inv X pins σ H { s with heap:=h' }:=I.kept (t':=s.toks) fun b o e=>hx b o (ne_of_lt (Heap.lt_size e)) e;exact h pins _ σ H xs _ Q I1 (by simpa using rv) hw
def Fb(to ti:TE)(t:D5):TG:=fun v σ H Q=>to σ H fun o H1=>ti σ H1 fun i H2=>t o i v H2 fun H3=>Q σ H3
theorem yV{o i:Expr}{to ti:TE}{t:D5}(ho:PE X o to)(hi:PE X i ti)(hs:Fa X t)
  (ha:∀v,assign (.Subscript o i pos) X.env v=(do
   let ov <- holding [v] (eval o X.env)
   let iv <- holding [v,ov] (eval i X.env)
   standAt pos
   holding [v,ov,iv] (setItem ov iv v)
   release [v,ov,iv] []):=by intro _;rfl):PG X (.Subscript o i pos) (Fb to ti t):=by
 intro pins s σ H v u Q I r h;rw [ha];refine wpAny_bind (wpAny_holding (thn (ho pins s σ H _ I h) fun ov s1 ⟨x,H1,I1,r1,q1⟩=>?_));refine wpAny_bind (wpAny_holding (thn (hi pins s1 σ H1 _ I1 q1) fun iv s2 ⟨y,H2,I2,r2,q2⟩=>?_));refine wpAny_bind (wpAny_standAt (wpAny_bind (wpAny_holding (thn (hs pins s2 σ H2 x y v ov iv u _ I2 r1 r2 r q2) fun _ s3 ⟨H3,I3,q3⟩=>?_))));exact wpAny_release ⟨σ,H3,I3,q3⟩
def BD(te:TE)(g:TG):TS:=fun D σ H=>te σ H fun x H1=>g x σ H1 D.nx
theorem B4{tg e:Expr}{te:TE}{g:TG}(he:PE X e te)(hg:PG X tg g)(hs:swapsWithSole [tg] e pos.line X.env=pure false:=by rfl)(hw:swappedStores [tg] e X.env=pure none:=by rfl)
  (h1:(assignEach [tg] X.env).map (·.2)=[assign tg X.env]:=by rfl):PS X (.Assign [tg] e pos) (BD te g):=by
 intro pins s σ H D I h;refine wpAny_Assign_stores (thn (he pins s σ H _ I h) fun v s1 ⟨x,H1,I1,r1,q1⟩=>?_) hs hw;rw [h1];exact thn (hg pins s1 σ H1 x v _ I1 r1 q1) fun _ s2 q=>q
theorem aT{i:Nat}{x:Str}{e:Expr}{te:TE}{pos':Pos}(hN:X.N.Nodup)(hi:X.N[i]?=some x)(hx:Loc X.env.scope x)(he:PE X e te)(hs:swapsWith e (some (.Name x pos')) pos.line X.env=pure false:=by rfl)(hf:X.fn x=true\/X.env.scope.names.lookup x=some .local:=by first|exact .inl rfl|exact .inr rfl|assumption) :
  PS X (.Assign [.Name x pos'] e pos) (BD te (cw i)):=by
 intro pins s σ H D I h;refine wpAny_Assign_Name (thn (he pins s σ H _ I h) fun v s1 ⟨y,H1,I1,r1,q1⟩=>?_) hs;exact nN I1 hN hi hx r1 (fun s2 I2=>⟨_,H1,I2,q1⟩) hf
end
section
variable {X:Cx}{pos:Pos}
def yW(c:TT)(tb:TS):TS:=fun D σ H=>∃W:Nat->St->Hp->Prop,(∃m,W m σ H)/\∀m σ H,W m σ H ->
 c σ H fun b H1=>if b=true then ∃N:St->Hp->Prop,(∀σ' H',N σ' H'->∃m',m'<m/\W m' σ' H')/\tb { D with nx:=N,ct:=N,bk:=D.nx } σ H1 else D.nx σ H1
theorem xG{c:Expr}{body:List Stmt}{tc:TT}{tb:TS}(hp:PassesOwn (model X.prog X.w) X.A X.env X.xe)(hc:PT X c tc)(hb:PSs X body tb):PS X (.While c body [] pos) (yW tc tb):=by
 intro pins s σ H D I h;obtain⟨W,⟨m0,w0⟩,turn⟩:=h;refine wpAny_While (codeAny_whileLoop (fun n s'=>∃σ' H',Inv X pins σ' H' s'/\W n σ' H') ?_ m0 ⟨σ,H,I,w0⟩);rintro n s1 ⟨σ1,H1,I1,w1⟩;refine wpAny_passesOwn hp (thn (hc pins s1 σ1 H1 _ I1 (turn n σ1 H1 w1)) fun b s2 ⟨H2,I2,q2⟩=>?_)
 cases b with
 | true =>
  obtain⟨N,hN,q2⟩:=q2;rw [if_pos rfl];refine wpAny_passesOwn hp (thn (hb pins s2 σ1 H2 _ I2 q2) fun f s3 q3=>?_)
  cases f with
  | next =>
   obtain⟨σ3,H3,I3,n3⟩:=q3;obtain⟨m',hm,w3⟩:=hN σ3 H3 n3;exact⟨m',hm,σ3,H3,I3,w3⟩
  | cont =>
   obtain⟨σ3,H3,I3,n3⟩:=q3;obtain⟨m',hm,w3⟩:=hN σ3 H3 n3;exact⟨m',hm,σ3,H3,I3,w3⟩
  | brk=>exact q3
  | ret v=>exact q3
 | false =>
  rw [if_neg Bool.false_ne_true];exact wpAny_execs_nil ⟨σ1,H2,I2,q2⟩
end
structure It where
 go:Nat->Hp->Prop
 yld:Nat->Hp->V->Hp->Prop
 stop:Nat->Hp->Prop
def tT(X:Cx)(pins:List (Addr×Obj))(H:Hp)(b:Addr):Prop :=
 H b=none/\b≠X.env.locals/\b∉X.fs/\(b∈X.ex\/X.s₀.heap.objs.size<=b)/\(∀x c,X.env.cells.lookup x=some c->c≠b)/\∀p∈X.pn++pins,p.1≠b
theorem Inv.fpOk{X:Cx}{pins:List (Addr×Obj)}{σ:St}{H H':Hp}{s:Shared}{b:Addr}(I:Inv X pins σ H s)(hb:s.heap.objs.size<=b)(hn:H' b=none):tT X pins H' b:=by
 refine⟨hn,ne_of_gt (lt_of_lt_of_le I.lt hb),I.nofs hb,.inr (Nat.le_trans I.sz hb),fun x c e z=>?_,fun p hp z=>?_⟩
 .obtain⟨v,q⟩:=I.cell x c e;exact absurd (lt_of_lt_of_le q.lt (by rw [z];exact hb)) (Nat.lt_irrefl _)
 .exact absurd (lt_of_lt_of_le (Heap.lt_size (I.pin p hp).1) (by rw [z];exact hb)) (Nat.lt_irrefl _)
structure yX (P:Program) (w:World) (K:PySem.W.Frag) (tg:Expr) (J:It) (fp:List Addr) (it:Addr) (tn:Nat->Heap->Prop):Prop where
 mem:it∈fp
 obj:∀i h,tn i h->∀b∈fp,∃o,h.get? b=some o/\∀v,o.data≠.cell v
 keep:∀i h h',tn i h->(∀b∈fp,∀o,h.get? b=some o->h'.get? b=some o)->tn i h'
 item:∀(X:Cx),X.prog=P->X.w=w->X.K=K->X.calm=true->∀(i:Nat) (pins:List (Addr×Obj)) (s:Shared) (σ:St) (H:Hp) (E:Value->Shared->Prop),Inv X pins σ H s->(∀b∈fp,tT X pins H b)->tn i s.heap->J.go i H ->
  wpAny (model P w) X.A (pyNext (.ref it)) (fun r s1=>∃u,r=some u /\
   wpAny (model P w) X.A (letOwnedTupleGo tg (.ref it) u) (fun _ s2=>∃x H',Inv X pins σ H' s2/\dS x u/\J.yld i H x H'/\tn (i+1) s2.heap/\∀b∈fp,H' b=none) E s1) E s
 done:∀(X:Cx),X.prog=P->X.w=w->X.K=K->X.calm=true->∀(i:Nat) (pins:List (Addr×Obj)) (s:Shared) (σ:St) (H:Hp) (E:Value->Shared->Prop),Inv X pins σ H s->(∀b∈fp,tT X pins H b)->tn i s.heap->J.stop i H ->
  wpAny (model P w) X.A (pyNext (.ref it)) (fun r s1=>r=none/\Inv X pins σ H s1) E s
 self:∀(A:Around) (i:Nat) (s:Shared) (Q:Value->Shared->Prop) (E:Value->Shared->Prop),tn i s.heap->Q (.ref it) s->wpAny (model P w) A (pyIter (.ref it)) Q E s
abbrev TI:=St->Hp->(It->Hp->Prop)->Prop
def PIE(X:Cx)(pins:List (Addr×Obj))(σ:St)(tg:Expr)(R:It->Hp->Prop)(itv:Value)(s2:Shared):Prop :=
 ∃(it:Addr) (fp:List Addr) (tn:Nat->Heap->Prop) (J:It) (H':Hp),itv=.ref it/\Inv X pins σ H' s2/\yX X.prog X.w X.K tg J fp it tn/\tn 0 s2.heap/\(∀b∈fp,tT X pins H' b)/\R J H'
def PI(X:Cx)(tg iter:Expr)(wi:TI):Prop :=
 ∀(pins:List (Addr×Obj)) (s:Shared) (σ:St) (H:Hp) (R:It->Hp->Prop),Inv X pins σ H s->wi σ H R ->
  wpAny (model X.prog X.w) X.A (eval iter X.env) (fun v s1=>wpAny (model X.prog X.w) X.A (pyIter v) (PIE X pins σ tg R) X.xe s1) X.xe s
theorem zV{M:Model}{A:Around}{E:Value->Shared->Prop}{s:Shared}{tg:Expr}{it:Addr}{u:Value}{o:Obj}{n:String}{vs:Array Value}{Q:Unit->Shared->Prop}(ho:s.heap.get? it=some o)(hc:o.cls=.type n)(hd:o.data=.fields vs)
    (hn:["enumerate","zip","dict_itemiterator","dict_reverseitemiterator","odict_iterator","itertools.zip_longest","itertools.pairwise"].contains n=false) (hQ:Q () s):wpAny M A (letOwnedTupleGo tg (.ref it) u) Q E s:=by
  unfold letOwnedTupleGo
  cases tg <;> first
    | exact wpAny_pure hQ
    | (cases u <;> first
        | exact wpAny_pure hQ
        | (refine wpAny_bind (wpAny_load ho ?_)
           rw [hc,hd];show wpAny M A (if (["enumerate","zip","dict_itemiterator","dict_reverseitemiterator","odict_iterator","itertools.zip_longest","itertools.pairwise"].contains n && vs[0]? == some (rawInt _))=true then _ else _) Q E s;rw [if_neg (by intro h;rw [hn,Bool.false_and] at h;cases h)];exact wpAny_pure hQ))
def Itl(K:PySem.W.Frag)(a:Addr):It :=
 ⟨fun i H=>∃xs x,SqL K H a xs/\xs[i]?=some x,fun i H x H'=>H'=H/\∀xs,SqL K H a xs->xs[i]?=some x,fun i H=>∃xs,SqL K H a xs/\xs.length<=i⟩
def Itt(K:PySem.W.Frag)(a:Addr):It :=
 ⟨fun i H=>∃xs x,SqT K H a xs/\xs[i]?=some x,fun i H x H'=>H'=H/\∀xs,SqT K H a xs->xs[i]?=some x,fun i H=>∃xs,SqT K H a xs/\xs.length<=i⟩
def Itr(lo:Int)(n:Nat):It:=⟨fun i _=>i<n,fun i H x H'=>H'=H/\x=.int (lo+i),fun i _=>n<=i⟩
theorem uZ{P:Program}{w:World}{K:PySem.W.Frag}{tg:Expr}(a it:Addr):yX P w K tg (Itl K a) [it] it (fun i h=>h.IsListIter it a i) where
 mem:=by simp
 obj:=fun i h st b hb=>by
  have e:b=it:=by simpa using hb
  subst e;obtain⟨o,e,c,d⟩:=st;exact⟨o,e,fun v z=>by rw [d] at z;cases z⟩
 keep:=fun i h h' st k=>st.at fun o e=>k it (by simp) o e
 item:=by
  intro X hP hw hK hc i pins s σ H E I hf st hg;subst hP hw hK;obtain⟨xs,x,hq,hx⟩:=hg;obtain⟨its,rv,p,hz⟩:=I.list hq;obtain⟨u,hu,ru⟩:=rv.get hx;obtain⟨f0,f1,f2,f3,f4,f5⟩:=hf it (by simp);refine wpAny_pyNext_list_item st p.isList (x:=u) (by simpa using hu) fun h' st' sb=>?_;have I1:Inv X pins σ H { s with heap:=h' }:=I.turned (t':=s.toks) (fun b o hb e=>(sb.2 b hb).trans e) f0 f1 f3 f4 f5;obtain⟨o,e,c,d⟩:=id st'
  exact⟨u,rfl,zV (s:={ s with heap:=h' }) e c d (by decide) ⟨x,H,I1,ru,⟨rfl,fun ys hy=>by rw [I.list_inj hy hq];exact hx⟩,st',fun b hb=>(hf b hb).1⟩⟩
 done:=by
  intro X hP hw hK hc i pins s σ H E I hf st hg;subst hP hw hK;obtain⟨xs,hq,hx⟩:=hg;obtain⟨its,rv,p,hz⟩:=I.list hq;obtain⟨f0,f1,f2,f3,f4,f5⟩:=hf it (by simp);have hl:=rv.length;exact wpAny_pyNext_list_end (I.ok.hd hc) st p.isList (by simp;omega) fun h' eb=>⟨rfl,I.turned (t':=s.toks) (fun b o hb e=>eb b o hb e) f0 f1 f3 f4 f5⟩
 self:=fun _ _ _ _ _ st h=>wpAny_pyIter_listiter st h
theorem tU{P:Program}{w:World}{K:PySem.W.Frag}{tg:Expr}(a it:Addr):yX P w K tg (Itt K a) [it] it (fun i h=>h.IsTupleIter it a i) where
 mem:=by simp
 obj:=fun i h st b hb=>by
  have e:b=it:=by simpa using hb
  subst e;obtain⟨o,e,c,d⟩:=st;exact⟨o,e,fun v z=>by rw [d] at z;cases z⟩
 keep:=fun i h h' st k=>st.at fun o e=>k it (by simp) o e
 item:=by
  intro X hP hw hK hc i pins s σ H E I hf st hg;subst hP hw hK;obtain⟨xs,x,hq,hx⟩:=hg;obtain⟨its,rv,p,hz⟩:=I.tuple hq;obtain⟨u,hu,ru⟩:=rv.get hx;obtain⟨f0,f1,f2,f3,f4,f5⟩:=hf it (by simp);refine wpAny_pyNext_tuple_item st (show s.heap.IsTuple a its.toArray from p) (x:=u) (by simpa using hu) fun h' st' sb=>?_;have I1:Inv X pins σ H { s with heap:=h' }:=I.turned (t':=s.toks) (fun b o hb e=>(sb.2 b hb).trans e) f0 f1 f3 f4 f5
  obtain⟨o,e,c,d⟩:=id st';exact⟨u,rfl,zV (s:={ s with heap:=h' }) e c d (by decide) ⟨x,H,I1,ru,⟨rfl,fun ys hy=>by rw [I.tuple_inj hy hq];exact hx⟩,st',fun b hb=>(hf b hb).1⟩⟩
 done:=by
  intro X hP hw hK hc i pins s σ H E I hf st hg;subst hP hw hK;obtain⟨xs,hq,hx⟩:=hg;obtain⟨its,rv,p,hz⟩:=I.tuple hq;obtain⟨f0,f1,f2,f3,f4,f5⟩:=hf it (by simp);have hl:=rv.length;exact wpAny_pyNext_tuple_end (I.ok.hd hc) st (show s.heap.IsTuple a its.toArray from p) (by simp;omega) fun h' eb=>⟨rfl,I.turned (t':=s.toks) (fun b o hb e=>eb b o hb e) f0 f1 f3 f4 f5⟩
 self:=fun _ _ _ _ _ st h=>wpAny_pyIter_tupleiter st h
theorem tV{P:Program}{w:World}{K:PySem.W.Frag}{tg:Expr}(it:Addr)(lo:Int)(n:Nat):yX P w K tg (Itr lo n) [it] it (fun i h=>IsRangeIter h it (lo+(i:Nat)*1) ((n:Int) - (i:Nat)) 1) where
 mem:=by simp
 obj:=fun i h st b hb=>by
  have e:b=it:=by simpa using hb
  subst e
  exact⟨_,st,fun v z=>by
   have z':Data.fields _=Data.cell v:=z;cases z'⟩
 keep:=fun i h h' st k=>k it (by simp) _ st
 item:=by
  intro X hP hw hK hc i pins s σ H E I hf st hg;subst hP hw hK;obtain⟨f0,f1,f2,f3,f4,f5⟩:=hf it (by simp);have W:=Walks.range (prog:=X.prog) (w:=X.w) (I.ok.hd hc) it lo 1 n;refine W.item i s _ _ hg st fun v h' tk hv st' kk=>?_;obtain⟨t,rfl⟩:=hv;have I1:Inv X pins σ H { s with heap:=h',toks:=tk }:=I.turned (fun b o hb e=>kk b o (by simpa using hb) e) f0 f1 f3 f4 f5;refine⟨_,rfl,zV (s:={ s with heap:=h',toks:=tk }) (n:="range_iterator") st' rfl rfl (by decide) ⟨.int (lo+i),H,I1,⟨t,?_⟩,⟨rfl,rfl⟩,st',fun b hb=>(hf b hb).1⟩⟩
  rw [Int.mul_one]
 done:=by
  intro X hP hw hK hc i pins s σ H E I hf st hg;subst hP hw hK;obtain⟨f0,f1,f2,f3,f4,f5⟩:=hf it (by simp);exact wpAny_pyNext_range_end (I.ok.hd hc) st (by have:n<=i:=hg;omega) fun h' eb=>⟨rfl,I.turned (t':=s.toks) (fun b o hb e=>eb b o hb e) f0 f1 f3 f4 f5⟩
 self:=fun _ _ _ _ _ st h=>wpAny_pyIter_rangeiter st h
section
variable {X:Cx}{tg:Expr}
theorem sH{pins:List (Addr×Obj)}{σ:St}{H:Hp}{s:Shared}{R:It->Hp->Prop}{E:Value->Shared->Prop}{lo hi:Int}{t u v:Tok}{tk:Nat}(I:Inv X pins σ H s)(h1:-(2^62)<=lo)(h2:lo<2^62)(h3:-(2^62)<=hi)(h4:hi<2^62)
  (q:R (Itr lo (hi - lo).toNat) H):wpAny (model X.prog X.w) X.A (pyIter (.ref s.heap.objs.size)) (PIE X pins σ tg R) E { s with heap:=s.heap.push { cls:=.type "range",data:=.fields #[.int lo t,.int hi u,.int 1 v] },toks:=tk }:=by
 refine wpAny_pyIter_range (IsRange.new ..) (small_one h1 h2 h3 h4) ?_;have I1:Inv X pins σ H { s with heap:=s.heap.push { cls:=.type "range",data:=.fields #[.int lo t,.int hi u,.int 1 v] },toks:=tk }:=I.kept fun b o e=>Heap.get?_push_of_some _ e
 refine⟨(s.heap.push { cls:=.type "range",data:=.fields #[.int lo t,.int hi u,.int 1 v] }).objs.size,[(s.heap.push { cls:=.type "range",data:=.fields #[.int lo t,.int hi u,.int 1 v] }).objs.size],_,_,H,rfl,
  I1.kept (t':=tk) fun b o e=>Heap.get?_push_of_some _ e,tV _ lo (hi - lo).toNat,?_,fun b hb=>?_,q⟩
 .have e1:lo+((0:Nat):Int)*1=lo:=by simp
  have e2:(((hi - lo).toNat:Nat):Int) - ((0:Nat):Int)=Builtin.Range.rangeSize lo hi 1:=by rw [rangeSize_one];split <;> omega
  show IsRangeIter _ _ (lo+((0:Nat):Int)*1) ((((hi - lo).toNat:Nat):Int) - ((0:Nat):Int)) 1;rw [e1,e2];exact Heap.get?_push_size _ rfl
 .have e:b=(s.heap.push { cls:=.type "range",data:=.fields #[.int lo t,.int hi u,.int 1 v] }).objs.size:=by simpa using hb
  subst e;exact I1.fpOk (le_refl _) (I1.hok.fresh (le_refl _))
def qS(ta:TA):TI:=fun σ H R=>ta σ H fun vs H1=>∃j:Int,vs=[.int j]/\-(2^62)<=j/\j<2^62/\R (Itr 0 j.toNat) H1
def B5(ta:TA):TI:=fun σ H R=>ta σ H fun vs H1=>∃i j:Int,vs=[.int i,.int j]/\(-(2^62)<=i/\i<2^62/\-(2^62)<=j/\j<2^62)/\R (Itr i (j - i).toNat) H1
theorem cH{a:Expr}{ta:TA}{p pos:Pos}(hg:Gl X "range")(hm:X.mg "range"=none)(ha:PA X [a] ta)(hs:starEach [a] X.env=[(false,eval a X.env)]:=by rfl):PI X tg (.Call (.Name "range" p) [a] [] pos) (qS ta):=by
 intro pins s σ H R I h;refine Call_ (iQ I hg hm boot_range (PyProof.Rows.callWith_type1 (thn (ha pos pins s σ H _ I h) fun us s1 ⟨vs,H1,I1,r1,q1⟩=>?_) hs rfl));obtain⟨j,e,q1,q2,q⟩:=q1;subst e
 cases r1 with
 | cons r rr =>
  cases rr;obtain⟨t,rfl⟩:=r;exact call_range_1 (sH I1 (by omega) (by omega) q1 q2 (by simpa using q))
theorem u0{a b:Expr}{ta:TA}{p pos:Pos}(hg:Gl X "range")(hm:X.mg "range"=none)(ha:PA X [a,b] ta)(hs:starEach [a,b] X.env=[(false,eval a X.env),(false,eval b X.env)]:=by rfl)(hs2:starEach [b] X.env=[(false,eval b X.env)]:=by rfl) :
  PI X tg (.Call (.Name "range" p) [a,b] [] pos) (B5 ta):=by
 intro pins s σ H R I h;refine Call_ (iQ I hg hm boot_range (PyProof.Rows.callWith_type1 (thn (ha pos pins s σ H _ I h) fun us s1 ⟨vs,H1,I1,r1,q1⟩=>?_) (by rw [hs,hs2]) (by rw [hs2];rfl)));obtain⟨i,j,e,⟨q1,q2,q3,q4⟩,q⟩:=q1;subst e
 cases r1 with
 | cons r rr =>
  cases rr with
  | cons r' rr =>
   cases rr;obtain⟨t,rfl⟩:=r;obtain⟨t',rfl⟩:=r';exact call_range_2 (sH I1 q1 q2 q3 q4 q)
def Fc(wi:TI)(g:TG)(tb:TS):TS:=fun D σ H=>wi σ H fun J H1=>∃W:Nat->Nat->St->Hp->Prop,(∃m,W 0 m σ H1)/\∀i m σ H,W i m σ H ->
 (J.stop i H/\D.nx σ H)\/(J.go i H/\∃N:St->Hp->Prop,(∀σ' H',N σ' H'->∃m',m'<m/\W (i+1) m' σ' H')/\∀x H',J.yld i H x H'->g x σ H' fun σ2 H2=>tb { D with nx:=N,ct:=N,bk:=D.nx } σ2 H2)
def px(fp:List Addr)(h:Heap):List (Addr×Obj):=fp.filterMap fun b=>(h.get? b).map fun o=>(b,o)
theorem gQ{fp:List Addr}{h:Heap}{b:Addr}{o:Obj}(hb:b∈fp)(e:h.get? b=some o):(b,o)∈px fp h:=mem_filterMap.mpr ⟨b,hb,by rw [e];rfl⟩
theorem u4{fp:List Addr}{h:Heap}{p:Addr×Obj}(hp:p∈px fp h):p.1∈fp/\h.get? p.1=some p.2:=by
 obtain⟨b,hb,e⟩:=mem_filterMap.mp hp
 cases q:h.get? b with
 | none=>rw [q] at e;cases e
 | some o =>
  rw [q] at e;have e':(b,o)=p:=Option.some.inj e;subst e';exact⟨hb,q⟩
theorem Inv.pinned{pins:List (Addr×Obj)}{σ:St}{H:Hp}{s:Shared}{fp:List Addr}(I:Inv X pins σ H s)(hf:∀b∈fp,tT X pins H b)(ho:∀b∈fp,∃o,s.heap.get? b=some o/\∀v,o.data≠.cell v):Inv X (pins++px fp s.heap) σ H s :=
 I.pins_of fun p hp=>(mem_append.mp hp).elim (fun z=>I.pin p (mem_append_right _ z)) fun z=>by
  obtain⟨hb,e⟩:=u4 z;obtain⟨f0,f1,f2,_⟩:=hf p.1 hb;obtain⟨o,e',d⟩:=ho p.1 hb;rw [e] at e';cases e';exact⟨e,f0,f1,f2,d⟩
theorem Inv.unpinned{pins pl:List (Addr×Obj)}{σ:St}{H:Hp}{s:Shared}(I:Inv X (pins++pl) σ H s):Inv X pins σ H s:=I.pins_of fun p hp=>I.pin p (mem_append_right _ (mem_append_left _ hp))
theorem en{iter:Expr}{body:List Stmt}{wi:TI}{g:TG}{tb:TS}{pos:Pos}(hp:PassesOwn (model X.prog X.w) X.A X.env X.xe)(hc:X.calm=true)(hi:PI X tg iter wi)(hg:PG X tg g)(hb:PSs X body tb)
  (hs:∀x,foldedSetIterable iter X.env x=pure x:=by intro _;rfl):PS X (.For tg iter body [] pos) (Fc wi g tb):=by
 intro pins s σ H D I h;refine wpAny_For (thn (hi pins s σ H _ I h) fun v s1 h1=>thn h1 fun itv s2 h2=>?_) hs;obtain⟨it,fp,tn,J,H2,e,I2,T,st2,f2,W,⟨m0,w0⟩,turn⟩:=h2;subst e
 -- what stays true of the iterator's objects through the loop
 have stat:∀{H':Hp},(∀b∈fp,H' b=none)->∀b∈fp,tT X pins H' b:=fun hn b hb=>⟨hn b hb,(f2 b hb).2⟩
 refine codeAny_forLoop_any (fun n s'=>∃i σ' H',Inv X pins σ' H' s'/\tn i s'.heap/\(∀b∈fp,H' b=none)/\W i n σ' H') ?_ m0 ⟨0,σ,H2,I2,st2,fun b hb=>(f2 b hb).1,w0⟩;rintro n s3 ⟨i,σ3,H3,I3,st3,fr3,w3⟩
 rcases turn i n σ3 H3 w3 with ⟨stop,qn⟩|⟨go,N,hN,step⟩
 .refine wpAny_passesOwn hp (thn (T.done X rfl rfl rfl hc i pins s3 σ3 H3 X.xe I3 (stat fr3) st3 stop) fun r s4 ⟨hr,I4⟩=>?_);subst hr;exact wpAny_execs_nil ⟨σ3,H3,I4,qn⟩
 .refine wpAny_passesOwn hp (thn (T.item X rfl rfl rfl hc i pins s3 σ3 H3 X.xe I3 (stat fr3) st3 go) fun r s4 ⟨u,hr,h4⟩=>?_);subst hr;refine wpAny_passesOwn hp (thn h4 fun _ s5 ⟨x,H5,I5,r5,y5,st5,fr5⟩=>?_);have I5':=I5.pinned (stat fr5) (T.obj _ _ st5);refine wpAny_passesOwn hp (thn (hg _ s5 σ3 H5 x u _ I5' r5 (step x H5 y5)) fun _ s6 ⟨σ6,H6,I6,q6⟩=>?_);refine wpAny_passesOwn hp (thn (hb _ s6 σ6 H6 _ I6 q6) fun f s7 q7=>?_)
  have again:∀{σ7:St}{H7:Hp},Inv X (pins++px fp s5.heap) σ7 H7 s7->N σ7 H7->∃m,m<n/\∃i σ' H',Inv X pins σ' H' s7/\tn i s7.heap/\(∀b∈fp,H' b=none)/\W i m σ' H':=fun {σ7 H7} I7 n7=>by
   obtain⟨m',hm,w7⟩:=hN σ7 H7 n7;refine⟨m',hm,i+1,σ7,H7,I7.unpinned,T.keep _ _ _ st5 fun b hb o e=>(I7.pin (b,o) (mem_append_right _ (mem_append_right _ (gQ hb e)))).1,fun b hb=>?_,w7⟩;obtain⟨o,e,d⟩:=T.obj _ _ st5 b hb;exact (I7.pin (b,o) (mem_append_right _ (mem_append_right _ (gQ hb e)))).2.1
  cases f with
  | next=>obtain⟨σ7,H7,I7,n7⟩:=q7;exact again I7 n7
  | cont=>obtain⟨σ7,H7,I7,n7⟩:=q7;exact again I7 n7
  | brk=>obtain⟨σ7,H7,I7,q7⟩:=q7;exact⟨σ7,H7,I7.unpinned,q7⟩
  | ret v=>obtain⟨x7,σ7,H7,I7,r7,q7⟩:=q7;exact⟨x7,σ7,H7,I7.unpinned,r7,q7⟩
end
abbrev R2:=V->V->Hp->VK->Prop
def OpR(X:Cx)(f:Value->Value->Sem Value)(r:R2):Prop :=
 ∀(pins:List (Addr×Obj)) (s:Shared) (σ:St) (H:Hp) (x y:V) (v u:Value) (Q:VK),Inv X pins σ H s->dS x v->dS y u->r x y H Q ->
  wpAny (model X.prog X.w) X.A (f v u) (EP X pins σ Q) X.xe s
def UnR(X:Cx)(f:Value->Sem Value)(r:V->Hp->VK->Prop):Prop :=
 ∀(pins:List (Addr×Obj)) (s:Shared) (σ:St) (H:Hp) (x:V) (v:Value) (Q:VK),Inv X pins σ H s->dS x v->r x H Q ->
  wpAny (model X.prog X.w) X.A (f v) (EP X pins σ Q) X.xe s
def cp(X:Cx)(f:Value)(r:List V->Hp->VK->Prop):Prop :=
 ∀(pins:List (Addr×Obj)) (s:Shared) (σ:St) (H:Hp) (xs:List V) (us:List Value) (Q:VK),Inv X pins σ H s->cm xs us->r xs H Q ->
  wpAny (model X.prog X.w) X.A (call f us) (EP X pins σ Q) X.xe s
def FJ(X:Cx)(r:V->Hp->(Bool->Hp->Prop)->Prop):Prop :=
 ∀(pins:List (Addr×Obj)) (s:Shared) (σ:St) (H:Hp) (x:V) (v:Value) (Q:Bool->Hp->Prop),Inv X pins σ H s->dS x v->r x H Q ->
  wpAny (model X.prog X.w) X.A (truthy v) (TP X pins σ Q) X.xe s
def tOp(r:R2)(ta tb:TE):TE:=fun σ H Q=>ta σ H fun x H1=>tb σ H1 fun y H2=>r x y H2 Q
def tUn(r:V->Hp->VK->Prop)(ta:TE):TE:=fun σ H Q=>ta σ H fun x H1=>r x H1 Q
def rI(C:Int->Int->Prop)(g:Int->Int->V):R2:=fun x y H Q=>∃i j,x=.int i/\y=.int j/\C i j/\Q (g i j) H
def rI0(g:Int->Int->V):R2:=fun x y H Q=>∃i j,x=.int i/\y=.int j/\Q (g i j) H
def rU(g:Int->V):V->Hp->VK->Prop:=fun x H Q=>∃i,x=.int i/\Q (g i) H
section
variable {X:Cx}{a b c:Expr}{ta tb tc:TE}{pos:Pos}
theorem D6(ha:PE X a ta)(hb:PE X b tb){pins:List (Addr×Obj)}{s:Shared}{σ:St}{H:Hp}{R:V->V->Hp->Prop}(I:Inv X pins σ H s)
  (h:ta σ H fun x H1=>tb σ H1 fun y H2=>R x y H2) {Q:Value->Shared->Prop}{f:Value->Value->Sem Value}
  (hf:∀v u s2 x y H2,Inv X pins σ H2 s2->dS x v->dS y u->R x y H2->wpAny (model X.prog X.w) X.A (f v u) Q X.xe s2) :
  wpAny (model X.prog X.w) X.A (eval a X.env) (fun v s₁=>wpAny (model X.prog X.w) X.A (eval b X.env) (fun u s₂=>wpAny (model X.prog X.w) X.A (f v u) Q X.xe s₂) X.xe s₁) X.xe s:=by
 refine thn (ha pins s σ H _ I h) fun v s1 ⟨x,H1,I1,r1,q1⟩=>?_;refine thn (hb pins s1 σ H1 _ I1 q1) fun u s2 ⟨y,H2,I2,r2,q2⟩=>?_;exact hf v u s2 x y H2 I2 r1 r2 q2
theorem bq{op:Operator}{r:R2}(ho:OpR X (binaryOp op) r)(ha:PE X a ta)(hb:PE X b tb):PE X (.BinOp a op b pos) (tOp r ta tb):=by
 intro pins s σ H Q I h;exact wpAny_BinOp (D6 ha hb I h fun v u s2 x y H2 I2 rx ry q=>ho pins s2 σ H2 x y v u Q I2 rx ry q)
theorem u5{op:UnaryOp}{r:V->Hp->VK->Prop}(ho:UnR X (unaryOp op) r)(ha:PE X a ta):PE X (.UnaryOp op a pos) (tUn r ta):=by
 intro pins s σ H Q I h;exact UnaryOp_ (thn (ha pins s σ H _ I h) fun v s1 ⟨x,H1,I1,r1,q1⟩=>ho pins s1 σ H1 x v Q I1 r1 q1)
theorem opI{f:Value->Value->Sem Value}{C:Int->Int->Prop}{g:Int->Int->Int}
  (rule:∀(i j:Int) (t u:Tok) (s:Shared) (Q:Value->Shared->Prop) (E:Value->Shared->Prop),C i j->Q (.int (g i j) s.toks) { s with toks:=s.toks+1 }->wpAny (model X.prog X.w) X.A (f (.int i t) (.int j u)) Q E s) :
  OpR X f (rI C fun i j=>.int (g i j)):=by
 intro pins s σ H x y v u Q I rx ry h;obtain⟨i,j,rfl,rfl,hc,q⟩:=h;obtain⟨t,rfl⟩:=rx;obtain⟨t',rfl⟩:=ry;exact rule i j t t' s _ _ hc ⟨.int (g i j),H,I.tok _,⟨_,rfl⟩,q⟩
theorem D7{f:Value->Value->Sem Value}{g:Int->Int->Int}
  (rule:∀(i j:Int) (t u:Tok) (s:Shared) (Q:Value->Shared->Prop) (E:Value->Shared->Prop),Q (.int (g i j) s.toks) { s with toks:=s.toks+1 }->wpAny (model X.prog X.w) X.A (f (.int i t) (.int j u)) Q E s) :
  OpR X f (rI0 fun i j=>.int (g i j)):=by
 intro pins s σ H x y v u Q I rx ry h;obtain⟨i,j,rfl,rfl,q⟩:=h;obtain⟨t,rfl⟩:=rx;obtain⟨t',rfl⟩:=ry;exact rule i j t t' s _ _ ⟨.int (g i j),H,I.tok _,⟨_,rfl⟩,q⟩
theorem BE{f:Value->Value->Sem Value}{g:Int->Int->Bool}
  (rule:∀(i j:Int) (t u:Tok) (s:Shared) (Q:Value->Shared->Prop) (E:Value->Shared->Prop),Q (.bool (g i j)) s->wpAny (model X.prog X.w) X.A (f (.int i t) (.int j u)) Q E s) :
  OpR X f (rI0 fun i j=>.bl (g i j)):=by
 intro pins s σ H x y v u Q I rx ry h;obtain⟨i,j,rfl,rfl,q⟩:=h;obtain⟨t,rfl⟩:=rx;obtain⟨t',rfl⟩:=ry;exact rule i j t t' s _ _ ⟨.bl (g i j),H,I,rfl,q⟩
def D8(i j:Int):Prop:=0<j/\j<1073741824
def Fd(i j:Int):Prop:=0<=j/\j<=1000000/\i.natAbs<2^64
def DT(i j:Int):Prop:=(-(2^64)<i/\i<2^64)\/(-(2^64)<j/\j<2^64)
theorem DT.ok{i j:Int}(h:DT i j):IntMulOk i j:=by
 rcases h with ⟨h1,h2⟩|⟨h1,h2⟩
 .exact .of_left (intBits_le_64 h1 h2)
 .exact .of_right (intBits_le_64 h1 h2)
theorem tW(k:Nat):(0:Int)<=2^k:=by
 rw [two_pow_cast];exact natCast_nonneg _
theorem B6:OpR X (binaryOp .Add) (rI0 fun i j=>.int (i+j)):=D7 fun _ _ _ _ _ _ _ q=>add_int q
theorem B7:OpR X (binaryOp .Sub) (rI0 fun i j=>.int (i - j)):=D7 fun _ _ _ _ _ _ _ q=>sub_int q
theorem B8:OpR X (binaryOp .Mult) (rI DT fun i j=>.int (i*j)):=opI fun _ _ _ _ _ _ _ hc q=>mul_int q hc.ok
theorem zW:OpR X (binaryOp .FloorDiv) (rI D8 fun i j=>.int (i / j)):=opI fun i j _ _ _ _ _ hc q=>by
 have h1:(0:Int)<j:=hc.1;have h2:j<1073741824:=hc.2;exact floordiv_int (by omega) (by rw [fdiv_eq_ediv_of_nonneg i (by omega)];exact q) (.inl (PyProof.noPylong_small (by omega)))
theorem B9:OpR X (binaryOp .Mod) (rI (fun _ j=>0<j) fun i j=>.int (i % j)):=opI fun i j _ _ _ _ _ hc q=>by
 have h1:(0:Int)<j:=hc;exact mod_int' (by omega) (by rw [fmod_eq_emod_of_nonneg i (by omega)];exact q)
theorem Ca:OpR X (binaryOp .LShift) (rI Fd fun i j=>.int (i*2^j.toNat)):=opI fun _ _ _ _ _ _ _ hc q=>lshift_int_small hc.1 hc.2.1 hc.2.2 q
theorem Cb:OpR X (binaryOp .RShift) (rI (fun _ j=>0<=j) fun i j=>.int (i / 2^j.toNat)):=opI fun i j _ _ _ _ _ hc q =>
 rshift_int hc (by rw [fdiv_eq_ediv_of_nonneg i (tW _)];exact q)
theorem Cc:OpR X (binaryOp .BitAnd) (rI0 fun i j=>.int (Builtin.bitAnd i j)):=D7 fun _ _ _ _ _ _ _ q=>and_int q
theorem unI{f:Value->Sem Value}{g:Int->Int}
  (rule:∀(i:Int) (t:Tok) (s:Shared) (Q:Value->Shared->Prop) (E:Value->Shared->Prop),Q (.int (g i) s.toks) { s with toks:=s.toks+1 }->wpAny (model X.prog X.w) X.A (f (.int i t)) Q E s) :
  UnR X f (rU fun i=>.int (g i)):=by
 intro pins s σ H x v Q I rx h;obtain⟨i,rfl,q⟩:=h;obtain⟨t,rfl⟩:=rx;exact rule i t s _ _ ⟨.int (g i),H,I.tok _,⟨_,rfl⟩,q⟩
theorem pz:UnR X (unaryOp .USub) (rU fun i=>.int (-i)):=unI fun _ _ _ _ _ q=>neg_int q
end
def Fe:V->V->Bool
 | .non,.non=>true|.non,.int _=>true|.int _,.non=>true|.non,.bl _=>true|.bl _,.non=>true|.non,.str _=>true|.str _,.non=>true
 | .int _,.int _=>true|.bl _,.bl _=>true|.str _,.str _=>true|.byt _,.byt _=>true
 | .int _,.str _=>true|.str _,.int _=>true|.bl _,.str _=>true|.str _,.bl _=>true
 | _,_=>false
def rEq:R2:=fun x y H Q=>Fe x y=true/\Q (.bl (decide (x=y))) H
def rNe:R2:=fun x y H Q=>Fe x y=true/\Q (.bl (!decide (x=y))) H
theorem u6{i j:Int}:decide (V.int i=V.int j)=(i == j):=by
 rw [Bool.eq_iff_iff];simp
theorem yY{i j:Bool}:decide (V.bl i=V.bl j)=(i == j):=by
 rw [Bool.eq_iff_iff];simp
theorem u7{i j:Str}:decide (V.str i=V.str j)=(i == j):=by
 rw [Bool.eq_iff_iff];simp
theorem u8{i j:Array UInt8}:decide (V.byt i=V.byt j)=(i.toList == j.toList):=by
 rw [Bool.eq_iff_iff];cases i;cases j;simp
section
variable {X:Cx}{a b c:Expr}{ta tb tc:TE}{pos:Pos}
theorem bS{pins:List (Addr×Obj)}{σ:St}{H:Hp}{s:Shared}{Q:VK}{k k':Bool}(I:Inv X pins σ H s)(q:Q (.bl k) H)(e:k=k'):EP X pins σ Q (.bool k') s:=by
 subst e;exact⟨.bl k,H,I,rfl,q⟩
theorem D9:OpR X (compareOp .Eq) rEq:=by
 intro pins s σ H x y v u Q I rx ry h;obtain⟨hs,q⟩:=h
 cases x with
 | non =>
  cases rx
  cases y with
  | non=>cases ry;exact PySem.EqNone.eq_none_none (bS I q (by simp))
  | bl j=>cases ry;exact PySem.EqNone.eq_none_bool (bS I q (by simp))
  | int j=>obtain⟨t',rfl⟩:=ry;exact PySem.EqNone.eq_none_int (bS I q (by simp))
  | str j=>obtain⟨t',rfl⟩:=ry;exact PySem.EqNone.eq_none_str (bS I q (by simp))
  | _=>exact absurd (show false=true from hs) Bool.false_ne_true
 | bl i =>
  cases rx
  cases y with
  | non=>cases ry;exact PySem.EqNone.eq_bool_none (bS I q (by simp))
  | bl j=>cases ry;exact eq_bool (bS I q yY)
  | str j=>obtain⟨t',rfl⟩:=ry;exact PySem.EqMixed.eq_bool_str (bS I q (by simp))
  | _=>exact absurd (show false=true from hs) Bool.false_ne_true
 | int i =>
  obtain⟨t,rfl⟩:=rx
  cases y with
  | non=>cases ry;exact PySem.EqNone.eq_int_none (bS I q (by simp))
  | int j=>obtain⟨t',rfl⟩:=ry;exact eq_int (bS I q u6)
  | str j=>obtain⟨t',rfl⟩:=ry;exact PySem.EqMixed.eq_int_str (bS I q (by simp))
  | _=>exact absurd (show false=true from hs) Bool.false_ne_true
 | str i =>
  obtain⟨t,rfl⟩:=rx
  cases y with
  | non=>cases ry;exact PySem.EqNone.eq_str_none (bS I q (by simp))
  | bl j=>cases ry;exact PySem.EqMixed.eq_str_bool (bS I q (by simp))
  | int j=>obtain⟨t',rfl⟩:=ry;exact PySem.EqMixed.eq_str_int (bS I q (by simp))
  | str j=>obtain⟨t',rfl⟩:=ry;exact eq_str (bS I q u7)
  | _=>exact absurd (show false=true from hs) Bool.false_ne_true
 | byt i =>
  obtain⟨t,rfl⟩:=rx
  cases y with
  | byt j=>obtain⟨t',rfl⟩:=ry;exact PySem.W.eq_bytes (bS I q u8)
  | _=>exact absurd (show false=true from hs) Bool.false_ne_true
 | _=>cases y <;> exact absurd (show false=true from hs) Bool.false_ne_true
theorem Ea:OpR X (compareOp .NotEq) rNe:=by
 intro pins s σ H x y v u Q I rx ry h;obtain⟨hs,q⟩:=h
 cases x with
 | non =>
  cases rx
  cases y with
  | non=>cases ry;exact PySem.EqNone.ne_none_none (bS I q (by simp))
  | bl j=>cases ry;exact PySem.EqNone.ne_none_bool (bS I q (by simp))
  | int j=>obtain⟨t',rfl⟩:=ry;exact PySem.EqNone.ne_none_int (bS I q (by simp))
  | str j=>obtain⟨t',rfl⟩:=ry;exact PySem.EqNone.ne_none_str (bS I q (by simp))
  | _=>exact absurd (show false=true from hs) Bool.false_ne_true
 | bl i =>
  cases rx
  cases y with
  | non=>cases ry;exact PySem.EqNone.ne_bool_none (bS I q (by simp))
  | bl j=>cases ry;exact ne_bool (bS I q (congrArg not yY))
  | str j=>obtain⟨t',rfl⟩:=ry;exact PySem.EqMixed.ne_bool_str (bS I q (by simp))
  | _=>exact absurd (show false=true from hs) Bool.false_ne_true
 | int i =>
  obtain⟨t,rfl⟩:=rx
  cases y with
  | non=>cases ry;exact PySem.EqNone.ne_int_none (bS I q (by simp))
  | int j=>obtain⟨t',rfl⟩:=ry;exact ne_int (bS I q (congrArg not u6))
  | str j=>obtain⟨t',rfl⟩:=ry;exact PySem.EqMixed.ne_int_str (bS I q (by simp))
  | _=>exact absurd (show false=true from hs) Bool.false_ne_true
 | str i =>
  obtain⟨t,rfl⟩:=rx
  cases y with
  | non=>cases ry;exact PySem.EqNone.ne_str_none (bS I q (by simp))
  | bl j=>cases ry;exact PySem.EqMixed.ne_str_bool (bS I q (by simp))
  | int j=>obtain⟨t',rfl⟩:=ry;exact PySem.EqMixed.ne_str_int (bS I q (by simp))
  | str j=>obtain⟨t',rfl⟩:=ry;exact ne_str (bS I q (congrArg not u7))
  | _=>exact absurd (show false=true from hs) Bool.false_ne_true
 | byt i =>
  obtain⟨t,rfl⟩:=rx
  cases y with
  | byt j=>obtain⟨t',rfl⟩:=ry;exact PySem.W.ne_bytes (bS I q (congrArg not u8))
  | _=>exact absurd (show false=true from hs) Bool.false_ne_true
 | _=>cases y <;> exact absurd (show false=true from hs) Bool.false_ne_true
theorem Eb:OpR X (compareOp .Lt) (rI0 fun i j=>.bl (decide (i<j))):=BE fun _ _ _ _ _ _ _ q=>lt_int q
theorem Ec:OpR X (compareOp .LtE) (rI0 fun i j=>.bl (decide (i<=j))):=BE fun _ _ _ _ _ _ _ q=>le_int q
theorem Ed:OpR X (compareOp .Gt) (rI0 fun i j=>.bl (decide (j<i))):=BE fun _ _ _ _ _ _ _ q=>gt_int q
theorem Ee:OpR X (compareOp .GtE) (rI0 fun i j=>.bl (decide (j<=i))):=BE fun _ _ _ _ _ _ _ q=>ge_int q
theorem u9:OpR X (compareOp .Lt) (fun x y H Q=>∃i j,x=.str i/\y=.str j/\Q (.bl (decide (i.cps.toList<j.cps.toList))) H):=by
 intro pins s σ H x y v u Q I rx ry h;obtain⟨i,j,rfl,rfl,q⟩:=h;obtain⟨t,rfl⟩:=rx;obtain⟨t',rfl⟩:=ry;exact lt_str (bS I q rfl)
theorem OpR.or{f:Value->Value->Sem Value}{r r':R2}(h:OpR X f r)(h':OpR X f r'):OpR X f (fun x y H Q=>r x y H Q\/r' x y H Q):=by
 intro pins s σ H x y v u Q I rx ry q
 rcases q with q|q
 .exact h pins s σ H x y v u Q I rx ry q
 .exact h' pins s σ H x y v u Q I rx ry q
theorem bH(b:Expr){op:CmpOp}(h:op≠.In:=by decide)(h2:op≠.NotIn:=by decide):behindInMarks op b=false:=by
 have e1:(op == CmpOp.In)=false:=by cases op <;> first|rfl|exact absurd rfl h
 have e2:(op == CmpOp.NotIn)=false:=by cases op <;> first|rfl|exact absurd rfl h2
 cases b <;> simp [behindInMarks,e1,e2]
theorem gv{op:CmpOp}{r:R2}(ho:OpR X (compareOp op) r)(ha:PE X a ta)(hb:PE X b tb)(hm:behindInMarks op b=false):PE X (.Compare a [op] [b] pos) (tOp r ta tb):=by
 intro pins s σ H Q I h;exact wpAny_Compare1 (D6 ha hb I h fun v u s2 x y H2 I2 rx ry q=>ho pins s2 σ H2 x y v u Q I2 rx ry q) hm
def va(t:TE):TT:=fun σ H Q=>t σ H fun x H'=>∃k,x=.bl k/\Q k H'
theorem bj{op:CmpOp}{r:R2}(ho:OpR X (compareOp op) r)(ha:PE X a ta)(hb:PE X b tb)(hm:behindInMarks op b=false):PT X (.Compare a [op] [b] pos) (va (tOp r ta tb)):=by
 intro pins s σ H Q I h
 refine wpAny_isTrue_Compare1 (thn (ha pins s σ H _ I h) fun v s1 ⟨x,H1,I1,r1,q1⟩=>thn (hb pins s1 σ H1 _ I1 q1) fun u s2 ⟨y,H2,I2,r2,q2⟩ =>
  thn (ho pins s2 σ H2 x y v u _ I2 r1 r2 q2) fun c s3 ⟨z,H3,I3,r3,k,e,q3⟩=>?_) hm
 subst e;cases r3;exact wpAny_truthy_bool ⟨H3,I3,q3⟩
def sI(r r':R2)(ta tb tc:TE):TE:=fun σ H Q=>ta σ H fun x H1=>tb σ H1 fun y H2=>r x y H2 fun z H3=>∃k,z=.bl k /\
 (if k=true then tc σ H3 fun w' H4=>r' y w' H4 Q else Q (.bl false) H3)
theorem xH{op op':CmpOp}{r r':R2}(ho:OpR X (compareOp op) r)(ho':OpR X (compareOp op') r')(ha:PE X a ta)(hb:PE X b tb)(hc:PE X c tc)
  (hm:lastMarks [op,op'] [b,c]=false:=by with_unfolding_all rfl):PE X (.Compare a [op,op'] [b,c] pos) (sI r r' ta tb tc):=by
 intro pins s σ H Q I h
 refine Compare_chain (thn (ha pins s σ H _ I h) fun v s1 ⟨x,H1,I1,r1,q1⟩=>chain_link (thn (hb pins s1 σ H1 _ I1 q1) fun u s2 ⟨y,H2,I2,r2,q2⟩ =>
  thn (ho pins s2 σ H2 x y v u _ I2 r1 r2 q2) fun d s3 ⟨z,H3,I3,r3,k,e,q3⟩=>?_)) hm
 subst e;cases r3;refine wpAny_truthy_bool ?_
 cases k with
 | false=>exact ite_ff ⟨.bl false,H3,I3,rfl,q3⟩
 | true=>exact ite_tt (chain_last (thn (hc pins s3 σ H3 _ I3 q3) fun w' s4 ⟨z',H4,I4,r4,q4⟩=>ho' pins s4 σ H4 y z' u w' Q I4 r2 r4 q4))
theorem xI{op op':CmpOp}{r r':R2}(ho:OpR X (compareOp op) r)(ho':OpR X (compareOp op') r')(ha:PE X a ta)(hb:PE X b tb)(hc:PE X c tc)
  (hm:lastMarks [op,op'] [b,c]=false:=by with_unfolding_all rfl):PT X (.Compare a [op,op'] [b,c] pos) (va (sI r r' ta tb tc)):=by
 intro pins s σ H Q I h
 refine isTrue_chain (thn (ha pins s σ H _ I h) fun v s1 ⟨x,H1,I1,r1,q1⟩=>test_link (thn (hb pins s1 σ H1 _ I1 q1) fun u s2 ⟨y,H2,I2,r2,q2⟩ =>
  thn (ho pins s2 σ H2 x y v u _ I2 r1 r2 q2) fun d s3 ⟨z,H3,I3,r3,k,e,q3⟩=>?_)) hm
 subst e;cases r3;refine wpAny_truthy_bool ?_
 cases k with
 | false =>
  obtain⟨k',e',q'⟩:=q3;cases e';exact ite_ff ⟨H3,I3,q'⟩
 | true =>
  refine ite_tt (test_last (thn (hc pins s3 σ H3 _ I3 q3) fun w' s4 ⟨z',H4,I4,r4,q4⟩=>thn (ho' pins s4 σ H4 y z' u w' _ I4 r2 r4 q4) fun d' s5 ⟨z2,H5,I5,r5,k2,e2,q5⟩=>?_));subst e2;cases r5;exact wpAny_truthy_bool ⟨H5,I5,q5⟩
def DU(K:PySem.W.Frag)(x:V)(H:Hp)(k:Bool):Prop :=
 match x with
 | .non=>k=false
 | .bl b=>k=b
 | .int i=>k=(i != 0)
 | .str y=>y.length<=sizeLine/\k=((y.length:Int) != 0)
 | .byt y=>y.size<=sizeLine/\k=((y.size:Int) != 0)
 | .ref p=>(∃xs,SqL K H p xs/\k=!xs.isEmpty)\/(∃xs,SqT K H p xs/\k=!xs.isEmpty)\/∃kvs,H p=some (.dK kvs)/\k=!kvs.isEmpty
 | _=>False
theorem tX{κ:Type}{kvs:List (κ×V)}{vs:List (κ×Value)}(r:KV kvs vs):(!vs.isEmpty)=!kvs.isEmpty:=by
 cases r <;> rfl
theorem mN{xs:List V}{its:List Value}(r:cm xs its):(!its.toArray.isEmpty)=!xs.isEmpty:=by
 cases r <;> simp
theorem kE:(sizeLine:Nat)<2^63:=by rw [sizeLine_eq];decide
theorem yZ:FJ X (fun x H Q=>∃k,DU X.K x H k/\Q k H):=by
 intro pins s σ H x v Q I rx h;obtain⟨k,e,q⟩:=h;have hl:=kE;have hs:sizeLine=16777216:=sizeLine_eq
 cases x with
 | non =>
  cases rx;have e':k=false:=e;subst e';exact truthy_none ⟨H,I,q⟩
 | bl b =>
  cases rx;have e':k=b:=e;subst e';exact wpAny_truthy_bool ⟨H,I,q⟩
 | int i =>
  obtain⟨t,rfl⟩:=rx;have e':k=(i != 0):=e;subst e';exact PySem.P.truthy_int ⟨H,I,q⟩
 | str y =>
  obtain⟨t,rfl⟩:=rx;obtain⟨hy,e'⟩:y.length<=sizeLine/\k=((y.length:Int) != 0):=e;subst e';exact PySem.P.truthy_str (by omega) ⟨H,I.tok _,q⟩
 | byt y =>
  obtain⟨t,rfl⟩:=rx;obtain⟨hy,e'⟩:y.size<=sizeLine/\k=((y.size:Int) != 0):=e;subst e';exact PySem.W.truthy_bytes (by omega) ⟨H,I.tok _,q⟩
 | ref p =>
  cases rx;have e':(∃xs,SqL X.K H p xs/\k=!xs.isEmpty)\/(∃xs,SqT X.K H p xs/\k=!xs.isEmpty)\/∃kvs,H p=some (.dK kvs)/\k=!kvs.isEmpty:=e
  rcases e' with ⟨xs,hx,e'⟩|⟨xs,hx,e'⟩|⟨kvs,hx,e'⟩
  .subst e';obtain⟨its,r,pl,hz⟩:=I.list hx;have hlen:=r.length;exact wpAny_truthy_list pl.isList (by simp only [size_toArray];omega) ⟨H,I.tok _,by rw [mN r];exact q⟩
  .subst e';obtain⟨its,r,pl,hz⟩:=I.tuple hx;have hlen:=r.length;exact truthy_tuple pl (by simp only [size_toArray];omega) ⟨H,I.tok _,by rw [mN r];exact q⟩
  .subst e';obtain⟨hz,hS,vs,r,m⟩:kvs.length<=sizeLine/\(p == sysModules)=false/\∃vs,KV kvs vs/\s.heap.DictOf (nM X.prog X.w) p vs:=I.hok p _ hx;have hlen:kvs.length=vs.length:=Paired.length r;exact wpAny_truthy_dict hS m (by omega) ⟨H,I.tok _,by rw [tX r];exact q⟩
 | _=>exact (show False from e).elim
theorem xJ(ha:PE X a ta)(he:∀whole,isTrue a X.env whole=(do let v <- whole;standAt a.pos;holding [v] (truthy v))) :
  PT X a (fun σ H Q=>ta σ H fun x H'=>∃k,DU X.K x H' k/\Q k H'):=by
 intro pins s σ H Q I h;exact isTrue_plain (thn (ha pins s σ H _ I h) fun v s1 ⟨x,H1,I1,r1,q1⟩=>yZ pins s1 σ H1 x v Q I1 r1 q1) (he _)
theorem tY:OpR X (binaryOp .Add) (fun x y H Q=>∃i j,x=.str i/\y=.str j/\i.length+j.length<=sizeLine/\Q (.str (i++j)) H):=by
 intro pins s σ H x y v u Q I rx ry h;obtain⟨i,j,rfl,rfl,hz,q⟩:=h;obtain⟨t,rfl⟩:=rx;obtain⟨t',rfl⟩:=ry;exact add_str (fun t' tk=>⟨.str (i++j),H,I.tok _,⟨_,rfl⟩,q⟩) hz
theorem gw{x:V}{us:List Value}(r:cm [x] us):∃u,us=[u]/\dS x u:=by
 cases r with
 | cons r1 r2=>cases r2;exact⟨_,rfl,r1⟩
theorem zX{x y:V}{us:List Value}(r:cm [x,y] us):∃u w',us=[u,w']/\dS x u/\dS y w':=by
 cases r with
 | cons r1 r2 =>
  cases r2 with
  | cons r3 r4=>cases r4;exact⟨_,_,rfl,r1,r3⟩
theorem xK:cp X (.builtin "abs") (fun xs H Q=>∃i,xs=[.int i]/\Q (.int (if i<0 then -i else i)) H):=by
 intro pins s σ H xs us Q I r h;obtain⟨i,rfl,q⟩:=h;obtain⟨u,rfl,t,rfl⟩:=gw r;exact call_abs_int fun u tk=>⟨.int (if i<0 then -i else i),H,I.tok _,⟨_,rfl⟩,q⟩
theorem vb(hc:X.calm=true):cp X (.builtin "max") (fun xs H Q=>∃i j,xs=[.int i,.int j]/\Q (.int (if j > i then j else i)) H):=by
 intro pins s σ H xs us Q I r h;obtain⟨i,j,rfl,q⟩:=h;obtain⟨u,w',rfl,⟨t,rfl⟩,⟨t',rfl⟩⟩:=zX r;refine max_two_ints (I.ok.hd hc) fun h' tk k=>⟨_,H,I.kept k,?_,q⟩
 by_cases hj:j > i
 .rw [if_pos hj,if_pos hj];exact⟨_,rfl⟩
 .rw [if_neg hj,if_neg hj];exact⟨_,rfl⟩
theorem vc(hc:X.calm=true):cp X (.builtin "min") (fun xs H Q=>∃i j,xs=[.int i,.int j]/\Q (.int (if j<i then j else i)) H):=by
 intro pins s σ H xs us Q I r h;obtain⟨i,j,rfl,q⟩:=h;obtain⟨u,w',rfl,⟨t,rfl⟩,⟨t',rfl⟩⟩:=zX r;refine min_two_ints (I.ok.hd hc) fun h' tk k=>⟨_,H,I.kept k,?_,q⟩
 by_cases hj:j<i
 .rw [if_pos hj,if_pos hj];exact⟨_,rfl⟩
 .rw [if_neg hj,if_neg hj];exact⟨_,rfl⟩
end
structure zY (h:Heap) (x dx C:Addr) (mA:Str->Option Value):Prop where
 obj:h.get? x=some (PySem.W.instObj C dx)
 ns:h.Ns1 dx mA
 ne:dx≠x
theorem vd{h:Heap}{dx:Addr}{mA:Str->Option Value}(n:h.Ns1 dx mA):∃od,h.get? dx=some od/\∀name,PySem.W.lookIn name od=some (mA name):=by
 obtain⟨o,es,ep,ho,hd,hk,_,hm⟩:=n;refine⟨o,ho,fun name=>?_⟩;have e:=hm name;unfold nsFind findBy at e;rw [<- Array.find?_toList] at e;unfold PySem.W.lookIn;rw [hd];dsimp only
 split
 .rename_i y q;rw [q] at e;exact congrArg some e
 .rename_i q;rw [q] at e
  have a:es.toList.any (·.refKey)=false:=by
   rw [any_eq_false];intro y hy;obtain⟨z,t,hkey⟩:=hk y (Array.mem_toList_iff.mp hy);simp [DictEntry.refKey,hkey]
  have a':¬ es.toList.any (·.refKey)=true:=by rw [a];exact Bool.false_ne_true
  rw [if_neg a'];exact congrArg some e
theorem zY.look{h:Heap}{x dx C:Addr}{mA:Str->Option Value}(I:zY h x dx C mA):∃od,PySem.W.InstAt h x (PySem.W.instObj C dx) C (some od)/\∀name,PySem.W.lookIn name od=some (mA name) :=
 let ⟨od,ho,hl⟩:=vd I.ns
 ⟨od,⟨I.obj,rfl,rfl,ho⟩,hl⟩
section
variable {prog:Program}{w:World}{A:Around}{E:Value->Shared->Prop}{s:Shared}{K:PySem.W.Frag}{x dx C f:Addr}{mA:Str->Option Value}{name:Str}{v:Value}
theorem zZ{expr:Bool}{Q:Value->Shared->Prop}(X:K.In s.heap)(I:zY s.heap x dx C mA)(hg:PySem.W.plainGet K C name=true)(hh:PySem.W.hasDictIn K C=true)
  (ha:PySem.W.findIn K (.ref C) name=some none) (hv:mA name=some v) (hv':PySem.W.handedIn v=true) (h:Q v { s with toks:=s.toks+1 }) :
  wpAny (model prog w) A (getAttr (.ref x) name expr) Q E s:=by
 obtain⟨od,J,hl⟩:=I.look;exact PySem.W.get_value X J (PySem.W.plainGet_of hg).1 (PySem.W.findObj_own hh ha rfl (by rw [hl,hv])) hv' h
theorem xL{pl:Sem Bool}{Q:Value×List Value->Shared->Prop}(X:K.In s.heap)(I:zY s.heap x dx C mA)(hg:PySem.W.plainGet K C name=true)
  (hf:PySem.W.findIn K (.ref C) name=some (some (.ref f))) (ht:PySem.W.isFn K (.ref f)=true) (hv:mA name=none) (h:Q (.ref f,[.ref x]) s) :
  wpAny (model prog w) A (getMethod (.ref x) name pl) Q E s:=by
 obtain⟨od,J,hl⟩:=I.look;exact PySem.W.method_fn X J (PySem.W.plainGet_of hg).1 (PySem.W.plainGet_of hg).2 hf (beq_iff_eq.mp ht) (by show (PySem.W.lookIn name od).map (·.isSome)=some false;rw [hl,hv];rfl) h
theorem Aa{ns:List Str}{Q:Unit->Shared->Prop}(X:K.In s.heap)(I:zY s.heap x dx C mA)
  (hs:PySem.W.findIn K (.ref C) "__setattr__"=some (some (.builtin "object.__setattr__"))) (hp:PySem.W.plainOver K C=true) (ht:PySem.W.takerIn K C name=some none) (hh:PySem.W.hasDictIn K C=true)
  (hw:PySem.Within mA ns) (hsz:ns.length<=sizeLine)
  (h:∀h',zY h' x dx C (fun y=>if y=name then some v else mA y)->Heap.SameBut dx s.heap h'->Q () { s with heap:=h',toks:=s.toks+2 }) :
  wpAny (model prog w) A (setAttr (.ref x) name v) Q E s:=by
 obtain⟨od,J,hl⟩:=I.look;refine PySem.W.set_plain X J hs (PySem.W.osa_open (s:={ s with toks:=s.toks+1 }) (r:=none) X J hp ht fun b=>?_);obtain⟨cd,hc,hd'⟩:=PySem.W.any_some hh;have hx:s.heap.get? x=some ⟨.ref C,some dx,.plain,#[]⟩:=I.obj;refine wpAny_bind (wpAny_pure (wpAny_bind (wpAny_bind (wpAny_loadPart hx (wpAny_bind (PySem.W.Looks.here (s:={ s with toks:=s.toks+1 }) (PySem.W.looks_clsIn X hc) ?_))))))
 rw [hd'];refine wpAny_pure (a:=some dx) (wpAny_bind (wpAny_pure (wpAny_bind ?_)));refine wpAny_nsSet1 (s:={ s with toks:=s.toks+1 }) I.ns fun h' hn2 hs2=>?_;obtain⟨oD,esD,epD,hoD,hdD,hcD⟩:=hn2.count (PySem.Within.cons name v hw);refine wpAny_bind (wpAny_lookBehind hoD (by rw [hdD];exact pastItsLine_dict (Nat.le_trans hcD (by rw [length_cons];omega))) ?_);exact wpAny_pure (h _ ⟨(hs2.2 _ (Ne.symm I.ne)).trans I.obj,hn2,I.ne⟩ hs2)
theorem xM{R:Result->Shared->Prop}{vs:List Value}{kw:List (Str×Value)}(X:K.In s.heap)(hm:PySem.W.makesIn K C=true)
  (hi:PySem.W.findIn K (.ref C) "__init__"=some (some (.ref f))) (hf:PySem.W.typeIn K (.ref f)=some (.type "function"))
  (h:codeAny (model prog w) (A.under (.builtin "type.__call__" ⟨.ref C::vs,kw⟩)) (.call (.ref f) ⟨.ref (s.heap.objs.size+1)::vs,kw⟩) (PySem.W.InitBack (s.heap.objs.size+1) R)
   { s with heap:=(s.heap.push PySem.W.emptyDict).push (PySem.W.instObj C s.heap.objs.size) }) :
  codeAny (model prog w) A (.call (.ref C) ⟨vs,kw⟩) R s:=by
 obtain⟨hh,g,d,t,os⟩:=s;exact PySem.W.make_core (PySem.W.makes_of X hm) (PySem.W.looks_findIn X hi) (fun self=>PySem.W.bind_fn X self hf) (.inl rfl) h
end
def mO(f:Str)(v:V):List (Str×V)->List (Str×V)
 | []=>[(f,v)]
 | (g,x)::r=>if g=f then (g,v)::r else (g,x)::mO f v r
theorem kF(f g:Str)(v:V):∀fs:List (Str×V),(mO f v fs).lookup g=if g=f then some v else fs.lookup g
 | []=>by
  show List.lookup g [(f,v)]=_
  by_cases h:g=f
  .have hb:(g == f)=true:=beq_iff_eq.mpr h;simp only [List.lookup,hb,if_pos h]
  .have hb:(g == f)=false:=beq_eq_false_iff_ne.mpr h;simp only [List.lookup,hb,if_neg h]
 | (k,x)::r=>by
  have ih:=kF f g v r;rw [show mO f v ((k,x)::r)=(if k=f then (k,v)::r else (k,x)::mO f v r) from rfl]
  by_cases hk:k=f
  .rw [if_pos hk]
   by_cases h:g=k
   .have hb:(g == k)=true:=beq_iff_eq.mpr h;simp only [List.lookup,hb,if_pos (h.trans hk)]
   .have hb:(g == k)=false:=beq_eq_false_iff_ne.mpr h;simp only [List.lookup,hb,if_neg (fun e:g=f=>h (e.trans hk.symm))]
  .rw [if_neg hk]
   by_cases h:g=k
   .have hb:(g == k)=true:=beq_iff_eq.mpr h;simp only [List.lookup,hb,if_neg (fun e:g=f=>hk (h.symm.trans e))]
   .have hb:(g == k)=false:=beq_eq_false_iff_ne.mpr h;simp only [List.lookup,hb];exact ih
theorem kG(f:Str)(v:V):∀fs:List (Str×V),f∈(mO f v fs).map (·.1)/\∀g,g∈fs.map (·.1)->g∈(mO f v fs).map (·.1)
 | []=>⟨by simp [mO],fun g h=>by simp at h⟩
 | (k,x)::r=>by
  obtain⟨i1,i2⟩:=kG f v r;rw [show mO f v ((k,x)::r)=(if k=f then (k,v)::r else (k,x)::mO f v r) from rfl]
  by_cases hk:k=f
  .rw [if_pos hk];subst hk;exact⟨by simp,fun g h=>by simpa using h⟩
  .rw [if_neg hk]
   refine⟨?_,fun g h=>?_⟩
   .rw [map_cons];exact mem_cons_of_mem _ i1
   .rw [map_cons] at h ⊢
    rcases mem_cons.mp h with e|e
    .exact mem_cons.mpr (.inl e)
    .exact mem_cons_of_mem _ (i2 g e)
theorem kH(f:Str)(v:V):∀fs:List (Str×V),(mO f v fs).length<=fs.length+1
 | []=>by simp [mO]
 | (k,x)::r=>by
  have ih:=kH f v r;rw [show mO f v ((k,x)::r)=(if k=f then (k,v)::r else (k,x)::mO f v r) from rfl]
  by_cases hk:k=f
  .rw [if_pos hk,length_cons,length_cons];omega
  .rw [if_neg hk,length_cons,length_cons];omega
theorem xw.some_of{v:V}{o:Option Value}(r:xw (some v) o):∃u,o=some u/\dS v u:=by
 cases o with
 | none=>exact (show False from r).elim
 | some u=>exact⟨u,rfl,r⟩
theorem xw.none_of{o:Option Value}(r:xw none o):o=none:=by
 cases o with
 | none=>rfl
 | some u=>exact (show False from r).elim
theorem ve{v:V}{u:Value}(r:dS v u):PySem.W.handedIn u=true:=by
 cases v with
 | non=>cases (show u=Value.none from r);rfl
 | bl b=>cases (show u=Value.bool b from r);rfl
 | int i=>obtain⟨t,e⟩:=(show ∃t,u=Value.int i t from r);cases e;rfl
 | str x=>obtain⟨t,e⟩:=(show ∃t,u=Value.str x t from r);cases e;rfl
 | byt b=>obtain⟨t,e⟩:=(show ∃t,u=Value.bytes b t from r);cases e;rfl
 | flt b=>obtain⟨t,e⟩:=(show ∃t,u=Value.float b t from r);cases e;rfl
 | ref a=>cases (show u=Value.ref a from r);rfl
 | ty n=>cases (show u=Value.type n from r);rfl
section
variable {P:Program}{w:World}{H H':Hp}{h h':Heap}{a C dx:Addr}{fs fs':List (Str×V)}
theorem nO(hok:HOk P w H h)(e:H a=some (.ins C dx fs)):∃mA,zY h a dx C mA/\(∀f,xw (fs.lookup f) (mA f))/\PySem.Within mA (fs.map (·.1))/\fs.length<=1000/\H dx=some (.own a):=by
 obtain⟨d,z,ne,ob,mA,n,r,q⟩:=(show dq P w H h a (.ins C dx fs) from hok a _ e)
 exact⟨mA,⟨ob,n,ne⟩,r,q,z,d⟩
end
structure Cls (K:PySem.W.Frag) (C:Addr):Prop where
 pg:PySem.W.plainGet K C Str.empty=true
 hd:PySem.W.hasDictIn K C=true
 po:PySem.W.plainOver K C=true
 sa:PySem.W.findIn K (.ref C) "__setattr__"=some (some (.builtin "object.__setattr__"))
theorem Cls.get{K:PySem.W.Frag}{C:Addr}(c:Cls K C)(f:Str):PySem.W.plainGet K C f=true:=c.pg
def eL(K:PySem.W.Frag)(C:Addr)(f:Str):Prop:=PySem.W.findIn K (.ref C) f=some none
theorem eL.taker{K:PySem.W.Frag}{C:Addr}{f:Str}(n:eL K C f):PySem.W.takerIn K C f=some none:=by
 unfold PySem.W.takerIn;rw [show PySem.W.findIn K (.ref C) f=some none from n];rfl
structure DW (K:PySem.W.Frag) (C:Addr) (m:Str) (f:Addr):Prop where
 at_:PySem.W.findIn K (.ref C) m=some (some (.ref f))
 fn:PySem.W.isFn K (.ref f)=true
 kp:PySem.W.keepIn K (.ref f)=true
section
variable {X:Cx}{pins:List (Addr×Obj)}{σ:St}{H:Hp}{s:Shared}{a C dx:Addr}{fs:List (Str×V)}{f:Str}{v:V}{A:Around}{E:Value->Shared->Prop}
theorem tZ{b:Bool}{Q:Value->Shared->Prop}(I:Inv X pins σ H s)(e:H a=some (.ins C dx fs))(c:Cls X.K C)(n:eL X.K C f)(l:fs.lookup f=some v)
  (h:∀u s',Inv X pins σ H s'->dS v u->Q u s'):wpAny (model X.prog X.w) A (getAttr (.ref a) f b) Q E s:=by
 obtain⟨mA,O,r,_,_,_⟩:=nO I.hok e;obtain⟨u,hu,ru⟩:=xw.some_of (v:=v) (o:=mA f) (by rw [<- l];exact r f);exact zZ I.kIn O (c.get f) c.hd n hu (ve ru) (h u _ (I.tok _) ru)
theorem t5{m:Str}{g:Addr}{pl:Sem Bool}{Q:Value×List Value->Shared->Prop}(I:Inv X pins σ H s)(e:H a=some (.ins C dx fs))(c:Cls X.K C)(k:DW X.K C m g)(l:fs.lookup m=none)
  (h:Q (.ref g,[.ref a]) s):wpAny (model X.prog X.w) A (getMethod (.ref a) m pl) Q E s:=by
 obtain⟨mA,O,r,_,_,_⟩:=nO I.hok e;have hn:mA m=none:=xw.none_of (by rw [<- l];exact r m);exact xL I.kIn O (c.get m) k.at_ k.fn hn h
theorem t6{y:V}{u:Value}{Q:Unit->Shared->Prop}(I:Inv X pins σ H s)(e:H a=some (.ins C dx fs))(c:Cls X.K C)(n:eL X.K C f)(hl:fs.length<1000)(ry:dS y u)
  (h:∀s',Inv X pins σ (upd H a (.ins C dx (mO f y fs))) s'->Q () s'):wpAny (model X.prog X.w) A (setAttr (.ref a) f u) Q E s:=by
 obtain⟨mA,O,r,wi,_,ho⟩:=nO I.hok e;have hz:(fs.map (·.1)).length<=sizeLine:=by rw [length_map,sizeLine_eq];omega
 refine Aa I.kIn O c.sa c.po n.taker c.hd wi hz fun h' O' sb=>h _ ?_;have hd:∃o,h'.get? dx=some o:=let ⟨o,_,_,e',_⟩:=O'.ns;⟨o,e'⟩
 refine I.write (x:=a) (e:=dx) (by rw [e];exact True.intro) (.inr ho) (fun b q hb z=>(sb.2 b hb).trans z) hd ?_
 refine⟨by rw [aM O.ne];exact ho,?_,O.ne,O'.obj,_,O'.ns,fun g=>?_,fun g hg=>?_⟩
 .have:=kH f y fs;omega
 .show xw ((mO f y fs).lookup g) (if g=f then some u else mA g);rw [kF]
  by_cases q:g=f
  .rw [if_pos q,if_pos q];exact ry
  .rw [if_neg q,if_neg q];exact r g
 .by_cases q:g=f
  .rw [q];exact (kG f y fs).1
  .refine (kG f y fs).2 g (wi g fun z=>hg ?_);show (if g=f then some u else mA g)=none;rw [if_neg q];exact z
theorem Inv.made(I:Inv X pins σ H s):Inv X pins σ (upd (upd H s.heap.objs.size (.own (s.heap.objs.size+1))) (s.heap.objs.size+1) (.ins C s.heap.objs.size []))
  { s with heap:=(s.heap.push PySem.W.emptyDict).push (PySem.W.instObj C s.heap.objs.size) }:=by
 have e1:(s.heap.push PySem.W.emptyDict).get? s.heap.objs.size=some PySem.W.emptyDict:=Heap.get?_push_size s.heap rfl
 have e2:((s.heap.push PySem.W.emptyDict).push (PySem.W.instObj C s.heap.objs.size)).get? (s.heap.objs.size+1)=some (PySem.W.instObj C s.heap.objs.size):=by
  have:=Heap.get?_push_size (s.heap.push PySem.W.emptyDict) (o:=PySem.W.instObj C s.heap.objs.size) rfl
  rwa [Heap.size_push] at this
 have e3:(s.heap.push PySem.W.emptyDict).Ns s.heap.objs.size (fun _=>none):=⟨PySem.W.emptyDict,#[],_,e1,rfl,(fun e he=>absurd he (by simp)),fun _=>rfl⟩
 have I1:=I.laid (a:=s.heap.objs.size) (o:=.own (s.heap.objs.size+1)) (h':=s.heap.push PySem.W.emptyDict) (t':=s.toks) (fun b u q=>Heap.get?_push_of_some _ q) (le_refl _) ⟨_,e1⟩;refine I1.laid (a:=s.heap.objs.size+1) (o:=.ins C s.heap.objs.size []) (t':=s.toks) (fun b u q=>Heap.get?_push_of_some _ q) (le_of_eq (Heap.size_push _ _)) ?_;have ne:s.heap.objs.size≠s.heap.objs.size+1:=ne_of_lt (lt_succ_self _)
 refine⟨by rw [aM ne,bi],zero_le _,ne,e2,fun _=>none,(Heap.Ns1.of_empty e3).at fun o q=>Heap.get?_push_of_some _ q,fun _=>True.intro,fun y hy=>absurd rfl hy⟩
theorem Ab{prog:Program}{w:World}{env:Env}{e:Expr}{f:Str}{pos:Pos}{s:Shared}{Q:Value->Shared->Prop}(hb:attributeBase e f env (eval e env)=eval e env)
  (h:wpAny (model prog w) A (eval e env) (fun o s₁=>wpAny (model prog w) A (getAttr o f true) Q E s₁) E s):wpAny (model prog w) A (eval (.Attribute e f pos) env) Q E s :=
 Attribute_any_ h (by rw [arm_eval_Attribute,hb])
end
def xx(K:PySem.W.Frag)(ta:TE)(f:Str):TE:=fun σ H Q=>ta σ H fun x H1=>∃a C dx fs v,x=.ref a/\H1 a=some (.ins C dx fs)/\Cls K C/\eL K C f/\fs.lookup f=some v/\Q v H1
def Ff(K:PySem.W.Frag)(ta tv:TE)(f:Str):TS:=fun D σ H=>tv σ H fun y H1=>ta σ H1 fun x H2=>∃a C dx fs,x=.ref a/\H2 a=some (.ins C dx fs)/\Cls K C/\eL K C f/\fs.length<1000 /\
 D.nx σ (upd H2 a (.ins C dx (mO f y fs)))
section
variable {X:Cx}{o e value:Expr}{f:Str}{pos pos' tpos:Pos}{ta tv:TE}
theorem Cd(he:PE X e ta)(hb:attributeBase e f X.env (eval e X.env)=eval e X.env):PE X (.Attribute e f pos) (xx X.K ta f):=by
 intro pins s σ H Q I h;refine Ab hb (thn (he pins s σ H _ I h) fun u s1 ⟨x,H1,I1,rx,a,C,dx,fs,v,ex,ea,c,n,l,q⟩=>?_);subst ex;obtain rfl:u=Value.ref a:=rx;exact tZ I1 ea c n l fun u' s2 I2 ru=>⟨v,H1,I2,ru,q⟩
theorem mP(ha:PE X o ta)(hv:PE X value tv)(hs:swapsWith value (some (.Attribute o f pos')) pos.line X.env=pure false):PS X (.Assign [.Attribute o f pos'] value pos) (Ff X.K ta tv f):=by
 intro pins s σ H D I h;refine plainObj_wpAny_Assign_Attribute (thn (hv pins s σ H _ I h) fun u s1 ⟨y,H1,I1,ry,q⟩=>thn (ha pins s1 σ H1 _ I1 q) fun ov s2 ⟨x,H2,I2,rx,a,C,dx,fs,ex,ea,c,n,l,q2⟩=>?_) hs;subst ex;obtain rfl:ov=Value.ref a:=rx;exact t6 I2 ea c n l ry fun s3 I3=>⟨σ,_,I3,q2⟩
end
section
variable {X:Cx}{pins:List (Addr×Obj)}{σ:St}{H:Hp}{s:Shared}{A:Around}{E:Value->Shared->Prop}{Q:Value->Shared->Prop}{c:Value}{b:Bool}
inductive qT (K:PySem.W.Frag) (H:Hp):V->Value->Prop where
 | non:qT K H .non (.type "NoneType")
 | bl (x:Bool):qT K H (.bl x) (.type "bool")
 | int (i:Int):qT K H (.int i) (.type "int")
 | str (x:Str):qT K H (.str x) (.type "str")
 | flt (x:UInt64):qT K H (.flt x) (.type "float")
 | lst {a:Addr}{xs:List V} (e:H a=some (.lst xs)):qT K H (.ref a) (.type "list")
 | frz {a:Addr}{o:Obj}{xs:List V} (e:H a=some (.frz o (.lst xs))):qT K H (.ref a) (.type "list")
 | tup {a:Addr}{xs:List V} (e:H a=some (.tup xs)):qT K H (.ref a) (.type "tuple")
 | dK {a:Addr}{kvs:List (Key×V)} (e:H a=some (.dK kvs)):qT K H (.ref a) (.type "dict")
 | dT {a:Addr}{kvs:List (List Key×V)} (e:H a=some (.dT kvs)):qT K H (.ref a) (.type "dict")
 | ins {a C dx:Addr}{fs:List (Str×V)} (e:H a=some (.ins C dx fs)) (cl:Cls K C) (ha:PySem.W.findIn K (.ref C) "__class__"=some (some (.builtin "object.__class__")))
   (hn:PySem.W.specialIn K (.builtin "object.__class__") "__get__"=some (some (.builtin "getset_descriptor.__get__"))) (htk:PySem.W.takesIn K (.builtin "object.__class__")=some true)
   (hm:PySem.W.mroIn K C (.type "object")=some true):qT K H (.ref a) (.ref C)
theorem vf{x:V}{u t:Value}(I:Inv X pins σ H s)(rx:dS x u)(ty:qT X.K H x t)(e:PySem.W.kitOne X.K t c=some b)(h:∀tk,Q (.bool b) { s with toks:=tk }) :
  wpAny (model X.prog X.w) A (call (.builtin "isinstance") [u,c]) Q E s:=by
 cases ty with
 | non=>cases (show u=Value.none from rx);exact PySem.W.kia_one PySem.W.kitx_none I.kIn True.intro e (fun z=>nomatch z) h
 | bl y=>cases (show u=Value.bool y from rx);exact PySem.W.kia_one PySem.W.kitx_bool I.kIn True.intro e (fun z=>nomatch z) h
 | int i=>obtain⟨t,q⟩:=(show ∃t,u=Value.int i t from rx);cases q;exact PySem.W.kia_one PySem.W.kitx_int I.kIn True.intro e (fun z=>nomatch z) h
 | str y=>obtain⟨t,q⟩:=(show ∃t,u=Value.str y t from rx);cases q;exact PySem.W.kia_one PySem.W.kitx_str I.kIn True.intro e (fun z=>nomatch z) h
 | flt y=>obtain⟨t,q⟩:=(show ∃t,u=Value.float y t from rx);cases q;exact PySem.W.kia_one PySem.W.kitx_float I.kIn True.intro e (fun z=>nomatch z) h
 | @lst a xs ea =>
  cases (show u=Value.ref a from rx);obtain⟨_,_,n,_,h1⟩:=(show dq X.prog X.w H s.heap a (.lst xs) from I.hok a _ ea)
  exact PySem.W.kia_one PySem.W.kitx_list I.kIn ⟨_,h1,rfl⟩ e (fun z=>nomatch z) h
 | @frz a ob xs ea =>
  cases (show u=Value.ref a from rx);obtain⟨_,_,_,n,_,h1⟩:=(show dq X.prog X.w H s.heap a (.frz ob (.lst xs)) from I.hok a _ ea)
  exact PySem.W.kia_one PySem.W.kitx_list I.kIn ⟨_,h1,rfl⟩ e (fun z=>nomatch z) h
 | @tup a xs ea =>
  cases (show u=Value.ref a from rx);obtain⟨_,_,_,p⟩:=(show dq X.prog X.w H s.heap a (.tup xs) from I.hok a _ ea)
  obtain⟨o,h1,h2,_⟩:=p;exact PySem.W.kia_one PySem.W.kitx_tuple I.kIn ⟨o,h1,h2⟩ e (fun z=>nomatch z) h
 | @dK a kvs ea =>
  cases (show u=Value.ref a from rx);obtain⟨_,_,vs,_,p⟩:=(show dq X.prog X.w H s.heap a (.dK kvs) from I.hok a _ ea)
  obtain⟨o,es,ep,h1,h2,_⟩:=p;exact PySem.W.kia_one PySem.W.kitx_dict I.kIn ⟨o,h1,h2.1⟩ e (fun z=>nomatch z) h
 | @dT a kvs ea =>
  cases (show u=Value.ref a from rx);obtain⟨_,_,xs,_,o,es,ep,h1,h2,_⟩:=(show dq X.prog X.w H s.heap a (.dT kvs) from I.hok a _ ea)
  exact PySem.W.kia_one PySem.W.kitx_dict I.kIn ⟨o,h1,h2.1⟩ e (fun z=>nomatch z) h
 | @ins a C dx fs ea cl ha hn htk hm =>
  cases (show u=Value.ref a from rx);obtain⟨mA,O,_⟩:=nO I.hok ea;obtain⟨od,J,_⟩:=O.look;exact PySem.W.kia_one (PySem.W.kitx_own (cl.get _) cl.hd ha hn htk hm) I.kIn J e (fun z=>nomatch z) h
end
structure gx (k:Nat) (A:Around):Prop where
 hd:A.handled=none
 dp:A.depth+3*k+5<recursionLimit
 un:A.units+16*k+200<cLine
theorem gx.mono{j k:Nat}{A:Around}(r:gx k A)(h:j<=k):gx j A:=⟨r.hd,by have:=r.dp;omega,by have:=r.un;omega⟩
theorem gx.deeper{k:Nat}{A:Around}(r:gx (k+1) A)(env:Env):gx k (A.deeper env) :=
 ⟨r.hd,by have:=r.dp;show A.depth+1+3*k+5<_;omega,by have:=r.un;show A.units+3+16*k+200<_;omega⟩
theorem t7{A:Around}{C:Addr}{us:List Value}{kw:List (Str×Value)}:(A.under (.builtin "type.__call__" ⟨.ref C::us,kw⟩)).depth=A.depth+1:=by
 first|rfl|simp [Around.under,Code.weight,Code.isCreation,Code.isGuard,Code.isCaller,Code.frames,Code.isFrame,guardIds]
theorem t9{A:Around}{C:Addr}{us:List Value}{kw:List (Str×Value)}:(A.under (.builtin "type.__call__" ⟨.ref C::us,kw⟩)).units=A.units+1:=by
 first|rfl|simp [Around.under,Code.cUnits,Code.frames,Code.isFrame]
theorem gx.make{k:Nat}{A:Around}(r:gx (k+1) A)(C:Addr)(us:List Value)(kw:List (Str×Value)):gx k (A.under (.builtin "type.__call__" ⟨.ref C::us,kw⟩)) :=
 ⟨r.hd,by have:=r.dp;rw [t7];omega,by have:=r.un;rw [t9];omega⟩
theorem gx.depth{k:Nat}{A:Around}(r:gx k A):A.depth<recursionLimit:=by have:=r.dp;omega
theorem gx.units{k:Nat}{A:Around}(r:gx k A):A.units+64<cLine:=by have:=r.un;omega
def eY:TA:=fun _ H Q=>Q [] H
def bf(ta:TE)(tr:TA):TA:=fun σ H Q=>ta σ H fun x H1=>tr σ H1 fun xs H2=>Q (x::xs) H2
section
variable {X:Cx}{e:Expr}{es:List Expr}{te:TE}{t:TA}{pos:Pos}
theorem ah:PA X [] eY:=fun _ _ _ _ H Q I h=>Calls.spliced_nil ⟨[],H,I,.nil,h⟩
theorem Ac(ha:PE X e te)(hr:PA X es t)(hs:starEach (e::es) X.env=(false,eval e X.env)::starEach es X.env:=by rfl):PA X (e::es) (bf te t):=by
 intro pos pins s σ H Q I h;rw [hs];show wpAny _ _ (spliced ((false,eval e X.env)::backTo pos (starEach es X.env))) _ _ s;refine Calls.spliced_cons (thn (ha pins s σ H _ I h) fun u s1 ⟨x,H1,I1,r1,q1⟩=>?_);exact thn (hr pos pins s1 σ H1 _ I1 q1) fun us s2 ⟨xs,H2,I2,r2,q2⟩=>⟨x::xs,H2,I2,.cons r1 r2,q2⟩
def Ce(t:TA):TE:=fun σ H Q=>t σ H fun xs H1=>xs.length<=sizeLine/\∀p,H1 p=none->Q (.ref p) (upd H1 p (.tup xs))
def Fg(t:TA):TE:=fun σ H Q=>t σ H fun xs H1=>xs.length<=sizeLine/\∀p,H1 p=none->Q (.ref p) (upd H1 p (.lst xs))
theorem pA{x1}(h:PA X es t):PE X (.Tuple es x1 pos) (Ce t):=by
 intro pins s σ H Q I hq;refine wpAny_Tuple_spliced (thn (h pos pins s σ H _ I hq) fun us s1 ⟨xs,H1,I1,r,z,q⟩=>⟨by rw [<- r.length];exact z,?_⟩);have hf:H1 s1.heap.objs.size=none:=I1.hok.fresh (le_refl _);refine⟨.ref s1.heap.objs.size,upd H1 s1.heap.objs.size (.tup xs),I1.laid (t':=s1.toks) (fun b u e=>Heap.get?_push_of_some _ e) (le_refl _) ?_,rfl,q _ hf⟩;exact⟨z,us,r,⟨_,Heap.get?_push_size _ rfl,rfl,_,rfl⟩⟩
theorem jK(h:PA X es t):PE X (.List es pos) (Fg t):=by
 intro pins s σ H Q I hq;refine wpAny_List_spliced (thn (h pos pins s σ H _ I hq) fun us s1 ⟨xs,H1,I1,r,z,q⟩=>⟨by rw [<- r.length];exact z,?_⟩);have hf:H1 s1.heap.objs.size=none:=I1.hok.fresh (le_refl _);refine⟨.ref s1.heap.objs.size,upd H1 s1.heap.objs.size (.lst xs),I1.laid (t':=s1.toks) (fun b u e=>Heap.get?_push_of_some _ e) (le_refl _) ?_,rfl,q _ hf⟩;exact⟨z,us,0,r,Heap.get?_push_size _ rfl⟩
end
abbrev Sp:=List V->Hp->VK->XK->Prop
abbrev CXT:=List Env->Hp->Shared->XK->Value->Shared->Prop
structure Ad (P:Program) (w:World) (K:PySem.W.Frag) (mg:Str->Option Value) (base:Heap) (A:Around) (outer:List Env) (s:Shared) (H:Hp):Prop where
 frames:A.frames=some outer
 mod:Mod K mg base
 bs:∀b o,base.get? b=some o->s.heap.get? b=some o/\H b=none
 bsz:base.objs.size<=s.heap.objs.size
 funs:s.heap.FunFrames base outer
 frf:∀b∈frs outer,H b=none
 hok:HOk P w H s.heap
 bare:AllBare s.gens
def CE(outer:List Env)(P:Program)(w:World)(H:Hp)(s:Shared)(Q:VK)(u:Value)(s':Shared):Prop :=
 ∃v H',s'.os=s.os/\AllBare s'.gens/\Un (frs outer) [] H H' s.heap s'.heap/\HOk P w H' s'.heap/\dS v u/\Q v H'
def CR(CX:CXT)(outer:List Env)(P:Program)(w:World)(H:Hp)(s:Shared)(Q:VK)(E:XK)(r:Result)(s':Shared):Prop :=
 match r with
 | .ok (.ret u)=>CE outer P w H s Q u s'
 | .ok _=>False
 | .error e=>CX outer H s E e s'
structure nP (P:Program) (w:World) (K:PySem.W.Frag) (mg:Str->Option Value) (base:Heap) (CX:CXT) (k:Nat) (f:Addr) (fd:FuncData) (ps:List Str) (sp:Sp):Prop where
 len:∀vs H Q E,sp vs H Q E->vs.length=ps.length
 run:∀(A:Around) (outer:List Env) (s:Shared) (H:Hp) (args:Args) (us:List Value) (vs:List V) (Q:VK) (E:XK),gx k A->Ad P w K mg base A outer s H->BindsTo s fd args (ps.zip us)->cm vs us->sp vs H Q E ->
  codeAny (model P w) A (.call (.ref f) args) (CR CX outer P w H s Q E) s
theorem nP.imp{P:Program}{w:World}{K:PySem.W.Frag}{mg:Str->Option Value}{base:Heap}{CX:CXT}{k:Nat}{f:Addr}{fd:FuncData}{ps:List Str}{sp sp':Sp}(F:nP P w K mg base CX k f fd ps sp)
  (h:∀vs H Q E,sp' vs H Q E->sp vs H Q E):nP P w K mg base CX k f fd ps sp' :=
 ⟨fun vs H Q E q=>F.len vs H Q E (h _ _ _ _ q),fun A outer s H args us vs Q E hr he hb hv hs=>F.run A outer s H args us vs Q E hr he hb hv (h _ _ _ _ hs)⟩
theorem Ad.make{P:Program}{w:World}{K:PySem.W.Frag}{mg:Str->Option Value}{base:Heap}{A:Around}{outer:List Env}{s:Shared}{H:Hp}(e:Ad P w K mg base A outer s H)(C:Addr)(us:List Value)(kw:List (Str×Value)) :
  Ad P w K mg base (A.under (.builtin "type.__call__" ⟨.ref C::us,kw⟩)) outer s H:=⟨by first|exact e.frames|(simpa [Around.under,Code.envs,Code.isFrame,pushEnvs] using e.frames),e.mod,e.bs,e.bsz,e.funs,e.frf,e.hok,e.bare⟩
section
variable {X:Cx}{pins:List (Addr×Obj)}{σ:St}{H:Hp}{s s':Shared}
theorem Inv.env0(I:Inv X pins σ H s):Ad X.prog X.w X.K X.mg X.base X.A X.stack s H :=
 ⟨I.ok.frames,I.ok.mod,I.bs,Nat.le_trans I.ok.bsz I.sz,I.stack,I.stkFree,I.hok,I.bare⟩
theorem Inv.after{Q:VK}{u:Value}(I:Inv X pins σ H s)(h:CE X.stack X.prog X.w H s Q u s'):EP X pins σ Q u s':=by
 obtain⟨v,H',os,bare,un,hok,r,q⟩:=h;obtain⟨hh,g,d,t,os'⟩:=s';obtain rfl:os'=s.os:=os;exact⟨v,H',I.call (h':=hh) (g':=g) (d':=d) (t':=t) (ch:=[]) un hok bare (fun b z=>absurd z (by simp)),r,q⟩
end
def ef(sp:Sp)(dvs:List V)(E:XK)(t:TA):TE:=fun σ H Q=>t σ H fun vs H1=>sp (vs++dvs) H1 Q E
def Ae(C:Addr)(m:Str)(sp:Sp)(dvs:List V)(E:XK)(ta:TE)(t:TA):TE:=fun σ H Q=>ta σ H fun x H1=>∃a dx fs,x=.ref a/\H1 a=some (.ins C dx fs)/\fs.lookup m=none /\
 t σ H1 fun vs H2=>sp (x::(vs++dvs)) H2 Q E
def xN(C:Addr)(sp:Sp)(dvs:List V)(E:XK)(t:TA):TE:=fun σ H Q=>t σ H fun vs H1=>∀x dx,H1 x=none->H1 dx=none->dx≠x ->
 sp (.ref x::(vs++dvs)) (upd (upd H1 dx (.own x)) x (.ins C dx [])) (fun v H2=>v=.non/\Q (.ref x) H2) E
def kf(K:PySem.W.Frag)(fd:FuncData)(ps:List Str)(ds:List Value):Prop :=
 ∀(s:Shared) (us:List Value),K.In s.heap->(us++ds).length=ps.length->BindsTo s fd ⟨us,[]⟩ (ps.zip (us++ds))
theorem kf.all{K:PySem.W.Frag}{fd:FuncData}{ps:List Str}(h:∀us:List Value,us.length=ps.length->bindArgs fd ⟨us,[]⟩=pure (ps.zip us)):kf K fd ps []:=fun s us _ hl=>by
 rw [append_nil] at hl ⊢;exact .of_eq (h us hl)
def mQ(CX:CXT)(X:Cx)(E:XK):Prop:=∀(pins:List (Addr×Obj)) (σ:St) (H:Hp) (s:Shared) (e:Value) (s':Shared),Inv X pins σ H s->CX X.stack H s E e s'->X.xe e s'
section
variable {X:Cx}{CX:CXT}{k:Nat}{f C:Addr}{fd:FuncData}{ps:List Str}{sp:Sp}{dvs:List V}{ds:List Value}{E:XK}{x m:Str}{p pos apos:Pos}{e o:Expr}{es:List Expr}{ta:TE}{t:TA}
theorem y0{pins:List (Addr×Obj)}{σ:St}{H:Hp}{s:Shared}{Q:VK}{us:List Value}{vs:List V}(F:nP X.prog X.w X.K X.mg X.base CX k f fd ps sp)(hr:gx k X.A)(hb:kf X.K fd ps ds)(hd:cm dvs ds)(hx:mQ CX X E)
  (I:Inv X pins σ H s) (r:cm vs us) (h:sp (vs++dvs) H Q E):wpAny (model X.prog X.w) X.A (call (.ref f) us) (EP X pins σ Q) X.xe s:=by
 have r2:cm (vs++dvs) (us++ds):=r.append hd;have hl:(us++ds).length=ps.length:=by rw [<- r2.length];exact F.len _ _ _ _ h
 refine wpAny_call (codeAny_mono (F.run X.A X.stack s H ⟨us,[]⟩ (us++ds) (vs++dvs) Q E hr I.env0 (hb s us I.kIn hl) r2 h) fun r s' hq=>?_)
 cases r with
 | error e=>exact hx pins σ H s e s' I hq
 | ok fl =>
  cases fl with
  | ret u=>exact I.after hq
  | next=>exact False.elim hq
  | brk=>exact False.elim hq
  | cont=>exact False.elim hq
theorem vg(F:nP X.prog X.w X.K X.mg X.base CX k f fd ps sp)(hr:gx k X.A)(hg:Gl X x)(hm:X.mg x=some (.ref f))(hk:PySem.W.keepIn X.K (.ref f)=true)(hb:kf X.K fd ps ds)(hd:cm dvs ds)(hx:mQ CX X E)
  (ha:PA X (e::es) t) (hdb:(x == ("__debug__":Str))=false:=by decide) (he:starEach (e::es) X.env=(false,eval e X.env)::starEach es X.env:=by rfl) (hpl:(backTo pos (starEach es X.env)).any (·.1)=false:=by rfl) :
  PE X (.Call (.Name x p) (e::es) [] pos) (ef sp dvs E t):=by
 intro pins s σ H Q I h;refine wpAny_Call_Name_kw (qQ I hg hm ?_ hdb);refine PySem.W.callWith_K (h₀:=X.base) I.ok.mod.kin hk (thn (ha pos pins s σ H _ I h) fun us s1 ⟨vs,H1,I1,r,q⟩=>⟨I1.kIn,?_⟩) he hpl;exact y0 F hr hb hd hx I1 r q
theorem xO{pl:Sem Bool}(he:PE X o ta)(c:Cls X.K C)(hm:DW X.K C m f)(F:nP X.prog X.w X.K X.mg X.base CX k f fd ps sp)(hr:gx k X.A)(hb:kf X.K fd ps ds)(hd:cm dvs ds)(hx:mQ CX X E)
  (ht:eval (.Call (.Attribute o m apos) [] [] pos) X.env=(do
   let ov <- eval o X.env
   standAt apos.atName
   let (f,first) <- holding [ov] (getMethod ov m pl)
   callWith pos f first (backTo pos (starEach [] X.env)) (backToKw pos (keywordEach [] X.env))):=by rfl) :
  PE X (.Call (.Attribute o m apos) [] [] pos) (Ae C m sp dvs E ta eY):=by
 intro pins s σ H Q I h;refine PySem.W.methodCall_KW (pl:=pl) (thn (he pins s σ H _ I h) fun u s1 ⟨x,H1,I1,rx,a,dx,fs,ex,ea,l,q⟩=>?_) ht;subst ex;obtain rfl:u=Value.ref a:=rx;refine t5 I1 ea c hm l ?_;exact PySem.W.callWith_K0 (first:=[.ref a]) I1.kIn hm.kp (y0 (us:=[.ref a]) (vs:=[.ref a]) F hr hb hd hx I1 (.cons rfl .nil) q)
structure Mk (K:PySem.W.Frag) (C f:Addr):Prop where
 makes:PySem.W.makesIn K C=true
 init:PySem.W.findIn K (.ref C) "__init__"=some (some (.ref f))
 fn:PySem.W.isFn K (.ref f)=true
 kp:PySem.W.keepIn K (.ref C)=true
theorem xP{pins:List (Addr×Obj)}{σ:St}{H:Hp}{s:Shared}{Q:VK}{us:List Value}{vs:List V}(M:Mk X.K C f)(F:nP X.prog X.w X.K X.mg X.base CX k f fd ps sp)(hr:gx (k+1) X.A)(hb:kf X.K fd ps ds)(hd:cm dvs ds)
  (hx:mQ CX X E) (I:Inv X pins σ H s) (r:cm vs us)
  (h:∀x dx,H x=none->H dx=none->dx≠x->sp (.ref x::(vs++dvs)) (upd (upd H dx (.own x)) x (.ins C dx [])) (fun v H2=>v=.non/\Q (.ref x) H2) E) :
  wpAny (model X.prog X.w) X.A (call (.ref C) us) (EP X pins σ Q) X.xe s:=by
 have hq:=h (s.heap.objs.size+1) s.heap.objs.size (I.hok.fresh (le_succ _)) (I.hok.fresh (le_refl _)) (ne_of_lt (lt_succ_self _));have I2:=Inv.made (C:=C) I;have r2:cm (V.ref (s.heap.objs.size+1)::(vs++dvs)) (Value.ref (s.heap.objs.size+1)::(us++ds)):=.cons rfl (r.append hd)
 have hl:(Value.ref (s.heap.objs.size+1)::us++ds).length=ps.length:=by
  have e:=r2.length;rw [F.len _ _ _ _ hq] at e;exact e.symm
 refine wpAny_call (xM (f:=f) I.kIn M.makes M.init (beq_iff_eq.mp M.fn) (codeAny_mono (F.run _ X.stack _ _ ⟨Value.ref (s.heap.objs.size+1)::us,[]⟩ (Value.ref (s.heap.objs.size+1)::(us++ds)) _ _ E (hr.make C us [])
  (I2.env0.make C us []) (hb _ (Value.ref (s.heap.objs.size+1)::us) I2.kIn hl) r2 hq) fun r s' hq'=>?_))
 cases r with
 | error e=>exact hx pins σ _ _ e s' I2 hq'
 | ok fl =>
  cases fl with
  | ret u =>
   obtain⟨v,H',I3,rv,ev,q3⟩:=I2.after hq';subst ev;exact⟨rv,⟨V.ref (s.heap.objs.size+1),H',I3,rfl,q3⟩⟩
  | next=>exact False.elim hq'
  | brk=>exact False.elim hq'
  | cont=>exact False.elim hq'
theorem Af(M:Mk X.K C f)(F:nP X.prog X.w X.K X.mg X.base CX k f fd ps sp)(hr:gx (k+1) X.A)(hg:Gl X x)(hm:X.mg x=some (.ref C))(hb:kf X.K fd ps ds)(hd:cm dvs ds)(hx:mQ CX X E)
  (ha:PA X (e::es) t) (hdb:(x == ("__debug__":Str))=false:=by decide) (he:starEach (e::es) X.env=(false,eval e X.env)::starEach es X.env:=by rfl) (hpl:(backTo pos (starEach es X.env)).any (·.1)=false:=by rfl) :
  PE X (.Call (.Name x p) (e::es) [] pos) (xN C sp dvs E t):=by
 intro pins s σ H Q I h;refine wpAny_Call_Name_kw (qQ I hg hm ?_ hdb);refine PySem.W.callWith_K (h₀:=X.base) I.ok.mod.kin M.kp (thn (ha pos pins s σ H _ I h) fun us s1 ⟨vs,H1,I1,r,q⟩=>⟨I1.kIn,?_⟩) he hpl;exact xP M F hr hb hd hx I1 r q
end
structure aI (N P:List Str) (sc:Scope):Prop where
 kind:sc.kind=.function
 co:sc.isCoroutine=false
 gen:sc.isGenerator=false
 nd:N.Nodup
 pre:N.take P.length=P
 par:∀x∈P,sc.names.lookup x=some .local\/sc.names.lookup x=some .cell
 nofree:∀y∈sc.names,y.2≠.free
theorem pD{kindOf:Str->Option NameKind}{x:Str}:∀{binds:List (Str×Value)}{m:Str->Option Value},(∀v,(x,v)∉binds)->bindL kindOf binds m x=m x
 | [],_,_=>rfl
 | (n,v)::r,m,h=>by
  unfold bindL;rw [pD fun w hw=>h w (mem_cons_of_mem _ hw)]
  split
  .have:x≠n:=by rintro rfl;exact h v mem_cons_self
   simp [this]
  .rfl
theorem pE{kindOf:Str->Option NameKind}{x:Str}:∀{binds:List (Str×Value)}{m:Str->Option Value},(∀v,(x,v)∉binds)->bindC kindOf binds m x=m x
 | [],_,_=>rfl
 | (n,v)::r,m,h=>by
  unfold bindC;rw [pE fun w hw=>h w (mem_cons_of_mem _ hw)]
  split
  .rfl
  .have:x≠n:=by rintro rfl;exact h v mem_cons_self
   simp [this]
theorem pF{kindOf:Str->Option NameKind}{x:Str}{v:Value}:∀{P:List Str}{vs:List Value}{i:Nat}{m:Str->Option Value},P.Nodup->P[i]?=some x->vs[i]?=some v->kindOf x=some .local ->
  bindL kindOf (P.zip vs) m x=some v
 | [],_,_,_,_,h,_,_=>by simp at h
 | _::_,[],_,_,_,_,h,_=>by simp at h
 | p::P,w::vs,0,m,nd,h1,h2,hk=>by
  simp at h1 h2;subst h1;subst h2;show bindL kindOf ((p,w)::P.zip vs) m p=_;unfold bindL;rw [pD fun v hv=>(nodup_cons.mp nd).1 (of_mem_zip hv).1,if_pos hk];simp
 | p::P,w::vs,i+1,m,nd,h1,h2,hk=>by
  show bindL kindOf ((p,w)::P.zip vs) m x=_;unfold bindL;exact pF (i:=i) (nodup_cons.mp nd).2 (by simpa using h1) (by simpa using h2) hk
theorem pG{kindOf:Str->Option NameKind}{x:Str}{v:Value}:∀{P:List Str}{vs:List Value}{i:Nat}{m:Str->Option Value},P.Nodup->P[i]?=some x->vs[i]?=some v->kindOf x≠some .local ->
  bindC kindOf (P.zip vs) m x=some v
 | [],_,_,_,_,h,_,_=>by simp at h
 | _::_,[],_,_,_,_,h,_=>by simp at h
 | p::P,w::vs,0,m,nd,h1,h2,hk=>by
  simp at h1 h2;subst h1;subst h2;show bindC kindOf ((p,w)::P.zip vs) m p=_;unfold bindC;rw [pE fun v hv=>(nodup_cons.mp nd).1 (of_mem_zip hv).1,if_neg hk];simp
 | p::P,w::vs,i+1,m,nd,h1,h2,hk=>by
  show bindC kindOf ((p,w)::P.zip vs) m x=_;unfold bindC;exact pG (i:=i) (nodup_cons.mp nd).2 (by simpa using h1) (by simpa using h2) hk
def start(N:List Str)(vs:List V):St:=vs.map some++List.replicate (N.length - vs.length) none
def xy(CX:CXT)(P:Program)(w:World)(K:PySem.W.Frag)(mg:Str->Option Value)(base:Heap)(N:List Str)(qual:Str)(scope:Scope)(f:Addr)(cd:Value)(A:Around)(outer:List Env)(s:Shared)(H:Hp)(E:XK):Cx where
 prog:=P
 w:=w
 K:=K
 mg:=mg
 base:=base
 A:=A.deeper (envOfC qual scope s.heap.objs.size f cd)
 N:=N
 s₀:=s
 H₀:=H
 env:=envOfC qual scope s.heap.objs.size f cd
 outer:=outer
 stack:=envOfC qual scope s.heap.objs.size f cd::outer
 ex:=[]
 calm:=true
 fn:=fun _=>true
 pn:=[]
 xe:=fun e s'=>wpAny (model P w) (A.deeper (envOfC qual scope s.heap.objs.size f cd)) (leaving (envOfC qual scope s.heap.objs.size f cd) e) (fun _ s''=>CX outer H s E e s'') (fun e' s''=>CX outer H s E e' s'') s'
theorem sJ{sc:Scope}{n:Nat}{x:Str}(h:sc.names.lookup x=some .cell):∃c,(cellsFrom n sc.names []).lookup x=some c:=by
 have q:=PySem.W.cellsFrom_some sc.names n [] (.inl h);exact Option.isSome_iff_exists.mp q
theorem vh{CX:CXT}{P:Program}{w:World}{K:PySem.W.Frag}{mg:Str->Option Value}{base:Heap}{N ps:List Str}{qual:Str}{scope:Scope}{f:Addr}{cd:Value}{A:Around}{outer:List Env}{s s1:Shared}{H:Hp}{E:XK}{us:List Value}{vs:List V}
  (S:aI N ps scope) (hd:A.handled=none) (e0:Ad P w K mg base A outer s H) (hl:vs.length=ps.length) (r:cm vs us)
  (x:InCallC s s.heap.objs.size (bindL (envOfC qual scope s.heap.objs.size f cd).kindOf (ps.zip us) fun _=>none) (cellsFrom (s.heap.objs.size+1) scope.names []) (bindC (envOfC qual scope s.heap.objs.size f cd).kindOf (ps.zip us) fun _=>none) s1) :
  Inv (xy CX P w K mg base N qual scope f cd A outer s H E) [] (start N vs) H s1:=by
 have hpl:ps.length<=N.length:=by have:=congrArg List.length S.pre;rw [length_take] at this;omega
 obtain⟨h1,tk,rfl,hk⟩:=x.done;have noA:∀b:Addr,b∉(xy CX P w K mg base N qual scope f cd A outer s H E).ex:=fun b z=>absurd (show b∈([]:List Addr) from z) (by simp)
 refine⟨⟨e0.mod,S.kind,rfl,rfl,le_refl _,fun y z c h1 h2=>?_,fun y hy=>?_,fun y c _ h=>?_,fun _=>hd,Around.frames_deeper e0.frames,.inr ⟨rfl,rfl⟩,fun b z=>absurd z (noA b),e0.bs,e0.bsz,fun b _ _=>noA b,fun b z=>absurd z (noA b),e0.funs,e0.frf⟩,
  rfl,e0.bare,Un.kept hk,⟨_,x.toInCall.ns,fun i y v h1 h2 h3=>?_⟩,fun y c h=>⟨_,x.cell y c h⟩,e0.hok.fresh (le_refl _),fun y c h=>?_,fun p hp=>absurd (show p∈([]:List (Addr×Obj)) from hp) (by simp),e0.hok.kept hk,?_⟩
 .exact name_of_addr x.apart (PySem.mem_of_lookup h1) (PySem.mem_of_lookup h2)
 .have hy:scope.names.lookup y=some .cell\/scope.names.lookup y=some .free:=hy
  rcases hy with hy|hy
  .exact sJ hy
  .exact absurd rfl (S.nofree _ (PySem.mem_of_lookup hy))
 .exact le_of_lt (x.above y c (PySem.mem_of_lookup h))
 .have hi:i<vs.length:=by
   unfold start at h2
   by_cases hi:i<vs.length
   .exact hi
   .rw [getElem?_append_right (by simpa using hi)] at h2;rw [getElem?_replicate] at h2;split at h2 <;> cases h2
  have ha:vs[i]?=some v:=by
   unfold start at h2;rw [getElem?_append_left (by simpa using hi),getElem?_map] at h2
   cases e:vs[i]? with
   | none=>rw [e] at h2;cases h2
   | some a=>rw [e] at h2;cases h2;rfl
  obtain⟨u,hu,rv⟩:=r.get ha
  have hp:ps[i]?=some y:=by
   rw [<- S.pre,getElem?_take_of_lt (by omega)];exact h1
  have ndP:ps.Nodup:=by rw [<- S.pre];exact S.nd.sublist (take_sublist _ _)
  refine⟨u,rv,?_⟩
  rcases S.par y (mem_of_getElem? hp) with k|k
  .exact .inl ⟨k,pF ndP hp hu k⟩
  .obtain⟨c,e⟩:=sJ (n:=s.heap.objs.size+1) k;refine .inr ⟨.inl k,c,e,?_⟩;have q:=x.cell y c e;rw [pG ndP hp hu (by show scope.names.lookup y≠_;rw [k];decide)] at q;exact q
 .exact e0.hok.fresh (le_of_lt (x.above y c (PySem.mem_of_lookup h)))
 .unfold start;show _=N.length;rw [length_append,length_map,length_replicate];omega
theorem Cf{CX:CXT}{P:Program}{w:World}{K:PySem.W.Frag}{mg:Str->Option Value}{base:Heap}{k:Nat}{f:Addr}{name qual:Str}{params:Arguments}{body:List Stmt}{scope:Scope}{dV kV doc pm cdv ct oc:Value}{an od:Option Addr}
  {osl:Array (Option Value)}{N ps:List Str}{sp:Sp} (lk:K.lookup f=some ⟨oc,od,.func (PySem.W.fnOf name qual params body scope dV kV doc pm an cdv ct),osl⟩) (hcd:PySem.W.codeIn K cdv qual=true) (S:aI N ps scope)
  (len:∀vs H Q E,sp vs H Q E->vs.length=ps.length)
  (hbody:∀(A:Around) (outer:List Env) (s:Shared) (H:Hp) (vs:List V) (Q:VK) (E:XK),gx k (A.deeper (envOfC qual scope s.heap.objs.size f cdv))->sp vs H Q E ->
   ∃t,PSs (xy CX P w K mg base N qual scope f cdv A outer s H E) body t/\t { nx:=fun _ H'=>Q .non H',rt:=Q } (start N vs) H) :
  nP P w K mg base CX (k+1) f (PySem.W.fnOf name qual params body scope dV kV doc pm an cdv ct) ps sp:=by
 refine⟨len,fun A outer s H args us vs Q E hr e0 hb r hsp=>?_⟩;have hl:=len _ _ _ _ hsp;have KX:K.In s.heap:=e0.mod.kin.keeps fun b o e=>(e0.bs b o e).1;have lim:s.heap.NoLimit:=e0.mod.nolimit.keeps fun b o e=>(e0.bs b o e).1
 have hkind:∀y∈ps.zip us,scope.names.lookup y.1=some .local\/(scope.names.lookup y.1=some .cell/\((cellsFrom (s.heap.objs.size+1) scope.names []).lookup y.1).isSome=true):=fun ⟨n,v⟩ hy=>by
  rcases S.par n (of_mem_zip hy).1 with q|q
  .exact .inl q
  .exact .inr ⟨q,PySem.W.cellsFrom_some _ _ _ (.inl q)⟩
 refine codeAny_call_function hr.depth (KX _ _ lk) rfl S.co S.gen rfl (PySem.W.codeRec_of KX hcd) (hb _ _ _ _ ?_);refine wpAny_newFunctionEnv_cells S.kind hkind fun env he s1 x=>?_;subst he;refine⟨lim.keeps x.toInCall.keep,codeAny_func ?_⟩;obtain⟨t,ht,hq⟩:=hbody A outer s H vs Q E (hr.deeper _) hsp;have I:Inv (xy CX P w K mg base N qual scope f cdv A outer s H E) [] (start N vs) H s1:=vh S hr.hd e0 hl r x
 refine wpAny_mono (ht [] s1 (start N vs) H _ I hq) (fun fl s' hs=>?_) fun e s' hs=>hs
 have fin:∀{σ':St}{H':Hp}{v:V}{u:Value},Inv (xy CX P w K mg base N qual scope f cdv A outer s H E) [] σ' H' s'->dS v u->Q v H'->CE outer P w H s Q u s' :=
  fun {σ' H' v u} J rv q=>⟨v,H',J.os,J.bare,J.base,J.hok,rv,q⟩
 cases fl with
 | ret u =>
  obtain⟨v,σ',H',J,rv,q⟩:=hs;exact fin J rv q
 | next =>
  obtain⟨σ',H',J,q⟩:=hs;exact fin (v:=V.non) (u:=Value.none) J rfl q
 | brk =>
  obtain⟨_,_,_,q⟩:=hs;exact False.elim q
 | cont =>
  obtain⟨_,_,_,q⟩:=hs;exact False.elim q
section
variable {X:Cx}{x:Str}{p pos:Pos}{e:Expr}{es:List Expr}{t:TA}{id T:String}{r:List V->Hp->VK->Prop}
def tCB(r:List V->Hp->VK->Prop)(t:TA):TE:=fun σ H Q=>t σ H fun vs H1=>r vs H1 Q
theorem xQ(hc:cp X (.builtin id) r)(hg:Gl X x)(hm:X.mg x=none)(hv:bootBuiltins x=some (.builtin id))(ha:PA X (e::es) t)(hn:x≠"__name__":=by decide)(hdb:(x == ("__debug__":Str))=false:=by decide)
  (he:starEach (e::es) X.env=(false,eval e X.env)::starEach es X.env:=by rfl) (hpl:(backTo pos (starEach es X.env)).any (·.1)=false:=by rfl):PE X (.Call (.Name x p) (e::es) [] pos) (tCB r t):=by
 intro pins s σ H Q I h;refine wpAny_Call_Name_kw (iQ I hg hm hv ?_ hn hdb);exact PyProof.Rows.callWith_builtin1 (thn (ha pos pins s σ H _ I h) fun us s1 ⟨vs,H1,I1,r1,q1⟩=>hc pins s1 σ H1 vs us Q I1 r1 q1) he hpl
theorem vi(hc:cp X (.type T) r)(hg:Gl X x)(hm:X.mg x=none)(hv:bootBuiltins x=some (.type T))(ha:PA X (e::es) t)(hn:x≠"__name__":=by decide)(hdb:(x == ("__debug__":Str))=false:=by decide)
  (he:starEach (e::es) X.env=(false,eval e X.env)::starEach es X.env:=by rfl) (hpl:(backTo pos (starEach es X.env)).any (·.1)=false:=by rfl):PE X (.Call (.Name x p) (e::es) [] pos) (tCB r t):=by
 intro pins s σ H Q I h;refine wpAny_Call_Name_kw (iQ I hg hm hv ?_ hn hdb);exact PyProof.Rows.callWith_type1 (thn (ha pos pins s σ H _ I h) fun us s1 ⟨vs,H1,I1,r1,q1⟩=>hc pins s1 σ H1 vs us Q I1 r1 q1) he hpl
end
end L2
namespace HT
open PySem PyProof.Rows
section
open PySem.SeqAt
open PySem.AutoSeq1 (wpAny_loadPart')
open PySem.MeetsSeq PySem.MeetsSeq2 PySem.MeetsSeq3
end
section
variable {prog:Program}{w:World}{A:Around}{E:Value->Shared->Prop}{s:Shared}
theorem cat_tup{t b:Addr}{vs ws:List Value}{Q:Value->Shared->Prop}(ht:IsTup s.heap t vs.toArray)(hb:IsTup s.heap b ws.toArray)(hv:vs≠[])
  (h1:ws=[]->Q (.ref t) s) (h2:ws≠[]->Q (.ref s.heap.objs.size) { s with heap:=s.heap.push { cls:=.type "tuple",data:=.seq (vs++ws).toArray } })
  (hsz:vs.length+ws.length<=sizeLine):wpAny (model prog w) A (binaryOp .Add (.ref t) (.ref b)) Q E s:=by
 obtain⟨⟨cls,dd,data,sl⟩,ho,hc,n,hd⟩:=id ht;obtain⟨⟨cls2,dd2,data2,sl2⟩,ho2,hc2,n2,hd2⟩:=id hb;simp only at hc hd hc2 hd2;subst hc hd hc2 hd2;have e:vs.toArray++ws.toArray=(vs++ws).toArray:=by simp
 by_cases hw:ws=[]
 .exact concat_meets ⟨_,ho,rfl⟩ ⟨_,ho2,rfl⟩ noFill_tuple_add seq_tuple_add PySem.F.slot_tuple_add PySem.F.entry_tuple_add (PySem.F.args_tuple_add_2 _ _)
   (tuple_addW1 t b vs.toArray ws.toArray n n2 dd dd2 sl sl2 (by simpa using hv) (by simp [hw])) ⟨ho,ho2,h1 hw⟩
 .refine concat_meets ⟨_,ho,rfl⟩ ⟨_,ho2,rfl⟩ noFill_tuple_add seq_tuple_add PySem.F.slot_tuple_add PySem.F.entry_tuple_add (PySem.F.args_tuple_add_2 _ _)
   (tuple_addW2 t b vs.toArray ws.toArray n n2 dd dd2 sl sl2 (by simpa using hv) (by simpa using hw) (by rw [size_toArray,size_toArray];exact hsz)) ⟨ho,ho2,?_⟩
  rw [e];exact h2 hw
def sIx(n d:Nat):Option Int->Nat
 | none=>d
 | some v=>if v<0 then (v+(n:Int)).toNat else min v.toNat n
theorem sIx_nat(n d k:Nat):sIx n d (some (k:Int))=min k n:=by
 show (if (k:Int)<0 then ((k:Int)+(n:Int)).toNat else min (k:Int).toNat n)=min k n;rw [if_neg (by omega),toNat_natCast]
theorem sIx_le(n d:Nat)(hd:d<=n)(o:Option Int):sIx n d o<=n:=by
 cases o with
 | none=>exact hd
 | some v =>
  show (if v<0 then (v+(n:Int)).toNat else min v.toNat n)<=n
  by_cases hv:v<0
  .rw [if_pos hv];omega
  .rw [if_neg hv];exact min_le_right _ _
theorem clip_eq(v:Int)(n d:Nat):(if v<0 then max (v+(n:Int)) 0 else min v (n:Int))=((sIx n d (some v):Nat):Int):=by
 show (if v<0 then max (v+(n:Int)) 0 else min v (n:Int))=(((if v<0 then (v+(n:Int)).toNat else min v.toNat n):Nat):Int)
 by_cases hv:v<0
 .simp only [if_pos hv];omega
 .simp only [if_neg hv];omega
theorem ua(lo hi:Option Int)(n:Nat):Builtin.Slice.sliceAdjust lo hi 1 (n:Int)=(((sIx n 0 lo:Nat):Int),((sIx n n hi:Nat):Int)):=by
 have h1:¬ ((1:Int)<0):=by omega
 unfold Builtin.Slice.sliceAdjust;simp only [h1,if_false]
 refine Prod.ext ?_ ?_
 .cases lo with
  | none=>rfl
  | some v=>exact clip_eq v n 0
 .cases hi with
  | none=>rfl
  | some v=>exact clip_eq v n n
theorem ub(i j:Nat):Builtin.Slice.slicePlaces (i:Int) (j:Int) 1=j - i:=by
 unfold Builtin.Slice.slicePlaces;have h1:(1:Int) > 0:=by omega
 simp only [h1,if_true,ediv_one];split <;> omega
theorem mR{v:Value}{o:Option Int}{Q:Option Int->Shared->Prop}(p:IsPart v o)(h:Q o s):wpAny (model prog w) A (Builtin.Slice.slicePartIndex v) Q E s:=by
 cases p with
 | none=>exact slicePart_none h
 | int i t=>exact slicePart_int h
theorem f9{sl:Addr}{vl vu:Value}{lo hi:Option Int}{n:Nat}{Q:Int×Int×Nat->Shared->Prop}(hs:s.heap.IsSliceOf sl vl vu .none)(pl:IsPart vl lo)(pu:IsPart vu hi)
  (h:Q (((sIx n 0 lo:Nat):Int),1,sIx n n hi - sIx n 0 lo) s):wpAny (model prog w) A (Builtin.Slice.sliceApplied (.ref sl) (pure (n:Int))) Q E s:=by
 obtain⟨os,hos,hcs,hds⟩:=id hs;unfold Builtin.Slice.sliceApplied Builtin.Slice.sliceFields;refine wpAny_bind (wpAny_bind (wpAny_field hos hds (x:=vl) rfl (wpAny_bind (wpAny_field hos hds (x:=vu) rfl (wpAny_bind (wpAny_field hos hds (x:=.none) rfl (wpAny_pure ?_)))))));refine wpAny_bind (slicePart_none ?_);show wpAny _ _ (if ((1:Int) == 0)=true then _ else _) _ _ s;rw [if_neg (by decide)];refine wpAny_bind (mR pl (wpAny_bind (mR pu (wpAny_bind (wpAny_pure ?_)))))
 show wpAny _ _ (match Builtin.Slice.sliceAdjust lo hi 1 (n:Int) with|(lo,hi)=>pure (lo,(1:Int),Builtin.Slice.slicePlaces lo hi 1)) _ _ s;rw [ua lo hi n];show wpAny _ _ (pure (((sIx n 0 lo:Nat):Int),(1:Int),Builtin.Slice.slicePlaces ((sIx n 0 lo:Nat):Int) ((sIx n n hi:Nat):Int) 1)) _ _ s;rw [ub];exact wpAny_pure h
theorem xR(xs:Array Value)(i k:Nat):((List.range k).filterMap fun (m:Nat)=>xs[((i:Int)+(m:Int)*1).toNat]?).toArray=((xs.toList.drop i).take k).toArray:=by
 have e:(fun (m:Nat)=>xs[((i:Int)+(m:Int)*1).toNat]?)=fun m=>xs[i+m]?:=by
  funext m;have:((i:Int)+(m:Int)*1).toNat=i+m:=by omega
  rw [this]
 rw [e];have:=pick_run xs i k;rw [filterMap_map] at this;have e2:((fun x=>xs[x]?) ∘ fun x=>i+x)=fun m=>xs[i+m]?:=rfl;rw [e2] at this;rw [this]
theorem getItem_tuple_cut{t sl:Addr}{items:Array Value}{vl vu:Value}{lo hi:Option Int}{Q:Value->Shared->Prop}(ht:IsTup s.heap t items)(hs:s.heap.IsSliceOf sl vl vu .none)(pl:IsPart vl lo)(pu:IsPart vu hi)
  (hw:¬ (sIx items.size 0 lo=0/\sIx items.size items.size hi=items.size))
  (h:Q (.ref s.heap.objs.size) { s with heap:=s.heap.push { cls:=.type "tuple",data:=.seq ((items.toList.drop (sIx items.size 0 lo)).take (sIx items.size items.size hi - sIx items.size 0 lo)).toArray } })
  (hsz:items.size<=sizeLine):wpAny (model prog w) A (getItem (.ref t) (.ref sl)) Q E s:=by
 have htake:sizeOk (.seq ((items.toList.drop (sIx items.size 0 lo)).take (sIx items.size items.size hi - sIx items.size 0 lo)).toArray):=by
  show ((items.toList.drop (sIx items.size 0 lo)).take (sIx items.size items.size hi - sIx items.size 0 lo)).toArray.size<=sizeLine;rw [size_toArray,length_take,length_drop,Array.length_toList];omega
 have hj:sIx items.size items.size hi<=items.size:=sIx_le _ _ (le_refl _) hi;obtain⟨os,hos,hcs,hds⟩:=id hs;have hTs:s.TypeIs (.ref sl) "slice":=⟨os,hos,hcs⟩
 unfold getItem
 try with_reducible refine wpAny_holding ?_
 first|refine wpAny_bind (wpAny_pure ?_)|skip
 refine wpAny_bind (wpAny_sequenceKey ht.typeIs (by decide) ?_)
 refine wpAny_bind (wpAny_callSpecial?_slot (name:=Str.ofString "__getitem__") ht.typeIs PyProof.Rows.slot_tuple_getitem
  (wpAny_call_entry PyProof.Rows.slot_tuple_getitem ht.typeIs entry_tuple_getitem ?_ (args_tuple_getitem _ _)))
 show wpAny _ _ (Builtin.Tuple.tupleItemsOf (.ref t) >>= _) _ _ s;refine wpAny_bind (tupleItemsOf_ ht ?_);refine wpAny_bind (wpAny_typeOf hTs ?_);rw [if_pos (by decide)];refine wpAny_bind (f9 hs pl pu ?_)
 have hno:¬ ((((sIx items.size 0 lo:Nat):Int) == 0 && (1:Int) == 1 && (sIx items.size items.size hi - sIx items.size 0 lo) == items.size)=true):=by
  intro q;rw [and_eq_true,and_eq_true] at q;have q1:((sIx items.size 0 lo:Nat):Int)=0:=eq_of_beq q.1.1;have q2:sIx items.size items.size hi - sIx items.size 0 lo=items.size:=eq_of_beq q.2;exact hw ⟨by omega,by omega⟩
 show wpAny _ _ (if (((sIx items.size 0 lo:Nat):Int) == 0 && (1:Int) == 1 && (sIx items.size items.size hi - sIx items.size 0 lo) == items.size)=true then _ else _) _ _ s;rw [if_neg hno,xR]
 first
  | exact wpAny_bind (m:=Builtin.Tuple.tupleExact _) (wpAny_newObj_type (wpAny_pure ⟨_,rfl,wpAny_pure h⟩) htake)
  | exact wpAny_bind (m:=Builtin.Tuple.tupleExact _) (wpAny_newObj_type (wpAny_bind (wpAny_pure (wpAny_pure ⟨_,rfl,wpAny_pure h⟩))) htake)
  | exact wpAny_bind (wpAny_bind (m:=Builtin.Tuple.tupleExact _) (wpAny_newObj_type (wpAny_pure (wpAny_pure ⟨_,rfl,wpAny_pure h⟩)) htake))
  | exact wpAny_bind (wpAny_bind (m:=Builtin.Tuple.tupleExact _) (wpAny_newObj_type (wpAny_pure ⟨_,rfl,wpAny_pure h⟩) htake))
end
end HT
namespace L2
open PySem PySem.Spec PyProof.Rows
abbrev TO:=St->Hp->(Option Int->Hp->Prop)->Prop
def PO(X:Cx)(e:Option Expr)(t:TO):Prop :=
 ∀(pins:List (Addr×Obj)) (s:Shared) (σ:St) (H:Hp) (Q:Option Int->Hp->Prop),Inv X pins σ H s->t σ H Q ->
  wpAny (model X.prog X.w) X.A (evalPart e X.env) (fun u s'=>∃o H',Inv X pins σ H' s'/\IsPart u o/\Q o H') X.xe s
def nQ:TO:=fun _ H Q=>Q none H
def xS(t:TE):TO:=fun σ H Q=>t σ H fun x H1=>∃i,x=.int i/\Q (some i) H1
theorem fb{ns:List Int}:∀{us:List Value},cm (ns.map V.int) us->IntsAre us ns:=by
 induction ns with
 | nil=>intro us r;rw [map_nil] at r;cases r;exact .nil
 | cons n ns ih =>
  intro us r;rw [map_cons] at r
  cases r with
  | cons r1 r2 =>
   obtain⟨t,e⟩:=r1;subst e;exact .cons n t (ih r2)
section
variable {X:Cx}{e:Expr}{te:TE}{lo hi:Option Expr}{tl th:TO}{pos p2:Pos}
theorem cP:PO X none nQ:=by
 intro pins s σ H Q I h;rw [evalPart_none];exact wpAny_pure ⟨none,H,I,.none,h⟩
theorem cD(h:PE X e te):PO X (some e) (xS te):=by
 intro pins s σ H Q I hw;rw [evalPart_some];refine thn (h pins s σ H _ I hw) fun u s1 ⟨x,H1,I1,r1,q1⟩=>?_;obtain⟨i,rfl,q⟩:=q1;obtain⟨t,rfl⟩:=r1;exact⟨some i,H1,I1,.int i t,q⟩
def SlR(X:Cx)(r:V->Option Int->Option Int->Hp->VK->Prop):Prop :=
 ∀(pins:List (Addr×Obj)) (s:Shared) (σ:St) (H:Hp) (x:V) (v vl vu:Value) (lo hi:Option Int) (sl:Addr) (Q:VK),Inv X pins σ H s->dS x v->s.heap.IsSliceOf sl vl vu .none->IsPart vl lo->IsPart vu hi->r x lo hi H Q ->
  ∃T id,typeLookup (.type T) "__getitem__"=pure (some (.builtin id))/\s.TypeIs v T/\wpAny (model X.prog X.w) X.A (getItem v (.ref sl)) (EP X pins σ Q) X.xe s
theorem SlR.or{r r':V->Option Int->Option Int->Hp->VK->Prop}(h:SlR X r)(h':SlR X r'):SlR X (fun x lo hi H Q=>r x lo hi H Q\/r' x lo hi H Q):=by
 intro pins s σ H x v vl vu lo hi sl Q I rx hs pl pu q
 rcases q with q|q
 .exact h pins s σ H x v vl vu lo hi sl Q I rx hs pl pu q
 .exact h' pins s σ H x v vl vu lo hi sl Q I rx hs pl pu q
def tSl(r:V->Option Int->Option Int->Hp->VK->Prop)(te:TE)(tl th:TO):TE:=fun σ H Q=>te σ H fun x H1=>tl σ H1 fun l H2=>th σ H2 fun u H3=>r x l u H3 Q
theorem bW{r:V->Option Int->Option Int->Hp->VK->Prop}(hr:SlR X r)(he:PE X e te)(hl:PO X lo tl)(hu:PO X hi th):PE X (.Subscript e (.Slice lo hi none p2) pos) (tSl r te tl th):=by
 intro pins s σ H Q I h;refine Subscript_ (thn (he pins s σ H _ I h) fun v s1 ⟨x,H1,I1,r1,q1⟩=>?_);refine wpAny_Slice (thn (hl pins s1 σ H1 _ I1 q1) fun vl s2 ⟨l,H2,I2,pl,q2⟩=>thn (hu pins s2 σ H2 _ I2 q2) fun vu s3 ⟨u,H3,I3,pu,q3⟩=>?_);rw [evalPart_none];refine wpAny_pure ?_;have I4:Inv X pins σ H3 { s3 with heap:=s3.heap.push { cls:=.type "slice",data:=.fields #[vl,vu,.none] } }:=I3.kept (t':=s3.toks) fun b ob q=>Heap.get?_push_of_some _ q
 obtain⟨T,id,hT,ht,hg⟩:=hr pins { s3 with heap:=s3.heap.push { cls:=.type "slice",data:=.fields #[vl,vu,.none] } } σ H3 x v vl vu l u s3.heap.objs.size Q I4 r1 (Heap.IsSliceOf.new ..) pl pu q3;show wpAny (model X.prog X.w) X.A (subscriptTail e (.Slice lo hi none p2) v (.ref s3.heap.objs.size)) (EP X pins σ Q) X.xe { s3 with heap:=s3.heap.push { cls:=.type "slice",data:=.fields #[vl,vu,.none] } };exact tail_any (ops:=[.ref s3.heap.objs.size,v]) ht hT hg (by with_unfolding_all rfl)
def Ag(xs:List V)(lo hi:Option Int):List V:=(xs.drop (HT.sIx xs.length 0 lo)).take (HT.sIx xs.length xs.length hi - HT.sIx xs.length 0 lo)
theorem kI(xs:List V)(lo hi:Option Int):(Ag xs lo hi).length<=xs.length:=by
 unfold Ag;rw [length_take,length_drop];omega
def Fh(K:PySem.W.Frag):V->Option Int->Option Int->Hp->VK->Prop:=fun x lo hi H Q=>∃a xs,x=.ref a/\SqT K H a xs /\
 ¬ (HT.sIx xs.length 0 lo=0/\HT.sIx xs.length xs.length hi=xs.length)/\∀p,H p=none->Q (.ref p) (upd H p (.tup (Ag xs lo hi)))
theorem Cg:SlR X (Fh X.K):=by
 intro pins s σ H x v vl vu lo hi sl Q I rx hs pl pu h;obtain⟨a,xs,rfl,hx,hw,q⟩:=h;cases rx;obtain⟨its,r,ht,hz⟩:=I.tuple hx;have hlen:its.toArray.size=xs.length:=by rw [size_toArray];exact r.length.symm
 refine⟨"tuple",_,PyProof.Rows.slot_tuple_getitem.lookup,ht.typeIs,?_⟩;refine HT.getItem_tuple_cut ht hs pl pu (by rw [hlen];exact hw) ?_ (by rw [hlen];exact hz);rw [hlen];refine⟨.ref s.heap.objs.size,_,I.laid (t':=s.toks) (o:=.tup (Ag xs lo hi)) (fun b ob q=>Heap.get?_push_of_some _ q) (le_refl _) ?_,rfl,q _ (I.hok.fresh (le_refl _))⟩;exact⟨Nat.le_trans (kI xs lo hi) hz,_,(r.drop (HT.sIx xs.length 0 lo)).take (HT.sIx xs.length xs.length hi - HT.sIx xs.length 0 lo),IsTup.new _ _⟩
def Ch(K:PySem.W.Frag):R2:=fun x y H Q=>∃a b xs ys,x=.ref a/\y=.ref b/\SqT K H a xs/\SqT K H b ys/\xs≠[]/\xs.length+ys.length<=sizeLine /\
 (ys=[]->Q (.ref a) H)/\(ys≠[]->∀p,H p=none->Q (.ref p) (upd H p (.tup (xs++ys))))
theorem cm.nil_iff{xs:List V}{us:List Value}(r:cm xs us):us=[] ↔ xs=[]:=by
 cases r with
 | nil=>simp
 | cons _ _=>simp
theorem Ah:OpR X (binaryOp .Add) (Ch X.K):=by
 intro pins s σ H x y v u Q I rx ry h;obtain⟨a,b,xs,ys,rfl,rfl,ha,hb,hx,hz,q1,q2⟩:=h;cases rx;cases ry;obtain⟨its,r1,p1,_⟩:=I.tuple ha;obtain⟨its2,r2,p2,_⟩:=I.tuple hb;refine HT.cat_tup p1 p2 (fun z=>hx (r1.nil_iff.mp z)) (fun z=>⟨.ref a,H,I,rfl,q1 (r2.nil_iff.mp z)⟩) (fun z=>?_) (by rw [<- r1.length,<- r2.length];exact hz);refine⟨.ref s.heap.objs.size,_,I.laid (t':=s.toks) (o:=.tup (xs++ys)) (fun b ob q=>Heap.get?_push_of_some _ q) (le_refl _) ?_,rfl,q2 (fun w=>z (r2.nil_iff.mpr w)) _ (I.hok.fresh (le_refl _))⟩
 exact⟨by rw [length_append];exact hz,_,r1.append r2,IsTup.new _ _⟩
end
def ixN(n:Nat)(i:Int):Option Nat:=if 0<=i then (if i<n then some i.toNat else none) else if -(n:Int)<=i then some (i+n).toNat else none
def atI{α:Type}(xs:List α)(i:Int):Option α:=(ixN xs.length i).bind fun j=>xs[j]?
theorem qU{n:Nat}{i:Int}{j:Nat}(h:ixN n i=some j):seqIndex? i n=some j/\j<n/\-(n:Int)<=i/\i<n:=by
 unfold ixN at h
 by_cases h0:0<=i
 .rw [if_pos h0] at h
  by_cases h1:i<n
  .rw [if_pos h1] at h;have e:i.toNat=j:=Option.some.inj h;exact⟨by rw [seqIndex_of h0 h1,e],by omega,by omega,h1⟩
  .rw [if_neg h1] at h;cases h
 .rw [if_neg h0] at h
  by_cases h1:-(n:Int)<=i
  .rw [if_pos h1] at h;have e:(i+n).toNat=j:=Option.some.inj h;exact⟨by rw [seqIndex_neg (by omega) h1,e],by omega,h1,by omega⟩
  .rw [if_neg h1] at h;cases h
theorem qV{α:Type}{xs:List α}{i:Int}{v:α}(h:atI xs i=some v):∃j,seqIndex? i xs.length=some j/\xs[j]?=some v/\j<xs.length/\-(xs.length:Int)<=i/\i<xs.length:=by
 unfold atI at h
 cases e:ixN xs.length i with
 | none=>rw [e] at h;cases h
 | some j =>
  rw [e] at h;obtain⟨h1,h2,h3,h4⟩:=qU e;exact⟨j,h1,h,h2,h3,h4⟩
theorem Aj{α:Type}{xs:List α}{j:Nat}{v:α}(h:xs[j]?=some v):atI xs (j:Int)=some v:=by
 have hj:j<xs.length:=(List.getElem?_eq_some_iff.mp h).1
 have e:ixN xs.length (j:Int)=some j:=by
  unfold ixN;rw [if_pos (by omega),if_pos (by omega)];simp
 unfold atI;rw [e];exact h
def Ak(b:Expr):Prop:=∀o i,subscripted b false o i=operate [o,i] (getItem o i)
def IxR(X:Cx)(r:R2):Prop :=
 ∀(value slice:Expr) (pins:List (Addr×Obj)) (s:Shared) (σ:St) (H:Hp) (x y:V) (v u:Value) (Q:VK),Inv X pins σ H s->dS x v->dS y u->r x y H Q ->
  subscripted slice false v u=operate [v,u] (getItem v u)->wpAny (model X.prog X.w) X.A (subscriptTail value slice v u) (EP X pins σ Q) X.xe s
def MtR(X:Cx)(id:String)(r:V->List V->Hp->VK->Prop):Prop :=
 ∀(pins:List (Addr×Obj)) (s:Shared) (σ:St) (H:Hp) (x:V) (xs:List V) (v:Value) (us:List Value) (Q:VK),Inv X pins σ H s->dS x v->cm xs us->r x xs H Q ->
  wpAny (model X.prog X.w) X.A (call (.builtin id) (v::us)) (EP X pins σ Q) X.xe s
section
variable {X:Cx}{a b:Expr}{ta tb:TE}{pos:Pos}
theorem IxR.or{r r':R2}(h:IxR X r)(h':IxR X r'):IxR X (fun x y H Q=>r x y H Q\/r' x y H Q):=by
 intro value slice pins s σ H x y v u Q I rx ry q hs
 rcases q with q|q
 .exact h value slice pins s σ H x y v u Q I rx ry q hs
 .exact h' value slice pins s σ H x y v u Q I rx ry q hs
theorem bu{r:R2}(hr:IxR X r)(ha:PE X a ta)(hb:PE X b tb)(hs:Ak b):PE X (.Subscript a b pos) (tOp r ta tb):=by
 intro pins s σ H Q I h;exact Subscript_ (D6 ha hb I h fun v u s2 x y H2 I2 rx ry q=>hr a b pins s2 σ H2 x y v u Q I2 rx ry q (hs _ _))
def Fi(K:PySem.W.Frag):R2:=fun x y H Q=>∃p xs i v,x=.ref p/\y=.int i/\SqL K H p xs/\atI xs i=some v/\Q v H
def Fj(K:PySem.W.Frag):R2:=fun x y H Q=>∃p xs i v,x=.ref p/\y=.int i/\SqT K H p xs/\atI xs i=some v/\Q v H
def FK:R2:=fun x y H Q=>∃z i c,x=.str z/\y=.int i/\z.length<=sizeLine/\atI z.cps.toList i=some c/\Q (.str ⟨#[c]⟩) H
theorem Al:IxR X (Fi X.K):=by
 intro value slice pins s σ H x y v u Q I rx ry h hs;obtain⟨p,xs,i,z,rfl,rfl,hq,he,q⟩:=h;cases rx;obtain⟨t,rfl⟩:=ry;obtain⟨its,r,pl,hz⟩:=I.list hq;obtain⟨j,h1,h2,h3,h4,h5⟩:=qV he;obtain⟨w,ew,rw'⟩:=r.get h2;have hl:=r.length;have hn:=kE;have fin:EP X pins σ Q w s:=⟨z,H,I,rw',q⟩
 by_cases h0:0<=i
 .have hj:i.toNat=j:=by
   rw [seqIndex_of h0 h5] at h1;exact Option.some.inj h1
  exact item_listR pl.isList h0 (by omega) (by rw [hj];simpa using ew) fin hs
 .have hj:(i+(its.toArray.size:Int)).toNat=j:=by
   rw [seqIndex_neg (by omega) h4] at h1;rw [size_toArray,<- hl];exact Option.some.inj h1
  exact subscriptTail_builtinR (x:=w) pl.isList.typeIs slot_list_getitem.lookup
   (wpAny_getItem_list_neg (Q:=fun r s'=>r=w/\EP X pins σ Q r s') pl.isList (by omega) (by rw [size_toArray] <;> omega) (by omega) (by rw [hj];simpa using ew) ⟨rfl,fin⟩) hs
theorem Ci:IxR X (Fj X.K):=by
 intro value slice pins s σ H x y v u Q I rx ry h hs;obtain⟨p,xs,i,z,rfl,rfl,hq,he,q⟩:=h;cases rx;obtain⟨t,rfl⟩:=ry;obtain⟨its,r,pl,hz⟩:=I.tuple hq;obtain⟨j,h1,h2,h3,h4,h5⟩:=qV he;obtain⟨w,ew,rw'⟩:=r.get h2;have hl:=r.length;have hn:=kE;have fin:EP X pins σ Q w s:=⟨z,H,I,rw',q⟩
 exact subscriptTail_builtinR (x:=w) pl.typeIs slot_tuple_getitem.lookup
  (getItem_tuple (j:=j) (Q:=fun r s'=>r=w/\EP X pins σ Q r s') pl (by omega) (by omega) (by rw [size_toArray,<- hl];exact h1) (by simpa using ew) ⟨rfl,fin⟩) hs
theorem Cj:IxR X FK:=by
 intro value slice pins s σ H x y v u Q I rx ry h hs;obtain⟨z,i,c,rfl,rfl,hz,he,q⟩:=h;obtain⟨t,rfl⟩:=rx;obtain⟨t',rfl⟩:=ry;obtain⟨j,h1,h2,h3,h4,h5⟩:=qV he;have hl:z.cps.toList.length=z.length:=by simp [Str.length]
 rw [hl] at h1 h4 h5;have hn:=kE
 exact tail_any (typeIs_str s z t) slot_str_getitem.lookup (getItem_str (c:=c) (by
  have e1:decide (i < -(2^63:Int))=false:=decide_eq_false (by omega);have e2:decide (i >= 2^63)=false:=decide_eq_false (by omega);rw [e1,e2,Bool.or_false]) (by rw [h1];simpa using h2) ⟨.str ⟨#[c]⟩,H,I.tok _,⟨_,rfl⟩,q⟩) hs
theorem uc(its:List Value)(n j:Nat)(u:Value):Obj.mapSeq (·.setIfInBounds j u) { cls:=.type "list",data:=.seq its.toArray n }={ cls:=.type "list",data:=.seq (its.set j u).toArray n }:=by
 simp [Obj.mapSeq]
theorem Inv.lst{pins:List (Addr×Obj)}{σ:St}{H:Hp}{s:Shared}{p:Addr}{xs:List V}(I:Inv X pins σ H s)(h:H p=some (.lst xs)) :
  ∃(its:List Value) (n:Nat),cm xs its/\s.heap.get? p=some { cls:=.type "list",data:=.seq its.toArray n }/\xs.length<=sizeLine:=by
 obtain⟨z,its,n,r,e⟩:=I.hok p _ h;exact⟨its,n,r,e,z⟩
theorem Inv.lstUpd{pins:List (Addr×Obj)}{σ:St}{H:Hp}{s:Shared}{p:Addr}{xs ys:List V}{its its':List Value}{n n':Nat}{f:Obj->Obj}(I:Inv X pins σ H s)(h:H p=some (.lst xs))
  (ho:s.heap.get? p=some { cls:=.type "list",data:=.seq its.toArray n }) (hf:f { cls:=.type "list",data:=.seq its.toArray n }={ cls:=.type "list",data:=.seq its'.toArray n' }) (r:cm ys its') (hz:ys.length<=sizeLine) (t:Nat) :
  Inv X pins σ (upd H p (.lst ys)) { s with heap:=s.heap.update p f,toks:=t }:=by
 have e:(s.heap.update p f).get? p=some { cls:=.type "list",data:=.seq its'.toArray n' }:=by
  rw [Heap.get?_update_self f ho (by rw [hf] <;> rfl),hf]
 refine I.write (x:=p) (e:=p) (by rw [h];trivial) (.inl rfl) (fun b u hb q=>(Heap.get?_update_other _ _ (Ne.symm hb)).trans q) ⟨_,e⟩ ?_;exact⟨hz,its',n',r,e⟩
def Ck:V->V->V->Hp->(Hp->Prop)->Prop:=fun o i v H Q=>∃p xs k j,o=.ref p/\i=.int k/\H p=some (.lst xs)/\ixN xs.length k=some j/\Q (upd H p (.lst (xs.set j v)))
theorem sK:Fa X Ck:=by
 intro pins s σ H o i v ov iv u Q I ro ri rv h;obtain⟨p,xs,k,j,rfl,rfl,hp,hj,q⟩:=h;cases ro;obtain⟨t,rfl⟩:=ri;obtain⟨its,n,r,ho,hz⟩:=I.lst hp;obtain⟨h1,h2,h3,h4⟩:=qU hj;have hl:=r.length;have hn:=kE
 have I':Inv X pins σ (upd H p (.lst (xs.set j v))) { s with heap:=s.heap.update p (Obj.mapSeq (·.setIfInBounds j u)) } :=
  I.lstUpd hp ho (uc its n j u) (r.set rv j) (by rw [length_set];exact hz) s.toks
 by_cases h0:0<=k
 .have hk:k.toNat=j:=by
   rw [seqIndex_of h0 h4] at h1;exact Option.some.inj h1
  exact PySem.W.ki_setAt ho h0 (by omega) (by rw [size_toArray,<- hl];exact h4) (by rw [hk];exact⟨_,I',q⟩)
 .have hk:(k+(its.toArray.size:Int)).toNat=j:=by
   rw [seqIndex_neg (by omega) h3] at h1;rw [size_toArray,<- hl];exact Option.some.inj h1
  exact PySem.W.ki_setBack ho (by omega) (by rw [size_toArray,<- hl];exact h3) (by omega) (by rw [hk];exact⟨_,I',q⟩)
theorem pH(lo hi:Option Int)(n:Nat):(sliceBounds lo hi none n).1=((HT.sIx n 0 lo:Nat):Int)/\(sliceBounds lo hi none n).2.1=((HT.sIx n n hi:Nat):Int)/\(sliceBounds lo hi none n).2.2=1:=by
 refine⟨?_,?_,rfl⟩
 .cases lo with
  | none=>simp [sliceBounds,HT.sIx]
  | some i =>
   simp only [sliceBounds,HT.sIx,Option.getD_none,show (1:Int) > 0 by decide,if_true]
   by_cases h:i<0
   .simp only [h,if_true] <;> omega
   .simp only [h,if_false] <;> omega
 .cases hi with
  | none=>simp [sliceBounds,HT.sIx]
  | some i =>
   simp only [sliceBounds,HT.sIx,Option.getD_none,show (1:Int) > 0 by decide,if_true]
   by_cases h:i<0
   .simp only [h,if_true] <;> omega
   .simp only [h,if_false] <;> omega
theorem nR(its:List Value)(lo hi:Option Int):slicePick its.toArray lo hi none=((its.drop (HT.sIx its.length 0 lo)).take (HT.sIx its.length its.length hi - HT.sIx its.length 0 lo)).toArray:=by
 obtain⟨h1,h2,h3⟩:=pH lo hi its.toArray.size;unfold slicePick;rw [h1,h2,h3];simp only [sliceRange_one,pick_run,size_toArray] <;> rfl
def Fk(K:PySem.W.Frag):V->Option Int->Option Int->Hp->VK->Prop:=fun x lo hi H Q=>∃a xs,x=.ref a/\SqL K H a xs/\∀p,H p=none->Q (.ref p) (upd H p (.lst (Ag xs lo hi)))
theorem Am:SlR X (Fk X.K):=by
 intro pins s σ H x v vl vu lo hi sl Q I rx hs pl pu h;obtain⟨a,xs,rfl,hx,q⟩:=h;cases rx;obtain⟨its,r,ht,hz⟩:=I.list hx;have hlen:=r.length;refine⟨"list",_,slot_list_getitem.lookup,ht.isList.typeIs,?_⟩;refine wpAny_getItem_list_slice ht.isList hs pl pu .none (by simp) ?_ (by rw [size_toArray] <;> omega);rw [nR,<- hlen];refine⟨.ref s.heap.objs.size,_,I.laid (t':=s.toks) (o:=.lst (Ag xs lo hi)) (fun b ob q=>Heap.get?_push_of_some _ q) (le_refl _) ?_,rfl,q _ (I.hok.fresh (le_refl _))⟩
 exact⟨Nat.le_trans (kI xs lo hi) hz,_,0,(r.drop (HT.sIx xs.length 0 lo)).take (HT.sIx xs.length xs.length hi - HT.sIx xs.length 0 lo),Heap.get?_push_size _ rfl⟩
def me:V->Bool
 | .non=>true
 | .bl _=>true
 | .int _=>true
 | .str _=>true
 | _=>false
def eqV:V->V->Bool
 | .non,.non=>true
 | .bl a,.bl b=>a == b
 | .bl a,.int b=>(if a then 1 else 0) == b
 | .int a,.bl b=>a == (if b then 1 else 0)
 | .int a,.int b=>a == b
 | .str a,.str b=>a == b
 | _,_=>false
theorem Cm{A:Around}{s:Shared}{y x:V}{u v:Value}(ry:dS y u)(rx:dS x v)(fy:me y=true)(fx:me x=true):SeqAt.EqAt A s u v (eqV y x):=by
 cases y with
 | non =>
  cases ry
  cases x with
  | non=>cases rx;exact SeqAt.EqAt.same _
  | bl b=>cases rx;exact SeqAt.EqAt.none_bool b
  | int b=>obtain⟨t,rfl⟩:=rx;exact SeqAt.EqAt.none_int b t
  | str b=>obtain⟨t,rfl⟩:=rx;exact SeqAt.EqAt.none_str b t
  | _=>exact absurd (show false=true from fx) Bool.false_ne_true
 | bl a =>
  cases ry
  cases x with
  | non=>cases rx;exact SeqAt.EqAt.bool_none a
  | bl b=>cases rx;exact SeqAt.EqAt.bool_bool a b
  | int b=>obtain⟨t,rfl⟩:=rx;exact SeqAt.EqAt.bool_int a b t
  | str b=>obtain⟨t,rfl⟩:=rx;exact SeqAt.EqAt.bool_str a b t
  | _=>exact absurd (show false=true from fx) Bool.false_ne_true
 | int a =>
  obtain⟨t',rfl⟩:=ry
  cases x with
  | non=>cases rx;exact SeqAt.EqAt.int_none a t'
  | bl b=>cases rx;exact SeqAt.EqAt.int_bool a t' b
  | int b=>obtain⟨t,rfl⟩:=rx;exact SeqAt.EqAt.int_int a t' b t
  | str b=>obtain⟨t,rfl⟩:=rx;exact SeqAt.EqAt.int_str a t' b t
  | _=>exact absurd (show false=true from fx) Bool.false_ne_true
 | str a =>
  obtain⟨t',rfl⟩:=ry
  cases x with
  | non=>cases rx;exact SeqAt.EqAt.str_none a t'
  | bl b=>cases rx;exact SeqAt.EqAt.str_bool a t' b
  | int b=>obtain⟨t,rfl⟩:=rx;exact SeqAt.EqAt.str_int a t' b t
  | str b=>obtain⟨t,rfl⟩:=rx;exact SeqAt.EqAt.str_str a t' b t
  | _=>exact absurd (show false=true from fx) Bool.false_ne_true
 | _=>exact absurd (show false=true from fy) Bool.false_ne_true
def eqU(x:V)(u:Value):Bool:=match u with
 | .none=>eqV .non x
 | .bool b=>eqV (.bl b) x
 | .int i _=>eqV (.int i) x
 | .str z _=>eqV (.str z) x
 | _=>false
theorem y4{x y:V}{u:Value}(r:dS y u)(f:me y=true):eqU x u=eqV y x:=by
 cases y with
 | non=>cases r;rfl
 | bl b=>cases r;rfl
 | int i=>obtain⟨t,rfl⟩:=r;rfl
 | str z=>obtain⟨t,rfl⟩:=r;rfl
 | _=>exact absurd (show false=true from f) Bool.false_ne_true
theorem kJ{x:V}:∀{xs:List V}{us:List Value},cm xs us->xs.all me=true->us.any (eqU x)=xs.any fun y=>eqV y x
 | _,_,.nil,_=>rfl
 | y::xs,u::us,.cons r t,f=>by
  rw [all_cons,and_eq_true] at f;rw [any_cons,any_cons,y4 r f.1,kJ t f.2]
theorem iR{A:Around}{s:Shared}{x:V}{v:Value}(rx:dS x v)(fx:me x=true):∀{xs:List V}{us:List Value},cm xs us->xs.all me=true->∀u∈us,SeqAt.EqAt A s u v (eqU x u)
 | _,_,.nil,_=>fun u hu=>by cases hu
 | y::xs,u::us,.cons r t,f=>fun u' hu=>by
  rw [all_cons,and_eq_true] at f
  rcases mem_cons.mp hu with rfl|hu
  .rw [y4 r f.1];exact Cm r rx f.1 fx
  .exact iR rx fx t f.2 u' hu
def inV(x:V)(xs:List V):Bool:=xs.any fun y=>eqV y x
def rIn(K:PySem.W.Frag)(neg:Bool):R2:=fun x y H Q=>∃p xs,y=.ref p/\(SqL K H p xs\/SqT K H p xs)/\me x=true/\xs.all me=true/\Q (.bl (if neg then !inV x xs else inV x xs)) H
theorem vj:OpR X (compareOp .In) (rIn X.K false):=by
 intro pins s σ H x y v u Q I rx ry h;obtain⟨p,xs,rfl,hq,fx,fs,q⟩:=h;cases ry
 rcases hq with hq|hq
 .obtain⟨its,r,pl,hz⟩:=I.list hq;refine SeqAt.in_listAt (eqU x) pl.isList (fun w hw=>iR rx fx r fs w (by simpa using hw)) ⟨.bl _,H,I,rfl,?_⟩;rw [show its.toArray.any (eqU x)=its.any (eqU x) by simp,kJ r fs];exact q
 .obtain⟨its,r,pl,hz⟩:=I.tuple hq;refine SeqAt.in_tupleAt (eqU x) pl (fun w hw=>iR rx fx r fs w (by simpa using hw)) ⟨.bl _,H,I,rfl,?_⟩;rw [show its.toArray.any (eqU x)=its.any (eqU x) by simp,kJ r fs];exact q
theorem pI:OpR X (compareOp .NotIn) (rIn X.K true):=by
 intro pins s σ H x y v u Q I rx ry h;obtain⟨p,xs,rfl,hq,fx,fs,q⟩:=h;cases ry
 rcases hq with hq|hq
 .obtain⟨its,r,pl,hz⟩:=I.list hq;refine SeqAt.notIn_listAt (eqU x) pl.isList (fun w hw=>iR rx fx r fs w (by simpa using hw)) ⟨.bl _,H,I,rfl,?_⟩;rw [show its.toArray.any (eqU x)=its.any (eqU x) by simp,kJ r fs];exact q
 .obtain⟨its,r,pl,hz⟩:=I.tuple hq;refine SeqAt.notIn_tupleAt (eqU x) pl (fun w hw=>iR rx fx r fs w (by simpa using hw)) ⟨.bl _,H,I,rfl,?_⟩;rw [show its.toArray.any (eqU x)=its.any (eqU x) by simp,kJ r fs];exact q
theorem jM:cp X (.builtin "len") (fun xs H Q=>∃p ys,xs=[.ref p]/\(SqL X.K H p ys\/SqT X.K H p ys)/\Q (.int ys.length) H):=by
 intro pins s σ H xs us Q I r h;obtain⟨p,ys,rfl,hq,q⟩:=h;obtain⟨u,rfl,rx⟩:=gw r;cases rx;have hn:=kE
 rcases hq with hq|hq
 .obtain⟨its,r',pl,hz⟩:=I.list hq;have hlen:=r'.length;exact Calls.call_len_list pl.isList (by simp only [size_toArray] <;> omega) ⟨.int ys.length,H,I.tok _,⟨s.toks+1,by rw [size_toArray,hlen]⟩,q⟩
 .obtain⟨its,r',pl,hz⟩:=I.tuple hq;have hlen:=r'.length;exact len_tuple pl (by simp only [size_toArray] <;> omega) ⟨.int ys.length,H,I.tok _,⟨s.toks+1,by rw [size_toArray,hlen]⟩,q⟩
theorem pJ:cp X (.builtin "len") (fun xs H Q=>∃z,xs=[.str z]/\z.length<=sizeLine/\Q (.int z.length) H):=by
 intro pins s σ H xs us Q I r h;obtain⟨z,rfl,hz,q⟩:=h;obtain⟨u,rfl,t,rfl⟩:=gw r;have hn:=kE;exact len_str (by omega) ⟨.int z.length,H,I.tok _,⟨_,rfl⟩,q⟩
theorem cp.or{f:Value}{r r':List V->Hp->VK->Prop}(h:cp X f r)(h':cp X f r'):cp X f (fun xs H Q=>r xs H Q\/r' xs H Q):=by
 intro pins s σ H xs us Q I rs q
 rcases q with q|q
 .exact h pins s σ H xs us Q I rs q
 .exact h' pins s σ H xs us Q I rs q
theorem pK:cp X (.type "list") (fun xs H Q=>∃p ys,xs=[.ref p]/\(SqL X.K H p ys\/SqT X.K H p ys)/\∀l,H l=none->Q (.ref l) (upd H l (.lst ys))):=by
 intro pins s σ H xs us Q I r h;obtain⟨p,ys,rfl,hq,q⟩:=h;obtain⟨u,rfl,rx⟩:=gw r;cases rx
 have fin:∀(its:List Value),cm ys its->ys.length<=sizeLine->∀(h':Heap) (c':Nat),(∀b o',s.heap.get? b=some o'->h'.get? b=some o') ->
   h'.get? s.heap.objs.size=some { cls:=.type "list",dict:=none,data:=.seq its.toArray c',slots:=#[] }->EP X pins σ Q (.ref s.heap.objs.size) { s with heap:=h' }:=fun its r' hz h' c' kp e =>
  ⟨.ref s.heap.objs.size,_,I.laid (t':=s.toks) kp (le_refl _) (show dq X.prog X.w _ h' _ (.lst ys) from ⟨hz,its,c',r',e⟩),rfl,q _ (I.hok.fresh (le_refl _))⟩
 rcases hq with hq|hq
 .obtain⟨its,r',pl,hz⟩:=I.list hq;have hlen:=r'.length;obtain⟨o,ho,hc,n,hd⟩:=pl.isList;exact call_list_seq p (.inl rfl) ho hc hd (fun h' c' kp e=>fin its r' hz h' c' kp e) (by simp only [size_toArray] <;> omega)
 .obtain⟨its,r',pl,hz⟩:=I.tuple hq;have hlen:=r'.length;obtain⟨o,ho,hc,n,hd⟩:=pl;exact call_list_seq p (.inr rfl) ho hc hd (fun h' c' kp e=>fin its r' hz h' c' kp e) (by simp only [size_toArray] <;> omega)
theorem nS:cp X (.type "tuple") (fun xs H Q=>∃p ys,xs=[.ref p]/\((SqL X.K H p ys/\∀l,H l=none->Q (.ref l) (upd H l (.tup ys)))\/(SqT X.K H p ys/\Q (.ref p) H))):=by
 intro pins s σ H xs us Q I r h;obtain⟨p,ys,rfl,h⟩:=h;obtain⟨u,rfl,rx⟩:=gw r;cases rx
 rcases h with ⟨hq,q⟩|⟨hq,q⟩
 .obtain⟨its,r',pl,hz⟩:=I.list hq;have hlen:=r'.length;refine call_tuple_list pl.isList (fun h' kp=>?_) (by simp only [size_toArray] <;> omega);have I1:Inv X pins σ H { s with heap:=h' }:=I.kept (t':=s.toks) kp
  have I2:Inv X pins σ (upd H h'.objs.size (.tup ys)) { s with heap:=h'.push { cls:=.type "tuple",data:=.seq its.toArray } } :=
   I1.laid (t':=s.toks) (fun b o e=>Heap.get?_push_of_some _ e) (le_refl _) (show dq X.prog X.w _ _ _ (.tup ys) from ⟨hz,its,r',IsTup.new _ _⟩)
  exact⟨.ref h'.objs.size,_,I2,rfl,q _ (I1.hok.fresh (le_refl _))⟩
 .obtain⟨its,r',pl,hz⟩:=I.tuple hq;exact call_tuple_same pl ⟨.ref p,H,I,rfl,q⟩
def tyV(K:PySem.W.Frag)(T:String)(x:V)(H:Hp):Prop:=match x with
 | .str _=>T="str"
 | .int _=>T="int"
 | .ref p=>(T="list"/\∃xs,SqL K H p xs)\/(T="tuple"/\∃o,K.lookup p=some o/\o.cls=.type "tuple"/\o.dict=none) \/
   (T="dict"/\((∃kvs,H p=some (.dK kvs))\/∃kvs,H p=some (.dT kvs)))\/(T="set"/\∃S n,H p=some (.set S n))
 | _=>False
theorem y6{pins:List (Addr×Obj)}{σ:St}{H:Hp}{s:Shared}{T:String}{x:V}{v:Value}(I:Inv X pins σ H s)(r:dS x v)(ty:tyV X.K T x H) :
  s.TypeIs v T/\∀a,v=.ref a->∃ob,s.heap.get? a=some ob/\ob.dict=none:=by
 cases x with
 | str z =>
  obtain⟨t,rfl⟩:=r;cases (show T="str" from ty);exact⟨typeIs_str s z t,fun _ e=>nomatch e⟩
 | int i =>
  obtain⟨t,rfl⟩:=r;cases (show T="int" from ty);exact⟨typeIs_int s i t,fun _ e=>nomatch e⟩
 | ref p =>
  cases r
  rcases ty with ⟨rfl,xs,hq⟩|⟨rfl,o,hk,hc,hd⟩|⟨rfl,hk⟩|⟨rfl,S,n,hk⟩
  .obtain⟨its,_,pl,_⟩:=I.list hq;refine⟨pl.isList.typeIs,fun a e=>?_⟩;cases e;obtain⟨o,n,e,c,hd,_⟩:=pl;exact⟨o,e,hd⟩
  .refine⟨⟨o,I.kIn p o hk,hc⟩,fun a e=>?_⟩;cases e;exact⟨o,I.kIn _ o hk,hd⟩
  .have z:∃o,s.heap.get? p=some o/\o.ExactDict:=by
    rcases hk with ⟨kvs,hk⟩|⟨kvs,hk⟩
    .obtain⟨_,_,_,_,o,_,_,e,ex,_⟩:=I.hok p _ hk;exact⟨o,e,ex⟩
    .obtain⟨_,_,_,_,o,_,_,e,ex,_⟩:=I.hok p _ hk;exact⟨o,e,ex⟩
   obtain⟨o,e,ex⟩:=z;refine⟨⟨o,e,ex.1⟩,fun a e2=>?_⟩;cases e2;exact⟨o,e,ex.2.1⟩
  .obtain⟨o,_,_,_,e,ex,_⟩:=I.hok p _ hk;refine⟨⟨o,e,ex.1⟩,fun a e2=>?_⟩;cases e2;exact⟨o,e,ex.2.1⟩
 | _=>exact False.elim ty
def DX(K:PySem.W.Frag)(T:String)(r:V->List V->Hp->VK->Prop)(to:TE):TE:=fun σ H Q=>to σ H fun x H1=>tyV K T x H1/\r x [] H1 Q
def tBM(K:PySem.W.Frag)(T:String)(r:V->List V->Hp->VK->Prop)(to:TE)(t:TA):TE:=fun σ H Q=>to σ H fun x H1=>tyV K T x H1/\t σ H1 fun xs H2=>r x xs H2 Q
variable {o e:Expr}{es:List Expr}{to:TE}{t:TA}{name:Str}{apos cpos:Pos}{T id:String}{r:V->List V->Hp->VK->Prop}
theorem Cn(pa:PlainAttrs T)(slot:Slot T name id)(hty:typeOf (.builtin id)=pure (.type "method_descriptor"))(hm:MtR X id r)(ho:PE X o to)
  (hbase:attributeBase o name X.env (eval o X.env)=eval o X.env:=by rfl) (hline:(apos.endLine == cpos.line)=true:=by rfl):PE X (.Call (.Attribute o name apos) [] [] cpos) (DX X.K T r to):=by
 intro pins s σ H Q I h;refine wpAny_Call_method0_late hbase hline (thn (ho pins s σ H _ I h) fun v s1 ⟨x,H1,I1,r1,ty,q1⟩=>?_);obtain⟨h1,h2⟩:=y6 I1 r1 ty;exact⟨T,id,pa,slot,hty,h1,h2,Calls.callWith_builtin rfl (PySem.evalArgs_none (hm pins s1 σ H1 x [] v [] Q I1 r1 .nil q1))⟩
theorem Ef(pa:PlainAttrs T)(slot:Slot T name id)(hty:typeOf (.builtin id)=pure (.type "method_descriptor"))(hm:MtR X id r)(ho:PE X o to)(ha:PA X (e::es) t)
  (hbase:attributeBase o name X.env (eval o X.env)=eval o X.env:=by rfl)
  (hfew:((backTo cpos (starEach (e::es) X.env)).all (fun x=>!x.1) && (backToKw cpos (keywordEach [] X.env)).all (fun x=>x.1.isSome)
   && decide ((e::es).length+([]:List Keyword).length+(if ([]:List Keyword).isEmpty then 0 else 1)<30))=true:=by rfl)
  (hline:(apos.endLine == cpos.line)=true:=by rfl) (hs:starEach (e::es) X.env=(false,eval e X.env)::starEach es X.env:=by rfl) (hplain:(backTo cpos (starEach es X.env)).any (·.1)=false:=by rfl) :
  PE X (.Call (.Attribute o name apos) (e::es) [] cpos) (tBM X.K T r to t):=by
 intro pins s σ H Q I h;refine wpAny_Call_method_late hbase hfew hline rfl (thn (ho pins s σ H _ I h) fun v s1 ⟨x,H1,I1,r1,ty,q1⟩=>?_);obtain⟨h1,h2⟩:=y6 I1 r1 ty;refine⟨T,id,pa,slot,hty,h1,h2,?_⟩;have hA:=ha cpos pins s1 σ H1 _ I1 q1;rw [hs] at hA ⊢;refine Calls.callWith_builtin (by show (false || (backTo cpos (starEach es X.env)).any (·.1))=false;rw [hplain] <;> rfl) (Calls.evalArgs_plain ?_);exact thn hA fun us s2 ⟨vs,H2,I2,r2,q2⟩=>hm pins s2 σ H2 x vs v us Q I2 r1 r2 q2
end
def MtM(X:Cx)(id:String)(r:V->List V->Hp->VK->Prop):Prop :=
 ∀(pins:List (Addr×Obj)) (s:Shared) (σ:St) (H:Hp) (x:V) (xs:List V) (v:Value) (us:List Value) (Q:VK),Inv X pins σ H s->dS x v->cm xs us->r x xs H Q ->
  wpAny (model X.prog X.w) X.A (call (.builtin id) (v::us)) (EP X pins σ Q) X.xe s
theorem cm.one:∀{x:V}{us:List Value},cm [x] us->∃u,us=[u]/\dS x u
 | _,_,.cons r .nil=>⟨_,rfl,r⟩
theorem cm.zero:∀{us:List Value},cm [] us->us=[]
 | _,.nil=>rfl
theorem cm.eraseIdx:∀{xs:List V}{us:List Value} (i:Nat),cm xs us->cm (xs.eraseIdx i) (us.eraseIdx i)
 | _,_,_,.nil=>.nil
 | _,_,0,.cons _ t=>t
 | _,_,i+1,.cons r t=>.cons r (cm.eraseIdx i t)
theorem cm.rep{xs:List V}{us:List Value}(h:cm xs us):∀k:Nat,cm (List.replicate k xs).flatten (List.replicate k us).flatten
 | 0=>.nil
 | k+1=>by
  rw [replicate_succ,replicate_succ,flatten_cons,flatten_cons];exact cm.append h (cm.rep h k)
theorem pL{α:Type}:∀(l:List α) (i:Nat),(l.eraseIdx i).length<=l.length
 | [],_=>le_refl _
 | _::_,0=>le_succ _
 | _::r,i+1=>succ_le_succ (pL r i)
theorem pM(its:List Value):∀(k:Nat) (acc:List Value),
  List.foldl (fun x1 x2=>x1++x2) acc.toArray (List.replicate k its.toArray)=(acc++(List.replicate k its).flatten).toArray
 | 0,acc=>by simp
 | k+1,acc=>by
  have e:acc.toArray++its.toArray=(acc++its).toArray:=by simp
  have e2:(acc++its)++(List.replicate k its).flatten=acc++(List.replicate (k+1) its).flatten:=by
   rw [replicate_succ,flatten_cons,append_assoc]
  rw [<- e2,<- pM its k (acc++its),<- e,replicate_succ,foldl_cons]
section
variable {X:Cx}{pins:List (Addr×Obj)}{σ:St}{H:Hp}{s:Shared}{l b:Addr}{xs ys zs:List V}
theorem Inv.lset{its its':List Value}{n:Nat}{f:Array Value->Array Value}{t':Nat}(I:Inv X pins σ H s)(hH:H l=some (.lst xs))
  (e:s.heap.get? l=some { cls:=.type "list",data:=.seq its.toArray n }) (hf:f its.toArray=its'.toArray) (hv:cm ys its') (hz:ys.length<=sizeLine) :
  Inv X pins σ (upd H l (.lst ys)) { s with heap:=s.heap.update l (Obj.mapSeq f),toks:=t' }:=by
 have q:=PySem.IsL.update e f;rw [hf] at q;refine I.write (x:=l) (e:=l) (by rw [hH];exact trivial) (.inl rfl) (fun b' u hb hu=>(Heap.get?_update_other s.heap (Obj.mapSeq f) (Ne.symm hb)).trans hu) ⟨_,q⟩ ?_;exact⟨hz,its',_,hv,q⟩
theorem Inv.lnew{its:List Value}{t':Nat}(I:Inv X pins σ H s)(hv:cm ys its)(hz:ys.length<=sizeLine) :
  Inv X pins σ (upd H s.heap.objs.size (.lst ys)) { s with heap:=s.heap.push { cls:=.type "list",data:=.seq its.toArray },toks:=t' } :=
 I.laid (fun _ _ q=>Heap.get?_push_of_some _ q) (le_refl _) ⟨hz,its,0,hv,Heap.get?_push_size _ rfl⟩
theorem Inv.fresh(I:Inv X pins σ H s):H s.heap.objs.size=none:=I.hok.fresh (le_refl _)
theorem Inv.lstM(I:Inv X pins σ H s)(hH:H l=some (.lst xs)):xs.length<=sizeLine/\∃(its:List Value) (n:Nat),cm xs its/\xs.length=its.length/\s.heap.get? l=some { cls:=.type "list",data:=.seq its.toArray n }:=by
 obtain⟨z,its,n,r,e⟩:=I.hok l _ hH;exact⟨z,its,n,r,r.length,e⟩
theorem xT{n:Nat}(h:n<=sizeLine):Builtin.List.listTooLong n=false:=by
 unfold Builtin.List.listTooLong;exact decide_eq_false (by omega)
end
section
variable {X:Cx}
def vk:V->List V->Hp->VK->Prop:=fun x vs H Q=>∃l xs y,x=.ref l/\vs=[y]/\H l=some (.lst xs)/\xs.length<sizeLine/\Q .non (upd H l (.lst (xs++[y])))
theorem gy:MtM X "list.append" vk:=by
 intro pins s σ H x vs v us Q I rx rv h;obtain⟨l,xs,y,rfl,rfl,hH,hz,q⟩:=h;cases rx;obtain⟨u,rfl,ru⟩:=rv.one;obtain⟨z,its,n,r,hl,e⟩:=I.lstM hH;refine call_meets F.slot_list_append ⟨_,e,rfl⟩ F.entry_list_append (F.args_list_append_2 _ _) (PySem.list_append l its.toArray n u (by rw [size_toArray];omega)) ⟨e,?_⟩;refine⟨.non,_,I.lset (its':=its++[u]) hH e (by simp) (r.append (.cons ru .nil)) ?_,rfl,q⟩;rw [length_append,length_singleton]
 omega
def y8:V->List V->Hp->VK->Prop:=fun x vs H Q=>∃l xs i k y,x=.ref l/\vs=[.int i]/\H l=some (.lst xs)/\-(2^63)<=i/\i<2^63/\seqIndex? i xs.length=some k/\xs[k]?=some y/\Q y (upd H l (.lst (xs.eraseIdx k)))
theorem xU:MtM X "list.pop" y8:=by
 intro pins s σ H x vs v us Q I rx rv h;obtain⟨l,xs,i,k,y,rfl,rfl,hH,h1,h2,hk,hy,q⟩:=h;cases rx;obtain⟨u,rfl,ru⟩:=rv.one;obtain⟨t,rfl⟩:=ru;obtain⟨z,its,n,r,hl,e⟩:=I.lstM hH;obtain⟨w,hw,rw'⟩:=r.get hy
 refine call_meets F.slot_list_pop ⟨_,e,rfl⟩ F.entry_list_pop (F.args_list_pop_2 _ _)
  (MeetsSeq.list_pop_at l its.toArray n i t k w (fitsIndex_both h1 h2) (by rw [size_toArray,<- hl];exact hk) (by rw [<- Array.getElem?_toList];exact hw) (by rw [size_toArray];omega)) ⟨e,?_⟩
 refine⟨y,_,I.lset (its':=its.eraseIdx k) hH e ?_ (r.eraseIdx k) ?_,rw',q⟩
 .show its.toArray.eraseIdxIfInBounds k=(its.eraseIdx k).toArray;rw [eraseIdxIfInBounds_toArray]
 .have:=pL xs k;omega
def Fl:R2:=fun x y H Q=>∃l k xs,x=.ref l/\y=.int k/\H l=some (.lst xs)/\-(2^63)<=k/\k<2^63/\xs.length*k.toNat<=sizeLine /\
 ∀p,H p=none->Q (.ref p) (upd H p (.lst (List.replicate k.toNat xs).flatten))
theorem An{α:Type}(xs:List α)(k:Nat):(List.replicate k xs).flatten.length=k*xs.length:=by
 induction k with
 | zero=>simp
 | succ k ih=>rw [replicate_succ,flatten_cons,length_append,ih,succ_mul,add_comm]
theorem Co:OpR X (binaryOp .Mult) Fl:=by
 intro pins s σ H x y v u Q I rx ry h;obtain⟨l,k,xs,rfl,rfl,hH,h1,h2,hz,q⟩:=h;cases rx;obtain⟨t,rfl⟩:=ry;obtain⟨z,its,n,r,hl,e⟩:=I.lstM hH;have hlen:its.toArray.size*k.toNat<=sizeLine:=by rw [size_toArray,<- hl];exact hz
 have hcap:¬ its.toArray.size*k.toNat > (2^63 - 1) / 8:=by
  have:(sizeLine:Nat)<=(2^63 - 1) / 8:=by decide
  omega
 have hfit:¬ (!Builtin.List.listFitsIndex k)=true:=by
  rw [fitsIndex_both h1 h2];exact Bool.false_ne_true
 have hlong:¬ Builtin.List.listTooLong (its.toArray.size*k.toNat)=true:=by
  rw [xT hlen];exact Bool.false_ne_true
 have hnew:List.foldl (fun x1 x2=>x1++x2) #[] (List.replicate (if its.toArray.isEmpty=true then 0 else k.toNat) its.toArray)=(List.replicate k.toNat its).flatten.toArray:=by
  have f0:∀m:Nat,List.foldl (fun x1 x2=>x1++x2) #[] (List.replicate m its.toArray)=(List.replicate m its).flatten.toArray:=fun m=>by
   have:=pM its m [];rw [nil_append] at this;exact this
  rw [f0]
  cases its with
  | nil=>simp
  | cons a r'=>rw [if_neg (by simp)]
 refine wpAny_binaryOp_repeat_ref (T:="list") (U:="int") (by decide) ⟨_,e,rfl⟩ (fun s'=>typeIs_int s' k t) noFill_list_mul F.fills_int_mul F.slot_int_rmul repeat_list F.slot_int_index.lookup
  (call_meets F.slot_int_rmul (typeIs_int s k t) F.entry_int_rmul (F.args_int_rmul_2 _ _) (int___rmul___int_list k t l its.toArray n)
   ⟨e,rfl,⟨_,e,rfl⟩,call_meets F.slot_list_mul ⟨_,e,rfl⟩ F.entry_list_mul (F.args_list_mul_2 _ _) (AutoListH.list___mul___list_int_3 l its.toArray n k t hfit hcap hlong) ⟨e,?_⟩⟩)
 rw [hnew];exact⟨.ref _,_,I.lnew (t':=s.toks) (r.rep k.toNat) (by rw [An,mul_comm];exact hz),rfl,q _ I.fresh⟩
end
end L2
namespace Att
open PySem PySem.W PySem.Calls PyProof.Rows
theorem kK{P:Params}{h:Heap}:∀(ns:List Int) (vs:List Value),WellAll P h vs (ns.map WData.int)->IntsAre vs ns:=by
 intro ns
 induction ns with
 | nil =>
  intro vs w;rw [map_nil] at w;cases w;exact .nil
 | cons n ns ih =>
  intro vs w;rw [map_cons] at w
  cases w with
  | cons a b =>
   cases a;exact .cons _ _ (ih _ b)
theorem vm{l:OpenLaw}{n:Nat}(hn:l.most=some n){P:Params}{h:Heap}{args:List WData}{vals:List Value}
  (hpre:l.row.toRowW.claim.pre args=true) (hwl:WellAll P h vals args) :
  ∃a vs ns,vals=[Value.ref a]/\args=[WData.list (ns.map WData.int)]/\h.get? a=some { cls:=.type "list",data:=.seq vs.toArray }/\IntsAre vs ns/\ns.length<=n:=by
 have hsh:WShape.hasAll [] args [.list .int]=true:=(pre_splitW hpre).1;have hc:l.pre.holds [] { args:=args }=true:=(pre_splitW hpre).2;obtain⟨d,r,rfl,h1,h2⟩:=hasAllW_cons hsh;obtain rfl:=hasAllW_nil h2;obtain⟨xs,rfl,h3⟩:=hasW_list h1;obtain⟨ns,rfl⟩:=items_int h3
 have hlen:ns.length<=n:=by
  unfold OpenLaw.pre at hc
  have h4:(WTm.not (.lt (.lit (.int (n:Int))) (.len (.arg 0)))).holds [] { args:=[.list (ns.map .int)] }=true:=by
   have h4:=(holds_andW hc).1;rw [hn] at h4;exact h4
  have h5:=condW_of h4 (w_not (w_lt w_lit (w_len_list (w_arg rfl))));rw [length_map] at h5;refine le_of_not_lt fun q=>?_;have q':(n:Int)<((ns.length:Nat):Int):=by omega
  first
   | (rw [decide_eq_true q'] at h5;exact absurd h5 (by decide))
   | (simp at h5;omega)
 cases hwl with
 | cons w1 w2 =>
  cases w2
  cases w1 with
  | list ho hall=>exact⟨_,_,ns,rfl,rfl,ho,kK ns _ hall,hlen⟩
theorem vn(l:OpenLaw)(args:List WData):l.row.toRowW.claim.post args (.bool true) args=true :=
 postW_of (r:=l.row.toRowW) (X:=(true == true))
  (show WShape.has [] (.bool true) .bool=true by first|rfl|decide|simp [WShape.has,WShape.arms,WShape.armsAll])
  (show (WTm.eq .res (.lit (.bool true))).value [] { args:=args,res:=some (.bool true),after:=args }=some (.bool (true == true)) from w_eq_bool (w_res rfl) w_lit) rfl
theorem attach_call{l:OpenLaw}{n:Nat}{q:Program}{loose:List Str}{XP:(Str->Option Value)->Heap->Prop}{YP:World->Heap->Prop}{d:DefRec}
  (hn:l.most=some n) (hdf:d.params.defaults=[])
  (call:∀(w:World) (s₀ s₁:Shared) (mg mb:Str->Option Value) (fa:Addr) (o:Obj) (pm cd doc:Value) (a:Addr) (vs:List Value) (ns:List Int),
   Ground q loose [] XP w s₀ mg mb s₁.heap->YP w s₁.heap ->
   s₁.heap.get? fa=some o->o.data=.func (docDef d.name d.params d.body d.scope pm cd doc)->s₁.heap.CodeRec cd d.name->mg d.name=some (.ref fa) ->
   s₁.heap.get? a=some { cls:=.type "list",data:=.seq vs.toArray }->IntsAre vs ns->ns.length<=n->s₁.gens=#[] ->
   codeAny (model l.prog w) callerA (.call (.ref fa) ⟨[.ref a],[]⟩) (fun r s'=>r=.ok (.ret (.bool true))/\OldK s₁.heap s'.heap/\s'.os=s₁.os/\AllBare s'.gens) s₁) :
  WalkO q loose XP YP l.row.toRowW d [] (fun f vs=>PySem.call f vs):=by
 intro w s₀ s₁ mg mb G Y fa o pm cd doc dV kV ho hd hcd hD hmg hg args vals as hpre hlay hrd hwl hlo;obtain rfl:dV=.none:=Dflts.none hD hdf;obtain rfl:kV=.none:=Dflts.noKw hD;obtain⟨a,vs,ns,rfl,rfl,hobj,hints,hlen⟩:=vm hn hpre hwl;refine enter_call (codeAny_mono (call w s₀ s₁ mg mb fa o pm cd doc a vs ns G Y ho (fd_plain hd) hcd hmg hobj hints hlen hg) fun r s' hq=>?_);obtain⟨rfl,h2,h3,h4⟩:=hq;exact⟨.inl ⟨.bool true,.bool true,[],rfl,fun _=>rfl,.bool true,vn l _,fun _=>⟨List.Pairwise.nil,fun _ hm=>(nomatch hm)⟩⟩,h2,h3,h4⟩
end Att
namespace L2
open PySem PySem.Spec PyProof.Rows
theorem iT:∀{vs:List Value}{ns:List Int},IntsAre vs ns->cm (ns.map V.int) vs
 | _,_,.nil=>.nil
 | _,_,.cons n t h=>.cons ⟨t,rfl⟩ (iT h)
def Eg(H:Hp):Prop:=∀b,H b=none\/∃o xs,H b=some (.frz o (.lst xs))
theorem xV{P:Program}{w:World}{K:PySem.W.Frag}{mg mb:Str->Option Value}{CX:CXT}{k:Nat}{fa a:Addr}{fd:FuncData}{x:Str}{sp:Sp}{s₁:Shared}{vs:List Value}{ns:List Int}
  (KX:K.In s₁.heap) (hns:s₁.heap.Ns mainGlobals mg) (hb:s₁.heap.Ns builtinsNs mb) (hbb:∀x:Str,x≠"__name__"->mb x=bootBuiltins x) (hlim:s₁.heap.NoLimit) (hg:s₁.gens=#[])
  (ha:s₁.heap.get? a=some { cls:=.type "list",data:=.seq vs.toArray }) (hi:IntsAre vs ns) (hl:ns.length<=sizeLine) (hr:gx k callerA)
  (F:∀base:Heap,K.In base->base.Ns mainGlobals mg->nP P w K mg base CX k fa fd [x] sp) (hbind:∀(s:Shared) (u:Value),BindsTo s fd ⟨[u],[]⟩ [(x,u)])
  (hsp:∀H:Hp,Eg H->SqL K H a (ns.map V.int)->sp [.ref a] H (fun v _=>v=.bl true) fun _ _ _=>False)
  (hCX:∀H e s',CX [] H s₁ (fun _ _ _=>False) e s'->False) :
  codeAny (model P w) callerA (.call (.ref fa) ⟨[.ref a],[]⟩) (fun r s'=>r=.ok (.ret (.bool true))/\OldK s₁.heap s'.heap/\s'.os=s₁.os/\AllBare s'.gens) s₁:=by
 have rv:=iT hi;have lenV:=hi.length
 -- from an abstract heap in which nothing but the script may be tracked
 have core:∀H:Hp,Eg H->SqL K H a (ns.map V.int)->HOk P w H s₁.heap->(∀b,H b≠none->b=a)->(H a≠none->K.lookup a=none) ->
   codeAny (model P w) callerA (.call (.ref fa) ⟨[.ref a],[]⟩) (fun r s'=>r=.ok (.ret (.bool true))/\OldK s₁.heap s'.heap/\s'.os=s₁.os/\AllBare s'.gens) s₁:=by
  intro H hO hS hok hA hK;have base_of:∀{b:Addr}{o:Obj},s₁.heap.get? b=some o->H b=none->(xD s₁.heap H).get? b=some o:=fun e n=>xE e n
  have noA:∀{b:Addr}{o:Obj}{es:Array DictEntry}{ep:Nat},s₁.heap.get? b=some o->o.data=.dict es ep->H b=none:=fun {b o es ep} e d=>by
   cases q:H b with
   | none=>rfl
   | some u =>
    have e':b=a:=hA b (by rw [q];simp);subst e';rw [ha] at e;cases e;have d':Data.seq vs.toArray _=Data.dict es ep:=d;cases d'
  have nsK:∀{b:Addr}{m:Str->Option Value},s₁.heap.Ns b m->(xD s₁.heap H).Ns b m:=fun {b m} ⟨o,es,ep,e,d,r⟩=>⟨o,es,ep,base_of e (noA e d),d,r⟩
  have hKb:K.In (xD s₁.heap H):=fun b o e=>base_of (KX b o e) (by
   cases q:H b with
   | none=>rfl
   | some u =>
    have e':b=a:=hA b (by rw [q];simp);subst e';rw [hK (by rw [q];simp)] at e;cases e)
  have hM:Mod K mg (xD s₁.heap H):=⟨hKb,nsK hns,⟨mb,nsK hb,hbb⟩,let ⟨mc,h1,h2⟩:=hlim;⟨mc,nsK h1,h2⟩⟩
  have e0:Ad P w K mg (xD s₁.heap H) callerA [] s₁ H:=⟨rfl,hM,fun b o e=>zS e,le_of_eq (uV _ _),trivial,fun b hb=>absurd (show b∈([]:List Addr) from hb) (by simp),hok,.of_eq hg⟩
  refine codeAny_mono ((F _ hKb (nsK hns)).run callerA [] s₁ H ⟨[.ref a],[]⟩ [.ref a] [.ref a] _ _ hr e0 (hbind s₁ (.ref a)) (.cons rfl .nil) (hsp H hO hS)) fun r s' h=>?_
  cases r with
  | error e=>exact (hCX H e s' h).elim
  | ok fl =>
   cases fl with
   | next=>exact False.elim h
   | brk=>exact False.elim h
   | cont=>exact False.elim h
   | ret u =>
    obtain⟨v,H',os,bare,un,hok',r',q⟩:=h;have q':v=.bl true:=q;subst q';obtain rfl:u=Value.bool true:=r';refine⟨rfl,OldK.of_keep fun b o e=>?_,os,bare⟩
    cases q:H b with
    | none=>exact un.keep b o e q (by intro z;exact absurd (show b∈([]:List Addr) from z) (by simp)) (by simp)
    | some u =>
     rcases hO b with z|⟨ob,xs,z⟩
     .rw [q] at z;cases z
     .have z2:=un.frzs b ob _ z;obtain⟨e1,_⟩:=hok b _ z;obtain⟨e2,_⟩:=hok' b _ z2;rw [e] at e1;cases e1;exact e2
 cases hk:K.lookup a with
 | some o =>
  -- the script is one of the module's own objects
  have e:=KX a o hk;rw [ha] at e;cases e;refine core (fun _=>none) (fun _=>.inl rfl) (.inr ⟨_,vs.toArray,_,hk,rfl,rfl,rfl,by rw [size_toArray,lenV];exact hl,by simpa using rv⟩) (fun b u z=>by have z':(none:Option HO)=some u:=z;cases z') (fun b z=>absurd rfl z) fun z=>absurd rfl z
 | none =>
  refine core (fun b=>if b=a then some (.frz { cls:=.type "list",data:=.seq vs.toArray } (.lst (ns.map V.int))) else none) (fun b=>?_) (.inl (.inr ⟨{ cls:=.type "list",data:=.seq vs.toArray },if_pos rfl⟩)) (fun b u z=>?_) (fun b z=>?_) fun _=>hk
  .by_cases hb:b=a
   .exact .inr ⟨_,_,if_pos hb⟩
   .exact .inl (if_neg hb)
  .by_cases hb:b=a
   .have z':=(if_pos hb).symm.trans z;cases z';subst hb;exact⟨ha,by rw [length_map];exact hl,vs,_,rv,ha⟩
   .have z':=(if_neg hb).symm.trans z;cases z'
  .by_cases hb:b=a
   .exact hb
   .exact absurd (if_neg hb) z
theorem Ao{l:PySem.W.OpenLaw}{n k:Nat}{q:Program}{loose:List Str}{XP:(Str->Option Value)->Heap->Prop}{YP:World->Heap->Prop}{d:DefRec}{K:Params->PySem.W.Frag}{CX:World->CXT}{sp:World->Sp}{x:Str}
  (hn:l.most=some n) (hn2:n<=sizeLine) (hdf:d.params.defaults=[]) (hr:gx k callerA)
  (hY:∀(w:World) (h:Heap),YP w h->(K w.params).In h)
  (F:∀(w:World) (mg:Str->Option Value) (fa:Addr) (h:Heap),(K w.params).In h->h.Ns mainGlobals mg->mg d.name=some (.ref fa) ->
   ∃fd:FuncData,(∀(s:Shared) (u:Value),BindsTo s fd ⟨[u],[]⟩ [(x,u)]) /\
    ∀base:Heap,(K w.params).In base->base.Ns mainGlobals mg->nP l.prog w (K w.params) mg base (CX w) k fa fd [x] (sp w))
  (hsp:∀(w:World) (H:Hp) (a:Addr) (ns:List Int),ns.length<=n->Eg H->SqL (K w.params) H a (ns.map V.int)->sp w [.ref a] H (fun v _=>v=.bl true) fun _ _ _=>False)
  (hCX:∀(w:World) (H:Hp) (s:Shared) (e:Value) (s':Shared),CX w [] H s (fun _ _ _=>False) e s'->False) :
  PySem.W.WalkO q loose XP YP l.row.toRowW d [] (fun f vs=>PySem.call f vs):=by
 refine Att.attach_call hn hdf fun w s₀ s₁ mg mb fa o pm cd doc a vs ns G Y ho hd hcd hmg hobj hints hlen hg=>?_;have KX:=hY w _ Y;obtain⟨fd,hb,hF⟩:=F w mg fa _ KX G.T.g hmg;exact xV KX G.T.g G.T.b G.T.builtins G.T.nolimit hg hobj hints (Nat.le_trans hlen hn2) hr hF hb (fun H hO hS=>hsp w H a ns hlen hO hS) fun H e s'=>hCX w H s₁ e s'
def vo(s:Stmt)(j:Nat):Stmt:=match s with
 | .ClassDef _ _ _ body _ _ _ _ _ _ _=>body.getD j (.Pass ⟨0,0,0,0⟩)
 | _=>.Pass ⟨0,0,0,0⟩
def cZ(s:Stmt):Arguments:=match s with
 | .FunctionDef _ a _ _ _ _ _ _ _ _=>a
 | _=>{ posonlyargs:=[],args:=[],vararg:=none,kwonlyargs:=[],kw_defaults:=[],kwarg:=none,defaults:=[] }
def b6(s:Stmt):List Stmt:=match s with
 | .FunctionDef _ _ b _ _ _ _ _ _ _=>b
 | _=>[]
def ao(s:Stmt):Scope:=match s with
 | .FunctionDef _ _ _ _ _ _ sc _ _ _=>sc
 | _=>{ kind:=.function,names:=[],isGenerator:=false,isCoroutine:=false }
abbrev CX0:CXT:=fun _ _ _ _ _ _=>False
abbrev E0:XK:=fun _ _ _=>False
theorem xW{X:Cx}:mQ CX0 X E0:=fun _ _ _ _ _ _ _ h=>h.elim
structure Fun (K:PySem.W.Frag) (x qual:Str) (st:Stmt) (f:Addr) (fd:FuncData):Prop where
 ex:∃(oc:Value) (od:Option Addr) (kV doc pm:Value) (an:Option Addr) (cdv ct:Value) (osl:Array (Option Value)),
  fd=PySem.W.fnOf x qual (cZ st) (b6 st) (ao st) .none kV doc pm an cdv ct/\K.lookup f=some ⟨oc,od,.func fd,osl⟩/\PySem.W.codeIn K cdv qual=true
 kp:PySem.W.keepIn K (.ref f)=true
section
variable {P:Program}{w:World}{K:PySem.W.Frag}{mg:Str->Option Value}{base:Heap}
theorem Fun.ok{x qual:Str}{st:Stmt}{f:Addr}{fd:FuncData}{N ps:List Str}{k:Nat}{sp:Sp}(F:Fun K x qual st f fd)(S:aI N ps (ao st))(len:∀vs H Q E,sp vs H Q E->vs.length=ps.length)
  (hbody:∀(cdv:Value) (A:Around) (outer:List Env) (s:Shared) (H:Hp) (vs:List V) (Q:VK) (E:XK),gx k (A.deeper (envOfC qual (ao st) s.heap.objs.size f cdv))->sp vs H Q E ->
   ∃t,PSs (xy CX0 P w K mg base N qual (ao st) f cdv A outer s H E).nox (b6 st) t/\t { nx:=fun _ H'=>Q .non H',rt:=Q } (start N vs) H):nP P w K mg base CX0 (k+1) f fd ps sp:=by
 obtain⟨oc,od,kV,doc,pm,an,cdv,ct,osl,rfl,lk,hcd⟩:=F.ex;refine Cf lk hcd S len fun A outer s H vs Q E hr hsp=>?_;obtain⟨t,h,q⟩:=hbody cdv A outer s H vs Q E hr hsp;exact⟨t,h.nox,q⟩
theorem Fun.binds{x qual:Str}{st:Stmt}{f:Addr}{fd:FuncData}{ps:List Str}(F:Fun K x qual st f fd)
  (h:∀(kV doc pm:Value) (an:Option Addr) (cdv ct:Value) (us:List Value),us.length=ps.length->bindArgs (PySem.W.fnOf x qual (cZ st) (b6 st) (ao st) .none kV doc pm an cdv ct) ⟨us,[]⟩=pure (ps.zip us)):kf K fd ps []:=by
 obtain⟨oc,od,kV,doc,pm,an,cdv,ct,osl,rfl,lk,hcd⟩:=F.ex;exact .all (h kV doc pm an cdv ct)
theorem vp{x qual:Str}{st:Stmt}{f:Addr}{oc:Value}{od an:Option Addr}{osl:Array (Option Value)}{kV doc pm cdv ct:Value}(l:K.lookup f=some ⟨oc,od,.func (PySem.W.fnOf x qual (cZ st) (b6 st) (ao st) .none kV doc pm an cdv ct),osl⟩)
  (c:PySem.W.codeIn K cdv qual=true) (k:PySem.W.keepIn K (.ref f)=true):Fun K x qual st f (PySem.W.fnOf x qual (cZ st) (b6 st) (ao st) .none kV doc pm an cdv ct):=⟨⟨oc,od,kV,doc,pm,an,cdv,ct,osl,rfl,l,c⟩,k⟩
end
section
variable {X:Cx}
theorem pv(i:Nat){x:Str}{pos:Pos}(hN:X.N[i]?=some x:=by rfl)(hv:Vis X.env.scope x:=by first|exact Or.inl rfl|exact Or.inr (Or.inl rfl)|exact Or.inr (Or.inr rfl))(hd:(x == ("__debug__":Str))=false:=by decide)
  (hcd:(x == ("__classdict__":Str))=false:=by decide):PE X (.Name x pos) (bz i):=BV hN hv hd hcd
end
def S(l:List Nat):Str:=⟨l.toArray⟩
theorem gn(l:List Nat):(S l).length=l.length:=by simp [S,Str.length]
theorem Ap(a b:List Nat):S a++S b=S (a++b):=by
 show (⟨a.toArray++b.toArray⟩:Str)=⟨(a++b).toArray⟩
 rw [append_toArray]
theorem Cp{a b:List Nat}(h:S a=S b):a=b:=by
 have h':=congrArg (fun x:Str=>x.cps.toList) h;simpa [S] using h'
theorem FL{a b:List Nat}(h:a≠b):S a≠S b:=fun e=>h (Cp e)
theorem Cq{a b:List Nat}:V.str (S a)=V.str (S b) ↔ a=b:=⟨fun h=>Cp (V.str.inj h),fun h=>by rw [h]⟩
theorem Cr(a b:List Nat):decide (V.str (S a)=V.str (S b))=decide (a=b):=by
 by_cases h:a=b
 .rw [decide_eq_true h,decide_eq_true (Cq.mpr h)]
 .rw [decide_eq_false h,decide_eq_false (fun z=>h (Cq.mp z))]
def dH{α:Type}(xs:List α)(lo hi:Option Int):List α:=(xs.drop (HT.sIx xs.length 0 lo)).take (HT.sIx xs.length xs.length hi - HT.sIx xs.length 0 lo)
theorem b9{α:Type}(xs:List α)(lo hi:Option Int):(dH xs lo hi).length<=xs.length:=by
 unfold dH;rw [length_take,length_drop];omega
theorem vq(xs:List V)(lo hi:Option Int):Ag xs lo hi=dH xs lo hi:=rfl
theorem Cs(lo hi:Option Int)(n:Nat):Builtin.Str.strSliceIndices lo hi 1 n=(List.range (HT.sIx n n hi - HT.sIx n 0 lo)).map (fun k=>HT.sIx n 0 lo+k):=by
 have key:∀(o:Option Int) (d:Nat),d<=n->(match o with|none=>(d:Int)|some i=>max 0 (min (if i<0 then i+(n:Int) else i) (n:Int)))=((HT.sIx n d o:Nat):Int):=by
  intro o d hd
  cases o with
  | none=>rfl
  | some i =>
   show max 0 (min (if i<0 then i+(n:Int) else i) (n:Int))=_;rw [<- HT.clip_eq i n d]
   by_cases h:i<0
   .rw [if_pos h,if_pos h];omega
   .rw [if_neg h,if_neg h];omega
 have k1:=key lo 0 (zero_le _);have k2:=key hi n (le_refl _);unfold Builtin.Str.strSliceIndices;simp only [show (1:Int) > 0 by decide,if_true];refine Eq.trans (congrArg (fun a=>sliceRange a _ 1) k1) (Eq.trans (congrArg (fun b=>sliceRange _ b 1) k2) ?_);unfold sliceRange;simp only [show (1:Int) > 0 by decide,if_true];generalize HT.sIx n 0 lo=a;generalize HT.sIx n n hi=b
 have ec:(if (a:Int)<(b:Int) then ((b:Int) - (a:Int)+1 - 1) / 1 else 0).toNat=b - a:=by
  split <;> omega
 rw [ec];apply map_congr_left;intro k _;omega
theorem vt{α:Type}(l:List α)(a m:Nat):((List.range m).map (fun k=>a+k)).filterMap (fun i=>l[i]?)=(l.drop a).take m:=by
 induction m generalizing a with
 | zero=>simp
 | succ m ih =>
  rw [range_succ_eq_map,map_cons,map_map,filterMap_cons];have e:((fun k=>a+k) ∘ Nat.succ)=fun k=>(a+1)+k:=by funext k;simp;omega
  rw [e,ih (a+1)]
  cases h:l[a+0]? with
  | none =>
   have hl:l.length<=a:=by simpa using List.getElem?_eq_none_iff.mp h
   rw [drop_eq_nil_of_le hl,drop_eq_nil_of_le (by omega)];simp
  | some v =>
   have hl:a<l.length:=by simpa using (List.getElem?_eq_some_iff.mp h).1
   have hv:l[a]=v:=by simpa using (List.getElem?_eq_some_iff.mp h).2
   rw [drop_eq_getElem_cons hl,hv];rfl
theorem Aq(l:List Nat)(lo hi:Option Int):Txt.slice (S l) lo hi=S (dH l lo hi):=by
 have e1:(Builtin.Str.strSliceIndices lo hi 1 (S l).length).filterMap ((S l).cps[·]?)=dH l lo hi:=by
  rw [Cs,gn];have e:(fun i:Nat=>(S l).cps[i]?)=fun i:Nat=>l[i]?:=by funext i;simp [S]
  rw [e];exact vt l _ _
 unfold Txt.slice
 split
 .rename_i h;have h2:(Builtin.Str.strSliceIndices lo hi 1 (S l).length).length=(S l).length:=by simpa using h
  rw [Cs,gn,length_map,length_range] at h2;have a0:=HT.sIx_le l.length 0 (zero_le _) lo;have b0:=HT.sIx_le l.length l.length (le_refl _) hi;unfold dH
  by_cases hz:l.length=0
  .have:l=[]:=length_eq_zero_iff.mp hz;subst this;simp
  .have ha:HT.sIx l.length 0 lo=0:=by omega
   have hb:HT.sIx l.length l.length hi=l.length:=by omega
   rw [ha,hb];simp
 .rw [e1];rfl
theorem eZ{α:Type}(l:List α)(k:Nat):dH l none (some (k:Int))=l.take k:=by
 unfold dH;rw [HT.sIx_nat];show (l.drop 0).take (min k l.length - 0)=l.take k;rw [drop_zero,Nat.sub_zero]
 by_cases h:k<=l.length
 .rw [min_eq_left h]
 .rw [min_eq_right (by omega),take_of_length_le (le_refl _),take_of_length_le (by omega)]
theorem gA{α:Type}(l:List α)(k:Nat):dH l (some (k:Int)) none=l.drop k:=by
 unfold dH;rw [HT.sIx_nat];show (l.drop (min k l.length)).take (l.length - min k l.length)=l.drop k
 by_cases h:k<=l.length
 .rw [min_eq_left h,take_of_length_le (by rw [length_drop];exact le_refl _)]
 .rw [min_eq_right (by omega),Nat.sub_self,take_zero,drop_eq_nil_of_le (by omega)]
theorem vv{α:Type}(l:List α)(i j:Nat):dH l (some (i:Int)) (some (j:Int))=(l.drop i).take (j - i):=by
 unfold dH;rw [HT.sIx_nat,HT.sIx_nat]
 by_cases h:i<=l.length
 .rw [min_eq_left h]
  by_cases h2:j<=l.length
  .rw [min_eq_left h2]
  .rw [min_eq_right (by omega),take_of_length_le (by rw [length_drop];omega),take_of_length_le (by rw [length_drop];omega)]
 .have e:min i l.length=l.length:=min_eq_right (by omega);rw [e,drop_eq_nil_of_le (le_refl _),drop_eq_nil_of_le (by omega),take_nil,take_nil]
section
variable {X:Cx}
def Fm:V->Option Int->Option Int->Hp->VK->Prop:=fun x lo hi H Q=>∃l,x=.str (S l)/\l.length<=sizeLine/\Q (.str (S (dH l lo hi))) H
theorem Ct:SlR X Fm:=by
 intro pins s σ H x v vl vu lo hi sl Q I rx hs pl pu h;obtain⟨l,rfl,hz,q⟩:=h;obtain⟨t,rfl⟩:=rx;refine⟨"str",_,slot_str_getitem.lookup,typeIs_str s _ t,?_⟩
 obtain⟨l',hl',el⟩:∃l':Option (Int×Tok),vl=partValue l'/\l'.map (·.1)=lo:=by
  cases pl with
  | none=>exact⟨none,rfl,rfl⟩
  | int i t=>exact⟨some (i,t),rfl,rfl⟩
 obtain⟨u',hu',eu⟩:∃l':Option (Int×Tok),vu=partValue l'/\l'.map (·.1)=hi:=by
  cases pu with
  | none=>exact⟨none,rfl,rfl⟩
  | int i t=>exact⟨some (i,t),rfl,rfl⟩
 subst hl' hu';refine wpAny_getItem_str_slice (l:=l') (u:=u') (st:=none) hs rfl ?_;have hm:∀t' k,EP X pins σ Q (.str (Txt.slice (S l) lo hi) t') { s with toks:=k }:=fun t' k=>⟨.str (S (dH l lo hi)),H,I.tok _,⟨t',by rw [Aq]⟩,q⟩
 have hlen:(Txt.slice (S l) lo hi).length<=sizeLine:=Nat.le_trans (Txt.slice_le _ _ _) (by rw [gn];exact hz);subst el eu;exact post_val_or_str ⟨hlen,hm⟩
def qW{α:Type}(l:List α)(n:Int):List α:=(List.replicate n.toNat l).flatten
theorem vw(k:Nat)(l acc:List Nat):(List.replicate k l.toArray).foldl (·++·) acc.toArray=(acc++(List.replicate k l).flatten).toArray:=by
 induction k generalizing acc with
 | zero=>simp
 | succ k ih =>
  rw [replicate_succ,foldl_cons,append_toArray,ih (acc++l),replicate_succ,flatten_cons,append_assoc]
theorem Eh(l:List Nat)(n:Int):Txt.mul (S l) n=S (qW l n):=by
 unfold Txt.mul qW
 by_cases h:n<1
 .rw [if_pos h];have:n.toNat=0:=by omega
  rw [this];rfl
 .rw [if_neg h]
  split
  .rename_i h2;rw [gn] at h2;simp only [or_eq_true,beq_iff_eq] at h2
   rcases h2 with h2|h2
   .subst h2;simp [S]
   .have:l=[]:=length_eq_zero_iff.mp h2;subst this;simp [S]
  .have e:=vw n.toNat l [];show (⟨_⟩:Str)=_
   have e':(List.replicate n.toNat (S l).cps).foldl (·++·) #[]=((List.replicate n.toNat l).flatten).toArray:=by
    simpa [S] using e
   rw [e'];rfl
theorem fq{α:Type}(l:List α)(n:Int):(qW l n).length=n.toNat*l.length:=by
 unfold qW;rw [length_flatten,map_replicate,sum_replicate_nat]
theorem ud:OpR X (binaryOp .Mult) (fun x y H Q=>∃l n,x=.str (S l)/\y=.int n/\-1000000<=n/\n<=1000000/\n.toNat*l.length<=sizeLine/\Q (.str (S (qW l n))) H):=by
 intro pins s σ H x y v u Q I rx ry h;obtain⟨l,n,rfl,rfl,h1,h2,hz,q⟩:=h;obtain⟨t,rfl⟩:=rx;obtain⟨t',rfl⟩:=ry;have hs:sizeLine=16777216:=sizeLine_eq;have hz':n.toNat*l.length<=16777216:=by rw [<- hs];exact hz
 refine SB.mul ⟨?_,fun hn hc=>?_,fun hn hc=>?_⟩ fun t' k=>⟨.str (S (qW l n)),H,I.tok _,⟨t',by rw [Eh]⟩,q⟩
 .rw [decide_eq_false (by omega),decide_eq_false (by omega)];rfl
 .rw [gn];intro hgt
  have hl:l.length<=16777216:=by
   have:1*l.length<=n.toNat*l.length:=mul_le_mul_right _ (by omega);omega
  have hdiv:(2^63 - 1:Int) / 1000000<=(2^63 - 1) / n:=by
   apply le_ediv_of_mul_le (by omega);have:=mul_le_mul_of_nonneg_left h2 (show (0:Int)<=(2^63 - 1) / 1000000 by decide);have e2:((2^63 - 1:Int) / 1000000)*1000000<=2^63 - 1:=by decide
   omega
  have e3:(2^63 - 1:Int) / 1000000=9223372036854:=by decide
  omega
 .rw [gn];have:l.length*n.toNat<=16777216:=by rw [mul_comm];exact hz'
  exact decide_eq_false (by omega)
theorem vx:OpR X (compareOp .LtE) (fun x y H Q=>∃i j,x=.str i/\y=.str j/\Q (.bl (!decide (j.cps.toList<i.cps.toList))) H):=by
 intro pins s σ H x y v u Q I rx ry h;obtain⟨i,j,rfl,rfl,q⟩:=h;obtain⟨t,rfl⟩:=rx;obtain⟨t',rfl⟩:=ry;exact PySem.P.le_str ⟨.bl _,H,I,rfl,q⟩
end
def Its(xs:List V):It:=⟨fun i _=>i<xs.length,fun i H x H'=>H'=H/\xs[i]?=some x,fun i _=>xs.length=i⟩
theorem vy{M:Model}{A:Around}{E:Value->Shared->Prop}{s:Shared}{tg:Expr}{it:Addr}{u:Value}{Q:Unit->Shared->Prop}(hu:∀a,u≠.ref a)(hQ:Q () s):wpAny M A (letOwnedTupleGo tg (.ref it) u) Q E s:=by
 unfold letOwnedTupleGo
 cases tg <;> first
  | exact wpAny_pure hQ
  | (cases u <;> first
    | exact wpAny_pure hQ
    | exact absurd rfl (hu _))
theorem kL{P:Program}{w:World}{K:PySem.W.Frag}{tg:Expr}{it:Addr}{xs:List V}{n:Nat}{Pt:Nat->Value->Prop}{St:Nat->Heap->Prop}
  (W:∀A:Around,A.handled=none->Walks P w A it [it] [it] n Pt St) (hn:xs.length=n)
  (hv:∀i v,i<n->Pt i v->∃x,xs[i]?=some x/\dS x v) (hsc:∀i v,Pt i v->∀a,v≠.ref a)
  (hobj:∀i h,St i h->∃o,h.get? it=some o/\∀v,o.data≠.cell v)
  (hfr:∀i h h',St i h->(∀b∈[it],∀o,h.get? b=some o->h'.get? b=some o)->St i h')
  (hself:∀(A:Around) (i:Nat) (s:Shared) (Q:Value->Shared->Prop) (E:Value->Shared->Prop),St i s.heap->Q (.ref it) s->wpAny (model P w) A (pyIter (.ref it)) Q E s) :
  yX P w K tg (Its xs) [it] it St where
 mem:=by simp
 obj:=fun i h st b hb=>by
  have e:b=it:=by simpa using hb
  subst e;exact hobj i h st
 keep:=fun i h h' st k=>hfr i h h' st k
 item:=by
  intro X hP hw hK hc i pins s σ H E I hf st hg;subst hP hw hK;obtain⟨f0,f1,f2,f3,f4,f5⟩:=hf it (by simp);refine (W X.A (I.ok.hd hc)).item i s _ _ (by rw [<- hn];exact hg) st fun v h' tk hp st' kk=>?_;obtain⟨x,hx,rx⟩:=hv i v (by rw [<- hn];exact hg) hp;have I1:Inv X pins σ H { s with heap:=h',toks:=tk }:=I.turned (fun b o hb e=>kk b o (by simpa using hb) e) f0 f1 f3 f4 f5;exact⟨v,rfl,vy (s:={ s with heap:=h',toks:=tk }) (hsc i v hp) ⟨x,H,I1,rx,⟨rfl,hx⟩,st',fun b hb=>(hf b hb).1⟩⟩
 done:=by
  intro X hP hw hK hc i pins s σ H E I hf st hg;subst hP hw hK;obtain⟨f0,f1,f2,f3,f4,f5⟩:=hf it (by simp);have e:n=i:=hn.symm.trans hg;subst e;exact (W X.A (I.ok.hd hc)).done s _ _ st fun h' tk kk=>⟨rfl,I.turned (fun b o hb e=>kk b o (by simpa using hb) e) f0 f1 f3 f4 f5⟩
 self:=hself
section
variable {X:Cx}{tg:Expr}
def cQ(l:List Nat):List V:=l.map fun c=>V.str (S [c])
theorem fc{l:List Nat}{i:Nat}{x:V}(h:(cQ l)[i]?=some x):∃c,l[i]?=some c/\x=.str (S [c]):=by
 unfold cQ at h;rw [getElem?_map] at h
 cases e:l[i]? with
 | none=>rw [e] at h;cases h
 | some c=>rw [e] at h;exact⟨c,rfl,(Option.some.inj h).symm⟩
theorem cS(l:List Nat):(cQ l).length=l.length:=length_map _
def nU(i:Int)(n:Nat):List V:=(List.range n).map fun (k:Nat)=>V.int (i - k)
theorem kM(i:Int)(n:Nat):(nU i n).length=n:=by simp [nU]
theorem vz{i:Int}{n k:Nat}{x:V}(h:(nU i n)[k]?=some x):k<n/\x=.int (i - k):=by
 unfold nU at h;rw [getElem?_map] at h
 by_cases hk:k<n
 .rw [getElem?_range hk] at h;exact⟨hk,(Option.some.inj h).symm⟩
 .rw [getElem?_eq_none (by simp;omega)] at h;cases h
def Cu(ta:TA):TI:=fun σ H R=>ta σ H fun vs H1=>∃i j:Int,vs=[.int i,.int j,.int (-1)]/\(-(2^60)<=i/\i<2^60/\-(2^60)<=j/\j<2^60)/\R (Its (nU i (i - j).toNat)) H1
theorem h7(i j:Int):Builtin.Range.rangeSize i j (-1)=(((i - j).toNat:Nat):Int):=by
 unfold Builtin.Range.rangeSize;rw [if_neg (by decide)];simp only [neg_neg,ediv_one];split <;> omega
theorem pN{a b c:Expr}{ta:TA}{p pos:Pos}(hg:Gl X "range")(hm:X.mg "range"=none)(ha:PA X [a,b,c] ta)
  (hs:starEach [a,b,c] X.env=[(false,eval a X.env),(false,eval b X.env),(false,eval c X.env)]:=by rfl) (hs2:starEach [b,c] X.env=[(false,eval b X.env),(false,eval c X.env)]:=by rfl) :
  PI X tg (.Call (.Name "range" p) [a,b,c] [] pos) (Cu ta):=by
 intro pins s σ H R I h;refine Call_ (iQ I hg hm boot_range (PyProof.Rows.callWith_type1 (thn (ha pos pins s σ H _ I h) fun us s1 ⟨vs,H1,I1,r1,q1⟩=>?_) (by rw [hs,hs2]) (by rw [hs2];rfl)));obtain⟨i,j,e,⟨q1,q2,q3,q4⟩,q⟩:=q1;subst e
 cases r1 with
 | cons r rr =>
  cases rr with
  | cons r' rr =>
   cases rr with
   | cons r'' rr =>
    cases rr;obtain⟨t,rfl⟩:=r;obtain⟨t',rfl⟩:=r';obtain⟨t'',rfl⟩:=r'';refine call_range_3 (by decide) ?_ (.inl (PyProof.noPylong_small (by decide)))
    refine wpAny_pyIter_range (IsRange.new ..) ?_ ?_
    .unfold Builtin.Range.small;rw [h7];simp only [Builtin.Range.rangeFitsLong,and_eq_true,or_eq_true,decide_eq_true_eq,beq_iff_eq,show ¬ (-1:Int) > 0 by decide,if_false];omega
    have I2:Inv X pins σ H1 { s1 with heap:=s1.heap.push { cls:=.type "range",data:=.fields #[.int i t,.int j t',.int (-1) t''] },toks:=s1.toks }:=I1.kept fun b o e=>Heap.get?_push_of_some _ e
    refine⟨_,[(s1.heap.push { cls:=.type "range",data:=.fields #[.int i t,.int j t',.int (-1) t''] }).objs.size],_,Its (nU i (i - j).toNat),H1,rfl,I2.kept (t':=s1.toks) fun b o e=>Heap.get?_push_of_some _ e,
     kL (fun A hA=>Walks.range hA _ i (-1) (i - j).toNat) (kM _ _) ?_ ?_ ?_ ?_ (fun A i s Q E st q=>wpAny_pyIter_rangeiter st q),?_,fun b hb=>?_,q⟩
    .rintro k v hk ⟨t,rfl⟩
     refine⟨.int (i - k),?_,t,?_⟩
     .unfold nU;rw [getElem?_map,getElem?_range hk];rfl
     .have e:i+(k:Int)*(-1)=i - k:=by omega
      rw [e]
    .rintro k v ⟨t,rfl⟩ a z;cases z
    .exact fun k h st=>⟨_,st,fun v z=>by
      have z':Data.fields _=Data.cell v:=z;cases z'⟩
    .exact fun k h h' st kk=>kk _ (by simp) _ st
    .show IsRangeIter _ _ (i+((0:Nat):Int)*(-1)) ((((i - j).toNat:Nat):Int) - ((0:Nat):Int)) (-1);rw [<- h7];simp only [natCast_zero,zero_mul,Int.add_zero,Int.sub_zero];exact Heap.get?_push_size _ rfl
    .have e:b=(s1.heap.push { cls:=.type "range",data:=.fields #[.int i t,.int j t',.int (-1) t''] }).objs.size:=by simpa using hb
     subst e;exact I2.fpOk (le_refl _) (I2.hok.fresh (le_refl _))
end
section
variable {X:Cx}
theorem qX:cp X (.builtin "isinstance") (fun xs H Q=>∃x n t b,xs=[x,.ty n]/\qT X.K H x t/\PySem.W.kitOne X.K t (.type n)=some b/\Q (.bl b) H):=by
 intro pins s σ H xs us Q I r h;obtain⟨x,n,t,b,rfl,ty,e,q⟩:=h;obtain⟨u,w',rfl,rx,ry⟩:=zX r;cases (show w'=Value.type n from ry);exact vf I rx ty e fun tk=>⟨.bl b,H,I.tok _,rfl,q⟩
mutual
inductive DV (K:PySem.W.Frag) (H:Hp):V->PyData->Prop
 | non:DV K H .non .none
 | bl (b:Bool):DV K H (.bl b) (.bool b)
 | int (i:Int):DV K H (.int i) (.int i)
 | str (x:Str):DV K H (.str x) (.str x)
 | lst {a:Addr}{xs:List V}{ds:List PyData}:SqL K H a xs->DVs K H xs ds->DV K H (.ref a) (.list ds)
 | tup {a:Addr}{xs:List V}{ds:List PyData}:SqT K H a xs->DVs K H xs ds->DV K H (.ref a) (.tuple ds)
inductive DVs (K:PySem.W.Frag) (H:Hp):List V->List PyData->Prop
 | nil:DVs K H [] []
 | cons {x:V}{d:PyData}{xs:List V}{ds:List PyData}:DV K H x d->DVs K H xs ds->DVs K H (x::xs) (d::ds)
end
mutual
theorem DV.reads{pins:List (Addr×Obj)}{σ:St}{H:Hp}{s:Shared}(I:Inv X pins σ H s):∀{x:V}{d:PyData}{u:Value},DV X.K H x d->dS x u->∃as,Reads s.heap u d as
 | _,_,u,.non,r=>by cases (show u=Value.none from r);exact⟨_,.none⟩
 | _,_,u,.bl b,r=>by cases (show u=Value.bool b from r);exact⟨_,.bool b⟩
 | _,_,u,.int i,r=>by obtain⟨t,e⟩:=(show ∃t,u=Value.int i t from r);subst e;exact⟨_,.int i t⟩
 | _,_,u,.str x,r=>by obtain⟨t,e⟩:=(show ∃t,u=Value.str x t from r);subst e;exact⟨_,.str x t⟩
 | _,_,u,.lst (a:=a) hq hs,r=>by
  cases (show u=Value.ref a from r);obtain⟨its,rv,pl,_⟩:=I.list hq;obtain⟨o,ho,hc,n,hd⟩:=pl.isList;obtain⟨as,ra⟩:=DVs.reads I hs rv;exact⟨_,.list ho hc hd ra⟩
 | _,_,u,.tup (a:=a) hq hs,r=>by
  cases (show u=Value.ref a from r);obtain⟨its,rv,pl,_⟩:=I.tuple hq;obtain⟨o,ho,hc,n,hd⟩:=pl;obtain⟨as,ra⟩:=DVs.reads I hs rv;exact⟨_,.tuple ho hc hd ra⟩
theorem DVs.reads{pins:List (Addr×Obj)}{σ:St}{H:Hp}{s:Shared}(I:Inv X pins σ H s):∀{xs:List V}{ds:List PyData}{us:List Value},DVs X.K H xs ds->cm xs us->∃as,ReadsAll s.heap us ds as
 | _,_,_,.nil,.nil=>⟨_,.nil⟩
 | _,_,_,.cons h hs,.cons r rs=>by
  obtain⟨as,ra⟩:=DV.reads I h r;obtain⟨bs,rb⟩:=DVs.reads I hs rs;exact⟨_,.cons ra rb⟩
end
def Ei(K:PySem.W.Frag)(neg:Bool):R2:=fun x y H Q=>∃da db,DV K H x da/\DV K H y db/\SeqAt.shaped da=true/\SeqAt.shaped db=true/\Q (.bl (if neg then !PyData.eqv da db else PyData.eqv da db)) H
theorem Cv(hu:X.A.units+64<cLine):OpR X (compareOp .Eq) (Ei X.K false):=by
 intro pins s σ H x y v u Q I rx ry h;obtain⟨da,db,ha,hb,sa,sb,q⟩:=h;obtain⟨as,ra⟩:=DV.reads I ha rx;obtain⟨bs,rb⟩:=DV.reads I hb ry;exact eq_dataH ra rb sa sb hu ⟨.bl _,H,I,rfl,q⟩
theorem Cw(hu:X.A.units+64<cLine):OpR X (compareOp .NotEq) (Ei X.K true):=by
 intro pins s σ H x y v u Q I rx ry h;obtain⟨da,db,ha,hb,sa,sb,q⟩:=h;obtain⟨as,ra⟩:=DV.reads I ha rx;obtain⟨bs,rb⟩:=DV.reads I hb ry;exact ne_dataH ra rb sa sb hu ⟨.bl _,H,I,rfl,q⟩
theorem DVs.ints{K:PySem.W.Frag}{H:Hp}:∀ns:List Int,DVs K H (ns.map V.int) (ns.map PyData.int)
 | []=>.nil
 | n::ns=>.cons (.int n) (DVs.ints ns)
theorem kN:∀ns ms:List Int,PyData.eqvAll (ns.map PyData.int) (ms.map PyData.int)=decide (ns=ms)
 | [],[]=>by simp [PyData.eqvAll]
 | [],_::_=>by simp [PyData.eqvAll]
 | _::_,[]=>by simp [PyData.eqvAll]
 | a::r,b::t=>by
  simp only [map_cons,PyData.eqvAll,PyData.eqv,kN r t]
  by_cases h:a=b <;> by_cases h':r=t <;> simp [h,h']
theorem qY:MtR X "str.endswith" (fun x xs H Q=>∃a b,x=.str (S a)/\xs=[.str (S b)]/\Q (.bl (decide (b <:+ a))) H):=by
 intro pins s σ H x xs v us Q I rx rs h;obtain⟨a,b,rfl,rfl,q⟩:=h;obtain⟨t,rfl⟩:=rx;obtain⟨u,rfl,t',rfl⟩:=gw rs
 have e:Txt.endswith (S a) (S b)=decide (b <:+ a):=by
  unfold Txt.endswith Builtin.Str.subAt;rw [gn,gn]
  have e1:((S a).cps.extract (a.length - b.length) (a.length - b.length+b.length))=((a.drop (a.length - b.length)).take b.length).toArray:=by
   show a.toArray.extract _ _=_;rw [extract_toArray,extract_eq_take_drop];have e2:a.length - b.length+b.length - (a.length - b.length)=b.length:=by omega
   rw [e2]
  rw [e1]
  by_cases h:b <:+ a
  .rw [decide_eq_true h];have hl:=h.length_le;have hd:a.drop (a.length - b.length)=b:=(suffix_iff_eq_drop.mp h).symm;rw [hd];simp [S,hl]
  .rw [decide_eq_false h]
   by_cases hl:b.length<=a.length
   .have hne:¬ (a.drop (a.length - b.length)).take b.length=b:=fun z=>h (by
     rw [take_of_length_le (by rw [length_drop];omega)] at z;exact suffix_iff_eq_drop.mpr z.symm)
    simp only [and_eq_false_imp];intro _;show (((a.drop (a.length - b.length)).take b.length).toArray == b.toArray)=false;rw [beq_eq_false_iff_ne];intro z;exact hne (by simpa using congrArg Array.toList z)
   .rw [decide_eq_false (by omega)];rfl
 exact SC.endswith ⟨.bl _,H,I,rfl,by rw [e];exact q⟩
end
section
variable {X:Cx}{a b:Expr}{ta tb:TE}{pos:Pos}
theorem ft{x:Str}{l:List Nat}{j:Nat}(h:x=S l):PE X (.Constant (.str x) j pos) (tC (.str (S l))):=by
 subst h;exact BW
theorem vA:cp X (.builtin "len") (fun xs H Q=>∃l,xs=[.str (S l)]/\l.length<=sizeLine/\Q (.int l.length) H):=by
 intro pins s σ H xs us Q I r h;obtain⟨l,rfl,hz,q⟩:=h;exact pJ pins s σ H _ us Q I r ⟨S l,rfl,by rw [gn];exact hz,by rw [gn];exact q⟩
def Cy:R2:=fun x y H Q=>∃l i c,x=.str (S l)/\y=.int i/\l.length<=sizeLine/\atI l i=some c/\Q (.str (S [c])) H
theorem Ar:IxR X Cy:=by
 intro value slice pins s σ H x y v u Q I rx ry q hs;obtain⟨l,i,c,rfl,rfl,hz,ha,q⟩:=q;exact Cj value slice pins s σ H _ _ v u Q I rx ry ⟨S l,i,c,rfl,rfl,by rw [gn];exact hz,ha,q⟩ hs
theorem As:OpR X (binaryOp .Add) (fun x y H Q=>∃i j,x=.str (S i)/\y=.str (S j)/\i.length+j.length<=sizeLine/\Q (.str (S (i++j))) H):=by
 intro pins s σ H x y v u Q I rx ry h;obtain⟨i,j,rfl,rfl,hz,q⟩:=h;exact tY pins s σ H _ _ v u Q I rx ry ⟨S i,S j,rfl,rfl,by rw [gn,gn];exact hz,by rw [Ap];exact q⟩
theorem Cz:OpR X (compareOp .Eq) (fun x y H Q=>∃i j,x=.str (S i)/\y=.str (S j)/\Q (.bl (decide (i=j))) H):=by
 intro pins s σ H x y v u Q I rx ry h;obtain⟨i,j,rfl,rfl,q⟩:=h;exact D9 pins s σ H _ _ v u Q I rx ry ⟨rfl,by rw [Cr];exact q⟩
theorem CA:OpR X (compareOp .NotEq) (fun x y H Q=>∃i j,x=.str (S i)/\y=.str (S j)/\Q (.bl (!decide (i=j))) H):=by
 intro pins s σ H x y v u Q I rx ry h;obtain⟨i,j,rfl,rfl,q⟩:=h;exact Ea pins s σ H _ _ v u Q I rx ry ⟨rfl,by rw [Cr];exact q⟩
theorem CB:OpR X (compareOp .Eq) (rI0 fun i j=>.bl (decide (i=j))):=BE fun _ _ _ _ _ _ _ q=>eq_int (by rw [beq_eq_decide_eq];exact q)
theorem CC:OpR X (compareOp .NotEq) (rI0 fun i j=>.bl (!decide (i=j))):=BE fun _ _ _ _ _ _ _ q=>ne_int (by rw [bne,beq_eq_decide_eq];exact q)
theorem vB:cp X (.builtin "len") (fun xs H Q=>∃p ys,xs=[.ref p]/\SqL X.K H p ys/\Q (.int ys.length) H):=by
 intro pins s σ H xs us Q I r h;obtain⟨p,ys,e,hq,q⟩:=h;exact jM pins s σ H xs us Q I r ⟨p,ys,e,.inl hq,q⟩
theorem vC:cp X (.builtin "len") (fun xs H Q=>∃p ys,xs=[.ref p]/\SqT X.K H p ys/\Q (.int ys.length) H):=by
 intro pins s σ H xs us Q I r h;obtain⟨p,ys,e,hq,q⟩:=h;exact jM pins s σ H xs us Q I r ⟨p,ys,e,.inr hq,q⟩
end
structure Cal (P:Program) (w:World) (K:PySem.W.Frag) (mg:Str->Option Value) (base:Heap) (k:Nat) (x:Str) (ps:List Str) (sp:Sp):Prop where
 ex:∃(f:Addr) (fd:FuncData),nP P w K mg base CX0 k f fd ps sp/\kf K fd ps []/\PySem.W.keepIn K (.ref f)=true/\mg x=some (.ref f)/\∃oc od osl,K.lookup f=some ⟨oc,od,.func fd,osl⟩
structure ca (K:PySem.W.Frag) (mg:Str->Option Value) (x:Str) (st:Stmt):Prop where
 ex:∃(f:Addr) (fd:FuncData),Fun K x x st f fd/\mg x=some (.ref f)
section
variable {P:Program}{w:World}{K:PySem.W.Frag}{mg:Str->Option Value}{base:Heap}{x:Str}{st:Stmt}{N ps:List Str}{k:Nat}{sp:Sp}
theorem ca.ok(D:ca K mg x st)(S:aI N ps (ao st))
  (hb:∀(kV doc pm:Value) (an:Option Addr) (cdv ct:Value) (us:List Value),us.length=ps.length->bindArgs (PySem.W.fnOf x x (cZ st) (b6 st) (ao st) .none kV doc pm an cdv ct) ⟨us,[]⟩=pure (ps.zip us))
  (len:∀vs H Q E,sp vs H Q E->vs.length=ps.length)
  (hbody:∀(f:Addr) (cdv:Value) (A:Around) (outer:List Env) (s:Shared) (H:Hp) (vs:List V) (Q:VK) (E:XK),gx k (A.deeper (envOfC x (ao st) s.heap.objs.size f cdv))->sp vs H Q E ->
   ∃t,PSs (xy CX0 P w K mg base N x (ao st) f cdv A outer s H E).nox (b6 st) t/\t { nx:=fun _ H'=>Q .non H',rt:=Q } (start N vs) H):Cal P w K mg base (k+1) x ps sp:=by
 obtain⟨f,fd,F,hm⟩:=D.ex
 have lk:∃oc od osl,K.lookup f=some ⟨oc,od,.func fd,osl⟩:=by
  obtain⟨oc,od,kV,doc,pm,an,cdv,ct,osl,rfl,lk,hcd⟩:=F.ex;exact⟨oc,od,osl,lk⟩
 exact⟨f,fd,F.ok S len fun cdv A outer s H vs Q E hr h=>hbody f cdv A outer s H vs Q E hr h,F.binds hb,F.kp,hm,lk⟩
theorem ca.mk'{K:PySem.W.Frag}{h:Heap}{mg:Str->Option Value}{x:Str}{st:Stmt}{f:Addr}{oc:Value}{od an:Option Addr}{osl:Array (Option Value)}{kV doc pm cdv ct:Value}(X:K.In h)(G:h.Ns mainGlobals mg)
  (a:PySem.W.nsIn K mainGlobals x=some (some (.ref f))) (l:K.lookup f=some ⟨oc,od,.func (PySem.W.fnOf x x (cZ st) (b6 st) (ao st) .none kV doc pm an cdv ct),osl⟩)
  (c:PySem.W.codeIn K cdv x=true) (k:PySem.W.keepIn K (.ref f)=true):ca K mg x st:=⟨f,_,vp (st:=st) l c k,PySem.W.mg_of X G a⟩
end
section
variable {X:Cx}{k:Nat}{x:Str}{ps:List Str}{sp:Sp}{p pos:Pos}{e:Expr}{es:List Expr}{t:TA}
theorem CD(C:Cal X.prog X.w X.K X.mg X.base k x ps sp)(hr:gx k X.A)(ha:PA X (e::es) t)(hg:Gl X x:=by rfl)(hdb:(x == ("__debug__":Str))=false:=by decide)(he:starEach (e::es) X.env=(false,eval e X.env)::starEach es X.env:=by rfl)
  (hpl:(backTo pos (starEach es X.env)).any (·.1)=false:=by rfl):PE X (.Call (.Name x p) (e::es) [] pos) (ef sp [] E0 t):=by
 obtain⟨f,fd,F,hb,hk,hm,_⟩:=C.ex;exact vg F hr hg hm hk hb .nil xW ha hdb he hpl
end
def ue(K:PySem.W.Frag):Sp:=fun vs H Q _=>∃(a:Addr) (ns:List Int),vs=[.ref a]/\SqL K H a (ns.map V.int)/\ns.length<=63/\∀H',Q (.bl true) H'
theorem CF{P:Program}{w:World}{K:PySem.W.Frag}{mg:Str->Option Value}{fa:Addr}{st:Stmt}{k:Nat}{x:Str}(hfa:mg "law"=some (.ref fa))(D:ca K mg "law" st)
  (hbind:∀(kV doc pm:Value) (an:Option Addr) (cdv ct:Value) (s:Shared) (v:Value),BindsTo s (PySem.W.fnOf "law" "law" (cZ st) (b6 st) (ao st) .none kV doc pm an cdv ct) ⟨[v],[]⟩ [(x,v)])
  (h:∀base:Heap,Cal P w K mg base k "law" [x] (ue K)) :
  ∃fd:FuncData,(∀(s:Shared) (v:Value),BindsTo s fd ⟨[v],[]⟩ [(x,v)])/\∀base:Heap,K.In base->base.Ns mainGlobals mg->nP P w K mg base CX0 k fa fd [x] (ue K):=by
 obtain⟨f,fd,F,hm⟩:=D.ex;have e:=hfa.symm.trans hm;cases e;obtain⟨oc,od,kV,doc,pm,an,cdv,ct,osl,rfl,lk,hcd⟩:=F.ex;refine⟨_,fun s v=>hbind kV doc pm an cdv ct s v,fun base kb nb=>?_⟩;obtain⟨f',fd',F',_,_,hm',oc',od',osl',lk'⟩:=(h base).ex;have e:=hfa.symm.trans hm';cases e;rw [lk] at lk';cases lk';exact F'
theorem CG{l:PySem.W.OpenLaw}{q:Program}{loose:List Str}{XP:(Str->Option Value)->Heap->Prop}{YP:World->Heap->Prop}{d:DefRec}{K:Params->PySem.W.Frag}{k:Nat}{x:Str}(hn:l.most=some 63)(hdf:d.params.defaults=[])(hr:gx k callerA)
  (hY:∀(w:World) (h:Heap),YP w h->(K w.params).In h)
  (F:∀(w:World) (mg:Str->Option Value) (fa:Addr) (h:Heap),(K w.params).In h->h.Ns mainGlobals mg->mg d.name=some (.ref fa) ->
   ∃fd:FuncData,(∀(s:Shared) (u:Value),BindsTo s fd ⟨[u],[]⟩ [(x,u)])/\∀base:Heap,(K w.params).In base->base.Ns mainGlobals mg->nP l.prog w (K w.params) mg base CX0 k fa fd [x] (ue (K w.params))) :
  PySem.W.WalkO q loose XP YP l.row.toRowW d [] (fun f vs=>PySem.call f vs) :=
 Ao (n:=63) (k:=k) (x:=x) (CX:=fun _=>CX0) (sp:=fun w=>ue (K w.params)) hn (by decide) hdf hr hY F (fun _ _ a ns hl _ hS=>⟨a,ns,rfl,hS,hl,fun _=>rfl⟩) fun _ _ _ _ _ z=>z
theorem At{α β:Type}{f:α->β}{xs:List α}{i:Int}{v:α}(h:atI xs i=some v):atI (xs.map f) i=some (f v):=by
 unfold atI at h ⊢;rw [length_map]
 cases e:ixN xs.length i with
 | none=>rw [e] at h;cases h
 | some j =>
  rw [e] at h;show (xs.map f)[j]?=some (f v);have h':xs[j]?=some v:=h;rw [getElem?_map,h'];rfl
theorem gB{α:Type}{xs:List α}{i:Int}{j:Nat}{v:α}(h:xs[j]?=some v)(e:i=(j:Int)):atI xs i=some v:=by subst e;exact Aj h
def fn(l:List Nat)(t:Nat):Nat:=l.getD t 0
theorem mS{l:List Nat}{t:Nat}(h:t<l.length):l[t]?=some (fn l t):=by
 unfold fn;rw [getD_eq_getElem?_getD,getElem?_eq_getElem h];rfl
theorem Ej{l:List Nat}{t c:Nat}(h:l[t]?=some c):fn l t=c:=by
 unfold fn;rw [getD_eq_getElem?_getD,h];rfl
theorem sz(n:Nat)(h:n<=1000000):n<=sizeLine:=by rw [sizeLine_eq];omega
theorem xX{ns:List Int}{i:Nat}{x:V}(h:(ns.map V.int)[i]?=some x):∃z,ns[i]?=some z/\x=.int z:=by
 rw [getElem?_map] at h
 cases e:ns[i]? with
 | none=>rw [e] at h;cases h
 | some z=>rw [e] at h;exact⟨z,rfl,(Option.some.inj h).symm⟩
section
variable {X:Cx}{st:Stmt}{t:TS}
def CH(t:TS):TS:=fun D σ H=>∃J:St->Hp->Prop,t { D with nx:=J } σ H/\∀σ' H',J σ' H'->D.nx σ' H'
theorem nV(h:PS X st t):PS X st (CH t):=by
 intro pins s σ H D I q;obtain⟨J,q1,q2⟩:=q;refine thn (h pins s σ H _ I q1) fun f s' r=>?_
 cases f with
 | next=>obtain⟨σ',H',I',r'⟩:=r;exact⟨σ',H',I',q2 σ' H' r'⟩
 | brk=>exact r
 | cont=>exact r
 | ret u=>exact r
end
theorem xY{α β:Type}(f:α->β)(xs:List α)(lo hi:Option Int):dH (xs.map f) lo hi=(dH xs lo hi).map f:=by
 unfold dH;rw [length_map,map_take,map_drop]
theorem iU{α:Type}(l:List α)(hl:0<l.length):∀(n i:Nat),i<n*l.length->((List.replicate n l).flatten)[i]?=l[i % l.length]?
 | 0,i,h=>by omega
 | n+1,i,h=>by
  rw [replicate_succ,flatten_cons]
  by_cases c:i<l.length
  .rw [getElem?_append_left c,mod_eq_of_lt c]
  .rw [getElem?_append_right (by omega),iU l hl n (i - l.length) (by rw [succ_mul] at h;omega)];rw [<- mod_eq_sub_mod (by omega)]
theorem xZ{l:List Nat}{n:Int}{i:Nat}(hl:0<l.length)(h:i<n.toNat*l.length):fn (qW l n) i=fn l (i % l.length):=by
 have e:=iU l hl n.toNat i h;have hm:i % l.length<l.length:=mod_lt _ hl;rw [mS hm] at e;exact Ej e
theorem sL{α:Type}(l:List α){k:Int}(h:0<=k):dH l none (some k)=l.take k.toNat:=by
 have e:k=((k.toNat:Nat):Int):=by omega
 rw [e,eZ];rfl
theorem uf{α:Type}(l:List α){k:Int}(h:0<=k):dH l (some k) none=l.drop k.toNat:=by
 have e:k=((k.toNat:Nat):Int):=by omega
 rw [e,gA];rfl
theorem eo{x:Str}{c:Addr}:∀(names:List (Str×NameKind)) (n:Nat) (acc:List (Str×Addr)),(cellsFrom n names acc).lookup x=some c->(n<=c/\(x,NameKind.cell)∈names)\/acc.lookup x=some c
 | [],n,acc,h=>.inr h
 | (y,k)::r,n,acc,h=>by
  unfold cellsFrom at h
  split at h
  .rename_i hk;have hk':k=.cell:=by simpa using hk
   subst hk'
   rcases eo r (n+1) ((y,n)::acc) h with ⟨h1,h2⟩|h1
   .exact .inl ⟨by omega,mem_cons_of_mem _ h2⟩
   .rw [lookup_cons] at h1
    cases e:x == y with
    | true =>
     rw [e] at h1;have:n=c:=Option.some.inj h1;have ex:x=y:=by simpa using e
     subst ex;exact .inl ⟨by omega,mem_cons_self⟩
    | false=>rw [e] at h1;exact .inr h1
  .rcases eo r n acc h with ⟨h1,h2⟩|h1
   .exact .inl ⟨h1,mem_cons_of_mem _ h2⟩
   .exact .inr h1
theorem fu{x:Str}:∀(names:List (Str×NameKind)) (n:Nat) (acc:List (Str×Addr)),(x,NameKind.cell)∉names->(cellsFrom n names acc).lookup x=acc.lookup x
 | [],_,_,_=>rfl
 | (y,k)::r,n,acc,h=>by
  unfold cellsFrom
  split
  .rename_i hk;have hk':k=.cell:=by simpa using hk
   subst hk';rw [fu r (n+1) _ (fun z=>h (mem_cons_of_mem _ z)),lookup_cons]
   have:(x == y)=false:=by
    rw [beq_eq_false_iff_ne];intro e;subst e;exact h mem_cons_self
   rw [this]
  .exact fu r n acc (fun z=>h (mem_cons_of_mem _ z))
theorem fz{x y:Str}{c:Addr}:∀(names:List (Str×NameKind)) (n:Nat) (acc:List (Str×Addr)),(∀z d,acc.lookup z=some d->d<n) ->
  (cellsFrom n names acc).lookup x=some c->(cellsFrom n names acc).lookup y=some c->n<=c->x=y
 | [],n,acc,ha,h1,h2,hc=>absurd (ha x c h1) (not_lt.mpr hc)
 | (z,k)::r,n,acc,ha,h1,h2,hc=>by
  unfold cellsFrom at h1 h2
  split at h1
  .rename_i hk;rw [if_pos hk] at h2
   have ha':∀w d,((z,n)::acc).lookup w=some d->d<n+1:=fun w d e=>by
    rw [lookup_cons] at e
    cases q:w == z with
    | true=>rw [q] at e;cases e;exact lt_succ_self _
    | false=>rw [q] at e;exact lt_succ_of_lt (ha w d e)
   by_cases hcn:n+1<=c
   .exact fz r (n+1) _ ha' h1 h2 hcn
   .have e:c=n:=le_antisymm (not_lt.mp hcn) hc;subst e
    have key:∀w:Str,(cellsFrom (c+1) r ((z,c)::acc)).lookup w=some c->w=z:=fun w hw=>by
     rcases eo r (c+1) _ hw with ⟨q,_⟩|q
     .exact absurd q (not_succ_le_self _)
     .rw [lookup_cons] at q
      cases q2:w == z with
      | true=>simpa using q2
      | false=>rw [q2] at q;exact absurd (ha w c q) (Nat.lt_irrefl _)
    rw [key x h1,key y h2]
  .rename_i hk;rw [if_neg hk] at h2;exact fz r n acc ha h1 h2 hc
def iV(env:Env):List (Str×NameKind)->List (Str×Addr)->List (Str×Addr)
 | [],acc=>acc
 | (n,k)::r,acc=>if (k == .free)=true then iV env r ((n,(env.cells.lookup n).getD 0)::acc) else iV env r acc
theorem fA{env:Env}{x:Str}{c:Addr}:∀(names:List (Str×NameKind)) (acc:List (Str×Addr)),(iV env names acc).lookup x=some c->((x,NameKind.free)∈names/\c=(env.cells.lookup x).getD 0)\/acc.lookup x=some c
 | [],acc,h=>.inr h
 | (y,k)::r,acc,h=>by
  unfold iV at h
  split at h
  .rename_i hk;have hk':k=.free:=by simpa using hk
   subst hk'
   rcases fA r _ h with ⟨h1,h2⟩|h1
   .exact .inl ⟨mem_cons_of_mem _ h1,h2⟩
   .rw [lookup_cons] at h1
    cases e:x == y with
    | true =>
     rw [e] at h1;have ex:x=y:=by simpa using e
     subst ex;exact .inl ⟨mem_cons_self,(Option.some.inj h1).symm⟩
    | false=>rw [e] at h1;exact .inr h1
  .rcases fA r acc h with ⟨h1,h2⟩|h1
   .exact .inl ⟨mem_cons_of_mem _ h1,h2⟩
   .exact .inr h1
theorem iW{env:Env}{x:Str}:∀(names:List (Str×NameKind)) (acc:List (Str×Addr)),((x,NameKind.free)∈names\/(acc.lookup x).isSome=true)->((iV env names acc).lookup x).isSome=true
 | [],acc,h=>h.elim (fun z=>nomatch z) id
 | (y,k)::r,acc,h=>by
  unfold iV
  split
  .rename_i hk;refine iW r _ ?_
   by_cases e:(x == y)=true
   .exact .inr (by rw [lookup_cons,e];rfl)
   .rcases h with h|h
    .rcases mem_cons.mp h with z|z
     .cases z;exact absurd (by simp) e
     .exact .inl z
    .exact .inr (by rw [lookup_cons];rw [not_eq_true] at e;rw [e];exact h)
  .rename_i hk;refine iW r acc ?_
   rcases h with h|h
   .rcases mem_cons.mp h with z|z
    .cases z;exact absurd rfl hk
    .exact .inl z
   .exact .inr h
theorem kg{scope:Scope}{env:Env}(h:∀x∈scope.names,x.2=.free->∃c,env.cells.lookup x.1=some c):closureFor scope env=pure (iV env scope.names []):=by
 unfold closureFor
 have key:∀(names:List (Str×NameKind)) (acc:List (Str×Addr)),(∀x∈names,x.2=.free->∃c,env.cells.lookup x.1=some c) ->
   (forIn names acc fun (x:Str×NameKind) (r:List (Str×Addr))=>(if (x.2 == NameKind.free)=true then do let y <- cellOf env x.1;pure (ForInStep.yield ((x.1,y)::r)) else pure (ForInStep.yield r):Sem _))=pure (iV env names acc):=by
  intro names
  induction names with
  | nil=>intro acc _;rfl
  | cons p r ih =>
   intro acc hp;obtain⟨n,k⟩:=p;rw [forIn_cons];have hr:∀x∈r,x.2=.free->∃c,env.cells.lookup x.1=some c:=fun x hx=>hp x (mem_cons_of_mem _ hx);unfold iV
   by_cases hk:(k == NameKind.free)=true
   .obtain⟨c,hc⟩:=hp (n,k) mem_cons_self (by simpa using hk);have hc':env.cells.lookup n=some c:=hc;have e1:cellOf env n=pure c:=by unfold cellOf;rw [hc']
    simp only [hk,if_true];rw [e1,hc'];simp only [pure_bind];exact ih _ hr
   .rw [if_neg hk,if_neg hk];simp only [pure_bind];exact ih _ hr
 have e:=key scope.names [] h;have e2:∀(m:Sem (List (Str×Addr))),(m >>= fun r=>pure r)=m:=fun m=>bind_pure m;rw [<- e]
 first
  | rfl
  | exact (e2 _)
def vD(scope:Scope)(C:Addr)(env:Env):Env :=
 { scope:=relabel scope env,locals:=C,globals:=env.globals,cells:=cellsFrom (C+1) scope.names (iV env scope.names []),qual:=env.qual,func:=none,code:=env.code,frame:=env.frame,builtins:=env.builtins }
def c6(X:Cx)(N':List Str)(scope:Scope)(s:Shared)(H:Hp)(fp:List Addr)(pins:List (Addr×Obj)):Cx :=
 { X with N:=N',s₀:=s,H₀:=H,env:=vD scope s.heap.objs.size X.env,outer:=X.stack,stack:=X.stack,ex:=fp,fn:=fun x=>decide ((x,NameKind.cell)∈scope.names),pn:=X.pn++pins,xe:=fun _ _=>False }
def nW(sc0:Scope)(N:List Str)(scope:Scope)(N':List Str)(ix:List (Option Nat)):Bool :=
 decide (scope.kind=.function) && scope.names.all (fun y=>(!decide (y.2=.local) || decide (scope.names.lookup y.1=some .local)) &&
  (!decide (y.2=.free) || ((decide (sc0.names.lookup y.1=some .cell) || decide (sc0.names.lookup y.1=some .free)) && !decide ((y.1,NameKind.cell)∈scope.names)))) &&
 decide (N'.length=ix.length) && (N'.zip ix).all (fun p=>match p.2 with|none=>true|some j=>decide (N[j]?=some p.1) && decide (scope.names.lookup p.1=some .free))
structure vE (env:Env) (N:List Str) (scope:Scope) (N':List Str) (ix:List (Option Nat)):Prop where
 kind:scope.kind=.function
 loc:∀y∈scope.names,y.2=.local->scope.names.lookup y.1=some .local
 free:∀y∈scope.names,y.2=.free->(env.kindOf y.1=some .cell\/env.kindOf y.1=some .free)/\(y.1,NameKind.cell)∉scope.names
 len:N'.length=ix.length
 slot:∀(i:Nat) (x:Str) (j:Nat),N'[i]?=some x->ix[i]?=some (some j)->N[j]?=some x/\scope.names.lookup x=some .free
theorem pO{env:Env}{N:List Str}{scope:Scope}{N':List Str}{ix:List (Option Nat)}(h:nW env.scope N scope N' ix=true):vE env N scope N' ix:=by
 unfold nW at h;simp only [and_eq_true,decide_eq_true_eq,all_eq_true] at h;obtain⟨⟨⟨h1,h2⟩,h3⟩,h4⟩:=h
 refine⟨h1,fun y hy e=>?_,fun y hy e=>?_,h3,fun i x j e1 e2=>?_⟩
 .have:=(h2 y hy).1;rw [e] at this;simpa using this
 .have:=(h2 y hy).2;rw [e] at this;simpa [Env.kindOf] using this
 .have hm:(x,some j)∈N'.zip ix:=by
   refine mem_of_getElem? (i:=i) ?_;rw [getElem?_zip_eq_some];exact⟨e1,e2⟩
  have:=h4 _ hm;simpa using this
def rlf(env:Env)(p:Str×NameKind):Str×NameKind:=match p with|(n,k)=>if (k == NameKind.free && env.scope.kind == .function && env.kindOf n == some .cell) then (n,.cell) else (n,k)
theorem vF(env:Env)(n:Str)(k:NameKind):∃k',rlf env (n,k)=(n,k')/\(k'=k\/(k=.free/\k'=.cell)):=by
 unfold rlf
 by_cases c:(k == NameKind.free && env.scope.kind == .function && env.kindOf n == some .cell)=true
 .refine⟨.cell,if_pos c,.inr ⟨?_,rfl⟩⟩;simp only [and_eq_true,beq_iff_eq] at c;exact c.1.1
 .exact⟨k,if_neg c,.inl rfl⟩
theorem sM{env:Env}:∀{names:List (Str×NameKind)}{x:Str},names.lookup x=some .free->(names.map (rlf env)).lookup x=some .cell\/(names.map (rlf env)).lookup x=some .free
 | [],_,h=>by simp at h
 | (n,k)::r,x,h=>by
  have ih:=@sM env r x;obtain⟨k',e,hk'⟩:=vF env n k;rw [map_cons,e]
  cases hx:x == n with
  | true =>
   simp only [lookup_cons,hx] at h ⊢;have hk:k=.free:=Option.some.inj h
   rcases hk' with z|z
   .right;rw [z,hk]
   .left;rw [z.2]
  | false =>
   simp only [lookup_cons,hx] at h ⊢;exact ih h
theorem nX{env:Env}:∀{names:List (Str×NameKind)}{x:Str}{k':NameKind},(names.map (rlf env)).lookup x=some k'->k'=.cell\/k'=.free->names.lookup x=some .cell\/names.lookup x=some .free
 | [],_,_,h,_=>by simp at h
 | (n,k)::r,x,k',h,hk'=>by
  have ih:=@nX env r x k';obtain⟨k2,e,hk2⟩:=vF env n k;rw [map_cons,e] at h
  cases hx:x == n with
  | true =>
   simp only [lookup_cons,hx] at h ⊢;have:k2=k':=Option.some.inj h;subst this
   rcases hk2 with z|z
   .rw [<- z]
    rcases hk' with q|q
    .left;rw [q]
    .right;rw [q]
   .right;rw [z.1]
  | false =>
   simp only [lookup_cons,hx] at h ⊢;exact ih h hk'
theorem pP{x:Str}{c:Addr}:∀(names:List (Str×NameKind)) (n:Nat) (acc:List (Str×Addr)),(cellsFrom n names acc).lookup x=some c->(x,c)∈cellsFrom n names []\/acc.lookup x=some c:=by
 have app:∀(names:List (Str×NameKind)) (n:Nat) (acc:List (Str×Addr)),cellsFrom n names acc=cellsFrom n names []++acc:=by
  intro names
  induction names with
  | nil=>intro n acc;rfl
  | cons p r ih =>
   intro n acc;obtain⟨y,k⟩:=p;unfold cellsFrom
   split
   .rw [ih (n+1) ((y,n)::acc),ih (n+1) [(y,n)],append_assoc];rfl
   .exact ih n acc
 intro names n acc h;rw [app] at h;rw [lookup_append] at h
 cases e:(cellsFrom n names []).lookup x with
 | some d =>
  rw [e] at h;have:d=c:=by simpa using h
  subst this;exact .inl (mem_of_lookup e)
 | none=>rw [e] at h;exact .inr (by simpa using h)
def vG(ix:List (Option Nat))(σ:St):St:=ix.map fun o=>match o with
 | none=>none
 | some j=>match σ[j]? with
  | some v=>v
  | none=>none
section
variable {X:Cx}{pins:List (Addr×Obj)}{σ:St}{H:Hp}{s:Shared}
theorem x0{N':List Str}{ix:List (Option Nat)}{scope:Scope}{fp:List Addr}(ok:vE X.env X.N scope N' ix)(I:Inv X pins σ H s)(hf:∀b∈fp,tT X pins H b)(hfl:∀b∈fp,b<s.heap.objs.size) :
  Inv (c6 X N' scope s H fp pins) [] (vG ix σ) H { s with heap:=pushCells (s.heap.push { cls:=.type "dict",data:=.dict #[] }) scope.names }:=by
 have hk4:∀b o,s.heap.get? b=some o->(pushCells (s.heap.push { cls:=.type "dict",data:=.dict #[] }) scope.names).get? b=some o:=fun b o e=>pushCells_keeps _ _ b o (Heap.get?_push_of_some _ e)
 have hclo:∀x c,(iV X.env scope.names []).lookup x=some c->X.env.cells.lookup x=some c:=fun x c e=>by
  rcases fA scope.names [] e with ⟨h1,h2⟩|h1
  .obtain⟨d,hd⟩:=I.ok.has x (ok.free _ h1 rfl).1;rw [hd] at h2 ⊢;rw [h2];rfl
  .cases h1
 have hcl:∀x c,X.env.cells.lookup x=some c->c<s.heap.objs.size:=fun x c e=>by
  obtain⟨v,q⟩:=I.cell x c e;exact q.lt
 have own:=cellsFrom_ok scope.names (s.heap.push { cls:=.type "dict",data:=.dict #[] }) (s.heap.objs.size+1) [] ⟨fun _ _ hm=>(nomatch hm),List.Pairwise.nil⟩ (by rw [Heap.size_push];exact le_refl _);rw [Heap.size_push] at own
 have cases:∀x c,(cellsFrom (s.heap.objs.size+1) scope.names (iV X.env scope.names [])).lookup x=some c ->
   ((pushCells (s.heap.push { cls:=.type "dict",data:=.dict #[] }) scope.names).IsCell c none/\s.heap.objs.size+1<=c)\/X.env.cells.lookup x=some c:=fun x c e=>by
  rcases pP _ _ _ e with h|h
  .exact .inl (own.empty x c h)
  .exact .inr (hclo x c h)
 have fs':∀b,b∈frs X.stack->b<s.heap.objs.size:=fun b hb=>by
  rcases mem_cons.mp (I.stkSub b hb) with z|z
  .rw [z];exact I.lt
  .by_cases q:b<s.heap.objs.size
   .exact q
   .exact absurd z (I.nofs (not_lt.mp q))
 have cix:(c6 X N' scope s H fp pins).Ok:=by
  refine⟨I.ok.mod,ok.kind,I.ok.glob,I.ok.blt,le_refl _,fun x y c h1 h2=>?_,fun x hx=>?_,fun x c hx e=>?_,I.ok.hd,I.ok.frames,.inl rfl,fun b hb=>⟨ne_of_lt (hfl b hb),fun x c e=>?_⟩,fun b o e=>I.bs b o e,Nat.le_trans I.ok.bsz I.sz,fun b o e hb=>?_,fun b hb=>?_,I.stack,I.stkFree⟩
  .rcases cases x c h1 with ⟨_,z⟩|z
   .exact fz scope.names _ _ (fun w d e=>lt_succ_of_lt (hcl w d (hclo w d e))) h1 h2 z
   .rcases cases y c h2 with ⟨_,z2⟩|z2
    .exact absurd (hcl x c z) (not_lt.mpr (le_of_succ_le z2))
    .exact I.ok.inj x y c z z2
  .have hx':scope.names.lookup x=some .cell\/scope.names.lookup x=some .free:=by
    rcases hx with z|z
    .exact nX (env:=X.env) z (.inl rfl)
    .exact nX (env:=X.env) z (.inr rfl)
   rcases hx' with z|z
   .exact Option.isSome_iff_exists.mp (PySem.W.cellsFrom_some scope.names _ _ (.inl z))
   .exact Option.isSome_iff_exists.mp (PySem.W.cellsFrom_some scope.names _ _ (.inr (iW _ _ (.inl (mem_of_lookup z)))))
  .have hx':(x,NameKind.cell)∈scope.names:=of_decide_eq_true hx
   rcases cases x c e with ⟨_,z⟩|z
   .exact le_of_succ_le z
   .rcases pP _ _ _ e with h|h
    .exact le_of_succ_le (own.empty x c h).2
    .rcases fA scope.names [] h with ⟨h1,_⟩|h1
     .exact absurd hx' (ok.free _ h1 rfl).2
     .cases h1
  .intro z
   rcases cases x c e with ⟨_,z2⟩|z2
   .rw [z] at z2;exact absurd (hfl b hb) (not_lt.mpr (le_of_succ_le z2))
   .exact (hf b hb).2.2.2.2.1 x c z2 z
  .rcases (hf b hb).2.2.2.1 with z|z
   .exact I.ok.noex b o e z
   .exact absurd (Heap.lt_size (I.ok.bs b o e).1) (not_lt.mpr z)
  .intro z
   rcases mem_cons.mp (I.stkSub b z) with q|q
   .exact (hf b hb).2.1 q
   .exact (hf b hb).2.2.1 q
 refine⟨cix,rfl,I.bare,Un.kept hk4,⟨fun _=>none,?_,fun i x v e1 e2 e3=>?_⟩,fun x c e=>?_,I.hok.fresh (le_refl _),fun x c e=>?_,fun p hp=>?_,I.hok.kept hk4,?_⟩
 .exact (Heap.Ns.new s.heap (.type "dict")).keeps (pushCells_keeps _ _)
 .have e2':∃j,ix[i]?=some (some j)/\σ[j]?=some (some v):=by
   unfold vG at e2;rw [getElem?_map] at e2
   cases q:ix[i]? with
   | none=>rw [q] at e2;cases e2
   | some o =>
    rw [q] at e2
    cases o with
    | none=>cases (Option.some.inj e2)
    | some j =>
     refine⟨j,rfl,?_⟩;have e2'':(match σ[j]? with|some v=>v|none=>none)=some v:=Option.some.inj e2
     cases r:σ[j]? with
     | none=>rw [r] at e2'';cases e2''
     | some w=>rw [r] at e2'';exact congrArg some e2''
  obtain⟨j,hj,hv⟩:=e2';obtain⟨hN,hfr⟩:=ok.slot i x j e1 hj;have hk:=(ok.free _ (mem_of_lookup hfr) rfl).1
  have hvis:Vis X.env.scope x:=by
   rcases hk with z|z
   .exact .inr (.inl z)
   .exact .inr (.inr z)
  obtain⟨m,hn,hl⟩:=I.loc;obtain⟨u,ru,lk⟩:=hl j x v hN hv hvis
  refine⟨u,ru,.inr ⟨?_,?_⟩⟩
  .exact sM (env:=X.env) hfr
  .rcases lk with ⟨z,_⟩|⟨_,c,hc,hcell⟩
   .rcases hk with q|q
    .rw [z] at q;cases q
    .rw [z] at q;cases q
   .refine⟨c,?_,hcell.keeps hk4⟩;show (cellsFrom (s.heap.objs.size+1) scope.names (iV X.env scope.names [])).lookup x=some c;rw [fu scope.names _ _ (ok.free _ (mem_of_lookup hfr) rfl).2];obtain⟨d,hd⟩:=Option.isSome_iff_exists.mp (iW (env:=X.env) scope.names [] (.inl (mem_of_lookup hfr)));rw [hd,<- hclo x d hd,hc]
 .rcases cases x c e with ⟨z,_⟩|z
  .exact⟨none,z⟩
  .obtain⟨v,q⟩:=I.cell x c z;exact⟨v,q.keeps hk4⟩
 .rcases cases x c e with ⟨_,z⟩|z
  .exact I.hok.fresh (le_of_succ_le z)
  .exact I.freeC x c z
 .have hp':p∈X.pn++pins:=by simpa [c6] using hp
  obtain⟨q1,q2,q3,q4,q5⟩:=I.pin p hp';refine⟨hk4 _ _ q1,q2,ne_of_lt (Heap.lt_size q1),fun z=>?_,q5⟩
  rcases mem_cons.mp (I.stkSub p.1 z) with q|q
  .exact q3 q
  .exact q4 q
 .unfold vG;rw [length_map];exact ok.len.symm
end
section
variable {M:Model}{A:Around}{E:Value->Shared->Prop}{s:Shared}
theorem iA{scope:Scope}{globals:Addr}{cl:List (Str×Addr)}{qual:Str}{func:Option Addr}{code:Value}{env:Env}{Q:Env->Shared->Prop}
  (hQ:Q { scope:=scope,locals:=s.heap.objs.size,globals:=globals,cells:=cellsFrom (s.heap.objs.size+1) scope.names cl,qual:=qual,func:=func,code:=env.code,frame:=env.frame,builtins:=env.builtins }
   { s with heap:=pushCells (s.heap.push { cls:=.type "dict",data:=.dict #[] }) scope.names }) :
  wpAny M A (newFunctionEnv scope globals cl [] qual func code (some env)) Q E s:=by
 simp only [newFunctionEnv,Option.isSome_some,if_true];refine wpAny_bind (wpAny_alloc ?_);refine wpAny_bind (wpAny_layCells _ (fun name kind cells=>by cases hkc:kind == NameKind.cell <;> simp [hkc]) _ _ _ _ ?_);rw [show ({ s with heap:=s.heap.push { cls:=.type "dict",data:=.dict #[] } }:Shared).heap.objs.size=s.heap.objs.size+1 from Heap.size_push ..];simp only [forIn_nil];exact wpAny_bind (wpAny_pure (wpAny_pure hQ))
end
section
variable {prog:Program}{w:World}{A:Around}{R:Result->Shared->Prop}{s:Shared}
theorem pQ{elt target iter:Expr}{ifs:List Expr}{scope:Scope}{pos:Pos}{it acc:Value}{env:Env}(I:Nat->Shared->Prop)
  (turn:∀n s,I n s->wpAny (model prog w) A (pyNext it) (fun r s₁=>match r with
   | none=>R (.ok .next) s₁
   | some v=>wpAny (model prog w) A (letOwnedTupleGo target it v) (fun _ s₂=>wpAny (model prog w) A (assign target env v) (fun _ s₃ =>
     wpAny (model prog w) A (forIn ifs true fun c r=>if r=true then do let ok <- isTrue c env (eval c env);pure (ForInStep.yield ok) else pure (ForInStep.yield r)) (fun ok s₄ =>
      if ok=true then wpAny (model prog w) A (eval elt env) (fun x s₅ =>
       wpAny (model prog w) A (call (.builtin "list.append") [acc,x]) (fun _ s₆=>∃m,m<n/\I m s₆) (fun _ _=>False) s₅) (fun _ _=>False) s₄
      else ∃m,m<n/\I m s₄) (fun _ _=>False) s₃) (fun _ _=>False) s₂) (fun _ _=>False) s₁) (fun _ _=>False) s)
  (n:Nat) (h:I n s) :
  codeAny (model prog w) A (.compLoop (.ListComp elt [⟨target,iter,ifs,0⟩] scope pos) 0 it acc env) R s:=by
 refine codeAny_loop rfl I (fun n s hI=>?_) n h;show wpAny _ A ((compTurn (.ListComp elt [⟨target,iter,ifs,0⟩] scope pos) 0 it acc env).onRaise (fun x=>do noteFrame x env;theTreesLotGoes x)) _ _ s;refine wpAny_noted ?_;rw [compTurn_list];refine wpAny_bind (wpAny_standAt (wpAny_bind (wpAny_mono (turn n s hI) (fun r s₁ h₁=>?_) fun _ _ h'=>h'.elim)))
 cases r with
 | none=>exact wpAny_pure h₁
 | some v =>
  refine wpAny_bind (wpAny_mono h₁ (fun _ s₂ h₂=>?_) fun _ _ h'=>h'.elim);refine wpAny_bind (wpAny_mono h₂ (fun _ s₃ h₃=>wpAny_bind (wpAny_mono h₃ (fun ok s₄ h₄=>?_) fun _ _ h'=>h'.elim)) fun _ _ h'=>h'.elim)
  cases ok with
  | false=>exact wpAny_pure ⟨rfl,h₄⟩
  | true =>
   exact wpAny_bind (wpAny_bind (wpAny_mono h₄ (fun x s₅ h₅=>wpAny_bind (wpAny_mono h₅ (fun _ s₆ h₆=>wpAny_pure (wpAny_pure ⟨rfl,h₆⟩)) fun _ _ h'=>h'.elim)) fun _ _ h'=>h'.elim))
end
def PIf(X:Cx)(ifs:List Expr)(t:TT):Prop :=
 ∀(pins:List (Addr×Obj)) (s:Shared) (σ:St) (H:Hp) (Q:Bool->Hp->Prop),Inv X pins σ H s->t σ H Q ->
  wpAny (model X.prog X.w) X.A (forIn ifs true fun c r=>if r=true then do let ok <- isTrue c X.env (eval c X.env);pure (ForInStep.yield ok) else pure (ForInStep.yield r)) (TP X pins σ Q) X.xe s
def jN:TT:=fun _ H Q=>Q true H
section
variable {X:Cx}
theorem cq:PIf X [] jN:=fun _ _ _ H _ I h=>wpAny_tests_nil ⟨H,I,h⟩
theorem jh{c:Expr}{t:TT}(h:PT X c t):PIf X [c] t:=fun pins s σ H Q I q=>wpAny_tests_one (h pins s σ H Q I q)
end
def pR(ix:List (Option Nat))(wi:TI)(g:TG)(tts:TT)(te:TE):TE:=fun σ H Q=>wi σ H fun J H1=>∀D,H1 D=none->∃W:Nat->Nat->St->Hp->Prop,(∃m,W 0 m (vG ix σ) (upd H1 D (.lst [])))/\∀i m τ H2,W i m τ H2 ->
 (J.stop i H2/\Q (.ref D) H2)\/(J.go i H2/\∀x H3,J.yld i H2 x H3->g x τ H3 fun τ2 H4=>tts τ2 H4 fun ok H5=>if ok=true then te τ2 H5 fun v H6=>∃ys,H6 D=some (.lst ys)/\ys.length<sizeLine/\∃m',m'<m/\W (i+1) m' τ2 (upd H6 D (.lst (ys++[v])))
  else ∃m',m'<m/\W (i+1) m' τ2 H5)
section
variable {X:Cx}{tg iter elt:Expr}{ifs:List Expr}{scope:Scope}{N':List Str}{ix:List (Option Nat)}{wi:TI}{g:TG}{tts:TT}{te:TE}
theorem pS{use:Option (Value->Sem Unit)}{Qf:Value->Shared->Prop}{pos p':Pos}{pins:List (Addr×Obj)}{σ:St}{H:Hp}{s:Shared}{Q:VK}(hc:X.calm=true)(ok:vE X.env X.N scope N' ix)(hi:PI X tg iter wi)
  (blk:∀s H fp pn,PG (c6 X N' scope s H fp pn) tg g/\PIf (c6 X N' scope s H fp pn) ifs tts/\PE (c6 X N' scope s H fp pn) elt te)
  (hs:∀x,foldedSetIterable iter X.env x=pure x) (I:Inv X pins σ H s) (hw:pR ix wi g tts te σ H Q)
  (fin:∀D C H' s',Inv X pins σ H' s'->Q (.ref D) H'->(∃m,s'.heap.Ns C m)->H' C=none->X.s₀.heap.objs.size<=C->C≠X.env.locals->(∀x c,X.env.cells.lookup x=some c->c≠C)->C∉X.fs->(∀p∈X.pn++pins,p.1≠C) ->
   compPost (model X.prog X.w) X.A X.xe use Qf (.ref D) C (.ok .next) s') :
  wpAny (model X.prog X.w) X.A (comprehension (.ListComp elt [⟨tg,iter,ifs,0⟩] scope pos) scope X.env p' (newList []) false (eval iter X.env) use) Qf X.xe s:=by
 have hclos:closureFor scope X.env=pure (iV X.env scope.names []):=kg fun y hy e=>I.ok.has y.1 (ok.free y hy e).1;refine wpAny_comprehension_free (use:=use) rfl hs hclos ok.kind ok.loc (thn (hi pins s σ H _ I hw) fun v s1 h1=>thn h1 fun itv s2 h2=>?_);obtain⟨it,fp,tn,J,H2,e,I2,T,st2,f2,hW⟩:=h2;subst e;obtain⟨W,⟨m0,w0⟩,turn⟩:=hW s2.heap.objs.size (I2.hok.fresh (le_refl _))
 have hfl:∀b∈fp,b<s2.heap.objs.size:=fun b hb=>by
  obtain⟨o,e,_⟩:=T.obj 0 _ st2 b hb;exact Heap.lt_size e
 refine wpAny_newObj_type ?_
 have I3:Inv X pins σ (upd H2 s2.heap.objs.size (.lst [])) { s2 with heap:=s2.heap.push { cls:=.type "list",dict:=none,data:=.seq ([]:List Value).toArray } } :=
  I2.laid (t':=s2.toks) (fun b o e=>Heap.get?_push_of_some _ e) (le_refl _) (show dq X.prog X.w _ _ _ (.lst []) from ⟨zero_le _,[],0,.nil,Heap.get?_push_size _ rfl⟩)
 have st3:tn 0 (s2.heap.push { cls:=.type "list",dict:=none,data:=.seq ([]:List Value).toArray }):=T.keep 0 _ _ st2 fun b _ o e=>Heap.get?_push_of_some _ e;have f3:∀b∈fp,tT X pins (upd H2 s2.heap.objs.size (.lst [])) b:=fun b hb=>⟨by rw [aM (ne_of_lt (hfl b hb))];exact (f2 b hb).1,(f2 b hb).2⟩
 have hfl3:∀b∈fp,b<(s2.heap.push { cls:=.type "list",dict:=none,data:=.seq ([]:List Value).toArray }).objs.size:=fun b hb=>by rw [Heap.size_push];exact lt_succ_of_lt (hfl b hb)
 generalize hs3:({ s2 with heap:=s2.heap.push { cls:=.type "list",dict:=none,data:=.seq ([]:List Value).toArray } }:Shared)=s3 at I3 ⊢;have eh3:s3.heap=s2.heap.push { cls:=.type "list",dict:=none,data:=.seq ([]:List Value).toArray }:=by rw [<- hs3]
 rw [<- eh3] at st3 hfl3;generalize hH3:upd H2 s2.heap.objs.size (.lst [])=H3 at I3 f3 w0;generalize hD:s2.heap.objs.size=D at *;refine iA ?_;have I4:=x0 ok I3 f3 hfl3;obtain⟨hg,ht,he⟩:=blk s3 H3 fp pins;have st4:tn 0 (pushCells (s3.heap.push { cls:=.type "dict",data:=.dict #[] }) scope.names):=T.keep 0 _ _ st3 fun b _ o e=>pushCells_keeps _ _ b o (Heap.get?_push_of_some _ e)
 have stat:∀{H':Hp},(∀b∈fp,H' b=none)->∀b∈fp,tT (c6 X N' scope s3 H3 fp pins) [] H' b:=fun hn b hb=>by
  refine⟨hn b hb,ne_of_lt (hfl3 b hb),I4.ok.exfs b hb,.inl hb,(I4.ok.exf b hb).2,fun p hp=>?_⟩;have hp':p∈X.pn++pins:=by simpa [c6] using hp
  exact (f2 b hb).2.2.2.2.2 p hp'
 have loop:∀(s4:Shared),Inv (c6 X N' scope s3 H3 fp pins) [] (vG ix σ) H3 s4->tn 0 s4.heap ->
   codeAny (model X.prog X.w) X.A (.compLoop (.ListComp elt [⟨tg,iter,ifs,0⟩] scope pos) 0 (.ref it) (.ref D) (vD scope s3.heap.objs.size X.env)) (compPost (model X.prog X.w) X.A X.xe use Qf (.ref D) s3.heap.objs.size) s4:=by
  intro s4 I4 st4;refine pQ (fun n s'=>∃i τ H',Inv (c6 X N' scope s3 H3 fp pins) [] τ H' s'/\tn i s'.heap/\(∀b∈fp,H' b=none)/\W i n τ H') ?_ m0 ⟨0,_,H3,I4,st4,fun b hb=>(f3 b hb).1,w0⟩;rintro n s5 ⟨i,τ,H5,I5,st5,fr5,w5⟩
  rcases turn i n τ H5 w5 with ⟨stop,qn⟩|⟨go,step⟩
  .refine thn (T.done (c6 X N' scope s3 H3 fp pins) rfl rfl rfl hc i [] s5 τ H5 (fun _ _=>False) I5 (stat fr5) st5 stop) fun r s6 ⟨hr,I6⟩=>?_;subst hr;have I7:Inv X pins σ H5 s6:=I3.call' (ch:=fp) I6.os I6.base I6.hok I6.bare fun b hb=>⟨(f2 b hb).2.2.2.1,(f2 b hb).2.1,(f2 b hb).2.2.2.2.1,(f2 b hb).2.2.2.2.2⟩
   obtain⟨m6,hn6,_⟩:=I6.loc
   refine fin D s3.heap.objs.size H5 s6 I7 qn ⟨m6,hn6⟩ I6.free ?_ ?_ ?_ ?_ ?_
   .exact I3.sz
   .exact ne_of_gt I3.lt
   .intro x c e z;obtain⟨v,q⟩:=I3.cell x c e;have:=q.lt;rw [z] at this;exact Nat.lt_irrefl _ this
   .exact I3.nofs (le_refl _)
   .intro p hp z;have:=Heap.lt_size (I3.pin p hp).1;rw [z] at this;exact Nat.lt_irrefl _ this
  .refine thn (T.item (c6 X N' scope s3 H3 fp pins) rfl rfl rfl hc i [] s5 τ H5 (fun _ _=>False) I5 (stat fr5) st5 go) fun r s6 ⟨u,hr,h6⟩=>?_;subst hr;refine thn h6 fun _ s7 ⟨x,H7,I7,r7,y7,st7,fr7⟩=>?_;have I7':=I7.pinned (stat fr7) (T.obj _ _ st7)
   have again:∀{s8:Shared}{τ8:St}{H8:Hp},Inv (c6 X N' scope s3 H3 fp pins) ([]++px fp s7.heap) τ8 H8 s8->(∃m',m'<n/\W (i+1) m' τ8 H8) ->
     ∃m,m<n/\∃i τ H',Inv (c6 X N' scope s3 H3 fp pins) [] τ H' s8/\tn i s8.heap/\(∀b∈fp,H' b=none)/\W i m τ H':=fun {s8 τ8 H8} I8 ⟨m',hm,w8⟩=>by
    refine⟨m',hm,i+1,τ8,H8,I8.unpinned,T.keep _ _ _ st7 fun b hb o e=>(I8.pin (b,o) (mem_append_right _ (mem_append_right _ (gQ hb e)))).1,fun b hb=>?_,w8⟩;obtain⟨o,e,d⟩:=T.obj _ _ st7 b hb;exact (I8.pin (b,o) (mem_append_right _ (mem_append_right _ (gQ hb e)))).2.1
   refine thn (hg _ s7 τ H7 x u _ I7' r7 (step x H7 y7)) fun _ s8 ⟨τ8,H8,I8,q8⟩=>?_;refine thn (ht _ s8 τ8 H8 _ I8 q8) fun okb s9 ⟨H9,I9,q9⟩=>?_
   cases okb with
   | false =>
    rw [if_neg Bool.false_ne_true] at q9;rw [if_neg Bool.false_ne_true];exact again I9 q9
   | true =>
    rw [if_pos rfl] at q9;rw [if_pos rfl];refine thn (he _ s9 τ8 H9 _ I9 q9) fun v10 s10 ⟨x10,H10,I10,r10,q10⟩=>?_;obtain⟨ys,hD10,hz,m',hm,w10⟩:=q10;refine thn (gy (X:=c6 X N' scope s3 H3 fp pins) _ s10 τ8 H10 (.ref D) [x10] (.ref D) [v10] (fun _ H'=>∃m',m'<n/\W (i+1) m' τ8 H') I10 rfl (.cons r10 .nil) ⟨D,ys,x10,rfl,rfl,hD10,hz,m',hm,w10⟩) fun _ s11 ⟨_,H11,I11,_,q11⟩=>?_;exact again I11 q11
 exact codeAny_compStart_list (loop _ I4 st4) (T.self X.A 0 _ _ _ st4 (loop _ I4 st4))
theorem bK{pos:Pos}(N':List Str)(ix:List (Option Nat))(hc:X.calm=true)(hi:PI X tg iter wi)
  (blk:∀s H fp pn,PG (c6 X N' scope s H fp pn) tg g/\PIf (c6 X N' scope s H fp pn) ifs tts/\PE (c6 X N' scope s H fp pn) elt te)
  (chk:nW X.env.scope X.N scope N' ix=true) (hs:∀x,foldedSetIterable iter X.env x=pure x:=by intro _;rfl) :
  PE X (.ListComp elt [⟨tg,iter,ifs,0⟩] scope pos) (pR ix wi g tts te):=by
 intro pins s σ H Q I hw;rw [eval_ListComp];refine pS (use:=none) hc (pO chk) hi blk hs I hw fun D C H' s' I' q hm hn h1 h2 h3 h4 h5=>?_;obtain⟨m,hm⟩:=hm;refine⟨m,hm,fun h' sb=>⟨.ref D,H',?_,rfl,q⟩⟩;exact I'.turned (t':=s'.toks) (fun b o hb e=>(sb.2 b hb).trans e) hn h2 (.inr h1) h3 h5
end
section
variable {X:Cx}{tg iter elt:Expr}{ifs:List Expr}{scope:Scope}{N':List Str}{ix:List (Option Nat)}{wi:TI}{g:TG}{tts:TT}{te:TE}
theorem vH{i:Nat}{x:Str}{pos pos' cpos:Pos}(N':List Str)(ix:List (Option Nat))(hN:X.N.Nodup)(hi:X.N[i]?=some x)(hx:Loc X.env.scope x)(hc:X.calm=true)(hit:PI X tg iter wi)
  (blk:∀s H fp pn,PG (c6 X N' scope s H fp pn) tg g/\PIf (c6 X N' scope s H fp pn) ifs tts/\PE (c6 X N' scope s H fp pn) elt te)
  (chk:nW X.env.scope X.N scope N' ix=true) (hsw:swapsWith (.ListComp elt [⟨tg,iter,ifs,0⟩] scope cpos) (some (.Name x pos')) pos.line X.env=pure true:=by rfl)
  (hs:∀x,foldedSetIterable iter X.env x=pure x:=by intro _;rfl) (hf:X.fn x=true\/X.env.scope.names.lookup x=some .local:=by first|exact .inl rfl|exact .inr rfl|assumption) :
  PS X (.Assign [.Name x pos'] (.ListComp elt [⟨tg,iter,ifs,0⟩] scope cpos) pos) (BD (pR ix wi g tts te) (cw i)):=by
 intro pins s σ H D I hw;rw [exec_Assign_Name_used _ _ _ _ hsw];refine wpAny_bind (wpAny_standAt (wpAny_bind ?_));show wpAny _ X.A (do let _ <- comprehension (.ListComp elt [⟨tg,iter,ifs,0⟩] scope cpos) scope X.env _ (newList []) false (eval iter X.env) (some (assign (.Name x pos') X.env))) _ _ s;refine wpAny_bind (thn (pS (use:=some (assign (.Name x pos') X.env)) (Qf:=fun _ s'=>SP X pins D .next s') hc (pO chk) hit blk hs I hw fun D' C H' s' I' q hm hn h1 h2 h3 h4 h5=>?_) fun _ s' q=>wpAny_pure (wpAny_pure q))
 obtain⟨m,oC,es,ep,hoC,hdC,hrC⟩:=hm
 have Ip:Inv X (pins++[(C,oC)]) σ H' s':=I'.pins_of fun p hp=>(mem_append.mp hp).elim (fun z=>I'.pin p (mem_append_right _ z)) fun z=>by
  have e:p=(C,oC):=by simpa using z
  subst e;exact⟨hoC,hn,h2,h4,fun v z=>by rw [hdC] at z;cases z⟩
 refine wpAny_assign_Name (nN (v:=.ref D') Ip hN hi hx rfl (fun s2 I2=>?_) hf);have hC2:s2.heap.get? C=some oC:=(I2.pin (C,oC) (by simp)).1;have I2':Inv X pins (σ.set i (some (.ref D'))) H' s2:=I2.pins_of fun p hp=>I2.pin p (mem_append_right _ (mem_append_left _ hp));refine⟨m,⟨oC,es,ep,hC2,hdC,hrC⟩,fun h' sb=>⟨_,H',?_,q⟩⟩;exact I2'.turned (t':=s2.toks) (fun b o hb e=>(sb.2 b hb).trans e) hn h2 (.inr h1) h3 h5
end
def y9(p:Addr)(a b c:Int):HO:=.ext fun h=>∃t u v,IsRange h p a b c t u v
def qZ(a c:Int)(n:Nat):List V:=(List.range n).map fun (k:Nat)=>V.int (a+k*c)
theorem ug{a c:Int}{n:Nat}{acc:Array Value}(h:ItemsOf (fun i v=>∃t,v=.int (a+i*c) t) acc n):cm (qZ a c n) acc.toList:=by
 obtain⟨hn,hi⟩:=h
 have key:∀(m:Nat) (us:List Value) (f:Nat->Int),us.length=m->(∀i u,us[i]?=some u->∃t,u=Value.int (f i) t)->cm ((List.range m).map fun k=>V.int (f k)) us:=by
  intro m
  induction m with
  | zero=>intro us f hl _;rw [length_eq_zero_iff] at hl;subst hl;exact .nil
  | succ m ih =>
   intro us f hl hu
   cases us with
   | nil=>simp at hl
   | cons u r =>
    rw [range_succ_eq_map,map_cons,map_map];refine .cons (hu 0 u rfl) (ih r (fun k=>f (k+1)) (by simpa using hl) fun i v e=>hu (i+1) v (by simpa using e))
 refine key n acc.toList (fun k=>a+k*c) (by simpa using hn) fun i u e=>?_;exact hi i u (by simpa using e)
theorem vI(a c:Int)(n:Nat):(qZ a c n).length=n:=by simp [qZ]
section
variable {X:Cx}
theorem x3{pins:List (Addr×Obj)}{σ:St}{H:Hp}{s:Shared}{a b c:Int}{t u v:Tok}{tk:Nat}(I:Inv X pins σ H s) :
  Inv X pins σ (upd H s.heap.objs.size (y9 s.heap.objs.size a b c)) { s with heap:=s.heap.push { cls:=.type "range",data:=.fields #[.int a t,.int b u,.int c v] },toks:=tk }:=by
 refine I.laid (fun b o e=>Heap.get?_push_of_some _ e) (le_refl _) ⟨⟨t,u,v,IsRange.new ..⟩,⟨_,Heap.get?_push_size _ rfl⟩,fun h1 h2 ⟨t,u,v,z⟩ k=>⟨t,u,v,k _ z⟩⟩
theorem pT{a:Expr}{ta:TA}{p pos:Pos}(hg:Gl X "range")(hm:X.mg "range"=none)(ha:PA X [a] ta)(hs:starEach [a] X.env=[(false,eval a X.env)]:=by rfl) :
  PE X (.Call (.Name "range" p) [a] [] pos) (fun σ H Q=>ta σ H fun vs H1=>∃j:Int,vs=[.int j]/\∀p,H1 p=none->Q (.ref p) (upd H1 p (y9 p 0 j 1))):=by
 intro pins s σ H Q I h;refine Call_ (iQ I hg hm boot_range (PyProof.Rows.callWith_type1 (thn (ha pos pins s σ H _ I h) fun us s1 ⟨vs,H1,I1,r1,q1⟩=>?_) hs rfl));obtain⟨j,e,q⟩:=q1;subst e
 cases r1 with
 | cons r rr =>
  cases rr;obtain⟨t,rfl⟩:=r;exact call_range_1 ⟨.ref s1.heap.objs.size,_,x3 I1,rfl,q _ (I1.hok.fresh (le_refl _))⟩
def Ek(K:PySem.W.Frag)(mk:List V->HO):List V->Hp->VK->Prop:=fun xs H Q=>∃p a b c n,xs=[.ref p]/\H p=some (y9 p a b c)/\Builtin.Range.small a b c=true/\Builtin.Range.rangeSize a b c=((n:Nat):Int)/\n<=1000000/\∀l,H l=none->Q (.ref l) (upd H l (mk (qZ a c n)))
theorem uh(hc:X.calm=true):cp X (.type "list") (Ek X.K .lst):=by
 intro pins s σ H xs us Q I r h;obtain⟨p,a,b,c,n,rfl,hp,hsm,hsz,hn,q⟩:=h;obtain⟨u,rfl,rx⟩:=gw r;cases rx;obtain⟨⟨t,u,v,hr⟩,_,_⟩:=(show dq X.prog X.w H s.heap p (y9 p a b c) from I.hok p _ hp)
 have hs:sizeLine=16777216:=sizeLine_eq;refine call_list_range (I.ok.hd hc) hr hsm hsz (by omega) fun h' tk acc c' hk e hacc=>?_;exact⟨.ref s.heap.objs.size,_,I.laid (t':=tk) hk (le_refl _) (show dq X.prog X.w _ h' _ (.lst (qZ a c n)) from ⟨by rw [vI];omega,acc.toList,c',ug hacc,by simpa using e⟩),rfl,q _ (I.hok.fresh (le_refl _))⟩
end
def e6(k:Bool)(h:Heap)(a:Addr)(its:Array Value):Prop:=∃o,h.get? a=some o/\o.cls=.type (cond k "tuple" "list")/\∃n,o.data=.seq its n
def c8(k:Bool)(h:Heap)(it a:Addr)(i:Nat):Prop:=∃o,h.get? it=some o/\o.cls=.type (cond k "tuple_iterator" "list_iterator")/\o.data=.fields #[.ref a,.int i 0]
theorem e6.mv{k:Bool}{h h':Heap}{a:Addr}{its:Array Value}(r:e6 k h a its)(f:∀o,h.get? a=some o->h'.get? a=some o):e6 k h' a its:=let ⟨o,e,q⟩:=r;⟨o,f o e,q⟩
theorem c8.mv{k:Bool}{h h':Heap}{it a:Addr}{i:Nat}(r:c8 k h it a i)(f:∀o,h.get? it=some o->h'.get? it=some o):c8 k h' it a i:=let ⟨o,e,q⟩:=r;⟨o,f o e,q⟩
section
variable {P:Program}{w:World}{A:Around}{E:Value->Shared->Prop}{s:Shared}{k:Bool}{it a:Addr}{i:Nat}{its:Array Value}
theorem pU{x:Value}{Q:Value->Shared->Prop}(W:s.heap.IsTupleIter it a i)(R:s.heap.IsTuple a its)(hx:its[i]?=some x)
  (hQ:∀h',h'.IsTupleIter it a (i+1)->Heap.SameBut it s.heap h'->Q x { s with heap:=h' }):wpAny (model P w) A (Builtin.SmallTypes.nextOf (.ref it)) Q E s:=by
 have hT:=W.typeIs;obtain⟨o,ho,c,d⟩:=W;obtain⟨ol,hol,_,nl,dl⟩:=R;unfold Builtin.SmallTypes.nextOf;refine wpAny_bind (wpAny_callSpecial?_slot (name:=Str.ofString "__next__") hT F.slot_tuple_iterator_next (wpAny_call_entry F.slot_tuple_iterator_next hT F.entry_tuple_iterator_next ?_ (F.args_tuple_iterator_next_1 _)));refine wpAny_bind (m:=field (.ref it) 0) (wpAny_field ho d (x:=.ref a) rfl ?_);have nn:¬ ((Value.ref a == Value.none)=true):=Bool.false_ne_true
 show wpAny _ _ (if (Value.ref a == Value.none)=true then _ else _) _ _ s;rw [if_neg nn];refine wpAny_bind (m:=field (.ref it) 1) (wpAny_field ho d (x:=.int i 0) rfl ?_);refine wpAny_bind (m:=seqItems? (.ref a)) (wpAny_seqItems hol dl ?_);simp only [toNat_natCast,hx];exact wpAny_bind (wpAny_setField ho d (by simp) (wpAny_pure ⟨x,rfl,wpAny_pure (hQ _ ⟨_,Heap.get?_update_self _ ho (Obj.isFreed_of_fields (Obj.data_mapFields d _)),(Obj.cls_mapFields ..).trans c,by rw [Obj.data_mapFields d];simp [rawInt]⟩ (Heap.SameBut.update ..))⟩))
theorem rc{Q:Value->Shared->Prop}(hh:A.handled=none)(W:s.heap.IsTupleIter it a i)(R:s.heap.IsTuple a its)(hx:its[i]?=none)
  (hE:∀h' e,Heap.ExtBut it s.heap h'->(∃o,h'.get? e=some o/\o.cls=.type "StopIteration")->E (.ref e) { s with heap:=h' }):wpAny (model P w) A (Builtin.SmallTypes.nextOf (.ref it)) Q E s:=by
 have hT:=W.typeIs;obtain⟨o,ho,c,d⟩:=W;obtain⟨ol,hol,_,nl,dl⟩:=R;unfold Builtin.SmallTypes.nextOf;refine wpAny_bind (wpAny_callSpecial?_slot (name:=Str.ofString "__next__") hT F.slot_tuple_iterator_next (wpAny_call_entry F.slot_tuple_iterator_next hT F.entry_tuple_iterator_next ?_ (F.args_tuple_iterator_next_1 _)));refine wpAny_bind (m:=field (.ref it) 0) (wpAny_field ho d (x:=.ref a) rfl ?_);have nn:¬ ((Value.ref a == Value.none)=true):=Bool.false_ne_true
 show wpAny _ _ (if (Value.ref a == Value.none)=true then _ else _) _ _ s;rw [if_neg nn];refine wpAny_bind (m:=field (.ref it) 1) (wpAny_field ho d (x:=.int i 0) rfl ?_);refine wpAny_bind (m:=seqItems? (.ref a)) (wpAny_seqItems hol dl ?_);simp only [toNat_natCast,hx];refine wpAny_bind (wpAny_rule (wpAny_bind (wpAny_setField ho d (by simp) (wpAny_bind (m:=newExc (.type "StopIteration") []) ?_))));simp only [newExc,newTuple]
 refine wpAny_bind (wpAny_newObj_type (wpAny_bind (m:=firstArgMember _ _) (wpAny_of_eq (a:=Value.none) (by first|rfl|(simp only [firstArgMember];rfl)) (wpAny_newObj_type ?_ (by size_fits)))) (by size_fits));simp only [raiseNew];refine wpAny_bind (wpAny_handled ?_)
 first|rw [show A.in1.handled=none from hh]|rw [hh]
 exact wpAny_bind (wpAny_pure (wpAny_throw (hE _ _ (((Heap.SameBut.update ..).extBut.push _).push _) ⟨_,Heap.get?_push_size _ rfl,rfl⟩)))
theorem eM{x:Value}{Q:Value->Shared->Prop}(W:c8 k s.heap it a i)(R:e6 k s.heap a its)(hx:its[i]?=some x)
  (hQ:∀h',c8 k h' it a (i+1)->Heap.SameBut it s.heap h'->Q x { s with heap:=h' }):wpAny (model P w) A (Builtin.SmallTypes.nextOf (.ref it)) Q E s:=by
 cases k with
 | false=>exact wpAny_nextOf_list_item W R hx hQ
 | true=>exact pU W R hx hQ
theorem fB{Q:Value->Shared->Prop}(hh:A.handled=none)(W:c8 k s.heap it a i)(R:e6 k s.heap a its)(hx:its[i]?=none)
  (hE:∀h' e,Heap.ExtBut it s.heap h'->(∃o,h'.get? e=some o/\o.cls=.type "StopIteration")->E (.ref e) { s with heap:=h' }):wpAny (model P w) A (Builtin.SmallTypes.nextOf (.ref it)) Q E s:=by
 cases k with
 | false=>exact wpAny_nextOf_list_end hh W R hx hE
 | true=>exact rc hh W R hx hE
end
structure ZA (z U V i j:Addr):Prop where
 Uz:U≠z
 Vz:V≠z
 iz:i≠z
 jz:j≠z
 UV:U≠V
 Ui:U≠i
 Uj:U≠j
 Vi:V≠i
 Vj:V≠j
 ij:i≠j
section
variable {P:Program}{w:World}{A:Around}{E:Value->Shared->Prop}{s:Shared}{k l:Bool}{z U V i j a c:Addr}{n:Nat}{xs ys:Array Value}{x y u v:Value}
theorem Au{Q:Value->Shared->Prop}(D:ZA z U V i j)(az:a≠z)(cz:c≠z)(ci:c≠i)(cV:c≠V)(hz:IsZip s.heap z U V .none)(hU:IsPair s.heap U (.ref i) (.ref j))(hV:IsPair s.heap V u v)
  (W1:c8 k s.heap i a n) (W2:c8 l s.heap j c n) (R1:e6 k s.heap a xs) (R2:e6 l s.heap c ys) (hx:xs[n]?=some x) (hy:ys[n]?=some y)
  (hQ:∀h',IsZip h' z U V (rawInt s.heap.objs.size)->IsPair h' V x y->c8 k h' i a (n+1)->c8 l h' j c (n+1)->IsPair h' s.heap.objs.size x y->h'.objs.size=s.heap.objs.size+1 ->
   (∀b o,b≠z->b≠V->b≠i->b≠j->s.heap.get? b=some o->h'.get? b=some o)->Q (.ref s.heap.objs.size) { s with heap:=h' }) :
  wpAny (model P w) A (Builtin.«zip.__next__» ⟨[.ref z],[]⟩) (fun f s'=>∃r,f=.done (.ret r)/\Q r s') E s:=by
 refine wpAny_bind (m:=field (.ref z) 2) (wpAny_field hz rfl (x:=.bool false) rfl (wpAny_bind (m:=field (.ref z) 3) (wpAny_field hz rfl (x:=.ref U) rfl (wpAny_bind (wpAny_seqItems hU rfl ?_)))));refine wpAny_bind (m:=Builtin.SmallTypes.ownedTupleIsFree (.ref z)) ?_;unfold Builtin.SmallTypes.ownedTupleIsFree;refine wpAny_bind (wpAny_field hz rfl (x:=.none) rfl (wpAny_pure ?_));simp only [if_true];refine wpAny_bind (wpAny_rule (wpAny_bind (wpAny_field hz rfl (x:=.ref V) rfl (wpAny_bind (wpAny_setField_rec hz (by simp) fun g1 z1 b1=>wpAny_bind ?_)))))
 replace z1:IsZip g1 z U V .ellipsis:=z1
 simp only [zipIdx_cons,zipIdx_nil,forIn_cons,forIn_nil];have e1:=b1.extBut;refine wpAny_bind (wpAny_bind (wpAny_onRaise (wpAny_bind (m:=Builtin.SmallTypes.nextOf (.ref i)) (eM (W1.mv fun o e=>e1 _ o D.iz e) (R1.mv fun o e=>e1 _ o az e) hx fun g2 w1 b2=>wpAny_pure ?_))));have e2:=b2.extBut;have v2:IsPair g2 V u v:=e2 _ _ D.Vi (e1 _ _ D.Vz hV);refine wpAny_bind (wpAny_seqItems v2 rfl (wpAny_bind (wpAny_updateSeq_pair v2 fun g3 v3 b3=>wpAny_bind (wpAny_letGo (wpAny_pure ?_)))))
 replace v3:IsPair g3 V x v:=v3
 have e3:=b3.extBut;refine wpAny_bind (wpAny_bind (wpAny_onRaise (wpAny_bind (m:=Builtin.SmallTypes.nextOf (.ref j)) (eM (W2.mv fun o e=>e3 _ o D.Vj.symm (e2 _ o D.ij.symm (e1 _ o D.jz e))) (R2.mv fun o e=>e3 _ o cV (e2 _ o ci (e1 _ o cz e))) hy fun g4 w2 b4=>wpAny_pure ?_))));have e4:=b4.extBut;have v4:IsPair g4 V x v:=e4 _ _ D.Vj v3;refine wpAny_bind (wpAny_seqItems v4 rfl (wpAny_bind (wpAny_updateSeq_pair v4 fun g5 v5 b5=>wpAny_bind (wpAny_letGo (wpAny_pure (wpAny_pure ?_))))))
 replace v5:IsPair g5 V x y:=v5
 have e5:=b5.extBut;refine wpAny_bind (wpAny_seqItems v5 rfl (wpAny_bind (wpAny_newTuple ?_)));have sz:g5.objs.size=s.heap.objs.size:=by rw [b5.1,b4.1,b3.1,b2.1,b1.1]
 have z5:IsZip g5 z U V .ellipsis:=e5 _ _ D.Vz.symm (e4 _ _ D.jz.symm (e3 _ _ D.Vz.symm (e2 _ _ D.iz.symm z1)));have k5:∀b o,b≠z->b≠V->b≠i->b≠j->s.heap.get? b=some o->g5.get? b=some o:=fun b o q1 q2 q3 q4 e=>e5 _ _ q2 (e4 _ _ q4 (e3 _ _ q2 (e2 _ _ q3 (e1 _ _ q1 e))));have w15:c8 k g5 i a (n+1):=w1.mv fun o e=>e5 _ o D.Vi.symm (e4 _ o D.ij (e3 _ o D.Vi.symm e));have w25:c8 l g5 j c (n+1):=w2.mv fun o e=>e5 _ o D.Vj.symm e
 have zlt:z<g5.objs.size:=Heap.lt_size z5;refine wpAny_bind (m:=Builtin.SmallTypes.ownedTupleHandOut (.ref z) (.ref g5.objs.size)) ?_;unfold Builtin.SmallTypes.ownedTupleHandOut;have z6:IsZip (g5.push { cls:=.type "tuple",data:=.seq #[x,y] }) z U V .ellipsis:=Heap.get?_push_of_some _ z5;refine wpAny_bind (wpAny_setField_rec z6 (by simp) fun g7 z7 b7=>?_)
 replace z7:IsZip g7 z U V (rawInt g5.objs.size):=z7
 refine wpAny_setField_rec z7 (by simp) fun g8 z8 b8=>?_
 replace z8:IsZip g8 z U V (rawInt g5.objs.size):=z8
 have up:∀b o,b≠z->g5.get? b=some o->g8.get? b=some o:=fun b o q e=>b8.extBut _ _ q (b7.extBut _ _ q (Heap.get?_push_of_some _ e));have t8:IsPair g8 g5.objs.size x y:=b8.extBut _ _ (ne_of_gt zlt) (b7.extBut _ _ (ne_of_gt zlt) (Heap.get?_push_size _ rfl));have s8:g8.objs.size=g5.objs.size+1:=by rw [b8.1,b7.1,Heap.size_push]
 rw [sz] at z8 t8 s8;refine wpAny_pure ⟨_,rfl,?_⟩;show Q (.ref g5.objs.size) _;rw [sz];exact hQ g8 z8 (up _ _ D.Vz v5) (w15.mv fun o e=>up _ o D.iz e) (w25.mv fun o e=>up _ o D.jz e) t8 s8 fun b o q1 q2 q3 q4 e=>up b o q1 (k5 b o q1 q2 q3 q4 e)
theorem CI{Q:Fin->Shared->Prop}(hh:A.handled=none)(D:ZA z U V i j)(az:a≠z)(cz:c≠z)(ci:c≠i)(cV:c≠V)(hz:IsZip s.heap z U V .none)(hU:IsPair s.heap U (.ref i) (.ref j))(hV:IsPair s.heap V u v)
  (W1:c8 k s.heap i a n) (W2:c8 l s.heap j c n) (R1:e6 k s.heap a xs) (R2:e6 l s.heap c ys) (hend:xs[n]?=none\/ys[n]?=none)
  (hE:∀h' e,(∀b o,b≠z->b≠V->b≠i->b≠j->s.heap.get? b=some o->h'.get? b=some o)->(∃o,h'.get? e=some o/\o.cls=.type "StopIteration")->E (.ref e) { s with heap:=h' }) :
  wpAny (model P w) A (Builtin.«zip.__next__» ⟨[.ref z],[]⟩) Q E s:=by
 refine wpAny_bind (m:=field (.ref z) 2) (wpAny_field hz rfl (x:=.bool false) rfl (wpAny_bind (m:=field (.ref z) 3) (wpAny_field hz rfl (x:=.ref U) rfl (wpAny_bind (wpAny_seqItems hU rfl ?_)))));refine wpAny_bind (m:=Builtin.SmallTypes.ownedTupleIsFree (.ref z)) ?_;unfold Builtin.SmallTypes.ownedTupleIsFree;refine wpAny_bind (wpAny_field hz rfl (x:=.none) rfl (wpAny_pure ?_));simp only [if_true];refine wpAny_bind (wpAny_rule (wpAny_bind (wpAny_field hz rfl (x:=.ref V) rfl (wpAny_bind (wpAny_setField_rec hz (by simp) fun g1 z1 b1=>wpAny_bind ?_)))))
 replace z1:IsZip g1 z U V .ellipsis:=z1
 simp only [zipIdx_cons,zipIdx_nil,forIn_cons,forIn_nil];have e1:=b1.extBut
 cases hx:xs[n]? with
 | none =>
  refine wpAny_bind (wpAny_bind (wpAny_onRaise (wpAny_bind (m:=Builtin.SmallTypes.nextOf (.ref i)) (fB hh (W1.mv fun o e=>e1 _ o D.iz e) (R1.mv fun o e=>e1 _ o az e) hx fun g2 e b2 he=>?_))));obtain⟨oe,ge,ce⟩:=he;have z2:IsZip g2 z U V .ellipsis:=b2 _ _ D.iz.symm z1;have ez:e≠z:=fun q=>by subst q;rw [z2] at ge;cases ge;simp at ce
  exact wpAny_setField_rec z2 (by simp) fun g3 _ b3=>hE g3 e (fun b o q1 _ q3 _ q=>b3.extBut _ _ q1 (b2 _ _ q3 (e1 _ _ q1 q))) ⟨oe,b3.extBut _ _ ez ge,ce⟩
 | some x =>
  have hy:ys[n]?=none:=by
   rcases hend with q|q
   .rw [hx] at q;cases q
   .exact q
  refine wpAny_bind (wpAny_bind (wpAny_onRaise (wpAny_bind (m:=Builtin.SmallTypes.nextOf (.ref i)) (eM (W1.mv fun o e=>e1 _ o D.iz e) (R1.mv fun o e=>e1 _ o az e) hx fun g2 w1 b2=>wpAny_pure ?_))));have e2:=b2.extBut;have v2:IsPair g2 V u v:=e2 _ _ D.Vi (e1 _ _ D.Vz hV);refine wpAny_bind (wpAny_seqItems v2 rfl (wpAny_bind (wpAny_updateSeq_pair v2 fun g3 v3 b3=>wpAny_bind (wpAny_letGo (wpAny_pure ?_)))))
  have e3:=b3.extBut;refine wpAny_bind (wpAny_bind (wpAny_onRaise (wpAny_bind (m:=Builtin.SmallTypes.nextOf (.ref j)) (fB hh (W2.mv fun o e=>e3 _ o D.Vj.symm (e2 _ o D.ij.symm (e1 _ o D.jz e))) (R2.mv fun o e=>e3 _ o cV (e2 _ o ci (e1 _ o cz e))) hy fun g4 e b4 he=>?_))));obtain⟨oe,ge,ce⟩:=he;have z4:IsZip g4 z U V .ellipsis:=b4 _ _ D.jz.symm (e3 _ _ D.Vz.symm (e2 _ _ D.iz.symm z1));have ez:e≠z:=fun q=>by subst q;rw [z4] at ge;cases ge;simp at ce
  exact wpAny_setField_rec z4 (by simp) fun g5 _ b5=>hE g5 e (fun b o q1 q2 q3 q4 q=>b5.extBut _ _ q1 (b4 _ _ q4 (e3 _ _ q2 (e2 _ _ q3 (e1 _ _ q1 q))))) ⟨oe,b5.extBut _ _ ez ge,ce⟩
end
def Sq(k:Bool)(K:PySem.W.Frag)(H:Hp)(a:Addr)(xs:List V):Prop:=cond k (SqT K H a xs) (SqL K H a xs)
section
variable {X:Cx}{pins:List (Addr×Obj)}{σ:St}{H:Hp}{s:Shared}{k l:Bool}{a b c:Addr}{xs ys:List V}
theorem Inv.row(I:Inv X pins σ H s)(h:Sq k X.K H a xs):∃its:List Value,cm xs its/\e6 k s.heap a its.toArray/\xs.length<=sizeLine:=by
 cases k with
 | false=>obtain⟨its,r,p,z⟩:=I.list h;exact⟨its,r,p.isList,z⟩
 | true=>obtain⟨its,r,p,z⟩:=I.tuple h;exact⟨its,r,p,z⟩
theorem Inv.row_inj(I:Inv X pins σ H s)(h:Sq k X.K H a xs)(h':Sq k X.K H a ys):xs=ys:=by
 cases k with
 | false=>exact I.list_inj h h'
 | true=>exact I.tuple_inj h h'
theorem vJ{u:HO}(r:Rd H a u):∃v,H a=some v:=by
 rcases r with r|⟨o,r⟩ <;> exact⟨_,r⟩
theorem Inv.row_ne(I:Inv X pins σ H s)(h:Sq k X.K H a xs)(f:tT X pins H b):a≠b:=by
 have kk:∀o,X.K.lookup a=some o->a≠b:=fun o e z=>by
  have e1:=I.ok.mod.kin a o e
  rcases f.2.2.2.1 with q|q
  .exact I.ok.noex a o e1 (z ▸ q)
  .exact absurd (lt_of_lt_of_le (Heap.lt_size (I.ok.bs a o e1).1) (z ▸ q)) (Nat.lt_irrefl _)
 have hh:∀u,H a=some u->a≠b:=fun u e z=>by rw [z,f.1] at e;cases e
 cases k with
 | false =>
  rcases h with r|⟨o,its,n,e,_⟩
  .obtain⟨v,e⟩:=vJ r;exact hh v e
  .exact kk o e
 | true =>
  rcases h with r|⟨o,its,n,e,_⟩
  .obtain⟨v,e⟩:=vJ r;exact hh v e
  .exact kk o e
theorem Inv.yielded{h':Heap}{T:Addr}{zs:List V}{t':Nat}{ch:List Addr}(I:Inv X pins σ H s)(hf:∀b∈ch,tT X pins H b)(hT:s.heap.objs.size<=T)
  (kp:∀b o,b∉ch->s.heap.get? b=some o->h'.get? b=some o) (new:dq X.prog X.w (upd H T (.tup zs)) h' T (.tup zs)):Inv X pins σ (upd H T (.tup zs)) { s with heap:=h',toks:=t' }:=by
 have hn:H T=none:=I.hok.fresh hT;have nT:∀b u,H b=some u->b≠T:=fun b u e z=>by rw [z,hn] at e;cases e
 have oT:∀b o,s.heap.get? b=some o->b≠T:=fun b o e z=>absurd (lt_of_lt_of_le (Heap.lt_size e) (z ▸ hT)) (Nat.lt_irrefl _);have nc:∀b u,H b=some u->b∉ch:=fun b u e z=>by rw [(hf b z).1] at e;cases e
 refine I.step (g':=s.gens) (d':=s.drawn) (ch:=ch) (fun b hb=>⟨(hf b hb).2.2.2.1,(hf b hb).2.1,(hf b hb).2.2.2.2.1,(hf b hb).2.2.2.2.2⟩) (fun b o _ _ hc e _=>kp b o hc e) (fun b o _ _ hc e _=>⟨o.slots,kp b o hc e⟩)
  (fun b o _ e n=>by rw [aM (oT b o e)];exact n) (fun b o hc e=>⟨o,kp b o hc e⟩) (fun b xs e=>by rw [aM (nT b _ e)];exact e) (fun b o u e=>by rw [aM (nT b _ e)];exact e)
  (fun b ps e=>⟨#[],by rw [aM (nT b _ e),e];simp⟩) (fun m hm=>?_) (fun b u e=>?_) I.bare
 .obtain⟨o,es,ep,ho,r⟩:=hm;exact⟨o,es,ep,kp _ o (fun z=>(hf _ z).2.1 rfl) ho,r⟩
 .by_cases hb:b=T
  .subst hb;rw [bi] at e;cases e;exact new
  .rw [aM hb] at e;refine (I.hok b u e).stay (fun c v hc q=>kp c v ?_ q) (fun c q=>by rw [aM (nT c _ q)];exact q) fun c xs q=>by rw [aM (nT c _ q)];exact q
   rcases hc with z|z
   .rw [z];exact nc b u e
   .exact nc c _ z
end
def Itz(k l:Bool)(K:PySem.W.Frag)(a c:Addr):It :=
  ⟨fun i H=>∃xs ys x y,Sq k K H a xs/\Sq l K H c ys/\xs[i]?=some x/\ys[i]?=some y,
   fun i H p H'=>∃T x y,H T=none/\p=.ref T/\(∀xs,Sq k K H a xs->xs[i]?=some x)/\(∀ys,Sq l K H c ys->ys[i]?=some y)/\H'=upd H T (.tup [x,y]),
   fun i H=>∃xs ys,Sq k K H a xs/\Sq l K H c ys/\(xs.length<=i\/ys.length<=i)⟩
theorem x4{P:Program}{w:World}{K:PySem.W.Frag}{es:List Expr}{ct:Nat}{tp:Pos}{k l:Bool}{a c z U V i j:Addr}(D:ZA z U V i j) :
  yX P w K (.Tuple es ct tp) (Itz k l K a c) [z,U,V,i,j] z (fun n h=>IsZip h z U V .none/\IsPair h U (.ref i) (.ref j)/\(∃u v,IsPair h V u v)/\c8 k h i a n/\c8 l h j c n) where
 mem:=by simp
 obj:=fun n h st b hb=>by
  obtain⟨hz,hU,⟨u,v,hV⟩,⟨o1,g1,c1,d1⟩,⟨o2,g2,c2,d2⟩⟩:=st;simp only [mem_cons,not_mem_nil,or_false] at hb
  rcases hb with rfl|rfl|rfl|rfl|rfl
  .exact⟨_,hz,fun v q=>by cases q⟩
  .exact⟨_,hU,fun v q=>by cases q⟩
  .exact⟨_,hV,fun v q=>by cases q⟩
  .exact⟨_,g1,fun v q=>by rw [d1] at q;cases q⟩
  .exact⟨_,g2,fun v q=>by rw [d2] at q;cases q⟩
 keep:=fun n h h' st kk=>by
  obtain⟨hz,hU,⟨u,v,hV⟩,w1,w2⟩:=st;exact⟨kk z (by simp) _ hz,kk U (by simp) _ hU,⟨u,v,kk V (by simp) _ hV⟩,w1.mv fun o e=>kk i (by simp) o e,w2.mv fun o e=>kk j (by simp) o e⟩
 item:=by
  intro X hP hw hK hc n pins s σ H E I hf st hg;subst hP hw hK;obtain⟨xs,ys,x,y,q1,q2,hx,hy⟩:=hg;obtain⟨hz,hU,⟨u,v,hV⟩,w1,w2⟩:=st;obtain⟨its,rv,p,_⟩:=I.row q1;obtain⟨jts,rv',p',_⟩:=I.row q2;obtain⟨ux,hux,rx⟩:=rv.get hx;obtain⟨uy,huy,ry⟩:=rv'.get hy;have hT:s.TypeIs (.ref z) "zip":=⟨_,hz,rfl⟩
  have nz:=I.row_ne q1 (hf z (by simp));have mz:=I.row_ne q2 (hf z (by simp));have mi:=I.row_ne q2 (hf i (by simp));have mV:=I.row_ne q2 (hf V (by simp));unfold pyNext
  refine wpAny_bind (wpAny_attempt (wpAny_callSpecial?_slot (name:=Str.ofString "__next__") hT F.slot_zip_next (wpAny_call_entry F.slot_zip_next hT F.entry_zip_next
   (Au (x:=ux) (y:=uy) D nz mz mi mV hz hU hV w1 w2 p p' (by simpa using hux) (by simpa using huy) fun h' a1 a2 a3 a4 a5 a6 a7=>wpAny_pure ?_) (F.args_zip_next_1 _))))
  refine⟨_,rfl,wpAny_letOwnedTupleGo_zip a1 fun g gz gs=>?_⟩;have lt:∀{b o},s.heap.get? b=some o->s.heap.objs.size≠b:=fun e=>ne_of_gt (Heap.lt_size e)
  have kp:∀b o,b∉[z,V,i,j]->s.heap.get? b=some o->g.get? b=some o:=fun b o hb e=>by
   simp only [mem_cons,not_mem_nil,or_false,not_or] at hb;exact gs.extBut _ _ hb.1 (a7 b o hb.1 hb.2.1 hb.2.2.1 hb.2.2.2 e)
  have I2:Inv X pins σ (upd H s.heap.objs.size (.tup [x,y])) { s with heap:=g,toks:=s.toks }:=I.yielded (ch:=[z,V,i,j]) (fun b hb=>hf b (by
   simp only [mem_cons,not_mem_nil,or_false] at hb ⊢;rcases hb with q|q|q|q <;> simp [q])) (le_refl _) kp ⟨by show 2<=sizeLine;decide,[ux,uy],.cons rx (.cons ry .nil),_,gs.extBut _ _ (lt hz) a5,rfl,_,rfl⟩
  refine⟨.ref s.heap.objs.size,_,I2,rfl,⟨_,x,y,I.hok.fresh (le_refl _),rfl,fun xs' q=>by rw [I.row_inj q q1];exact hx,fun ys' q=>by rw [I.row_inj q q2];exact hy,rfl⟩,
   ⟨gz,gs.extBut _ _ D.Uz (a7 _ _ D.Uz D.UV D.Ui D.Uj hU),⟨_,_,gs.extBut _ _ D.Vz a2⟩,a3.mv fun o e=>gs.extBut _ o D.iz e,a4.mv fun o e=>gs.extBut _ o D.jz e⟩,fun b hb=>?_⟩
  rw [aM ?_]
  .exact (hf b hb).1
  .intro q;subst q;simp only [mem_cons,not_mem_nil,or_false] at hb;obtain⟨o1,g1,_⟩:=w1;obtain⟨o2,g2,_⟩:=w2
   rcases hb with q|q|q|q|q
   .exact lt hz q
   .exact lt hU q
   .exact lt hV q
   .exact lt g1 q
   .exact lt g2 q
 done:=by
  intro X hP hw hK hc n pins s σ H E I hf st hg;subst hP hw hK;obtain⟨xs,ys,q1,q2,hend⟩:=hg;obtain⟨hz,hU,⟨u,v,hV⟩,w1,w2⟩:=st;obtain⟨its,rv,p,_⟩:=I.row q1;obtain⟨jts,rv',p',_⟩:=I.row q2;have e1:=rv.length;have e2:=rv'.length;have hT:s.TypeIs (.ref z) "zip":=⟨_,hz,rfl⟩
  unfold pyNext
  refine wpAny_bind (wpAny_attempt (wpAny_callSpecial?_slot (name:=Str.ofString "__next__") hT F.slot_zip_next (wpAny_call_entry F.slot_zip_next hT F.entry_zip_next
   (CI (I.ok.hd hc) D (I.row_ne q1 (hf z (by simp))) (I.row_ne q2 (hf z (by simp))) (I.row_ne q2 (hf i (by simp))) (I.row_ne q2 (hf V (by simp))) hz hU hV w1 w2 p p' ?_ fun h' e hk he=>?_) (F.args_zip_next_1 _))))
  .rcases hend with q|q
   .exact .inl (by simp;omega)
   .exact .inr (by simp;omega)
  .obtain⟨o,ho,hcl⟩:=he;refine wpAny_bind (wpAny_isInstance (T:="StopIteration") (b:=true) ⟨o,ho,hcl⟩ isSubtype_stop (wpAny_pure ⟨rfl,?_⟩))
   exact I.step (g':=s.gens) (d':=s.drawn) (t':=s.toks) (ch:=[z,V,i,j]) (fun b hb=>by
     have q:=hf b (by
      simp only [mem_cons,not_mem_nil,or_false] at hb ⊢;rcases hb with q|q|q|q <;> simp [q])
     exact⟨q.2.2.2.1,q.2.1,q.2.2.2.2.1,q.2.2.2.2.2⟩) (fun b o _ _ hc e _=>by
     simp only [mem_cons,not_mem_nil,or_false,not_or] at hc;exact hk b o hc.1 hc.2.1 hc.2.2.1 hc.2.2.2 e) (fun b o _ _ hc e _=>⟨o.slots,by
     simp only [mem_cons,not_mem_nil,or_false,not_or] at hc;exact hk b o hc.1 hc.2.1 hc.2.2.1 hc.2.2.2 e⟩) (fun _ _ _ _ q=>q) (fun b o hc e=>⟨o,by
     simp only [mem_cons,not_mem_nil,or_false,not_or] at hc;exact hk b o hc.1 hc.2.1 hc.2.2.1 hc.2.2.2 e⟩) (fun _ _ e=>e) (fun _ _ _ e=>e) (fun b ps e=>⟨#[],by rw [e];simp⟩) (fun m hm=>by
     obtain⟨o,es,ep,ho,r⟩:=hm;exact⟨o,es,ep,hk _ o (hf z (by simp)).2.1.symm (hf V (by simp)).2.1.symm (hf i (by simp)).2.1.symm (hf j (by simp)).2.1.symm ho,r⟩) (fun b u e=>by
     have nn:∀b u,H b=some u->b≠z/\b≠V/\b≠i/\b≠j:=fun b u e=>⟨fun q=>(by rw [q,(hf z (by simp)).1] at e;cases e),fun q=>(by rw [q,(hf V (by simp)).1] at e;cases e),fun q=>(by rw [q,(hf i (by simp)).1] at e;cases e),fun q=>(by rw [q,(hf j (by simp)).1] at e;cases e)⟩
     refine (I.hok b u e).stay (fun c v hc q=>?_) (fun _ q=>q) fun _ _ q=>q
     have n4:c≠z/\c≠V/\c≠i/\c≠j:=by
      rcases hc with q|q
      .rw [q];exact nn b u e
      .exact nn c _ q
     exact hk c v n4.1 n4.2.1 n4.2.2.1 n4.2.2.2 q) I.bare
 self:=fun _ _ _ _ _ st h=>wpAny_pyIter_zip st.1 h
theorem CJ(n:Nat):ZA (n+4) (n+2) (n+3) n (n+1):=by
 refine⟨?_,?_,?_,?_,?_,?_,?_,?_,?_,?_⟩ <;> (intro h;have h2:@Eq Nat _ _:=h;omega)
section
variable {P:Program}{w:World}{A:Around}{E:Value->Shared->Prop}{s:Shared}{k l:Bool}
abbrev kh(k:Bool)(a:Addr):Obj:={ cls:=.type (cond k "tuple_iterator" "list_iterator"),data:=.fields #[.ref a,.int 0 0] }
theorem fg{a:Addr}{its:Array Value}{Q:Value->Shared->Prop}(R:e6 k s.heap a its)(hQ:Q (.ref s.heap.objs.size) { s with heap:=s.heap.push (kh k a) }):wpAny (model P w) A (pyIter (.ref a)) Q E s:=by
 cases k with
 | false=>exact wpAny_pyIter_list R hQ
 | true=>exact wpAny_pyIter_tuple R hQ
abbrev zg1(h:Heap)(k:Bool)(a:Addr):Heap:=h.push (kh k a)
abbrev zg2(h:Heap)(k l:Bool)(a c:Addr):Heap:=(zg1 h k a).push (kh l c)
abbrev zg3(h:Heap)(k l:Bool)(a c:Addr):Heap:=(zg2 h k l a c).push { cls:=.type "tuple",data:=.seq #[.ref h.objs.size,.ref (zg1 h k a).objs.size] }
abbrev zg4(h:Heap)(k l:Bool)(a c:Addr):Heap:=(zg3 h k l a c).push { cls:=.type "tuple",data:=.seq #[.none,.none] }
abbrev zg5(h:Heap)(k l:Bool)(a c:Addr):Heap:=(zg4 h k l a c).push { cls:=.type "zip",data:=.fields #[.none,.bool false,.bool false,.ref (zg2 h k l a c).objs.size,.ref (zg3 h k l a c).objs.size] }
theorem Av(k l:Bool)(a c:Addr)(xs ys:Array Value):Meets (Builtin.«zip.__new__» ⟨[.type "zip",.ref a,.ref c],[]⟩) (fun _ R s=>e6 k s.heap a xs/\e6 l s.heap c ys /\
   R (.ok (.ret (.ref (zg4 s.heap k l a c).objs.size))) { s with heap:=zg5 s.heap k l a c }) :=
 .of_wp fun prog w A R s h=>by
  obtain⟨hp,g,d,tk,os⟩:=s;obtain⟨r1,r2,h⟩:=h;have hsub:=sub_zip;have R1:e6 k (Shared.heap ⟨hp,g,d,tk,os⟩) a xs:=r1;have R2:e6 l (Shared.heap ⟨hp.push (kh k a),g,d,tk,os⟩) c ys:=r2.mv fun o e=>Heap.get?_push_of_some _ e
  wp_walk using fg R1,fg R2
  exact⟨_,rfl,h⟩
theorem Aw{a c:Addr}{xs ys:Array Value}{Q:Value->Shared->Prop}(r1:e6 k s.heap a xs)(r2:e6 l s.heap c ys)
  (h:∀h',IsZip h' (s.heap.objs.size+4) (s.heap.objs.size+2) (s.heap.objs.size+3) .none->IsPair h' (s.heap.objs.size+2) (.ref s.heap.objs.size) (.ref (s.heap.objs.size+1)) ->
   IsPair h' (s.heap.objs.size+3) .none .none->c8 k h' s.heap.objs.size a 0->c8 l h' (s.heap.objs.size+1) c 0->(∀b o,s.heap.get? b=some o->h'.get? b=some o)->Q (.ref (s.heap.objs.size+4)) { s with heap:=h' }) :
  wpAny (model P w) A (call (.type "zip") [.ref a,.ref c]) Q E s:=by
 refine callType_new F.called_zip (by decide) (F.typeCall_zip_2 _ _) (F.newCall_zip_2 _ _) (fun obj=>F.args_object_init_3 obj _ _) F.entry_zip_new (Av k l a c xs ys) ⟨r1,r2,?_⟩;have z1:(zg1 s.heap k a).objs.size=s.heap.objs.size+1:=Heap.size_push ..;have z2:(zg2 s.heap k l a c).objs.size=s.heap.objs.size+2:=by rw [Heap.size_push,z1]
 have z3:(zg3 s.heap k l a c).objs.size=s.heap.objs.size+3:=by rw [Heap.size_push,z2]
 have z4:(zg4 s.heap k l a c).objs.size=s.heap.objs.size+4:=by rw [Heap.size_push,z3]
 have m4:∀b o,(zg4 s.heap k l a c).get? b=some o->(zg5 s.heap k l a c).get? b=some o:=fun b o e=>Heap.get?_push_of_some _ e;have m3:∀b o,(zg3 s.heap k l a c).get? b=some o->(zg5 s.heap k l a c).get? b=some o:=fun b o e=>m4 b o (Heap.get?_push_of_some _ e);have m2:∀b o,(zg2 s.heap k l a c).get? b=some o->(zg5 s.heap k l a c).get? b=some o:=fun b o e=>m3 b o (Heap.get?_push_of_some _ e);have m1:∀b o,(zg1 s.heap k a).get? b=some o->(zg5 s.heap k l a c).get? b=some o:=fun b o e=>m2 b o (Heap.get?_push_of_some _ e)
 have g5:(zg5 s.heap k l a c).get? (zg4 s.heap k l a c).objs.size=some _:=Heap.get?_push_size _ rfl;have g4:=m4 _ _ (Heap.get?_push_size (zg3 s.heap k l a c) (o:={ cls:=.type "tuple",data:=.seq #[.none,.none] }) rfl);have g3:=m3 _ _ (Heap.get?_push_size (zg2 s.heap k l a c) (o:={ cls:=.type "tuple",data:=.seq #[.ref s.heap.objs.size,.ref (zg1 s.heap k a).objs.size] }) rfl);have g2:=m2 _ _ (Heap.get?_push_size (zg1 s.heap k a) (o:=kh l c) rfl)
 have g1:=m1 _ _ (Heap.get?_push_size s.heap (o:=kh k a) rfl);show _/\_;rw [z2,z3,z4] at g5;rw [z1,z2] at g3;rw [z3] at g4;rw [z1] at g2;rw [z4];exact⟨⟨_,g5,rfl⟩,h _ g5 g3 g4 ⟨_,g1,rfl,rfl⟩ ⟨_,g2,rfl,rfl⟩ fun b o e=>m1 b o (Heap.get?_push_of_some _ e)⟩
end
def stA(a b:List Nat)(i:Nat):Bool:=decide (i+b.length<=a.length/\(a.drop i).take b.length=b)
def fnd(a b:List Nat)(lo:Nat):Int:=match (List.range' lo (a.length+1 - lo)).find? (stA a b) with|some k=>(k:Int)|none=>-1
theorem pV(s sub:Str)(hi:Nat):∀(l:List Nat) (st:Array Nat×Nat),st.fst.size=1->(forIn l st (StrLaws.occBody s sub hi 1)).run.fst=st.fst
 | [],_,_=>rfl
 | x::l,st,h=>by
  rw [forIn_cons];unfold StrLaws.occBody;rw [if_neg (fun z=>by have:=z.1.1.1;omega)];exact pV s sub hi l (st.fst,st.snd) h
theorem pW(s sub:Str)(hi:Nat)(p:Nat->Bool)(hp:∀i,p i=true ↔ (i+sub.length<=hi/\Builtin.Str.subAt s sub i=true)):∀(l:List Nat) (free:Nat),(∀i∈l,free<=i) ->
  (forIn l ((#[]:Array Nat),free) (StrLaws.occBody s sub hi 1)).run.fst=(match l.find? p with|some k=>#[k]|none=>#[])
 | [],_,_=>rfl
 | x::l,free,hf=>by
  rw [forIn_cons,find?_cons];unfold StrLaws.occBody;have hx:free<=x:=hf x (mem_cons_self ..)
  cases c:p x with
  | true =>
   have hc:=(hp x).mp c;rw [if_pos ⟨⟨⟨by simp,hx⟩,hc.1⟩,hc.2⟩];exact pV s sub hi l (#[x],x+sub.length) rfl
  | false =>
   rw [if_neg (fun z=>by
    have:=(hp x).mpr ⟨z.1.2,z.2⟩;rw [c] at this;cases this)]
   exact pW s sub hi p hp l free fun i h=>hf i (mem_cons_of_mem _ h)
theorem Ax(a b:List Nat)(i:Nat):Builtin.Str.subAt (S a) (S b) i=decide ((a.drop i).take b.length=b):=by
 unfold Builtin.Str.subAt;rw [gn]
 have e1:((S a).cps.extract i (i+b.length))=((a.drop i).take b.length).toArray:=by
  show a.toArray.extract _ _=_;rw [extract_toArray,extract_eq_take_drop];congr 2;omega
 rw [e1];show (((a.drop i).take b.length).toArray == b.toArray)=_
 by_cases h:(a.drop i).take b.length=b
 .rw [decide_eq_true h,h];simp
 .rw [decide_eq_false h,beq_eq_false_iff_ne];intro z;exact h (by simpa using congrArg Array.toList z)
theorem vK(a b:List Nat)(lo:Nat):(match Builtin.Str.occurrences (S a) (S b) lo (S a).length 1 with|k::_=>(k:Int)|[]=>-1)=fnd a b lo:=by
 rw [StrLaws.occ_eq,gn,pW (S a) (S b) a.length (stA a b) (fun i=>?_) _ lo (fun i hi=>(mem_range'_1.mp hi).1)]
 .unfold fnd;cases (List.range' lo (a.length+1 - lo)).find? (stA a b) <;> rfl
 .unfold stA;rw [Ax,gn];simp
section
variable {X:Cx}
theorem x5:MtR X "str.find" (fun x xs H Q=>∃a b,x=.str (S a)/\xs=[.str (S b)]/\Q (.int (fnd a b 0)) H):=by
 intro pins s σ H x xs v us Q I rx rs h;obtain⟨a,b,rfl,rfl,q⟩:=h;obtain⟨t,rfl⟩:=rx;obtain⟨u,rfl,t',rfl⟩:=gw rs;have e:Txt.find (S a) (S b)=fnd a b 0:=vK a b 0;exact SC.find ⟨.int _,H,I.tok _,⟨_,rfl⟩,by rw [e];exact q⟩
end
theorem kx{a b:List Nat}{lo:Nat}(h:fnd a b lo≠-1):∃k:Nat,fnd a b lo=(k:Int)/\lo<=k/\stA a b k=true/\∀j,lo<=j->j<k->stA a b j=false:=by
 unfold fnd at h ⊢
 cases e:(List.range' lo (a.length+1 - lo)).find? (stA a b) with
 | none=>rw [e] at h;exact absurd rfl h
 | some k =>
  obtain⟨h1,h2⟩:=find?_eq_some_iff_append.mp e;obtain⟨as,bs,hl,hn⟩:=h2;have hk:k∈List.range' lo (a.length+1 - lo):=by rw [hl];simp
  refine⟨k,rfl,(mem_range'_1.mp hk).1,h1,fun j hj1 hj2=>?_⟩;have hj:j∈List.range' lo (a.length+1 - lo):=mem_range'_1.mpr ⟨hj1,by have:=(mem_range'_1.mp hk).2;omega⟩;have hs:(List.range' lo (a.length+1 - lo)).Pairwise (·<·):=List.pairwise_lt_range';rw [hl] at hj hs
  rcases mem_append.mp hj with z|z
  .have:=hn j z;simpa using this
  .rcases mem_cons.mp z with z|z
   .omega
   .have:=(pairwise_cons.mp (pairwise_append.mp hs).2.1).1 j z;omega
theorem x6{a b:List Nat}{lo:Nat}(h:fnd a b lo=-1):∀j,lo<=j->stA a b j=false:=by
 unfold fnd at h
 cases e:(List.range' lo (a.length+1 - lo)).find? (stA a b) with
 | some k=>rw [e] at h;simp only at h;omega
 | none =>
  intro j hj
  by_cases hlt:j<a.length+1
  .have:=find?_eq_none.mp e j (mem_range'_1.mpr ⟨hj,by omega⟩);simpa using this
  .unfold stA;rw [decide_eq_false (fun z=>by have:=z.1;omega)]
section
variable {X:Cx}{tg:Expr}
def Itk(k:Bool)(K:PySem.W.Frag)(a:Addr):It:=cond k (Itt K a) (Itl K a)
def CK(K:PySem.W.Frag):R2:=fun x y H Q=>∃l b xs zs,x=.ref l/\y=.ref b/\SqL K H l xs/\SqL K H b zs/\xs.length+zs.length<=sizeLine/\∀p,H p=none->Q (.ref p) (upd H p (.lst (xs++zs)))
theorem Ay:OpR X (binaryOp .Add) (CK X.K):=by
 intro pins s σ H x y v u Q I rx ry h;obtain⟨l,b,xs,zs,rfl,rfl,hH,hB,hz,q⟩:=h;cases rx;cases ry;obtain⟨its,r,pl,hl⟩:=I.list hH;obtain⟨its2,r2,pl2,hl2⟩:=I.list hB;obtain⟨⟨cls,dd,data,sl⟩,ho,hc,n,hd⟩:=pl.isList;obtain⟨⟨cls2,dd2,data2,sl2⟩,ho2,hc2,n2,hd2⟩:=pl2.isList;simp only at hc hd hc2 hd2;subst hc hd hc2 hd2;have n1:=r.length;have n2':=r2.length;have ea:its.toArray++its2.toArray=(its++its2).toArray:=by simp
 have fin:EP X pins σ Q (.ref s.heap.objs.size) { s with heap:=s.heap.push { cls:=.type "list",data:=.seq (its.toArray++its2.toArray) } }:=by
  rw [ea];exact⟨.ref _,_,I.lnew (t':=s.toks) (r.append r2) (by rw [length_append];omega),rfl,q _ I.fresh⟩
 exact concat_meets ⟨_,ho,rfl⟩ ⟨_,ho2,rfl⟩ noFill_list_add seq_list_add PySem.F.slot_list_add PySem.F.entry_list_add (PySem.F.args_list_add_2 _ _) (list_addW l b its.toArray its2.toArray n n2 dd dd2 sl sl2 (by simp;omega)) ⟨ho,ho2,fin⟩
end
def tx(l:List Nat):V:=.str (S l)
def vL(n:Nat)(d:PyData):Prop:=d.canLay0=true/\d.depth<=n
theorem vL.shaped{n:Nat}{d:PyData}(h:vL n d)(hn:n<=64):SeqAt.shaped d=true:=by
 unfold SeqAt.shaped;rw [h.1,decide_eq_true (Nat.le_trans h.2 hn)];rfl
theorem vM{n:Nat}:∀{ds:List PyData},(∀d∈ds,vL n d)->PyData.canLayAll0 ds=true/\PyData.depthAll ds<=n
 | [],_=>⟨rfl,zero_le _⟩
 | d::ds,h=>by
  obtain⟨a,b⟩:=vM (ds:=ds) fun x hx=>h x (mem_cons_of_mem _ hx);obtain⟨c,e⟩:=h d mem_cons_self;simp only [PyData.canLayAll0,PyData.depthAll,a,c];exact⟨rfl,max_le.mpr ⟨e,b⟩⟩
theorem vL.list{n:Nat}{ds:List PyData}(h:∀d∈ds,vL n d):vL (n+1) (.list ds):=by
 obtain⟨a,b⟩:=vM h;exact⟨by simp only [PyData.canLay0];exact a,by simp only [PyData.depth];omega⟩
theorem vL.int(i:Int):vL 0 (.int i):=⟨by simp [PyData.canLay0],by simp [PyData.depth]⟩
def Lts(l:List Nat):Prop:=∀c∈l,97<=c/\c<=122
theorem Lts.nil:Lts []:=fun c h=>nomatch h
theorem Lts.app{a b:List Nat}(x:Lts a)(y:Lts b):Lts (a++b):=fun c h=>(mem_append.mp h).elim (x c) (y c)
theorem Lts.one{c:Nat}(h:97<=c/\c<=122):Lts [c]:=fun d hd=>by
 have:d=c:=by simpa using hd
 subst this;exact h
theorem Lts.take{a:List Nat}(x:Lts a)(n:Nat):Lts (a.take n):=fun c h=>x c (mem_of_mem_take h)
theorem Lts.drop{a:List Nat}(x:Lts a)(n:Nat):Lts (a.drop n):=fun c h=>x c (mem_of_mem_drop h)
theorem Lts.cut{a:List Nat}(x:Lts a)(lo hi:Option Int):Lts (dH a lo hi):=(x.drop _).take _
theorem Lts.rep{a:List Nat}(x:Lts a)(n:Int):Lts (qW a n):=fun c h=>by
 unfold qW at h;obtain⟨l,h1,h2⟩:=mem_flatten.mp h;rw [eq_of_mem_replicate h1] at h2;exact x c h2
theorem vN(ns:List Int):∀d∈ns.map PyData.int,vL 0 d:=fun d hd=>by
 obtain⟨i,_,rfl⟩:=mem_map.mp hd;exact vL.int i
theorem kO(p:Nat->Prop)(h0:p 0):∀n,0<n->∃k,k<n/\p k/\∀j,j<n->p j->j<=k
 | 0,h=>absurd h (by decide)
 | 1,_=>⟨0,by decide,h0,fun j hj _=>by omega⟩
 | n+2,_=>by
  obtain⟨k,h1,h2,h3⟩:=kO p h0 (n+1) (by omega)
  by_cases c:p (n+1)
  .exact⟨n+1,by omega,c,fun j hj _=>by omega⟩
  .refine⟨k,by omega,h2,fun j hj hp=>?_⟩
   by_cases e:j=n+1
   .subst e;exact absurd hp c
   .exact h3 j (by omega) hp
section
variable {κ:Type} [DecidableEq κ]
theorem KV.length{kvs:List (κ×V)}{vs:List (κ×Value)}(r:KV kvs vs):kvs.length=vs.length:=Paired.length r
end
section
variable {P:Program}{w:World}{H:Hp}{h:Heap}{a:Addr}
theorem El{u:HO}(ok:HOk P w H h)(e:Rd H a u):dq P w H h a u:=e.ok ok
theorem Em{kvs:List (Key×V)}(ok:HOk P w H h)(e:Rd H a (.dK kvs)):kvs.length<=sizeLine/\(a == sysModules)=false/\∃vs,KV kvs vs/\h.DictOf (nM P w) a vs :=
 show dq P w H h a (.dK kvs) from El ok e
end
section
variable {X:Cx}{pins:List (Addr×Obj)}{σ:St}{H:Hp}{s:Shared}{a:Addr}{kvs:List (Key×V)}{k:Key}{u:Value}{A:Around}{E:Value->Shared->Prop}
theorem En{Q:Value->Shared->Prop}(I:Inv X pins σ H s)(e:Rd H a (.dK kvs))(h:∀t s',Inv X pins σ H s'->Q (.int kvs.length t) s'):wpAny (model X.prog X.w) A (call (.builtin "len") [.ref a]) Q E s:=by
 obtain⟨z,hd,vs,rel,dd⟩:=Em I.hok e;refine call_len_dict hd dd (by rw [<- rel.length];rw [sizeLine_eq] at z;omega) ?_;rw [<- rel.length];exact h _ _ (I.tok _)
end
section
variable {X:Cx}
theorem nY{x:Str}{i:Int}{pos:Pos}(hg:Gl X x)(h:∃t,X.mg x=some (.int i t))(hd:(x == ("__debug__":Str))=false:=by decide):PE X (.Name x pos) (tC (.int i)):=by
 obtain⟨t,e⟩:=h;exact zT (u:=.int i t) hg e ⟨t,rfl⟩ hd
end
structure CL (P:Program) (w:World) (K:PySem.W.Frag) (mg:Str->Option Value) (base:Heap) (k:Nat) (x:Str) (ps:List Str) (dvs:List V) (sp:Sp):Prop where
 ex:∃(f:Addr) (fd:FuncData),nP P w K mg base CX0 k f fd ps sp/\(∀n,n<=dvs.length->∃ds,cm (dvs.drop n) ds/\kf K fd ps ds)/\PySem.W.keepIn K (.ref f)=true/\mg x=some (.ref f)
structure sN (K:PySem.W.Frag) (mg:Str->Option Value) (x:Str) (st:Stmt) (dvs:List V):Prop where
 ex:∃(f dT:Addr) (oc:Value) (od an dd:Option Addr) (kV doc pm cdv ct:Value) (osl sl:Array (Option Value)) (items:List Value) (n:Nat),
  K.lookup f=some ⟨oc,od,.func (PySem.W.fnOf x x (cZ st) (b6 st) (ao st) (.ref dT) kV doc pm an cdv ct),osl⟩/\PySem.W.codeIn K cdv x=true/\PySem.W.keepIn K (.ref f)=true/\mg x=some (.ref f) /\
  K.lookup dT=some ⟨.type "tuple",dd,.seq items.toArray n,sl⟩/\cm dvs items
section
variable {P:Program}{w:World}{K:PySem.W.Frag}{mg:Str->Option Value}{base:Heap}{x:Str}{st:Stmt}{N ps:List Str}{k:Nat}{sp:Sp}{dvs:List V}
theorem sN.ok(D:sN K mg x st dvs)(S:aI N ps (ao st))
  (hb:∀(dT:Addr) (kV doc pm:Value) (an:Option Addr) (cdv ct:Value) (items:List Value) (us:List Value) (n:Nat),items.length=dvs.length->n<=dvs.length->(us++items.drop n).length=ps.length ->
   ∃k,bindArgs (PySem.W.fnOf x x (cZ st) (b6 st) (ao st) (.ref dT) kV doc pm an cdv ct) ⟨us,[]⟩=seqItems? (.ref dT) >>= k/\k (some items.toArray)=pure (ps.zip (us++items.drop n)))
  (len:∀vs H Q E,sp vs H Q E->vs.length=ps.length)
  (hbody:∀(f:Addr) (cdv:Value) (A:Around) (outer:List Env) (s:Shared) (H:Hp) (vs:List V) (Q:VK) (E:XK),gx k (A.deeper (envOfC x (ao st) s.heap.objs.size f cdv))->sp vs H Q E ->
   ∃t,PSs (xy CX0 P w K mg base N x (ao st) f cdv A outer s H E).nox (b6 st) t/\t { nx:=fun _ H'=>Q .non H',rt:=Q } (start N vs) H):CL P w K mg base (k+1) x ps dvs sp:=by
 obtain⟨f,dT,oc,od,an,dd,kV,doc,pm,cdv,ct,osl,sl,items,n,lk,hcd,kp,hm,lt,rv⟩:=D.ex;have hl:=rv.length
 refine⟨f,_,Cf lk hcd S len fun A outer s H vs Q E hr hsp=>?_,fun j hj=>⟨items.drop j,rv.drop j,fun s us X hlen=>?_⟩,kp,hm⟩
 .obtain⟨t,h,q⟩:=hbody f cdv A outer s H vs Q E hr hsp;exact⟨t,h.nox,q⟩
 .obtain⟨k,h1,h2⟩:=hb dT kV doc pm an cdv ct items us j hl.symm hj hlen;exact BindsTo.of_defaults rfl (X dT _ lt) rfl h1 h2
end
section
variable {X:Cx}{k:Nat}{x:Str}{ps:List Str}{sp:Sp}{p pos:Pos}{e:Expr}{es:List Expr}{t:TA}{dvs:List V}
theorem Az(j:Nat)(C:CL X.prog X.w X.K X.mg X.base k x ps dvs sp)(hr:gx k X.A)(hj:j<=dvs.length)(ha:PA X (e::es) t)(hg:Gl X x:=by rfl)(hdb:(x == ("__debug__":Str))=false:=by decide)(he:starEach (e::es) X.env=(false,eval e X.env)::starEach es X.env:=by rfl)
  (hpl:(backTo pos (starEach es X.env)).any (·.1)=false:=by rfl):PE X (.Call (.Name x p) (e::es) [] pos) (ef sp (dvs.drop j) E0 t):=by
 obtain⟨f,fd,F,hb,hk,hm⟩:=C.ex;obtain⟨ds,rv,hb⟩:=hb j hj;exact vg F hr hg hm hk hb rv xW ha hdb he hpl
theorem nZ(bs:List Bool):(List.range bs.length).all (fun i=>bs.getD i false)=bs.all id:=by
 induction bs with
 | nil=>rfl
 | cons b bs ih=>rw [length_cons,range_succ_eq_map,all_cons,all_map,all_cons,<- ih];rfl
theorem n5(bs:List Bool):(List.range bs.length).any (fun i=>bs.getD i false)=bs.any id:=by
 induction bs with
 | nil=>rfl
 | cons b bs ih=>rw [length_cons,range_succ_eq_map,any_cons,any_map,any_cons,<- ih];rfl
theorem vO{bs:List Bool}{its:List Value}(r:cm (bs.map V.bl) its){i:Nat}{v:Value}(h:its.toArray[i]?=some v):v=.bool (bs.getD i false):=by
 have h':its[i]?=some v:=by simpa using h
 have hl:=r.length;rw [length_map] at hl;have hi:i<bs.length:=by have:=(List.getElem?_eq_some_iff.mp h').1;omega
 obtain⟨u,e1,e2⟩:=r.get (i:=i) (x:=V.bl bs[i]) (by rw [getElem?_map,getElem?_eq_getElem hi];rfl);rw [h'] at e1;cases e1;rw [show v=Value.bool bs[i] from e2,getD_eq_getElem?_getD,getElem?_eq_getElem hi];rfl
theorem x8(hc:X.calm=true):cp X (.builtin "all") (fun xs H Q=>∃(p:Addr) (bs:List Bool),xs=[.ref p]/\SqL X.K H p (bs.map V.bl)/\Q (.bl (bs.all id)) H):=by
 intro pins s σ H xs us Q I r h;obtain⟨p,bs,rfl,hS,q⟩:=h;obtain⟨u,rfl,ru⟩:=gw r;cases (show u=Value.ref p from ru);obtain⟨its,rv,pl,hz⟩:=I.list hS;have hl:=rv.length;rw [length_map] at hl;have hps:p<s.heap.objs.size:=let ⟨o,ho,_⟩:=pl.isList;Heap.lt_size ho
 obtain⟨f0,f1,f2,f3,f4,f5⟩:=I.fpOk (H':=H) (le_refl s.heap.objs.size) (I.hok.fresh (le_refl _))
 refine call_all_walk (wpAny_pyIter_list pl.isList ⟨s.heap.objs.size,_,_,its.toArray.size,_,_,fun i=>bs.getD i false,rfl,Walks.list (by exact I.ok.hd hc) s.heap.objs.size p (ne_of_lt hps) its.toArray,⟨⟨_,Heap.get?_push_size _ rfl,rfl,rfl⟩,pl.isList.push _⟩,fun i v s Q E hP hQ=>?_,fun h' tk hk=>?_⟩)
 .rw [vO rv hP];exact wpAny_truthy_bool hQ
 .have I1:Inv X pins σ H { s with heap:=s.heap.push { cls:=.type "list_iterator",data:=.fields #[.ref p,.int 0 0] } }:=I.kept (t':=s.toks) fun b o e=>Heap.get?_push_of_some _ e;have I2:=I1.turned (h':=h') (t':=tk) (it:=s.heap.objs.size) (fun b o hb e=>hk b o (by simpa using hb) e) f0 f1 f3 f4 f5;refine⟨.bl (bs.all id),H,I2,?_,q⟩;show Value.bool _=Value.bool _;rw [size_toArray,<- hl,nZ]
theorem x9(hc:X.calm=true):cp X (.builtin "any") (fun xs H Q=>∃(p:Addr) (bs:List Bool),xs=[.ref p]/\SqL X.K H p (bs.map V.bl)/\Q (.bl (bs.any id)) H):=by
 intro pins s σ H xs us Q I r h;obtain⟨p,bs,rfl,hS,q⟩:=h;obtain⟨u,rfl,ru⟩:=gw r;cases (show u=Value.ref p from ru);obtain⟨its,rv,pl,hz⟩:=I.list hS;have hl:=rv.length;rw [length_map] at hl;have hps:p<s.heap.objs.size:=let ⟨o,ho,_⟩:=pl.isList;Heap.lt_size ho
 obtain⟨f0,f1,f2,f3,f4,f5⟩:=I.fpOk (H':=H) (le_refl s.heap.objs.size) (I.hok.fresh (le_refl _))
 refine call_any_walk (wpAny_pyIter_list pl.isList ⟨s.heap.objs.size,_,_,its.toArray.size,_,_,fun i=>bs.getD i false,rfl,Walks.list (by exact I.ok.hd hc) s.heap.objs.size p (ne_of_lt hps) its.toArray,⟨⟨_,Heap.get?_push_size _ rfl,rfl,rfl⟩,pl.isList.push _⟩,fun i v s Q E hP hQ=>?_,fun h' tk hk=>?_⟩)
 .rw [vO rv hP];exact wpAny_truthy_bool hQ
 .have I1:Inv X pins σ H { s with heap:=s.heap.push { cls:=.type "list_iterator",data:=.fields #[.ref p,.int 0 0] } }:=I.kept (t':=s.toks) fun b o e=>Heap.get?_push_of_some _ e;have I2:=I1.turned (h':=h') (t':=tk) (it:=s.heap.objs.size) (fun b o hb e=>hk b o (by simpa using hb) e) f0 f1 f3 f4 f5;refine⟨.bl (bs.any id),H,I2,?_,q⟩;show Value.bool _=Value.bool _;rw [size_toArray,<- hl,n5]
end
section
variable {X:Cx}{o e f:Expr}{apos cpos:Pos}{td ty tx:TE}
theorem vP:cp X (.builtin "len") (fun xs H Q=>∃p kvs,xs=[.ref p]/\Rd H p (.dK kvs)/\Q (.int kvs.length) H):=by
 intro pins s σ H xs us Q I r h;obtain⟨p,kvs,rfl,hd,q⟩:=h;obtain⟨u,rfl,ru⟩:=gw r;cases (show u=Value.ref p from ru);exact En I hd fun t s' I'=>⟨.int kvs.length,H,I',⟨t,rfl⟩,q⟩
end
def cb(K:PySem.W.Frag)(x:Str):Addr:=match PySem.W.nsIn K mainGlobals x with
 | some (some (.ref C))=>C
 | _=>0
theorem ya{K:PySem.W.Frag}{x:Str}{C:Addr}(h:PySem.W.nsIn K mainGlobals x=some (some (.ref C))):cb K x=C:=by unfold cb;rw [h]
structure za (P:Program) (w:World) (K:PySem.W.Frag) (mg:Str->Option Value) (base:Heap) (k:Nat) (C:Addr) (m:Str) (ps:List Str) (sp:Sp):Prop where
 ex:∃(f:Addr) (fd:FuncData),nP P w K mg base CX0 k f fd ps sp/\kf K fd ps []/\DW K C m f
structure CM (P:Program) (w:World) (K:PySem.W.Frag) (mg:Str->Option Value) (base:Heap) (k:Nat) (C:Addr) (x:Str) (ps:List Str) (sp:Sp):Prop where
 ex:∃(f:Addr) (fd:FuncData),nP P w K mg base CX0 k f fd ps sp/\kf K fd ps []/\Mk K C f/\mg x=some (.ref C)
structure sO (K:PySem.W.Frag) (C:Addr) (m qual:Str) (st:Stmt):Prop where
 ex:∃(f:Addr) (fd:FuncData),Fun K m qual st f fd/\DW K C m f
structure sP (K:PySem.W.Frag) (mg:Str->Option Value) (C:Addr) (x qual:Str) (st:Stmt):Prop where
 ex:∃(f:Addr) (fd:FuncData),Fun K "__init__" qual st f fd/\Mk K C f/\mg x=some (.ref C)
section
variable {P:Program}{w:World}{K:PySem.W.Frag}{mg:Str->Option Value}{base:Heap}{x m qual:Str}{C:Addr}{st:Stmt}{N ps:List Str}{k:Nat}{sp:Sp}
theorem sO.ok(D:sO K C m qual st)(S:aI N ps (ao st))
  (hb:∀(kV doc pm:Value) (an:Option Addr) (cdv ct:Value) (us:List Value),us.length=ps.length->bindArgs (PySem.W.fnOf m qual (cZ st) (b6 st) (ao st) .none kV doc pm an cdv ct) ⟨us,[]⟩=pure (ps.zip us))
  (len:∀vs H Q E,sp vs H Q E->vs.length=ps.length)
  (hbody:∀(f:Addr) (cdv:Value) (A:Around) (outer:List Env) (s:Shared) (H:Hp) (vs:List V) (Q:VK) (E:XK),gx k (A.deeper (envOfC qual (ao st) s.heap.objs.size f cdv))->sp vs H Q E ->
   ∃t,PSs (xy CX0 P w K mg base N qual (ao st) f cdv A outer s H E).nox (b6 st) t/\t { nx:=fun _ H'=>Q .non H',rt:=Q } (start N vs) H):za P w K mg base (k+1) C m ps sp:=by
 obtain⟨f,fd,F,hm⟩:=D.ex;exact⟨f,fd,F.ok S len fun cdv A outer s H vs Q E hr h=>hbody f cdv A outer s H vs Q E hr h,F.binds hb,hm⟩
theorem sP.ok(D:sP K mg C x qual st)(S:aI N ps (ao st))
  (hb:∀(kV doc pm:Value) (an:Option Addr) (cdv ct:Value) (us:List Value),us.length=ps.length->bindArgs (PySem.W.fnOf "__init__" qual (cZ st) (b6 st) (ao st) .none kV doc pm an cdv ct) ⟨us,[]⟩=pure (ps.zip us))
  (len:∀vs H Q E,sp vs H Q E->vs.length=ps.length)
  (hbody:∀(f:Addr) (cdv:Value) (A:Around) (outer:List Env) (s:Shared) (H:Hp) (vs:List V) (Q:VK) (E:XK),gx k (A.deeper (envOfC qual (ao st) s.heap.objs.size f cdv))->sp vs H Q E ->
   ∃t,PSs (xy CX0 P w K mg base N qual (ao st) f cdv A outer s H E).nox (b6 st) t/\t { nx:=fun _ H'=>Q .non H',rt:=Q } (start N vs) H):CM P w K mg base (k+1) C x ps sp:=by
 obtain⟨f,fd,F,hm,e⟩:=D.ex;exact⟨f,fd,F.ok S len fun cdv A outer s H vs Q E hr h=>hbody f cdv A outer s H vs Q E hr h,F.binds hb,hm,e⟩
end
section
variable {X:Cx}{k:Nat}{x m:Str}{C:Addr}{ps:List Str}{sp:Sp}{p pos apos:Pos}{o e:Expr}{es:List Expr}{ta:TE}{t:TA}
theorem AA(M:CM X.prog X.w X.K X.mg X.base k C x ps sp)(hr:gx (k+1) X.A)(ha:PA X (e::es) t)(hg:Gl X x:=by rfl)(hdb:(x == ("__debug__":Str))=false:=by decide)(he:starEach (e::es) X.env=(false,eval e X.env)::starEach es X.env:=by rfl)
  (hpl:(backTo pos (starEach es X.env)).any (·.1)=false:=by rfl):PE X (.Call (.Name x p) (e::es) [] pos) (xN C sp [] E0 t):=by
 obtain⟨f,fd,F,hb,hk,hm⟩:=M.ex;exact Af hk F hr hg hm hb .nil xW ha hdb he hpl
theorem iX{pl:Sem Bool}(he:PE X o ta)(c:Cls X.K C)(M:za X.prog X.w X.K X.mg X.base k C m ps sp)(hr:gx k X.A)
  (ht:eval (.Call (.Attribute o m apos) [] [] pos) X.env=(do
   let ov <- eval o X.env
   standAt apos.atName
   let (f,first) <- holding [ov] (getMethod ov m pl)
   callWith pos f first (backTo pos (starEach [] X.env)) (backToKw pos (keywordEach [] X.env))):=by rfl) :
  PE X (.Call (.Attribute o m apos) [] [] pos) (Ae C m sp [] E0 ta eY):=by
 obtain⟨f,fd,F,hb,hm⟩:=M.ex;exact xO (pl:=pl) he c hm F hr hb .nil xW ht
end
theorem vQ{prog:Program}{w:World}{A:Around}(k:Bool)(hh:A.handled=none)(it a:Addr)(hne:a≠it)(its:Array Value) :
  Draws prog w A it [it,a] its.size (fun i v=>its[i]?=some v) (fun i h=>c8 k h it a i/\e6 k h a its) where
 live:=fun _ _ st=>let ⟨o,ho,_⟩:=st.1;⟨o,ho⟩
 frame:=fun _ _ _ st hk=>⟨st.1.mv fun o e=>hk it (by simp) o e,st.2.mv fun o e=>hk a (by simp) o e⟩
 item:=fun i s Q E hi st hQ=>by
  refine eM st.1 st.2 (x:=its[i]) (by simp [hi]) fun h' hit' hs'=>?_;exact hQ _ h' s.toks (by simp [hi]) ⟨hit',st.2.mv fun o e=>hs'.extBut _ o hne e⟩ hs'
 done:=fun s Q E st hE=>fB hh st.1 st.2 (by simp) hE
def Ite(k:Bool)(K:PySem.W.Frag)(a:Addr):It :=
  ⟨fun i H=>∃xs x,Sq k K H a xs/\xs[i]?=some x,
   fun i H p H'=>∃T x,H T=none/\p=.ref T/\(∀xs,Sq k K H a xs->xs[i]?=some x)/\H'=upd H T (.tup [.int (i:Int),x]),
   fun i H=>∃xs,Sq k K H a xs/\xs.length<=i⟩
theorem vR{P:Program}{w:World}{K:PySem.W.Frag}{es:List Expr}{ct:Nat}{tp:Pos}{k:Bool}{a e it:Addr}(hei:e≠it) :
  yX P w K (.Tuple es ct tp) (Ite k K a) [e,it] e (fun n h=>(∃old,IsEnum h e it ((n:Nat):Int) old)/\c8 k h it a n) where
 mem:=by simp
 obj:=fun n h st b hb=>by
  obtain⟨⟨old,he⟩,o1,g1,c1,d1⟩:=st;simp only [mem_cons,not_mem_nil,or_false] at hb
  rcases hb with rfl|rfl
  .exact⟨_,he,fun v q=>by cases q⟩
  .exact⟨_,g1,fun v q=>by rw [d1] at q;cases q⟩
 keep:=fun n h h' st kk=>by
  obtain⟨⟨old,he⟩,w1⟩:=st;exact⟨⟨old,kk e (by simp) _ he⟩,w1.mv fun o q=>kk it (by simp) o q⟩
 item:=by
  intro X hP hw hK hc n pins s σ H E I hf st hg;subst hP hw hK;obtain⟨xs,x,q1,hx⟩:=hg;obtain⟨⟨old,he⟩,w1⟩:=st;obtain⟨its,rv,p,_⟩:=I.row q1;obtain⟨ux,hux,rx⟩:=rv.get hx;have ne:=I.row_ne q1 (hf e (by simp));have ni:=I.row_ne q1 (hf it (by simp))
  have hlt:n<its.toArray.size:=by
   have:=(List.getElem?_eq_some_iff.mp hux).1;simpa using this
  have hhd:X.A.in1.handled=none:=by exact I.ok.hd hc
  refine wpAny_pyNext_enum_itemD (vQ k hhd it a ni its.toArray) he ⟨w1,p⟩ hlt hei (by simp [hei,Ne.symm ne]) fun y h' tk hP ho hst ht hsz hk=>?_
  have hy:y=ux:=by
   have h1:its[n]?=some y:=by simpa using hP
   rw [hux] at h1;exact (Option.some.inj h1).symm
  subst hy;refine⟨_,rfl,wpAny_letOwnedTupleGo_enum ho fun g ge gs=>?_⟩;have lt:∀{b o},s.heap.get? b=some o->s.heap.objs.size≠b:=fun q=>ne_of_gt (Heap.lt_size q)
  have kp:∀b o,b∉[e,it]->s.heap.get? b=some o->g.get? b=some o:=fun b o hb q=>by
   simp only [mem_cons,not_mem_nil,or_false,not_or] at hb;exact gs.extBut _ _ hb.1 (hk b o hb.1 hb.2 q)
  have I2:Inv X pins σ (upd H s.heap.objs.size (.tup [.int (n:Int),x])) { s with heap:=g,toks:=tk+1 }:=I.yielded (ch:=[e,it]) (fun b hb=>hf b hb) (le_refl _) kp
   ⟨by show 2<=sizeLine;decide,[.int (n:Int) tk,y],.cons ⟨tk,rfl⟩ (.cons rx .nil),_,gs.extBut _ _ (lt he) ht,rfl,_,rfl⟩
  refine⟨.ref s.heap.objs.size,_,I2,rfl,⟨_,x,I.hok.fresh (le_refl _),rfl,fun xs' q=>by rw [I.row_inj q q1];exact hx,rfl⟩,⟨⟨y,by simpa using ge⟩,hst.1.mv fun o q=>gs.extBut _ o (Ne.symm hei) q⟩,fun b hb=>?_⟩
  rw [aM ?_]
  .exact (hf b hb).1
  .intro q;subst q;simp only [mem_cons,not_mem_nil,or_false] at hb;obtain⟨o1,g1,_⟩:=w1
   rcases hb with q|q
   .exact lt he q
   .exact lt g1 q
 done:=by
  intro X hP hw hK hc n pins s σ H E I hf st hg;subst hP hw hK;obtain⟨xs,q1,hend⟩:=hg;obtain⟨⟨old,he⟩,w1⟩:=st;obtain⟨its,rv,p,_⟩:=I.row q1;have e1:=rv.length;have ni:=I.row_ne q1 (hf it (by simp));have hhd:X.A.in1.handled=none:=by exact I.ok.hd hc
  obtain⟨f0,f1,f2,f3,f4,f5⟩:=hf it (by simp)
  -- the walk's end is wherever the row has no item
  have hT:s.TypeIs (.ref e) "enumerate":=⟨_,he,rfl⟩
  unfold pyNext
  refine wpAny_bind (wpAny_attempt (wpAny_callSpecial?_slot (name:=Str.ofString "__next__") hT F.slot_enumerate_next
   (wpAny_call_entry F.slot_enumerate_next hT F.entry_enumerate_next ?_ (F.args_enumerate_next_1 _))))
  show wpAny _ _ (field (.ref e) 2 >>= _) _ _ _;refine wpAny_bind (wpAny_field he rfl (x:=.ref it) rfl ?_);refine wpAny_bind (fB hhd w1 p (by simp;omega) fun h' x he' hx'=>?_);obtain⟨o,ho,hcl⟩:=hx';refine wpAny_bind (wpAny_isInstance (T:="StopIteration") (b:=true) ⟨o,ho,hcl⟩ isSubtype_stop ?_);exact wpAny_pure ⟨rfl,I.turned (t':=s.toks) (fun b o hb q=>he' b o hb q) f0 f1 f3 f4 f5⟩
 self:=fun _ _ _ _ _ st h=>let ⟨⟨_,he⟩,_⟩:=st;wpAny_pyIter_enum he h
section
variable {P:Program}{w:World}{A:Around}{E:Value->Shared->Prop}{s:Shared}{k:Bool}
theorem yb(k:Bool)(a:Addr)(xs:Array Value):Meets (Builtin.«enumerate.__new__» ⟨[.type "enumerate",.ref a],[]⟩) (fun _ R s=>e6 k s.heap a xs /\
   R (.ok (.ret (.ref (s.heap.push (kh k a)).objs.size))) { s with heap:=(s.heap.push (kh k a)).push { cls:=.type "enumerate",data:=.fields #[.none,.bool false,.ref s.heap.objs.size,rawInt 0,.none,.none] } }) :=
 .of_wp fun prog w A R s h=>by
  obtain⟨hp,g,d,tk,os⟩:=s;obtain⟨r1,h⟩:=h;have hsub:=sub_enumerate;have R1:e6 k (Shared.heap ⟨hp,g,d,tk,os⟩) a xs:=r1;obtain⟨⟨cls,dd,data,sl⟩,ho,hc,n,hd⟩:=id r1;simp only at hc hd;subst hc hd
  wp_walk using AutoSeq1.wpAny_loadPart' ho
  refine wpAny_stack_any fun st=>wpAny_pure ?_
  split
  .rename_i c _ _ _ _ _
   cases (c == Value.type "enumerate")
   .wp_walk using AutoSeq1.wpAny_loadPart' ho,fg R1
    exact⟨_,rfl,h⟩
   .wp_walk using AutoSeq1.wpAny_loadPart' ho,fg R1
    exact⟨_,rfl,h⟩
  .wp_walk using AutoSeq1.wpAny_loadPart' ho,fg R1
   exact⟨_,rfl,h⟩
theorem yc{a:Addr}{xs:Array Value}{Q:Value->Shared->Prop}(r1:e6 k s.heap a xs)
  (h:∀h',IsEnum h' (s.heap.objs.size+1) s.heap.objs.size 0 .none->c8 k h' s.heap.objs.size a 0->(∀b o,s.heap.get? b=some o->h'.get? b=some o)->Q (.ref (s.heap.objs.size+1)) { s with heap:=h' }) :
  wpAny (model P w) A (call (.type "enumerate") [.ref a]) Q E s:=by
 refine callType_new F.called_enumerate (by decide) (F.typeCall_enumerate_1 _) (F.newCall_enumerate_1 _) (fun obj=>F.args_object_init_2 obj _) F.entry_enumerate_new (yb k a xs) ⟨r1,?_⟩;have z1:(s.heap.push (kh k a)).objs.size=s.heap.objs.size+1:=Heap.size_push ..;have g2:((s.heap.push (kh k a)).push { cls:=.type "enumerate",data:=.fields #[.none,.bool false,.ref s.heap.objs.size,rawInt 0,.none,.none] }).get? (s.heap.push (kh k a)).objs.size=some _:=Heap.get?_push_size _ rfl
 have g1:=Heap.get?_push_of_some { cls:=.type "enumerate",data:=.fields #[.none,.bool false,.ref s.heap.objs.size,rawInt 0,.none,.none] } (Heap.get?_push_size s.heap (o:=kh k a) rfl);show _/\_;rw [z1] at g2 ⊢;exact⟨⟨_,g2,rfl⟩,h _ g2 ⟨_,g1,rfl,rfl⟩ fun b o q=>Heap.get?_push_of_some _ (Heap.get?_push_of_some _ q)⟩
end
section
variable {X:Cx}{es:List Expr}{ct:Nat}{tp:Pos}
def AB(K:PySem.W.Frag)(ta:TA):TI:=fun σ H R=>ta σ H fun vs H1=>∃k a,vs=[.ref a]/\(∃xs,Sq k K H1 a xs)/\R (Ite k K a) H1
theorem AC{a:Expr}{ta:TA}{p pos:Pos}(hg:Gl X "enumerate")(hm:X.mg "enumerate"=none)(ha:PA X [a] ta)(hs:starEach [a] X.env=[(false,eval a X.env)]:=by rfl) :
  PI X (.Tuple es ct tp) (.Call (.Name "enumerate" p) [a] [] pos) (AB X.K ta):=by
 intro pins s σ H R I h;refine Call_ (iQ I hg hm boot_enumerate (PyProof.Rows.callWith_type1 (thn (ha pos pins s σ H _ I h) fun us s1 ⟨vs,H1,I1,r1,q1⟩=>?_) hs rfl));obtain⟨k,a,e,⟨xs,q1⟩,q⟩:=q1;subst e
 cases r1 with
 | cons r rr =>
  cases rr;cases r;obtain⟨its,rv,p,_⟩:=I1.row q1;refine yc p fun h' g1 g2 kk=>wpAny_pyIter_enum g1 ?_;have I2:Inv X pins σ H1 { s1 with heap:=h',toks:=s1.toks }:=I1.kept kk;refine⟨s1.heap.objs.size+1,[s1.heap.objs.size+1,s1.heap.objs.size],_,_,H1,rfl,I2,vR (k:=k) (a:=a) (it:=s1.heap.objs.size) (ne_of_gt (lt_succ_self _)),⟨⟨_,g1⟩,g2⟩,fun b hb=>?_,q⟩
  have hle:s1.heap.objs.size<=b:=by
   simp only [mem_cons,not_mem_nil,or_false] at hb
   rcases hb with e|e
   .rw [e];exact le_add_right _ _
   .rw [e];exact le_refl _
  exact I1.fpOk hle (I1.hok.fresh hle)
end
section
variable {X:Cx}
theorem vS(hc:X.calm=true):cp X (.builtin "min") (fun xs H Q=>∃(p:Addr) (ns:List Int),xs=[.ref p]/\SqL X.K H p (ns.map V.int)/\0<ns.length/\∀m:Int,m∈ns->(∀a∈ns,m<=a)->Q (.int m) H):=by
 intro pins s σ H xs us Q I r h;obtain⟨p,ns,rfl,hS,hne,q⟩:=h;obtain⟨u,rfl,ru⟩:=gw r;cases (show u=Value.ref p from ru);obtain⟨its,rv,pl,hz⟩:=I.list hS;have hi:=fb rv;have hl:=pl.isList;obtain⟨ys,e⟩:=hi.allInts.items;have hns:ns=ys.toList.map (·.1):=by rw [<- hi.numsOf,<- nums_intItems,<- e]
 have hsz:0<ys.size:=by
  have h3:=hne;rw [hns,length_map,Array.length_toList] at h3;exact h3
 rw [e] at hl;refine min_intList (by exact I.ok.hd hc) hl hsz fun v h' tk hv hk=>?_;obtain⟨t,rfl⟩:=intItems_at hv;obtain⟨h1,h2⟩:=argBest_lt (numAt ys) (ys.size - 1)
 refine⟨.int _,H,I.kept (t':=tk) hk,⟨t,rfl⟩,q _ ?_ fun a ha=>?_⟩
 .rw [hns,numAt_eq];exact getD_mem (by rw [length_map,Array.length_toList];omega)
 .rw [hns] at ha;obtain⟨j,hj,rfl⟩:=mem_getD ha;rw [length_map,Array.length_toList] at hj;rw [<- numAt_eq];exact h2 j (by omega)
theorem mT(ns:List Int):∀k,k<=ns.length->preSum (fun i=>ns.getD i 0) k=(ns.take k).sum
 | 0,_=>rfl
 | k+1,h=>by
  rw [preSum,mT ns k (by omega),take_add_one,getElem?_eq_getElem (by omega),sum_append,getD_eq_getElem?_getD,getElem?_eq_getElem (by omega)];simp
theorem vT(hc:X.calm=true):cp X (.builtin "sum") (fun xs H Q=>∃(p:Addr) (ns:List Int),xs=[.ref p]/\SqL X.K H p (ns.map V.int)/\Q (.int ns.sum) H):=by
 intro pins s σ H xs us Q I r h;obtain⟨p,ns,rfl,hS,q⟩:=h;obtain⟨u,rfl,ru⟩:=gw r;cases (show u=Value.ref p from ru);obtain⟨its,rv,pl,hz⟩:=I.list hS;have hi:=fb rv;have hl:=pl.isList;obtain⟨ys,e⟩:=hi.allInts.items;have hns:ns=ys.toList.map (·.1):=by rw [<- hi.numsOf,<- nums_intItems,<- e]
 rw [e] at hl;refine sum_intListG (by exact I.ok.hd hc) hl fun h' tk t' hk=>⟨.int ns.sum,H,I.kept (t':=tk) hk,⟨t',?_⟩,q⟩
 have hlen:ys.size=ns.length:=by rw [hns,length_map,Array.length_toList]
 have hnum:numAt ys=fun i=>ns.getD i 0:=by
  funext i;rw [numAt_eq,hns]
 rw [hnum,hlen,mT ns ns.length (le_refl _),take_length]
theorem vU:∀{ws:List (List Nat)}{us:List Value},cm (ws.map tx) us->StrsAre us (ws.map S)
 | [],_,.nil=>.nil
 | w::ws,_,.cons r rr=>by
  obtain⟨t,e⟩:=r;subst e;exact .cons _ _ (vU rr)
end
section
variable {X:Cx}{es:List Expr}{ct:Nat}{tp:Pos}
def Ep(K:PySem.W.Frag)(ta:TA):TI:=fun σ H R=>ta σ H fun vs H1=>∃k l a c,vs=[.ref a,.ref c]/\(∃xs ys,Sq k K H1 a xs/\Sq l K H1 c ys)/\R (Itz k l K a c) H1
end
section
variable {X:Cx}{e:Expr}{ta:TE}{f:Str}{pos:Pos}
theorem dr(K:PySem.W.Frag)(eK:X.K=K)(he:PE X e ta)(hb:attributeBase e f X.env (eval e X.env)=eval e X.env):PE X (.Attribute e f pos) (xx K ta f):=eK ▸ Cd he hb
def Er(K:PySem.W.Frag):List V->Hp->VK->Prop:=fun xs H Q=>∃p ys,xs=[.ref p]/\SqL K H p ys/\Q (.int ys.length) H
def Es(K:PySem.W.Frag):List V->Hp->VK->Prop:=fun xs H Q=>∃p ys,xs=[.ref p]/\SqT K H p ys/\Q (.int ys.length) H
def Fn(K:PySem.W.Frag):List V->Hp->VK->Prop:=fun xs H Q=>∃x n t b,xs=[x,.ty n]/\qT K H x t/\PySem.W.kitOne K t (.type n)=some b/\Q (.bl b) H
def vV(K:PySem.W.Frag):List V->Hp->VK->Prop:=fun xs H Q=>∃p ys,xs=[.ref p]/\(SqL K H p ys\/SqT K H p ys)/\∀l,H l=none->Q (.ref l) (upd H l (.lst ys))
end
section
variable {X:Cx}{o e:Expr}{es:List Expr}{to:TE}{t:TA}{name:Str}{apos cpos:Pos}{T id:String}{r:V->List V->Hp->VK->Prop}
theorem ga(K:PySem.W.Frag)(eK:X.K=K)(pa:PlainAttrs T)(slot:Slot T name id)(hty:typeOf (.builtin id)=pure (.type "method_descriptor"))(hm:MtR X id r)(ho:PE X o to)(ha:PA X (e::es) t)
  (hbase:attributeBase o name X.env (eval o X.env)=eval o X.env:=by rfl)
  (hfew:((backTo cpos (starEach (e::es) X.env)).all (fun x=>!x.1) && (backToKw cpos (keywordEach [] X.env)).all (fun x=>x.1.isSome)
   && decide ((e::es).length+([]:List Keyword).length+(if ([]:List Keyword).isEmpty then 0 else 1)<30))=true:=by rfl)
  (hline:(apos.endLine == cpos.line)=true:=by rfl) (hs:starEach (e::es) X.env=(false,eval e X.env)::starEach es X.env:=by rfl) (hplain:(backTo cpos (starEach es X.env)).any (·.1)=false:=by rfl) :
  PE X (.Call (.Attribute o name apos) (e::es) [] cpos) (tBM K T r to t):=eK ▸ Ef pa slot hty hm ho ha hbase hfew hline hs hplain
end
def iB(c:Bool)(A B:Prop):Prop:=match c with|true=>A|false=>B
theorem BF{c:Bool}{A B:Prop}(h1:c=true->A)(h2:c=false->B):iB c A B:=by
 cases c with
 | true=>exact h1 rfl
 | false=>exact h2 rfl
theorem fh{p:Prop}[Decidable p]{A B:Prop}(h1:p->A)(h2:¬ p->B):iB (decide p) A B:=BF (fun h=>h1 (of_decide_eq_true h)) (fun h=>h2 (of_decide_eq_false h))
theorem ui{p:Prop}[Decidable p]{A B:Prop}(h1:¬ p->A)(h2:p->B):iB (!decide p) A B:=BF (fun h=>h1 fun z=>by rw [decide_eq_true z] at h;cases h) (fun h=>h2 (by
 by_cases z:p
 .exact z
 .rw [decide_eq_false z] at h;cases h))
theorem Et{p:Prop}[Decidable p]{A B:Prop}(h:p)(hA:A):iB (decide p) A B:=fh (fun _=>hA) (fun z=>absurd h z)
theorem Eu{p:Prop}[Decidable p]{A B:Prop}(h:¬ p)(hB:B):iB (decide p) A B:=fh (fun z=>absurd z h) (fun _=>hB)
theorem CN{p:Prop}[Decidable p]{A B:Prop}(h:¬ p)(hA:A):iB (!decide p) A B:=ui (fun _=>hA) (fun z=>absurd z h)
theorem CO{p:Prop}[Decidable p]{A B:Prop}(h:p)(hB:B):iB (!decide p) A B:=ui (fun z=>absurd h z) (fun _=>hB)
theorem re{c:Bool}{A B:Prop}(h:iB c B A):iB (!c) A B:=by
 cases c <;> exact h
theorem FO{c:Bool}{A B:Prop}(h:c=true)(hA:A):iB c A B:=by subst h;exact hA
theorem FP{c:Bool}{A B:Prop}(h:c=false)(hB:B):iB c A B:=by subst h;exact hB
theorem Ev{c:Bool}{A B:Prop}(h:c=false)(hA:A):iB (!c) A B:=by subst h;exact hA
theorem AD{c:Bool}{A B:Prop}(h:c=true)(hB:B):iB (!c) A B:=by subst h;exact hB
inductive D where
 | non|bl (b:Bool)|int (i:Int)|str (l:List Nat)|ty (n:String)
 | lst (ds:List D)|tup (ds:List D)|scr (ns:List Int)|dic (ks:List Key) (ds:List D)|obj (c:Str) (ns:List Str) (ds:List D)|exc (c:Str) (ns:List Str) (ds:List D)
def XAt(x C:Addr)(dd:Option Addr)(new:Bool)(h:Heap):Prop:=∃o vs,h.get? x=some o/\o.cls=.ref C/\o.dict=dd/\o.data=.fields vs/\1<vs.size/\(new=true->vs[1]?=some .none)
def eJ(A:Addr->Prop)(a:Addr):Addr->Prop:=fun b=>A b\/b=a
def BG(K:PySem.W.Frag)(O:Addr->Prop)(H:Hp)(a:Addr)(xs:List V):Prop :=
 (¬ O a/\Rd H a (.lst xs))\/∃(o:Obj) (its:Array Value) (n:Nat),K.lookup a=some o/\o.cls=.type "list"/\o.dict=none/\o.data=.seq its n/\its.size<=sizeLine/\cm xs its.toList
theorem BG.sq{K:PySem.W.Frag}{O:Addr->Prop}{H:Hp}{a:Addr}{xs:List V}(h:BG K O H a xs):SqL K H a xs:=h.elim (fun z=>.inl z.2) .inr
def aW(O:Addr->Prop)(H:Hp)(O':Addr->Prop)(H':Hp):Prop:=∀b o,¬ O b->H b=some o->¬ O' b/\H' b=some o
theorem Rd.keeps{O O':Addr->Prop}{H H':Hp}{a:Addr}{u:HO}(k:aW O H O' H')(n:¬ O a)(r:Rd H a u):¬ O' a/\Rd H' a u:=by
 rcases r with e|⟨o,e⟩
 .exact⟨(k _ _ n e).1,.inl (k _ _ n e).2⟩
 .exact⟨(k _ _ n e).1,.inr ⟨o,(k _ _ n e).2⟩⟩
theorem BG.keeps{K:PySem.W.Frag}{O O':Addr->Prop}{H H':Hp}{a:Addr}{xs:List V}(k:aW O H O' H')(h:BG K O H a xs):BG K O' H' a xs:=by
 rcases h with ⟨n,r⟩|r
 .exact .inl (r.keeps k n)
 .exact .inr r
mutual
inductive FV (K:PySem.W.Frag) (O:Addr->Prop) (H:Hp):V->D->Prop
 | non:FV K O H .non .non
 | bl (b:Bool):FV K O H (.bl b) (.bl b)
 | int (i:Int):FV K O H (.int i) (.int i)
 | str (l:List Nat):l.length<=1000000->FV K O H (.str (S l)) (.str l)
 | ty (n:String):FV K O H (.ty n) (.ty n)
 | scr {a:Addr}{ns:List Int}:BG K O H a (ns.map V.int)->FV K O H (.ref a) (.scr ns)
 | lst {a:Addr}{xs:List V}{ds:List D}:¬ O a->H a=some (.lst xs)->FVs K O H xs ds->FV K O H (.ref a) (.lst ds)
 | tup {a:Addr}{xs:List V}{ds:List D}:¬ O a->H a=some (.tup xs)->FVs K O H xs ds->FV K O H (.ref a) (.tup ds)
 | dic {a:Addr}{kvs:List (Key×V)}{ks:List Key}{ds:List D}:¬ O a->H a=some (.dK kvs)->kvs.map Prod.fst=ks->FVs K O H (kvs.map Prod.snd) ds->FV K O H (.ref a) (.dic ks ds)
 | obj {a dx:Addr}{c:Str}{fs:List (Str×V)}{ns:List Str}{ds:List D}:¬ O a->H a=some (.ins (cb K c) dx fs)->fs.map Prod.fst=ns->FVs K O H (fs.map Prod.snd) ds->FV K O H (.ref a) (.obj c ns ds)
 | exc0 {a:Addr}{c:Str}{new:Bool}:¬ O a->H a=some (.ext (XAt a (cb K c) none new))->FV K O H (.ref a) (.exc c [] [])
 | exc1 {a dx:Addr}{c:Str}{new:Bool}{fs:List (Str×V)}{ns:List Str}{ds:List D}:¬ O a->¬ O dx->H a=some (.ext (XAt a (cb K c) (some dx) new))->H dx=some (.xd fs)->fs.map Prod.fst=ns->FVs K O H (fs.map Prod.snd) ds->FV K O H (.ref a) (.exc c ns ds)
inductive FVs (K:PySem.W.Frag) (O:Addr->Prop) (H:Hp):List V->List D->Prop
 | nil:FVs K O H [] []
 | cons {x:V}{d:D}{xs:List V}{ds:List D}:FV K O H x d->FVs K O H xs ds->FVs K O H (x::xs) (d::ds)
end
section
variable {K:PySem.W.Frag}{O O':Addr->Prop}{H H':Hp}
mutual
theorem FV.keeps(k:aW O H O' H'):∀{v:V}{d:D},FV K O H v d->FV K O' H' v d
 | _,_,.non=>.non
 | _,_,.bl b=>.bl b
 | _,_,.int i=>.int i
 | _,_,.str l h=>.str l h
 | _,_,.ty n=>.ty n
 | _,_,.scr s=>.scr (s.keeps k)
 | _,_,.lst n e f=>.lst (k _ _ n e).1 (k _ _ n e).2 (FVs.keeps k f)
 | _,_,.tup n e f=>.tup (k _ _ n e).1 (k _ _ n e).2 (FVs.keeps k f)
 | _,_,.dic n e m f=>.dic (k _ _ n e).1 (k _ _ n e).2 m (FVs.keeps k f)
 | _,_,.obj n e m f=>.obj (k _ _ n e).1 (k _ _ n e).2 m (FVs.keeps k f)
 | _,_,.exc0 n e=>.exc0 (k _ _ n e).1 (k _ _ n e).2
 | _,_,.exc1 n n2 e e2 m f=>.exc1 (k _ _ n e).1 (k _ _ n2 e2).1 (k _ _ n e).2 (k _ _ n2 e2).2 m (FVs.keeps k f)
theorem FVs.keeps(k:aW O H O' H'):∀{vs:List V}{ds:List D},FVs K O H vs ds->FVs K O' H' vs ds
 | _,_,.nil=>.nil
 | _,_,.cons a b=>.cons (FV.keeps k a) (FVs.keeps k b)
end
theorem FVs.length:∀{vs:List V}{ds:List D},FVs K O H vs ds->vs.length=ds.length
 | _,_,.nil=>rfl
 | _,_,.cons _ b=>by rw [length_cons,length_cons,b.length]
theorem FVs.get:∀{vs:List V}{ds:List D}{i:Nat}{v:V},FVs K O H vs ds->vs[i]?=some v->∃d,ds[i]?=some d/\FV K O H v d
 | _,_,0,_,.cons a _,e=>by simp at e;subst e;exact⟨_,rfl,a⟩
 | _,_,i+1,v,.cons _ b,e=>by
  obtain⟨d,h1,h2⟩:=b.get (i:=i) (v:=v) (by simpa using e);exact⟨d,by simpa using h1,h2⟩
theorem FVs.getD:∀{vs:List V}{ds:List D}{i:Nat}{d:D},FVs K O H vs ds->ds[i]?=some d->∃v,vs[i]?=some v/\FV K O H v d
 | _,_,0,_,.cons a _,e=>by simp at e;subst e;exact⟨_,rfl,a⟩
 | _,_,i+1,v,.cons _ b,e=>by
  obtain⟨d,h1,h2⟩:=b.getD (i:=i) (d:=v) (by simpa using e);exact⟨d,by simpa using h1,h2⟩
theorem FVs.append:∀{vs ws:List V}{ds es:List D},FVs K O H vs ds->FVs K O H ws es->FVs K O H (vs++ws) (ds++es)
 | _,_,_,_,.nil,s=>s
 | _,_,_,_,.cons a b,s=>.cons a (b.append s)
theorem FVs.set{v:V}{d:D}(f:FV K O H v d):∀{vs:List V}{ds:List D} (i:Nat),FVs K O H vs ds->FVs K O H (vs.set i v) (ds.set i d)
 | _,_,_,.nil=>.nil
 | _,_,0,.cons _ t=>.cons f t
 | _,_,i+1,.cons q t=>.cons q (FVs.set f i t)
theorem FVs.take:∀{vs:List V}{ds:List D} (n:Nat),FVs K O H vs ds->FVs K O H (vs.take n) (ds.take n)
 | _,_,0,_=>.nil
 | _,_,_+1,.nil=>.nil
 | _,_,n+1,.cons r t=>.cons r (t.take n)
theorem FVs.drop:∀{vs:List V}{ds:List D} (n:Nat),FVs K O H vs ds->FVs K O H (vs.drop n) (ds.drop n)
 | _,_,0,r=>r
 | _,_,_+1,.nil=>.nil
 | _,_,n+1,.cons _ t=>t.drop n
theorem FVs.ints:∀{vs:List V}{ns:List Int},FVs K O H vs (ns.map D.int)->vs=ns.map V.int
 | _,[],.nil=>rfl
 | _,n::r,h=>by
  cases h with
  | cons a b=>cases a;rw [FVs.ints b];rfl
theorem FVs.of_ints:∀ns:List Int,FVs K O H (ns.map V.int) (ns.map D.int)
 | []=>.nil
 | n::r=>.cons (.int n) (FVs.of_ints r)
theorem FVs.strs:∀{vs:List V}{ws:List (List Nat)},FVs K O H vs (ws.map D.str)->vs=ws.map tx
 | _,[],.nil=>rfl
 | _,n::r,h=>by
  cases h with
  | cons a b=>cases a;rw [FVs.strs b];rfl
theorem FVs.bls:∀{vs:List V}{bs:List Bool},FVs K O H vs (bs.map D.bl)->vs=bs.map V.bl
 | _,[],.nil=>rfl
 | _,n::r,h=>by
  cases h with
  | cons a b=>cases a;rw [FVs.bls b];rfl
end
inductive PV where
 | dat (d:D)|own (ds:List D)|ins (c:Str) (ns:List Str) (ds:List D)
def PV.isOwn:PV->Bool
 | .dat _=>false
 | _=>true
def PV.d:PV->D
 | .dat d=>d
 | .own ds=>.lst ds
 | .ins c ns ds=>.obj c ns ds
abbrev PSt:=List (Option PV)
def Wr(ρ:PSt)(σ:St)(b:Addr):Prop:=∃(i:Nat) (p:PV),ρ[i]?=some (some p)/\p.isOwn=true/\σ[i]?=some (some (.ref b))
def OO(A:Addr->Prop)(ρ:PSt)(σ:St)(b:Addr):Prop:=A b\/Wr ρ σ b
def RS(K:PySem.W.Frag)(O:Addr->Prop)(H:Hp):PV->V->Prop
 | .dat d,v=>FV K O H v d
 | .own ds,v=>∃a xs,v=.ref a/\H a=some (.lst xs)/\FVs K O H xs ds
 | .ins c ns ds,v=>∃a dx fs,v=.ref a/\H a=some (.ins (cb K c) dx fs)/\fs.map Prod.fst=ns/\FVs K O H (fs.map Prod.snd) ds
structure Rel (K:PySem.W.Frag) (A:Addr->Prop) (ρ:PSt) (σ:St) (H:Hp):Prop where
 len:ρ.length=σ.length
 get:∀(i:Nat) (p:PV),ρ[i]?=some (some p)->∃v,σ[i]?=some (some v)/\RS K (OO A ρ σ) H p v
 dj:∀(i j:Nat) (p q:PV) (v:V),ρ[i]?=some (some p)->ρ[j]?=some (some q)->p.isOwn=true->q.isOwn=true->σ[i]?=some (some v)->σ[j]?=some (some v)->i=j
 dom:∀b,A b->H b≠none
 sep:∀b,A b->¬ Wr ρ σ b
structure Fr (ρ:PSt) (σ:St) (H:Hp) (ρ':PSt) (H':Hp):Prop where
 kp:∀b o,¬ Wr ρ σ b->H b=some o->H' b=some o
 dm:∀b,H b≠none->H' b≠none
 ow:∀b,Wr ρ' σ b->Wr ρ σ b
theorem Fr.refl(ρ:PSt)(σ:St)(H:Hp):Fr ρ σ H ρ H:=⟨fun _ _ _ h=>h,fun _ h=>h,fun _ h=>h⟩
theorem Fr.trans{ρ ρ1 ρ2:PSt}{σ:St}{H H1 H2:Hp}(a:Fr ρ σ H ρ1 H1)(b:Fr ρ1 σ H1 ρ2 H2):Fr ρ σ H ρ2 H2 :=
 ⟨fun c o n h=>b.kp c o (fun z=>n (a.ow c z)) (a.kp c o n h),fun c h=>b.dm c (a.dm c h),fun c h=>a.ow c (b.ow c h)⟩
theorem Fr.keeps{ρ ρ':PSt}{σ:St}{H H':Hp}{A:Addr->Prop}(f:Fr ρ σ H ρ' H'):aW (OO A ρ σ) H (OO A ρ' σ) H':=fun b o n h =>
 ⟨fun z=>z.elim (fun z=>n (.inl z)) (fun z=>n (.inr (f.ow b z))),f.kp b o (fun z=>n (.inr z)) h⟩
theorem Fr.new{ρ:PSt}{σ:St}{H:Hp}{p:Addr}{o:HO}(h:H p=none):Fr ρ σ H ρ (upd H p o) :=
 ⟨fun b u _ e=>by rw [aM (aZ e h)];exact e,fun b e=>by
  by_cases z:b=p
  .rw [z,bi];exact nofun
  .rw [aM z];exact e,fun _ h=>h⟩
theorem aW.fresh{O:Addr->Prop}{H:Hp}{p:Addr}{o:HO}(h:H p=none):aW O H (eJ O p) (upd H p o):=fun b u n e =>
 ⟨fun z=>z.elim n (fun z=>by rw [z,h] at e;cases e),by rw [aM (aZ e h)];exact e⟩
theorem aW.less{O O':Addr->Prop}{H:Hp}(h:∀b,O' b->O b):aW O H O' H:=fun b o n e=>⟨fun z=>n (h b z),e⟩
theorem RS.keeps{K:PySem.W.Frag}{O O':Addr->Prop}{H H':Hp}{p:PV}{v:V}(k:aW O H O' H')(w:p.isOwn=true->∀a,v=.ref a->H' a=H a)(h:RS K O H p v):RS K O' H' p v:=by
 cases p with
 | dat d=>exact FV.keeps k h
 | own ds =>
  obtain⟨a,xs,e,g,f⟩:=h;exact⟨a,xs,e,by rw [w rfl a e];exact g,f.keeps k⟩
 | ins c ns ds =>
  obtain⟨a,dx,fs,e,g,m,f⟩:=h;exact⟨a,dx,fs,e,by rw [w rfl a e];exact g,m,f.keeps k⟩
theorem RS.ref{K:PySem.W.Frag}{O:Addr->Prop}{H:Hp}{p:PV}{v:V}(h:RS K O H p v)(o:p.isOwn=true):∃a u,v=.ref a/\H a=some u:=by
 cases p with
 | dat d=>cases o
 | own ds=>obtain⟨a,xs,e,g,f⟩:=h;exact⟨a,_,e,g⟩
 | ins c ns ds=>obtain⟨a,dx,fs,e,g,m,f⟩:=h;exact⟨a,_,e,g⟩
theorem Rel.wr{K:PySem.W.Frag}{A:Addr->Prop}{ρ:PSt}{σ:St}{H:Hp}(R:Rel K A ρ σ H){b:Addr}(h:Wr ρ σ b):H b≠none:=by
 obtain⟨i,p,e,o,s⟩:=h;obtain⟨v,s',r⟩:=R.get i p e;rw [s] at s';cases s';obtain⟨a,u,e1,e2⟩:=r.ref o;cases e1;rw [e2];exact nofun
theorem Rel.oo{K:PySem.W.Frag}{A:Addr->Prop}{ρ:PSt}{σ:St}{H:Hp}(R:Rel K A ρ σ H){b:Addr}(h:H b=none):¬ OO A ρ σ b:=fun z=>z.elim (fun z=>R.dom b z h) (fun z=>R.wr z h)
theorem Rel.grow{K:PySem.W.Frag}{A:Addr->Prop}{ρ:PSt}{σ:St}{H:Hp}(R:Rel K A ρ σ H){p:Addr}{o:HO}(h:H p=none):Rel K A ρ σ (upd H p o):=by
 have k:aW (OO A ρ σ) H (OO A ρ σ) (upd H p o):=Fr.keeps (Fr.new h);refine⟨R.len,fun i q e=>?_,R.dj,fun b z=>(Fr.new (ρ:=ρ) (σ:=σ) h).dm b (R.dom b z),R.sep⟩;obtain⟨v,s,r⟩:=R.get i q e;refine⟨v,s,r.keeps k fun ow a ea=>?_⟩;obtain⟨a',u,e1,e2⟩:=r.ref ow;rw [ea] at e1;cases e1;rw [aM (aZ e2 h)]
theorem Rel.less{K:PySem.W.Frag}{A A':Addr->Prop}{ρ:PSt}{σ:St}{H:Hp}(R:Rel K A ρ σ H)(h:∀b,A' b->A b):Rel K A' ρ σ H:=by
 refine⟨R.len,fun i q e=>?_,R.dj,fun b z=>R.dom b (h b z),fun b z=>R.sep b (h b z)⟩;obtain⟨v,s,r⟩:=R.get i q e;exact⟨v,s,r.keeps (aW.less fun b z=>z.imp (h b) id) fun _ _ _=>rfl⟩
theorem Rel.write{K:PySem.W.Frag}{A:Addr->Prop}{ρ:PSt}{σ:St}{H:Hp}(R:Rel K A ρ σ H){i:Nat}{p q:PV}{a:Addr}{o:HO}(e:ρ[i]?=some (some p))(ow:p.isOwn=true)(ow':q.isOwn=true)(es:σ[i]?=some (some (.ref a)))
  (new:RS K (OO A ρ σ) (upd H a o) q (.ref a)):Rel K A (ρ.set i (some q)) σ (upd H a o)/\Fr ρ σ H (ρ.set i (some q)) (upd H a o):=by
 have hi:i<ρ.length:=(List.getElem?_eq_some_iff.mp e).1;have wa:Wr ρ σ a:=⟨i,p,e,ow,es⟩
 have weq:∀b,Wr (ρ.set i (some q)) σ b ↔ Wr ρ σ b:=fun b=>by
  constructor
  .rintro⟨j,r,e1,o1,s1⟩
   by_cases z:i=j
   .subst z;exact⟨i,p,e,ow,s1⟩
   .rw [getElem?_set_ne z] at e1;exact⟨j,r,e1,o1,s1⟩
  .rintro⟨j,r,e1,o1,s1⟩
   by_cases z:i=j
   .subst z;exact⟨i,q,getElem?_set_self hi,ow',s1⟩
   .exact⟨j,r,by rw [getElem?_set_ne z];exact e1,o1,s1⟩
 have oeq:OO A (ρ.set i (some q)) σ=OO A ρ σ:=funext fun b=>propext (or_congr Iff.rfl (weq b));have kp:∀b u,¬ Wr ρ σ b->H b=some u->upd H a o b=some u:=fun b u n h=>by rw [aM (fun z=>n (by rw [z];exact wa))];exact h
 have k:aW (OO A ρ σ) H (OO A ρ σ) (upd H a o):=fun b u n h=>⟨n,kp b u (fun z=>n (.inr z)) h⟩
 have dm:∀b,H b≠none->upd H a o b≠none:=fun b n=>by
  by_cases z:b=a
  .rw [z,bi];exact nofun
  .rw [aM z];exact n
 refine⟨⟨by rw [length_set];exact R.len,fun j r e1=>?_,fun j l p1 q1 v e1 e2 o1 o2 s1 s2=>?_,fun b z=>dm b (R.dom b z),fun b z w=>R.sep b z ((weq b).mp w)⟩,⟨kp,dm,fun b w=>(weq b).mp w⟩⟩
 .rw [oeq]
  by_cases z:i=j
  .subst z;rw [getElem?_set_self hi] at e1;cases e1;exact⟨_,es,new⟩
  .rw [getElem?_set_ne z] at e1;obtain⟨v,s,rr⟩:=R.get j r e1;refine⟨v,s,rr.keeps k fun ow2 b eb=>?_⟩;rw [aM];intro zz;subst zz;rw [eb] at s;exact z (R.dj i j p r _ e e1 ow ow2 es s)
 .have ex:∀(m:Nat) (x:PV),(ρ.set i (some q))[m]?=some (some x)->x.isOwn=true->∃y:PV,ρ[m]?=some (some y)/\y.isOwn=true:=fun m x em ox=>by
   by_cases z:i=m
   .subst z;exact⟨p,e,ow⟩
   .rw [getElem?_set_ne z] at em;exact⟨x,em,ox⟩
  obtain⟨y1,h1,h2⟩:=ex j p1 e1 o1;obtain⟨y2,h3,h4⟩:=ex l q1 e2 o2;exact R.dj j l y1 y2 v h1 h3 h2 h4 s1 s2
theorem Rel.frz{K:PySem.W.Frag}{A:Addr->Prop}{ρ:PSt}{σ:St}{H:Hp}(R:Rel K A ρ σ H){i:Nat}{p:PV}(e:ρ[i]?=some (some p)) :
  Rel K A (ρ.set i (some (.dat p.d))) σ H/\Fr ρ σ H (ρ.set i (some (.dat p.d))) H:=by
 have hi:i<ρ.length:=(List.getElem?_eq_some_iff.mp e).1
 have ex:∀(m:Nat) (x:PV),(ρ.set i (some (.dat p.d)))[m]?=some (some x)->x.isOwn=true->m≠i/\ρ[m]?=some (some x):=fun m x em ox=>by
  by_cases z:i=m
  .subst z;rw [getElem?_set_self hi] at em;cases em;cases ox
  .rw [getElem?_set_ne z] at em;exact⟨fun q=>z q.symm,em⟩
 have ow:∀b,Wr (ρ.set i (some (.dat p.d))) σ b->Wr ρ σ b:=fun b ⟨j,r,e1,o1,s1⟩=>⟨j,r,(ex j r e1 o1).2,o1,s1⟩
 have k:aW (OO A ρ σ) H (OO A (ρ.set i (some (.dat p.d))) σ) H:=aW.less fun b z=>z.imp id (ow b);refine⟨⟨by rw [length_set];exact R.len,fun j r e1=>?_,fun j l p1 q1 v e1 e2 o1 o2 s1 s2=>R.dj j l p1 q1 v (ex j p1 e1 o1).2 (ex l q1 e2 o2).2 o1 o2 s1 s2,R.dom,fun b z w=>R.sep b z (ow b w)⟩,⟨fun _ _ _ h=>h,fun _ h=>h,ow⟩⟩
 by_cases z:i=j
 .subst z;rw [getElem?_set_self hi] at e1;cases e1;obtain⟨v,s,r⟩:=R.get i p e;refine⟨v,s,?_⟩
  have na:∀a,v=.ref a->p.isOwn=true->¬ OO A (ρ.set i (some (.dat p.d))) σ a:=fun a ea oo z=>by
   subst ea
   rcases z with z|⟨j,r,e1,o1,s1⟩
   .exact R.sep a z ⟨i,p,e,oo,s⟩
   .obtain⟨n1,n2⟩:=ex j r e1 o1;exact n1 (R.dj j i r p _ n2 e o1 oo s1 s)
  cases p with
  | dat d=>exact FV.keeps k r
  | own ds =>
   obtain⟨a,xs,rfl,g,f⟩:=r;exact .lst (na a rfl rfl) g (f.keeps k)
  | ins c ns ds =>
   obtain⟨a,dx,fs,rfl,g,m,f⟩:=r;exact .obj (na a rfl rfl) g m (f.keeps k)
 .rw [getElem?_set_ne z] at e1;obtain⟨v,s,r⟩:=R.get j _ e1;exact⟨v,s,r.keeps k fun _ _ _=>rfl⟩
abbrev PKt:=PV->PSt->Prop
abbrev PTE:=PSt->PKt->Prop
abbrev PTT:=PSt->(Bool->PSt->Prop)->Prop
inductive AV where
 | v (d:D)|sl (i:Nat)
abbrev PA1:=PSt->(AV->PSt->Prop)->Prop
abbrev PTA:=PSt->(List AV->PSt->Prop)->Prop
def Out(K:PySem.W.Frag)(A:Addr->Prop)(ρ:PSt)(σ:St)(H0 H:Hp):PV->V->Prop
 | .dat d,v=>Rel K A ρ σ H/\FV K (OO A ρ σ) H v d
 | .own ds,v=>∃a xs,v=.ref a/\¬ A a/\H0 a=none/\H a=some (.lst xs)/\Rel K (eJ A a) ρ σ H/\FVs K (OO (eJ A a) ρ σ) H xs ds
 | .ins c ns ds,v=>∃a dx fs,v=.ref a/\¬ A a/\H0 a=none/\H a=some (.ins (cb K c) dx fs)/\fs.map Prod.fst=ns/\Rel K (eJ A a) ρ σ H/\FVs K (OO (eJ A a) ρ σ) H (fs.map Prod.snd) ds
def LE(K:PySem.W.Frag)(te:TE)(pe:PTE):Prop:=∀(A:Addr->Prop) (ρ:PSt) (σ:St) (H:Hp) (Q:PKt) (Q':VK),Rel K A ρ σ H->pe ρ Q ->
 (∀v H' p ρ',Q p ρ'->Fr ρ σ H ρ' H'->Out K A ρ' σ H H' p v->Q' v H')->te σ H Q'
def LT(K:PySem.W.Frag)(tt:TT)(pt:PTT):Prop:=∀(A:Addr->Prop) (ρ:PSt) (σ:St) (H:Hp) (Q:Bool->PSt->Prop) (Q':Bool->Hp->Prop),Rel K A ρ σ H->pt ρ Q ->
 (∀b H' ρ',Q b ρ'->Fr ρ σ H ρ' H'->Rel K A ρ' σ H'->Q' b H')->tt σ H Q'
def AOk(K:PySem.W.Frag)(O:Addr->Prop)(σ:St)(H:Hp):AV->V->Prop
 | .v d,v=>FV K O H v d
 | .sl i,v=>σ[i]?=some (some v)
def LA1(K:PySem.W.Frag)(te:TE)(pa:PA1):Prop:=∀(A:Addr->Prop) (ρ:PSt) (σ:St) (H:Hp) (Q:AV->PSt->Prop) (Q':VK),Rel K A ρ σ H->pa ρ Q ->
 (∀v H' av ρ',Q av ρ'->Fr ρ σ H ρ' H'->Rel K A ρ' σ H'->AOk K (OO A ρ' σ) σ H' av v->Q' v H')->te σ H Q'
inductive AE (K:PySem.W.Frag) (O:Addr->Prop) (σ:St) (H:Hp):List AV->List V->Prop
 | nil:AE K O σ H [] []
 | cons {a:AV}{v:V}{as:List AV}{vs:List V}:AOk K O σ H a v->AE K O σ H as vs->AE K O σ H (a::as) (v::vs)
def LAs(K:PySem.W.Frag)(ta:TA)(pa:PTA):Prop:=∀(A:Addr->Prop) (ρ:PSt) (σ:St) (H:Hp) (Q:List AV->PSt->Prop) (Q':List V->Hp->Prop),Rel K A ρ σ H->pa ρ Q ->
 (∀vs H' as ρ',Q as ρ'->Fr ρ σ H ρ' H'->Rel K A ρ' σ H'->AE K (OO A ρ' σ) σ H' as vs->Q' vs H')->ta σ H Q'
section
variable {K:PySem.W.Frag}{A O O':Addr->Prop}{ρ ρ':PSt}{σ:St}{H H' H0:Hp}
theorem AOk.keeps{a:AV}{v:V}(k:aW O H O' H')(h:AOk K O σ H a v):AOk K O' σ H' a v:=by
 cases a with
 | v d=>exact FV.keeps k h
 | sl i=>exact h
theorem Out.frz{p:PV}{v:V}(h:Out K A ρ σ H0 H p v):Rel K A ρ σ H/\FV K (OO A ρ σ) H v p.d:=by
 cases p with
 | dat d=>exact h
 | own ds =>
  obtain⟨a,xs,rfl,na,_,e,R,f⟩:=h;refine⟨R.less fun b z=>.inl z,.lst (fun z=>?_) e (f.keeps (aW.less fun b z=>z.imp .inl id))⟩;exact z.elim na (fun z=>R.sep a (.inr rfl) z)
 | ins c ns ds =>
  obtain⟨a,dx,fs,rfl,na,_,e,m,R,f⟩:=h;refine⟨R.less fun b z=>.inl z,.obj (fun z=>?_) e m (f.keeps (aW.less fun b z=>z.imp .inl id))⟩;exact z.elim na (fun z=>R.sep a (.inr rfl) z)
theorem Out.h0{p:PV}{v:V}{H1:Hp}(h:Out K A ρ σ H0 H p v)(dm:∀b,H1 b≠none->H0 b≠none):Out K A ρ σ H1 H p v:=by
 have k:∀a,H0 a=none->H1 a=none:=fun a e=>by
  cases z:H1 a with
  | none=>rfl
  | some o=>exact absurd e (dm a (by rw [z];exact nofun))
 cases p with
 | dat d=>exact h
 | own ds=>obtain⟨a,xs,e1,na,e2,r⟩:=h;exact⟨a,xs,e1,na,k a e2,r⟩
 | ins c ns ds=>obtain⟨a,dx,fs,e1,na,e2,r⟩:=h;exact⟨a,dx,fs,e1,na,k a e2,r⟩
def Gr(H H':Hp):Prop:=∀b o,H b=some o->H' b=some o
theorem Gr.fr(g:Gr H H'):Fr ρ σ H ρ H':=⟨fun b o _ h=>g b o h,fun b h=>by
 cases e:H b with
 | none=>exact absurd e h
 | some o=>rw [g b o e];exact nofun,fun _ h=>h⟩
theorem Gr.new{p:Addr}{o:HO}(h:H p=none):Gr H (upd H p o):=fun b u e=>by rw [aM (aZ e h)];exact e
theorem Gr.refl(H:Hp):Gr H H:=fun _ _ h=>h
theorem Rel.gr(R:Rel K A ρ σ H)(g:Gr H H'):Rel K A ρ σ H':=by
 refine⟨R.len,fun i q e=>?_,R.dj,fun b z=>(g.fr (ρ:=ρ) (σ:=σ)).dm b (R.dom b z),R.sep⟩;obtain⟨v,s,r⟩:=R.get i q e;refine⟨v,s,r.keeps (g.fr (ρ:=ρ) (σ:=σ)).keeps fun ow a ea=>?_⟩;obtain⟨a',u,e1,e2⟩:=r.ref ow;rw [ea] at e1;cases e1;rw [e2];exact g _ _ e2
theorem Rel.grA(R:Rel K A ρ σ H)(g:Gr H H'){p:Addr}(h:H p=none)(h':H' p≠none):Rel K (eJ A p) ρ σ H':=by
 have k:aW (OO A ρ σ) H (OO (eJ A p) ρ σ) H':=fun b u n e=>by
  refine⟨fun z=>?_,g _ _ e⟩
  rcases z with (z|z)|z
  .exact n (.inl z)
  .rw [z,h] at e;cases e
  .exact n (.inr z)
 refine⟨R.len,fun i q e=>?_,R.dj,fun b z=>?_,fun b z w=>?_⟩
 .obtain⟨v,s,r⟩:=R.get i q e;refine⟨v,s,r.keeps k fun ow a ea=>?_⟩;obtain⟨a',u,e1,e2⟩:=r.ref ow;rw [ea] at e1;cases e1;rw [e2];exact g _ _ e2
 .rcases z with z|z
  .exact (g.fr (ρ:=ρ) (σ:=σ)).dm b (R.dom b z)
  .rw [z];exact h'
 .rcases z with z|z
  .exact R.sep b z w
  .exact R.wr w (by rw [z];exact h)
def rf(K:PySem.W.Frag)(O:Addr->Prop)(H0 H:Hp):PV->V->Prop
 | .dat d,v=>FV K O H v d
 | .own ds,v=>∃a xs,v=.ref a/\H0 a=none/\H a=some (.lst xs)/\FVs K (eJ O a) H xs ds
 | .ins c ns ds,v=>∃a dx fs,v=.ref a/\H0 a=none/\H a=some (.ins (cb K c) dx fs)/\fs.map Prod.fst=ns/\FVs K (eJ O a) H (fs.map Prod.snd) ds
theorem rf.out{p:PV}{v:V}(R:Rel K A ρ σ H)(g:Gr H H')(h:rf K (OO A ρ σ) H H' p v):Out K A ρ σ H H' p v:=by
 cases p with
 | dat d=>exact⟨R.gr g,h⟩
 | own ds =>
  obtain⟨a,xs,rfl,e0,e,f⟩:=h;refine⟨a,xs,rfl,fun z=>R.dom a z e0,e0,e,R.grA g e0 (by rw [e];exact nofun),f.keeps (aW.less fun b z=>?_)⟩
  rcases z with (z|z)|z
  .exact .inl (.inl z)
  .exact .inr z
  .exact .inl (.inr z)
 | ins c ns ds =>
  obtain⟨a,dx,fs,rfl,e0,e,m,f⟩:=h;refine⟨a,dx,fs,rfl,fun z=>R.dom a z e0,e0,e,m,R.grA g e0 (by rw [e];exact nofun),f.keeps (aW.less fun b z=>?_)⟩
  rcases z with (z|z)|z
  .exact .inl (.inl z)
  .exact .inr z
  .exact .inl (.inr z)
def FVc(K:PySem.W.Frag)(O:Addr->Prop)(H:Hp)(v:V)(d:D):Prop:=FV K O H v d\/(∃a xs ds,v=.ref a/\d=.lst ds/\H a=some (.lst xs)/\FVs K O H xs ds) \/
 ∃a dx c fs ns ds,v=.ref a/\d=.obj c ns ds/\H a=some (.ins (cb K c) dx fs)/\fs.map Prod.fst=ns/\FVs K O H (fs.map Prod.snd) ds
def cont(ρ:PSt):AV->Option D
 | .v d=>some d
 | .sl i=>match ρ[i]? with|some (some p)=>some p.d|_=>none
theorem Rel.cont{av:AV}{v:V}{d:D}(R:Rel K A ρ σ H)(h:AOk K (OO A ρ σ) σ H av v)(e:L2.cont ρ av=some d):FVc K (OO A ρ σ) H v d:=by
 cases av with
 | v d'=>cases e;exact .inl h
 | sl i =>
  have h:σ[i]?=some (some v):=h;simp only [L2.cont] at e
  split at e
  .rename_i p ep;cases e;obtain⟨v',s,r⟩:=R.get i p ep;rw [h] at s;cases s
   cases p with
   | dat d=>exact .inl r
   | own ds=>obtain⟨a,xs,e1,e2,f⟩:=r;exact .inr (.inl ⟨a,xs,ds,e1,rfl,e2,f⟩)
   | ins c ns ds=>obtain⟨a,dx,fs,e1,e2,m,f⟩:=r;exact .inr (.inr ⟨a,dx,c,fs,ns,ds,e1,rfl,e2,m,f⟩)
  .cases e
theorem FVc.lst{v:V}{ds:List D}(h:FVc K O H v (.lst ds)):∃a xs,v=.ref a/\H a=some (.lst xs)/\FVs K O H xs ds:=by
 rcases h with h|⟨a,xs,ds',e1,e2,e3,f⟩|⟨a,dx,c,fs,ns,ds',e1,e2,_⟩
 .cases h with
  | lst n s f=>exact⟨_,_,rfl,s,f⟩
 .cases e2;exact⟨a,xs,e1,e3,f⟩
 .cases e2
theorem FVc.fv{v:V}{d:D}(h:FVc K O H v d)(n:∀ds,d≠.lst ds)(n':∀c ns ds,d≠.obj c ns ds):FV K O H v d:=by
 rcases h with h|⟨a,xs,ds',e1,e2,e3,f⟩|⟨a,dx,c,fs,ns,ds',e1,e2,_⟩
 .exact h
 .exact absurd e2 (n _)
 .exact absurd e2 (n' _ _ _)
theorem FVc.tup{v:V}{ds:List D}(h:FVc K O H v (.tup ds)):∃a xs,v=.ref a/\¬ O a/\H a=some (.tup xs)/\FVs K O H xs ds:=by
 cases h.fv nofun nofun with
 | tup n s f=>exact⟨_,_,rfl,n,s,f⟩
theorem FVc.scr{v:V}{ns:List Int}(h:FVc K O H v (.scr ns)):∃a,v=.ref a/\SqL K H a (ns.map V.int):=by
 cases h.fv nofun nofun with
 | scr s=>exact⟨_,rfl,s.sq⟩
theorem FVc.int{v:V}{i:Int}(h:FVc K O H v (.int i)):v=.int i:=by cases h.fv nofun nofun;rfl
theorem FVc.str{v:V}{i:List Nat}(h:FVc K O H v (.str i)):v=.str (S i)/\i.length<=1000000:=by
 cases h.fv nofun nofun with
 | str _ z=>exact⟨rfl,z⟩
end
def pC(d:D):PTE:=fun ρ Q=>Q (.dat d) ρ
def bb(i:Nat):PTE:=fun ρ Q=>match ρ[i]? with
 | some (some (.dat d))=>Q (.dat d) ρ
 | some (some (.own ds))=>Q (.dat (.lst ds)) (ρ.set i (some (.dat (.lst ds))))
 | some (some (.ins c ns ds))=>Q (.dat (.obj c ns ds)) (ρ.set i (some (.dat (.obj c ns ds))))
 | _=>False
def pSl(i:Nat):PA1:=fun ρ Q=>match ρ[i]? with
 | some (some (.dat d))=>Q (.v d) ρ
 | some (some (.own _))=>Q (.sl i) ρ
 | some (some (.ins _ _ _))=>Q (.sl i) ρ
 | _=>False
def pFz(pe:PTE):PA1:=fun ρ Q=>pe ρ fun p ρ1=>Q (.v p.d) ρ1
def am:PTA:=fun ρ Q=>Q [] ρ
def ag(pa:PA1)(pr:PTA):PTA:=fun ρ Q=>pa ρ fun a ρ1=>pr ρ1 fun as ρ2=>Q (a::as) ρ2
section
variable {K:PySem.W.Frag}{ta tb tc:TE}{pa pb pc:PA1}{pe pe':PTE}{tr:TA}{pr:PTA}
theorem Ew{v:V}{d:D}(h:∀O H,FV K O H v d):LE K (tC v) (pC d):=fun A ρ σ H Q Q' R q k=>k v H (.dat d) ρ q (Fr.refl _ _ _) ⟨R,h _ _⟩
theorem le_int{i:Int}:LE K (tC (.int i)) (pC (.int i)):=Ew fun _ _=>.int i
theorem mf{i:Bool}:LE K (tC (.bl i)) (pC (.bl i)):=Ew fun _ _=>.bl i
theorem le_str{l:List Nat}(h:l.length<=1000000:=by decide):LE K (tC (.str (S l))) (pC (.str l)):=Ew fun _ _=>.str l h
theorem al{i:Nat}:LE K (bz i) (bb i):=by
 intro A ρ σ H Q Q' R q k;unfold bb at q
 split at q
 .rename_i d e;obtain⟨v,s,r⟩:=R.get i _ e;exact⟨v,s,k v H (.dat d) ρ q (Fr.refl _ _ _) ⟨R,r⟩⟩
 .rename_i ds e;obtain⟨R',f⟩:=R.frz e;obtain⟨v,s,r⟩:=R'.get i _ (getElem?_set_self (List.getElem?_eq_some_iff.mp e).1);exact⟨v,s,k v H (.dat (.lst ds)) _ q f ⟨R',r⟩⟩
 .rename_i c ns ds e;obtain⟨R',f⟩:=R.frz e;obtain⟨v,s,r⟩:=R'.get i _ (getElem?_set_self (List.getElem?_eq_some_iff.mp e).1);exact⟨v,s,k v H (.dat (.obj c ns ds)) _ q f ⟨R',r⟩⟩
 .exact q.elim
theorem ai{i:Nat}:LA1 K (bz i) (pSl i):=by
 intro A ρ σ H Q Q' R q k;unfold pSl at q
 split at q
 .rename_i d e;obtain⟨v,s,r⟩:=R.get i _ e;exact⟨v,s,k v H _ ρ q (Fr.refl _ _ _) R r⟩
 .rename_i e;obtain⟨v,s,r⟩:=R.get i _ e;exact⟨v,s,k v H _ ρ q (Fr.refl _ _ _) R s⟩
 .rename_i e;obtain⟨v,s,r⟩:=R.get i _ e;exact⟨v,s,k v H _ ρ q (Fr.refl _ _ _) R s⟩
 .exact q.elim
theorem ae(h:LE K ta pe):LA1 K ta (pFz pe):=fun A ρ σ H Q Q' R q k=>h A ρ σ H _ Q' R q fun v H' p ρ' q f o=>k v H' _ ρ' q f o.frz.1 o.frz.2
theorem ac:LAs K eY am:=fun A ρ σ H Q Q' R q k=>k [] H [] ρ q (Fr.refl _ _ _) R .nil
theorem aa(h:LA1 K ta pa)(hr:LAs K tr pr):LAs K (bf ta tr) (ag pa pr):=fun A ρ σ H Q Q' R q k =>
 h A ρ σ H _ _ R q fun v H1 a ρ1 q1 f1 R1 o1=>hr A ρ1 σ H1 _ _ R1 q1 fun vs H2 as ρ2 q2 f2 R2 o2=>k _ H2 _ ρ2 q2 (f1.trans f2) R2 (.cons (o1.keeps f2.keeps) o2)
def LO(K:PySem.W.Frag)(r:R2)(f:D->D->(PV->Prop)->Prop):Prop:=∀(O:Addr->Prop) (H:Hp) (x y:V) (a b:D) (Q:PV->Prop) (Q':VK),(∀b,O b->H b≠none)->FVc K O H x a->FVc K O H y b->f a b Q ->
 (∀v H' p,Q p->Gr H H'->rf K O H H' p v->Q' v H')->r x y H Q'
def op2(f:D->D->(PV->Prop)->Prop)(ρ:PSt)(x y:AV)(Q:PKt):Prop:=match cont ρ x,cont ρ y with
 | some a,some b=>f a b fun p=>Q p ρ
 | _,_=>False
def pOp(f:D->D->(PV->Prop)->Prop)(pa pb:PA1):PTE:=fun ρ Q=>pa ρ fun x ρ1=>pb ρ1 fun y ρ2=>op2 f ρ2 x y Q
theorem Rel.dom2{A:Addr->Prop}{ρ:PSt}{σ:St}{H:Hp}(R:Rel K A ρ σ H):∀b,OO A ρ σ b->H b≠none:=fun b z=>z.elim (R.dom b) R.wr
theorem au{r:R2}{f:D->D->(PV->Prop)->Prop}(o:LO K r f)(ha:LA1 K ta pa)(hb:LA1 K tb pb):LE K (tOp r ta tb) (pOp f pa pb):=fun A ρ σ H Q Q' R q k =>
 ha A ρ σ H _ _ R q fun v H1 a ρ1 q1 f1 R1 o1=>hb A ρ1 σ H1 _ _ R1 q1 fun w H2 b ρ2 q2 f2 R2 o2=>by
  unfold op2 at q2
  split at q2
  .rename_i da db e1 e2;exact o _ H2 v w da db _ _ R2.dom2 (R2.cont (o1.keeps f2.keeps) e1) (R2.cont o2 e2) q2 fun z H3 p q3 g ov=>k z H3 p ρ2 q3 ((f1.trans f2).trans g.fr) ((ov.out R2 g).h0 fun b z=>f2.dm b (f1.dm b z))
  .exact q2.elim
def LU(K:PySem.W.Frag)(r:V->Hp->VK->Prop)(f:D->(PV->Prop)->Prop):Prop:=∀(O:Addr->Prop) (H:Hp) (x:V) (a:D) (Q:PV->Prop) (Q':VK),(∀b,O b->H b≠none)->FVc K O H x a->f a Q ->
 (∀v H' p,Q p->Gr H H'->rf K O H H' p v->Q' v H')->r x H Q'
def op1(f:D->(PV->Prop)->Prop)(ρ:PSt)(x:AV)(Q:PKt):Prop:=match cont ρ x with
 | some a=>f a fun p=>Q p ρ
 | _=>False
def pUn(f:D->(PV->Prop)->Prop)(pa:PA1):PTE:=fun ρ Q=>pa ρ fun x ρ1=>op1 f ρ1 x Q
theorem vW{r:V->Hp->VK->Prop}{f:D->(PV->Prop)->Prop}(o:LU K r f)(ha:LA1 K ta pa):LE K (tUn r ta) (pUn f pa):=fun A ρ σ H Q Q' R q k =>
 ha A ρ σ H _ _ R q fun v H1 a ρ1 q1 f1 R1 o1=>by
  unfold op1 at q1
  split at q1
  .rename_i da e1;exact o _ H1 v da _ _ R1.dom2 (R1.cont o1 e1) q1 fun z H3 p q3 g ov=>k z H3 p ρ1 q3 (f1.trans g.fr) ((ov.out R1 g).h0 fun b z=>f1.dm b z)
  .exact q1.elim
inductive BH (K:PySem.W.Frag) (O:Addr->Prop) (H:Hp):List V->List D->Prop
 | nil:BH K O H [] []
 | cons {x:V}{d:D}{xs:List V}{ds:List D}:FVc K O H x d->BH K O H xs ds->BH K O H (x::xs) (d::ds)
def conts(ρ:PSt):List AV->Option (List D)
 | []=>some []
 | a::r=>match cont ρ a,conts ρ r with
  | some d,some ds=>some (d::ds)
  | _,_=>none
theorem Rel.conts{A:Addr->Prop}{ρ:PSt}{σ:St}{H:Hp}(R:Rel K A ρ σ H):∀{as:List AV}{vs:List V}{ds:List D},AE K (OO A ρ σ) σ H as vs->L2.conts ρ as=some ds->BH K (OO A ρ σ) H vs ds
 | _,_,_,.nil,e=>by cases e;exact .nil
 | _,_,_,.cons a b,e=>by
  unfold L2.conts at e
  split at e
  .rename_i e1 e2;cases e;exact .cons (R.cont a e1) (R.conts b e2)
  .cases e
def LC(K:PySem.W.Frag)(r:List V->Hp->VK->Prop)(f:List D->(PV->Prop)->Prop):Prop:=∀(O:Addr->Prop) (H:Hp) (xs:List V) (as:List D) (Q:PV->Prop) (Q':VK),(∀b,O b->H b≠none)->BH K O H xs as->f as Q ->
 (∀v H' p,Q p->Gr H H'->rf K O H H' p v->Q' v H')->r xs H Q'
def opN(f:List D->(PV->Prop)->Prop)(ρ:PSt)(as:List AV)(Q:PKt):Prop:=match conts ρ as with
 | some ds=>f ds fun p=>Q p ρ
 | _=>False
def pCB(f:List D->(PV->Prop)->Prop)(pr:PTA):PTE:=fun ρ Q=>pr ρ fun as ρ1=>opN f ρ1 as Q
theorem aU{r:List V->Hp->VK->Prop}{f:List D->(PV->Prop)->Prop}(o:LC K r f)(ha:LAs K tr pr):LE K (tCB r tr) (pCB f pr):=fun A ρ σ H Q Q' R q k =>
 ha A ρ σ H _ _ R q fun vs H1 as ρ1 q1 f1 R1 o1=>by
  unfold opN at q1
  split at q1
  .rename_i ds e1;exact o _ H1 vs ds _ _ R1.dom2 (R1.conts o1 e1) q1 fun z H3 p q3 g ov=>k z H3 p ρ1 q3 (f1.trans g.fr) ((ov.out R1 g).h0 fun b z=>f1.dm b z)
  .exact q1.elim
def avD:List AV->Option (List D)
 | []=>some []
 | .v d::r=>match avD r with|some ds=>some (d::ds)|none=>none
 | .sl _::_=>none
theorem AE.avD{O:Addr->Prop}{σ:St}{H:Hp}:∀{as:List AV}{vs:List V}{ds:List D},AE K O σ H as vs->L2.avD as=some ds->FVs K O H vs ds
 | _,_,_,.nil,e=>by cases e;exact .nil
 | .v d::r,_,_,.cons a b,e=>by
  simp only [L2.avD] at e
  split at e
  .rename_i e1;cases e;exact .cons a (b.avD e1)
  .cases e
 | .sl i::r,_,_,.cons a b,e=>by cases e
def yd(pr:PTA):PTE:=fun ρ Q=>pr ρ fun as ρ1=>match avD as with
 | some ds=>ds.length<=1000000/\Q (.own ds) ρ1
 | _=>False
def BI(pr:PTA):PTE:=fun ρ Q=>pr ρ fun as ρ1=>match avD as with
 | some ds=>ds.length<=1000000/\Q (.dat (.tup ds)) ρ1
 | _=>False
theorem jO(ha:LAs K tr pr):LE K (Fg tr) (yd pr):=fun A ρ σ H Q Q' R q k =>
 ha A ρ σ H _ _ R q fun vs H1 as ρ1 q1 f1 R1 o1=>by
  split at q1
  .rename_i ds e1;have fs:=o1.avD e1;refine⟨sz _ (by rw [fs.length];exact q1.1),fun p hp=>k _ _ (.own ds) ρ1 q1.2 (f1.trans (Fr.new hp)) ?_⟩;have g:Gr H1 (upd H1 p (.lst vs)):=Gr.new hp;exact (rf.out (p:=.own ds) R1 g ⟨p,vs,rfl,hp,bi,fs.keeps (aW.fresh hp)⟩).h0 fun b z=>f1.dm b z
  .exact q1.elim
theorem pX(ha:LAs K tr pr):LE K (Ce tr) (BI pr):=fun A ρ σ H Q Q' R q k =>
 ha A ρ σ H _ _ R q fun vs H1 as ρ1 q1 f1 R1 o1=>by
  split at q1
  .rename_i ds e1;have fs:=o1.avD e1;refine⟨sz _ (by rw [fs.length];exact q1.1),fun p hp=>k _ _ (.dat (.tup ds)) ρ1 q1.2 (f1.trans (Fr.new hp)) ⟨R1.grow hp,?_⟩⟩;exact .tup (R1.oo hp) bi (fs.keeps (Fr.new hp).keeps)
  .exact q1.elim
def pB(pe:PTE):PTT:=fun ρ Q=>pe ρ fun p ρ1=>match p with
 | .dat (.bl b)=>Q b ρ1
 | _=>False
theorem uT(h:LE K ta pe):LT K (tB ta) (pB pe):=fun A ρ σ H Q Q' R q k=>h A ρ σ H _ _ R q fun v H1 p ρ1 q1 f1 o1=>by
 split at q1
 .rename_i b;obtain⟨R1,f⟩:=o1;cases f;exact⟨b,rfl,k b H1 ρ1 q1 f1 R1⟩
 .exact q1.elim
theorem iO(h:LE K ta pe):LT K (va ta) (pB pe):=uT h
def Ex(a b:PTT):PTT:=fun ρ Q=>a ρ fun c ρ1=>iB c (b ρ1 Q) (Q false ρ1)
def pOr(a b:PTT):PTT:=fun ρ Q=>a ρ fun c ρ1=>iB c (Q true ρ1) (b ρ1 Q)
def ye(a:PTT):PTT:=fun ρ Q=>a ρ fun c ρ1=>Q (!c) ρ1
variable {tta ttb:TT}{pta ptb:PTT}
theorem zb(ha:LT K tta pta)(hb:LT K ttb ptb):LT K (E6 tta ttb) (Ex pta ptb):=fun A ρ σ H Q Q' R q k=>ha A ρ σ H _ _ R q fun c H1 ρ1 q1 f1 R1=>by
 cases c with
 | true=>exact hb A ρ1 σ H1 _ _ R1 q1 fun b H2 ρ2 q2 f2 R2=>k b H2 ρ2 q2 (f1.trans f2) R2
 | false=>exact k false H1 ρ1 q1 f1 R1
theorem uj(ha:LT K tta pta)(hb:LT K ttb ptb):LT K (tOr tta ttb) (pOr pta ptb):=fun A ρ σ H Q Q' R q k=>ha A ρ σ H _ _ R q fun c H1 ρ1 q1 f1 R1=>by
 cases c with
 | false=>exact hb A ρ1 σ H1 _ _ R1 q1 fun b H2 ρ2 q2 f2 R2=>k b H2 ρ2 q2 (f1.trans f2) R2
 | true=>exact k true H1 ρ1 q1 f1 R1
theorem jP(ha:LT K tta pta):LT K (D4 tta) (ye pta):=fun A ρ σ H Q Q' R q k=>ha A ρ σ H _ _ R q fun c H1 ρ1 q1 f1 R1=>k _ H1 ρ1 q1 f1 R1
def AF(a b:PTE):PTE:=fun ρ Q=>a ρ fun p ρ1=>match p with
 | .dat (.bl c)=>iB c (b ρ1 Q) (Q (.dat (.bl false)) ρ1)
 | _=>False
def CP(a:PTE):PTE:=fun ρ Q=>a ρ fun p ρ1=>match p with
 | .dat (.bl c)=>Q (.dat (.bl (!c))) ρ1
 | _=>False
theorem zc(ha:LE K ta pe)(hb:LE K tb pe'):LE K (BY ta tb) (AF pe pe'):=fun A ρ σ H Q Q' R q k=>ha A ρ σ H _ _ R q fun v H1 p ρ1 q1 f1 o1=>by
 split at q1
 .rename_i c;obtain⟨R1,f⟩:=o1;cases f;refine⟨c,rfl,?_⟩
  cases c with
  | true=>exact hb A ρ1 σ H1 _ _ R1 q1 fun b H2 p2 ρ2 q2 f2 o2=>k b H2 p2 ρ2 q2 (f1.trans f2) (o2.h0 fun b z=>f1.dm b z)
  | false=>exact k _ H1 _ ρ1 q1 f1 ⟨R1,.bl false⟩
 .exact q1.elim
theorem CQ(ha:LE K ta pe):LE K (BZ ta) (CP pe):=fun A ρ σ H Q Q' R q k=>ha A ρ σ H _ _ R q fun v H1 p ρ1 q1 f1 o1=>by
 split at q1
 .rename_i c;obtain⟨R1,f⟩:=o1;cases f;exact⟨c,rfl,k _ H1 _ ρ1 q1 f1 ⟨R1,.bl (!c)⟩⟩
 .exact q1.elim
def pIf(t:PTT)(a b:PTE):PTE:=fun ρ Q=>t ρ fun c ρ1=>iB c (a ρ1 Q) (b ρ1 Q)
theorem Ey(ht:LT K tta pta)(ha:LE K ta pe)(hb:LE K tb pe'):LE K (tIf tta ta tb) (pIf pta pe pe'):=fun A ρ σ H Q Q' R q k=>ht A ρ σ H _ _ R q fun c H1 ρ1 q1 f1 R1=>by
 cases c with
 | true=>exact ha A ρ1 σ H1 _ _ R1 q1 fun b H2 p2 ρ2 q2 f2 o2=>k b H2 p2 ρ2 q2 (f1.trans f2) (o2.h0 fun b z=>f1.dm b z)
 | false=>exact hb A ρ1 σ H1 _ _ R1 q1 fun b H2 p2 ρ2 q2 f2 o2=>k b H2 p2 ρ2 q2 (f1.trans f2) (o2.h0 fun b z=>f1.dm b z)
end
abbrev F2:=D->D->(PV->Prop)->Prop
def fI0(g:Int->Int->D):F2
 | .int i,.int j,Q=>Q (.dat (g i j))
 | _,_,_=>False
def fI(C:Int->Int->Prop)(g:Int->Int->D):F2
 | .int i,.int j,Q=>C i j/\Q (.dat (g i j))
 | _,_,_=>False
section
variable {K:PySem.W.Frag}{X:Cx}
theorem yf{g:Int->Int->V}{g':Int->Int->D}(h:∀i j O H,FV K O H (g i j) (g' i j)):LO K (rI0 g) (fI0 g'):=by
 intro O H x y a b Q Q' dom fx fy q k;unfold fI0 at q
 split at q
 .rename_i i j;exact⟨i,j,fx.int,fy.int,k _ H _ q (Gr.refl _) (h i j _ _)⟩
 .exact q.elim
theorem DY{C:Int->Int->Prop}{g:Int->Int->V}{g':Int->Int->D}(h:∀i j O H,FV K O H (g i j) (g' i j)):LO K (rI C g) (fI C g'):=by
 intro O H x y a b Q Q' dom fx fy q k;unfold fI at q
 split at q
 .rename_i i j;exact⟨i,j,fx.int,fy.int,q.1,k _ H _ q.2 (Gr.refl _) (h i j _ _)⟩
 .exact q.elim
theorem er{O:Addr->Prop}{H:Hp}{xs:List V}{ds:List D}{p:Addr}(hp:H p=none)(f:FVs K O H xs ds):rf K O H (upd H p (.lst xs)) (.own ds) (.ref p) :=
 ⟨p,xs,rfl,hp,bi,f.keeps (aW.fresh hp)⟩
theorem kP{O:Addr->Prop}{H:Hp}{xs:List V}{ds:List D}{p:Addr}(dom:∀b,O b->H b≠none)(hp:H p=none)(f:FVs K O H xs ds):rf K O H (upd H p (.tup xs)) (.dat (.tup ds)) (.ref p) :=
 .tup (fun z=>dom p z hp) bi (f.keeps fun b o n e=>⟨n,by rw [aM (aZ e hp)];exact e⟩)
def Ez:R2:=fun x y H Q=>∃i j,x=.str (S i)/\y=.str (S j)/\i.length+j.length<=sizeLine/\Q (.str (S (i++j))) H
def AG(K:PySem.W.Frag):R2:=fun x y H Q=>rI0 (fun i j=>.int (i+j)) x y H Q\/Ez x y H Q\/CK K x y H Q\/Ch K x y H Q
theorem EA(K:PySem.W.Frag)(e:X.K=K):OpR X (binaryOp .Add) (AG K):=by
 subst e;exact OpR.or B6 (OpR.or As (OpR.or Ay Ah))
def EB:F2
 | .int i,.int j,Q=>Q (.dat (.int (i+j)))
 | .str a,.str b,Q=>a.length+b.length<=1000000/\Q (.dat (.str (a++b)))
 | .lst a,.lst b,Q=>a.length+b.length<=1000000/\Q (.own (a++b))
 | .scr a,.lst b,Q=>a.length+b.length<=1000000/\Q (.own (a.map .int++b))
 | .tup a,.tup b,Q=>a≠[]/\a.length+b.length<=1000000/\Q (.dat (.tup (a++b)))
 | _,_,_=>False
theorem zd:LO K (AG K) EB:=by
 intro O H x y a b Q Q' dom fx fy q k;unfold EB at q
 split at q
 .rename_i i j;exact .inl ⟨i,j,fx.int,fy.int,k _ H _ q (Gr.refl _) (.int _)⟩
 .rename_i i j;exact .inr (.inl ⟨i,j,fx.str.1,fy.str.1,sz _ q.1,k _ H _ q.2 (Gr.refl _) (.str _ (by rw [length_append];exact q.1))⟩)
 .rename_i i j;obtain⟨a,xs,rfl,e1,f1⟩:=fx.lst;obtain⟨b,ys,rfl,e2,f2⟩:=fy.lst;exact .inr (.inr (.inl ⟨a,b,xs,ys,rfl,rfl,SqL.of e1,SqL.of e2,sz _ (by rw [f1.length,f2.length];exact q.1),fun p hp=>k _ _ _ q.2 (Gr.new hp) (er hp (f1.append f2))⟩))
 .rename_i i j;obtain⟨a,rfl,e1⟩:=fx.scr;obtain⟨b,ys,rfl,e2,f2⟩:=fy.lst;exact .inr (.inr (.inl ⟨a,b,_,ys,rfl,rfl,e1,SqL.of e2,sz _ (by rw [length_map,f2.length];exact q.1),fun p hp=>k _ _ _ q.2 (Gr.new hp) (er hp ((FVs.of_ints i).append f2))⟩))
 .rename_i i j;obtain⟨a,xs,rfl,n1,e1,f1⟩:=fx.tup;obtain⟨b,ys,rfl,n2,e2,f2⟩:=fy.tup;have l1:=f1.length;have l2:=f2.length
  refine .inr (.inr (.inr ⟨a,b,xs,ys,rfl,rfl,SqT.of e1,SqT.of e2,fun z=>q.1 ?_,sz _ (by rw [l1,l2];exact q.2.1),fun z=>?_,fun _ p hp=>k _ _ _ q.2.2 (Gr.new hp) (kP dom hp (f1.append f2))⟩))
  .exact length_eq_zero_iff.mp (by rw [<- l1,z];rfl)
  .have:j=[]:=length_eq_zero_iff.mp (by rw [<- l2,z];rfl);subst this;exact k _ H _ q.2.2 (Gr.refl _) (by rw [append_nil];exact .tup n1 e1 f1)
 .exact q.elim
theorem iY:LO K (rI0 fun i j=>.int (i - j)) (fI0 fun i j=>.int (i - j)):=yf fun _ _ _ _=>.int _
theorem h8:LO K (rI (fun _ j=>0<j) fun i j=>.int (i % j)) (fI (fun _ j=>0<j) fun i j=>.int (i % j)):=DY fun _ _ _ _=>.int _
theorem vX:LO K (rI D8 fun i j=>.int (i / j)) (fI (fun _ j=>0<j/\j<1073741824) fun i j=>.int (i / j)):=DY fun _ _ _ _=>.int _
def EC:R2:=fun x y H Q=>∃l n,x=.str (S l)/\y=.int n/\-1000000<=n/\n<=1000000/\n.toNat*l.length<=sizeLine/\Q (.str (S (qW l n))) H
def CS:R2:=fun x y H Q=>rI DT (fun i j=>.int (i*j)) x y H Q\/EC x y H Q\/Fl x y H Q
theorem pY:OpR X (binaryOp .Mult) CS:=OpR.or B8 (OpR.or ud Co)
def xz:F2
 | .int i,.int j,Q=>((-(2^64)<i/\i<2^64)\/(-(2^64)<j/\j<2^64))/\Q (.dat (.int (i*j)))
 | .str a,.int n,Q=>(-1000000<=n/\n<=1000000/\n.toNat*a.length<=1000000)/\Q (.dat (.str (qW a n)))
 | .lst a,.int n,Q=>(-1000000<=n/\n<=1000000/\a.length*n.toNat<=1000000)/\Q (.own (qW a n))
 | _,_,_=>False
theorem FVs.rep{O:Addr->Prop}{H:Hp}{xs:List V}{ds:List D}(f:FVs K O H xs ds):∀n,FVs K O H (List.replicate n xs).flatten (List.replicate n ds).flatten
 | 0=>.nil
 | n+1=>by rw [replicate_succ,replicate_succ,flatten_cons,flatten_cons];exact f.append (f.rep n)
theorem jQ:LO K CS xz:=by
 intro O H x y a b Q Q' dom fx fy q k;unfold xz at q
 split at q
 .rename_i i j;exact .inl ⟨i,j,fx.int,fy.int,q.1,k _ H _ q.2 (Gr.refl _) (.int _)⟩
 .rename_i i j;exact .inr (.inl ⟨i,j,fx.str.1,fy.int,q.1.1,q.1.2.1,sz _ q.1.2.2,k _ H _ q.2 (Gr.refl _) (.str _ (by rw [fq];exact q.1.2.2))⟩)
 .rename_i i j;obtain⟨a,xs,rfl,e1,f1⟩:=fx.lst;exact .inr (.inr ⟨a,j,xs,rfl,fy.int,e1,by omega,by omega,sz _ (by rw [f1.length];exact q.1.2.2),fun p hp=>k _ _ _ q.2 (Gr.new hp) (er hp (f1.rep _))⟩)
 .exact q.elim
def Fo:R2:=fun x y H Q=>rI0 (fun i j=>.bl (decide (i<j))) x y H Q\/∃i j,x=.str i/\y=.str j/\Q (.bl (decide (i.cps.toList<j.cps.toList))) H
def DZ:R2:=fun x y H Q=>rI0 (fun i j=>.bl (decide (i<=j))) x y H Q\/∃i j,x=.str i/\y=.str j/\Q (.bl (!decide (j.cps.toList<i.cps.toList))) H
theorem yg:OpR X (compareOp .Lt) Fo:=OpR.or Eb u9
theorem D0:OpR X (compareOp .LtE) DZ:=OpR.or Ec vx
def fLt:F2
 | .int i,.int j,Q=>Q (.dat (.bl (decide (i<j))))
 | .str i,.str j,Q=>Q (.dat (.bl (decide (i<j))))
 | _,_,_=>False
def fLe:F2
 | .int i,.int j,Q=>Q (.dat (.bl (decide (i<=j))))
 | .str i,.str j,Q=>Q (.dat (.bl (!decide (j<i))))
 | _,_,_=>False
theorem n6:LO K Fo fLt:=by
 intro O H x y a b Q Q' dom fx fy q k;unfold fLt at q
 split at q
 .rename_i i j;exact .inl ⟨i,j,fx.int,fy.int,k _ H _ q (Gr.refl _) (.bl _)⟩
 .rename_i i j;exact .inr ⟨_,_,fx.str.1,fy.str.1,k _ H _ q (Gr.refl _) (.bl _)⟩
 .exact q.elim
theorem yh:LO K DZ fLe:=by
 intro O H x y a b Q Q' dom fx fy q k;unfold fLe at q
 split at q
 .rename_i i j;exact .inl ⟨i,j,fx.int,fy.int,k _ H _ q (Gr.refl _) (.bl _)⟩
 .rename_i i j;exact .inr ⟨_,_,fx.str.1,fy.str.1,k _ H _ q (Gr.refl _) (.bl _)⟩
 .exact q.elim
theorem kQ:LO K (rI0 fun i j=>.bl (decide (j<i))) (fI0 fun i j=>.bl (decide (j<i))):=yf fun _ _ _ _=>.bl _
theorem CT:LO K (rI0 fun i j=>.bl (decide (j<=i))) (fI0 fun i j=>.bl (decide (j<=i))):=yf fun _ _ _ _=>.bl _
mutual
def D.py:D->PyData
 | .non=>.none|.bl b=>.bool b|.int i=>.int i|.str l=>.str (S l)|.ty _=>.none
 | .lst ds=>.list (D.pys ds)|.tup ds=>.tuple (D.pys ds)|.scr ns=>.list (ns.map .int)|.dic _ _=>.none|.obj _ _ _=>.none|.exc _ _ _=>.none
def D.pys:List D->List PyData
 | []=>[]
 | d::r=>d.py::D.pys r
end
mutual
def D.plain:D->Bool
 | .non=>true|.bl _=>true|.int _=>true|.str _=>true|.ty _=>false
 | .lst ds=>D.plains ds|.tup ds=>D.plains ds|.scr _=>true|.dic _ _=>false|.obj _ _ _=>false|.exc _ _ _=>false
def D.plains:List D->Bool
 | []=>true
 | d::r=>d.plain && D.plains r
end
mutual
theorem FV.dv{O:Addr->Prop}{H:Hp}:∀{v:V}{d:D},FV K O H v d->d.plain=true->DV K H v d.py
 | _,_,.non,_=>.non
 | _,_,.bl b,_=>.bl b
 | _,_,.int i,_=>.int i
 | _,_,.str l h,_=>.str (S l)
 | _,_,.ty n,p=>nomatch p
 | _,_,.scr s,_=>.lst s.sq (DVs.ints _)
 | _,_,.lst n e f,p=>.lst (SqL.of e) (FVs.dvs f p)
 | _,_,.tup n e f,p=>.tup (SqT.of e) (FVs.dvs f p)
 | _,_,.dic _ _ _ _,p=>nomatch p
 | _,_,.obj _ _ _ _,p=>nomatch p
 | _,_,.exc0 _ _,p=>nomatch p
 | _,_,.exc1 _ _ _ _ _ _,p=>nomatch p
theorem FVs.dvs{O:Addr->Prop}{H:Hp}:∀{vs:List V}{ds:List D},FVs K O H vs ds->D.plains ds=true->DVs K H vs (D.pys ds)
 | _,_,.nil,_=>.nil
 | _,_,.cons a b,p=>by
  have p:(_ && _)=true:=p;rw [and_eq_true] at p;exact .cons (FV.dv a p.1) (FVs.dvs b p.2)
end
theorem FVc.dv{O:Addr->Prop}{H:Hp}{v:V}{d:D}(h:FVc K O H v d)(p:d.plain=true):DV K H v d.py:=by
 rcases h with h|⟨a,xs,ds',rfl,rfl,e3,f⟩|⟨a,dx,c,fs,ns,ds',e1,rfl,_⟩
 .exact h.dv p
 .exact .lst (SqL.of e3) (f.dvs p)
 .cases p
def CU(K:PySem.W.Frag)(neg:Bool):R2:=fun x y H Q=>rI0 (fun i j=>.bl (if neg then !decide (i=j) else decide (i=j))) x y H Q\/(∃i j,x=.str (S i)/\y=.str (S j)/\Q (.bl (if neg then !decide (i=j) else decide (i=j))) H)\/Ei K neg x y H Q
theorem FQ(K:PySem.W.Frag)(e:X.K=K)(hu:X.A.units+64<cLine):OpR X (compareOp .Eq) (CU K false):=by
 subst e;exact OpR.or CB (OpR.or Cz (Cv hu))
theorem FS(K:PySem.W.Frag)(e:X.K=K)(hu:X.A.units+64<cLine):OpR X (compareOp .NotEq) (CU K true):=by
 subst e;exact OpR.or CC (OpR.or CA (Cw hu))
def BJ(a b:D):Prop:=a.plain=true/\b.plain=true/\SeqAt.shaped a.py=true/\SeqAt.shaped b.py=true
def deq(a b:D):Bool:=PyData.eqv a.py b.py
def fEq:F2
 | .int i,.int j,Q=>Q (.dat (.bl (decide (i=j))))
 | .str i,.str j,Q=>Q (.dat (.bl (decide (i=j))))
 | a,b,Q=>BJ a b/\Q (.dat (.bl (deq a b)))
def fNe:F2
 | .int i,.int j,Q=>Q (.dat (.bl (!decide (i=j))))
 | .str i,.str j,Q=>Q (.dat (.bl (!decide (i=j))))
 | a,b,Q=>BJ a b/\Q (.dat (.bl (!deq a b)))
theorem ED:LO K (CU K false) fEq:=by
 intro O H x y a b Q Q' dom fx fy q k;unfold fEq at q
 split at q
 .rename_i i j;exact .inl ⟨i,j,fx.int,fy.int,k _ H _ q (Gr.refl _) (.bl _)⟩
 .rename_i i j;exact .inr (.inl ⟨i,j,fx.str.1,fy.str.1,k _ H _ q (Gr.refl _) (.bl _)⟩)
 .exact .inr (.inr ⟨_,_,fx.dv q.1.1,fy.dv q.1.2.1,q.1.2.2.1,q.1.2.2.2,k _ H _ q.2 (Gr.refl _) (.bl _)⟩)
theorem EE:LO K (CU K true) fNe:=by
 intro O H x y a b Q Q' dom fx fy q k;unfold fNe at q
 split at q
 .rename_i i j;exact .inl ⟨i,j,fx.int,fy.int,k _ H _ q (Gr.refl _) (.bl _)⟩
 .rename_i i j;exact .inr (.inl ⟨i,j,fx.str.1,fy.str.1,k _ H _ q (Gr.refl _) (.bl _)⟩)
 .exact .inr (.inr ⟨_,_,fx.dv q.1.1,fy.dv q.1.2.1,q.1.2.2.1,q.1.2.2.2,k _ H _ q.2 (Gr.refl _) (.bl _)⟩)
def D.fl:D->Bool
 | .non=>true|.bl _=>true|.int _=>true|.str _=>true
 | _=>false
def eqF:D->D->Bool
 | .non,.non=>true
 | .bl a,.bl b=>a == b
 | .bl a,.int b=>(if a then 1 else 0) == b
 | .int a,.bl b=>a == (if b then 1 else 0)
 | .int a,.int b=>a == b
 | .str a,.str b=>a == b
 | _,_=>false
def inD(x:D)(xs:List D):Bool:=xs.any fun y=>eqF y x
theorem FV.fl{O:Addr->Prop}{H:Hp}{v:V}{d:D}(h:FV K O H v d)(f:d.fl=true):me v=true:=by cases h <;> first|rfl|cases f
theorem CV(a b:List Nat):(S a == S b)=(a == b):=by
 by_cases h:a=b
 .subst h;rw [beq_self_eq_true,beq_self_eq_true]
 .rw [beq_eq_false_iff_ne.mpr h,beq_eq_false_iff_ne.mpr (FL h)]
theorem FV.eqF{O:Addr->Prop}{H:Hp}{v w:V}{d e:D}(h:FV K O H v d)(f:d.fl=true)(h':FV K O H w e)(f':e.fl=true):eqV v w=L2.eqF d e:=by
 cases h <;> first|(cases f;done)|(cases h' <;> first|(cases f';done)|rfl|exact CV _ _)
theorem FVs.inD{O:Addr->Prop}{H:Hp}{v:V}{d:D}(h:FV K O H v d)(f:d.fl=true):∀{xs:List V}{ds:List D},FVs K O H xs ds->ds.all D.fl=true->xs.all me=true/\inV v xs=L2.inD d ds
 | _,_,.nil,_=>⟨rfl,rfl⟩
 | _,_,.cons a b,g=>by
  rw [all_cons,and_eq_true] at g;obtain⟨i1,i2⟩:=b.inD h f g.2;refine⟨by rw [all_cons,a.fl g.1,i1];rfl,?_⟩;unfold inV L2.inD at i2 ⊢;rw [any_cons,any_cons,i2,a.eqF g.1 h f]
def fIn(neg:Bool):F2
 | a,.lst ds,Q=>(a.fl=true/\ds.all D.fl=true)/\Q (.dat (.bl (if neg then !inD a ds else inD a ds)))
 | a,.tup ds,Q=>(a.fl=true/\ds.all D.fl=true)/\Q (.dat (.bl (if neg then !inD a ds else inD a ds)))
 | _,_,_=>False
theorem FVc.fl{O:Addr->Prop}{H:Hp}{v:V}{d:D}(h:FVc K O H v d)(f:d.fl=true):FV K O H v d:=h.fv (fun _ z=>by rw [z] at f;cases f) (fun _ _ _ z=>by rw [z] at f;cases f)
theorem FT(K:PySem.W.Frag)(e:X.K=K):OpR X (compareOp .In) (rIn K false):=by subst e;exact vj
theorem AH(K:PySem.W.Frag)(e:X.K=K):OpR X (compareOp .NotIn) (rIn K true):=by subst e;exact pI
theorem CW{neg:Bool}:LO K (rIn K neg) (fIn neg):=by
 intro O H x y a b Q Q' dom fx fy q k;unfold fIn at q
 split at q
 .obtain⟨p,xs,rfl,e1,f1⟩:=fy.lst;obtain⟨g1,g2⟩:=f1.inD (fx.fl q.1.1) q.1.1 q.1.2;exact⟨p,xs,rfl,.inl (SqL.of e1),(fx.fl q.1.1).fl q.1.1,g1,by rw [g2];exact k _ H _ q.2 (Gr.refl _) (.bl _)⟩
 .obtain⟨p,xs,rfl,n1,e1,f1⟩:=fy.tup;obtain⟨g1,g2⟩:=f1.inD (fx.fl q.1.1) q.1.1 q.1.2;exact⟨p,xs,rfl,.inr (SqT.of e1),(fx.fl q.1.1).fl q.1.1,g1,by rw [g2];exact k _ H _ q.2 (Gr.refl _) (.bl _)⟩
 .exact q.elim
def qP(K:PySem.W.Frag):R2:=fun x y H Q=>Fi K x y H Q\/Fj K x y H Q\/Cy x y H Q
theorem dC(K:PySem.W.Frag)(e:X.K=K):IxR X (qP K):=by
 subst e;exact IxR.or Al (IxR.or Ci Ar)
def fIx:F2
 | .lst ds,.int i,Q=>∃d,atI ds i=some d/\Q (.dat d)
 | .tup ds,.int i,Q=>∃d,atI ds i=some d/\Q (.dat d)
 | .scr ns,.int i,Q=>∃d,atI ns i=some d/\Q (.dat (.int d))
 | .str l,.int i,Q=>∃c,atI l i=some c/\Q (.dat (.str [c]))
 | _,_,_=>False
theorem FVs.atI{O:Addr->Prop}{H:Hp}{vs:List V}{ds:List D}{i:Int}{d:D}(f:FVs K O H vs ds)(h:L2.atI ds i=some d):∃v,L2.atI vs i=some v/\FV K O H v d:=by
 unfold L2.atI at h ⊢;rw [f.length]
 cases e:ixN ds.length i with
 | none=>rw [e] at h;cases h
 | some j=>rw [e] at h;exact f.getD h
theorem bv:LO K (qP K) fIx:=by
 intro O H x y a b Q Q' dom fx fy q k;unfold fIx at q
 split at q
 .obtain⟨d,hd,q⟩:=q;obtain⟨p,xs,rfl,e1,f1⟩:=fx.lst;obtain⟨v,hv,fv⟩:=f1.atI hd;exact .inl ⟨p,xs,_,v,rfl,fy.int,SqL.of e1,hv,k _ H _ q (Gr.refl _) fv⟩
 .obtain⟨d,hd,q⟩:=q;obtain⟨p,xs,rfl,n1,e1,f1⟩:=fx.tup;obtain⟨v,hv,fv⟩:=f1.atI hd;exact .inr (.inl ⟨p,xs,_,v,rfl,fy.int,SqT.of e1,hv,k _ H _ q (Gr.refl _) fv⟩)
 .obtain⟨d,hd,q⟩:=q;obtain⟨p,rfl,e1⟩:=fx.scr;exact .inl ⟨p,_,_,_,rfl,fy.int,e1,At hd,k _ H _ q (Gr.refl _) (.int d)⟩
 .obtain⟨c,hc,q⟩:=q;exact .inr (.inr ⟨_,_,c,fx.str.1,fy.int,sz _ fx.str.2,hc,k _ H _ q (Gr.refl _) (.str _ (by show 1<=1000000;decide))⟩)
 .exact q.elim
end
end L2
namespace L2
open PySem PySem.Spec PyProof.Rows _root_.HT
section
variable {prog:Program}{w:World}{A:Around}{E:Value->Shared->Prop}{s:Shared}
theorem ji{t sl:Addr}{items:Array Value}{vl vu:Value}{lo hi:Option Int}{Q:Value->Shared->Prop}(ht:IsTup s.heap t items)(hs:s.heap.IsSliceOf sl vl vu .none)(pl:IsPart vl lo)(pu:IsPart vu hi)
  (hw:sIx items.size 0 lo=0/\sIx items.size items.size hi=items.size)
  (h:Q (.ref t) s):wpAny (model prog w) A (getItem (.ref t) (.ref sl)) Q E s:=by
 obtain⟨os,hos,hcs,hds⟩:=id hs;have hTs:s.TypeIs (.ref sl) "slice":=⟨os,hos,hcs⟩
 unfold getItem
 try with_reducible refine wpAny_holding ?_
 first|refine wpAny_bind (wpAny_pure ?_)|skip
 refine wpAny_bind (wpAny_sequenceKey ht.typeIs (by decide) ?_)
 refine wpAny_bind (wpAny_callSpecial?_slot (name:=Str.ofString "__getitem__") ht.typeIs PyProof.Rows.slot_tuple_getitem
  (wpAny_call_entry PyProof.Rows.slot_tuple_getitem ht.typeIs entry_tuple_getitem ?_ (args_tuple_getitem _ _)))
 show wpAny _ _ (Builtin.Tuple.tupleItemsOf (.ref t) >>= _) _ _ s;refine wpAny_bind (tupleItemsOf_ ht ?_);refine wpAny_bind (wpAny_typeOf hTs ?_);rw [if_pos (by decide)];refine wpAny_bind (f9 hs pl pu ?_)
 have hyes:(((sIx items.size 0 lo:Nat):Int) == 0 && (1:Int) == 1 && (sIx items.size items.size hi - sIx items.size 0 lo) == items.size)=true:=by
  rw [hw.1,hw.2,Nat.sub_zero];simp
 show wpAny _ _ (if (((sIx items.size 0 lo:Nat):Int) == 0 && (1:Int) == 1 && (sIx items.size items.size hi - sIx items.size 0 lo) == items.size)=true then _ else _) _ _ s;rw [if_pos hyes];refine wpAny_bind (m:=Builtin.Tuple.tupleIsExact _) (wpAny_bind (wpAny_typeOf ht.typeIs (wpAny_pure ?_)));rw [if_pos (by decide)]
 first
  | exact wpAny_bind (m:=rule _) (wpAny_pure (wpAny_pure ⟨_,rfl,wpAny_pure h⟩))
  | exact wpAny_pure ⟨_,rfl,wpAny_pure h⟩
  | exact wpAny_bind (wpAny_rule (wpAny_pure ⟨_,rfl,wpAny_pure h⟩))
def CY(K:PySem.W.Frag):V->Option Int->Option Int->Hp->VK->Prop:=fun x lo hi H Q=>∃a xs,x=.ref a/\SqT K H a xs/\(sIx xs.length 0 lo=0/\sIx xs.length xs.length hi=xs.length)/\Q (.ref a) H
theorem AI{X:Cx}:SlR X (CY X.K):=by
 intro pins s σ H x v vl vu lo hi sl Q I rx hs pl pu h;obtain⟨a,xs,rfl,hx,hw,q⟩:=h;cases rx;obtain⟨its,r,ht,hz⟩:=I.tuple hx;have hlen:its.toArray.size=xs.length:=by rw [size_toArray];exact r.length.symm
 refine⟨"tuple",_,PyProof.Rows.slot_tuple_getitem.lookup,ht.typeIs,?_⟩;exact ji ht hs pl pu (by rw [hlen];exact hw) ⟨.ref a,H,I,rfl,q⟩
end
end L2
namespace L2
open PySem PySem.Spec PyProof.Rows
section
variable {K:PySem.W.Frag}{X:Cx}{ta tb tc to:TE}{pa pb pc:PA1}{pe:PTE}{tr:TA}{pr:PTA}
def vY(f f':F2)(pa pb pc:PA1):PTE:=fun ρ Q=>pa ρ fun x ρ1=>pb ρ1 fun y ρ2=>op2 f ρ2 x y fun p ρ3=>match p with
 | .dat (.bl k)=>iB k (pc ρ3 fun z ρ4=>op2 f' ρ4 y z Q) (Q (.dat (.bl false)) ρ3)
 | _=>False
theorem sQ{r r':R2}{f f':F2}(o:LO K r f)(o':LO K r' f')(ha:LA1 K ta pa)(hb:LA1 K tb pb)(hc:LA1 K tc pc):LE K (sI r r' ta tb tc) (vY f f' pa pb pc):=fun A ρ σ H Q Q' R q k =>
 ha A ρ σ H _ _ R q fun v H1 a ρ1 q1 f1 R1 o1=>hb A ρ1 σ H1 _ _ R1 q1 fun w H2 b ρ2 q2 f2 R2 o2=>by
  unfold op2 at q2
  split at q2
  .rename_i da db e1 e2;refine o _ H2 v w da db _ _ R2.dom2 (R2.cont (o1.keeps f2.keeps) e1) (R2.cont o2 e2) q2 fun z H3 p q3 g ov=>?_;dsimp only at q3
   split at q3
   .rename_i c;cases ov;refine⟨c,rfl,?_⟩;have R3:=R2.gr g
    cases c with
    | true =>
     refine hc A ρ2 σ H3 _ _ R3 q3 fun u H4 cc ρ4 q4 f4 R4 o4=>?_
     try unfold op2 at q4
     split at q4
     .rename_i dc dd e3 e4;have o2':AOk K (OO A ρ4 σ) σ H4 b w:=(o2.keeps (g.fr (ρ:=ρ2) (σ:=σ)).keeps).keeps f4.keeps;exact o' _ H4 w u _ _ _ _ R4.dom2 (R4.cont o2' e3) (R4.cont o4 e4) q4 fun z H5 p q5 g5 ov=>k z H5 p ρ4 q5 ((((f1.trans f2).trans g.fr).trans f4).trans g5.fr) ((ov.out R4 g5).h0 fun b z=>f4.dm b ((g.fr (ρ:=ρ2) (σ:=σ)).dm b (f2.dm b (f1.dm b z))))
     .exact q4.elim
    | false=>exact k _ H3 _ ρ2 q3 ((f1.trans f2).trans g.fr) ⟨R3,.bl false⟩
   .exact q3.elim
  .exact q2.elim
abbrev PTO:=PSt->(Option Int->PSt->Prop)->Prop
def LPo(K:PySem.W.Frag)(t:TO)(p:PTO):Prop:=∀(A:Addr->Prop) (ρ:PSt) (σ:St) (H:Hp) (Q:Option Int->PSt->Prop) (Q':Option Int->Hp->Prop),Rel K A ρ σ H->p ρ Q ->
 (∀b H' ρ',Q b ρ'->Fr ρ σ H ρ' H'->Rel K A ρ' σ H'->Q' b H')->t σ H Q'
def dA:PTO:=fun ρ Q=>Q none ρ
def dh(pe:PTE):PTO:=fun ρ Q=>pe ρ fun p ρ1=>match p with
 | .dat (.int i)=>Q (some i) ρ1
 | _=>False
theorem bZ:LPo K nQ dA:=fun A ρ σ H Q Q' R q k=>k none H ρ q (Fr.refl _ _ _) R
theorem bM(h:LE K ta pe):LPo K (xS ta) (dh pe):=fun A ρ σ H Q Q' R q k=>h A ρ σ H _ _ R q fun v H1 p ρ1 q1 f1 o1=>by
 split at q1
 .rename_i i;obtain⟨R1,f⟩:=o1;cases f;exact⟨i,rfl,k _ H1 ρ1 q1 f1 R1⟩
 .exact q1.elim
def CZ(K:PySem.W.Frag):V->Option Int->Option Int->Hp->VK->Prop:=fun x lo hi H Q=>Fk K x lo hi H Q\/Fm x lo hi H Q\/Fh K x lo hi H Q\/CY K x lo hi H Q
theorem o8(K:PySem.W.Frag)(e:X.K=K):SlR X (CZ K):=by
 subst e;exact SlR.or Am (SlR.or Ct (SlR.or Cg AI))
def fSl:D->Option Int->Option Int->(PV->Prop)->Prop
 | .lst ds,lo,hi,Q=>Q (.own (dH ds lo hi))
 | .scr ns,lo,hi,Q=>Q (.own ((dH ns lo hi).map .int))
 | .str l,lo,hi,Q=>Q (.dat (.str (dH l lo hi)))
 | .tup ds,lo,hi,Q=>Q (.dat (.tup (dH ds lo hi)))
 | _,_,_,_=>False
theorem FVs.cut{O:Addr->Prop}{H:Hp}{xs:List V}{ds:List D}(f:FVs K O H xs ds)(lo hi:Option Int):FVs K O H (dH xs lo hi) (dH ds lo hi):=by
 unfold dH;rw [f.length];exact (f.drop _).take _
def dt(pa:PA1)(pl ph:PTO):PTE:=fun ρ Q=>pa ρ fun x ρ1=>pl ρ1 fun lo ρ2=>ph ρ2 fun hi ρ3=>match cont ρ3 x with
 | some d=>fSl d lo hi fun p=>Q p ρ3
 | _=>False
theorem AJ{α:Type}{ds:List α}{lo hi:Option Int}{n:Nat}(h:n=ds.length)(hw:HT.sIx n 0 lo=0/\HT.sIx n n hi=n):dH ds lo hi=ds:=by
 subst h;unfold dH;rw [hw.1,hw.2,drop_zero,Nat.sub_zero,take_length]
theorem lsl{O:Addr->Prop}{H:Hp}{x:V}{d:D}{lo hi:Option Int}{Q:PV->Prop}{Q':VK}(dom:∀b,O b->H b≠none)(fx:FVc K O H x d)(q:fSl d lo hi Q)(k:∀v H' p,Q p->Gr H H'->rf K O H H' p v->Q' v H'):CZ K x lo hi H Q':=by
 unfold fSl at q
 split at q
 .obtain⟨a,xs,rfl,e1,f1⟩:=fx.lst;exact .inl ⟨a,xs,rfl,SqL.of e1,fun p hp=>k _ _ _ q (Gr.new hp) (er hp (f1.cut _ _))⟩
 .obtain⟨a,rfl,e1⟩:=fx.scr;exact .inl ⟨a,_,rfl,e1,fun p hp=>k _ _ _ q (Gr.new hp) (er hp (by rw [vq,xY];exact FVs.of_ints _))⟩
 .exact .inr (.inl ⟨_,fx.str.1,sz _ fx.str.2,k _ H _ q (Gr.refl _) (.str _ (Nat.le_trans (b9 _ _ _) fx.str.2))⟩)
 .obtain⟨a,xs,rfl,n1,e1,f1⟩:=fx.tup
  by_cases hw:HT.sIx xs.length 0 lo=0/\HT.sIx xs.length xs.length hi=xs.length
  .refine .inr (.inr (.inr ⟨a,xs,rfl,SqT.of e1,hw,k _ H _ q (Gr.refl _) ?_⟩));rw [AJ f1.length hw];exact .tup n1 e1 f1
  .exact .inr (.inr (.inl ⟨a,xs,rfl,SqT.of e1,hw,fun p hp=>k _ _ _ q (Gr.new hp) (kP dom hp (f1.cut _ _))⟩))
 .exact q.elim
theorem bX{tl th:TO}{pl ph:PTO}(ha:LA1 K ta pa)(hl:LPo K tl pl)(hh:LPo K th ph):LE K (tSl (CZ K) ta tl th) (dt pa pl ph):=fun A ρ σ H Q Q' R q k =>
 ha A ρ σ H _ _ R q fun v H1 a ρ1 q1 f1 R1 o1=>hl A ρ1 σ H1 _ _ R1 q1 fun lo H2 ρ2 q2 f2 R2=>hh A ρ2 σ H2 _ _ R2 q2 fun hi H3 ρ3 q3 f3 R3=>by
  split at q3
  .rename_i d e1;exact lsl R3.dom2 (R3.cont (o1.keeps (f2.trans f3).keeps) e1) q3 fun z H4 p q4 g ov=>k z H4 p ρ3 q4 (((f1.trans f2).trans f3).trans g.fr) ((ov.out R3 g).h0 fun b z=>f3.dm b (f2.dm b (f1.dm b z)))
  .exact q3.elim
abbrev FN:=List D->(PV->Prop)->Prop
def n8(K:PySem.W.Frag):List V->Hp->VK->Prop:=fun xs H Q=>(∃l,xs=[.str (S l)]/\l.length<=sizeLine/\Q (.int l.length) H)\/Er K xs H Q\/Es K xs H Q\/∃p kvs,xs=[.ref p]/\Rd H p (.dK kvs)/\Q (.int kvs.length) H
theorem bF(K:PySem.W.Frag)(e:X.K=K):cp X (.builtin "len") (n8 K):=by
 subst e;exact cp.or vA (cp.or vB (cp.or vC vP))
def dI:FN
 | [.str l],Q=>Q (.dat (.int l.length))
 | [.lst l],Q=>Q (.dat (.int l.length))
 | [.tup l],Q=>Q (.dat (.int l.length))
 | [.scr l],Q=>Q (.dat (.int l.length))
 | [.dic ks _],Q=>Q (.dat (.int ks.length))
 | _,_=>False
theorem aO:LC K (n8 K) dI:=by
 intro O H xs as Q Q' dom fs q k;unfold dI at q
 split at q
 .cases fs with|cons a b=>cases b;rw [a.str.1];exact .inl ⟨_,rfl,sz _ a.str.2,k _ H _ q (Gr.refl _) (.int _)⟩
 .cases fs with
  | cons a b =>
   cases b;obtain⟨p,ys,rfl,e1,f1⟩:=a.lst;exact .inr (.inl ⟨p,ys,rfl,SqL.of e1,by rw [f1.length];exact k _ H _ q (Gr.refl _) (.int _)⟩)
 .cases fs with
  | cons a b =>
   cases b;obtain⟨p,ys,rfl,n1,e1,f1⟩:=a.tup;exact .inr (.inr (.inl ⟨p,ys,rfl,SqT.of e1,by rw [f1.length];exact k _ H _ q (Gr.refl _) (.int _)⟩))
 .cases fs with
  | cons a b =>
   cases b;obtain⟨p,rfl,e1⟩:=a.scr;exact .inr (.inl ⟨p,_,rfl,e1,by rw [length_map];exact k _ H _ q (Gr.refl _) (.int _)⟩)
 .cases fs with
  | cons a b =>
   cases b
   cases a.fv nofun nofun with
   | dic n e m f=>subst m;exact .inr (.inr (.inr ⟨_,_,rfl,.inl e,k _ H _ q (Gr.refl _) (by rw [length_map];exact .int _)⟩))
 .exact q.elim
inductive Kd where
 | int|bool|str|list|tuple|dict
def Kd.nm:Kd->String
 | .int=>"int"|.bool=>"bool"|.str=>"str"|.list=>"list"|.tuple=>"tuple"|.dict=>"dict"
def isK:Kd->D->Bool
 | .int,.int _=>true
 | .int,.bl _=>true
 | .bool,.bl _=>true
 | .str,.str _=>true
 | .list,.lst _=>true
 | .tuple,.tup _=>true
 | .dict,.dic _ _=>true
 | _,_=>false
def D.sort:D->Bool
 | .obj _ _ _=>false
 | .exc _ _ _=>false
 | .scr _=>false
 | .ty _=>false
 | _=>true
theorem FVc.ty{O:Addr->Prop}{H:Hp}{v:V}{d:D}(h:FVc K O H v d)(s:d.sort=true):∃t,qT K H v t/\∀k:Kd,PySem.W.kitOne K t (.type k.nm)=some (isK k d):=by
 rcases h with h|⟨a,xs,ds',rfl,rfl,e3,f⟩|⟨a,dx,c,fs,ns,ds',rfl,rfl,_⟩
 .cases h with
  | non=>exact⟨_,.non,fun k=>by cases k <;> rfl⟩
  | bl b=>exact⟨_,.bl b,fun k=>by cases k <;> rfl⟩
  | int i=>exact⟨_,.int i,fun k=>by cases k <;> rfl⟩
  | str l h=>exact⟨_,.str _,fun k=>by cases k <;> rfl⟩
  | ty n=>cases s
  | scr _=>cases s
  | lst n e f=>exact⟨_,.lst e,fun k=>by cases k <;> rfl⟩
  | tup n e f=>exact⟨_,.tup e,fun k=>by cases k <;> rfl⟩
  | dic n e m f=>exact⟨_,.dK e,fun k=>by cases k <;> rfl⟩
  | obj _ _ _ _=>cases s
  | exc0 _ _=>cases s
  | exc1 _ _ _ _ _ _=>cases s
 .exact⟨_,.lst e3,fun k=>by cases k <;> rfl⟩
 .cases s
theorem AK(K:PySem.W.Frag)(e:X.K=K):cp X (.builtin "isinstance") (Fn K):=by subst e;exact qX
def D1(k:Kd)(pa:PA1):PTE:=fun ρ Q=>pa ρ fun x ρ1=>match cont ρ1 x with
 | some d=>iB d.sort (Q (.dat (.bl (isK k d))) ρ1) False
 | _=>False
theorem vZ(k:Kd)(ha:LA1 K ta pa):LE K (tCB (Fn K) (bf ta (bf (tC (.ty k.nm)) eY))) (D1 k pa):=fun A ρ σ H Q Q' R q kk =>
 ha A ρ σ H _ _ R q fun v H1 a ρ1 q1 f1 R1 o1=>by
  split at q1
  .rename_i d e1
   cases hs:d.sort with
   | false=>rw [hs] at q1;exact q1.elim
   | true =>
    rw [hs] at q1;obtain⟨t,ty,hk⟩:=(R1.cont o1 e1).ty hs;exact⟨v,k.nm,t,isK k d,rfl,ty,hk k,kk _ H1 _ ρ1 q1 f1 ⟨R1,.bl _⟩⟩
  .exact q1.elim
end
structure C1 where
 nx:PSt->Prop
 rt:PV->PSt->Prop
 bk:PSt->Prop:=fun _=>False
 ct:PSt->Prop:=fun _=>False
abbrev PTS:=C1->PSt->Prop
structure gq (fx:List (Nat×V)) (R:Addr->Prop) (H0:Hp) (ρ:PSt) (σ:St) (H:Hp):Prop where
 kp:∀b o,¬ R b->H0 b=some o->H b=some o
 dm:∀b,H0 b≠none->H b≠none
 ow:∀b,Wr ρ σ b->R b\/H0 b=none
 fx:∀p∈fx,σ[p.1]?=some (some p.2)
section
variable {K:PySem.W.Frag}{fx:List (Nat×V)}{A R:Addr->Prop}{H0 H H':Hp}{ρ ρ':PSt}{σ:St}
theorem gq.fr(F:gq fx R H0 ρ σ H)(f:Fr ρ σ H ρ' H'):gq fx R H0 ρ' σ H' :=
 ⟨fun b o n e=>f.kp b o (fun w=>(F.ow b w).elim n (fun z=>by rw [z] at e;cases e)) (F.kp b o n e),fun b z=>f.dm b (F.dm b z),fun b w=>F.ow b (f.ow b w),F.fx⟩
theorem gq.start(hfx:∀p∈fx,σ[p.1]?=some (some p.2)):gq fx (Wr ρ σ) H ρ σ H:=⟨fun _ _ _ h=>h,fun _ h=>h,fun _ h=>.inl h,hfx⟩
theorem gq.keepsR{ρ1:PSt}{σ1:St}{H1:Hp}(F:gq fx R H1 ρ σ H)(hR:∀b,R b->OO A ρ1 σ1 b):aW (OO A ρ1 σ1) H1 (OO A ρ σ) H:=fun b o n e=>by
 refine⟨fun z=>?_,F.kp b o (fun z=>n (hR b z)) e⟩
 rcases z with z|z
 .exact n (.inl z)
 .rcases F.ow b z with z|z
  .exact n (hR b z)
  .rw [z] at e;cases e
theorem gq.keeps{ρ1:PSt}{σ1:St}{H1:Hp}(F:gq fx (Wr ρ1 σ1) H1 ρ σ H):aW (OO A ρ1 σ1) H1 (OO A ρ σ) H:=F.keepsR fun b z=>.inr z
theorem gq.trans{fx':List (Nat×V)}{ρ1:PSt}{σ1:St}{H1:Hp}(F:gq fx R H0 ρ1 σ1 H1)(G:gq fx' (Wr ρ1 σ1) H1 ρ σ H)(hfx:∀p∈fx,σ[p.1]?=some (some p.2)):gq fx R H0 ρ σ H:=by
 refine⟨fun b o n e=>G.kp b o (fun w=>(F.ow b w).elim n (fun z=>by rw [z] at e;cases e)) (F.kp b o n e),fun b z=>G.dm b (F.dm b z),fun b w=>?_,hfx⟩
 rcases G.ow b w with z|z
 .exact F.ow b z
 .refine .inr ?_
  cases e:H0 b with
  | none=>rfl
  | some o=>exact absurd z (F.dm b (by rw [e];exact nofun))
theorem Out.put{p:PV}{v:V}{i:Nat}(h:Out K A ρ σ H0 H p v):Rel K A (ρ.set i (some p)) (σ.set i (some v)) H/\∀b,Wr (ρ.set i (some p)) (σ.set i (some v)) b->Wr ρ σ b\/H0 b=none:=by
 have get:∀(j:Nat) (q:PV),(ρ.set i (some p))[j]?=some (some q)->(j=i/\q=p/\i<ρ.length)\/(j≠i/\ρ[j]?=some (some q)):=fun j q e=>by
  by_cases z:i=j
  .subst z
   by_cases hi:i<ρ.length
   .rw [getElem?_set_self hi] at e;cases e;exact .inl ⟨rfl,rfl,hi⟩
   .rw [getElem?_eq_none (by rw [length_set];omega)] at e;cases e
  .rw [getElem?_set_ne z] at e;exact .inr ⟨fun q=>z q.symm,e⟩
 cases p with
 | dat d =>
  obtain⟨R1,f⟩:=h
  have ow:∀b,Wr (ρ.set i (some (.dat d))) (σ.set i (some v)) b->Wr ρ σ b:=fun b ⟨j,r,e1,o1,s1⟩=>by
   rcases get j r e1 with ⟨_,rfl,_⟩|⟨n,e⟩
   .cases o1
   .rw [getElem?_set_ne (fun z=>n z.symm)] at s1;exact⟨j,r,e,o1,s1⟩
  have k:aW (OO A ρ σ) H (OO A (ρ.set i (some (.dat d))) (σ.set i (some v))) H:=aW.less fun b z=>z.imp id (ow b)
  refine⟨⟨by rw [length_set,length_set];exact R1.len,fun j r e1=>?_,fun j l p1 q1 v' e1 e2 o1 o2 s1 s2=>?_,R1.dom,fun b z w=>R1.sep b z (ow b w)⟩,fun b w=>.inl (ow b w)⟩
  .rcases get j r e1 with ⟨rfl,rfl,hi⟩|⟨n,e⟩
   .exact⟨v,getElem?_set_self (by rw [<- R1.len];exact hi),f.keeps k⟩
   .obtain⟨u,s,r'⟩:=R1.get j r e;exact⟨u,by rw [getElem?_set_ne (fun z=>n z.symm)];exact s,r'.keeps k fun _ _ _=>rfl⟩
  .rcases get j p1 e1 with ⟨_,rfl,_⟩|⟨n1,e1⟩
   .cases o1
   .rcases get l q1 e2 with ⟨_,rfl,_⟩|⟨n2,e2⟩
    .cases o2
    .rw [getElem?_set_ne (fun z=>n1 z.symm)] at s1;rw [getElem?_set_ne (fun z=>n2 z.symm)] at s2;exact R1.dj j l p1 q1 v' e1 e2 o1 o2 s1 s2
 | own ds =>
  obtain⟨a,xs,rfl,na,hn,e0,R1,f⟩:=h
  have ow:∀b,Wr (ρ.set i (some (.own ds))) (σ.set i (some (.ref a))) b->Wr ρ σ b\/b=a:=fun b ⟨j,r,e1,o1,s1⟩=>by
   rcases get j r e1 with ⟨rfl,rfl,hi⟩|⟨n,e⟩
   .rw [getElem?_set_self (by rw [<- R1.len];exact hi)] at s1;cases s1;exact .inr rfl
   .rw [getElem?_set_ne (fun z=>n z.symm)] at s1;exact .inl ⟨j,r,e,o1,s1⟩
  have k:aW (OO (eJ A a) ρ σ) H (OO A (ρ.set i (some (.own ds))) (σ.set i (some (.ref a)))) H:=aW.less fun b z=>by
   rcases z with z|z
   .exact .inl (.inl z)
   .rcases ow b z with z|z
    .exact .inr z
    .exact .inl (.inr z)
  refine⟨⟨by rw [length_set,length_set];exact R1.len,fun j r e1=>?_,fun j l p1 q1 v' e1 e2 o1 o2 s1 s2=>?_,fun b z=>R1.dom b (.inl z),fun b z w=>?_⟩,fun b w=>(ow b w).imp id fun z=>by rw [z];exact hn⟩
  .rcases get j r e1 with ⟨rfl,rfl,hi⟩|⟨n,e⟩
   .exact⟨_,getElem?_set_self (by rw [<- R1.len];exact hi),a,xs,rfl,e0,f.keeps k⟩
   .obtain⟨u,s,r'⟩:=R1.get j r e;exact⟨u,by rw [getElem?_set_ne (fun z=>n z.symm)];exact s,r'.keeps k fun _ _ _=>rfl⟩
  .rcases get j p1 e1 with ⟨rfl,rfl,hi⟩|⟨n1,e1'⟩
   .rw [getElem?_set_self (by rw [<- R1.len];exact hi)] at s1;cases s1
    rcases get l q1 e2 with ⟨rfl,rfl,_⟩|⟨n2,e2⟩
    .rfl
    .rw [getElem?_set_ne (fun z=>n2 z.symm)] at s2;exact absurd ⟨l,q1,e2,o2,s2⟩ (R1.sep a (.inr rfl))
   .rw [getElem?_set_ne (fun z=>n1 z.symm)] at s1
    rcases get l q1 e2 with ⟨rfl,rfl,hi⟩|⟨n2,e2⟩
    .rw [getElem?_set_self (by rw [<- R1.len];exact hi)] at s2;cases s2;exact absurd ⟨j,p1,e1',o1,s1⟩ (R1.sep a (.inr rfl))
    .rw [getElem?_set_ne (fun z=>n2 z.symm)] at s2;exact R1.dj j l p1 q1 v' e1' e2 o1 o2 s1 s2
  .rcases ow b w with w|w
   .exact R1.sep b (.inl z) w
   .rw [w] at z;exact na z
 | ins c ns ds =>
  obtain⟨a,dx,fs,rfl,na,hn,e0,m,R1,f⟩:=h
  have ow:∀b,Wr (ρ.set i (some (.ins c ns ds))) (σ.set i (some (.ref a))) b->Wr ρ σ b\/b=a:=fun b ⟨j,r,e1,o1,s1⟩=>by
   rcases get j r e1 with ⟨rfl,rfl,hi⟩|⟨n,e⟩
   .rw [getElem?_set_self (by rw [<- R1.len];exact hi)] at s1;cases s1;exact .inr rfl
   .rw [getElem?_set_ne (fun z=>n z.symm)] at s1;exact .inl ⟨j,r,e,o1,s1⟩
  have k:aW (OO (eJ A a) ρ σ) H (OO A (ρ.set i (some (.ins c ns ds))) (σ.set i (some (.ref a)))) H:=aW.less fun b z=>by
   rcases z with z|z
   .exact .inl (.inl z)
   .rcases ow b z with z|z
    .exact .inr z
    .exact .inl (.inr z)
  refine⟨⟨by rw [length_set,length_set];exact R1.len,fun j r e1=>?_,fun j l p1 q1 v' e1 e2 o1 o2 s1 s2=>?_,fun b z=>R1.dom b (.inl z),fun b z w=>?_⟩,fun b w=>(ow b w).imp id fun z=>by rw [z];exact hn⟩
  .rcases get j r e1 with ⟨rfl,rfl,hi⟩|⟨n,e⟩
   .exact⟨_,getElem?_set_self (by rw [<- R1.len];exact hi),a,dx,fs,rfl,e0,m,f.keeps k⟩
   .obtain⟨u,s,r'⟩:=R1.get j r e;exact⟨u,by rw [getElem?_set_ne (fun z=>n z.symm)];exact s,r'.keeps k fun _ _ _=>rfl⟩
  .rcases get j p1 e1 with ⟨rfl,rfl,hi⟩|⟨n1,e1'⟩
   .rw [getElem?_set_self (by rw [<- R1.len];exact hi)] at s1;cases s1
    rcases get l q1 e2 with ⟨rfl,rfl,_⟩|⟨n2,e2⟩
    .rfl
    .rw [getElem?_set_ne (fun z=>n2 z.symm)] at s2;exact absurd ⟨l,q1,e2,o2,s2⟩ (R1.sep a (.inr rfl))
   .rw [getElem?_set_ne (fun z=>n1 z.symm)] at s1
    rcases get l q1 e2 with ⟨rfl,rfl,hi⟩|⟨n2,e2⟩
    .rw [getElem?_set_self (by rw [<- R1.len];exact hi)] at s2;cases s2;exact absurd ⟨j,p1,e1',o1,s1⟩ (R1.sep a (.inr rfl))
    .rw [getElem?_set_ne (fun z=>n2 z.symm)] at s2;exact R1.dj j l p1 q1 v' e1' e2 o1 o2 s1 s2
  .rcases ow b w with w|w
   .exact R1.sep b (.inl z) w
   .rw [w] at z;exact na z
end
abbrev PTG:=PV->PSt->(PSt->Prop)->Prop
abbrev AL:=List D->PSt->(PSt->Prop)->Prop
def LG(K:PySem.W.Frag)(fs:List Nat)(g:TG)(pg:PTG):Prop:=∀(fx:List (Nat×V)) (A R:Addr->Prop) (H0:Hp) (ρ:PSt) (σ:St) (H:Hp) (p:PV) (v:V) (Q:PSt->Prop) (Q':St->Hp->Prop),fx.map Prod.fst=fs->gq fx R H0 ρ σ H->Out K A ρ σ H0 H p v->pg p ρ Q ->
 (∀ρ' σ' H',Q ρ'->Rel K A ρ' σ' H'->gq fx R H0 ρ' σ' H'->Q' σ' H')->g v σ H Q'
def LGs(K:PySem.W.Frag)(fs:List Nat)(g:TGs)(pg:AL):Prop:=∀(fx:List (Nat×V)) (A R:Addr->Prop) (H0:Hp) (ρ:PSt) (σ:St) (H:Hp) (ds:List D) (vs:List V) (Q:PSt->Prop) (Q':St->Hp->Prop),fx.map Prod.fst=fs->gq fx R H0 ρ σ H->Rel K A ρ σ H->FVs K (OO A ρ σ) H vs ds->pg ds ρ Q ->
 (∀ρ' σ',Q ρ'->Rel K A ρ' σ' H->gq fx R H0 ρ' σ' H->(∀b,Wr ρ' σ' b->Wr ρ σ b)->Q' σ' H)->g vs σ H Q'
def LGd(K:PySem.W.Frag)(fs:List Nat)(g:TG)(pg:PTG):Prop:=∀(fx:List (Nat×V)) (A R:Addr->Prop) (H0:Hp) (ρ:PSt) (σ:St) (H:Hp) (d:D) (v:V) (Q:PSt->Prop) (Q':St->Hp->Prop),fx.map Prod.fst=fs->gq fx R H0 ρ σ H->Rel K A ρ σ H->FV K (OO A ρ σ) H v d->pg (.dat d) ρ Q ->
 (∀ρ' σ',Q ρ'->Rel K A ρ' σ' H->gq fx R H0 ρ' σ' H->(∀b,Wr ρ' σ' b->Wr ρ σ b)->Q' σ' H)->g v σ H Q'
def ar(i:Nat):PTG:=fun p ρ Q=>Q (ρ.set i (some p))
def rg:AL:=fun ds ρ Q=>match ds with|[]=>Q ρ|_=>False
def gb(g:PTG)(gs:AL):AL:=fun ds ρ Q=>match ds with|d::r=>g (.dat d) ρ fun ρ1=>gs r ρ1 Q|[]=>False
section
variable {K:PySem.W.Frag}{fs:List Nat}
theorem gq.put{fx:List (Nat×V)}{R:Addr->Prop}{H0 H:Hp}{ρ:PSt}{σ:St}{i:Nat}{p:PV}{v:V}(hf:fx.map Prod.fst=fs)(hi:fs.contains i=false)(F:gq fx R H0 ρ σ H)(ow:∀b,Wr (ρ.set i (some p)) (σ.set i (some v)) b->Wr ρ σ b\/H0 b=none):gq fx R H0 (ρ.set i (some p)) (σ.set i (some v)) H :=
 ⟨F.kp,F.dm,fun b w=>(ow b w).elim (F.ow b) .inr,fun q hq=>by
  have:q.1≠i:=fun z=>by
   have h1:i∈fs:=by rw [<- hf,<- z];exact mem_map_of_mem hq
   rw [contains_iff_mem.mpr h1] at hi;cases hi
  rw [getElem?_set_ne (fun z=>this z.symm)];exact F.fx q hq⟩
theorem aE{i:Nat}(hi:fs.contains i=false):LG K fs (cw i) (ar i):=fun fx A R H0 ρ σ H p v Q Q' hf F o q k=>k _ _ _ q o.put.1 (F.put hf hi o.put.2)
theorem kR:LGs K fs zU rg:=fun fx A R H0 ρ σ H ds vs Q Q' hf F r fv q k=>by
 unfold rg at q
 split at q
 .cases fv;exact⟨rfl,k _ _ q r F fun _ h=>h⟩
 .exact q.elim
theorem aC{i:Nat}(hi:fs.contains i=false):LGd K fs (cw i) (ar i):=fun fx A R H0 ρ σ H d v Q Q' hf F r fv q k=>by
 have o:Out K A ρ σ H0 H (.dat d) v:=⟨r,fv⟩
 have ow:∀b,Wr (ρ.set i (some (.dat d))) (σ.set i (some v)) b->Wr ρ σ b:=fun b ⟨j,p,e1,o1,s1⟩=>by
  by_cases z:i=j
  .subst z
   by_cases hl:i<ρ.length
   .rw [getElem?_set_self hl] at e1;cases e1;cases o1
   .rw [getElem?_eq_none (by rw [length_set];omega)] at e1;cases e1
  .rw [getElem?_set_ne z] at e1 s1;exact⟨j,p,e1,o1,s1⟩
 exact k _ _ q o.put.1 (F.put hf hi o.put.2) ow
theorem dJ{g:TG}{pg:PTG}{gs:TGs}{pgs:AL}(hg:LGd K fs g pg)(h:LGs K fs gs pgs):LGs K fs (ke g gs) (gb pg pgs):=fun fx A R H0 ρ σ H ds vs Q Q' hf F r fv q k=>by
 unfold gb at q
 split at q
 .cases fv with
  | cons a b =>
   exact⟨_,_,rfl,hg fx A R H0 ρ σ H _ _ _ _ hf F r a q fun ρ1 σ1 q1 r1 F1 w1=>h fx A R H0 ρ1 σ1 H _ _ _ _ hf F1 r1 (b.keeps (aW.less fun b z=>z.imp id (w1 b))) q1 fun ρ2 σ2 q2 r2 F2 w2=>k ρ2 σ2 q2 r2 F2 fun b z=>w1 b (w2 b z)⟩
 .exact q.elim
end
def LS(K:PySem.W.Frag)(fs:List Nat)(ts:TS)(ps:PTS):Prop:=∀(fx:List (Nat×V)) (A R:Addr->Prop) (H0:Hp) (ρ:PSt) (σ:St) (H:Hp) (D:C1) (D':BC),fx.map Prod.fst=fs->Rel K A ρ σ H->gq fx R H0 ρ σ H->ps D ρ ->
 (∀ρ' σ' H',D.nx ρ'->Rel K A ρ' σ' H'->gq fx R H0 ρ' σ' H'->D'.nx σ' H') ->
 (∀v p ρ' σ' H',D.rt p ρ'->Out K A ρ' σ' H0 H' p v->gq fx R H0 ρ' σ' H'->D'.rt v H') ->
 (∀ρ' σ' H',D.bk ρ'->Rel K A ρ' σ' H'->gq fx R H0 ρ' σ' H'->D'.bk σ' H') ->
 (∀ρ' σ' H',D.ct ρ'->Rel K A ρ' σ' H'->gq fx R H0 ρ' σ' H'->D'.ct σ' H')->ts D' σ H
def cI:PTS:=fun D ρ=>D.nx ρ
def aN(a b:PTS):PTS:=fun D ρ=>a { D with nx:=b D } ρ
def iZ(pe:PTE):PTS:=fun D ρ=>pe ρ fun _ ρ1=>D.nx ρ1
def bG(pe:PTE):PTS:=fun D ρ=>pe ρ D.rt
def jg(t:PTT)(a b:PTS):PTS:=fun D ρ=>t ρ fun c ρ1=>iB c (a D ρ1) (b D ρ1)
def kS:PTS:=fun _ _=>False
def bC(pe:PTE)(g:PTG):PTS:=fun D ρ=>pe ρ fun p ρ1=>g p ρ1 D.nx
def pZ(a:PTS):PTS:=fun D ρ=>∃J:PSt->Prop,a { D with nx:=J } ρ/\∀ρ',J ρ'->D.nx ρ'
section
variable {K:PySem.W.Frag}{fs:List Nat}{ta tb:TS}{pa pb:PTS}{te:TE}{pe:PTE}{tt:TT}{pt:PTT}
theorem bN:LS K fs B1 cI:=fun fx A R H0 ρ σ H D D' hf r F q k1 k2 k3 k4=>k1 _ _ _ q r F
theorem ky:LS K fs yU kS:=fun fx A R H0 ρ σ H D D' hf r F q k1 k2 k3 k4=>q
theorem aB(ha:LS K fs ta pa)(hb:LS K fs tb pb):LS K fs (E7 ta tb) (aN pa pb):=fun fx A R H0 ρ σ H D D' hf r F q k1 k2 k3 k4 =>
 ha fx A R H0 ρ σ H _ _ hf r F q (fun ρ1 σ1 H1 q1 r1 F1=>hb fx A R H0 ρ1 σ1 H1 _ _ hf r1 F1 q1 k1 k2 k3 k4) k2 k3 k4
theorem gC(h:LE K te pe):LS K fs (B2 te) (iZ pe):=fun fx A R H0 ρ σ H D D' hf r F q k1 k2 k3 k4=>h A ρ σ H _ _ r q fun v H1 p ρ1 q1 f1 o1=>k1 _ _ _ q1 o1.frz.1 (F.fr f1)
theorem aR(h:LE K te pe):LS K fs (E8 te) (bG pe):=fun fx A R H0 ρ σ H D D' hf r F q k1 k2 k3 k4=>h A ρ σ H _ _ r q fun v H1 p ρ1 q1 f1 o1=>k2 v p ρ1 σ H1 q1 (o1.h0 F.dm) (F.fr f1)
theorem dD(ht:LT K tt pt)(ha:LS K fs ta pa)(hb:LS K fs tb pb):LS K fs (E9 tt ta tb) (jg pt pa pb):=fun fx A R H0 ρ σ H D D' hf r F q k1 k2 k3 k4=>ht A ρ σ H _ _ r q fun c H1 ρ1 q1 f1 r1=>by
 cases c with
 | true=>exact ha fx A R H0 ρ1 σ H1 D D' hf r1 (F.fr f1) q1 k1 k2 k3 k4
 | false=>exact hb fx A R H0 ρ1 σ H1 D D' hf r1 (F.fr f1) q1 k1 k2 k3 k4
theorem aP{g:TG}{pg:PTG}(h:LE K te pe)(hg:LG K fs g pg):LS K fs (BD te g) (bC pe pg):=fun fx A R H0 ρ σ H D D' hf r F q k1 k2 k3 k4=>h A ρ σ H _ _ r q fun v H1 p ρ1 q1 f1 o1 =>
 hg fx A R H0 ρ1 σ H1 p v _ _ hf (F.fr f1) (o1.h0 F.dm) q1 k1
theorem n9(h:LS K fs ta pa):LS K fs (CH ta) (pZ pa):=fun fx A R H0 ρ σ H D D' hf r F q k1 k2 k3 k4=>by
 obtain⟨J,q1,q2⟩:=q;refine⟨fun σ' H'=>∃ρ',J ρ'/\Rel K A ρ' σ' H'/\gq fx R H0 ρ' σ' H',?_,fun σ' H' ⟨ρ',j,r',F'⟩=>k1 ρ' σ' H' (q2 ρ' j) r' F'⟩;exact h fx A R H0 ρ σ H _ _ hf r F q1 (fun ρ' σ' H' j r' F'=>⟨ρ',j,r',F'⟩) k2 k3 k4
end
def jj(K:PySem.W.Frag)(tl:TE):TI:=fun σ H R=>tl σ H fun x H1=>(∃k a xs,x=.ref a/\Sq k K H1 a xs/\R (Itk k K a) H1)\/∃l,x=.str (S l)/\R (Its (cQ l)) H1
section
variable {X:Cx}{tg:Expr}
theorem AM{l:Expr}{tl:TE}(hl:PE X l tl):PI X tg l (jj X.K tl):=by
 intro pins s σ H R I h;refine thn (hl pins s σ H _ I h) fun v s1 ⟨x,H1,I1,r1,q1⟩=>?_
 have fin:∀b∈[s1.heap.objs.size],tT X pins H1 b:=fun b hb=>by
  have e:b=s1.heap.objs.size:=by simpa using hb
  subst e;exact I1.fpOk (le_refl _) (I1.hok.fresh (le_refl _))
 rcases q1 with ⟨k,a,xs,e,hq,q⟩|⟨l,e,q⟩
 .subst e;cases r1
  cases k with
  | false =>
   obtain⟨its,rv,p,hz⟩:=I1.list hq;refine wpAny_pyIter_list p.isList ?_;exact⟨s1.heap.objs.size,[s1.heap.objs.size],_,_,H1,rfl,I1.kept (t':=s1.toks) fun b o e=>Heap.get?_push_of_some _ e,uZ a _,⟨_,Heap.get?_push_size _ rfl,rfl,rfl⟩,fin,q⟩
  | true =>
   obtain⟨its,rv,p,hz⟩:=I1.tuple hq;refine wpAny_pyIter_tuple (show s1.heap.IsTuple a its.toArray from p) ?_;exact⟨s1.heap.objs.size,[s1.heap.objs.size],_,_,H1,rfl,I1.kept (t':=s1.toks) fun b o e=>Heap.get?_push_of_some _ e,tU a _,⟨_,Heap.get?_push_size _ rfl,rfl,rfl⟩,fin,q⟩
 .subst e;obtain⟨t,rfl⟩:=r1
  have hv:∀i v,i<(S l).cps.size->SignAt (S l) i v->∃x,(cQ l)[i]?=some x/\dS x v:=fun i v _ ⟨c,u,hc,e⟩=>by
   subst e;have hc':l[i]?=some c:=by simpa [S] using hc
   exact⟨.str (S [c]),by unfold cQ;rw [getElem?_map,hc'];rfl,u,rfl⟩
  have hsc:∀i v,SignAt (S l) i v->∀a,v≠.ref a:=fun i v ⟨c,u,hc,e⟩ a z=>by subst e;cases z
  have hn:(cQ l).length=(S l).cps.size:=by rw [cS];simp [S]
  have hobj:∀ty i (h:Heap),h.IsStrIter s1.heap.objs.size ty (S l) t i->∃o,h.get? s1.heap.objs.size=some o/\∀v,o.data≠.cell v:=fun ty i h ⟨o,ho,_,hd⟩=>⟨o,ho,fun v z=>by rw [hd] at z;cases z⟩
  have hfr:∀ty i (h h':Heap),h.IsStrIter s1.heap.objs.size ty (S l) t i->(∀b∈[s1.heap.objs.size],∀o,h.get? b=some o->h'.get? b=some o)->h'.IsStrIter s1.heap.objs.size ty (S l) t i:=fun ty i h h' ⟨o,ho,r⟩ k=>⟨o,k _ (by simp) o ho,r⟩
  cases ha:(S l).cps.all (·<128)
  .refine wpAny_pyIter_wide ha ⟨s1.heap.objs.size,[s1.heap.objs.size],_,Its (cQ l),H1,rfl,I1.kept (t':=s1.toks) fun b o e=>Heap.get?_push_of_some _ e,
    kL (fun A hA=>Walks.strWide hA _ (S l) t) hn hv hsc (hobj _) (hfr _) (fun A i s Q E st q=>wpAny_pyIter_striter_wide st q),⟨_,Heap.get?_push_size _ rfl,rfl,rfl⟩,fin,q⟩
  .refine wpAny_pyIter_ascii ha ⟨s1.heap.objs.size,[s1.heap.objs.size],_,Its (cQ l),H1,rfl,I1.kept (t':=s1.toks) fun b o e=>Heap.get?_push_of_some _ e,
    kL (fun A hA=>Walks.strAscii hA _ (S l) t) hn hv hsc (hobj _) (hfr _) (fun A i s Q E st q=>wpAny_pyIter_striter_ascii st q),⟨_,Heap.get?_push_size _ rfl,rfl,rfl⟩,fin,q⟩
theorem cM(K:PySem.W.Frag)(e:X.K=K){l:Expr}{tl:TE}(hl:PE X l tl):PI X tg l (jj K tl):=by subst e;exact AM hl
end
abbrev PTI:=PSt->(Nat->(Nat->D)->PSt->Prop)->Prop
def Wlk(K:PySem.W.Frag)(O:Addr->Prop)(H:Hp)(J:It)(n:Nat)(it:Nat->D):Prop:=∀(O':Addr->Prop) (H':Hp),aW O H O' H'->(∀b,O' b->H' b≠none) ->
 (∀k,k<n->J.go k H'/\∀x H'',J.yld k H' x H''->Gr H' H''/\FV K O' H'' x (it k))/\J.stop n H'
def LI(K:PySem.W.Frag)(wi:TI)(pi:PTI):Prop:=∀(A:Addr->Prop) (ρ:PSt) (σ:St) (H:Hp) (Q:Nat->(Nat->D)->PSt->Prop) (Q':It->Hp->Prop),Rel K A ρ σ H->pi ρ Q ->
 (∀J H' n it ρ',Q n it ρ'->Fr ρ σ H ρ' H'->Rel K A ρ' σ H'->Wlk K (OO A ρ' σ) H' J n it->Q' J H')->wi σ H Q'
def itD(ds:List D)(k:Nat):D:=ds.getD k .non
theorem h9{ds:List D}{k:Nat}{d:D}(h:ds[k]?=some d):itD ds k=d:=by unfold itD;rw [getD_eq_getElem?_getD,h];rfl
def Fp:D->Option (Nat×(Nat->D))
 | .lst ds=>some (ds.length,itD ds)
 | .tup ds=>some (ds.length,itD ds)
 | .scr ns=>some (ns.length,fun k=>.int (ns.getD k 0))
 | .str l=>some (l.length,fun k=>.str [l.getD k 0])
 | _=>none
def dY(pe:PTE):PTI:=fun ρ Q=>pe ρ fun p ρ1=>match Fp p.d with
 | some (n,it)=>Q n it ρ1
 | none=>False
section
variable {K:PySem.W.Frag}{te:TE}{pe:PTE}{ta:TA}{pa:PTA}
theorem FV.row{O:Addr->Prop}{H:Hp}{v:V}{d:D}{n:Nat}{it:Nat->D}(h:FV K O H v d)(e:Fp d=some (n,it)) :
  (∃k a xs,v=.ref a/\xs.length=n/\(∀O' H',aW O H O' H'->Sq k K H' a xs/\∀j x,xs[j]?=some x->FV K O' H' x (it j)))\/∃l,v=.str (S l)/\l.length=n/\(∀k,it k=.str [l.getD k 0]):=by
 cases h with
 | lst nn e0 f =>
  cases e;refine .inl ⟨false,_,_,rfl,f.length,fun O' H' k=>⟨SqL.of (k _ _ nn e0).2,fun j x hx=>?_⟩⟩;obtain⟨d,hd,fd⟩:=f.get hx;rw [h9 hd];exact fd.keeps k
 | tup nn e0 f =>
  cases e;refine .inl ⟨true,_,_,rfl,f.length,fun O' H' k=>⟨SqT.of (k _ _ nn e0).2,fun j x hx=>?_⟩⟩;obtain⟨d,hd,fd⟩:=f.get hx;rw [h9 hd];exact fd.keeps k
 | scr s =>
  cases e;refine .inl ⟨false,_,_,rfl,length_map _,fun O' H' k=>⟨(s.keeps k).sq,fun j x hx=>?_⟩⟩;obtain⟨z,hz,rfl⟩:=xX hx;show FV K O' H' (V.int z) (D.int (List.getD _ j 0));rw [getD_eq_getElem?_getD,hz];exact .int z
 | str l hl=>cases e;exact .inr ⟨l,rfl,rfl,fun _=>rfl⟩
 | non=>cases e
 | bl b=>cases e
 | int i=>cases e
 | ty n=>cases e
 | dic _ _ _ _=>cases e
 | obj _ _ _ _=>cases e
 | exc0 _ _=>cases e
 | exc1 _ _ _ _ _ _=>cases e
theorem cN(h:LE K te pe):LI K (jj K te) (dY pe):=fun A ρ σ H Q Q' R q k=>h A ρ σ H _ _ R q fun v H1 p ρ1 q1 f1 o1=>by
 obtain⟨R1,fv⟩:=o1.frz
 split at q1
 .rename_i n it e
  rcases fv.row e with ⟨b,a,xs,rfl,hl,hr⟩|⟨l,rfl,hl,hi⟩
  .refine .inl ⟨b,a,xs,rfl,(hr _ H1 (fun b o n h=>⟨n,h⟩)).1,k _ H1 n it ρ1 q1 f1 R1 fun O' H' kk dom=>?_⟩;obtain⟨sq,hx⟩:=hr O' H' kk
   cases b with
   | false =>
    refine⟨fun j hj=>⟨⟨xs,_,sq,getElem?_eq_getElem (by rw [hl];exact hj)⟩,fun x H'' ⟨e,y⟩=>?_⟩,⟨xs,sq,by rw [hl];exact le_refl _⟩⟩;subst e;exact⟨Gr.refl _,hx j x (y xs sq)⟩
   | true =>
    refine⟨fun j hj=>⟨⟨xs,_,sq,getElem?_eq_getElem (by rw [hl];exact hj)⟩,fun x H'' ⟨e,y⟩=>?_⟩,⟨xs,sq,by rw [hl];exact le_refl _⟩⟩;subst e;exact⟨Gr.refl _,hx j x (y xs sq)⟩
  .refine .inr ⟨l,rfl,k _ H1 n it ρ1 q1 f1 R1 fun O' H' kk dom=>?_⟩;refine⟨fun j hj=>⟨by show j<(cQ l).length;rw [cS,hl];exact hj,fun x H'' ⟨e,y⟩=>?_⟩,by show (cQ l).length=n;rw [cS,hl]⟩;subst e;obtain⟨c,hc,rfl⟩:=fc y;rw [hi,getD_eq_getElem?_getD,hc];exact⟨Gr.refl _,.str _ (by show 1<=1000000;decide)⟩
 .exact q1.elim
def uk(pa:PTA):PTI:=fun ρ Q=>pa ρ fun as ρ1=>match as with
 | [.v (.int j)]=>(-(2^60)<=j/\j<2^60)/\Q j.toNat (fun k=>.int (k:Int)) ρ1
 | _=>False
def Fq(pa:PTA):PTI:=fun ρ Q=>pa ρ fun as ρ1=>match as with
 | [.v (.int i),.v (.int j)]=>(-(2^60)<=i/\i<2^60/\-(2^60)<=j/\j<2^60)/\Q (j - i).toNat (fun k=>.int (i+(k:Int))) ρ1
 | _=>False
def EF(pa:PTA):PTI:=fun ρ Q=>pa ρ fun as ρ1=>match as with
 | [.v (.int i),.v (.int j),.v (.int (-1))]=>(-(2^60)<=i/\i<2^60/\-(2^60)<=j/\j<2^60)/\Q (i - j).toNat (fun k=>.int (i - (k:Int))) ρ1
 | _=>False
theorem C2{O:Addr->Prop}{H:Hp}{lo:Int}{n:Nat}{it:Nat->D}(h:∀k:Nat,it k=.int (lo+k)):Wlk K O H (Itr lo n) n it:=fun O' H' _ _ =>
 ⟨fun j hj=>⟨hj,fun x H'' ⟨e,y⟩=>by subst e y;rw [h];exact⟨Gr.refl _,.int _⟩⟩,le_refl _⟩
theorem EG{O:Addr->Prop}{H:Hp}{lo:Int}{n:Nat}:Wlk K O H (Its (nU lo n)) n (fun k=>.int (lo - (k:Int))):=fun O' H' _ _ =>
 ⟨fun j hj=>⟨by show j<(nU lo n).length;rw [kM];exact hj,fun x H'' ⟨e,y⟩=>by subst e;rw [(vz y).2];exact⟨Gr.refl _,.int _⟩⟩,kM _ _⟩
theorem ki(h:LAs K ta pa):LI K (qS ta) (uk pa):=fun A ρ σ H Q Q' R q k=>h A ρ σ H _ _ R q fun vs H1 as ρ1 q1 f1 R1 o1=>by
 split at q1
 .rename_i j
  cases o1 with
  | cons a b =>
   cases b;cases a;exact⟨j,rfl,by omega,by omega,k _ H1 _ _ ρ1 q1.2 f1 R1 (C2 fun k=>by rw [Int.zero_add])⟩
 .exact q1.elim
theorem EH(h:LAs K ta pa):LI K (B5 ta) (Fq pa):=fun A ρ σ H Q Q' R q k=>h A ρ σ H _ _ R q fun vs H1 as ρ1 q1 f1 R1 o1=>by
 split at q1
 .rename_i i j
  cases o1 with
  | cons a b =>
   cases b with
   | cons c d =>
    cases d;cases a;cases c;exact⟨i,j,rfl,⟨by omega,by omega,by omega,by omega⟩,k _ H1 _ _ ρ1 q1.2 f1 R1 (C2 fun k=>rfl)⟩
 .exact q1.elim
theorem C3(h:LAs K ta pa):LI K (Cu ta) (EF pa):=fun A ρ σ H Q Q' R q k=>h A ρ σ H _ _ R q fun vs H1 as ρ1 q1 f1 R1 o1=>by
 split at q1
 .rename_i i j
  cases o1 with
  | cons a b =>
   cases b with
   | cons c d =>
    cases d with
    | cons e f =>
     cases f;cases a;cases c;cases e;exact⟨i,j,rfl,q1.1,k _ H1 _ _ ρ1 q1.2 f1 R1 EG⟩
 .exact q1.elim
def rowD:D->Option (List D)
 | .lst ds=>some ds
 | .tup ds=>some ds
 | .scr ns=>some (ns.map .int)
 | _=>none
theorem FV.rowD{O:Addr->Prop}{H:Hp}{v:V}{d:D}{ds:List D}(h:FV K O H v d)(e:L2.rowD d=some ds) :
  ∃k a xs,v=.ref a/\xs.length=ds.length/\(∀O' H',aW O H O' H'->Sq k K H' a xs/\FVs K O' H' xs ds):=by
 cases h with
 | lst nn e0 f=>cases e;exact⟨false,_,_,rfl,f.length,fun O' H' k=>⟨SqL.of (k _ _ nn e0).2,f.keeps k⟩⟩
 | tup nn e0 f=>cases e;exact⟨true,_,_,rfl,f.length,fun O' H' k=>⟨SqT.of (k _ _ nn e0).2,f.keeps k⟩⟩
 | scr s=>cases e;exact⟨false,_,_,rfl,by rw [length_map,length_map],fun O' H' k=>⟨(s.keeps k).sq,FVs.of_ints _⟩⟩
 | str l hl=>cases e
 | non=>cases e
 | bl b=>cases e
 | int i=>cases e
 | ty n=>cases e
 | dic _ _ _ _=>cases e
 | obj _ _ _ _=>cases e
 | exc0 _ _=>cases e
 | exc1 _ _ _ _ _ _=>cases e
def EI(pa:PTA):PTI:=fun ρ Q=>pa ρ fun as ρ1=>match as with
 | [.v a,.v b]=>(match rowD a,rowD b with
  | some xs,some ys=>Q (min xs.length ys.length) (fun k=>.tup [itD xs k,itD ys k]) ρ1
  | _,_=>False)
 | _=>False
def ze(pa:PTA):PTI:=fun ρ Q=>pa ρ fun as ρ1=>match as with
 | [.v a]=>(match rowD a with
  | some xs=>Q xs.length (fun k=>.tup [.int (k:Int),itD xs k]) ρ1
  | _=>False)
 | _=>False
theorem C4(h:LAs K ta pa):LI K (Ep K ta) (EI pa):=fun A ρ σ H Q Q' R q k=>h A ρ σ H _ _ R q fun vs H1 as ρ1 q1 f1 R1 o1=>by
 split at q1
 .rename_i da db
  cases o1 with
  | cons o1 o2 =>
   cases o2 with
   | cons o2 o3 =>
    cases o3
    split at q1
    .rename_i xs ys ex ey;obtain⟨b1,a1,us,rfl,l1,w1⟩:=FV.rowD (show FV K _ H1 _ da from o1) ex;obtain⟨b2,a2,ws,rfl,l2,w2⟩:=FV.rowD (show FV K _ H1 _ db from o2) ey;have t1:=w1 _ H1 (fun b o n h=>⟨n,h⟩);have t2:=w2 _ H1 (fun b o n h=>⟨n,h⟩);refine⟨b1,b2,a1,a2,rfl,⟨us,ws,t1.1,t2.1⟩,k _ H1 _ _ ρ1 q1 f1 R1 fun O' H' kk dom=>?_⟩;obtain⟨s1,g1⟩:=w1 O' H' kk;obtain⟨s2,g2⟩:=w2 O' H' kk;refine⟨fun j hj=>?_,⟨us,ws,s1,s2,by omega⟩⟩
     have h1:j<us.length:=by omega
     have h2:j<ws.length:=by omega
     refine⟨⟨us,ws,_,_,s1,s2,getElem?_eq_getElem h1,getElem?_eq_getElem h2⟩,fun x H'' ⟨T,u,w,hT,e,y1,y2,e2⟩=>?_⟩;subst e e2;obtain⟨d1,hd1,fd1⟩:=g1.get (y1 us s1);obtain⟨d2,hd2,fd2⟩:=g2.get (y2 ws s2);have e1:itD xs j=d1:=by unfold itD;rw [getD_eq_getElem?_getD,hd1];rfl
     have e2:itD ys j=d2:=by unfold itD;rw [getD_eq_getElem?_getD,hd2];rfl
     rw [e1,e2];have kk2:aW O' H' O' (upd H' T (.tup [u,w])):=fun b o n e=>⟨n,by rw [aM (aZ e hT)];exact e⟩
     exact⟨Gr.new hT,.tup (fun z=>dom T z hT) bi (.cons (fd1.keeps kk2) (.cons (fd2.keeps kk2) .nil))⟩
    .exact q1.elim
 .exact q1.elim
theorem AN(h:LAs K ta pa):LI K (AB K ta) (ze pa):=fun A ρ σ H Q Q' R q k=>h A ρ σ H _ _ R q fun vs H1 as ρ1 q1 f1 R1 o1=>by
 split at q1
 .rename_i da
  cases o1 with
  | cons o1 o3 =>
   cases o3
   split at q1
   .rename_i xs ex;obtain⟨b1,a1,us,rfl,l1,w1⟩:=FV.rowD (show FV K _ H1 _ da from o1) ex;have t1:=w1 _ H1 (fun b o n h=>⟨n,h⟩);refine⟨b1,a1,rfl,⟨us,t1.1⟩,k _ H1 _ _ ρ1 q1 f1 R1 fun O' H' kk dom=>?_⟩;obtain⟨s1,g1⟩:=w1 O' H' kk;refine⟨fun j hj=>?_,⟨us,s1,by omega⟩⟩;have h1:j<us.length:=by omega
    refine⟨⟨us,_,s1,getElem?_eq_getElem h1⟩,fun x H'' ⟨T,u,hT,e,y1,e2⟩=>?_⟩;subst e e2;obtain⟨d1,hd1,fd1⟩:=g1.get (y1 us s1);have e1:itD xs j=d1:=by unfold itD;rw [getD_eq_getElem?_getD,hd1];rfl
    rw [e1];have kk2:aW O' H' O' (upd H' T (.tup [.int (j:Int),u])):=fun b o n e=>⟨n,by rw [aM (aZ e hT)];exact e⟩
    exact⟨Gr.new hT,.tup (fun z=>dom T z hT) bi (.cons (.int _) (.cons (fd1.keeps kk2) .nil))⟩
   .exact q1.elim
 .exact q1.elim
end
def hZ(pi:PTI)(g:PTG)(pb:PTS):PTS:=fun D ρ=>pi ρ fun n it ρ1=>∃I:Nat->PSt->Prop,I 0 ρ1/\(∀k ρ d,k<n->d=it k->I k ρ->g (.dat d) ρ fun ρ2=>pb { D with nx:=I (k+1),ct:=I (k+1),bk:=D.nx } ρ2)/\∀ρ,I n ρ->D.nx ρ
def wb(pt:PTT)(pb:PTS):PTS:=fun D ρ=>∃I:Nat->PSt->Prop,(∃m,I m ρ)/\∀m ρ,I m ρ->pt ρ fun b ρ1=>iB b (pb { D with nx:=fun ρ'=>∃m',m'<m/\I m' ρ',ct:=fun ρ'=>∃m',m'<m/\I m' ρ',bk:=D.nx } ρ1) (D.nx ρ1)
section
variable {K:PySem.W.Frag}{fs:List Nat}{wi:TI}{pi:PTI}{g:TG}{pg:PTG}{tb:TS}{pb:PTS}{tt:TT}{pt:PTT}
theorem et(hi:LI K wi pi)(hg:LGd K fs g pg)(hb:LS K fs tb pb):LS K fs (Fc wi g tb) (hZ pi pg pb):=fun fx A R H0 ρ σ H D D' hf r F q k1 k2 k3 k4=>hi A ρ σ H _ _ r q fun J H1 n it ρ1 q1 f1 r1 W=>by
 obtain⟨I,i0,turn,after⟩:=q1;have F1:=F.fr f1;refine⟨fun i m σ' H'=>i+m=n/\∃ρ',I i ρ'/\Rel K A ρ' σ' H'/\gq fx (Wr ρ1 σ) H1 ρ' σ' H',⟨n,Nat.zero_add n,ρ1,i0,r1,gq.start F1.fx⟩,fun i m σ' H' ⟨him,ρ',iv,r',F'⟩=>?_⟩;obtain⟨go,stop⟩:=W _ H' F'.keeps r'.dom2
 by_cases hk:i<n
 .obtain⟨g1,g2⟩:=go i hk;refine .inr ⟨g1,fun σ'' H''=>∃ρ'',I (i+1) ρ''/\Rel K A ρ'' σ'' H''/\gq fx (Wr ρ1 σ) H1 ρ'' σ'' H'',fun σ'' H'' z=>⟨m - 1,by omega,by omega,z⟩,fun x H'' y=>?_⟩;obtain⟨gr,fv⟩:=g2 x H'' y;refine hg fx A (Wr ρ1 σ) H1 ρ' σ' H'' _ x _ _ hf (F'.fr gr.fr) (r'.gr gr) fv (turn i ρ' _ hk rfl iv) fun ρ2 σ2 q2 r2 F2 _=>?_;refine hb fx A (Wr ρ1 σ) H1 ρ2 σ2 H'' _ _ hf r2 F2 q2 (fun ρ3 σ3 H3 q3 r3 F3=>⟨ρ3,q3,r3,F3⟩) (fun v p ρ3 σ3 H3 q3 o3 F3=>k2 v p ρ3 σ3 H3 q3 (o3.h0 F1.dm) (F1.trans F3 F3.fx)) (fun ρ3 σ3 H3 q3 r3 F3=>k1 ρ3 σ3 H3 q3 r3 (F1.trans F3 F3.fx)) (fun ρ3 σ3 H3 q3 r3 F3=>⟨ρ3,q3,r3,F3⟩)
 .have e:i=n:=by omega
  subst e;exact .inl ⟨stop,k1 ρ' σ' H' (after ρ' iv) r' (F1.trans F' F'.fx)⟩
theorem yi(ht:LT K tt pt)(hb:LS K fs tb pb):LS K fs (yW tt tb) (wb pt pb):=fun fx A R H0 ρ σ H D D' hf r F q k1 k2 k3 k4=>by
 obtain⟨I,⟨m0,i0⟩,turn⟩:=q;refine⟨fun m σ' H'=>∃ρ',I m ρ'/\Rel K A ρ' σ' H'/\gq fx R H0 ρ' σ' H',⟨m0,ρ,i0,r,F⟩,fun m σ' H' ⟨ρ',iv,r',F'⟩=>?_⟩;refine ht A ρ' σ' H' _ _ r' (turn m ρ' iv) fun b H1 ρ1 q1 f1 r1=>?_
 cases b with
 | true =>
  refine⟨fun σ'' H''=>∃ρ'' m',m'<m/\I m' ρ''/\Rel K A ρ'' σ'' H''/\gq fx R H0 ρ'' σ'' H'',fun σ'' H'' ⟨ρ'',m',h1,h2⟩=>⟨m',h1,ρ'',h2⟩,?_⟩;exact hb fx A R H0 ρ1 σ' H1 _ _ hf r1 (F'.fr f1) q1 (fun ρ3 σ3 H3 ⟨m',h1,h2⟩ r3 F3=>⟨ρ3,m',h1,h2,r3,F3⟩) k2 k1 (fun ρ3 σ3 H3 ⟨m',h1,h2⟩ r3 F3=>⟨ρ3,m',h1,h2,r3,F3⟩)
 | false=>exact k1 ρ1 σ' H1 q1 r1 (F'.fr f1)
end
def cA(ix:List (Option Nat))(ρ:PSt):PSt:=ix.map fun o=>match o with
 | none=>none
 | some j=>match ρ[j]? with
  | some v=>v
  | none=>none
def gp:List (Option Nat)->PSt->PSt->PSt
 | some j::ix,ρ,t::τ=>gp ix (ρ.set j t) τ
 | none::ix,ρ,_::τ=>gp ix ρ τ
 | _,ρ,_=>ρ
def AO:List (Option Nat)->Bool
 | []=>true
 | none::r=>AO r
 | some j::r=>!r.contains (some j) && AO r
theorem oa:∀(ix:List (Option Nat)) (ρ τ:PSt),(gp ix ρ τ).length=ρ.length
 | [],ρ,τ=>by unfold gp;rfl
 | some j::ix,ρ,t::τ=>by show (gp ix (ρ.set j t) τ).length=_;rw [oa ix,length_set]
 | none::ix,ρ,t::τ=>by show (gp ix ρ τ).length=_;exact oa ix ρ τ
 | some j::ix,ρ,[]=>by unfold gp;rfl
 | none::ix,ρ,[]=>by unfold gp;rfl
theorem kz:∀(ix:List (Option Nat)) (ρ τ:PSt) (j:Nat),some j∉ix->(gp ix ρ τ)[j]?=ρ[j]?
 | [],ρ,τ,j,_=>by unfold gp;rfl
 | some i::ix,ρ,t::τ,j,h=>by
  show (gp ix (ρ.set i t) τ)[j]?=_;rw [kz ix _ τ j (fun z=>h (mem_cons_of_mem _ z)),getElem?_set_ne (fun z=>h (by rw [z];exact mem_cons_self ..))]
 | none::ix,ρ,t::τ,j,h=>by show (gp ix ρ τ)[j]?=_;exact kz ix ρ τ j fun z=>h (mem_cons_of_mem _ z)
 | some i::ix,ρ,[],j,_=>by unfold gp;rfl
 | none::ix,ρ,[],j,_=>by unfold gp;rfl
theorem rh:∀(ix:List (Option Nat)) (ρ τ:PSt) (j k:Nat),AO ix=true->ix[k]?=some (some j)->k<τ.length->j<ρ.length->(gp ix ρ τ)[j]?=τ[k]?
 | some i::ix,ρ,t::τ,j,k,h,e,hk,hj=>by
  have h:(!ix.contains (some i) && AO ix)=true:=h;rw [and_eq_true] at h;show (gp ix (ρ.set i t) τ)[j]?=_
  cases k with
  | zero =>
   have e:some (some i)=some (some j):=e;cases e
   have hn:some i∉ix:=fun z=>by
    have:=h.1;rw [contains_iff_mem.mpr z] at this;cases this
   rw [kz ix _ τ i hn,getElem?_set_self hj];rfl
  | succ k =>
   have e:ix[k]?=some (some j):=by simpa using e
   rw [rh ix _ τ j k h.2 e (by simpa using hk) (by rw [length_set];exact hj)];simp
 | none::ix,ρ,t::τ,j,k,h,e,hk,hj=>by
  show (gp ix ρ τ)[j]?=_
  cases k with
  | zero=>cases e
  | succ k =>
   have e:ix[k]?=some (some j):=by simpa using e
   rw [rh ix _ τ j k h e (by simpa using hk) hj];simp
 | [],ρ,τ,j,k,h,e,hk,hj=>by simp at e
 | some i::ix,ρ,[],j,k,h,e,hk,hj=>absurd hk (not_lt_zero _)
 | none::ix,ρ,[],j,k,h,e,hk,hj=>absurd hk (not_lt_zero _)
theorem og:∀{ix:List (Option Nat)}{k l j:Nat},AO ix=true->ix[k]?=some (some j)->ix[l]?=some (some j)->k=l
 | some i::ix,k,l,j,h,e1,e2=>by
  have h:(!ix.contains (some i) && AO ix)=true:=h;rw [and_eq_true] at h
  have no:∀m,ix[m]?≠some (some i):=fun m z=>by
   have:=h.1;rw [contains_iff_mem.mpr (mem_of_getElem? z)] at this;cases this
  cases k with
  | zero =>
   have e1:some (some i)=some (some j):=e1;cases e1
   cases l with
   | zero=>rfl
   | succ l=>exact absurd (by simpa using e2) (no l)
  | succ k =>
   cases l with
   | zero =>
    have e2:some (some i)=some (some j):=e2;cases e2;exact absurd (by simpa using e1) (no k)
   | succ l=>rw [og (k:=k) (l:=l) h.2 (by simpa using e1) (by simpa using e2)]
 | none::ix,k,l,j,h,e1,e2=>by
  cases k with
  | zero=>cases e1
  | succ k =>
   cases l with
   | zero=>cases e2
   | succ l=>rw [og (ix:=ix) (k:=k) (l:=l) (j:=j) h (by simpa using e1) (by simpa using e2)]
 | [],k,l,j,h,e1,e2=>by simp at e1
theorem gD{ix:List (Option Nat)}{ρ:PSt}{k:Nat}{p:PV}(h:(cA ix ρ)[k]?=some (some p)):∃j,ix[k]?=some (some j)/\ρ[j]?=some (some p):=by
 unfold cA at h;rw [getElem?_map] at h
 cases e:ix[k]? with
 | none=>rw [e] at h;cases h
 | some o =>
  rw [e] at h
  cases o with
  | none=>cases h
  | some j =>
   refine⟨j,rfl,?_⟩;have h:some (match ρ[j]? with|some v=>v|none=>none)=some (some p):=h
   cases e2:ρ[j]? with
   | none=>rw [e2] at h;cases h
   | some v=>rw [e2] at h;exact h
theorem gR{ix:List (Option Nat)}{σ:St}{k j:Nat}{v:V}(h:ix[k]?=some (some j))(e:σ[j]?=some (some v)):(vG ix σ)[k]?=some (some v):=by
 unfold vG;rw [getElem?_map,h];show some (match σ[j]? with|some v=>v|none=>none)=some (some v);rw [e]
theorem Rel.amb{K:PySem.W.Frag}{A:Addr->Prop}{ρ:PSt}{σ:St}{H:Hp}{a:Addr}{o:HO}(R:Rel K A ρ σ H)(ha:A a):Rel K A ρ σ (upd H a o):=by
 have k:aW (OO A ρ σ) H (OO A ρ σ) (upd H a o):=fun b u n e=>⟨n,by rw [aM (fun z=>n (by rw [z];exact .inl ha))];exact e⟩
 refine⟨R.len,fun i q e=>?_,R.dj,fun b z=>?_,R.sep⟩
 .obtain⟨v,s,r⟩:=R.get i q e;refine⟨v,s,r.keeps k fun ow b eb=>?_⟩;rw [aM];intro z;subst z eb;exact R.sep b ha ⟨i,q,e,ow,s⟩
 .by_cases z':b=a
  .rw [z',bi];exact nofun
  .rw [aM z'];exact R.dom b z
def EJ(ix:List (Option Nat))(ρ:PSt):Bool:=ix.all fun o=>match o with|none=>true|some j=>(match ρ[j]? with|some (some _)=>true|_=>false)
structure oh (ix:List (Option Nat)) (ρ1:PSt) (n:Nat) (it:Nat->D) (g:PTG) (pt:PTT) (pe:PTE) (Q:PKt):Prop where
 ex:∃I:Nat->List D->PSt->Prop,I 0 [] (cA ix ρ1) /\
  (∀k ys τ d,k<n->d=it k->I k ys τ->g (.dat d) τ fun τ2=>pt τ2 fun ok τ3=>iB ok (pe τ3 fun p τ4=>I (k+1) (ys++[p.d]) τ4) (I (k+1) ys τ3))/\∀ys τ,I n ys τ->Q (.own ys) (gp ix ρ1 τ)
def dE(ix:List (Option Nat))(pi:PTI)(g:PTG)(pt:PTT)(pe:PTE):PTE:=fun ρ Q=>pi ρ fun n it ρ1=>EJ ix ρ1=true/\n<=1000000/\oh ix ρ1 n it g pt pe Q
def jR:PTT:=fun ρ Q=>Q true ρ
theorem di{K:PySem.W.Frag}:LT K jN jR:=fun A ρ σ H Q Q' R q k=>k true H ρ q (Fr.refl _ _ _) R
def BK(ix:List (Option Nat)):List Nat:=(List.range ix.length).filter fun k=>(ix.getD k none).isSome
theorem bD{K:PySem.W.Frag}{ix:List (Option Nat)}{wi:TI}{pi:PTI}{g:TG}{pg:PTG}{tts:TT}{pt:PTT}{te:TE}{pe:PTE}(hix:AO ix=true)(hi:LI K wi pi)(hg:∀fs:List Nat,(∀k∈fs,k∈BK ix)->LGd K fs g pg)(ht:LT K tts pt)(he:LE K te pe) :
  LE K (pR ix wi g tts te) (dE ix pi pg pt pe):=fun A ρ σ H Q Q' R q k=>hi A ρ σ H _ _ R q fun J H1 n it ρ1 q1 f1 R1 W D hD=>by
 obtain⟨hcap,hn,⟨I,i0,turn,after⟩⟩:=q1
 let τρ0:=cA ix ρ1
 let τσ0:=vG ix σ
 let Ai:Addr->Prop:=fun b=>A b\/b=D\/(Wr ρ1 σ b/\¬ Wr τρ0 τσ0 b)
 let H0':=upd H1 D (.lst [])
 have wsub:∀b,Wr τρ0 τσ0 b->Wr ρ1 σ b:=fun b ⟨m,p,e,o,s⟩=>by
  obtain⟨j,h1,h2⟩:=gD e;obtain⟨v,hv,_⟩:=R1.get j p h2;have:=gR h1 hv;rw [s] at this;cases this;exact⟨j,p,h2,o,hv⟩
 have nD:¬ Wr ρ1 σ D:=fun z=>R1.wr z hD
 have oosub:∀b,OO Ai τρ0 τσ0 b->OO A ρ1 σ b\/b=D:=fun b z=>by
  rcases z with (z|z|z)|z
  .exact .inl (.inl z)
  .exact .inr z
  .exact .inl (.inr z.1)
  .exact .inl (.inr (wsub b z))
 have kD:aW (OO A ρ1 σ) H1 (OO Ai τρ0 τσ0) H0':=fun b o nn e=>by
  refine⟨fun z=>?_,?_⟩
  .rcases oosub b z with z|z
   .exact nn z
   .rw [z,hD] at e;cases e
  .rw [show H0' b=H1 b from aM (aZ e hD)];exact e
 have Ri:Rel K Ai τρ0 τσ0 H0':=by
  refine⟨by show (cA ix ρ1).length=(vG ix σ).length;unfold cA vG;rw [length_map,length_map],fun m p e=>?_,fun m l p q v e1 e2 o1 o2 s1 s2=>?_,fun b z=>?_,fun b z w=>?_⟩
  .obtain⟨j,h1,h2⟩:=gD e;obtain⟨v,hv,r⟩:=R1.get j p h2;refine⟨v,gR h1 hv,r.keeps kD fun ow a ea=>?_⟩;subst ea;exact aM (fun z=>nD (by rw [<- z];exact⟨j,p,h2,ow,hv⟩))
  .obtain⟨j,h1,h2⟩:=gD e1;obtain⟨j',h3,h4⟩:=gD e2;obtain⟨v1,hv1,_⟩:=R1.get j p h2;obtain⟨v2,hv2,_⟩:=R1.get j' q h4;have t1:=gR h1 hv1;have t2:=gR h3 hv2;rw [s1] at t1;rw [s2] at t2;cases t1;cases t2;have:=R1.dj j j' p q _ h2 h4 o1 o2 hv1 hv2;subst this;exact og hix h1 h3
  .rcases z with z|z|z
   .intro e
    by_cases zz:b=D
    .exact R1.dom b z (by rw [zz];exact hD)
    .rw [show H0' b=H1 b from aM zz] at e;exact R1.dom b z e
   .rw [z];show upd H1 D _ D≠none;rw [bi];exact nofun
   .intro e;rw [show H0' b=H1 b from aM (fun zz=>nD (by rw [<- zz];exact z.1))] at e;exact R1.wr z.1 e
  .rcases z with z|z|z
   .exact R1.sep b z (wsub b w)
   .rw [z] at w;exact nD (wsub D w)
   .exact z.2 w
 let fxi:List (Nat×V):=(BK ix).filterMap fun m=>match (τσ0[m]?) with|some (some v)=>some (m,v)|_=>none
 have hfx:∀p∈fxi,τσ0[p.1]?=some (some p.2):=fun p hp=>by
  obtain⟨m,hm,e⟩:=mem_filterMap.mp hp
  split at e
  .rename_i v ev;cases e;exact ev
  .cases e
 have hfs:∀m∈fxi.map Prod.fst,m∈BK ix:=fun m hm=>by
  obtain⟨p,hp,rfl⟩:=mem_map.mp hm;obtain⟨m',hm',e⟩:=mem_filterMap.mp hp
  split at e
  .cases e;exact hm'
  .cases e
 have hgi:=hg (fxi.map Prod.fst) hfs
 have fxget:∀(m j:Nat) (v:V),ix[m]?=some (some j)->σ[j]?=some (some v)->(m,v)∈fxi:=fun m j v h1 h2=>by
  refine mem_filterMap.mpr ⟨m,?_,?_⟩
  .unfold BK;refine mem_filter.mpr ⟨mem_range.mpr (List.getElem?_eq_some_iff.mp h1).1,?_⟩;rw [getD_eq_getElem?_getD,h1];rfl
  .show (match (vG ix σ)[m]? with|some (some v)=>some (m,v)|_=>none)=_;rw [gR h1 h2]
 let Rr:Addr->Prop:=fun b=>Wr τρ0 τσ0 b\/b=D
 have hRr:∀b,Rr b->OO Ai τρ0 τσ0 b:=fun b z=>z.elim (fun z=>.inr z) (fun z=>.inl (.inr (.inl z)));have F0:gq fxi Rr H0' τρ0 τσ0 H0':=⟨fun _ _ _ h=>h,fun _ h=>h,fun b w=>.inl (.inl w),hfx⟩
 refine⟨fun i m τ H2=>i+m=n/\∃ys τρ xs,I i ys τρ/\ys.length<=i/\Rel K Ai τρ τ H2/\gq fxi Rr H0' τρ τ H2/\H2 D=some (.lst xs)/\FVs K (OO Ai τρ τ) H2 xs ys/\∀b,Wr τρ τ b->Wr τρ0 τσ0 b,
  ⟨n,Nat.zero_add n,[],τρ0,[],i0,le_refl _,Ri,F0,bi,.nil,fun _ h=>h⟩,fun i m τ H2 ⟨him,ys,τρ,xs,iv,hy,r2,F2,eD,fD,hw⟩=>?_⟩
 have kk:aW (OO A ρ1 σ) H1 (OO Ai τρ τ) H2:=fun b o nn e=>(F2.keepsR hRr) b o (kD b o nn e).1 (kD b o nn e).2;obtain⟨go,stop⟩:=W _ H2 kk r2.dom2
 by_cases hk:i<n
 .obtain⟨g1,g2⟩:=go i hk;refine .inr ⟨g1,fun x H3 y=>?_⟩;obtain⟨gr,fv⟩:=g2 x H3 y;have AiD:Ai D:=.inr (.inl rfl);refine hgi fxi Ai Rr H0' τρ τ H3 _ x _ _ rfl (F2.fr gr.fr) (r2.gr gr) fv (turn i ys τρ _ hk rfl iv) fun τρ2 τ2 q2 r3 F3 w3=>?_;refine ht Ai τρ2 τ2 H3 _ _ r3 q2 fun ok H5 τρ3 q3 f5 r5=>?_;have F5:=F3.fr f5;have fD5:FVs K (OO Ai τρ3 τ2) H5 xs ys:=((fD.keeps (gr.fr (ρ:=τρ) (σ:=τ)).keeps).keeps (aW.less fun b z=>z.imp id (w3 b))).keeps f5.keeps
  have eD5:H5 D=some (.lst xs):=f5.kp D _ (r3.sep D AiD) (gr D _ eD)
  cases ok with
  | true =>
   refine he Ai τρ3 τ2 H5 _ _ r5 q3 fun v H6 p τρ4 q4 f6 o6=>?_;obtain⟨r6,fv6⟩:=o6.frz;have F6:=F5.fr f6;have eD6:H6 D=some (.lst xs):=f6.kp D _ (r5.sep D AiD) eD5;have kw:aW (OO Ai τρ4 τ2) H6 (OO Ai τρ4 τ2) (upd H6 D (.lst (xs++[v]))):=fun b o nn e=>⟨nn,by rw [aM (fun z=>nn (by rw [z];exact .inl AiD))];exact e⟩
   refine⟨xs,eD6,?_,m - 1,by omega,by omega,ys++[p.d],τρ4,xs++[v],q4,by rw [length_append];show _+1<=_;omega,r6.amb AiD,⟨fun b o nn e=>?_,fun b z=>?_,F6.ow,F6.fx⟩,bi,((fD5.keeps f6.keeps).append (.cons fv6 .nil)).keeps kw,fun b z=>hw b (w3 b (f5.ow b (f6.ow b z)))⟩
   .have:xs.length=ys.length:=fD.length;exact lt_of_lt_of_le (by omega:xs.length<1000000) (sz _ (le_refl _))
   .rw [aM (fun z=>nn (.inr z))];exact F6.kp b o nn e
   .by_cases zz:b=D
    .rw [zz,bi];exact nofun
    .rw [aM zz];exact F6.dm b z
  | false=>exact⟨m - 1,by omega,by omega,ys,τρ3,xs,q3,by omega,r5,F5,eD5,fD5,fun b z=>hw b (w3 b (f5.ow b z))⟩
 .have e:i=n:=by omega
  subst e;refine .inl ⟨stop,?_⟩;have q':=after ys τρ iv
  have cap:∀(m j:Nat),ix[m]?=some (some j)->∃p v,ρ1[j]?=some (some p)/\σ[j]?=some (some v)/\τ[m]?=some (some v):=fun m j e=>by
   have h1:=all_eq_true.mp hcap _ (mem_of_getElem? e);have h1:(match ρ1[j]? with|some (some _)=>true|_=>false)=true:=h1
   split at h1
   .rename_i p ep;obtain⟨v,hv,_⟩:=R1.get j p ep;exact⟨p,v,ep,hv,F2.fx _ (fxget m j v e hv)⟩
   .cases h1
  have get':∀(j:Nat) (p:PV),(gp ix ρ1 τρ)[j]?=some (some p)->(∃m v,ix[m]?=some (some j)/\σ[j]?=some (some v)/\τ[m]?=some (some v)/\τρ[m]?=some (some p))\/(some j∉ix/\ρ1[j]?=some (some p)):=fun j p e=>by
   by_cases hj:some j∈ix
   .obtain⟨m,hm,em⟩:=getElem_of_mem hj;have em':ix[m]?=some (some j):=by rw [getElem?_eq_getElem hm,em]
    obtain⟨p0,v,h1,h2,h3⟩:=cap m j em';rw [rh ix ρ1 τρ j m hix em' (by rw [r2.len];exact (List.getElem?_eq_some_iff.mp h3).1) (List.getElem?_eq_some_iff.mp h1).1] at e;exact .inl ⟨m,v,em',h2,h3,e⟩
   .rw [kz ix ρ1 τρ j hj] at e;exact .inr ⟨hj,e⟩
  have nocap:∀(j:Nat) (p:PV) (b:Addr),some j∉ix->ρ1[j]?=some (some p)->p.isOwn=true->σ[j]?=some (some (.ref b))->¬ Wr τρ0 τσ0 b:=fun j p b hj e o s ⟨m,q,e1,o1,s1⟩=>by
   obtain⟨j',h1,h2⟩:=gD e1;obtain⟨v,hv,_⟩:=R1.get j' q h2;have:=gR h1 hv;rw [s1] at this;cases this;have:=R1.dj j j' p q _ e h2 o o1 s hv;subst this;exact hj (mem_of_getElem? h1)
  have w':∀b,Wr (gp ix ρ1 τρ) σ b->Wr τρ τ b\/(Wr ρ1 σ b/\¬ Wr τρ0 τσ0 b):=fun b ⟨j,p,e,o,s⟩=>by
   rcases get' j p e with ⟨m,v,h1,h2,h3,h4⟩|⟨hj,h1⟩
   .rw [s] at h2;cases h2;exact .inl ⟨m,p,h4,o,h3⟩
   .exact .inr ⟨⟨j,p,h1,o,s⟩,nocap j p b hj h1 o s⟩
  have oo':∀b,OO (eJ A D) (gp ix ρ1 τρ) σ b->OO Ai τρ τ b:=fun b z=>by
   rcases z with (z|z)|z
   .exact .inl (.inl z)
   .exact .inl (.inr (.inl z))
   .rcases w' b z with z|z
    .exact .inr z
    .exact .inl (.inr (.inr z))
  have kp1:∀b o,¬ Wr τρ0 τσ0 b->b≠D->H1 b=some o->H2 b=some o:=fun b o n1 n2 e=>F2.kp b o (fun z=>z.elim n1 n2) (by rw [show H0' b=H1 b from aM n2];exact e);have k1:aW (OO A ρ1 σ) H1 (OO (eJ A D) (gp ix ρ1 τρ) σ) H2:=fun b o nn e=>⟨fun z=>(kk b o nn e).1 (oo' b z),(kk b o nn e).2⟩
  have AiD:Ai D:=.inr (.inl rfl)
  have R':Rel K (eJ A D) (gp ix ρ1 τρ) σ H2:=by
   refine⟨by rw [oa];exact R1.len,fun j p e=>?_,fun j l p q v e1 e2 o1 o2 s1 s2=>?_,fun b z=>?_,fun b z w=>?_⟩
   .rcases get' j p e with ⟨m,v,h1,h2,h3,h4⟩|⟨hj,h1⟩
    .obtain⟨v',hv',r⟩:=r2.get m p h4;rw [h3] at hv';cases hv';exact⟨v,h2,r.keeps (aW.less oo') fun _ _ _=>rfl⟩
    .obtain⟨v,hv,r⟩:=R1.get j p h1;refine⟨v,hv,r.keeps k1 fun ow a ea=>?_⟩;subst ea;obtain⟨a',u,e1,e2⟩:=r.ref ow;cases e1;rw [e2];exact kp1 a u (nocap j p a hj h1 ow hv) (fun z=>by rw [z,hD] at e2;cases e2) e2
   .rcases get' j p e1 with ⟨m,v1,h1,h2,h3,h4⟩|⟨hj,h1⟩
    .rw [s1] at h2;cases h2
     rcases get' l q e2 with ⟨m',v2,g1,g2,g3,g4⟩|⟨hl,g1⟩
     .rw [s2] at g2;cases g2;have:=r2.dj m m' p q _ h4 g4 o1 o2 h3 g3;subst this;rw [h1] at g1;cases g1;rfl
     .exfalso;obtain⟨v',hv',r⟩:=r2.get m p h4;rw [h3] at hv';cases hv';obtain⟨a,u,ea,_⟩:=r.ref o1;subst ea;exact nocap l q a hl g1 o2 s2 (hw a ⟨m,p,h4,o1,h3⟩)
    .rcases get' l q e2 with ⟨m',v2,g1,g2,g3,g4⟩|⟨hl,g1⟩
     .rw [s2] at g2;cases g2;exfalso;obtain⟨v',hv',r⟩:=r2.get m' q g4;rw [g3] at hv';cases hv';obtain⟨a,u,ea,_⟩:=r.ref o2;subst ea;exact nocap j p a hj h1 o1 s1 (hw a ⟨m',q,g4,o2,g3⟩)
     .exact R1.dj j l p q v h1 g1 o1 o2 s1 s2
   .rcases z with z|z
    .exact r2.dom b (.inl z)
    .rw [z,eD];exact nofun
   .rcases w' b w with w|w
    .rcases z with z|z
     .exact r2.sep b (.inl z) w
     .rw [z] at w;exact r2.sep D AiD w
    .rcases z with z|z
     .exact R1.sep b z w.1
     .rw [z] at w;exact nD w.1
  have f2:Fr ρ1 σ H1 (gp ix ρ1 τρ) H2:=by
   refine⟨fun b o nn e=>kp1 b o (fun z=>nn (wsub b z)) (fun z=>by rw [z,hD] at e;cases e) e,fun b z=>F2.dm b ?_,fun b z=>?_⟩
   .intro e
    by_cases zz:b=D
    .exact z (by rw [zz];exact hD)
    .rw [show H0' b=H1 b from aM zz] at e;exact z e
   .rcases w' b z with z|z
    .exact wsub b (hw b z)
    .exact z.1
  have hD0:H D=none:=by
   cases e:H D with
   | none=>rfl
   | some o=>exact absurd hD (f1.dm D (by rw [e];exact nofun))
  exact k _ H2 (.own ys) _ q' (f1.trans f2) ⟨D,xs,rfl,fun z=>R1.dom D z hD,hD0,eD,R',fD.keeps (aW.less oo')⟩
section
variable {K:PySem.W.Frag}{A A':Addr->Prop}{ρ:PSt}{σ:St}{H H':Hp}
theorem Rel.step(R:Rel K A ρ σ H){i:Nat}{p q:PV}{a:Addr}(e:ρ[i]?=some (some p))(ow:p.isOwn=true)(ow':q.isOwn=true)(es:σ[i]?=some (some (.ref a)))
  (kp:∀b o,b≠a->H b=some o->H' b=some o) (ha:H' a≠none) (h1:∀b,A b->A' b) (h2:∀b,A' b->A b\/H b=none) (dom':∀b,A' b->H' b≠none)
  (new:RS K (OO A' ρ σ) H' q (.ref a)):Rel K A' (ρ.set i (some q)) σ H'/\Fr ρ σ H (ρ.set i (some q)) H':=by
 have hi:i<ρ.length:=(List.getElem?_eq_some_iff.mp e).1;have wa:Wr ρ σ a:=⟨i,p,e,ow,es⟩
 have weq:∀b,Wr (ρ.set i (some q)) σ b ↔ Wr ρ σ b:=fun b=>by
  constructor
  .rintro⟨j,r,e1,o1,s1⟩
   by_cases z:i=j
   .subst z;exact⟨i,p,e,ow,s1⟩
   .rw [getElem?_set_ne z] at e1;exact⟨j,r,e1,o1,s1⟩
  .rintro⟨j,r,e1,o1,s1⟩
   by_cases z:i=j
   .subst z;exact⟨i,q,getElem?_set_self hi,ow',s1⟩
   .exact⟨j,r,by rw [getElem?_set_ne z];exact e1,o1,s1⟩
 have oeq:OO A' (ρ.set i (some q)) σ=OO A' ρ σ:=funext fun b=>propext (or_congr Iff.rfl (weq b));have kp1:∀b u,¬ Wr ρ σ b->H b=some u->H' b=some u:=fun b u n h=>kp b u (fun z=>n (by rw [z];exact wa)) h
 have k:aW (OO A ρ σ) H (OO A' ρ σ) H':=fun b u n h=>by
  refine⟨fun z=>?_,kp1 b u (fun z=>n (.inr z)) h⟩
  rcases z with z|z
  .rcases h2 b z with z|z
   .exact n (.inl z)
   .rw [z] at h;cases h
  .exact n (.inr z)
 have dm:∀b,H b≠none->H' b≠none:=fun b n=>by
  by_cases z:b=a
  .rw [z];exact ha
  .cases eb:H b with
   | none=>exact absurd eb n
   | some o=>rw [kp b o z eb];exact nofun
 refine⟨⟨by rw [length_set];exact R.len,fun j r e1=>?_,fun j l p1 q1 v e1 e2 o1 o2 s1 s2=>?_,dom',fun b z w=>?_⟩,⟨kp1,dm,fun b w=>(weq b).mp w⟩⟩
 .rw [oeq]
  by_cases z:i=j
  .subst z;rw [getElem?_set_self hi] at e1;cases e1;exact⟨_,es,new⟩
  .rw [getElem?_set_ne z] at e1;obtain⟨v,s,rr⟩:=R.get j r e1;refine⟨v,s,rr.keeps k fun ow2 b eb=>?_⟩;obtain⟨b',u,e3,e4⟩:=rr.ref ow2;rw [eb] at e3;cases e3;rw [e4];refine kp b u (fun zz=>?_) e4;subst zz;rw [eb] at s;exact z (R.dj i j p r _ e e1 ow ow2 es s)
 .have ex:∀(m:Nat) (x:PV),(ρ.set i (some q))[m]?=some (some x)->x.isOwn=true->∃y:PV,ρ[m]?=some (some y)/\y.isOwn=true:=fun m x em ox=>by
   by_cases z:i=m
   .subst z;exact⟨p,e,ow⟩
   .rw [getElem?_set_ne z] at em;exact⟨x,em,ox⟩
  obtain⟨y1,g1,g2⟩:=ex j p1 e1 o1;obtain⟨y2,g3,g4⟩:=ex l q1 e2 o2;exact R.dj j l y1 y2 v g1 g3 g2 g4 s1 s2
 .rcases h2 b z with z|z
  .exact R.sep b z ((weq b).mp w)
  .exact R.wr ((weq b).mp w) z
theorem Rel.lstw(R:Rel K A ρ σ H){i:Nat}{ds es:List D}{a:Addr}{ys:List V}(e:ρ[i]?=some (some (.own ds)))(es':σ[i]?=some (some (.ref a)))(f:FVs K (OO A ρ σ) H ys es) :
  Rel K A (ρ.set i (some (.own es))) σ (upd H a (.lst ys))/\Fr ρ σ H (ρ.set i (some (.own es))) (upd H a (.lst ys)):=by
 have wa:OO A ρ σ a:=.inr ⟨i,_,e,rfl,es'⟩;exact R.write (q:=.own es) e rfl rfl es' ⟨a,ys,rfl,bi,f.keeps fun b u n h=>⟨n,by rw [aM (fun z=>n (by rw [z];exact wa))];exact h⟩⟩
theorem Rel.ownAt(R:Rel K A ρ σ H){i:Nat}{ds:List D}(e:ρ[i]?=some (some (.own ds))):∃a xs,σ[i]?=some (some (.ref a))/\H a=some (.lst xs)/\FVs K (OO A ρ σ) H xs ds:=by
 obtain⟨v,s,a,xs,rfl,g,f⟩:=R.get i _ e;exact⟨a,xs,s,g,f⟩
end
def BL(i:Nat)(pe:PTE):PTE:=fun ρ Q=>match ρ[i]? with
 | some (some (.own _))=>pe ρ fun p ρ1=>(match ρ1[i]? with
  | some (some (.own ds))=>ds.length<1000000/\Q (.dat .non) (ρ1.set i (some (.own (ds++[p.d]))))
  | _=>False)
 | _=>False
def wc(i:Nat)(pe pk:PTE):PTS:=fun D ρ=>pe ρ fun p ρ1=>(match ρ1[i]? with
 | some (some (.own _))=>pk ρ1 fun kp ρ2=>(match ρ2[i]?,kp with
  | some (some (.own ds)),.dat (.int k)=>∃j,ixN ds.length k=some j/\D.nx (ρ2.set i (some (.own (ds.set j p.d))))
  | _,_=>False)
 | _=>False)
section
variable {K:PySem.W.Frag}{te tk:TE}{pe pk:PTE}{fs:List Nat}
theorem sR{i:Nat}(h:LE K te pe):LE K (tBM K "list" vk (bz i) (bf te eY)) (BL i pe):=fun A ρ σ H Q Q' R q k=>by
 unfold BL at q
 split at q
 .rename_i ds0 e0;obtain⟨a0,xs0,s0,g0,f0⟩:=R.ownAt e0;refine⟨_,s0,.inl ⟨rfl,xs0,SqL.of g0⟩,h A ρ σ H _ _ R q fun v H1 p ρ1 q1 f1 o1=>?_⟩;obtain⟨R1,fv⟩:=o1.frz
  split at q1
  .rename_i ds e1;obtain⟨a,xs,s,g,f⟩:=R1.ownAt e1;rw [s0] at s;cases s;obtain⟨R2,f2⟩:=R1.lstw e1 s0 (f.append (.cons fv .nil));exact⟨a0,xs,v,rfl,rfl,g,lt_of_lt_of_le (by rw [f.length];exact q1.1) (sz _ (le_refl _)),k _ _ _ _ q1.2 (f1.trans f2) ⟨R2,.non⟩⟩
  .exact q1.elim
 .exact q.elim
theorem wd{i:Nat}(h:LE K te pe)(hk:LE K tk pk):LS K fs (BD te (Fb (bz i) tk Ck)) (wc i pe pk):=fun fx A R H0 ρ σ H D D' hf r F q k1 k2 k3 k4=>h A ρ σ H _ _ r q fun v H1 p ρ1 q1 f1 o1=>by
 obtain⟨R1,fv⟩:=o1.frz
 split at q1
 .rename_i ds0 e0;obtain⟨a0,xs0,s0,g0,f0⟩:=R1.ownAt e0;refine⟨_,s0,hk A ρ1 σ H1 _ _ R1 q1 fun w H2 kp ρ2 q2 f2 o2=>?_⟩
  split at q2
  .rename_i ds j e2;obtain⟨n,hn,q2⟩:=q2;obtain⟨R2,fw⟩:=o2;cases fw;obtain⟨a,xs,s,g,f⟩:=R2.ownAt e2;rw [s0] at s;cases s;obtain⟨R3,f3⟩:=R2.lstw e2 s0 (FVs.set (fv.keeps f2.keeps) n f);exact⟨a0,xs,j,n,rfl,rfl,g,by rw [f.length];exact hn,k1 _ _ _ q2 R3 (((F.fr f1).fr f2).fr f3)⟩
  .exact q2.elim
 .exact q1.elim
end
def spP(K:PySem.W.Frag)(c:FN):Sp:=fun vs H Q _=>∃(O:Addr->Prop) (ds:List D) (Qc:PV->Prop),(∀b,O b->H b≠none)/\FVs K O H vs ds/\c ds Qc/\∀r,Qc r->∀v H',Gr H H'->rf K O H H' r v->Q v H'
def aY(c:FN)(pr:PTA):PTE:=fun ρ Q=>pr ρ fun as ρ1=>match avD as with
 | some ds=>c ds fun r=>Q r ρ1
 | none=>False
theorem kT{N:List Str}{vs:List V}{i:Nat}{v:V}(h:vs[i]?=some v):(start N vs)[i]?=some (some v):=by
 unfold start;rw [getElem?_append_left (by rw [length_map];exact (List.getElem?_eq_some_iff.mp h).1),getElem?_map,h];rfl
def ee(n:Nat)(ps:List PV):PSt:=ps.map some++List.replicate (n - ps.length) none
theorem fi{n:Nat}{ps:List PV}{i:Nat}{p:PV}(h:(ee n ps)[i]?=some (some p)):ps[i]?=some p:=by
 unfold ee at h
 by_cases hi:i<ps.length
 .rw [getElem?_append_left (by rw [length_map];exact hi),getElem?_map] at h
  cases e:ps[i]? with
  | none=>rw [e] at h;cases h
  | some q=>rw [e] at h;cases h;rfl
 .rw [getElem?_append_right (by rw [length_map];omega)] at h;have:=mem_of_getElem? h;rw [mem_replicate] at this;cases this.2
section
variable {K:PySem.W.Frag}{tr:TA}{pr:PTA}{ts:TS}{ps:PTS}
theorem aD{c:FN}(h:LAs K tr pr):LE K (ef (spP K c) [] E0 tr) (aY c pr):=fun A ρ σ H Q Q' R q k=>h A ρ σ H _ _ R q fun vs H1 as ρ1 q1 f1 R1 o1=>by
 split at q1
 .rename_i ds e;rw [append_nil];exact⟨OO A ρ1 σ,ds,_,R1.dom2,o1.avD e,q1,fun r qr v H' g ov=>k v H' r ρ1 qr (f1.trans g.fr) ((ov.out R1 g).h0 f1.dm)⟩
 .exact q1.elim
theorem Out.outV{O:Addr->Prop}{ρ:PSt}{σ:St}{H H':Hp}{p:PV}{v:V}(h:Out K O ρ σ H H' p v):rf K O H H' p v:=by
 cases p with
 | dat d=>exact h.2.keeps (aW.less fun b z=>.inl z)
 | own ds =>
  obtain⟨a,xs,e1,na,e2,e3,R,f⟩:=h;exact⟨a,xs,e1,e2,e3,f.keeps (aW.less fun b z=>.inl z)⟩
 | ins c ns ds =>
  obtain⟨a,dx,fs,e1,na,e2,e3,m,R,f⟩:=h;exact⟨a,dx,fs,e1,e2,e3,m,f.keeps (aW.less fun b z=>.inl z)⟩
theorem fnP{c:FN}{N:List Str}(hl:LS K [] ts ps)(hn:∀ds Q,c ds Q->ds.length<=N.length)(hc:∀ds Q,c ds Q->ps { nx:=fun _=>Q (.dat .non),rt:=fun p _=>Q p } (ee N.length (ds.map .dat)))
  {vs:List V}{H:Hp}{Q:VK}{E:XK} (h:spP K c vs H Q E):ts { nx:=fun _ H'=>Q .non H',rt:=Q } (start N vs) H:=by
 obtain⟨O,ds,Qc,dom,fv,hq,k⟩:=h
 have nw:∀(ρ:PSt) (b:Addr),ρ=ee N.length (ds.map .dat)->¬ Wr ρ (start N vs) b:=fun ρ b e ⟨i,p,e1,o1,s1⟩=>by
  rw [e] at e1;have:=fi e1;rw [getElem?_map] at this
  cases e2:ds[i]? with
  | none=>rw [e2] at this;cases this
  | some d=>rw [e2] at this;cases this;cases o1
 have lenv:=fv.length;have hle:=hn ds Qc hq
 have R0:Rel K O (ee N.length (ds.map .dat)) (start N vs) H:=by
  refine⟨?_,fun i p e=>?_,fun i j p q v e1 e2 o1 o2 s1 s2=>?_,dom,fun b _ w=>nw _ b rfl w⟩
  .unfold ee start;rw [length_append,length_append,length_map,length_map,length_map,length_replicate,length_replicate,lenv]
  .have:=fi e;rw [getElem?_map] at this
   cases e2:ds[i]? with
   | none=>rw [e2] at this;cases this
   | some d =>
    rw [e2] at this;cases this;obtain⟨v,hv,f⟩:=fv.getD e2;exact⟨v,kT hv,f.keeps (aW.less fun b z=>z.elim id fun w=>absurd w (nw _ b rfl))⟩
  .have:=fi e1;rw [getElem?_map] at this
   cases e3:ds[i]? with
   | none=>rw [e3] at this;cases this
   | some d=>rw [e3] at this;cases this;cases o1
 refine hl [] O (fun _=>False) H _ _ H _ _ rfl R0 ⟨fun _ _ _ h=>h,fun _ h=>h,fun b w=>absurd w (nw _ b rfl),fun p hp=>nomatch hp⟩ (hc ds Qc hq) (fun ρ' σ' H' q r F=>?_) (fun v p ρ' σ' H' q o F=>?_) (fun _ _ _ z=>z.elim) (fun _ _ _ z=>z.elim)
 .exact k _ q .non H' (fun b o e=>F.kp b o id e) .non
 .exact k _ q v H' (fun b o e=>F.kp b o id e) o.outV
abbrev FR:=PV->List D->(PV->PV->Prop)->Prop
def spR(K:PySem.W.Frag)(c:FR):Sp:=fun vs H Q _=>∃(A:Addr->Prop) (a:Addr) (p:PV) (ws:List V) (ds:List D) (Qc:PV->PV->Prop),vs=.ref a::ws/\p.isOwn=true/\(∀b,A b->H b≠none)/\¬ A a/\RS K (eJ A a) H p (.ref a)/\FVs K (eJ A a) H ws ds/\c p ds Qc /\
 ∀r p',Qc r p'->p'.isOwn=true->∀v H',(∀b o,b≠a->H b=some o->H' b=some o)->H' a≠none->RS K (eJ A a) H' p' (.ref a)->rf K (eJ A a) H H' r v->(∀a',v=.ref a'->r.isOwn=true->RS K (eJ (eJ A a) a') H' p' (.ref a))->Q v H'
def cB(c:FR)(i:Nat)(pr:PTA):PTE:=fun ρ Q=>match ρ[i]? with
 | some (some _)=>pr ρ fun as ρ1=>(match ρ1[i]?,avD as with
  | some (some p),some ds=>p.isOwn=true/\c p ds fun r p'=>Q r (ρ1.set i (some p'))
  | _,_=>False)
 | _=>False
theorem bd{c:FR}{i:Nat}(h:LAs K tr pr):LE K (ef (spR K c) [] E0 (bf (bz i) tr)) (cB c i pr):=fun A ρ σ H Q Q' R q k=>by
 unfold cB at q
 split at q
 .rename_i p0 e0;obtain⟨v0,s0,_⟩:=R.get i p0 e0;refine⟨v0,s0,h A ρ σ H _ _ R q fun vs H1 as ρ1 q1 f1 R1 o1=>?_⟩
  split at q1
  .rename_i p ds e1 ed;obtain⟨ow,q1⟩:=q1;obtain⟨v1,s1,rs⟩:=R1.get i p e1;rw [s0] at s1;cases s1;obtain⟨a,u,rfl,ea⟩:=rs.ref ow;rw [append_nil];have wa:Wr ρ1 σ a:=⟨i,p,e1,ow,s0⟩
   have oeq:eJ (fun b=>(OO A ρ1 σ b)/\b≠a) a=OO A ρ1 σ:=funext fun b=>propext ⟨fun z=>z.elim (fun z=>z.1) (fun z=>by rw [z];exact .inr wa),fun z=>by
    by_cases e:b=a
    .exact .inr e
    .exact .inl ⟨z,e⟩⟩
   refine⟨fun b=>(OO A ρ1 σ b)/\b≠a,a,p,vs,ds,_,rfl,ow,fun b z=>R1.dom2 b z.1,fun z=>z.2 rfl,by rw [oeq];exact rs,by rw [oeq];exact o1.avD ed,q1,fun r p' qr ow' v H' kp ha rs' ov hx=>?_⟩;rw [oeq] at rs' ov hx
   have domA:∀b,A b->H' b≠none:=fun b z=>by
    have:b≠a:=fun e=>R1.sep b z (by rw [e];exact wa)
    cases eb:H1 b with
    | none=>exact absurd eb (R1.dom b z)
    | some o=>rw [kp b o this eb];exact nofun
   cases r with
   | dat d =>
    obtain⟨R2,f2⟩:=R1.step (A':=A) e1 ow ow' s0 kp ha (fun _ h=>h) (fun _ h=>.inl h) domA rs';exact k v H' _ _ qr (f1.trans f2) ⟨R2,FV.keeps (aW.less fun b z=>z.imp id (f2.ow b)) ov⟩
   | own es =>
    obtain⟨a',xs,rfl,n1,e2,f⟩:=ov;have hx:=hx a' rfl rfl;have na:a'≠a:=fun e=>by rw [e,ea] at n1;cases n1
    have oo2:∀b,OO (eJ A a') ρ1 σ b ↔ eJ (OO A ρ1 σ) a' b:=fun b=>⟨fun z=>by
     rcases z with (z|z)|z
     .exact .inl (.inl z)
     .exact .inr z
     .exact .inl (.inr z),fun z=>by
     rcases z with (z|z)|z
     .exact .inl (.inl z)
     .exact .inr z
     .exact .inl (.inr z)⟩
    have oo2':OO (eJ A a') ρ1 σ=eJ (OO A ρ1 σ) a':=funext fun b=>propext (oo2 b)
    obtain⟨R2,f2⟩:=R1.step (A':=eJ A a') e1 ow ow' s0 kp ha (fun _ h=>.inl h) (fun b z=>z.imp id fun z=>by rw [z];exact n1) (fun b z=>z.elim (domA b) fun z=>by rw [z,e2];exact nofun) (by rw [oo2'];exact hx)
    .refine k _ H' (.own es) _ qr (f1.trans f2) ⟨a',xs,rfl,fun z=>R1.dom a' z n1,?_,e2,R2,f.keeps (aW.less fun b z=>?_)⟩
     .cases eb:H a' with
      | none=>rfl
      | some o=>exact absurd n1 (f1.dm a' (by rw [eb];exact nofun))
     .rw [<- oo2'];exact z.imp id (f2.ow b)
   | ins c ns es =>
    obtain⟨a',dx,fs,rfl,n1,e2,m,f⟩:=ov;have hx:=hx a' rfl rfl
    have oo2':OO (eJ A a') ρ1 σ=eJ (OO A ρ1 σ) a':=funext fun b=>propext ⟨fun z=>by
     rcases z with (z|z)|z
     .exact .inl (.inl z)
     .exact .inr z
     .exact .inl (.inr z),fun z=>by
     rcases z with (z|z)|z
     .exact .inl (.inl z)
     .exact .inr z
     .exact .inl (.inr z)⟩
    obtain⟨R2,f2⟩:=R1.step (A':=eJ A a') e1 ow ow' s0 kp ha (fun _ h=>.inl h) (fun b z=>z.imp id fun z=>by rw [z];exact n1) (fun b z=>z.elim (domA b) fun z=>by rw [z,e2];exact nofun) (by rw [oo2'];exact hx)
    .refine k _ H' (.ins c ns es) _ qr (f1.trans f2) ⟨a',dx,fs,rfl,fun z=>R1.dom a' z n1,?_,e2,m,R2,f.keeps (aW.less fun b z=>?_)⟩
     .cases eb:H a' with
      | none=>rfl
      | some o=>exact absurd n1 (f1.dm a' (by rw [eb];exact nofun))
     .rw [<- oo2'];exact z.imp id (f2.ow b)
  .exact q1.elim
 .exact q.elim
def BM(Q:PV->PV->Prop)(r:PV)(ρ:PSt):Prop:=match ρ[0]? with
 | some (some p)=>p.isOwn=true/\Q r p
 | _=>False
theorem fnR{c:FR}{N:List Str}(hl:LS K [0] ts ps)(hn:∀p ds Q,c p ds Q->ds.length+1<=N.length)(hc:∀p ds Q,p.isOwn=true->c p ds Q->ps { nx:=BM Q (.dat .non),rt:=BM Q } (ee N.length (p::ds.map .dat)))
  {vs:List V}{H:Hp}{Q:VK}{E:XK} (h:spR K c vs H Q E):ts { nx:=fun _ H'=>Q .non H',rt:=Q } (start N vs) H:=by
 obtain⟨A,a,p,ws,ds,Qc,rfl,ow,dom,na,rs,fv,hq,k⟩:=h;have s0:(start N (V.ref a::ws))[0]?=some (some (.ref a)):=kT rfl;have b0:(ee N.length (p::ds.map .dat))[0]?=some (some p):=rfl
 have wr:∀b,Wr (ee N.length (p::ds.map .dat)) (start N (.ref a::ws)) b->b=a:=fun b ⟨i,q,e1,o1,s1⟩=>by
  have:=fi e1
  cases i with
  | zero=>rw [s0] at s1;cases s1;rfl
  | succ i =>
   rw [getElem?_cons_succ,getElem?_map] at this
   cases e2:ds[i]? with
   | none=>rw [e2] at this;cases this
   | some d=>rw [e2] at this;cases this;cases o1
 have wa:Wr (ee N.length (p::ds.map .dat)) (start N (.ref a::ws)) a:=⟨0,p,b0,ow,s0⟩
 have oeq:OO A (ee N.length (p::ds.map .dat)) (start N (.ref a::ws))=eJ A a:=funext fun b=>propext ⟨fun z=>z.imp id (wr b),fun z=>z.imp id fun z=>by rw [z];exact wa⟩;have lenv:=fv.length;have hle:=hn p ds Qc hq
 have R0:Rel K A (ee N.length (p::ds.map .dat)) (start N (.ref a::ws)) H:=by
  refine⟨?_,fun i q e=>?_,fun i j q1 q2 v e1 e2 o1 o2 s1 s2=>?_,dom,fun b z w=>?_⟩
  .unfold ee start;simp only [length_append,length_map,length_replicate,length_cons,lenv]
  .have:=fi e;rw [oeq]
   cases i with
   | zero=>cases this;exact⟨_,s0,rs⟩
   | succ i =>
    rw [getElem?_cons_succ,getElem?_map] at this
    cases e2:ds[i]? with
    | none=>rw [e2] at this;cases this
    | some d =>
     rw [e2] at this;cases this;obtain⟨v,hv,f⟩:=fv.getD e2;exact⟨v,kT (by rw [getElem?_cons_succ];exact hv),f⟩
  .have own0:∀(i:Nat) (q:PV),(ee N.length (p::ds.map .dat))[i]?=some (some q)->q.isOwn=true->i=0:=fun i q e o=>by
    have:=fi e
    cases i with
    | zero=>rfl
    | succ i =>
     rw [getElem?_cons_succ,getElem?_map] at this
     cases e2:ds[i]? with
     | none=>rw [e2] at this;cases this
     | some d=>rw [e2] at this;cases this;cases o
   rw [own0 i q1 e1 o1,own0 j q2 e2 o2]
  .rw [wr b w] at z;exact na z
 have fin:∀(v:V) (r:PV) (ρ':PSt) (σ':St) (H':Hp),BM Qc r ρ'->Out K A ρ' σ' H H' r v->gq [(0,.ref a)] (fun b=>b=a) H ρ' σ' H'->Q v H':=fun v r ρ' σ' H' q o F=>by
  unfold BM at q
  split at q
  .rename_i p' e';obtain⟨ow',q⟩:=q;have sa:=F.fx (0,.ref a) (mem_singleton.mpr rfl);have wa':Wr ρ' σ' a:=⟨0,p',e',ow',sa⟩
   have kpa:∀b o,b≠a->H b=some o->H' b=some o:=fun b o n e=>F.kp b o n e
   cases r with
   | dat d =>
    obtain⟨R1,f1⟩:=o;obtain⟨v1,s1,rs1⟩:=R1.get 0 p' e';rw [sa] at s1;cases s1;have less:∀b,eJ A a b->OO A ρ' σ' b:=fun b z=>z.imp id fun z=>by rw [z];exact wa'
    exact k _ p' q ow' v H' kpa (R1.wr wa') (rs1.keeps (aW.less less) fun _ _ _=>rfl) (f1.keeps (aW.less less)) (fun _ _ z=>nomatch z)
   | own es =>
    obtain⟨a',xs,rfl,n1,n2,e3,R1,f1⟩:=o;obtain⟨v1,s1,rs1⟩:=R1.get 0 p' e';rw [sa] at s1;cases s1
    have less:∀b,eJ (eJ A a) a' b->OO (eJ A a') ρ' σ' b:=fun b z=>by
     rcases z with (z|z)|z
     .exact .inl (.inl z)
     .exact .inr (by rw [z];exact wa')
     .exact .inl (.inr z)
    exact k _ p' q ow' _ H' kpa (R1.wr wa') (rs1.keeps (aW.less fun b z=>less b (.inl z)) fun _ _ _=>rfl) ⟨a',xs,rfl,n2,e3,f1.keeps (aW.less less)⟩ (fun a'' e _=>by cases e;exact rs1.keeps (aW.less less) fun _ _ _=>rfl)
   | ins c ns es =>
    obtain⟨a',dx,fs,rfl,n1,n2,e3,m,R1,f1⟩:=o;obtain⟨v1,s1,rs1⟩:=R1.get 0 p' e';rw [sa] at s1;cases s1
    have less:∀b,eJ (eJ A a) a' b->OO (eJ A a') ρ' σ' b:=fun b z=>by
     rcases z with (z|z)|z
     .exact .inl (.inl z)
     .exact .inr (by rw [z];exact wa')
     .exact .inl (.inr z)
    exact k _ p' q ow' _ H' kpa (R1.wr wa') (rs1.keeps (aW.less fun b z=>less b (.inl z)) fun _ _ _=>rfl) ⟨a',dx,fs,rfl,n2,e3,m,f1.keeps (aW.less less)⟩ (fun a'' e _=>by cases e;exact rs1.keeps (aW.less less) fun _ _ _=>rfl)
  .exact q.elim
 refine hl [(0,.ref a)] A (fun b=>b=a) H _ _ H _ _ rfl R0 ⟨fun _ _ _ h=>h,fun _ h=>h,fun b w=>.inl (wr b w),fun q hq=>by rw [mem_singleton.mp hq];exact s0⟩ (hc p ds Qc ow hq) (fun ρ' σ' H' q r F=>fin .non (.dat .non) ρ' σ' H' q ⟨r,.non⟩ F) (fun v p ρ' σ' H' q o F=>fin v p ρ' σ' H' q o F) (fun _ _ _ z=>z.elim) (fun _ _ _ z=>z.elim)
end
def Fs:FN:=fun as Q=>∃ns:List Int,as=[.scr ns]/\ns.length<=63/\Q (.dat (.bl true))
theorem AQ{K:PySem.W.Frag}{vs:List V}{H:Hp}{Q:VK}{E:XK}(h:ue K vs H Q E):spP K Fs vs H Q E:=by
 obtain⟨a,ns,rfl,hS,h63,q⟩:=h
 refine⟨fun _=>False,[.scr ns],fun r=>r=.dat (.bl true),nofun,.cons (.scr ?_) .nil,⟨ns,rfl,h63,rfl⟩,fun r e v H' g o=>?_⟩
 .rcases hS with h|h
  .exact .inl ⟨id,h⟩
  .exact .inr h
 .subst e;cases o;exact q H'
section
variable {K:PySem.W.Frag}{X:Cx}
def Ft:List V->Hp->VK->Prop:=fun xs H Q=>∃i,xs=[.int i]/\Q (.int (if i<0 then -i else i)) H
def C5:List V->Hp->VK->Prop:=fun xs H Q=>∃i j,xs=[.int i,.int j]/\Q (.int (if j<i then j else i)) H
def C6:List V->Hp->VK->Prop:=fun xs H Q=>∃i j,xs=[.int i,.int j]/\Q (.int (if j > i then j else i)) H
theorem EK:cp X (.builtin "abs") Ft:=xK
theorem wf(hc:X.calm=true):cp X (.builtin "min") C5:=vc hc
theorem C7(hc:X.calm=true):cp X (.builtin "max") C6:=vb hc
def EL:FN
 | [.int i],Q=>Q (.dat (.int (if i<0 then -i else i)))
 | _,_=>False
def wg:FN
 | [.int i,.int j],Q=>Q (.dat (.int (if j<i then j else i)))
 | _,_=>False
def AR:FN
 | [.int i,.int j],Q=>Q (.dat (.int (if j > i then j else i)))
 | _,_=>False
theorem C8:LC K Ft EL:=by
 intro O H xs as Q Q' dom fs q k;unfold EL at q
 split at q
 .cases fs with|cons a b=>cases b;rw [a.int];exact⟨_,rfl,k _ H _ q (Gr.refl _) (.int _)⟩
 .exact q.elim
theorem rj:LC K C5 wg:=by
 intro O H xs as Q Q' dom fs q k;unfold wg at q
 split at q
 .cases fs with
  | cons a b=>cases b with|cons b c=>cases c;rw [a.int,b.int];exact⟨_,_,rfl,k _ H _ q (Gr.refl _) (.int _)⟩
 .exact q.elim
theorem AS:LC K C6 AR:=by
 intro O H xs as Q Q' dom fs q k;unfold AR at q
 split at q
 .cases fs with
  | cons a b=>cases b with|cons b c=>cases c;rw [a.int,b.int];exact⟨_,_,rfl,k _ H _ q (Gr.refl _) (.int _)⟩
 .exact q.elim
def C9(K:PySem.W.Frag):List V->Hp->VK->Prop:=fun xs H Q=>∃(p:Addr) (ns:List Int),xs=[.ref p]/\SqL K H p (ns.map V.int)/\0<ns.length/\∀m:Int,m∈ns->(∀a∈ns,m<=a)->Q (.int m) H
def Db(K:PySem.W.Frag):List V->Hp->VK->Prop:=fun xs H Q=>∃(p:Addr) (ns:List Int),xs=[.ref p]/\SqL K H p (ns.map V.int)/\Q (.int ns.sum) H
def Fu(K:PySem.W.Frag):List V->Hp->VK->Prop:=fun xs H Q=>∃(p:Addr) (bs:List Bool),xs=[.ref p]/\SqL K H p (bs.map V.bl)/\Q (.bl (bs.all id)) H
def Fv(K:PySem.W.Frag):List V->Hp->VK->Prop:=fun xs H Q=>∃(p:Addr) (bs:List Bool),xs=[.ref p]/\SqL K H p (bs.map V.bl)/\Q (.bl (bs.any id)) H
theorem zf(K:PySem.W.Frag)(e:X.K=K)(hc:X.calm=true):cp X (.builtin "min") (C9 K):=by subst e;exact vS hc
theorem Dc(K:PySem.W.Frag)(e:X.K=K)(hc:X.calm=true):cp X (.builtin "sum") (Db K):=by subst e;exact vT hc
theorem EM(K:PySem.W.Frag)(e:X.K=K)(hc:X.calm=true):cp X (.builtin "all") (Fu K):=by subst e;exact x8 hc
theorem EN(K:PySem.W.Frag)(e:X.K=K)(hc:X.calm=true):cp X (.builtin "any") (Fv K):=by subst e;exact x9 hc
def yj:FN
 | [.lst ds],Q=>∃ns:List Int,ds=ns.map .int/\0<ns.length/\∀m:Int,m∈ns->(∀a∈ns,m<=a)->Q (.dat (.int m))
 | _,_=>False
def AT:FN
 | [.lst ds],Q=>∃ns:List Int,ds=ns.map .int/\Q (.dat (.int ns.sum))
 | _,_=>False
def EO:FN
 | [.lst ds],Q=>∃bs:List Bool,ds=bs.map .bl/\Q (.dat (.bl (bs.all id)))
 | _,_=>False
def EQ:FN
 | [.lst ds],Q=>∃bs:List Bool,ds=bs.map .bl/\Q (.dat (.bl (bs.any id)))
 | _,_=>False
theorem wk:LC K (C9 K) yj:=by
 intro O H xs as Q Q' dom fs q k;unfold yj at q
 split at q
 .obtain⟨ns,rfl,h0,q⟩:=q
  cases fs with
  | cons a b =>
   cases b;obtain⟨p,ys,rfl,e1,f1⟩:=a.lst;rw [f1.ints] at e1;exact⟨p,ns,rfl,SqL.of e1,h0,fun m hm hle=>k _ H _ (q m hm hle) (Gr.refl _) (.int _)⟩
 .exact q.elim
theorem AU:LC K (Db K) AT:=by
 intro O H xs as Q Q' dom fs q k;unfold AT at q
 split at q
 .obtain⟨ns,rfl,q⟩:=q
  cases fs with
  | cons a b =>
   cases b;obtain⟨p,ys,rfl,e1,f1⟩:=a.lst;rw [f1.ints] at e1;exact⟨p,ns,rfl,SqL.of e1,k _ H _ q (Gr.refl _) (.int _)⟩
 .exact q.elim
theorem Dd:LC K (Fu K) EO:=by
 intro O H xs as Q Q' dom fs q k;unfold EO at q
 split at q
 .obtain⟨ns,rfl,q⟩:=q
  cases fs with
  | cons a b =>
   cases b;obtain⟨p,ys,rfl,e1,f1⟩:=a.lst;rw [f1.bls] at e1;exact⟨p,ns,rfl,SqL.of e1,k _ H _ q (Gr.refl _) (.bl _)⟩
 .exact q.elim
theorem De:LC K (Fv K) EQ:=by
 intro O H xs as Q Q' dom fs q k;unfold EQ at q
 split at q
 .obtain⟨ns,rfl,q⟩:=q
  cases fs with
  | cons a b =>
   cases b;obtain⟨p,ys,rfl,e1,f1⟩:=a.lst;rw [f1.bls] at e1;exact⟨p,ns,rfl,SqL.of e1,k _ H _ q (Gr.refl _) (.bl _)⟩
 .exact q.elim
def AW(K:PySem.W.Frag):List V->Hp->VK->Prop:=fun xs H Q=>∃p ys,xs=[.ref p]/\((SqL K H p ys/\∀l,H l=none->Q (.ref l) (upd H l (.tup ys)))\/(SqT K H p ys/\Q (.ref p) H))
theorem iC(K:PySem.W.Frag)(e:X.K=K):cp X (.type "tuple") (AW K):=by subst e;exact nS
theorem zg(K:PySem.W.Frag)(e:X.K=K):cp X (.type "list") (vV K):=by subst e;exact pK
def i3:FN
 | [.lst ds],Q=>Q (.dat (.tup ds))
 | [.tup ds],Q=>Q (.dat (.tup ds))
 | [.scr ns],Q=>Q (.dat (.tup (ns.map .int)))
 | _,_=>False
def wn:FN
 | [.lst ds],Q=>Q (.own ds)
 | [.tup ds],Q=>Q (.own ds)
 | [.scr ns],Q=>Q (.own (ns.map .int))
 | _,_=>False
theorem fC:LC K (AW K) i3:=by
 intro O H xs as Q Q' dom fs q k;unfold i3 at q
 split at q
 .cases fs with
  | cons a b =>
   cases b;obtain⟨p,ys,rfl,e1,f1⟩:=a.lst;exact⟨p,ys,rfl,.inl ⟨SqL.of e1,fun l hl=>k _ _ _ q (Gr.new hl) (kP dom hl f1)⟩⟩
 .cases fs with
  | cons a b =>
   cases b;obtain⟨p,ys,rfl,n1,e1,f1⟩:=a.tup;exact⟨p,ys,rfl,.inr ⟨SqT.of e1,k _ H _ q (Gr.refl _) (.tup n1 e1 f1)⟩⟩
 .cases fs with
  | cons a b =>
   cases b;obtain⟨p,rfl,e1⟩:=a.scr;exact⟨p,_,rfl,.inl ⟨e1,fun l hl=>k _ _ _ q (Gr.new hl) (kP dom hl (FVs.of_ints _))⟩⟩
 .exact q.elim
theorem wo:LC K (vV K) wn:=by
 intro O H xs as Q Q' dom fs q k;unfold wn at q
 split at q
 .cases fs with
  | cons a b =>
   cases b;obtain⟨p,ys,rfl,e1,f1⟩:=a.lst;exact⟨p,ys,rfl,.inl (SqL.of e1),fun l hl=>k _ _ _ q (Gr.new hl) (er hl f1)⟩
 .cases fs with
  | cons a b =>
   cases b;obtain⟨p,ys,rfl,n1,e1,f1⟩:=a.tup;exact⟨p,ys,rfl,.inr (SqT.of e1),fun l hl=>k _ _ _ q (Gr.new hl) (er hl f1)⟩
 .cases fs with
  | cons a b =>
   cases b;obtain⟨p,rfl,e1⟩:=a.scr;exact⟨p,_,rfl,.inl e1,fun l hl=>k _ _ _ q (Gr.new hl) (er hl (FVs.of_ints _))⟩
 .exact q.elim
variable {ta:TE}{pa:PA1}{tr:TA}{pr:PTA}{pe:PTE}
def sS(i:Int)(n:Nat):List D:=(List.range n).map fun (k:Nat)=>D.int (i+(k:Int))
def mkL(tup:Bool)(ds:List D):PV:=match tup with|true=>.dat (.tup ds)|false=>.own ds
def AX(tup:Bool)(pr:PTA):PTE:=fun ρ Q=>pr ρ fun as ρ1=>match as with
 | [.v (.int j)]=>(0<=j/\j<=1000000)/\Q (mkL tup (sS 0 j.toNat)) ρ1
 | _=>False
theorem Df{O:Addr->Prop}{H:Hp}(i:Int)(n:Nat):FVs K O H (qZ i 1 n) (sS i n):=by
 have e:∀l:List Nat,FVs K O H (l.map fun (k:Nat)=>V.int (i+k*1)) (l.map fun (k:Nat)=>D.int (i+(k:Int))):=fun l=>by
  induction l with
  | nil=>exact .nil
  | cons a r ih=>exact .cons (by show FV K O H (V.int (i+(a:Int)*1)) (D.int (i+(a:Int)));rw [show i+(a:Int)*1=i+(a:Int) by omega];exact .int _) ih
 exact e _
theorem mU{i j:Int}(h:i<=j):Builtin.Range.rangeSize i j 1=(((j - i).toNat:Nat):Int):=by
 unfold Builtin.Range.rangeSize;rw [if_pos (by decide)];simp only [ediv_one];split <;> omega
theorem ul{i j:Int}(h0:-1000000<=i)(h1:i<=j)(h2:j<=1000000):Builtin.Range.small i j 1=true:=by
 unfold Builtin.Range.small;rw [mU h1];simp only [Builtin.Range.rangeFitsLong,and_eq_true,or_eq_true,decide_eq_true_eq,beq_iff_eq,show (1:Int) > 0 by decide,if_true];omega
def mkO(tup:Bool):List V->HO:=match tup with|true=>.tup|false=>.lst
theorem Dg{O:Addr->Prop}{H:Hp}{xs:List V}{ds:List D}{p:Addr}(tup:Bool)(dom:∀b,O b->H b≠none)(hp:H p=none)(f:FVs K O H xs ds):rf K O H (upd H p (mkO tup xs)) (mkL tup ds) (.ref p):=by
 cases tup with
 | true=>exact kP dom hp f
 | false=>exact er hp f
theorem sU(tup:Bool)(h:LAs K tr pr):LE K (tCB (Ek K (mkO tup)) (bf (fun σ H Q=>tr σ H fun vs H1=>∃j:Int,vs=[.int j]/\∀p,H1 p=none->Q (.ref p) (upd H1 p (y9 p 0 j 1))) eY)) (AX tup pr):=fun A ρ σ H Q Q' R q k=>h A ρ σ H _ _ R q fun vs H1 as ρ1 q1 f1 R1 o1=>by
 split at q1
 .rename_i j
  cases o1 with
  | cons a b =>
   cases b;cases a;refine⟨j,rfl,fun p hp=>⟨p,0,j,1,j.toNat,rfl,bi,ul (by decide) q1.1.1 q1.1.2,by rw [mU q1.1.1,Int.sub_zero],by omega,fun l hl=>?_⟩⟩;have g:Gr H1 (upd H1 p (y9 p 0 j 1)):=Gr.new hp;have R2:=R1.gr g;have g2:Gr (upd H1 p (y9 p 0 j 1)) (upd (upd H1 p (y9 p 0 j 1)) l (mkO tup (qZ 0 1 j.toNat))):=Gr.new hl;exact k _ _ _ ρ1 q1.2 (f1.trans (g.fr.trans g2.fr)) ((rf.out R2 g2 (Dg tup R2.dom2 hl (Df 0 _))).h0 fun b z=>(g.fr (ρ:=ρ1) (σ:=σ)).dm b (f1.dm b z))
 .exact q1.elim
theorem zh(K:PySem.W.Frag)(e:X.K=K)(hc:X.calm=true):cp X (.type "list") (Ek K (mkO false)):=by subst e;exact uh hc
abbrev FM:=List Nat->List D->(PV->Prop)->Prop
def LM(K:PySem.W.Frag)(r:V->List V->Hp->VK->Prop)(f:FM):Prop:=∀(O:Addr->Prop) (H:Hp) (l:List Nat) (xs:List V) (as:List D) (Q:PV->Prop) (Q':VK),(∀b,O b->H b≠none)->l.length<=1000000->BH K O H xs as->f l as Q ->
 (∀v H' p,Q p->Gr H H'->rf K O H H' p v->Q' v H')->r (.str (S l)) xs H Q'
def pSM(f:FM)(pe:PTE)(pr:PTA):PTE:=fun ρ Q=>pe ρ fun p ρ1=>match p with
 | .dat (.str l)=>pr ρ1 fun as ρ2=>(match conts ρ2 as with
  | some ds=>f l ds fun r=>Q r ρ2
  | none=>False)
 | _=>False
theorem um{r:V->List V->Hp->VK->Prop}{f:FM}(o:LM K r f)(he:LE K ta pe)(hr:LAs K tr pr):LE K (tBM K "str" r ta tr) (pSM f pe pr):=fun A ρ σ H Q Q' R q k=>he A ρ σ H _ _ R q fun v H1 p ρ1 q1 f1 o1=>by
 split at q1
 .rename_i l;obtain⟨R1,fv⟩:=o1
  cases fv with
  | str _ hl =>
   refine⟨rfl,hr A ρ1 σ H1 _ _ R1 q1 fun vs H2 as ρ2 q2 f2 R2 o2=>?_⟩
   split at q2
   .rename_i ds e;exact o _ H2 l vs ds _ _ R2.dom2 hl (R2.conts o2 e) q2 fun z H3 p q3 g ov=>k z H3 p ρ2 q3 ((f1.trans f2).trans g.fr) ((ov.out R2 g).h0 fun b z=>f2.dm b (f1.dm b z))
   .exact q2.elim
 .exact q1.elim
def Dh:V->List V->Hp->VK->Prop:=fun x xs H Q=>∃a b,x=.str (S a)/\xs=[.str (S b)]/\Q (.bl (decide (b <:+ a))) H
def zi:V->List V->Hp->VK->Prop:=fun x xs H Q=>∃a b,x=.str (S a)/\xs=[.str (S b)]/\Q (.int (fnd a b 0)) H
theorem AY:MtR X "str.endswith" Dh:=qY
theorem oi:MtR X "str.find" zi:=x5
def AZ:FM
 | a,[.str b],Q=>Q (.dat (.bl (decide (b <:+ a))))
 | _,_,_=>False
def p5:FM
 | a,[.str b],Q=>Q (.dat (.int (fnd a b 0)))
 | _,_,_=>False
theorem A0:LM K Dh AZ:=by
 intro O H l xs as Q Q' dom hl fs q k;unfold AZ at q
 split at q
 .cases fs with|cons a b=>cases b;rw [a.str.1];exact⟨_,_,rfl,rfl,k _ H _ q (Gr.refl _) (.bl _)⟩
 .exact q.elim
theorem oj:LM K zi p5:=by
 intro O H l xs as Q Q' dom hl fs q k;unfold p5 at q
 split at q
 .cases fs with|cons a b=>cases b;rw [a.str.1];exact⟨_,_,rfl,rfl,k _ H _ q (Gr.refl _) (.int _)⟩
 .exact q.elim
def eN(f:Str):List Str->Option Nat
 | []=>none
 | n::r=>if n=f then some 0 else (eN f r).map (·+1)
theorem p6{f:Str}:∀{fs:List (Str×V)}{k:Nat},eN f (fs.map Prod.fst)=some k->fs.lookup f=(fs.map Prod.snd)[k]?
 | [],k,h=>by cases h
 | (n,v)::r,k,h=>by
  unfold eN at h;rw [map_cons] at h;simp only at h;rw [lookup_cons]
  by_cases e:n=f
  .rw [if_pos e] at h;cases h;rw [show (f == n)=true by rw [e];exact beq_self_eq_true _];rfl
  .rw [if_neg e] at h;rw [show (f == n)=false from beq_eq_false_iff_ne.mpr fun z=>e z.symm]
   cases e2:eN f (r.map Prod.fst) with
   | none=>rw [e2] at h;cases h
   | some j=>rw [e2] at h;cases h;show List.lookup f r=_;rw [p6 e2];simp
theorem kU{f:Str}:∀{fs:List (Str×V)},eN f (fs.map Prod.fst)=none->fs.lookup f=none
 | [],h=>rfl
 | (n,v)::r,h=>by
  unfold eN at h;rw [map_cons] at h;simp only at h;rw [lookup_cons]
  by_cases e:n=f
  .rw [if_pos e] at h;cases h
  .rw [if_neg e] at h;rw [show (f == n)=false from beq_eq_false_iff_ne.mpr fun z=>e z.symm]
   cases e2:eN f (r.map Prod.fst) with
   | none=>exact kU e2
   | some j=>rw [e2] at h;cases h
theorem om{f:Str}{v:V}:∀{fs:List (Str×V)},eN f (fs.map Prod.fst)=none->mO f v fs=fs++[(f,v)]
 | [],h=>rfl
 | (n,x)::r,h=>by
  unfold eN at h;rw [map_cons] at h;simp only at h
  by_cases e:n=f
  .rw [if_pos e] at h;cases h
  .rw [if_neg e] at h
   cases e2:eN f (r.map Prod.fst) with
   | none=>unfold mO;rw [if_neg e,om e2];rfl
   | some j=>rw [e2] at h;cases h
theorem FVc.obj{O:Addr->Prop}{H:Hp}{v:V}{c:Str}{ns:List Str}{ds:List D}(h:FVc K O H v (.obj c ns ds)):∃a dx fs,v=.ref a/\H a=some (.ins (cb K c) dx fs)/\fs.map Prod.fst=ns/\FVs K O H (fs.map Prod.snd) ds:=by
 rcases h with h|⟨a,xs,ds',e1,e2,e3,f⟩|⟨a,dx,c,fs,ns,ds',e1,e2,e3,m,f⟩
 .cases h with
  | obj n e m f=>exact⟨_,_,_,rfl,e,m,f⟩
 .cases e2
 .cases e2;exact⟨a,dx,fs,e1,e3,m,f⟩
def rn(c0:Str)(ns0:List Str)(k:Nat)(pa:PA1):PTE:=fun ρ Q=>pa ρ fun x ρ1=>match cont ρ1 x with
 | some (.obj c ns ds)=>(c=c0/\ns=ns0)/\∃d,ds[k]?=some d/\Q (.dat d) ρ1
 | _=>False
theorem eO{c0 f:Str}{ns0:List Str}{i:Nat}(hc:Cls K (cb K c0))(hn:eL K (cb K c0) f)(hk:eN f ns0=some i)(h:LA1 K ta pa):LE K (xx K ta f) (rn c0 ns0 i pa):=fun A ρ σ H Q Q' R q k=>h A ρ σ H _ _ R q fun v H1 a ρ1 q1 f1 R1 o1=>by
 split at q1
 .rename_i c ns ds e;obtain⟨⟨rfl,rfl⟩,d,hd,q1⟩:=q1;obtain⟨a,dx,fs,rfl,e1,m,f⟩:=(R1.cont o1 e).obj;obtain⟨v,hv,fv⟩:=f.getD hd;exact⟨a,_,dx,fs,v,rfl,e1,hc,hn,by rw [p6 (k:=i) (by rw [m];exact hk)];exact hv,k v H1 _ ρ1 q1 f1 ⟨R1,fv⟩⟩
 .exact q1.elim
def kW(c0:Str)(ns0:List Str)(f:Str)(i:Nat)(pe:PTE):PTS:=fun D ρ=>pe ρ fun p ρ1=>match ρ1[i]? with
 | some (some (.ins c ns ds))=>(c=c0/\ns=ns0/\ns0.length<1000)/\D.nx (ρ1.set i (some (.ins c0 (ns0++[f]) (ds++[p.d]))))
 | _=>False
theorem jk{fs':List Nat}{c0 f:Str}{ns0:List Str}{i:Nat}(hc:Cls K (cb K c0))(hn:eL K (cb K c0) f)(hk:eN f ns0=none)(h:LE K ta pe):LS K fs' (Ff K (bz i) ta f) (kW c0 ns0 f i pe):=fun fx A R H0 ρ σ H D D' hf r F q k1 k2 k3 k4=>h A ρ σ H _ _ r q fun v H1 p ρ1 q1 f1 o1=>by
 obtain⟨R1,fv⟩:=o1.frz
 split at q1
 .rename_i c ns ds e;obtain⟨⟨rfl,rfl,hl⟩,q1⟩:=q1;obtain⟨w,s,a,dx,fs,rfl,g,m,ff⟩:=R1.get i _ e;have hk':eN f (fs.map Prod.fst)=none:=by rw [m];exact hk
  have wa:OO A ρ1 σ a:=.inr ⟨i,_,e,rfl,s⟩;have kw:∀o,aW (OO A ρ1 σ) H1 (OO A ρ1 σ) (upd H1 a o):=fun o b u n h=>⟨n,by rw [aM (fun z=>n (by rw [z];exact wa))];exact h⟩
  obtain⟨R2,f2⟩:=R1.write (o:=.ins (cb K c) dx (mO f v fs)) (q:=.ins c (ns++[f]) (ds++[p.d])) e rfl rfl s ⟨a,dx,mO f v fs,rfl,bi,by rw [om hk',map_append,m];rfl,by rw [om hk',map_append];exact (ff.append (.cons fv .nil)).keeps (kw _)⟩;refine⟨_,s,a,_,dx,fs,rfl,g,hc,hn,?_,k1 _ _ _ q1 R2 ((F.fr f1).fr f2)⟩;have:fs.length=ns.length:=by rw [<- m,length_map]
  omega
 .exact q1.elim
def A1(c0:Str)(c:FR)(pr:PTA):PTE:=fun ρ Q=>pr ρ fun as ρ1=>match avD as with
 | some ds=>c (.ins c0 [] []) ds fun r p'=>(match r,p' with
  | .dat .non,.ins c1 ns es=>c1=c0/\Q (.ins c1 ns es) ρ1
  | _,_=>False)
 | none=>False
theorem wp{c0:Str}{c:FR}(h:LAs K tr pr):LE K (xN (cb K c0) (spR K c) [] E0 tr) (A1 c0 c pr):=fun A ρ σ H Q Q' R q k=>h A ρ σ H _ _ R q fun vs H1 as ρ1 q1 f1 R1 o1=>by
 split at q1
 .rename_i ds e;intro x dx hx hdx hne;rw [append_nil]
  let H2:=upd (upd H1 dx (.own x)) x (.ins (cb K c0) dx [])
  have g2:Gr H1 H2:=fun b o z=>by
   show upd (upd H1 dx (.own x)) x _ b=_;rw [aM (aZ z hx),aM (aZ z hdx)];exact z
  have nx:¬ OO A ρ1 σ x:=R1.oo hx
  have keep2:aW (OO A ρ1 σ) H1 (eJ (OO A ρ1 σ) x) H2:=fun b o n z=>by
   refine⟨fun y=>?_,g2 b o z⟩
   rcases y with y|y
   .exact n y
   .rw [y,hx] at z;cases z
  refine⟨OO A ρ1 σ,x,.ins c0 [] [],vs,ds,_,rfl,rfl,fun b z=>(g2.fr (ρ:=ρ1) (σ:=σ)).dm b (R1.dom2 b z),nx,⟨x,dx,[],rfl,bi,rfl,.nil⟩,(o1.avD e).keeps keep2,q1,fun r p' qr ow' v H' kp ha rs ov _=>?_⟩
  split at qr
  .obtain⟨rfl,qr⟩:=qr;cases ov;refine⟨rfl,?_⟩;obtain⟨a',dx',fs,ea,e2,m,f⟩:=rs;cases ea;have g:Gr H1 H':=fun b o z=>kp b o (aZ z hx) (g2 b o z)
   have hx0:H x=none:=by
    cases eb:H x with
    | none=>rfl
    | some o=>exact absurd hx (f1.dm x (by rw [eb];exact nofun))
   refine k _ H' _ ρ1 qr (f1.trans g.fr) ⟨x,dx',fs,rfl,fun z=>nx (.inl z),hx0,e2,m,R1.grA g hx (by rw [e2];exact nofun),f.keeps (aW.less fun b z=>?_)⟩
   rcases z with (z|z)|z
   .exact .inl (.inl z)
   .exact .inr z
   .exact .inl (.inr z)
  .exact qr.elim
 .exact q1.elim
def mW(c0:Str)(ns0:List Str)(c:FN)(pe:PTE)(pr:PTA):PTE:=fun ρ Q=>pe ρ fun p ρ1=>match p.d with
 | .obj c1 ns ds=>(c1=c0/\ns=ns0)/\pr ρ1 fun as ρ2=>(match avD as with
  | some es=>c (.obj c1 ns ds::es) fun r=>Q r ρ2
  | none=>False)
 | _=>False
theorem i4{c0 m:Str}{ns0:List Str}{c:FN}(hm:eN m ns0=none)(he:LE K ta pe)(hr:LAs K tr pr):LE K (Ae (cb K c0) m (spP K c) [] E0 ta tr) (mW c0 ns0 c pe pr):=fun A ρ σ H Q Q' R q k=>he A ρ σ H _ _ R q fun v H1 p ρ1 q1 f1 o1=>by
 obtain⟨R1,fv⟩:=o1.frz
 split at q1
 .rename_i c1 ns ds e;rw [e] at fv;obtain⟨⟨rfl,rfl⟩,q1⟩:=q1;obtain⟨a,dx,fs,rfl,e1,mm,f⟩:=FVc.obj (.inl fv);refine⟨a,dx,fs,rfl,e1,kU (by rw [mm];exact hm),hr A ρ1 σ H1 _ _ R1 q1 fun vs H2 as ρ2 q2 f2 R2 o2=>?_⟩
  split at q2
  .rename_i es e3;rw [append_nil];exact⟨OO A ρ2 σ,_::es,_,R2.dom2,.cons (fv.keeps f2.keeps) (o2.avD e3),q2,fun r qr v H' g ov=>k v H' r ρ2 qr ((f1.trans f2).trans g.fr) ((ov.out R2 g).h0 fun b z=>f2.dm b (f1.dm b z))⟩
  .exact q2.elim
 .exact q1.elim
end
abbrev wq:R2:=rI0 fun i j=>.int (i - j)
abbrev Di:R2:=rI (fun _ j=>0<j) fun i j=>.int (i % j)
abbrev ER:R2:=rI D8 fun i j=>.int (i / j)
abbrev Fw:R2:=rI0 fun i j=>.bl (decide (j<i))
abbrev FU:R2:=rI0 fun i j=>.bl (decide (j<=i))
abbrev Dj:V->Hp->VK->Prop:=rU fun i=>.int (-i)
abbrev yk:F2:=fI0 fun i j=>.int (i - j)
abbrev xA:F2:=fI (fun _ j=>0<j) fun i j=>.int (i % j)
abbrev Fx:F2:=fI (fun _ j=>0<j/\j<1073741824) fun i j=>.int (i / j)
abbrev fGt:F2:=fI0 fun i j=>.bl (decide (j<i))
abbrev fGe:F2:=fI0 fun i j=>.bl (decide (j<=i))
def A2:D->(PV->Prop)->Prop
 | .int i,Q=>Q (.dat (.int (-i)))
 | _,_=>False
section
variable {K:PySem.W.Frag}{X:Cx}{ta:TE}{tr:TA}{pr:PTA}{ts:TS}{ps:PTS}
theorem oq:OpR X (binaryOp .Sub) wq:=B7
theorem mh:OpR X (binaryOp .Mod) Di:=B9
theorem zj:OpR X (binaryOp .FloorDiv) ER:=zW
theorem wt:OpR X (compareOp .Gt) Fw:=Ed
theorem Fy:OpR X (compareOp .GtE) FU:=Ee
theorem p7:LU K Dj A2:=by
 intro O H x a Q Q' dom fx q k;unfold A2 at q
 split at q
 .rename_i i;exact⟨i,fx.int,k _ H _ q (Gr.refl _) (.int _)⟩
 .exact q.elim
theorem yl{es:List Expr}{ct:Nat}{tp:Pos}(K:PySem.W.Frag)(e:X.K=K){a:Expr}{ta:TA}{p pos:Pos}(hg:Gl X "enumerate")(hm:X.mg "enumerate"=none)(ha:PA X [a] ta)(hs:starEach [a] X.env=[(false,eval a X.env)]:=by rfl) :
  PI X (.Tuple es ct tp) (.Call (.Name "enumerate" p) [a] [] pos) (AB K ta):=by subst e;exact AC hg hm ha hs
theorem iP{ix:List (Option Nat)}{fs:List Nat}{i:Nat}(h:∀k∈fs,k∈BK ix)(hi:(BK ix).contains i=false):fs.contains i=false:=by
 cases e:fs.contains i with
 | false=>rfl
 | true =>
  have:=h i (contains_iff_mem.mp e);rw [contains_iff_mem.mpr this] at hi;cases hi
def zk(c:FN)(es:List D)(pr:PTA):PTE:=fun ρ Q=>pr ρ fun as ρ1=>match avD as with
 | some ds=>c (ds++es) fun r=>Q r ρ1
 | none=>False
theorem ym{c:FN}{vs0:List V}{ds:List D}(hd:∀{O:Addr->Prop}{H:Hp},FVs K O H vs0 ds)(h:LAs K tr pr):LE K (ef (spP K c) vs0 E0 tr) (zk c ds pr):=fun A ρ σ H Q Q' R q k=>h A ρ σ H _ _ R q fun vs H1 as ρ1 q1 f1 R1 o1=>by
 split at q1
 .rename_i es e;exact⟨OO A ρ1 σ,_,_,R1.dom2,(o1.avD e).append hd,q1,fun r qr v H' g ov=>k v H' r ρ1 qr (f1.trans g.fr) ((ov.out R1 g).h0 f1.dm)⟩
 .exact q1.elim
theorem iD{c:FN}{n:Nat}(hn:∀ds Q,c ds Q->ds.length=n){vs:List V}{H:Hp}{Q:VK}{E:XK}(h:spP K c vs H Q E):vs.length=n:=by
 obtain⟨O,ds,Qc,_,f,hq,_⟩:=h;rw [f.length];exact hn ds Qc hq
theorem yn{c:FR}{n:Nat}(hn:∀p ds Q,c p ds Q->ds.length+1=n){vs:List V}{H:Hp}{Q:VK}{E:XK}(h:spR K c vs H Q E):vs.length=n:=by
 obtain⟨A,a,p,ws,ds,Qc,rfl,_,_,_,_,f,hq,_⟩:=h;rw [length_cons,f.length];exact hn p ds Qc hq
abbrev dk(pp:PTS)(n:Nat)(ds:List D)(Q:PV->Prop):Prop:=pp { nx:=fun _=>Q (.dat .non),rt:=fun p _=>Q p } (ee n (ds.map .dat))
abbrev o9(pp:PTS)(n:Nat)(p:PV)(ds:List D)(Q:PV->PV->Prop):Prop:=pp { nx:=BM Q (.dat .non),rt:=BM Q } (ee n (p::ds.map .dat))
end
end L2
namespace L2
theorem Cal.imp{P:PySem.Program}{w:PySem.World}{K:PySem.W.Frag}{mg:PySem.Str->Option PySem.Value}{base:PySem.Heap}{k:Nat}{x:PySem.Str}{ps:List PySem.Str}{sp sp':Sp}(C:Cal P w K mg base k x ps sp)(h:∀vs H Q E,sp' vs H Q E->sp vs H Q E):Cal P w K mg base k x ps sp':=by
 obtain⟨f,fd,F,r⟩:=C.ex;exact⟨f,fd,F.imp h,r⟩
end L2
namespace L2
open PySem PySem.Spec PyProof.Rows
theorem cfm{ix:List (Option Nat)}{ρ1:PSt}{n:Nat}{it:Nat->D}{g:PTG}{pt:PTT}{pe:PTE}{Q:PKt}(T:PSt->Prop)(f:Nat->Option D)(h0:T (cA ix ρ1))
  (hs:∀k τ d,k<n->d=it k->T τ->∀(K1:D->PSt->Prop) (K2:PSt->Prop),(∀d τ',f k=some d->T τ'->K1 d τ')->(∀τ',f k=none->T τ'->K2 τ')->g (.dat d) τ fun τ2=>pt τ2 fun ok τ3=>iB ok (pe τ3 fun p τ4=>K1 p.d τ4) (K2 τ3))
  (hq:∀τ,T τ->Q (.own ((List.range n).filterMap f)) (gp ix ρ1 τ)) :
  oh ix ρ1 n it g pt pe Q:=by
 refine⟨fun k ys τ=>ys=(List.range k).filterMap f/\T τ,⟨rfl,h0⟩,fun k ys τ dd hk ed ⟨e,t⟩=>?_,fun ys τ ⟨e,t⟩=>by rw [e];exact hq τ t⟩
 have r:(List.range (k+1)).filterMap f=(List.range k).filterMap f++(f k).toList:=by
  rw [range_succ,filterMap_append]
  cases e:f k with
  | none=>rw [show [k].filterMap f=[] by simp [e]];rfl
  | some d=>rw [show [k].filterMap f=[d] by simp [e]];rfl
 refine hs k τ dd hk ed t (fun d τ'=>(ys++[d]=(List.range (k+1)).filterMap f/\T τ')) (fun τ'=>(ys=(List.range (k+1)).filterMap f/\T τ')) (fun d τ' h t'=>⟨?_,t'⟩) (fun τ' h t'=>⟨?_,t'⟩)
 .rw [r,e,h];rfl
 .rw [r,e,h];simp
theorem xB{ix:List (Option Nat)}{ρ1:PSt}{n:Nat}{it:Nat->D}{g:PTG}{pe:PTE}{Q:PKt}(T:PSt->Prop)(f:Nat->D)(h0:T (cA ix ρ1))
  (hs:∀k τ d,k<n->d=it k->T τ->∀K1:D->PSt->Prop,(∀τ',T τ'->K1 (f k) τ')->g (.dat d) τ fun τ2=>pe τ2 fun p τ4=>K1 p.d τ4)
  (hq:∀τ,T τ->Q (.own ((List.range n).map f)) (gp ix ρ1 τ)) :
  oh ix ρ1 n it g jR pe Q:=by
 refine cfm T (fun k=>some (f k)) h0 (fun k τ d hk ed t K1 K2 k1 k2=>?_) fun τ t=>?_
 .exact hs k τ d hk ed t K1 fun τ' t'=>k1 _ τ' rfl t'
 .have:(List.range n).filterMap (fun k=>some (f k))=(List.range n).map f:=by rw [<- filterMap_eq_map];rfl
  rw [this];exact hq τ t
theorem fE{β:Type}(f:Nat->β)(l:List Nat):(List.range l.length).map (fun k=>f (l.getD k 0))=l.map f:=by
 apply ext_getElem?;intro i;rw [getElem?_map,getElem?_map]
 by_cases h:i<l.length
 .rw [getElem?_range h];show some (f (l.getD i 0))=_;rw [getD_eq_getElem?_getD,getElem?_eq_getElem h];rfl
 .rw [getElem?_eq_none (by rw [length_range];omega),getElem?_eq_none (by omega)];rfl
def pw(ws:List (List Nat))(k:Nat):List Nat:=ws.getD k []
theorem cY{ws:List (List Nat)}{k:Nat}(h:k<ws.length):ws[k]?=some (pw ws k):=by unfold pw;rw [getD_eq_getElem?_getD,getElem?_eq_getElem h];rfl
theorem br{ws:List (List Nat)}{k:Nat}(h:k<ws.length):pw ws k∈ws:=mem_of_getElem? (cY h)
theorem gE{ws:List (List Nat)}{k:Nat}(h:k<(ws.map D.str).length):itD (ws.map D.str) k=.str (pw ws k):=h9 (by rw [getElem?_map,cY (by rwa [length_map] at h)];rfl)
theorem bE{ws:List (List Nat)}{i:Int}{k:Nat}(h:k<ws.length)(e:i=(k:Int)):atI (ws.map D.str) i=some (.str (pw ws k)):=gB (j:=k) (by rw [getElem?_map,cY h];rfl) e
theorem p8{l:List Nat}{k:Nat}(h:k<l.length):l.take (k+1)=l.take k++[l.getD k 0]:=by
 rw [take_succ,getD_eq_getElem?_getD,getElem?_eq_getElem h];rfl
def Pc(m:Nat)(w:List Nat):Prop:=0<w.length/\w.length<=m/\Lts w
def Pcs(m:Nat)(ws:List (List Nat)):Prop:=∀w∈ws,Pc m w
theorem Pcs.app{m:Nat}{ws:List (List Nat)}{w:List Nat}(h:Pcs m ws)(h':Pc m w):Pcs m (ws++[w]):=fun v hv=>by
 rcases mem_append.mp hv with z|z
 .exact h v z
 .rw [mem_singleton.mp z];exact h'
def ltB(c:Nat):Bool:=decide (97<=c) && decide (c<=122)
def yo:D->Int->Int->Bool
 | .str l,a,b=>(decide (a<=(l.length:Int)) && decide ((l.length:Int)<=b)) && l.all ltB
 | _,_,_=>false
theorem ot(l:List Nat)(a b:Int):yo (.str l) a b=((decide (a<=(l.length:Int)) && decide ((l.length:Int)<=b)) && l.all ltB):=rfl
def ES:D->Nat
 | .str l=>l.length
 | _=>0
theorem wu{l:List Nat}:l.all ltB=true ↔ Lts l:=by
 rw [all_eq_true];unfold Lts ltB
 constructor
 .intro h c hc;have:=h c hc;rw [and_eq_true,decide_eq_true_eq,decide_eq_true_eq] at this;exact this
 .intro h c hc;rw [and_eq_true,decide_eq_true_eq,decide_eq_true_eq];exact h c hc
theorem wv{w:List Nat}:yo (.str w) 1 60=true ↔ Pc 60 w:=by
 unfold yo Pc;rw [and_eq_true,and_eq_true,decide_eq_true_eq,decide_eq_true_eq,wu]
 constructor
 .rintro⟨⟨h1,h2⟩,h3⟩;exact⟨by omega,by omega,h3⟩
 .rintro⟨h1,h2,h3⟩;exact⟨⟨by omega,by omega⟩,h3⟩
theorem eP(ls:List Nat):(ls.map fun c=>[c]).flatten=ls:=by
 induction ls with
 | nil=>rfl
 | cons c r ih=>rw [map_cons,flatten_cons,ih];rfl
theorem sV(ls:List Nat):ls.map (fun c=>D.str [c])=(ls.map fun c=>[c]).map D.str:=by rw [map_map];rfl
theorem rq(i j:Nat):(!decide (([j]:List Nat)<[i]))=decide (i<=j):=by
 by_cases h:i<=j
 .rw [decide_eq_true h]
  have:¬ ([j]:List Nat)<[i]:=by
   rw [cons_lt_cons_iff]
   rintro (z|⟨_,z⟩)
   .omega
   .exact absurd z (List.lt_irrefl _)
  rw [decide_eq_false this];rfl
 .rw [decide_eq_false h]
  have:([j]:List Nat)<[i]:=by
   rw [cons_lt_cons_iff];exact .inl (by omega)
  rw [decide_eq_true this];rfl
theorem ou:∀ns:List Int,D.pys (ns.map .int)=ns.map PyData.int
 | []=>rfl
 | n::r=>by rw [map_cons,map_cons,<- ou r];rfl
theorem mX:∀ns:List Int,D.plains (ns.map .int)=true
 | []=>rfl
 | n::r=>by rw [map_cons];show (true && D.plains (r.map .int))=true;rw [mX r];rfl
def Sh(d:D):Prop:=d.plain=true/\SeqAt.shaped d.py=true
theorem BJ.of{a b:D}(h:Sh a)(h':Sh b):BJ a b:=⟨h.1,h'.1,h.2,h'.2⟩
theorem Sh.lstI(ns:List Int):Sh (.lst (ns.map .int)):=⟨mX ns,by show SeqAt.shaped (.list (D.pys _))=true;rw [ou];exact (vL.list (vN ns)).shaped (by decide)⟩
def mj(sep:List Nat):List (List Nat)->List Nat
 | []=>[]
 | [w]=>w
 | w::v::r=>w++sep++mj sep (v::r)
theorem ww(sep:List Nat):∀ws:List (List Nat),PySem.Str.join (S sep) (ws.map S)=S (mj sep ws)
 | []=>rfl
 | [w]=>rfl
 | w::v::r=>by
  show S w++S sep++PySem.Str.join (S sep) ((v::r).map S)=S (w++sep++mj sep (v::r));rw [ww sep (v::r),Ap,Ap]
theorem p9(sep:List Nat):∀ws:List (List Nat),(mj sep ws).length<=ws.flatten.length+ws.length*sep.length
 | []=>zero_le _
 | [w]=>by show w.length<=_;rw [flatten_cons,flatten_nil,append_nil];omega
 | w::v::r=>by
  have ih:=p9 sep (v::r);show (w++sep++mj sep (v::r)).length<=_;rw [flatten_cons,length_append,length_append,length_append];rw [length_cons (as:=v::r),succ_mul];omega
section
variable {K:PySem.W.Frag}{X:Cx}
def zl(K:PySem.W.Frag):V->List V->Hp->VK->Prop:=fun x xs H Q=>∃(p:Addr) (sep:List Nat) (ws:List (List Nat)),x=.str (S sep)/\xs=[.ref p]/\SqL K H p (ws.map tx)/\ws.flatten.length+ws.length*sep.length<=1000000/\Q (.str (S (mj sep ws))) H
theorem sW(K:PySem.W.Frag)(e:X.K=K):MtR X "str.join" (zl K):=by
 subst e;intro pins s σ H x xs v us Q I rx rs h;obtain⟨p,sep,ws,rfl,rfl,hS,hz,q⟩:=h;obtain⟨t,rfl⟩:=rx;obtain⟨u,rfl,ru⟩:=gw rs;cases (show u=Value.ref p from ru);obtain⟨its,rv,pl,_⟩:=I.list hS
 refine join_list pl.isList (by simpa using vU rv) ?_ fun t' k=>?_
 .rw [map_map,gn]
  have e1:(ws.map ((fun y:Str=>y.length) ∘ S)).sum=ws.flatten.length:=by
   rw [length_flatten];exact congrArg List.sum (map_congr_left fun w _=>gn w)
  rw [e1];simp only [length_map];omega
 .refine⟨.str (S (mj sep ws)),H,I.tok _,⟨t',?_⟩,q⟩;rw [<- ww];exact congrArg (fun z=>Value.str z t') (StrLaws.glued_eq_join _ _)
def sX:FM
 | [],[.lst ds],Q=>∃ws:List (List Nat),ds=ws.map .str/\ws.flatten.length<=1000000/\Q (.dat (.str ws.flatten))
 | c::sep,[.lst ds],Q=>∃ws:List (List Nat),ds=ws.map .str/\ws.flatten.length+ws.length*(c::sep).length<=1000000/\Q (.dat (.str (mj (c::sep) ws)))
 | _,_,_=>False
theorem qa:∀ws:List (List Nat),mj [] ws=ws.flatten
 | []=>rfl
 | [w]=>by show w=w++[];rw [append_nil]
 | w::v::r=>by show w++[]++mj [] (v::r)=_;rw [qa (v::r),append_nil];rfl
theorem sY:LM K (zl K) sX:=by
 intro O H l xs as Q Q' dom hl fs q k;unfold sX at q
 split at q
 .obtain⟨ws,rfl,hw,q⟩:=q
  cases fs with
  | cons a b =>
   cases b;obtain⟨p,ys,rfl,e1,f1⟩:=a.lst;rw [f1.strs] at e1;refine⟨p,[],ws,rfl,rfl,SqL.of e1,by rw [length_nil,mul_zero];exact hw,?_⟩;rw [qa];exact k _ H _ q (Gr.refl _) (.str _ hw)
 .obtain⟨ws,rfl,hw,q⟩:=q
  cases fs with
  | cons a b =>
   cases b;obtain⟨p,ys,rfl,e1,f1⟩:=a.lst;rw [f1.strs] at e1;exact⟨p,_,ws,rfl,rfl,SqL.of e1,hw,k _ H _ q (Gr.refl _) (.str _ (Nat.le_trans (p9 _ _) hw))⟩
 .exact q.elim
end
section
variable {X:Cx}{K:PySem.W.Frag}
def wx(neg:Bool):R2:=fun x y H Q=>∃a b,x=.ref a/\y=.ref b/\H a=some (.dK [])/\H b=some (.dK [])/\Q (.bl (!neg)) H
theorem yp(hu:X.A.units+64<cLine):OpR X (compareOp .Eq) (wx false):=by
 intro pins s σ H x y v u Q I rx ry ⟨a,b,e1,e2,h1,h2,q⟩;subst e1 e2;cases rx;cases ry;obtain⟨_,y1,vs,r1,p1⟩:=(show dq X.prog X.w H s.heap a (.dK []) from I.hok a _ h1)
 obtain⟨_,y2,ws,r2,p2⟩:=(show dq X.prog X.w H s.heap b (.dK []) from I.hok b _ h2)
 cases r1;cases r2;exact PySem.W.keq_eq (r:=true) y1 y2 p1 p2 (by omega) (fun _=>.nil) ⟨.bl true,H,I,rfl,q⟩
theorem yq(hu:X.A.units+64<cLine):OpR X (compareOp .NotEq) (wx true):=by
 intro pins s σ H x y v u Q I rx ry ⟨a,b,e1,e2,h1,h2,q⟩;subst e1 e2;cases rx;cases ry;obtain⟨_,y1,vs,r1,p1⟩:=(show dq X.prog X.w H s.heap a (.dK []) from I.hok a _ h1)
 obtain⟨_,y2,ws,r2,p2⟩:=(show dq X.prog X.w H s.heap b (.dK []) from I.hok b _ h2)
 cases r1;cases r2;exact PySem.W.keq_ne (r:=true) y1 y2 p1 p2 (by omega) (fun _=>.nil) ⟨.bl false,H,I,rfl,q⟩
def yr(K:PySem.W.Frag)(neg:Bool):R2:=fun x y H Q=>CU K neg x y H Q\/wx neg x y H Q
theorem ml(K:PySem.W.Frag)(e:X.K=K)(hu:X.A.units+64<cLine):OpR X (compareOp .Eq) (yr K false):=OpR.or (FQ K e hu) (yp hu)
theorem Dk(K:PySem.W.Frag)(e:X.K=K)(hu:X.A.units+64<cLine):OpR X (compareOp .NotEq) (yr K true):=OpR.or (FS K e hu) (yq hu)
def uU:F2
 | .dic [] [],.dic [] [],Q=>Q (.dat (.bl true))
 | a,b,Q=>fEq a b Q
def D2:F2
 | .dic [] [],.dic [] [],Q=>Q (.dat (.bl false))
 | a,b,Q=>fNe a b Q
theorem FVc.dic0{O:Addr->Prop}{H:Hp}{v:V}(h:FVc K O H v (.dic [] [])):∃a,v=.ref a/\H a=some (.dK []):=by
 cases h.fv nofun nofun with
 | dic n e m f =>
  rename_i a kvs
  cases kvs with
  | nil=>exact⟨a,rfl,e⟩
  | cons x r=>cases m
theorem ia:LO K (yr K false) uU:=by
 intro O H x y a b Q Q' dom fx fy q k;unfold uU at q
 split at q
 .obtain⟨a,rfl,e1⟩:=fx.dic0;obtain⟨b,rfl,e2⟩:=fy.dic0;exact .inr ⟨a,b,rfl,rfl,e1,e2,k _ H _ q (Gr.refl _) (.bl _)⟩
 .exact .inl (ED O H x y _ _ Q Q' dom fx fy q k)
theorem zm:LO K (yr K true) D2:=by
 intro O H x y a b Q Q' dom fx fy q k;unfold D2 at q
 split at q
 .obtain⟨a,rfl,e1⟩:=fx.dic0;obtain⟨b,rfl,e2⟩:=fy.dic0;exact .inr ⟨a,b,rfl,rfl,e1,e2,k _ H _ q (Gr.refl _) (.bl _)⟩
 .exact .inl (EE O H x y _ _ Q Q' dom fx fy q k)
end
theorem jT{l:List Nat}{t:Nat}:fn l t=l[t]?.getD 0:=by
 by_cases h:t<l.length
 .rw [mS h];rfl
 .unfold fn;rw [getD_eq_getElem?_getD]
theorem oy{l:List Nat}{n t:Nat}(h:t<n):fn (l.take n) t=fn l t:=by rw [jT,jT,getElem?_take,if_pos h]
theorem rz{l:List Nat}{n t:Nat}:fn (l.drop n) t=fn l (n+t):=by rw [jT,jT,getElem?_drop]
theorem dL{a b:List Nat}{t:Nat}(h:t<a.length):fn (a++b) t=fn a t:=by rw [jT,jT,getElem?_append_left h]
theorem eA{a b:List Nat}{t:Nat}(h:a.length<=t):fn (a++b) t=fn b (t - a.length):=by rw [jT,jT,getElem?_append_right h]
section
variable {K:PySem.W.Frag}{te:TE}{pe:PTE}{tr:TA}{pr:PTA}
def wy(c:FR)(pe:PTE)(pr:PTA):PTE:=fun ρ Q=>pe ρ fun p ρ1=>match p with
 | .own es=>pr ρ1 fun as ρ2=>(match avD as with
  | some ds=>c (.own es) ds fun r _=>Q (.dat r.d) ρ2
  | none=>False)
 | _=>False
theorem wz{c:FR}(h1:LE K te pe)(h2:LAs K tr pr):LE K (ef (spR K c) [] E0 (bf te tr)) (wy c pe pr):=fun A ρ σ H Q Q' R q k=>h1 A ρ σ H _ _ R q fun v H1 p ρ1 q1 f1 o1=>by
 cases p with
 | dat d=>exact q1.elim
 | ins c ns ds=>exact q1.elim
 | own es =>
  obtain⟨a,xs,rfl,na,n0,e,R1,fv⟩:=o1;refine h2 (eJ A a) ρ1 σ H1 _ _ R1 q1 fun vs H2 as ρ2 q2 f2 R2 o2=>?_
  split at q2
  .rename_i ds ed;have e2:H2 a=some (.lst xs):=f2.kp a _ (R1.sep a (.inr rfl)) e;have fv2:=fv.keeps (f2.keeps (A:=eJ A a));have nw:¬ Wr ρ2 σ a:=R2.sep a (.inr rfl)
   have oeq:eJ (OO A ρ2 σ) a=OO (eJ A a) ρ2 σ:=funext fun b=>propext ⟨fun z=>by
    rcases z with (z|z)|z
    .exact .inl (.inl z)
    .exact .inr z
    .exact .inl (.inr z),fun z=>by
    rcases z with (z|z)|z
    .exact .inl (.inl z)
    .exact .inr z
    .exact .inl (.inr z)⟩
   rw [append_nil];refine⟨OO A ρ2 σ,a,.own es,vs,ds,_,rfl,rfl,fun b z=>R2.dom2 b (z.imp .inl id),fun z=>z.elim na nw,by rw [oeq];exact⟨a,xs,rfl,e2,fv2⟩,by rw [oeq];exact o2.avD ed,q2,fun r p' qr ow' v H' kp ha rs' ov hx=>?_⟩;rw [oeq] at ov
   have fvr:FV K (OO (eJ A a) ρ2 σ) H' v r.d:=by
    cases r with
    | dat d=>exact ov
    | own es =>
     obtain⟨w,ys,rfl,ew0,ew,f⟩:=ov;exact .lst (fun z=>R2.dom2 w z ew0) ew (f.keeps (aW.less fun b z=>.inl z))
    | ins c ns es =>
     obtain⟨w,dx,fs,rfl,ew0,ew,m,f⟩:=ov;exact .obj (fun z=>R2.dom2 w z ew0) ew m (f.keeps (aW.less fun b z=>.inl z))
   have kk:aW (OO (eJ A a) ρ2 σ) H2 (OO A ρ2 σ) H':=fun b o n hb=>⟨fun z=>n (z.imp .inl id),kp b o (fun z=>n (.inl (.inr z))) hb⟩
   have kl:aW (OO (eJ A a) ρ2 σ) H' (OO A ρ2 σ) H':=aW.less fun b z=>z.imp .inl id;have ne:∀b,Wr ρ2 σ b->b≠a:=fun b z e=>nw (by rw [<- e];exact z)
   have R3:Rel K A ρ2 σ H':=by
    refine⟨R2.len,fun i p e=>?_,R2.dj,fun b z=>?_,fun b z=>R2.sep b (.inl z)⟩
    .obtain⟨v,s,rs⟩:=R2.get i p e;refine⟨v,s,?_⟩
     cases p with
     | dat d=>exact FV.keeps kk rs
     | own es =>
      obtain⟨w,ys,rfl,ew,f⟩:=rs;exact⟨w,ys,rfl,kp w _ (ne w ⟨i,_,e,rfl,s⟩) ew,f.keeps kk⟩
     | ins c ns es =>
      obtain⟨w,dx,fs,rfl,ew,m,f⟩:=rs;exact⟨w,dx,fs,rfl,kp w _ (ne w ⟨i,_,e,rfl,s⟩) ew,m,f.keeps kk⟩
    .cases eb:H2 b with
     | none=>exact absurd eb (R2.dom b (.inl z))
     | some o=>rw [kp b o (fun y=>na (by rw [<- y];exact z)) eb];exact nofun
   have f12:=f1.trans f2
   refine k v H' (.dat r.d) ρ2 qr ⟨fun b o n hb=>?_,fun b hb=>?_,f12.ow⟩ ⟨R3,FV.keeps kl fvr⟩
   .exact kp b o (aZ hb n0) (f12.kp b o n hb)
   .cases eb:H2 b with
    | none=>exact absurd eb (f12.dm b hb)
    | some o=>rw [kp b o (fun y=>hb (by rw [y];exact n0)) eb];exact nofun
  .exact q2.elim
end
abbrev SIt(h:Heap)(a:Addr)(x:Str)(t:Tok)(i:Nat):Prop:=h.IsStrIter a (strIterType x) x t i
theorem SIt.mv{h h':Heap}{a:Addr}{x:Str}{t:Tok}{i:Nat}(W:SIt h a x t i)(k:∀o,h.get? a=some o->h'.get? a=some o):SIt h' a x t i:=let ⟨o,ho,r⟩:=W;⟨o,k o ho,r⟩
section
variable {P:Program}{w:World}{A:Around}{E:Value->Shared->Prop}{s:Shared}{z U V i j:Addr}{n:Nat}{x y:Str}{t t':Tok}{cx cy:Nat}{u v:Value}
theorem gF{Q:Value->Shared->Prop}(W:SIt s.heap i x t n)(hx:x.cps[n]?=some cx)(hQ:∀h',SIt h' i x t (n+1)->Heap.SameBut i s.heap h'->Q (.str ⟨#[cx]⟩ s.toks) { s with heap:=h',toks:=s.toks+1 }) :
  wpAny (model P w) A (Builtin.SmallTypes.nextOf (.ref i)) Q E s:=by
 unfold SIt strIterType at W hQ
 cases ha:x.cps.all (·<128)
 .simp only [ha,false_eq_true,if_false] at W hQ;exact wpAny_nextOf_wide_item W hx hQ
 .simp only [ha,if_true] at W hQ;exact wpAny_nextOf_ascii_item W hx hQ
theorem kX{Q:Value->Shared->Prop}(hh:A.handled=none)(W:SIt s.heap i x t n)(hx:x.cps[n]?=none)
  (hE:∀h' e,Heap.ExtBut i s.heap h'->(∃o,h'.get? e=some o/\o.cls=.type "StopIteration")->E (.ref e) { s with heap:=h' }) :
  wpAny (model P w) A (Builtin.SmallTypes.nextOf (.ref i)) Q E s:=by
 unfold SIt strIterType at W
 cases ha:x.cps.all (·<128)
 .simp only [ha,false_eq_true,if_false] at W;exact wpAny_nextOf_wide_end hh W hx hE
 .simp only [ha,if_true] at W;exact wpAny_nextOf_ascii_end hh W hx hE
theorem A3{Q:Value->Shared->Prop}(D:ZA z U V i j)(hz:IsZip s.heap z U V .none)(hU:IsPair s.heap U (.ref i) (.ref j))(hV:IsPair s.heap V u v)
  (W1:SIt s.heap i x t n) (W2:SIt s.heap j y t' n) (hx:x.cps[n]?=some cx) (hy:y.cps[n]?=some cy)
  (hQ:∀h',IsZip h' z U V (rawInt s.heap.objs.size)->IsPair h' V (.str ⟨#[cx]⟩ s.toks) (.str ⟨#[cy]⟩ (s.toks+1))->SIt h' i x t (n+1)->SIt h' j y t' (n+1)->IsPair h' s.heap.objs.size (.str ⟨#[cx]⟩ s.toks) (.str ⟨#[cy]⟩ (s.toks+1))->h'.objs.size=s.heap.objs.size+1 ->
   (∀b o,b≠z->b≠V->b≠i->b≠j->s.heap.get? b=some o->h'.get? b=some o)->Q (.ref s.heap.objs.size) { s with heap:=h',toks:=s.toks+1+1 }) :
  wpAny (model P w) A (Builtin.«zip.__next__» ⟨[.ref z],[]⟩) (fun f s'=>∃r,f=.done (.ret r)/\Q r s') E s:=by
 refine wpAny_bind (m:=field (.ref z) 2) (wpAny_field hz rfl (x:=.bool false) rfl (wpAny_bind (m:=field (.ref z) 3) (wpAny_field hz rfl (x:=.ref U) rfl (wpAny_bind (wpAny_seqItems hU rfl ?_)))));refine wpAny_bind (m:=Builtin.SmallTypes.ownedTupleIsFree (.ref z)) ?_;unfold Builtin.SmallTypes.ownedTupleIsFree;refine wpAny_bind (wpAny_field hz rfl (x:=.none) rfl (wpAny_pure ?_));simp only [if_true];refine wpAny_bind (wpAny_rule (wpAny_bind (wpAny_field hz rfl (x:=.ref V) rfl (wpAny_bind (wpAny_setField_rec hz (by simp) fun g1 z1 b1=>wpAny_bind ?_)))))
 replace z1:IsZip g1 z U V .ellipsis:=z1
 simp only [zipIdx_cons,zipIdx_nil,forIn_cons,forIn_nil];have e1:=b1.extBut;refine wpAny_bind (wpAny_bind (wpAny_onRaise (wpAny_bind (m:=Builtin.SmallTypes.nextOf (.ref i)) (gF (W1.mv fun o e=>e1 _ o D.iz e) hx fun g2 w1 b2=>wpAny_pure ?_))));have e2:=b2.extBut;have v2:IsPair g2 V u v:=e2 _ _ D.Vi (e1 _ _ D.Vz hV);refine wpAny_bind (wpAny_seqItems v2 rfl (wpAny_bind (wpAny_updateSeq_pair v2 fun g3 v3 b3=>wpAny_bind (wpAny_letGo (wpAny_pure ?_)))))
 replace v3:IsPair g3 V (.str ⟨#[cx]⟩ s.toks) v:=v3
 have e3:=b3.extBut;refine wpAny_bind (wpAny_bind (wpAny_onRaise (wpAny_bind (m:=Builtin.SmallTypes.nextOf (.ref j)) (gF (W2.mv fun o e=>e3 _ o D.Vj.symm (e2 _ o D.ij.symm (e1 _ o D.jz e))) hy fun g4 w2 b4=>wpAny_pure ?_))));have e4:=b4.extBut;have v4:IsPair g4 V (.str ⟨#[cx]⟩ s.toks) v:=e4 _ _ D.Vj v3;refine wpAny_bind (wpAny_seqItems v4 rfl (wpAny_bind (wpAny_updateSeq_pair v4 fun g5 v5 b5=>wpAny_bind (wpAny_letGo (wpAny_pure (wpAny_pure ?_))))))
 replace v5:IsPair g5 V (.str ⟨#[cx]⟩ s.toks) (.str ⟨#[cy]⟩ (s.toks+1)):=v5
 have e5:=b5.extBut;refine wpAny_bind (wpAny_seqItems v5 rfl (wpAny_bind (wpAny_newTuple ?_)));have sz:g5.objs.size=s.heap.objs.size:=by rw [b5.1,b4.1,b3.1,b2.1,b1.1]
 have z5:IsZip g5 z U V .ellipsis:=e5 _ _ D.Vz.symm (e4 _ _ D.jz.symm (e3 _ _ D.Vz.symm (e2 _ _ D.iz.symm z1)));have k5:∀b o,b≠z->b≠V->b≠i->b≠j->s.heap.get? b=some o->g5.get? b=some o:=fun b o q1 q2 q3 q4 e=>e5 _ _ q2 (e4 _ _ q4 (e3 _ _ q2 (e2 _ _ q3 (e1 _ _ q1 e))));have w15:SIt g5 i x t (n+1):=w1.mv fun o e=>e5 _ o D.Vi.symm (e4 _ o D.ij (e3 _ o D.Vi.symm e));have w25:SIt g5 j y t' (n+1):=w2.mv fun o e=>e5 _ o D.Vj.symm e
 have zlt:z<g5.objs.size:=Heap.lt_size z5;refine wpAny_bind (m:=Builtin.SmallTypes.ownedTupleHandOut (.ref z) (.ref g5.objs.size)) ?_;unfold Builtin.SmallTypes.ownedTupleHandOut;have z6:IsZip (g5.push { cls:=.type "tuple",data:=.seq #[(.str ⟨#[cx]⟩ s.toks),(.str ⟨#[cy]⟩ (s.toks+1))] }) z U V .ellipsis:=Heap.get?_push_of_some _ z5;refine wpAny_bind (wpAny_setField_rec z6 (by simp) fun g7 z7 b7=>?_)
 replace z7:IsZip g7 z U V (rawInt g5.objs.size):=z7
 refine wpAny_setField_rec z7 (by simp) fun g8 z8 b8=>?_
 replace z8:IsZip g8 z U V (rawInt g5.objs.size):=z8
 have up:∀b o,b≠z->g5.get? b=some o->g8.get? b=some o:=fun b o q e=>b8.extBut _ _ q (b7.extBut _ _ q (Heap.get?_push_of_some _ e));have t8:IsPair g8 g5.objs.size (.str ⟨#[cx]⟩ s.toks) (.str ⟨#[cy]⟩ (s.toks+1)):=b8.extBut _ _ (ne_of_gt zlt) (b7.extBut _ _ (ne_of_gt zlt) (Heap.get?_push_size _ rfl));have s8:g8.objs.size=g5.objs.size+1:=by rw [b8.1,b7.1,Heap.size_push]
 rw [sz] at z8 t8 s8;refine wpAny_pure ⟨_,rfl,?_⟩;show Q (.ref g5.objs.size) _;rw [sz];exact hQ g8 z8 (up _ _ D.Vz v5) (w15.mv fun o e=>up _ o D.iz e) (w25.mv fun o e=>up _ o D.jz e) t8 s8 fun b o q1 q2 q3 q4 e=>up b o q1 (k5 b o q1 q2 q3 q4 e)
theorem Dl{Q:Fin->Shared->Prop}(hh:A.handled=none)(D:ZA z U V i j)(hz:IsZip s.heap z U V .none)(hU:IsPair s.heap U (.ref i) (.ref j))(hV:IsPair s.heap V u v)
  (W1:SIt s.heap i x t n) (W2:SIt s.heap j y t' n) (hend:x.cps[n]?=none\/y.cps[n]?=none)
  (hE:∀h' tk e,(∀b o,b≠z->b≠V->b≠i->b≠j->s.heap.get? b=some o->h'.get? b=some o)->(∃o,h'.get? e=some o/\o.cls=.type "StopIteration")->E (.ref e) { s with heap:=h',toks:=tk }) :
  wpAny (model P w) A (Builtin.«zip.__next__» ⟨[.ref z],[]⟩) Q E s:=by
 refine wpAny_bind (m:=field (.ref z) 2) (wpAny_field hz rfl (x:=.bool false) rfl (wpAny_bind (m:=field (.ref z) 3) (wpAny_field hz rfl (x:=.ref U) rfl (wpAny_bind (wpAny_seqItems hU rfl ?_)))));refine wpAny_bind (m:=Builtin.SmallTypes.ownedTupleIsFree (.ref z)) ?_;unfold Builtin.SmallTypes.ownedTupleIsFree;refine wpAny_bind (wpAny_field hz rfl (x:=.none) rfl (wpAny_pure ?_));simp only [if_true];refine wpAny_bind (wpAny_rule (wpAny_bind (wpAny_field hz rfl (x:=.ref V) rfl (wpAny_bind (wpAny_setField_rec hz (by simp) fun g1 z1 b1=>wpAny_bind ?_)))))
 replace z1:IsZip g1 z U V .ellipsis:=z1
 simp only [zipIdx_cons,zipIdx_nil,forIn_cons,forIn_nil];have e1:=b1.extBut
 cases hx:x.cps[n]? with
 | none =>
  refine wpAny_bind (wpAny_bind (wpAny_onRaise (wpAny_bind (m:=Builtin.SmallTypes.nextOf (.ref i)) (kX hh (W1.mv fun o e=>e1 _ o D.iz e) hx fun g2 e b2 he=>?_))));obtain⟨oe,ge,ce⟩:=he;have z2:IsZip g2 z U V .ellipsis:=b2 _ _ D.iz.symm z1;have ez:e≠z:=fun q=>by subst q;rw [z2] at ge;cases ge;simp at ce
  exact wpAny_setField_rec z2 (by simp) fun g3 _ b3=>hE g3 _ e (fun b o q1 _ q3 _ q=>b3.extBut _ _ q1 (b2 _ _ q3 (e1 _ _ q1 q))) ⟨oe,b3.extBut _ _ ez ge,ce⟩
 | some cx =>
  have hy:y.cps[n]?=none:=by
   rcases hend with q|q
   .rw [hx] at q;cases q
   .exact q
  refine wpAny_bind (wpAny_bind (wpAny_onRaise (wpAny_bind (m:=Builtin.SmallTypes.nextOf (.ref i)) (gF (W1.mv fun o e=>e1 _ o D.iz e) hx fun g2 w1 b2=>wpAny_pure ?_))));have e2:=b2.extBut;have v2:IsPair g2 V u v:=e2 _ _ D.Vi (e1 _ _ D.Vz hV);refine wpAny_bind (wpAny_seqItems v2 rfl (wpAny_bind (wpAny_updateSeq_pair v2 fun g3 v3 b3=>wpAny_bind (wpAny_letGo (wpAny_pure ?_)))));have e3:=b3.extBut;refine wpAny_bind (wpAny_bind (wpAny_onRaise (wpAny_bind (m:=Builtin.SmallTypes.nextOf (.ref j)) (kX hh (W2.mv fun o e=>e3 _ o D.Vj.symm (e2 _ o D.ij.symm (e1 _ o D.jz e))) hy fun g4 e b4 he=>?_))))
  obtain⟨oe,ge,ce⟩:=he;have z4:IsZip g4 z U V .ellipsis:=b4 _ _ D.jz.symm (e3 _ _ D.Vz.symm (e2 _ _ D.iz.symm z1));have ez:e≠z:=fun q=>by subst q;rw [z4] at ge;cases ge;simp at ce
  exact wpAny_setField_rec z4 (by simp) fun g5 _ b5=>hE g5 _ e (fun b o q1 q2 q3 q4 q=>b5.extBut _ _ q1 (b4 _ _ q4 (e3 _ _ q2 (e2 _ _ q3 (e1 _ _ q1 q))))) ⟨oe,b5.extBut _ _ ez ge,ce⟩
end
def ET(xs ys:List V):It :=
  ⟨fun i H=>∃x y,xs[i]?=some x/\ys[i]?=some y,
   fun i H p H'=>∃T x y,H T=none/\p=.ref T/\xs[i]?=some x/\ys[i]?=some y/\H'=upd H T (.tup [x,y]),
   fun i H=>xs.length<=i\/ys.length<=i⟩
theorem wA{P:Program}{w:World}{K:PySem.W.Frag}{es:List Expr}{ct:Nat}{tp:Pos}{z U V i j:Addr}{la lb:List Nat}{t t':Tok}(D:ZA z U V i j) :
  yX P w K (.Tuple es ct tp) (ET (cQ la) (cQ lb)) [z,U,V,i,j] z (fun n h=>IsZip h z U V .none/\IsPair h U (.ref i) (.ref j)/\(∃u v,IsPair h V u v)/\SIt h i (S la) t n/\SIt h j (S lb) t' n) where
 mem:=by simp
 obj:=fun n h st b hb=>by
  obtain⟨hz,hU,⟨u,v,hV⟩,⟨o1,g1,c1,d1⟩,⟨o2,g2,c2,d2⟩⟩:=st;simp only [mem_cons,not_mem_nil,or_false] at hb
  rcases hb with rfl|rfl|rfl|rfl|rfl
  .exact⟨_,hz,fun v q=>by cases q⟩
  .exact⟨_,hU,fun v q=>by cases q⟩
  .exact⟨_,hV,fun v q=>by cases q⟩
  .exact⟨_,g1,fun v q=>by rw [d1] at q;cases q⟩
  .exact⟨_,g2,fun v q=>by rw [d2] at q;cases q⟩
 keep:=fun n h h' st kk=>by
  obtain⟨hz,hU,⟨u,v,hV⟩,w1,w2⟩:=st;exact⟨kk z (by simp) _ hz,kk U (by simp) _ hU,⟨u,v,kk V (by simp) _ hV⟩,w1.mv fun o e=>kk i (by simp) o e,w2.mv fun o e=>kk j (by simp) o e⟩
 item:=by
  intro X hP hw hK hc n pins s σ H E I hf st hg;subst hP hw hK;obtain⟨x,y,hx,hy⟩:=hg;obtain⟨hz,hU,⟨u,v,hV⟩,w1,w2⟩:=st;obtain⟨cx,hcx,rfl⟩:=fc hx;obtain⟨cy,hcy,rfl⟩:=fc hy;have hT:s.TypeIs (.ref z) "zip":=⟨_,hz,rfl⟩
  unfold pyNext
  refine wpAny_bind (wpAny_attempt (wpAny_callSpecial?_slot (name:=Str.ofString "__next__") hT F.slot_zip_next (wpAny_call_entry F.slot_zip_next hT F.entry_zip_next
   (A3 (cx:=cx) (cy:=cy) D hz hU hV w1 w2 (by simpa [S] using hcx) (by simpa [S] using hcy) fun h' a1 a2 a3 a4 a5 a6 a7=>wpAny_pure ?_) (F.args_zip_next_1 _))))
  refine⟨_,rfl,wpAny_letOwnedTupleGo_zip a1 fun g gz gs=>?_⟩;have lt:∀{b o},s.heap.get? b=some o->s.heap.objs.size≠b:=fun e=>ne_of_gt (Heap.lt_size e)
  have kp:∀b o,b∉[z,V,i,j]->s.heap.get? b=some o->g.get? b=some o:=fun b o hb e=>by
   simp only [mem_cons,not_mem_nil,or_false,not_or] at hb;exact gs.extBut _ _ hb.1 (a7 b o hb.1 hb.2.1 hb.2.2.1 hb.2.2.2 e)
  have I2:Inv X pins σ (upd H s.heap.objs.size (.tup [.str (S [cx]),.str (S [cy])])) { s with heap:=g,toks:=s.toks+1+1 }:=I.yielded (ch:=[z,V,i,j]) (fun b hb=>hf b (by
   simp only [mem_cons,not_mem_nil,or_false] at hb ⊢;rcases hb with q|q|q|q <;> simp [q])) (le_refl _) kp ⟨by show 2<=sizeLine;decide,[.str ⟨#[cx]⟩ s.toks,.str ⟨#[cy]⟩ (s.toks+1)],.cons ⟨_,rfl⟩ (.cons ⟨_,rfl⟩ .nil),_,gs.extBut _ _ (lt hz) a5,rfl,_,rfl⟩
  refine⟨.ref s.heap.objs.size,_,I2,rfl,⟨_,_,_,I.hok.fresh (le_refl _),rfl,hx,hy,rfl⟩,
   ⟨gz,gs.extBut _ _ D.Uz (a7 _ _ D.Uz D.UV D.Ui D.Uj hU),⟨_,_,gs.extBut _ _ D.Vz a2⟩,a3.mv fun o e=>gs.extBut _ o D.iz e,a4.mv fun o e=>gs.extBut _ o D.jz e⟩,fun b hb=>?_⟩
  rw [aM ?_]
  .exact (hf b hb).1
  .intro q;subst q;simp only [mem_cons,not_mem_nil,or_false] at hb;obtain⟨o1,g1,_⟩:=w1;obtain⟨o2,g2,_⟩:=w2
   rcases hb with q|q|q|q|q
   .exact lt hz q
   .exact lt hU q
   .exact lt hV q
   .exact lt g1 q
   .exact lt g2 q
 done:=by
  intro X hP hw hK hc n pins s σ H E I hf st hg;subst hP hw hK;have hend:(cQ la).length<=n\/(cQ lb).length<=n:=hg;obtain⟨hz,hU,⟨u,v,hV⟩,w1,w2⟩:=st;rw [cS,cS] at hend;have hT:s.TypeIs (.ref z) "zip":=⟨_,hz,rfl⟩
  unfold pyNext
  refine wpAny_bind (wpAny_attempt (wpAny_callSpecial?_slot (name:=Str.ofString "__next__") hT F.slot_zip_next (wpAny_call_entry F.slot_zip_next hT F.entry_zip_next
   (Dl (I.ok.hd hc) D hz hU hV w1 w2 ?_ fun h' tk e hk he=>?_) (F.args_zip_next_1 _))))
  .rcases hend with q|q
   .exact .inl (by simp [S];omega)
   .exact .inr (by simp [S];omega)
  .obtain⟨o,ho,hcl⟩:=he;refine wpAny_bind (wpAny_isInstance (T:="StopIteration") (b:=true) ⟨o,ho,hcl⟩ isSubtype_stop (wpAny_pure ⟨rfl,?_⟩))
   exact I.step (g':=s.gens) (d':=s.drawn) (t':=tk) (ch:=[z,V,i,j]) (fun b hb=>by
     have q:=hf b (by
      simp only [mem_cons,not_mem_nil,or_false] at hb ⊢;rcases hb with q|q|q|q <;> simp [q])
     exact⟨q.2.2.2.1,q.2.1,q.2.2.2.2.1,q.2.2.2.2.2⟩) (fun b o _ _ hc e _=>by
     simp only [mem_cons,not_mem_nil,or_false,not_or] at hc;exact hk b o hc.1 hc.2.1 hc.2.2.1 hc.2.2.2 e) (fun b o _ _ hc e _=>⟨o.slots,by
     simp only [mem_cons,not_mem_nil,or_false,not_or] at hc;exact hk b o hc.1 hc.2.1 hc.2.2.1 hc.2.2.2 e⟩) (fun _ _ _ _ q=>q) (fun b o hc e=>⟨o,by
     simp only [mem_cons,not_mem_nil,or_false,not_or] at hc;exact hk b o hc.1 hc.2.1 hc.2.2.1 hc.2.2.2 e⟩) (fun _ _ e=>e) (fun _ _ _ e=>e) (fun b ps e=>⟨#[],by rw [e];simp⟩) (fun m hm=>by
     obtain⟨o,es,ep,ho,r⟩:=hm;exact⟨o,es,ep,hk _ o (hf z (by simp)).2.1.symm (hf V (by simp)).2.1.symm (hf i (by simp)).2.1.symm (hf j (by simp)).2.1.symm ho,r⟩) (fun b u e=>by
     have nn:∀b u,H b=some u->b≠z/\b≠V/\b≠i/\b≠j:=fun b u e=>⟨fun q=>(by rw [q,(hf z (by simp)).1] at e;cases e),fun q=>(by rw [q,(hf V (by simp)).1] at e;cases e),fun q=>(by rw [q,(hf i (by simp)).1] at e;cases e),fun q=>(by rw [q,(hf j (by simp)).1] at e;cases e)⟩
     refine (I.hok b u e).stay (fun c v hc q=>?_) (fun _ q=>q) fun _ _ q=>q
     have n4:c≠z/\c≠V/\c≠i/\c≠j:=by
      rcases hc with q|q
      .rw [q];exact nn b u e
      .exact nn c _ q
     exact hk c v n4.1 n4.2.1 n4.2.2.1 n4.2.2.2 q) I.bare
 self:=fun _ _ _ _ _ st h=>wpAny_pyIter_zip st.1 h
section
variable {P:Program}{w:World}{A:Around}{E:Value->Shared->Prop}{s:Shared}
abbrev uo(x:Str)(t:Tok):Obj:={ cls:=.type (strIterType x),data:=.fields #[.str x t,.int 0 0] }
theorem mY{x:Str}{t:Tok}{Q:Value->Shared->Prop}(hQ:Q (.ref s.heap.objs.size) { s with heap:=s.heap.push (uo x t) }):wpAny (model P w) A (pyIter (.str x t)) Q E s:=by
 unfold uo strIterType at hQ
 cases ha:x.cps.all (·<128)
 .simp only [ha,false_eq_true,if_false] at hQ;exact wpAny_pyIter_wide ha hQ
 .simp only [ha,if_true] at hQ;exact wpAny_pyIter_ascii ha hQ
abbrev yg1(h:Heap)(x:Str)(t:Tok):Heap:=h.push (uo x t)
abbrev yg2(h:Heap)(x y:Str)(t u:Tok):Heap:=(yg1 h x t).push (uo y u)
abbrev yg3(h:Heap)(x y:Str)(t u:Tok):Heap:=(yg2 h x y t u).push { cls:=.type "tuple",data:=.seq #[.ref h.objs.size,.ref (yg1 h x t).objs.size] }
abbrev yg4(h:Heap)(x y:Str)(t u:Tok):Heap:=(yg3 h x y t u).push { cls:=.type "tuple",data:=.seq #[.none,.none] }
abbrev yg5(h:Heap)(x y:Str)(t u:Tok):Heap:=(yg4 h x y t u).push { cls:=.type "zip",data:=.fields #[.none,.bool false,.bool false,.ref (yg2 h x y t u).objs.size,.ref (yg3 h x y t u).objs.size] }
theorem yt(x y:Str)(t u:Tok):Meets (Builtin.«zip.__new__» ⟨[.type "zip",.str x t,.str y u],[]⟩) (fun _ R s =>
   R (.ok (.ret (.ref (yg4 s.heap x y t u).objs.size))) { s with heap:=yg5 s.heap x y t u }) :=
 .of_wp fun prog w A R s h=>by
  obtain⟨hp,g,d,tk,os⟩:=s;have hsub:=sub_zip
  wp_walk using mY (x:=x) (t:=t),mY (x:=y) (t:=u)
  exact⟨_,rfl,h⟩
theorem yu{x y:Str}{t u:Tok}{Q:Value->Shared->Prop}
  (h:∀h',IsZip h' (s.heap.objs.size+4) (s.heap.objs.size+2) (s.heap.objs.size+3) .none->IsPair h' (s.heap.objs.size+2) (.ref s.heap.objs.size) (.ref (s.heap.objs.size+1)) ->
   IsPair h' (s.heap.objs.size+3) .none .none->SIt h' s.heap.objs.size x t 0->SIt h' (s.heap.objs.size+1) y u 0->(∀b o,s.heap.get? b=some o->h'.get? b=some o)->Q (.ref (s.heap.objs.size+4)) { s with heap:=h' }) :
  wpAny (model P w) A (call (.type "zip") [.str x t,.str y u]) Q E s:=by
 refine callType_new F.called_zip (by decide) (F.typeCall_zip_2 _ _) (F.newCall_zip_2 _ _) (fun obj=>F.args_object_init_3 obj _ _) F.entry_zip_new (yt x y t u) ?_;have z1:(yg1 s.heap x t).objs.size=s.heap.objs.size+1:=Heap.size_push ..;have z2:(yg2 s.heap x y t u).objs.size=s.heap.objs.size+2:=by rw [Heap.size_push,z1]
 have z3:(yg3 s.heap x y t u).objs.size=s.heap.objs.size+3:=by rw [Heap.size_push,z2]
 have z4:(yg4 s.heap x y t u).objs.size=s.heap.objs.size+4:=by rw [Heap.size_push,z3]
 have m4:∀b o,(yg4 s.heap x y t u).get? b=some o->(yg5 s.heap x y t u).get? b=some o:=fun b o e=>Heap.get?_push_of_some _ e;have m3:∀b o,(yg3 s.heap x y t u).get? b=some o->(yg5 s.heap x y t u).get? b=some o:=fun b o e=>m4 b o (Heap.get?_push_of_some _ e);have m2:∀b o,(yg2 s.heap x y t u).get? b=some o->(yg5 s.heap x y t u).get? b=some o:=fun b o e=>m3 b o (Heap.get?_push_of_some _ e);have m1:∀b o,(yg1 s.heap x t).get? b=some o->(yg5 s.heap x y t u).get? b=some o:=fun b o e=>m2 b o (Heap.get?_push_of_some _ e)
 have g5:(yg5 s.heap x y t u).get? (yg4 s.heap x y t u).objs.size=some _:=Heap.get?_push_size _ rfl;have g4:=m4 _ _ (Heap.get?_push_size (yg3 s.heap x y t u) (o:={ cls:=.type "tuple",data:=.seq #[.none,.none] }) rfl);have g3:=m3 _ _ (Heap.get?_push_size (yg2 s.heap x y t u) (o:={ cls:=.type "tuple",data:=.seq #[.ref s.heap.objs.size,.ref (yg1 s.heap x t).objs.size] }) rfl);have g2:=m2 _ _ (Heap.get?_push_size (yg1 s.heap x t) (o:=uo y u) rfl)
 have g1:=m1 _ _ (Heap.get?_push_size s.heap (o:=uo x t) rfl);show _/\_;rw [z2,z3,z4] at g5;rw [z1,z2] at g3;rw [z3] at g4;rw [z1] at g2;rw [z4];exact⟨⟨_,g5,rfl⟩,h _ g5 g3 g4 ⟨_,g1,rfl,rfl⟩ ⟨_,g2,rfl,rfl⟩ fun b o e=>m1 b o (Heap.get?_push_of_some _ e)⟩
end
section
variable {X:Cx}{es:List Expr}{ct:Nat}{tp:Pos}
def A4(K:PySem.W.Frag)(ta:TA):TI:=fun σ H R=>ta σ H fun vs H1=>(∃k l a c,vs=[.ref a,.ref c]/\(∃xs ys,Sq k K H1 a xs/\Sq l K H1 c ys)/\R (Itz k l K a c) H1)\/∃la lb,vs=[.str (S la),.str (S lb)]/\R (ET (cQ la) (cQ lb)) H1
theorem A5(K:PySem.W.Frag)(e:X.K=K){a b:Expr}{ta:TA}{p pos:Pos}(hg:Gl X "zip")(hm:X.mg "zip"=none)(ha:PA X [a,b] ta)
  (hs:starEach [a,b] X.env=[(false,eval a X.env),(false,eval b X.env)]:=by rfl) (hs2:starEach [b] X.env=[(false,eval b X.env)]:=by rfl) :
  PI X (.Tuple es ct tp) (.Call (.Name "zip" p) [a,b] [] pos) (A4 K ta):=by
 subst e;intro pins s σ H R I h;refine Call_ (iQ I hg hm boot_zip (PyProof.Rows.callWith_type1 (thn (ha pos pins s σ H _ I h) fun us s1 ⟨vs,H1,I1,r1,q1⟩=>?_) (by rw [hs,hs2]) (by rw [hs2];rfl)))
 have fin:∀b∈[s1.heap.objs.size+4,s1.heap.objs.size+2,s1.heap.objs.size+3,s1.heap.objs.size,s1.heap.objs.size+1],tT X pins H1 b:=fun b hb=>by
  have hle:s1.heap.objs.size<=b:=by
   simp only [mem_cons,not_mem_nil,or_false] at hb
   rcases hb with e|e|e|e|e
   .rw [e];exact le_add_right _ _
   .rw [e];exact le_add_right _ _
   .rw [e];exact le_add_right _ _
   .rw [e];exact le_refl _
   .rw [e];exact le_add_right _ _
  exact I1.fpOk hle (I1.hok.fresh hle)
 rcases q1 with ⟨k,l,a,c,e,⟨xs,ys,q1,q2⟩,q⟩|⟨la,lb,e,q⟩
 .subst e
  cases r1 with
  | cons r rr =>
   cases rr with
   | cons r' rr =>
    cases rr;cases r;cases r';obtain⟨its,rv,p,_⟩:=I1.row q1;obtain⟨jts,rv',p',_⟩:=I1.row q2;refine Aw p p' fun h' g1 g2 g3 g4 g5 kk=>wpAny_pyIter_zip g1 ?_;have I2:Inv X pins σ H1 { s1 with heap:=h',toks:=s1.toks }:=I1.kept kk
    exact⟨s1.heap.objs.size+4,[s1.heap.objs.size+4,s1.heap.objs.size+2,s1.heap.objs.size+3,s1.heap.objs.size,s1.heap.objs.size+1],_,_,H1,rfl,I2,x4 (i:=s1.heap.objs.size) (j:=s1.heap.objs.size+1)
     (CJ _),⟨g1,g2,⟨_,_,g3⟩,g4,g5⟩,fin,q⟩
 .subst e
  cases r1 with
  | cons r rr =>
   cases rr with
   | cons r' rr =>
    cases rr;obtain⟨t,rfl⟩:=r;obtain⟨u,rfl⟩:=r';refine yu fun h' g1 g2 g3 g4 g5 kk=>wpAny_pyIter_zip g1 ?_;have I2:Inv X pins σ H1 { s1 with heap:=h',toks:=s1.toks }:=I1.kept kk
    exact⟨s1.heap.objs.size+4,[s1.heap.objs.size+4,s1.heap.objs.size+2,s1.heap.objs.size+3,s1.heap.objs.size,s1.heap.objs.size+1],_,_,H1,rfl,I2,wA (i:=s1.heap.objs.size) (j:=s1.heap.objs.size+1)
     (CJ _),⟨g1,g2,⟨_,_,g3⟩,g4,g5⟩,fin,q⟩
def zn(pa:PTA):PTI:=fun ρ Q=>pa ρ fun as ρ1=>match as with
 | [.v (.str x),.v (.str y)]=>Q (min x.length y.length) (fun k=>.tup [.str [x.getD k 0],.str [y.getD k 0]]) ρ1
 | [.v a,.v b]=>(match rowD a,rowD b with
  | some xs,some ys=>Q (min xs.length ys.length) (fun k=>.tup [itD xs k,itD ys k]) ρ1
  | _,_=>False)
 | _=>False
end
section
variable {K:PySem.W.Frag}{ta:TA}{pa:PTA}
theorem Dm{O:Addr->Prop}{H:Hp}{x y:List Nat}:Wlk K O H (ET (cQ x) (cQ y)) (min x.length y.length) (fun k=>.tup [.str [x.getD k 0],.str [y.getD k 0]]):=fun O' H' kk dom=>by
 refine⟨fun j hj=>?_,?_⟩
 .have h1:j<(cQ x).length:=by rw [cS];omega
  have h2:j<(cQ y).length:=by rw [cS];omega
  refine⟨⟨_,_,getElem?_eq_getElem h1,getElem?_eq_getElem h2⟩,fun v H'' ⟨T,u,w,hT,e,y1,y2,e2⟩=>?_⟩;subst e e2;obtain⟨c,hc,rfl⟩:=fc y1;obtain⟨d,hd,rfl⟩:=fc y2;show Gr H' _/\FV K O' _ _ (.tup [.str [x.getD j 0],.str [y.getD j 0]]);rw [getD_eq_getElem?_getD,getD_eq_getElem?_getD,hc,hd];exact⟨Gr.new hT,.tup (fun z=>dom T z hT) bi (.cons (.str _ (by show 1<=1000000;decide)) (.cons (.str _ (by show 1<=1000000;decide)) .nil))⟩
 .show (cQ x).length<=_\/(cQ y).length<=_;rw [cS,cS];omega
theorem A6(h:LAs K ta pa):LI K (A4 K ta) (zn pa):=fun A ρ σ H Q Q' R q k=>h A ρ σ H _ _ R q fun vs H1 as ρ1 q1 f1 R1 o1=>by
 split at q1
 .rename_i x y
  cases o1 with
  | cons o1 o2 =>
   cases o2 with
   | cons o2 o3 =>
    cases o3;have f1':FV K _ H1 _ (.str x):=o1;have f2':FV K _ H1 _ (.str y):=o2;cases f1';cases f2';exact .inr ⟨x,y,rfl,k _ H1 _ _ ρ1 q1 f1 R1 Dm⟩
 .rename_i da db hno;have:=C4 (K:=K) (ta:=ta) (pa:=pa) h
  cases o1 with
  | cons o1 o2 =>
   cases o2 with
   | cons o2 o3 =>
    cases o3
    split at q1
    .rename_i xs ys ex ey;obtain⟨b1,a1,us,rfl,l1,w1⟩:=FV.rowD (show FV K _ H1 _ da from o1) ex;obtain⟨b2,a2,ws,rfl,l2,w2⟩:=FV.rowD (show FV K _ H1 _ db from o2) ey;have t1:=w1 _ H1 (fun b o n h=>⟨n,h⟩);have t2:=w2 _ H1 (fun b o n h=>⟨n,h⟩);refine .inl ⟨b1,b2,a1,a2,rfl,⟨us,ws,t1.1,t2.1⟩,k _ H1 _ _ ρ1 q1 f1 R1 fun O' H' kk dom=>?_⟩;obtain⟨s1,g1⟩:=w1 O' H' kk;obtain⟨s2,g2⟩:=w2 O' H' kk;refine⟨fun j hj=>?_,⟨us,ws,s1,s2,by omega⟩⟩
     have h1:j<us.length:=by omega
     have h2:j<ws.length:=by omega
     refine⟨⟨us,ws,_,_,s1,s2,getElem?_eq_getElem h1,getElem?_eq_getElem h2⟩,fun x H'' ⟨T,u,w,hT,e,y1,y2,e2⟩=>?_⟩;subst e e2;obtain⟨d1,hd1,fd1⟩:=g1.get (y1 us s1);obtain⟨d2,hd2,fd2⟩:=g2.get (y2 ws s2);have e1:itD xs j=d1:=by unfold itD;rw [getD_eq_getElem?_getD,hd1];rfl
     have e2:itD ys j=d2:=by unfold itD;rw [getD_eq_getElem?_getD,hd2];rfl
     rw [e1,e2];have kk2:aW O' H' O' (upd H' T (.tup [u,w])):=fun b o n e=>⟨n,by rw [aM (aZ e hT)];exact e⟩
     exact⟨Gr.new hT,.tup (fun z=>dom T z hT) bi (.cons (fd1.keeps kk2) (.cons (fd2.keeps kk2) .nil))⟩
    .exact q1.elim
 .exact q1.elim
end
section
variable {X:Cx}{K:PySem.W.Frag}{te:TE}{pe:PTE}
def Dn(K:PySem.W.Frag):List V->Hp->VK->Prop:=fun xs H Q=>∃(p:Addr) (ns:List Int),xs=[.ref p]/\SqL K H p (ns.map V.int)/\ns.length<64/\∀ns':List Int,ns'.Perm ns->ns'.Pairwise (·<=·)->∀q,H q=none->Q (.ref q) (upd H q (.lst (ns'.map V.int)))
theorem A7(K:PySem.W.Frag)(e:X.K=K):cp X (.builtin "sorted") (Dn K):=by
 subst e;intro pins s σ H xs us Q I r h;obtain⟨p,ns,rfl,hS,hne,q⟩:=h;obtain⟨u,rfl,ru⟩:=gw r;cases (show u=Value.ref p from ru);obtain⟨its,rv,pl,hz⟩:=I.list hS;have hi:=fb rv;have hlen:its.length=ns.length:=by have:=rv.length;rw [length_map] at this;exact this.symm
 refine sorted_ints pl.isList hi (by omega) fun out ns' ho hp hs=>?_;obtain⟨e,he⟩:=sortedAll_at s.heap its out;have hle:s.heap.objs.size<=s.heap.objs.size+1:=le_succ _;refine⟨.ref (s.heap.objs.size+1),_,I.laid (a:=s.heap.objs.size+1) (o:=.lst (ns'.map V.int)) (t':=s.toks) (fun b o z=>sortedAll_old z) hle ?_,rfl,q ns' hp hs _ (I.hok.fresh hle)⟩;refine⟨?_,out.toList,e,iT ho,he⟩;rw [length_map,hp.length_eq]
 exact sz _ (by omega)
def wB(i:Nat)(pe:PTE):PTE:=fun ρ Q=>match ρ[i]? with
 | some (some (.own _))=>pe ρ fun p ρ1=>(match ρ1[i]?,p with
  | some (some (.own ds)),.dat (.int j)=>∃k d,(ixN ds.length j=some k/\ds.length<=1000000)/\ds[k]?=some d/\Q (.dat d) (ρ1.set i (some (.own (ds.eraseIdx k))))
  | _,_=>False)
 | _=>False
theorem FVs.eraseIdx{O:Addr->Prop}{H:Hp}:∀{xs:List V}{ds:List D} (k:Nat),FVs K O H xs ds->FVs K O H (xs.eraseIdx k) (ds.eraseIdx k)
 | _,_,_,.nil=>.nil
 | _,_,0,.cons a b=>b
 | _,_,k+1,.cons a b=>.cons a (FVs.eraseIdx k b)
theorem yv{i:Nat}(h:LE K te pe):LE K (tBM K "list" y8 (bz i) (bf te eY)) (wB i pe):=fun A ρ σ H Q Q' R q k=>by
 unfold wB at q
 split at q
 .rename_i ds0 e0;obtain⟨a0,xs0,s0,g0,f0⟩:=R.ownAt e0;refine⟨_,s0,.inl ⟨rfl,xs0,SqL.of g0⟩,h A ρ σ H _ _ R q fun v H1 p ρ1 q1 f1 o1=>?_⟩;obtain⟨R1,fv⟩:=o1.frz
  split at q1
  .rename_i ds j e1;obtain⟨a,xs,s,g,f⟩:=R1.ownAt e1;rw [s0] at s;cases s;obtain⟨m,d,⟨hm,hl⟩,hd,q1⟩:=q1;obtain⟨w,hw,fw⟩:=f.getD hd;cases (show FV K _ H1 v (.int j) from fv);obtain⟨t1,t2,t3,t4⟩:=qU hm;obtain⟨R2,f2⟩:=R1.lstw (es:=ds.eraseIdx m) (ys:=xs.eraseIdx m) e1 s0 (f.eraseIdx m);have hx:xs.length=ds.length:=f.length;exact⟨a0,xs,j,m,w,rfl,rfl,g,by omega,by omega,by rw [hx];exact t1,hw,k _ _ _ _ q1 (f1.trans f2) ⟨R2,(fw.keeps f2.keeps)⟩⟩
  .exact q1.elim
 .exact q.elim
end
section
variable {X:Cx}{K:PySem.W.Frag}{te:TE}{pe:PTE}{fs:List Nat}
abbrev Do:R2:=rI Fd fun i j=>.int (i*2^j.toNat)
abbrev EU:F2:=fI (fun i j=>0<=j/\j<=1000000/\i.natAbs<2^64) fun i j=>.int (i*2^j.toNat)
theorem Dp:OpR X (binaryOp .LShift) Do:=Ca
theorem zo:LO K Do EU:=DY fun _ _ _ _=>.int _
abbrev EV:R2:=rI (fun _ j=>0<=j) fun i j=>.int (i / 2^j.toNat)
abbrev Fz:F2:=fI (fun _ j=>0<=j) fun i j=>.int (i / 2^j.toNat)
theorem EW:OpR X (binaryOp .RShift) EV:=Cb
theorem Dq:LO K EV Fz:=DY fun _ _ _ _=>.int _
abbrev A8:R2:=rI0 fun i j=>.int (Builtin.bitAnd i j)
abbrev Dr:F2:=fI0 fun i j=>.int (Builtin.bitAnd i j)
theorem Ds:OpR X (binaryOp .BitAnd) A8:=Cc
theorem A9:LO K A8 Dr:=yf fun _ _ _ _=>.int _
end
section
variable {prog:Program}{w:World}{A:Around}{E:Value->Shared->Prop}{s:Shared}
theorem oz{l:Addr}{vs:List Value}{Q:List Value->Shared->Prop}(hl:IsTup s.heap l vs.toArray)
  (h:Q vs { s with heap:=(s.heap.push (seqObj "list" #[] 0)).update s.heap.objs.size (Obj.mapSeq (·++vs.toArray)) }) (hsz:vs.length<=sizeLine:=by size_fits) :
  wpAny (model prog w) A (collect (.ref l)) Q E s:=by
 obtain⟨o,ho,hc,n,hd⟩:=id hl;unfold collect;refine wpAny_bind (wpAny_runValue (codeAny_builtin entry_proto_collect' ?_));show wpAny _ _ (do again (.builtin "list.__iadd__" ⟨[<- newList [],.ref l],[]⟩)) _ _ s;refine wpAny_bind (wpAny_newList (wpAny_pure ⟨Code.quiet_builtin _ (by decide +kernel),codeAny_builtin entry_list_iadd' ?_⟩));show wpAny _ _ (Builtin.List.listExtendWith (.ref s.heap.objs.size) (.ref l) (.ref s.heap.objs.size)) _ _ { s with heap:=s.heap.push (seqObj "list" #[] 0) }
 unfold Builtin.List.listExtendWith;have ho':(s.heap.push (seqObj "list" #[] 0)).get? l=some o:=Heap.get?_push_of_some _ ho;refine wpAny_bind (wpAny_typeOf (T:="tuple") ⟨o,ho',hc⟩ ?_);have ht:(Value.type "tuple" == Value.type "tuple")=true:=by rfl
 rw [if_pos (by rw [ht];simp)];refine wpAny_bind (listItems_at ho' hd ?_);refine wpAny_bind (listItems_at (xs:=#[]) (n:=0) (Heap.get?_push_size _ rfl) rfl ?_);rw [if_neg (by simp)];refine wpAny_bind (listUpdate_at (xs:=#[]) (n:=0) (Heap.get?_push_size _ rfl) rfl ?_ (zero_le _) (by show (#[]++vs.toArray).size<=sizeLine+1;simp only [Array.size_append,size_toArray,length_nil];omega));refine wpAny_pure ?_
 show wpAny (model prog w) A (do
   let o <- load s.heap.objs.size
   match o.data with
   | .seq xs _=>pure xs.toList
   | _=>unsupported "internal:collect") Q E { s with heap:=(s.heap.push (seqObj "list" #[] 0)).update s.heap.objs.size (Obj.mapSeq (·++vs.toArray)) }
 refine wpAny_bind (wpAny_load (get?_update_seq (Heap.get?_push_size _ rfl) _) ?_);show wpAny _ _ (pure ((#[]:Array Value)++vs.toArray).toList) Q E _;rw [show ((#[]:Array Value)++vs.toArray).toList=vs by simp];exact wpAny_pure h
theorem qb{l:Addr}{vs:List Value}{ns:List Int}{Q:Value->Shared->Prop}(hl:IsTup s.heap l vs.toArray)(hI:IntsAre vs ns)(h64:vs.length<64)
  (h:∀(out:Array Value) (ns':List Int),IntsAre out.toList ns'->ns'.Perm ns->ns'.Pairwise (·<=·)->Q (.ref (s.heap.objs.size+1)) { s with heap:=sortedAll s.heap vs out }) :
  wpAny (model prog w) A (call (.builtin "sorted") [.ref l]) Q E s:=by
 refine Calls.call_function_entry kind_sorted plain_sorted entry_sorted (args_sorted1 _) ?_;unfold Builtin.«sorted»;refine wpAny_bind (m:=checkCount "sorted" 1 1 _) (wpAny_pure ?_);refine wpAny_bind (oz hl ?_);refine wpAny_bind (wpAny_newList ?_)
 have hsz:((s.heap.push (seqObj "list" #[] 0)).update s.heap.objs.size (Obj.mapSeq (·++vs.toArray))).objs.size=s.heap.objs.size+1:=by
  rw [Heap.size_update,size_push']
 have hoL:(((s.heap.push (seqObj "list" #[] 0)).update s.heap.objs.size (Obj.mapSeq (·++vs.toArray))).push (seqObj "list" vs.toArray 0)).get? (s.heap.objs.size+1)=some (seqObj "list" vs.toArray 0):=by
  rw [<- hsz];exact Heap.get?_push_size _ rfl
 show wpAny _ _ _ _ _ { s with heap:=((s.heap.push (seqObj "list" #[] 0)).update s.heap.objs.size (Obj.mapSeq (·++vs.toArray))).push (seqObj "list" vs.toArray 0) };rw [hsz];refine wpAny_bind (wpAny_holding (wpAny_call_entry slot_list_sort ⟨_,hoL,rfl⟩ entry_list_sort (list_sort_tree hoL hI h64 fun out ns' a1 a2 a3=>⟨_,rfl,?_⟩) (args_list_sort _)));exact wpAny_pure ⟨_,rfl,h out ns' a1 a2 a3⟩
end
section
variable {X:Cx}{K:PySem.W.Frag}
def wC(K:PySem.W.Frag):List V->Hp->VK->Prop:=fun xs H Q=>∃(b:Bool) (p:Addr) (ns:List Int),xs=[.ref p]/\Sq b K H p (ns.map V.int)/\ns.length<64/\∀ns':List Int,ns'.Perm ns->ns'.Pairwise (·<=·)->∀q,H q=none->Q (.ref q) (upd H q (.lst (ns'.map V.int)))
theorem Ba(K:PySem.W.Frag)(e:X.K=K):cp X (.builtin "sorted") (wC K):=by
 subst e;intro pins s σ H xs us Q I r h;obtain⟨b,p,ns,rfl,hS,hne,q⟩:=h;obtain⟨u,rfl,ru⟩:=gw r;cases (show u=Value.ref p from ru)
 cases b with
 | false=>exact A7 X.K rfl pins s σ H _ _ Q I r ⟨p,ns,rfl,hS,hne,q⟩
 | true =>
  obtain⟨its,rv,pl,hz⟩:=I.tuple hS;have hi:=fb rv;have hlen:its.length=ns.length:=by have:=rv.length;rw [length_map] at this;exact this.symm
  refine qb pl hi (by omega) fun out ns' ho hp hs=>?_;obtain⟨e,he⟩:=sortedAll_at s.heap its out;have hle:s.heap.objs.size<=s.heap.objs.size+1:=le_succ _;refine⟨.ref (s.heap.objs.size+1),_,I.laid (a:=s.heap.objs.size+1) (o:=.lst (ns'.map V.int)) (t':=s.toks) (fun b o z=>sortedAll_old z) hle ?_,rfl,q ns' hp hs _ (I.hok.fresh hle)⟩;refine⟨?_,out.toList,e,iT ho,he⟩;rw [length_map,hp.length_eq];exact sz _ (by omega)
def wD:FN
 | [.lst ds],Q=>∃ns:List Int,ds=ns.map .int/\ns.length<64/\∀ns':List Int,ns'.Perm ns->ns'.Pairwise (·<=·)->Q (.own (ns'.map .int))
 | [.tup ds],Q=>∃ns:List Int,ds=ns.map .int/\ns.length<64/\∀ns':List Int,ns'.Perm ns->ns'.Pairwise (·<=·)->Q (.own (ns'.map .int))
 | _,_=>False
theorem yw:LC K (wC K) wD:=by
 intro O H xs as Q Q' dom fs q k;unfold wD at q
 split at q
 .obtain⟨ns,rfl,h0,q⟩:=q
  cases fs with
  | cons a b =>
   cases b;obtain⟨p,ys,rfl,e1,f1⟩:=a.lst;rw [f1.ints] at e1;exact⟨false,p,ns,rfl,SqL.of e1,h0,fun ns' h1 h2 p' hp'=>k _ _ _ (q ns' h1 h2) (Gr.new hp') (er hp' (FVs.of_ints _))⟩
 .obtain⟨ns,rfl,h0,q⟩:=q
  cases fs with
  | cons a b =>
   cases b;obtain⟨p,ys,rfl,_,e1,f1⟩:=a.tup;rw [f1.ints] at e1;exact⟨true,p,ns,rfl,SqT.of e1,h0,fun ns' h1 h2 p' hp'=>k _ _ _ (q ns' h1 h2) (Gr.new hp') (er hp' (FVs.of_ints _))⟩
 .exact q.elim
end
section
variable {prog:Program}{w:World}{A:Around}{E:Value->Shared->Prop}{s:Shared}
theorem qc{it t:Addr}{items:Array Value}(hne:t≠it):∀(n i:Nat) (s:Shared) (Q:List Value->Shared->Prop),s.heap.IsListIter it t i->s.heap.IsList t items->i+n<=items.size ->
  (∀h',h'.IsListIter it t (i+n)->Heap.SameBut it s.heap h'->Q ((items.toList.drop i).take n) { s with heap:=h' })->wpAny (model prog w) A (draw (.ref it) n) Q E s
 | 0,i,s,Q,hit,_,_,hQ=>by
  show wpAny _ _ (pure []) Q E s;exact wpAny_pure (by simpa using hQ s.heap hit (Heap.SameBut.refl ..))
 | n+1,i,s,Q,hit,ht,hle,hQ=>by
  have hlt:i<items.size:=by omega
  show wpAny _ _ (pyNext (.ref it) >>= _) Q E s;refine wpAny_bind (wpAny_pyNext_list_item hit ht (x:=items[i]) (by simp [hlt]) fun h₁ hit₁ hs₁=>?_);refine wpAny_bind (wpAny_holding (qc hne n (i+1) _ _ hit₁ (ht.extBut hs₁.extBut hne) (by omega) fun h₂ hit₂ hs₂=>wpAny_pure ?_));have hd:items.toList.drop i=items[i]::items.toList.drop (i+1):=by simp [drop_eq_getElem_cons,hlt]
  have:=hQ h₂ (by rw [show i+(n+1)=i+1+n by omega];exact hit₂) (hs₁.trans hs₂);rw [hd,take_succ_cons] at this;exact this
theorem kj{t:Addr}{items:Array Value}{Q:List Value->Shared->Prop}(hh:A.handled=none)(ht:s.heap.IsList t items)
  (hQ:∀h',Heap.ExtBut s.heap.objs.size s.heap h'->Q items.toList { s with heap:=h' }):wpAny (model prog w) A (unpackItems (.ref t) items.size none) Q E s:=by
 have hlt:t≠s.heap.objs.size:=by obtain⟨o,ho,_⟩:=ht;exact ne_of_lt (Heap.lt_size ho)
 unfold unpackItems
 refine wpAny_bind ?_
 .unfold notIterableAtAll;refine wpAny_bind (wpAny_specialOf ht.typeIs PySem.F.slot_list_iter.lookup ?_);refine wpAny_pure ?_;simp only [false_eq_true,if_false];refine wpAny_bind (wpAny_holding (wpAny_pyIter_list ht ?_));refine wpAny_bind (wpAny_holding (qc hlt items.size 0 _ _ ⟨_,Heap.get?_push_size _ rfl,rfl,rfl⟩ (ht.push _) (by omega) fun h₁ hit₁ hs₁=>?_))
  have hall:List.take items.size (List.drop 0 items.toList)=items.toList:=by
   rw [drop_zero];exact take_of_length_le (by simp)
  rw [hall];rw [if_neg (by simp)];have ht₁:h₁.IsList t items:=(ht.push _).extBut hs₁.extBut hlt;refine wpAny_bind (wpAny_holding (wpAny_pyNext_list_end hh hit₁ ht₁ (by simp) fun h₂ he₂=>?_));simp only [Option.isSome_none,false_eq_true,if_false];refine wpAny_pure (hQ h₂ fun b o hb e=>he₂ b o hb (hs₁.extBut b o hb (Heap.get?_push_of_some _ e)))
theorem jl{env:Env}{elts:List Expr}{x1}{pos:Pos}{t:Addr}{items:Array Value}{Q:Unit->Shared->Prop}(hh:A.handled=none)(ht:s.heap.IsList t items)
  (hn:(assignEach elts env).length=items.size) (hstar:(assignEach elts env).findIdx? (·.1)=none)
  (h:∀h',Heap.ExtBut s.heap.objs.size s.heap h'->wpAny (model prog w) A (assignInOrder ((assignEach elts env).map (·.2)) items.toList) Q E { s with heap:=h' }) :
  wpAny (model prog w) A (assign (.Tuple elts x1 pos) env (.ref t)) Q E s:=by
 rw [assign_Tuple];refine wpAny_bind (wpAny_standAt ?_);unfold unpack;rw [hn,hstar];exact wpAny_bind (wpAny_holding (kj hh ht h))
end
def Bb(K:PySem.W.Frag)(n:Nat)(t:TGs):TG:=fun v σ H Q=>∃b a xs,v=.ref a/\Sq b K H a xs/\xs.length=n/\t xs σ H Q
section
variable {X:Cx}
theorem qd(K:PySem.W.Frag)(eK:X.K=K){es:List Expr}{k:Nat}{t:TGs}{n:Nat}{pos:Pos}(hc:X.calm=true)(h:PGs X es t)
  (hn:(assignEach es X.env).length=n:=by rfl) (hst:(assignEach es X.env).findIdx? (·.1)=none:=by rfl):PG X (.Tuple es k pos) (Bb K n t):=by
 subst eK;intro pins s σ H v u Q I r hw;obtain⟨b,a,xs,e1,hq,hl,hw⟩:=hw
 cases b with
 | true=>exact B3 hc h hn hst pins s σ H v u Q I r ⟨a,xs,e1,hq,hl,hw⟩
 | false =>
  subst e1;cases r;obtain⟨its,rv,ht,hz⟩:=I.list hq;refine jl (I.ok.hd hc) ht.isList (by simp [hn,<- hl,rv.length]) hst fun h' hx=>?_;have I1:Inv X pins σ H { s with heap:=h' }:=I.kept (t':=s.toks) fun b o e=>hx b o (ne_of_lt (Heap.lt_size e)) e;exact h pins _ σ H xs _ Q I1 (by simpa using rv) hw
def mn(n:Nat)(gs:AL):PTG:=fun p ρ Q=>match p with|.dat (.tup ds)=>ds.length=n/\gs ds ρ Q|.dat (.lst ds)=>ds.length=n/\gs ds ρ Q|.own ds=>ds.length=n/\gs ds ρ Q|_=>False
end
section
variable {K:PySem.W.Frag}{fs:List Nat}
theorem kY{n:Nat}{gs:TGs}{pgs:AL}(h:LGs K fs gs pgs):LGd K fs (Bb K n gs) (mn n pgs):=fun fx A R H0 ρ σ H d v Q Q' hf F r fv q k=>by
 unfold mn at q
 split at q
 .rename_i e;cases e
  cases fv with
  | tup nn e f=>exact⟨true,_,_,rfl,SqT.of e,by rw [f.length];exact q.1,h fx A R H0 ρ σ H _ _ Q Q' hf F r f q.2 k⟩
 .rename_i e;cases e
  cases fv with
  | lst nn e f=>exact⟨false,_,_,rfl,SqL.of e,by rw [f.length];exact q.1,h fx A R H0 ρ σ H _ _ Q Q' hf F r f q.2 k⟩
 .rename_i e;cases e
 .exact q.elim
end
def uq(d:D)(xs:List D):Prop:=d=.lst xs\/d=.tup xs
theorem Bc{d:D}{xs:List D}{Q:PV->Prop}(h:uq d xs)(q:Q (.own xs)):wn [d] Q:=by
 rcases h with rfl|rfl <;> exact q
theorem uq.lst(xs:List D):uq (.lst xs) xs:=.inl rfl
theorem uq.tup(xs:List D):uq (.tup xs) xs:=.inr rfl
def nSt:Expr->Bool
 | .Starred _ _=>false
 | _=>true
theorem iF{e:Expr}{es:List Expr}{env:Env}(h:nSt e=true):starEach (e::es) env=(false,eval e env)::starEach es env:=by
 cases e <;> first|rfl|cases h
theorem gS{env:Env}{pos:Pos}:∀{es:List Expr},es.all nSt=true->(backTo pos (starEach es env)).any (·.1)=false
 | [],_=>rfl
 | e::es,h=>by
  rw [all_cons,and_eq_true] at h;rw [iF h.1];show (false || (backTo pos (starEach es env)).any (·.1))=false;rw [gS h.2];rfl
section
variable {X:Cx}{k:Nat}{x:Str}{ps:List Str}{sp:Sp}{e:Expr}{es:List Expr}{te:TE}{t:TA}{p pos:Pos}{dvs:List V}{C:Addr}{id T:String}{r:List V->Hp->VK->Prop}
theorem paC(ha:PE X e te)(hr:PA X es t)(hn:nSt e=true:=by rfl):PA X (e::es) (bf te t):=Ac ha hr (iF hn)
theorem aw(C:Cal X.prog X.w X.K X.mg X.base k x ps sp)(hr:gx k X.A)(ha:PA X (e::es) t)(hg:Gl X x:=by rfl)(hdb:(x == ("__debug__":Str))=false:=by decide)(hn:nSt e=true:=by rfl)(hp:es.all nSt=true:=by rfl) :
  PE X (.Call (.Name x p) (e::es) [] pos) (ef sp [] E0 t):=CD C hr ha hg hdb (iF hn) (gS hp)
theorem yx(j:Nat)(C:CL X.prog X.w X.K X.mg X.base k x ps dvs sp)(hr:gx k X.A)(hj:j<=dvs.length)(ha:PA X (e::es) t)(hg:Gl X x:=by rfl)(hdb:(x == ("__debug__":Str))=false:=by decide)(hn:nSt e=true:=by rfl)(hp:es.all nSt=true:=by rfl) :
  PE X (.Call (.Name x p) (e::es) [] pos) (ef sp (dvs.drop j) E0 t):=Az j C hr hj ha hg hdb (iF hn) (gS hp)
theorem sZ(M:CM X.prog X.w X.K X.mg X.base k C x ps sp)(hr:gx (k+1) X.A)(ha:PA X (e::es) t)(hg:Gl X x:=by rfl)(hdb:(x == ("__debug__":Str))=false:=by decide)(hn:nSt e=true:=by rfl)(hp:es.all nSt=true:=by rfl) :
  PE X (.Call (.Name x p) (e::es) [] pos) (xN C sp [] E0 t):=AA M hr ha hg hdb (iF hn) (gS hp)
theorem ak(hc:cp X (.builtin id) r)(hg:Gl X x)(hm:X.mg x=none)(hv:bootBuiltins x=some (.builtin id))(ha:PA X (e::es) t)(hnn:x≠"__name__":=by decide)(hdb:(x == ("__debug__":Str))=false:=by decide)(hn:nSt e=true:=by rfl)(hp:es.all nSt=true:=by rfl) :
  PE X (.Call (.Name x p) (e::es) [] pos) (tCB r t):=xQ hc hg hm hv ha hnn hdb (iF hn) (gS hp)
theorem cr(hc:cp X (.type T) r)(hg:Gl X x)(hm:X.mg x=none)(hv:bootBuiltins x=some (.type T))(ha:PA X (e::es) t)(hnn:x≠"__name__":=by decide)(hdb:(x == ("__debug__":Str))=false:=by decide)(hn:nSt e=true:=by rfl)(hp:es.all nSt=true:=by rfl) :
  PE X (.Call (.Name x p) (e::es) [] pos) (tCB r t):=vi hc hg hm hv ha hnn hdb (iF hn) (gS hp)
end
def plT:Expr->Bool
 | .Call _ _ _ _=>true
 | .Name _ _=>true
 | .Subscript _ _ _=>true
 | .Attribute _ _ _=>true
 | _=>false
theorem Bd{e:Expr}{env:Env}(h:plT e=true):∀whole,isTrue e env whole=(do let v <- whole;standAt e.pos;holding [v] (truthy v)):=by
 cases e <;> first|(intro _;rfl)|cases h
theorem eB{X:Cx}{e:Expr}{t:TE}(h:PE X e t)(hp:plT e=true:=by rfl):PT X e (tB t):=BX h (Bd hp)
def gc(a b:List Nat):Bool:=decide (0<=fnd b a 0)
def dU(ps:List (List Nat))(i:Nat):Bool:=!decide (pw ps i∈ps.take i) && !(ps.filter fun o=>decide ((pw ps i).length<o.length)).any fun o=>gc (pw ps i) o
theorem kZ{a b:List Nat}:gc a b=true ↔ ∃k,stA b a k=true:=by
 unfold gc
 constructor
 .intro h;have h0:fnd b a 0≠-1:=fun z=>by rw [z] at h;exact absurd (of_decide_eq_true h) (by decide)
  obtain⟨k,_,_,h1,_⟩:=kx h0;exact⟨k,h1⟩
 .rintro⟨k,hk⟩
  by_cases h0:fnd b a 0=-1
  .rw [x6 h0 k (zero_le _)] at hk;cases hk
  .obtain⟨j,e,_⟩:=kx h0;rw [e];exact decide_eq_true (by omega)
theorem yy(a:List Nat):gc a a=true:=kZ.mpr ⟨0,decide_eq_true ⟨by omega,by rw [drop_zero,take_length]⟩⟩
theorem wE{a b c:List Nat}(h1:gc a b=true)(h2:gc b c=true):gc a c=true:=by
 obtain⟨k1,e1⟩:=kZ.mp h1;obtain⟨k2,e2⟩:=kZ.mp h2;obtain⟨l1,t1⟩:=of_decide_eq_true e1;obtain⟨l2,t2⟩:=of_decide_eq_true e2;refine kZ.mpr ⟨k2+k1,decide_eq_true ⟨by omega,?_⟩⟩
 have hb:b.drop k1=(c.drop (k2+k1)).take (b.length - k1):=by
  rw [<- t2,drop_take,drop_drop,t2]
 have ha:a=((c.drop (k2+k1)).take (b.length - k1)).take a.length:=by rw [<- hb,t1]
 rw [take_take,show min a.length (b.length - k1)=a.length by omega] at ha;exact ha.symm
theorem fF{ps:List (List Nat)}{i:Nat}:dU ps i=true ↔ pw ps i∉ps.take i/\∀o∈ps,(pw ps i).length<o.length->gc (pw ps i) o=false:=by
 unfold dU;rw [and_eq_true,Bool.not_eq_true',Bool.not_eq_true',decide_eq_false_iff_not,any_eq_false]
 constructor
 .rintro⟨h1,h2⟩;refine⟨h1,fun o ho hl=>?_⟩;have:=h2 o (mem_filter.mpr ⟨ho,decide_eq_true hl⟩);simpa using this
 .rintro⟨h1,h2⟩;refine⟨h1,fun o ho=>?_⟩;obtain⟨m1,m2⟩:=mem_filter.mp ho;rw [h2 o m1 (of_decide_eq_true m2)];decide
theorem k6{ps:List (List Nat)}(hw:∀w∈ps,w.length<=60):∀(m i:Nat),i<ps.length->(61 - (pw ps i).length)*(ps.length+1)+i<=m->∃j,j<ps.length/\dU ps j=true/\gc (pw ps i) (pw ps j)=true:=by
 intro m
 induction m with
 | zero =>
  intro i hi h;have hl:=hw _ (mem_of_getElem? (cY hi));have:0<(61 - (pw ps i).length)*(ps.length+1):=mul_pos (by omega) (by omega);omega
 | succ m ih =>
  intro i hi h;have hl:=hw _ (mem_of_getElem? (cY hi))
  by_cases hk:dU ps i=true
  .exact⟨i,hi,hk,yy _⟩
  .by_cases h1:pw ps i∈ps.take i
   .obtain⟨i',hi'⟩:=mem_iff_getElem?.mp h1
    have hlt:i'<i:=by
     have:=(List.getElem?_eq_some_iff.mp hi').1;rw [length_take] at this;omega
    have he:pw ps i'=pw ps i:=by
     rw [getElem?_take,if_pos hlt] at hi';have:=cY (ws:=ps) (k:=i') (by omega);rw [hi'] at this;exact (Option.some.inj this).symm
    obtain⟨j,a1,a2,a3⟩:=ih i' (by omega) (by rw [he];omega);exact⟨j,a1,a2,by rw [<- he];exact a3⟩
   .have h2:∃o∈ps,(pw ps i).length<o.length/\gc (pw ps i) o=true:=by
     apply Classical.byContradiction;intro z;refine hk (fF.mpr ⟨h1,fun o ho hlo=>?_⟩)
     cases hs:gc (pw ps i) o with
     | false=>rfl
     | true=>exact absurd ⟨o,ho,hlo,hs⟩ z
    obtain⟨o,ho,hlo,hs⟩:=h2;obtain⟨i',hi'⟩:=mem_iff_getElem?.mp ho;have hlt:i'<ps.length:=(List.getElem?_eq_some_iff.mp hi').1
    have he:pw ps i'=o:=by
     have:=cY hlt;rw [hi'] at this;exact (Option.some.inj this).symm
    have hm:(61 - o.length+1)*(ps.length+1)<=(61 - (pw ps i).length)*(ps.length+1):=mul_le_mul_right _ (by have:=hw o ho;omega);rw [add_mul,Nat.one_mul] at hm;obtain⟨j,a1,a2,a3⟩:=ih i' hlt (by rw [he];omega);rw [he] at a3;exact⟨j,a1,a2,wE hs a3⟩
theorem ur(a b:List Nat)(k:Nat)(ha:k<=a.length)(hb:k<=b.length):b.take k <:+ a ↔ ∀t,t<k->fn a (a.length - k+t)=fn b t:=by
 have hlt:(b.take k).length=k:=by rw [length_take];omega
 have e1:∀t,t<k->(b.take k)[t]?=some (fn b t):=fun t ht=>by rw [getElem?_take,if_pos ht];exact mS (by omega)
 have e2:∀t,t<k->(a.drop (a.length - k))[t]?=some (fn a (a.length - k+t)):=fun t ht=>by rw [getElem?_drop];exact mS (by omega)
 rw [suffix_iff_eq_drop,hlt]
 constructor
 .intro e t ht;have:=e1 t ht;rw [e,e2 t ht] at this;exact Option.some.inj this
 .intro h;apply ext_getElem?;intro t
  by_cases ht:t<k
  .rw [e1 t ht,e2 t ht,h t ht]
  .rw [getElem?_eq_none (by omega),getElem?_eq_none (by rw [length_drop];omega)]
def oA(a b:List Nat)(k:Nat):Prop:=k<min a.length b.length/\b.take k <:+ a/\∀j,j<min a.length b.length->b.take j <:+ a->j<=k
theorem oA.uniq{a b:List Nat}{j k:Nat}(x:oA a b j)(y:oA a b k):j=k:=le_antisymm (y.2.2 j x.1 x.2.1) (x.2.2 k y.1 y.2.1)
def dz(a b:List Nat):Nat:=open Classical in if h:∃k,oA a b k then Classical.choose h else 0
theorem df{a b:List Nat}(ha:0<a.length)(hb:0<b.length):oA a b (dz a b):=by
 obtain⟨k,h1,h2,h3⟩:=kO (fun k=>b.take k <:+ a) (by rw [take_zero];exact nil_suffix) (min a.length b.length) (by omega);have h:∃k,oA a b k:=⟨k,h1,h2,h3⟩
 unfold dz;rw [dif_pos h];exact Classical.choose_spec h
theorem oB{a b:List Nat}{k:Nat}(h:oA a b k):dz a b=k:=(df (by have:=h.1;omega) (by have:=h.1;omega)).uniq h
def aH(ps:List (List Nat)):List Nat:=(List.range ps.length).filter (dU ps)
def wF(ps:List (List Nat)):List Nat:=(List.range ps.length).filter fun i=>!decide (i∈aH ps)
def af(ps:List (List Nat)):List (List Nat):=(aH ps).map (pw ps)
theorem dW{ps:List (List Nat)}{i:Nat}(h:i∈aH ps):i<ps.length:=mem_range.mp (mem_filter.mp h).1
theorem gT(ps:List (List Nat)):(aH ps).length<=ps.length:=Nat.le_trans (length_filter_le ..) (by rw [length_range];omega)
theorem cJ{m:Nat}{ps:List (List Nat)}(h:Pcs m ps):Pcs m (af ps):=fun w hw=>by
 obtain⟨i,hi,rfl⟩:=mem_map.mp hw;exact h _ (br (dW hi))
theorem jm(ps:List (List Nat)):(af ps).length<=ps.length:=by unfold af;rw [length_map];exact gT ps
def k8(ps:List (List Nat))(i:Nat):List Nat:=(aH ps).filter fun j=>gc (pw ps i) (pw ps j)
def tm(ps:List (List Nat))(i:Nat):Nat:=(k8 ps i).headD 0
theorem yz{l:List Nat}(h:l.Pairwise (·<·)){m:Nat}(hm:m∈l)(hle:∀a∈l,m<=a):l.headD 0=m:=by
 cases l with
 | nil=>cases hm
 | cons x r =>
  show x=m;have h1:=hle x (mem_cons_self ..)
  rcases mem_cons.mp hm with e|e
  .exact e.symm
  .have:=(pairwise_cons.mp h).1 m e;omega
theorem jU(ps:List (List Nat)):(aH ps).Pairwise (·<·):=pairwise_lt_range.filter _
theorem wG{ps:List (List Nat)}{i m:Nat}(hm:m∈k8 ps i)(hle:∀a∈k8 ps i,m<=a):tm ps i=m:=yz ((jU ps).filter _) hm hle
theorem ut{ps:List (List Nat)}(hw:∀w∈ps,w.length<=60){i:Nat}(hi:i<ps.length):∃j,j∈k8 ps i:=by
 obtain⟨j,h1,h2,h3⟩:=k6 hw _ i hi (le_refl _);exact⟨j,mem_filter.mpr ⟨mem_filter.mpr ⟨mem_range.mpr h1,h2⟩,h3⟩⟩
def eC(ps:List (List Nat))(i:Nat):D:=.tup [.int (i:Int),.int (tm ps i:Int),.int (fnd (pw ps (tm ps i)) (pw ps i) 0)]
def mo(ws:List (List Nat)):D:=.tup (ws.map fun w=>.tup (ws.map fun v=>.int (dz w v:Int)))
def rA(ps:List (List Nat)):Int:=((af ps).map fun w=>(w.length:Int)).sum
def nD(k:Nat):D:=.int (k:Int)
def oE:List Str:=["pieces","kept","words","left","laps","total"]
def oF(ps:List (List Nat)):List D:=[.tup (ps.map .str),.tup ((aH ps).map nD),.tup ((af ps).map .str),.tup ((wF ps).map (eC ps)),mo (af ps),.int (rA ps)]
theorem wH{ks:List Nat}{k:Nat}(h:k<(ks.map nD).length):itD (ks.map nD) k=.int ((ks.getD k 0:Nat):Int):=h9 (by
 have h:k<ks.length:=by rwa [length_map] at h
 rw [getElem?_map,getD_eq_getElem?_getD,getElem?_eq_getElem h];rfl)
theorem oG(w:List Nat):∀ws:List (List Nat),inD (.str w) (ws.map .str)=decide (w∈ws)
 | []=>by simp [inD]
 | v::r=>by
  have ih:=oG w r;unfold inD at ih ⊢;rw [map_cons,any_cons,ih];show ((v == w) || decide (w∈r))=_
  by_cases h:v=w
  .subst h;simp
  .rw [beq_eq_false_iff_ne.mpr h,Bool.false_or]
   by_cases h2:w∈r
   .rw [decide_eq_true h2,decide_eq_true (mem_cons_of_mem _ h2)]
   .rw [decide_eq_false h2,decide_eq_false (fun z=>(mem_cons.mp z).elim (fun e=>h e.symm) h2)]
theorem wI(k:Nat):∀ks:List Nat,inD (.int (k:Int)) (ks.map nD)=decide (k∈ks)
 | []=>by simp [inD]
 | v::r=>by
  have ih:=wI k r;unfold inD at ih ⊢;rw [map_cons,any_cons,ih];show (((v:Int) == (k:Int)) || decide (k∈r))=_
  by_cases h:v=k
  .subst h;simp
  .rw [show ((v:Int) == (k:Int))=false from beq_eq_false_iff_ne.mpr (by omega),Bool.false_or]
   by_cases h2:k∈r
   .rw [decide_eq_true h2,decide_eq_true (mem_cons_of_mem _ h2)]
   .rw [decide_eq_false h2,decide_eq_false (fun z=>(mem_cons.mp z).elim (fun e=>h e.symm) h2)]
theorem wJ(ws:List (List Nat)):(ws.map D.str).all D.fl=true:=by rw [all_map];exact all_eq_true.mpr fun _ _=>rfl
theorem Dt(ks:List Nat):(ks.map nD).all D.fl=true:=by rw [all_map];exact all_eq_true.mpr fun _ _=>rfl
theorem Be(n:Nat):sS 0 n=(List.range n).map nD:=by
 unfold sS nD;exact map_congr_left fun k _=>by rw [Int.zero_add]
theorem mZ(ws:List (List Nat)):(List.range ws.length).map (pw ws)=ws:=by
 apply ext_getElem?;intro k;rw [getElem?_map]
 by_cases hk:k<ws.length
 .rw [getElem?_range hk,cY hk];rfl
 .rw [getElem?_eq_none (by rw [length_range];omega),getElem?_eq_none (by omega)];rfl
theorem yA{β:Type}(f:List Nat->Option β)(ws:List (List Nat)):(List.range ws.length).filterMap (fun k=>f (pw ws k))=ws.filterMap f:=by
 conv=>rhs;rw [<- mZ ws]
 rw [filterMap_map];rfl
theorem du{α β:Type}(p:α->Bool)(g:α->β):∀l:List α,l.filterMap (fun a=>if p a=true then some (g a) else none)=(l.filter p).map g
 | []=>rfl
 | a::r=>by
  rw [filterMap_cons,filter_cons]
  cases h:p a with
  | true=>simp [du p g r]
  | false=>simp [du p g r]
theorem yB{β:Type}(f:Nat->Option β)(ks:List Nat):(List.range ks.length).filterMap (fun k=>f (ks.getD k 0))=ks.filterMap f:=by
 have e:(List.range ks.length).map (fun k=>ks.getD k 0)=ks:=by
  have:=fE (fun k=>k) ks;rw [List.map_id'] at this;exact this
 conv=>rhs;rw [<- e]
 rw [filterMap_map];rfl
theorem jn(n:Nat):(sS 0 n).length=n:=by unfold sS;rw [length_map,length_range]
theorem oH{n j:Nat}(h:j<(sS 0 n).length):itD (sS 0 n) j=.int (j:Int):=h9 (by
 rw [jn] at h;unfold sS;rw [getElem?_map,getElem?_range h];show some (D.int (0+(j:Int)))=_;rw [Int.zero_add])
theorem yC(a b:List Int):deq (.lst (a.map .int)) (.lst (b.map .int))=decide (a=b):=by
 unfold deq;show PyData.eqv (.list (D.pys _)) (.list (D.pys _))=_;rw [ou,ou];simp only [PyData.eqv];exact kN a b
open PySem.Builtin PySem.Builtin.ObjectAttr
open PySem.Builtin PySem.Builtin.ObjectAttr
open PySem.Builtin PySem.Builtin.ObjectAttr
open PySem.Builtin PySem.Builtin.ObjectAttr
theorem wK(d:D):(PV.dat d).d=d:=rfl
theorem wM(ds:List D):(PV.own ds).d=.lst ds:=rfl
theorem wN(c:Str)(ns:List Str)(ds:List D):(PV.ins c ns ds).d=.obj c ns ds:=rfl
theorem Du(ds:List D):mkL false ds=.own ds:=rfl
theorem Dv(ds:List D):mkL true ds=.dat (.tup ds):=rfl
def pkm(ρ:PSt)(j:Nat):Option PV:=match ρ[j]? with
 | some v=>v
 | none=>none
theorem tq(v:Option PV)(r:PSt):pkm (v::r) 0=v:=rfl
theorem tu(v:Option PV)(r:PSt)(n:Nat):pkm (v::r) (n+1)=pkm r n:=rfl
theorem qe(ρ:PSt):cA [] ρ=[]:=rfl
theorem m8(ix:List (Option Nat))(ρ:PSt):cA (none::ix) ρ=none::cA ix ρ:=rfl
theorem m9(j:Nat)(ix:List (Option Nat))(ρ:PSt):cA (some j::ix) ρ=pkm ρ j::cA ix ρ:=rfl
theorem qf(j:Nat)(ix:List (Option Nat))(ρ:PSt)(t:Option PV)(τ:PSt):gp (some j::ix) ρ (t::τ)=gp ix (ρ.set j t) τ:=rfl
theorem qg(ix:List (Option Nat))(ρ:PSt)(t:Option PV)(τ:PSt):gp (none::ix) ρ (t::τ)=gp ix ρ τ:=rfl
theorem tw(ρ τ:PSt):gp [] ρ τ=ρ:=rfl
def EX(pe:PTE):PTE:=fun ρ Q=>pe ρ fun p ρ1=>Q (.dat p.d) ρ1
theorem zp{K:PySem.W.Frag}{ta:TE}{pe:PTE}(h:LE K ta pe):LE K ta (EX pe):=fun A ρ σ H Q Q' R q k=>h A ρ σ H _ Q' R q fun v H' p ρ' q f o=>k v H' (.dat p.d) ρ' q f o.frz
theorem wO{α:Type}{e:α->D}{xs:List α}{k:Nat}(h:k<xs.length):itD (xs.map e) k=e xs[k]:=h9 (by rw [getElem?_map,getElem?_eq_getElem h];rfl)
theorem wP{α β:Type}(f:α->β)(xs:List α)(g:Nat->β)(h:∀k (hk:k<xs.length),g k=f xs[k]):(List.range xs.length).map g=xs.map f:=by
 apply ext_getElem?;intro i;rw [getElem?_map,getElem?_map]
 by_cases hi:i<xs.length
 .rw [getElem?_range hi,getElem?_eq_getElem hi];exact congrArg some (h i hi)
 .rw [getElem?_eq_none (by rw [length_range];omega),getElem?_eq_none (by omega)];rfl
section
variable {α:Type}{e:α->D}{xs:List α}{ix:List (Option Nat)}{ρ1:PSt}{g:PTG}{pt:PTT}{pe:PTE}{Q:PKt}
theorem FW(T:PSt->Prop)(f:α->Option D)(h0:T (cA ix ρ1))
  (hs:∀x∈xs,∀τ,T τ->∀(K1:D->PSt->Prop) (K2:PSt->Prop),(∀d τ',f x=some d->T τ'->K1 d τ')->(∀τ',f x=none->T τ'->K2 τ')->g (.dat (e x)) τ fun τ2=>pt τ2 fun ok τ3=>iB ok (pe τ3 fun p τ4=>K1 p.d τ4) (K2 τ3))
  (hq:∀τ,T τ->Q (.own (xs.filterMap f)) (gp ix ρ1 τ)):oh ix ρ1 (xs.map e).length (itD (xs.map e)) g pt pe Q:=by
 refine cfm T (fun k=>(xs[k]?).bind f) h0 (fun k τ d hk ed t K1 K2 k1 k2=>?_) fun τ t=>?_
 .rw [length_map] at hk;rw [wO hk] at ed;subst ed;have eg:(xs[k]?).bind f=f xs[k]:=by rw [getElem?_eq_getElem hk];rfl
  rw [eg] at k1 k2;exact hs _ (getElem_mem hk) τ t K1 K2 k1 k2
 .have e1:(List.range (xs.map e).length).filterMap (fun k=>(xs[k]?).bind f)=xs.filterMap f:=by
   rw [length_map];have h1:(List.range xs.length).map (fun k=>(xs[k]?).bind f)=xs.map f:=wP f xs _ fun k hk=>by rw [getElem?_eq_getElem hk];rfl
   have h2:∀l:List Nat,l.filterMap (fun k=>(xs[k]?).bind f)=(l.map fun k=>(xs[k]?).bind f).filterMap id:=fun l=>by rw [filterMap_map];rfl
   rw [h2,h1,filterMap_map];rfl
  rw [e1];exact hq τ t
theorem Dw(T:PSt->Prop)(f:α->D)(h0:T (cA ix ρ1))
  (hs:∀x∈xs,∀τ,T τ->∀K1:D->PSt->Prop,(∀τ',T τ'->K1 (f x) τ')->g (.dat (e x)) τ fun τ2=>pe τ2 fun p τ4=>K1 p.d τ4)
  (hq:∀τ,T τ->Q (.own (xs.map f)) (gp ix ρ1 τ)):oh ix ρ1 (xs.map e).length (itD (xs.map e)) g jR pe Q:=by
 refine FW T (fun x=>some (f x)) h0 (fun x hx τ t K1 K2 k1 k2=>?_) fun τ t=>?_
 .exact hs x hx τ t K1 fun τ' t'=>k1 _ τ' rfl t'
 .rw [show xs.filterMap (fun x=>some (f x))=xs.map f by rw [<- filterMap_eq_map];rfl];exact hq τ t
theorem cm1(f:α->D)
  (hs:∀x∈xs,∀(v:Option PV) (K1:D->PSt->Prop),(∀v',K1 (f x) (v'::(cA ix ρ1).tail))->g (.dat (e x)) (v::(cA ix ρ1).tail) fun τ2=>pe τ2 fun p τ4=>K1 p.d τ4)
  (hq:∀v:Option PV,Q (.own (xs.map f)) (gp ix ρ1 (v::(cA ix ρ1).tail))) (hx:cA ix ρ1=none::(cA ix ρ1).tail:=by rfl):oh ix ρ1 (xs.map e).length (itD (xs.map e)) g jR pe Q:=by
 refine Dw (fun τ=>∃v,τ=v::(cA ix ρ1).tail) f ⟨none,hx⟩ ?_ ?_
 .rintro x hx τ ⟨v,rfl⟩ K1 k1;exact hs x hx v K1 fun v'=>k1 _ ⟨v',rfl⟩
 .rintro τ ⟨v,rfl⟩;exact hq v
end
theorem cmR{ix:List (Option Nat)}{ρ1:PSt}{g:PTG}{pe:PTE}{Q:PKt}{n:Nat}{it:Nat->D}(f:Nat->D)
  (hs:∀k,k<n->∀(v:Option PV) (K1:D->PSt->Prop),(∀v',K1 (f k) (v'::(cA ix ρ1).tail))->g (.dat (it k)) (v::(cA ix ρ1).tail) fun τ2=>pe τ2 fun p τ4=>K1 p.d τ4)
  (hq:∀v:Option PV,Q (.own ((List.range n).map f)) (gp ix ρ1 (v::(cA ix ρ1).tail))) (hx:cA ix ρ1=none::(cA ix ρ1).tail:=by rfl):oh ix ρ1 n it g jR pe Q:=by
 refine xB (fun τ=>∃v,τ=v::(cA ix ρ1).tail) f ⟨none,hx⟩ ?_ ?_
 .rintro k τ d hk rfl ⟨v,rfl⟩ K1 k1;exact hs k hk v K1 fun v'=>k1 _ ⟨v',rfl⟩
 .rintro τ ⟨v,rfl⟩;exact hq v
theorem cfR{ix:List (Option Nat)}{ρ1:PSt}{g:PTG}{pt:PTT}{pe:PTE}{Q:PKt}{n:Nat}{it:Nat->D}(p:Nat->Bool)(f:Nat->D)
  (hs:∀k,k<n->∀(v:Option PV) (K1:D->PSt->Prop) (K2:PSt->Prop),(∀v',p k=true->K1 (f k) (v'::(cA ix ρ1).tail))->(∀v',p k=false->K2 (v'::(cA ix ρ1).tail))->g (.dat (it k)) (v::(cA ix ρ1).tail) fun τ2=>pt τ2 fun ok τ3=>iB ok (pe τ3 fun p τ4=>K1 p.d τ4) (K2 τ3))
  (hq:∀v:Option PV,Q (.own (((List.range n).filter p).map f)) (gp ix ρ1 (v::(cA ix ρ1).tail))) (hx:cA ix ρ1=none::(cA ix ρ1).tail:=by rfl):oh ix ρ1 n it g pt pe Q:=by
 refine cfm (fun τ=>∃v,τ=v::(cA ix ρ1).tail) (fun k=>if p k=true then some (f k) else none) ⟨none,hx⟩ ?_ ?_
 .rintro k τ d hk rfl ⟨v,rfl⟩ K1 K2 k1 k2;exact hs k hk v K1 K2 (fun v' h=>k1 _ _ (by rw [if_pos h]) ⟨v',rfl⟩) fun v' h=>k2 _ (by rw [if_neg (by rw [h];decide)]) ⟨v',rfl⟩
 .rintro τ ⟨v,rfl⟩;rw [du];exact hq v
section
variable {α:Type}{e:α->D}{xs:List α}{ρ1:PSt}{g:PTG}{pb:PTS}{nx bk:PSt->Prop}{rt:PV->PSt->Prop}
theorem EY(J:List α->PSt->Prop)(h0:J [] ρ1)
  (hs:∀pre x suf ρ,xs=pre++x::suf->J pre ρ->g (.dat (e x)) ρ fun ρ2=>pb { nx:=J (pre++[x]),rt:=rt,bk:=bk,ct:=J (pre++[x]) } ρ2) (hq:∀ρ,J xs ρ->nx ρ) :
  ∃I:Nat->PSt->Prop,I 0 ρ1/\(∀k ρ d,k<(xs.map e).length->d=itD (xs.map e) k->I k ρ->g (.dat d) ρ fun ρ2=>pb { nx:=I (k+1),rt:=rt,bk:=bk,ct:=I (k+1) } ρ2)/\∀ρ,I (xs.map e).length ρ->nx ρ:=by
 refine⟨fun k ρ=>J (xs.take k) ρ,by show J (xs.take 0) ρ1;rw [take_zero];exact h0,fun k ρ d hk ed hJ=>?_,fun ρ h=>hq ρ (by have h:J (xs.take (xs.map e).length) ρ:=h;rw [length_map,take_length] at h;exact h)⟩;rw [length_map] at hk;rw [wO hk] at ed;subst ed;have ht:xs.take (k+1)=xs.take k++[xs[k]]:=by rw [take_succ,getElem?_eq_getElem hk];rfl
 show g _ ρ fun ρ2=>pb { nx:=J (xs.take (k+1)),rt:=rt,bk:=bk,ct:=J (xs.take (k+1)) } ρ2;rw [ht];exact hs _ _ (xs.drop (k+1)) ρ (by rw [getElem_cons_drop,take_append_drop]) hJ
end
theorem wQ{t w:List Nat}{k:Nat}:stA t w k=true ↔ ∃a b,t=a++w++b/\a.length=k:=by
 unfold stA;rw [decide_eq_true_eq]
 constructor
 .rintro⟨h1,h2⟩;refine⟨t.take k,t.drop (k+w.length),?_,by rw [length_take];omega⟩
  have h3:t.drop k=w++t.drop (k+w.length):=by
   conv=>lhs;rw [<- take_append_drop w.length (t.drop k),h2,drop_drop]
  rw [append_assoc,<- h3,take_append_drop]
 .rintro⟨a,b,rfl,rfl⟩;refine⟨by rw [length_append,length_append];omega,?_⟩;rw [append_assoc,drop_left,take_left]
theorem fj{a b:List Nat}:gc a b=true ↔ a <:+: b:=by
 rw [kZ]
 constructor
 .rintro⟨k,hk⟩;obtain⟨u,v,e,_⟩:=wQ.mp hk;exact⟨u,v,e.symm⟩
 .rintro⟨u,v,e⟩;exact⟨u.length,wQ.mpr ⟨u,v,e.symm,rfl⟩⟩
theorem oI{a b:List Nat}:gc a b=true ↔ 0<=fnd b a 0:=by unfold gc;exact decide_eq_true_iff
theorem yD{a b:List Nat}:gc a b=false ↔ fnd b a 0<0:=by
 unfold gc;rw [decide_eq_false_iff_not];omega
theorem yE{a b t:List Nat}{k:Nat}(h:oA a b k)(ht:a <:+ t):b <:+ t++b.drop k:=by
 obtain⟨u,hu⟩:=List.IsSuffix.trans h.2.1 ht;refine⟨u,?_⟩;rw [<- hu,append_assoc,take_append_drop]
theorem wR{α β:Type}(f:α->β)(xs:List α)(i:Nat):(xs.map f).eraseIdx i=(xs.eraseIdx i).map f:=by
 rw [eraseIdx_eq_take_drop_succ,eraseIdx_eq_take_drop_succ,map_append,map_take,map_drop]
theorem wS{α:Type}{js:List α}{i:Nat}(h:i<js.length):(js.eraseIdx i++[js[i]]).Perm js:=by
 rw [eraseIdx_eq_take_drop_succ,append_assoc];have e:js=js.take i++(js[i]::js.drop (i+1)):=by rw [getElem_cons_drop,take_append_drop]
 conv=>rhs;rw [e]
 exact List.Perm.append_left _ (perm_append_singleton _ _)
theorem FY{n i:Nat}(h:i<n):ixN n (i:Int)=some i:=by
 unfold ixN;rw [if_pos (by omega),if_pos (by omega),toNat_natCast]
theorem rB{α:Type}{P:List α->Prop}(h0:P [])(h1:∀l a,P l->P (l++[a]))(l:List α):P l:=by
 have go:∀r:List α,P r.reverse:=fun r=>by
  induction r with
  | nil=>exact h0
  | cons a r ih=>rw [reverse_cons];exact h1 _ _ ih
 have:=go l.reverse
 rwa [reverse_reverse] at this
def glT(ws:List (List Nat)):Nat->List Nat->List Nat
 | _,[]=>[]
 | i,j::r=>(pw ws j).drop (dz (pw ws i) (pw ws j))++glT ws j r
def glN(ws:List (List Nat)):List Nat->List Nat
 | []=>[]
 | j::r=>pw ws j++glT ws j r
def zq(ws:List (List Nat)):Nat->List Nat->Nat
 | _,[]=>0
 | i,j::r=>dz (pw ws i) (pw ws j)+zq ws j r
def EZ(ws:List (List Nat)):List Nat->Nat
 | []=>0
 | j::r=>zq ws j r
theorem tz(ws:List (List Nat))(j:Nat):∀(i:Nat) (r:List Nat) (l:Nat),glT ws i (r++[l]++[j])=glT ws i (r++[l])++(pw ws j).drop (dz (pw ws l) (pw ws j))
 | i,[],l=>by
  show (pw ws l).drop _++((pw ws j).drop _++[])=(pw ws l).drop _++[]++_;rw [append_nil,append_nil]
 | i,a::r,l=>by
  show (pw ws a).drop _++glT ws a (r++[l]++[j])=(pw ws a).drop _++glT ws a (r++[l])++_;rw [tz ws j a r l,append_assoc]
theorem oJ(ws:List (List Nat))(pre:List Nat)(l j:Nat):glN ws (pre++[l]++[j])=glN ws (pre++[l])++(pw ws j).drop (dz (pw ws l) (pw ws j)):=by
 cases pre with
 | nil=>show pw ws l++((pw ws j).drop _++[])=pw ws l++[]++_;rw [append_nil,append_nil]
 | cons a r =>
  show pw ws a++glT ws a (r++[l]++[j])=pw ws a++glT ws a (r++[l])++_;rw [tz,append_assoc]
theorem wT{ws:List (List Nat)}:∀{i:Nat}{r:List Nat},0<(pw ws i).length->(∀j∈r,0<(pw ws j).length)->(glT ws i r).length+zq ws i r=(r.map fun j=>(pw ws j).length).sum
 | i,[],_,_=>rfl
 | i,j::r,hi,h=>by
  have hj:=h j (mem_cons_self ..);have ih:=wT (i:=j) (r:=r) hj fun k hk=>h k (mem_cons_of_mem _ hk);have hl:=(df hi hj).1;show ((pw ws j).drop _++glT ws j r).length+(dz _ _+zq ws j r)=_;rw [length_append,length_drop,map_cons,sum_cons,<- ih];omega
theorem wU{ws:List (List Nat)}{js:List Nat}(h:∀j∈js,0<(pw ws j).length):(glN ws js).length+EZ ws js=(js.map fun j=>(pw ws j).length).sum:=by
 cases js with
 | nil=>rfl
 | cons j r =>
  have:=wT (h j (mem_cons_self ..)) fun k hk=>h k (mem_cons_of_mem _ hk);show (pw ws j++glT ws j r).length+zq ws j r=_;rw [length_append,map_cons,sum_cons,<- this];omega
theorem Bf{ws:List (List Nat)}:∀{pre:List Nat}{l:Nat},(∀j∈pre++[l],0<(pw ws j).length)->pw ws l <:+ glN ws (pre++[l]):=fun {pre}=>by
 induction pre using rB with
 | h0=>intro l _;exact⟨[],by show pw ws l=pw ws l++[];rw [append_nil]⟩
 | h1 pre a ih =>
  intro l h;rw [oJ];have ha:=h a (by simp);have hl:=h l (by simp);exact yE (df ha hl) (ih fun j hj=>h j (mem_append_left _ hj))
theorem Bg{ws:List (List Nat)}(pre suf:List Nat):glN ws pre <+: glN ws (pre++suf):=by
 induction suf using rB with
 | h0=>rw [append_nil];exact prefix_refl _
 | h1 suf a ih =>
  rw [<- append_assoc]
  rcases eq_nil_or_concat (pre++suf) with e|⟨r,l,e⟩
  .have:pre=[]:=(append_eq_nil_iff.mp e).1;rw [this];exact nil_prefix
  .rw [concat_eq_append] at e;rw [e] at ih ⊢;rw [oJ];exact ih.trans (prefix_append _ _)
theorem zr{ws:List (List Nat)}{js:List Nat}(h:∀j∈js,0<(pw ws j).length){j:Nat}(hj:j∈js):pw ws j <:+: glN ws js:=by
 obtain⟨pre,suf,rfl⟩:=append_of_mem hj;have e:pre++j::suf=(pre++[j])++suf:=by simp
 rw [e] at h ⊢;exact (Bf fun k hk=>h k (mem_append_left _ hk)).isInfix.trans (Bg _ suf).isInfix
theorem wV{t:List Nat}{a b c:Nat}(h1:a<=b)(h2:b<=c):(t.drop a).take (b - a)++(t.drop b).take (c - b)=(t.drop a).take (c - a):=by
 rw [show c - a=(b - a)+(c - b) by omega,take_add,drop_drop,show a+(b - a)=b by omega]
theorem qh{ws:List (List Nat)}{t:List Nat}{P:Nat->Nat}:∀{i:Nat}{r:List Nat},(∀j∈i::r,0<(pw ws j).length/\stA t (pw ws j) (P j)=true)->(i::r).Pairwise (fun a b=>P a<P b)->(i::r).Pairwise (fun a b=>¬ pw ws b <:+: pw ws a) ->
  ∃e,e<=t.length/\P i+(pw ws i).length<=e/\(glT ws i r).length<=e - (P i+(pw ws i).length)/\((glT ws i r).length=e - (P i+(pw ws i).length)->glT ws i r=(t.drop (P i+(pw ws i).length)).take (e - (P i+(pw ws i).length)))
 | i,[],h,_,_=>⟨P i+(pw ws i).length,(of_decide_eq_true (h i (mem_cons_self ..)).2).1,le_refl _,zero_le _,fun _=>by rw [Nat.sub_self,take_zero];rfl⟩
 | i,j::r,h,hp,ha=>by
  obtain⟨p1,p2⟩:=pairwise_cons.mp hp;obtain⟨a1,a2⟩:=pairwise_cons.mp ha;obtain⟨e,e1,e2,e3,e4⟩:=qh (i:=j) (r:=r) (fun k hk=>h k (mem_cons_of_mem _ hk)) p2 a2;have hij:=p1 j (mem_cons_self ..);have nij:=a1 j (mem_cons_self ..);obtain⟨i0,iS⟩:=h i (mem_cons_self ..);obtain⟨j0,jS⟩:=h j (mem_cons_of_mem _ (mem_cons_self ..));obtain⟨iL,iE⟩:=of_decide_eq_true iS;obtain⟨jL,jE⟩:=of_decide_eq_true jS;obtain⟨k1,k2,k3⟩:=df i0 j0
  generalize hwi:pw ws i=wi at *;generalize hwj:pw ws j=wj at *
  have hend:P i+wi.length<P j+wj.length:=by
   rcases lt_or_ge (P i+wi.length) (P j+wj.length) with z|z
   .exact z
   .refine absurd ?_ nij
    have e:wj=((wi.drop (P j - P i)).take wj.length):=by
     conv=>rhs;rw [<- iE]
     rw [drop_take,drop_drop,show P i+(P j - P i)=P j by omega,take_take,show min wj.length (wi.length - (P j - P i))=wj.length by omega,jE]
    rw [e];exact (take_prefix _ _).isInfix.trans (drop_suffix _ _).isInfix
  have hgl:glT ws i (j::r)=wj.drop (dz wi wj)++glT ws j r:=by show (pw ws j).drop (dz (pw ws i) (pw ws j))++_=_;rw [hwi,hwj]
  have hk:P i+wi.length - P j<=dz wi wj:=by
   rcases eq_zero_or_pos (P i+wi.length - P j) with z|z
   .omega
   .refine k3 _ (by omega) ?_;refine⟨wi.take (wi.length - (P i+wi.length - P j)),?_⟩
    have e:wj.take (P i+wi.length - P j)=wi.drop (wi.length - (P i+wi.length - P j)):=by
     conv=>lhs;rw [<- jE]
     conv=>rhs;rw [<- iE]
     rw [take_take,drop_take,drop_drop]
     congr 1
     .rw [length_take,length_drop];omega
     .congr 1;rw [length_take,length_drop];omega
    rw [e,take_append_drop]
  refine⟨e,e1,by omega,?_,fun he=>?_⟩
  .rw [hgl,length_append,length_drop];omega
  .rw [hgl,length_append,length_drop] at he;have o1:P j<=P i+wi.length:=by omega
   have o2:dz wi wj=P i+wi.length - P j:=by omega
   rw [hgl,e4 (by omega),<- wV (t:=t) (a:=P i+wi.length) (b:=P j+wj.length) (c:=e) (by omega) (by omega)];congr 1;rw [o2]
   conv=>lhs;rw [<- jE]
   rw [drop_take,drop_drop,show P j+(P i+wi.length - P j)=P i+wi.length by omega];congr 1;omega
theorem wW{ws:List (List Nat)}{t:List Nat}{P:Nat->Nat}{js:List Nat}(h:∀j∈js,0<(pw ws j).length/\stA t (pw ws j) (P j)=true)(hp:js.Pairwise (fun a b=>P a<P b))(ha:js.Pairwise (fun a b=>¬ pw ws b <:+: pw ws a)) :
  (glN ws js).length<=t.length/\((glN ws js).length=t.length->glN ws js=t):=by
 cases js with
 | nil=>exact⟨zero_le _,fun e=>(length_eq_zero_iff.mp e.symm).symm⟩
 | cons i r =>
  obtain⟨e,e1,e2,e3,e4⟩:=qh h hp ha;obtain⟨iL,iE⟩:=of_decide_eq_true (h i (mem_cons_self ..)).2;have hg:glN ws (i::r)=pw ws i++glT ws i r:=rfl;rw [hg,length_append];refine⟨by omega,fun z=>?_⟩;have p0:P i=0:=by omega
  rw [e4 (by omega)];have el:e=t.length:=by omega
  rw [p0,drop_zero] at iE;rw [el,p0,Nat.zero_add];have:=wV (t:=t) (a:=0) (b:=(pw ws i).length) (c:=t.length) (zero_le _) (by omega);rw [drop_zero,Nat.sub_zero,Nat.sub_zero,take_length,iE] at this;exact this
theorem wX{a b:List Nat}(h:a <:+: b):a.length<=b.length:=h.length_le
theorem uu{ps:List (List Nat)}{a b:Nat}(ha:a<ps.length)(hb:b<ps.length)(ka:dU ps a=true)(kb:dU ps b=true)(h:a≠b):¬ pw ps a <:+: pw ps b:=fun hi=>by
 obtain⟨a1,a2⟩:=fF.mp ka;obtain⟨b1,b2⟩:=fF.mp kb
 rcases lt_or_ge (pw ps a).length (pw ps b).length with z|z
 .have:=a2 _ (br hb) z;rw [fj.mpr hi] at this;cases this
 .have e:pw ps a=pw ps b:=hi.eq_of_length (by have:=wX hi;omega)
  have mem:∀{x y:Nat},x<y->y<ps.length->pw ps x=pw ps y->pw ps y∈ps.take y:=fun {x y} h1 h2 h3=>by
   rw [<- h3];refine mem_of_getElem? (i:=x) ?_;rw [getElem?_take,if_pos h1];exact cY (by omega)
  rcases lt_or_ge a b with z|z
  .exact b1 (mem z hb e)
  .exact a1 (mem (by omega) ha e.symm)
theorem tD{ps:List (List Nat)}{i:Nat}(h:i<(af ps).length):∃k,(aH ps)[i]?=some k/\pw (af ps) i=pw ps k/\k<ps.length/\dU ps k=true:=by
 have hk:i<(aH ps).length:=by unfold af at h;rwa [length_map] at h
 have hm:=getElem_mem hk;refine⟨(aH ps)[i],getElem?_eq_getElem hk,?_,dW hm,(mem_filter.mp hm).2⟩;unfold af pw;rw [getD_eq_getElem?_getD,getElem?_map,getElem?_eq_getElem hk];rfl
theorem dn{ps:List (List Nat)}{i j:Nat}(hi:i<(af ps).length)(hj:j<(af ps).length)(h:i≠j):¬ pw (af ps) i <:+: pw (af ps) j:=by
 obtain⟨a,a1,a2,a3,a4⟩:=tD hi;obtain⟨b,b1,b2,b3,b4⟩:=tD hj;rw [a2,b2];refine uu a3 b3 a4 b4 fun e=>h ?_;subst e;have nd:(aH ps).Nodup:=(jU ps).imp fun h=>ne_of_lt h;have l1:=(List.getElem?_eq_some_iff.mp a1).1;exact (getElem?_inj l1 nd).mp (a1.trans b1.symm)
theorem yF{ps:List (List Nat)}{t:List Nat}(hw:∀w∈ps,w.length<=60)(h:∀w∈af ps,w <:+: t){p:List Nat}(hp:p∈ps):p <:+: t:=by
 obtain⟨i,hi,rfl⟩:=getElem_of_mem hp;have e:pw ps i=ps[i]:=Option.some.inj ((cY hi).symm.trans (getElem?_eq_getElem hi));obtain⟨j,j1,j2,j3⟩:=k6 hw _ i hi (le_refl _);rw [e] at j3;exact (fj.mp j3).trans (h _ (mem_map.mpr ⟨j,mem_filter.mpr ⟨mem_range.mpr j1,j2⟩,rfl⟩))
theorem FZ{α β:Type}(f:α->β)(xs:List α):dH (xs.map f) (some 1) none=(xs.tail).map f:=by
 rw [show (1:Int)=((1:Nat):Int) from rfl,gA,<- map_drop,drop_one]
theorem cm2{α:Type}{e:α->D}{xs:List α}{ix:List (Option Nat)}{ρ1:PSt}{g:PTG}{pe:PTE}{Q:PKt}(f:α->D)
  (hs:∀x∈xs,∀(v w:Option PV) (K1:D->PSt->Prop),(∀v' w',K1 (f x) (v'::w'::(cA ix ρ1).tail.tail))->g (.dat (e x)) (v::w::(cA ix ρ1).tail.tail) fun τ2=>pe τ2 fun p τ4=>K1 p.d τ4)
  (hq:∀v w:Option PV,Q (.own (xs.map f)) (gp ix ρ1 (v::w::(cA ix ρ1).tail.tail))) (hx:cA ix ρ1=none::none::(cA ix ρ1).tail.tail:=by rfl):oh ix ρ1 (xs.map e).length (itD (xs.map e)) g jR pe Q:=by
 refine Dw (fun τ=>∃v w,τ=v::w::(cA ix ρ1).tail.tail) f ⟨none,none,hx⟩ ?_ ?_
 .rintro x hx τ ⟨v,w,rfl⟩ K1 k1;exact hs x hx v w K1 fun v' w'=>k1 _ ⟨v',w',rfl⟩
 .rintro τ ⟨v,w,rfl⟩;exact hq v w
theorem wY(a b:List Nat):(!(Builtin.Str.occurrences (S b) (S a) 0 (S b).length 1).isEmpty)=gc a b:=by
 have e:=vK b a 0;unfold gc;rw [<- e]
 cases Builtin.Str.occurrences (S b) (S a) 0 (S b).length 1 with
 | nil=>rfl
 | cons k r=>exact (decide_eq_true (by omega:(0:Int)<=(k:Int))).symm
section
variable {X:Cx}{K:PySem.W.Frag}
def E1(neg:Bool):R2:=fun x y H Q=>∃a b,x=.str (S a)/\y=.str (S b)/\Q (.bl (if neg then !gc a b else gc a b)) H
theorem Dx:OpR X (compareOp .In) (E1 false):=by
 intro pins s σ H x y v u Q I rx ry h;obtain⟨a,b,rfl,rfl,q⟩:=h;obtain⟨t,rfl⟩:=rx;obtain⟨t',rfl⟩:=ry;exact P.in_str ⟨.bl _,H,I,rfl,by rw [wY];exact q⟩
theorem wZ:OpR X (compareOp .NotIn) (E1 true):=by
 intro pins s σ H x y v u Q I rx ry h;obtain⟨a,b,rfl,rfl,q⟩:=h;obtain⟨t,rfl⟩:=rx;obtain⟨t',rfl⟩:=ry;exact P.notIn_str ⟨.bl _,H,I,rfl,by rw [wY];exact q⟩
def D3(K:PySem.W.Frag)(neg:Bool):R2:=fun x y H Q=>rIn K neg x y H Q\/E1 neg x y H Q
theorem E2(K:PySem.W.Frag)(e:X.K=K):OpR X (compareOp .In) (D3 K false):=OpR.or (FT K e) Dx
theorem tE(K:PySem.W.Frag)(e:X.K=K):OpR X (compareOp .NotIn) (D3 K true):=OpR.or (AH K e) wZ
def Dy(neg:Bool):F2
 | .str a,.str b,Q=>Q (.dat (.bl (if neg then !gc a b else gc a b)))
 | a,.lst ds,Q=>(a.fl=true/\ds.all D.fl=true)/\Q (.dat (.bl (if neg then !inD a ds else inD a ds)))
 | a,.tup ds,Q=>(a.fl=true/\ds.all D.fl=true)/\Q (.dat (.bl (if neg then !inD a ds else inD a ds)))
 | _,_,_=>False
theorem w9{neg:Bool}:LO K (D3 K neg) (Dy neg):=by
 intro O H x y a b Q Q' dom fx fy q k;unfold Dy at q
 split at q
 .obtain⟨rfl,_⟩:=fx.str;obtain⟨rfl,_⟩:=fy.str;exact .inr ⟨_,_,rfl,rfl,k _ H _ q (Gr.refl _) (.bl _)⟩
 .exact .inl (CW O H x y _ _ Q Q' dom fx fy q k)
 .exact .inl (CW O H x y _ _ Q Q' dom fx fy q k)
 .exact q.elim
end
theorem zt(js:List Nat):js.map nD=(js.map fun j=>((j:Nat):Int)).map D.int:=by rw [map_map];rfl
theorem qi{js:List Nat}{n:Nat}(h:js.Perm (List.range n)){j:Nat}(hj:j∈js):j<n:=mem_range.mp (h.mem_iff.mp hj)
theorem rC{js:List Nat}{n:Nat}(h:js.Perm (List.range n)):js.length=n:=by rw [h.length_eq,length_range]
theorem zu{ws:List (List Nat)}{m:Nat}(hw:∀j,(pw ws j).length<=m):∀js:List Nat,(glN ws js).length<=js.length*m:=by
 have go:∀(r:List Nat) (i:Nat),(glT ws i r).length<=r.length*m:=fun r=>by
  induction r with
  | nil=>intro i;exact zero_le _
  | cons j r ih =>
   intro i;show ((pw ws j).drop _++glT ws j r).length<=_;rw [length_append,length_drop,length_cons,succ_mul];have:=ih j;have:=hw j;omega
 intro js
 cases js with
 | nil=>exact zero_le _
 | cons j r =>
  show (pw ws j++glT ws j r).length<=_;rw [length_append,length_cons,succ_mul];have:=go r j;have:=hw j;omega
theorem uv{ws:List (List Nat)}{m:Nat}(hw:∀w∈ws,w.length<=m)(j:Nat):(pw ws j).length<=m:=by
 by_cases h:j<ws.length
 .exact hw _ (br h)
 .unfold pw;rw [getD_eq_getElem?_getD,getElem?_eq_none (by omega)];exact zero_le _
theorem Dz{t a b:List Nat}(ha:a <:+: t)(hb:b <:+: t)(h1:¬ a <:+: b)(h2:¬ b <:+: a):fnd t a 0≠fnd t b 0:=fun e=>by
 have f:∀w:List Nat,w <:+: t->∃k:Nat,fnd t w 0=(k:Int)/\stA t w k=true:=fun w hw=>by
  obtain⟨k,e,_,h,_⟩:=kx (a:=t) (b:=w) (lo:=0) fun z=>by have:=oI.mp (fj.mpr hw);omega
  exact⟨k,e,h⟩
 obtain⟨k,k1,k2⟩:=f a ha;obtain⟨l,l1,l2⟩:=f b hb;have e:k=l:=by omega
 subst e;obtain⟨_,ea⟩:=of_decide_eq_true k2;obtain⟨_,eb⟩:=of_decide_eq_true l2
 rcases Nat.le_total a.length b.length with z|z
 .refine h1 ?_;have:a=b.take a.length:=by rw [<- eb,take_take,show min a.length b.length=a.length by omega,ea]
  rw [this];exact (take_prefix _ _).isInfix
 .refine h2 ?_;have:b=a.take b.length:=by rw [<- ea,take_take,show min b.length a.length=b.length by omega,eb]
  rw [this];exact (take_prefix _ _).isInfix
theorem Bh{ps:List (List Nat)}{t:List Nat}(hp:Pcs 60 ps)(hin:∀w∈af ps,w <:+: t){js:List Nat}(h1:js.Perm (List.range (af ps).length))(h2:js.Pairwise (fun a b=>fnd t (pw (af ps) a) 0<fnd t (pw (af ps) b) 0)) :
  (glN (af ps) js).length<=t.length/\((glN (af ps) js).length=t.length->glN (af ps) js=t)/\(∀w∈af ps,w <:+: glN (af ps) js)/\((glN (af ps) js).length:Int)=rA ps - (EZ (af ps) js:Int):=by
 have hlt:∀j∈js,j<(af ps).length:=fun j hj=>mem_range.mp (h1.mem_iff.mp hj);have hpos:∀j∈js,0<(pw (af ps) j).length:=fun j hj=>(cJ hp _ (br (hlt j hj))).1
 have pl:∀j∈js,fnd t (pw (af ps) j) 0=((fnd t (pw (af ps) j) 0).toNat:Int)/\stA t (pw (af ps) j) (fnd t (pw (af ps) j) 0).toNat=true:=fun j hj=>by
  have h0:=oI.mp (fj.mpr (hin _ (br (hlt j hj))));obtain⟨k,e,_,h,_⟩:=kx (a:=t) (b:=pw (af ps) j) (lo:=0) fun z=>by omega
  rw [e,toNat_natCast];exact⟨rfl,h⟩
 have nd:js.Nodup:=h1.nodup_iff.mpr nodup_range;have ap:js.Pairwise (fun a b=>¬ pw (af ps) b <:+: pw (af ps) a):=nd.imp_of_mem fun {a b} ma mb ne=>dn (hlt b mb) (hlt a ma) (Ne.symm ne)
 obtain⟨s1,s2⟩:=wW (P:=fun j=>(fnd t (pw (af ps) j) 0).toNat) (fun j hj=>⟨hpos j hj,(pl j hj).2⟩) (h2.imp_of_mem fun {a b} ma mb h=>by
  have e1:=(pl a ma).1;have e2:=(pl b mb).1;show (fnd t (pw (af ps) a) 0).toNat<(fnd t (pw (af ps) b) 0).toNat;omega) ap
 refine⟨s1,s2,fun w hw=>?_,?_⟩
 .obtain⟨j,hj,rfl⟩:=getElem_of_mem hw;rw [show (af ps)[j]=pw (af ps) j from Option.some.inj ((getElem?_eq_getElem hj).symm.trans (cY hj))];exact zr hpos (h1.mem_iff.mpr (mem_range.mpr hj))
 .have e:=wU hpos;have e2:(js.map fun j=>(pw (af ps) j).length).sum=((List.range (af ps).length).map fun j=>(pw (af ps) j).length).sum:=(h1.map _).sum_nat
  have e3:(List.range (af ps).length).map (fun j=>(pw (af ps) j).length)=(af ps).map List.length:=by
   conv=>rhs;rw [<- mZ (af ps),map_map]
   rfl
  have e4:∀l:List (List Nat),(l.map fun w=>(w.length:Int)).sum=((l.map List.length).sum:Int):=fun l=>by
   induction l with
   | nil=>rfl
   | cons a r ih=>rw [map_cons,sum_cons,ih,map_cons,sum_cons];omega
  unfold rA;rw [e4,<- e3,<- e2,<- e];omega
theorem tF{ws:List (List Nat)}{js:List Nat}{k:Nat}(h:k<js.length):glN ws (js.take (k+1))=glN ws (js.take k)++(pw ws (js.getD k 0)).drop (if k=0 then 0 else dz (pw ws (js.getD (k - 1) 0)) (pw ws (js.getD k 0))):=by
 have t1:js.take (k+1)=js.take k++[js.getD k 0]:=p8 h
 by_cases e:k=0
 .subst e;rw [if_pos rfl,t1,take_zero,drop_zero];show pw ws _++[]=[]++pw ws _;rw [append_nil,nil_append]
 .have t0:js.take k=js.take (k - 1)++[js.getD (k - 1) 0]:=by
   have:=p8 (l:=js) (k:=k - 1) (by omega)
   rwa [show k - 1+1=k by omega] at this
  rw [if_neg e,t1,t0,oJ]
theorem yG{ns:List Int}(h:ns.length<=1000)(hb:∀n∈ns,n.natAbs<2^64):PyData.layable0 (.list (ns.map .int))=true:=by
 have c:∀l:List Int,PyData.canLayAll0 (l.map .int)=true:=fun l=>by
  induction l with
  | nil=>rfl
  | cons a r ih=>show (PyData.canLay0 (.int a) && PyData.canLayAll0 (r.map .int))=true;rw [ih];rfl
 have d:∀l:List Int,PyData.depthAll (l.map .int)=0:=fun l=>by
  induction l with
  | nil=>rfl
  | cons a r ih=>show max (PyData.depth (.int a)) (PyData.depthAll (r.map .int))=0;rw [ih];rfl
 have w:∀l:List Int,(∀n∈l,n.natAbs<2^64)->PyData.weightAll (l.map .int)<=l.length*66:=fun l=>by
  induction l with
  | nil=>intro _;exact zero_le _
  | cons a r ih =>
   intro hh;have h1:=ih fun n hn=>hh n (mem_cons_of_mem _ hn)
   have h2:PyData.weight (.int a)<=64:=by
    show (if a == 0 then 0 else a.natAbs.log2+1)<=64
    by_cases z:a=0
    .subst z;decide
    .rw [if_neg (by simpa using z)];have:a.natAbs.log2<64:=(log2_lt (by omega)).mpr (hh a (mem_cons_self ..));omega
   show PyData.weight (.int a)+1+PyData.weightAll (r.map .int)<=_;rw [length_cons,succ_mul];omega
 have:=w ns hb;unfold PyData.layable0;rw [and_eq_true,and_eq_true]
 refine⟨⟨c ns,decide_eq_true ?_⟩,decide_eq_true ?_⟩
 .show PyData.depthAll (ns.map .int)+1<=64;rw [d];decide
 .show PyData.weightAll (ns.map .int)<=2^20;omega
section
variable {X:Cx}{K:PySem.W.Frag}{ta te:TE}{pa:PA1}{pe:PTE}
def Bi(K:PySem.W.Frag):V->List V->Hp->VK->Prop:=fun x xs H Q=>∃(p:Addr) (ns:List Int) (k:Int),x=.ref p/\xs=[.int k]/\SqL K H p (ns.map V.int)/\(ns.length<=1000/\(∀n∈ns,n.natAbs<2^64)/\k∈ns)/\Q (.int (ns.idxOf k:Nat)) H
theorem Bj(K:PySem.W.Frag)(e:X.K=K):MtR X "list.index" (Bi K):=by
 subst e;intro pins s σ H x xs v us Q I rx rs h;obtain⟨p,ns,k,rfl,rfl,hS,⟨h1,h2,h3⟩,q⟩:=h;cases (show v=Value.ref p from rx);obtain⟨u,rfl,t,rfl⟩:=gw rs;obtain⟨its,rv,pl,hz⟩:=I.list hS;exact index_list_ints pl.isList (fb rv) (yG h1 h2) h3 ⟨.int _,H,I.tok _,⟨_,rfl⟩,q⟩
def DA(pa:PA1)(pe:PTE):PTE:=fun ρ Q=>pa ρ fun x ρ1=>match cont ρ1 x with
 | some (.lst _)=>pe ρ1 fun p ρ2=>(match cont ρ2 x,p with
  | some (.lst ds),.dat (.int k)=>∃ns:List Int,ds=ns.map .int/\(ns.length<=1000/\(∀n∈ns,n.natAbs<2^64)/\k∈ns)/\Q (.dat (.int (ns.idxOf k:Nat))) ρ2
  | _,_=>False)
 | _=>False
theorem Bk(ha:LA1 K ta pa)(he:LE K te pe):LE K (tBM K "list" (Bi K) ta (bf te eY)) (DA pa pe):=fun A ρ σ H Q Q' R q k =>
 ha A ρ σ H _ _ R q fun v H1 a ρ1 q1 f1 R1 o1=>by
  split at q1
  .rename_i ds0 e1;obtain⟨a0,xs0,rfl,g0,f0⟩:=(R1.cont o1 e1).lst;refine⟨.inl ⟨rfl,xs0,SqL.of g0⟩,he A ρ1 σ H1 _ _ R1 q1 fun w H2 p ρ2 q2 f2 o2=>?_⟩;obtain⟨R2,fv⟩:=o2.frz
   split at q2
   .rename_i ds j e2;obtain⟨ns,rfl,hn,q2⟩:=q2;cases (show FV K _ H2 w (.int j) from fv);obtain⟨a1,xs1,e3,g1,g2⟩:=(R2.cont (o1.keeps f2.keeps) e2).lst;cases e3;rw [g2.ints] at g1;exact⟨a0,ns,j,rfl,rfl,SqL.of g1,hn,k _ H2 _ ρ2 q2 (f1.trans f2) ⟨R2,.int _⟩⟩
   .exact q2.elim
  .exact q1.elim
def k9(n:Int):Nat:=if n == 0 then 0 else n.natAbs.log2+1
def Bl:V->List V->Hp->VK->Prop:=fun x xs H Q=>∃n,x=.int n/\xs=[]/\Q (.int (k9 n:Nat)) H
theorem Bm:MtR X "int.bit_length" Bl:=by
 intro pins s σ H x xs v us Q I rx rs h;obtain⟨n,rfl,rfl,q⟩:=h;obtain⟨t,rfl⟩:=rx;have hus:=rs.zero;subst hus;exact call_gives F.slot_int_bit_length (typeIs_int s n t) F.entry_int_bit_length (F.args_int_bit_length_1 _) (AutoIntG2.int_bit_length_int_0 n t) ⟨.int _,H,I.tok _,⟨_,rfl⟩,q⟩
def Bn(pe:PTE):PTE:=fun ρ Q=>pe ρ fun p ρ1=>match p with
 | .dat (.int n)=>Q (.dat (.int (k9 n:Nat))) ρ1
 | _=>False
theorem Bo(he:LE K te pe):LE K (DX K "int" Bl te) (Bn pe):=fun A ρ σ H Q Q' R q k=>he A ρ σ H _ _ R q fun v H1 p ρ1 q1 f1 o1=>by
 unfold Bn at *
 split at q1
 .obtain⟨R1,fv⟩:=o1;cases fv;exact⟨rfl,_,rfl,rfl,k _ H1 _ ρ1 q1 f1 ⟨R1,.int _⟩⟩
 .exact q1.elim
theorem Bp{o:Expr}{to:TE}{name:Str}{apos cpos:Pos}{T id:String}{r:V->List V->Hp->VK->Prop}(K:PySem.W.Frag)(eK:X.K=K)(pa:PlainAttrs T)(slot:Slot T name id)(hty:typeOf (.builtin id)=pure (.type "method_descriptor"))(hm:MtR X id r)(ho:PE X o to)
  (hbase:attributeBase o name X.env (eval o X.env)=eval o X.env:=by rfl) (hline:(apos.endLine == cpos.line)=true:=by rfl):PE X (.Call (.Attribute o name apos) [] [] cpos) (DX K T r to):=eK ▸ Cn pa slot hty hm ho hbase hline
end
def rdR(l:List Nat)(p n:Nat):List Nat:=(List.range n).map fun t=>fn l ((p+t) % l.length)
theorem rD(l:List Nat)(p n:Nat):(rdR l p n).length=n:=by unfold rdR;rw [length_map,length_range]
theorem DB{l:List Nat}{p n t:Nat}(h:t<n):fn (rdR l p n) t=fn l ((p+t) % l.length):=by
 have e:(rdR l p n)[t]?=some (fn l ((p+t) % l.length)):=by unfold rdR;rw [getElem?_map,getElem?_range h];rfl
 have e2:(rdR l p n)[t]?=some (fn (rdR l p n) t):=mS (by rw [rD];exact h);rw [e] at e2;exact (Option.some.inj e2).symm
theorem tG{l w:List Nat}{p n:Nat}(hl:w.length=n)(h:∀t,t<n->fn w t=fn l ((p+t) % l.length)):w=rdR l p n:=by
 apply ext_getElem?;intro t
 by_cases ht:t<n
 .rw [mS (by omega),h t ht];unfold rdR;rw [getElem?_map,getElem?_range ht];rfl
 .rw [getElem?_eq_none (by omega),getElem?_eq_none (by rw [rD];omega)]
def BN(l:List Nat):Prop:=0<l.length/\l.length<=2000
theorem xa(a b:Nat):((a:Int) / (b:Int)+1).toNat=a / b+1:=by
 rw [show ((a:Int) / (b:Int)+1)=((a / b+1:Nat):Int) from rfl,toNat_natCast]
theorem DC{a b m:Nat}(h:a<=m):0<=(a:Int) / (b:Int)/\(a:Int) / (b:Int)<=(m:Int):=by
 rw [show ((a:Int) / (b:Int))=((a / b:Nat):Int) from rfl];exact⟨natCast_nonneg _,ofNat_le.mpr (Nat.le_trans (div_le_self a b) h)⟩
theorem DD{a b:Nat}(hb:0<b):((a:Int) / (b:Int)+1).toNat*b<=a+b:=by
 have h1:((a:Int) / (b:Int)+1).toNat=a / b+1:=xa a b;rw [h1,add_mul,Nat.one_mul];have:=div_mul_le_self a b;omega
theorem DE{a b:Nat}(hb:0<b):a<((a:Int) / (b:Int)+1).toNat*b:=by
 have h1:((a:Int) / (b:Int)+1).toNat=a / b+1:=xa a b;rw [h1];have:=lt_mul_div_succ a hb;rw [mul_comm];exact this
theorem oK{l:List Nat}{p n a m:Nat}(h:a+m<=n):((rdR l p n).drop a).take m=rdR l (p+a) m:=by
 refine tG (by rw [length_take,length_drop,rD];omega) fun t ht=>?_;rw [oy ht,rz,DB (by omega),add_assoc]
theorem iG(l:List Nat)(p n:Nat):rdR l (p % l.length) n=rdR l p n:=by
 unfold rdR;refine map_congr_left fun t _=>?_;rw [mod_add_mod]
def frP(l w:List Nat):Int:=match (List.range l.length).find? (fun p=>decide (rdR l p w.length=w)) with|some k=>(k:Int)|none=>-1
theorem gU{l w:List Nat}(h:frP l w≠-1):∃k:Nat,frP l w=(k:Int)/\k<l.length/\rdR l k w.length=w:=by
 unfold frP at h ⊢
 cases e:(List.range l.length).find? (fun p=>decide (rdR l p w.length=w)) with
 | none=>rw [e] at h;exact absurd rfl h
 | some k =>
  refine⟨k,rfl,mem_range.mp (mem_of_find?_eq_some e),?_⟩;have:=find?_some e;exact of_decide_eq_true this
theorem oM{l w:List Nat}(h:frP l w=-1){p:Nat}(hp:p<l.length):rdR l p w.length≠w:=fun z=>by
 unfold frP at h
 cases e:(List.range l.length).find? (fun p=>decide (rdR l p w.length=w)) with
 | some k=>rw [e] at h;simp only at h;omega
 | none =>
  have:=find?_eq_none.mp e p (mem_range.mpr hp);rw [decide_eq_true z] at this;exact this rfl
theorem qj{l w:List Nat}{k:Nat}(hk:k<l.length)(h:rdR l k w.length=w)(hf:∀j,j<k->rdR l j w.length≠w):frP l w=(k:Int):=by
 by_cases h0:frP l w=-1
 .exact absurd h (oM h0 hk)
 .unfold frP at h0 ⊢
  cases e:(List.range l.length).find? (fun p=>decide (rdR l p w.length=w)) with
  | none=>rw [e] at h0;exact absurd rfl h0
  | some j =>
   obtain⟨h1,as,bs,hl,hn⟩:=find?_eq_some_iff_append.mp e;have hj:j<l.length:=mem_range.mp (mem_of_find?_eq_some e)
   have lj:as.length=j:=by
    have:(List.range l.length)[as.length]?=some j:=by rw [hl,getElem?_append_right (le_refl _)];simp
    have h3:=(List.getElem?_eq_some_iff.mp this).1;rw [length_range] at h3;rw [getElem?_range h3] at this;exact Option.some.inj this
   show (j:Int)=(k:Int)
   rcases Nat.lt_trichotomy j k with z|z|z
   .exact absurd (of_decide_eq_true h1) (hf j z)
   .omega
   .have mk:k∈as:=by
     have:(List.range l.length)[k]?=some k:=getElem?_range hk;rw [hl,getElem?_append_left (by omega)] at this;exact mem_of_getElem? this
    have:=hn k mk;rw [decide_eq_true h] at this;cases this
theorem qk{l a b:List Nat}{p δ:Nat}(hδ:0<δ)(ha:rdR l p a.length=a)(hb:rdR l (p+δ) b.length=b)(a0:0<a.length)(b0:0<b.length)(hab:¬ b <:+: a\/a=b):a.length<=δ+dz a b:=by
 rcases lt_or_ge δ a.length with h|h
 .have e1:∀o,o<=a.length - δ->(a.drop δ).take o=rdR l (p+δ) o:=fun o ho=>by
   conv=>lhs;rw [<- ha]
   exact oK (by omega)
  have hb2:a.length - δ<b.length:=by
   rcases lt_or_ge (a.length - δ) b.length with z|z
   .exact z
   .rcases hab with n|e
    .refine absurd ?_ n;have:=e1 b.length z;rw [hb] at this;rw [<- this];exact (take_prefix _ _).isInfix.trans (drop_suffix _ _).isInfix
    .rw [<- e] at z;omega
  have:=(df a0 b0).2.2 (a.length - δ) (by omega) (by
   have e2:=e1 (a.length - δ) (le_refl _);rw [take_of_length_le (by rw [length_drop];omega)] at e2
   have e3:b.take (a.length - δ)=rdR l (p+δ) (a.length - δ):=by
    conv=>lhs;rw [<- hb]
    have:=oK (l:=l) (p:=p+δ) (n:=b.length) (a:=0) (m:=a.length - δ) (by omega);rw [drop_zero,Nat.add_zero] at this;exact this
   rw [e3,<- e2];exact drop_suffix _ _)
  omega
 .omega
def rgP(ws:List (List Nat))(js:List Nat)(k:Nat):List Nat:=(pw ws (js.getD k 0)).take ((pw ws (js.getD k 0)).length - dz (pw ws (js.getD k 0)) (pw ws (js.getD ((k+1) % js.length) 0)))
def rgN(ws:List (List Nat))(js:List Nat)(m:Nat):List Nat:=((List.range m).map (rgP ws js)).flatten
theorem i5(ws:List (List Nat))(js:List Nat)(m:Nat):rgN ws js (m+1)=rgN ws js m++rgP ws js m:=by
 unfold rgN;rw [range_succ,map_append,flatten_append];simp
theorem uw{ws:List (List Nat)}{l:List Nat}{js:List Nat}{τ:Nat->Nat}{p0:Nat}(hn:0<js.length)(hpos:∀k,k<js.length->0<(pw ws (js.getD k 0)).length)
  (hr:∀k,k<js.length->rdR l (p0+τ k) (pw ws (js.getD k 0)).length=pw ws (js.getD k 0)) (h0:τ 0=0) (hlt:∀k,k+1<js.length->τ k<τ (k+1)) (hl:∀k,k<js.length->τ k<l.length)
  (hap:∀i j,i<js.length->j<js.length->i≠j->¬ pw ws (js.getD j 0) <:+: pw ws (js.getD i 0)):(rgN ws js js.length).length<=l.length:=by
 have part:∀k,k<js.length->(rgP ws js k).length+dz (pw ws (js.getD k 0)) (pw ws (js.getD ((k+1) % js.length) 0))=(pw ws (js.getD k 0)).length:=fun k hk=>by
  have:=(df (hpos k hk) (hpos ((k+1) % js.length) (mod_lt _ hn))).1;unfold rgP;rw [length_take];omega
 have go:∀m,m<js.length->(rgN ws js m).length<=τ m:=fun m=>by
  induction m with
  | zero=>intro _;exact zero_le _
  | succ m ih =>
   intro hm;have h1:=ih (by omega);have h2:=hlt m hm;have e:(m+1) % js.length=m+1:=mod_eq_of_lt hm;have p1:=part m (by omega);rw [e] at p1;have st:=qk (l:=l) (p:=p0+τ m) (δ:=τ (m+1) - τ m) (by omega) (hr m (by omega)) (by rw [show p0+τ m+(τ (m+1) - τ m)=p0+τ (m+1) by omega];exact hr (m+1) hm) (hpos m (by omega)) (hpos (m+1) hm) (.inl (hap m (m+1) (by omega) hm (by omega)));rw [i5,length_append];omega
 obtain⟨m,hm⟩:∃m,js.length=m+1:=⟨js.length - 1,by omega⟩
 have h1:=go m (by omega);have e:(m+1) % js.length=0:=by rw [hm];exact mod_self _
 have p1:=part m (by omega);rw [e] at p1;have hlm:=hl m (by omega);have r0:=hr 0 hn;rw [h0,Nat.add_zero] at r0
 have st:=qk (l:=l) (p:=p0+τ m) (δ:=l.length - τ m) (by omega) (hr m (by omega)) (by
  rw [show p0+τ m+(l.length - τ m)=p0+l.length by omega,<- iG,add_mod_right,iG];exact r0) (hpos m (by omega)) (hpos 0 hn) (by
  by_cases z:m=0
  .subst z;exact .inr rfl
  .exact .inl (hap m 0 (by omega) hn z))
 rw [hm,i5,length_append];omega
def blk(B:Nat->List Nat)(m:Nat):List Nat:=((List.range m).map B).flatten
theorem oN(B:Nat->List Nat)(m:Nat):blk B (m+1)=blk B m++B m:=by
 unfold blk;rw [range_succ,map_append,flatten_append];simp
theorem Bq(B:Nat->List Nat){m n:Nat}(h:m<=n):blk B m <+: blk B n:=by
 induction n with
 | zero=>rw [le_zero.mp h];exact prefix_refl _
 | succ n ih =>
  by_cases e:m=n+1
  .rw [e];exact prefix_refl _
  .rw [oN];exact (ih (by omega)).trans (prefix_append _ _)
theorem xb(B:Nat->List Nat){k n u:Nat}(hk:k<n)(hu:u<(B k).length):fn (blk B n) ((blk B k).length+u)=fn (B k) u/\(blk B k).length+u<(blk B n).length:=by
 obtain⟨r,e⟩:=Bq B (m:=k+1) (n:=n) hk;rw [oN] at e;rw [<- e,append_assoc];refine⟨?_,by rw [length_append,length_append];omega⟩;rw [eA (by omega),add_sub_cancel_left,dL hu]
theorem ng{ws:List (List Nat)}{js:List Nat}{B:Nat->List Nat}(hn:0<js.length)(hpos:∀k,k<js.length->0<(pw ws (js.getD k 0)).length)
  (hB:∀k,k<js.length->B k=rgP ws js k\/∃ls,B k=pw ws (js.getD k 0)++ls):∀t k,k<js.length->t<(pw ws (js.getD k 0)).length->fn (blk B js.length) (((blk B k).length+t) % (blk B js.length).length)=fn (pw ws (js.getD k 0)) t:=by
 intro t
 induction t using Nat.strongRecOn with
 | ind t ih =>
  intro k hk ht
  have here:t<(B k).length->fn (B k) t=fn (pw ws (js.getD k 0)) t->fn (blk B js.length) (((blk B k).length+t) % (blk B js.length).length)=fn (pw ws (js.getD k 0)) t:=fun h1 h2=>by
   obtain⟨a,b⟩:=xb B hk h1;rw [mod_eq_of_lt b,a,h2]
  rcases hB k hk with e|⟨ls,e⟩
  .have hq:(k+1) % js.length<js.length:=mod_lt _ hn;obtain⟨l1,l2,l3⟩:=df (hpos k hk) (hpos _ hq)
   have hc:(B k).length=(pw ws (js.getD k 0)).length - dz (pw ws (js.getD k 0)) (pw ws (js.getD ((k+1) % js.length) 0)):=by
    rw [e];unfold rgP;rw [length_take];omega
   have sx:=(ur (pw ws (js.getD k 0)) (pw ws (js.getD ((k+1) % js.length) 0)) _ (by omega) (by omega)).mp l2
   rcases lt_or_ge t (B k).length with z|z
   .refine here z ?_;rw [e];unfold rgP;exact oy (by rw [<- hc];exact z)
   .have s1:=ih (t - (B k).length) (by omega) ((k+1) % js.length) hq (by omega);have s2:=sx (t - (B k).length) (by omega);rw [<- s2] at s1;rw [show (pw ws (js.getD k 0)).length - dz (pw ws (js.getD k 0)) (pw ws (js.getD ((k+1) % js.length) 0))+(t - (B k).length)=t by omega] at s1;rw [<- s1];congr 1;have bs:(blk B (k+1)).length=(blk B k).length+(B k).length:=by rw [oN,length_append]
    by_cases w:k+1<js.length
    .rw [mod_eq_of_lt w,bs];congr 1;omega
    .have e1:k+1=js.length:=by omega
     rw [e1,mod_self];rw [e1] at bs;rw [show (blk B k).length+t=(t - (B k).length)+(blk B js.length).length by omega,add_mod_right];show _=(0+(t - (B k).length)) % _;rw [Nat.zero_add]
  .exact here (by rw [e,length_append];omega) (by rw [e];exact dL ht)
theorem DF{l:List Nat}{a i:Nat}(ha:a<=l.length)(hl:0<l.length):fn (l.drop a++l.take a) (i % l.length)=fn l ((a+i) % l.length):=by
 have hi:i % l.length<l.length:=mod_lt _ hl;rw [<- add_mod_mod];generalize i % l.length=j at hi
 rcases lt_or_ge j (l.length - a) with z|z
 .rw [dL (by rw [length_drop];omega),rz,mod_eq_of_lt (by omega)]
 .rw [eA (by rw [length_drop];omega),length_drop,oy (by omega)];rw [show a+j=(j - (l.length - a))+l.length by omega,add_mod_right,mod_eq_of_lt (by omega)]
theorem DG{l:List Nat}{a p n:Nat}(ha:a<=l.length)(hl:0<l.length):rdR (l.drop a++l.take a) p n=rdR l (a+p) n:=by
 have e:(l.drop a++l.take a).length=l.length:=by rw [length_append,length_drop,length_take];omega
 unfold rdR;refine map_congr_left fun t _=>?_;rw [e,DF ha hl,add_assoc]
theorem yH{l w:List Nat}{a q:Nat}(ha:a<=l.length)(hl:0<l.length)(h:rdR l q w.length=w):frP (l.drop a++l.take a) w≠-1:=fun z=>by
 have e:(l.drop a++l.take a).length=l.length:=by rw [length_append,length_drop,length_take];omega
 refine oM z (p:=(q+(l.length - a)) % l.length) (by rw [e];exact mod_lt _ hl) ?_
 have m1:rdR (l.drop a++l.take a) ((q+(l.length - a)) % l.length) w.length=rdR (l.drop a++l.take a) (q+(l.length - a)) w.length:=by
  have:=iG (l.drop a++l.take a) (q+(l.length - a)) w.length
  rwa [e] at this
 rw [m1,DG ha hl,show a+(q+(l.length - a))=q+l.length by omega,<- iG,add_mod_right,iG,h]
section
variable {X:Cx}{K:PySem.W.Frag}
def zv(K:PySem.W.Frag):R2:=fun x y H Q=>∃a b ys,x=.ref a/\y=.ref b/\SqT K H a []/\SqT K H b ys/\Q (.ref b) H
theorem yI:OpR X (binaryOp .Add) (zv X.K):=by
 intro pins s σ H x y v u Q I rx ry h;obtain⟨a,b,ys,rfl,rfl,ha,hb,q⟩:=h;cases rx;cases ry;obtain⟨its,r1,p1,_⟩:=I.tuple ha;obtain⟨its2,r2,p2,_⟩:=I.tuple hb;have e0:its=[]:=r1.nil_iff.mpr rfl;subst e0;obtain⟨⟨cls,dd,data,sl⟩,ho,hc,n,hd⟩:=id p1;obtain⟨⟨cls2,dd2,data2,sl2⟩,ho2,hc2,n2,hd2⟩:=id p2;simp only at hc hd hc2 hd2;subst hc hd hc2 hd2;exact concat_meets ⟨_,ho,rfl⟩ ⟨_,ho2,rfl⟩ noFill_tuple_add seq_tuple_add PySem.F.slot_tuple_add PySem.F.entry_tuple_add (PySem.F.args_tuple_add_2 _ _) (tuple_addW0 a b _ _ n n2 dd dd2 sl sl2 rfl) ⟨ho,ho2,.ref b,H,I,rfl,q⟩
def uz(K:PySem.W.Frag):R2:=fun x y H Q=>AG K x y H Q\/zv K x y H Q
theorem cR(K:PySem.W.Frag)(e:X.K=K):OpR X (binaryOp .Add) (uz K):=OpR.or (EA K e) (by subst e;exact yI)
def dZ:F2
 | .tup a,.tup b,Q=>a.length+b.length<=1000000/\Q (.dat (.tup (a++b)))
 | a,b,Q=>EB a b Q
theorem bT:LO K (uz K) dZ:=by
 intro O H x y a b Q Q' dom fx fy q k;unfold dZ at q
 split at q
 .rename_i Q ds es
  cases ds with
  | cons d ds=>exact .inl (zd O H x y _ _ _ Q' dom fx fy ⟨nofun,q⟩ k)
  | nil =>
   obtain⟨p1,xs1,rfl,n1,e1,f1⟩:=fx.tup;obtain⟨p2,xs2,rfl,n2,e2,f2⟩:=fy.tup;cases f1;exact .inr ⟨p1,p2,xs2,rfl,rfl,SqT.of e1,SqT.of e2,k _ H _ q.2 (Gr.refl _) (.tup n2 e2 f2)⟩
 .exact .inl (zd O H x y _ _ _ Q' dom fx fy q k)
end
section
variable {X:Cx}
def FA:Expr->Bool
 | .ListComp ..|.SetComp ..|.DictComp ..=>false
 | _=>true
theorem xc{o i e:Expr}{p:Pos}{l:Nat}{env:Env}(h:FA e=true):swapsWithSole [.Subscript o i p] e l env=pure false:=by
 show swapsWith e (some (.Subscript o i p)) l env=pure false;cases e <;> first|rfl|cases h
theorem rE{o i e:Expr}{p:Pos}{env:Env}:swappedStores [.Subscript o i p] e env=pure none:=rfl
theorem xf{o i e:Expr}{p:Pos}{te:TE}{g:TG}{pos:Pos}(he:PE X e te)(hg:PG X (.Subscript o i p) g)(hn:FA e=true:=by rfl):PS X (.Assign [.Subscript o i p] e pos) (BD te g) :=
 B4 he hg (xc hn) rE rfl
end
def fG(K:PySem.W.Frag)(x:Str)(st:Stmt):Prop:=∃(f:Addr) (oc kV dc pm cd ct:Value) (od an:Option Addr) (sl:Array (Option Value)),PySem.W.nsIn K mainGlobals x=some (some (.ref f)) /\
 K.lookup f=some ⟨oc,od,.func (PySem.W.fnOf x x (cZ st) (b6 st) (ao st) .none kV dc pm an cd ct),sl⟩/\PySem.W.codeIn K cd x=true/\PySem.W.keepIn K (.ref f)=true
theorem DH{K:PySem.W.Frag}{x:Str}{st:Stmt}{f:Addr}{oc kV dc pm cd ct:Value}{od an:Option Addr}{sl:Array (Option Value)}(a:PySem.W.nsIn K mainGlobals x=some (some (.ref f)))(l:K.lookup f=some ⟨oc,od,.func (PySem.W.fnOf x x (cZ st) (b6 st) (ao st) .none kV dc pm an cd ct),sl⟩)
  (c:PySem.W.codeIn K cd x=true) (k:PySem.W.keepIn K (.ref f)=true):fG K x st:=⟨f,oc,kV,dc,pm,cd,ct,od,an,sl,a,l,c,k⟩
theorem bt{K:PySem.W.Frag}{h:Heap}{mg:Str->Option Value}{x:Str}{st:Stmt}(q:fG K x st)(X:K.In h)(G:h.Ns mainGlobals mg):ca K mg x st:=by
 obtain⟨f,oc,kV,dc,pm,cd,ct,od,an,sl,a,l,c,k⟩:=q;exact .mk' X G a l c k
section
open PySem.AutoSeq1 (wpAny_loadPart')
open PySem.MeetsSeq PySem.MeetsSeq2 PySem.MeetsSeq3
variable {P:Program}{w:World}{A:Around}
end
section
variable {K:PySem.W.Frag}{A O O':Addr->Prop}{fx:List (Nat×V)}{R:Addr->Prop}{H0 H0' H H':Hp}{ρ ρ':PSt}{σ:St}{x:Nat}{Da:Addr}{as:List Addr}{rows:List (List D)}
def cl(x:Nat)(ρ:PSt):Option (List (List D))->PSt
 | none=>ρ
 | some rows=>ρ.set x (some (.own (rows.map D.lst)))
theorem xg(x:Nat)(ρ:PSt):cl x ρ none=ρ:=rfl
theorem xh(x:Nat)(ρ:PSt)(rows:List (List D)):cl x ρ (some rows)=ρ.set x (some (.own (rows.map D.lst))):=rfl
end
section
variable {K:PySem.W.Frag}{A:Addr->Prop}{fx:List (Nat×V)}{R:Addr->Prop}{H0 H:Hp}{ρ:PSt}{σ:St}
def mvd(ρ:PSt)(g r:Nat)(ds:List D):PSt:=(ρ.set r (some (.own ds))).set g none
theorem zw(ρ:PSt)(g r:Nat)(ds:List D):mvd ρ g r ds=(ρ.set r (some (.own ds))).set g none:=rfl
end
section
variable {X:Cx}{K:PySem.W.Frag}
def tBI(t:TE):TT:=fun σ H Q=>t σ H fun x H1=>∃i,x=.int i/\Q (i != 0) H1
theorem DI{e:Expr}{t:TE}(h:PE X e t)(he:∀whole,isTrue e X.env whole=(do let v <- whole;standAt e.pos;holding [v] (truthy v)):=by intro _;rfl):PT X e (tBI t):=by
 intro pins s σ H Q I hw;refine isTrue_plain (thn (h pins s σ H _ I hw) fun v s1 ⟨x,H1,I1,r1,q1⟩=>?_) (he _);obtain⟨d,rfl,q⟩:=q1;obtain⟨t,rfl⟩:=r1;exact truthy_int ⟨H1,I1,q⟩
def pBI(pe:PTE):PTT:=fun ρ Q=>pe ρ fun p ρ1=>match p with
 | .dat (.int i)=>Q (i != 0) ρ1
 | _=>False
theorem E3{te:TE}{pe:PTE}(h:LE K te pe):LT K (tBI te) (pBI pe):=fun A ρ σ H Q Q' R q k=>h A ρ σ H _ _ R q fun v H1 p ρ1 q1 f1 o1=>by
 split at q1
 .rename_i b;obtain⟨R1,f⟩:=o1;cases f;exact⟨b,rfl,k _ H1 ρ1 q1 f1 R1⟩
 .exact q1.elim
end
def ahB(a b:List Nat):Bool:=if a.length≠b.length then decide (a.length<b.length) else decide (a<b)
theorem tH:∀a:List Nat,¬ a<a
 | []=>by simp
 | x::a=>by rw [cons_lt_cons_iff];exact fun z=>z.elim (fun h=>Nat.lt_irrefl _ h) fun h=>tH a h.2
theorem xi:∀a b:List Nat,a.length=b.length->a<b\/a=b\/b<a
 | [],[],_=>.inr (.inl rfl)
 | x::a,y::b,h=>by
  rw [cons_lt_cons_iff,cons_lt_cons_iff]
  rcases Nat.lt_trichotomy x y with c|c|c
  .exact .inl (.inl c)
  .subst c
   rcases xi a b (Nat.succ.inj h) with e|e|e
   .exact .inl (.inr ⟨rfl,e⟩)
   .exact .inr (.inl (by rw [e]))
   .exact .inr (.inr (.inr ⟨rfl,e⟩))
  .exact .inr (.inr (.inl c))
theorem oO:∀a b c:List Nat,a.length=b.length->b.length=c.length->a<b->b<c->a<c
 | [],[],_,_,_,h,_=>absurd h (tH [])
 | x::a,y::b,z::c,h1,h2,p,q=>by
  rw [cons_lt_cons_iff] at *
  rcases p with p|⟨p,p'⟩ <;> rcases q with q|⟨q,q'⟩
  .exact .inl (lt_trans p q)
  .exact .inl (q ▸ p)
  .exact .inl (p ▸ q)
  .exact .inr ⟨p.trans q,oO a b c (Nat.succ.inj h1) (Nat.succ.inj h2) p' q'⟩
theorem xj:∀u a b:List Nat,(u++a<u++b) ↔ a<b
 | [],_,_=>Iff.rfl
 | x::u,a,b=>by
  show x::(u++a)<x::(u++b) ↔ _;rw [cons_lt_cons_iff];exact⟨fun h=>h.elim (fun h=>absurd h (Nat.lt_irrefl _)) fun h=>(xj u a b).mp h.2,fun h=>.inr ⟨rfl,(xj u a b).mpr h⟩⟩
theorem nh{a b:List Nat}:ahB a b=false ↔ b.length<a.length\/(a.length=b.length/\¬ a<b):=by
 unfold ahB
 by_cases h:a.length=b.length
 .rw [if_neg (fun z=>z h),decide_eq_false_iff_not];exact⟨fun z=>.inr ⟨h,z⟩,fun z=>z.elim (fun z=>by omega) fun z=>z.2⟩
 .rw [if_pos h,decide_eq_false_iff_not];exact⟨fun z=>.inl (by omega),fun z=>z.elim (fun z=>by omega) fun z=>absurd z.1 h⟩
theorem ql(a:List Nat):ahB a a=false:=nh.mpr (.inr ⟨rfl,tH a⟩)
theorem xk{a b:List Nat}(h:ahB a b=false)(h':ahB b a=false):a=b:=by
 rw [nh] at h h'
 rcases h with h|⟨h,n⟩
 .rcases h' with h'|⟨h',_⟩ <;> omega
 .rcases h' with h'|⟨h',n'⟩
  .omega
  .rcases xi a b h with e|e|e
   .exact absurd e n
   .exact e
   .exact absurd e n'
theorem kA{a b c:List Nat}(h:ahB a b=false)(h':ahB b c=false):ahB a c=false:=by
 rw [nh] at *
 rcases h with h|⟨h,n⟩
 .left;rcases h' with h'|⟨h',_⟩ <;> omega
 .rcases h' with h'|⟨h',n'⟩
  .left;omega
  .refine .inr ⟨h.trans h',fun z=>?_⟩
   rcases xi a b h with e|e|e
   .exact n e
   .exact n' (e ▸ z)
   .exact n' (oO b a c h.symm (h.trans h') e z)
theorem E4{a b:List Nat}(h:ahB a b=true):ahB b a=false:=by
 rw [nh];unfold ahB at h
 by_cases e:a.length=b.length
 .rw [if_neg (fun z=>z e),decide_eq_true_eq] at h;exact .inr ⟨e.symm,fun z=>tH a (oO a b a e e.symm h z)⟩
 .rw [if_pos e,decide_eq_true_eq] at h;exact .inl h
theorem DJ(u a b:List Nat):ahB (u++a) (u++b)=ahB a b:=by
 unfold ahB;rw [length_append,length_append]
 by_cases h:a.length=b.length
 .rw [if_neg (by omega),if_neg (by omega)];exact decide_eq_decide.mpr (xj u a b)
 .rw [if_pos (by omega),if_pos (by omega)];exact decide_eq_decide.mpr (by omega)
theorem zx{a b:List Nat}(h:ahB a b=false):b.length<=a.length:=by
 rw [nh] at h;omega
def Lst(S:List Nat->Prop)(t:List Nat):Prop:=S t/\∀u,S u->ahB u t=false
theorem Lst.uniq{S:List Nat->Prop}{t u:List Nat}(h:Lst S t)(h':Lst S u):t=u:=xk (h'.2 t h.1) (h.2 u h'.1)
theorem Lst.congr{S S':List Nat->Prop}{t:List Nat}(h:Lst S t)(e:∀u,S u ↔ S' u):Lst S' t:=⟨(e t).mp h.1,fun u hu=>h.2 u ((e u).mpr hu)⟩
theorem rF(t:List Nat):Lst (·∈[t]) t:=⟨mem_singleton.mpr rfl,fun u hu=>by rw [mem_singleton.mp hu];exact ql t⟩
theorem tI{ts:List (List Nat)}{b t:List Nat}(h:Lst (·∈ts) b):Lst (·∈ts++[t]) (if ahB t b=true then t else b):=by
 by_cases c:ahB t b=true
 .rw [if_pos c];refine⟨mem_append_right _ (mem_singleton.mpr rfl),fun u hu=>?_⟩
  rcases mem_append.mp hu with h'|h'
  .exact kA (h.2 u h') (E4 c)
  .rw [mem_singleton.mp h'];exact ql t
 .rw [if_neg c];refine⟨mem_append_left _ h.1,fun u hu=>?_⟩
  rcases mem_append.mp hu with h'|h'
  .exact h.2 u h'
  .rw [mem_singleton.mp h'];exact not_eq_true _ ▸ c
theorem zy:∀{ts:List (List Nat)},ts≠[]->∃t,Lst (·∈ts) t:=fun {ts}=>by
 induction ts using rB with
 | h0=>exact fun h=>absurd rfl h
 | h1 l a ih =>
  intro _
  by_cases c:l=[]
  .rw [c];exact⟨a,rF a⟩
  .obtain⟨t,ht⟩:=ih c;exact⟨_,tI ht⟩
inductive Way (L:List (List (Nat×Nat))):Nat->List Nat->Prop
 | nil {n:Nat}:L.getD n []=[]->Way L n []
 | cons {n j r:Nat}{js:List Nat}:(j,r)∈L.getD n []->Way L r js->Way L n (j::js)
def tlG(hd:Nat->Nat->List Nat)(ls:Nat->List Nat):Nat->List Nat->List Nat
 | i,[]=>ls i
 | i,j::r=>hd i j++tlG hd ls j r
def zA(L:List (List (Nat×Nat)))(hd:Nat->Nat->List Nat)(ls:Nat->List Nat)(n i:Nat)(t:List Nat):Prop:=∃js,Way L n js/\t=tlG hd ls i js
theorem Br{L:List (List (Nat×Nat))}{hd:Nat->Nat->List Nat}{ls:Nat->List Nat}{n i:Nat}(h:L.getD n []=[]):Lst (zA L hd ls n i) (ls i):=⟨⟨[],.nil h,rfl⟩,fun u ⟨js,w,e⟩=>by
 cases w with
 | nil _=>rw [e];exact ql _
 | cons m _=>rw [h] at m;cases m⟩
theorem yJ{L:List (List (Nat×Nat))}{hd:Nat->Nat->List Nat}{ls:Nat->List Nat}{n i:Nat}{E:Nat->Nat->List Nat}(hn:L.getD n []≠[])(hE:∀p∈L.getD n [],Lst (zA L hd ls p.2 p.1) (E p.2 p.1)){t:List Nat}(h:Lst (·∈(L.getD n []).map fun p=>hd i p.1++E p.2 p.1) t):Lst (zA L hd ls n i) t:=by
 obtain⟨hm,hl⟩:=h;obtain⟨p,hp,rfl⟩:=mem_map.mp hm;obtain⟨js,w,e⟩:=(hE p hp).1;refine⟨⟨p.1::js,.cons hp w,by rw [e];rfl⟩,fun u ⟨js',w',e'⟩=>?_⟩
 cases w' with
 | nil z=>exact absurd z hn
 | @cons _ j r js'' m w'' =>
  have h1:=(hE (j,r) m).2 _ ⟨js'',w'',rfl⟩;rw [e'];refine kA (b:=hd i j++E r j) ?_ (hl _ (mem_map.mpr ⟨(j,r),m,rfl⟩));show ahB (hd i j++_) _=false;rw [DJ];exact h1
theorem Bs{L:List (List (Nat×Nat))}{hd:Nat->Nat->List Nat}{ls:Nat->List Nat}{n:Nat}{E:Nat->Nat->List Nat}(hn:L.getD n []≠[])(hE:∀p∈L.getD n [],Lst (zA L hd ls p.2 p.1) (E p.2 p.1)){t:List Nat}(h:Lst (·∈(L.getD n []).map fun p=>E p.2 p.1) t):Lst (fun u=>∃j js,Way L n (j::js)/\u=tlG hd ls j js) t:=by
 obtain⟨hm,hl⟩:=h;obtain⟨p,hp,rfl⟩:=mem_map.mp hm;obtain⟨js,w,e⟩:=(hE p hp).1;refine⟨⟨p.1,js,.cons hp w,e⟩,fun u ⟨j,js',w',e'⟩=>?_⟩
 cases w' with
 | @cons _ _ r _ m w''=>rw [e'];exact kA ((hE (j,r) m).2 _ ⟨js',w'',rfl⟩) (hl _ (mem_map.mpr ⟨(j,r),m,rfl⟩))
def hdW(ws:List (List Nat))(i j:Nat):List Nat:=(pw ws i).take ((pw ws i).length - dz (pw ws i) (pw ws j))
theorem Bt{a b:List Nat}{k:Nat}(h:oA a b k):a=a.take (a.length - k)++b.take k:=by
 have h1:=h.1;obtain⟨u,e⟩:=h.2.1;have hl:(b.take k).length=k:=by rw [length_take];omega
 have:u=a.take (a.length - k):=by
  rw [<- e,length_append,hl,add_sub_cancel,take_left]
 rw [<- this,e]
theorem xl{ws:List (List Nat)}:∀(js:List Nat) (i:Nat),0<(pw ws i).length->(∀j∈js,0<(pw ws j).length)->tlG (hdW ws) (pw ws) i js=glN ws (i::js)
 | [],i,_,_=>by show pw ws i=pw ws i++_;rw [show glT ws i []=[] from rfl,append_nil]
 | j::r,i,hi,hj=>by
  have h0:=hj j mem_cons_self;have ih:=xl r j h0 fun k hk=>hj k (mem_cons_of_mem _ hk);have hs:=Bt (df hi h0);show hdW ws i j++tlG (hdW ws) (pw ws) j r=pw ws i++((pw ws j).drop (dz (pw ws i) (pw ws j))++glT ws j r)
  rw [ih];show _++(pw ws j++glT ws j r)=_;unfold hdW;generalize dz (pw ws i) (pw ws j)=k at hs ⊢;generalize hA:(pw ws i).take ((pw ws i).length - k)=A at hs ⊢;rw [hs,append_assoc,<- append_assoc (as:=(pw ws j).take _),take_append_drop]
theorem zB{L:List (List (Nat×Nat))}{w:Nat}(h:∀n,∀p∈L.getD n [],p.1<w){n:Nat}{js:List Nat}(hw:Way L n js):∀j∈js,j<w:=by
 induction hw with
 | nil _=>exact fun j hj=>nomatch hj
 | cons m _ ih=>exact fun j hj=>(mem_cons.mp hj).elim (fun e=>e ▸ h _ _ m) (ih j)
theorem Bu{L:List (List (Nat×Nat))}(h:∀n,∀p∈L.getD n [],p.2<n){n:Nat}{js:List Nat}(hw:Way L n js):js.length<=n:=by
 induction hw with
 | nil _=>exact zero_le _
 | cons m _ ih=>have:=h _ _ m;show _+1<=_;omega
theorem xm{hd:Nat->Nat->List Nat}{ls:Nat->List Nat}{w m:Nat}(h1:∀i j,(hd i j).length<=m)(h2:∀i,(ls i).length<=m):∀(js:List Nat) (i:Nat),(tlG hd ls i js).length<=m*(js.length+1)
 | [],i=>by show (ls i).length<=m*1;rw [Nat.mul_one];exact h2 i
 | j::r,i=>by
  have:=xm h1 h2 (w:=w) r j;have:=h1 i j;show (hd i j++_).length<=m*(r.length+1+1);rw [length_append,mul_succ];omega
def jo(m:Nat):List Nat:=(List.range 12).filter m.testBit
theorem oP{m n i:Nat}(hm:m<2^n)(h:m.testBit i=true):i<n:=by
 rcases lt_or_ge i n with h2|h2
 .exact h2
 .rw [testBit_lt_two_pow (lt_of_lt_of_le hm (pow_le_pow_right (n:=2) (by decide) h2))] at h;cases h
theorem gG{m j:Nat}(hm:m<4096):j∈jo m ↔ m.testBit j=true:=by
 unfold jo;rw [mem_filter,mem_range];exact⟨fun h=>h.2,fun h=>⟨oP (n:=12) hm h,h⟩⟩
theorem lc{m i:Nat}(hm:m<4096)(h:m.testBit i=true):2^i<=m/\∀j,(m - 2^i).testBit j=(m.testBit j && decide (j≠i)):=by
 have ge:∀s:Nat,s.testBit i=true->2^i<=s:=fun s hs=>by
  rcases lt_or_ge s (2^i) with z|z
  .rw [testBit_lt_two_pow z] at hs;cases hs
  .exact z
 refine⟨ge m h,fun j=>?_⟩;obtain⟨q,s,hs,e⟩:∃q s,s<2^(i+1)/\m=2^(i+1)*q+s:=⟨m / 2^(i+1),m % 2^(i+1),mod_lt _ (pow_pos (by decide)),(div_add_mod m (2^(i+1))).symm⟩
 subst e
 have hsb:s.testBit i=true:=by
  rw [testBit_two_pow_mul_add _ hs,if_pos (by omega)] at h;exact h
 have h1:=ge s hsb;obtain⟨r,rfl⟩:∃r,s=2^i+r:=⟨s - 2^i,by omega⟩
 have hp:2^(i+1)=2^i+2^i:=by rw [pow_succ];omega
 have hr:r<2^i:=by omega
 rw [show 2^(i+1)*q+(2^i+r) - 2^i=2^(i+1)*q+r by omega,testBit_two_pow_mul_add _ (show r<2^(i+1) by omega),testBit_two_pow_mul_add _ hs]
 by_cases c:j<i+1
 .rw [if_pos c,if_pos c]
  rcases lt_or_ge j i with z|z
  .rw [testBit_two_pow_add_gt z];simp;omega
  .have:j=i:=by omega
   subst this;rw [testBit_lt_two_pow hr];simp
 .rw [if_neg c,if_neg c];simp;omega
def gH(n:Nat):List (List (Nat×Nat)):=(List.range (2^n)).map fun m=>(jo m).map fun i=>(i,m - 2^i)
theorem i6{n m:Nat}(h:m<2^n):(gH n).getD m []=(jo m).map fun i=>(i,m - 2^i):=by
 unfold gH;rw [getD_eq_getElem?_getD,getElem?_map,getElem?_range h];rfl
theorem oQ{n m:Nat}(hn:n<=12){p:Nat×Nat}(h:p∈(gH n).getD m []):m<2^n/\p.1<n/\p.2<m/\m.testBit p.1=true/\p.2=m - 2^p.1:=by
 by_cases c:m<2^n
 .rw [i6 c] at h;obtain⟨i,hi,rfl⟩:=mem_map.mp h;have h12:m<4096:=lt_of_lt_of_le c (pow_le_pow_right (n:=2) (by decide) hn);have hb:=(gG h12).mp hi;have:=(lc h12 hb).1;have h0:0<2^i:=pow_pos (by decide);exact⟨c,oP c hb,by show m - 2^i<m;omega,hb,rfl⟩
 .rw [getD_eq_getElem?_getD,getElem?_eq_none (by unfold gH;rw [length_map,length_range];omega)] at h;cases h
theorem kB{n:Nat}(hn:n<=12):∀(js:List Nat) (m:Nat),m<2^n->(Way (gH n) m js ↔ js.Nodup/\∀i,i∈js ↔ m.testBit i=true)
 | [],m,hm=>by
  have h12:m<4096:=lt_of_lt_of_le hm (pow_le_pow_right (n:=2) (by decide) hn)
  constructor
  .rintro (h|_);rw [i6 hm] at h;have h:=map_eq_nil_iff.mp h;exact⟨nodup_nil,fun i=>⟨fun z=>(not_mem_nil z).elim,fun z=>by rw [<- gG h12,h] at z;cases z⟩⟩
  .rintro⟨_,h⟩;refine .nil ?_;rw [i6 hm,map_eq_nil_iff];exact eq_nil_iff_forall_not_mem.mpr fun i hi=>nomatch (h i).mpr ((gG h12).mp hi)
 | j::r,m,hm=>by
  have h12:m<4096:=lt_of_lt_of_le hm (pow_le_pow_right (n:=2) (by decide) hn)
  constructor
  .intro h
   cases h with
   | @cons _ _ r' _ hc hw =>
    obtain⟨_,c2,c3,c4,c5⟩:=oQ hn hc;have c4:m.testBit j=true:=c4;have c5:r'=m - 2^j:=c5;subst c5;obtain⟨nd,hi⟩:=(kB hn r _ (lt_trans c3 hm)).mp hw;have hb:=(lc h12 c4).2
    refine⟨nodup_cons.mpr ⟨fun z=>?_,nd⟩,fun i=>?_⟩
    .have:=(hi j).mp z;rw [hb,decide_eq_false (fun z=>z rfl),Bool.and_false] at this;cases this
    .rw [mem_cons,hi,hb]
     by_cases e:i=j
     .subst e;simp [c4]
     .simp [e]
  .rintro⟨nd,hi⟩;have c4:=(hi j).mp mem_cons_self;obtain⟨c1,hb⟩:=lc h12 c4;obtain⟨nj,nd⟩:=nodup_cons.mp nd
   refine .cons (r:=m - 2^j) ?_ ((kB hn r _ (lt_of_le_of_lt (sub_le _ _) hm)).mpr ⟨nd,fun i=>?_⟩)
   .rw [i6 hm];exact mem_map.mpr ⟨j,(gG h12).mpr c4,rfl⟩
   .rw [hb,and_eq_true,decide_eq_true_eq,<- hi,mem_cons];refine⟨fun h=>⟨.inr h,fun e=>nj (e ▸ h)⟩,fun h=>h.1.elim (fun e=>absurd e h.2) id⟩
theorem tJ{n:Nat}(hn:n<=12){js:List Nat}:Way (gH n) (2^n - 1) js ↔ js.Perm (List.range n):=by
 have h0:0<2^n:=pow_pos (by decide);rw [kB hn js _ (by omega)]
 constructor
 .rintro⟨nd,h⟩;refine (perm_ext_iff_of_nodup nd nodup_range).mpr fun i=>?_;rw [h,testBit_two_pow_sub_one,mem_range,decide_eq_true_eq]
 .intro h;refine⟨h.nodup_iff.mpr nodup_range,fun i=>?_⟩;rw [h.mem_iff,testBit_two_pow_sub_one,mem_range,decide_eq_true_eq]
def Bv(ps:List (List Nat))(u:List Nat):Prop:=∀p∈ps,p <:+: u
def GlS(ws:List (List Nat))(u:List Nat):Prop:=∃js:List Nat,js.Perm (List.range ws.length)/\u=glN ws js
theorem rG{ps:List (List Nat)}{u:List Nat}(hin:∀w∈af ps,w <:+: u):∃js:List Nat,js.Perm (List.range (af ps).length)/\js.Pairwise (fun a b=>fnd u (pw (af ps) a) 0<fnd u (pw (af ps) b) 0):=by
 let le:Nat->Nat->Bool:=fun a b=>decide (fnd u (pw (af ps) a) 0<=fnd u (pw (af ps) b) 0)
 have hp:=mergeSort_perm (List.range (af ps).length) le
 have hs:((List.range (af ps).length).mergeSort le).Pairwise (fun a b=>le a b=true):=pairwise_mergeSort (le:=le) (fun a b c h1 h2=>decide_eq_true (Int.le_trans (of_decide_eq_true h1) (of_decide_eq_true h2))) (fun a b=>by
  rcases Int.le_total (fnd u (pw (af ps) a) 0) (fnd u (pw (af ps) b) 0) with h|h
  .rw [show le a b=true from decide_eq_true h,Bool.true_or]
  .rw [show le b a=true from decide_eq_true h,Bool.or_true]) _
 have nd:=hp.nodup_iff.mpr nodup_range;refine⟨_,hp,(hs.and nd).imp_of_mem fun {a b} ma mb h=>?_⟩;have la:=mem_range.mp (hp.mem_iff.mp ma);have lb:=mem_range.mp (hp.mem_iff.mp mb);have h1:fnd u (pw (af ps) a) 0<=fnd u (pw (af ps) b) 0:=of_decide_eq_true h.1;have h2:=Dz (hin _ (br la)) (hin _ (br lb)) (dn la lb h.2) (dn lb la (Ne.symm h.2));omega
theorem oR{ps:List (List Nat)}(hp:Pcs 60 ps){js:List Nat}(h:js.Perm (List.range (af ps).length)):Bv ps (glN (af ps) js):=fun p hpp=>by
 refine yF (fun w hw=>(hp w hw).2.1) (fun w hw=>?_) hpp;obtain⟨j,hj,rfl⟩:=getElem_of_mem hw;rw [show (af ps)[j]=pw (af ps) j from Option.some.inj ((getElem?_eq_getElem hj).symm.trans (cY hj))];exact zr (fun k hk=>(cJ hp _ (br (mem_range.mp (h.mem_iff.mp hk)))).1) (h.mem_iff.mpr (mem_range.mpr hj))
theorem tK{ps:List (List Nat)}{w:List Nat}(h:w∈af ps):w∈ps:=by
 unfold af at h;obtain⟨k,hk,rfl⟩:=mem_map.mp h;exact br (dW hk)
theorem tL{ps:List (List Nat)}(hp:Pcs 60 ps){u:List Nat}(h:Bv ps u):∃js:List Nat,js.Perm (List.range (af ps).length)/\ahB u (glN (af ps) js)=false:=by
 have hin:∀w∈af ps,w <:+: u:=fun w hw=>h w (tK hw);obtain⟨js,h1,h2⟩:=rG hin;obtain⟨b1,b2,_,_⟩:=Bh hp hin h1 h2;refine⟨js,h1,?_⟩
 by_cases e:(glN (af ps) js).length=u.length
 .rw [b2 e];exact ql u
 .rw [nh];left;omega
theorem yK{ps:List (List Nat)}(hp:Pcs 60 ps){t:List Nat}(h:Lst (GlS (af ps)) t):Lst (Bv ps) t:=by
 obtain⟨⟨js,h1,e⟩,hl⟩:=h;refine⟨by rw [e];exact oR hp h1,fun u hu=>?_⟩;obtain⟨ks,k1,k2⟩:=tL hp hu;exact kA k2 (hl _ ⟨ks,k1,rfl⟩)
theorem yL{ps:List (List Nat)}(hp:Pcs 60 ps){t:List Nat}(h:Lst (Bv ps) t):Lst (GlS (af ps)) t:=by
 obtain⟨ks,k1,k2⟩:=tL hp h.1;have e:t=glN (af ps) ks:=xk k2 (h.2 _ (oR hp k1));exact⟨⟨ks,k1,e⟩,fun u ⟨js,h1,e1⟩=>by rw [e1];exact h.2 _ (oR hp h1)⟩
section
variable {X:Cx}{K:PySem.W.Frag}{a b:Expr}{rest:List Expr}{ta tb:TE}{pe pe':PTE}
def tBL(K:PySem.W.Frag)(t:TE):TT:=fun σ H Q=>t σ H fun x H1=>∃k,DU K x H1 k/\Q k H1
theorem Bw(K:PySem.W.Frag)(e:X.K=K)(ha:PE X a ta)(he:∀whole,isTrue a X.env whole=(do let v <- whole;standAt a.pos;holding [v] (truthy v)):=by intro _;rfl):PT X a (tBL K ta):=by
 subst e;exact xJ ha he
def pBL(pe:PTE):PTT:=fun ρ Q=>pe ρ fun p ρ1=>match p.d with
 | .lst ds=>Q (!ds.isEmpty) ρ1
 | .tup ds=>Q (!ds.isEmpty) ρ1
 | _=>False
theorem FVs.emp{O:Addr->Prop}{H:Hp}{xs:List V}{ds:List D}(h:FVs K O H xs ds):(!xs.isEmpty)=!ds.isEmpty:=by cases h <;> rfl
theorem E5(h:LE K ta pe):LT K (tBL K ta) (pBL pe):=fun A ρ σ H Q Q' R q k=>h A ρ σ H _ _ R q fun v H1 p ρ1 q1 f1 o1=>by
 obtain⟨R1,f⟩:=o1.frz
 split at q1
 .rename_i ds e;rw [e] at f
  cases f with
  | lst na ea fa=>exact⟨!ds.isEmpty,.inl ⟨_,SqL.of ea,fa.emp.symm⟩,k _ H1 ρ1 q1 f1 R1⟩
 .rename_i ds e;rw [e] at f
  cases f with
  | tup na ea fa=>exact⟨!ds.isEmpty,.inr (.inl ⟨_,SqT.of ea,fa.emp.symm⟩),k _ H1 ρ1 q1 f1 R1⟩
 .exact q1.elim
def FB(K:PySem.W.Frag)(ta tb:TE):TE:=fun σ H Q=>ta σ H fun x H1=>∃k,DU K x H1 k/\if k=true then Q x H1 else tb σ H1 Q
theorem DK(K:PySem.W.Frag)(e:X.K=K)(ha:PE X a ta)(hb:PE X (.BoolOp .Or (b::rest) pos) tb):PE X (.BoolOp .Or (a::b::rest) pos) (FB K ta tb):=by
 subst e;intro pins s σ H Q I h;refine BoolOp_or (thn (ha pins s σ H _ I h) fun v s1 ⟨x,H1,I1,r1,q1⟩=>?_);obtain⟨k,hk,q1⟩:=q1;refine thn (yZ pins s1 σ H1 x v (fun k' H'=>k'=k/\H'=H1) I1 r1 ⟨k,hk,rfl,rfl⟩) fun c s2 z=>?_;obtain⟨H2,I2,z1,z2⟩:=z;subst z1 z2
 cases c with
 | false=>exact hb pins s2 σ _ Q I2 q1
 | true=>exact⟨x,_,I2,r1,q1⟩
def FC(a b:PTE):PTE:=fun ρ Q=>a ρ fun p ρ1=>match p.d with
 | .lst ds=>iB (!ds.isEmpty) (Q p ρ1) (b ρ1 Q)
 | .tup ds=>iB (!ds.isEmpty) (Q p ρ1) (b ρ1 Q)
 | _=>False
theorem DL(ha:LE K ta pe)(hb:LE K tb pe'):LE K (FB K ta tb) (FC pe pe'):=fun A ρ σ H Q Q' R q k=>ha A ρ σ H _ _ R q fun v H1 p ρ1 q1 f1 o1=>by
 obtain⟨R1,f⟩:=o1.frz
 have fin:∀c:Bool,iB c (Q p ρ1) (pe' ρ1 Q)->(if c=true then Q' v H1 else tb σ H1 Q'):=fun c z=>by
  cases c with
  | false=>exact hb A ρ1 σ H1 _ _ R1 z fun b H2 p2 ρ2 q2 f2 o2=>k b H2 p2 ρ2 q2 (f1.trans f2) (o2.h0 fun b z=>f1.dm b z)
  | true=>exact k _ H1 _ ρ1 z f1 o1
 split at q1
 .rename_i ds e;rw [e] at f
  cases f with
  | lst na ea fa=>exact⟨!ds.isEmpty,.inl ⟨_,SqL.of ea,fa.emp.symm⟩,fin _ q1⟩
 .rename_i ds e;rw [e] at f
  cases f with
  | tup na ea fa=>exact⟨!ds.isEmpty,.inr (.inl ⟨_,SqT.of ea,fa.emp.symm⟩),fin _ q1⟩
 .exact q1.elim
end
def rgF(ws:List (List Nat))(i0:Nat)(js:List Nat)(k:Nat):List Nat:=hdW ws (js.getD k 0) (if k+1<js.length then js.getD (k+1) 0 else i0)
theorem zC(ws:List (List Nat))(i0:Nat):∀(r:List Nat) (i:Nat),tlG (hdW ws) (fun i=>hdW ws i i0) i r=((List.range (r.length+1)).map (rgF ws i0 (i::r))).flatten
 | [],i=>by
  show hdW ws i i0=(hdW ws i i0++[])
  rw [append_nil]
 | j::r,i=>by
  rw [length_cons,range_succ_eq_map,map_cons,flatten_cons,map_map];show hdW ws i j++tlG (hdW ws) (fun i=>hdW ws i i0) j r=_;rw [zC ws i0 r j]
  have e0:rgF ws i0 (i::j::r) 0=hdW ws i j:=by
   unfold rgF;rw [if_pos (by rw [length_cons,length_cons];omega)];rfl
  have e1:(List.range (r.length+1)).map (rgF ws i0 (i::j::r) ∘ Nat.succ)=(List.range (r.length+1)).map (rgF ws i0 (j::r)):=map_congr_left fun k _=>by
   show rgF ws i0 (i::j::r) (k+1)=_;unfold rgF;rw [getD_cons_succ,getD_cons_succ,length_cons]
   by_cases c:k+1<(j::r).length
   .rw [if_pos c,if_pos (by omega)]
   .rw [if_neg c,if_neg (by omega)]
  rw [e0,e1]
theorem oS(ws:List (List Nat))(i0:Nat)(r:List Nat):tlG (hdW ws) (fun i=>hdW ws i i0) i0 r=rgN ws (i0::r) (r.length+1):=by
 rw [zC];unfold rgN;congr 1;refine map_congr_left fun k hk=>?_;have hk:=mem_range.mp hk;unfold rgF rgP hdW
 by_cases c:k+1<(i0::r).length
 .rw [if_pos c,mod_eq_of_lt c]
 .rw [if_neg c]
  have:(k+1) % (i0::r).length=0:=by
   have h1:k+1=(i0::r).length:=by rw [length_cons] at c ⊢;omega
   rw [h1,mod_self]
  rw [this];rfl
def rH(ws:List (List Nat))(u:List Nat):Prop:=∃r:List Nat,(0::r).Perm (List.range ws.length)/\u=rgN ws (0::r) (r.length+1)
theorem xn{n i:Nat}(h0:0<n)(hn:n<=12):(2^n - 2).testBit i=(decide (i<n) && decide (i≠0)):=by
 have h1:2^n - 1<4096:=by
  have:=pow_le_pow_right (n:=2) (by decide) hn;have:2^12=4096:=by decide
  omega
 have hb:(2^n - 1).testBit 0=true:=by rw [testBit_two_pow_sub_one];exact decide_eq_true h0
 have:=(lc h1 hb).2 i;rw [show 2^n - 1 - 2^0=2^n - 2 by omega,testBit_two_pow_sub_one] at this;exact this
theorem tM{n:Nat}(h0:0<n)(hn:n<=12){r:List Nat}:Way (gH n) (2^n - 2) r ↔ (0::r).Perm (List.range n):=by
 have hp:2<=2^n:=Nat.le_trans (show 2<=2^1 by decide) (pow_le_pow_right (n:=2) (by decide) h0);rw [kB hn r _ (by omega)]
 constructor
 .rintro⟨nd,h⟩
  have nz:0∉r:=fun z=>by
   have:=(h 0).mp z;rw [xn h0 hn] at this;simp at this
  refine (perm_ext_iff_of_nodup (nodup_cons.mpr ⟨nz,nd⟩) nodup_range).mpr fun i=>?_;rw [mem_cons,h,xn h0 hn,and_eq_true,decide_eq_true_eq,decide_eq_true_eq,mem_range]
  by_cases e:i=0
  .subst e;exact⟨fun _=>h0,fun _=>.inl rfl⟩
  .exact⟨fun z=>z.elim (fun z=>absurd z e) fun z=>z.1,fun z=>.inr ⟨z,e⟩⟩
 .intro h;obtain⟨nz,nd⟩:=nodup_cons.mp (h.nodup_iff.mpr nodup_range);refine⟨nd,fun i=>?_⟩;rw [xn h0 hn,and_eq_true,decide_eq_true_eq,decide_eq_true_eq];have:=h.mem_iff (a:=i);rw [mem_cons,mem_range] at this;refine⟨fun z=>⟨this.mp (.inr z),fun e=>nz (e ▸ z)⟩,fun z=>(this.mpr z.1).elim (fun e=>absurd e z.2) id⟩
theorem yM{ws:List (List Nat)}(h0:0<ws.length)(hn:ws.length<=12){t:List Nat}(h:Lst (zA (gH ws.length) (hdW ws) (fun i=>hdW ws i 0) (2^ws.length - 2) 0) t):Lst (rH ws) t :=
 h.congr fun u=>⟨fun ⟨js,w,e⟩=>⟨js,(tM h0 hn).mp w,by rw [e,oS]⟩,fun ⟨js,w,e⟩=>⟨js,(tM h0 hn).mpr w,by rw [e,oS]⟩⟩
theorem zD{ws:List (List Nat)}(i0:Nat)(h0:0<(pw ws i0).length):∀(r:List Nat) (i:Nat),(∀j∈i::r,0<(pw ws j).length)->(tlG (hdW ws) (fun i=>hdW ws i i0) i r).length+zq ws i r+dz (pw ws ((i::r).getLast (cons_ne_nil _ _))) (pw ws i0)=((i::r).map fun j=>(pw ws j).length).sum
 | [],i,h=>by
  have:=(df (h i mem_cons_self) h0).1;show (hdW ws i i0).length+0+dz (pw ws i) (pw ws i0)=(pw ws i).length+0;unfold hdW;rw [length_take];omega
 | j::r,i,h=>by
  have ih:=zD i0 h0 r j (fun k hk=>h k (mem_cons_of_mem _ hk));have:=(df (h i mem_cons_self) (h j (mem_cons_of_mem _ mem_cons_self))).1;rw [getLast_cons (cons_ne_nil _ _),map_cons,sum_cons,<- ih];show (hdW ws i j++_).length+(dz (pw ws i) (pw ws j)+zq ws j r)+_=_;have e:(hdW ws i j).length+dz (pw ws i) (pw ws j)=(pw ws i).length:=by unfold hdW;rw [length_take];omega
  rw [length_append];omega
theorem xo{ws:List (List Nat)}{i:Nat}{r:List Nat}(h:∀j∈i::r,0<(pw ws j).length):(glN ws (i::r)).length=(rgN ws (i::r) (r.length+1)).length+dz (pw ws ((i::r).getLast (cons_ne_nil _ _))) (pw ws i):=by
 have h1:=wU h;have h2:=zD i (h i mem_cons_self) r i h;rw [oS] at h2;have:EZ ws (i::r)=zq ws i r:=rfl;omega
theorem qm{ws:List (List Nat)}{js:List Nat}{a:Nat}(ha:a<=js.length):(rgN ws (js.drop a++js.take a) js.length).length=(rgN ws js js.length).length:=by
 unfold rgN;have hl:(js.drop a++js.take a).length=js.length:=by rw [length_append,length_drop,length_take];omega
 rcases eq_zero_or_pos js.length with z|z
 .rw [z];rfl
 have gd:∀k,k<js.length->(js.drop a++js.take a).getD k 0=js.getD ((a+k) % js.length) 0:=fun k hk=>by
  rw [getD_eq_getElem?_getD,getD_eq_getElem?_getD]
  rcases lt_or_ge k (js.length - a) with c|c
  .rw [getElem?_append_left (by rw [length_drop];exact c),getElem?_drop,mod_eq_of_lt (by omega)]
  .rw [getElem?_append_right (by rw [length_drop];exact c),length_drop,getElem?_take_of_lt (by omega)]
   have:(a+k) % js.length=k - (js.length - a):=by
    rw [show a+k=k - (js.length - a)+js.length by omega,add_mod_right,mod_eq_of_lt (by omega)]
   rw [this]
 have e:(List.range js.length).map (rgP ws (js.drop a++js.take a))=((List.range js.length).map (rgP ws js)).drop a++((List.range js.length).map (rgP ws js)).take a:=by
  have rp:∀k,k<js.length->rgP ws (js.drop a++js.take a) k=rgP ws js ((a+k) % js.length):=fun k hk=>by
   unfold rgP;rw [hl,gd k hk,gd _ (mod_lt _ z)];congr 3;rw [add_mod_mod,mod_add_mod,add_assoc]
  refine ext_getElem (by rw [length_append,length_drop,length_take,length_map,length_map,length_range];omega) fun k h1 h2=>?_;rw [length_map,length_range] at h1;rw [getElem_map,getElem_range,rp k h1]
  rcases lt_or_ge k (js.length - a) with c|c
  .rw [getElem_append_left (by rw [length_drop,length_map,length_range];exact c),getElem_drop,getElem_map,getElem_range,mod_eq_of_lt (by omega)]
  .rw [getElem_append_right (by rw [length_drop,length_map,length_range];exact c),getElem_take,getElem_map,getElem_range];congr 1;rw [length_drop,length_map,length_range,show a+k=k - (js.length - a)+js.length by omega,add_mod_right,mod_eq_of_lt (by omega)]
 rw [e,length_flatten,length_flatten];have:(((List.range js.length).map (rgP ws js)).drop a++((List.range js.length).map (rgP ws js)).take a).Perm ((List.range js.length).map (rgP ws js)):=perm_append_comm.trans (by rw [take_append_drop]);exact (this.map List.length).sum_nat
theorem yN{ws:List (List Nat)}{t:List Nat}(ht:Lst (rH ws) t){js:List Nat}(hj:js.Perm (List.range ws.length))(h0:0<ws.length):t.length<=(rgN ws js js.length).length:=by
 have hl:=hj.length_eq;rw [length_range] at hl;have hm:0∈js:=hj.mem_iff.mpr (mem_range.mpr h0);obtain⟨a,b,e⟩:=append_of_mem hm;have ha:a.length<=js.length:=by rw [e,length_append];omega
 have hd:js.drop a.length++js.take a.length=0::(b++a):=by
  rw [e,drop_left,take_left];rfl
 have hp:(0::(b++a)).Perm (List.range ws.length):=by
  rw [<- hd];exact (perm_append_comm.trans (by rw [take_append_drop])).trans hj
 have hlen:(b++a).length+1=js.length:=by rw [e,length_append,length_append,length_cons];omega
 have:=zx (ht.2 _ ⟨b++a,hp,rfl⟩);rw [<- hd,hlen,qm ha] at this;exact this
theorem Bx{ws:List (List Nat)}{js:List Nat}{c:Nat}(hpos:∀j∈js,0<(pw ws j).length)(hc:c<js.length):∃ks:List Nat,ks.Perm js/\(glN ws ks).length=(rgN ws js js.length).length+dz (pw ws (js.getD c 0)) (pw ws (js.getD ((c+1) % js.length) 0)):=by
 have hpm:(js.drop (c+1)++js.take (c+1)).Perm js:=perm_append_comm.trans (by rw [take_append_drop]);refine⟨js.drop (c+1)++js.take (c+1),hpm,?_⟩;have hl:=hpm.length_eq;have ht:=qm (ws:=ws) (js:=js) (a:=c+1) (by omega)
 have g0:(js.drop (c+1)++js.take (c+1)).getD 0 0=js.getD ((c+1) % js.length) 0:=by
  rw [getD_eq_getElem?_getD,getD_eq_getElem?_getD]
  rcases lt_or_ge (c+1) js.length with z|z
  .rw [getElem?_append_left (by rw [length_drop];omega),getElem?_drop,mod_eq_of_lt z,Nat.add_zero]
  .have:c+1=js.length:=by omega
   rw [drop_eq_nil_of_le z,nil_append,getElem?_take_of_lt (by omega),this,mod_self]
 have gl:(js.drop (c+1)++js.take (c+1)).getLastD 0=js.getD c 0:=by
  have:js.take (c+1)=js.take c++[js[c]]:=by rw [take_succ,getElem?_eq_getElem hc];rfl
  rw [this,<- append_assoc,getLastD_concat,getD_eq_getElem?_getD,getElem?_eq_getElem hc];rfl
 generalize js.drop (c+1)++js.take (c+1)=ks at hpm hl ht g0 gl
 cases ks with
 | nil=>exact absurd hl (by show 0≠_;omega)
 | cons i r =>
  have h:=xo (ws:=ws) (i:=i) (r:=r) fun j hj=>hpos j (hpm.mem_iff.mp hj);have hr:r.length+1=js.length:=hl;rw [hr,ht] at h;have e1:(i::r).getLast (cons_ne_nil _ _)=js.getD c 0:=by rw [<- gl,getLastD_cons];exact getLast_eq_getLastD _
  have e2:i=js.getD ((c+1) % js.length) 0:=g0;rw [h,e1,<- e2]
theorem lf{l w:List Nat}(h:frP l w≠-1):0<=frP l w/\frP l w<(l.length:Int):=by
 obtain⟨k,e,hk,_⟩:=gU h;rw [e];omega
theorem xp{l:List Nat}{p m n:Nat}(h:m<=n):(rdR l p n).take m=rdR l p m:=by
 have:=oK (l:=l) (p:=p) (n:=n) (a:=0) (m:=m) (by omega);rw [drop_zero,Nat.add_zero] at this;exact this
theorem zE{l a b:List Nat}(ha:frP l a≠-1)(hb:frP l b≠-1)(h1:¬ a <:+: b)(h2:¬ b <:+: a):frP l a≠frP l b:=fun e=>by
 obtain⟨k,ek,_,rk⟩:=gU ha;obtain⟨m,em,_,rm⟩:=gU hb;have:k=m:=by rw [ek,em] at e;omega
 subst this
 rcases Nat.le_total a.length b.length with c|c
 .refine h1 ?_;rw [<- rk,<- rm,<- xp (n:=b.length) c];exact (take_prefix _ _).isInfix
 .refine h2 ?_;rw [<- rk,<- rm,<- xp (n:=a.length) c];exact (take_prefix _ _).isInfix
theorem yO{x y z L:Int}(hx:0<=x/\x<L)(hy:0<=y/\y<L)(h:(x - z) % L=(y - z) % L):x=y:=by
 have h1:(x - y) % L=0:=by
  have:=emod_emod_of_dvd (x - z) (dvd_refl L);have e:x - y=(x - z) - (y - z):=by omega
  rw [e,sub_emod,h,Int.sub_self,zero_emod]
 obtain⟨q,hq⟩:=dvd_of_emod_eq_zero h1
 have:q=0:=by
  rcases Int.lt_trichotomy q 0 with c|c|c
  .have:L*q<=L*(-1):=mul_le_mul_of_nonneg_left (by omega) (by omega);omega
  .exact c
  .have:L*1<=L*q:=mul_le_mul_of_nonneg_left (by omega) (by omega);omega
 rw [this] at hq;omega
theorem uA{ps:List (List Nat)}{l:List Nat}(hall:∀k,k<(af ps).length->frP l (pw (af ps) k)≠-1):∃js:List Nat,js.Perm (List.range (af ps).length)/\js.Pairwise (fun a b=>(frP l (pw (af ps) a) - frP l (pw (af ps) 0)) % (l.length:Int)<(frP l (pw (af ps) b) - frP l (pw (af ps) 0)) % (l.length:Int)):=by
 let key:Nat->Int:=fun a=>(frP l (pw (af ps) a) - frP l (pw (af ps) 0)) % (l.length:Int)
 let le:Nat->Nat->Bool:=fun a b=>decide (key a<=key b)
 have hp:=mergeSort_perm (List.range (af ps).length) le
 have hs:((List.range (af ps).length).mergeSort le).Pairwise (fun a b=>le a b=true):=pairwise_mergeSort (le:=le) (fun a b c h1 h2=>decide_eq_true (Int.le_trans (of_decide_eq_true h1) (of_decide_eq_true h2))) (fun a b=>by
  rcases Int.le_total (key a) (key b) with h|h
  .rw [show le a b=true from decide_eq_true h,Bool.true_or]
  .rw [show le b a=true from decide_eq_true h,Bool.or_true]) _
 have nd:=hp.nodup_iff.mpr nodup_range;refine⟨_,hp,(hs.and nd).imp_of_mem fun {a b} ma mb h=>?_⟩;have la:=mem_range.mp (hp.mem_iff.mp ma);have lb:=mem_range.mp (hp.mem_iff.mp mb);have h1:key a<=key b:=of_decide_eq_true h.1;have h2:key a≠key b:=fun e=>zE (hall a la) (hall b lb) (dn la lb h.2) (dn lb la (Ne.symm h.2)) (yO (lf (hall a la)) (lf (hall b lb)) e);show key a<key b;omega
end L2
namespace K47
open PySem PySem.Spec PyProof.Rows L2
def top(i:Nat):Stmt:=PySem.Challenge.pw_shortglue_k47_whole_row_and_round.main.body.getD i (.Pass ⟨0,0,0,0⟩)
abbrev fk:Stmt:=top 10
abbrev fH:Stmt:=top 11
abbrev lg:Stmt:=top 13
abbrev jp:Stmt:=top 16
abbrev jq:Stmt:=top 17
abbrev dF:Stmt:=top 18
abbrev jr:Stmt:=top 19
abbrev iH:Stmt:=top 20
abbrev jt:Stmt:=top 21
abbrev eE:Stmt:=top 22
abbrev ju:Stmt:=top 23
abbrev fJ:Stmt:=top 25
abbrev d7:Stmt:=top 27
abbrev By:Stmt:=top 29
abbrev jv:Stmt:=top 30
abbrev e7:Stmt:=top 32
abbrev eF:Stmt:=top 33
abbrev lh:Stmt:=top 34
abbrev jw:Stmt:=top 35
abbrev cE:Stmt:=vo (top 36) 0
abbrev cF:Stmt:=vo (top 36) 1
abbrev gI:Stmt:=top 38
abbrev jx:Stmt:=top 39
abbrev fK:Stmt:=top 40
abbrev jy:Stmt:=top 41
abbrev li:Stmt:=top 42
abbrev gJ:Stmt:=top 43
abbrev fL:Stmt:=top 44
abbrev jA:Stmt:=top 45
abbrev lm:Stmt:=top 46
abbrev e8:Stmt:=top 47
abbrev jB:Stmt:=top 48
abbrev iI:Stmt:=top 49
abbrev iJ:Stmt:=top 50
abbrev jC:Stmt:=top 51
abbrev ln:Stmt:=top 52
abbrev iK:Stmt:=top 53
abbrev iM:Stmt:=top 54
abbrev lp:Stmt:=top 55
abbrev yP:Stmt:=top 56
theorem uB:aI ["thing","least","most"] ["thing","least","most"] (ao fk):=⟨rfl,rfl,rfl,by decide +kernel,rfl,by decide +kernel,by decide +kernel⟩
theorem mq:aI ["text","piece"] ["text","piece"] (ao fH):=⟨rfl,rfl,rfl,by decide +kernel,rfl,by decide +kernel,by decide +kernel⟩
theorem uC:aI ["mark"] ["mark"] (ao lg):=⟨rfl,rfl,rfl,by decide +kernel,rfl,by decide +kernel,by decide +kernel⟩
theorem rJ:aI ["one","other"] ["one","other"] (ao jp):=⟨rfl,rfl,rfl,by decide +kernel,rfl,by decide +kernel,by decide +kernel⟩
theorem fM:aI ["texts","best","text"] ["texts"] (ao jq):=⟨rfl,rfl,rfl,by decide +kernel,rfl,by decide +kernel,by decide +kernel⟩
theorem i8:aI ["family"] ["family"] (ao dF):=⟨rfl,rfl,rfl,by decide +kernel,rfl,by decide +kernel,by decide +kernel⟩
theorem rK:aI ["words","laps"] ["words","laps"] (ao jr):=⟨rfl,rfl,rfl,by decide +kernel,rfl,by decide +kernel,by decide +kernel⟩
theorem qo:aI ["many"] ["many"] (ao iH):=⟨rfl,rfl,rfl,by decide +kernel,rfl,by decide +kernel,by decide +kernel⟩
theorem fN:aI ["heads","lasts","lefts","ends","choices","nexts"] ["heads","lasts","lefts"] (ao jt):=⟨rfl,rfl,rfl,by decide +kernel,rfl,by decide +kernel,by decide +kernel⟩
theorem gf:aI ["words","laps","lefts","ends"] ["words","laps","lefts"] (ao eE):=⟨rfl,rfl,rfl,by decide +kernel,rfl,by decide +kernel,by decide +kernel⟩
theorem rL:aI ["family"] ["family"] (ao ju):=⟨rfl,rfl,rfl,by decide +kernel,rfl,by decide +kernel,by decide +kernel⟩
theorem mr:aI ["family"] ["family"] (ao fJ):=⟨rfl,rfl,rfl,by decide +kernel,rfl,by decide +kernel,by decide +kernel⟩
theorem cT:aI ["family","heads","ends","all_but_first"] ["family"] (ao d7):=⟨rfl,rfl,rfl,by decide +kernel,rfl,by decide +kernel,by decide +kernel⟩
theorem zF:aI ["one","other","k"] ["one","other"] (ao By):=⟨rfl,rfl,rfl,by decide +kernel,rfl,by decide +kernel,by decide +kernel⟩
theorem rM:aI ["words"] ["words"] (ao jv):=⟨rfl,rfl,rfl,by decide +kernel,rfl,by decide +kernel,by decide +kernel⟩
theorem eG:aI ["things","at","thing"] ["things"] (ao e7):=⟨rfl,rfl,rfl,by decide +kernel,rfl,by decide +kernel,by decide +kernel⟩
theorem km:aI ["piece","other"] ["piece","other"] (ao eF):=⟨rfl,rfl,rfl,by decide +kernel,rfl,by decide +kernel,by decide +kernel⟩
theorem jD:aI ["pieces","at","piece","longer"] ["pieces","at"] (ao lh):=⟨rfl,rfl,rfl,by decide +kernel,rfl,by decide +kernel,by decide +kernel⟩
theorem lq:aI ["pieces","kept","at","holder"] ["pieces","kept","at"] (ao jw):=⟨rfl,rfl,rfl,by decide +kernel,rfl,by decide +kernel,by decide +kernel⟩
theorem ib:aI ["self","pieces","indexes"] ["self","pieces"] (ao cE):=⟨rfl,rfl,rfl,by decide +kernel,rfl,by decide +kernel,by decide +kernel⟩
theorem mw:aI ["self"] ["self"] (ao cF):=⟨rfl,rfl,rfl,by decide +kernel,rfl,by decide +kernel,by decide +kernel⟩
theorem fO:aI ["_law_script","_law_k","_law_cell"] ["_law_script","_law_k"] (ao gI):=⟨rfl,rfl,rfl,by decide +kernel,rfl,by decide +kernel,by decide +kernel⟩
theorem lr:aI ["_law_stream_here","_law_most","_law_digit"] ["_law_stream_here","_law_most"] (ao jx):=⟨rfl,rfl,rfl,by decide +kernel,rfl,by decide +kernel,by decide +kernel⟩
theorem e9:aI ["_law_stream_here","_law_alphabet","_law_way"] ["_law_stream_here"] (ao fK):=⟨rfl,rfl,rfl,by decide +kernel,rfl,by decide +kernel,by decide +kernel⟩
theorem rN:aI ["_law_stream_here","_law_letters_here","_law_most"] ["_law_stream_here","_law_letters_here","_law_most"] (ao jy):=⟨rfl,rfl,rfl,by decide +kernel,rfl,by decide +kernel,by decide +kernel⟩
theorem nk:aI ["_law_stream_here","_law_text","_law_most","_law_at"] ["_law_stream_here","_law_text","_law_most"] (ao li):=⟨rfl,rfl,rfl,by decide +kernel,rfl,by decide +kernel,by decide +kernel⟩
theorem bn:aI ["_law_stream_here","_law_many","_law_most","_law_letters_here","_law_base","_law_found","_law_k","_law_way","_law_piece"] ["_law_stream_here","_law_many","_law_most"] (ao gJ):=⟨rfl,rfl,rfl,by decide +kernel,rfl,by decide +kernel,by decide +kernel⟩
theorem ic:aI ["_law_pieces_here","_law_k","_law_other"] ["_law_pieces_here","_law_k"] (ao fL):=⟨rfl,rfl,rfl,by decide +kernel,rfl,by decide +kernel,by decide +kernel⟩
theorem rO:aI ["_law_pieces_here"] ["_law_pieces_here"] (ao jA):=⟨rfl,rfl,rfl,by decide +kernel,rfl,by decide +kernel,by decide +kernel⟩
theorem nq:aI ["_law_one_here","_law_other","_law_k"] ["_law_one_here","_law_other"] (ao lm):=⟨rfl,rfl,rfl,by decide +kernel,rfl,by decide +kernel,by decide +kernel⟩
theorem eH:aI ["_law_stream_here","_law_row_here","_law_left","_law_found"] ["_law_stream_here","_law_row_here"] (ao e8):=⟨rfl,rfl,rfl,by decide +kernel,rfl,by decide +kernel,by decide +kernel⟩
theorem eI:aI ["_law_words","_law_order","_law_text","_law_k","_law_word_here"] ["_law_words","_law_order"] (ao jB):=⟨rfl,rfl,rfl,by decide +kernel,rfl,by decide +kernel,by decide +kernel⟩
theorem jV:aI ["_law_ring_here","_law_place","_law_size","_law_text"] ["_law_ring_here","_law_place","_law_size"] (ao iI):=⟨rfl,rfl,rfl,by decide +kernel,rfl,by decide +kernel,by decide +kernel⟩
theorem jW:aI ["_law_ring_here","_law_word_here","_law_place"] ["_law_ring_here","_law_word_here"] (ao iJ):=⟨rfl,rfl,rfl,by decide +kernel,rfl,by decide +kernel,by decide +kernel⟩
theorem dg:aI ["_law_stream_here","_law_words","_law_order","_law_text","_law_k","_law_word_here","_law_at"] ["_law_stream_here","_law_words","_law_order"] (ao jC):=⟨rfl,rfl,rfl,by decide +kernel,rfl,by decide +kernel,by decide +kernel⟩
theorem gW:aI ["_law_words","_law_order","_law_text","_law_k"] ["_law_words","_law_order"] (ao ln):=⟨rfl,rfl,rfl,by decide +kernel,rfl,by decide +kernel,by decide +kernel⟩
theorem dX:aI ["_law_words","_law_ring_here","_law_where","_law_order","_law_laps","_law_k"] ["_law_words","_law_ring_here"] (ao iK):=⟨rfl,rfl,rfl,by decide +kernel,rfl,by decide +kernel,by decide +kernel⟩
theorem jX:aI ["_law_words","_law_ring_here","_law_row_here","_law_word_here"] ["_law_words","_law_ring_here","_law_row_here"] (ao iM):=⟨rfl,rfl,rfl,by decide +kernel,rfl,by decide +kernel,by decide +kernel⟩
theorem cu:aI ["_law_stream_here","_law_sizes","_law_pieces_here","_law_words","_law_family","_law_ring_here","_law_row_here","_law_k","_law_order","_law_laid_here"] ["_law_stream_here"] (ao lp):=⟨rfl,rfl,rfl,by decide +kernel,rfl,by decide +kernel,by decide +kernel⟩
theorem zG:aI ["_law_script","_law_k"] ["_law_script"] (ao yP):=⟨rfl,rfl,rfl,by decide +kernel,rfl,by decide +kernel,by decide +kernel⟩
structure Txt (mg:Str->Option Value):Prop where
 b_abs:mg "abs"=none
 b_all:mg "all"=none
 b_any:mg "any"=none
 b_enumerate:mg "enumerate"=none
 b_isinstance:mg "isinstance"=none
 b_len:mg "len"=none
 b_list:mg "list"=none
 b_max:mg "max"=none
 b_min:mg "min"=none
 b_range:mg "range"=none
 b_sorted:mg "sorted"=none
 b_str:mg "str"=none
 b_sum:mg "sum"=none
 b_tuple:mg "tuple"=none
 b_zip:mg "zip"=none
 g_MOST_PIECES:∃t,mg "MOST_PIECES"=some (.int 40 t)
 g_MOST_SHORTEST_WORDS:∃t,mg "MOST_SHORTEST_WORDS"=some (.int 12 t)
 g_MOST_SIGNS:∃t,mg "MOST_SIGNS"=some (.int 60 t)
structure TxC (K:PySem.W.Frag):Prop where
 cl_Family:Cls K (cb K "Family")
 n_Family_pieces:eL K (cb K "Family") "pieces"
 n_Family_kept:eL K (cb K "Family") "kept"
 n_Family_words:eL K (cb K "Family") "words"
 n_Family_left:eL K (cb K "Family") "left"
 n_Family_laps:eL K (cb K "Family") "laps"
 n_Family_total:eL K (cb K "Family") "total"
local macro_rules | `(tactic| walk_at "s")=>`(tactic| first | (with_reducible omega) | (with_reducible assumption) | (with_reducible rfl) | exact le_of_ble_eq_true rfl | (simp only [length_cons,length_nil,length_append,length_map];(with_reducible omega)) | assumption | rfl | (refine ⟨?_,?_⟩ <;> first | (with_reducible omega) | (with_reducible assumption) | (with_reducible rfl) | exact le_of_ble_eq_true rfl | assumption | rfl | (refine ⟨?_,?_⟩ <;> first | (with_reducible omega) | (with_reducible assumption) | (with_reducible rfl) | exact le_of_ble_eq_true rfl | assumption | rfl | (refine ⟨?_,?_⟩ <;> first | (with_reducible omega) | (with_reducible assumption) | (with_reducible rfl) | exact le_of_ble_eq_true rfl | assumption | rfl | fail) | fail) | fail) | omega | fail)
local macro_rules | `(tactic| walk_at "r")=>`(tactic| ((try dsimp only [set_cons_zero,set_cons_succ,wK,wM,wN,Du,Dv,qe,m8,m9,tq,tu,tail_cons,qf,qg,tw,xg,xh,zw]);(conv=>whnf);(repeat (first | ((with_reducible refine And.intro ?_ ?_);(next=>walk_at "s");(conv=>whnf)) | ((with_reducible refine (show Exists _ from ?_));(first | (refine ⟨_,rfl,?_⟩) | (refine ⟨_,uq.lst _,?_⟩) | (refine ⟨_,uq.tup _,?_⟩));(conv=>whnf)) | ((refine (show iB _ _ _ from ?_));(first | (with_reducible refine FO (by assumption) ?_) | (with_reducible refine FP (by assumption) ?_) | (with_reducible refine Ev (by assumption) ?_) | (with_reducible refine AD (by assumption) ?_) | ((with_reducible refine Et ?_ ?_);(next=>(first | (with_reducible rfl) | (with_reducible assumption) | (with_reducible omega)))) | ((with_reducible refine Eu ?_ ?_);(next=>(first | (with_reducible rfl) | (with_reducible assumption) | (with_reducible omega)))) | ((with_reducible refine CN ?_ ?_);(next=>(first | (with_reducible rfl) | (with_reducible assumption) | (with_reducible omega)))) | ((with_reducible refine CO ?_ ?_);(next=>(first | (with_reducible rfl) | (with_reducible assumption) | (with_reducible omega)))));(conv=>whnf))));(try refine (show iB _ _ _ from ?_));(try dsimp only [set_cons_zero,set_cons_succ,wK,wM,wN,Du,Dv,qe,m8,m9,tq,tu,tail_cons,qf,qg,tw,xg,xh,zw])))
def stv(s:Int×Int):PV:=.own [.int s.1,.int s.2]
def SOk:Int×Int->Prop
 | (a,b)=>0<=a/\0<=b/\b < 2 ^ 60
def nr:Nat:=3
def cU:FN
 | [d,.int a,.int b],Q=>d.sort=true/\ES d<=1000000/\Q (.dat (.bl (yo d a b)))
 | _,_=>False
def ie:Nat:=2
def aS:FN
 | [.str a,.str b],Q=>Q (.dat (.int (fnd a b 0)))
 | _,_=>False
def nt:Nat:=1
theorem DM(m i:Nat):Builtin.bitAnd ((m:Int) / 2^(i:Int).toNat) 1=if m.testBit i then 1 else 0:=by
 have e:(m:Int) / 2^(i:Int).toNat=((m / 2^i:Nat):Int):=by
  rw [toNat_natCast,natCast_ediv,natCast_pow];rfl
 rw [e];generalize hq:m / 2^i=q
 have h:Builtin.bitAnd (q:Int) 1=((q &&& 1:Nat):Int):=by
  unfold Builtin.bitAnd;simp
 rw [h,and_one_is_mod]
 have ht:m.testBit i=decide (q % 2=1):=by
  rw [testBit_eq_decide_div_mod_eq,hq]
 rw [ht]
 by_cases c:q % 2=1
 .rw [decide_eq_true c,if_pos rfl,c];rfl
 .rw [decide_eq_false c,if_neg (by decide),show q % 2=0 by omega];rfl
theorem qp{k:Nat}(h:k<4096):k<2^k9 (k:Int)/\k9 (k:Int)<=12:=by
 unfold k9
 by_cases c:k=0
 .subst c;exact⟨by decide,by decide⟩
 .have e:((k:Int) == 0)=false:=by rw [beq_eq_false_iff_ne];omega
  rw [e,if_neg (by decide),natAbs_natCast];refine⟨lt_log2_self,?_⟩;have:=(log2_lt c (k:=12)).mpr h;omega
theorem uD{k:Nat}(h:k<4096):(List.range (k9 (k:Int))).filter k.testBit=jo k:=by
 obtain⟨h1,h2⟩:=qp h;unfold jo;generalize k9 (k:Int)=n at h1 h2;obtain⟨d,hd⟩:∃d,12=n+d:=⟨12 - n,by omega⟩
 have:∀d,(List.range (n+d)).filter k.testBit=(List.range n).filter k.testBit:=fun d=>by
  induction d with
  | zero=>rfl
  | succ d ih =>
   rw [<- add_assoc,range_succ,filter_append,ih,filter_cons,if_neg]
   .simp
   .intro z;have:=oP h1 z;omega
 rw [hd,this d]
theorem FD(n:Nat):(1:Int)*2^(n:Int).toNat=((2^n:Nat):Int):=by rw [toNat_natCast,Int.one_mul,natCast_pow];rfl
theorem qq(k:Nat):(jo k).length<=12:=by
 unfold jo;refine Nat.le_trans (length_filter_le ..) ?_;rw [length_range];exact le_refl _
def bY:FN
 | [.int m],Q=>∃k:Nat,m=(k:Int)/\k<4096/\Q (.own ((jo k).map nD))
 | _,_=>False
def lu:Nat:=2
def cf:FN
 | [.str a,.str b],Q=>Q (.dat (.bl (ahB a b)))
 | _,_=>False
def lv:Nat:=3
def bo:FN
 | [.lst ds],Q=>∃ts:List (List Nat),ds=ts.map .str/\(ts≠[]/\ts.length<=100000)/\∀t,Lst (·∈ts) t->Q (.dat (.str t))
 | _,_=>False
def eQ:Nat:=1
def aF:FN
 | [.obj c ns fs],Q=>c="Family"/\ns=oE/\∃ps:List (List Nat),fs=oF ps/\(af ps).length<=12/\Q (.dat .non)
 | _,_=>False
def lw:Nat:=2
def hdD(w:Nat)(hd:Nat->Nat->List Nat):List D:=(List.range w).map fun i=>.lst ((List.range w).map fun j=>.str (hd i j))
theorem xq{α β:Type}[Inhabited α](f:List Nat->β)(ws:List (List Nat)):ws.map f=(List.range ws.length).map fun i=>f (pw ws i):=by
 refine ext_getElem (by rw [length_map,length_map,length_range]) fun i h1 h2=>?_;rw [length_map] at h1;rw [getElem_map,getElem_map,getElem_range];congr 1;exact Option.some.inj ((getElem?_eq_getElem h1).symm.trans (cY h1))
def bw:FN
 | [.tup ds,.tup ls],Q=>∃ws:List (List Nat),ds=ws.map .str/\(.tup ls=mo ws/\ws.length<=200/\∀w∈ws,0<w.length/\w.length<=60)/\Q (.dat (.lst (hdD ws.length (hdW ws))))
 | _,_=>False
def jY:Nat:=1
def chD(c:List (Nat×Nat)):D:=.lst (c.map fun p=>.tup [nD p.1,nD p.2])
def FE(L:List (List (Nat×Nat))):D:=.lst (L.map chD)
def bc:FN
 | [.int m],Q=>∃k:Nat,m=(k:Int)/\k<=12/\Q (.dat (FE (gH k)))
 | _,_=>False
def lx:Nat:=6
structure lz (L:List (List (Nat×Nat))) (hd:Nat->Nat->List Nat) (ls:Nat->List Nat) (w k:Nat) (es:List (List (List Nat))):Prop where
 len:es.length=k
 wid:∀n,n<k->(es.getD n []).length=w
 lst:∀n,n<k->∀i,i<w->Lst (zA L hd ls n i) ((es.getD n []).getD i [])
def esD(es:List (List (List Nat))):List D:=es.map fun e=>.lst (e.map .str)
structure gK (L:List (List (Nat×Nat))) (w:Nat):Prop where
 many:L.length<=4096
 ch:∀n,∀p∈L.getD n [],p.1<w/\p.2<n
 few:∀n,(L.getD n []).length<=100
theorem lz.snoc{L:List (List (Nat×Nat))}{hd:Nat->Nat->List Nat}{ls:Nat->List Nat}{w k:Nat}{es:List (List (List Nat))}(h:lz L hd ls w k es){e:List (List Nat)}(hw:e.length=w)(he:∀i,i<w->Lst (zA L hd ls k i) (e.getD i [])):lz L hd ls w (k+1) (es++[e]):=by
 have g1:∀n,n<k->(es++[e]).getD n []=es.getD n []:=fun n hn=>by rw [getD_eq_getElem?_getD,getElem?_append_left (by rw [h.len];exact hn),<- getD_eq_getElem?_getD]
 have g2:(es++[e]).getD k []=e:=by rw [getD_eq_getElem?_getD,getElem?_append_right (by rw [h.len];exact le_refl _),h.len,Nat.sub_self];rfl
 refine⟨by rw [length_append,h.len];rfl,fun n hn=>?_,fun n hn i hi=>?_⟩
 .by_cases c:n<k
  .rw [g1 n c];exact h.wid n c
  .rw [show n=k by omega,g2];exact hw
 .by_cases c:n<k
  .rw [g1 n c];exact h.lst n c i hi
  .rw [show n=k by omega,g2];exact he i hi
theorem lz.txt{L:List (List (Nat×Nat))}{hd:Nat->Nat->List Nat}{ls:Nat->List Nat}{w k:Nat}{es:List (List (List Nat))}(h:lz L hd ls w k es)(hL:gK L w)(h1:∀i j,(hd i j).length<=60)(h2:∀i,(ls i).length<=60){n i:Nat}(hn:n<k)(hk:n<=4096)(hi:i<w):((es.getD n []).getD i []).length<=300000:=by
 obtain⟨⟨js,hw,e⟩,_⟩:=h.lst n hn i hi;rw [e];have:=xm (w:=w) h1 h2 js i;have:=Bu (fun n p hp=>(hL.ch n p hp).2) hw;omega
theorem zH{L:List (List (Nat×Nat))}{k:Nat}(h:k<L.length):itD (L.map chD) k=chD (L.getD k []):=h9 (by rw [getElem?_map,getElem?_eq_getElem h,getD_eq_getElem?_getD,getElem?_eq_getElem h];rfl)
theorem xr{es:List (List (List Nat))}{n:Nat}(h:n<es.length):atI (esD es) (n:Int)=some (.lst ((es.getD n []).map .str)):=gB (j:=n) (by unfold esD;rw [getElem?_map,getElem?_eq_getElem h,getD_eq_getElem?_getD,getElem?_eq_getElem h];rfl) rfl
theorem zI{w:Nat}{hd:Nat->Nat->List Nat}{i j:Nat}(hj:j<w):atI ((List.range w).map fun j=>D.str (hd i j)) (j:Int)=some (.str (hd i j)):=gB (j:=j) (by rw [getElem?_map,getElem?_range hj];rfl) rfl
def yQ(ts:List (List Nat)):List Nat:=open Classical in if h:ts≠[] then Classical.choose (zy h) else []
theorem tN{ts:List (List Nat)}(h:ts≠[]):Lst (·∈ts) (yQ ts):=by unfold yQ;rw [dif_pos h];exact Classical.choose_spec (zy h)
theorem zJ{w:Nat}{f:Nat->List Nat}{i:Nat}(h:i<w):((List.range w).map f).getD i []=f i:=by rw [getD_eq_getElem?_getD,getElem?_map,getElem?_range h];rfl
def bx:FN
 | [.lst hs,la,.lst cs],Q=>∃(w:Nat) (hd:Nat->Nat->List Nat),hs=hdD w hd/\∃L:List (List (Nat×Nat)),cs=L.map chD/\∃ls:Nat->List Nat,(uq la ((List.range w).map fun i=>.str (ls i))/\gK L w/\(∀i j,(hd i j).length<=60)/\(∀i,(ls i).length<=60)/\w<=200)/\∀es:List (List (List Nat)),lz L hd ls w L.length es->Q (.dat (.lst (esD es)))
 | _,_=>False
def gg:Nat:=4
theorem zK{ws:List (List Nat)}(hw:∀w∈ws,0<w.length/\w.length<=60)(i j:Nat):(hdW ws i j).length<=60:=by
 unfold hdW;rw [length_take];have:=uv (fun w h=>(hw w h).2) i;omega
theorem DN{ws:List (List Nat)}(hw:∀w∈ws,0<w.length/\w.length<=60){L:List (List (Nat×Nat))}(hL:gK L ws.length){n:Nat}(hn:L.getD n []≠[]){t:List Nat}(h:Lst (fun u=>∃j js,Way L n (j::js)/\u=tlG (hdW ws) (pw ws) j js) t):Lst (fun u=>∃js,Way L n js/\u=glN ws js) t:=by
 have hp:∀i,i<ws.length->0<(pw ws i).length:=fun i hi=>(hw _ (br hi)).1
 refine h.congr fun u=>⟨fun ⟨j,js,w,e⟩=>?_,fun ⟨js,w,e⟩=>?_⟩
 .have hl:=zB (fun n p hp=>(hL.ch n p hp).1) w;exact⟨j::js,w,by rw [e,xl js j (hp j (hl j mem_cons_self)) fun k hk=>hp k (hl k (mem_cons_of_mem _ hk))]⟩
 .cases js with
  | nil=>cases w with|nil z=>exact absurd z hn
  | cons j js =>
   have hl:=zB (fun n p hp=>(hL.ch n p hp).1) w;exact⟨j,js,w,by rw [e,xl js j (hp j (hl j mem_cons_self)) fun k hk=>hp k (hl k (mem_cons_of_mem _ hk))]⟩
theorem Bz{ws:List (List Nat)}{L:List (List (Nat×Nat))}{n:Nat}(hn:L.getD n []=[]):Lst (fun u=>∃js,Way L n js/\u=glN ws js) []:=by
 refine⟨⟨[],.nil hn,rfl⟩,fun u ⟨js,w,e⟩=>?_⟩
 cases w with
 | nil _=>rw [e];exact ql _
 | cons m _=>rw [hn] at m;cases m
theorem xt{ds:List D}(h:0<ds.length):atI ds (-1)=some (itD ds (ds.length - 1)):=by
 unfold atI ixN;rw [if_neg (by decide),if_pos (by omega),show ((-1:Int)+(ds.length:Int)).toNat=ds.length - 1 by omega];unfold itD;show ds[ds.length - 1]?=_;rw [getD_eq_getElem?_getD,getElem?_eq_getElem (by omega)];rfl
def aV:FN
 | [.tup ds,.tup ls,.lst cs],Q=>∃ws:List (List Nat),ds=ws.map .str/\∃L:List (List (Nat×Nat)),cs=L.map chD/\(.tup ls=mo ws/\ws.length<=200/\(∀w∈ws,0<w.length/\w.length<=60)/\gK L ws.length/\0<L.length)/\∀t,Lst (fun u=>∃js,Way L (L.length - 1) js/\u=glN ws js) t->Q (.dat (.str t))
 | _,_=>False
def lA:Nat:=1
theorem gL(n:Nat):(gH n).length=2^n:=by unfold gH;rw [length_map,length_range]
theorem tO{n:Nat}(h:n<=12):gK (gH n) n :=
 ⟨by rw [gL];exact pow_le_pow_right (n:=2) (by decide) h,fun m p hp=>⟨(oQ h hp).2.1,(oQ h hp).2.2.1⟩,fun m=>by
  by_cases c:m<2^n
  .rw [i6 c,length_map];exact Nat.le_trans (qq m) (by decide)
  .rw [getD_eq_getElem?_getD,getElem?_eq_none (by rw [gL];omega)];exact zero_le _⟩
def bI:FN
 | [.obj c ns fs],Q=>c="Family"/\ns=oE/\∃ps:List (List Nat),fs=oF ps/\(Pcs 60 ps/\(af ps).length<=12)/\∀t,Lst (Bv ps) t->Q (.dat (.str t))
 | _,_=>False
def ig:Nat:=1
def bg:FN
 | [.obj c ns fs],Q=>c="Family"/\ns=oE/\∃ps:List (List Nat),fs=oF ps/\0<(af ps).length/\Q (.dat .non)
 | _,_=>False
def fm:Nat:=4
def aK:FN
 | [.obj c ns fs],Q=>c="Family"/\ns=oE/\∃ps:List (List Nat),fs=oF ps/\((Pcs 60 ps/\(af ps).length<=12)/\0<(af ps).length)/\∀t,Lst (rH (af ps)) t->Q (.dat (.str t))
 | _,_=>False
def zL:Nat:=3
def gh:FN
 | [.str a,.str b],Q=>(0<a.length/\a.length<=10000)/\(0<b.length/\b.length<=10000)/\Q (.dat (.int (dz a b:Int)))
 | _,_=>False
def lB:Nat:=1
def cg:FN
 | [.tup ds],Q=>∃ws:List (List Nat),ds=ws.map .str/\(ws.length<=1000/\∀w∈ws,0<w.length/\w.length<=10000)/\Q (.dat (mo ws))
 | _,_=>False
def gM:Nat:=3
def a8:FN
 | [d],Q=>∃ws:List (List Nat),uq d (ws.map .str)/\(ws.length<=40/\Pcs 60 ws)/\Q (.dat .non)
 | _,_=>False
def gi:Nat:=2
def aG:FN
 | [.str a,.str b],Q=>Q (.dat (.bl (gc a b)))
 | _,_=>False
def nu:Nat:=4
def cv:FN
 | [.tup ds,.int i],Q=>∃ws:List (List Nat),ds=ws.map .str/\(ws.length<=1000/\∀w∈ws,w.length<=10000)/\(0<=i/\i<(ws.length:Int))/\Q (.dat (.bl (dU ws i.toNat)))
 | _,_=>False
def lC:Nat:=4
def bU:FN
 | [.tup ds,.tup ks,.int i],Q=>∃ws:List (List Nat),ds=ws.map .str/\ks=(aH ws).map nD/\(ws.length<=1000/\∀w∈ws,w.length<=60)/\(0<=i/\i<(ws.length:Int))/\Q (.dat (eC ws i.toNat))
 | _,_=>False
def ii:Nat:=3
def bh:FR
 | .ins "Family" [] [],[d],Q=>∃ws:List (List Nat),uq d (ws.map .str)/\(ws.length<=40/\Pcs 60 ws)/\Q (.dat .non) (.ins "Family" oE (oF ws))
 | _,_,_=>False
def ik:Nat:=1
def aA:FN
 | [.obj c ns fs],Q=>c="Family"/\ns=oE/\∃ws:List (List Nat),fs=oF ws/\Q (.dat (.int ((af ws).length:Int)))
 | _,_=>False
def i9:Nat:=3
def bA:FN
 | [.scr ns,.int k],Q=>0<=k/\k<=1000/\∀s:Int×Int,SOk s->Q (stv s)
 | _,_=>False
def lD:Nat:=3
def ax:FR
 | .own [.int c0,.int c1],[.int m],Q=>SOk (c0,c1)/\0<m/\m<=1000000/\∀(x:Int) (s:Int×Int),SOk s->0<=x->x<m->Q (.dat (.int x)) (stv s)
 | _,_,_=>False
def im:Nat:=3
def bB:FR
 | .own [.int c0,.int c1],[],Q=>SOk (c0,c1)/\∀(ls:List Nat) (s:Int×Int),SOk s->2<=ls.length->ls.length<=26->Lts ls->Q (.dat (.str ls)) (stv s)
 | _,_,_=>False
def lE:Nat:=3
def cj:FR
 | .own [.int c0,.int c1],[.str ls,.int m],Q=>SOk (c0,c1)/\(0<ls.length/\ls.length<=10000/\Lts ls)/\(0<m/\m<=10000)/\∀(w:List Nat) (s:Int×Int),SOk s->0<w.length->w.length<=m.toNat->Lts w->Q (.dat (.str w)) (stv s)
 | _,_,_=>False
def nv:Nat:=4
def cK:FR
 | .own [.int c0,.int c1],[.str t,.int m],Q=>SOk (c0,c1)/\(0<t.length/\t.length<=100000/\Lts t)/\(0<m/\m<=10000)/\∀(w:List Nat) (s:Int×Int),SOk s->0<w.length->w.length<=m.toNat->Lts w->Q (.dat (.str w)) (stv s)
 | _,_,_=>False
def ja:Nat:=9
def bO:FR
 | .own [.int c0,.int c1],[.int n,.int m],Q=>SOk (c0,c1)/\(0<=n/\n<=40)/\(0<m/\m<=60)/\∀(ps:List (List Nat)) (s:Int×Int),SOk s->ps.length=n.toNat->Pcs m.toNat ps->Q (.dat (.lst (ps.map .str))) (stv s)
 | _,_,_=>False
def io:Nat:=3
def a9:FN
 | [.lst ds,.int i],Q=>∃ps:List (List Nat),ds=ps.map .str/\(ps.length<=60/\∀w∈ps,w.length<=60)/\(0<=i/\i<(ps.length:Int))/\Q (.dat (.bl (!dU ps i.toNat)))
 | _,_=>False
def lF:Nat:=1
def bV:FN
 | [.lst ds],Q=>∃ps:List (List Nat),ds=ps.map .str/\(ps.length<=60/\∀w∈ps,w.length<=60)/\Q (.own ((aH ps).map nD))
 | _,_=>False
def ny:Nat:=3
def aX:FN
 | [.str a,.str b],Q=>(0<a.length/\a.length<=10000)/\(0<b.length/\b.length<=10000)/\Q (.dat (.int (dz a b:Int)))
 | _,_=>False
def gN:Nat:=4
def bp:FR
 | .own [.int c0,.int c1],[.lst ds],Q=>SOk (c0,c1)/\∃js:List Nat,ds=js.map nD/\js.length<=60/\∀(ks:List Nat) (s:Int×Int),SOk s->ks.Perm js->Q (.dat (.lst (ks.map nD))) (stv s)
 | _,_,_=>False
def lG:Nat:=5
def ck:FN
 | [.lst ds,d],Q=>∃ws:List (List Nat),ds=ws.map .str/\(ws.length<=60/\∀w∈ws,0<w.length/\w.length<=60)/\∃js:List Nat,uq d (js.map nD)/\(js.length<=60/\∀j∈js,j<ws.length)/\Q (.dat (.str (rgN ws js js.length)))
 | _,_=>False
def jZ:Nat:=4
def bP:FN
 | [.str l,.int p,.int n],Q=>BN l/\(0<=p/\p<(l.length:Int))/\(0<=n/\n<=60)/\Q (.dat (.str (rdR l p.toNat n.toNat)))
 | _,_=>False
def j4:Nat:=3
def aL:FN
 | [.str l,.str w],Q=>BN l/\(0<w.length/\w.length<=60)/\Q (.dat (.int (frP l w)))
 | _,_=>False
def lH:Nat:=7
def cG:FR
 | .own [.int c0,.int c1],[.lst ds,.lst es],Q=>SOk (c0,c1)/\∃ws:List (List Nat),ds=ws.map .str/\(ws.length<=20/\∀w∈ws,0<w.length/\w.length<=60)/\∃js:List Nat,es=js.map nD/\(0<js.length/\js.length<=20/\∀j∈js,j<ws.length)/\∀(l:List Nat) (s:Int×Int),SOk s->BN l->l.length<=1300->(∀j∈js,frP l (pw ws j)≠-1)->Q (.dat (.str l)) (stv s)
 | _,_,_=>False
def nA:Nat:=4
def cL:FN
 | [.lst ds,.lst es],Q=>∃ws:List (List Nat),ds=ws.map .str/\(ws.length<=60/\∀w∈ws,0<w.length/\w.length<=60)/\∃js:List Nat,es=js.map nD/\(0<js.length/\js.length<=60/\∀j∈js,j<ws.length)/\Q (.dat (.str (glN ws js)))
 | _,_=>False
def j5:Nat:=6
theorem zM{ws:List (List Nat)}{l:List Nat}{k:Nat}(h:k<ws.length):(ws.map fun w=>frP l w)[k]?=some (frP l (pw ws k)):=by
 rw [getElem?_map,cY h];rfl
theorem xu{ws:List (List Nat)}{l:List Nat}(hne:∀a b,a<ws.length->b<ws.length->a≠b->frP l (pw ws a)≠frP l (pw ws b)){zs:List Int}(hp:zs.Perm (ws.map fun w=>frP l w))(hs:zs.Pairwise (·<=·)):(zs.map fun z=>(ws.map fun w=>frP l w).idxOf z).Perm (List.range ws.length)/\(zs.map fun z=>(ws.map fun w=>frP l w).idxOf z).Pairwise (fun a b=>frP l (pw ws a)<frP l (pw ws b))/\∀z∈zs,(ws.map fun w=>frP l w).idxOf z<ws.length:=by
 have hlen:(ws.map fun w=>frP l w).length=ws.length:=length_map _
 have hix:∀k,k<ws.length->(ws.map fun w=>frP l w).idxOf (frP l (pw ws k))=k:=fun k hk=>by
  have hm:frP l (pw ws k)∈ws.map fun w=>frP l w:=mem_of_getElem? (zM hk);have h1:=idxOf_lt_length_of_mem hm;rw [hlen] at h1
  by_cases e:(ws.map fun w=>frP l w).idxOf (frP l (pw ws k))=k
  .exact e
  .exfalso;have h2:=getElem_idxOf (x:=frP l (pw ws k)) (xs:=ws.map fun w=>frP l w) (by rw [hlen];exact h1);have h3:=zM (l:=l) h1;rw [getElem?_eq_getElem (by rw [hlen];exact h1),h2] at h3;exact hne _ _ hk h1 (Ne.symm e) (Option.some.inj h3)
 have each:∀z∈zs,∃k,k<ws.length/\z=frP l (pw ws k):=fun z hz=>by
  obtain⟨w,hw,e⟩:=mem_map.mp (hp.mem_iff.mp hz);obtain⟨k,hk,ek⟩:=getElem_of_mem hw;refine⟨k,hk,?_⟩;rw [<- e,<- ek];rw [show ws[k]=pw ws k from Option.some.inj ((getElem?_eq_getElem hk).symm.trans (cY hk))]
 have h1:(zs.map fun z=>(ws.map fun w=>frP l w).idxOf z).Perm (List.range ws.length):=by
  have a1:=hp.map fun z=>(ws.map fun w=>frP l w).idxOf z;refine a1.trans ?_;rw [map_map]
  have:ws.map ((fun z=>(ws.map fun w=>frP l w).idxOf z) ∘ fun w=>frP l w)=List.range ws.length:=by
   refine ext_getElem (by rw [length_map,length_range]) fun k k1 k2=>?_;rw [length_map] at k1;rw [getElem_map,getElem_range];show (ws.map fun w=>frP l w).idxOf (frP l ws[k])=k;rw [show ws[k]=pw ws k from Option.some.inj ((getElem?_eq_getElem k1).symm.trans (cY k1))];exact hix k k1
  rw [this]
 refine⟨h1,?_,fun z hz=>?_⟩
 .have nd:zs.Nodup:=by
   refine hp.nodup_iff.mpr ?_;rw [xq (α:=Nat) (fun w=>frP l w) ws];exact pairwise_map.mpr ((nodup_range (n:=ws.length)).imp_of_mem fun {a b} ha hb ne=>hne a b (mem_range.mp ha) (mem_range.mp hb) ne)
  refine pairwise_map.mpr ((hs.and nd).imp_of_mem fun {a b} ha hb h=>?_);obtain⟨i,hi,rfl⟩:=each a ha;obtain⟨j,hj,rfl⟩:=each b hb;rw [hix i hi,hix j hj];have:=h.2;omega
 .obtain⟨i,hi,rfl⟩:=each z hz;rw [hix i hi];exact hi
def bQ:FN
 | [.lst ds,.str l],Q=>∃ws:List (List Nat),ds=ws.map .str/\(0<ws.length/\ws.length<=20/\∀w∈ws,0<w.length/\w.length<=60)/\BN l/\(∀a b,a<ws.length->b<ws.length->a≠b->frP l (pw ws a)≠frP l (pw ws b))/\∀(js:List Nat) (c:Nat),js.Perm (List.range ws.length)->js.Pairwise (fun a b=>frP l (pw ws a)<frP l (pw ws b))->c<js.length->Q (.dat (.int (dz (pw ws (js.getD c 0)) (pw ws (js.getD ((c+1) % js.length) 0)):Int)))
 | _,_=>False
def j6:Nat:=4
def bR:FN
 | [.lst ds,.str l,.str r],Q=>∃ws:List (List Nat),ds=ws.map .str/\(0<ws.length/\ws.length<=60/\∀w∈ws,0<w.length/\w.length<=60)/\BN l/\(r.length<=10000/\(∀w∈ws,frP l w≠-1/\w <:+: r)/\frP l (pw ws 0)=0)/\Q (.dat (.bl true))
 | _,_=>False
def nB:Nat:=10
theorem rP{ws:List (List Nat)}(h:∀i j,i<ws.length->j<ws.length->i≠j->¬ pw ws i <:+: pw ws j):af ws=ws:=by
 have hk:aH ws=List.range ws.length:=by
  unfold aH;rw [filter_eq_self];intro i hi;have hi:=mem_range.mp hi
  refine fF.mpr ⟨fun hm=>?_,fun o ho hl=>?_⟩
  .obtain⟨j,hj,e⟩:=getElem_of_mem hm;rw [length_take] at hj;rw [getElem_take] at e;refine h i j hi (by omega) (by omega) ?_;have:pw ws j=ws[j]:=by unfold pw;rw [getD_eq_getElem?_getD,getElem?_eq_getElem (by omega)];rfl
   rw [this,e];exact infix_refl _
  .obtain⟨j,hj,e⟩:=getElem_of_mem ho;have:pw ws j=o:=by unfold pw;rw [getD_eq_getElem?_getD,getElem?_eq_getElem hj,<- e];rfl
   cases hs:gc (pw ws i) o with
   | false=>rfl
   | true =>
    refine absurd (fj.mp hs) ?_;rw [<- this];exact h i j hi hj fun e=>by rw [e,this] at hl;omega
 unfold af;rw [hk];apply ext_getElem?;intro i;rw [getElem?_map]
 rcases lt_or_ge i ws.length with z|z
 .rw [getElem?_range z,cY z];rfl
 .rw [getElem?_eq_none (by rw [length_range];exact z),getElem?_eq_none z];rfl
theorem xv{ws:List (List Nat)}{n i:Nat}(h:i<(ws.take n).length):pw (ws.take n) i=pw ws i:=by
 unfold pw;rw [length_take] at h;rw [getD_eq_getElem?_getD,getD_eq_getElem?_getD,getElem?_take,if_pos (by omega)]
theorem rQ(ps:List (List Nat))(n:Nat):af ((af ps).take n)=(af ps).take n:=rP fun i j hi hj hn=>by
 rw [xv hi,xv hj];rw [length_take] at hi hj;exact dn (by omega) (by omega) hn
theorem nC{ps:List (List Nat)}{l:List Nat}(hp:Pcs 60 ps)(hl:0<l.length)(h0:0<(af ps).length)(hall:∀k,k<(af ps).length->frP l (pw (af ps) k)≠-1){js:List Nat}(h1:js.Perm (List.range (af ps).length))
  (h2:js.Pairwise (fun a b=>(frP l (pw (af ps) a) - frP l (pw (af ps) 0)) % (l.length:Int)<(frP l (pw (af ps) b) - frP l (pw (af ps) 0)) % (l.length:Int))) :
  js.getD 0 0=0/\(rgN (af ps) js js.length).length<=l.length:=by
 have hjl:=rC h1;have hlt:∀j∈js,j<(af ps).length:=fun j hj=>qi h1 hj;have get:∀k,k<js.length->js.getD k 0∈js:=fun k hk=>by rw [getD_eq_getElem?_getD,getElem?_eq_getElem hk];exact getElem_mem _
 have gk:∀k (hk:k<js.length),js.getD k 0=js[k]:=fun k hk=>by rw [getD_eq_getElem?_getD,getElem?_eq_getElem hk];rfl
 have L0:(l.length:Int)≠0:=by omega
 have t0:∀a:Int,0<=a % (l.length:Int)/\a % (l.length:Int)<(l.length:Int):=fun a=>⟨emod_nonneg _ L0,emod_lt_of_pos _ (by omega)⟩
 have z0:(frP l (pw (af ps) 0) - frP l (pw (af ps) 0)) % (l.length:Int)=0:=by rw [Int.sub_self];rfl
 have first:js.getD 0 0=0:=by
  have m0:0∈js:=h1.mem_iff.mpr (mem_range.mpr h0);obtain⟨k,hk,ek⟩:=getElem_of_mem m0
  rcases eq_zero_or_pos k with e|e
  .subst e;rw [gk 0 hk];exact ek
  .have:=pairwise_iff_getElem.mp h2 0 k (by omega) hk e;rw [ek,z0] at this;have:=(t0 (frP l (pw (af ps) js[0]) - frP l (pw (af ps) 0))).1;omega
 refine⟨first,?_⟩;obtain⟨p0,e0,p01,_⟩:=gU (hall 0 h0)
 refine uw (l:=l) (τ:=fun k=>((frP l (pw (af ps) (js.getD k 0)) - frP l (pw (af ps) 0)) % (l.length:Int)).toNat) (p0:=p0) (by omega) (fun k hk=>(cJ hp _ (br (hlt _ (get k hk)))).1) (fun k hk=>?_) ?_ (fun k hk=>?_) (fun k hk=>?_) (fun i j hi hj ne=>?_)
 .obtain⟨q,eq,q1,q2⟩:=gU (hall _ (hlt _ (get k hk)))
  have e:(p0+((frP l (pw (af ps) (js.getD k 0)) - frP l (pw (af ps) 0)) % (l.length:Int)).toNat) % l.length=q:=by
   have b:=t0 ((q:Int) - (p0:Int));rw [eq,e0]
   have c:(((p0+(((q:Int) - (p0:Int)) % (l.length:Int)).toNat) % l.length:Nat):Int)=(q:Int):=by
    rw [natCast_emod,natCast_add,toNat_of_nonneg b.1,add_emod,emod_emod_of_dvd _ (dvd_refl _),<- add_emod,show (p0:Int)+((q:Int) - (p0:Int))=(q:Int) by omega];exact emod_eq_of_lt (by omega) (by omega)
   omega
  rw [<- iG,e];exact q2
 .show ((frP l (pw (af ps) (js.getD 0 0)) - frP l (pw (af ps) 0)) % (l.length:Int)).toNat=0;rw [first,z0];rfl
 .have:=pairwise_iff_getElem.mp h2 k (k+1) (by omega) hk (by omega);show (_ % _:Int).toNat<(_ % _:Int).toNat;rw [gk k (by omega),gk (k+1) hk];have:=(t0 (frP l (pw (af ps) js[k]) - frP l (pw (af ps) 0))).1;omega
 .have:=(t0 (frP l (pw (af ps) (js.getD k 0)) - frP l (pw (af ps) 0)))
  show (_ % _:Int).toNat<_;omega
 .refine dn (hlt _ (get j hj)) (hlt _ (get i hi)) fun e=>ne ?_;rw [gk i hi,gk j hj] at e;have nd:js.Nodup:=h1.nodup_iff.mpr nodup_range;exact ((getElem?_inj hj nd).mp (by rw [getElem?_eq_getElem hj,getElem?_eq_getElem hi,e])).symm
theorem lI{qs:List (List Nat)}(hp:Pcs 60 qs)(h0:0<(af qs).length)(hn:(af qs).length<=12){t:List Nat}(ht:Lst (rH (af qs)) t):BN t/\(∀w∈af qs,frP t w≠-1)/\frP t (pw (af qs) 0)=0/\(∀js:List Nat,js.Perm (List.range (af qs).length)->t.length<=(rgN (af qs) js js.length).length)/\∀l:List Nat,0<l.length->(∀k,k<(af qs).length->frP l (pw (af qs) k)≠-1)->t.length<=l.length:=by
 have hwp:=cJ hp;have hmin:=fun (js:List Nat) (hj:js.Perm (List.range (af qs).length))=>yN ht hj h0;obtain⟨⟨r,hr,e⟩,_⟩:=ht;have hjl:(0::r).length=(af qs).length:=by rw [hr.length_eq,length_range]
 have hlt:∀j∈0::r,j<(af qs).length:=fun j hj=>mem_range.mp (hr.mem_iff.mp hj);have get:∀k,k<(0::r).length->(0::r).getD k 0∈0::r:=fun k hk=>by rw [getD_eq_getElem?_getD,getElem?_eq_getElem hk];exact getElem_mem _
 have hpos:∀k,k<(0::r).length->0<(pw (af qs) ((0::r).getD k 0)).length:=fun k hk=>(hwp _ (br (hlt _ (get k hk)))).1;have rd:=ng (ws:=af qs) (js:=0::r) (B:=rgP (af qs) (0::r)) (zero_lt_succ _) hpos (fun k hk=>.inl rfl);have eb:blk (rgP (af qs) (0::r)) (0::r).length=t:=by rw [e];rfl
 rw [eb] at rd
 have h1:0<(rgP (af qs) (0::r) 0).length:=by
  have:=(df (hpos 0 (zero_lt_succ _)) (hpos ((0+1) % (0::r).length) (mod_lt _ (zero_lt_succ _)))).1;unfold rgP;rw [length_take];omega
 have ht0:0<t.length:=by
  have:=(xb (rgP (af qs) (0::r)) (k:=0) (n:=(0::r).length) (zero_lt_succ _) h1).2;rw [eb] at this;omega
 have hpw:=uv fun w hw=>(hwp w hw).2.1
 have rl:∀m,(rgN (af qs) (0::r) m).length<=m*60:=fun m=>by
  induction m with
  | zero=>exact le_refl _
  | succ m ih =>
   rw [i5,length_append]
   have:(rgP (af qs) (0::r) m).length<=60:=by
    unfold rgP;rw [length_take];have:=hpw ((0::r).getD m 0);omega
   omega
 have htl:t.length<=720:=by
  have:=rl (r.length+1);rw [<- e] at this;have:r.length+1<=12:=by rw [length_cons] at hjl;omega
  omega
 have rdk:∀k,k<(0::r).length->rdR t (blk (rgP (af qs) (0::r)) k).length (pw (af qs) ((0::r).getD k 0)).length=pw (af qs) ((0::r).getD k 0):=fun k hk=>(tG rfl fun s hs=>(rd s k hk hs).symm).symm
 refine⟨⟨ht0,by omega⟩,fun w hw z=>?_,qj ht0 (rdk 0 (zero_lt_succ _)) (fun j hj=>absurd hj (not_lt_zero _)),hmin,fun l hl hall=>?_⟩
 .obtain⟨j,hj,ej⟩:=getElem_of_mem hw;have ew:w=pw (af qs) j:=by rw [<- ej];exact Option.some.inj ((getElem?_eq_getElem hj).symm.trans (cY hj))
  obtain⟨k,hk,ek⟩:=getElem_of_mem (hr.mem_iff.mpr (mem_range.mpr hj));have ek2:(0::r).getD k 0=j:=by rw [getD_eq_getElem?_getD,getElem?_eq_getElem hk];exact ek
  have h2:=rdk k hk;rw [ek2,<- ew,<- iG] at h2;exact oM z (mod_lt _ ht0) h2
 .obtain⟨js,j1,j2⟩:=uA hall;exact Nat.le_trans (hmin js j1) (nC hp hl h0 hall j1 j2).2
theorem uE{qs:List (List Nat)}(hp:Pcs 60 qs)(h0:0<(af qs).length)(hn:(af qs).length<=12){t r:List Nat}(ht:Lst (rH (af qs)) t)(hr:Lst (Bv qs) r):r.length<=1000/\(∀w∈af qs,w <:+: r)/\t.length<=r.length/\(∀js:List Nat,js.Perm (List.range (af qs).length)->r.length<=(glN (af qs) js).length)/\∀(js:List Nat) (c:Nat),js.Perm (List.range (af qs).length)->js.Pairwise (fun a b=>frP t (pw (af qs) a)<frP t (pw (af qs) b))->c<js.length->r.length<=t.length+dz (pw (af qs) (js.getD c 0)) (pw (af qs) (js.getD ((c+1) % js.length) 0)):=by
 have hwp:=cJ hp;obtain⟨f1,f2,f3,f4,f5⟩:=lI hp h0 hn ht;obtain⟨⟨ks,k1,k2⟩,kmin⟩:=yL hp hr;have hpos:∀js:List Nat,js.Perm (List.range (af qs).length)->∀j∈js,0<(pw (af qs) j).length:=fun js h j hj=>(hwp _ (br (mem_range.mp (h.mem_iff.mp hj)))).1;have rmin:∀js:List Nat,js.Perm (List.range (af qs).length)->r.length<=(glN (af qs) js).length:=fun js h=>zx (kmin _ ⟨js,h,rfl⟩);have hkl:=rC k1
 refine⟨?_,fun w hw=>hr.1 w (tK hw),?_,rmin,fun js c j1 j2 hc=>?_⟩
 .have:=zu (m:=60) (uv fun w hw=>(hwp w hw).2.1) ks;rw [k2];have:ks.length*60<=12*60:=mul_le_mul_right 60 (by omega);omega
 .cases ks with
  | nil=>exact absurd hkl (by show 0≠_;omega)
  | cons i s =>
   have g:=xo (ws:=af qs) (i:=i) (r:=s) (hpos _ k1);have m:=f4 _ k1;rw [k2];have:(i::s).length=s.length+1:=rfl;rw [this] at m;omega
 .obtain⟨os,o1,o2⟩:=Bx (ws:=af qs) (js:=js) (c:=c) (hpos js j1) hc;have h1:=rmin os (o1.trans j1);have hL:=f1.1
  have h2:=(nC hp hL h0 (fun k hk=>f2 _ (br hk)) j1 (j2.imp_of_mem fun {a b} ha hb h=>by
   have la:=lf (f2 _ (br (qi j1 ha)));have lb:=lf (f2 _ (br (qi j1 hb)));rw [f3,Int.sub_zero,Int.sub_zero,emod_eq_of_lt la.1 la.2,emod_eq_of_lt lb.1 lb.2];exact h)).2
  omega
def cW:FR
 | .own [.int c0,.int c1],[],Q=>SOk (c0,c1)/\∀s:Int×Int,SOk s->Q (.dat (.bl true)) (stv s)
 | _,_,_=>False
def zN:Nat:=2
abbrev tP:FN:=Fs
def gX:PTS:=(aN (jg (pOr (ye (pB (D1 .str (pSl 0)))) (ye (pB (vY fLe fLe (pSl 1) (pFz (pCB dI (ag (pSl 0) am))) (pSl 2))))) (bG (pC (.bl false))) cI) (bG (pCB EO (ag (pFz (dE [none] (dY (bb 0)) (ar 0) jR (vY fLe fLe (pFz (pC (.str [97]))) (pSl 0) (pFz (pC (.str [122])))))) am))))
theorem rR(d:D)(a b:Int)(Q:PV->Prop)(h:cU ([d,.int a,.int b]) Q):dk gX nr ([d,.int a,.int b]) Q:=by
 show gX _ [some (.dat (d)),some (.dat (.int a)),some (.dat (.int b))];obtain⟨hd,hl,q⟩:=h
 cases d with
 | str l =>
  have hl:l.length<=1000000:=hl;walk_at "r"
  refine fh (fun c1=>?_) (fun c1=>?_)
  .walk_at "r"
   refine ui (fun c2=>?_) (fun c2=>?_)
   .walk_at "r";rw [show yo (.str l) a b=false by rw [ot,decide_eq_false c2,Bool.and_false];rfl] at q;exact q
   .walk_at "r"
    refine xB (fun τ=>∃v,τ=[v]) (fun k=>.bl (ltB (l.getD k 0))) ?_ ?_ ?_
    .exact⟨_,rfl⟩
    .rintro k τ _ hk rfl ⟨v,rfl⟩ K1 k1;walk_at "r"
     refine ui (fun c=>?_) (fun c=>?_)
     .have hc:97<=l.getD k 0:=of_decide_eq_true (by rw [<- rq];rw [decide_eq_false c];rfl);walk_at "r";show K1 (.bl (!decide (([122]:List Nat)<[l.getD k 0]))) _;rw [rq];rw [show ltB (l.getD k 0)=decide (l.getD k 0<=122) by unfold ltB;rw [decide_eq_true hc];rfl] at k1;exact k1 _ ⟨_,rfl⟩
     .have hc:¬ 97<=l.getD k 0:=of_decide_eq_false (by rw [<- rq,decide_eq_true c];rfl);walk_at "r";rw [show ltB (l.getD k 0)=false by unfold ltB;rw [decide_eq_false hc];rfl] at k1;exact k1 _ ⟨_,rfl⟩
    .rintro τ ⟨v,rfl⟩;walk_at "r";refine⟨(List.range l.length).map fun k=>ltB (l.getD k 0),by rw [map_map];rfl,?_⟩
     have e:yo (.str l) a b=(((List.range l.length).map fun k=>ltB (l.getD k 0)).all id):=by
      rw [ot,decide_eq_true c1,decide_eq_true c2,Bool.and_self,Bool.true_and,fE];rw [all_map];rfl
     rw [e] at q;exact q
  .walk_at "r";rw [show yo (.str l) a b=false by rw [ot,decide_eq_false c1,Bool.false_and];rfl] at q;exact q
 | non=>walk_at "r";exact q
 | bl b=>walk_at "r";exact q
 | int i=>walk_at "r";exact q
 | ty n=>cases hd
 | lst ds=>walk_at "r";exact q
 | tup ds=>walk_at "r";exact q
 | scr ns=>cases hd
 | dic ks ds=>walk_at "r";exact q
 | obj c ns ds=>cases hd
 | exc c ns ds=>cases hd
theorem uF:∀ds Q,cU ds Q->dk gX nr ds Q:=fun ds Q h=>by
 unfold cU at h
 split at h
 .exact rR _ _ _ _ h
 .exact h.elim
def dM:PTS:=(bG (pSM p5 (bb 0) (ag (pSl 1) am)))
theorem lJ(a b:List Nat)(Q:PV->Prop)(h:aS ([.str a,.str b]) Q):dk dM ie ([.str a,.str b]) Q:=by
 show dM _ [some (.dat (.str a)),some (.dat (.str b))];walk_at "r";exact h
theorem mx:∀ds Q,aS ds Q->dk dM ie ds Q:=fun ds Q h=>by
 unfold aS at h
 split at h
 .exact lJ _ _ _ h
 .exact h.elim
def gY:PTS:=(bG (dE [none,some 0] (uk (ag (pFz (Bn (bb 0))) am)) (ar 0) (pBI (pOp Dr (pFz (pOp Fz (pSl 1) (pSl 0))) (pFz (pC (.int 1))))) (bb 0)))
theorem rS(m:Int)(Q:PV->Prop)(h:bY ([.int m]) Q):dk gY nt ([.int m]) Q:=by
 show gY _ [some (.dat (.int m))];obtain⟨k,rfl,hk,q⟩:=h;have hb:=uD hk;have hb8:=(qp hk).2;walk_at "r"
 refine cfR (fun j=>k.testBit j) (fun j=>nD j) (fun j hj v K1 K2 k1 k2=>?_) (fun v=>?_)
 .have e:=DM k j;show (0:Int)<=(j:Int)/\iB (Builtin.bitAnd ((k:Int) / 2^(j:Int).toNat) 1 != 0) _ _;refine⟨by omega,?_⟩;rw [e]
  cases h:k.testBit j with
  | true=>exact k1 _ h
  | false=>exact k2 _ h
 .rw [toNat_natCast,hb];exact q
theorem uG:∀ds Q,bY ds Q->dk gY nt ds Q:=fun ds Q h=>by
 unfold bY at h
 split at h
 .exact rS _ _ h
 .exact h.elim
def fP:PTS:=(aN (jg (pB (pOp D2 (pFz (pCB dI (ag (pSl 0) am))) (pFz (pCB dI (ag (pSl 1) am))))) (bG (pOp fLt (pFz (pCB dI (ag (pSl 0) am))) (pFz (pCB dI (ag (pSl 1) am))))) cI) (bG (pOp fLt (pSl 0) (pSl 1))))
theorem qt(a b:List Nat)(Q:PV->Prop)(h:cf ([.str a,.str b]) Q):dk fP lu ([.str a,.str b]) Q:=by
 show fP _ [some (.dat (.str a)),some (.dat (.str b))];have h:Q (.dat (.bl (ahB a b))):=h;unfold ahB at h;walk_at "r"
 refine ui (fun c=>?_) (fun c=>?_)
 .rw [if_pos (by omega)] at h;walk_at "r";rw [show decide ((a.length:Int)<(b.length:Int))=decide (a.length<b.length) from decide_eq_decide.mpr (by omega)];exact h
 .rw [if_neg (by omega)] at h;walk_at "r";exact h
theorem rT:∀ds Q,cf ds Q->dk fP lu ds Q:=fun ds Q h=>by
 unfold cf at h
 split at h
 .exact qt _ _ _ h
 .exact h.elim
def fQ:PTS:=(aN (bC (pOp fIx (pSl 0) (pFz (pC (.int 0)))) (ar 1)) (aN (hZ (dY (dt (pSl 0) (dh (pC (.int 1))) dA)) (ar 2) (jg (pB (aY cf (ag (pFz (bb 2)) (ag (pFz (bb 1)) am)))) (bC (bb 2) (ar 1)) cI)) (bG (bb 1))))
theorem qu(ds:List D)(Q:PV->Prop)(h:bo ([.lst ds]) Q):dk fQ lv ([.lst ds]) Q:=by
 show fQ _ [some (.dat (.lst ds)),none,none];obtain⟨ts,rfl,⟨hne,hl⟩,q⟩:=h;obtain⟨t0,r,rfl⟩:∃t0 r,ts=t0::r:=by cases ts with|nil=>exact absurd rfl hne|cons t0 r=>exact⟨t0,r,rfl⟩
 have hl:r.length+1<=100000:=hl;have c1:dH ((t0::r).map D.str) (some 1) none=r.map D.str:=FZ _ _;have hat:atI ((t0::r).map D.str) 0=some (.str t0):=gB (j:=0) rfl rfl;walk_at "r";refine⟨_,hat,?_⟩;walk_at "r";rw [c1];walk_at "r"
 refine EY (α:=List Nat) (e:=D.str) (xs:=r) (fun (pre:List (List Nat)) ρ=>∃(b:List Nat) (v:Option PV),Lst (·∈t0::pre) b/\ρ=[some (.dat (.lst ((t0::r).map .str))),some (.dat (.str b)),v]) ⟨_,_,rF t0,rfl⟩ ?_ ?_
 .rintro pre x suf ρ ej ⟨b,v,hb,rfl⟩;have hs:=tI (t:=x) hb;walk_at "r"
  refine BF (fun c=>?_) (fun c=>?_)
  .rw [if_pos c] at hs;walk_at "r";exact⟨x,_,hs,rfl⟩
  .rw [if_neg (by rw [c];decide)] at hs;exact⟨b,_,hs,rfl⟩
 rintro ρ ⟨b,v,hb,rfl⟩;walk_at "r";exact q b hb
theorem rV:∀ds Q,bo ds Q->dk fQ lv ds Q:=fun ds Q h=>by
 unfold bo at h
 split at h
 .exact qu _ _ h
 .exact h.elim
def cO:PTS:=(jg (pB (pOp fGt (pFz (mW "Family" ["pieces","kept","words","left","laps","total"] aA (bb 0) am)) (pFz (pC (.int 12))))) kS cI)
theorem iN(c:Str)(ns:List Str)(fs:List D)(Q:PV->Prop)(h:aF ([.obj c ns fs]) Q):dk cO eQ ([.obj c ns fs]) Q:=by
 show cO _ [some (.dat (.obj c ns fs))];obtain⟨rfl,rfl,ps,rfl,h12,q⟩:=h;walk_at "r";exact q
theorem jb:∀ds Q,aF ds Q->dk cO eQ ds Q:=fun ds Q h=>by
 unfold aF at h
 split at h
 .exact iN _ _ _ _ h
 .exact h.elim
def fR:PTS:=(bG (EX (dE [none,none] (zn (ag (pFz (bb 0)) (ag (pFz (bb 1)) am))) (mn 2 (gb (ar 0) (gb (ar 1) rg))) jR (dE [none,some 0] (dY (bb 1)) (ar 0) jR (dt (pSl 1) dA (dh (pOp yk (pFz (pCB dI (ag (pSl 1) am))) (pSl 0))))))))
theorem qv(ds ls:List D)(Q:PV->Prop)(h:bw ([.tup ds,.tup ls]) Q):dk fR lw ([.tup ds,.tup ls]) Q:=by
 show fR _ [some (.dat (.tup ds)),some (.dat (.tup ls))];obtain⟨ws,rfl,⟨hls,hn,hw⟩,q⟩:=h;unfold mo at hls;cases hls;have hm1:(ws.map D.str).length=ws.length:=length_map _;have hm2:(ws.map fun w=>D.tup (ws.map fun v=>.int (dz w v:Int))).length=ws.length:=length_map _;walk_at "r"
 refine xB (fun τ=>∃v w:Option PV,τ=[v,w]) (fun i=>.lst ((List.range ws.length).map fun j=>.str (hdW ws i j))) ⟨_,_,rfl⟩ ?_ ?_
 .rintro i τ _ hi rfl ⟨v,w,rfl⟩ K1 k1;rw [hm1,hm2,min_self] at hi;have hwi:=hw _ (br hi);rw [show itD (ws.map D.str) i=.str (pw ws i) from h9 (by rw [getElem?_map,cY hi];rfl),show itD (ws.map fun w=>D.tup (ws.map fun v=>.int (dz w v:Int))) i=.tup (ws.map fun v=>.int (dz (pw ws i) v:Int)) from h9 (by rw [getElem?_map,cY hi];rfl)];walk_at "r"
  refine cm1 (e:=fun u=>D.int (dz (pw ws i) u:Int)) (xs:=ws) (fun u=>.str ((pw ws i).take ((pw ws i).length - dz (pw ws i) u))) (fun u hu v K2 k2=>?_) (fun v=>?_)
  .have hl:=(df hwi.1 (hw u hu).1).1;walk_at "r";rw [show ((pw ws i).length:Int) - (dz (pw ws i) u:Int)=(((pw ws i).length - dz (pw ws i) u:Nat):Int) by omega,eZ];exact k2 _
  .rw [xq (α:=Nat) (fun u=>D.str ((pw ws i).take ((pw ws i).length - dz (pw ws i) u))) ws];exact k1 _ ⟨_,_,rfl⟩
 .rintro τ ⟨v,w,rfl⟩;rw [hm1,hm2,min_self];exact q
theorem rW:∀ds Q,bw ds Q->dk fR lw ds Q:=fun ds Q h=>by
 unfold bw at h
 split at h
 .exact qv _ _ _ h
 .exact h.elim
def eR:PTS:=(bG (EX (dE [none] (uk (ag (pFz (pOp EU (pFz (pC (.int 1))) (pSl 0))) am)) (ar 0) jR (dE [none,some 0] (dY (aY bY (ag (pFz (bb 0)) am))) (ar 0) jR (BI (ag (pFz (bb 0)) (ag (pFz (pOp yk (pSl 1) (pFz (pOp EU (pFz (pC (.int 1))) (pSl 0))))) am)))))))
theorem oU(m:Int)(Q:PV->Prop)(h:bc ([.int m]) Q):dk eR jY ([.int m]) Q:=by
 show eR _ [some (.dat (.int m))];obtain⟨k,rfl,hk,q⟩:=h;have hS:0<=(k:Int)/\(k:Int)<=1000000/\(1:Int).natAbs<2^64:=⟨by omega,by omega,by decide⟩
 have hp:2^k<=4096:=pow_le_pow_right (n:=2) (by decide) hk;have eS:=FD k;have hr2:(-1000000:Int)<=1*2^(k:Int).toNat:=by rw [eS];exact Int.le_trans (show (-1000000:Int)<=0 by decide) (natCast_nonneg _)
 have hr3:(1:Int)*2^(k:Int).toNat<=1000000:=by rw [eS];exact Int.le_trans (ofNat_le.mpr hp) (by decide)
 walk_at "r";rw [eS]
 refine cmR (fun m=>chD ((jo m).map fun i=>(i,m - 2^i))) (fun m hm v K1 k1=>?_) (fun v=>?_)
 .rw [toNat_natCast] at hm;have h12:m<4096:=by omega
  have hl:=qq m;walk_at "r"
  refine cm1 (e:=nD) (xs:=jo m) (fun i=>.tup [nD i,nD (m - 2^i)]) (fun i hi v K2 k2=>?_) (fun v=>?_)
  .have hb:=(gG h12).mp hi;have hi12:=oP (n:=12) h12 hb;have hle:=(lc h12 hb).1;have hS:0<=(i:Int)/\(i:Int)<=1000000/\(1:Int).natAbs<2^64:=⟨by omega,by omega,by decide⟩
   have eS:=FD i;walk_at "r";rw [eS,show (m:Int) - ((2^i:Nat):Int)=((m - 2^i:Nat):Int) by omega];exact k2 _
  .walk_at "r";have e:(jo m).map (fun i=>D.tup [nD i,nD (m - 2^i)])=((jo m).map fun i=>(i,m - 2^i)).map fun p=>.tup [nD p.1,nD p.2]:=by rw [map_map];rfl
   rw [e];exact k1 _
 .rw [toNat_natCast];walk_at "r";unfold FE gH at q;rw [map_map] at q;exact q
theorem qw:∀ds Q,bc ds Q->dk eR jY ds Q:=fun ds Q h=>by
 unfold bc at h
 split at h
 .exact oU _ _ h
 .exact h.elim
def fS:PTS:=(aN (bC (yd am) (ar 3)) (aN (hZ (dY (bb 2)) (ar 4) (aN (bC (dE [none,none,some 3] (dY (bb 4)) (mn 2 (gb (ar 0) (gb (ar 1) rg))) jR (BI (ag (pFz (bb 0)) (ag (pFz (pOp fIx (pFz (pOp fIx (pSl 2) (pSl 1))) (pSl 0))) am)))) (ar 5)) (iZ (BL 3 (pIf (pBL (bb 5)) (dE [none,some 5] (dY (bb 0)) (ar 0) jR (aY bo (ag (pFz (dE [none,none,some 0] (dY (bb 1)) (mn 2 (gb (ar 0) (gb (ar 1) rg))) jR (pOp dZ (pFz (pOp fIx (pSl 2) (pSl 0))) (pSl 1)))) am))) (pCB wn (ag (pSl 1) am))))))) (bG (bb 3))))
theorem qx(hs cs:List D)(la:D)(Q:PV->Prop)(h:bx ([.lst hs,la,.lst cs]) Q):dk fS lx ([.lst hs,la,.lst cs]) Q:=by
 show fS _ [some (.dat (.lst hs)),some (.dat (la)),some (.dat (.lst cs)),none,none,none];obtain⟨w,hd,rfl,L,rfl,ls,⟨hla,hL,h60,hl60,hw⟩,q⟩:=h;have hcm:(L.map chD).length=L.length:=length_map _;have hmany:=hL.many;have hhl:(hdD w hd).length=w:=by unfold hdD;rw [length_map,length_range]
 walk_at "r"
 refine⟨fun k ρ=>∃(es:List (List (List Nat))) (v3 v4 v5:Option PV),lz L hd ls w k es/\ρ=[some (.dat (.lst (hdD w hd))),some (.dat la),some (.dat (.lst (L.map chD))),some (.own (esD es)),v4,v5],⟨[],none,_,_,⟨rfl,(fun n h=>absurd h (not_lt_zero _)),fun n h=>absurd h (not_lt_zero _)⟩,rfl⟩,?_,?_⟩
 .rintro k ρ d hk ed ⟨es,v3,v4,v5,hE,rfl⟩;rw [hcm] at hk;subst ed;rw [zH hk];have hch:=hL.ch k;have hfew:=hL.few k;have hel:=hE.len;generalize hc:L.getD k []=c at hch hfew;have hcl:(c.map fun p=>D.tup [nD p.1,nD p.2]).length=c.length:=length_map _;have hesl:(esD es).length=k:=by unfold esD;rw [length_map];exact hel
  have hE2:∀p∈c,p.2<k/\p.1<w/\(es.getD p.2 []).length=w/\((es.getD p.2 []).getD p.1 []).length<=300000:=fun p hp=>by
   have:=hch p hp;exact⟨this.2,this.1,hE.wid _ this.2,hE.txt hL h60 hl60 this.2 (by omega) this.1⟩
  walk_at "r"
  refine cm2 (e:=fun p:Nat×Nat=>D.tup [nD p.1,nD p.2]) (xs:=c) (fun p=>.tup [nD p.1,.str ((es.getD p.2 []).getD p.1 [])]) (fun p hp v w2 K1 k1=>?_) (fun v w2=>?_)
  .obtain⟨p1,p2,p3,p4⟩:=hE2 p hp;show mn 2 _ (.dat (.tup [.int (p.1:Int),.int (p.2:Int)])) _ _;walk_at "r";refine⟨_,xr (by omega),?_⟩;walk_at "r";refine⟨_,bE (k:=p.1) (by rw [p3];exact p2) rfl,?_⟩;walk_at "r";exact k1 _ _
  have hnl:(c.map fun p=>D.tup [nD p.1,.str ((es.getD p.2 []).getD p.1 [])]).length=c.length:=length_map _;have hnil:(!(c.map fun p=>D.tup [nD p.1,.str ((es.getD p.2 []).getD p.1 [])]).isEmpty)=!c.isEmpty:=by cases c <;> rfl
  walk_at "r";rw [hnil]
  cases hce:c.isEmpty with
  | true =>
   have hcn:c=[]:=isEmpty_iff.mp hce;walk_at "r";refine Bc hla ?_;walk_at "r";refine⟨es++[(List.range w).map ls],none,_,_,hE.snoc (by rw [length_map,length_range]) (fun i hi=>by rw [zJ hi];exact Br (by rw [hc];exact hcn)),by unfold esD;rw [map_append,map_cons,map_map];rfl⟩
  | false =>
   have hcn:c≠[]:=fun z=>by rw [z] at hce;cases hce
   walk_at "r";unfold hdD
   refine cm1 (e:=fun i=>D.lst ((List.range w).map fun j=>D.str (hd i j))) (xs:=List.range w) (fun i=>.str (yQ (c.map fun p=>hd i p.1++(es.getD p.2 []).getD p.1 []))) (fun i hi v K1 k1=>?_) (fun v=>?_)
   .have hi:=mem_range.mp hi;have hrl:((List.range w).map fun j=>D.str (hd i j)).length=w:=by rw [length_map,length_range]
    walk_at "r"
    refine cm2 (e:=fun p:Nat×Nat=>D.tup [nD p.1,.str ((es.getD p.2 []).getD p.1 [])]) (xs:=c) (fun p=>.str (hd i p.1++(es.getD p.2 []).getD p.1 [])) (fun p hp v w2 K1 k1=>?_) (fun v w2=>?_)
    .obtain⟨p1,p2,p3,p4⟩:=hE2 p hp;have h6:=h60 i p.1;show mn 2 _ (.dat (.tup [.int (p.1:Int),.str ((es.getD p.2 []).getD p.1 [])])) _ _;walk_at "r";refine⟨_,zI p2,?_⟩;walk_at "r";exact k1 _ _
    have e1:c.map (fun p=>D.str (hd i p.1++(es.getD p.2 []).getD p.1 []))=(c.map fun p=>hd i p.1++(es.getD p.2 []).getD p.1 []).map .str:=by rw [map_map];rfl
    have hne:c.map (fun p=>hd i p.1++(es.getD p.2 []).getD p.1 [])≠[]/\(c.map fun p=>hd i p.1++(es.getD p.2 []).getD p.1 []).length<=100000:=⟨fun z=>hcn (map_eq_nil_iff.mp z),by rw [length_map];omega⟩
    rw [e1];walk_at "r";intro t ht;rw [ht.uniq (tN hne.1)];exact k1 _
   walk_at "r";refine⟨es++[(List.range w).map fun i=>yQ (c.map fun p=>hd i p.1++(es.getD p.2 []).getD p.1 [])],none,_,_,hE.snoc (by rw [length_map,length_range]) (fun i hi=>?_),by unfold esD;rw [map_append,map_cons,map_map];rfl⟩;rw [zJ hi]
   refine yJ (E:=fun n j=>(es.getD n []).getD j []) (by rw [hc];exact hcn) (fun p hp=>?_) ?_
   .rw [hc] at hp;have:=hch p hp;exact hE.lst _ this.2 _ this.1
   .rw [hc];exact tN fun z=>hcn (map_eq_nil_iff.mp z)
 rintro ρ ⟨es,v3,v4,v5,hE,rfl⟩;rw [hcm] at hE;walk_at "r";exact q es hE
theorem rX:∀ds Q,bx ds Q->dk fS lx ds Q:=fun ds Q h=>by
 unfold bx at h
 split at h
 .exact qx _ _ _ _ h
 .exact h.elim
def c9:PTS:=(aN (bC (aY bx (ag (pFz (aY bw (ag (pFz (bb 0)) (ag (pFz (bb 1)) am)))) (ag (pFz (bb 0)) (ag (pFz (bb 2)) am)))) (ar 3)) (bG (aY bo (ag (pFz (FC (dE [none,none,some 3] (dY (pOp fIx (pSl 2) (pFz (pUn A2 (pFz (pC (.int 1))))))) (mn 2 (gb (ar 0) (gb (ar 1) rg))) jR (pOp fIx (pFz (pOp fIx (pSl 2) (pSl 1))) (pSl 0))) (yd (ag (pFz (pC (.str []))) am)))) am))))
theorem jF(ds ls cs:List D)(Q:PV->Prop)(h:aV ([.tup ds,.tup ls,.lst cs]) Q):dk c9 gg ([.tup ds,.tup ls,.lst cs]) Q:=by
 show c9 _ [some (.dat (.tup ds)),some (.dat (.tup ls)),some (.dat (.lst cs)),none];obtain⟨ws,rfl,L,rfl,⟨hls,hn,hw,hL,h0⟩,q⟩:=h;have g1:.tup ls=mo ws/\ws.length<=200/\∀w∈ws,0<w.length/\w.length<=60:=⟨hls,hn,hw⟩
 have hcm:(L.map chD).length=L.length:=length_map _;have hmany:=hL.many;have g2:uq (.tup (ws.map .str)) ((List.range ws.length).map fun i=>.str (pw ws i))/\gK L ws.length/\(∀i j,(hdW ws i j).length<=60)/\(∀i,(pw ws i).length<=60)/\ws.length<=200:=⟨by rw [<- xq (α:=Nat) D.str ws];exact .inr rfl,hL,zK hw,uv fun w h=>(hw w h).2,hn⟩
 walk_at "r";refine⟨_,_,rfl,L,rfl,pw ws,g2,?_⟩;intro es hE;have hel:=hE.len
 have hlast:atI (L.map chD) (-1)=some (chD (L.getD (L.length - 1) [])):=by
  have:=xt (ds:=L.map chD) (by omega);rw [this,hcm,zH (by omega)]
 have hch:=hL.ch (L.length - 1);have hfew:=hL.few (L.length - 1);generalize hc:L.getD (L.length - 1) []=c at hch hfew hlast;have hcl:(c.map fun p=>D.tup [nD p.1,nD p.2]).length=c.length:=length_map _;have hnil:(!(c.map fun p=>D.str ((es.getD p.2 []).getD p.1 [])).isEmpty)=!c.isEmpty:=by cases c <;> rfl
 walk_at "r";refine⟨_,hlast,?_⟩;walk_at "r"
 refine cm2 (e:=fun p:Nat×Nat=>D.tup [nD p.1,nD p.2]) (xs:=c) (fun p=>.str ((es.getD p.2 []).getD p.1 [])) (fun p hp v w2 K1 k1=>?_) (fun v w2=>?_)
 .have p0:=hch p hp;have p3:=hE.wid p.2 (by omega);show mn 2 _ (.dat (.tup [.int (p.1:Int),.int (p.2:Int)])) _ _;walk_at "r";refine⟨_,xr (by omega),?_⟩;walk_at "r";refine⟨_,bE (k:=p.1) (by rw [p3];exact p0.1) rfl,?_⟩;exact k1 _ _
 walk_at "r";rw [hnil]
 cases hce:c.isEmpty with
 | true =>
  have hcn:c=[]:=isEmpty_iff.mp hce;have e1:[D.str []]=[([]:List Nat)].map .str:=rfl;have g3:[([]:List Nat)]≠[]/\[([]:List Nat)].length<=100000:=⟨by decide,by decide⟩
  walk_at "r";refine⟨[[]],rfl,g3,?_⟩;intro t ht;rw [ht.uniq (rF [])];exact q _ (Bz (by rw [hc];exact hcn))
 | false =>
  have hcn:c≠[]:=fun z=>by rw [z] at hce;cases hce
  have e1:c.map (fun p=>D.str ((es.getD p.2 []).getD p.1 []))=(c.map fun p=>(es.getD p.2 []).getD p.1 []).map .str:=by rw [map_map];rfl
  have g3:c.map (fun p=>(es.getD p.2 []).getD p.1 [])≠[]/\(c.map fun p=>(es.getD p.2 []).getD p.1 []).length<=100000:=⟨fun z=>hcn (map_eq_nil_iff.mp z),by rw [length_map];omega⟩
  walk_at "r";refine⟨_,e1,g3,?_⟩;intro t ht;refine q _ (DN hw hL (by rw [hc];exact hcn) (Bs (E:=fun n j=>(es.getD n []).getD j []) (by rw [hc];exact hcn) (fun p hp=>?_) (by rw [hc];exact ht)));rw [hc] at hp;have p0:=hch p hp;exact hE.lst _ (by omega) _ p0.1
theorem kn:∀ds Q,aV ds Q->dk c9 gg ds Q:=fun ds Q h=>by
 unfold aV at h
 split at h
 .exact jF _ _ _ _ h
 .exact h.elim
def fT:PTS:=(aN (iZ (aY aF (ag (pFz (bb 0)) am))) (bG (aY aV (ag (pFz (rn "Family" ["pieces","kept","words","left","laps","total"] 2 (pSl 0))) (ag (pFz (rn "Family" ["pieces","kept","words","left","laps","total"] 4 (pSl 0))) (ag (pFz (aY bc (ag (pFz (mW "Family" ["pieces","kept","words","left","laps","total"] aA (bb 0) am)) am))) am))))))
theorem qy(c:Str)(ns:List Str)(fs:List D)(Q:PV->Prop)(h:bI ([.obj c ns fs]) Q):dk fT lA ([.obj c ns fs]) Q:=by
 show fT _ [some (.dat (.obj c ns fs))];obtain⟨rfl,rfl,ps,rfl,⟨hps,h12⟩,q⟩:=h;have hwp:=cJ hps;have hw:∀w∈af ps,0<w.length/\w.length<=60:=fun w h=>⟨(hwp w h).1,(hwp w h).2.1⟩
 have hlt:=fun (t:List Nat) (h:Lst (GlS (af ps)) t)=>q t (yK hps h);have g1:mo (af ps)=mo (af ps)/\(af ps).length<=200/\(∀w∈af ps,0<w.length/\w.length<=60)/\gK (gH (af ps).length) (af ps).length/\0<(gH (af ps).length).length:=⟨rfl,by omega,hw,tO h12,by rw [gL];exact pow_pos (by decide)⟩
 walk_at "r";intro t ht;refine hlt t ?_;rw [gL] at ht;exact ht.congr fun u=>⟨fun ⟨js,w,e⟩=>⟨js,(tJ h12).mp w,e⟩,fun ⟨js,w,e⟩=>⟨js,(tJ h12).mpr w,e⟩⟩
theorem rY:∀ds Q,bI ds Q->dk fT lA ds Q:=fun ds Q h=>by
 unfold bI at h
 split at h
 .exact qy _ _ _ _ h
 .exact h.elim
def dN:PTS:=(jg (pB (pOp uU (pFz (mW "Family" ["pieces","kept","words","left","laps","total"] aA (bb 0) am)) (pFz (pC (.int 0))))) kS cI)
theorem lK(c:Str)(ns:List Str)(fs:List D)(Q:PV->Prop)(h:bg ([.obj c ns fs]) Q):dk dN ig ([.obj c ns fs]) Q:=by
 show dN _ [some (.dat (.obj c ns fs))];obtain⟨rfl,rfl,ps,rfl,h0,q⟩:=h;walk_at "r";exact q
theorem my:∀ds Q,bg ds Q->dk dN ig ds Q:=fun ds Q h=>by
 unfold bg at h
 split at h
 .exact lK _ _ _ _ h
 .exact h.elim
def cX:PTS:=(aN (iZ (aY bg (ag (pFz (bb 0)) am))) (aN (iZ (aY aF (ag (pFz (bb 0)) am))) (aN (bC (aY bw (ag (pFz (rn "Family" ["pieces","kept","words","left","laps","total"] 2 (pSl 0))) (ag (pFz (rn "Family" ["pieces","kept","words","left","laps","total"] 4 (pSl 0))) am))) (ar 1)) (aN (bC (aY bx (ag (pFz (bb 1)) (ag (pFz (dE [none] (dY (bb 1)) (ar 0) jR (pOp fIx (pSl 0) (pFz (pC (.int 0)))))) (ag (pFz (aY bc (ag (pFz (mW "Family" ["pieces","kept","words","left","laps","total"] aA (bb 0) am)) am))) am)))) (ar 2)) (aN (bC (pOp yk (pFz (pCB dI (ag (pSl 2) am))) (pFz (pC (.int 2)))) (ar 3)) (bG (pOp fIx (pFz (pOp fIx (pSl 2) (pSl 3))) (pFz (pC (.int 0))))))))))
theorem jc(c:Str)(ns:List Str)(fs:List D)(Q:PV->Prop)(h:aK ([.obj c ns fs]) Q):dk cX fm ([.obj c ns fs]) Q:=by
 show cX _ [some (.dat (.obj c ns fs)),none,none,none];obtain⟨rfl,rfl,ps,rfl,⟨⟨hps,h12⟩,h0⟩,q⟩:=h;have hwp:=cJ hps;have hw:∀w∈af ps,0<w.length/\w.length<=60:=fun w h=>⟨(hwp w h).1,(hwp w h).2.1⟩
 have g1:mo (af ps)=mo (af ps)/\(af ps).length<=200/\∀w∈af ps,0<w.length/\w.length<=60:=⟨rfl,by omega,hw⟩
 have hq:=fun (t:List Nat) (h:Lst (zA (gH (af ps).length) (hdW (af ps)) (fun i=>hdW (af ps) i 0) (2^(af ps).length - 2) 0) t)=>q t (yM h0 h12 h);have hso:=tO h12;have hsl:=gL (af ps).length;have hd6:=zK hw;have hp2:2<=2^(af ps).length:=Nat.le_trans (show 2<=2^1 by decide) (pow_le_pow_right (n:=2) (by decide) h0);have hp12:2^(af ps).length<=4096:=pow_le_pow_right (n:=2) (by decide) h12;have hhl:(hdD (af ps).length (hdW (af ps))).length=(af ps).length:=by unfold hdD;rw [length_map,length_range]
 walk_at "r";unfold hdD
 refine cm1 (e:=fun i=>D.lst ((List.range (af ps).length).map fun j=>D.str (hdW (af ps) i j))) (xs:=List.range (af ps).length) (fun i=>.str (hdW (af ps) i 0)) (fun i hi v K1 k1=>?_) (fun v=>?_)
 .have hrl:((List.range (af ps).length).map fun j=>D.str (hdW (af ps) i j)).length=(af ps).length:=by rw [length_map,length_range]
  walk_at "r";refine⟨_,zI (j:=0) h0,?_⟩;exact k1 _
 have g2:uq (.lst ((List.range (af ps).length).map fun i=>D.str (hdW (af ps) i 0))) ((List.range (af ps).length).map fun i=>.str (hdW (af ps) i 0))/\gK (gH (af ps).length) (af ps).length/\(∀i j,(hdW (af ps) i j).length<=60)/\(∀i,(hdW (af ps) i 0).length<=60)/\(af ps).length<=200:=⟨.inl rfl,hso,hd6,fun i=>hd6 i 0,by omega⟩
 walk_at "r";refine⟨_,hdW (af ps),rfl,_,rfl,fun i=>hdW (af ps) i 0,g2,?_⟩;intro es hE;have hel:=hE.len;have hesl:(esD es).length=es.length:=by unfold esD;rw [length_map]
 have hwd:=hE.wid (2^(af ps).length - 2) (by omega);walk_at "r";rw [show ((esD es).length:Int) - 2=((2^(af ps).length - 2:Nat):Int) by omega];refine⟨_,xr (by omega),?_⟩;walk_at "r";refine⟨_,bE (k:=0) (by omega) rfl,?_⟩;walk_at "r";exact hq _ (hE.lst _ (by omega) 0 h0)
theorem jG:∀ds Q,aK ds Q->dk cX fm ds Q:=fun ds Q h=>by
 unfold aK at h
 split at h
 .exact jc _ _ _ _ h
 .exact h.elim
def tQ:PTS:=(aN (hZ (EF (ag (pFz (pOp yk (pFz (pCB wg (ag (pFz (pCB dI (ag (pSl 0) am))) (ag (pFz (pCB dI (ag (pSl 1) am))) am)))) (pFz (pC (.int 1))))) (ag (pFz (pC (.int 0))) (ag (pFz (pUn A2 (pFz (pC (.int 1))))) am)))) (ar 2) (jg (pB (pSM AZ (bb 0) (ag (pFz (dt (pSl 1) dA (dh (bb 2)))) am))) (bG (bb 2)) cI)) (bG (pC (.int 0))))
theorem BA(a b:List Nat)(Q:PV->Prop)(h:gh ([.str a,.str b]) Q):dk tQ zL ([.str a,.str b]) Q:=by
 show tQ _ [some (.dat (.str a)),some (.dat (.str b)),none];obtain⟨⟨a0,a1⟩,⟨b0,b1⟩,q⟩:=h;have hm:(if (b.length:Int)<(a.length:Int) then (b.length:Int) else (a.length:Int))=((min a.length b.length:Nat):Int):=by split <;> omega
 walk_at "r"
 refine⟨fun i ρ=>(∃v2:Option PV,ρ=[some (.dat (.str a)),some (.dat (.str b)),v2])/\∀j,min a.length b.length - i<=j->j<min a.length b.length->¬ b.take j <:+ a,⟨⟨_,rfl⟩,fun j h1 h2=>by omega⟩,?_,?_⟩
 .rintro i ρ d hi ed ⟨⟨v2,rfl⟩,ih⟩;have hi:i<(((if (b.length:Int)<(a.length:Int) then (b.length:Int) else (a.length:Int)) - 1) - 0).toNat:=hi;have ed:d=.int (((if (b.length:Int)<(a.length:Int) then (b.length:Int) else (a.length:Int)) - 1) - (i:Int)):=ed;rw [hm] at hi ed;obtain⟨k,hk,hk2⟩:∃k:Nat,(((min a.length b.length:Nat):Int) - 1) - (i:Int)=(k:Int)/\k=min a.length b.length - 1 - i:=⟨min a.length b.length - 1 - i,by omega,rfl⟩
  rw [hk] at ed;subst ed;walk_at "r";rw [eZ]
  refine fh (fun c=>?_) (fun c=>?_)
  .walk_at "r"
   rw [show dz a b=k from oB ⟨by omega,c,fun j h1 h2=>by
    rcases lt_or_ge k j with h|h
    .exact absurd h2 (ih j (by omega) h1)
    .exact h⟩] at q
   exact q
  .refine⟨⟨_,rfl⟩,fun j h1 h2=>?_⟩
   by_cases hj:j=k
   .rw [hj];exact c
   .exact ih j (by omega) h2
 .rintro ρ ⟨⟨v2,rfl⟩,ih⟩;rw [hm] at ih;walk_at "r"
  rw [show dz a b=0 from oB ⟨by omega,by rw [take_zero];exact nil_suffix,fun j h1 h2=>by
   rcases eq_zero_or_pos j with h|h
   .omega
   .exact absurd h2 (ih j (by omega) h1)⟩] at q
  exact q
theorem DO:∀ds Q,gh ds Q->dk tQ zL ds Q:=fun ds Q h=>by
 unfold gh at h
 split at h
 .exact BA _ _ _ h
 .exact h.elim
def fU:PTS:=(bG (pCB i3 (ag (pFz (dE [none,some 0] (dY (bb 0)) (ar 0) jR (pCB i3 (ag (pFz (dE [none,some 0] (dY (bb 1)) (ar 0) jR (aY gh (ag (pFz (bb 1)) (ag (pFz (bb 0)) am))))) am)))) am)))
theorem qz(ds:List D)(Q:PV->Prop)(h:cg ([.tup ds]) Q):dk fU lB ([.tup ds]) Q:=by
 show fU _ [some (.dat (.tup ds))];obtain⟨ws,rfl,⟨hn,hw⟩,q⟩:=h;have hlm:(ws.map D.str).length=ws.length:=length_map _
 have rr:∀f:List Nat->D,(List.range (ws.map D.str).length).map (fun k=>f (pw ws k))=ws.map f:=fun f=>by
  rw [hlm];apply ext_getElem?;intro k;rw [getElem?_map,getElem?_map]
  by_cases hk:k<ws.length
  .rw [getElem?_range hk,cY hk];rfl
  .rw [getElem?_eq_none (by rw [length_range];omega),getElem?_eq_none (by omega)];rfl
 walk_at "r"
 refine xB (fun τ=>∃v,τ=[v,some (.dat (.tup (ws.map .str)))]) (fun k=>.tup (ws.map fun v=>.int (dz (pw ws k) v:Int))) ?_ ?_ ?_
 .exact⟨_,rfl⟩
 .rintro k τ d hk ed ⟨v,rfl⟩ K1 k1;rw [gE hk] at ed;subst ed;have w1:=hw _ (br (show k<ws.length by omega));walk_at "r"
  refine xB (fun τ=>∃v,τ=[v,some (.dat (.str (pw ws k)))]) (fun j=>.int (dz (pw ws k) (pw ws j):Int)) ?_ ?_ ?_
  .exact⟨_,rfl⟩
  .rintro j τ d hj ed ⟨v,rfl⟩ K2 k2;rw [gE hj] at ed;subst ed;have w2:=hw _ (br (show j<ws.length by omega));walk_at "r";exact k2 _ ⟨_,rfl⟩
  .rintro τ ⟨v,rfl⟩;rw [rr (fun w=>D.int (dz (pw ws k) w:Int))];walk_at "r";exact k1 _ ⟨_,rfl⟩
 .rintro τ ⟨v,rfl⟩;rw [rr (fun w=>D.tup (ws.map fun v=>.int (dz w v:Int)))];walk_at "r";exact q
theorem rZ:∀ds Q,cg ds Q->dk fU lB ds Q:=fun ds Q h=>by
 unfold cg at h
 split at h
 .exact qz _ _ h
 .exact h.elim
def dw:PTS:=(aN (jg (pB (pOp fGt (pFz (pCB dI (ag (pSl 0) am))) (pFz (pC (.int 40))))) kS cI) (hZ (ze (ag (pFz (bb 0)) am)) (mn 2 (gb (ar 1) (gb (ar 2) rg))) (jg (ye (pB (zk cU [] (ag (pFz (bb 2)) (ag (pFz (pC (.int 1))) (ag (pFz (pC (.int 60))) am)))))) kS cI)))
theorem ko(d:D)(Q:PV->Prop)(h:a8 ([d]) Q):dk dw gM ([d]) Q:=by
 show dw _ [some (.dat (d)),none,none];obtain⟨ws,hd,⟨hn,hp⟩,q⟩:=h;have hlm:(ws.map D.str).length=ws.length:=length_map _
 rcases hd with rfl|rfl
 .walk_at "r"
  refine⟨fun k ρ=>∃v1 v2:Option PV,ρ=[some (.dat (.lst (ws.map .str))),v1,v2],⟨_,_,rfl⟩,?_,?_⟩
  .rintro k ρ d hk ed ⟨v1,v2,rfl⟩;have ed:d=.tup [.int k,itD (ws.map D.str) k]:=ed;rw [gE hk] at ed;subst ed;have hw:=hp _ (br (show k<ws.length by omega));have ht:yo (.str (pw ws k)) 1 60=true:=wv.mpr hw;have h1:(pw ws k).length<=1000000:=by have:=hw.2.1;omega
   walk_at "r";refine AD ht ?_;exact⟨_,_,rfl⟩
  .rintro ρ ⟨v1,v2,rfl⟩;exact q
 .walk_at "r"
  refine⟨fun k ρ=>∃v1 v2:Option PV,ρ=[some (.dat (.tup (ws.map .str))),v1,v2],⟨_,_,rfl⟩,?_,?_⟩
  .rintro k ρ d hk ed ⟨v1,v2,rfl⟩;have ed:d=.tup [.int k,itD (ws.map D.str) k]:=ed;rw [gE hk] at ed;subst ed;have hw:=hp _ (br (show k<ws.length by omega));have ht:yo (.str (pw ws k)) 1 60=true:=wv.mpr hw;have h1:(pw ws k).length<=1000000:=by have:=hw.2.1;omega
   walk_at "r";refine AD ht ?_;exact⟨_,_,rfl⟩
  .rintro ρ ⟨v1,v2,rfl⟩;exact q
theorem lL:∀ds Q,a8 ds Q->dk dw gM ds Q:=fun ds Q h=>by
 unfold a8 at h
 split at h
 .exact ko _ _ h
 .exact h.elim
def de:PTS:=(bG (pOp fGe (pFz (aY aS (ag (pFz (bb 1)) (ag (pFz (bb 0)) am)))) (pFz (pC (.int 0)))))
theorem jH(a b:List Nat)(Q:PV->Prop)(h:aG ([.str a,.str b]) Q):dk de gi ([.str a,.str b]) Q:=by
 show de _ [some (.dat (.str a)),some (.dat (.str b))];walk_at "r";exact h
theorem kq:∀ds Q,aG ds Q->dk de gi ds Q:=fun ds Q h=>by
 unfold aG at h
 split at h
 .exact jH _ _ _ h
 .exact h.elim
def gZ:PTS:=(aN (bC (pOp fIx (pSl 0) (pSl 1)) (ar 2)) (aN (bC (dE [none,some 2] (dY (bb 0)) (ar 0) (pB (pOp fGt (pFz (pCB dI (ag (pSl 0) am))) (pFz (pCB dI (ag (pSl 1) am))))) (bb 0)) (ar 3)) (bG (AF (pOp (Dy true) (pSl 2) (pFz (dt (pSl 0) dA (dh (bb 1))))) (CP (pCB EQ (ag (pFz (dE [none,some 2] (dY (bb 3)) (ar 0) jR (aY aG (ag (pFz (bb 1)) (ag (pFz (bb 0)) am))))) am)))))))
theorem r8(ds:List D)(i:Int)(Q:PV->Prop)(h:cv ([.tup ds,.int i]) Q):dk gZ nu ([.tup ds,.int i]) Q:=by
 show gZ _ [some (.dat (.tup ds)),some (.dat (.int i)),none,none];obtain⟨ws,rfl,⟨hn,hw⟩,hi,q⟩:=h;obtain⟨k,rfl⟩:∃k:Nat,i=(k:Int):=⟨i.toNat,by omega⟩
 have hk:k<ws.length:=by omega
 have hlm:(ws.map D.str).length=ws.length:=length_map _;have w1:=hw _ (br hk);walk_at "r";refine⟨_,bE hk rfl,?_⟩;walk_at "r"
 refine cfm (fun τ=>∃v,τ=[v,some (.dat (.str (pw ws k)))]) (fun j=>if (pw ws k).length<(pw ws j).length then some (.str (pw ws j)) else none) ?_ ?_ ?_
 .exact⟨_,rfl⟩
 .rintro j τ d hj ed ⟨v,rfl⟩ K1 K2 k1 k2;rw [gE hj] at ed;subst ed;have w2:=hw _ (br (show j<ws.length by omega));walk_at "r"
  refine fh (fun c=>?_) (fun c=>?_)
  .walk_at "r";exact k1 _ _ (by rw [if_pos (by omega)]) ⟨_,rfl⟩
  .exact k2 _ (by rw [if_neg (by omega)]) ⟨_,rfl⟩
 .rintro τ ⟨v,rfl⟩
  have e1:(List.range (ws.map D.str).length).filterMap (fun j=>if (pw ws k).length<(pw ws j).length then some (D.str (pw ws j)) else none)=(ws.filter fun o=>decide ((pw ws k).length<o.length)).map D.str:=by
   rw [hlm,yA (fun w=>if (pw ws k).length<w.length then some (D.str w) else none) ws,<- du];congr 1;funext w
   by_cases h:(pw ws k).length<w.length
   .rw [if_pos h,if_pos (decide_eq_true h)]
   .rw [if_neg h,if_neg (by rw [decide_eq_false h];decide)]
  rw [e1];have hll:(ws.filter fun o=>decide ((pw ws k).length<o.length)).length<=ws.length:=length_filter_le ..;generalize hL:(ws.filter fun o=>decide ((pw ws k).length<o.length))=ls at hll ⊢;have hlm2:(ls.map D.str).length=ls.length:=length_map _;have c1:dH (ws.map D.str) none (some (k:Int))=(ws.take k).map D.str:=by rw [eZ,map_take]
  have hfl:(dH (ws.map D.str) none (some (k:Int))).all D.fl=true:=by rw [c1];exact wJ _
  have hin:inD (.str (pw ws k)) (dH (ws.map D.str) none (some (k:Int)))=decide (pw ws k∈ws.take k):=by rw [c1];exact oG _ _
  have hkb:dU ws k=(!inD (.str (pw ws k)) (dH (ws.map D.str) none (some (k:Int))) && !ls.any fun o=>gc (pw ws k) o):=by
   unfold dU;rw [hin,hL]
  rw [toNat_natCast,hkb] at q;walk_at "r"
  refine re (BF (fun c=>?_) (fun c=>?_))
  .walk_at "r";have c:inD (.str (pw ws k)) (dH (ws.map D.str) none (some (k:Int)))=true:=c;rw [c] at q;exact q
  .have c:inD (.str (pw ws k)) (dH (ws.map D.str) none (some (k:Int)))=false:=c;rw [c,Bool.not_false,Bool.true_and] at q;walk_at "r"
   refine xB (fun τ=>∃v,τ=[v,some (.dat (.str (pw ws k)))]) (fun j=>.bl (gc (pw ws k) (pw ls j))) ?_ ?_ ?_
   .exact⟨_,rfl⟩
   .rintro j τ d hj ed ⟨v,rfl⟩ K1 k1;rw [gE hj] at ed;subst ed;walk_at "r";exact k1 _ ⟨_,rfl⟩
   .rintro τ ⟨v,rfl⟩;walk_at "r"
    refine⟨ls.map fun o=>gc (pw ws k) o,?_,?_⟩
    .rw [hlm2,map_map]
     conv=>rhs;rw [<- mZ ls,map_map]
     rfl
    .rw [show ((ls.map fun o=>gc (pw ws k) o).any id)=ls.any (fun o=>gc (pw ws k) o) by rw [any_map];rfl];walk_at "r";exact q
theorem uH:∀ds Q,cv ds Q->dk gZ nu ds Q:=fun ds Q h=>by
 unfold cv at h
 split at h
 .exact r8 _ _ _ h
 .exact h.elim
def fV:PTS:=(aN (bC (pCB yj (ag (pFz (dE [none,some 0,some 2] (dY (bb 1)) (ar 0) (pB (aY aG (ag (pFz (pOp fIx (pSl 1) (pSl 2))) (ag (pFz (pOp fIx (pSl 1) (pSl 0))) am)))) (bb 0))) am)) (ar 3)) (bG (BI (ag (pFz (bb 2)) (ag (pFz (bb 3)) (ag (pFz (aY aS (ag (pFz (pOp fIx (pSl 0) (pSl 3))) (ag (pFz (pOp fIx (pSl 0) (pSl 2))) am)))) am))))))
theorem qA(ds ks:List D)(i:Int)(Q:PV->Prop)(h:bU ([.tup ds,.tup ks,.int i]) Q):dk fV lC ([.tup ds,.tup ks,.int i]) Q:=by
 show fV _ [some (.dat (.tup ds)),some (.dat (.tup ks)),some (.dat (.int i)),none];obtain⟨ws,rfl,rfl,⟨hn,hw⟩,hi,q⟩:=h;obtain⟨k,rfl⟩:∃k:Nat,i=(k:Int):=⟨i.toNat,by omega⟩
 have hk:k<ws.length:=by omega
 rw [toNat_natCast] at q;have hkl:=gT ws;have hkm:((aH ws).map nD).length=(aH ws).length:=length_map _;walk_at "r"
 refine cfm (fun τ=>∃v,τ=[v,some (.dat (.tup (ws.map .str))),some (.dat (.int (k:Int)))]) (fun j=>if gc (pw ws k) (pw ws ((aH ws).getD j 0))=true then some (nD ((aH ws).getD j 0)) else none) ?_ ?_ ?_
 .exact⟨_,rfl⟩
 .rintro j τ d hj ed ⟨v,rfl⟩ K1 K2 k1 k2;have hj2:(aH ws).getD j 0<ws.length:=dW (mem_of_getElem? (by rw [getD_eq_getElem?_getD,getElem?_eq_getElem (show j<(aH ws).length by omega)];rfl));rw [wH hj] at ed;subst ed;generalize (aH ws).getD j 0=z at hj2 k1 k2 ⊢;walk_at "r";refine⟨_,bE hk rfl,?_⟩;walk_at "r";refine⟨_,bE hj2 rfl,?_⟩;walk_at "r"
  cases hc:gc (pw ws k) (pw ws z) with
  | true=>walk_at "r";exact k1 _ _ (by rw [if_pos hc];rfl) ⟨_,rfl⟩
  | false=>walk_at "r";exact k2 _ (by rw [if_neg (by rw [hc];decide)]) ⟨_,rfl⟩
 .rintro τ ⟨v,rfl⟩
  have e1:(List.range ((aH ws).map nD).length).filterMap (fun j=>if gc (pw ws k) (pw ws ((aH ws).getD j 0))=true then some (nD ((aH ws).getD j 0)) else none)=((k8 ws k).map fun j=>((j:Nat):Int)).map D.int:=by
   rw [hkm,yB (fun j=>if gc (pw ws k) (pw ws j)=true then some (nD j) else none) (aH ws),du (fun j=>gc (pw ws k) (pw ws j)) nD,map_map];rfl
  rw [e1];obtain⟨h0,hh0⟩:=ut hw hk;walk_at "r";refine⟨by rw [length_map];exact length_pos_of_mem hh0,fun m hm hle=>?_⟩;obtain⟨z,hz,rfl⟩:=mem_map.mp hm;have hz2:z<ws.length:=dW (mem_filter.mp hz).1;have hho:tm ws k=z:=wG hz fun a ha=>by have:=hle _ (mem_map_of_mem ha);omega
  walk_at "r";refine⟨_,bE hz2 rfl,?_⟩;walk_at "r";refine⟨_,bE hk rfl,?_⟩;walk_at "r";unfold eC at q;rw [hho] at q;exact q
theorem r9:∀ds Q,bU ds Q->dk fV lC ds Q:=fun ds Q h=>by
 unfold bU at h
 split at h
 .exact qA _ _ _ _ h
 .exact h.elim
def dO:PTS:=(aN (iZ (aY a8 (ag (pFz (bb 1)) am))) (aN (kW "Family" [] "pieces" 0 (pCB i3 (ag (pSl 1) am))) (aN (bC (AX false (ag (pFz (pCB dI (ag (pFz (rn "Family" ["pieces"] 0 (pSl 0))) am))) am)) (ar 2)) (aN (kW "Family" ["pieces"] "kept" 0 (pCB i3 (ag (pFz (dE [none,some 0] (dY (bb 2)) (ar 0) (pB (aY cv (ag (pFz (rn "Family" ["pieces"] 0 (pSl 1))) (ag (pFz (bb 0)) am)))) (bb 0))) am))) (aN (kW "Family" ["pieces","kept"] "words" 0 (pCB i3 (ag (pFz (dE [none,some 0] (dY (rn "Family" ["pieces","kept"] 1 (pSl 0))) (ar 0) jR (pOp fIx (pFz (rn "Family" ["pieces","kept"] 0 (pSl 1))) (pSl 0)))) am))) (aN (kW "Family" ["pieces","kept","words"] "left" 0 (pCB i3 (ag (pFz (dE [none,some 0] (dY (bb 2)) (ar 0) (pB (pOp (Dy true) (pSl 0) (pFz (rn "Family" ["pieces","kept","words"] 1 (pSl 1))))) (aY bU (ag (pFz (rn "Family" ["pieces","kept","words"] 0 (pSl 1))) (ag (pFz (rn "Family" ["pieces","kept","words"] 1 (pSl 1))) (ag (pFz (bb 0)) am)))))) am))) (aN (kW "Family" ["pieces","kept","words","left"] "laps" 0 (aY cg (ag (pFz (rn "Family" ["pieces","kept","words","left"] 2 (pSl 0))) am))) (kW "Family" ["pieces","kept","words","left","laps"] "total" 0 (pCB AT (ag (pFz (dE [none] (dY (rn "Family" ["pieces","kept","words","left","laps"] 2 (pSl 0))) (ar 0) jR (pCB dI (ag (pSl 0) am)))) am))))))))))
theorem lM(d:D)(Q:PV->PV->Prop)(h:bh (.ins "Family" [] []) ([d]) Q):o9 dO ii (.ins "Family" [] []) ([d]) Q:=by
 show dO _ [some (.ins "Family" [] []),some (.dat (d)),none];obtain⟨ws,hd,⟨hn,hp⟩,q⟩:=h;have hlm:(ws.map D.str).length=ws.length:=length_map _;have hkl:=gT ws;have hkm:((aH ws).map nD).length=(aH ws).length:=length_map _;have hrl:(sS 0 (((ws.map D.str).length:Nat):Int).toNat).length=ws.length:=by rw [jn];omega
 have hk1:ws.length<=1000/\∀w∈ws,w.length<=10000:=⟨by omega,fun w hw=>by have:=(hp w hw).2.1;omega⟩
 have hk2:ws.length<=1000/\∀w∈ws,w.length<=60:=⟨by omega,fun w hw=>(hp w hw).2.1⟩
 walk_at "r";refine⟨ws,hd,⟨hn,hp⟩,?_⟩
 rcases hd with rfl|rfl
 .walk_at "r"
  refine cfm (fun τ=>∃v,τ=[v,some (.ins "Family" ["pieces"] [.tup (ws.map .str)])]) (fun j=>if dU ws j=true then some (nD j) else none) ?_ ?_ ?_
  .exact⟨_,rfl⟩
  .rintro j τ d hj ed ⟨v,rfl⟩ K1 K2 k1 k2;have hj2:j<ws.length:=by rw [jn] at hj;omega
   rw [oH hj] at ed;subst ed;walk_at "r";rw [toNat_natCast]
   cases hc:dU ws j with
   | true=>walk_at "r";exact k1 _ _ (by rw [if_pos hc];rfl) ⟨_,rfl⟩
   | false=>walk_at "r";exact k2 _ (by rw [if_neg (by rw [hc];decide)]) ⟨_,rfl⟩
  .rintro τ ⟨v,rfl⟩
   have e1:(List.range (sS 0 (((ws.map D.str).length:Nat):Int).toNat).length).filterMap (fun j=>if dU ws j=true then some (nD j) else none)=(aH ws).map nD:=by
    rw [jn,hlm,toNat_natCast,du (dU ws) nD];rfl
   rw [e1];walk_at "r"
   refine xB (fun τ=>∃v,τ=[v,some (.ins "Family" ["pieces","kept"] [.tup (ws.map .str),.tup ((aH ws).map nD)])]) (fun k=>.str (pw ws ((aH ws).getD k 0))) ?_ ?_ ?_
   .exact⟨_,rfl⟩
   .rintro j τ d hj ed ⟨v,rfl⟩ K1 k1;have hj2:(aH ws).getD j 0<ws.length:=dW (mem_of_getElem? (by rw [getD_eq_getElem?_getD,getElem?_eq_getElem (show j<(aH ws).length by omega)];rfl));rw [wH hj] at ed;subst ed;walk_at "r";refine⟨_,bE hj2 rfl,?_⟩;walk_at "r";exact k1 _ ⟨_,rfl⟩
   .rintro τ ⟨v,rfl⟩
    have e2:(List.range ((aH ws).map nD).length).map (fun k=>D.str (pw ws ((aH ws).getD k 0)))=(af ws).map D.str:=by
     rw [hkm,fE (fun j=>D.str (pw ws j)) (aH ws)];unfold af;rw [map_map];rfl
    rw [e2];have hwl:=jm ws;have hwm:((af ws).map D.str).length=(af ws).length:=length_map _;have hwp:=cJ hp;have hwq:(af ws).length<=1000/\∀w∈af ws,0<w.length/\w.length<=10000:=⟨by omega,fun w hw=>⟨(hwp w hw).1,by have:=(hwp w hw).2.1;omega⟩⟩
    have hfl:((aH ws).map nD).all D.fl=true:=Dt _;walk_at "r"
    refine cfm (fun τ=>∃v,τ=[v,some (.ins "Family" ["pieces","kept","words"] [.tup (ws.map .str),.tup ((aH ws).map nD),.tup ((af ws).map .str)])]) (fun j=>if (!decide (j∈aH ws))=true then some (eC ws j) else none) ?_ ?_ ?_
    .exact⟨_,rfl⟩
    .rintro j τ d hj ed ⟨v,rfl⟩ K1 K2 k1 k2;have hj2:j<ws.length:=by omega
     rw [oH hj] at ed;subst ed;have hin:=wI j (aH ws);walk_at "r"
     refine re (BF (fun c=>?_) (fun c=>?_))
     .have c:inD (.int (j:Int)) ((aH ws).map nD)=true:=c;rw [hin] at c;exact k2 _ (by rw [c];rfl) ⟨_,rfl⟩
     .have c:inD (.int (j:Int)) ((aH ws).map nD)=false:=c;rw [hin] at c;walk_at "r";rw [toNat_natCast];exact k1 _ _ (by rw [c];rfl) ⟨_,rfl⟩
    .rintro τ ⟨v,rfl⟩
     have e3:(List.range (sS 0 (((ws.map D.str).length:Nat):Int).toNat).length).filterMap (fun j=>if (!decide (j∈aH ws))=true then some (eC ws j) else none)=(wF ws).map (eC ws):=by
      rw [hrl,du (fun j=>!decide (j∈aH ws)) (eC ws)];rfl
     rw [e3];walk_at "r"
     refine xB (fun τ=>∃v,τ=[v]) (fun k=>.int ((pw (af ws) k).length:Int)) ?_ ?_ ?_
     .exact⟨_,rfl⟩
     .rintro j τ d hj ed ⟨v,rfl⟩ K1 k1;rw [gE hj] at ed;subst ed;walk_at "r";exact k1 _ ⟨_,rfl⟩
     .rintro τ ⟨v,rfl⟩
      have e4:(List.range ((af ws).map D.str).length).map (fun k=>D.int ((pw (af ws) k).length:Int))=((af ws).map fun w=>(w.length:Int)).map D.int:=by
       rw [hwm,map_map]
       conv=>rhs;rw [<- mZ (af ws),map_map]
       rfl
      rw [e4];walk_at "r";exact q
 .walk_at "r"
  refine cfm (fun τ=>∃v,τ=[v,some (.ins "Family" ["pieces"] [.tup (ws.map .str)])]) (fun j=>if dU ws j=true then some (nD j) else none) ?_ ?_ ?_
  .exact⟨_,rfl⟩
  .rintro j τ d hj ed ⟨v,rfl⟩ K1 K2 k1 k2;have hj2:j<ws.length:=by rw [jn] at hj;omega
   rw [oH hj] at ed;subst ed;walk_at "r";rw [toNat_natCast]
   cases hc:dU ws j with
   | true=>walk_at "r";exact k1 _ _ (by rw [if_pos hc];rfl) ⟨_,rfl⟩
   | false=>walk_at "r";exact k2 _ (by rw [if_neg (by rw [hc];decide)]) ⟨_,rfl⟩
  .rintro τ ⟨v,rfl⟩
   have e1:(List.range (sS 0 (((ws.map D.str).length:Nat):Int).toNat).length).filterMap (fun j=>if dU ws j=true then some (nD j) else none)=(aH ws).map nD:=by
    rw [jn,hlm,toNat_natCast,du (dU ws) nD];rfl
   rw [e1];walk_at "r"
   refine xB (fun τ=>∃v,τ=[v,some (.ins "Family" ["pieces","kept"] [.tup (ws.map .str),.tup ((aH ws).map nD)])]) (fun k=>.str (pw ws ((aH ws).getD k 0))) ?_ ?_ ?_
   .exact⟨_,rfl⟩
   .rintro j τ d hj ed ⟨v,rfl⟩ K1 k1;have hj2:(aH ws).getD j 0<ws.length:=dW (mem_of_getElem? (by rw [getD_eq_getElem?_getD,getElem?_eq_getElem (show j<(aH ws).length by omega)];rfl));rw [wH hj] at ed;subst ed;walk_at "r";refine⟨_,bE hj2 rfl,?_⟩;walk_at "r";exact k1 _ ⟨_,rfl⟩
   .rintro τ ⟨v,rfl⟩
    have e2:(List.range ((aH ws).map nD).length).map (fun k=>D.str (pw ws ((aH ws).getD k 0)))=(af ws).map D.str:=by
     rw [hkm,fE (fun j=>D.str (pw ws j)) (aH ws)];unfold af;rw [map_map];rfl
    rw [e2];have hwl:=jm ws;have hwm:((af ws).map D.str).length=(af ws).length:=length_map _;have hwp:=cJ hp;have hwq:(af ws).length<=1000/\∀w∈af ws,0<w.length/\w.length<=10000:=⟨by omega,fun w hw=>⟨(hwp w hw).1,by have:=(hwp w hw).2.1;omega⟩⟩
    have hfl:((aH ws).map nD).all D.fl=true:=Dt _;walk_at "r"
    refine cfm (fun τ=>∃v,τ=[v,some (.ins "Family" ["pieces","kept","words"] [.tup (ws.map .str),.tup ((aH ws).map nD),.tup ((af ws).map .str)])]) (fun j=>if (!decide (j∈aH ws))=true then some (eC ws j) else none) ?_ ?_ ?_
    .exact⟨_,rfl⟩
    .rintro j τ d hj ed ⟨v,rfl⟩ K1 K2 k1 k2;have hj2:j<ws.length:=by omega
     rw [oH hj] at ed;subst ed;have hin:=wI j (aH ws);walk_at "r"
     refine re (BF (fun c=>?_) (fun c=>?_))
     .have c:inD (.int (j:Int)) ((aH ws).map nD)=true:=c;rw [hin] at c;exact k2 _ (by rw [c];rfl) ⟨_,rfl⟩
     .have c:inD (.int (j:Int)) ((aH ws).map nD)=false:=c;rw [hin] at c;walk_at "r";rw [toNat_natCast];exact k1 _ _ (by rw [c];rfl) ⟨_,rfl⟩
    .rintro τ ⟨v,rfl⟩
     have e3:(List.range (sS 0 (((ws.map D.str).length:Nat):Int).toNat).length).filterMap (fun j=>if (!decide (j∈aH ws))=true then some (eC ws j) else none)=(wF ws).map (eC ws):=by
      rw [hrl,du (fun j=>!decide (j∈aH ws)) (eC ws)];rfl
     rw [e3];walk_at "r"
     refine xB (fun τ=>∃v,τ=[v]) (fun k=>.int ((pw (af ws) k).length:Int)) ?_ ?_ ?_
     .exact⟨_,rfl⟩
     .rintro j τ d hj ed ⟨v,rfl⟩ K1 k1;rw [gE hj] at ed;subst ed;walk_at "r";exact k1 _ ⟨_,rfl⟩
     .rintro τ ⟨v,rfl⟩
      have e4:(List.range ((af ws).map D.str).length).map (fun k=>D.int ((pw (af ws) k).length:Int))=((af ws).map fun w=>(w.length:Int)).map D.int:=by
       rw [hwm,map_map]
       conv=>rhs;rw [<- mZ (af ws),map_map]
       rfl
      rw [e4];walk_at "r";exact q
theorem mB:∀p ds Q,p.isOwn=true->bh p ds Q->o9 dO ii p ds Q:=fun p ds Q _ h=>by
 unfold bh at h
 split at h
 .exact lM _ _ h
 .exact h.elim
def dP:PTS:=(bG (pCB dI (ag (pFz (rn "Family" ["pieces","kept","words","left","laps","total"] 2 (pSl 0))) am)))
theorem lN(c:Str)(ns:List Str)(fs:List D)(Q:PV->Prop)(h:aA ([.obj c ns fs]) Q):dk dP ik ([.obj c ns fs]) Q:=by
 show dP _ [some (.dat (.obj c ns fs))];obtain⟨rfl,rfl,ws,rfl,q⟩:=h;walk_at "r";rw [length_map];exact q
theorem mC:∀ds Q,aA ds Q->dk dP ik ds Q:=fun ds Q h=>by
 unfold aA at h
 split at h
 .exact lN _ _ _ _ h
 .exact h.elim
def eh:PTS:=(aN (bC (pOp dZ (pFz (pOp xz (pFz (pOp xz (pSl 1) (pSl 1))) (pFz (pC (.int 7919))))) (pFz (pC (.int 5)))) (ar 2)) (aN (pZ (jg (pB (pOp fLt (pSl 1) (pFz (pCB dI (ag (pSl 0) am))))) (bC (pCB EL (ag (pFz (pOp fIx (pSl 0) (pSl 1))) am)) (ar 2)) cI)) (bG (yd (ag (pFz (bb 2)) (ag (pFz (pOp dZ (pFz (pOp dZ (pFz (pOp xA (pSl 2) (pFz (pC (.int 2147483629))))) (pFz (pOp xz (pSl 1) (pFz (pC (.int 7919))))))) (pFz (pC (.int 1))))) am))))))
theorem mD(ns:List Int)(k:Int)(Q:PV->Prop)(h:bA ([.scr ns,.int k]) Q):dk eh i9 ([.scr ns,.int k]) Q:=by
 show eh _ [some (.dat (.scr ns)),some (.dat (.int k)),none];obtain⟨hk0,hk1,q⟩:=h;have hkk:k*k<=1000*1000/\0<=k*k:=⟨Int.mul_le_mul hk1 hk1 hk0 (by decide),mul_nonneg hk0 hk0⟩
 walk_at "r"
 refine⟨fun ρ=>∃c:Int,ρ=[some (.dat (.scr ns)),some (.dat (.int k)),some (.dat (.int c))]/\0<=c,?_,?_⟩
 .walk_at "r";refine fh (fun c=>?_) (fun c=>⟨_,rfl,by omega⟩);obtain⟨n,rfl⟩:∃n:Nat,k=(n:Int):=⟨k.toNat,by omega⟩
  have hn:n<ns.length:=by omega
  walk_at "r";refine⟨ns[n],gB (getElem?_eq_getElem hn) rfl,?_⟩;exact⟨_,rfl,by split <;> omega⟩
 .rintro ρ ⟨c,rfl,hc⟩;walk_at "r";exact q (c,c % 2147483629+k*7919+1) ⟨hc,by omega,by omega⟩
theorem oV:∀ds Q,bA ds Q->dk eh i9 ds Q:=fun ds Q h=>by
 unfold bA at h
 split at h
 .exact mD _ _ _ h
 .exact h.elim
def fW:PTS:=(aN (jg (pB (pOp fGt (pFz (pOp fIx (pSl 0) (pFz (pC (.int 0))))) (pFz (pC (.int 0))))) (aN (bC (pOp xA (pFz (pOp fIx (pSl 0) (pFz (pC (.int 0))))) (pSl 1)) (ar 2)) (aN (wc 0 (pOp Fx (pFz (pOp fIx (pSl 0) (pFz (pC (.int 0))))) (pSl 1)) (pC (.int 0))) (bG (bb 2)))) cI) (aN (wc 0 (pOp xA (pFz (pOp dZ (pFz (pOp xz (pFz (pOp fIx (pSl 0) (pFz (pC (.int 1))))) (pFz (pC (.int 48271))))) (pFz (pC (.int 12345))))) (pFz (pC (.int 2147483647)))) (pC (.int 1))) (bG (pOp xA (pFz (pOp xA (pFz (pOp xz (pFz (pOp fIx (pSl 0) (pFz (pC (.int 1))))) (pFz (pOp fIx (pSl 0) (pFz (pC (.int 1))))))) (pFz (pC (.int 2147483629))))) (pSl 1)))))
theorem qB(c0 c1 m:Int)(Q:PV->PV->Prop)(h:ax (.own [.int c0,.int c1]) ([.int m]) Q):o9 fW lD (.own [.int c0,.int c1]) ([.int m]) Q:=by
 show fW _ [some (.own [.int c0,.int c1]),some (.dat (.int m)),none];obtain⟨⟨g0,g1,g2⟩,hm,hm2,q⟩:=h;have mod:∀z:Int,0<=z % m/\z % m<m:=fun z=>⟨emod_nonneg z (by omega),emod_lt_of_pos z hm⟩
 walk_at "r"
 refine fh (fun c=>?_) (fun c=>?_)
 .walk_at "r";exact q _ (_,_) ⟨ediv_nonneg g0 (by omega),g1,g2⟩ (mod c0).1 (mod c0).2
 .have n0:0<=(c1*48271+12345) % 2147483647:=emod_nonneg _ (by decide);have n1:(c1*48271+12345) % 2147483647<2147483647:=emod_lt_of_pos _ (by decide);walk_at "r";exact q _ (_,_) ⟨g0,n0,by omega⟩ (mod _).1 (mod _).2
theorem sd:∀p ds Q,p.isOwn=true->ax p ds Q->o9 fW lD p ds Q:=fun p ds Q _ h=>by
 unfold ax at h
 split at h
 .exact qB _ _ _ _ h
 .exact h.elim
def dQ:PTS:=(aN (bC (pC (.str [97,98,99,100,101,102,103,104,105,106,107,108,109,110,111,112,113,114,115,116,117,118,119,120,121,122])) (ar 1)) (aN (bC (cB ax 0 (ag (pFz (pC (.int 4))) am)) (ar 2)) (aN (jg (pB (pOp uU (pSl 2) (pFz (pC (.int 3))))) (bG (bb 1)) cI) (bG (pSM sX (pC (.str [])) (ag (pFz (dE [none,some 1,some 0] (uk (ag (pFz (pOp dZ (pFz (pC (.int 2))) (pFz (pOp xA (pSl 2) (pFz (pC (.int 2))))))) am)) (ar 0) jR (pOp fIx (pSl 1) (pFz (cB ax 2 (ag (pFz (pC (.int 26))) am)))))) am))))))
theorem lO(c0 c1:Int)(Q:PV->PV->Prop)(h:bB (.own [.int c0,.int c1]) ([]) Q):o9 dQ im (.own [.int c0,.int c1]) ([]) Q:=by
 show dQ _ [some (.own [.int c0,.int c1]),none,none];obtain⟨g,q⟩:=h;walk_at "r";intro x s hs hx0 hx1;walk_at "r"
 refine fh (fun c=>?_) (fun c=>?_)
 .walk_at "r";exact q _ s hs (by decide) (by decide) (wu.mp (by decide))
 .walk_at "r"
  refine⟨fun k ys τ=>∃(v:Option PV) (s:Int×Int) (ls:List Nat),τ=[v,some (.dat (.str [97,98,99,100,101,102,103,104,105,106,107,108,109,110,111,112,113,114,115,116,117,118,119,120,121,122])),some (stv s)]/\SOk s/\ys=ls.map (fun c=>.str [c])/\ls.length=k/\Lts ls,⟨none,s,[],rfl,hs,rfl,rfl,Lts.nil⟩,?_,?_⟩
  .rintro k ys τ _ hk rfl ⟨v,⟨a,b⟩,ls,rfl,hs,rfl,hl,hL⟩;walk_at "r";intro z s2 hs2 hz0 hz1;obtain⟨j,rfl⟩:∃j:Nat,z=(j:Int):=⟨z.toNat,by omega⟩
   have hj:j<26:=by omega
   walk_at "r";obtain⟨ch,hch⟩:∃ch,([97,98,99,100,101,102,103,104,105,106,107,108,109,110,111,112,113,114,115,116,117,118,119,120,121,122]:List Nat)[j]?=some ch:=⟨_,getElem?_eq_getElem hj⟩
   refine⟨ch,gB hch rfl,?_⟩;have hm:=mem_of_getElem? hch;exact⟨_,s2,ls++[ch],rfl,hs2,by rw [map_append];rfl,by rw [length_append,hl];rfl,hL.app (Lts.one (by simp only [mem_cons,not_mem_nil,or_false] at hm;omega))⟩
  .rintro ys τ ⟨v,s2,ls,rfl,hs2,rfl,hl,hL⟩;walk_at "r"
   refine⟨ls.map fun c=>[c],sV ls,?_,?_⟩
   .rw [eP];omega
   .rw [eP];walk_at "r";exact q ls s2 hs2 (by omega) (by omega) hL
theorem mE:∀p ds Q,p.isOwn=true->bB p ds Q->o9 dQ im p ds Q:=fun p ds Q _ h=>by
 unfold bB at h
 split at h
 .exact lO _ _ _ h
 .exact h.elim
def fX:PTS:=(bG (pSM sX (pC (.str [])) (ag (pFz (dE [none,some 1,some 0] (uk (ag (pFz (pOp dZ (pFz (pC (.int 1))) (pFz (cB ax 0 (ag (pFz (bb 2)) am))))) am)) (ar 0) jR (pOp fIx (pSl 1) (pFz (cB ax 2 (ag (pFz (pCB dI (ag (pSl 1) am))) am)))))) am)))
theorem qC(c0 c1 m:Int)(ls:List Nat)(Q:PV->PV->Prop)(h:cj (.own [.int c0,.int c1]) ([.str ls,.int m]) Q):o9 fX lE (.own [.int c0,.int c1]) ([.str ls,.int m]) Q:=by
 show fX _ [some (.own [.int c0,.int c1]),some (.dat (.str ls)),some (.dat (.int m))];obtain⟨g,⟨h0,h26,hls⟩,⟨hm,hm2⟩,q⟩:=h;walk_at "r";intro x s hs hx0 hx1;walk_at "r"
 refine⟨fun k ys τ=>∃(v:Option PV) (s:Int×Int) (ws:List Nat),τ=[v,some (.dat (.str ls)),some (stv s)]/\SOk s/\ys=ws.map (fun c=>.str [c])/\ws.length=k/\Lts ws,⟨none,s,[],rfl,hs,rfl,rfl,Lts.nil⟩,?_,?_⟩
 .rintro k ys τ _ hk rfl ⟨v,⟨a,b⟩,ws,rfl,hs,rfl,hl,hL⟩;walk_at "r";intro z s2 hs2 hz0 hz1;obtain⟨j,rfl⟩:∃j:Nat,z=(j:Int):=⟨z.toNat,by omega⟩
  have hj:j<ls.length:=by omega
  walk_at "r";refine⟨_,gB (getElem?_eq_getElem hj) rfl,?_⟩;exact⟨_,s2,ws++[ls[j]],rfl,hs2,by rw [map_append];rfl,by rw [length_append,hl];rfl,hL.app (Lts.one (hls _ (getElem_mem hj)))⟩
 .rintro ys τ ⟨v,s2,ws,rfl,hs2,rfl,hl,hL⟩;walk_at "r"
  refine⟨ws.map fun c=>[c],sV ws,?_,?_⟩
  .rw [eP];omega
  .rw [eP];walk_at "r";exact q ws s2 hs2 (by omega) (by omega) hL
theorem se:∀p ds Q,p.isOwn=true->cj p ds Q->o9 fX lE p ds Q:=fun p ds Q _ h=>by
 unfold cj at h
 split at h
 .exact qC _ _ _ _ _ h
 .exact h.elim
def g6:PTS:=(aN (bC (cB ax 0 (ag (pFz (pCB dI (ag (pSl 1) am))) am)) (ar 3)) (bG (dt (pSl 1) (dh (bb 3)) (dh (pOp dZ (pFz (pOp dZ (pSl 3) (pFz (pC (.int 1))))) (pFz (cB ax 0 (ag (pFz (bb 2)) am))))))))
theorem sf(c0 c1 m:Int)(t:List Nat)(Q:PV->PV->Prop)(h:cK (.own [.int c0,.int c1]) ([.str t,.int m]) Q):o9 g6 nv (.own [.int c0,.int c1]) ([.str t,.int m]) Q:=by
 show g6 _ [some (.own [.int c0,.int c1]),some (.dat (.str t)),some (.dat (.int m)),none];obtain⟨g,⟨h0,h1,ht⟩,⟨hm,hm2⟩,q⟩:=h;walk_at "r";rintro x ⟨a,b⟩ hs hx0 hx1;walk_at "r";intro y s2 hs2 hy0 hy1;walk_at "r";obtain⟨i,rfl⟩:∃i:Nat,x=(i:Int):=⟨x.toNat,by omega⟩
 obtain⟨j,rfl⟩:∃j:Nat,y=(j:Int):=⟨y.toNat,by omega⟩
 show Q (.dat (.str (dH t (some (i:Int)) (some ((i:Int)+1+(j:Int)))))) _;rw [show (i:Int)+1+(j:Int)=((i+1+j:Nat):Int) by omega,vv];exact q _ s2 hs2 (by rw [length_take,length_drop];omega) (by rw [length_take,length_drop];omega) ((ht.drop _).take _)
theorem uI:∀p ds Q,p.isOwn=true->cK p ds Q->o9 g6 nv p ds Q:=fun p ds Q _ h=>by
 unfold cK at h
 split at h
 .exact sf _ _ _ _ _ h
 .exact h.elim
def ei:PTS:=(aN (bC (cB bB 0 am) (ar 3)) (aN (bC (cB cj 0 (ag (pFz (bb 3)) (ag (pFz (pOp xz (pFz (pC (.int 3))) (pSl 2))) am))) (ar 4)) (aN (pZ (jg (pB (pOp uU (pFz (cB ax 0 (ag (pFz (pC (.int 3))) am))) (pFz (pC (.int 0))))) (bC (pOp xz (pFz (dt (pSl 4) dA (dh (pOp dZ (pFz (pC (.int 1))) (pFz (cB ax 0 (ag (pFz (pC (.int 4))) am))))))) (pSl 2)) (ar 4)) cI)) (aN (bC (yd am) (ar 5)) (aN (hZ (uk (ag (pFz (bb 1)) am)) (ar 6) (aN (bC (cB ax 0 (ag (pFz (pC (.int 5))) am)) (ar 7)) (aN (pZ (jg (Ex (pB (pOp fGt (pSl 7) (pFz (pC (.int 2))))) (pB (pOp fGt (pFz (pCB dI (ag (pSl 5) am))) (pFz (pC (.int 0)))))) (aN (bC (pOp fIx (pSl 5) (pFz (cB ax 0 (ag (pFz (pCB dI (ag (pSl 5) am))) am)))) (ar 8)) (jg (pB (pOp uU (pSl 7) (pFz (pC (.int 3))))) (bC (cB cK 0 (ag (pFz (bb 8)) (ag (pFz (bb 2)) am))) (ar 8)) cI)) (jg (pB (pOp uU (pFz (pOp xA (pSl 7) (pFz (pC (.int 2))))) (pFz (pC (.int 1))))) (bC (cB cK 0 (ag (pFz (bb 4)) (ag (pFz (bb 2)) am))) (ar 8)) (bC (cB cj 0 (ag (pFz (bb 3)) (ag (pFz (bb 2)) am))) (ar 8))))) (iZ (BL 5 (bb 8)))))) (bG (bb 5)))))))
theorem mF(c0 c1 n m:Int)(Q:PV->PV->Prop)(h:bO (.own [.int c0,.int c1]) ([.int n,.int m]) Q):o9 ei ja (.own [.int c0,.int c1]) ([.int n,.int m]) Q:=by
 show ei _ [some (.own [.int c0,.int c1]),some (.dat (.int n)),some (.dat (.int m)),none,none,none,none,none,none];obtain⟨g,⟨hn0,hn⟩,⟨hm,hm60⟩,q⟩:=h;walk_at "r";rintro ls ⟨a,b⟩ hs hl2 hl26 hL;walk_at "r";rintro ba ⟨a,b⟩ hs ba0 bam baL;walk_at "r"
 refine⟨fun ρ=>∃(bs:List Nat) (s:Int×Int),ρ=[some (stv s),some (.dat (.int n)),some (.dat (.int m)),some (.dat (.str ls)),some (.dat (.str bs)),none,none,none,none]/\SOk s/\0<bs.length/\bs.length<=20000/\Lts bs,?_,?_⟩
 .walk_at "r";rintro z ⟨a,b⟩ hs hz0 hz1;walk_at "r";refine fh (fun c=>?_) (fun c=>⟨ba,(a,b),rfl,hs,ba0,by omega,baL⟩);walk_at "r";rintro y s2 hs2 hy0 hy1;walk_at "r";have h1:=b9 ba none (some (1+y));have h3:m.toNat*(dH ba none (some (1+y))).length<=60*180:=Nat.mul_le_mul (by omega) (by omega)
  have h4:0<(dH ba none (some (1+y))).length:=by
   rw [sL _ (by omega),length_take];omega
  have h5:0<m.toNat*(dH ba none (some (1+y))).length:=mul_pos (by omega) h4;refine⟨⟨by omega,by omega,by omega⟩,?_⟩;exact⟨qW (dH ba none (some (1+y))) m,s2,rfl,hs2,by rw [fq];exact h5,by rw [fq];omega,(baL.cut _ _).rep _⟩
 rintro ρ ⟨bs,s3,rfl,hs3,b0,bm,bL⟩;walk_at "r"
 refine⟨fun k ρ=>∃(ps:List (List Nat)) (s:Int×Int) (v6 v7 v8:Option PV),ρ=[some (stv s),some (.dat (.int n)),some (.dat (.int m)),some (.dat (.str ls)),some (.dat (.str bs)),some (.own (ps.map .str)),v6,v7,v8]/\SOk s/\ps.length=k/\Pcs m.toNat ps,⟨[],s3,none,none,none,rfl,hs3,rfl,nofun⟩,?_,?_⟩
 .rintro k ρ _ hk rfl ⟨ps,⟨a,b⟩,v6,v7,v8,rfl,hs,hpl,hps⟩;have hlm:(ps.map D.str).length=ps.length:=length_map _;walk_at "r";rintro way ⟨a,b⟩ hs hw0 hw1;walk_at "r"
  refine⟨fun ρ=>∃(w:List Nat) (s:Int×Int) (v6 v7:Option PV),ρ=[some (stv s),some (.dat (.int n)),some (.dat (.int m)),some (.dat (.str ls)),some (.dat (.str bs)),some (.own (ps.map .str)),v6,v7,some (.dat (.str w))]/\SOk s/\Pc m.toNat w,?_,?_⟩
  .walk_at "r"
   refine fh (fun c=>?_) (fun c=>?_)
   .walk_at "r"
    refine fh (fun c2=>?_) (fun c2=>?_)
    .walk_at "r";rintro z ⟨a,b⟩ hs hz0 hz1;obtain⟨j,rfl⟩:∃j:Nat,z=(j:Int):=⟨z.toNat,by omega⟩
     have hj:j<ps.length:=by omega
     have ho:=hps _ (br hj);obtain⟨ho1,ho2,ho3⟩:=id ho;walk_at "r";refine⟨_,bE hj rfl,?_⟩;walk_at "r";refine fh (fun _=>?_) (fun _=>⟨pw ps j,(a,b),_,_,rfl,hs,ho⟩);walk_at "r";rintro w s hs w0 wm wL;exact⟨w,s,_,_,rfl,hs,w0,wm,wL⟩
    .walk_at "r"
     refine fh (fun _=>?_) (fun _=>?_)
     .walk_at "r";rintro w s hs w0 wm wL;exact⟨w,s,_,_,rfl,hs,w0,wm,wL⟩
     .walk_at "r";rintro w s hs w0 wm wL;exact⟨w,s,_,_,rfl,hs,w0,wm,wL⟩
   .walk_at "r"
    refine fh (fun _=>?_) (fun _=>?_)
    .walk_at "r";rintro w s hs w0 wm wL;exact⟨w,s,_,_,rfl,hs,w0,wm,wL⟩
    .walk_at "r";rintro w s hs w0 wm wL;exact⟨w,s,_,_,rfl,hs,w0,wm,wL⟩
  .rintro ρ ⟨w,s,v6,v7,rfl,hs,hw⟩;walk_at "r";exact⟨ps++[w],s,_,_,_,by rw [map_append];rfl,hs,by rw [length_append,hpl];rfl,hps.app hw⟩
 .rintro ρ ⟨ps,s,v6,v7,v8,rfl,hs,hpl,hps⟩;walk_at "r";exact q ps s hs hpl hps
theorem oW:∀p ds Q,p.isOwn=true->bO p ds Q->o9 ei ja p ds Q:=fun p ds Q _ h=>by
 unfold bO at h
 split at h
 .exact mF _ _ _ _ _ h
 .exact h.elim
def dR:PTS:=(aN (hZ (dY (bb 0)) (ar 2) (jg (Ex (pB (pOp fGt (pFz (pCB dI (ag (pSl 2) am))) (pFz (pCB dI (ag (pFz (pOp fIx (pSl 0) (pSl 1))) am))))) (pB (pOp fGe (pFz (pSM p5 (bb 2) (ag (pFz (pOp fIx (pSl 0) (pSl 1))) am))) (pFz (pC (.int 0)))))) (bG (pC (.bl true))) cI)) (bG (pOp (Dy false) (pFz (pOp fIx (pSl 0) (pSl 1))) (pFz (dt (pSl 0) dA (dh (bb 1)))))))
theorem lP(ds:List D)(i:Int)(Q:PV->Prop)(h:a9 ([.lst ds,.int i]) Q):dk dR io ([.lst ds,.int i]) Q:=by
 show dR _ [some (.dat (.lst ds)),some (.dat (.int i)),none];obtain⟨ps,rfl,⟨hn,hw⟩,hi,q⟩:=h;obtain⟨k,rfl⟩:∃k:Nat,i=(k:Int):=⟨i.toNat,by omega⟩
 rw [toNat_natCast] at q;have hk:k<ps.length:=by omega
 have hlm:(ps.map D.str).length=ps.length:=length_map _;walk_at "r"
 refine EY (α:=List Nat) (fun (pre:List (List Nat)) ρ=>∃v2:Option PV,ρ=[some (.dat (.lst (ps.map .str))),some (.dat (.int (k:Int))),v2]/\∀o∈pre,(pw ps k).length<o.length->gc (pw ps k) o=false) ⟨_,rfl,nofun⟩ ?_ ?_
 .rintro pre o suf ρ ej ⟨v2,rfl,hf⟩;have ho:o∈ps:=by rw [ej];simp
  have go:((pw ps k).length<o.length->gc (pw ps k) o=false)->∀u∈pre++[o],(pw ps k).length<u.length->gc (pw ps k) u=false:=fun h u hu=>by
   rcases mem_append.mp hu with z|z
   .exact hf u z
   .rw [mem_singleton.mp z];exact h
  walk_at "r";refine⟨_,bE hk rfl,?_⟩;walk_at "r"
  refine fh (fun c=>?_) (fun c=>?_)
  .walk_at "r";refine⟨_,bE hk rfl,?_⟩;walk_at "r"
   refine fh (fun c2=>?_) (fun c2=>?_)
   .walk_at "r"
    have e:dU ps k=false:=by
     cases hb:dU ps k with
     | false=>rfl
     | true =>
      have:=(fF.mp hb).2 o ho (by omega);rw [oI.mpr c2] at this;cases this
    rw [e] at q;exact q
   .exact⟨_,rfl,go fun _=>yD.mpr (by omega)⟩
  .exact⟨_,rfl,go fun z=>absurd z (by omega)⟩
 .rintro ρ ⟨v2,rfl,hf⟩;have c1:dH (ps.map D.str) none (some (k:Int))=(ps.take k).map D.str:=by rw [eZ,map_take]
  have hfl:(dH (ps.map D.str) none (some (k:Int))).all D.fl=true:=by rw [c1];exact wJ _
  have hin:inD (.str (pw ps k)) (dH (ps.map D.str) none (some (k:Int)))=decide (pw ps k∈ps.take k):=by rw [c1];exact oG _ _
  have e:(!dU ps k)=decide (pw ps k∈ps.take k):=by
   by_cases z:pw ps k∈ps.take k
   .rw [decide_eq_true z]
    cases hb:dU ps k with
    | false=>rfl
    | true=>exact absurd z (fF.mp hb).1
   .rw [decide_eq_false z,fF.mpr ⟨z,hf⟩];rfl
  rw [e,<- hin] at q;walk_at "r";refine⟨_,bE hk rfl,?_⟩;walk_at "r";exact q
theorem mG:∀ds Q,a9 ds Q->dk dR io ds Q:=fun ds Q h=>by
 unfold a9 at h
 split at h
 .exact lP _ _ _ h
 .exact h.elim
def fY:PTS:=(bG (dE [none,some 0] (uk (ag (pFz (pCB dI (ag (pSl 0) am))) am)) (ar 0) (ye (pB (aY a9 (ag (pFz (bb 1)) (ag (pFz (bb 0)) am))))) (bb 0)))
theorem qD(ds:List D)(Q:PV->Prop)(h:bV ([.lst ds]) Q):dk fY lF ([.lst ds]) Q:=by
 show fY _ [some (.dat (.lst ds))];obtain⟨ps,rfl,hn,q⟩:=h;have hlm:(ps.map D.str).length=ps.length:=length_map _;have hn1:=hn.1;walk_at "r"
 refine cfR (dU ps) nD (fun k hk v K1 K2 k1 k2=>?_) (fun v=>?_)
 .rw [hlm,toNat_natCast] at hk;walk_at "r";rw [toNat_natCast]
  cases hb:dU ps k with
  | true=>exact k1 _ hb
  | false=>exact k2 _ hb
 .rw [hlm,toNat_natCast];exact q
theorem sg:∀ds Q,bV ds Q->dk fY lF ds Q:=fun ds Q h=>by
 unfold bV at h
 split at h
 .exact qD _ _ h
 .exact h.elim
def g9:PTS:=(aN (hZ (EF (ag (pFz (pOp yk (pFz (pCB wg (ag (pFz (pCB dI (ag (pSl 0) am))) (ag (pFz (pCB dI (ag (pSl 1) am))) am)))) (pFz (pC (.int 1))))) (ag (pFz (pC (.int 0))) (ag (pFz (pUn A2 (pFz (pC (.int 1))))) am)))) (ar 2) (jg (pB (pOp uU (pFz (dt (pSl 0) (dh (pOp yk (pFz (pCB dI (ag (pSl 0) am))) (pSl 2))) dA)) (pFz (dt (pSl 1) dA (dh (bb 2)))))) (bG (bb 2)) cI)) (bG (pC (.int 0))))
theorem sh(a b:List Nat)(Q:PV->Prop)(h:aX ([.str a,.str b]) Q):dk g9 ny ([.str a,.str b]) Q:=by
 show g9 _ [some (.dat (.str a)),some (.dat (.str b)),none];obtain⟨⟨a0,a1⟩,⟨b0,b1⟩,q⟩:=h;have hm:(if (b.length:Int)<(a.length:Int) then (b.length:Int) else (a.length:Int))=((min a.length b.length:Nat):Int):=by split <;> omega
 walk_at "r"
 refine⟨fun i ρ=>(∃v2:Option PV,ρ=[some (.dat (.str a)),some (.dat (.str b)),v2])/\∀j,min a.length b.length - i<=j->j<min a.length b.length->¬ b.take j <:+ a,⟨⟨_,rfl⟩,fun j h1 h2=>by omega⟩,?_,?_⟩
 .rintro i ρ d hi ed ⟨⟨v2,rfl⟩,ih⟩;have hi:i<(((if (b.length:Int)<(a.length:Int) then (b.length:Int) else (a.length:Int)) - 1) - 0).toNat:=hi;have ed:d=.int (((if (b.length:Int)<(a.length:Int) then (b.length:Int) else (a.length:Int)) - 1) - (i:Int)):=ed;rw [hm] at hi ed;obtain⟨k,hk,hk2⟩:∃k:Nat,(((min a.length b.length:Nat):Int) - 1) - (i:Int)=(k:Int)/\k=min a.length b.length - 1 - i:=⟨min a.length b.length - 1 - i,by omega,rfl⟩
  rw [hk] at ed;subst ed;walk_at "r"
  have e1:dH a (some ((a.length:Int) - (k:Int))) none=a.drop (a.length - k):=by
   rw [show (a.length:Int) - (k:Int)=((a.length - k:Nat):Int) by omega,gA]
  have e2:dH b none (some (k:Int))=b.take k:=eZ b k
  have sfx:a.drop (a.length - k)=b.take k ↔ b.take k <:+ a:=by
   rw [suffix_iff_eq_drop,length_take,show min k b.length=k by omega];exact⟨fun h=>h.symm,fun h=>h.symm⟩
  rw [e1,e2]
  refine fh (fun c=>?_) (fun c=>?_)
  .walk_at "r"
   rw [show dz a b=k from oB ⟨by omega,sfx.mp c,fun j h1 h2=>by
    rcases lt_or_ge k j with h|h
    .exact absurd h2 (ih j (by omega) h1)
    .exact h⟩] at q
   exact q
  .refine⟨⟨_,rfl⟩,fun j h1 h2=>?_⟩
   by_cases hj:j=k
   .rw [hj];exact fun z=>c (sfx.mpr z)
   .exact ih j (by omega) h2
 .rintro ρ ⟨⟨v2,rfl⟩,ih⟩;rw [hm] at ih;walk_at "r"
  rw [show dz a b=0 from oB ⟨by omega,by rw [take_zero];exact nil_suffix,fun j h1 h2=>by
   rcases eq_zero_or_pos j with h|h
   .omega
   .exact absurd h2 (ih j (by omega) h1)⟩] at q
  exact q
theorem uJ:∀ds Q,aX ds Q->dk g9 ny ds Q:=fun ds Q h=>by
 unfold aX at h
 split at h
 .exact sh _ _ _ h
 .exact h.elim
def dy:PTS:=(aN (bC (pCB wn (ag (pSl 1) am)) (ar 2)) (aN (bC (yd am) (ar 3)) (aN (wb (pB (pOp D2 (pSl 2) (pFz (yd am)))) (iZ (BL 3 (wB 2 (cB ax 0 (ag (pFz (pCB dI (ag (pSl 2) am))) am)))))) (bG (bb 3)))))
theorem kr(c0 c1:Int)(ds:List D)(Q:PV->PV->Prop)(h:bp (.own [.int c0,.int c1]) ([.lst ds]) Q):o9 dy gN (.own [.int c0,.int c1]) ([.lst ds]) Q:=by
 show dy _ [some (.own [.int c0,.int c1]),some (.dat (.lst ds)),none,none];obtain⟨g,js,rfl,hl,q⟩:=h;walk_at "r";refine⟨fun m ρ=>∃(ls ks:List Nat) (s:Int×Int),ρ=[some (stv s),some (.dat (.lst (js.map nD))),some (.own (ls.map nD)),some (.own (ks.map nD))]/\SOk s/\ls.length=m/\(ks++ls).Perm js,⟨js.length,js,[],(c0,c1),rfl,g,rfl,List.Perm.refl _⟩,?_⟩;rintro m ρ ⟨ls,ks,⟨a,b⟩,rfl,hs,hm,hp⟩;have hpl:ks.length+ls.length=js.length:=by have:=hp.length_eq;rwa [length_append] at this
 have hlm:(ls.map nD).length=ls.length:=length_map _;have hkm:(ks.map nD).length=ks.length:=length_map _;have q0:BJ (D.lst (ls.map nD)) (D.lst []):=by rw [zt];exact BJ.of (Sh.lstI _) (Sh.lstI [])
 have d0:deq (D.lst (ls.map nD)) (D.lst [])=decide (ls=[]):=by
  rw [zt];have:=yC (ls.map fun j=>((j:Nat):Int)) [];rw [map_nil] at this;rw [this]
  cases ls with
  | nil=>rfl
  | cons a r=>rfl
 walk_at "r";rw [d0]
 refine ui (fun c=>?_) (fun c=>?_)
 .have hl0:0<ls.length:=length_pos_iff.mpr c;walk_at "r";rintro x ⟨a,b⟩ hs hx0 hx1;obtain⟨i,rfl⟩:∃i:Nat,x=(i:Int):=⟨x.toNat,by omega⟩
  have hi:i<ls.length:=by omega
  walk_at "r";refine⟨i,nD ls[i],⟨FY (by omega),by omega⟩,by rw [getElem?_map,getElem?_eq_getElem hi];rfl,?_⟩;walk_at "r";refine⟨m - 1,by omega,ls.eraseIdx i,ks++[ls[i]],(a,b),by rw [map_append,wR];rfl,hs,by rw [length_eraseIdx,if_pos hi];omega,?_⟩;refine List.Perm.trans ?_ hp;rw [append_assoc];exact List.Perm.append_left _ ((perm_append_comm).trans (wS hi))
 .subst c;walk_at "r";exact q ks (a,b) hs (by rw [append_nil] at hp;exact hp)
theorem lQ:∀p ds Q,p.isOwn=true->bp p ds Q->o9 dy gN p ds Q:=fun p ds Q _ h=>by
 unfold bp at h
 split at h
 .exact kr _ _ _ _ h
 .exact h.elim
def fZ:PTS:=(aN (bC (pC (.str [])) (ar 2)) (aN (hZ (uk (ag (pFz (pCB dI (ag (pSl 1) am))) am)) (ar 3) (aN (bC (pOp fIx (pSl 0) (pFz (pOp fIx (pSl 1) (pSl 3)))) (ar 4)) (bC (pOp dZ (pSl 2) (pFz (dt (pSl 4) dA (dh (pOp yk (pFz (pCB dI (ag (pSl 4) am))) (pFz (aY aX (ag (pFz (bb 4)) (ag (pFz (pOp fIx (pSl 0) (pFz (pOp fIx (pSl 1) (pFz (pOp xA (pFz (pOp dZ (pSl 3) (pFz (pC (.int 1))))) (pFz (pCB dI (ag (pSl 1) am))))))))) am))))))))) (ar 2)))) (bG (bb 2))))
theorem qE(ds:List D)(d:D)(Q:PV->Prop)(h:ck ([.lst ds,d]) Q):dk fZ lG ([.lst ds,d]) Q:=by
 show fZ _ [some (.dat (.lst ds)),some (.dat (d)),none,none,none];obtain⟨ws,rfl,⟨hn,hw⟩,js,hd,⟨hjl,hj⟩,q⟩:=h;have hjm:(js.map nD).length=js.length:=length_map _;have e1:(((js.map nD).length:Nat):Int).toNat=js.length:=by omega
 have atj:∀k,k<js.length->∀z:Int,z=(k:Int)->atI (js.map nD) z=some (.int ((js.getD k 0:Nat):Int)):=fun k hk z ez=>gB (j:=k) (by rw [getElem?_map,getElem?_eq_getElem hk,getD_eq_getElem?_getD,getElem?_eq_getElem hk];rfl) ez;have hjk:∀k,k<js.length->js.getD k 0<ws.length:=fun k hk=>hj _ (by rw [getD_eq_getElem?_getD,getElem?_eq_getElem hk];exact getElem_mem _);have hpw:=uv fun w hw'=>(hw w hw').2
 have rl:∀m,(rgN ws js m).length<=m*60:=fun m=>by
  induction m with
  | zero=>exact zero_le _
  | succ m ih =>
   rw [i5,length_append,succ_mul];have:(rgP ws js m).length<=60:=by unfold rgP;rw [length_take];have:=hpw (js.getD m 0);omega
   omega
 rcases hd with rfl|rfl <;> (
  walk_at "r"
  refine⟨fun k ρ=>∃x v3 v4:Option PV,ρ=[some (.dat (.lst (ws.map .str))),x,some (.dat (.str (rgN ws js k))),v3,v4]/\(x=some (.dat (.lst (js.map nD)))\/x=some (.dat (.tup (js.map nD)))),⟨_,_,_,rfl,by first|exact .inl rfl|exact .inr rfl⟩,?_,?_⟩
  .rintro k ρ _ hk rfl ⟨x,v3,v4,rfl,hx⟩;have hk:k<js.length:=by rw [<- e1];exact hk
   have hb:=hjk k hk;have hq:(k+1) % js.length<js.length:=mod_lt _ (by omega);have hc:=hjk _ hq;have w1:=hw _ (br hb);have w2:=hw _ (br hc);have w3:(pw ws (js.getD k 0)).length<=10000:=by omega
   have w4:(pw ws (js.getD ((k+1) % js.length) 0)).length<=10000:=by omega
   have il:=(df w1.1 w2.1).1;have g1:=rl k;have em:((k:Int)+1) % (((js.map nD).length:Nat):Int)=(((k+1) % js.length:Nat):Int):=by rw [hjm];rfl
   have cl:=b9 (pw ws (js.getD k 0)) none (some (((pw ws (js.getD k 0)).length:Int) - (dz (pw ws (js.getD k 0)) (pw ws (js.getD ((k+1) % js.length) 0)):Int)))
   have ce:dH (pw ws (js.getD k 0)) none (some (((pw ws (js.getD k 0)).length:Int) - (dz (pw ws (js.getD k 0)) (pw ws (js.getD ((k+1) % js.length) 0)):Int)))=rgP ws js k:=by
    rw [show ((pw ws (js.getD k 0)).length:Int) - (dz (pw ws (js.getD k 0)) (pw ws (js.getD ((k+1) % js.length) 0)):Int)=(((pw ws (js.getD k 0)).length - dz (pw ws (js.getD k 0)) (pw ws (js.getD ((k+1) % js.length) 0)):Nat):Int) by omega,eZ];rfl
   rcases hx with rfl|rfl <;> (
    walk_at "r";refine⟨_,atj k hk _ rfl,?_⟩;walk_at "r";refine⟨_,bE hb rfl,?_⟩;walk_at "r";refine⟨_,atj _ hq _ em,?_⟩;walk_at "r";refine⟨_,bE hc rfl,?_⟩;walk_at "r";rw [ce];exact⟨_,_,_,by rw [i5],by first|exact .inl rfl|exact .inr rfl⟩)
  .rintro ρ ⟨x,v3,v4,rfl,hx⟩;rw [e1];walk_at "r";exact q)
theorem si:∀ds Q,ck ds Q->dk fZ lG ds Q:=fun ds Q h=>by
 unfold ck at h
 split at h
 .exact qE _ _ _ h
 .exact h.elim
def eT:PTS:=(aN (bC (pOp dZ (pFz (dt (pSl 0) (dh (bb 1)) dA)) (pFz (pOp xz (pSl 0) (pFz (pOp dZ (pFz (pOp Fx (pSl 2) (pFz (pCB dI (ag (pSl 0) am))))) (pFz (pC (.int 1)))))))) (ar 3)) (bG (dt (pSl 3) dA (dh (bb 2)))))
theorem oX(l:List Nat)(p n:Int)(Q:PV->Prop)(h:bP ([.str l,.int p,.int n]) Q):dk eT jZ ([.str l,.int p,.int n]) Q:=by
 show eT _ [some (.dat (.str l)),some (.dat (.int p)),some (.dat (.int n)),none];obtain⟨⟨l0,l1⟩,hp,hn,q⟩:=h;obtain⟨p,rfl⟩:∃n:Nat,p=(n:Int):=⟨p.toNat,by omega⟩
 obtain⟨n,rfl⟩:∃m:Nat,n=(m:Int):=⟨n.toNat,by omega⟩
 have h1:=DD (a:=n) l0;have h2:=DE (a:=n) l0;have h3:0<=(n:Int) / (l.length:Int)/\(n:Int) / (l.length:Int)<=1000:=DC (m:=1000) (by omega);have hr:=fq l ((n:Int) / (l.length:Int)+1);have hc:dH l (some (p:Int)) none=l.drop p:=by rw [uf _ (by omega),show ((p:Int)).toNat=p by omega]
 have hdl:(l.drop p).length=l.length - p:=length_drop
 have hal:(dH l (some (p:Int)) none++qW l ((n:Int) / (l.length:Int)+1)).length<=1000000:=by
  rw [length_append,hc,hr];omega
 rw [length_append] at hal;walk_at "r"
 have e:dH (dH l (some (p:Int)) none++qW l ((n:Int) / (l.length:Int)+1)) none (some (n:Int))=rdR l p n:=by
  rw [sL _ (by omega),hc,show ((n:Int)).toNat=n by omega];refine tG (by rw [length_take,length_append,hr];omega) fun t ht=>?_;rw [oy ht]
  by_cases htp:t<l.length - p
  .rw [dL (by omega),rz,mod_eq_of_lt (by omega)]
  .rw [eA (by omega),hdl,xZ l0 (by omega),show p+t=(t - (l.length - p))+l.length by omega,add_mod_right]
 rw [e];exact q
theorem qF:∀ds Q,bP ds Q->dk eT jZ ds Q:=fun ds Q h=>by
 unfold bP at h
 split at h
 .exact oX _ _ _ _ h
 .exact h.elim
def eU:PTS:=(aN (hZ (uk (ag (pFz (pCB dI (ag (pSl 0) am))) am)) (ar 2) (jg (pB (pOp uU (pFz (aY bP (ag (pFz (bb 0)) (ag (pFz (bb 2)) (ag (pFz (pCB dI (ag (pSl 1) am))) am))))) (pSl 1))) (bG (bb 2)) cI)) (bG (pUn A2 (pFz (pC (.int 1))))))
theorem oY(l w:List Nat)(Q:PV->Prop)(h:aL ([.str l,.str w]) Q):dk eU j4 ([.str l,.str w]) Q:=by
 show eU _ [some (.dat (.str l)),some (.dat (.str w)),none];obtain⟨hR,⟨w0,w1⟩,q⟩:=h;have l0:=hR.1;have l1:=hR.2;walk_at "r"
 refine⟨fun k ρ=>∃v2:Option PV,ρ=[some (.dat (.str l)),some (.dat (.str w)),v2]/\∀j,j<k->rdR l j w.length≠w,⟨_,rfl,nofun⟩,?_,?_⟩
 .rintro k ρ _ hk rfl ⟨v2,rfl,hf⟩;have hk:k<((l.length:Nat):Int).toNat:=hk;walk_at "r";rw [toNat_natCast,toNat_natCast]
  refine fh (fun c=>?_) (fun c=>?_)
  .walk_at "r";rw [qj (by omega) c hf] at q;exact q
  .refine⟨_,rfl,fun j hj=>?_⟩
   by_cases e:j=k
   .rw [e];exact c
   .exact hf j (by omega)
 .rintro ρ ⟨v2,rfl,hf⟩;walk_at "r"
  have e:frP l w=-1:=by
   by_cases h:frP l w=-1
   .exact h
   .obtain⟨k,_,k2,k3⟩:=gU h;exact absurd k3 (hf k (by omega))
  rw [e] at q;exact q
theorem qG:∀ds Q,aL ds Q->dk eU j4 ds Q:=fun ds Q h=>by
 unfold aL at h
 split at h
 .exact oY _ _ _ h
 .exact h.elim
def f8:PTS:=(aN (bC (pC (.str [])) (ar 3)) (aN (hZ (uk (ag (pFz (pCB dI (ag (pSl 2) am))) am)) (ar 4) (aN (bC (pOp fIx (pSl 1) (pFz (pOp fIx (pSl 2) (pSl 4)))) (ar 5)) (jg (pB (pOp fGt (pFz (cB ax 0 (ag (pFz (pC (.int 4))) am))) (pFz (pC (.int 0))))) (bC (pOp dZ (pSl 3) (pFz (dt (pSl 5) dA (dh (pOp yk (pFz (pCB dI (ag (pSl 5) am))) (pFz (aY aX (ag (pFz (bb 5)) (ag (pFz (pOp fIx (pSl 1) (pFz (pOp fIx (pSl 2) (pFz (pOp xA (pFz (pOp dZ (pSl 4) (pFz (pC (.int 1))))) (pFz (pCB dI (ag (pSl 2) am))))))))) am))))))))) (ar 3)) (bC (pOp dZ (pFz (pOp dZ (pSl 3) (pSl 5))) (pFz (dt (pFz (pC (.str [120,121]))) dA (dh (cB ax 0 (ag (pFz (pC (.int 3))) am)))))) (ar 3))))) (aN (bC (cB ax 0 (ag (pFz (pCB dI (ag (pSl 3) am))) am)) (ar 6)) (bG (pOp dZ (pFz (dt (pSl 3) (dh (bb 6)) dA)) (pFz (dt (pSl 3) dA (dh (bb 6)))))))))
theorem qH(c0 c1:Int)(ds es:List D)(Q:PV->PV->Prop)(h:cG (.own [.int c0,.int c1]) ([.lst ds,.lst es]) Q):o9 f8 lH (.own [.int c0,.int c1]) ([.lst ds,.lst es]) Q:=by
 show f8 _ [some (.own [.int c0,.int c1]),some (.dat (.lst ds)),some (.dat (.lst es)),none,none,none,none];obtain⟨g,ws,rfl,⟨hn,hw⟩,js,rfl,⟨hj0,hjl,hj⟩,q⟩:=h;have hjm:(js.map nD).length=js.length:=length_map _;have e1:(((js.map nD).length:Nat):Int).toNat=js.length:=by omega
 have atj:∀k,k<js.length->∀z:Int,z=(k:Int)->atI (js.map nD) z=some (.int ((js.getD k 0:Nat):Int)):=fun k hk z ez=>gB (j:=k) (by rw [getElem?_map,getElem?_eq_getElem hk,getD_eq_getElem?_getD,getElem?_eq_getElem hk];rfl) ez;have hjk:∀k,k<js.length->js.getD k 0<ws.length:=fun k hk=>hj _ (by rw [getD_eq_getElem?_getD,getElem?_eq_getElem hk];exact getElem_mem _);have hpos:∀k,k<js.length->0<(pw ws (js.getD k 0)).length:=fun k hk=>(hw _ (br (hjk k hk))).1
 walk_at "r"
 refine⟨fun k ρ=>∃(bs:List (List Nat)) (s:Int×Int) (v5 v6:Option PV),ρ=[some (stv s),some (.dat (.lst (ws.map .str))),some (.dat (.lst (js.map nD))),some (.dat (.str bs.flatten)),v5,v6,none]/\SOk s/\bs.length=k/\bs.flatten.length<=k*62/\∀i,i<k->pw bs i=rgP ws js i\/∃ls,pw bs i=pw ws (js.getD i 0)++ls,⟨[],(c0,c1),_,_,rfl,g,rfl,le_refl _,nofun⟩,?_,?_⟩
 .rintro k ρ _ hk rfl ⟨bs,⟨a,b⟩,v5,v6,rfl,hs,hbl,hfl,hB⟩;have hk:k<js.length:=by rw [<- e1];exact hk
  have hb:=hjk k hk;have hq:(k+1) % js.length<js.length:=mod_lt _ (by omega);have hc:=hjk _ hq;have w1:=hw _ (br hb);have w2:=hw _ (br hc);have w3:(pw ws (js.getD k 0)).length<=10000:=by omega
  have w4:(pw ws (js.getD ((k+1) % js.length) 0)).length<=10000:=by omega
  have il:=(df w1.1 w2.1).1;have em:((k:Int)+1) % (((js.map nD).length:Nat):Int)=(((k+1) % js.length:Nat):Int):=by rw [hjm];rfl
  have cl:=b9 (pw ws (js.getD k 0)) none (some (((pw ws (js.getD k 0)).length:Int) - (dz (pw ws (js.getD k 0)) (pw ws (js.getD ((k+1) % js.length) 0)):Int)))
  have ce:dH (pw ws (js.getD k 0)) none (some (((pw ws (js.getD k 0)).length:Int) - (dz (pw ws (js.getD k 0)) (pw ws (js.getD ((k+1) % js.length) 0)):Int)))=rgP ws js k:=by
   rw [show ((pw ws (js.getD k 0)).length:Int) - (dz (pw ws (js.getD k 0)) (pw ws (js.getD ((k+1) % js.length) 0)):Int)=(((pw ws (js.getD k 0)).length - dz (pw ws (js.getD k 0)) (pw ws (js.getD ((k+1) % js.length) 0)):Nat):Int) by omega,eZ];rfl
  have next:∀(x:List Nat) (s:Int×Int) (v5 v6:Option PV),SOk s->x.length<=62->(x=rgP ws js k\/∃ls,x=pw ws (js.getD k 0)++ls)->∃(bs':List (List Nat)) (s':Int×Int) (v5' v6':Option PV),[some (stv s),some (PV.dat (.lst (ws.map .str))),some (.dat (.lst (js.map nD))),some (.dat (.str (bs.flatten++x))),v5,v6,none]=[some (stv s'),some (.dat (.lst (ws.map .str))),some (.dat (.lst (js.map nD))),some (.dat (.str bs'.flatten)),v5',v6',none]/\SOk s'/\bs'.length=k+1/\bs'.flatten.length<=(k+1)*62/\∀i,i<k+1->pw bs' i=rgP ws js i\/∃ls,pw bs' i=pw ws (js.getD i 0)++ls:=fun x s v5 v6 h1 h2 h3=>by
   have fe:(bs++[x]).flatten=bs.flatten++x:=by rw [flatten_append];simp
   refine⟨bs++[x],s,v5,v6,by rw [fe],h1,by rw [length_append,hbl];rfl,by rw [fe,length_append,succ_mul];omega,fun i hi=>?_⟩
   by_cases e:i=k
   .subst e;have:pw (bs++[x]) i=x:=by unfold pw;rw [getD_eq_getElem?_getD,getElem?_append_right (by omega),hbl,Nat.sub_self];rfl
    rw [this];exact h3
   .have:pw (bs++[x]) i=pw bs i:=by unfold pw;rw [getD_eq_getElem?_getD,getElem?_append_left (by omega),getD_eq_getElem?_getD]
    rw [this];exact hB i (by omega)
  walk_at "r";refine⟨_,atj k hk _ rfl,?_⟩;walk_at "r";refine⟨_,bE hb rfl,?_⟩;walk_at "r";rintro x ⟨a,b⟩ hs hx0 hx1;walk_at "r"
  refine fh (fun c=>?_) (fun c=>?_)
  .walk_at "r";refine⟨_,atj _ hq _ em,?_⟩;walk_at "r";refine⟨_,bE hc rfl,?_⟩;walk_at "r";rw [ce];exact next _ (a,b) _ _ hs (by rw [ce] at cl;omega) (.inl rfl)
  .have hlen:(bs.flatten++pw ws (js.getD k 0)).length<=100000:=by rw [length_append];omega
   walk_at "r";rintro y ⟨a,b⟩ hs hy0 hy1;have cy:=b9 [120,121] none (some y);have ly:[120,121].length=2:=rfl;walk_at "r";rw [append_assoc];exact next _ (a,b) _ _ hs (by rw [length_append];omega) (.inr ⟨_,rfl⟩)
 .rintro ρ ⟨bs,⟨a,b⟩,v5,v6,rfl,hs,hbl,hfl,hB⟩;rw [e1] at hbl hfl hB;have hbk:blk (pw bs) js.length=bs.flatten:=by unfold blk;rw [<- hbl,mZ]
  have rd:=ng (ws:=ws) (js:=js) (B:=pw bs) hj0 hpos hB;rw [hbk] at rd
  have hne:0<bs.flatten.length:=by
   have h1:0<(pw bs 0).length:=by
    rcases hB 0 hj0 with e|⟨ls,e⟩
    .rw [e];unfold rgP;have:=(df (hpos 0 hj0) (hpos ((0+1) % js.length) (mod_lt _ hj0))).1;rw [length_take];omega
    .rw [e,length_append];have:=hpos 0 hj0;omega
   have:=(xb (pw bs) hj0 h1).2;rw [hbk] at this;omega
  walk_at "r";rintro x ⟨a,b⟩ hs hx0 hx1;obtain⟨i,rfl⟩:∃i:Nat,x=(i:Int):=⟨x.toNat,by omega⟩
  have l1:=b9 bs.flatten (some (i:Int)) none;have l2:=b9 bs.flatten none (some (i:Int));have hi:i<=bs.flatten.length:=by omega
  walk_at "r";rw [gA,eZ];have ll:(bs.flatten.drop i++bs.flatten.take i).length=bs.flatten.length:=by rw [length_append,length_drop,length_take];omega
  refine q _ (a,b) hs ⟨by omega,by omega⟩ (by omega) fun j hj'=>?_;obtain⟨k,hk,ek⟩:=getElem_of_mem hj';have ek2:js.getD k 0=j:=by rw [getD_eq_getElem?_getD,getElem?_eq_getElem hk];exact ek
  have:=(tG (l:=bs.flatten) (w:=pw ws (js.getD k 0)) (p:=(blk (pw bs) k).length) rfl fun t ht=>(rd t k hk ht).symm).symm;rw [ek2] at this;exact yH hi hne this
theorem sj:∀p ds Q,p.isOwn=true->cG p ds Q->o9 f8 lH p ds Q:=fun p ds Q _ h=>by
 unfold cG at h
 split at h
 .exact qH _ _ _ _ _ h
 .exact h.elim
def hC:PTS:=(aN (bC (pOp fIx (pSl 0) (pFz (pOp fIx (pSl 1) (pFz (pC (.int 0)))))) (ar 2)) (aN (hZ (Fq (ag (pFz (pC (.int 1))) (ag (pFz (pCB dI (ag (pSl 1) am))) am))) (ar 3) (bC (pOp dZ (pSl 2) (pFz (dt (pFz (pOp fIx (pSl 0) (pFz (pOp fIx (pSl 1) (pSl 3))))) (dh (aY aX (ag (pFz (pOp fIx (pSl 0) (pFz (pOp fIx (pSl 1) (pFz (pOp yk (pSl 3) (pFz (pC (.int 1))))))))) (ag (pFz (pOp fIx (pSl 0) (pFz (pOp fIx (pSl 1) (pSl 3))))) am)))) dA))) (ar 2))) (bG (bb 2))))
theorem sk(ds es:List D)(Q:PV->Prop)(h:cL ([.lst ds,.lst es]) Q):dk hC nA ([.lst ds,.lst es]) Q:=by
 show hC _ [some (.dat (.lst ds)),some (.dat (.lst es)),none,none];obtain⟨ws,rfl,⟨hn,hw⟩,js,rfl,⟨hj0,hjl,hj⟩,q⟩:=h;have hjm:(js.map nD).length=js.length:=length_map _;have atj:∀k,k<js.length->∀z:Int,z=(k:Int)->atI (js.map nD) z=some (.int ((js.getD k 0:Nat):Int)):=fun k hk z ez=>gB (j:=k) (by rw [getElem?_map,getElem?_eq_getElem hk,getD_eq_getElem?_getD,getElem?_eq_getElem hk];rfl) ez;have hjk:∀k,k<js.length->js.getD k 0<ws.length:=fun k hk=>hj _ (by rw [getD_eq_getElem?_getD,getElem?_eq_getElem hk];exact getElem_mem _)
 have hpw:=uv fun w hw'=>(hw w hw').2
 have hg1:glN ws (js.take 1)=pw ws (js.getD 0 0):=by
  have:=tF (ws:=ws) (js:=js) (k:=0) hj0;rw [if_pos rfl,drop_zero,take_zero] at this;exact this
 walk_at "r";refine⟨_,atj 0 hj0 _ rfl,?_⟩;walk_at "r";refine⟨_,bE (hjk 0 hj0) rfl,?_⟩;walk_at "r"
 refine⟨fun k ρ=>∃v3:Option PV,ρ=[some (.dat (.lst (ws.map .str))),some (.dat (.lst (js.map nD))),some (.dat (.str (glN ws (js.take (k+1))))),v3],⟨_,by rw [hg1]⟩,?_,?_⟩
 .rintro k ρ _ hk rfl ⟨v3,rfl⟩;have hk:k+1<js.length:=by omega
  have b1:=hjk (k+1) hk;have b0:=hjk k (by omega);have w1:=hw _ (br b1);have w0:=hw _ (br b0);have w3:(pw ws (js.getD k 0)).length<=10000:=by omega
  have w4:0<(pw ws (js.getD (k+1) 0)).length/\(pw ws (js.getD (k+1) 0)).length<=10000:=⟨w1.1,by omega⟩
  have hst:=tF (ws:=ws) (js:=js) (k:=k+1) hk;rw [if_neg (by omega),add_sub_cancel] at hst;have hgl:=zu (m:=60) hpw (js.take (k+1));have htl:(js.take (k+1)).length<=60:=by rw [length_take];omega
  have hg6:(glN ws (js.take (k+1))).length<=3600:=Nat.le_trans hgl (mul_le_mul_right 60 htl);walk_at "r";refine⟨_,atj (k+1) hk _ (by omega),?_⟩;walk_at "r";refine⟨_,bE b1 rfl,?_⟩;walk_at "r";refine⟨_,atj k (by omega) _ (by omega),?_⟩;walk_at "r";refine⟨_,bE b0 rfl,?_⟩;walk_at "r";refine⟨_,atj (k+1) hk _ (by omega),?_⟩;walk_at "r";refine⟨_,bE b1 rfl,?_⟩;walk_at "r";rw [gA];refine⟨by rw [length_drop];omega,?_⟩
  rw [<- hst];walk_at "r";exact⟨_,rfl⟩
 rintro ρ ⟨v3,rfl⟩;rw [show (((js.map nD).length:Int) - 1).toNat+1=js.length by omega,take_length];walk_at "r";exact q
theorem uK:∀ds Q,cL ds Q->dk hC nA ds Q:=fun ds Q h=>by
 unfold cL at h
 split at h
 .exact sk _ _ _ h
 .exact h.elim
def eV:PTS:=(aN (bC (dE [none,some 1] (dY (bb 0)) (ar 0) jR (aY aL (ag (pFz (bb 1)) (ag (pFz (bb 0)) am)))) (ar 2)) (aN (bC (dE [none,some 2] (dY (pCB wD (ag (pSl 2) am))) (ar 0) jR (DA (pSl 1) (bb 0))) (ar 3)) (aN (bC (yd am) (ar 4)) (aN (hZ (uk (ag (pFz (pCB dI (ag (pSl 3) am))) am)) (ar 5) (iZ (BL 4 (aY aX (ag (pFz (pOp fIx (pSl 0) (pFz (pOp fIx (pSl 3) (pSl 5))))) (ag (pFz (pOp fIx (pSl 0) (pFz (pOp fIx (pSl 3) (pFz (pOp xA (pFz (pOp dZ (pSl 5) (pFz (pC (.int 1))))) (pFz (pCB dI (ag (pSl 3) am))))))))) am)))))) (bG (pCB yj (ag (pSl 4) am)))))))
theorem oZ(ds:List D)(l:List Nat)(Q:PV->Prop)(h:bQ ([.lst ds,.str l]) Q):dk eV j5 ([.lst ds,.str l]) Q:=by
 show eV _ [some (.dat (.lst ds)),some (.dat (.str l)),none,none,none,none];obtain⟨ws,rfl,⟨h0,hn,hw⟩,hR,hne,q⟩:=h;have hwm:(ws.map D.str).length=ws.length:=length_map _;walk_at "r"
 refine cm1 (e:=D.str) (xs:=ws) (fun w=>.int (frP l w)) (fun w hw' v K1 k1=>?_) (fun v=>?_)
 .have hw6:=hw w hw';walk_at "r";exact k1 _
 have e1:ws.map (fun w=>D.int (frP l w))=(ws.map fun w=>frP l w).map .int:=by rw [map_map];rfl
 rw [e1];have hzl:(ws.map fun w=>frP l w).length<64:=by rw [length_map];omega
 have hzm:((ws.map fun w=>frP l w).map D.int).length=ws.length:=by rw [length_map,length_map]
 walk_at "r";intro zs hzp hzs;obtain⟨o1,o2,o3⟩:=xu hne hzp hzs;have hzz:zs.length=ws.length:=by rw [hzp.length_eq,length_map]
 have hzm2:(zs.map D.int).length=zs.length:=length_map _
 have hbig:∀n∈ws.map (fun w=>frP l w),n.natAbs<2^64:=fun n hn'=>by
  obtain⟨w,_,rfl⟩:=mem_map.mp hn'
  by_cases c:frP l w=-1
  .rw [c];decide
  .have:=lf c;have:=hR.2;omega
 walk_at "r"
 refine cm1 (e:=D.int) (xs:=zs) (fun z=>.int (((ws.map fun w=>frP l w).idxOf z:Nat):Int)) (fun z hz v K1 k1=>?_) (fun v=>?_)
 .have cnd:(ws.map fun w=>frP l w).length<=1000/\(∀n∈ws.map (fun w=>frP l w),n.natAbs<2^64)/\z∈ws.map fun w=>frP l w:=⟨by omega,hbig,hzp.mem_iff.mp hz⟩
  walk_at "r";exact k1 _
 have e2:zs.map (fun z=>D.int (((ws.map fun w=>frP l w).idxOf z:Nat):Int))=(zs.map fun z=>(ws.map fun w=>frP l w).idxOf z).map nD:=by rw [map_map];rfl
 rw [e2];have hjl:(zs.map fun z=>(ws.map fun w=>frP l w).idxOf z).length=ws.length:=by rw [length_map];exact hzz
 have q:=fun c=>q _ c o1 o2;generalize (zs.map fun z=>(ws.map fun w=>frP l w).idxOf z)=js at hjl o1 q;have hjm:(js.map nD).length=js.length:=length_map _;have atj:∀k,k<js.length->∀z:Int,z=(k:Int)->atI (js.map nD) z=some (.int ((js.getD k 0:Nat):Int)):=fun k hk z ez=>gB (j:=k) (by rw [getElem?_map,getElem?_eq_getElem hk,getD_eq_getElem?_getD,getElem?_eq_getElem hk];rfl) ez;have hjk:∀k,k<js.length->js.getD k 0<ws.length:=fun k hk=>qi o1 (by rw [getD_eq_getElem?_getD,getElem?_eq_getElem hk];exact getElem_mem _)
 walk_at "r"
 refine⟨fun k ρ=>∃v5:Option PV,ρ=[some (.dat (.lst (ws.map .str))),some (.dat (.str l)),some (.own ((ws.map fun w=>frP l w).map .int)),some (.own (js.map nD)),some (.own (((List.range k).map fun k=>(dz (pw ws (js.getD k 0)) (pw ws (js.getD ((k+1) % js.length) 0)):Int)).map .int)),v5],⟨_,rfl⟩,?_,?_⟩
 .rintro k ρ _ hk rfl ⟨v5,rfl⟩;have hk:k<js.length:=by omega
  have hq:(k+1) % js.length<js.length:=mod_lt _ (by omega);have b1:=hjk k hk;have b2:=hjk _ hq;have w1:=hw _ (br b1);have w2:=hw _ (br b2);have w3:0<(pw ws (js.getD k 0)).length/\(pw ws (js.getD k 0)).length<=10000:=⟨w1.1,by omega⟩
  have w4:0<(pw ws (js.getD ((k+1) % js.length) 0)).length/\(pw ws (js.getD ((k+1) % js.length) 0)).length<=10000:=⟨w2.1,by omega⟩
  have em:((k:Int)+1) % (((js.map nD).length:Nat):Int)=(((k+1) % js.length:Nat):Int):=by rw [hjm];rfl
  have hll:(((List.range k).map fun k=>(dz (pw ws (js.getD k 0)) (pw ws (js.getD ((k+1) % js.length) 0)):Int)).map D.int).length=k:=by rw [length_map,length_map,length_range]
  walk_at "r";refine⟨_,atj k hk _ rfl,?_⟩;walk_at "r";refine⟨_,bE b1 rfl,?_⟩;walk_at "r";refine⟨_,atj _ hq _ em,?_⟩;walk_at "r";refine⟨_,bE b2 rfl,?_⟩;walk_at "r";exact⟨_,by rw [range_succ,map_append,map_append];rfl⟩
 rintro ρ ⟨v5,rfl⟩;walk_at "r";refine⟨by rw [length_map,length_range];omega,fun m hm1 hm2=>?_⟩;obtain⟨c,hc,e⟩:=mem_map.mp hm1;have hc:c<js.length:=by have:=mem_range.mp hc;omega
 rw [<- e];exact q c hc
theorem qI:∀ds Q,bQ ds Q->dk eV j5 ds Q:=fun ds Q h=>by
 unfold bQ at h
 split at h
 .exact oZ _ _ _ h
 .exact h.elim
def eW:PTS:=(aN (hZ (dY (bb 0)) (ar 3) (jg (pOr (pB (pOp fLt (pFz (aY aL (ag (pFz (bb 1)) (ag (pFz (bb 3)) am)))) (pFz (pC (.int 0))))) (pB (pOp fLt (pFz (pSM p5 (bb 2) (ag (pSl 3) am))) (pFz (pC (.int 0)))))) (bG (pC (.bl false))) cI)) (bG (pOp uU (pFz (aY aL (ag (pFz (bb 1)) (ag (pFz (pOp fIx (pSl 0) (pFz (pC (.int 0))))) am)))) (pFz (pC (.int 0))))))
theorem o0(ds:List D)(l r:List Nat)(Q:PV->Prop)(h:bR ([.lst ds,.str l,.str r]) Q):dk eW j6 ([.lst ds,.str l,.str r]) Q:=by
 show eW _ [some (.dat (.lst ds)),some (.dat (.str l)),some (.dat (.str r)),none];obtain⟨ws,rfl,⟨h0,hn,hw⟩,hR,⟨hrl,hin,hf0⟩,q⟩:=h;have hwm:(ws.map D.str).length=ws.length:=length_map _;walk_at "r"
 refine EY (α:=List Nat) (e:=D.str) (xs:=ws) (fun (pre:List (List Nat)) ρ=>∃v3:Option PV,ρ=[some (.dat (.lst (ws.map .str))),some (.dat (.str l)),some (.dat (.str r)),v3]) ⟨_,rfl⟩ ?_ ?_
 .rintro pre w suf ρ ej ⟨v3,rfl⟩;have hm:w∈ws:=by rw [ej];simp
  have hw6:=hw w hm;have h1:=lf (hin w hm).1;have h2:=oI.mp (fj.mpr (hin w hm).2);clear ej;walk_at "r";exact⟨_,rfl⟩
 rintro ρ ⟨v3,rfl⟩;have hw0:=hw _ (br h0);walk_at "r";refine⟨_,bE (k:=0) h0 rfl,?_⟩;walk_at "r";rw [hf0];walk_at "r";exact q
theorem qJ:∀ds Q,bR ds Q->dk eW j6 ds Q:=fun ds Q h=>by
 unfold bR at h
 split at h
 .exact o0 _ _ _ _ h
 .exact h.elim
def hG:PTS:=(aN (bC (pOp fIx (pFz (yd (ag (pFz (BI (ag (pFz (pC (.int 12))) (ag (pFz (pC (.int 10))) am)))) (ag (pFz (BI (ag (pFz (pC (.int 3))) (ag (pFz (pC (.int 60))) am)))) am)))) (pFz (cB ax 0 (ag (pFz (pC (.int 2))) am)))) (ar 1)) (aN (bC (cB bO 0 (ag (pFz (pOp dZ (pFz (pC (.int 1))) (pFz (cB ax 0 (ag (pFz (pOp fIx (pSl 1) (pFz (pC (.int 0))))) am))))) (ag (pFz (pOp fIx (pSl 1) (pFz (pC (.int 1))))) am))) (ar 2)) (aN (bC (dt (pFz (dE [none,some 2] (dY (aY bV (ag (pFz (bb 2)) am))) (ar 0) jR (pOp fIx (pSl 1) (pSl 0)))) dA (dh (pC (.int 7)))) (ar 3)) (aN (bC (A1 "Family" bh (ag (pFz (bb 2)) am)) (ar 4)) (aN (pZ (jg (pB (pOp fGt (pFz (mW "Family" ["pieces","kept","words","left","laps","total"] aA (bb 4) am)) (pFz (pC (.int 7))))) (bC (A1 "Family" bh (ag (pFz (pCB i3 (ag (pSl 3) am))) am)) (ar 4)) cI)) (aN (bC (aY aK (ag (pFz (bb 4)) am)) (ar 5)) (aN (bC (aY bI (ag (pFz (bb 4)) am)) (ar 6)) (aN (jg (pOr (ye (pB (D1 .str (pSl 5)))) (pOr (ye (pB (D1 .str (pSl 6)))) (ye (pB (aY bR (ag (pFz (bb 3)) (ag (pFz (bb 5)) (ag (pFz (bb 6)) am)))))))) (bG (pC (.bl false))) cI) (aN (jg (pOr (pB (pOp fGt (pFz (pCB dI (ag (pSl 5) am))) (pFz (pCB dI (ag (pSl 6) am))))) (pB (pOp fGt (pFz (pCB dI (ag (pSl 6) am))) (pFz (pOp dZ (pFz (pCB dI (ag (pSl 5) am))) (pFz (aY bQ (ag (pFz (bb 3)) (ag (pFz (bb 5)) am))))))))) (bG (pC (.bl false))) cI) (aN (hZ (uk (ag (pFz (pC (.int 6))) am)) (ar 7) (aN (bC (cB bp 0 (ag (pFz (AX false (ag (pFz (pCB dI (ag (pSl 3) am))) am))) am)) (ar 8)) (aN (bC (cB cG 0 (ag (pFz (bb 3)) (ag (pFz (bb 8)) am))) (ar 9)) (aN (jg (pOr (pB (pOp fLt (pFz (pCB dI (ag (pSl 9) am))) (pFz (pCB dI (ag (pSl 5) am))))) (pB (pOp fLt (pFz (pCB dI (ag (pFz (aY ck (ag (pFz (bb 3)) (ag (pFz (bb 8)) am)))) am))) (pFz (pCB dI (ag (pSl 5) am)))))) (bG (pC (.bl false))) cI) (aN (jg (pB (pOp fLt (pFz (pCB dI (ag (pFz (aY cL (ag (pFz (bb 3)) (ag (pFz (bb 8)) am)))) am))) (pFz (pCB dI (ag (pSl 6) am))))) (bG (pC (.bl false))) cI) (jg (pB (pOp fLt (pFz (aY aL (ag (pFz (bb 9)) (ag (pFz (pOp fIx (pSl 3) (pFz (pUn A2 (pFz (pC (.int 1))))))) am)))) (pFz (pC (.int 0))))) (bG (pC (.bl false))) cI)))))) (bG (AF (pOp uU (pFz (aY aK (ag (pFz (bb 4)) am))) (pSl 5)) (pOp uU (pFz (aY bI (ag (pFz (bb 4)) am))) (pSl 6))))))))))))))
theorem sm(c0 c1:Int)(Q:PV->PV->Prop)(h:cW (.own [.int c0,.int c1]) ([]) Q):o9 hG nB (.own [.int c0,.int c1]) ([]) Q:=by
 show hG _ [some (.own [.int c0,.int c1]),none,none,none,none,none,none,none,none,none];obtain⟨g,q⟩:=h;walk_at "r";rintro x ⟨a,b⟩ hs hx0 hx1
 have hsz:∃n m:Int,atI [D.tup [.int 12,.int 10],D.tup [.int 3,.int 60]] x=some (D.tup [.int n,.int m])/\(0<n/\n<=12)/\(0<m/\m<=60):=by
  rcases (show x=0\/x=1 by omega) with rfl|rfl
  .exact⟨12,10,rfl,by decide,by decide⟩
  .exact⟨3,60,rfl,by decide,by decide⟩
 obtain⟨n,m,ez,hn,hm⟩:=hsz;have hn0:=hn.1;have hn1:=hn.2;refine⟨_,ez,?_⟩;walk_at "r";rintro y ⟨a,b⟩ hs hy0 hy1;walk_at "r";rintro ps ⟨a,b⟩ hs hpl hps0;have hps:Pcs 60 ps:=fun w hw=>⟨(hps0 w hw).1,Nat.le_trans (hps0 w hw).2.1 (by omega),(hps0 w hw).2.2⟩
 have hpl14:ps.length<=14:=by omega
 have hp0:0<ps.length:=by omega
 have hp6:ps.length<=40/\Pcs 60 ps:=⟨by omega,hps⟩
 have a0:ps.length<=60/\∀w∈ps,w.length<=60:=⟨by omega,fun w hw=>(hps w hw).2.1⟩
 have hlm:(ps.map D.str).length=ps.length:=length_map _;have hwn:=jm ps;have hkn:=gT ps;have hwk:(af ps).length=(aH ps).length:=by unfold af;rw [length_map]
 have hw0:0<(af ps).length:=by
  obtain⟨j,j1,j2,_⟩:=k6 a0.2 _ 0 hp0 (le_refl _);have:j∈aH ps:=mem_filter.mpr ⟨mem_range.mpr j1,j2⟩;rw [hwk];exact length_pos_of_mem this
 have hwp:Pcs 60 (af ps):=cJ hps;have hkm:((aH ps).map nD).length=(aH ps).length:=length_map _;generalize hws:(af ps).take 7=ws;have hwl:ws.length=min 7 (af ps).length:=by rw [<- hws,length_take]
 have hwm:(ws.map D.str).length=ws.length:=length_map _;have hself:af ws=ws:=by rw [<- hws];exact rQ ps 7
 have hwsp:Pcs 60 ws:=fun w hw=>hwp w (mem_of_mem_take (by rw [hws];exact hw));have hw6:ws.length<=40/\Pcs 60 ws:=⟨by omega,hwsp⟩
 walk_at "r"
 refine cm1 (fun k=>.str (pw ps k)) (fun k hk v K1 k1=>?_) (fun v=>?_)
 .have hk2:=dW hk;have e1:nD k=.int (k:Int):=rfl;rw [e1];walk_at "r";refine⟨_,bE hk2 rfl,?_⟩;walk_at "r";exact k1 _
 have e1:dH ((aH ps).map (fun k=>D.str (pw ps k))) none (some 7)=ws.map D.str:=by
  rw [show (aH ps).map (fun k=>D.str (pw ps k))=(af ps).map D.str by unfold af;rw [map_map];rfl,<- hws,map_take];exact eZ _ 7
 walk_at "r";rw [e1];walk_at "r"
 refine⟨fun ρ=>∃(qs:List (List Nat)) (X:PV),af qs=ws/\Pcs 60 qs/\(X=.dat (.obj "Family" oE (oF qs))\/X=.ins "Family" oE (oF qs))/\ρ=[some (stv (a,b)),some (.dat (.tup [.int n,.int m])),some (.dat (.lst (ps.map .str))),some (.own (ws.map .str)),some X,none,none,none,none,none],?_,?_⟩
 .walk_at "r"
  refine fh (fun d0=>?_) (fun d0=>?_)
  .walk_at "r";exact⟨ws,_,hself,hwsp,.inr rfl,rfl⟩
  .walk_at "r";exact⟨ps,_,by rw [<- hws,take_of_length_le (by omega)],hps,.inl rfl,rfl⟩
 rintro ρ ⟨qs,X,hqs,hqp,hX,rfl⟩;have g1:(Pcs 60 qs/\(af qs).length<=12)/\0<(af qs).length:=⟨⟨hqp,by rw [hqs];omega⟩,by rw [hqs];omega⟩
 have g2:Pcs 60 qs/\(af qs).length<=12:=g1.1;have F1:=fun (t:List Nat) (h:Lst (rH (af qs)) t)=>lI hqp g1.2 g2.2 h;have F2:=fun (t r:List Nat) (h:Lst (rH (af qs)) t) (h':Lst (Bv qs) r)=>uE hqp g1.2 g2.2 h h';have hap:∀i j,i<ws.length->j<ws.length->i≠j->¬ pw ws i <:+: pw ws j:=fun i j hi hj hne=>by rw [<- hqs] at hi hj ⊢;exact dn hi hj hne
 have w6:ws.length<=60/\∀w∈ws,0<w.length/\w.length<=60:=⟨by omega,fun w hw=>⟨(hwsp w hw).1,(hwsp w hw).2.1⟩⟩
 rw [hqs] at F1 F2
 rcases hX with rfl|rfl <;> (
  walk_at "r";rw [hqs];intro t ht;walk_at "r";intro r hr;obtain⟨f1,f2,f3,f4,f5⟩:=F1 t ht;obtain⟨r1,r2,r3,r4,r5⟩:=F2 t r ht hr;have c1:0<ws.length/\ws.length<=60/\∀w∈ws,0<w.length/\w.length<=60:=⟨by omega,by omega,w6.2⟩
  have c2:0<ws.length/\ws.length<=20/\∀w∈ws,0<w.length/\w.length<=60:=⟨by omega,by omega,w6.2⟩
  have c3:r.length<=10000/\(∀w∈ws,frP t w≠-1/\w <:+: r)/\frP t (pw ws 0)=0:=⟨by omega,fun w hw=>⟨f2 w hw,r2 w hw⟩,f3⟩
  have c4:∀a b,a<ws.length->b<ws.length->a≠b->frP t (pw ws a)≠frP t (pw ws b):=fun a b ha hb hne=>zE (f2 _ (br ha)) (f2 _ (br hb)) (hap a b ha hb hne) (hap b a hb ha (Ne.symm hne));walk_at "r";intro js0 cc j1 j2 hcc;have h5:=r5 js0 cc j1 j2 hcc;walk_at "r"
  refine⟨fun k ρ=>∃(s:Int×Int) (v7 v8 v9:Option PV),SOk s/\ρ=[some (stv s),some (.dat (.tup [.int n,.int m])),some (.dat (.lst (ps.map .str))),some (.dat (.lst (ws.map .str))),some (.dat (.obj "Family" oE (oF qs))),some (.dat (.str t)),some (.dat (.str r)),v7,v8,v9],⟨(a,b),_,_,_,hs,rfl⟩,?_,?_⟩
  .rintro k ρ _ hk rfl ⟨⟨a,b⟩,v7,v8,v9,hs,rfl⟩;walk_at "r";refine⟨List.range ws.length,by rw [toNat_natCast,hwm,Be],by rw [length_range];omega,?_⟩;rintro js ⟨a,b⟩ hs hjs;have hjl:=rC hjs;have hh1:0<js.length/\js.length<=20/\∀j∈js,j<ws.length:=⟨by omega,by omega,fun j hj=>qi hjs hj⟩
   have hh2:js.length<=60/\∀j∈js,j<ws.length:=⟨by omega,hh1.2.2⟩
   have hh3:0<js.length/\js.length<=60/\∀j∈js,j<ws.length:=⟨by omega,by omega,hh1.2.2⟩
   have hh4:ws.length<=20/\∀w∈ws,0<w.length/\w.length<=60:=⟨by omega,w6.2⟩
   have m4:=f4 js hjs;have m5:=r4 js hjs
   have hlast:atI (ws.map D.str) (-1)=some (.str (pw ws (ws.length - 1))):=by
    rw [xt (by rw [hwm];omega),hwm];exact congrArg some (h9 (by rw [getElem?_map,cY (by omega)];rfl))
   have wl:=w6.2 _ (br (show ws.length - 1<ws.length by omega));walk_at "r";rintro l ⟨a,b⟩ hs hRl hl13 hfl;have m6:=f5 l hRl.1 fun k hk=>hfl k (hjs.mem_iff.mpr (mem_range.mpr hk));have m7:=lf (hfl (ws.length - 1) (hjs.mem_iff.mpr (mem_range.mpr (by omega))));walk_at "r";refine⟨_,hlast,?_⟩;walk_at "r";exact⟨_,_,_,_,hs,rfl⟩
  .rintro ρ ⟨⟨a,b⟩,v7,v8,v9,hs,rfl⟩;walk_at "r";rw [hqs];intro t2 ht2;rw [ht2.uniq ht];walk_at "r";intro r2 hr2;rw [hr2.uniq hr];walk_at "r";rw [decide_eq_true rfl];exact q (a,b) hs)
theorem uL:∀p ds Q,p.isOwn=true->cW p ds Q->o9 hG nB p ds Q:=fun p ds Q _ h=>by
 unfold cW at h
 split at h
 .exact sm _ _ _ h
 .exact h.elim
def tR:PTS:=(aN (hZ (uk (ag (pFz (pCB AR (ag (pFz (pC (.int 1))) (ag (pFz (pCB wg (ag (pFz (pC (.int 2))) (ag (pFz (pCB dI (ag (pSl 0) am))) am)))) am)))) am)) (ar 1) (jg (ye (pB (wy cW (aY bA (ag (pFz (bb 0)) (ag (pFz (bb 1)) am))) am))) (bG (pC (.bl false))) cI)) (bG (pC (.bl true))))
theorem BB(ns:List Int)(h63:ns.length<=63)(Q:PV->Prop)(q:Q (.dat (.bl true))):dk tR zN [.scr ns] Q:=by
 show tR _ [some (.dat (.scr ns)),none];walk_at "r"
 have hmax:(if (if (ns.length:Int)<2 then (ns.length:Int) else 2) > 1 then if (ns.length:Int)<2 then (ns.length:Int) else 2 else 1).toNat<=2:=by
  split
  .split <;> omega
  .omega
 refine⟨fun k ρ=>∃v1:Option PV,ρ=[some (.dat (.scr ns)),v1],⟨_,rfl⟩,?_,?_⟩
 .rintro k ρ _ hk rfl ⟨v1,rfl⟩;have hk4:k<2:=lt_of_lt_of_le hk hmax;clear hk hmax;walk_at "r";rintro⟨a,b⟩ hs;walk_at "r";rintro⟨a',b'⟩ hs';walk_at "r";exact⟨_,rfl⟩
 .rintro ρ ⟨v1,rfl⟩;walk_at "r";exact q
theorem DP:∀ds Q,tP ds Q->dk tR zN ds Q:=fun ds Q h=>by
 obtain⟨ns,rfl,h63,q⟩:=h;exact BB ns h63 Q q
section
variable {P:Program}{w:World}{K:PySem.W.Frag}{mg:Str->Option Value}{base:Heap}
theorem nE:∀ds Q,cU ds Q->ds.length=3:=fun ds Q h=>by unfold cU at h;split at h;(first|rfl|exact h.elim);(first|rfl|exact h.elim)
theorem uM(D:sN K mg "is_text" fk [.int 0,.int 4000])(T:Txt mg)(TC:TxC K):CL P w K mg base 1 "is_text" ["thing","least","most"] [.int 0,.int 4000] (spP K cU):=by
 refine D.ok uB (fun dT kV doc pm an cdv ct items us n hi hn hl=>?_) (fun vs H Q E h=>?_) (fun f cdv A outer s H vs Q E hr h=>?_)
 .obtain⟨i0,i1,rfl⟩:∃i0 i1,items=[i0,i1]:=match items,hi with|[i0,i1],_=>⟨i0,i1,rfl⟩
  have hn':n=0\/n=1\/n=2:=by (have:n<=2:=hn);omega
  rcases hn' with rfl|rfl|rfl
  .have hl2:us.length=1:=by (simp at hl;omega)
   match us,hl2 with
   | [_],_=>exact⟨_,rfl,rfl⟩
  .have hl2:us.length=2:=by (simp at hl;omega)
   match us,hl2 with
   | [_,_],_=>exact⟨_,rfl,rfl⟩
  .have hl2:us.length=3:=by (simp at hl;omega)
   match us,hl2 with
   | [_,_,_],_=>exact⟨_,rfl,rfl⟩
 .exact iD nE h
 .have hu:=hr.units;exact⟨_,(aj (dB (PW.pt (tS (jJ (eB (ak (AK K rfl) rfl T.b_isinstance boot_isinstance (paC (pv 0) (paC (qR (v:=.ty "str") rfl T.b_str boot_str rfl) ah))))) (pq (jJ (xI D0 D0 (pv 1) (ak (bF K rfl) rfl T.b_len PySem.boot_len (paC (pv 0) ah)) (pv 2)))))) (aq (aQ md)) bJ) (aq (aQ (ak (EM K rfl rfl) rfl T.b_all boot_all (paC (bK (wi:=(jj K (bz 0))) (g:=(cw 0)) (tts:=jN) (te:=(sI DZ DZ (tC (V.str (S [97]))) (bz 0) (tC (V.str (S [122]))))) ["sign"] [none] rfl (cM K rfl (pv 0)) (fun _ _ _ _=>⟨(aJ (i:=0) (by show List.Nodup (["sign"]:List Str);decide +kernel) rfl (by walk_at "o")),cq,(xH D0 D0 (ft (l:=[97]) (by decide +kernel)) (pv 0) (ft (l:=[122]) (by decide +kernel)))⟩) (by kernel_rfl)) ah))))),fnP (K:=K) (c:=cU) (ps:=gX) (N:=["thing","least","most"]) (aB (dD (uj (jP (uT (vZ .str (ai (i:=0))))) (jP (iO (sQ yh yh (ai (i:=1)) (ae (aU aO (aa (ai (i:=0)) ac))) (ai (i:=2)))))) (aR mf) bN) (aR (aU Dd (aa (ae (bD (ix:=[none]) rfl (cN (al (i:=0))) (fun fs hc=>(aC (i:=0) (iP hc (by decide)))) di (sQ yh yh (ae (le_str (l:=[97]))) (ai (i:=0)) (ae (le_str (l:=[122])))))) ac)))) (fun ds Q h=>Nat.le_trans (le_of_eq (nE ds Q h)) (by decide)) uF h⟩
theorem ip:∀ds Q,aS ds Q->ds.length=2:=fun ds Q h=>by unfold aS at h;split at h;(first|rfl|exact h.elim);(first|rfl|exact h.elim)
theorem mH(D:ca K mg "first_place" fH)(T:Txt mg)(TC:TxC K):Cal P w K mg base 1 "first_place" ["text","piece"] (spP K aS):=by
 refine D.ok mq (fun _ _ _ _ _ _ us hl=>match us,hl with|[_,_],_=>rfl) (fun vs H Q E h=>?_) (fun f cdv A outer s H vs Q E hr h=>?_)
 .exact iD ip h
 .have hu:=hr.units;exact⟨_,(aq (aQ (ga K rfl PySem.F.plainAttrs_str PySem.F.slot_str_find PySem.F.type_str_find oi (pv 0) (paC (pv 1) ah)))),fnP (K:=K) (c:=aS) (ps:=dM) (N:=["text","piece"]) (aR (um oj (al (i:=0)) (aa (ai (i:=1)) ac))) (fun ds Q h=>Nat.le_trans (le_of_eq (ip ds Q h)) (by decide)) mx h⟩
theorem nF:∀ds Q,bY ds Q->ds.length=1:=fun ds Q h=>by unfold bY at h;split at h;(first|rfl|exact h.elim);(first|rfl|exact h.elim)
theorem uN(D:ca K mg "members" lg)(T:Txt mg)(TC:TxC K):Cal P w K mg base 1 "members" ["mark"] (spP K bY):=by
 refine D.ok uC (fun _ _ _ _ _ _ us hl=>match us,hl with|[_],_=>rfl) (fun vs H Q E h=>?_) (fun f cdv A outer s H vs Q E hr h=>?_)
 .exact iD nF h
 .have hu:=hr.units;exact⟨_,(aq (aQ (bK (wi:=(qS (bf (DX K "int" Bl (bz 0)) eY))) (g:=(cw 0)) (tts:=(tBI (tOp A8 (tOp EV (bz 1) (bz 0)) (tC (V.int 1))))) (te:=(bz 0)) ["i","mark"] [none,some 0] rfl (cH rfl T.b_range (paC (Bp K rfl PySem.F.plainAttrs_int PySem.F.slot_int_bit_length PySem.F.type_int_bit_length Bm (pv 0)) ah)) (fun _ _ _ _=>⟨(aJ (i:=0) (by show List.Nodup (["i","mark"]:List Str);decide +kernel) rfl (by walk_at "o")),(jh (DI (bq Ds (bq EW (pv 1) (pv 0)) ay))),(pv 0)⟩) (by kernel_rfl)))),fnP (K:=K) (c:=bY) (ps:=gY) (N:=["mark"]) (aR (bD (ix:=[none,some 0]) rfl (ki (aa (ae (Bo (al (i:=0)))) ac)) (fun fs hc=>(aC (i:=0) (iP hc (by decide)))) (E3 (au A9 (ae (au Dq (ai (i:=1)) (ai (i:=0)))) (ae le_int))) (al (i:=0)))) (fun ds Q h=>Nat.le_trans (le_of_eq (nF ds Q h)) (by decide)) uG h⟩
theorem lR:∀ds Q,cf ds Q->ds.length=2:=fun ds Q h=>by unfold cf at h;split at h;(first|rfl|exact h.elim);(first|rfl|exact h.elim)
theorem sr(D:ca K mg "is_ahead" jp)(T:Txt mg)(TC:TxC K):Cal P w K mg base 1 "is_ahead" ["one","other"] (spP K cf):=by
 refine D.ok rJ (fun _ _ _ _ _ _ us hl=>match us,hl with|[_,_],_=>rfl) (fun vs H Q E h=>?_) (fun f cdv A outer s H vs Q E hr h=>?_)
 .exact iD lR h
 .have hu:=hr.units;exact⟨_,(aj (dB (bj (Dk K rfl hu) (ak (bF K rfl) rfl T.b_len PySem.boot_len (paC (pv 0) ah)) (ak (bF K rfl) rfl T.b_len PySem.boot_len (paC (pv 1) ah)) (bH _)) (aq (aQ (gv yg (ak (bF K rfl) rfl T.b_len PySem.boot_len (paC (pv 0) ah)) (ak (bF K rfl) rfl T.b_len PySem.boot_len (paC (pv 1) ah)) (bH _)))) bJ) (aq (aQ (gv yg (pv 0) (pv 1) (bH _))))),fnP (K:=K) (c:=cf) (ps:=fP) (N:=["one","other"]) (aB (dD (iO (au zm (ae (aU aO (aa (ai (i:=0)) ac))) (ae (aU aO (aa (ai (i:=1)) ac))))) (aR (au n6 (ae (aU aO (aa (ai (i:=0)) ac))) (ae (aU aO (aa (ai (i:=1)) ac))))) bN) (aR (au n6 (ai (i:=0)) (ai (i:=1))))) (fun ds Q h=>Nat.le_trans (le_of_eq (lR ds Q h)) (by decide)) rT h⟩
theorem lS:∀ds Q,bo ds Q->ds.length=1:=fun ds Q h=>by unfold bo at h;split at h;(first|rfl|exact h.elim);(first|rfl|exact h.elim)
theorem ss(D:ca K mg "foremost" jq)(T:Txt mg)(TC:TxC K)(C_is_ahead:Cal P w K mg base 1 "is_ahead" ["one","other"] (spP K cf)):Cal P w K mg base 2 "foremost" ["texts"] (spP K bo):=by
 refine D.ok fM (fun _ _ _ _ _ _ us hl=>match us,hl with|[_],_=>rfl) (fun vs H Q E h=>?_) (fun f cdv A outer s H vs Q E hr h=>?_)
 .exact iD lS h
 .have hu:=hr.units;exact⟨_,(aj (aT (i:=1) fM.nd rfl (by walk_at "o") (bu (dC K rfl) (pv 0) ay (fun _ _=>rfl))) (aj (en PassesOwn.never rfl (cM K rfl (bW (o8 K rfl) (pv 0) (cD ay) cP)) (aJ (i:=2) fM.nd rfl (by walk_at "o")) (aq (dB (eB (aw C_is_ahead (hr.mono (by decide)) (paC (pv 2) (paC (pv 1) ah)))) (aq (aT (i:=1) fM.nd rfl (by walk_at "o") (pv 2))) bJ))) (aq (aQ (pv 1))))),fnP (K:=K) (c:=bo) (ps:=fQ) (N:=["texts","best","text"]) (aB (aP (au bv (ai (i:=0)) (ae le_int)) (aE (i:=1) rfl)) (aB (et (cN (bX (ai (i:=0)) (bM le_int) bZ)) (aC (i:=2) rfl) (dD (uT (aD (c:=cf) (aa (ae (al (i:=2))) (aa (ae (al (i:=1))) ac)))) (aP (al (i:=2)) (aE (i:=1) rfl)) bN)) (aR (al (i:=1))))) (fun ds Q h=>Nat.le_trans (le_of_eq (lS ds Q h)) (by decide)) rV h⟩
theorem eX:∀ds Q,aF ds Q->ds.length=1:=fun ds Q h=>by unfold aF at h;split at h;(first|rfl|exact h.elim);(first|rfl|exact h.elim)
theorem jd(D:ca K mg "check_few_words" dF)(T:Txt mg)(TC:TxC K)(C_Family_many:za P w K mg base 1 (cb K "Family") "many" ["self"] (spP K aA)):Cal P w K mg base 2 "check_few_words" ["family"] (spP K aF):=by
 refine D.ok i8 (fun _ _ _ _ _ _ us hl=>match us,hl with|[_],_=>rfl) (fun vs H Q E h=>?_) (fun f cdv A outer s H vs Q E hr h=>?_)
 .exact iD eX h
 .have hu:=hr.units;exact⟨_,(aq (dB (bj wt (iX (pv 0) TC.cl_Family C_Family_many (hr.mono (by decide))) (nY rfl T.g_MOST_SHORTEST_WORDS) (bH _)) (aq kv) bJ)),fnP (K:=K) (c:=aF) (ps:=cO) (N:=["family"]) (dD (iO (au kQ (ae (i4 (c0:="Family") (m:="many") (ns0:=["pieces","kept","words","left","laps","total"]) (c:=aA) (by decide +kernel) (al (i:=0)) ac)) (ae (le_int (i:=12))))) ky bN) (fun ds Q h=>Nat.le_trans (le_of_eq (eX ds Q h)) (by decide)) jb h⟩
theorem lT:∀ds Q,bw ds Q->ds.length=2:=fun ds Q h=>by unfold bw at h;split at h;(first|rfl|exact h.elim);(first|rfl|exact h.elim)
theorem su(D:ca K mg "heads_of" jr)(T:Txt mg)(TC:TxC K):Cal P w K mg base 1 "heads_of" ["words","laps"] (spP K bw):=by
 refine D.ok rK (fun _ _ _ _ _ _ us hl=>match us,hl with|[_,_],_=>rfl) (fun vs H Q E h=>?_) (fun f cdv A outer s H vs Q E hr h=>?_)
 .exact iD lT h
 .have hu:=hr.units;exact⟨_,(aq (aQ (bK (wi:=(A4 K (bf (bz 0) (bf (bz 1) eY)))) (g:=(Bb K 2 (ke (cw 0) (ke (cw 1) zU)))) (tts:=jN) (te:=(pR [none,some 0] (jj K (bz 1)) (cw 0) jN (tSl (CZ K) (bz 1) nQ (xS (tOp wq (tCB (n8 K) (bf (bz 1) eY)) (bz 0)))))) ["word","row"] [none,none] rfl (A5 K rfl rfl T.b_zip (paC (pv 0) (paC (pv 1) ah))) (fun _ _ _ _=>⟨(qd K rfl (n:=2) rfl (dG (aJ (i:=0) (by show List.Nodup (["word","row"]:List Str);decide +kernel) rfl (by walk_at "o")) (dG (aJ (i:=1) (by show List.Nodup (["word","row"]:List Str);decide +kernel) rfl (by walk_at "o")) kC))),cq,(bK (wi:=(jj K (bz 1))) (g:=(cw 0)) (tts:=jN) (te:=(tSl (CZ K) (bz 1) nQ (xS (tOp wq (tCB (n8 K) (bf (bz 1) eY)) (bz 0))))) ["k","word"] [none,some 0] rfl (cM K rfl (pv 1)) (fun _ _ _ _=>⟨(aJ (i:=0) (by show List.Nodup (["k","word"]:List Str);decide +kernel) rfl (by walk_at "o")),cq,(bW (o8 K rfl) (pv 1) cP (cD (bq oq (ak (bF K rfl) rfl T.b_len PySem.boot_len (paC (pv 1) ah)) (pv 0))))⟩) (by kernel_rfl))⟩) (by kernel_rfl)))),fnP (K:=K) (c:=bw) (ps:=fR) (N:=["words","laps"]) (aR (zp (bD (ix:=[none,none]) rfl (A6 (aa (ae (al (i:=0))) (aa (ae (al (i:=1))) ac))) (fun fs hc=>(kY (dJ (aC (i:=0) (iP hc (by decide))) (dJ (aC (i:=1) (iP hc (by decide))) kR)))) di (bD (ix:=[none,some 0]) rfl (cN (al (i:=1))) (fun fs hc=>(aC (i:=0) (iP hc (by decide)))) di (bX (ai (i:=1)) bZ (bM (au iY (ae (aU aO (aa (ai (i:=1)) ac))) (ai (i:=0))))))))) (fun ds Q h=>Nat.le_trans (le_of_eq (lT ds Q h)) (by decide)) rW h⟩
theorem j7:∀ds Q,bc ds Q->ds.length=1:=fun ds Q h=>by unfold bc at h;split at h;(first|rfl|exact h.elim);(first|rfl|exact h.elim)
theorem qK(D:ca K mg "sets_left" iH)(T:Txt mg)(TC:TxC K)(C_members:Cal P w K mg base 1 "members" ["mark"] (spP K bY)):Cal P w K mg base 2 "sets_left" ["many"] (spP K bc):=by
 refine D.ok qo (fun _ _ _ _ _ _ us hl=>match us,hl with|[_],_=>rfl) (fun vs H Q E h=>?_) (fun f cdv A outer s H vs Q E hr h=>?_)
 .exact iD j7 h
 .have hu:=hr.units;exact⟨_,(aq (aQ (bK (wi:=(qS (bf (tOp Do (tC (V.int 1)) (bz 0)) eY))) (g:=(cw 0)) (tts:=jN) (te:=(pR [none,some 0] (jj K (ef (spP K bY) [] E0 (bf (bz 0) eY))) (cw 0) jN (Ce (bf (bz 0) (bf (tOp wq (bz 1) (tOp Do (tC (V.int 1)) (bz 0))) eY))))) ["mark"] [none] rfl (cH rfl T.b_range (paC (bq Dp ay (pv 0)) ah)) (fun _ _ _ _=>⟨(aJ (i:=0) (by show List.Nodup (["mark"]:List Str);decide +kernel) rfl (by walk_at "o")),cq,(bK (wi:=(jj K (ef (spP K bY) [] E0 (bf (bz 0) eY)))) (g:=(cw 0)) (tts:=jN) (te:=(Ce (bf (bz 0) (bf (tOp wq (bz 1) (tOp Do (tC (V.int 1)) (bz 0))) eY)))) ["i","mark"] [none,some 0] rfl (cM K rfl (aw C_members (hr.mono (by decide)) (paC (pv 0) ah))) (fun _ _ _ _=>⟨(aJ (i:=0) (by show List.Nodup (["i","mark"]:List Str);decide +kernel) rfl (by walk_at "o")),cq,(pA (paC (pv 0) (paC (bq oq (pv 1) (bq Dp ay (pv 0))) ah)))⟩) (by kernel_rfl))⟩) (by kernel_rfl)))),fnP (K:=K) (c:=bc) (ps:=eR) (N:=["many"]) (aR (zp (bD (ix:=[none]) rfl (ki (aa (ae (au zo (ae le_int) (ai (i:=0)))) ac)) (fun fs hc=>(aC (i:=0) (iP hc (by decide)))) di (bD (ix:=[none,some 0]) rfl (cN (aD (c:=bY) (aa (ae (al (i:=0))) ac))) (fun fs hc=>(aC (i:=0) (iP hc (by decide)))) di (pX (aa (ae (al (i:=0))) (aa (ae (au iY (ai (i:=1)) (ae (au zo (ae le_int) (ai (i:=0)))))) ac))))))) (fun ds Q h=>Nat.le_trans (le_of_eq (j7 ds Q h)) (by decide)) qw h⟩
theorem lU:∀ds Q,bx ds Q->ds.length=3:=fun ds Q h=>by unfold bx at h;split at h;(first|rfl|exact h.elim);(first|rfl|exact h.elim)
theorem sv(D:ca K mg "all_ends" jt)(T:Txt mg)(TC:TxC K)(C_foremost:Cal P w K mg base 2 "foremost" ["texts"] (spP K bo)):Cal P w K mg base 3 "all_ends" ["heads","lasts","lefts"] (spP K bx):=by
 refine D.ok fN (fun _ _ _ _ _ _ us hl=>match us,hl with|[_,_,_],_=>rfl) (fun vs H Q E h=>?_) (fun f cdv A outer s H vs Q E hr h=>?_)
 .exact iD lU h
 .have hu:=hr.units;exact⟨_,(aj (aT (i:=3) fN.nd rfl (by walk_at "o") (jK ah)) (aj (en PassesOwn.never rfl (cM K rfl (pv 2)) (aJ (i:=4) fN.nd rfl (by walk_at "o")) (aj (aT (i:=5) fN.nd rfl (by walk_at "o") (bK (wi:=(jj K (bz 4))) (g:=(Bb K 2 (ke (cw 0) (ke (cw 1) zU)))) (tts:=jN) (te:=(Ce (bf (bz 0) (bf (tOp (qP K) (tOp (qP K) (bz 2) (bz 1)) (bz 0)) eY)))) ["j","rest","ends"] [none,none,some 3] rfl (cM K rfl (pv 4)) (fun _ _ _ _=>⟨(qd K rfl (n:=2) rfl (dG (aJ (i:=0) (by show List.Nodup (["j","rest","ends"]:List Str);decide +kernel) rfl (by walk_at "o")) (dG (aJ (i:=1) (by show List.Nodup (["j","rest","ends"]:List Str);decide +kernel) rfl (by walk_at "o")) kC))),cq,(pA (paC (pv 0) (paC (bu (dC K rfl) (bu (dC K rfl) (pv 2) (pv 1) (fun _ _=>rfl)) (pv 0) (fun _ _=>rfl)) ah)))⟩) (by kernel_rfl))) (aq (gu (ga K rfl PySem.F.plainAttrs_list PySem.F.slot_list_append PySem.F.type_list_append gy (pv 3) (paC (xF (Bw K rfl (pv 5)) (bK (wi:=(jj K (bz 0))) (g:=(cw 0)) (tts:=jN) (te:=(ef (spP K bo) [] E0 (bf (pR [none,none,some 0] (jj K (bz 1)) (Bb K 2 (ke (cw 0) (ke (cw 1) zU))) jN (tOp (uz K) (tOp (qP K) (bz 2) (bz 0)) (bz 1))) eY))) ["row","nexts"] [none,some 5] rfl (cM K rfl (pv 0)) (fun _ _ _ _=>⟨(aJ (i:=0) (by show List.Nodup (["row","nexts"]:List Str);decide +kernel) rfl (by walk_at "o")),cq,(aw C_foremost (hr.mono (by decide)) (paC (bK (wi:=(jj K (bz 1))) (g:=(Bb K 2 (ke (cw 0) (ke (cw 1) zU)))) (tts:=jN) (te:=(tOp (uz K) (tOp (qP K) (bz 2) (bz 0)) (bz 1))) ["j","end","row"] [none,none,some 0] rfl (cM K rfl (pv 1)) (fun _ _ _ _=>⟨(qd K rfl (n:=2) rfl (dG (aJ (i:=0) (by show List.Nodup (["j","end","row"]:List Str);decide +kernel) rfl (by walk_at "o")) (dG (aJ (i:=1) (by show List.Nodup (["j","end","row"]:List Str);decide +kernel) rfl (by walk_at "o")) kC))),cq,(bq (cR K rfl) (bu (dC K rfl) (pv 2) (pv 0) (fun _ _=>rfl)) (pv 1))⟩) (by kernel_rfl)) ah))⟩) (by kernel_rfl)) (cr (zg K rfl) rfl T.b_list boot_list (paC (pv 1) ah))) ah)))))) (aq (aQ (pv 3))))),fnP (K:=K) (c:=bx) (ps:=fS) (N:=["heads","lasts","lefts","ends","choices","nexts"]) (aB (aP (jO ac) (aE (i:=3) rfl)) (aB (et (cN (al (i:=2))) (aC (i:=4) rfl) (aB (aP (bD (ix:=[none,none,some 3]) rfl (cN (al (i:=4))) (fun fs hc=>(kY (dJ (aC (i:=0) (iP hc (by decide))) (dJ (aC (i:=1) (iP hc (by decide))) kR)))) di (pX (aa (ae (al (i:=0))) (aa (ae (au bv (ae (au bv (ai (i:=2)) (ai (i:=1)))) (ai (i:=0)))) ac)))) (aE (i:=5) rfl)) (gC (sR (i:=3) (Ey (E5 (al (i:=5))) (bD (ix:=[none,some 5]) rfl (cN (al (i:=0))) (fun fs hc=>(aC (i:=0) (iP hc (by decide)))) di (aD (c:=bo) (aa (ae (bD (ix:=[none,none,some 0]) rfl (cN (al (i:=1))) (fun fs hc=>(kY (dJ (aC (i:=0) (iP hc (by decide))) (dJ (aC (i:=1) (iP hc (by decide))) kR)))) di (au bT (ae (au bv (ai (i:=2)) (ai (i:=0)))) (ai (i:=1))))) ac))) (aU wo (aa (ai (i:=1)) ac))))))) (aR (al (i:=3))))) (fun ds Q h=>Nat.le_trans (le_of_eq (lU ds Q h)) (by decide)) rX h⟩
theorem gj:∀ds Q,aV ds Q->ds.length=3:=fun ds Q h=>by unfold aV at h;split at h;(first|rfl|exact h.elim);(first|rfl|exact h.elim)
theorem kt(D:ca K mg "foremost_text" eE)(T:Txt mg)(TC:TxC K)(C_all_ends:Cal P w K mg base 3 "all_ends" ["heads","lasts","lefts"] (spP K bx))(C_foremost:Cal P w K mg base 2 "foremost" ["texts"] (spP K bo))(C_heads_of:Cal P w K mg base 1 "heads_of" ["words","laps"] (spP K bw)):Cal P w K mg base 4 "foremost_text" ["words","laps","lefts"] (spP K aV):=by
 refine D.ok gf (fun _ _ _ _ _ _ us hl=>match us,hl with|[_,_,_],_=>rfl) (fun vs H Q E h=>?_) (fun f cdv A outer s H vs Q E hr h=>?_)
 .exact iD gj h
 .have hu:=hr.units;exact⟨_,(aj (aT (i:=3) gf.nd rfl (by walk_at "o") (aw C_all_ends (hr.mono (by decide)) (paC (aw C_heads_of (hr.mono (by decide)) (paC (pv 0) (paC (pv 1) ah))) (paC (pv 0) (paC (pv 2) ah))))) (aq (aQ (aw C_foremost (hr.mono (by decide)) (paC (DK K rfl (bK (wi:=(jj K (tOp (qP K) (bz 2) (tUn Dj (tC (V.int 1)))))) (g:=(Bb K 2 (ke (cw 0) (ke (cw 1) zU)))) (tts:=jN) (te:=(tOp (qP K) (tOp (qP K) (bz 2) (bz 1)) (bz 0))) ["j","rest","ends"] [none,none,some 3] rfl (cM K rfl (bu (dC K rfl) (pv 2) (u5 pz ay) (fun _ _=>rfl))) (fun _ _ _ _=>⟨(qd K rfl (n:=2) rfl (dG (aJ (i:=0) (by show List.Nodup (["j","rest","ends"]:List Str);decide +kernel) rfl (by walk_at "o")) (dG (aJ (i:=1) (by show List.Nodup (["j","rest","ends"]:List Str);decide +kernel) rfl (by walk_at "o")) kC))),cq,(bu (dC K rfl) (bu (dC K rfl) (pv 2) (pv 1) (fun _ _=>rfl)) (pv 0) (fun _ _=>rfl))⟩) (by kernel_rfl)) (uY (jK (paC (ft (l:=[]) (by decide +kernel)) ah)))) ah))))),fnP (K:=K) (c:=aV) (ps:=c9) (N:=["words","laps","lefts","ends"]) (aB (aP (aD (c:=bx) (aa (ae (aD (c:=bw) (aa (ae (al (i:=0))) (aa (ae (al (i:=1))) ac)))) (aa (ae (al (i:=0))) (aa (ae (al (i:=2))) ac)))) (aE (i:=3) rfl)) (aR (aD (c:=bo) (aa (ae (DL (bD (ix:=[none,none,some 3]) rfl (cN (au bv (ai (i:=2)) (ae (vW p7 (ae le_int))))) (fun fs hc=>(kY (dJ (aC (i:=0) (iP hc (by decide))) (dJ (aC (i:=1) (iP hc (by decide))) kR)))) di (au bv (ae (au bv (ai (i:=2)) (ai (i:=1)))) (ai (i:=0)))) (jO (aa (ae (le_str (l:=[]))) ac)))) ac)))) (fun ds Q h=>Nat.le_trans (le_of_eq (gj ds Q h)) (by decide)) kn h⟩
theorem lV:∀ds Q,bI ds Q->ds.length=1:=fun ds Q h=>by unfold bI at h;split at h;(first|rfl|exact h.elim);(first|rfl|exact h.elim)
theorem sw(D:ca K mg "shortest" ju)(T:Txt mg)(TC:TxC K)(C_Family_many:za P w K mg base 1 (cb K "Family") "many" ["self"] (spP K aA))(C_check_few_words:Cal P w K mg base 2 "check_few_words" ["family"] (spP K aF))(C_foremost_text:Cal P w K mg base 4 "foremost_text" ["words","laps","lefts"] (spP K aV))(C_sets_left:Cal P w K mg base 2 "sets_left" ["many"] (spP K bc)):Cal P w K mg base 5 "shortest" ["family"] (spP K bI):=by
 refine D.ok rL (fun _ _ _ _ _ _ us hl=>match us,hl with|[_],_=>rfl) (fun vs H Q E h=>?_) (fun f cdv A outer s H vs Q E hr h=>?_)
 .exact iD lV h
 .have hu:=hr.units;exact⟨_,(aj (gu (aw C_check_few_words (hr.mono (by decide)) (paC (pv 0) ah))) (aq (aQ (aw C_foremost_text (hr.mono (by decide)) (paC (dr K rfl (pv 0) rfl) (paC (dr K rfl (pv 0) rfl) (paC (aw C_sets_left (hr.mono (by decide)) (paC (iX (pv 0) TC.cl_Family C_Family_many (hr.mono (by decide))) ah)) ah))))))),fnP (K:=K) (c:=bI) (ps:=fT) (N:=["family"]) (aB (gC (aD (c:=aF) (aa (ae (al (i:=0))) ac))) (aR (aD (c:=aV) (aa (ae (eO (ns0:=["pieces","kept","words","left","laps","total"]) TC.cl_Family TC.n_Family_words (i:=2) (by decide +kernel) (ai (i:=0)))) (aa (ae (eO (ns0:=["pieces","kept","words","left","laps","total"]) TC.cl_Family TC.n_Family_laps (i:=4) (by decide +kernel) (ai (i:=0)))) (aa (ae (aD (c:=bc) (aa (ae (i4 (c0:="Family") (m:="many") (ns0:=["pieces","kept","words","left","laps","total"]) (c:=aA) (by decide +kernel) (al (i:=0)) ac)) ac))) ac)))))) (fun ds Q h=>Nat.le_trans (le_of_eq (lV ds Q h)) (by decide)) rY h⟩
theorem iq:∀ds Q,bg ds Q->ds.length=1:=fun ds Q h=>by unfold bg at h;split at h;(first|rfl|exact h.elim);(first|rfl|exact h.elim)
theorem mI(D:ca K mg "check_words" fJ)(T:Txt mg)(TC:TxC K)(C_Family_many:za P w K mg base 1 (cb K "Family") "many" ["self"] (spP K aA)):Cal P w K mg base 2 "check_words" ["family"] (spP K bg):=by
 refine D.ok mr (fun _ _ _ _ _ _ us hl=>match us,hl with|[_],_=>rfl) (fun vs H Q E h=>?_) (fun f cdv A outer s H vs Q E hr h=>?_)
 .exact iD iq h
 .have hu:=hr.units;exact⟨_,(aq (dB (bj (ml K rfl hu) (iX (pv 0) TC.cl_Family C_Family_many (hr.mono (by decide))) ay (bH _)) (aq kv) bJ)),fnP (K:=K) (c:=bg) (ps:=dN) (N:=["family"]) (dD (iO (au ia (ae (i4 (c0:="Family") (m:="many") (ns0:=["pieces","kept","words","left","laps","total"]) (c:=aA) (by decide +kernel) (al (i:=0)) ac)) (ae le_int))) ky bN) (fun ds Q h=>Nat.le_trans (le_of_eq (iq ds Q h)) (by decide)) my h⟩
theorem fo:∀ds Q,aK ds Q->ds.length=1:=fun ds Q h=>by unfold aK at h;split at h;(first|rfl|exact h.elim);(first|rfl|exact h.elim)
theorem jI(D:ca K mg "shortest_round" d7)(T:Txt mg)(TC:TxC K)(C_Family_many:za P w K mg base 1 (cb K "Family") "many" ["self"] (spP K aA))(C_all_ends:Cal P w K mg base 3 "all_ends" ["heads","lasts","lefts"] (spP K bx))(C_check_few_words:Cal P w K mg base 2 "check_few_words" ["family"] (spP K aF))(C_check_words:Cal P w K mg base 2 "check_words" ["family"] (spP K bg))(C_heads_of:Cal P w K mg base 1 "heads_of" ["words","laps"] (spP K bw))(C_sets_left:Cal P w K mg base 2 "sets_left" ["many"] (spP K bc)):Cal P w K mg base 4 "shortest_round" ["family"] (spP K aK):=by
 refine D.ok cT (fun _ _ _ _ _ _ us hl=>match us,hl with|[_],_=>rfl) (fun vs H Q E h=>?_) (fun f cdv A outer s H vs Q E hr h=>?_)
 .exact iD fo h
 .have hu:=hr.units;exact⟨_,(aj (gu (aw C_check_words (hr.mono (by decide)) (paC (pv 0) ah))) (aj (gu (aw C_check_few_words (hr.mono (by decide)) (paC (pv 0) ah))) (aj (aT (i:=1) cT.nd rfl (by walk_at "o") (aw C_heads_of (hr.mono (by decide)) (paC (dr K rfl (pv 0) rfl) (paC (dr K rfl (pv 0) rfl) ah)))) (aj (aT (i:=2) cT.nd rfl (by walk_at "o") (aw C_all_ends (hr.mono (by decide)) (paC (pv 1) (paC (bK (wi:=(jj K (bz 1))) (g:=(cw 0)) (tts:=jN) (te:=(tOp (qP K) (bz 0) (tC (V.int 0)))) ["row"] [none] rfl (cM K rfl (pv 1)) (fun _ _ _ _=>⟨(aJ (i:=0) (by show List.Nodup (["row"]:List Str);decide +kernel) rfl (by walk_at "o")),cq,(bu (dC K rfl) (pv 0) ay (fun _ _=>rfl))⟩) (by kernel_rfl)) (paC (aw C_sets_left (hr.mono (by decide)) (paC (iX (pv 0) TC.cl_Family C_Family_many (hr.mono (by decide))) ah)) ah))))) (aj (aT (i:=3) cT.nd rfl (by walk_at "o") (bq oq (ak (bF K rfl) rfl T.b_len PySem.boot_len (paC (pv 2) ah)) ay)) (aq (aQ (bu (dC K rfl) (bu (dC K rfl) (pv 2) (pv 3) (fun _ _=>rfl)) ay (fun _ _=>rfl))))))))),fnP (K:=K) (c:=aK) (ps:=cX) (N:=["family","heads","ends","all_but_first"]) (aB (gC (aD (c:=bg) (aa (ae (al (i:=0))) ac))) (aB (gC (aD (c:=aF) (aa (ae (al (i:=0))) ac))) (aB (aP (aD (c:=bw) (aa (ae (eO (ns0:=["pieces","kept","words","left","laps","total"]) TC.cl_Family TC.n_Family_words (i:=2) (by decide +kernel) (ai (i:=0)))) (aa (ae (eO (ns0:=["pieces","kept","words","left","laps","total"]) TC.cl_Family TC.n_Family_laps (i:=4) (by decide +kernel) (ai (i:=0)))) ac))) (aE (i:=1) rfl)) (aB (aP (aD (c:=bx) (aa (ae (al (i:=1))) (aa (ae (bD (ix:=[none]) rfl (cN (al (i:=1))) (fun fs hc=>(aC (i:=0) (iP hc (by decide)))) di (au bv (ai (i:=0)) (ae le_int)))) (aa (ae (aD (c:=bc) (aa (ae (i4 (c0:="Family") (m:="many") (ns0:=["pieces","kept","words","left","laps","total"]) (c:=aA) (by decide +kernel) (al (i:=0)) ac)) ac))) ac)))) (aE (i:=2) rfl)) (aB (aP (au iY (ae (aU aO (aa (ai (i:=2)) ac))) (ae le_int)) (aE (i:=3) rfl)) (aR (au bv (ae (au bv (ai (i:=2)) (ai (i:=3)))) (ae le_int)))))))) (fun ds Q h=>Nat.le_trans (le_of_eq (fo ds Q h)) (by decide)) jG h⟩
theorem zO:∀ds Q,gh ds Q->ds.length=2:=fun ds Q h=>by unfold gh at h;split at h;(first|rfl|exact h.elim);(first|rfl|exact h.elim)
theorem DQ(D:ca K mg "lap" By)(T:Txt mg)(TC:TxC K):Cal P w K mg base 1 "lap" ["one","other"] (spP K gh):=by
 refine D.ok zF (fun _ _ _ _ _ _ us hl=>match us,hl with|[_,_],_=>rfl) (fun vs H Q E h=>?_) (fun f cdv A outer s H vs Q E hr h=>?_)
 .exact iD zO h
 .have hu:=hr.units;exact⟨_,(aj (en PassesOwn.never rfl (pN rfl T.b_range (paC (bq oq (ak (wf rfl) rfl T.b_min boot_min (paC (ak (bF K rfl) rfl T.b_len PySem.boot_len (paC (pv 0) ah)) (paC (ak (bF K rfl) rfl T.b_len PySem.boot_len (paC (pv 1) ah)) ah))) ay) (paC ay (paC (u5 pz ay) ah)))) (aJ (i:=2) zF.nd rfl (by walk_at "o")) (aq (dB (eB (ga K rfl PySem.F.plainAttrs_str PySem.F.slot_str_endswith PySem.F.type_str_endswith AY (pv 0) (paC (bW (o8 K rfl) (pv 1) cP (cD (pv 2))) ah))) (aq (aQ (pv 2))) bJ))) (aq (aQ ay))),fnP (K:=K) (c:=gh) (ps:=tQ) (N:=["one","other","k"]) (aB (et (C3 (aa (ae (au iY (ae (aU rj (aa (ae (aU aO (aa (ai (i:=0)) ac))) (aa (ae (aU aO (aa (ai (i:=1)) ac))) ac)))) (ae le_int))) (aa (ae le_int) (aa (ae (vW p7 (ae le_int))) ac)))) (aC (i:=2) rfl) (dD (uT (um A0 (al (i:=0)) (aa (ae (bX (ai (i:=1)) bZ (bM (al (i:=2))))) ac))) (aR (al (i:=2))) bN)) (aR le_int)) (fun ds Q h=>Nat.le_trans (le_of_eq (zO ds Q h)) (by decide)) DO h⟩
theorem lW:∀ds Q,cg ds Q->ds.length=1:=fun ds Q h=>by unfold cg at h;split at h;(first|rfl|exact h.elim);(first|rfl|exact h.elim)
theorem sy(D:ca K mg "all_laps" jv)(T:Txt mg)(TC:TxC K)(C_lap:Cal P w K mg base 1 "lap" ["one","other"] (spP K gh)):Cal P w K mg base 2 "all_laps" ["words"] (spP K cg):=by
 refine D.ok rM (fun _ _ _ _ _ _ us hl=>match us,hl with|[_],_=>rfl) (fun vs H Q E h=>?_) (fun f cdv A outer s H vs Q E hr h=>?_)
 .exact iD lW h
 .have hu:=hr.units;exact⟨_,(aq (aQ (cr (iC K rfl) rfl T.b_tuple boot_tuple (paC (bK (wi:=(jj K (bz 0))) (g:=(cw 0)) (tts:=jN) (te:=(tCB (AW K) (bf (pR [none,some 0] (jj K (bz 1)) (cw 0) jN (ef (spP K gh) [] E0 (bf (bz 1) (bf (bz 0) eY)))) eY))) ["one","words"] [none,some 0] rfl (cM K rfl (pv 0)) (fun _ _ _ _=>⟨(aJ (i:=0) (by show List.Nodup (["one","words"]:List Str);decide +kernel) rfl (by walk_at "o")),cq,(cr (iC K rfl) rfl T.b_tuple boot_tuple (paC (bK (wi:=(jj K (bz 1))) (g:=(cw 0)) (tts:=jN) (te:=(ef (spP K gh) [] E0 (bf (bz 1) (bf (bz 0) eY)))) ["other","one"] [none,some 0] rfl (cM K rfl (pv 1)) (fun _ _ _ _=>⟨(aJ (i:=0) (by show List.Nodup (["other","one"]:List Str);decide +kernel) rfl (by walk_at "o")),cq,(aw C_lap (hr.mono (by decide)) (paC (pv 1) (paC (pv 0) ah)))⟩) (by kernel_rfl)) ah))⟩) (by kernel_rfl)) ah)))),fnP (K:=K) (c:=cg) (ps:=fU) (N:=["words"]) (aR (aU fC (aa (ae (bD (ix:=[none,some 0]) rfl (cN (al (i:=0))) (fun fs hc=>(aC (i:=0) (iP hc (by decide)))) di (aU fC (aa (ae (bD (ix:=[none,some 0]) rfl (cN (al (i:=1))) (fun fs hc=>(aC (i:=0) (iP hc (by decide)))) di (aD (c:=gh) (aa (ae (al (i:=1))) (aa (ae (al (i:=0))) ac))))) ac)))) ac))) (fun ds Q h=>Nat.le_trans (le_of_eq (lW ds Q h)) (by decide)) rZ h⟩
theorem gO:∀ds Q,a8 ds Q->ds.length=1:=fun ds Q h=>by unfold a8 at h;split at h;(first|rfl|exact h.elim);(first|rfl|exact h.elim)
theorem lX(D:ca K mg "check_pieces" e7)(T:Txt mg)(TC:TxC K)(C_is_text:CL P w K mg base 1 "is_text" ["thing","least","most"] [.int 0,.int 4000] (spP K cU)):Cal P w K mg base 2 "check_pieces" ["things"] (spP K a8):=by
 refine D.ok eG (fun _ _ _ _ _ _ us hl=>match us,hl with|[_],_=>rfl) (fun vs H Q E h=>?_) (fun f cdv A outer s H vs Q E hr h=>?_)
 .exact iD gO h
 .have hu:=hr.units;exact⟨_,(aj (dB (bj wt (ak (bF K rfl) rfl T.b_len PySem.boot_len (paC (pv 0) ah)) (nY rfl T.g_MOST_PIECES) (bH _)) (aq kv) bJ) (aq (en PassesOwn.never rfl (yl K rfl rfl T.b_enumerate (paC (pv 0) ah)) (qd K rfl (n:=2) rfl (dG (aJ (i:=1) eG.nd rfl (by walk_at "o")) (dG (aJ (i:=2) eG.nd rfl (by walk_at "o")) kC))) (aq (dB (jJ (eB (yx 2 C_is_text (hr.mono (by decide)) (by decide) (paC (pv 2) (paC ay (paC (nY rfl T.g_MOST_SIGNS) ah)))))) (aq kv) bJ))))),fnP (K:=K) (c:=a8) (ps:=dw) (N:=["things","at","thing"]) (aB (dD (iO (au kQ (ae (aU aO (aa (ai (i:=0)) ac))) (ae (le_int (i:=40))))) ky bN) (et (AN (aa (ae (al (i:=0))) ac)) (kY (dJ (aC (i:=1) rfl) (dJ (aC (i:=2) rfl) kR))) (dD (jP (uT (ym (ds:=[]) (by repeat (first|exact .nil|exact .cons (.int _) .nil|refine .cons (.int _) ?_)) (aa (ae (al (i:=2))) (aa (ae le_int) (aa (ae (le_int (i:=60))) ac)))))) ky bN))) (fun ds Q h=>Nat.le_trans (le_of_eq (gO ds Q h)) (by decide)) lL h⟩
theorem gm:∀ds Q,aG ds Q->ds.length=2:=fun ds Q h=>by unfold aG at h;split at h;(first|rfl|exact h.elim);(first|rfl|exact h.elim)
theorem ku(D:ca K mg "stands_within" eF)(T:Txt mg)(TC:TxC K)(C_first_place:Cal P w K mg base 1 "first_place" ["text","piece"] (spP K aS)):Cal P w K mg base 2 "stands_within" ["piece","other"] (spP K aG):=by
 refine D.ok km (fun _ _ _ _ _ _ us hl=>match us,hl with|[_,_],_=>rfl) (fun vs H Q E h=>?_) (fun f cdv A outer s H vs Q E hr h=>?_)
 .exact iD gm h
 .have hu:=hr.units;exact⟨_,(aq (aQ (gv Fy (aw C_first_place (hr.mono (by decide)) (paC (pv 1) (paC (pv 0) ah))) ay (bH _)))),fnP (K:=K) (c:=aG) (ps:=de) (N:=["piece","other"]) (aR (au CT (ae (aD (c:=aS) (aa (ae (al (i:=1))) (aa (ae (al (i:=0))) ac)))) (ae le_int))) (fun ds Q h=>Nat.le_trans (le_of_eq (gm ds Q h)) (by decide)) kq h⟩
theorem nG:∀ds Q,cv ds Q->ds.length=2:=fun ds Q h=>by unfold cv at h;split at h;(first|rfl|exact h.elim);(first|rfl|exact h.elim)
theorem uO(D:ca K mg "is_kept" lh)(T:Txt mg)(TC:TxC K)(C_stands_within:Cal P w K mg base 2 "stands_within" ["piece","other"] (spP K aG)):Cal P w K mg base 3 "is_kept" ["pieces","at"] (spP K cv):=by
 refine D.ok jD (fun _ _ _ _ _ _ us hl=>match us,hl with|[_,_],_=>rfl) (fun vs H Q E h=>?_) (fun f cdv A outer s H vs Q E hr h=>?_)
 .exact iD nG h
 .have hu:=hr.units;exact⟨_,(aj (aT (i:=2) jD.nd rfl (by walk_at "o") (bu (dC K rfl) (pv 0) (pv 1) (fun _ _=>rfl))) (aj (vH (wi:=(jj K (bz 0))) (g:=(cw 0)) (tts:=(va (tOp Fw (tCB (n8 K) (bf (bz 0) eY)) (tCB (n8 K) (bf (bz 1) eY))))) (te:=(bz 0)) (i:=3) ["other","piece"] [none,some 2] jD.nd rfl (Or.inl rfl) rfl (cM K rfl (pv 0)) (fun _ _ _ _=>⟨(aJ (i:=0) (by show List.Nodup (["other","piece"]:List Str);decide +kernel) rfl (by walk_at "o")),(jh (bj wt (ak (bF K rfl) rfl T.b_len PySem.boot_len (paC (pv 0) ah)) (ak (bF K rfl) rfl T.b_len PySem.boot_len (paC (pv 1) ah)) (bH _))),(pv 0)⟩) (by kernel_rfl)) (aq (aQ (yT (gv (tE K rfl) (pv 2) (bW (o8 K rfl) (pv 0) cP (cD (pv 1))) (by with_unfolding_all rfl)) (uY (B0 (ak (EN K rfl rfl) rfl T.b_any boot_any (paC (bK (wi:=(jj K (bz 3))) (g:=(cw 0)) (tts:=jN) (te:=(ef (spP K aG) [] E0 (bf (bz 1) (bf (bz 0) eY)))) ["other","piece"] [none,some 2] rfl (cM K rfl (pv 3)) (fun _ _ _ _=>⟨(aJ (i:=0) (by show List.Nodup (["other","piece"]:List Str);decide +kernel) rfl (by walk_at "o")),cq,(aw C_stands_within (hr.mono (by decide)) (paC (pv 1) (paC (pv 0) ah)))⟩) (by kernel_rfl)) ah))))))))),fnP (K:=K) (c:=cv) (ps:=gZ) (N:=["pieces","at","piece","longer"]) (aB (aP (au bv (ai (i:=0)) (ai (i:=1))) (aE (i:=2) rfl)) (aB (aP (bD (ix:=[none,some 2]) rfl (cN (al (i:=0))) (fun fs hc=>(aC (i:=0) (iP hc (by decide)))) (iO (au kQ (ae (aU aO (aa (ai (i:=0)) ac))) (ae (aU aO (aa (ai (i:=1)) ac))))) (al (i:=0))) (aE (i:=3) rfl)) (aR (zc (au w9 (ai (i:=2)) (ae (bX (ai (i:=0)) bZ (bM (al (i:=1)))))) (CQ (aU De (aa (ae (bD (ix:=[none,some 2]) rfl (cN (al (i:=3))) (fun fs hc=>(aC (i:=0) (iP hc (by decide)))) di (aD (c:=aG) (aa (ae (al (i:=1))) (aa (ae (al (i:=0))) ac))))) ac))))))) (fun ds Q h=>Nat.le_trans (le_of_eq (nG ds Q h)) (by decide)) uH h⟩
theorem lY:∀ds Q,bU ds Q->ds.length=3:=fun ds Q h=>by unfold bU at h;split at h;(first|rfl|exact h.elim);(first|rfl|exact h.elim)
theorem sA(D:ca K mg "left_row" jw)(T:Txt mg)(TC:TxC K)(C_first_place:Cal P w K mg base 1 "first_place" ["text","piece"] (spP K aS))(C_stands_within:Cal P w K mg base 2 "stands_within" ["piece","other"] (spP K aG)):Cal P w K mg base 3 "left_row" ["pieces","kept","at"] (spP K bU):=by
 refine D.ok lq (fun _ _ _ _ _ _ us hl=>match us,hl with|[_,_,_],_=>rfl) (fun vs H Q E h=>?_) (fun f cdv A outer s H vs Q E hr h=>?_)
 .exact iD lY h
 .have hu:=hr.units;exact⟨_,(aj (aT (i:=3) lq.nd rfl (by walk_at "o") (ak (zf K rfl rfl) rfl T.b_min boot_min (paC (bK (wi:=(jj K (bz 1))) (g:=(cw 0)) (tts:=(tB (ef (spP K aG) [] E0 (bf (tOp (qP K) (bz 1) (bz 2)) (bf (tOp (qP K) (bz 1) (bz 0)) eY))))) (te:=(bz 0)) ["one","pieces","at"] [none,some 0,some 2] rfl (cM K rfl (pv 1)) (fun _ _ _ _=>⟨(aJ (i:=0) (by show List.Nodup (["one","pieces","at"]:List Str);decide +kernel) rfl (by walk_at "o")),(jh (eB (aw C_stands_within (hr.mono (by decide)) (paC (bu (dC K rfl) (pv 1) (pv 2) (fun _ _=>rfl)) (paC (bu (dC K rfl) (pv 1) (pv 0) (fun _ _=>rfl)) ah))))),(pv 0)⟩) (by kernel_rfl)) ah))) (aq (aQ (pA (paC (pv 2) (paC (pv 3) (paC (aw C_first_place (hr.mono (by decide)) (paC (bu (dC K rfl) (pv 0) (pv 3) (fun _ _=>rfl)) (paC (bu (dC K rfl) (pv 0) (pv 2) (fun _ _=>rfl)) ah))) ah))))))),fnP (K:=K) (c:=bU) (ps:=fV) (N:=["pieces","kept","at","holder"]) (aB (aP (aU wk (aa (ae (bD (ix:=[none,some 0,some 2]) rfl (cN (al (i:=1))) (fun fs hc=>(aC (i:=0) (iP hc (by decide)))) (uT (aD (c:=aG) (aa (ae (au bv (ai (i:=1)) (ai (i:=2)))) (aa (ae (au bv (ai (i:=1)) (ai (i:=0)))) ac)))) (al (i:=0)))) ac)) (aE (i:=3) rfl)) (aR (pX (aa (ae (al (i:=2))) (aa (ae (al (i:=3))) (aa (ae (aD (c:=aS) (aa (ae (au bv (ai (i:=0)) (ai (i:=3)))) (aa (ae (au bv (ai (i:=0)) (ai (i:=2)))) ac)))) ac)))))) (fun ds Q h=>Nat.le_trans (le_of_eq (lY ds Q h)) (by decide)) r9 h⟩
theorem ir:∀p ds Q,bh p ds Q->ds.length+1=2:=fun p ds Q h=>by unfold bh at h;split at h;(first|rfl|exact h.elim);(first|rfl|exact h.elim)
theorem mJ(D:sP K mg (cb K "Family") "Family" "Family.__init__" cE)(T:Txt mg)(TC:TxC K)(C_all_laps:Cal P w K mg base 2 "all_laps" ["words"] (spP K cg))(C_check_pieces:Cal P w K mg base 2 "check_pieces" ["things"] (spP K a8))(C_is_kept:Cal P w K mg base 3 "is_kept" ["pieces","at"] (spP K cv))(C_left_row:Cal P w K mg base 3 "left_row" ["pieces","kept","at"] (spP K bU)):CM P w K mg base 4 (cb K "Family") "Family" ["self","pieces"] (spR K bh):=by
 refine D.ok ib (fun _ _ _ _ _ _ us hl=>match us,hl with|[_,_],_=>rfl) (fun vs H Q E h=>?_) (fun f cdv A outer s H vs Q E hr h=>?_)
 .exact yn ir h
 .have hu:=hr.units;exact⟨_,(aj (gu (aw C_check_pieces (hr.mono (by decide)) (paC (pv 1) ah))) (aj (mP (pv 0) (cr (iC K rfl) rfl T.b_tuple boot_tuple (paC (pv 1) ah)) rfl) (aj (aT (i:=2) ib.nd rfl (by walk_at "o") (cr (zh K rfl rfl) rfl T.b_list boot_list (paC (pT rfl T.b_range (paC (ak (bF K rfl) rfl T.b_len PySem.boot_len (paC (dr K rfl (pv 0) rfl) ah)) ah)) ah))) (aj (mP (pv 0) (cr (iC K rfl) rfl T.b_tuple boot_tuple (paC (bK (wi:=(jj K (bz 2))) (g:=(cw 0)) (tts:=(tB (ef (spP K cv) [] E0 (bf (xx K (bz 1) "pieces") (bf (bz 0) eY))))) (te:=(bz 0)) ["at","self"] [none,some 0] rfl (cM K rfl (pv 2)) (fun _ _ _ _=>⟨(aJ (i:=0) (by show List.Nodup (["at","self"]:List Str);decide +kernel) rfl (by walk_at "o")),(jh (eB (aw C_is_kept (hr.mono (by decide)) (paC (dr K rfl (pv 1) rfl) (paC (pv 0) ah))))),(pv 0)⟩) (by kernel_rfl)) ah)) rfl) (aj (mP (pv 0) (cr (iC K rfl) rfl T.b_tuple boot_tuple (paC (bK (wi:=(jj K (xx K (bz 0) "kept"))) (g:=(cw 0)) (tts:=jN) (te:=(tOp (qP K) (xx K (bz 1) "pieces") (bz 0))) ["at","self"] [none,some 0] rfl (cM K rfl (dr K rfl (pv 0) rfl)) (fun _ _ _ _=>⟨(aJ (i:=0) (by show List.Nodup (["at","self"]:List Str);decide +kernel) rfl (by walk_at "o")),cq,(bu (dC K rfl) (dr K rfl (pv 1) rfl) (pv 0) (fun _ _=>rfl))⟩) (by kernel_rfl)) ah)) rfl) (aj (mP (pv 0) (cr (iC K rfl) rfl T.b_tuple boot_tuple (paC (bK (wi:=(jj K (bz 2))) (g:=(cw 0)) (tts:=(va (tOp (D3 K true) (bz 0) (xx K (bz 1) "kept")))) (te:=(ef (spP K bU) [] E0 (bf (xx K (bz 1) "pieces") (bf (xx K (bz 1) "kept") (bf (bz 0) eY))))) ["at","self"] [none,some 0] rfl (cM K rfl (pv 2)) (fun _ _ _ _=>⟨(aJ (i:=0) (by show List.Nodup (["at","self"]:List Str);decide +kernel) rfl (by walk_at "o")),(jh (bj (tE K rfl) (pv 0) (dr K rfl (pv 1) rfl) (by with_unfolding_all rfl))),(aw C_left_row (hr.mono (by decide)) (paC (dr K rfl (pv 1) rfl) (paC (dr K rfl (pv 1) rfl) (paC (pv 0) ah))))⟩) (by kernel_rfl)) ah)) rfl) (aj (mP (pv 0) (aw C_all_laps (hr.mono (by decide)) (paC (dr K rfl (pv 0) rfl) ah)) rfl) (aq (mP (pv 0) (ak (Dc K rfl rfl) rfl T.b_sum boot_sum (paC (bK (wi:=(jj K (xx K (bz 0) "words"))) (g:=(cw 0)) (tts:=jN) (te:=(tCB (n8 K) (bf (bz 0) eY))) ["word"] [none] rfl (cM K rfl (dr K rfl (pv 0) rfl)) (fun _ _ _ _=>⟨(aJ (i:=0) (by show List.Nodup (["word"]:List Str);decide +kernel) rfl (by walk_at "o")),cq,(ak (bF K rfl) rfl T.b_len PySem.boot_len (paC (pv 0) ah))⟩) (by kernel_rfl)) ah)) rfl))))))))),fnR (K:=K) (c:=bh) (ps:=dO) (N:=["self","pieces","indexes"]) (aB (gC (aD (c:=a8) (aa (ae (al (i:=1))) ac))) (aB (jk (c0:="Family") (ns0:=[]) (i:=0) TC.cl_Family TC.n_Family_pieces (by decide +kernel) (aU fC (aa (ai (i:=1)) ac))) (aB (aP (sU false (aa (ae (aU aO (aa (ae (eO (ns0:=["pieces"]) TC.cl_Family TC.n_Family_pieces (i:=0) (by decide +kernel) (ai (i:=0)))) ac))) ac)) (aE (i:=2) rfl)) (aB (jk (c0:="Family") (ns0:=["pieces"]) (i:=0) TC.cl_Family TC.n_Family_kept (by decide +kernel) (aU fC (aa (ae (bD (ix:=[none,some 0]) rfl (cN (al (i:=2))) (fun fs hc=>(aC (i:=0) (iP hc (by decide)))) (uT (aD (c:=cv) (aa (ae (eO (ns0:=["pieces"]) TC.cl_Family TC.n_Family_pieces (i:=0) (by decide +kernel) (ai (i:=1)))) (aa (ae (al (i:=0))) ac)))) (al (i:=0)))) ac))) (aB (jk (c0:="Family") (ns0:=["pieces","kept"]) (i:=0) TC.cl_Family TC.n_Family_words (by decide +kernel) (aU fC (aa (ae (bD (ix:=[none,some 0]) rfl (cN (eO (ns0:=["pieces","kept"]) TC.cl_Family TC.n_Family_kept (i:=1) (by decide +kernel) (ai (i:=0)))) (fun fs hc=>(aC (i:=0) (iP hc (by decide)))) di (au bv (ae (eO (ns0:=["pieces","kept"]) TC.cl_Family TC.n_Family_pieces (i:=0) (by decide +kernel) (ai (i:=1)))) (ai (i:=0))))) ac))) (aB (jk (c0:="Family") (ns0:=["pieces","kept","words"]) (i:=0) TC.cl_Family TC.n_Family_left (by decide +kernel) (aU fC (aa (ae (bD (ix:=[none,some 0]) rfl (cN (al (i:=2))) (fun fs hc=>(aC (i:=0) (iP hc (by decide)))) (iO (au w9 (ai (i:=0)) (ae (eO (ns0:=["pieces","kept","words"]) TC.cl_Family TC.n_Family_kept (i:=1) (by decide +kernel) (ai (i:=1)))))) (aD (c:=bU) (aa (ae (eO (ns0:=["pieces","kept","words"]) TC.cl_Family TC.n_Family_pieces (i:=0) (by decide +kernel) (ai (i:=1)))) (aa (ae (eO (ns0:=["pieces","kept","words"]) TC.cl_Family TC.n_Family_kept (i:=1) (by decide +kernel) (ai (i:=1)))) (aa (ae (al (i:=0))) ac)))))) ac))) (aB (jk (c0:="Family") (ns0:=["pieces","kept","words","left"]) (i:=0) TC.cl_Family TC.n_Family_laps (by decide +kernel) (aD (c:=cg) (aa (ae (eO (ns0:=["pieces","kept","words","left"]) TC.cl_Family TC.n_Family_words (i:=2) (by decide +kernel) (ai (i:=0)))) ac))) (jk (c0:="Family") (ns0:=["pieces","kept","words","left","laps"]) (i:=0) TC.cl_Family TC.n_Family_total (by decide +kernel) (aU AU (aa (ae (bD (ix:=[none]) rfl (cN (eO (ns0:=["pieces","kept","words","left","laps"]) TC.cl_Family TC.n_Family_words (i:=2) (by decide +kernel) (ai (i:=0)))) (fun fs hc=>(aC (i:=0) (iP hc (by decide)))) di (aU aO (aa (ai (i:=0)) ac)))) ac)))))))))) (fun p ds Q h=>Nat.le_trans (le_of_eq (ir p ds Q h)) (by decide)) mB h⟩
theorem iu:∀ds Q,aA ds Q->ds.length=1:=fun ds Q h=>by unfold aA at h;split at h;(first|rfl|exact h.elim);(first|rfl|exact h.elim)
theorem mK(D:sO K (cb K "Family") "many" "Family.many" cF)(T:Txt mg)(TC:TxC K):za P w K mg base 1 (cb K "Family") "many" ["self"] (spP K aA):=by
 refine D.ok mw (fun _ _ _ _ _ _ us hl=>match us,hl with|[_],_=>rfl) (fun vs H Q E h=>?_) (fun f cdv A outer s H vs Q E hr h=>?_)
 .exact iD iu h
 .have hu:=hr.units;exact⟨_,(aq (aQ (ak (bF K rfl) rfl T.b_len PySem.boot_len (paC (dr K rfl (pv 0) rfl) ah)))),fnP (K:=K) (c:=aA) (ps:=dP) (N:=["self"]) (aR (aU aO (aa (ae (eO (ns0:=["pieces","kept","words","left","laps","total"]) TC.cl_Family TC.n_Family_words (i:=2) (by decide +kernel) (ai (i:=0)))) ac))) (fun ds Q h=>Nat.le_trans (le_of_eq (iu ds Q h)) (by decide)) mC h⟩
theorem je:∀ds Q,bA ds Q->ds.length=2:=fun ds Q h=>by unfold bA at h;split at h;(first|rfl|exact h.elim);(first|rfl|exact h.elim)
theorem o5(D:ca K mg "_law_stream" gI)(T:Txt mg)(TC:TxC K):Cal P w K mg base 1 "_law_stream" ["_law_script","_law_k"] (spP K bA):=by
 refine D.ok fO (fun _ _ _ _ _ _ us hl=>match us,hl with|[_,_],_=>rfl) (fun vs H Q E h=>?_) (fun f cdv A outer s H vs Q E hr h=>?_)
 .exact iD je h
 .have hu:=hr.units;exact⟨_,(aj (aT (i:=2) fO.nd rfl (by walk_at "o") (bq (cR K rfl) (bq pY (bq pY (pv 1) (pv 1)) ay) ay)) (aj (nV (dB (bj yg (pv 1) (ak (bF K rfl) rfl T.b_len PySem.boot_len (paC (pv 0) ah)) (bH _)) (aq (aT (i:=2) fO.nd rfl (by walk_at "o") (ak EK rfl T.b_abs boot_abs (paC (bu (dC K rfl) (pv 0) (pv 1) (fun _ _=>rfl)) ah)))) bJ)) (aq (aQ (jK (paC (pv 2) (paC (bq (cR K rfl) (bq (cR K rfl) (bq mh (pv 2) ay) (bq pY (pv 1) ay)) ay) ah))))))),fnP (K:=K) (c:=bA) (ps:=eh) (N:=["_law_script","_law_k","_law_cell"]) (aB (aP (au bT (ae (au jQ (ae (au jQ (ai (i:=1)) (ai (i:=1)))) (ae le_int))) (ae le_int)) (aE (i:=2) rfl)) (aB (n9 (dD (iO (au n6 (ai (i:=1)) (ae (aU aO (aa (ai (i:=0)) ac))))) (aP (aU C8 (aa (ae (au bv (ai (i:=0)) (ai (i:=1)))) ac)) (aE (i:=2) rfl)) bN)) (aR (jO (aa (ae (al (i:=2))) (aa (ae (au bT (ae (au bT (ae (au h8 (ai (i:=2)) (ae le_int))) (ae (au jQ (ai (i:=1)) (ae le_int))))) (ae le_int))) ac)))))) (fun ds Q h=>Nat.le_trans (le_of_eq (je ds Q h)) (by decide)) oV h⟩
theorem lZ:∀p ds Q,ax p ds Q->ds.length+1=2:=fun p ds Q h=>by unfold ax at h;split at h;(first|rfl|exact h.elim);(first|rfl|exact h.elim)
theorem sB(D:ca K mg "_law_take" jx)(T:Txt mg)(TC:TxC K):Cal P w K mg base 1 "_law_take" ["_law_stream_here","_law_most"] (spR K ax):=by
 refine D.ok lr (fun _ _ _ _ _ _ us hl=>match us,hl with|[_,_],_=>rfl) (fun vs H Q E h=>?_) (fun f cdv A outer s H vs Q E hr h=>?_)
 .exact yn lZ h
 .have hu:=hr.units;exact⟨_,(aj (dB (bj wt (bu (dC K rfl) (pv 0) ay (fun _ _=>rfl)) ay (bH _)) (aj (aT (i:=2) lr.nd rfl (by walk_at "o") (bq mh (bu (dC K rfl) (pv 0) ay (fun _ _=>rfl)) (pv 1))) (aj (xf (bq zj (bu (dC K rfl) (pv 0) ay (fun _ _=>rfl)) (pv 1)) (yV (pv 0) ay sK)) (aq (aQ (pv 2))))) bJ) (aj (xf (bq mh (bq (cR K rfl) (bq pY (bu (dC K rfl) (pv 0) ay (fun _ _=>rfl)) ay) ay) ay) (yV (pv 0) ay sK)) (aq (aQ (bq mh (bq mh (bq pY (bu (dC K rfl) (pv 0) ay (fun _ _=>rfl)) (bu (dC K rfl) (pv 0) ay (fun _ _=>rfl))) ay) (pv 1)))))),fnR (K:=K) (c:=ax) (ps:=fW) (N:=["_law_stream_here","_law_most","_law_digit"]) (aB (dD (iO (au kQ (ae (au bv (ai (i:=0)) (ae le_int))) (ae le_int))) (aB (aP (au h8 (ae (au bv (ai (i:=0)) (ae le_int))) (ai (i:=1))) (aE (i:=2) rfl)) (aB (wd (i:=0) (au vX (ae (au bv (ai (i:=0)) (ae le_int))) (ai (i:=1))) le_int) (aR (al (i:=2))))) bN) (aB (wd (i:=0) (au h8 (ae (au bT (ae (au jQ (ae (au bv (ai (i:=0)) (ae le_int))) (ae le_int))) (ae le_int))) (ae le_int)) le_int) (aR (au h8 (ae (au h8 (ae (au jQ (ae (au bv (ai (i:=0)) (ae le_int))) (ae (au bv (ai (i:=0)) (ae le_int))))) (ae le_int))) (ai (i:=1)))))) (fun p ds Q h=>Nat.le_trans (le_of_eq (lZ p ds Q h)) (by decide)) sd h⟩
theorem iw:∀p ds Q,bB p ds Q->ds.length+1=1:=fun p ds Q h=>by unfold bB at h;split at h;(first|rfl|exact h.elim);(first|rfl|exact h.elim)
theorem mL(D:ca K mg "_law_letters" fK)(T:Txt mg)(TC:TxC K)(C_law_take:Cal P w K mg base 1 "_law_take" ["_law_stream_here","_law_most"] (spR K ax)):Cal P w K mg base 2 "_law_letters" ["_law_stream_here"] (spR K bB):=by
 refine D.ok e9 (fun _ _ _ _ _ _ us hl=>match us,hl with|[_],_=>rfl) (fun vs H Q E h=>?_) (fun f cdv A outer s H vs Q E hr h=>?_)
 .exact yn iw h
 .have hu:=hr.units;exact⟨_,(aj (aT (i:=1) e9.nd rfl (by walk_at "o") (ft (l:=[97,98,99,100,101,102,103,104,105,106,107,108,109,110,111,112,113,114,115,116,117,118,119,120,121,122]) (by decide +kernel))) (aj (aT (i:=2) e9.nd rfl (by walk_at "o") (aw C_law_take (hr.mono (by decide)) (paC (pv 0) (paC ay ah)))) (aj (dB (bj (ml K rfl hu) (pv 2) ay (bH _)) (aq (aQ (pv 1))) bJ) (aq (aQ (ga K rfl PySem.F.plainAttrs_str PySem.F.slot_str_join PySem.F.type_str_join (sW K rfl) (ft (l:=[]) (by decide +kernel)) (paC (bK (wi:=(qS (bf (tOp (uz K) (tC (V.int 2)) (tOp Di (bz 2) (tC (V.int 2)))) eY))) (g:=(cw 0)) (tts:=jN) (te:=(tOp (qP K) (bz 1) (ef (spR K ax) [] E0 (bf (bz 2) (bf (tC (V.int 26)) eY))))) ["_law_k","_law_alphabet","_law_stream_here"] [none,some 1,some 0] rfl (cH rfl T.b_range (paC (bq (cR K rfl) ay (bq mh (pv 2) ay)) ah)) (fun _ _ _ _=>⟨(aJ (i:=0) (by show List.Nodup (["_law_k","_law_alphabet","_law_stream_here"]:List Str);decide +kernel) rfl (by walk_at "o")),cq,(bu (dC K rfl) (pv 1) (aw C_law_take (hr.mono (by decide)) (paC (pv 2) (paC ay ah))) (fun _ _=>rfl))⟩) (by kernel_rfl)) ah))))))),fnR (K:=K) (c:=bB) (ps:=dQ) (N:=["_law_stream_here","_law_alphabet","_law_way"]) (aB (aP (le_str (l:=[97,98,99,100,101,102,103,104,105,106,107,108,109,110,111,112,113,114,115,116,117,118,119,120,121,122])) (aE (i:=1) rfl)) (aB (aP (bd (i:=0) (aa (ae le_int) ac)) (aE (i:=2) rfl)) (aB (dD (iO (au ia (ai (i:=2)) (ae le_int))) (aR (al (i:=1))) bN) (aR (um sY (le_str (l:=[])) (aa (ae (bD (ix:=[none,some 1,some 0]) rfl (ki (aa (ae (au bT (ae le_int) (ae (au h8 (ai (i:=2)) (ae le_int))))) ac)) (fun fs hc=>(aC (i:=0) (iP hc (by decide)))) di (au bv (ai (i:=1)) (ae (bd (i:=2) (aa (ae le_int) ac)))))) ac)))))) (fun p ds Q h=>Nat.le_trans (le_of_eq (iw p ds Q h)) (by decide)) mE h⟩
theorem l4:∀p ds Q,cj p ds Q->ds.length+1=3:=fun p ds Q h=>by unfold cj at h;split at h;(first|rfl|exact h.elim);(first|rfl|exact h.elim)
theorem sC(D:ca K mg "_law_word" jy)(T:Txt mg)(TC:TxC K)(C_law_take:Cal P w K mg base 1 "_law_take" ["_law_stream_here","_law_most"] (spR K ax)):Cal P w K mg base 2 "_law_word" ["_law_stream_here","_law_letters_here","_law_most"] (spR K cj):=by
 refine D.ok rN (fun _ _ _ _ _ _ us hl=>match us,hl with|[_,_,_],_=>rfl) (fun vs H Q E h=>?_) (fun f cdv A outer s H vs Q E hr h=>?_)
 .exact yn l4 h
 .have hu:=hr.units;exact⟨_,(aq (aQ (ga K rfl PySem.F.plainAttrs_str PySem.F.slot_str_join PySem.F.type_str_join (sW K rfl) (ft (l:=[]) (by decide +kernel)) (paC (bK (wi:=(qS (bf (tOp (uz K) (tC (V.int 1)) (ef (spR K ax) [] E0 (bf (bz 0) (bf (bz 2) eY)))) eY))) (g:=(cw 0)) (tts:=jN) (te:=(tOp (qP K) (bz 1) (ef (spR K ax) [] E0 (bf (bz 2) (bf (tCB (n8 K) (bf (bz 1) eY)) eY))))) ["_law_k","_law_letters_here","_law_stream_here"] [none,some 1,some 0] rfl (cH rfl T.b_range (paC (bq (cR K rfl) ay (aw C_law_take (hr.mono (by decide)) (paC (pv 0) (paC (pv 2) ah)))) ah)) (fun _ _ _ _=>⟨(aJ (i:=0) (by show List.Nodup (["_law_k","_law_letters_here","_law_stream_here"]:List Str);decide +kernel) rfl (by walk_at "o")),cq,(bu (dC K rfl) (pv 1) (aw C_law_take (hr.mono (by decide)) (paC (pv 2) (paC (ak (bF K rfl) rfl T.b_len PySem.boot_len (paC (pv 1) ah)) ah))) (fun _ _=>rfl))⟩) (by kernel_rfl)) ah)))),fnR (K:=K) (c:=cj) (ps:=fX) (N:=["_law_stream_here","_law_letters_here","_law_most"]) (aR (um sY (le_str (l:=[])) (aa (ae (bD (ix:=[none,some 1,some 0]) rfl (ki (aa (ae (au bT (ae le_int) (ae (bd (i:=0) (aa (ae (al (i:=2))) ac))))) ac)) (fun fs hc=>(aC (i:=0) (iP hc (by decide)))) di (au bv (ai (i:=1)) (ae (bd (i:=2) (aa (ae (aU aO (aa (ai (i:=1)) ac))) ac)))))) ac))) (fun p ds Q h=>Nat.le_trans (le_of_eq (l4 p ds Q h)) (by decide)) se h⟩
theorem nH:∀p ds Q,cK p ds Q->ds.length+1=3:=fun p ds Q h=>by unfold cK at h;split at h;(first|rfl|exact h.elim);(first|rfl|exact h.elim)
theorem uP(D:ca K mg "_law_cut" li)(T:Txt mg)(TC:TxC K)(C_law_take:Cal P w K mg base 1 "_law_take" ["_law_stream_here","_law_most"] (spR K ax)):Cal P w K mg base 2 "_law_cut" ["_law_stream_here","_law_text","_law_most"] (spR K cK):=by
 refine D.ok nk (fun _ _ _ _ _ _ us hl=>match us,hl with|[_,_,_],_=>rfl) (fun vs H Q E h=>?_) (fun f cdv A outer s H vs Q E hr h=>?_)
 .exact yn nH h
 .have hu:=hr.units;exact⟨_,(aj (aT (i:=3) nk.nd rfl (by walk_at "o") (aw C_law_take (hr.mono (by decide)) (paC (pv 0) (paC (ak (bF K rfl) rfl T.b_len PySem.boot_len (paC (pv 1) ah)) ah)))) (aq (aQ (bW (o8 K rfl) (pv 1) (cD (pv 3)) (cD (bq (cR K rfl) (bq (cR K rfl) (pv 3) ay) (aw C_law_take (hr.mono (by decide)) (paC (pv 0) (paC (pv 2) ah))))))))),fnR (K:=K) (c:=cK) (ps:=g6) (N:=["_law_stream_here","_law_text","_law_most","_law_at"]) (aB (aP (bd (i:=0) (aa (ae (aU aO (aa (ai (i:=1)) ac))) ac)) (aE (i:=3) rfl)) (aR (bX (ai (i:=1)) (bM (al (i:=3))) (bM (au bT (ae (au bT (ai (i:=3)) (ae le_int))) (ae (bd (i:=0) (aa (ae (al (i:=2))) ac)))))))) (fun p ds Q h=>Nat.le_trans (le_of_eq (nH p ds Q h)) (by decide)) uI h⟩
theorem jf:∀p ds Q,bO p ds Q->ds.length+1=3:=fun p ds Q h=>by unfold bO at h;split at h;(first|rfl|exact h.elim);(first|rfl|exact h.elim)
theorem o7(D:ca K mg "_law_pieces" gJ)(T:Txt mg)(TC:TxC K)(C_law_cut:Cal P w K mg base 2 "_law_cut" ["_law_stream_here","_law_text","_law_most"] (spR K cK))(C_law_letters:Cal P w K mg base 2 "_law_letters" ["_law_stream_here"] (spR K bB))(C_law_take:Cal P w K mg base 1 "_law_take" ["_law_stream_here","_law_most"] (spR K ax))(C_law_word:Cal P w K mg base 2 "_law_word" ["_law_stream_here","_law_letters_here","_law_most"] (spR K cj)):Cal P w K mg base 3 "_law_pieces" ["_law_stream_here","_law_many","_law_most"] (spR K bO):=by
 refine D.ok bn (fun _ _ _ _ _ _ us hl=>match us,hl with|[_,_,_],_=>rfl) (fun vs H Q E h=>?_) (fun f cdv A outer s H vs Q E hr h=>?_)
 .exact yn jf h
 .have hu:=hr.units;exact⟨_,(aj (aT (i:=3) bn.nd rfl (by walk_at "o") (aw C_law_letters (hr.mono (by decide)) (paC (pv 0) ah))) (aj (aT (i:=4) bn.nd rfl (by walk_at "o") (aw C_law_word (hr.mono (by decide)) (paC (pv 0) (paC (pv 3) (paC (bq pY ay (pv 2)) ah))))) (aj (nV (dB (bj (ml K rfl hu) (aw C_law_take (hr.mono (by decide)) (paC (pv 0) (paC ay ah))) ay (bH _)) (aq (aT (i:=4) bn.nd rfl (by walk_at "o") (bq pY (bW (o8 K rfl) (pv 4) cP (cD (bq (cR K rfl) ay (aw C_law_take (hr.mono (by decide)) (paC (pv 0) (paC ay ah)))))) (pv 2)))) bJ)) (aj (aT (i:=5) bn.nd rfl (by walk_at "o") (jK ah)) (aj (en PassesOwn.never rfl (cH rfl T.b_range (paC (pv 1) ah)) (aJ (i:=6) bn.nd rfl (by walk_at "o")) (aj (aT (i:=7) bn.nd rfl (by walk_at "o") (aw C_law_take (hr.mono (by decide)) (paC (pv 0) (paC ay ah)))) (aj (nV (dB (PW.pt (yS (bj wt (pv 7) ay (bH _)) (uX (bj wt (ak (bF K rfl) rfl T.b_len PySem.boot_len (paC (pv 5) ah)) ay (bH _))))) (aj (aT (i:=8) bn.nd rfl (by walk_at "o") (bu (dC K rfl) (pv 5) (aw C_law_take (hr.mono (by decide)) (paC (pv 0) (paC (ak (bF K rfl) rfl T.b_len PySem.boot_len (paC (pv 5) ah)) ah))) (fun _ _=>rfl))) (aq (dB (bj (ml K rfl hu) (pv 7) ay (bH _)) (aq (aT (i:=8) bn.nd rfl (by walk_at "o") (aw C_law_cut (hr.mono (by decide)) (paC (pv 0) (paC (pv 8) (paC (pv 2) ah)))))) bJ))) (aq (dB (bj (ml K rfl hu) (bq mh (pv 7) ay) ay (bH _)) (aq (aT (i:=8) bn.nd rfl (by walk_at "o") (aw C_law_cut (hr.mono (by decide)) (paC (pv 0) (paC (pv 4) (paC (pv 2) ah)))))) (aq (aT (i:=8) bn.nd rfl (by walk_at "o") (aw C_law_word (hr.mono (by decide)) (paC (pv 0) (paC (pv 3) (paC (pv 2) ah)))))))))) (aq (gu (ga K rfl PySem.F.plainAttrs_list PySem.F.slot_list_append PySem.F.type_list_append gy (pv 5) (paC (pv 8) ah))))))) (aq (aQ (pv 5)))))))),fnR (K:=K) (c:=bO) (ps:=ei) (N:=["_law_stream_here","_law_many","_law_most","_law_letters_here","_law_base","_law_found","_law_k","_law_way","_law_piece"]) (aB (aP (bd (i:=0) ac) (aE (i:=3) rfl)) (aB (aP (bd (i:=0) (aa (ae (al (i:=3))) (aa (ae (au jQ (ae le_int) (ai (i:=2)))) ac))) (aE (i:=4) rfl)) (aB (n9 (dD (iO (au ia (ae (bd (i:=0) (aa (ae le_int) ac))) (ae le_int))) (aP (au jQ (ae (bX (ai (i:=4)) bZ (bM (au bT (ae le_int) (ae (bd (i:=0) (aa (ae le_int) ac))))))) (ai (i:=2))) (aE (i:=4) rfl)) bN)) (aB (aP (jO ac) (aE (i:=5) rfl)) (aB (et (ki (aa (ae (al (i:=1))) ac)) (aC (i:=6) rfl) (aB (aP (bd (i:=0) (aa (ae le_int) ac)) (aE (i:=7) rfl)) (aB (n9 (dD (zb (iO (au kQ (ai (i:=7)) (ae le_int))) (iO (au kQ (ae (aU aO (aa (ai (i:=5)) ac))) (ae le_int)))) (aB (aP (au bv (ai (i:=5)) (ae (bd (i:=0) (aa (ae (aU aO (aa (ai (i:=5)) ac))) ac)))) (aE (i:=8) rfl)) (dD (iO (au ia (ai (i:=7)) (ae le_int))) (aP (bd (i:=0) (aa (ae (al (i:=8))) (aa (ae (al (i:=2))) ac))) (aE (i:=8) rfl)) bN)) (dD (iO (au ia (ae (au h8 (ai (i:=7)) (ae le_int))) (ae le_int))) (aP (bd (i:=0) (aa (ae (al (i:=4))) (aa (ae (al (i:=2))) ac))) (aE (i:=8) rfl)) (aP (bd (i:=0) (aa (ae (al (i:=3))) (aa (ae (al (i:=2))) ac))) (aE (i:=8) rfl))))) (gC (sR (i:=5) (al (i:=8))))))) (aR (al (i:=5)))))))) (fun p ds Q h=>Nat.le_trans (le_of_eq (jf p ds Q h)) (by decide)) oW h⟩
theorem iy:∀ds Q,a9 ds Q->ds.length=2:=fun ds Q h=>by unfold a9 at h;split at h;(first|rfl|exact h.elim);(first|rfl|exact h.elim)
theorem mM(D:ca K mg "_law_is_left" fL)(T:Txt mg)(TC:TxC K):Cal P w K mg base 1 "_law_is_left" ["_law_pieces_here","_law_k"] (spP K a9):=by
 refine D.ok ic (fun _ _ _ _ _ _ us hl=>match us,hl with|[_,_],_=>rfl) (fun vs H Q E h=>?_) (fun f cdv A outer s H vs Q E hr h=>?_)
 .exact iD iy h
 .have hu:=hr.units;exact⟨_,(aj (en PassesOwn.never rfl (cM K rfl (pv 0)) (aJ (i:=2) ic.nd rfl (by walk_at "o")) (aq (dB (PW.pt (yS (bj wt (ak (bF K rfl) rfl T.b_len PySem.boot_len (paC (pv 2) ah)) (ak (bF K rfl) rfl T.b_len PySem.boot_len (paC (bu (dC K rfl) (pv 0) (pv 1) (fun _ _=>rfl)) ah)) (bH _)) (uX (bj Fy (ga K rfl PySem.F.plainAttrs_str PySem.F.slot_str_find PySem.F.type_str_find oi (pv 2) (paC (bu (dC K rfl) (pv 0) (pv 1) (fun _ _=>rfl)) ah)) ay (bH _))))) (aq (aQ md)) bJ))) (aq (aQ (gv (E2 K rfl) (bu (dC K rfl) (pv 0) (pv 1) (fun _ _=>rfl)) (bW (o8 K rfl) (pv 0) cP (cD (pv 1))) (by with_unfolding_all rfl))))),fnP (K:=K) (c:=a9) (ps:=dR) (N:=["_law_pieces_here","_law_k","_law_other"]) (aB (et (cN (al (i:=0))) (aC (i:=2) rfl) (dD (zb (iO (au kQ (ae (aU aO (aa (ai (i:=2)) ac))) (ae (aU aO (aa (ae (au bv (ai (i:=0)) (ai (i:=1)))) ac))))) (iO (au CT (ae (um oj (al (i:=2)) (aa (ae (au bv (ai (i:=0)) (ai (i:=1)))) ac))) (ae le_int)))) (aR mf) bN)) (aR (au w9 (ae (au bv (ai (i:=0)) (ai (i:=1)))) (ae (bX (ai (i:=0)) bZ (bM (al (i:=1)))))))) (fun ds Q h=>Nat.le_trans (le_of_eq (iy ds Q h)) (by decide)) mG h⟩
theorem l5:∀ds Q,bV ds Q->ds.length=1:=fun ds Q h=>by unfold bV at h;split at h;(first|rfl|exact h.elim);(first|rfl|exact h.elim)
theorem sD(D:ca K mg "_law_kept" jA)(T:Txt mg)(TC:TxC K)(C_law_is_left:Cal P w K mg base 1 "_law_is_left" ["_law_pieces_here","_law_k"] (spP K a9)):Cal P w K mg base 2 "_law_kept" ["_law_pieces_here"] (spP K bV):=by
 refine D.ok rO (fun _ _ _ _ _ _ us hl=>match us,hl with|[_],_=>rfl) (fun vs H Q E h=>?_) (fun f cdv A outer s H vs Q E hr h=>?_)
 .exact iD l5 h
 .have hu:=hr.units;exact⟨_,(aq (aQ (bK (wi:=(qS (bf (tCB (n8 K) (bf (bz 0) eY)) eY))) (g:=(cw 0)) (tts:=(D4 (tB (ef (spP K a9) [] E0 (bf (bz 1) (bf (bz 0) eY)))))) (te:=(bz 0)) ["_law_k","_law_pieces_here"] [none,some 0] rfl (cH rfl T.b_range (paC (ak (bF K rfl) rfl T.b_len PySem.boot_len (paC (pv 0) ah)) ah)) (fun _ _ _ _=>⟨(aJ (i:=0) (by show List.Nodup (["_law_k","_law_pieces_here"]:List Str);decide +kernel) rfl (by walk_at "o")),(jh (jJ (eB (aw C_law_is_left (hr.mono (by decide)) (paC (pv 1) (paC (pv 0) ah)))))),(pv 0)⟩) (by kernel_rfl)))),fnP (K:=K) (c:=bV) (ps:=fY) (N:=["_law_pieces_here"]) (aR (bD (ix:=[none,some 0]) rfl (ki (aa (ae (aU aO (aa (ai (i:=0)) ac))) ac)) (fun fs hc=>(aC (i:=0) (iP hc (by decide)))) (jP (uT (aD (c:=a9) (aa (ae (al (i:=1))) (aa (ae (al (i:=0))) ac))))) (al (i:=0)))) (fun ds Q h=>Nat.le_trans (le_of_eq (l5 ds Q h)) (by decide)) sg h⟩
theorem nI:∀ds Q,aX ds Q->ds.length=2:=fun ds Q h=>by unfold aX at h;split at h;(first|rfl|exact h.elim);(first|rfl|exact h.elim)
theorem uQ(D:ca K mg "_law_lap" lm)(T:Txt mg)(TC:TxC K):Cal P w K mg base 1 "_law_lap" ["_law_one_here","_law_other"] (spP K aX):=by
 refine D.ok nq (fun _ _ _ _ _ _ us hl=>match us,hl with|[_,_],_=>rfl) (fun vs H Q E h=>?_) (fun f cdv A outer s H vs Q E hr h=>?_)
 .exact iD nI h
 .have hu:=hr.units;exact⟨_,(aj (en PassesOwn.never rfl (pN rfl T.b_range (paC (bq oq (ak (wf rfl) rfl T.b_min boot_min (paC (ak (bF K rfl) rfl T.b_len PySem.boot_len (paC (pv 0) ah)) (paC (ak (bF K rfl) rfl T.b_len PySem.boot_len (paC (pv 1) ah)) ah))) ay) (paC ay (paC (u5 pz ay) ah)))) (aJ (i:=2) nq.nd rfl (by walk_at "o")) (aq (dB (bj (ml K rfl hu) (bW (o8 K rfl) (pv 0) (cD (bq oq (ak (bF K rfl) rfl T.b_len PySem.boot_len (paC (pv 0) ah)) (pv 2))) cP) (bW (o8 K rfl) (pv 1) cP (cD (pv 2))) (bH _)) (aq (aQ (pv 2))) bJ))) (aq (aQ ay))),fnP (K:=K) (c:=aX) (ps:=g9) (N:=["_law_one_here","_law_other","_law_k"]) (aB (et (C3 (aa (ae (au iY (ae (aU rj (aa (ae (aU aO (aa (ai (i:=0)) ac))) (aa (ae (aU aO (aa (ai (i:=1)) ac))) ac)))) (ae le_int))) (aa (ae le_int) (aa (ae (vW p7 (ae le_int))) ac)))) (aC (i:=2) rfl) (dD (iO (au ia (ae (bX (ai (i:=0)) (bM (au iY (ae (aU aO (aa (ai (i:=0)) ac))) (ai (i:=2)))) bZ)) (ae (bX (ai (i:=1)) bZ (bM (al (i:=2))))))) (aR (al (i:=2))) bN)) (aR le_int)) (fun ds Q h=>Nat.le_trans (le_of_eq (nI ds Q h)) (by decide)) uJ h⟩
theorem gP:∀p ds Q,bp p ds Q->ds.length+1=2:=fun p ds Q h=>by unfold bp at h;split at h;(first|rfl|exact h.elim);(first|rfl|exact h.elim)
theorem l6(D:ca K mg "_law_shuffled" e8)(T:Txt mg)(TC:TxC K)(C_law_take:Cal P w K mg base 1 "_law_take" ["_law_stream_here","_law_most"] (spR K ax)):Cal P w K mg base 2 "_law_shuffled" ["_law_stream_here","_law_row_here"] (spR K bp):=by
 refine D.ok eH (fun _ _ _ _ _ _ us hl=>match us,hl with|[_,_],_=>rfl) (fun vs H Q E h=>?_) (fun f cdv A outer s H vs Q E hr h=>?_)
 .exact yn gP h
 .have hu:=hr.units;exact⟨_,(aj (aT (i:=2) eH.nd rfl (by walk_at "o") (cr (zg K rfl) rfl T.b_list boot_list (paC (pv 1) ah))) (aj (aT (i:=3) eH.nd rfl (by walk_at "o") (jK ah)) (aj (xG PassesOwn.never (bj (Dk K rfl hu) (pv 2) (jK ah) (bH _)) (aq (gu (ga K rfl PySem.F.plainAttrs_list PySem.F.slot_list_append PySem.F.type_list_append gy (pv 3) (paC (ga K rfl PySem.F.plainAttrs_list PySem.F.slot_list_pop PySem.F.type_list_pop xU (pv 2) (paC (aw C_law_take (hr.mono (by decide)) (paC (pv 0) (paC (ak (bF K rfl) rfl T.b_len PySem.boot_len (paC (pv 2) ah)) ah))) ah)) ah))))) (aq (aQ (pv 3)))))),fnR (K:=K) (c:=bp) (ps:=dy) (N:=["_law_stream_here","_law_row_here","_law_left","_law_found"]) (aB (aP (aU wo (aa (ai (i:=1)) ac)) (aE (i:=2) rfl)) (aB (aP (jO ac) (aE (i:=3) rfl)) (aB (yi (iO (au zm (ai (i:=2)) (ae (jO ac)))) (gC (sR (i:=3) (yv (i:=2) (bd (i:=0) (aa (ae (aU aO (aa (ai (i:=2)) ac))) ac)))))) (aR (al (i:=3)))))) (fun p ds Q h=>Nat.le_trans (le_of_eq (gP p ds Q h)) (by decide)) lQ h⟩
theorem l8:∀ds Q,ck ds Q->ds.length=2:=fun ds Q h=>by unfold ck at h;split at h;(first|rfl|exact h.elim);(first|rfl|exact h.elim)
theorem sE(D:ca K mg "_law_ring" jB)(T:Txt mg)(TC:TxC K)(C_law_lap:Cal P w K mg base 1 "_law_lap" ["_law_one_here","_law_other"] (spP K aX)):Cal P w K mg base 2 "_law_ring" ["_law_words","_law_order"] (spP K ck):=by
 refine D.ok eI (fun _ _ _ _ _ _ us hl=>match us,hl with|[_,_],_=>rfl) (fun vs H Q E h=>?_) (fun f cdv A outer s H vs Q E hr h=>?_)
 .exact iD l8 h
 .have hu:=hr.units;exact⟨_,(aj (aT (i:=2) eI.nd rfl (by walk_at "o") (ft (l:=[]) (by decide +kernel))) (aj (en PassesOwn.never rfl (cH rfl T.b_range (paC (ak (bF K rfl) rfl T.b_len PySem.boot_len (paC (pv 1) ah)) ah)) (aJ (i:=3) eI.nd rfl (by walk_at "o")) (aj (aT (i:=4) eI.nd rfl (by walk_at "o") (bu (dC K rfl) (pv 0) (bu (dC K rfl) (pv 1) (pv 3) (fun _ _=>rfl)) (fun _ _=>rfl))) (aq (aT (i:=2) eI.nd rfl (by walk_at "o") (bq (cR K rfl) (pv 2) (bW (o8 K rfl) (pv 4) cP (cD (bq oq (ak (bF K rfl) rfl T.b_len PySem.boot_len (paC (pv 4) ah)) (aw C_law_lap (hr.mono (by decide)) (paC (pv 4) (paC (bu (dC K rfl) (pv 0) (bu (dC K rfl) (pv 1) (bq mh (bq (cR K rfl) (pv 3) ay) (ak (bF K rfl) rfl T.b_len PySem.boot_len (paC (pv 1) ah))) (fun _ _=>rfl)) (fun _ _=>rfl)) ah))))))))))) (aq (aQ (pv 2))))),fnP (K:=K) (c:=ck) (ps:=fZ) (N:=["_law_words","_law_order","_law_text","_law_k","_law_word_here"]) (aB (aP (le_str (l:=[])) (aE (i:=2) rfl)) (aB (et (ki (aa (ae (aU aO (aa (ai (i:=1)) ac))) ac)) (aC (i:=3) rfl) (aB (aP (au bv (ai (i:=0)) (ae (au bv (ai (i:=1)) (ai (i:=3))))) (aE (i:=4) rfl)) (aP (au bT (ai (i:=2)) (ae (bX (ai (i:=4)) bZ (bM (au iY (ae (aU aO (aa (ai (i:=4)) ac))) (ae (aD (c:=aX) (aa (ae (al (i:=4))) (aa (ae (au bv (ai (i:=0)) (ae (au bv (ai (i:=1)) (ae (au h8 (ae (au bT (ai (i:=3)) (ae le_int))) (ae (aU aO (aa (ai (i:=1)) ac))))))))) ac))))))))) (aE (i:=2) rfl)))) (aR (al (i:=2))))) (fun ds Q h=>Nat.le_trans (le_of_eq (l8 ds Q h)) (by decide)) si h⟩
theorem j8:∀ds Q,bP ds Q->ds.length=3:=fun ds Q h=>by unfold bP at h;split at h;(first|rfl|exact h.elim);(first|rfl|exact h.elim)
theorem qL(D:ca K mg "_law_reads" iI)(T:Txt mg)(TC:TxC K):Cal P w K mg base 1 "_law_reads" ["_law_ring_here","_law_place","_law_size"] (spP K bP):=by
 refine D.ok jV (fun _ _ _ _ _ _ us hl=>match us,hl with|[_,_,_],_=>rfl) (fun vs H Q E h=>?_) (fun f cdv A outer s H vs Q E hr h=>?_)
 .exact iD j8 h
 .have hu:=hr.units;exact⟨_,(aj (aT (i:=3) jV.nd rfl (by walk_at "o") (bq (cR K rfl) (bW (o8 K rfl) (pv 0) (cD (pv 1)) cP) (bq pY (pv 0) (bq (cR K rfl) (bq zj (pv 2) (ak (bF K rfl) rfl T.b_len PySem.boot_len (paC (pv 0) ah))) ay)))) (aq (aQ (bW (o8 K rfl) (pv 3) cP (cD (pv 2)))))),fnP (K:=K) (c:=bP) (ps:=eT) (N:=["_law_ring_here","_law_place","_law_size","_law_text"]) (aB (aP (au bT (ae (bX (ai (i:=0)) (bM (al (i:=1))) bZ)) (ae (au jQ (ai (i:=0)) (ae (au bT (ae (au vX (ai (i:=2)) (ae (aU aO (aa (ai (i:=0)) ac))))) (ae le_int)))))) (aE (i:=3) rfl)) (aR (bX (ai (i:=3)) bZ (bM (al (i:=2)))))) (fun ds Q h=>Nat.le_trans (le_of_eq (j8 ds Q h)) (by decide)) qF h⟩
theorem j9:∀ds Q,aL ds Q->ds.length=2:=fun ds Q h=>by unfold aL at h;split at h;(first|rfl|exact h.elim);(first|rfl|exact h.elim)
theorem qM(D:ca K mg "_law_first" iJ)(T:Txt mg)(TC:TxC K)(C_law_reads:Cal P w K mg base 1 "_law_reads" ["_law_ring_here","_law_place","_law_size"] (spP K bP)):Cal P w K mg base 2 "_law_first" ["_law_ring_here","_law_word_here"] (spP K aL):=by
 refine D.ok jW (fun _ _ _ _ _ _ us hl=>match us,hl with|[_,_],_=>rfl) (fun vs H Q E h=>?_) (fun f cdv A outer s H vs Q E hr h=>?_)
 .exact iD j9 h
 .have hu:=hr.units;exact⟨_,(aj (en PassesOwn.never rfl (cH rfl T.b_range (paC (ak (bF K rfl) rfl T.b_len PySem.boot_len (paC (pv 0) ah)) ah)) (aJ (i:=2) jW.nd rfl (by walk_at "o")) (aq (dB (bj (ml K rfl hu) (aw C_law_reads (hr.mono (by decide)) (paC (pv 0) (paC (pv 2) (paC (ak (bF K rfl) rfl T.b_len PySem.boot_len (paC (pv 1) ah)) ah)))) (pv 1) (bH _)) (aq (aQ (pv 2))) bJ))) (aq (aQ (u5 pz ay)))),fnP (K:=K) (c:=aL) (ps:=eU) (N:=["_law_ring_here","_law_word_here","_law_place"]) (aB (et (ki (aa (ae (aU aO (aa (ai (i:=0)) ac))) ac)) (aC (i:=2) rfl) (dD (iO (au ia (ae (aD (c:=bP) (aa (ae (al (i:=0))) (aa (ae (al (i:=2))) (aa (ae (aU aO (aa (ai (i:=1)) ac))) ac))))) (ai (i:=1)))) (aR (al (i:=2))) bN)) (aR (vW p7 (ae le_int)))) (fun ds Q h=>Nat.le_trans (le_of_eq (j9 ds Q h)) (by decide)) qG h⟩
theorem l9:∀p ds Q,cG p ds Q->ds.length+1=3:=fun p ds Q h=>by unfold cG at h;split at h;(first|rfl|exact h.elim);(first|rfl|exact h.elim)
theorem sF(D:ca K mg "_law_laid" jC)(T:Txt mg)(TC:TxC K)(C_law_lap:Cal P w K mg base 1 "_law_lap" ["_law_one_here","_law_other"] (spP K aX))(C_law_take:Cal P w K mg base 1 "_law_take" ["_law_stream_here","_law_most"] (spR K ax)):Cal P w K mg base 2 "_law_laid" ["_law_stream_here","_law_words","_law_order"] (spR K cG):=by
 refine D.ok dg (fun _ _ _ _ _ _ us hl=>match us,hl with|[_,_,_],_=>rfl) (fun vs H Q E h=>?_) (fun f cdv A outer s H vs Q E hr h=>?_)
 .exact yn l9 h
 .have hu:=hr.units;exact⟨_,(aj (aT (i:=3) dg.nd rfl (by walk_at "o") (ft (l:=[]) (by decide +kernel))) (aj (en PassesOwn.never rfl (cH rfl T.b_range (paC (ak (bF K rfl) rfl T.b_len PySem.boot_len (paC (pv 2) ah)) ah)) (aJ (i:=4) dg.nd rfl (by walk_at "o")) (aj (aT (i:=5) dg.nd rfl (by walk_at "o") (bu (dC K rfl) (pv 1) (bu (dC K rfl) (pv 2) (pv 4) (fun _ _=>rfl)) (fun _ _=>rfl))) (aq (dB (bj wt (aw C_law_take (hr.mono (by decide)) (paC (pv 0) (paC ay ah))) ay (bH _)) (aq (aT (i:=3) dg.nd rfl (by walk_at "o") (bq (cR K rfl) (pv 3) (bW (o8 K rfl) (pv 5) cP (cD (bq oq (ak (bF K rfl) rfl T.b_len PySem.boot_len (paC (pv 5) ah)) (aw C_law_lap (hr.mono (by decide)) (paC (pv 5) (paC (bu (dC K rfl) (pv 1) (bu (dC K rfl) (pv 2) (bq mh (bq (cR K rfl) (pv 4) ay) (ak (bF K rfl) rfl T.b_len PySem.boot_len (paC (pv 2) ah))) (fun _ _=>rfl)) (fun _ _=>rfl)) ah))))))))) (aq (aT (i:=3) dg.nd rfl (by walk_at "o") (bq (cR K rfl) (bq (cR K rfl) (pv 3) (pv 5)) (bW (o8 K rfl) (ft (l:=[120,121]) (by decide +kernel)) cP (cD (aw C_law_take (hr.mono (by decide)) (paC (pv 0) (paC ay ah)))))))))))) (aj (aT (i:=6) dg.nd rfl (by walk_at "o") (aw C_law_take (hr.mono (by decide)) (paC (pv 0) (paC (ak (bF K rfl) rfl T.b_len PySem.boot_len (paC (pv 3) ah)) ah)))) (aq (aQ (bq (cR K rfl) (bW (o8 K rfl) (pv 3) (cD (pv 6)) cP) (bW (o8 K rfl) (pv 3) cP (cD (pv 6))))))))),fnR (K:=K) (c:=cG) (ps:=f8) (N:=["_law_stream_here","_law_words","_law_order","_law_text","_law_k","_law_word_here","_law_at"]) (aB (aP (le_str (l:=[])) (aE (i:=3) rfl)) (aB (et (ki (aa (ae (aU aO (aa (ai (i:=2)) ac))) ac)) (aC (i:=4) rfl) (aB (aP (au bv (ai (i:=1)) (ae (au bv (ai (i:=2)) (ai (i:=4))))) (aE (i:=5) rfl)) (dD (iO (au kQ (ae (bd (i:=0) (aa (ae le_int) ac))) (ae le_int))) (aP (au bT (ai (i:=3)) (ae (bX (ai (i:=5)) bZ (bM (au iY (ae (aU aO (aa (ai (i:=5)) ac))) (ae (aD (c:=aX) (aa (ae (al (i:=5))) (aa (ae (au bv (ai (i:=1)) (ae (au bv (ai (i:=2)) (ae (au h8 (ae (au bT (ai (i:=4)) (ae le_int))) (ae (aU aO (aa (ai (i:=2)) ac))))))))) ac))))))))) (aE (i:=3) rfl)) (aP (au bT (ae (au bT (ai (i:=3)) (ai (i:=5)))) (ae (bX (ae (le_str (l:=[120,121]))) bZ (bM (bd (i:=0) (aa (ae le_int) ac)))))) (aE (i:=3) rfl))))) (aB (aP (bd (i:=0) (aa (ae (aU aO (aa (ai (i:=3)) ac))) ac)) (aE (i:=6) rfl)) (aR (au bT (ae (bX (ai (i:=3)) (bM (al (i:=6))) bZ)) (ae (bX (ai (i:=3)) bZ (bM (al (i:=6)))))))))) (fun p ds Q h=>Nat.le_trans (le_of_eq (l9 p ds Q h)) (by decide)) sj h⟩
theorem nJ:∀ds Q,cL ds Q->ds.length=2:=fun ds Q h=>by unfold cL at h;split at h;(first|rfl|exact h.elim);(first|rfl|exact h.elim)
theorem uR(D:ca K mg "_law_row" ln)(T:Txt mg)(TC:TxC K)(C_law_lap:Cal P w K mg base 1 "_law_lap" ["_law_one_here","_law_other"] (spP K aX)):Cal P w K mg base 2 "_law_row" ["_law_words","_law_order"] (spP K cL):=by
 refine D.ok gW (fun _ _ _ _ _ _ us hl=>match us,hl with|[_,_],_=>rfl) (fun vs H Q E h=>?_) (fun f cdv A outer s H vs Q E hr h=>?_)
 .exact iD nJ h
 .have hu:=hr.units;exact⟨_,(aj (aT (i:=2) gW.nd rfl (by walk_at "o") (bu (dC K rfl) (pv 0) (bu (dC K rfl) (pv 1) ay (fun _ _=>rfl)) (fun _ _=>rfl))) (aj (en PassesOwn.never rfl (u0 rfl T.b_range (paC ay (paC (ak (bF K rfl) rfl T.b_len PySem.boot_len (paC (pv 1) ah)) ah))) (aJ (i:=3) gW.nd rfl (by walk_at "o")) (aq (aT (i:=2) gW.nd rfl (by walk_at "o") (bq (cR K rfl) (pv 2) (bW (o8 K rfl) (bu (dC K rfl) (pv 0) (bu (dC K rfl) (pv 1) (pv 3) (fun _ _=>rfl)) (fun _ _=>rfl)) (cD (aw C_law_lap (hr.mono (by decide)) (paC (bu (dC K rfl) (pv 0) (bu (dC K rfl) (pv 1) (bq oq (pv 3) ay) (fun _ _=>rfl)) (fun _ _=>rfl)) (paC (bu (dC K rfl) (pv 0) (bu (dC K rfl) (pv 1) (pv 3) (fun _ _=>rfl)) (fun _ _=>rfl)) ah)))) cP))))) (aq (aQ (pv 2))))),fnP (K:=K) (c:=cL) (ps:=hC) (N:=["_law_words","_law_order","_law_text","_law_k"]) (aB (aP (au bv (ai (i:=0)) (ae (au bv (ai (i:=1)) (ae le_int)))) (aE (i:=2) rfl)) (aB (et (EH (aa (ae le_int) (aa (ae (aU aO (aa (ai (i:=1)) ac))) ac))) (aC (i:=3) rfl) (aP (au bT (ai (i:=2)) (ae (bX (ae (au bv (ai (i:=0)) (ae (au bv (ai (i:=1)) (ai (i:=3)))))) (bM (aD (c:=aX) (aa (ae (au bv (ai (i:=0)) (ae (au bv (ai (i:=1)) (ae (au iY (ai (i:=3)) (ae le_int))))))) (aa (ae (au bv (ai (i:=0)) (ae (au bv (ai (i:=1)) (ai (i:=3)))))) ac)))) bZ))) (aE (i:=2) rfl))) (aR (al (i:=2))))) (fun ds Q h=>Nat.le_trans (le_of_eq (nJ ds Q h)) (by decide)) uK h⟩
theorem kc:∀ds Q,bQ ds Q->ds.length=2:=fun ds Q h=>by unfold bQ at h;split at h;(first|rfl|exact h.elim);(first|rfl|exact h.elim)
theorem qN(D:ca K mg "_law_least" iK)(T:Txt mg)(TC:TxC K)(C_law_first:Cal P w K mg base 2 "_law_first" ["_law_ring_here","_law_word_here"] (spP K aL))(C_law_lap:Cal P w K mg base 1 "_law_lap" ["_law_one_here","_law_other"] (spP K aX)):Cal P w K mg base 3 "_law_least" ["_law_words","_law_ring_here"] (spP K bQ):=by
 refine D.ok dX (fun _ _ _ _ _ _ us hl=>match us,hl with|[_,_],_=>rfl) (fun vs H Q E h=>?_) (fun f cdv A outer s H vs Q E hr h=>?_)
 .exact iD kc h
 .have hu:=hr.units;exact⟨_,(aj (aT (i:=2) dX.nd rfl (by walk_at "o") (bK (wi:=(jj K (bz 0))) (g:=(cw 0)) (tts:=jN) (te:=(ef (spP K aL) [] E0 (bf (bz 1) (bf (bz 0) eY)))) ["_law_word_here","_law_ring_here"] [none,some 1] rfl (cM K rfl (pv 0)) (fun _ _ _ _=>⟨(aJ (i:=0) (by show List.Nodup (["_law_word_here","_law_ring_here"]:List Str);decide +kernel) rfl (by walk_at "o")),cq,(aw C_law_first (hr.mono (by decide)) (paC (pv 1) (paC (pv 0) ah)))⟩) (by kernel_rfl))) (aj (vH (wi:=(jj K (tCB (wC K) (bf (bz 2) eY)))) (g:=(cw 0)) (tts:=jN) (te:=(tBM K "list" (Bi K) (bz 1) (bf (bz 0) eY))) (i:=3) ["_law_place","_law_where"] [none,some 2] dX.nd rfl (Or.inl rfl) rfl (cM K rfl (ak (Ba K rfl) rfl T.b_sorted boot_sorted (paC (pv 2) ah))) (fun _ _ _ _=>⟨(aJ (i:=0) (by show List.Nodup (["_law_place","_law_where"]:List Str);decide +kernel) rfl (by walk_at "o")),cq,(ga K rfl PySem.F.plainAttrs_list PySem.F.slot_list_index PySem.F.type_list_index (Bj K rfl) (pv 1) (paC (pv 0) ah))⟩) (by kernel_rfl)) (aj (aT (i:=4) dX.nd rfl (by walk_at "o") (jK ah)) (aj (en PassesOwn.never rfl (cH rfl T.b_range (paC (ak (bF K rfl) rfl T.b_len PySem.boot_len (paC (pv 3) ah)) ah)) (aJ (i:=5) dX.nd rfl (by walk_at "o")) (aq (gu (ga K rfl PySem.F.plainAttrs_list PySem.F.slot_list_append PySem.F.type_list_append gy (pv 4) (paC (aw C_law_lap (hr.mono (by decide)) (paC (bu (dC K rfl) (pv 0) (bu (dC K rfl) (pv 3) (pv 5) (fun _ _=>rfl)) (fun _ _=>rfl)) (paC (bu (dC K rfl) (pv 0) (bu (dC K rfl) (pv 3) (bq mh (bq (cR K rfl) (pv 5) ay) (ak (bF K rfl) rfl T.b_len PySem.boot_len (paC (pv 3) ah))) (fun _ _=>rfl)) (fun _ _=>rfl)) ah))) ah))))) (aq (aQ (ak (zf K rfl rfl) rfl T.b_min boot_min (paC (pv 4) ah)))))))),fnP (K:=K) (c:=bQ) (ps:=eV) (N:=["_law_words","_law_ring_here","_law_where","_law_order","_law_laps","_law_k"]) (aB (aP (bD (ix:=[none,some 1]) rfl (cN (al (i:=0))) (fun fs hc=>(aC (i:=0) (iP hc (by decide)))) di (aD (c:=aL) (aa (ae (al (i:=1))) (aa (ae (al (i:=0))) ac)))) (aE (i:=2) rfl)) (aB (aP (bD (ix:=[none,some 2]) rfl (cN (aU yw (aa (ai (i:=2)) ac))) (fun fs hc=>(aC (i:=0) (iP hc (by decide)))) di (Bk (ai (i:=1)) (al (i:=0)))) (aE (i:=3) rfl)) (aB (aP (jO ac) (aE (i:=4) rfl)) (aB (et (ki (aa (ae (aU aO (aa (ai (i:=3)) ac))) ac)) (aC (i:=5) rfl) (gC (sR (i:=4) (aD (c:=aX) (aa (ae (au bv (ai (i:=0)) (ae (au bv (ai (i:=3)) (ai (i:=5)))))) (aa (ae (au bv (ai (i:=0)) (ae (au bv (ai (i:=3)) (ae (au h8 (ae (au bT (ai (i:=5)) (ae le_int))) (ae (aU aO (aa (ai (i:=3)) ac))))))))) ac)))))) (aR (aU wk (aa (ai (i:=4)) ac))))))) (fun ds Q h=>Nat.le_trans (le_of_eq (kc ds Q h)) (by decide)) qI h⟩
theorem kd:∀ds Q,bR ds Q->ds.length=3:=fun ds Q h=>by unfold bR at h;split at h;(first|rfl|exact h.elim);(first|rfl|exact h.elim)
theorem qO(D:ca K mg "_law_holds" iM)(T:Txt mg)(TC:TxC K)(C_law_first:Cal P w K mg base 2 "_law_first" ["_law_ring_here","_law_word_here"] (spP K aL)):Cal P w K mg base 3 "_law_holds" ["_law_words","_law_ring_here","_law_row_here"] (spP K bR):=by
 refine D.ok jX (fun _ _ _ _ _ _ us hl=>match us,hl with|[_,_,_],_=>rfl) (fun vs H Q E h=>?_) (fun f cdv A outer s H vs Q E hr h=>?_)
 .exact iD kd h
 .have hu:=hr.units;exact⟨_,(aj (en PassesOwn.never rfl (cM K rfl (pv 0)) (aJ (i:=3) jX.nd rfl (by walk_at "o")) (aq (dB (PW.pt (tS (bj yg (aw C_law_first (hr.mono (by decide)) (paC (pv 1) (paC (pv 3) ah))) ay (bH _)) (pq (bj yg (ga K rfl PySem.F.plainAttrs_str PySem.F.slot_str_find PySem.F.type_str_find oi (pv 2) (paC (pv 3) ah)) ay (bH _))))) (aq (aQ md)) bJ))) (aq (aQ (gv (ml K rfl hu) (aw C_law_first (hr.mono (by decide)) (paC (pv 1) (paC (bu (dC K rfl) (pv 0) ay (fun _ _=>rfl)) ah))) ay (bH _))))),fnP (K:=K) (c:=bR) (ps:=eW) (N:=["_law_words","_law_ring_here","_law_row_here","_law_word_here"]) (aB (et (cN (al (i:=0))) (aC (i:=3) rfl) (dD (uj (iO (au n6 (ae (aD (c:=aL) (aa (ae (al (i:=1))) (aa (ae (al (i:=3))) ac)))) (ae le_int))) (iO (au n6 (ae (um oj (al (i:=2)) (aa (ai (i:=3)) ac))) (ae le_int)))) (aR mf) bN)) (aR (au ia (ae (aD (c:=aL) (aa (ae (al (i:=1))) (aa (ae (au bv (ai (i:=0)) (ae le_int))) ac)))) (ae le_int)))) (fun ds Q h=>Nat.le_trans (le_of_eq (kd ds Q h)) (by decide)) qJ h⟩
theorem nK:∀p ds Q,cW p ds Q->ds.length+1=1:=fun p ds Q h=>by unfold cW at h;split at h;(first|rfl|exact h.elim);(first|rfl|exact h.elim)
theorem uS(D:ca K mg "_law_one" lp)(T:Txt mg)(TC:TxC K)(C_Family_init:CM P w K mg base 4 (cb K "Family") "Family" ["self","pieces"] (spR K bh))(C_Family_many:za P w K mg base 1 (cb K "Family") "many" ["self"] (spP K aA))(C_law_first:Cal P w K mg base 2 "_law_first" ["_law_ring_here","_law_word_here"] (spP K aL))(C_law_holds:Cal P w K mg base 3 "_law_holds" ["_law_words","_law_ring_here","_law_row_here"] (spP K bR))(C_law_kept:Cal P w K mg base 2 "_law_kept" ["_law_pieces_here"] (spP K bV))(C_law_laid:Cal P w K mg base 2 "_law_laid" ["_law_stream_here","_law_words","_law_order"] (spR K cG))(C_law_least:Cal P w K mg base 3 "_law_least" ["_law_words","_law_ring_here"] (spP K bQ))(C_law_pieces:Cal P w K mg base 3 "_law_pieces" ["_law_stream_here","_law_many","_law_most"] (spR K bO))(C_law_ring:Cal P w K mg base 2 "_law_ring" ["_law_words","_law_order"] (spP K ck))(C_law_row:Cal P w K mg base 2 "_law_row" ["_law_words","_law_order"] (spP K cL))(C_law_shuffled:Cal P w K mg base 2 "_law_shuffled" ["_law_stream_here","_law_row_here"] (spR K bp))(C_law_take:Cal P w K mg base 1 "_law_take" ["_law_stream_here","_law_most"] (spR K ax))(C_shortest:Cal P w K mg base 5 "shortest" ["family"] (spP K bI))(C_shortest_round:Cal P w K mg base 4 "shortest_round" ["family"] (spP K aK)):Cal P w K mg base 6 "_law_one" ["_law_stream_here"] (spR K cW):=by
 refine D.ok cu (fun _ _ _ _ _ _ us hl=>match us,hl with|[_],_=>rfl) (fun vs H Q E h=>?_) (fun f cdv A outer s H vs Q E hr h=>?_)
 .exact yn nK h
 .have hu:=hr.units;exact⟨_,(aj (aT (i:=1) cu.nd rfl (by walk_at "o") (bu (dC K rfl) (jK (paC (pA (paC ay (paC ay ah))) (paC (pA (paC ay (paC ay ah))) ah))) (aw C_law_take (hr.mono (by decide)) (paC (pv 0) (paC ay ah))) (fun _ _=>rfl))) (aj (aT (i:=2) cu.nd rfl (by walk_at "o") (aw C_law_pieces (hr.mono (by decide)) (paC (pv 0) (paC (bq (cR K rfl) ay (aw C_law_take (hr.mono (by decide)) (paC (pv 0) (paC (bu (dC K rfl) (pv 1) ay (fun _ _=>rfl)) ah)))) (paC (bu (dC K rfl) (pv 1) ay (fun _ _=>rfl)) ah))))) (aj (aT (i:=3) cu.nd rfl (by walk_at "o") (bW (o8 K rfl) (bK (wi:=(jj K (ef (spP K bV) [] E0 (bf (bz 2) eY)))) (g:=(cw 0)) (tts:=jN) (te:=(tOp (qP K) (bz 1) (bz 0))) ["_law_k","_law_pieces_here"] [none,some 2] rfl (cM K rfl (aw C_law_kept (hr.mono (by decide)) (paC (pv 2) ah))) (fun _ _ _ _=>⟨(aJ (i:=0) (by show List.Nodup (["_law_k","_law_pieces_here"]:List Str);decide +kernel) rfl (by walk_at "o")),cq,(bu (dC K rfl) (pv 1) (pv 0) (fun _ _=>rfl))⟩) (by kernel_rfl)) cP (cD ay))) (aj (aT (i:=4) cu.nd rfl (by walk_at "o") (sZ C_Family_init (hr.mono (by decide)) (paC (pv 2) ah))) (aj (nV (dB (bj wt (iX (pv 4) TC.cl_Family C_Family_many (hr.mono (by decide))) ay (bH _)) (aq (aT (i:=4) cu.nd rfl (by walk_at "o") (sZ C_Family_init (hr.mono (by decide)) (paC (cr (iC K rfl) rfl T.b_tuple boot_tuple (paC (pv 3) ah)) ah)))) bJ)) (aj (aT (i:=5) cu.nd rfl (by walk_at "o") (aw C_shortest_round (hr.mono (by decide)) (paC (pv 4) ah))) (aj (aT (i:=6) cu.nd rfl (by walk_at "o") (aw C_shortest (hr.mono (by decide)) (paC (pv 4) ah))) (aj (dB (PW.pt (tS (jJ (eB (ak (AK K rfl) rfl T.b_isinstance boot_isinstance (paC (pv 5) (paC (qR (v:=.ty "str") rfl T.b_str boot_str rfl) ah))))) (tS (jJ (eB (ak (AK K rfl) rfl T.b_isinstance boot_isinstance (paC (pv 6) (paC (qR (v:=.ty "str") rfl T.b_str boot_str rfl) ah))))) (pq (jJ (eB (aw C_law_holds (hr.mono (by decide)) (paC (pv 3) (paC (pv 5) (paC (pv 6) ah)))))))))) (aq (aQ md)) bJ) (aj (dB (PW.pt (tS (bj wt (ak (bF K rfl) rfl T.b_len PySem.boot_len (paC (pv 5) ah)) (ak (bF K rfl) rfl T.b_len PySem.boot_len (paC (pv 6) ah)) (bH _)) (pq (bj wt (ak (bF K rfl) rfl T.b_len PySem.boot_len (paC (pv 6) ah)) (bq (cR K rfl) (ak (bF K rfl) rfl T.b_len PySem.boot_len (paC (pv 5) ah)) (aw C_law_least (hr.mono (by decide)) (paC (pv 3) (paC (pv 5) ah)))) (bH _))))) (aq (aQ md)) bJ) (aj (en PassesOwn.never rfl (cH rfl T.b_range (paC ay ah)) (aJ (i:=7) cu.nd rfl (by walk_at "o")) (aj (aT (i:=8) cu.nd rfl (by walk_at "o") (aw C_law_shuffled (hr.mono (by decide)) (paC (pv 0) (paC (cr (zh K rfl rfl) rfl T.b_list boot_list (paC (pT rfl T.b_range (paC (ak (bF K rfl) rfl T.b_len PySem.boot_len (paC (pv 3) ah)) ah)) ah)) ah)))) (aj (aT (i:=9) cu.nd rfl (by walk_at "o") (aw C_law_laid (hr.mono (by decide)) (paC (pv 0) (paC (pv 3) (paC (pv 8) ah))))) (aj (dB (PW.pt (tS (bj yg (ak (bF K rfl) rfl T.b_len PySem.boot_len (paC (pv 9) ah)) (ak (bF K rfl) rfl T.b_len PySem.boot_len (paC (pv 5) ah)) (bH _)) (pq (bj yg (ak (bF K rfl) rfl T.b_len PySem.boot_len (paC (aw C_law_ring (hr.mono (by decide)) (paC (pv 3) (paC (pv 8) ah))) ah)) (ak (bF K rfl) rfl T.b_len PySem.boot_len (paC (pv 5) ah)) (bH _))))) (aq (aQ md)) bJ) (aj (dB (bj yg (ak (bF K rfl) rfl T.b_len PySem.boot_len (paC (aw C_law_row (hr.mono (by decide)) (paC (pv 3) (paC (pv 8) ah))) ah)) (ak (bF K rfl) rfl T.b_len PySem.boot_len (paC (pv 6) ah)) (bH _)) (aq (aQ md)) bJ) (aq (dB (bj yg (aw C_law_first (hr.mono (by decide)) (paC (pv 9) (paC (bu (dC K rfl) (pv 3) (u5 pz ay) (fun _ _=>rfl)) ah))) ay (bH _)) (aq (aQ md)) bJ))))))) (aq (aQ (yT (gv (ml K rfl hu) (aw C_shortest_round (hr.mono (by decide)) (paC (pv 4) ah)) (pv 5) (bH _)) (uY (gv (ml K rfl hu) (aw C_shortest (hr.mono (by decide)) (paC (pv 4) ah)) (pv 6) (bH _)))))))))))))))),fnR (K:=K) (c:=cW) (ps:=hG) (N:=["_law_stream_here","_law_sizes","_law_pieces_here","_law_words","_law_family","_law_ring_here","_law_row_here","_law_k","_law_order","_law_laid_here"]) (aB (aP (au bv (ae (jO (aa (ae (pX (aa (ae le_int) (aa (ae le_int) ac)))) (aa (ae (pX (aa (ae le_int) (aa (ae le_int) ac)))) ac)))) (ae (bd (i:=0) (aa (ae le_int) ac)))) (aE (i:=1) rfl)) (aB (aP (bd (i:=0) (aa (ae (au bT (ae le_int) (ae (bd (i:=0) (aa (ae (au bv (ai (i:=1)) (ae le_int))) ac))))) (aa (ae (au bv (ai (i:=1)) (ae le_int))) ac))) (aE (i:=2) rfl)) (aB (aP (bX (ae (bD (ix:=[none,some 2]) rfl (cN (aD (c:=bV) (aa (ae (al (i:=2))) ac))) (fun fs hc=>(aC (i:=0) (iP hc (by decide)))) di (au bv (ai (i:=1)) (ai (i:=0))))) bZ (bM le_int)) (aE (i:=3) rfl)) (aB (aP (wp (aa (ae (al (i:=2))) ac)) (aE (i:=4) rfl)) (aB (n9 (dD (iO (au kQ (ae (i4 (c0:="Family") (m:="many") (ns0:=["pieces","kept","words","left","laps","total"]) (c:=aA) (by decide +kernel) (al (i:=4)) ac)) (ae le_int))) (aP (wp (aa (ae (aU fC (aa (ai (i:=3)) ac))) ac)) (aE (i:=4) rfl)) bN)) (aB (aP (aD (c:=aK) (aa (ae (al (i:=4))) ac)) (aE (i:=5) rfl)) (aB (aP (aD (c:=bI) (aa (ae (al (i:=4))) ac)) (aE (i:=6) rfl)) (aB (dD (uj (jP (uT (vZ .str (ai (i:=5))))) (uj (jP (uT (vZ .str (ai (i:=6))))) (jP (uT (aD (c:=bR) (aa (ae (al (i:=3))) (aa (ae (al (i:=5))) (aa (ae (al (i:=6))) ac)))))))) (aR mf) bN) (aB (dD (uj (iO (au kQ (ae (aU aO (aa (ai (i:=5)) ac))) (ae (aU aO (aa (ai (i:=6)) ac))))) (iO (au kQ (ae (aU aO (aa (ai (i:=6)) ac))) (ae (au bT (ae (aU aO (aa (ai (i:=5)) ac))) (ae (aD (c:=bQ) (aa (ae (al (i:=3))) (aa (ae (al (i:=5))) ac))))))))) (aR mf) bN) (aB (et (ki (aa (ae le_int) ac)) (aC (i:=7) rfl) (aB (aP (bd (i:=0) (aa (ae (sU false (aa (ae (aU aO (aa (ai (i:=3)) ac))) ac))) ac)) (aE (i:=8) rfl)) (aB (aP (bd (i:=0) (aa (ae (al (i:=3))) (aa (ae (al (i:=8))) ac))) (aE (i:=9) rfl)) (aB (dD (uj (iO (au n6 (ae (aU aO (aa (ai (i:=9)) ac))) (ae (aU aO (aa (ai (i:=5)) ac))))) (iO (au n6 (ae (aU aO (aa (ae (aD (c:=ck) (aa (ae (al (i:=3))) (aa (ae (al (i:=8))) ac)))) ac))) (ae (aU aO (aa (ai (i:=5)) ac)))))) (aR mf) bN) (aB (dD (iO (au n6 (ae (aU aO (aa (ae (aD (c:=cL) (aa (ae (al (i:=3))) (aa (ae (al (i:=8))) ac)))) ac))) (ae (aU aO (aa (ai (i:=6)) ac))))) (aR mf) bN) (dD (iO (au n6 (ae (aD (c:=aL) (aa (ae (al (i:=9))) (aa (ae (au bv (ai (i:=3)) (ae (vW p7 (ae le_int))))) ac)))) (ae le_int))) (aR mf) bN)))))) (aR (zc (au ia (ae (aD (c:=aK) (aa (ae (al (i:=4))) ac))) (ai (i:=5))) (au ia (ae (aD (c:=bI) (aa (ae (al (i:=4))) ac))) (ai (i:=6))))))))))))))) (fun p ds Q h=>Nat.le_trans (le_of_eq (nK p ds Q h)) (by decide)) uL h⟩
theorem zP:∀ds Q,tP ds Q->ds.length=1:=fun ds Q h=>by obtain⟨_,rfl,_⟩:=h;rfl
theorem DR(D:ca K mg "law" yP)(T:Txt mg)(TC:TxC K)(C_law_one:Cal P w K mg base 6 "_law_one" ["_law_stream_here"] (spR K cW))(C_law_stream:Cal P w K mg base 1 "_law_stream" ["_law_script","_law_k"] (spP K bA)):Cal P w K mg base 7 "law" ["_law_script"] (spP K tP):=by
 refine D.ok zG (fun _ _ _ _ _ _ us hl=>match us,hl with|[_],_=>rfl) (fun vs H Q E h=>?_) (fun f cdv A outer s H vs Q E hr h=>?_)
 .exact iD zP h
 .have hu:=hr.units;exact⟨_,(aj (en PassesOwn.never rfl (cH rfl T.b_range (paC (ak (C7 rfl) rfl T.b_max boot_max (paC ay (paC (ak (wf rfl) rfl T.b_min boot_min (paC ay (paC (ak (bF K rfl) rfl T.b_len PySem.boot_len (paC (pv 0) ah)) ah))) ah))) ah)) (aJ (i:=1) zG.nd rfl (by walk_at "o")) (aq (dB (jJ (eB (aw C_law_one (hr.mono (by decide)) (paC (aw C_law_stream (hr.mono (by decide)) (paC (pv 0) (paC (pv 1) ah))) ah)))) (aq (aQ md)) bJ))) (aq (aQ md))),fnP (K:=K) (c:=tP) (ps:=tR) (N:=["_law_script","_law_k"]) (aB (et (ki (aa (ae (aU AS (aa (ae le_int) (aa (ae (aU rj (aa (ae le_int) (aa (ae (aU aO (aa (ai (i:=0)) ac))) ac)))) ac)))) ac)) (aC (i:=1) rfl) (dD (jP (uT (wz (aD (c:=bA) (aa (ae (al (i:=0))) (aa (ae (al (i:=1))) ac))) ac))) (aR mf) bN)) (aR mf)) (fun ds Q h=>Nat.le_trans (le_of_eq (zP ds Q h)) (by decide)) DP h⟩
end
theorem DS{l:PySem.W.OpenLaw}{w:World}{K:PySem.W.Frag}{h:Heap}{mg:Str->Option Value}{fa:Addr}(X:K.In h)(G:h.Ns mainGlobals mg)(hfa:mg "law"=some (.ref fa))
  {C_Family:Addr} (aC_Family:PySem.W.nsIn K mainGlobals "Family"=some (some (.ref C_Family))) (pg_Family:PySem.W.plainGet K C_Family Str.empty=true) (hd_Family:PySem.W.hasDictIn K C_Family=true) (po_Family:PySem.W.plainOver K C_Family=true) (sa_Family:PySem.W.findIn K (.ref C_Family) "__setattr__"=some (some (.builtin "object.__setattr__"))) (mk_Family:PySem.W.makesIn K C_Family=true) (kc_Family:PySem.W.keepIn K (.ref C_Family)=true)
  (n_Family_pieces:PySem.W.findIn K (.ref C_Family) "pieces"=some none)
  (n_Family_kept:PySem.W.findIn K (.ref C_Family) "kept"=some none)
  (n_Family_words:PySem.W.findIn K (.ref C_Family) "words"=some none)
  (n_Family_left:PySem.W.findIn K (.ref C_Family) "left"=some none)
  (n_Family_laps:PySem.W.findIn K (.ref C_Family) "laps"=some none)
  (n_Family_total:PySem.W.findIn K (.ref C_Family) "total"=some none)
  {f1:Addr}{oc1 kV1 dc1 pm1 cd1 ct1:Value}{od1 an1 dd1:Option Addr}{sl1 st1:Array (Option Value)}{dT1:Addr}{n1:Nat}{u1_0 u1_1:Tok} (a1:PySem.W.nsIn K mainGlobals "is_text"=some (some (.ref f1))) (l1:K.lookup f1=some ⟨oc1,od1,.func (PySem.W.fnOf "is_text" "is_text" (cZ fk) (b6 fk) (ao fk) (.ref dT1) kV1 dc1 pm1 an1 cd1 ct1),sl1⟩) (c1:PySem.W.codeIn K cd1 "is_text"=true) (k1:PySem.W.keepIn K (.ref f1)=true) (t1:K.lookup dT1=some ⟨.type "tuple",dd1,.seq [.int 0 u1_0,.int 4000 u1_1].toArray n1,st1⟩)
  (d2:fG K "first_place" fH)
  (d3:fG K "members" lg)
  (d4:fG K "is_ahead" jp)
  (d5:fG K "heads_of" jr)
  (d6:fG K "lap" By)
  {f7:Addr}{oc7 kV7 dc7 pm7 cd7 ct7:Value}{od7 an7:Option Addr}{sl7:Array (Option Value)} (a7:PySem.W.findIn K (.ref C_Family) "many"=some (some (.ref f7))) (i7:PySem.W.isFn K (.ref f7)=true) (l7:K.lookup f7=some ⟨oc7,od7,.func (PySem.W.fnOf "many" "Family.many" (cZ cF) (b6 cF) (ao cF) .none kV7 dc7 pm7 an7 cd7 ct7),sl7⟩) (c7:PySem.W.codeIn K cd7 "Family.many"=true) (k7:PySem.W.keepIn K (.ref f7)=true)
  (d8:fG K "_law_stream" gI)
  (d9:fG K "_law_take" jx)
  (d10:fG K "_law_is_left" fL)
  (d11:fG K "_law_lap" lm)
  (d12:fG K "_law_reads" iI)
  (d13:fG K "foremost" jq)
  (d14:fG K "check_few_words" dF)
  (d15:fG K "sets_left" iH)
  (d16:fG K "check_words" fJ)
  (d17:fG K "all_laps" jv)
  (d18:fG K "check_pieces" e7)
  (d19:fG K "stands_within" eF)
  (d20:fG K "_law_letters" fK)
  (d21:fG K "_law_word" jy)
  (d22:fG K "_law_cut" li)
  (d23:fG K "_law_kept" jA)
  (d24:fG K "_law_shuffled" e8)
  (d25:fG K "_law_ring" jB)
  (d26:fG K "_law_first" iJ)
  (d27:fG K "_law_laid" jC)
  (d28:fG K "_law_row" ln)
  (d29:fG K "all_ends" jt)
  (d30:fG K "is_kept" lh)
  (d31:fG K "left_row" jw)
  (d32:fG K "_law_pieces" gJ)
  (d33:fG K "_law_least" iK)
  (d34:fG K "_law_holds" iM)
  (d35:fG K "foremost_text" eE)
  (d36:fG K "shortest_round" d7)
  {f37:Addr}{oc37 kV37 dc37 pm37 cd37 ct37:Value}{od37 an37:Option Addr}{sl37:Array (Option Value)} (a37:PySem.W.findIn K (.ref C_Family) "__init__"=some (some (.ref f37))) (i37:PySem.W.isFn K (.ref f37)=true) (l37:K.lookup f37=some ⟨oc37,od37,.func (PySem.W.fnOf "__init__" "Family.__init__" (cZ cE) (b6 cE) (ao cE) .none kV37 dc37 pm37 an37 cd37 ct37),sl37⟩) (c37:PySem.W.codeIn K cd37 "Family.__init__"=true) (k37:PySem.W.keepIn K (.ref f37)=true)
  (d38:fG K "shortest" ju)
  (d39:fG K "_law_one" lp)
  (d40:fG K "law" yP)
  (z1:PySem.W.nsIn K mainGlobals "abs"=some none)
  (z2:PySem.W.nsIn K mainGlobals "all"=some none)
  (z3:PySem.W.nsIn K mainGlobals "any"=some none)
  (z4:PySem.W.nsIn K mainGlobals "enumerate"=some none)
  (z5:PySem.W.nsIn K mainGlobals "isinstance"=some none)
  (z6:PySem.W.nsIn K mainGlobals "len"=some none)
  (z7:PySem.W.nsIn K mainGlobals "list"=some none)
  (z8:PySem.W.nsIn K mainGlobals "max"=some none)
  (z9:PySem.W.nsIn K mainGlobals "min"=some none)
  (z10:PySem.W.nsIn K mainGlobals "range"=some none)
  (z11:PySem.W.nsIn K mainGlobals "sorted"=some none)
  (z12:PySem.W.nsIn K mainGlobals "str"=some none)
  (z13:PySem.W.nsIn K mainGlobals "sum"=some none)
  (z14:PySem.W.nsIn K mainGlobals "tuple"=some none)
  (z15:PySem.W.nsIn K mainGlobals "zip"=some none)
  {ty1:Tok} (y1:PySem.W.nsIn K mainGlobals "MOST_PIECES"=some (some (.int 40 ty1)))
  {ty2:Tok} (y2:PySem.W.nsIn K mainGlobals "MOST_SHORTEST_WORDS"=some (some (.int 12 ty2)))
  {ty3:Tok} (y3:PySem.W.nsIn K mainGlobals "MOST_SIGNS"=some (some (.int 60 ty3))) :
  ∃fd:FuncData,(∀(s:Shared) (v:Value),BindsTo s fd ⟨[v],[]⟩ [("_law_script",v)])/\∀base:Heap,K.In base->base.Ns mainGlobals mg->nP l.prog w K mg base CX0 7 fa fd ["_law_script"] (ue K):=by
 have eC_Family:=ya aC_Family;have TC:TxC K:=⟨by rw [eC_Family];exact⟨pg_Family,hd_Family,po_Family,sa_Family⟩,by show PySem.W.findIn K (.ref (cb K "Family")) "pieces"=some none;rw [eC_Family];exact n_Family_pieces,by show PySem.W.findIn K (.ref (cb K "Family")) "kept"=some none;rw [eC_Family];exact n_Family_kept,by show PySem.W.findIn K (.ref (cb K "Family")) "words"=some none;rw [eC_Family];exact n_Family_words,by show PySem.W.findIn K (.ref (cb K "Family")) "left"=some none;rw [eC_Family];exact n_Family_left,by show PySem.W.findIn K (.ref (cb K "Family")) "laps"=some none;rw [eC_Family];exact n_Family_laps,by show PySem.W.findIn K (.ref (cb K "Family")) "total"=some none;rw [eC_Family];exact n_Family_total⟩
 have D_is_text:sN K mg "is_text" fk [.int 0,.int 4000]:=⟨⟨f1,dT1,oc1,od1,an1,dd1,kV1,dc1,pm1,cd1,ct1,sl1,st1,[.int 0 u1_0,.int 4000 u1_1],n1,l1,c1,k1,PySem.W.mg_of X G a1,t1,(.cons ⟨_,rfl⟩ (.cons ⟨_,rfl⟩ .nil))⟩⟩
 have D_first_place:=bt d2 X G;have D_members:=bt d3 X G;have D_is_ahead:=bt d4 X G;have D_heads_of:=bt d5 X G;have D_lap:=bt d6 X G;have D_Family_many:sO K (cb K "Family") "many" "Family.many" cF:=by rw [eC_Family];exact⟨⟨f7,_,vp (st:=cF) l7 c7 k7,⟨a7,i7,k7⟩⟩⟩
 have D_law_stream:=bt d8 X G;have D_law_take:=bt d9 X G;have D_law_is_left:=bt d10 X G;have D_law_lap:=bt d11 X G;have D_law_reads:=bt d12 X G;have D_foremost:=bt d13 X G;have D_check_few_words:=bt d14 X G;have D_sets_left:=bt d15 X G;have D_check_words:=bt d16 X G;have D_all_laps:=bt d17 X G;have D_check_pieces:=bt d18 X G;have D_stands_within:=bt d19 X G;have D_law_letters:=bt d20 X G;have D_law_word:=bt d21 X G
 have D_law_cut:=bt d22 X G;have D_law_kept:=bt d23 X G;have D_law_shuffled:=bt d24 X G;have D_law_ring:=bt d25 X G;have D_law_first:=bt d26 X G;have D_law_laid:=bt d27 X G;have D_law_row:=bt d28 X G;have D_all_ends:=bt d29 X G;have D_is_kept:=bt d30 X G;have D_left_row:=bt d31 X G;have D_law_pieces:=bt d32 X G;have D_law_least:=bt d33 X G;have D_law_holds:=bt d34 X G;have D_foremost_text:=bt d35 X G
 have D_shortest_round:=bt d36 X G;have D_Family_init:sP K mg (cb K "Family") "Family" "Family.__init__" cE:=by rw [eC_Family];exact⟨⟨f37,_,vp (st:=cE) l37 c37 k37,⟨mk_Family,a37,i37,kc_Family⟩,PySem.W.mg_of X G aC_Family⟩⟩
 have D_shortest:=bt d38 X G;have D_law_one:=bt d39 X G;have D_law:=bt d40 X G;have T:Txt mg:=⟨PySem.W.mg_none_of X G z1,PySem.W.mg_none_of X G z2,PySem.W.mg_none_of X G z3,PySem.W.mg_none_of X G z4,PySem.W.mg_none_of X G z5,PySem.W.mg_none_of X G z6,PySem.W.mg_none_of X G z7,PySem.W.mg_none_of X G z8,PySem.W.mg_none_of X G z9,PySem.W.mg_none_of X G z10,PySem.W.mg_none_of X G z11,PySem.W.mg_none_of X G z12,PySem.W.mg_none_of X G z13,PySem.W.mg_none_of X G z14,PySem.W.mg_none_of X G z15,⟨_,PySem.W.mg_of X G y1⟩,⟨_,PySem.W.mg_of X G y2⟩,⟨_,PySem.W.mg_of X G y3⟩⟩
 refine CF (st:=yP) hfa D_law (fun _ _ _ _ _ _ s v=>.of_eq rfl) fun base=>?_;have C_is_text:=uM (P:=l.prog) (w:=w) (base:=base) D_is_text T TC;have C_first_place:=mH (P:=l.prog) (w:=w) (base:=base) D_first_place T TC;have C_members:=uN (P:=l.prog) (w:=w) (base:=base) D_members T TC;have C_is_ahead:=sr (P:=l.prog) (w:=w) (base:=base) D_is_ahead T TC;have C_heads_of:=su (P:=l.prog) (w:=w) (base:=base) D_heads_of T TC
 have C_lap:=DQ (P:=l.prog) (w:=w) (base:=base) D_lap T TC;have C_Family_many:=mK (P:=l.prog) (w:=w) (base:=base) D_Family_many T TC;have C_law_stream:=o5 (P:=l.prog) (w:=w) (base:=base) D_law_stream T TC;have C_law_take:=sB (P:=l.prog) (w:=w) (base:=base) D_law_take T TC;have C_law_is_left:=mM (P:=l.prog) (w:=w) (base:=base) D_law_is_left T TC;have C_law_lap:=uQ (P:=l.prog) (w:=w) (base:=base) D_law_lap T TC
 have C_law_reads:=qL (P:=l.prog) (w:=w) (base:=base) D_law_reads T TC;have C_foremost:=ss (P:=l.prog) (w:=w) (base:=base) D_foremost T TC C_is_ahead;have C_check_few_words:=jd (P:=l.prog) (w:=w) (base:=base) D_check_few_words T TC C_Family_many;have C_sets_left:=qK (P:=l.prog) (w:=w) (base:=base) D_sets_left T TC C_members;have C_check_words:=mI (P:=l.prog) (w:=w) (base:=base) D_check_words T TC C_Family_many
 have C_all_laps:=sy (P:=l.prog) (w:=w) (base:=base) D_all_laps T TC C_lap;have C_check_pieces:=lX (P:=l.prog) (w:=w) (base:=base) D_check_pieces T TC C_is_text;have C_stands_within:=ku (P:=l.prog) (w:=w) (base:=base) D_stands_within T TC C_first_place;have C_law_letters:=mL (P:=l.prog) (w:=w) (base:=base) D_law_letters T TC C_law_take;have C_law_word:=sC (P:=l.prog) (w:=w) (base:=base) D_law_word T TC C_law_take
 have C_law_cut:=uP (P:=l.prog) (w:=w) (base:=base) D_law_cut T TC C_law_take;have C_law_kept:=sD (P:=l.prog) (w:=w) (base:=base) D_law_kept T TC C_law_is_left;have C_law_shuffled:=l6 (P:=l.prog) (w:=w) (base:=base) D_law_shuffled T TC C_law_take;have C_law_ring:=sE (P:=l.prog) (w:=w) (base:=base) D_law_ring T TC C_law_lap;have C_law_first:=qM (P:=l.prog) (w:=w) (base:=base) D_law_first T TC C_law_reads
 have C_law_laid:=sF (P:=l.prog) (w:=w) (base:=base) D_law_laid T TC C_law_lap C_law_take;have C_law_row:=uR (P:=l.prog) (w:=w) (base:=base) D_law_row T TC C_law_lap;have C_all_ends:=sv (P:=l.prog) (w:=w) (base:=base) D_all_ends T TC C_foremost;have C_is_kept:=uO (P:=l.prog) (w:=w) (base:=base) D_is_kept T TC C_stands_within;have C_left_row:=sA (P:=l.prog) (w:=w) (base:=base) D_left_row T TC C_first_place C_stands_within
 have C_law_pieces:=o7 (P:=l.prog) (w:=w) (base:=base) D_law_pieces T TC C_law_cut C_law_letters C_law_take C_law_word;have C_law_least:=qN (P:=l.prog) (w:=w) (base:=base) D_law_least T TC C_law_first C_law_lap;have C_law_holds:=qO (P:=l.prog) (w:=w) (base:=base) D_law_holds T TC C_law_first;have C_foremost_text:=kt (P:=l.prog) (w:=w) (base:=base) D_foremost_text T TC C_all_ends C_foremost C_heads_of
 have C_shortest_round:=jI (P:=l.prog) (w:=w) (base:=base) D_shortest_round T TC C_Family_many C_all_ends C_check_few_words C_check_words C_heads_of C_sets_left;have C_Family_init:=mJ (P:=l.prog) (w:=w) (base:=base) D_Family_init T TC C_all_laps C_check_pieces C_is_kept C_left_row;have C_shortest:=sw (P:=l.prog) (w:=w) (base:=base) D_shortest T TC C_Family_many C_check_few_words C_foremost_text C_sets_left
 have C_law_one:=uS (P:=l.prog) (w:=w) (base:=base) D_law_one T TC C_Family_init C_Family_many C_law_first C_law_holds C_law_kept C_law_laid C_law_least C_law_pieces C_law_ring C_law_row C_law_shuffled C_law_take C_shortest C_shortest_round;exact (DR (P:=l.prog) (w:=w) (base:=base) D_law T TC C_law_one C_law_stream).imp fun _ _ _ _ h=>AQ h
end K47

open PySem PySem.W PyProof.Rows
local macro_rules | `(tactic| walk_at "fn") => `(tactic| (refine' L2.DH ?a ?l ?c ?k; (case a => k_is); (case l => k_is); (case c => k_is); (case k => k_is)))
set_option maxRecDepth 100000 in
set_option maxHeartbeats 0 in
theorem PySem.Challenge.cw_shortglue_k47_whole_row_and_round_holds : PySem.Challenge.rw_shortglue_k47_whole_row_and_round.Holds := by
  refine topHd ?_
  k_fill
  refine L2.CG (l := PySem.Challenge.rw_shortglue_k47_whole_row_and_round) (k := 7) (x := "_law_script") rfl rfl ⟨rfl, by decide, by decide⟩ (fun w h Y => PySem.W.kIn_of Y) ?F
  case F =>
    intro w mg fa h KX G hmg
    refine' K47.DS KX G hmg ?aC_Family ?pg_Family ?hd_Family ?po_Family ?sa_Family ?mk_Family ?kc_Family ?n_Family_pieces ?n_Family_kept ?n_Family_words ?n_Family_left ?n_Family_laps ?n_Family_total ?a1 ?l1 ?c1 ?k1 ?t1 ?d2 ?d3 ?d4 ?d5 ?d6 ?a7 ?i7 ?l7 ?c7 ?k7 ?d8 ?d9 ?d10 ?d11 ?d12 ?d13 ?d14 ?d15 ?d16 ?d17 ?d18 ?d19 ?d20 ?d21 ?d22 ?d23 ?d24 ?d25 ?d26 ?d27 ?d28 ?d29 ?d30 ?d31 ?d32 ?d33 ?d34 ?d35 ?d36 ?a37 ?i37 ?l37 ?c37 ?k37 ?d38 ?d39 ?d40 ?z1 ?z2 ?z3 ?z4 ?z5 ?z6 ?z7 ?z8 ?z9 ?z10 ?z11 ?z12 ?z13 ?z14 ?z15 ?y1 ?y2 ?y3
    (case aC_Family => k_is)
    (case pg_Family => k_is)
    (case hd_Family => k_is)
    (case po_Family => k_is)
    (case sa_Family => k_is)
    (case mk_Family => k_is)
    (case kc_Family => k_is)
    (case n_Family_pieces => k_is)
    (case n_Family_kept => k_is)
    (case n_Family_words => k_is)
    (case n_Family_left => k_is)
    (case n_Family_laps => k_is)
    (case n_Family_total => k_is)
    (case a1 => k_is)
    (case l1 => k_is)
    (case c1 => k_is)
    (case k1 => k_is)
    (case t1 => k_is)
    (case d2 => walk_at "fn")
    (case d3 => walk_at "fn")
    (case d4 => walk_at "fn")
    (case d5 => walk_at "fn")
    (case d6 => walk_at "fn")
    (case a7 => k_is)
    (case i7 => k_is)
    (case l7 => k_is)
    (case c7 => k_is)
    (case k7 => k_is)
    (case d8 => walk_at "fn")
    (case d9 => walk_at "fn")
    (case d10 => walk_at "fn")
    (case d11 => walk_at "fn")
    (case d12 => walk_at "fn")
    (case d13 => walk_at "fn")
    (case d14 => walk_at "fn")
    (case d15 => walk_at "fn")
    (case d16 => walk_at "fn")
    (case d17 => walk_at "fn")
    (case d18 => walk_at "fn")
    (case d19 => walk_at "fn")
    (case d20 => walk_at "fn")
    (case d21 => walk_at "fn")
    (case d22 => walk_at "fn")
    (case d23 => walk_at "fn")
    (case d24 => walk_at "fn")
    (case d25 => walk_at "fn")
    (case d26 => walk_at "fn")
    (case d27 => walk_at "fn")
    (case d28 => walk_at "fn")
    (case d29 => walk_at "fn")
    (case d30 => walk_at "fn")
    (case d31 => walk_at "fn")
    (case d32 => walk_at "fn")
    (case d33 => walk_at "fn")
    (case d34 => walk_at "fn")
    (case d35 => walk_at "fn")
    (case d36 => walk_at "fn")
    (case a37 => k_is)
    (case i37 => k_is)
    (case l37 => k_is)
    (case c37 => k_is)
    (case k37 => k_is)
    (case d38 => walk_at "fn")
    (case d39 => walk_at "fn")
    (case d40 => walk_at "fn")
    (case z1 => k_is)
    (case z2 => k_is)
    (case z3 => k_is)
    (case z4 => k_is)
    (case z5 => k_is)
    (case z6 => k_is)
    (case z7 => k_is)
    (case z8 => k_is)
    (case z9 => k_is)
    (case z10 => k_is)
    (case z11 => k_is)
    (case z12 => k_is)
    (case z13 => k_is)
    (case z14 => k_is)
    (case z15 => k_is)
    (case y1 => k_is)
    (case y2 => k_is)
    (case y3 => k_is)
