import PyProof.Rows.All
import Wide.All
import OpenK.AllK
import Wide.FinOn
import Lean
import PyProof.EqAt
import PyProof.EqKinds
import PyProof.TupleCall
import KE.KSortTup
import PyProof.FString
import PyProof.StrBlock
import KE.KRevSl
import PyProof.StrLawsReplace
import PyProof.StrCalls6
import PyProof.MinMaxWalk
import PyProof.WalkInts
import PyProof.NeKinds
import KE.KEqDict
import PyProof.Rows.SumAny
import KE.KMinKey
import PyProof.Rows.CallKwBuiltin
import PySem.Challenge.RW_shortglue_k36_is_table
set_option Elab.async false
set_option linter.all false
set_option maxRecDepth 100000
open List (all_cons all_eq_false all_eq_true all_map any_cons any_eq_false any_eq_true any_map append_assoc append_nil append_toArray cons_lt_cons_iff contains_cons contains_iff_mem dropLast_concat dropLast_concat_getLast dropLast_eq_take dropLast_sublist drop_drop drop_eq_getElem_cons drop_eq_nil_of_le drop_left drop_suffix drop_take drop_zero eq_nil_of_length_eq_zero eq_of_mem_replicate eraseIdxIfInBounds_toArray eraseIdx_cons_succ eraseIdx_eq_take_drop_succ eraseIdx_sublist ext_getElem ext_getElem? extract_eq_take_drop extract_toArray filterMap_append filterMap_cons filterMap_eq_map filterMap_eq_nil_iff filterMap_map filter_append filter_cons filter_eq_self filter_sublist find?_cons find?_eq_none find?_eq_some_iff_append flatMap_append flatMap_cons flatMap_nil flatten_cons foldl_cons forIn_cons forIn_nil getD_eq_getElem?_getD getElem?_append_left getElem?_append_right getElem?_cons_succ getElem?_eq_getElem getElem?_eq_none getElem?_map getElem?_range getElem?_replicate getElem?_reverse getElem?_set_ne getElem?_set_self getElem?_take getElem?_take_of_lt getElem?_zip_eq_some getElem_cons_drop getElem_inj getElem_map getElem_mem getElem_of_mem getElem_range getElem_take getElem_toArray idxOf_lt_length_of_mem length_append length_cons length_drop length_dropLast length_eq_zero_iff length_eraseIdx length_filter_le length_flatten length_map length_nil length_pos_iff length_pos_of_mem length_range length_replicate length_reverse length_set length_singleton length_take length_zip lookup_append lookup_cons map_append map_congr_left map_cons map_drop map_fst_zip map_map map_nil map_replicate map_reverse map_set map_snd_zip map_take mem_append mem_append_left mem_append_right mem_cons mem_cons_of_mem mem_cons_self mem_filter mem_filterMap mem_flatMap mem_flatten mem_iff_getElem mem_iff_getElem? mem_map mem_map_of_mem mem_of_getElem? mem_of_mem_drop mem_of_mem_eraseIdx mem_of_mem_take mem_or_eq_of_mem_set mem_range mem_range'_1 mem_replicate mem_reverse mem_set mem_singleton ne_nil_of_length_pos ne_nil_of_mem nil_append nil_suffix nodup_append nodup_cons not_mem_nil of_mem_zip pairwise_append pairwise_cons pairwise_lt_range perm_append_comm range_succ range_succ_eq_map replicate_succ reverse_append reverse_cons reverse_reverse set_cons_succ set_cons_zero size_toArray suffix_iff_eq_drop sum_append sum_replicate_nat tail_cons take_add_one take_append_drop take_length take_nil take_of_length_le take_sublist take_succ take_succ_cons take_take take_zero)
open Nat (add_assoc add_comm add_mul and_one_is_mod eq_zero_or_pos exists_testBit_of_ne_zero le_add_right le_antisymm le_of_ble_eq_true le_of_eq le_of_lt le_of_not_lt le_of_succ_le le_succ log2_lt lt_of_le_of_lt lt_of_lt_of_le lt_or_ge lt_succ_of_lt lt_succ_self lt_trans max_le min_eq_left min_eq_right min_le_right mod_lt mul_comm mul_le_mul_right mul_pos ne_of_gt ne_of_lt not_lt not_lt_zero not_succ_le_self pow_le_pow_right pow_pos sub_le sub_self succ_le_succ succ_mul testBit_eq_decide_div_mod_eq testBit_lt_two_pow testBit_two_pow_sub_one zero_le zero_lt_succ zero_testBit)
open Int (add_zero ediv_nonneg ediv_one emod_lt_of_pos emod_nonneg fdiv_eq_ediv_of_nonneg fmod_eq_emod_of_nonneg le_ediv_of_mul_le le_total mul_le_mul_of_nonneg_left mul_one natCast_ediv natCast_nonneg natCast_pow natCast_sub natCast_zero neg_neg ofNat_le toNat_natCast zero_mul)
open Bool (and_eq_false_imp and_eq_true and_eq_true_iff beq_eq_decide_eq false_eq_true not_eq_true or_eq_true)
local macro_rules | `(tactic| walk_at "o")=>`(tactic| first | exact Or.inl rfl | exact Or.inr rfl | exact Or.inr (Or.inl rfl) | exact Or.inr (Or.inr rfl))
set_option maxHeartbeats 4000000
noncomputable section
namespace L2
open PySem PySem.W
def nQ(tb:String->Option Builtin)(p:Program)(w:World)(n₀:Nat)(ann:Option Value):Nat->SharedT->Thread->Option SharedT
 | 0,_,_=>none
 | n+1,s,t=>match through t with
  | true=>some s
  | false=>match stepOk n₀ ann t with
   | false=>none
   | true=>match stepT (denote tb) p w s t with
    | some (s',t')=>nQ tb p w n₀ ann n s' t'
    | none=>none
theorem pD{tb:String->Option Builtin}{p:Program}{w:World}{n₀:Nat}{ann:Option Value}:∀{n:Nat}{s s':SharedT}{t:Thread},nQ tb p w n₀ ann n s t=some s'->topRun tb p w n₀ ann n s.abs t=some s'.abs
 | 0,_,_,_,h=>by cases h
 | n+1,s,s',t,h=>by
  unfold nQ at h;unfold topRun
  cases he:through t with
  | true=>rw [he] at h;cases h;rfl
  | false =>
   rw [he] at h
   cases hk:stepOk n₀ ann t with
   | false=>rw [hk] at h;cases h
   | true =>
    rw [hk] at h
    cases hs:stepT (denote tb) p w s t with
    | none=>rw [hs] at h;cases h
    | some r=>obtain⟨s₂,t₂⟩:=r;rw [hs] at h;rw [stepT_spec hs];exact pD h
def zx:List Obj->Nat->BT->BT
 | [],_,t=>t
 | o::r,i,t=>zx r (i+1) (t.ins i o)
def Az(P:Params):BT:=zx (boot_heap P).objs.toList 0 .nil
theorem xZ:∀P,absHeap (Az P) (boot_heap P).objs.size (boot_heap P).life=boot_heap P:=fun P=>by kernel_rfl
theorem CN{p q:Program}{loose:List Str}{Xt:Shared->Bool}{α:Type}{Yf:Shared->α}{Ya:World->α}{N:Nat}{g0:Bool}{m₀:Nat}{ann:Option Value}
  (e:opening p=plainProg p.main.scope.names) (hN:Nat.ble 600 N=true) (f:∀s,fenceModules? p s=some s)
  (size:∀w:World,((boot_heap w.params).isNs mainGlobals && (Array.mk []:Array GenState).size == 0,(boot_heap w.params).objs.size,(boot_heap w.params).nsMap mainGlobals "__annotations__")=(true,m₀,ann))
  (run:∀(w:World) (os:OsState),(nQ treeTable p w m₀ ann N ⟨Az w.params,m₀,(boot_heap w.params).life,Array.mk [],boot_drawn,boot_toks,os⟩ (topStub p)).map (fun sT=>((staticsOk (importedModules p.main.body) (boot_heap w.params) sT.abs.heap && namesBound p sT.abs.heap && gensDone sT.abs && laidKept (boot_heap w.params) sT.abs.heap),openSeen q loose (importedModules p.main.body) Xt g0 sT.abs,Yf sT.abs))=some (true,openGood q loose,Ya w)):LeftO p q loose Xt Yf Ya N g0:=fun w=>by
 obtain⟨⟨h,gs,d,k,os⟩,e,e'⟩:=Option.map_eq_some_iff.mp (boot_open e hN f w);obtain⟨rfl,rfl,rfl,rfl⟩:h=boot_heap w.params/\gs=Array.mk []/\d=boot_drawn/\k=boot_toks:=by simpa using e'
 obtain⟨z1,z2,z3⟩:_/\_/\_:=by simpa only [Prod.mk.injEq] using size w
 obtain⟨sT,r,l⟩:=Option.map_eq_some_iff.mp (run w os);obtain⟨l1,l2,l3⟩:_/\_/\_:=by simpa only [Prod.mk.injEq] using l
 have r:=pD r
 rw [show SharedT.abs ⟨Az w.params,m₀,(boot_heap w.params).life,Array.mk [],boot_drawn,boot_toks,os⟩=⟨boot_heap w.params,Array.mk [],boot_drawn,boot_toks,os⟩ by
  unfold SharedT.abs;dsimp only;rw [<- z2,xZ]] at r
 have t:topFrom treeTable p w N ⟨boot_heap w.params,Array.mk [],boot_drawn,boot_toks,os⟩=some sT.abs:=by
  unfold topFrom;dsimp only;rw [z1,z2,z3,r];show (match staticsOk (importedModules p.main.body) (boot_heap w.params) sT.abs.heap && namesBound p sT.abs.heap && gensDone sT.abs && laidKept (boot_heap w.params) sT.abs.heap with|true=>_|false=>_)=_;rw [l1]
 unfold openEnds;rw [e];show (topFrom treeTable p w N _).map _=_;rw [t];exact congrArg some (Prod.ext l2 l3)
end L2
section
open PySem PySem.W PyProof.Rows
def AA:Program:=PySem.W.view PySem.Challenge.pw_shortglue_k36_is_table [1,2,3,4,5,7,8,9,11,12,13,14,15,16,17,18,20,21,23,24,25,27,29,30,31,32,33,35,36,37,38,39,40,41,42,43,44,45,46,47,48,49,50]
local macro_rules | `(tactic| o_head $H)=>`(tactic| (refine holds_open (q:=AA) (loose:=[PySem.Str.ofString "is_text"]) (Xt:=fun s=>xlAt AA [] s && recOk (RowW.records (OpenRow.toRowW (OpenLaw.row PySem.Challenge.rw_shortglue_k36_is_table))) s) (XP:=XL AA []) (Yf:=Hook.obs $H) (Ya:=Hook.val $H) (YP:=Hook.says $H) (N:=5022) ?hl (Hook.of $H) (Hook.keeps $H) (fun s e=>xl_of s (and_eq_true_iff.mp e).1) XL.keeps (by rfl) (by rfl) (by rfl) (fun s e=>recFacts_of (and_eq_true_iff.mp e).2) (by rfl) (by first | assumption | decide +kernel) (by decide +kernel) ⟨rfl,rfl,rfl,rfl,rfl,by decide +kernel⟩ ?hw ?hc;(case hl=>(refine L2.CN (m₀:=11) (ann:=some (.ref 6)) (by kernel_rfl) (by rfl) (fun s=>by kernel_rfl) (fun w=>by kernel_rfl) ?_;intro w os;kernel_rfl))))
set_option maxRecDepth 100000 in
set_option maxHeartbeats 0 in
open_top topHd for PySem.Challenge.rw_shortglue_k36_is_table
end
-- CHANGE: your row's module here,as the last of these rows
namespace L2
open PySem PySem.Spec PyProof.Rows
abbrev Key:=Sum Int Str
def ud:Key->Value->Bool
 | .inl k,v=>Value.isInt k v
 | .inr x,v=>Value.isStrOf x v
def G4(w:World):Key->Int
 | .inl k=>hashInt k
 | .inr x=>hashStr w x
theorem cr:∀{k:Key}{v:Value},ud k v=true->(∃i t,k=Sum.inl i/\v=Value.int i t)\/(∃x t,k=Sum.inr x/\v=Value.str x t)
 | .inl i,v,h=>by
  obtain⟨t,e⟩:=Value.isInt_shape (k:=i) (v:=v) h;exact .inl ⟨i,t,rfl,e⟩
 | .inr x,v,h=>by
  obtain⟨t,e⟩:=Value.isStrOf_shape (x:=x) (v:=v) h;exact .inr ⟨x,t,rfl,e⟩
theorem u7(i:Int)(t:Tok):ud (.inl i) (.int i t)=true:=by simp [ud,Value.isInt]
theorem u8(x:Str)(t:Tok):ud (.inr x) (.str x t)=true:=by simp [ud,Value.isStrOf]
theorem CO(a b:Int):decide ((Sum.inl a:Key)=Sum.inl b)=(a == b):=by
 by_cases e:a=b
 .subst e;simp
 .have h:¬ (Sum.inl a:Key)=Sum.inl b:=fun q=>e (Sum.inl.inj q);rw [decide_eq_false h];exact (beq_eq_false_iff_ne.mpr e).symm
theorem CP(a b:Str):decide ((Sum.inr a:Key)=Sum.inr b)=decide (a=b):=by
 by_cases e:a=b
 .subst e;simp
 .have h:¬ (Sum.inr a:Key)=Sum.inr b:=fun q=>e (Sum.inr.inj q);rw [decide_eq_false h,decide_eq_false e]
theorem CQ(a:Int)(b:Str):decide ((Sum.inl a:Key)=Sum.inr b)=false:=decide_eq_false (fun q=>nomatch q)
theorem CS(a:Str)(b:Int):decide ((Sum.inr a:Key)=Sum.inl b)=false:=decide_eq_false (fun q=>nomatch q)
def eZ(prog:Program)(w:World):PySem.KeyKind prog w Key where
 is:=ud
 hash:=G4 w
 inj:=fun v a b ha hb=>by
  rcases cr ha with ⟨i,t,rfl,rfl⟩|⟨x,t,rfl,rfl⟩
  .rcases cr hb with ⟨j,u,rfl,e⟩|⟨y,u,rfl,e⟩
   .injection e with e1 _;rw [e1]
   .exact nomatch e
  .rcases cr hb with ⟨j,u,rfl,e⟩|⟨y,u,rfl,e⟩
   .exact nomatch e
   .injection e with e1 _;rw [e1]
 byValue:=fun k v h=>by
  rcases cr h with ⟨i,t,rfl,rfl⟩|⟨x,t,rfl,rfl⟩ <;> rfl
 pyHash:=fun hv h=>by
  rcases cr hv with ⟨i,t,rfl,rfl⟩|⟨x,t,rfl,rfl⟩
  .exact wpAny_pyHash_int h
  .exact wpAny_pyHash_str h
 eqBool:=fun hu hv h=>by
  rcases cr hu with ⟨i,t,rfl,rfl⟩|⟨x,t,rfl,rfl⟩
  .rcases cr hv with ⟨j,u,rfl,rfl⟩|⟨y,u,rfl,rfl⟩
   .rw [CO] at h;exact wpAny_eqBool_int h
   .rw [CQ] at h;exact SeqAt.EqAt.int_str i t y u _ _ _ _ h
  .rcases cr hv with ⟨j,u,rfl,rfl⟩|⟨y,u,rfl,rfl⟩
   .rw [CS] at h;exact SeqAt.EqAt.str_int x t j u _ _ _ _ h
   .rw [CP] at h;exact wpAny_eqBool_str h
 «strs»:=fun k x t v h=>by
  rcases cr h with ⟨i,u,rfl,e⟩|⟨y,u,rfl,e⟩
  .exact nomatch e
  .injection e with e1 _;subst e1;cases v <;> rfl
theorem rf(prog:Program)(w:World)(i:Int)(t:Tok):(eZ prog w).is (.inl i) (.int i t)=true:=u7 i t
theorem rg(prog:Program)(w:World)(x:Str)(t:Tok):(eZ prog w).is (.inr x) (.str x t)=true:=u8 x t
inductive V where
 | non|bl (b:Bool)|int (i:Int)|str (x:Str)|byt (b:Array UInt8)|flt (b:UInt64)|ref (a:Addr)|ty (n:String)
 deriving DecidableEq
def c9:V->Value->Prop
 | .non,u=>u=Value.none
 | .bl b,u=>u=Value.bool b
 | .int i,u=>∃t,u=Value.int i t
 | .str x,u=>∃t,u=Value.str x t
 | .byt b,u=>∃t,u=Value.bytes b t
 | .flt b,u=>∃t,u=Value.float b t
 | .ref a,u=>u=Value.ref a
 | .ty n,u=>u=Value.type n
abbrev bW:List V->List Value->Prop:=Paired c9
theorem bW.length{xs:List V}{us:List Value}(r:bW xs us):xs.length=us.length:=Paired.length r
theorem bW.get:∀{xs:List V}{us:List Value}{i:Nat}{x:V},bW xs us->xs[i]?=some x->∃u,us[i]?=some u/\c9 x u
 | _,_,_,_,.nil,e=>by simp at e
 | _,_,0,_,.cons r _,e=>by simp at e;subst e;exact⟨_,rfl,r⟩
 | _,_,i+1,x,.cons _ t,e=>by
  obtain⟨u,h1,h2⟩:=bW.get (i:=i) (x:=x) t (by simpa using e);exact⟨u,by simpa using h1,h2⟩
theorem bW.set{x:V}{u:Value}(r:c9 x u):∀{xs:List V}{us:List Value} (i:Nat),bW xs us->bW (xs.set i x) (us.set i u)
 | _,_,_,.nil=>.nil
 | _,_,0,.cons _ t=>.cons r t
 | _,_,i+1,.cons q t=>.cons q (bW.set r i t)
theorem bW.append:∀{xs ys:List V}{us ws:List Value},bW xs us->bW ys ws->bW (xs++ys) (us++ws)
 | _,_,_,_,.nil,s=>s
 | _,_,_,_,.cons r t,s=>.cons r (bW.append t s)
theorem bW.take:∀{xs:List V}{us:List Value} (n:Nat),bW xs us->bW (xs.take n) (us.take n)
 | _,_,0,_=>.nil
 | _,_,_+1,.nil=>.nil
 | _,_,n+1,.cons r t=>.cons r (bW.take n t)
theorem bW.drop:∀{xs:List V}{us:List Value} (n:Nat),bW xs us->bW (xs.drop n) (us.drop n)
 | _,_,0,r=>r
 | _,_,_+1,.nil=>.nil
 | _,_,n+1,.cons _ t=>bW.drop n t
def xV:Option V->Option Value->Prop
 | some v,some u=>c9 v u
 | none,none=>True
 | _,_=>False
def KV{κ:Type}:List (κ×V)->List (κ×Value)->Prop:=Paired fun (p:κ×V) (q:κ×Value)=>p.1=q.1/\c9 p.2 q.2
def kV:Key->V
 | .inl i=>.int i
 | .inr x=>.str x
inductive HO where
 | lst (xs:List V)
 | tup (xs:List V)
 | dK (kvs:List (Key×V))|dT (kvs:List (List Key×V))
 | set (S:Int->Bool) (n:Nat)
 | ins (C dx:Addr) (fs:List (Str×V))
 | own (x:Addr)
 | xd (fs:List (Str×V))
 | met (f x:Addr)
 | rng (lo hi:Int)
 | frz (o:Obj) (u:HO)
 | tbl (ps:Array Value)
 | ext (φ:Heap->Prop)
abbrev Hp:=Addr->Option HO
def upd(H:Hp)(a:Addr)(o:HO):Hp:=fun b=>if b=a then some o else H b
theorem aF{H:Hp}{a:Addr}{o:HO}:upd H a o a=some o:=by unfold upd;rw [if_pos rfl]
theorem aw{H:Hp}{a b:Addr}{o:HO}(h:b≠a):upd H a o b=H b:=by unfold upd;rw [if_neg h]
theorem aT{H:Hp}{a b:Addr}{o:HO}(h:H a=some o)(h':H b=none):a≠b:=by
 intro e;subst e;rw [h] at h';cases h'
section
variable (P:Program) (w:World)
def bY(H:Hp)(h:Heap)(a:Addr):HO->Prop
 | .lst xs=>xs.length<=sizeLine/\∃(its:List Value) (n:Nat),bW xs its/\h.get? a=some { cls:=.type "list",data:=.seq its.toArray n }
 | .tup xs=>xs.length<=sizeLine/\∃its:List Value,bW xs its/\IsTup h a its.toArray
 | .dK kvs=>kvs.length<=sizeLine/\(a == sysModules)=false/\∃vs,KV kvs vs/\h.DictOf (eZ P w) a vs
 | .dT kvs=>kvs.length<=sizeLine/\(a == sysModules)=false/\∃xs:List (List Key×Addr×Value),
   Paired (fun (p:List Key×V) (q:List Key×Addr×Value)=>p.1=q.1/\H q.2.1=some (.tup (p.1.map kV))/\c9 p.2 q.2.2) kvs xs /\
   ∃o es ep,h.get? a=some o/\o.ExactDict/\o.data=.dict es ep/\es.toList=xs.map (entryOfKey (tupleKind (eZ P w)))/\(xs.map (·.1)).Nodup
 | .set S n=>h.SetOf (intKind P w) a S n
 | .ins C dx fs=>H dx=some (.own a)/\fs.length<=1000/\dx≠a/\h.get? a=some (PySem.W.instObj C dx) /\
   ∃mA,h.Ns1 dx mA/\(∀f,xV (fs.lookup f) (mA f))/\PySem.Within mA (fs.map (·.1))
 | .own _=>∃o,h.get? a=some o
 | .xd fs=>∃mA,h.Ns1 a mA/\∀f,xV (fs.lookup f) (mA f)
 | .rng lo hi=>∃t u v,h.get? a=some { cls:=.type "range",data:=.fields #[.int lo t,.int hi u,.int 1 v] }
 | .frz o u=>h.get? a=some o/\bY H h a u
 | .tbl ps=>h.get? a=some { cls:=.none,data:=.fields ps }
 | .met f x=>h.get? a=some (PySem.W.methodObj (.ref f) (.ref x))
 | .ext φ=>φ h/\(∃o,h.get? a=some o)/\∀h1 h2:Heap,φ h1->(∀o,h1.get? a=some o->h2.get? a=some o)->φ h2
def HOk(H:Hp)(h:Heap):Prop:=∀a o,H a=some o->bY P w H h a o
end
section
variable {P:Program}{w:World}{H H':Hp}{h h':Heap}{a:Addr}{o:HO}
theorem bY.lt(x:bY P w H h a o):a<h.objs.size:=by
 cases o with
 | lst xs=>obtain⟨_,_,_,_,e⟩:=x;exact Heap.lt_size e
 | tup xs=>obtain⟨_,_,_,p⟩:=x;exact p.lt
 | dK kvs=>obtain⟨_,_,_,_,o,_,_,e,_⟩:=x;exact Heap.lt_size e
 | dT kvs=>obtain⟨_,_,_,_,o,_,_,e,_⟩:=x;exact Heap.lt_size e
 | set S n=>obtain⟨o,_,_,_,e,_⟩:=x;exact Heap.lt_size e
 | ins C dx fs=>obtain⟨_,_,_,e,_⟩:=x;exact Heap.lt_size e
 | own y=>obtain⟨_,e⟩:=x;exact Heap.lt_size e
 | xd fs=>obtain⟨_,⟨_,_,_,e,_⟩,_⟩:=x;exact Heap.lt_size e
 | rng lo hi=>obtain⟨_,_,_,e⟩:=x;exact Heap.lt_size e
 | frz ob u=>obtain⟨e,_⟩:=x;exact Heap.lt_size e
 | tbl ps=>exact Heap.lt_size (show h.get? a=some _ from x)
 | met f y=>exact Heap.lt_size (show h.get? a=some _ from x)
 | ext φ=>obtain⟨_,⟨_,e⟩,_⟩:=x;exact Heap.lt_size e
theorem Paired.mapP{α β:Type}{F G:α->β->Prop}:∀{l₁:List α}{l₂:List β},Paired F l₁ l₂->(∀a b,F a b->G a b)->Paired G l₁ l₂
 | _,_,.nil,_=>.nil
 | _,_,.cons r t,f=>.cons (f _ _ r) (Paired.mapP t f)
theorem bY.stay(x:bY P w H h a o)(k:∀b u,(b=a\/H b=some (.own a))->h.get? b=some u->h'.get? b=some u)
  (ho:∀b,H b=some (.own a)->H' b=some (.own a)) (ht:∀b xs,H b=some (.tup xs)->H' b=some (.tup xs)):bY P w H' h' a o:=by
 induction o with
 | lst xs=>obtain⟨z,its,n,r,e⟩:=x;exact⟨z,its,n,r,k _ _ (.inl rfl) e⟩
 | tup xs=>obtain⟨z,its,r,ob,e,c⟩:=x;exact⟨z,its,r,ob,k _ _ (.inl rfl) e,c⟩
 | dK kvs=>obtain⟨z,y,vs,r,ob,es,ep,e,c⟩:=x;exact⟨z,y,vs,r,ob,es,ep,k _ _ (.inl rfl) e,c⟩
 | dT kvs =>
  obtain⟨z,y,xs,r,ob,es,ep,e,c⟩:=x;exact⟨z,y,xs,Paired.mapP r fun p q z=>⟨z.1,ht _ _ z.2.1,z.2.2⟩,ob,es,ep,k _ _ (.inl rfl) e,c⟩
 | set S n=>obtain⟨ob,es,ep,t,e,c⟩:=x;exact⟨ob,es,ep,t,k _ _ (.inl rfl) e,c⟩
 | ins C dx fs =>
  obtain⟨d,z,ne,e,mA,⟨od,es,ep,e2,c⟩,r⟩:=x;exact⟨ho _ d,z,ne,k _ _ (.inl rfl) e,mA,⟨od,es,ep,k _ _ (.inr d) e2,c⟩,r⟩
 | own y=>obtain⟨ob,e⟩:=x;exact⟨ob,k _ _ (.inl rfl) e⟩
 | xd fs=>obtain⟨mA,⟨od,es,ep,e,c⟩,r⟩:=x;exact⟨mA,⟨od,es,ep,k _ _ (.inl rfl) e,c⟩,r⟩
 | rng lo hi=>obtain⟨t,u,v,e⟩:=x;exact⟨t,u,v,k _ _ (.inl rfl) e⟩
 | frz ob u ih=>obtain⟨e,q⟩:=x;exact⟨k _ _ (.inl rfl) e,ih q⟩
 | tbl ps =>
  have e:h.get? a=some { cls:=.none,data:=.fields ps }:=x;show h'.get? a=some { cls:=.none,data:=.fields ps };exact k a _ (.inl rfl) e
 | met f y =>
  have e:h.get? a=some (PySem.W.methodObj (.ref f) (.ref y)):=x;show h'.get? a=some (PySem.W.methodObj (.ref f) (.ref y));exact k a _ (.inl rfl) e
 | ext φ=>obtain⟨p,⟨o,e⟩,st⟩:=x;exact⟨st _ _ p fun o q=>k _ _ (.inl rfl) q,⟨o,k _ _ (.inl rfl) e⟩,st⟩
theorem HOk.lt(x:HOk P w H h)(e:H a=some o):a<h.objs.size:=(x a o e).lt
theorem HOk.fresh(x:HOk P w H h)(e:h.objs.size<=a):H a=none:=by
 cases q:H a with
 | none=>rfl
 | some u=>exact absurd (lt_of_lt_of_le (x.lt q) e) (Nat.lt_irrefl _)
theorem HOk.kept(x:HOk P w H h)(k:∀b u,h.get? b=some u->h'.get? b=some u):HOk P w H h':=fun a o e =>
 (x a o e).stay (fun b u _ q=>k b u q) (fun _ q=>q) fun _ _ q=>q
theorem HOk.laid(x:HOk P w H h)(k:∀b u,h.get? b=some u->h'.get? b=some u)(hp:h.objs.size<=a)(new:bY P w (upd H a o) h' a o):HOk P w (upd H a o) h':=fun b u e=>by
 have hn:=x.fresh hp
 by_cases hb:b=a
 .subst hb;rw [aF] at e;cases e;exact new
 .rw [aw hb] at e;exact (x b u e).stay (fun c v _ q=>k c v q) (fun c q=>by rw [aw (aT q hn)];exact q) fun c xs q=>by rw [aw (aT q hn)];exact q
end
def Rd(H:Hp)(a:Addr)(u:HO):Prop:=H a=some u\/∃o,H a=some (.frz o u)
theorem Rd.ok{P:Program}{w:World}{H:Hp}{h:Heap}{a:Addr}{u:HO}(r:Rd H a u)(x:HOk P w H h):bY P w H h a u:=by
 rcases r with r|⟨o,r⟩
 .exact x a u r
 .obtain⟨_,q⟩:=x a _ r;exact q
def Mut:Option HO->Prop
 | some (.lst _)=>True
 | some (.dK _)=>True
 | some (.dT _)=>True
 | some (.set _ _)=>True
 | some (.ins _ _ _)=>True
 | some (.ext _)=>True
 | _=>False
section
variable {P:Program}{w:World}{H:Hp}{h h':Heap}{x e:Addr}{o':HO}
theorem HOk.write(ok:HOk P w H h)(mu:Mut (H x))(he:e=x\/H e=some (.own x))(k:∀b u,b≠e->h.get? b=some u->h'.get? b=some u)(heo:∃u,h'.get? e=some u)
  (new:bY P w (upd H x o') h' x o'):HOk P w (upd H x o') h':=fun b u q=>by
 have nown:∀c y,H c=some (.own y)->c≠x:=fun c y r z=>by subst z;rw [r] at mu;exact mu
 have ntup:∀c xs,H c=some (.tup xs)->c≠x:=fun c xs r z=>by subst z;rw [r] at mu;exact mu
 by_cases hb:b=x
 .subst hb;rw [aF] at q;cases q;exact new
 .rw [aw hb] at q
  by_cases hbe:b=e
  .have q':H b=some (.own x):=by
    rcases he with z|z
    .exact absurd (hbe.trans z) hb
    .rw [hbe];exact z
   rw [q] at q';cases q';obtain⟨v,hv⟩:=heo;exact⟨v,by rw [hbe];exact hv⟩
  .refine (ok b u q).stay (fun c v hc r=>k c v ?_ r) (fun c r=>by rw [aw (nown c b r)];exact r) fun c xs r=>by rw [aw (ntup c xs r)];exact r
   rcases hc with rfl|hc
   .exact hbe
   .rintro rfl
    rcases he with z|z
    .exact nown c b hc z
    .rw [hc] at z;cases z;exact hb rfl
end
structure Un (fs ex:List Addr) (H H':Hp) (h h':Heap):Prop where
 keep:∀b o,h.get? b=some o->H b=none->b∉fs->b∉ex->h'.get? b=some o
 slot:∀b o,h.get? b=some o->H b=none->b∈fs->b∉ex->∃sl,h'.get? b=some { o with slots:=sl }
 free:∀b o,h.get? b=some o->H b=none->b∉ex->H' b=none
 there:∀b o,h.get? b=some o->b∉ex->∃o',h'.get? b=some o'
 tups:∀b xs,H b=some (.tup xs)->H' b=some (.tup xs)
 frzs:∀b o u,H b=some (.frz o u)->H' b=some (.frz o u)
 tbls:∀b ps,H b=some (.tbl ps)->∃more,H' b=some (.tbl (ps++more))
section
variable {fs fs' ex ex':List Addr}{H H1 H2:Hp}{h h1 h2 h':Heap}{a x e:Addr}{o:HO}
theorem Un.any(u:Un fs ex H H1 h h1){b:Addr}{ob:Obj}(q:h.get? b=some ob)(n:H b=none)(hx:b∉ex):∃sl,h1.get? b=some { ob with slots:=sl }:=by
 by_cases hb:b∈fs
 .exact u.slot b ob q n hb hx
 .exact⟨ob.slots,u.keep b ob q n hb hx⟩
theorem Un.kept(k:∀b u,h.get? b=some u->h'.get? b=some u):Un fs ex H H h h' :=
 ⟨fun b ob q _ _ _=>k b ob q,fun b ob q _ _ _=>⟨ob.slots,k b ob q⟩,fun _ _ _ n _=>n,fun b ob q _=>⟨ob,k b ob q⟩,fun _ _ q=>q,fun _ _ _ q=>q,fun _ ps q=>⟨#[],by rw [q];simp⟩⟩
theorem Un.refl:Un fs ex H H h h:=Un.kept fun _ _ q=>q
theorem Un.laid(k:∀b u,h.get? b=some u->h'.get? b=some u)(hp:h.objs.size<=a)(hn:H a=none):Un fs ex H (upd H a o) h h' where
 keep:=fun b u q _ _ _=>k b u q
 slot:=fun b u q _ _ _=>⟨u.slots,k b u q⟩
 free:=fun b u q n _=>by rw [aw (ne_of_lt (lt_of_lt_of_le (Heap.lt_size q) hp))];exact n
 there:=fun b u q _=>⟨u,k b u q⟩
 tups:=fun b xs q=>by rw [aw (aT q hn)];exact q
 frzs:=fun b u xs q=>by rw [aw (aT q hn)];exact q
 tbls:=fun b ps q=>⟨#[],by rw [aw (aT q hn),q];simp⟩
theorem Un.write(mu:Mut (H x))(he:e=x\/H e=some (.own x))(k:∀b u,b≠e->h.get? b=some u->h'.get? b=some u)(heo:∃u,h'.get? e=some u):Un fs ex H (upd H x o) h h':=by
 have hx:∀b,H b=none->b≠x:=fun b n z=>by subst z;rw [n] at mu;exact mu
 have hb:∀b,H b=none->b≠e:=fun b n z=>by
  subst z
  rcases he with r|r
  .exact hx b n r
  .rw [n] at r;cases r
 have hm:∀b u,H b=some u->¬ Mut (some u)->b≠x:=fun b u q nm z=>by subst z;rw [q] at mu;exact nm mu
 refine⟨fun b u q n _ _=>k b u (hb b n) q,fun b u q n _ _=>⟨u.slots,k b u (hb b n) q⟩,fun b u q n _=>by rw [aw (hx b n)];exact n,fun b u q _=>?_,
  fun b xs q=>by rw [aw (hm b _ q fun z=>z)];exact q,fun b u xs q=>by rw [aw (hm b _ q fun z=>z)];exact q,fun b ps q=>⟨#[],by rw [aw (hm b _ q fun z=>z),q];simp⟩⟩
 by_cases hbe:b=e
 .subst hbe;exact heo
 .exact⟨u,k b u hbe q⟩
end
def trk(h:Heap)(H:Hp):List Addr:=(List.range h.objs.size).filter fun a=>(H a).isSome
def x0(h:Heap)(H:Hp):Heap:=PySem.W.hideAll h (trk h H)
theorem va(h:Heap)(H:Hp):(x0 h H).objs.size=h.objs.size:=PySem.W.hideAll_size _ _
theorem x3{h:Heap}{H:Hp}{b:Addr}{o:Obj}(e:h.get? b=some o)(n:H b=none):(x0 h H).get? b=some o :=
 PySem.W.hideAll_get _ e fun hm=>by
  have q:(H b).isSome=true:=(mem_filter.mp hm).2;rw [n] at q;simp at q
theorem AB{h:Heap}{H:Hp}{b:Addr}{o:Obj}(e:(x0 h H).get? b=some o):h.get? b=some o/\H b=none:=by
 have e':h.get? b=some o:=PySem.W.of_hideAll (trk h H) e;refine⟨e',?_⟩
 cases q:H b with
 | none=>rfl
 | some x =>
  have hm:b∈trk h H:=mem_filter.mpr ⟨mem_range.mpr (Heap.lt_size e'),by simp [q]⟩;have z:(x0 h H).get? b=none:=PySem.W.hideAll_none (trk h H) hm;rw [z] at e;cases e
structure Mod (K:PySem.W.Frag) (mg:Str->Option Value) (base:Heap):Prop where
 kin:K.In base
 glob:base.Ns mainGlobals mg
 blt:∃mb,base.Ns builtinsNs mb/\∀x:Str,x≠"__name__"->mb x=bootBuiltins x
 nolimit:base.NoLimit
structure Cx where
 prog:Program
 w:World
 K:PySem.W.Frag
 mg:Str->Option Value
 base:Heap
 A:Around
 N:List Str
 s₀:Shared
 H₀:Hp
 env:Env
 outer:List Env
 stack:List Env
 ex:List Addr
 fn:Str->Bool
 calm:Bool
 pn:List (Addr×Obj)
 xe:Value->Shared->Prop
def frs(l:List Env):List Addr:=l.filterMap (·.frame)
abbrev Cx.fs(X:Cx):List Addr:=frs X.outer
def Vis(sc:Scope)(x:Str):Prop:=sc.names.lookup x=some .local\/sc.names.lookup x=some .cell\/sc.names.lookup x=some .free
def Loc(sc:Scope)(x:Str):Prop:=sc.names.lookup x=some .local\/sc.names.lookup x=some .cell
def G5(env:Env)(h:Heap)(m:Str->Option Value)(x:Str)(u:Value):Prop :=
 (env.kindOf x=some .local/\m x=some u)\/((env.kindOf x=some .cell\/env.kindOf x=some .free)/\∃c,env.cells.lookup x=some c/\h.IsCell c (some u))
structure Cx.Ok (X:Cx):Prop where
 mod:Mod X.K X.mg X.base
 kind:X.env.scope.kind=.function
 glob:X.env.globals=mainGlobals
 blt:X.env.builtins=builtinsNs
 above:X.s₀.heap.objs.size<=X.env.locals
 inj:∀x y c,X.env.cells.lookup x=some c->X.env.cells.lookup y=some c->x=y
 has:∀x,(X.env.kindOf x=some .cell\/X.env.kindOf x=some .free)->∃c,X.env.cells.lookup x=some c
 cab:∀x c,X.fn x=true->X.env.cells.lookup x=some c->X.s₀.heap.objs.size<=c
 hd:X.calm=true->X.A.handled=none
 frames:X.A.frames=some X.stack
 stk:X.stack=X.outer\/(X.stack=X.env::X.outer/\X.env.frame=some X.env.locals)
 exf:∀b∈X.ex,b≠X.env.locals/\∀x c,X.env.cells.lookup x=some c->c≠b
 bs:∀b o,X.base.get? b=some o->X.s₀.heap.get? b=some o/\X.H₀ b=none
 bsz:X.base.objs.size<=X.s₀.heap.objs.size
 noex:∀b o,X.base.get? b=some o->b∉X.ex
 exfs:∀b∈X.ex,b∉X.fs
 funs:X.s₀.heap.FunFrames X.base X.outer
 frf:∀b∈X.fs,X.H₀ b=none
structure Inv (X:Cx) (pins:List (Addr×Obj)) (σ:List (Option V)) (H:Hp) (s:Shared):Prop where
 ok:X.Ok
 os:s.os=X.s₀.os
 bare:AllBare s.gens
 base:Un X.fs X.ex X.H₀ H X.s₀.heap s.heap
 loc:∃m,s.heap.Ns X.env.locals m/\∀(i:Nat) (x:Str) (v:V),X.N[i]?=some x->σ[i]?=some (some v)->Vis X.env.scope x->∃u,c9 v u/\G5 X.env s.heap m x u
 cell:∀x c,X.env.cells.lookup x=some c->∃v,s.heap.IsCell c v
 free:H X.env.locals=none
 freeC:∀x c,X.env.cells.lookup x=some c->H c=none
 pin:∀p∈X.pn++pins,s.heap.get? p.1=some p.2/\H p.1=none/\p.1≠X.env.locals/\p.1∉X.fs/\∀v,p.2.data≠.cell v
 hok:HOk X.prog X.w H s.heap
 len:σ.length=X.N.length
section
variable {X:Cx}{pins:List (Addr×Obj)}{σ:List (Option V)}{H H':Hp}{s:Shared}{h':Heap}
theorem Cx.Ok.nofr(ok:X.Ok){b:Addr}{o:Obj}(e:X.base.get? b=some o):b∉X.fs:=fun hb=>by
 have:=(ok.funs.mem hb).1;rw [e] at this;cases this
theorem Inv.bs(I:Inv X pins σ H s):∀b o,X.base.get? b=some o->s.heap.get? b=some o/\H b=none:=fun b o e =>
 ⟨I.base.keep b o (I.ok.bs b o e).1 (I.ok.bs b o e).2 (I.ok.nofr e) (I.ok.noex b o e),I.base.free b o (I.ok.bs b o e).1 (I.ok.bs b o e).2 (I.ok.noex b o e)⟩
theorem Inv.bk(I:Inv X pins σ H s):∀b o,X.base.get? b=some o->s.heap.get? b=some o:=fun b o e=>(I.bs b o e).1
theorem Inv.mod(I:Inv X pins σ H s):Mod X.K X.mg X.base:=I.ok.mod
theorem Inv.kIn(I:Inv X pins σ H s):X.K.In s.heap:=I.ok.mod.kin.keeps I.bk
theorem Inv.lt(I:Inv X pins σ H s):X.env.locals<s.heap.objs.size:=let ⟨_,hn,_⟩:=I.loc;hn.lt
theorem Inv.sz(I:Inv X pins σ H s):X.s₀.heap.objs.size<=s.heap.objs.size:=Nat.le_trans I.ok.above (le_of_lt I.lt)
theorem Inv.nofs(I:Inv X pins σ H s){a:Addr}(h:s.heap.objs.size<=a):a∉X.fs:=fun hb=>by
 obtain⟨_,o,ho,_⟩:=I.ok.funs.mem hb;exact absurd (lt_of_lt_of_le (Heap.lt_size ho) (Nat.le_trans I.sz h)) (Nat.lt_irrefl _)
theorem Inv.cne(I:Inv X pins σ H s):∀x c,X.env.cells.lookup x=some c->c≠X.env.locals:=fun x c e z=>by
 obtain⟨v,o,ho,hd⟩:=I.cell x c e;obtain⟨m,⟨o',es,ep,ho',hd',_⟩,_⟩:=I.loc;rw [z,ho'] at ho;cases ho;rw [hd'] at hd;cases hd
theorem Inv.funs(I:Inv X pins σ H s):s.heap.FunFrames X.base X.outer:=by
 have all:∀(l:List Env),(∀b∈frs l,b∈X.fs)->X.s₀.heap.FunFrames X.base l->s.heap.FunFrames X.base l:=by
  intro l
  induction l with
  | nil=>intro _ _;trivial
  | cons env r ih =>
   intro hs hl;obtain⟨hk,⟨L,o,hf,hn,ho,hd⟩,hr⟩:=hl;have hL:L∈X.fs:=hs L (by unfold frs;rw [filterMap_cons,hf];exact mem_cons_self);obtain⟨sl,e⟩:=I.base.slot L o ho (I.ok.frf L hL) hL fun z=>I.ok.exfs L z hL;exact⟨hk,⟨L,_,hf,hn,e,hd⟩,ih (fun b hb=>hs b (by unfold frs;rw [filterMap_cons,hf];exact mem_cons_of_mem _ hb)) hr⟩
 exact all X.outer (fun _ hb=>hb) I.ok.funs
theorem Inv.stack(I:Inv X pins σ H s):s.heap.FunFrames X.base X.stack:=by
 rcases I.ok.stk with e|⟨e,hf⟩
 .rw [e];exact I.funs
 .rw [e];obtain⟨m,hn,_⟩:=I.loc;refine .cons (by rw [I.ok.kind];decide) hf hn ?_ I.funs;exact Heap.get?_none_of_le (Nat.le_trans I.ok.bsz I.ok.above)
theorem Inv.stkSub(I:Inv X pins σ H s):∀b∈frs X.stack,b∈X.env.locals::X.fs:=fun b hb=>by
 rcases I.ok.stk with e|⟨e,hf⟩
 .rw [e] at hb;exact mem_cons_of_mem _ hb
 .rw [e] at hb;unfold frs at hb;rw [filterMap_cons,hf] at hb;exact hb
theorem Inv.stkFree(I:Inv X pins σ H s):∀b∈frs X.stack,H b=none:=fun b hb=>by
 rcases mem_cons.mp (I.stkSub b hb) with e|hb
 .rw [e];exact I.free
 .obtain⟨_,o,ho,_⟩:=I.ok.funs.mem hb;exact I.base.free b o ho (I.ok.frf b hb) fun z=>I.ok.exfs b z hb
theorem Inv.step{g':Array GenState}{t':Nat}{d':Drawn}{ch:List Addr}(I:Inv X pins σ H s)
  (hch:∀b∈ch,(b∈X.ex\/X.s₀.heap.objs.size<=b)/\b≠X.env.locals/\(∀x c,X.env.cells.lookup x=some c->c≠b)/\∀p∈X.pn++pins,p.1≠b)
  (keep:∀b o,b≠X.env.locals->b∉X.fs->b∉ch->s.heap.get? b=some o->H b=none->h'.get? b=some o)
  (slot:∀b o,b≠X.env.locals->b∈X.fs->b∉ch->s.heap.get? b=some o->H b=none->∃sl,h'.get? b=some { o with slots:=sl }) (free:∀b o,b∉ch->s.heap.get? b=some o->H b=none->H' b=none)
  (there:∀b o,b∉ch->s.heap.get? b=some o->∃o',h'.get? b=some o')
  (tups:∀b xs,H b=some (.tup xs)->H' b=some (.tup xs)) (frzs:∀b o u,H b=some (.frz o u)->H' b=some (.frz o u)) (tbls:∀b ps,H b=some (.tbl ps)->∃more,H' b=some (.tbl (ps++more)))
  (ns:∀m,s.heap.Ns X.env.locals m->h'.Ns X.env.locals m) (hok:HOk X.prog X.w H' h') (hg:AllBare g') :
  Inv X pins σ H' { s with heap:=h',gens:=g',drawn:=d',toks:=t' }:=by
 have neL:∀b o,X.s₀.heap.get? b=some o->b≠X.env.locals:=fun b o e=>ne_of_lt (lt_of_lt_of_le (Heap.lt_size e) I.ok.above)
 have neC:∀b o,X.s₀.heap.get? b=some o->b∉X.ex->b∉ch:=fun b o e hx hb=>by
  rcases (hch b hb).1 with z|z
  .exact hx z
  .exact absurd (lt_of_lt_of_le (Heap.lt_size e) z) (Nat.lt_irrefl _)
 have cellK:∀x c,X.env.cells.lookup x=some c->∀v,s.heap.IsCell c v->h'.IsCell c v:=fun x c e v ⟨o,ho,hd⟩=>by
  have nch:c∉ch:=fun z=>(hch c z).2.2.1 x c e rfl
  by_cases hc:c∈X.fs
  .obtain⟨sl,q⟩:=slot c o (I.cne x c e) hc nch ho (I.freeC x c e);exact⟨_,q,hd⟩
  .exact⟨o,keep c o (I.cne x c e) hc nch ho (I.freeC x c e),hd⟩
 refine⟨I.ok,I.os,hg,⟨fun b o e n hb hx=>?_,fun b o e n hb hx=>?_,fun b o e n hx=>?_,fun b o e hx=>?_,fun b xs e=>tups b xs (I.base.tups b xs e),fun b o xs e=>frzs b o xs (I.base.frzs b o xs e),fun b ps e=>?_⟩,?_,fun x c e=>?_,?_,fun x c e=>?_,fun p hp=>?_,hok,I.len⟩
 .exact keep b o (neL b o e) hb (neC b o e hx) (I.base.keep b o e n hb hx) (I.base.free b o e n hx)
 .obtain⟨sl,e1⟩:=I.base.slot b o e n hb hx;obtain⟨sl',e2⟩:=slot b _ (neL b o e) hb (neC b o e hx) e1 (I.base.free b o e n hx);exact⟨sl',e2⟩
 .obtain⟨o',e1⟩:=I.base.there b o e hx;exact free b o' (neC b o e hx) e1 (I.base.free b o e n hx)
 .obtain⟨o',e1⟩:=I.base.there b o e hx;exact there b o' (neC b o e hx) e1
 .obtain⟨m1,e1⟩:=I.base.tbls b ps e;obtain⟨m2,e2⟩:=tbls b _ e1;exact⟨m1++m2,by rw [e2,Array.append_assoc]⟩
 .obtain⟨m,hn,hl⟩:=I.loc;refine⟨m,ns m hn,fun i x v e1 e2 e3=>?_⟩;obtain⟨u,r,l⟩:=hl i x v e1 e2 e3;refine⟨u,r,?_⟩
  rcases l with l|⟨k,c,e,z⟩
  .exact .inl l
  .exact .inr ⟨k,c,e,cellK x c e _ z⟩
 .obtain⟨v,z⟩:=I.cell x c e;exact⟨v,cellK x c e v z⟩
 .obtain⟨m,⟨o,_,_,ho,_⟩,_⟩:=I.loc;exact free _ o (fun z=>(hch _ z).2.1 rfl) ho I.free
 .obtain⟨v,o,ho,hd⟩:=I.cell x c e;exact free c o (fun z=>(hch c z).2.2.1 x c e rfl) ho (I.freeC x c e)
 .obtain⟨e,n,ne,nf,d⟩:=I.pin p hp;have nch:p.1∉ch:=fun z=>(hch p.1 z).2.2.2 p hp rfl;exact⟨keep p.1 p.2 ne nf nch e n,free p.1 p.2 nch e n,ne,nf,d⟩
theorem Inv.un{t':Nat}(I:Inv X pins σ H s)(u:Un X.fs [] H H' s.heap h')(hok:HOk X.prog X.w H' h'):Inv X pins σ H' { s with heap:=h',toks:=t' }:=by
 obtain⟨m,⟨o,es,ep,ho,r⟩,_⟩:=id I.loc;obtain⟨sl,hL⟩:=u.any ho I.free (by simp)
 exact I.step (g':=s.gens) (d':=s.drawn) (ch:=[]) (fun _ z=>nomatch z) (fun b o _ hb _ e n=>u.keep b o e n hb (by simp)) (fun b o _ hb _ e n=>u.slot b o e n hb (by simp)) (fun b o _ e n=>u.free b o e n (by simp)) (fun b o _ e=>u.there b o e (by simp)) u.tups u.frzs u.tbls (fun m' hm=>by
  obtain⟨o',es',ep',ho',r'⟩:=hm;rw [ho] at ho';cases ho';exact⟨_,es',ep',hL,r'⟩) hok I.bare
theorem Inv.call{g':Array GenState}{t':Nat}{d':Drawn}{ch:List Addr}(I:Inv X pins σ H s)(u:Un (frs X.stack) ch H H' s.heap h')(hok:HOk X.prog X.w H' h')(hg:AllBare g')
  (hch:∀b∈ch,(b∈X.ex\/X.s₀.heap.objs.size<=b)/\b≠X.env.locals/\(∀x c,X.env.cells.lookup x=some c->c≠b)/\∀p∈X.pn++pins,p.1≠b) :
  Inv X pins σ H' { s with heap:=h',gens:=g',drawn:=d',toks:=t' }:=by
 obtain⟨m,⟨o,es,ep,ho,r⟩,_⟩:=id I.loc;obtain⟨sl,hL⟩:=u.any ho I.free fun z=>(hch _ z).2.1 rfl
 exact I.step (ch:=ch) hch (fun b o hL hb hc e n=>u.keep b o e n (fun z=>(mem_cons.mp (I.stkSub b z)).elim hL hb) hc) (fun b o _ _ hc e n=>u.any e n hc) (fun b o hc e n=>u.free b o e n hc) (fun b o hc e=>u.there b o e hc) u.tups u.frzs u.tbls (fun m' hm=>by
  obtain⟨o',es',ep',ho',r'⟩:=hm;rw [ho] at ho';cases ho';exact⟨_,es',ep',hL,r'⟩) hok hg
theorem Inv.turned{t':Nat}{it:Addr}(I:Inv X pins σ H s)(k:∀b o,b≠it->s.heap.get? b=some o->h'.get? b=some o)(hn:H it=none)(hL:it≠X.env.locals)
  (h1:it∈X.ex\/X.s₀.heap.objs.size<=it) (h2:∀x c,X.env.cells.lookup x=some c->c≠it) (h3:∀p∈X.pn++pins,p.1≠it):Inv X pins σ H { s with heap:=h',toks:=t' }:=by
 have nit:∀b u,H b=some u->b≠it:=fun b u e z=>by rw [z,hn] at e;cases e
 refine I.step (g':=s.gens) (d':=s.drawn) (ch:=[it]) (fun b hb=>?_) (fun b o _ _ hc e _=>k b o (fun z=>hc (by simp [z])) e) (fun b o _ _ hc e _=>⟨o.slots,k b o (fun z=>hc (by simp [z])) e⟩) (fun _ _ _ _ n=>n)
  (fun b o hc e=>⟨o,k b o (fun z=>hc (by simp [z])) e⟩) (fun _ _ e=>e) (fun _ _ _ e=>e) (fun b ps e=>⟨#[],by rw [e];simp⟩) (fun m hm=>?_) (fun b u e=>?_) I.bare
 .have e:b=it:=by simpa using hb
  subst e;exact⟨h1,hL,h2,h3⟩
 .obtain⟨o,es,ep,ho,r⟩:=hm;exact⟨o,es,ep,k _ o (Ne.symm hL) ho,r⟩
 .refine (I.hok b u e).stay (fun c v hc q=>k c v ?_ q) (fun _ q=>q) fun _ _ q=>q
  rcases hc with z|z
  .rw [z];exact nit b u e
  .exact nit c _ z
theorem Inv.tok(I:Inv X pins σ H s)(t:Nat):Inv X pins σ H { s with toks:=t }:=I.un (h':=s.heap) (t':=t) Un.refl I.hok
theorem Inv.kept{t':Nat}(I:Inv X pins σ H s)(k:∀b u,s.heap.get? b=some u->h'.get? b=some u):Inv X pins σ H { s with heap:=h',toks:=t' }:=I.un (Un.kept k) (I.hok.kept k)
theorem Inv.laid{a:Addr}{o:HO}{t':Nat}(I:Inv X pins σ H s)(k:∀b u,s.heap.get? b=some u->h'.get? b=some u)(hp:s.heap.objs.size<=a)(new:bY X.prog X.w (upd H a o) h' a o) :
  Inv X pins σ (upd H a o) { s with heap:=h',toks:=t' }:=I.un (Un.laid k hp (I.hok.fresh hp)) (I.hok.laid k hp new)
theorem Inv.write{x e:Addr}{o:HO}{t':Nat}(I:Inv X pins σ H s)(mu:Mut (H x))(he:e=x\/H e=some (.own x))(k:∀b u,b≠e->s.heap.get? b=some u->h'.get? b=some u)(heo:∃u,h'.get? e=some u)
  (new:bY X.prog X.w (upd H x o) h' x o):Inv X pins σ (upd H x o) { s with heap:=h',toks:=t' }:=I.un (Un.write mu he k heo) (I.hok.write mu he k heo new)
theorem Inv.pins_of{pins':List (Addr×Obj)}(I:Inv X pins σ H s)(h:∀p∈pins',s.heap.get? p.1=some p.2/\H p.1=none/\p.1≠X.env.locals/\p.1∉X.fs/\∀v,p.2.data≠.cell v):Inv X pins' σ H s :=
 ⟨I.ok,I.os,I.bare,I.base,I.loc,I.cell,I.free,I.freeC,fun p hp=>(mem_append.mp hp).elim (fun z=>I.pin p (mem_append_left _ z)) (h p),I.hok,I.len⟩
theorem sM{N:List Str}(hN:N.Nodup){i j:Nat}{x:Str}(a:N[i]?=some x)(b:N[j]?=some x):i=j:=by
 obtain⟨h1,e1⟩:=List.getElem?_eq_some_iff.mp a;obtain⟨h2,e2⟩:=List.getElem?_eq_some_iff.mp b;exact (getElem_inj hN).mp (e1.trans e2.symm)
theorem vc{M:Model}{A:Around}{E:Value->Shared->Prop}{i:Nat}{x:Str}{v:V}{u:Value}{Q:Unit->Shared->Prop}(I:Inv X pins σ H s)(hN:X.N.Nodup)(hi:X.N[i]?=some x)(hx:Loc X.env.scope x)(r:c9 v u)
  (h:∀s',Inv X pins (σ.set i (some v)) H s'->(∃a,Heap.SameBut a s.heap s'.heap/\(a=X.env.locals\/X.env.cells.lookup x=some a))->Q () s') (hf:X.fn x=true\/X.env.scope.names.lookup x=some .local:=by first|exact .inl rfl|exact .inr rfl|assumption):wpAny M A (storeName X.env x u) Q E s:=by
 obtain⟨m,hn,hl⟩:=id I.loc;have hcls:(X.env.scope.kind == .class || (X.env.scope.kind == .module && X.env.locals != X.env.globals))=false:=by rw [I.ok.kind];rfl
 have hiσ:i<σ.length:=by rw [I.len];exact (List.getElem?_eq_some_iff.mp hi).1
 have cne:=I.cne
 have tracked:∀{a:Addr}{h':Heap},(∃o,s.heap.get? a=some o/\H a=none)->Heap.SameBut a s.heap h'->HOk X.prog X.w H h':=fun {a h'} ha hs b ob e=>by
  obtain⟨_,_,hfree⟩:=ha;refine (I.hok b ob e).stay (fun c w' hc q=>(hs.2 c ?_).trans q) (fun _ q=>q) fun _ _ q=>q;rintro rfl
  rcases hc with rfl|hc
  .rw [hfree] at e;cases e
  .rw [hfree] at hc;cases hc
 rcases hx with hk|hk
 .refine wpAny_storeName_local hk hn (fun h' hn' hs=>?_) hcls;obtain⟨oL,_,_,hoL,_⟩:=id hn
  refine h _ ⟨I.ok,I.os,I.bare,⟨fun b o e n hb hx=>?_,fun b o e n hb hx=>?_,I.base.free,fun b o e hx=>?_,I.base.tups,I.base.frzs,I.base.tbls⟩,⟨_,hn',fun j y v' e1 e2 e3=>?_⟩,fun y c e=>?_,I.free,I.freeC,fun p hp=>?_,tracked ⟨oL,hoL,I.free⟩ hs,by simpa using I.len⟩ ⟨_,hs,.inl rfl⟩
  .exact (hs.2 b (ne_of_lt (lt_of_lt_of_le (Heap.lt_size e) I.ok.above))).trans (I.base.keep b o e n hb hx)
  .obtain⟨sl,e1⟩:=I.base.slot b o e n hb hx;exact⟨sl,(hs.2 b (ne_of_lt (lt_of_lt_of_le (Heap.lt_size e) I.ok.above))).trans e1⟩
  .obtain⟨o',e1⟩:=I.base.there b o e hx;exact⟨o',(hs.2 b (ne_of_lt (lt_of_lt_of_le (Heap.lt_size e) I.ok.above))).trans e1⟩
  .by_cases hj:j=i
   .subst hj;rw [hi] at e1;cases e1;rw [getElem?_set_self hiσ] at e2;cases e2;exact⟨u,r,.inl ⟨hk,by simp⟩⟩
   .rw [getElem?_set_ne (Ne.symm hj)] at e2;obtain⟨u',r',q⟩:=hl j y v' e1 e2 e3;refine⟨u',r',?_⟩
    rcases q with ⟨k,e⟩|⟨k,c,e,z⟩
    .refine .inl ⟨k,?_⟩;have:y≠x:=fun e=>hj (sM hN e1 (e ▸ hi));simp [this,e]
    .exact .inr ⟨k,c,e,z.sameBut hs (cne y c e)⟩
  .obtain⟨w',z⟩:=I.cell y c e;exact⟨w',z.sameBut hs (cne y c e)⟩
  .obtain⟨e,n,ne,nf,d⟩:=I.pin p hp;exact⟨(hs.2 p.1 ne).trans e,n,ne,nf,d⟩
 .have hfn:X.fn x=true:=by
   rcases hf with z|z
   .exact z
   .rw [z] at hk;cases hk
  obtain⟨c,hc⟩:=I.ok.has x (.inl hk);obtain⟨w',z⟩:=I.cell x c hc;refine wpAny_storeName_cell I.ok.kind hk hc z (fun h' hc' hs=>?_);obtain⟨oc,hoc,hocd⟩:=id z
  refine h { s with heap:=h' } ⟨I.ok,I.os,I.bare,⟨fun b o e n hb hx=>?_,fun b o e n hb hx=>?_,I.base.free,fun b o e hx=>?_,I.base.tups,I.base.frzs,I.base.tbls⟩,⟨m,hn.sameBut hs (Ne.symm (cne x c hc)),fun j y v' e1 e2 e3=>?_⟩,fun y c' e=>?_,I.free,I.freeC,fun p hp=>?_,tracked ⟨oc,hoc,I.freeC x c hc⟩ hs,by simpa using I.len⟩ ⟨c,hs,.inr hc⟩
  .exact (hs.2 b (ne_of_lt (lt_of_lt_of_le (Heap.lt_size e) (I.ok.cab x c hfn hc)))).trans (I.base.keep b o e n hb hx)
  .obtain⟨sl,e1⟩:=I.base.slot b o e n hb hx;exact⟨sl,(hs.2 b (ne_of_lt (lt_of_lt_of_le (Heap.lt_size e) (I.ok.cab x c hfn hc)))).trans e1⟩
  .obtain⟨o',e1⟩:=I.base.there b o e hx;exact⟨o',(hs.2 b (ne_of_lt (lt_of_lt_of_le (Heap.lt_size e) (I.ok.cab x c hfn hc)))).trans e1⟩
  .by_cases hj:j=i
   .subst hj;rw [hi] at e1;cases e1;rw [getElem?_set_self hiσ] at e2;cases e2;exact⟨u,r,.inr ⟨.inl hk,c,hc,hc'⟩⟩
   .rw [getElem?_set_ne (Ne.symm hj)] at e2;obtain⟨u',r',q⟩:=hl j y v' e1 e2 e3;refine⟨u',r',?_⟩
    rcases q with q|⟨k,c',e,z'⟩
    .exact .inl q
    .refine .inr ⟨k,c',e,z'.sameBut hs ?_⟩;rintro rfl;exact hj (sM hN e1 (I.ok.inj _ _ _ e hc ▸ hi))
  .by_cases hcc:c'=c
   .subst hcc;exact⟨_,hc'⟩
   .obtain⟨w2,z2⟩:=I.cell y c' e;exact⟨w2,z2.sameBut hs hcc⟩
  .obtain⟨e,n,ne,nf,d⟩:=I.pin p hp;refine⟨(hs.2 p.1 ?_).trans e,n,ne,nf,d⟩;intro q;rw [q,hoc] at e;have q':oc=p.2:=Option.some.inj e;exact d w' (by rw [<- q'];exact hocd)
theorem kF{M:Model}{A:Around}{E:Value->Shared->Prop}{i:Nat}{x:Str}{v:V}{u:Value}{Q:Unit->Shared->Prop}(I:Inv X pins σ H s)(hN:X.N.Nodup)(hi:X.N[i]?=some x)(hx:Loc X.env.scope x)(r:c9 v u)
  (h:∀s',Inv X pins (σ.set i (some v)) H s'->Q () s') (hf:X.fn x=true\/X.env.scope.names.lookup x=some .local:=by first|exact .inl rfl|exact .inr rfl|assumption):wpAny M A (storeName X.env x u) Q E s :=
 vc I hN hi hx r (fun s' I' _=>h s' I') hf
theorem Inv.call'{s':Shared}{ch:List Addr}(I:Inv X pins σ H s)(ho:s'.os=s.os)(u:Un (frs X.stack) ch H H' s.heap s'.heap)(hok:HOk X.prog X.w H' s'.heap)(hg:AllBare s'.gens)
  (hch:∀b∈ch,(b∈X.ex\/X.s₀.heap.objs.size<=b)/\b≠X.env.locals/\(∀x c,X.env.cells.lookup x=some c->c≠b)/\∀p∈X.pn++pins,p.1≠b):Inv X pins σ H' s':=by
 obtain⟨h',g',d',t',o'⟩:=s';have e:o'=s.os:=ho;subst e;exact I.call (g':=g') (t':=t') (d':=d') u hok hg hch
end
abbrev XK:=Value->Option Addr->Hp->Prop
abbrev St:=List (Option V)
abbrev VK:=V->Hp->Prop
abbrev TE:=St->Hp->VK->Prop
abbrev TT:=St->Hp->(Bool->Hp->Prop)->Prop
abbrev TA:=St->Hp->(List V->Hp->Prop)->Prop
structure vd where
 nx:St->Hp->Prop
 rt:VK
 bk:St->Hp->Prop:=fun _ _=>False
 ct:St->Hp->Prop:=fun _ _=>False
abbrev TS:=vd->St->Hp->Prop
def EP(X:Cx)(pins:List (Addr×Obj))(σ:St)(Q:VK)(u:Value)(s':Shared):Prop:=∃v H',Inv X pins σ H' s'/\c9 v u/\Q v H'
def TP(X:Cx)(pins:List (Addr×Obj))(σ:St)(Q:Bool->Hp->Prop)(b:Bool)(s':Shared):Prop:=∃H',Inv X pins σ H' s'/\Q b H'
def AP(X:Cx)(pins:List (Addr×Obj))(σ:St)(Q:List V->Hp->Prop)(us:List Value)(s':Shared):Prop:=∃vs H',Inv X pins σ H' s'/\bW vs us/\Q vs H'
def SP(X:Cx)(pins:List (Addr×Obj))(D:vd)(f:Flow)(s':Shared):Prop :=
 match f with
 | .next=>∃σ' H',Inv X pins σ' H' s'/\D.nx σ' H'
 | .brk=>∃σ' H',Inv X pins σ' H' s'/\D.bk σ' H'
 | .cont=>∃σ' H',Inv X pins σ' H' s'/\D.ct σ' H'
 | .ret u=>∃v σ' H',Inv X pins σ' H' s'/\c9 v u/\D.rt v H'
def PE(X:Cx)(e:Expr)(t:TE):Prop :=
 ∀(pins:List (Addr×Obj)) (s:Shared) (σ:St) (H:Hp) (Q:VK),Inv X pins σ H s->t σ H Q->wpAny (model X.prog X.w) X.A (eval e X.env) (EP X pins σ Q) X.xe s
def PT(X:Cx)(e:Expr)(t:TT):Prop :=
 ∀(pins:List (Addr×Obj)) (s:Shared) (σ:St) (H:Hp) (Q:Bool->Hp->Prop),Inv X pins σ H s->t σ H Q->wpAny (model X.prog X.w) X.A (isTrue e X.env (eval e X.env)) (TP X pins σ Q) X.xe s
def PW(X:Cx)(e:Expr)(t:TT):Prop :=
 ∀(whole:Sem Value) (pins:List (Addr×Obj)) (s:Shared) (σ:St) (H:Hp) (Q:Bool->Hp->Prop),Inv X pins σ H s->t σ H Q->wpAny (model X.prog X.w) X.A (isTrue e X.env whole) (TP X pins σ Q) X.xe s
theorem PW.pt{X:Cx}{e:Expr}{t:TT}(h:PW X e t):PT X e t:=h _
def PA(X:Cx)(es:List Expr)(t:TA):Prop :=
 ∀(pos:Pos) (pins:List (Addr×Obj)) (s:Shared) (σ:St) (H:Hp) (Q:List V->Hp->Prop),Inv X pins σ H s->t σ H Q->wpAny (model X.prog X.w) X.A (spliced (backTo pos (starEach es X.env))) (AP X pins σ Q) X.xe s
def PS(X:Cx)(st:Stmt)(t:TS):Prop :=
 ∀(pins:List (Addr×Obj)) (s:Shared) (σ:St) (H:Hp) (D:vd),Inv X pins σ H s->t D σ H->wpAny (model X.prog X.w) X.A (exec st X.env) (SP X pins D) X.xe s
def PSs(X:Cx)(st:List Stmt)(t:TS):Prop :=
 ∀(pins:List (Addr×Obj)) (s:Shared) (σ:St) (H:Hp) (D:vd),Inv X pins σ H s->t D σ H->wpAny (model X.prog X.w) X.A (execs st X.env) (SP X pins D) X.xe s
theorem thn{α:Type}{t:Sem α}{Q Q':α->Shared->Prop}{M:Model}{A:Around}{E:Value->Shared->Prop}{s:Shared}(h:wpAny M A t Q E s)(hQ:∀a s,Q a s->Q' a s):wpAny M A t Q' E s:=wpAny_mono h hQ fun _ _ x=>x
section
variable {X:Cx}
def aM(i:Nat):TE:=fun σ H Q=>∃v,σ[i]?=some (some v)/\Q v H
def tC(v:V):TE:=fun _ H Q=>Q v H
theorem CT{i:Nat}{x:Str}{pos:Pos}(hN:X.N[i]?=some x)(hv:Vis X.env.scope x)(hd:(x == ("__debug__":Str))=false:=by decide)(hcd:(x == ("__classdict__":Str))=false:=by decide):PE X (.Name x pos) (aM i):=by
 intro pins s σ H Q I h;obtain⟨v,e,h⟩:=h;obtain⟨m,hn,hl⟩:=I.loc;obtain⟨u,r,l⟩:=hl i x v hN e hv;have fin:EP X pins σ Q u s:=⟨v,H,I,r,h⟩
 rcases l with ⟨hk,hm⟩|⟨hk,c,hc,hcell⟩
 .exact wpAny_Name (wpAny_loadName_local I.ok.kind hk hn hm fin) hd
 .rcases hk with hk|hk
  .exact wpAny_Name (wpAny_loadName_cell I.ok.kind hk hc hcell fin) hd
  .exact wpAny_Name (wpAny_loadName_free I.ok.kind hk hc hcell fin hcd) hd
theorem al{i j pos}:PE X (.Constant (.int i) j pos) (tC (.int i)):=fun _ _ _ H _ I h=>wpAny_Constant_int ⟨.int i,H,I.tok _,⟨_,rfl⟩,h⟩
theorem jq{b j pos}:PE X (.Constant (.bool b) j pos) (tC (.bl b)):=fun _ _ _ H _ I h=>Constant_bool ⟨.bl b,H,I,rfl,h⟩
theorem sN{j pos}:PE X (.Constant .none j pos) (tC .non):=fun _ _ _ H _ I h=>Constant_none ⟨.non,H,I,rfl,h⟩
theorem CU{x j pos}:PE X (.Constant (.str x) j pos) (tC (.str x)):=fun _ _ _ H _ I h=>Calls.Constant_str ⟨.str x,H,I.tok _,⟨_,rfl⟩,h⟩
def Gl(X:Cx)(x:Str):Prop:=X.env.kindOf x=some .globalImplicit
theorem jr{E:Value->Shared->Prop}{pins:List (Addr×Obj)}{s:Shared}{σ:St}{H:Hp}{x:Str}{u:Value}{pos:Pos}{Q:Value->Shared->Prop}(I:Inv X pins σ H s)(hg:Gl X x)(hm:X.mg x=some u)(h:Q u s)
  (hd:(x == ("__debug__":Str))=false:=by decide):wpAny (model X.prog X.w) X.A (eval (.Name x pos) X.env) Q E s :=
 Calls.Name_function_global I.ok.kind hg (Calls.loadGlobal_global (by rw [I.ok.glob];exact I.mod.glob.keeps I.bk) hm h) hd
theorem ik{E:Value->Shared->Prop}{pins:List (Addr×Obj)}{s:Shared}{σ:St}{H:Hp}{x:Str}{u:Value}{pos:Pos}{Q:Value->Shared->Prop}(I:Inv X pins σ H s)(hg:Gl X x)(hm:X.mg x=none)(hv:bootBuiltins x=some u)(h:Q u s)
  (hn:x≠"__name__":=by decide) (hd:(x == ("__debug__":Str))=false:=by decide):wpAny (model X.prog X.w) X.A (eval (.Name x pos) X.env) Q E s:=by
 obtain⟨mb,h1,h2⟩:=I.mod.blt;exact Calls.Name_function_global I.ok.kind hg (Calls.loadGlobal_builtin (by rw [I.ok.glob];exact I.mod.glob.keeps I.bk) hm (by rw [I.ok.blt];exact h1.keeps I.bk) ((h2 x hn).trans hv) h) hd
theorem AC{x:Str}{v:V}{u:Value}{pos:Pos}(hg:Gl X x)(hm:X.mg x=some u)(r:c9 v u)(hd:(x == ("__debug__":Str))=false:=by decide):PE X (.Name x pos) (tC v) :=
 fun _ _ _ H _ I h=>jr I hg hm ⟨v,H,I,r,h⟩ hd
theorem kQ{x:Str}{v:V}{u:Value}{pos:Pos}(hg:Gl X x)(hm:X.mg x=none)(hv:bootBuiltins x=some u)(r:c9 v u)(hn:x≠"__name__":=by decide)(hd:(x == ("__debug__":Str))=false:=by decide):PE X (.Name x pos) (tC v) :=
 fun _ _ _ H _ I h=>ik I hg hm hv ⟨v,H,I,r,h⟩ hn hd
variable {a b:Expr}{ta tb:TE}{pos:Pos}
def tB(t:TE):TT:=fun σ H Q=>t σ H fun x H1=>∃c,x=.bl c/\Q c H1
theorem CV{e:Expr}{t:TE}(h:PE X e t)(he:∀whole,isTrue e X.env whole=(do let v <- whole;standAt e.pos;holding [v] (truthy v)):=by intro _;rfl):PT X e (tB t):=by
 intro pins s σ H Q I hw;refine isTrue_plain (thn (h pins s σ H _ I hw) fun v s1 ⟨x,H1,I1,r1,q1⟩=>?_) (he _);obtain⟨d,rfl,q⟩:=q1;cases r1;exact wpAny_truthy_bool ⟨H1,I1,q⟩
variable {tA tB':TT}{rest:List Expr}
def Fe(t u:TT):TT:=fun σ H Q=>t σ H fun c H1=>if c=true then u σ H1 Q else Q false H1
def tOr(t u:TT):TT:=fun σ H Q=>t σ H fun c H1=>if c=true then Q true H1 else u σ H1 Q
def Ff(t:TT):TT:=fun σ H Q=>t σ H fun c H1=>Q (!c) H1
theorem rh(ha:PT X a tA):PW X (.BoolOp .And [a] pos) tA:=by
 intro wh pins s σ H Q I h;refine isTrue_and (thn (ha pins s σ H Q I h) fun c s1 e=>?_)
 cases c with
 | true=>exact isTrue_and_nil e
 | false=>exact e
theorem ve(ha:PT X a tA):PW X (.BoolOp .Or [a] pos) tA:=by
 intro wh pins s σ H Q I h;refine isTrue_or (thn (ha pins s σ H Q I h) fun c s1 e=>?_)
 cases c with
 | false=>exact isTrue_or_nil e
 | true=>exact e
theorem vf(ha:PT X a tA)(hb:PW X (.BoolOp .And (b::rest) pos) tB'):PW X (.BoolOp .And (a::b::rest) pos) (Fe tA tB'):=by
 intro wh pins s σ H Q I h;refine isTrue_and (thn (ha pins s σ H _ I h) fun c s1 ⟨H1,I1,q1⟩=>?_)
 cases c with
 | true=>exact hb wh pins s1 σ H1 Q I1 q1
 | false=>exact⟨H1,I1,q1⟩
theorem x4(ha:PT X a tA)(hb:PW X (.BoolOp .Or (b::rest) pos) tB'):PW X (.BoolOp .Or (a::b::rest) pos) (tOr tA tB'):=by
 intro wh pins s σ H Q I h;refine isTrue_or (thn (ha pins s σ H _ I h) fun c s1 ⟨H1,I1,q1⟩=>?_)
 cases c with
 | true=>exact⟨H1,I1,q1⟩
 | false=>exact hb wh pins s1 σ H1 Q I1 q1
theorem mX(ha:PT X a tA):PT X (.UnaryOp .Not a pos) (Ff tA):=by
 intro pins s σ H Q I h;exact isTrue_not (ha pins s σ H (fun c H1=>Q (!c) H1) I h)
def CW(ta tb:TE):TE:=fun σ H Q=>ta σ H fun x H1=>∃c,x=.bl c/\if c=true then tb σ H1 Q else Q (.bl false) H1
def CY(ta:TE):TE:=fun σ H Q=>ta σ H fun x H1=>∃c,x=.bl c/\Q (.bl (!c)) H1
theorem pE{op}{t:TE}(h:PE X a t):PE X (.BoolOp op [a] pos) t:=fun pins s σ H Q I hw=>BoolOp_one (h pins s σ H Q I hw)
theorem mY(ha:PE X a ta)(hb:PE X (.BoolOp .And (b::rest) pos) tb):PE X (.BoolOp .And (a::b::rest) pos) (CW ta tb):=by
 intro pins s σ H Q I h;refine BoolOp_and (thn (ha pins s σ H _ I h) fun v s1 ⟨x,H1,I1,r1,q1⟩=>?_);obtain⟨c,rfl,q1⟩:=q1;cases r1;refine wpAny_truthy_bool ?_
 cases c with
 | true=>exact hb pins s1 σ H1 Q I1 q1
 | false=>exact⟨.bl false,H1,I1,rfl,q1⟩
theorem zy(ha:PE X a ta):PE X (.UnaryOp .Not a pos) (CY ta):=by
 intro pins s σ H Q I h;refine UnaryOp_ (thn (ha pins s σ H _ I h) fun v s1 ⟨x,H1,I1,r1,q1⟩=>?_);obtain⟨c,rfl,q1⟩:=q1;cases r1;exact not_of (wpAny_truthy_bool ⟨.bl (!c),H1,I1,rfl,q1⟩)
def tIf(t:TT)(ta tb:TE):TE:=fun σ H Q=>t σ H fun c H1=>if c=true then ta σ H1 Q else tb σ H1 Q
theorem sO{c:Expr}(hc:PT X c tA)(ha:PE X a ta)(hb:PE X b tb):PE X (.IfExp c a b pos) (tIf tA ta tb):=by
 intro pins s σ H Q I h;refine wpAny_IfExp (thn (hc pins s σ H _ I h) fun d s1 ⟨H1,I1,q1⟩=>?_)
 cases d with
 | true=>exact ha pins s1 σ H1 Q I1 q1
 | false=>exact hb pins s1 σ H1 Q I1 q1
end
def SqL(K:PySem.W.Frag)(H:Hp)(a:Addr)(xs:List V):Prop :=
 Rd H a (.lst xs) \/
  ∃(o:Obj) (its:Array Value) (n:Nat),K.lookup a=some o/\o.cls=.type "list"/\o.dict=none/\o.data=.seq its n/\its.size<=sizeLine/\bW xs its.toList
def SqT(K:PySem.W.Frag)(H:Hp)(a:Addr)(xs:List V):Prop :=
 Rd H a (.tup xs) \/
  ∃(o:Obj) (its:Array Value) (n:Nat),K.lookup a=some o/\o.cls=.type "tuple"/\o.data=.seq its n/\its.size<=sizeLine/\bW xs its.toList
def G6:Value->Option V
 | .none=>some .non
 | .bool b=>some (.bl b)
 | .int i _=>some (.int i)
 | .str x _=>some (.str x)
 | .bytes b _=>some (.byt b)
 | .float b _=>some (.flt b)
 | .ref a=>some (.ref a)
 | .type n=>some (.ty n)
 | _=>none
theorem c9.abs{x:V}{u:Value}(r:c9 x u):G6 u=some x:=by
 cases x with
 | non=>cases r;rfl
 | bl _=>cases r;rfl
 | int _=>obtain⟨t,rfl⟩:=r;rfl
 | str _=>obtain⟨t,rfl⟩:=r;rfl
 | byt _=>obtain⟨t,rfl⟩:=r;rfl
 | flt _=>obtain⟨t,rfl⟩:=r;rfl
 | ref _=>cases r;rfl
 | ty _=>cases r;rfl
theorem c9.inj{x y:V}{u:Value}(r:c9 x u)(q:c9 y u):x=y:=Option.some.inj (r.abs.symm.trans q.abs)
theorem bW.inj:∀{xs ys:List V}{us:List Value},bW xs us->bW ys us->xs=ys
 | _,_,_,.nil,.nil=>rfl
 | _,_,_,.cons r t,.cons r' t'=>by rw [r.inj r',bW.inj t t']
section
variable {X:Cx}{pins:List (Addr×Obj)}{σ:St}{H:Hp}{s:Shared}{a:Addr}{xs ys:List V}
theorem SqL.of{K:PySem.W.Frag}(h:H a=some (.lst xs)):SqL K H a xs:=.inl (.inl h)
theorem SqT.of{K:PySem.W.Frag}(h:H a=some (.tup xs)):SqT K H a xs:=.inl (.inl h)
theorem Inv.list(I:Inv X pins σ H s)(h:SqL X.K H a xs):∃its:List Value,bW xs its/\PlainL s.heap a its.toArray/\xs.length<=sizeLine:=by
 rcases h with h|⟨o,its,n,hk,hc,hd,hs,hz,r⟩
 .obtain⟨z,its,n,r,e⟩:=h.ok I.hok;exact⟨its,r,⟨_,n,e,rfl,rfl,rfl⟩,z⟩
 .refine⟨its.toList,r,⟨o,n,I.kIn a o hk,hc,hd,by simpa using hs⟩,?_⟩;have e:=r.length;simp only [Array.length_toList] at e;omega
theorem Inv.tuple(I:Inv X pins σ H s)(h:SqT X.K H a xs):∃its:List Value,bW xs its/\IsTup s.heap a its.toArray/\xs.length<=sizeLine:=by
 rcases h with h|⟨o,its,n,hk,hc,hs,hz,r⟩
 .obtain⟨z,its,r,p⟩:=h.ok I.hok;exact⟨its,r,p,z⟩
 .refine⟨its.toList,r,⟨o,I.kIn a o hk,hc,n,by simpa using hs⟩,?_⟩;have e:=r.length;simp only [Array.length_toList] at e;omega
theorem Inv.list_inj(I:Inv X pins σ H s)(h:SqL X.K H a xs)(h':SqL X.K H a ys):xs=ys:=by
 obtain⟨its,r,⟨o,n,e,_,_,d⟩,_⟩:=I.list h;obtain⟨its',r',⟨o',n',e',_,_,d'⟩,_⟩:=I.list h';rw [e] at e';cases e';rw [d] at d';injection d' with d1 _;have:its=its':=by simpa using congrArg Array.toList d1
 subst this;exact r.inj r'
theorem Inv.tuple_inj(I:Inv X pins σ H s)(h:SqT X.K H a xs)(h':SqT X.K H a ys):xs=ys:=by
 obtain⟨its,r,⟨o,e,_,n,d⟩,_⟩:=I.tuple h;obtain⟨its',r',⟨o',e',_,n',d'⟩,_⟩:=I.tuple h';rw [e] at e';cases e';rw [d] at d';injection d' with d1 _;have:its=its':=by simpa using congrArg Array.toList d1
 subst this;exact r.inj r'
end
abbrev Cx.wish(X:Cx)(E:Value->Shared->Prop):Cx:={ X with xe:=E }
abbrev Cx.nox(X:Cx):Cx:=X.wish fun _ _=>False
theorem Cx.Ok.wish{X:Cx}(ok:X.Ok)(E:Value->Shared->Prop):(X.wish E).Ok :=
 ⟨ok.mod,ok.kind,ok.glob,ok.blt,ok.above,ok.inj,ok.has,ok.cab,ok.hd,ok.frames,ok.stk,ok.exf,ok.bs,ok.bsz,ok.noex,ok.exfs,ok.funs,ok.frf⟩
theorem Cx.Ok.unwish{X:Cx}{E:Value->Shared->Prop}(ok:(X.wish E).Ok):X.Ok :=
 ⟨ok.mod,ok.kind,ok.glob,ok.blt,ok.above,ok.inj,ok.has,ok.cab,ok.hd,ok.frames,ok.stk,ok.exf,ok.bs,ok.bsz,ok.noex,ok.exfs,ok.funs,ok.frf⟩
section
variable {X:Cx}{pins:List (Addr×Obj)}{σ:St}{H:Hp}{s:Shared}{E:Value->Shared->Prop}
theorem Inv.wish(I:Inv X pins σ H s)(E:Value->Shared->Prop):Inv (X.wish E) pins σ H s:=⟨I.ok.wish E,I.os,I.bare,I.base,I.loc,I.cell,I.free,I.freeC,I.pin,I.hok,I.len⟩
theorem Inv.unwish(I:Inv (X.wish E) pins σ H s):Inv X pins σ H s:=⟨I.ok.unwish,I.os,I.bare,I.base,I.loc,I.cell,I.free,I.freeC,I.pin,I.hok,I.len⟩
theorem SP.unwish{D:vd}{f:Flow}{s':Shared}(h:SP (X.wish E) pins D f s'):SP X pins D f s':=by
 cases f with
 | next=>obtain⟨σ',H',I,q⟩:=h;exact⟨σ',H',I.unwish,q⟩
 | brk=>obtain⟨σ',H',I,q⟩:=h;exact⟨σ',H',I.unwish,q⟩
 | cont=>obtain⟨σ',H',I,q⟩:=h;exact⟨σ',H',I.unwish,q⟩
 | ret u=>obtain⟨v,σ',H',I,r,q⟩:=h;exact⟨v,σ',H',I.unwish,r,q⟩
theorem PT.nox{e:Expr}{t:TT}(h:PT X.nox e t):PT X e t:=fun pins s σ H Q I hw =>
 wpAny_mono (h pins s σ H Q (I.wish _) hw) (fun _ _ ⟨H',I',q⟩=>⟨H',I'.unwish,q⟩) fun _ _ z=>False.elim z
theorem PSs.nox{st:List Stmt}{t:TS}(h:PSs X.nox st t):PSs X st t:=fun pins s σ H D I hw =>
 wpAny_mono (h pins s σ H D (I.wish _) hw) (fun _ _ q=>q.unwish) fun _ _ z=>False.elim z
end
section
variable {X:Cx}{st:Stmt}{rest:List Stmt}{t u:TS}{e:Expr}{te:TE}{pos:Pos}
def CZ:TS:=fun D σ H=>D.nx σ H
def Cz(t u:TS):TS:=fun D σ H=>t { D with nx:=u D } σ H
theorem bZ:PSs X [] CZ:=fun _ _ σ H _ I h=>wpAny_execs_nil ⟨σ,H,I,h⟩
theorem ah(h1:PS X st t)(h2:PSs X rest u):PSs X (st::rest) (Cz t u):=by
 intro pins s σ H D I h;refine wpAny_execs_cons (thn (h1 pins s σ H { D with nx:=u D } I h) fun f s1 q=>?_)
 cases f with
 | next =>
  obtain⟨σ',H',I',q⟩:=q;exact h2 pins s1 σ' H' D I' q
 | ret v=>exact q
 | brk=>exact q
 | cont=>exact q
theorem ar(h1:PS X st t):PSs X [st] t:=by
 intro pins s σ H D I h;refine wpAny_execs_cons (thn (h1 pins s σ H D I h) fun f s1 q=>?_)
 cases f with
 | next=>exact wpAny_execs_nil q
 | ret v=>exact q
 | brk=>exact q
 | cont=>exact q
theorem Inv.quiet{pins:List (Addr×Obj)}{σ:St}{H:Hp}{s:Shared}(I:Inv X pins σ H s):interactive X.env=false:=by simp [interactive,I.ok.kind]
def AD(te:TE):TS:=fun D σ H=>te σ H fun _ H1=>D.nx σ H1
theorem dA(he:PE X e te)(hs:swapsWith e none pos.line X.env=pure false:=by rfl):PS X (.Expr e pos) (AD te):=by
 intro pins s σ H D I h;exact wpAny_Expr_any (thn (he pins s σ H _ I h) fun v s1 ⟨x,H1,I1,r1,q1⟩=>⟨σ,H1,I1,q1⟩) I.quiet hs
def GA(te:TE):TS:=fun D σ H=>te σ H D.rt
theorem a6(he:PE X e te):PS X (.Return (some e) pos) (GA te):=by
 intro pins s σ H D I h;exact wpAny_Return_some (thn (he pins s σ H _ I h) fun v s1 ⟨x,H1,I1,r1,q1⟩=>⟨x,σ,H1,I1,r1,q1⟩)
def EZ(c:TT)(t u:TS):TS:=fun D σ H=>c σ H fun b H1=>if b=true then t D σ H1 else u D σ H1
theorem dM{c:Expr}{a b:List Stmt}{tc:TT}(hc:PT X c tc)(ha:PSs X a t)(hb:PSs X b u):PS X (.If c a b pos) (EZ tc t u):=by
 intro pins s σ H D I h;refine wpAny_If (thn (hc pins s σ H _ I h) fun d s1 ⟨H1,I1,q1⟩=>?_)
 cases d with
 | true=>exact ha pins s1 σ H1 D I1 q1
 | false=>exact hb pins s1 σ H1 D I1 q1
def zA:TS:=fun _ _ _=>False
theorem nR:PS X st zA:=fun _ _ _ _ _ _ h=>h.elim
end
abbrev TG:=V->St->Hp->(St->Hp->Prop)->Prop
abbrev TGs:=List V->St->Hp->(St->Hp->Prop)->Prop
def PG(X:Cx)(target:Expr)(t:TG):Prop :=
 ∀(pins:List (Addr×Obj)) (s:Shared) (σ:St) (H:Hp) (v:V) (u:Value) (Q:St->Hp->Prop),Inv X pins σ H s->c9 v u->t v σ H Q ->
  wpAny (model X.prog X.w) X.A (assign target X.env u) (fun _ s'=>∃σ' H',Inv X pins σ' H' s'/\Q σ' H') X.xe s
def PGs(X:Cx)(ts:List Expr)(t:TGs):Prop :=
 ∀(pins:List (Addr×Obj)) (s:Shared) (σ:St) (H:Hp) (vs:List V) (us:List Value) (Q:St->Hp->Prop),Inv X pins σ H s->bW vs us->t vs σ H Q ->
  wpAny (model X.prog X.w) X.A (assignInOrder ((assignEach ts X.env).map (·.2)) us) (fun _ s'=>∃σ' H',Inv X pins σ' H' s'/\Q σ' H') X.xe s
abbrev Fg:=V->V->V->Hp->(Hp->Prop)->Prop
def GB(X:Cx)(t:Fg):Prop :=
 ∀(pins:List (Addr×Obj)) (s:Shared) (σ:St) (H:Hp) (o i v:V) (ov iv u:Value) (Q:Hp->Prop),Inv X pins σ H s->c9 o ov->c9 i iv->c9 v u->t o i v H Q ->
  wpAny (model X.prog X.w) X.A (setItem ov iv u) (fun _ s'=>∃H',Inv X pins σ H' s'/\Q H') X.xe s
abbrev TIp:=V->V->Hp->VK->Prop
def PIp(X:Cx)(op:Operator)(t:TIp):Prop :=
 ∀(pins:List (Addr×Obj)) (s:Shared) (σ:St) (H:Hp) (x y:V) (v u:Value) (Q:VK),Inv X pins σ H s->c9 x v->c9 y u->t x y H Q ->
  wpAny (model X.prog X.w) X.A (inplaceOp op v u) (EP X pins σ Q) X.xe s
section
variable {X:Cx}{pos:Pos}
def bu(i:Nat):TG:=fun v σ H Q=>Q (σ.set i (some v)) H
theorem aE{i:Nat}{x:Str}(hN:X.N.Nodup)(hi:X.N[i]?=some x)(hx:Loc X.env.scope x)(hf:X.fn x=true\/X.env.scope.names.lookup x=some .local:=by first|exact .inl rfl|exact .inr rfl|assumption):PG X (.Name x pos) (bu i):=by
 intro pins s σ H v u Q I r h;exact wpAny_assign_Name (kF I hN hi hx r (fun s' I'=>⟨_,H,I',h⟩) hf)
def E2:TGs:=fun vs σ H Q=>vs=[]/\Q σ H
def ue(t:TG)(u:TGs):TGs:=fun vs σ H Q=>∃v r,vs=v::r/\t v σ H fun σ' H'=>u r σ' H' Q
theorem jt:PGs X [] E2:=by
 intro pins s σ H vs us Q I r h;obtain⟨e,h⟩:=h;subst e;cases r;exact assignInOrder_nil ⟨σ,H,I,h⟩
theorem cW{e:Expr}{es:List Expr}{t:TG}{u:TGs}(h1:PG X e t)(h2:PGs X es u)
  (hs:(assignEach (e::es) X.env).map (·.2)=assign e X.env::(assignEach es X.env).map (·.2):=by rfl):PGs X (e::es) (ue t u):=by
 intro pins s σ H vs us Q I r h;obtain⟨v,vr,e1,h⟩:=h;subst e1
 cases r with
 | cons r rr =>
  rw [hs];refine assignInOrder_cons (thn (h1 pins s σ H _ _ _ I r h) fun _ s1 ⟨σ1,H1,I1,q1⟩=>?_);exact h2 pins s1 σ1 H1 _ _ Q I1 rr q1
def Fh(K:PySem.W.Frag)(n:Nat)(t:TGs):TG:=fun v σ H Q=>∃a xs,v=.ref a/\SqT K H a xs/\xs.length=n/\t xs σ H Q
theorem zB{es:List Expr}{k:Nat}{t:TGs}{n:Nat}(hc:X.calm=true)(h:PGs X es t)
  (hn:(assignEach es X.env).length=n:=by rfl) (hst:(assignEach es X.env).findIdx? (·.1)=none:=by rfl):PG X (.Tuple es k pos) (Fh X.K n t):=by
 intro pins s σ H v u Q I r hw;obtain⟨a,xs,e1,hq,hl,hw⟩:=hw;subst e1;cases r;obtain⟨its,rv,ht,hz⟩:=I.tuple hq;refine assign_Tuple_tuple (I.ok.hd hc) ht (by simp [hn,<- hl,rv.length]) hst fun h' hx=>?_;have I1:Inv X pins σ H { s with heap:=h' }:=I.kept (t':=s.toks) fun b o e=>hx b o (ne_of_lt (Heap.lt_size e)) e;exact h pins _ σ H xs _ Q I1 (by simpa using rv) hw
def CA(to ti:TE)(t:Fg):TG:=fun v σ H Q=>to σ H fun o H1=>ti σ H1 fun i H2=>t o i v H2 fun H3=>Q σ H3
theorem kR{o i:Expr}{to ti:TE}{t:Fg}(ho:PE X o to)(hi:PE X i ti)(hs:GB X t)
  (ha:∀v,assign (.Subscript o i pos) X.env v=(do
   let ov <- holding [v] (eval o X.env)
   let iv <- holding [v,ov] (eval i X.env)
   standAt pos
   holding [v,ov,iv] (setItem ov iv v)
   release [v,ov,iv] []):=by intro _;rfl):PG X (.Subscript o i pos) (CA to ti t):=by
 intro pins s σ H v u Q I r h;rw [ha];refine wpAny_bind (wpAny_holding (thn (ho pins s σ H _ I h) fun ov s1 ⟨x,H1,I1,r1,q1⟩=>?_));refine wpAny_bind (wpAny_holding (thn (hi pins s1 σ H1 _ I1 q1) fun iv s2 ⟨y,H2,I2,r2,q2⟩=>?_));refine wpAny_bind (wpAny_standAt (wpAny_bind (wpAny_holding (thn (hs pins s2 σ H2 x y v ov iv u _ I2 r1 r2 r q2) fun _ s3 ⟨H3,I3,q3⟩=>?_))));exact wpAny_release ⟨σ,H3,I3,q3⟩
def vg(te:TE)(g:TG):TS:=fun D σ H=>te σ H fun x H1=>g x σ H1 D.nx
theorem zC{tg e:Expr}{te:TE}{g:TG}(he:PE X e te)(hg:PG X tg g)(hs:swapsWithSole [tg] e pos.line X.env=pure false:=by rfl)(hw:swappedStores [tg] e X.env=pure none:=by rfl)
  (h1:(assignEach [tg] X.env).map (·.2)=[assign tg X.env]:=by rfl):PS X (.Assign [tg] e pos) (vg te g):=by
 intro pins s σ H D I h;refine wpAny_Assign_stores (thn (he pins s σ H _ I h) fun v s1 ⟨x,H1,I1,r1,q1⟩=>?_) hs hw;rw [h1];exact thn (hg pins s1 σ H1 x v _ I1 r1 q1) fun _ s2 q=>q
theorem aH{i:Nat}{x:Str}{e:Expr}{te:TE}{pos':Pos}(hN:X.N.Nodup)(hi:X.N[i]?=some x)(hx:Loc X.env.scope x)(he:PE X e te)(hs:swapsWith e (some (.Name x pos')) pos.line X.env=pure false:=by rfl)(hf:X.fn x=true\/X.env.scope.names.lookup x=some .local:=by first|exact .inl rfl|exact .inr rfl|assumption) :
  PS X (.Assign [.Name x pos'] e pos) (vg te (bu i)):=by
 intro pins s σ H D I h;refine wpAny_Assign_Name (thn (he pins s σ H _ I h) fun v s1 ⟨y,H1,I1,r1,q1⟩=>?_) hs;exact kF I1 hN hi hx r1 (fun s2 I2=>⟨_,H1,I2,q1⟩) hf
def GC(i:Nat)(te:TE)(ti:TIp):TS:=fun D σ H=>∃x,σ[i]?=some (some x)/\te σ H fun y H1=>ti x y H1 fun z H2=>D.nx (σ.set i (some z)) H2
theorem C1{i:Nat}{x:Str}{e:Expr}{te:TE}{op:Operator}{ti:TIp}{pos':Pos}(hN:X.N.Nodup)(hi:X.N[i]?=some x)(hx:Loc X.env.scope x)(he:PE X e te)(ho:PIp X op ti)(hf:X.fn x=true\/X.env.scope.names.lookup x=some .local:=by first|exact .inl rfl|exact .inr rfl|assumption) :
  PS X (.AugAssign (.Name x pos') op e pos) (GC i te ti):=by
 intro pins s σ H D I h;obtain⟨v,e1,h⟩:=h;obtain⟨m,hn,hl⟩:=I.loc;have vis:Vis X.env.scope x:=by rcases hx with k|k;exact .inl k;exact .inr (.inl k)
 obtain⟨u,r,l⟩:=hl i x v hi e1 vis;refine wpAny_AugAssign_Name ?_
 have go:wpAny (model X.prog X.w) X.A (eval e X.env) (fun w s₂=>wpAny (model X.prog X.w) X.A (inplaceOp op u w) (fun r s₃=>wpAny (model X.prog X.w) X.A (storeName X.env x r) (fun _=>SP X pins D .next) X.xe s₃) X.xe s₂) X.xe s:=by
  refine thn (he pins s σ H _ I h) fun w s1 ⟨y,H1,I1,r1,q1⟩=>?_;refine thn (ho pins s1 σ H1 v y u w _ I1 r r1 q1) fun z s2 ⟨zv,H2,I2,r2,q2⟩=>?_;exact kF I2 hN hi hx r2 (fun s3 I3=>⟨_,H2,I3,q2⟩) hf
 rcases l with ⟨hk,hm⟩|⟨hk,c,hc,hcell⟩
 .exact wpAny_loadName_local I.ok.kind hk hn hm go
 .rcases hk with hk|hk
  .exact wpAny_loadName_cell I.ok.kind hk hc hcell go
  .rcases hx with k|k
   .have:X.env.scope.names.lookup x=some .free:=hk;rw [k] at this;cases this
   .have:X.env.scope.names.lookup x=some .free:=hk;rw [k] at this;cases this
def ipI(f:Int->Int->Int):TIp:=fun x y H Q=>∃i j,x=.int i/\y=.int j/\Q (.int (f i j)) H
theorem C3:PIp X .Sub (ipI fun i j=>i - j):=by
 intro pins s σ H x y v u Q I r1 r2 h;obtain⟨i,j,e1,e2,q⟩:=h;subst e1;subst e2;obtain⟨t,rfl⟩:=r1;obtain⟨t',rfl⟩:=r2;exact isub_int ⟨.int _,H,I.tok _,⟨_,rfl⟩,q⟩
end
section
variable {X:Cx}{pos:Pos}
def vh(c:TT)(tb:TS):TS:=fun D σ H=>∃W:Nat->St->Hp->Prop,(∃m,W m σ H)/\∀m σ H,W m σ H ->
 c σ H fun b H1=>if b=true then ∃N:St->Hp->Prop,(∀σ' H',N σ' H'->∃m',m'<m/\W m' σ' H')/\tb { D with nx:=N,ct:=N,bk:=D.nx } σ H1 else D.nx σ H1
theorem kG{c:Expr}{body:List Stmt}{tc:TT}{tb:TS}(hp:PassesOwn (model X.prog X.w) X.A X.env X.xe)(hc:PT X c tc)(hb:PSs X body tb):PS X (.While c body [] pos) (vh tc tb):=by
 intro pins s σ H D I h;obtain⟨W,⟨m0,w0⟩,turn⟩:=h;refine wpAny_While (codeAny_whileLoop (fun n s'=>∃σ' H',Inv X pins σ' H' s'/\W n σ' H') ?_ m0 ⟨σ,H,I,w0⟩);rintro n s1 ⟨σ1,H1,I1,w1⟩;refine wpAny_passesOwn hp (thn (hc pins s1 σ1 H1 _ I1 (turn n σ1 H1 w1)) fun b s2 ⟨H2,I2,q2⟩=>?_)
 cases b with
 | true =>
  obtain⟨N,hN,q2⟩:=q2;rw [if_pos rfl];refine wpAny_passesOwn hp (thn (hb pins s2 σ1 H2 _ I2 q2) fun f s3 q3=>?_)
  cases f with
  | next =>
   obtain⟨σ3,H3,I3,n3⟩:=q3;obtain⟨m',hm,w3⟩:=hN σ3 H3 n3;exact⟨m',hm,σ3,H3,I3,w3⟩
  | cont =>
   obtain⟨σ3,H3,I3,n3⟩:=q3;obtain⟨m',hm,w3⟩:=hN σ3 H3 n3;exact⟨m',hm,σ3,H3,I3,w3⟩
  | brk=>exact q3
  | ret v=>exact q3
 | false =>
  rw [if_neg Bool.false_ne_true];exact wpAny_execs_nil ⟨σ1,H2,I2,q2⟩
end
structure It where
 go:Nat->Hp->Prop
 yld:Nat->Hp->V->Hp->Prop
 stop:Nat->Hp->Prop
def uY(X:Cx)(pins:List (Addr×Obj))(H:Hp)(b:Addr):Prop :=
 H b=none/\b≠X.env.locals/\b∉X.fs/\(b∈X.ex\/X.s₀.heap.objs.size<=b)/\(∀x c,X.env.cells.lookup x=some c->c≠b)/\∀p∈X.pn++pins,p.1≠b
theorem Inv.fpOk{X:Cx}{pins:List (Addr×Obj)}{σ:St}{H H':Hp}{s:Shared}{b:Addr}(I:Inv X pins σ H s)(hb:s.heap.objs.size<=b)(hn:H' b=none):uY X pins H' b:=by
 refine⟨hn,ne_of_gt (lt_of_lt_of_le I.lt hb),I.nofs hb,.inr (Nat.le_trans I.sz hb),fun x c e z=>?_,fun p hp z=>?_⟩
 .obtain⟨v,q⟩:=I.cell x c e;exact absurd (lt_of_lt_of_le q.lt (by rw [z];exact hb)) (Nat.lt_irrefl _)
 .exact absurd (lt_of_lt_of_le (Heap.lt_size (I.pin p hp).1) (by rw [z];exact hb)) (Nat.lt_irrefl _)
structure CB (P:Program) (w:World) (K:PySem.W.Frag) (tg:Expr) (J:It) (fp:List Addr) (it:Addr) (tn:Nat->Heap->Prop):Prop where
 mem:it∈fp
 obj:∀i h,tn i h->∀b∈fp,∃o,h.get? b=some o/\∀v,o.data≠.cell v
 keep:∀i h h',tn i h->(∀b∈fp,∀o,h.get? b=some o->h'.get? b=some o)->tn i h'
 item:∀(X:Cx),X.prog=P->X.w=w->X.K=K->X.calm=true->∀(i:Nat) (pins:List (Addr×Obj)) (s:Shared) (σ:St) (H:Hp) (E:Value->Shared->Prop),Inv X pins σ H s->(∀b∈fp,uY X pins H b)->tn i s.heap->J.go i H ->
  wpAny (model P w) X.A (pyNext (.ref it)) (fun r s1=>∃u,r=some u /\
   wpAny (model P w) X.A (letOwnedTupleGo tg (.ref it) u) (fun _ s2=>∃x H',Inv X pins σ H' s2/\c9 x u/\J.yld i H x H'/\tn (i+1) s2.heap/\∀b∈fp,H' b=none) E s1) E s
 done:∀(X:Cx),X.prog=P->X.w=w->X.K=K->X.calm=true->∀(i:Nat) (pins:List (Addr×Obj)) (s:Shared) (σ:St) (H:Hp) (E:Value->Shared->Prop),Inv X pins σ H s->(∀b∈fp,uY X pins H b)->tn i s.heap->J.stop i H ->
  wpAny (model P w) X.A (pyNext (.ref it)) (fun r s1=>r=none/\Inv X pins σ H s1) E s
 self:∀(A:Around) (i:Nat) (s:Shared) (Q:Value->Shared->Prop) (E:Value->Shared->Prop),tn i s.heap->Q (.ref it) s->wpAny (model P w) A (pyIter (.ref it)) Q E s
abbrev TI:=St->Hp->(It->Hp->Prop)->Prop
def PIE(X:Cx)(pins:List (Addr×Obj))(σ:St)(tg:Expr)(R:It->Hp->Prop)(itv:Value)(s2:Shared):Prop :=
 ∃(it:Addr) (fp:List Addr) (tn:Nat->Heap->Prop) (J:It) (H':Hp),itv=.ref it/\Inv X pins σ H' s2/\CB X.prog X.w X.K tg J fp it tn/\tn 0 s2.heap/\(∀b∈fp,uY X pins H' b)/\R J H'
def PI(X:Cx)(tg iter:Expr)(wi:TI):Prop :=
 ∀(pins:List (Addr×Obj)) (s:Shared) (σ:St) (H:Hp) (R:It->Hp->Prop),Inv X pins σ H s->wi σ H R ->
  wpAny (model X.prog X.w) X.A (eval iter X.env) (fun v s1=>wpAny (model X.prog X.w) X.A (pyIter v) (PIE X pins σ tg R) X.xe s1) X.xe s
theorem AE{M:Model}{A:Around}{E:Value->Shared->Prop}{s:Shared}{tg:Expr}{it:Addr}{u:Value}{o:Obj}{n:String}{vs:Array Value}{Q:Unit->Shared->Prop}(ho:s.heap.get? it=some o)(hc:o.cls=.type n)(hd:o.data=.fields vs)
    (hn:["enumerate","zip","dict_itemiterator","dict_reverseitemiterator","odict_iterator","itertools.zip_longest","itertools.pairwise"].contains n=false) (hQ:Q () s):wpAny M A (letOwnedTupleGo tg (.ref it) u) Q E s:=by
  unfold letOwnedTupleGo
  cases tg <;> first
    | exact wpAny_pure hQ
    | (cases u <;> first
        | exact wpAny_pure hQ
        | (refine wpAny_bind (wpAny_load ho ?_)
           rw [hc,hd];show wpAny M A (if (["enumerate","zip","dict_itemiterator","dict_reverseitemiterator","odict_iterator","itertools.zip_longest","itertools.pairwise"].contains n && vs[0]? == some (rawInt _))=true then _ else _) Q E s;rw [if_neg (by intro h;rw [hn,Bool.false_and] at h;cases h)];exact wpAny_pure hQ))
def Itl(K:PySem.W.Frag)(a:Addr):It :=
 ⟨fun i H=>∃xs x,SqL K H a xs/\xs[i]?=some x,fun i H x H'=>H'=H/\∀xs,SqL K H a xs->xs[i]?=some x,fun i H=>∃xs,SqL K H a xs/\xs.length<=i⟩
def Itt(K:PySem.W.Frag)(a:Addr):It :=
 ⟨fun i H=>∃xs x,SqT K H a xs/\xs[i]?=some x,fun i H x H'=>H'=H/\∀xs,SqT K H a xs->xs[i]?=some x,fun i H=>∃xs,SqT K H a xs/\xs.length<=i⟩
def Itr(lo:Int)(n:Nat):It:=⟨fun i _=>i<n,fun i H x H'=>H'=H/\x=.int (lo+i),fun i _=>n<=i⟩
theorem vk{P:Program}{w:World}{K:PySem.W.Frag}{tg:Expr}(a it:Addr):CB P w K tg (Itl K a) [it] it (fun i h=>h.IsListIter it a i) where
 mem:=by simp
 obj:=fun i h st b hb=>by
  have e:b=it:=by simpa using hb
  subst e;obtain⟨o,e,c,d⟩:=st;exact⟨o,e,fun v z=>by rw [d] at z;cases z⟩
 keep:=fun i h h' st k=>st.at fun o e=>k it (by simp) o e
 item:=by
  intro X hP hw hK hc i pins s σ H E I hf st hg;subst hP hw hK;obtain⟨xs,x,hq,hx⟩:=hg;obtain⟨its,rv,p,hz⟩:=I.list hq;obtain⟨u,hu,ru⟩:=rv.get hx;obtain⟨f0,f1,f2,f3,f4,f5⟩:=hf it (by simp);refine wpAny_pyNext_list_item st p.isList (x:=u) (by simpa using hu) fun h' st' sb=>?_;have I1:Inv X pins σ H { s with heap:=h' }:=I.turned (t':=s.toks) (fun b o hb e=>(sb.2 b hb).trans e) f0 f1 f3 f4 f5;obtain⟨o,e,c,d⟩:=id st'
  exact⟨u,rfl,AE (s:={ s with heap:=h' }) e c d (by decide) ⟨x,H,I1,ru,⟨rfl,fun ys hy=>by rw [I.list_inj hy hq];exact hx⟩,st',fun b hb=>(hf b hb).1⟩⟩
 done:=by
  intro X hP hw hK hc i pins s σ H E I hf st hg;subst hP hw hK;obtain⟨xs,hq,hx⟩:=hg;obtain⟨its,rv,p,hz⟩:=I.list hq;obtain⟨f0,f1,f2,f3,f4,f5⟩:=hf it (by simp);have hl:=rv.length;exact wpAny_pyNext_list_end (I.ok.hd hc) st p.isList (by simp;omega) fun h' eb=>⟨rfl,I.turned (t':=s.toks) (fun b o hb e=>eb b o hb e) f0 f1 f3 f4 f5⟩
 self:=fun _ _ _ _ _ st h=>wpAny_pyIter_listiter st h
theorem uf{P:Program}{w:World}{K:PySem.W.Frag}{tg:Expr}(a it:Addr):CB P w K tg (Itt K a) [it] it (fun i h=>h.IsTupleIter it a i) where
 mem:=by simp
 obj:=fun i h st b hb=>by
  have e:b=it:=by simpa using hb
  subst e;obtain⟨o,e,c,d⟩:=st;exact⟨o,e,fun v z=>by rw [d] at z;cases z⟩
 keep:=fun i h h' st k=>st.at fun o e=>k it (by simp) o e
 item:=by
  intro X hP hw hK hc i pins s σ H E I hf st hg;subst hP hw hK;obtain⟨xs,x,hq,hx⟩:=hg;obtain⟨its,rv,p,hz⟩:=I.tuple hq;obtain⟨u,hu,ru⟩:=rv.get hx;obtain⟨f0,f1,f2,f3,f4,f5⟩:=hf it (by simp);refine wpAny_pyNext_tuple_item st (show s.heap.IsTuple a its.toArray from p) (x:=u) (by simpa using hu) fun h' st' sb=>?_;have I1:Inv X pins σ H { s with heap:=h' }:=I.turned (t':=s.toks) (fun b o hb e=>(sb.2 b hb).trans e) f0 f1 f3 f4 f5
  obtain⟨o,e,c,d⟩:=id st';exact⟨u,rfl,AE (s:={ s with heap:=h' }) e c d (by decide) ⟨x,H,I1,ru,⟨rfl,fun ys hy=>by rw [I.tuple_inj hy hq];exact hx⟩,st',fun b hb=>(hf b hb).1⟩⟩
 done:=by
  intro X hP hw hK hc i pins s σ H E I hf st hg;subst hP hw hK;obtain⟨xs,hq,hx⟩:=hg;obtain⟨its,rv,p,hz⟩:=I.tuple hq;obtain⟨f0,f1,f2,f3,f4,f5⟩:=hf it (by simp);have hl:=rv.length;exact wpAny_pyNext_tuple_end (I.ok.hd hc) st (show s.heap.IsTuple a its.toArray from p) (by simp;omega) fun h' eb=>⟨rfl,I.turned (t':=s.toks) (fun b o hb e=>eb b o hb e) f0 f1 f3 f4 f5⟩
 self:=fun _ _ _ _ _ st h=>wpAny_pyIter_tupleiter st h
theorem ug{P:Program}{w:World}{K:PySem.W.Frag}{tg:Expr}(it:Addr)(lo:Int)(n:Nat):CB P w K tg (Itr lo n) [it] it (fun i h=>IsRangeIter h it (lo+(i:Nat)*1) ((n:Int) - (i:Nat)) 1) where
 mem:=by simp
 obj:=fun i h st b hb=>by
  have e:b=it:=by simpa using hb
  subst e
  exact⟨_,st,fun v z=>by
   have z':Data.fields _=Data.cell v:=z;cases z'⟩
 keep:=fun i h h' st k=>k it (by simp) _ st
 item:=by
  intro X hP hw hK hc i pins s σ H E I hf st hg;subst hP hw hK;obtain⟨f0,f1,f2,f3,f4,f5⟩:=hf it (by simp);have W:=Walks.range (prog:=X.prog) (w:=X.w) (I.ok.hd hc) it lo 1 n;refine W.item i s _ _ hg st fun v h' tk hv st' kk=>?_;obtain⟨t,rfl⟩:=hv;have I1:Inv X pins σ H { s with heap:=h',toks:=tk }:=I.turned (fun b o hb e=>kk b o (by simpa using hb) e) f0 f1 f3 f4 f5;refine⟨_,rfl,AE (s:={ s with heap:=h',toks:=tk }) (n:="range_iterator") st' rfl rfl (by decide) ⟨.int (lo+i),H,I1,⟨t,?_⟩,⟨rfl,rfl⟩,st',fun b hb=>(hf b hb).1⟩⟩
  rw [mul_one]
 done:=by
  intro X hP hw hK hc i pins s σ H E I hf st hg;subst hP hw hK;obtain⟨f0,f1,f2,f3,f4,f5⟩:=hf it (by simp);exact wpAny_pyNext_range_end (I.ok.hd hc) st (by have:n<=i:=hg;omega) fun h' eb=>⟨rfl,I.turned (t':=s.toks) (fun b o hb e=>eb b o hb e) f0 f1 f3 f4 f5⟩
 self:=fun _ _ _ _ _ st h=>wpAny_pyIter_rangeiter st h
section
variable {X:Cx}{tg:Expr}
theorem x5{pins:List (Addr×Obj)}{σ:St}{H:Hp}{s:Shared}{R:It->Hp->Prop}{E:Value->Shared->Prop}{lo hi:Int}{t u v:Tok}{tk:Nat}(I:Inv X pins σ H s)(h1:-(2^62)<=lo)(h2:lo<2^62)(h3:-(2^62)<=hi)(h4:hi<2^62)
  (q:R (Itr lo (hi - lo).toNat) H):wpAny (model X.prog X.w) X.A (pyIter (.ref s.heap.objs.size)) (PIE X pins σ tg R) E { s with heap:=s.heap.push { cls:=.type "range",data:=.fields #[.int lo t,.int hi u,.int 1 v] },toks:=tk }:=by
 refine wpAny_pyIter_range (IsRange.new ..) (small_one h1 h2 h3 h4) ?_;have I1:Inv X pins σ H { s with heap:=s.heap.push { cls:=.type "range",data:=.fields #[.int lo t,.int hi u,.int 1 v] },toks:=tk }:=I.kept fun b o e=>Heap.get?_push_of_some _ e
 refine⟨(s.heap.push { cls:=.type "range",data:=.fields #[.int lo t,.int hi u,.int 1 v] }).objs.size,[(s.heap.push { cls:=.type "range",data:=.fields #[.int lo t,.int hi u,.int 1 v] }).objs.size],_,_,H,rfl,
  I1.kept (t':=tk) fun b o e=>Heap.get?_push_of_some _ e,ug _ lo (hi - lo).toNat,?_,fun b hb=>?_,q⟩
 .have e1:lo+((0:Nat):Int)*1=lo:=by simp
  have e2:(((hi - lo).toNat:Nat):Int) - ((0:Nat):Int)=Builtin.Range.rangeSize lo hi 1:=by rw [rangeSize_one];split <;> omega
  show IsRangeIter _ _ (lo+((0:Nat):Int)*1) ((((hi - lo).toNat:Nat):Int) - ((0:Nat):Int)) 1;rw [e1,e2];exact Heap.get?_push_size _ rfl
 .have e:b=(s.heap.push { cls:=.type "range",data:=.fields #[.int lo t,.int hi u,.int 1 v] }).objs.size:=by simpa using hb
  subst e;exact I1.fpOk (Nat.le_refl _) (I1.hok.fresh (Nat.le_refl _))
def iX(ta:TA):TI:=fun σ H R=>ta σ H fun vs H1=>∃j:Int,vs=[.int j]/\-(2^62)<=j/\j<2^62/\R (Itr 0 j.toNat) H1
theorem bH{a:Expr}{ta:TA}{p pos:Pos}(hg:Gl X "range")(hm:X.mg "range"=none)(ha:PA X [a] ta)(hs:starEach [a] X.env=[(false,eval a X.env)]:=by rfl):PI X tg (.Call (.Name "range" p) [a] [] pos) (iX ta):=by
 intro pins s σ H R I h;refine Call_ (ik I hg hm boot_range (PyProof.Rows.callWith_type1 (thn (ha pos pins s σ H _ I h) fun us s1 ⟨vs,H1,I1,r1,q1⟩=>?_) hs rfl));obtain⟨j,e,q1,q2,q⟩:=q1;subst e
 cases r1 with
 | cons r rr =>
  cases rr;obtain⟨t,rfl⟩:=r;exact call_range_1 (x5 I1 (by omega) (by omega) q1 q2 (by simpa using q))
def GD(wi:TI)(g:TG)(tb:TS):TS:=fun D σ H=>wi σ H fun J H1=>∃W:Nat->Nat->St->Hp->Prop,(∃m,W 0 m σ H1)/\∀i m σ H,W i m σ H ->
 (J.stop i H/\D.nx σ H)\/(J.go i H/\∃N:St->Hp->Prop,(∀σ' H',N σ' H'->∃m',m'<m/\W (i+1) m' σ' H')/\∀x H',J.yld i H x H'->g x σ H' fun σ2 H2=>tb { D with nx:=N,ct:=N,bk:=D.nx } σ2 H2)
def pF(fp:List Addr)(h:Heap):List (Addr×Obj):=fp.filterMap fun b=>(h.get? b).map fun o=>(b,o)
theorem hX{fp:List Addr}{h:Heap}{b:Addr}{o:Obj}(hb:b∈fp)(e:h.get? b=some o):(b,o)∈pF fp h:=mem_filterMap.mpr ⟨b,hb,by rw [e];rfl⟩
theorem vm{fp:List Addr}{h:Heap}{p:Addr×Obj}(hp:p∈pF fp h):p.1∈fp/\h.get? p.1=some p.2:=by
 obtain⟨b,hb,e⟩:=mem_filterMap.mp hp
 cases q:h.get? b with
 | none=>rw [q] at e;cases e
 | some o =>
  rw [q] at e;have e':(b,o)=p:=Option.some.inj e;subst e';exact⟨hb,q⟩
theorem Inv.pinned{pins:List (Addr×Obj)}{σ:St}{H:Hp}{s:Shared}{fp:List Addr}(I:Inv X pins σ H s)(hf:∀b∈fp,uY X pins H b)(ho:∀b∈fp,∃o,s.heap.get? b=some o/\∀v,o.data≠.cell v):Inv X (pins++pF fp s.heap) σ H s :=
 I.pins_of fun p hp=>(mem_append.mp hp).elim (fun z=>I.pin p (mem_append_right _ z)) fun z=>by
  obtain⟨hb,e⟩:=vm z;obtain⟨f0,f1,f2,_⟩:=hf p.1 hb;obtain⟨o,e',d⟩:=ho p.1 hb;rw [e] at e';cases e';exact⟨e,f0,f1,f2,d⟩
theorem Inv.unpinned{pins pl:List (Addr×Obj)}{σ:St}{H:Hp}{s:Shared}(I:Inv X (pins++pl) σ H s):Inv X pins σ H s:=I.pins_of fun p hp=>I.pin p (mem_append_right _ (mem_append_left _ hp))
theorem fh{iter:Expr}{body:List Stmt}{wi:TI}{g:TG}{tb:TS}{pos:Pos}(hp:PassesOwn (model X.prog X.w) X.A X.env X.xe)(hc:X.calm=true)(hi:PI X tg iter wi)(hg:PG X tg g)(hb:PSs X body tb)
  (hs:∀x,foldedSetIterable iter X.env x=pure x:=by intro _;rfl):PS X (.For tg iter body [] pos) (GD wi g tb):=by
 intro pins s σ H D I h;refine wpAny_For (thn (hi pins s σ H _ I h) fun v s1 h1=>thn h1 fun itv s2 h2=>?_) hs;obtain⟨it,fp,tn,J,H2,e,I2,T,st2,f2,W,⟨m0,w0⟩,turn⟩:=h2;subst e
 -- what stays true of the iterator's objects through the loop
 have stat:∀{H':Hp},(∀b∈fp,H' b=none)->∀b∈fp,uY X pins H' b:=fun hn b hb=>⟨hn b hb,(f2 b hb).2⟩
 refine codeAny_forLoop_any (fun n s'=>∃i σ' H',Inv X pins σ' H' s'/\tn i s'.heap/\(∀b∈fp,H' b=none)/\W i n σ' H') ?_ m0 ⟨0,σ,H2,I2,st2,fun b hb=>(f2 b hb).1,w0⟩;rintro n s3 ⟨i,σ3,H3,I3,st3,fr3,w3⟩
 rcases turn i n σ3 H3 w3 with ⟨stop,qn⟩|⟨go,N,hN,step⟩
 .refine wpAny_passesOwn hp (thn (T.done X rfl rfl rfl hc i pins s3 σ3 H3 X.xe I3 (stat fr3) st3 stop) fun r s4 ⟨hr,I4⟩=>?_);subst hr;exact wpAny_execs_nil ⟨σ3,H3,I4,qn⟩
 .refine wpAny_passesOwn hp (thn (T.item X rfl rfl rfl hc i pins s3 σ3 H3 X.xe I3 (stat fr3) st3 go) fun r s4 ⟨u,hr,h4⟩=>?_);subst hr;refine wpAny_passesOwn hp (thn h4 fun _ s5 ⟨x,H5,I5,r5,y5,st5,fr5⟩=>?_);have I5':=I5.pinned (stat fr5) (T.obj _ _ st5);refine wpAny_passesOwn hp (thn (hg _ s5 σ3 H5 x u _ I5' r5 (step x H5 y5)) fun _ s6 ⟨σ6,H6,I6,q6⟩=>?_);refine wpAny_passesOwn hp (thn (hb _ s6 σ6 H6 _ I6 q6) fun f s7 q7=>?_)
  have again:∀{σ7:St}{H7:Hp},Inv X (pins++pF fp s5.heap) σ7 H7 s7->N σ7 H7->∃m,m<n/\∃i σ' H',Inv X pins σ' H' s7/\tn i s7.heap/\(∀b∈fp,H' b=none)/\W i m σ' H':=fun {σ7 H7} I7 n7=>by
   obtain⟨m',hm,w7⟩:=hN σ7 H7 n7;refine⟨m',hm,i+1,σ7,H7,I7.unpinned,T.keep _ _ _ st5 fun b hb o e=>(I7.pin (b,o) (mem_append_right _ (mem_append_right _ (hX hb e)))).1,fun b hb=>?_,w7⟩;obtain⟨o,e,d⟩:=T.obj _ _ st5 b hb;exact (I7.pin (b,o) (mem_append_right _ (mem_append_right _ (hX hb e)))).2.1
  cases f with
  | next=>obtain⟨σ7,H7,I7,n7⟩:=q7;exact again I7 n7
  | cont=>obtain⟨σ7,H7,I7,n7⟩:=q7;exact again I7 n7
  | brk=>obtain⟨σ7,H7,I7,q7⟩:=q7;exact⟨σ7,H7,I7.unpinned,q7⟩
  | ret v=>obtain⟨x7,σ7,H7,I7,r7,q7⟩:=q7;exact⟨x7,σ7,H7,I7.unpinned,r7,q7⟩
end
abbrev R2:=V->V->Hp->VK->Prop
def OpR(X:Cx)(f:Value->Value->Sem Value)(r:R2):Prop :=
 ∀(pins:List (Addr×Obj)) (s:Shared) (σ:St) (H:Hp) (x y:V) (v u:Value) (Q:VK),Inv X pins σ H s->c9 x v->c9 y u->r x y H Q ->
  wpAny (model X.prog X.w) X.A (f v u) (EP X pins σ Q) X.xe s
def UnR(X:Cx)(f:Value->Sem Value)(r:V->Hp->VK->Prop):Prop :=
 ∀(pins:List (Addr×Obj)) (s:Shared) (σ:St) (H:Hp) (x:V) (v:Value) (Q:VK),Inv X pins σ H s->c9 x v->r x H Q ->
  wpAny (model X.prog X.w) X.A (f v) (EP X pins σ Q) X.xe s
def cu(X:Cx)(f:Value)(r:List V->Hp->VK->Prop):Prop :=
 ∀(pins:List (Addr×Obj)) (s:Shared) (σ:St) (H:Hp) (xs:List V) (us:List Value) (Q:VK),Inv X pins σ H s->bW xs us->r xs H Q ->
  wpAny (model X.prog X.w) X.A (call f us) (EP X pins σ Q) X.xe s
def tOp(r:R2)(ta tb:TE):TE:=fun σ H Q=>ta σ H fun x H1=>tb σ H1 fun y H2=>r x y H2 Q
def tUn(r:V->Hp->VK->Prop)(ta:TE):TE:=fun σ H Q=>ta σ H fun x H1=>r x H1 Q
def rI(C:Int->Int->Prop)(g:Int->Int->V):R2:=fun x y H Q=>∃i j,x=.int i/\y=.int j/\C i j/\Q (g i j) H
def rI0(g:Int->Int->V):R2:=fun x y H Q=>∃i j,x=.int i/\y=.int j/\Q (g i j) H
def rU(g:Int->V):V->Hp->VK->Prop:=fun x H Q=>∃i,x=.int i/\Q (g i) H
section
variable {X:Cx}{a b c:Expr}{ta tb tc:TE}{pos:Pos}
theorem Fi(ha:PE X a ta)(hb:PE X b tb){pins:List (Addr×Obj)}{s:Shared}{σ:St}{H:Hp}{R:V->V->Hp->Prop}(I:Inv X pins σ H s)
  (h:ta σ H fun x H1=>tb σ H1 fun y H2=>R x y H2) {Q:Value->Shared->Prop}{f:Value->Value->Sem Value}
  (hf:∀v u s2 x y H2,Inv X pins σ H2 s2->c9 x v->c9 y u->R x y H2->wpAny (model X.prog X.w) X.A (f v u) Q X.xe s2) :
  wpAny (model X.prog X.w) X.A (eval a X.env) (fun v s₁=>wpAny (model X.prog X.w) X.A (eval b X.env) (fun u s₂=>wpAny (model X.prog X.w) X.A (f v u) Q X.xe s₂) X.xe s₁) X.xe s:=by
 refine thn (ha pins s σ H _ I h) fun v s1 ⟨x,H1,I1,r1,q1⟩=>?_;refine thn (hb pins s1 σ H1 _ I1 q1) fun u s2 ⟨y,H2,I2,r2,q2⟩=>?_;exact hf v u s2 x y H2 I2 r1 r2 q2
theorem aB{op:Operator}{r:R2}(ho:OpR X (binaryOp op) r)(ha:PE X a ta)(hb:PE X b tb):PE X (.BinOp a op b pos) (tOp r ta tb):=by
 intro pins s σ H Q I h;exact wpAny_BinOp (Fi ha hb I h fun v u s2 x y H2 I2 rx ry q=>ho pins s2 σ H2 x y v u Q I2 rx ry q)
theorem ju{op:UnaryOp}{r:V->Hp->VK->Prop}(ho:UnR X (unaryOp op) r)(ha:PE X a ta):PE X (.UnaryOp op a pos) (tUn r ta):=by
 intro pins s σ H Q I h;exact UnaryOp_ (thn (ha pins s σ H _ I h) fun v s1 ⟨x,H1,I1,r1,q1⟩=>ho pins s1 σ H1 x v Q I1 r1 q1)
theorem opI{f:Value->Value->Sem Value}{C:Int->Int->Prop}{g:Int->Int->Int}
  (rule:∀(i j:Int) (t u:Tok) (s:Shared) (Q:Value->Shared->Prop) (E:Value->Shared->Prop),C i j->Q (.int (g i j) s.toks) { s with toks:=s.toks+1 }->wpAny (model X.prog X.w) X.A (f (.int i t) (.int j u)) Q E s) :
  OpR X f (rI C fun i j=>.int (g i j)):=by
 intro pins s σ H x y v u Q I rx ry h;obtain⟨i,j,rfl,rfl,hc,q⟩:=h;obtain⟨t,rfl⟩:=rx;obtain⟨t',rfl⟩:=ry;exact rule i j t t' s _ _ hc ⟨.int (g i j),H,I.tok _,⟨_,rfl⟩,q⟩
theorem Fj{f:Value->Value->Sem Value}{g:Int->Int->Int}
  (rule:∀(i j:Int) (t u:Tok) (s:Shared) (Q:Value->Shared->Prop) (E:Value->Shared->Prop),Q (.int (g i j) s.toks) { s with toks:=s.toks+1 }->wpAny (model X.prog X.w) X.A (f (.int i t) (.int j u)) Q E s) :
  OpR X f (rI0 fun i j=>.int (g i j)):=by
 intro pins s σ H x y v u Q I rx ry h;obtain⟨i,j,rfl,rfl,q⟩:=h;obtain⟨t,rfl⟩:=rx;obtain⟨t',rfl⟩:=ry;exact rule i j t t' s _ _ ⟨.int (g i j),H,I.tok _,⟨_,rfl⟩,q⟩
theorem CC{f:Value->Value->Sem Value}{g:Int->Int->Bool}
  (rule:∀(i j:Int) (t u:Tok) (s:Shared) (Q:Value->Shared->Prop) (E:Value->Shared->Prop),Q (.bool (g i j)) s->wpAny (model X.prog X.w) X.A (f (.int i t) (.int j u)) Q E s) :
  OpR X f (rI0 fun i j=>.bl (g i j)):=by
 intro pins s σ H x y v u Q I rx ry h;obtain⟨i,j,rfl,rfl,q⟩:=h;obtain⟨t,rfl⟩:=rx;obtain⟨t',rfl⟩:=ry;exact rule i j t t' s _ _ ⟨.bl (g i j),H,I,rfl,q⟩
def Fk(i j:Int):Prop:=0<j/\j<1073741824
def C4(i j:Int):Prop:=0<=j/\j<=1000000/\i.natAbs<2^64
def E3(i j:Int):Prop:=(-(2^64)<i/\i<2^64)\/(-(2^64)<j/\j<2^64)
theorem E3.ok{i j:Int}(h:E3 i j):IntMulOk i j:=by
 rcases h with ⟨h1,h2⟩|⟨h1,h2⟩
 .exact .of_left (intBits_le_64 h1 h2)
 .exact .of_right (intBits_le_64 h1 h2)
theorem uh(k:Nat):(0:Int)<=2^k:=by
 rw [two_pow_cast];exact natCast_nonneg _
theorem C5:OpR X (binaryOp .Add) (rI0 fun i j=>.int (i+j)):=Fj fun _ _ _ _ _ _ _ q=>add_int q
theorem C6:OpR X (binaryOp .Sub) (rI0 fun i j=>.int (i - j)):=Fj fun _ _ _ _ _ _ _ q=>sub_int q
theorem C7:OpR X (binaryOp .Mult) (rI E3 fun i j=>.int (i*j)):=opI fun _ _ _ _ _ _ _ hc q=>mul_int q hc.ok
theorem AF:OpR X (binaryOp .FloorDiv) (rI Fk fun i j=>.int (i / j)):=opI fun i j _ _ _ _ _ hc q=>by
 have h1:(0:Int)<j:=hc.1;have h2:j<1073741824:=hc.2;exact floordiv_int (by omega) (by rw [fdiv_eq_ediv_of_nonneg i (by omega)];exact q) (.inl (PyProof.noPylong_small (by omega)))
theorem C8:OpR X (binaryOp .Mod) (rI (fun _ j=>0<j) fun i j=>.int (i % j)):=opI fun i j _ _ _ _ _ hc q=>by
 have h1:(0:Int)<j:=hc;exact mod_int' (by omega) (by rw [fmod_eq_emod_of_nonneg i (by omega)];exact q)
theorem C9:OpR X (binaryOp .Pow) (rI C4 fun i j=>.int (i^j.toNat)):=opI fun _ _ _ _ _ _ _ hc q=>pow_int_small hc.1 hc.2.1 hc.2.2 q
theorem Db:OpR X (binaryOp .LShift) (rI C4 fun i j=>.int (i*2^j.toNat)):=opI fun _ _ _ _ _ _ _ hc q=>lshift_int_small hc.1 hc.2.1 hc.2.2 q
theorem Dc:OpR X (binaryOp .RShift) (rI (fun _ j=>0<=j) fun i j=>.int (i / 2^j.toNat)):=opI fun i j _ _ _ _ _ hc q =>
 rshift_int hc (by rw [fdiv_eq_ediv_of_nonneg i (uh _)];exact q)
theorem Dd:OpR X (binaryOp .BitAnd) (rI0 fun i j=>.int (Builtin.bitAnd i j)):=Fj fun _ _ _ _ _ _ _ q=>and_int q
theorem unI{f:Value->Sem Value}{g:Int->Int}
  (rule:∀(i:Int) (t:Tok) (s:Shared) (Q:Value->Shared->Prop) (E:Value->Shared->Prop),Q (.int (g i) s.toks) { s with toks:=s.toks+1 }->wpAny (model X.prog X.w) X.A (f (.int i t)) Q E s) :
  UnR X f (rU fun i=>.int (g i)):=by
 intro pins s σ H x v Q I rx h;obtain⟨i,rfl,q⟩:=h;obtain⟨t,rfl⟩:=rx;exact rule i t s _ _ ⟨.int (g i),H,I.tok _,⟨_,rfl⟩,q⟩
theorem fi:UnR X (unaryOp .USub) (rU fun i=>.int (-i)):=unI fun _ _ _ _ _ q=>neg_int q
end
def GE:V->V->Bool
 | .non,.non=>true|.non,.int _=>true|.int _,.non=>true|.non,.bl _=>true|.bl _,.non=>true|.non,.str _=>true|.str _,.non=>true
 | .int _,.int _=>true|.bl _,.bl _=>true|.str _,.str _=>true|.byt _,.byt _=>true
 | .int _,.str _=>true|.str _,.int _=>true|.bl _,.str _=>true|.str _,.bl _=>true
 | _,_=>false
def rEq:R2:=fun x y H Q=>GE x y=true/\Q (.bl (decide (x=y))) H
def rNe:R2:=fun x y H Q=>GE x y=true/\Q (.bl (!decide (x=y))) H
theorem vn{i j:Int}:decide (V.int i=V.int j)=(i == j):=by
 rw [Bool.eq_iff_iff];simp
theorem zD{i j:Bool}:decide (V.bl i=V.bl j)=(i == j):=by
 rw [Bool.eq_iff_iff];simp
theorem vo{i j:Str}:decide (V.str i=V.str j)=(i == j):=by
 rw [Bool.eq_iff_iff];simp
theorem vp{i j:Array UInt8}:decide (V.byt i=V.byt j)=(i.toList == j.toList):=by
 rw [Bool.eq_iff_iff];cases i;cases j;simp
section
variable {X:Cx}{a b c:Expr}{ta tb tc:TE}{pos:Pos}
theorem bI{pins:List (Addr×Obj)}{σ:St}{H:Hp}{s:Shared}{Q:VK}{k k':Bool}(I:Inv X pins σ H s)(q:Q (.bl k) H)(e:k=k'):EP X pins σ Q (.bool k') s:=by
 subst e;exact⟨.bl k,H,I,rfl,q⟩
theorem Fm:OpR X (compareOp .Eq) rEq:=by
 intro pins s σ H x y v u Q I rx ry h;obtain⟨hs,q⟩:=h
 cases x with
 | non =>
  cases rx
  cases y with
  | non=>cases ry;exact PySem.EqNone.eq_none_none (bI I q (by simp))
  | bl j=>cases ry;exact PySem.EqNone.eq_none_bool (bI I q (by simp))
  | int j=>obtain⟨t',rfl⟩:=ry;exact PySem.EqNone.eq_none_int (bI I q (by simp))
  | str j=>obtain⟨t',rfl⟩:=ry;exact PySem.EqNone.eq_none_str (bI I q (by simp))
  | _=>exact absurd (show false=true from hs) Bool.false_ne_true
 | bl i =>
  cases rx
  cases y with
  | non=>cases ry;exact PySem.EqNone.eq_bool_none (bI I q (by simp))
  | bl j=>cases ry;exact eq_bool (bI I q zD)
  | str j=>obtain⟨t',rfl⟩:=ry;exact PySem.EqMixed.eq_bool_str (bI I q (by simp))
  | _=>exact absurd (show false=true from hs) Bool.false_ne_true
 | int i =>
  obtain⟨t,rfl⟩:=rx
  cases y with
  | non=>cases ry;exact PySem.EqNone.eq_int_none (bI I q (by simp))
  | int j=>obtain⟨t',rfl⟩:=ry;exact eq_int (bI I q vn)
  | str j=>obtain⟨t',rfl⟩:=ry;exact PySem.EqMixed.eq_int_str (bI I q (by simp))
  | _=>exact absurd (show false=true from hs) Bool.false_ne_true
 | str i =>
  obtain⟨t,rfl⟩:=rx
  cases y with
  | non=>cases ry;exact PySem.EqNone.eq_str_none (bI I q (by simp))
  | bl j=>cases ry;exact PySem.EqMixed.eq_str_bool (bI I q (by simp))
  | int j=>obtain⟨t',rfl⟩:=ry;exact PySem.EqMixed.eq_str_int (bI I q (by simp))
  | str j=>obtain⟨t',rfl⟩:=ry;exact eq_str (bI I q vo)
  | _=>exact absurd (show false=true from hs) Bool.false_ne_true
 | byt i =>
  obtain⟨t,rfl⟩:=rx
  cases y with
  | byt j=>obtain⟨t',rfl⟩:=ry;exact PySem.W.eq_bytes (bI I q vp)
  | _=>exact absurd (show false=true from hs) Bool.false_ne_true
 | _=>cases y <;> exact absurd (show false=true from hs) Bool.false_ne_true
theorem Fn:OpR X (compareOp .NotEq) rNe:=by
 intro pins s σ H x y v u Q I rx ry h;obtain⟨hs,q⟩:=h
 cases x with
 | non =>
  cases rx
  cases y with
  | non=>cases ry;exact PySem.EqNone.ne_none_none (bI I q (by simp))
  | bl j=>cases ry;exact PySem.EqNone.ne_none_bool (bI I q (by simp))
  | int j=>obtain⟨t',rfl⟩:=ry;exact PySem.EqNone.ne_none_int (bI I q (by simp))
  | str j=>obtain⟨t',rfl⟩:=ry;exact PySem.EqNone.ne_none_str (bI I q (by simp))
  | _=>exact absurd (show false=true from hs) Bool.false_ne_true
 | bl i =>
  cases rx
  cases y with
  | non=>cases ry;exact PySem.EqNone.ne_bool_none (bI I q (by simp))
  | bl j=>cases ry;exact ne_bool (bI I q (congrArg not zD))
  | str j=>obtain⟨t',rfl⟩:=ry;exact PySem.EqMixed.ne_bool_str (bI I q (by simp))
  | _=>exact absurd (show false=true from hs) Bool.false_ne_true
 | int i =>
  obtain⟨t,rfl⟩:=rx
  cases y with
  | non=>cases ry;exact PySem.EqNone.ne_int_none (bI I q (by simp))
  | int j=>obtain⟨t',rfl⟩:=ry;exact ne_int (bI I q (congrArg not vn))
  | str j=>obtain⟨t',rfl⟩:=ry;exact PySem.EqMixed.ne_int_str (bI I q (by simp))
  | _=>exact absurd (show false=true from hs) Bool.false_ne_true
 | str i =>
  obtain⟨t,rfl⟩:=rx
  cases y with
  | non=>cases ry;exact PySem.EqNone.ne_str_none (bI I q (by simp))
  | bl j=>cases ry;exact PySem.EqMixed.ne_str_bool (bI I q (by simp))
  | int j=>obtain⟨t',rfl⟩:=ry;exact PySem.EqMixed.ne_str_int (bI I q (by simp))
  | str j=>obtain⟨t',rfl⟩:=ry;exact ne_str (bI I q (congrArg not vo))
  | _=>exact absurd (show false=true from hs) Bool.false_ne_true
 | byt i =>
  obtain⟨t,rfl⟩:=rx
  cases y with
  | byt j=>obtain⟨t',rfl⟩:=ry;exact PySem.W.ne_bytes (bI I q (congrArg not vp))
  | _=>exact absurd (show false=true from hs) Bool.false_ne_true
 | _=>cases y <;> exact absurd (show false=true from hs) Bool.false_ne_true
theorem Fo:OpR X (compareOp .Lt) (rI0 fun i j=>.bl (decide (i<j))):=CC fun _ _ _ _ _ _ _ q=>lt_int q
theorem Fp:OpR X (compareOp .LtE) (rI0 fun i j=>.bl (decide (i<=j))):=CC fun _ _ _ _ _ _ _ q=>le_int q
theorem Fq:OpR X (compareOp .Gt) (rI0 fun i j=>.bl (decide (j<i))):=CC fun _ _ _ _ _ _ _ q=>gt_int q
theorem Fs:OpR X (compareOp .GtE) (rI0 fun i j=>.bl (decide (j<=i))):=CC fun _ _ _ _ _ _ _ q=>ge_int q
theorem vq:OpR X (compareOp .Lt) (fun x y H Q=>∃i j,x=.str i/\y=.str j/\Q (.bl (decide (i.cps.toList<j.cps.toList))) H):=by
 intro pins s σ H x y v u Q I rx ry h;obtain⟨i,j,rfl,rfl,q⟩:=h;obtain⟨t,rfl⟩:=rx;obtain⟨t',rfl⟩:=ry;exact lt_str (bI I q rfl)
theorem AG:OpR X (compareOp .IsNot) (fun x y H Q=>y=.non/\Q (.bl (!decide (x=.non))) H):=by
 intro pins s σ H x y v u Q I rx ry h;obtain⟨rfl,q⟩:=h;cases ry;refine isnot_none_gen (bI I q ?_)
 cases x <;> first
  | (cases rx;rfl)
  | (obtain ⟨t,rfl⟩:=rx;rfl)
theorem OpR.or{f:Value->Value->Sem Value}{r r':R2}(h:OpR X f r)(h':OpR X f r'):OpR X f (fun x y H Q=>r x y H Q\/r' x y H Q):=by
 intro pins s σ H x y v u Q I rx ry q
 rcases q with q|q
 .exact h pins s σ H x y v u Q I rx ry q
 .exact h' pins s σ H x y v u Q I rx ry q
theorem bh(b:Expr){op:CmpOp}(h:op≠.In:=by decide)(h2:op≠.NotIn:=by decide):behindInMarks op b=false:=by
 have e1:(op == CmpOp.In)=false:=by cases op <;> first|rfl|exact absurd rfl h
 have e2:(op == CmpOp.NotIn)=false:=by cases op <;> first|rfl|exact absurd rfl h2
 cases b <;> simp [behindInMarks,e1,e2]
theorem jv{op:CmpOp}{r:R2}(ho:OpR X (compareOp op) r)(ha:PE X a ta)(hb:PE X b tb)(hm:behindInMarks op b=false):PE X (.Compare a [op] [b] pos) (tOp r ta tb):=by
 intro pins s σ H Q I h;exact wpAny_Compare1 (Fi ha hb I h fun v u s2 x y H2 I2 rx ry q=>ho pins s2 σ H2 x y v u Q I2 rx ry q) hm
def iI(t:TE):TT:=fun σ H Q=>t σ H fun x H'=>∃k,x=.bl k/\Q k H'
theorem aN{op:CmpOp}{r:R2}(ho:OpR X (compareOp op) r)(ha:PE X a ta)(hb:PE X b tb)(hm:behindInMarks op b=false):PT X (.Compare a [op] [b] pos) (iI (tOp r ta tb)):=by
 intro pins s σ H Q I h
 refine wpAny_isTrue_Compare1 (thn (ha pins s σ H _ I h) fun v s1 ⟨x,H1,I1,r1,q1⟩=>thn (hb pins s1 σ H1 _ I1 q1) fun u s2 ⟨y,H2,I2,r2,q2⟩ =>
  thn (ho pins s2 σ H2 x y v u _ I2 r1 r2 q2) fun c s3 ⟨z,H3,I3,r3,k,e,q3⟩=>?_) hm
 subst e;cases r3;exact wpAny_truthy_bool ⟨H3,I3,q3⟩
def sP(r r':R2)(ta tb tc:TE):TE:=fun σ H Q=>ta σ H fun x H1=>tb σ H1 fun y H2=>r x y H2 fun z H3=>∃k,z=.bl k /\
 (if k=true then tc σ H3 fun w' H4=>r' y w' H4 Q else Q (.bl false) H3)
theorem x6{op op':CmpOp}{r r':R2}(ho:OpR X (compareOp op) r)(ho':OpR X (compareOp op') r')(ha:PE X a ta)(hb:PE X b tb)(hc:PE X c tc)
  (hm:lastMarks [op,op'] [b,c]=false:=by with_unfolding_all rfl):PE X (.Compare a [op,op'] [b,c] pos) (sP r r' ta tb tc):=by
 intro pins s σ H Q I h
 refine Compare_chain (thn (ha pins s σ H _ I h) fun v s1 ⟨x,H1,I1,r1,q1⟩=>chain_link (thn (hb pins s1 σ H1 _ I1 q1) fun u s2 ⟨y,H2,I2,r2,q2⟩ =>
  thn (ho pins s2 σ H2 x y v u _ I2 r1 r2 q2) fun d s3 ⟨z,H3,I3,r3,k,e,q3⟩=>?_)) hm
 subst e;cases r3;refine wpAny_truthy_bool ?_
 cases k with
 | false=>exact ite_ff ⟨.bl false,H3,I3,rfl,q3⟩
 | true=>exact ite_tt (chain_last (thn (hc pins s3 σ H3 _ I3 q3) fun w' s4 ⟨z',H4,I4,r4,q4⟩=>ho' pins s4 σ H4 y z' u w' Q I4 r2 r4 q4))
theorem x8{op op':CmpOp}{r r':R2}(ho:OpR X (compareOp op) r)(ho':OpR X (compareOp op') r')(ha:PE X a ta)(hb:PE X b tb)(hc:PE X c tc)
  (hm:lastMarks [op,op'] [b,c]=false:=by with_unfolding_all rfl):PT X (.Compare a [op,op'] [b,c] pos) (iI (sP r r' ta tb tc)):=by
 intro pins s σ H Q I h
 refine isTrue_chain (thn (ha pins s σ H _ I h) fun v s1 ⟨x,H1,I1,r1,q1⟩=>test_link (thn (hb pins s1 σ H1 _ I1 q1) fun u s2 ⟨y,H2,I2,r2,q2⟩ =>
  thn (ho pins s2 σ H2 x y v u _ I2 r1 r2 q2) fun d s3 ⟨z,H3,I3,r3,k,e,q3⟩=>?_)) hm
 subst e;cases r3;refine wpAny_truthy_bool ?_
 cases k with
 | false =>
  obtain⟨k',e',q'⟩:=q3;cases e';exact ite_ff ⟨H3,I3,q'⟩
 | true =>
  refine ite_tt (test_last (thn (hc pins s3 σ H3 _ I3 q3) fun w' s4 ⟨z',H4,I4,r4,q4⟩=>thn (ho' pins s4 σ H4 y z' u w' _ I4 r2 r4 q4) fun d' s5 ⟨z2,H5,I5,r5,k2,e2,q5⟩=>?_));subst e2;cases r5;exact wpAny_truthy_bool ⟨H5,I5,q5⟩
theorem mZ:(sizeLine:Nat)<2^63:=by rw [sizeLine_eq];decide
theorem ui:OpR X (binaryOp .Add) (fun x y H Q=>∃i j,x=.str i/\y=.str j/\i.length+j.length<=sizeLine/\Q (.str (i++j)) H):=by
 intro pins s σ H x y v u Q I rx ry h;obtain⟨i,j,rfl,rfl,hz,q⟩:=h;obtain⟨t,rfl⟩:=rx;obtain⟨t',rfl⟩:=ry;exact add_str (fun t' tk=>⟨.str (i++j),H,I.tok _,⟨_,rfl⟩,q⟩) hz
theorem iJ{x:V}{us:List Value}(r:bW [x] us):∃u,us=[u]/\c9 x u:=by
 cases r with
 | cons r1 r2=>cases r2;exact⟨_,rfl,r1⟩
theorem AH{x y:V}{us:List Value}(r:bW [x,y] us):∃u w',us=[u,w']/\c9 x u/\c9 y w':=by
 cases r with
 | cons r1 r2 =>
  cases r2 with
  | cons r3 r4=>cases r4;exact⟨_,_,rfl,r1,r3⟩
theorem vt(hc:X.calm=true):cu X (.builtin "min") (fun xs H Q=>∃i j,xs=[.int i,.int j]/\Q (.int (if j<i then j else i)) H):=by
 intro pins s σ H xs us Q I r h;obtain⟨i,j,rfl,q⟩:=h;obtain⟨u,w',rfl,⟨t,rfl⟩,⟨t',rfl⟩⟩:=AH r;refine min_two_ints (I.ok.hd hc) fun h' tk k=>⟨_,H,I.kept k,?_,q⟩
 by_cases hj:j<i
 .rw [if_pos hj,if_pos hj];exact⟨_,rfl⟩
 .rw [if_neg hj,if_neg hj];exact⟨_,rfl⟩
end
structure AI (h:Heap) (x dx C:Addr) (mA:Str->Option Value):Prop where
 obj:h.get? x=some (PySem.W.instObj C dx)
 ns:h.Ns1 dx mA
 ne:dx≠x
theorem vv{h:Heap}{dx:Addr}{mA:Str->Option Value}(n:h.Ns1 dx mA):∃od,h.get? dx=some od/\∀name,PySem.W.lookIn name od=some (mA name):=by
 obtain⟨o,es,ep,ho,hd,hk,_,hm⟩:=n;refine⟨o,ho,fun name=>?_⟩;have e:=hm name;unfold nsFind findBy at e;rw [<- Array.find?_toList] at e;unfold PySem.W.lookIn;rw [hd];dsimp only
 split
 .rename_i y q;rw [q] at e;exact congrArg some e
 .rename_i q;rw [q] at e
  have a:es.toList.any (·.refKey)=false:=by
   rw [any_eq_false];intro y hy;obtain⟨z,t,hkey⟩:=hk y (Array.mem_toList_iff.mp hy);simp [DictEntry.refKey,hkey]
  have a':¬ es.toList.any (·.refKey)=true:=by rw [a];exact Bool.false_ne_true
  rw [if_neg a'];exact congrArg some e
theorem AI.look{h:Heap}{x dx C:Addr}{mA:Str->Option Value}(I:AI h x dx C mA):∃od,PySem.W.InstAt h x (PySem.W.instObj C dx) C (some od)/\∀name,PySem.W.lookIn name od=some (mA name) :=
 let ⟨od,ho,hl⟩:=vv I.ns
 ⟨od,⟨I.obj,rfl,rfl,ho⟩,hl⟩
section
variable {prog:Program}{w:World}{A:Around}{E:Value->Shared->Prop}{s:Shared}{K:PySem.W.Frag}{x dx C f:Addr}{mA:Str->Option Value}{name:Str}{v:Value}
theorem AJ{expr:Bool}{Q:Value->Shared->Prop}(X:K.In s.heap)(I:AI s.heap x dx C mA)(hg:PySem.W.plainGet K C name=true)(hh:PySem.W.hasDictIn K C=true)
  (ha:PySem.W.findIn K (.ref C) name=some none) (hv:mA name=some v) (hv':PySem.W.handedIn v=true) (h:Q v { s with toks:=s.toks+1 }) :
  wpAny (model prog w) A (getAttr (.ref x) name expr) Q E s:=by
 obtain⟨od,J,hl⟩:=I.look;exact PySem.W.get_value X J (PySem.W.plainGet_of hg).1 (PySem.W.findObj_own hh ha rfl (by rw [hl,hv])) hv' h
theorem x9{pl:Sem Bool}{Q:Value×List Value->Shared->Prop}(X:K.In s.heap)(I:AI s.heap x dx C mA)(hg:PySem.W.plainGet K C name=true)
  (hf:PySem.W.findIn K (.ref C) name=some (some (.ref f))) (ht:PySem.W.isFn K (.ref f)=true) (hv:mA name=none) (h:Q (.ref f,[.ref x]) s) :
  wpAny (model prog w) A (getMethod (.ref x) name pl) Q E s:=by
 obtain⟨od,J,hl⟩:=I.look;exact PySem.W.method_fn X J (PySem.W.plainGet_of hg).1 (PySem.W.plainGet_of hg).2 hf (beq_iff_eq.mp ht) (by show (PySem.W.lookIn name od).map (·.isSome)=some false;rw [hl,hv];rfl) h
theorem AK{ns:List Str}{Q:Unit->Shared->Prop}(X:K.In s.heap)(I:AI s.heap x dx C mA)
  (hs:PySem.W.findIn K (.ref C) "__setattr__"=some (some (.builtin "object.__setattr__"))) (hp:PySem.W.plainOver K C=true) (ht:PySem.W.takerIn K C name=some none) (hh:PySem.W.hasDictIn K C=true)
  (hw:PySem.Within mA ns) (hsz:ns.length<=sizeLine)
  (h:∀h',AI h' x dx C (fun y=>if y=name then some v else mA y)->Heap.SameBut dx s.heap h'->Q () { s with heap:=h',toks:=s.toks+2 }) :
  wpAny (model prog w) A (setAttr (.ref x) name v) Q E s:=by
 obtain⟨od,J,hl⟩:=I.look;refine PySem.W.set_plain X J hs (PySem.W.osa_open (s:={ s with toks:=s.toks+1 }) (r:=none) X J hp ht fun b=>?_);obtain⟨cd,hc,hd'⟩:=PySem.W.any_some hh;have hx:s.heap.get? x=some ⟨.ref C,some dx,.plain,#[]⟩:=I.obj;refine wpAny_bind (wpAny_pure (wpAny_bind (wpAny_bind (wpAny_loadPart hx (wpAny_bind (PySem.W.Looks.here (s:={ s with toks:=s.toks+1 }) (PySem.W.looks_clsIn X hc) ?_))))))
 rw [hd'];refine wpAny_pure (a:=some dx) (wpAny_bind (wpAny_pure (wpAny_bind ?_)));refine wpAny_nsSet1 (s:={ s with toks:=s.toks+1 }) I.ns fun h' hn2 hs2=>?_;obtain⟨oD,esD,epD,hoD,hdD,hcD⟩:=hn2.count (PySem.Within.cons name v hw);refine wpAny_bind (wpAny_lookBehind hoD (by rw [hdD];exact pastItsLine_dict (Nat.le_trans hcD (by rw [length_cons];omega))) ?_);exact wpAny_pure (h _ ⟨(hs2.2 _ (Ne.symm I.ne)).trans I.obj,hn2,I.ne⟩ hs2)
theorem ya{R:Result->Shared->Prop}{vs:List Value}{kw:List (Str×Value)}(X:K.In s.heap)(hm:PySem.W.makesIn K C=true)
  (hi:PySem.W.findIn K (.ref C) "__init__"=some (some (.ref f))) (hf:PySem.W.typeIn K (.ref f)=some (.type "function"))
  (h:codeAny (model prog w) (A.under (.builtin "type.__call__" ⟨.ref C::vs,kw⟩)) (.call (.ref f) ⟨.ref (s.heap.objs.size+1)::vs,kw⟩) (PySem.W.InitBack (s.heap.objs.size+1) R)
   { s with heap:=(s.heap.push PySem.W.emptyDict).push (PySem.W.instObj C s.heap.objs.size) }) :
  codeAny (model prog w) A (.call (.ref C) ⟨vs,kw⟩) R s:=by
 obtain⟨hh,g,d,t,os⟩:=s;exact PySem.W.make_core (PySem.W.makes_of X hm) (PySem.W.looks_findIn X hi) (fun self=>PySem.W.bind_fn X self hf) (.inl rfl) h
end
def m4(f:Str)(v:V):List (Str×V)->List (Str×V)
 | []=>[(f,v)]
 | (g,x)::r=>if g=f then (g,v)::r else (g,x)::m4 f v r
theorem kS(f g:Str)(v:V):∀fs:List (Str×V),(m4 f v fs).lookup g=if g=f then some v else fs.lookup g
 | []=>by
  show List.lookup g [(f,v)]=_
  by_cases h:g=f
  .have hb:(g == f)=true:=beq_iff_eq.mpr h;simp only [List.lookup,hb,if_pos h]
  .have hb:(g == f)=false:=beq_eq_false_iff_ne.mpr h;simp only [List.lookup,hb,if_neg h]
 | (k,x)::r=>by
  have ih:=kS f g v r;rw [show m4 f v ((k,x)::r)=(if k=f then (k,v)::r else (k,x)::m4 f v r) from rfl]
  by_cases hk:k=f
  .rw [if_pos hk]
   by_cases h:g=k
   .have hb:(g == k)=true:=beq_iff_eq.mpr h;simp only [List.lookup,hb,if_pos (h.trans hk)]
   .have hb:(g == k)=false:=beq_eq_false_iff_ne.mpr h;simp only [List.lookup,hb,if_neg (fun e:g=f=>h (e.trans hk.symm))]
  .rw [if_neg hk]
   by_cases h:g=k
   .have hb:(g == k)=true:=beq_iff_eq.mpr h;simp only [List.lookup,hb,if_neg (fun e:g=f=>hk (h.symm.trans e))]
   .have hb:(g == k)=false:=beq_eq_false_iff_ne.mpr h;simp only [List.lookup,hb];exact ih
theorem kT(f:Str)(v:V):∀fs:List (Str×V),f∈(m4 f v fs).map (·.1)/\∀g,g∈fs.map (·.1)->g∈(m4 f v fs).map (·.1)
 | []=>⟨by simp [m4],fun g h=>by simp at h⟩
 | (k,x)::r=>by
  obtain⟨i1,i2⟩:=kT f v r;rw [show m4 f v ((k,x)::r)=(if k=f then (k,v)::r else (k,x)::m4 f v r) from rfl]
  by_cases hk:k=f
  .rw [if_pos hk];subst hk;exact⟨by simp,fun g h=>by simpa using h⟩
  .rw [if_neg hk]
   refine⟨?_,fun g h=>?_⟩
   .rw [map_cons];exact mem_cons_of_mem _ i1
   .rw [map_cons] at h ⊢
    rcases mem_cons.mp h with e|e
    .exact mem_cons.mpr (.inl e)
    .exact mem_cons_of_mem _ (i2 g e)
theorem kU(f:Str)(v:V):∀fs:List (Str×V),(m4 f v fs).length<=fs.length+1
 | []=>by simp [m4]
 | (k,x)::r=>by
  have ih:=kU f v r;rw [show m4 f v ((k,x)::r)=(if k=f then (k,v)::r else (k,x)::m4 f v r) from rfl]
  by_cases hk:k=f
  .rw [if_pos hk,length_cons,length_cons];omega
  .rw [if_neg hk,length_cons,length_cons];omega
theorem xV.some_of{v:V}{o:Option Value}(r:xV (some v) o):∃u,o=some u/\c9 v u:=by
 cases o with
 | none=>exact (show False from r).elim
 | some u=>exact⟨u,rfl,r⟩
theorem xV.none_of{o:Option Value}(r:xV none o):o=none:=by
 cases o with
 | none=>rfl
 | some u=>exact (show False from r).elim
theorem vw{v:V}{u:Value}(r:c9 v u):PySem.W.handedIn u=true:=by
 cases v with
 | non=>cases (show u=Value.none from r);rfl
 | bl b=>cases (show u=Value.bool b from r);rfl
 | int i=>obtain⟨t,e⟩:=(show ∃t,u=Value.int i t from r);cases e;rfl
 | str x=>obtain⟨t,e⟩:=(show ∃t,u=Value.str x t from r);cases e;rfl
 | byt b=>obtain⟨t,e⟩:=(show ∃t,u=Value.bytes b t from r);cases e;rfl
 | flt b=>obtain⟨t,e⟩:=(show ∃t,u=Value.float b t from r);cases e;rfl
 | ref a=>cases (show u=Value.ref a from r);rfl
 | ty n=>cases (show u=Value.type n from r);rfl
section
variable {P:Program}{w:World}{H H':Hp}{h h':Heap}{a C dx:Addr}{fs fs':List (Str×V)}
theorem kW(hok:HOk P w H h)(e:H a=some (.ins C dx fs)):∃mA,AI h a dx C mA/\(∀f,xV (fs.lookup f) (mA f))/\PySem.Within mA (fs.map (·.1))/\fs.length<=1000/\H dx=some (.own a):=by
 obtain⟨d,z,ne,ob,mA,n,r,q⟩:=(show bY P w H h a (.ins C dx fs) from hok a _ e)
 exact⟨mA,⟨ob,n,ne⟩,r,q,z,d⟩
end
structure Cls (K:PySem.W.Frag) (C:Addr):Prop where
 pg:PySem.W.plainGet K C Str.empty=true
 hd:PySem.W.hasDictIn K C=true
 po:PySem.W.plainOver K C=true
 sa:PySem.W.findIn K (.ref C) "__setattr__"=some (some (.builtin "object.__setattr__"))
theorem Cls.get{K:PySem.W.Frag}{C:Addr}(c:Cls K C)(f:Str):PySem.W.plainGet K C f=true:=c.pg
def eJ(K:PySem.W.Frag)(C:Addr)(f:Str):Prop:=PySem.W.findIn K (.ref C) f=some none
theorem eJ.taker{K:PySem.W.Frag}{C:Addr}{f:Str}(n:eJ K C f):PySem.W.takerIn K C f=some none:=by
 unfold PySem.W.takerIn;rw [show PySem.W.findIn K (.ref C) f=some none from n];rfl
structure E4 (K:PySem.W.Frag) (C:Addr) (m:Str) (f:Addr):Prop where
 at_:PySem.W.findIn K (.ref C) m=some (some (.ref f))
 fn:PySem.W.isFn K (.ref f)=true
 kp:PySem.W.keepIn K (.ref f)=true
section
variable {X:Cx}{pins:List (Addr×Obj)}{σ:St}{H:Hp}{s:Shared}{a C dx:Addr}{fs:List (Str×V)}{f:Str}{v:V}{A:Around}{E:Value->Shared->Prop}
theorem uj{b:Bool}{Q:Value->Shared->Prop}(I:Inv X pins σ H s)(e:H a=some (.ins C dx fs))(c:Cls X.K C)(n:eJ X.K C f)(l:fs.lookup f=some v)
  (h:∀u s',Inv X pins σ H s'->c9 v u->Q u s'):wpAny (model X.prog X.w) A (getAttr (.ref a) f b) Q E s:=by
 obtain⟨mA,O,r,_,_,_⟩:=kW I.hok e;obtain⟨u,hu,ru⟩:=xV.some_of (v:=v) (o:=mA f) (by rw [<- l];exact r f);exact AJ I.kIn O (c.get f) c.hd n hu (vw ru) (h u _ (I.tok _) ru)
theorem uk{m:Str}{g:Addr}{pl:Sem Bool}{Q:Value×List Value->Shared->Prop}(I:Inv X pins σ H s)(e:H a=some (.ins C dx fs))(c:Cls X.K C)(k:E4 X.K C m g)(l:fs.lookup m=none)
  (h:Q (.ref g,[.ref a]) s):wpAny (model X.prog X.w) A (getMethod (.ref a) m pl) Q E s:=by
 obtain⟨mA,O,r,_,_,_⟩:=kW I.hok e;have hn:mA m=none:=xV.none_of (by rw [<- l];exact r m);exact x9 I.kIn O (c.get m) k.at_ k.fn hn h
theorem ul{y:V}{u:Value}{Q:Unit->Shared->Prop}(I:Inv X pins σ H s)(e:H a=some (.ins C dx fs))(c:Cls X.K C)(n:eJ X.K C f)(hl:fs.length<1000)(ry:c9 y u)
  (h:∀s',Inv X pins σ (upd H a (.ins C dx (m4 f y fs))) s'->Q () s'):wpAny (model X.prog X.w) A (setAttr (.ref a) f u) Q E s:=by
 obtain⟨mA,O,r,wi,_,ho⟩:=kW I.hok e;have hz:(fs.map (·.1)).length<=sizeLine:=by rw [length_map,sizeLine_eq];omega
 refine AK I.kIn O c.sa c.po n.taker c.hd wi hz fun h' O' sb=>h _ ?_;have hd:∃o,h'.get? dx=some o:=let ⟨o,_,_,e',_⟩:=O'.ns;⟨o,e'⟩
 refine I.write (x:=a) (e:=dx) (by rw [e];exact True.intro) (.inr ho) (fun b q hb z=>(sb.2 b hb).trans z) hd ?_
 refine⟨by rw [aw O.ne];exact ho,?_,O.ne,O'.obj,_,O'.ns,fun g=>?_,fun g hg=>?_⟩
 .have:=kU f y fs;omega
 .show xV ((m4 f y fs).lookup g) (if g=f then some u else mA g);rw [kS]
  by_cases q:g=f
  .rw [if_pos q,if_pos q];exact ry
  .rw [if_neg q,if_neg q];exact r g
 .by_cases q:g=f
  .rw [q];exact (kT f y fs).1
  .refine (kT f y fs).2 g (wi g fun z=>hg ?_);show (if g=f then some u else mA g)=none;rw [if_neg q];exact z
theorem Inv.made(I:Inv X pins σ H s):Inv X pins σ (upd (upd H s.heap.objs.size (.own (s.heap.objs.size+1))) (s.heap.objs.size+1) (.ins C s.heap.objs.size []))
  { s with heap:=(s.heap.push PySem.W.emptyDict).push (PySem.W.instObj C s.heap.objs.size) }:=by
 have e1:(s.heap.push PySem.W.emptyDict).get? s.heap.objs.size=some PySem.W.emptyDict:=Heap.get?_push_size s.heap rfl
 have e2:((s.heap.push PySem.W.emptyDict).push (PySem.W.instObj C s.heap.objs.size)).get? (s.heap.objs.size+1)=some (PySem.W.instObj C s.heap.objs.size):=by
  have:=Heap.get?_push_size (s.heap.push PySem.W.emptyDict) (o:=PySem.W.instObj C s.heap.objs.size) rfl
  rwa [Heap.size_push] at this
 have e3:(s.heap.push PySem.W.emptyDict).Ns s.heap.objs.size (fun _=>none):=⟨PySem.W.emptyDict,#[],_,e1,rfl,(fun e he=>absurd he (by simp)),fun _=>rfl⟩
 have I1:=I.laid (a:=s.heap.objs.size) (o:=.own (s.heap.objs.size+1)) (h':=s.heap.push PySem.W.emptyDict) (t':=s.toks) (fun b u q=>Heap.get?_push_of_some _ q) (Nat.le_refl _) ⟨_,e1⟩;refine I1.laid (a:=s.heap.objs.size+1) (o:=.ins C s.heap.objs.size []) (t':=s.toks) (fun b u q=>Heap.get?_push_of_some _ q) (le_of_eq (Heap.size_push _ _)) ?_;have ne:s.heap.objs.size≠s.heap.objs.size+1:=ne_of_lt (lt_succ_self _)
 refine⟨by rw [aw ne,aF],zero_le _,ne,e2,fun _=>none,(Heap.Ns1.of_empty e3).at fun o q=>Heap.get?_push_of_some _ q,fun _=>True.intro,fun y hy=>absurd rfl hy⟩
theorem AL{prog:Program}{w:World}{env:Env}{e:Expr}{f:Str}{pos:Pos}{s:Shared}{Q:Value->Shared->Prop}(hb:attributeBase e f env (eval e env)=eval e env)
  (h:wpAny (model prog w) A (eval e env) (fun o s₁=>wpAny (model prog w) A (getAttr o f true) Q E s₁) E s):wpAny (model prog w) A (eval (.Attribute e f pos) env) Q E s :=
 Attribute_any_ h (by rw [arm_eval_Attribute,hb])
end
def uZ(K:PySem.W.Frag)(ta:TE)(f:Str):TE:=fun σ H Q=>ta σ H fun x H1=>∃a C dx fs v,x=.ref a/\H1 a=some (.ins C dx fs)/\Cls K C/\eJ K C f/\fs.lookup f=some v/\Q v H1
def GF(K:PySem.W.Frag)(ta tv:TE)(f:Str):TS:=fun D σ H=>tv σ H fun y H1=>ta σ H1 fun x H2=>∃a C dx fs,x=.ref a/\H2 a=some (.ins C dx fs)/\Cls K C/\eJ K C f/\fs.length<1000 /\
 D.nx σ (upd H2 a (.ins C dx (m4 f y fs)))
section
variable {X:Cx}{o e value:Expr}{f:Str}{pos pos' tpos:Pos}{ta tv:TE}
theorem De(he:PE X e ta)(hb:attributeBase e f X.env (eval e X.env)=eval e X.env):PE X (.Attribute e f pos) (uZ X.K ta f):=by
 intro pins s σ H Q I h;refine AL hb (thn (he pins s σ H _ I h) fun u s1 ⟨x,H1,I1,rx,a,C,dx,fs,v,ex,ea,c,n,l,q⟩=>?_);subst ex;obtain rfl:u=Value.ref a:=rx;exact uj I1 ea c n l fun u' s2 I2 ru=>⟨v,H1,I2,ru,q⟩
theorem m5(ha:PE X o ta)(hv:PE X value tv)(hs:swapsWith value (some (.Attribute o f pos')) pos.line X.env=pure false):PS X (.Assign [.Attribute o f pos'] value pos) (GF X.K ta tv f):=by
 intro pins s σ H D I h;refine plainObj_wpAny_Assign_Attribute (thn (hv pins s σ H _ I h) fun u s1 ⟨y,H1,I1,ry,q⟩=>thn (ha pins s1 σ H1 _ I1 q) fun ov s2 ⟨x,H2,I2,rx,a,C,dx,fs,ex,ea,c,n,l,q2⟩=>?_) hs;subst ex;obtain rfl:ov=Value.ref a:=rx;exact ul I2 ea c n l ry fun s3 I3=>⟨σ,_,I3,q2⟩
end
section
variable {X:Cx}{pins:List (Addr×Obj)}{σ:St}{H:Hp}{s:Shared}{A:Around}{E:Value->Shared->Prop}{Q:Value->Shared->Prop}{c:Value}{b:Bool}
inductive pA (K:PySem.W.Frag) (H:Hp):V->Value->Prop where
 | non:pA K H .non (.type "NoneType")
 | bl (x:Bool):pA K H (.bl x) (.type "bool")
 | int (i:Int):pA K H (.int i) (.type "int")
 | str (x:Str):pA K H (.str x) (.type "str")
 | flt (x:UInt64):pA K H (.flt x) (.type "float")
 | lst {a:Addr}{xs:List V} (e:H a=some (.lst xs)):pA K H (.ref a) (.type "list")
 | frz {a:Addr}{o:Obj}{xs:List V} (e:H a=some (.frz o (.lst xs))):pA K H (.ref a) (.type "list")
 | tup {a:Addr}{xs:List V} (e:H a=some (.tup xs)):pA K H (.ref a) (.type "tuple")
 | dK {a:Addr}{kvs:List (Key×V)} (e:H a=some (.dK kvs)):pA K H (.ref a) (.type "dict")
 | dT {a:Addr}{kvs:List (List Key×V)} (e:H a=some (.dT kvs)):pA K H (.ref a) (.type "dict")
 | ins {a C dx:Addr}{fs:List (Str×V)} (e:H a=some (.ins C dx fs)) (cl:Cls K C) (ha:PySem.W.findIn K (.ref C) "__class__"=some (some (.builtin "object.__class__")))
   (hn:PySem.W.specialIn K (.builtin "object.__class__") "__get__"=some (some (.builtin "getset_descriptor.__get__"))) (htk:PySem.W.takesIn K (.builtin "object.__class__")=some true)
   (hm:PySem.W.mroIn K C (.type "object")=some true):pA K H (.ref a) (.ref C)
theorem vx{x:V}{u t:Value}(I:Inv X pins σ H s)(rx:c9 x u)(ty:pA X.K H x t)(e:PySem.W.kitOne X.K t c=some b)(h:∀tk,Q (.bool b) { s with toks:=tk }) :
  wpAny (model X.prog X.w) A (call (.builtin "isinstance") [u,c]) Q E s:=by
 cases ty with
 | non=>cases (show u=Value.none from rx);exact PySem.W.kia_one PySem.W.kitx_none I.kIn True.intro e (fun z=>nomatch z) h
 | bl y=>cases (show u=Value.bool y from rx);exact PySem.W.kia_one PySem.W.kitx_bool I.kIn True.intro e (fun z=>nomatch z) h
 | int i=>obtain⟨t,q⟩:=(show ∃t,u=Value.int i t from rx);cases q;exact PySem.W.kia_one PySem.W.kitx_int I.kIn True.intro e (fun z=>nomatch z) h
 | str y=>obtain⟨t,q⟩:=(show ∃t,u=Value.str y t from rx);cases q;exact PySem.W.kia_one PySem.W.kitx_str I.kIn True.intro e (fun z=>nomatch z) h
 | flt y=>obtain⟨t,q⟩:=(show ∃t,u=Value.float y t from rx);cases q;exact PySem.W.kia_one PySem.W.kitx_float I.kIn True.intro e (fun z=>nomatch z) h
 | @lst a xs ea =>
  cases (show u=Value.ref a from rx);obtain⟨_,_,n,_,h1⟩:=(show bY X.prog X.w H s.heap a (.lst xs) from I.hok a _ ea)
  exact PySem.W.kia_one PySem.W.kitx_list I.kIn ⟨_,h1,rfl⟩ e (fun z=>nomatch z) h
 | @frz a ob xs ea =>
  cases (show u=Value.ref a from rx);obtain⟨_,_,_,n,_,h1⟩:=(show bY X.prog X.w H s.heap a (.frz ob (.lst xs)) from I.hok a _ ea)
  exact PySem.W.kia_one PySem.W.kitx_list I.kIn ⟨_,h1,rfl⟩ e (fun z=>nomatch z) h
 | @tup a xs ea =>
  cases (show u=Value.ref a from rx);obtain⟨_,_,_,p⟩:=(show bY X.prog X.w H s.heap a (.tup xs) from I.hok a _ ea)
  obtain⟨o,h1,h2,_⟩:=p;exact PySem.W.kia_one PySem.W.kitx_tuple I.kIn ⟨o,h1,h2⟩ e (fun z=>nomatch z) h
 | @dK a kvs ea =>
  cases (show u=Value.ref a from rx);obtain⟨_,_,vs,_,p⟩:=(show bY X.prog X.w H s.heap a (.dK kvs) from I.hok a _ ea)
  obtain⟨o,es,ep,h1,h2,_⟩:=p;exact PySem.W.kia_one PySem.W.kitx_dict I.kIn ⟨o,h1,h2.1⟩ e (fun z=>nomatch z) h
 | @dT a kvs ea =>
  cases (show u=Value.ref a from rx);obtain⟨_,_,xs,_,o,es,ep,h1,h2,_⟩:=(show bY X.prog X.w H s.heap a (.dT kvs) from I.hok a _ ea)
  exact PySem.W.kia_one PySem.W.kitx_dict I.kIn ⟨o,h1,h2.1⟩ e (fun z=>nomatch z) h
 | @ins a C dx fs ea cl ha hn htk hm =>
  cases (show u=Value.ref a from rx);obtain⟨mA,O,_⟩:=kW I.hok ea;obtain⟨od,J,_⟩:=O.look;exact PySem.W.kia_one (PySem.W.kitx_own (cl.get _) cl.hd ha hn htk hm) I.kIn J e (fun z=>nomatch z) h
end
structure gx (k:Nat) (A:Around):Prop where
 hd:A.handled=none
 dp:A.depth+3*k+5<recursionLimit
 un:A.units+16*k+200<cLine
theorem gx.mono{j k:Nat}{A:Around}(r:gx k A)(h:j<=k):gx j A:=⟨r.hd,by have:=r.dp;omega,by have:=r.un;omega⟩
theorem gx.deeper{k:Nat}{A:Around}(r:gx (k+1) A)(env:Env):gx k (A.deeper env) :=
 ⟨r.hd,by have:=r.dp;show A.depth+1+3*k+5<_;omega,by have:=r.un;show A.units+3+16*k+200<_;omega⟩
theorem um{A:Around}{C:Addr}{us:List Value}{kw:List (Str×Value)}:(A.under (.builtin "type.__call__" ⟨.ref C::us,kw⟩)).depth=A.depth+1:=by
 first|rfl|simp [Around.under,Code.weight,Code.isCreation,Code.isGuard,Code.isCaller,Code.frames,Code.isFrame,guardIds]
theorem uo{A:Around}{C:Addr}{us:List Value}{kw:List (Str×Value)}:(A.under (.builtin "type.__call__" ⟨.ref C::us,kw⟩)).units=A.units+1:=by
 first|rfl|simp [Around.under,Code.cUnits,Code.frames,Code.isFrame]
theorem gx.make{k:Nat}{A:Around}(r:gx (k+1) A)(C:Addr)(us:List Value)(kw:List (Str×Value)):gx k (A.under (.builtin "type.__call__" ⟨.ref C::us,kw⟩)) :=
 ⟨r.hd,by have:=r.dp;rw [um];omega,by have:=r.un;rw [uo];omega⟩
theorem gx.depth{k:Nat}{A:Around}(r:gx k A):A.depth<recursionLimit:=by have:=r.dp;omega
theorem gx.units{k:Nat}{A:Around}(r:gx k A):A.units+64<cLine:=by have:=r.un;omega
def cS:TA:=fun _ H Q=>Q [] H
def aJ(ta:TE)(tr:TA):TA:=fun σ H Q=>ta σ H fun x H1=>tr σ H1 fun xs H2=>Q (x::xs) H2
section
variable {X:Cx}{e:Expr}{es:List Expr}{te:TE}{t:TA}{pos:Pos}
theorem ag:PA X [] cS:=fun _ _ _ _ H Q I h=>Calls.spliced_nil ⟨[],H,I,.nil,h⟩
theorem AM(ha:PE X e te)(hr:PA X es t)(hs:starEach (e::es) X.env=(false,eval e X.env)::starEach es X.env:=by rfl):PA X (e::es) (aJ te t):=by
 intro pos pins s σ H Q I h;rw [hs];show wpAny _ _ (spliced ((false,eval e X.env)::backTo pos (starEach es X.env))) _ _ s;refine Calls.spliced_cons (thn (ha pins s σ H _ I h) fun u s1 ⟨x,H1,I1,r1,q1⟩=>?_);exact thn (hr pos pins s1 σ H1 _ I1 q1) fun us s2 ⟨xs,H2,I2,r2,q2⟩=>⟨x::xs,H2,I2,.cons r1 r2,q2⟩
def CD(t:TA):TE:=fun σ H Q=>t σ H fun xs H1=>xs.length<=sizeLine/\∀p,H1 p=none->Q (.ref p) (upd H1 p (.tup xs))
def Ft(t:TA):TE:=fun σ H Q=>t σ H fun xs H1=>xs.length<=sizeLine/\∀p,H1 p=none->Q (.ref p) (upd H1 p (.lst xs))
theorem iY{x1}(h:PA X es t):PE X (.Tuple es x1 pos) (CD t):=by
 intro pins s σ H Q I hq;refine wpAny_Tuple_spliced (thn (h pos pins s σ H _ I hq) fun us s1 ⟨xs,H1,I1,r,z,q⟩=>⟨by rw [<- r.length];exact z,?_⟩);have hf:H1 s1.heap.objs.size=none:=I1.hok.fresh (Nat.le_refl _);refine⟨.ref s1.heap.objs.size,upd H1 s1.heap.objs.size (.tup xs),I1.laid (t':=s1.toks) (fun b u e=>Heap.get?_push_of_some _ e) (Nat.le_refl _) ?_,rfl,q _ hf⟩;exact⟨z,us,r,⟨_,Heap.get?_push_size _ rfl,rfl,_,rfl⟩⟩
theorem bC(h:PA X es t):PE X (.List es pos) (Ft t):=by
 intro pins s σ H Q I hq;refine wpAny_List_spliced (thn (h pos pins s σ H _ I hq) fun us s1 ⟨xs,H1,I1,r,z,q⟩=>⟨by rw [<- r.length];exact z,?_⟩);have hf:H1 s1.heap.objs.size=none:=I1.hok.fresh (Nat.le_refl _);refine⟨.ref s1.heap.objs.size,upd H1 s1.heap.objs.size (.lst xs),I1.laid (t':=s1.toks) (fun b u e=>Heap.get?_push_of_some _ e) (Nat.le_refl _) ?_,rfl,q _ hf⟩;exact⟨z,us,0,r,Heap.get?_push_size _ rfl⟩
end
abbrev Sp:=List V->Hp->VK->XK->Prop
abbrev CXT:=List Env->Hp->Shared->XK->Value->Shared->Prop
structure AN (P:Program) (w:World) (K:PySem.W.Frag) (mg:Str->Option Value) (base:Heap) (A:Around) (outer:List Env) (s:Shared) (H:Hp):Prop where
 frames:A.frames=some outer
 mod:Mod K mg base
 bs:∀b o,base.get? b=some o->s.heap.get? b=some o/\H b=none
 bsz:base.objs.size<=s.heap.objs.size
 funs:s.heap.FunFrames base outer
 frf:∀b∈frs outer,H b=none
 hok:HOk P w H s.heap
 bare:AllBare s.gens
def CE(outer:List Env)(P:Program)(w:World)(H:Hp)(s:Shared)(Q:VK)(u:Value)(s':Shared):Prop :=
 ∃v H',s'.os=s.os/\AllBare s'.gens/\Un (frs outer) [] H H' s.heap s'.heap/\HOk P w H' s'.heap/\c9 v u/\Q v H'
def CR(CX:CXT)(outer:List Env)(P:Program)(w:World)(H:Hp)(s:Shared)(Q:VK)(E:XK)(r:Result)(s':Shared):Prop :=
 match r with
 | .ok (.ret u)=>CE outer P w H s Q u s'
 | .ok _=>False
 | .error e=>CX outer H s E e s'
structure m7 (P:Program) (w:World) (K:PySem.W.Frag) (mg:Str->Option Value) (base:Heap) (CX:CXT) (k:Nat) (f:Addr) (fd:FuncData) (ps:List Str) (sp:Sp):Prop where
 len:∀vs H Q E,sp vs H Q E->vs.length=ps.length
 run:∀(A:Around) (outer:List Env) (s:Shared) (H:Hp) (args:Args) (us:List Value) (vs:List V) (Q:VK) (E:XK),gx k A->AN P w K mg base A outer s H->BindsTo s fd args (ps.zip us)->bW vs us->sp vs H Q E ->
  codeAny (model P w) A (.call (.ref f) args) (CR CX outer P w H s Q E) s
theorem m7.imp{P:Program}{w:World}{K:PySem.W.Frag}{mg:Str->Option Value}{base:Heap}{CX:CXT}{k:Nat}{f:Addr}{fd:FuncData}{ps:List Str}{sp sp':Sp}(F:m7 P w K mg base CX k f fd ps sp)
  (h:∀vs H Q E,sp' vs H Q E->sp vs H Q E):m7 P w K mg base CX k f fd ps sp' :=
 ⟨fun vs H Q E q=>F.len vs H Q E (h _ _ _ _ q),fun A outer s H args us vs Q E hr he hb hv hs=>F.run A outer s H args us vs Q E hr he hb hv (h _ _ _ _ hs)⟩
theorem AN.make{P:Program}{w:World}{K:PySem.W.Frag}{mg:Str->Option Value}{base:Heap}{A:Around}{outer:List Env}{s:Shared}{H:Hp}(e:AN P w K mg base A outer s H)(C:Addr)(us:List Value)(kw:List (Str×Value)) :
  AN P w K mg base (A.under (.builtin "type.__call__" ⟨.ref C::us,kw⟩)) outer s H:=⟨by first|exact e.frames|(simpa [Around.under,Code.envs,Code.isFrame,pushEnvs] using e.frames),e.mod,e.bs,e.bsz,e.funs,e.frf,e.hok,e.bare⟩
section
variable {X:Cx}{pins:List (Addr×Obj)}{σ:St}{H:Hp}{s s':Shared}
theorem Inv.env0(I:Inv X pins σ H s):AN X.prog X.w X.K X.mg X.base X.A X.stack s H :=
 ⟨I.ok.frames,I.ok.mod,I.bs,Nat.le_trans I.ok.bsz I.sz,I.stack,I.stkFree,I.hok,I.bare⟩
theorem Inv.after{Q:VK}{u:Value}(I:Inv X pins σ H s)(h:CE X.stack X.prog X.w H s Q u s'):EP X pins σ Q u s':=by
 obtain⟨v,H',os,bare,un,hok,r,q⟩:=h;obtain⟨hh,g,d,t,os'⟩:=s';obtain rfl:os'=s.os:=os;exact⟨v,H',I.call (h':=hh) (g':=g) (d':=d) (t':=t) (ch:=[]) un hok bare (fun b z=>absurd z (by simp)),r,q⟩
end
def ei(sp:Sp)(dvs:List V)(E:XK)(t:TA):TE:=fun σ H Q=>t σ H fun vs H1=>sp (vs++dvs) H1 Q E
def AO(C:Addr)(m:Str)(sp:Sp)(dvs:List V)(E:XK)(ta:TE)(t:TA):TE:=fun σ H Q=>ta σ H fun x H1=>∃a dx fs,x=.ref a/\H1 a=some (.ins C dx fs)/\fs.lookup m=none /\
 t σ H1 fun vs H2=>sp (x::(vs++dvs)) H2 Q E
def yb(C:Addr)(sp:Sp)(dvs:List V)(E:XK)(t:TA):TE:=fun σ H Q=>t σ H fun vs H1=>∀x dx,H1 x=none->H1 dx=none->dx≠x ->
 sp (.ref x::(vs++dvs)) (upd (upd H1 dx (.own x)) x (.ins C dx [])) (fun v H2=>v=.non/\Q (.ref x) H2) E
def jw(K:PySem.W.Frag)(fd:FuncData)(ps:List Str)(ds:List Value):Prop :=
 ∀(s:Shared) (us:List Value),K.In s.heap->(us++ds).length=ps.length->BindsTo s fd ⟨us,[]⟩ (ps.zip (us++ds))
theorem jw.all{K:PySem.W.Frag}{fd:FuncData}{ps:List Str}(h:∀us:List Value,us.length=ps.length->bindArgs fd ⟨us,[]⟩=pure (ps.zip us)):jw K fd ps []:=fun s us _ hl=>by
 rw [append_nil] at hl ⊢;exact .of_eq (h us hl)
def m8(CX:CXT)(X:Cx)(E:XK):Prop:=∀(pins:List (Addr×Obj)) (σ:St) (H:Hp) (s:Shared) (e:Value) (s':Shared),Inv X pins σ H s->CX X.stack H s E e s'->X.xe e s'
section
variable {X:Cx}{CX:CXT}{k:Nat}{f C:Addr}{fd:FuncData}{ps:List Str}{sp:Sp}{dvs:List V}{ds:List Value}{E:XK}{x m:Str}{p pos apos:Pos}{e o:Expr}{es:List Expr}{ta:TE}{t:TA}
theorem zE{pins:List (Addr×Obj)}{σ:St}{H:Hp}{s:Shared}{Q:VK}{us:List Value}{vs:List V}(F:m7 X.prog X.w X.K X.mg X.base CX k f fd ps sp)(hr:gx k X.A)(hb:jw X.K fd ps ds)(hd:bW dvs ds)(hx:m8 CX X E)
  (I:Inv X pins σ H s) (r:bW vs us) (h:sp (vs++dvs) H Q E):wpAny (model X.prog X.w) X.A (call (.ref f) us) (EP X pins σ Q) X.xe s:=by
 have r2:bW (vs++dvs) (us++ds):=r.append hd;have hl:(us++ds).length=ps.length:=by rw [<- r2.length];exact F.len _ _ _ _ h
 refine wpAny_call (codeAny_mono (F.run X.A X.stack s H ⟨us,[]⟩ (us++ds) (vs++dvs) Q E hr I.env0 (hb s us I.kIn hl) r2 h) fun r s' hq=>?_)
 cases r with
 | error e=>exact hx pins σ H s e s' I hq
 | ok fl =>
  cases fl with
  | ret u=>exact I.after hq
  | next=>exact False.elim hq
  | brk=>exact False.elim hq
  | cont=>exact False.elim hq
theorem vy(F:m7 X.prog X.w X.K X.mg X.base CX k f fd ps sp)(hr:gx k X.A)(hg:Gl X x)(hm:X.mg x=some (.ref f))(hk:PySem.W.keepIn X.K (.ref f)=true)(hb:jw X.K fd ps ds)(hd:bW dvs ds)(hx:m8 CX X E)
  (ha:PA X (e::es) t) (hdb:(x == ("__debug__":Str))=false:=by decide) (he:starEach (e::es) X.env=(false,eval e X.env)::starEach es X.env:=by rfl) (hpl:(backTo pos (starEach es X.env)).any (·.1)=false:=by rfl) :
  PE X (.Call (.Name x p) (e::es) [] pos) (ei sp dvs E t):=by
 intro pins s σ H Q I h;refine wpAny_Call_Name_kw (jr I hg hm ?_ hdb);refine PySem.W.callWith_K (h₀:=X.base) I.ok.mod.kin hk (thn (ha pos pins s σ H _ I h) fun us s1 ⟨vs,H1,I1,r,q⟩=>⟨I1.kIn,?_⟩) he hpl;exact zE F hr hb hd hx I1 r q
theorem yc{pl:Sem Bool}(he:PE X o ta)(c:Cls X.K C)(hm:E4 X.K C m f)(F:m7 X.prog X.w X.K X.mg X.base CX k f fd ps sp)(hr:gx k X.A)(hb:jw X.K fd ps ds)(hd:bW dvs ds)(hx:m8 CX X E)
  (ht:eval (.Call (.Attribute o m apos) [] [] pos) X.env=(do
   let ov <- eval o X.env
   standAt apos.atName
   let (f,first) <- holding [ov] (getMethod ov m pl)
   callWith pos f first (backTo pos (starEach [] X.env)) (backToKw pos (keywordEach [] X.env))):=by rfl) :
  PE X (.Call (.Attribute o m apos) [] [] pos) (AO C m sp dvs E ta cS):=by
 intro pins s σ H Q I h;refine PySem.W.methodCall_KW (pl:=pl) (thn (he pins s σ H _ I h) fun u s1 ⟨x,H1,I1,rx,a,dx,fs,ex,ea,l,q⟩=>?_) ht;subst ex;obtain rfl:u=Value.ref a:=rx;refine uk I1 ea c hm l ?_;exact PySem.W.callWith_K0 (first:=[.ref a]) I1.kIn hm.kp (zE (us:=[.ref a]) (vs:=[.ref a]) F hr hb hd hx I1 (.cons rfl .nil) q)
structure Mk (K:PySem.W.Frag) (C f:Addr):Prop where
 makes:PySem.W.makesIn K C=true
 init:PySem.W.findIn K (.ref C) "__init__"=some (some (.ref f))
 fn:PySem.W.isFn K (.ref f)=true
 kp:PySem.W.keepIn K (.ref C)=true
theorem ye{pins:List (Addr×Obj)}{σ:St}{H:Hp}{s:Shared}{Q:VK}{us:List Value}{vs:List V}(M:Mk X.K C f)(F:m7 X.prog X.w X.K X.mg X.base CX k f fd ps sp)(hr:gx (k+1) X.A)(hb:jw X.K fd ps ds)(hd:bW dvs ds)
  (hx:m8 CX X E) (I:Inv X pins σ H s) (r:bW vs us)
  (h:∀x dx,H x=none->H dx=none->dx≠x->sp (.ref x::(vs++dvs)) (upd (upd H dx (.own x)) x (.ins C dx [])) (fun v H2=>v=.non/\Q (.ref x) H2) E) :
  wpAny (model X.prog X.w) X.A (call (.ref C) us) (EP X pins σ Q) X.xe s:=by
 have hq:=h (s.heap.objs.size+1) s.heap.objs.size (I.hok.fresh (le_succ _)) (I.hok.fresh (Nat.le_refl _)) (ne_of_lt (lt_succ_self _));have I2:=Inv.made (C:=C) I;have r2:bW (V.ref (s.heap.objs.size+1)::(vs++dvs)) (Value.ref (s.heap.objs.size+1)::(us++ds)):=.cons rfl (r.append hd)
 have hl:(Value.ref (s.heap.objs.size+1)::us++ds).length=ps.length:=by
  have e:=r2.length;rw [F.len _ _ _ _ hq] at e;exact e.symm
 refine wpAny_call (ya (f:=f) I.kIn M.makes M.init (beq_iff_eq.mp M.fn) (codeAny_mono (F.run _ X.stack _ _ ⟨Value.ref (s.heap.objs.size+1)::us,[]⟩ (Value.ref (s.heap.objs.size+1)::(us++ds)) _ _ E (hr.make C us [])
  (I2.env0.make C us []) (hb _ (Value.ref (s.heap.objs.size+1)::us) I2.kIn hl) r2 hq) fun r s' hq'=>?_))
 cases r with
 | error e=>exact hx pins σ _ _ e s' I2 hq'
 | ok fl =>
  cases fl with
  | ret u =>
   obtain⟨v,H',I3,rv,ev,q3⟩:=I2.after hq';subst ev;exact⟨rv,⟨V.ref (s.heap.objs.size+1),H',I3,rfl,q3⟩⟩
  | next=>exact False.elim hq'
  | brk=>exact False.elim hq'
  | cont=>exact False.elim hq'
theorem AQ(M:Mk X.K C f)(F:m7 X.prog X.w X.K X.mg X.base CX k f fd ps sp)(hr:gx (k+1) X.A)(hg:Gl X x)(hm:X.mg x=some (.ref C))(hb:jw X.K fd ps ds)(hd:bW dvs ds)(hx:m8 CX X E)
  (ha:PA X (e::es) t) (hdb:(x == ("__debug__":Str))=false:=by decide) (he:starEach (e::es) X.env=(false,eval e X.env)::starEach es X.env:=by rfl) (hpl:(backTo pos (starEach es X.env)).any (·.1)=false:=by rfl) :
  PE X (.Call (.Name x p) (e::es) [] pos) (yb C sp dvs E t):=by
 intro pins s σ H Q I h;refine wpAny_Call_Name_kw (jr I hg hm ?_ hdb);refine PySem.W.callWith_K (h₀:=X.base) I.ok.mod.kin M.kp (thn (ha pos pins s σ H _ I h) fun us s1 ⟨vs,H1,I1,r,q⟩=>⟨I1.kIn,?_⟩) he hpl;exact ye M F hr hb hd hx I1 r q
end
structure aK (N P:List Str) (sc:Scope):Prop where
 kind:sc.kind=.function
 co:sc.isCoroutine=false
 gen:sc.isGenerator=false
 nd:N.Nodup
 pre:N.take P.length=P
 par:∀x∈P,sc.names.lookup x=some .local\/sc.names.lookup x=some .cell
 nofree:∀y∈sc.names,y.2≠.free
theorem pG{kindOf:Str->Option NameKind}{x:Str}:∀{binds:List (Str×Value)}{m:Str->Option Value},(∀v,(x,v)∉binds)->bindL kindOf binds m x=m x
 | [],_,_=>rfl
 | (n,v)::r,m,h=>by
  unfold bindL;rw [pG fun w hw=>h w (mem_cons_of_mem _ hw)]
  split
  .have:x≠n:=by rintro rfl;exact h v mem_cons_self
   simp [this]
  .rfl
theorem pH{kindOf:Str->Option NameKind}{x:Str}:∀{binds:List (Str×Value)}{m:Str->Option Value},(∀v,(x,v)∉binds)->bindC kindOf binds m x=m x
 | [],_,_=>rfl
 | (n,v)::r,m,h=>by
  unfold bindC;rw [pH fun w hw=>h w (mem_cons_of_mem _ hw)]
  split
  .rfl
  .have:x≠n:=by rintro rfl;exact h v mem_cons_self
   simp [this]
theorem pI{kindOf:Str->Option NameKind}{x:Str}{v:Value}:∀{P:List Str}{vs:List Value}{i:Nat}{m:Str->Option Value},P.Nodup->P[i]?=some x->vs[i]?=some v->kindOf x=some .local ->
  bindL kindOf (P.zip vs) m x=some v
 | [],_,_,_,_,h,_,_=>by simp at h
 | _::_,[],_,_,_,_,h,_=>by simp at h
 | p::P,w::vs,0,m,nd,h1,h2,hk=>by
  simp at h1 h2;subst h1;subst h2;show bindL kindOf ((p,w)::P.zip vs) m p=_;unfold bindL;rw [pG fun v hv=>(nodup_cons.mp nd).1 (of_mem_zip hv).1,if_pos hk];simp
 | p::P,w::vs,i+1,m,nd,h1,h2,hk=>by
  show bindL kindOf ((p,w)::P.zip vs) m x=_;unfold bindL;exact pI (i:=i) (nodup_cons.mp nd).2 (by simpa using h1) (by simpa using h2) hk
theorem pJ{kindOf:Str->Option NameKind}{x:Str}{v:Value}:∀{P:List Str}{vs:List Value}{i:Nat}{m:Str->Option Value},P.Nodup->P[i]?=some x->vs[i]?=some v->kindOf x≠some .local ->
  bindC kindOf (P.zip vs) m x=some v
 | [],_,_,_,_,h,_,_=>by simp at h
 | _::_,[],_,_,_,_,h,_=>by simp at h
 | p::P,w::vs,0,m,nd,h1,h2,hk=>by
  simp at h1 h2;subst h1;subst h2;show bindC kindOf ((p,w)::P.zip vs) m p=_;unfold bindC;rw [pH fun v hv=>(nodup_cons.mp nd).1 (of_mem_zip hv).1,if_neg hk];simp
 | p::P,w::vs,i+1,m,nd,h1,h2,hk=>by
  show bindC kindOf ((p,w)::P.zip vs) m x=_;unfold bindC;exact pJ (i:=i) (nodup_cons.mp nd).2 (by simpa using h1) (by simpa using h2) hk
def start(N:List Str)(vs:List V):St:=vs.map some++List.replicate (N.length - vs.length) none
def sQ(CX:CXT)(P:Program)(w:World)(K:PySem.W.Frag)(mg:Str->Option Value)(base:Heap)(N:List Str)(qual:Str)(scope:Scope)(f:Addr)(cd:Value)(A:Around)(outer:List Env)(s:Shared)(H:Hp)(E:XK):Cx where
 prog:=P
 w:=w
 K:=K
 mg:=mg
 base:=base
 A:=A.deeper (envOfC qual scope s.heap.objs.size f cd)
 N:=N
 s₀:=s
 H₀:=H
 env:=envOfC qual scope s.heap.objs.size f cd
 outer:=outer
 stack:=envOfC qual scope s.heap.objs.size f cd::outer
 ex:=[]
 calm:=true
 fn:=fun _=>true
 pn:=[]
 xe:=fun e s'=>wpAny (model P w) (A.deeper (envOfC qual scope s.heap.objs.size f cd)) (leaving (envOfC qual scope s.heap.objs.size f cd) e) (fun _ s''=>CX outer H s E e s'') (fun e' s''=>CX outer H s E e' s'') s'
theorem sR{sc:Scope}{n:Nat}{x:Str}(h:sc.names.lookup x=some .cell):∃c,(cellsFrom n sc.names []).lookup x=some c:=by
 have q:=PySem.W.cellsFrom_some sc.names n [] (.inl h);exact Option.isSome_iff_exists.mp q
theorem vz{CX:CXT}{P:Program}{w:World}{K:PySem.W.Frag}{mg:Str->Option Value}{base:Heap}{N ps:List Str}{qual:Str}{scope:Scope}{f:Addr}{cd:Value}{A:Around}{outer:List Env}{s s1:Shared}{H:Hp}{E:XK}{us:List Value}{vs:List V}
  (S:aK N ps scope) (hd:A.handled=none) (e0:AN P w K mg base A outer s H) (hl:vs.length=ps.length) (r:bW vs us)
  (x:InCallC s s.heap.objs.size (bindL (envOfC qual scope s.heap.objs.size f cd).kindOf (ps.zip us) fun _=>none) (cellsFrom (s.heap.objs.size+1) scope.names []) (bindC (envOfC qual scope s.heap.objs.size f cd).kindOf (ps.zip us) fun _=>none) s1) :
  Inv (sQ CX P w K mg base N qual scope f cd A outer s H E) [] (start N vs) H s1:=by
 have hpl:ps.length<=N.length:=by have:=congrArg List.length S.pre;rw [length_take] at this;omega
 obtain⟨h1,tk,rfl,hk⟩:=x.done;have noA:∀b:Addr,b∉(sQ CX P w K mg base N qual scope f cd A outer s H E).ex:=fun b z=>absurd (show b∈([]:List Addr) from z) (by simp)
 refine⟨⟨e0.mod,S.kind,rfl,rfl,Nat.le_refl _,fun y z c h1 h2=>?_,fun y hy=>?_,fun y c _ h=>?_,fun _=>hd,Around.frames_deeper e0.frames,.inr ⟨rfl,rfl⟩,fun b z=>absurd z (noA b),e0.bs,e0.bsz,fun b _ _=>noA b,fun b z=>absurd z (noA b),e0.funs,e0.frf⟩,
  rfl,e0.bare,Un.kept hk,⟨_,x.toInCall.ns,fun i y v h1 h2 h3=>?_⟩,fun y c h=>⟨_,x.cell y c h⟩,e0.hok.fresh (Nat.le_refl _),fun y c h=>?_,fun p hp=>absurd (show p∈([]:List (Addr×Obj)) from hp) (by simp),e0.hok.kept hk,?_⟩
 .exact name_of_addr x.apart (PySem.mem_of_lookup h1) (PySem.mem_of_lookup h2)
 .have hy:scope.names.lookup y=some .cell\/scope.names.lookup y=some .free:=hy
  rcases hy with hy|hy
  .exact sR hy
  .exact absurd rfl (S.nofree _ (PySem.mem_of_lookup hy))
 .exact le_of_lt (x.above y c (PySem.mem_of_lookup h))
 .have hi:i<vs.length:=by
   unfold start at h2
   by_cases hi:i<vs.length
   .exact hi
   .rw [getElem?_append_right (by simpa using hi)] at h2;rw [getElem?_replicate] at h2;split at h2 <;> cases h2
  have ha:vs[i]?=some v:=by
   unfold start at h2;rw [getElem?_append_left (by simpa using hi),getElem?_map] at h2
   cases e:vs[i]? with
   | none=>rw [e] at h2;cases h2
   | some a=>rw [e] at h2;cases h2;rfl
  obtain⟨u,hu,rv⟩:=r.get ha
  have hp:ps[i]?=some y:=by
   rw [<- S.pre,getElem?_take_of_lt (by omega)];exact h1
  have ndP:ps.Nodup:=by rw [<- S.pre];exact S.nd.sublist (take_sublist _ _)
  refine⟨u,rv,?_⟩
  rcases S.par y (mem_of_getElem? hp) with k|k
  .exact .inl ⟨k,pI ndP hp hu k⟩
  .obtain⟨c,e⟩:=sR (n:=s.heap.objs.size+1) k;refine .inr ⟨.inl k,c,e,?_⟩;have q:=x.cell y c e;rw [pJ ndP hp hu (by show scope.names.lookup y≠_;rw [k];decide)] at q;exact q
 .exact e0.hok.fresh (le_of_lt (x.above y c (PySem.mem_of_lookup h)))
 .unfold start;show _=N.length;rw [length_append,length_map,length_replicate];omega
theorem AR{CX:CXT}{P:Program}{w:World}{K:PySem.W.Frag}{mg:Str->Option Value}{base:Heap}{k:Nat}{f:Addr}{name qual:Str}{params:Arguments}{body:List Stmt}{scope:Scope}{dV kV doc pm cdv ct oc:Value}{an od:Option Addr}
  {osl:Array (Option Value)}{N ps:List Str}{sp:Sp} (lk:K.lookup f=some ⟨oc,od,.func (PySem.W.fnOf name qual params body scope dV kV doc pm an cdv ct),osl⟩) (hcd:PySem.W.codeIn K cdv qual=true) (S:aK N ps scope)
  (len:∀vs H Q E,sp vs H Q E->vs.length=ps.length)
  (hbody:∀(A:Around) (outer:List Env) (s:Shared) (H:Hp) (vs:List V) (Q:VK) (E:XK),gx k (A.deeper (envOfC qual scope s.heap.objs.size f cdv))->sp vs H Q E ->
   ∃t,PSs (sQ CX P w K mg base N qual scope f cdv A outer s H E) body t/\t { nx:=fun _ H'=>Q .non H',rt:=Q } (start N vs) H) :
  m7 P w K mg base CX (k+1) f (PySem.W.fnOf name qual params body scope dV kV doc pm an cdv ct) ps sp:=by
 refine⟨len,fun A outer s H args us vs Q E hr e0 hb r hsp=>?_⟩;have hl:=len _ _ _ _ hsp;have KX:K.In s.heap:=e0.mod.kin.keeps fun b o e=>(e0.bs b o e).1;have lim:s.heap.NoLimit:=e0.mod.nolimit.keeps fun b o e=>(e0.bs b o e).1
 have hkind:∀y∈ps.zip us,scope.names.lookup y.1=some .local\/(scope.names.lookup y.1=some .cell/\((cellsFrom (s.heap.objs.size+1) scope.names []).lookup y.1).isSome=true):=fun ⟨n,v⟩ hy=>by
  rcases S.par n (of_mem_zip hy).1 with q|q
  .exact .inl q
  .exact .inr ⟨q,PySem.W.cellsFrom_some _ _ _ (.inl q)⟩
 refine codeAny_call_function hr.depth (KX _ _ lk) rfl S.co S.gen rfl (PySem.W.codeRec_of KX hcd) (hb _ _ _ _ ?_);refine wpAny_newFunctionEnv_cells S.kind hkind fun env he s1 x=>?_;subst he;refine⟨lim.keeps x.toInCall.keep,codeAny_func ?_⟩;obtain⟨t,ht,hq⟩:=hbody A outer s H vs Q E (hr.deeper _) hsp;have I:Inv (sQ CX P w K mg base N qual scope f cdv A outer s H E) [] (start N vs) H s1:=vz S hr.hd e0 hl r x
 refine wpAny_mono (ht [] s1 (start N vs) H _ I hq) (fun fl s' hs=>?_) fun e s' hs=>hs
 have fin:∀{σ':St}{H':Hp}{v:V}{u:Value},Inv (sQ CX P w K mg base N qual scope f cdv A outer s H E) [] σ' H' s'->c9 v u->Q v H'->CE outer P w H s Q u s' :=
  fun {σ' H' v u} J rv q=>⟨v,H',J.os,J.bare,J.base,J.hok,rv,q⟩
 cases fl with
 | ret u =>
  obtain⟨v,σ',H',J,rv,q⟩:=hs;exact fin J rv q
 | next =>
  obtain⟨σ',H',J,q⟩:=hs;exact fin (v:=V.non) (u:=Value.none) J rfl q
 | brk =>
  obtain⟨_,_,_,q⟩:=hs;exact False.elim q
 | cont =>
  obtain⟨_,_,_,q⟩:=hs;exact False.elim q
section
variable {X:Cx}{x:Str}{p pos:Pos}{e:Expr}{es:List Expr}{t:TA}{id T:String}{r:List V->Hp->VK->Prop}
def tCB(r:List V->Hp->VK->Prop)(t:TA):TE:=fun σ H Q=>t σ H fun vs H1=>r vs H1 Q
theorem yf(hc:cu X (.builtin id) r)(hg:Gl X x)(hm:X.mg x=none)(hv:bootBuiltins x=some (.builtin id))(ha:PA X (e::es) t)(hn:x≠"__name__":=by decide)(hdb:(x == ("__debug__":Str))=false:=by decide)
  (he:starEach (e::es) X.env=(false,eval e X.env)::starEach es X.env:=by rfl) (hpl:(backTo pos (starEach es X.env)).any (·.1)=false:=by rfl):PE X (.Call (.Name x p) (e::es) [] pos) (tCB r t):=by
 intro pins s σ H Q I h;refine wpAny_Call_Name_kw (ik I hg hm hv ?_ hn hdb);exact PyProof.Rows.callWith_builtin1 (thn (ha pos pins s σ H _ I h) fun us s1 ⟨vs,H1,I1,r1,q1⟩=>hc pins s1 σ H1 vs us Q I1 r1 q1) he hpl
theorem vA(hc:cu X (.type T) r)(hg:Gl X x)(hm:X.mg x=none)(hv:bootBuiltins x=some (.type T))(ha:PA X (e::es) t)(hn:x≠"__name__":=by decide)(hdb:(x == ("__debug__":Str))=false:=by decide)
  (he:starEach (e::es) X.env=(false,eval e X.env)::starEach es X.env:=by rfl) (hpl:(backTo pos (starEach es X.env)).any (·.1)=false:=by rfl):PE X (.Call (.Name x p) (e::es) [] pos) (tCB r t):=by
 intro pins s σ H Q I h;refine wpAny_Call_Name_kw (ik I hg hm hv ?_ hn hdb);exact PyProof.Rows.callWith_type1 (thn (ha pos pins s σ H _ I h) fun us s1 ⟨vs,H1,I1,r1,q1⟩=>hc pins s1 σ H1 vs us Q I1 r1 q1) he hpl
end
end L2
namespace HT
open PySem PyProof.Rows
section
open PySem.SeqAt
open PySem.AutoSeq1 (wpAny_loadPart')
open PySem.MeetsSeq PySem.MeetsSeq2 PySem.MeetsSeq3
end
section
variable {prog:Program}{w:World}{A:Around}{E:Value->Shared->Prop}{s:Shared}
theorem cat_tup{t b:Addr}{vs ws:List Value}{Q:Value->Shared->Prop}(ht:IsTup s.heap t vs.toArray)(hb:IsTup s.heap b ws.toArray)(hv:vs≠[])
  (h1:ws=[]->Q (.ref t) s) (h2:ws≠[]->Q (.ref s.heap.objs.size) { s with heap:=s.heap.push { cls:=.type "tuple",data:=.seq (vs++ws).toArray } })
  (hsz:vs.length+ws.length<=sizeLine):wpAny (model prog w) A (binaryOp .Add (.ref t) (.ref b)) Q E s:=by
 obtain⟨⟨cls,dd,data,sl⟩,ho,hc,n,hd⟩:=id ht;obtain⟨⟨cls2,dd2,data2,sl2⟩,ho2,hc2,n2,hd2⟩:=id hb;simp only at hc hd hc2 hd2;subst hc hd hc2 hd2;have e:vs.toArray++ws.toArray=(vs++ws).toArray:=by simp
 by_cases hw:ws=[]
 .exact concat_meets ⟨_,ho,rfl⟩ ⟨_,ho2,rfl⟩ noFill_tuple_add seq_tuple_add PySem.F.slot_tuple_add PySem.F.entry_tuple_add (PySem.F.args_tuple_add_2 _ _)
   (tuple_addW1 t b vs.toArray ws.toArray n n2 dd dd2 sl sl2 (by simpa using hv) (by simp [hw])) ⟨ho,ho2,h1 hw⟩
 .refine concat_meets ⟨_,ho,rfl⟩ ⟨_,ho2,rfl⟩ noFill_tuple_add seq_tuple_add PySem.F.slot_tuple_add PySem.F.entry_tuple_add (PySem.F.args_tuple_add_2 _ _)
   (tuple_addW2 t b vs.toArray ws.toArray n n2 dd dd2 sl sl2 (by simpa using hv) (by simpa using hw) (by rw [size_toArray,size_toArray];exact hsz)) ⟨ho,ho2,?_⟩
  rw [e];exact h2 hw
def sIx(n d:Nat):Option Int->Nat
 | none=>d
 | some v=>if v<0 then (v+(n:Int)).toNat else min v.toNat n
theorem sIx_nat(n d k:Nat):sIx n d (some (k:Int))=min k n:=by
 show (if (k:Int)<0 then ((k:Int)+(n:Int)).toNat else min (k:Int).toNat n)=min k n;rw [if_neg (by omega),toNat_natCast]
theorem sIx_le(n d:Nat)(hd:d<=n)(o:Option Int):sIx n d o<=n:=by
 cases o with
 | none=>exact hd
 | some v =>
  show (if v<0 then (v+(n:Int)).toNat else min v.toNat n)<=n
  by_cases hv:v<0
  .rw [if_pos hv];omega
  .rw [if_neg hv];exact min_le_right _ _
theorem clip_eq(v:Int)(n d:Nat):(if v<0 then max (v+(n:Int)) 0 else min v (n:Int))=((sIx n d (some v):Nat):Int):=by
 show (if v<0 then max (v+(n:Int)) 0 else min v (n:Int))=(((if v<0 then (v+(n:Int)).toNat else min v.toNat n):Nat):Int)
 by_cases hv:v<0
 .simp only [if_pos hv];omega
 .simp only [if_neg hv];omega
theorem up(lo hi:Option Int)(n:Nat):Builtin.Slice.sliceAdjust lo hi 1 (n:Int)=(((sIx n 0 lo:Nat):Int),((sIx n n hi:Nat):Int)):=by
 have h1:¬ ((1:Int)<0):=by omega
 unfold Builtin.Slice.sliceAdjust;simp only [h1,if_false]
 refine Prod.ext ?_ ?_
 .cases lo with
  | none=>rfl
  | some v=>exact clip_eq v n 0
 .cases hi with
  | none=>rfl
  | some v=>exact clip_eq v n n
theorem uq(i j:Nat):Builtin.Slice.slicePlaces (i:Int) (j:Int) 1=j - i:=by
 unfold Builtin.Slice.slicePlaces;have h1:(1:Int) > 0:=by omega
 simp only [h1,if_true,ediv_one];split <;> omega
theorem m9{v:Value}{o:Option Int}{Q:Option Int->Shared->Prop}(p:IsPart v o)(h:Q o s):wpAny (model prog w) A (Builtin.Slice.slicePartIndex v) Q E s:=by
 cases p with
 | none=>exact slicePart_none h
 | int i t=>exact slicePart_int h
theorem gi{sl:Addr}{vl vu:Value}{lo hi:Option Int}{n:Nat}{Q:Int×Int×Nat->Shared->Prop}(hs:s.heap.IsSliceOf sl vl vu .none)(pl:IsPart vl lo)(pu:IsPart vu hi)
  (h:Q (((sIx n 0 lo:Nat):Int),1,sIx n n hi - sIx n 0 lo) s):wpAny (model prog w) A (Builtin.Slice.sliceApplied (.ref sl) (pure (n:Int))) Q E s:=by
 obtain⟨os,hos,hcs,hds⟩:=id hs;unfold Builtin.Slice.sliceApplied Builtin.Slice.sliceFields;refine wpAny_bind (wpAny_bind (wpAny_field hos hds (x:=vl) rfl (wpAny_bind (wpAny_field hos hds (x:=vu) rfl (wpAny_bind (wpAny_field hos hds (x:=.none) rfl (wpAny_pure ?_)))))));refine wpAny_bind (slicePart_none ?_);show wpAny _ _ (if ((1:Int) == 0)=true then _ else _) _ _ s;rw [if_neg (by decide)];refine wpAny_bind (m9 pl (wpAny_bind (m9 pu (wpAny_bind (wpAny_pure ?_)))))
 show wpAny _ _ (match Builtin.Slice.sliceAdjust lo hi 1 (n:Int) with|(lo,hi)=>pure (lo,(1:Int),Builtin.Slice.slicePlaces lo hi 1)) _ _ s;rw [up lo hi n];show wpAny _ _ (pure (((sIx n 0 lo:Nat):Int),(1:Int),Builtin.Slice.slicePlaces ((sIx n 0 lo:Nat):Int) ((sIx n n hi:Nat):Int) 1)) _ _ s;rw [uq];exact wpAny_pure h
theorem yg(xs:Array Value)(i k:Nat):((List.range k).filterMap fun (m:Nat)=>xs[((i:Int)+(m:Int)*1).toNat]?).toArray=((xs.toList.drop i).take k).toArray:=by
 have e:(fun (m:Nat)=>xs[((i:Int)+(m:Int)*1).toNat]?)=fun m=>xs[i+m]?:=by
  funext m;have:((i:Int)+(m:Int)*1).toNat=i+m:=by omega
  rw [this]
 rw [e];have:=pick_run xs i k;rw [filterMap_map] at this;have e2:((fun x=>xs[x]?) ∘ fun x=>i+x)=fun m=>xs[i+m]?:=rfl;rw [e2] at this;rw [this]
theorem getItem_tuple_cut{t sl:Addr}{items:Array Value}{vl vu:Value}{lo hi:Option Int}{Q:Value->Shared->Prop}(ht:IsTup s.heap t items)(hs:s.heap.IsSliceOf sl vl vu .none)(pl:IsPart vl lo)(pu:IsPart vu hi)
  (hw:¬ (sIx items.size 0 lo=0/\sIx items.size items.size hi=items.size))
  (h:Q (.ref s.heap.objs.size) { s with heap:=s.heap.push { cls:=.type "tuple",data:=.seq ((items.toList.drop (sIx items.size 0 lo)).take (sIx items.size items.size hi - sIx items.size 0 lo)).toArray } })
  (hsz:items.size<=sizeLine):wpAny (model prog w) A (getItem (.ref t) (.ref sl)) Q E s:=by
 have htake:sizeOk (.seq ((items.toList.drop (sIx items.size 0 lo)).take (sIx items.size items.size hi - sIx items.size 0 lo)).toArray):=by
  show ((items.toList.drop (sIx items.size 0 lo)).take (sIx items.size items.size hi - sIx items.size 0 lo)).toArray.size<=sizeLine;rw [size_toArray,length_take,length_drop,Array.length_toList];omega
 have hj:sIx items.size items.size hi<=items.size:=sIx_le _ _ (Nat.le_refl _) hi;obtain⟨os,hos,hcs,hds⟩:=id hs;have hTs:s.TypeIs (.ref sl) "slice":=⟨os,hos,hcs⟩
 unfold getItem
 try with_reducible refine wpAny_holding ?_
 first|refine wpAny_bind (wpAny_pure ?_)|skip
 refine wpAny_bind (wpAny_sequenceKey ht.typeIs (by decide) ?_)
 refine wpAny_bind (wpAny_callSpecial?_slot (name:=Str.ofString "__getitem__") ht.typeIs PyProof.Rows.slot_tuple_getitem
  (wpAny_call_entry PyProof.Rows.slot_tuple_getitem ht.typeIs entry_tuple_getitem ?_ (args_tuple_getitem _ _)))
 show wpAny _ _ (Builtin.Tuple.tupleItemsOf (.ref t) >>= _) _ _ s;refine wpAny_bind (tupleItemsOf_ ht ?_);refine wpAny_bind (wpAny_typeOf hTs ?_);rw [if_pos (by decide)];refine wpAny_bind (gi hs pl pu ?_)
 have hno:¬ ((((sIx items.size 0 lo:Nat):Int) == 0 && (1:Int) == 1 && (sIx items.size items.size hi - sIx items.size 0 lo) == items.size)=true):=by
  intro q;rw [and_eq_true,and_eq_true] at q;have q1:((sIx items.size 0 lo:Nat):Int)=0:=eq_of_beq q.1.1;have q2:sIx items.size items.size hi - sIx items.size 0 lo=items.size:=eq_of_beq q.2;exact hw ⟨by omega,by omega⟩
 show wpAny _ _ (if (((sIx items.size 0 lo:Nat):Int) == 0 && (1:Int) == 1 && (sIx items.size items.size hi - sIx items.size 0 lo) == items.size)=true then _ else _) _ _ s;rw [if_neg hno,yg]
 first
  | exact wpAny_bind (m:=Builtin.Tuple.tupleExact _) (wpAny_newObj_type (wpAny_pure ⟨_,rfl,wpAny_pure h⟩) htake)
  | exact wpAny_bind (m:=Builtin.Tuple.tupleExact _) (wpAny_newObj_type (wpAny_bind (wpAny_pure (wpAny_pure ⟨_,rfl,wpAny_pure h⟩))) htake)
  | exact wpAny_bind (wpAny_bind (m:=Builtin.Tuple.tupleExact _) (wpAny_newObj_type (wpAny_pure (wpAny_pure ⟨_,rfl,wpAny_pure h⟩)) htake))
  | exact wpAny_bind (wpAny_bind (m:=Builtin.Tuple.tupleExact _) (wpAny_newObj_type (wpAny_pure ⟨_,rfl,wpAny_pure h⟩) htake))
end
end HT
namespace L2
open PySem PySem.Spec PyProof.Rows
abbrev TO:=St->Hp->(Option Int->Hp->Prop)->Prop
def PO(X:Cx)(e:Option Expr)(t:TO):Prop :=
 ∀(pins:List (Addr×Obj)) (s:Shared) (σ:St) (H:Hp) (Q:Option Int->Hp->Prop),Inv X pins σ H s->t σ H Q ->
  wpAny (model X.prog X.w) X.A (evalPart e X.env) (fun u s'=>∃o H',Inv X pins σ H' s'/\IsPart u o/\Q o H') X.xe s
def vB:TO:=fun _ H Q=>Q none H
def Df(t:TE):TO:=fun σ H Q=>t σ H fun x H1=>∃i,x=.int i/\Q (some i) H1
theorem fj{ns:List Int}:∀{us:List Value},bW (ns.map V.int) us->IntsAre us ns:=by
 induction ns with
 | nil=>intro us r;rw [map_nil] at r;cases r;exact .nil
 | cons n ns ih =>
  intro us r;rw [map_cons] at r
  cases r with
  | cons r1 r2 =>
   obtain⟨t,e⟩:=r1;subst e;exact .cons n t (ih r2)
section
variable {X:Cx}{e:Expr}{te:TE}{lo hi:Option Expr}{tl th:TO}{pos p2:Pos}
theorem dB:PO X none vB:=by
 intro pins s σ H Q I h;rw [evalPart_none];exact wpAny_pure ⟨none,H,I,.none,h⟩
theorem cY(h:PE X e te):PO X (some e) (Df te):=by
 intro pins s σ H Q I hw;rw [evalPart_some];refine thn (h pins s σ H _ I hw) fun u s1 ⟨x,H1,I1,r1,q1⟩=>?_;obtain⟨i,rfl,q⟩:=q1;obtain⟨t,rfl⟩:=r1;exact⟨some i,H1,I1,.int i t,q⟩
def SlR(X:Cx)(r:V->Option Int->Option Int->Hp->VK->Prop):Prop :=
 ∀(pins:List (Addr×Obj)) (s:Shared) (σ:St) (H:Hp) (x:V) (v vl vu:Value) (lo hi:Option Int) (sl:Addr) (Q:VK),Inv X pins σ H s->c9 x v->s.heap.IsSliceOf sl vl vu .none->IsPart vl lo->IsPart vu hi->r x lo hi H Q ->
  ∃T id,typeLookup (.type T) "__getitem__"=pure (some (.builtin id))/\s.TypeIs v T/\wpAny (model X.prog X.w) X.A (getItem v (.ref sl)) (EP X pins σ Q) X.xe s
theorem SlR.or{r r':V->Option Int->Option Int->Hp->VK->Prop}(h:SlR X r)(h':SlR X r'):SlR X (fun x lo hi H Q=>r x lo hi H Q\/r' x lo hi H Q):=by
 intro pins s σ H x v vl vu lo hi sl Q I rx hs pl pu q
 rcases q with q|q
 .exact h pins s σ H x v vl vu lo hi sl Q I rx hs pl pu q
 .exact h' pins s σ H x v vl vu lo hi sl Q I rx hs pl pu q
def tSl(r:V->Option Int->Option Int->Hp->VK->Prop)(te:TE)(tl th:TO):TE:=fun σ H Q=>te σ H fun x H1=>tl σ H1 fun l H2=>th σ H2 fun u H3=>r x l u H3 Q
theorem cH{r:V->Option Int->Option Int->Hp->VK->Prop}(hr:SlR X r)(he:PE X e te)(hl:PO X lo tl)(hu:PO X hi th):PE X (.Subscript e (.Slice lo hi none p2) pos) (tSl r te tl th):=by
 intro pins s σ H Q I h;refine Subscript_ (thn (he pins s σ H _ I h) fun v s1 ⟨x,H1,I1,r1,q1⟩=>?_);refine wpAny_Slice (thn (hl pins s1 σ H1 _ I1 q1) fun vl s2 ⟨l,H2,I2,pl,q2⟩=>thn (hu pins s2 σ H2 _ I2 q2) fun vu s3 ⟨u,H3,I3,pu,q3⟩=>?_);rw [evalPart_none];refine wpAny_pure ?_;have I4:Inv X pins σ H3 { s3 with heap:=s3.heap.push { cls:=.type "slice",data:=.fields #[vl,vu,.none] } }:=I3.kept (t':=s3.toks) fun b ob q=>Heap.get?_push_of_some _ q
 obtain⟨T,id,hT,ht,hg⟩:=hr pins { s3 with heap:=s3.heap.push { cls:=.type "slice",data:=.fields #[vl,vu,.none] } } σ H3 x v vl vu l u s3.heap.objs.size Q I4 r1 (Heap.IsSliceOf.new ..) pl pu q3;show wpAny (model X.prog X.w) X.A (subscriptTail e (.Slice lo hi none p2) v (.ref s3.heap.objs.size)) (EP X pins σ Q) X.xe { s3 with heap:=s3.heap.push { cls:=.type "slice",data:=.fields #[vl,vu,.none] } };exact tail_any (ops:=[.ref s3.heap.objs.size,v]) ht hT hg (by with_unfolding_all rfl)
def AS(xs:List V)(lo hi:Option Int):List V:=(xs.drop (HT.sIx xs.length 0 lo)).take (HT.sIx xs.length xs.length hi - HT.sIx xs.length 0 lo)
theorem kX(xs:List V)(lo hi:Option Int):(AS xs lo hi).length<=xs.length:=by
 unfold AS;rw [length_take,length_drop];omega
def GG(K:PySem.W.Frag):V->Option Int->Option Int->Hp->VK->Prop:=fun x lo hi H Q=>∃a xs,x=.ref a/\SqT K H a xs /\
 ¬ (HT.sIx xs.length 0 lo=0/\HT.sIx xs.length xs.length hi=xs.length)/\∀p,H p=none->Q (.ref p) (upd H p (.tup (AS xs lo hi)))
theorem Dg:SlR X (GG X.K):=by
 intro pins s σ H x v vl vu lo hi sl Q I rx hs pl pu h;obtain⟨a,xs,rfl,hx,hw,q⟩:=h;cases rx;obtain⟨its,r,ht,hz⟩:=I.tuple hx;have hlen:its.toArray.size=xs.length:=by rw [size_toArray];exact r.length.symm
 refine⟨"tuple",_,PyProof.Rows.slot_tuple_getitem.lookup,ht.typeIs,?_⟩;refine HT.getItem_tuple_cut ht hs pl pu (by rw [hlen];exact hw) ?_ (by rw [hlen];exact hz);rw [hlen];refine⟨.ref s.heap.objs.size,_,I.laid (t':=s.toks) (o:=.tup (AS xs lo hi)) (fun b ob q=>Heap.get?_push_of_some _ q) (Nat.le_refl _) ?_,rfl,q _ (I.hok.fresh (Nat.le_refl _))⟩;exact⟨Nat.le_trans (kX xs lo hi) hz,_,(r.drop (HT.sIx xs.length 0 lo)).take (HT.sIx xs.length xs.length hi - HT.sIx xs.length 0 lo),IsTup.new _ _⟩
def Dh(K:PySem.W.Frag):R2:=fun x y H Q=>∃a b xs ys,x=.ref a/\y=.ref b/\SqT K H a xs/\SqT K H b ys/\xs≠[]/\xs.length+ys.length<=sizeLine /\
 (ys=[]->Q (.ref a) H)/\(ys≠[]->∀p,H p=none->Q (.ref p) (upd H p (.tup (xs++ys))))
theorem bW.nil_iff{xs:List V}{us:List Value}(r:bW xs us):us=[] ↔ xs=[]:=by
 cases r with
 | nil=>simp
 | cons _ _=>simp
theorem AT:OpR X (binaryOp .Add) (Dh X.K):=by
 intro pins s σ H x y v u Q I rx ry h;obtain⟨a,b,xs,ys,rfl,rfl,ha,hb,hx,hz,q1,q2⟩:=h;cases rx;cases ry;obtain⟨its,r1,p1,_⟩:=I.tuple ha;obtain⟨its2,r2,p2,_⟩:=I.tuple hb;refine HT.cat_tup p1 p2 (fun z=>hx (r1.nil_iff.mp z)) (fun z=>⟨.ref a,H,I,rfl,q1 (r2.nil_iff.mp z)⟩) (fun z=>?_) (by rw [<- r1.length,<- r2.length];exact hz);refine⟨.ref s.heap.objs.size,_,I.laid (t':=s.toks) (o:=.tup (xs++ys)) (fun b ob q=>Heap.get?_push_of_some _ q) (Nat.le_refl _) ?_,rfl,q2 (fun w=>z (r2.nil_iff.mpr w)) _ (I.hok.fresh (Nat.le_refl _))⟩
 exact⟨by rw [length_append];exact hz,_,r1.append r2,IsTup.new _ _⟩
end
def ixN(n:Nat)(i:Int):Option Nat:=if 0<=i then (if i<n then some i.toNat else none) else if -(n:Int)<=i then some (i+n).toNat else none
def atI{α:Type}(xs:List α)(i:Int):Option α:=(ixN xs.length i).bind fun j=>xs[j]?
theorem rj{n:Nat}{i:Int}{j:Nat}(h:ixN n i=some j):seqIndex? i n=some j/\j<n/\-(n:Int)<=i/\i<n:=by
 unfold ixN at h
 by_cases h0:0<=i
 .rw [if_pos h0] at h
  by_cases h1:i<n
  .rw [if_pos h1] at h;have e:i.toNat=j:=Option.some.inj h;exact⟨by rw [seqIndex_of h0 h1,e],by omega,by omega,h1⟩
  .rw [if_neg h1] at h;cases h
 .rw [if_neg h0] at h
  by_cases h1:-(n:Int)<=i
  .rw [if_pos h1] at h;have e:(i+n).toNat=j:=Option.some.inj h;exact⟨by rw [seqIndex_neg (by omega) h1,e],by omega,h1,by omega⟩
  .rw [if_neg h1] at h;cases h
theorem rl{α:Type}{xs:List α}{i:Int}{v:α}(h:atI xs i=some v):∃j,seqIndex? i xs.length=some j/\xs[j]?=some v/\j<xs.length/\-(xs.length:Int)<=i/\i<xs.length:=by
 unfold atI at h
 cases e:ixN xs.length i with
 | none=>rw [e] at h;cases h
 | some j =>
  rw [e] at h;obtain⟨h1,h2,h3,h4⟩:=rj e;exact⟨j,h1,h,h2,h3,h4⟩
theorem AU{α:Type}{xs:List α}{j:Nat}{v:α}(h:xs[j]?=some v):atI xs (j:Int)=some v:=by
 have hj:j<xs.length:=(List.getElem?_eq_some_iff.mp h).1
 have e:ixN xs.length (j:Int)=some j:=by
  unfold ixN;rw [if_pos (by omega),if_pos (by omega)];simp
 unfold atI;rw [e];exact h
def AW(b:Expr):Prop:=∀o i,subscripted b false o i=operate [o,i] (getItem o i)
def IxR(X:Cx)(r:R2):Prop :=
 ∀(value slice:Expr) (pins:List (Addr×Obj)) (s:Shared) (σ:St) (H:Hp) (x y:V) (v u:Value) (Q:VK),Inv X pins σ H s->c9 x v->c9 y u->r x y H Q ->
  subscripted slice false v u=operate [v,u] (getItem v u)->wpAny (model X.prog X.w) X.A (subscriptTail value slice v u) (EP X pins σ Q) X.xe s
def MtR(X:Cx)(id:String)(r:V->List V->Hp->VK->Prop):Prop :=
 ∀(pins:List (Addr×Obj)) (s:Shared) (σ:St) (H:Hp) (x:V) (xs:List V) (v:Value) (us:List Value) (Q:VK),Inv X pins σ H s->c9 x v->bW xs us->r x xs H Q ->
  wpAny (model X.prog X.w) X.A (call (.builtin id) (v::us)) (EP X pins σ Q) X.xe s
section
variable {X:Cx}{a b:Expr}{ta tb:TE}{pos:Pos}
theorem IxR.or{r r':R2}(h:IxR X r)(h':IxR X r'):IxR X (fun x y H Q=>r x y H Q\/r' x y H Q):=by
 intro value slice pins s σ H x y v u Q I rx ry q hs
 rcases q with q|q
 .exact h value slice pins s σ H x y v u Q I rx ry q hs
 .exact h' value slice pins s σ H x y v u Q I rx ry q hs
theorem bj{r:R2}(hr:IxR X r)(ha:PE X a ta)(hb:PE X b tb)(hs:AW b):PE X (.Subscript a b pos) (tOp r ta tb):=by
 intro pins s σ H Q I h;exact Subscript_ (Fi ha hb I h fun v u s2 x y H2 I2 rx ry q=>hr a b pins s2 σ H2 x y v u Q I2 rx ry q (hs _ _))
def GH(K:PySem.W.Frag):R2:=fun x y H Q=>∃p xs i v,x=.ref p/\y=.int i/\SqL K H p xs/\atI xs i=some v/\Q v H
def GI(K:PySem.W.Frag):R2:=fun x y H Q=>∃p xs i v,x=.ref p/\y=.int i/\SqT K H p xs/\atI xs i=some v/\Q v H
def G7:R2:=fun x y H Q=>∃z i c,x=.str z/\y=.int i/\z.length<=sizeLine/\atI z.cps.toList i=some c/\Q (.str ⟨#[c]⟩) H
theorem AX:IxR X (GH X.K):=by
 intro value slice pins s σ H x y v u Q I rx ry h hs;obtain⟨p,xs,i,z,rfl,rfl,hq,he,q⟩:=h;cases rx;obtain⟨t,rfl⟩:=ry;obtain⟨its,r,pl,hz⟩:=I.list hq;obtain⟨j,h1,h2,h3,h4,h5⟩:=rl he;obtain⟨w,ew,rw'⟩:=r.get h2;have hl:=r.length;have hn:=mZ;have fin:EP X pins σ Q w s:=⟨z,H,I,rw',q⟩
 by_cases h0:0<=i
 .have hj:i.toNat=j:=by
   rw [seqIndex_of h0 h5] at h1;exact Option.some.inj h1
  exact item_listR pl.isList h0 (by omega) (by rw [hj];simpa using ew) fin hs
 .have hj:(i+(its.toArray.size:Int)).toNat=j:=by
   rw [seqIndex_neg (by omega) h4] at h1;rw [size_toArray,<- hl];exact Option.some.inj h1
  exact subscriptTail_builtinR (x:=w) pl.isList.typeIs slot_list_getitem.lookup
   (wpAny_getItem_list_neg (Q:=fun r s'=>r=w/\EP X pins σ Q r s') pl.isList (by omega) (by rw [size_toArray] <;> omega) (by omega) (by rw [hj];simpa using ew) ⟨rfl,fin⟩) hs
theorem Di:IxR X (GI X.K):=by
 intro value slice pins s σ H x y v u Q I rx ry h hs;obtain⟨p,xs,i,z,rfl,rfl,hq,he,q⟩:=h;cases rx;obtain⟨t,rfl⟩:=ry;obtain⟨its,r,pl,hz⟩:=I.tuple hq;obtain⟨j,h1,h2,h3,h4,h5⟩:=rl he;obtain⟨w,ew,rw'⟩:=r.get h2;have hl:=r.length;have hn:=mZ;have fin:EP X pins σ Q w s:=⟨z,H,I,rw',q⟩
 exact subscriptTail_builtinR (x:=w) pl.typeIs slot_tuple_getitem.lookup
  (getItem_tuple (j:=j) (Q:=fun r s'=>r=w/\EP X pins σ Q r s') pl (by omega) (by omega) (by rw [size_toArray,<- hl];exact h1) (by simpa using ew) ⟨rfl,fin⟩) hs
theorem Dj:IxR X G7:=by
 intro value slice pins s σ H x y v u Q I rx ry h hs;obtain⟨z,i,c,rfl,rfl,hz,he,q⟩:=h;obtain⟨t,rfl⟩:=rx;obtain⟨t',rfl⟩:=ry;obtain⟨j,h1,h2,h3,h4,h5⟩:=rl he;have hl:z.cps.toList.length=z.length:=by simp [Str.length]
 rw [hl] at h1 h4 h5;have hn:=mZ
 exact tail_any (typeIs_str s z t) slot_str_getitem.lookup (getItem_str (c:=c) (by
  have e1:decide (i < -(2^63:Int))=false:=decide_eq_false (by omega);have e2:decide (i >= 2^63)=false:=decide_eq_false (by omega);rw [e1,e2,Bool.or_false]) (by rw [h1];simpa using h2) ⟨.str ⟨#[c]⟩,H,I.tok _,⟨_,rfl⟩,q⟩) hs
theorem ur(its:List Value)(n j:Nat)(u:Value):Obj.mapSeq (·.setIfInBounds j u) { cls:=.type "list",data:=.seq its.toArray n }={ cls:=.type "list",data:=.seq (its.set j u).toArray n }:=by
 simp [Obj.mapSeq]
theorem Inv.lst{pins:List (Addr×Obj)}{σ:St}{H:Hp}{s:Shared}{p:Addr}{xs:List V}(I:Inv X pins σ H s)(h:H p=some (.lst xs)) :
  ∃(its:List Value) (n:Nat),bW xs its/\s.heap.get? p=some { cls:=.type "list",data:=.seq its.toArray n }/\xs.length<=sizeLine:=by
 obtain⟨z,its,n,r,e⟩:=I.hok p _ h;exact⟨its,n,r,e,z⟩
theorem Inv.lstUpd{pins:List (Addr×Obj)}{σ:St}{H:Hp}{s:Shared}{p:Addr}{xs ys:List V}{its its':List Value}{n n':Nat}{f:Obj->Obj}(I:Inv X pins σ H s)(h:H p=some (.lst xs))
  (ho:s.heap.get? p=some { cls:=.type "list",data:=.seq its.toArray n }) (hf:f { cls:=.type "list",data:=.seq its.toArray n }={ cls:=.type "list",data:=.seq its'.toArray n' }) (r:bW ys its') (hz:ys.length<=sizeLine) (t:Nat) :
  Inv X pins σ (upd H p (.lst ys)) { s with heap:=s.heap.update p f,toks:=t }:=by
 have e:(s.heap.update p f).get? p=some { cls:=.type "list",data:=.seq its'.toArray n' }:=by
  rw [Heap.get?_update_self f ho (by rw [hf] <;> rfl),hf]
 refine I.write (x:=p) (e:=p) (by rw [h];trivial) (.inl rfl) (fun b u hb q=>(Heap.get?_update_other _ _ (Ne.symm hb)).trans q) ⟨_,e⟩ ?_;exact⟨hz,its',n',r,e⟩
def ut:V->V->V->Hp->(Hp->Prop)->Prop:=fun o i v H Q=>∃p xs k j,o=.ref p/\i=.int k/\H p=some (.lst xs)/\ixN xs.length k=some j/\Q (upd H p (.lst (xs.set j v)))
theorem fG:GB X ut:=by
 intro pins s σ H o i v ov iv u Q I ro ri rv h;obtain⟨p,xs,k,j,rfl,rfl,hp,hj,q⟩:=h;cases ro;obtain⟨t,rfl⟩:=ri;obtain⟨its,n,r,ho,hz⟩:=I.lst hp;obtain⟨h1,h2,h3,h4⟩:=rj hj;have hl:=r.length;have hn:=mZ
 have I':Inv X pins σ (upd H p (.lst (xs.set j v))) { s with heap:=s.heap.update p (Obj.mapSeq (·.setIfInBounds j u)) } :=
  I.lstUpd hp ho (ur its n j u) (r.set rv j) (by rw [length_set];exact hz) s.toks
 by_cases h0:0<=k
 .have hk:k.toNat=j:=by
   rw [seqIndex_of h0 h4] at h1;exact Option.some.inj h1
  exact PySem.W.ki_setAt ho h0 (by omega) (by rw [size_toArray,<- hl];exact h4) (by rw [hk];exact⟨_,I',q⟩)
 .have hk:(k+(its.toArray.size:Int)).toNat=j:=by
   rw [seqIndex_neg (by omega) h3] at h1;rw [size_toArray,<- hl];exact Option.some.inj h1
  exact PySem.W.ki_setBack ho (by omega) (by rw [size_toArray,<- hl];exact h3) (by omega) (by rw [hk];exact⟨_,I',q⟩)
theorem pK(lo hi:Option Int)(n:Nat):(sliceBounds lo hi none n).1=((HT.sIx n 0 lo:Nat):Int)/\(sliceBounds lo hi none n).2.1=((HT.sIx n n hi:Nat):Int)/\(sliceBounds lo hi none n).2.2=1:=by
 refine⟨?_,?_,rfl⟩
 .cases lo with
  | none=>simp [sliceBounds,HT.sIx]
  | some i =>
   simp only [sliceBounds,HT.sIx,Option.getD_none,show (1:Int) > 0 by decide,if_true]
   by_cases h:i<0
   .simp only [h,if_true] <;> omega
   .simp only [h,if_false] <;> omega
 .cases hi with
  | none=>simp [sliceBounds,HT.sIx]
  | some i =>
   simp only [sliceBounds,HT.sIx,Option.getD_none,show (1:Int) > 0 by decide,if_true]
   by_cases h:i<0
   .simp only [h,if_true] <;> omega
   .simp only [h,if_false] <;> omega
theorem nS(its:List Value)(lo hi:Option Int):slicePick its.toArray lo hi none=((its.drop (HT.sIx its.length 0 lo)).take (HT.sIx its.length its.length hi - HT.sIx its.length 0 lo)).toArray:=by
 obtain⟨h1,h2,h3⟩:=pK lo hi its.toArray.size;unfold slicePick;rw [h1,h2,h3];simp only [sliceRange_one,pick_run,size_toArray] <;> rfl
def GJ(K:PySem.W.Frag):V->Option Int->Option Int->Hp->VK->Prop:=fun x lo hi H Q=>∃a xs,x=.ref a/\SqL K H a xs/\∀p,H p=none->Q (.ref p) (upd H p (.lst (AS xs lo hi)))
theorem AY:SlR X (GJ X.K):=by
 intro pins s σ H x v vl vu lo hi sl Q I rx hs pl pu h;obtain⟨a,xs,rfl,hx,q⟩:=h;cases rx;obtain⟨its,r,ht,hz⟩:=I.list hx;have hlen:=r.length;refine⟨"list",_,slot_list_getitem.lookup,ht.isList.typeIs,?_⟩;refine wpAny_getItem_list_slice ht.isList hs pl pu .none (by simp) ?_ (by rw [size_toArray] <;> omega);rw [nS,<- hlen];refine⟨.ref s.heap.objs.size,_,I.laid (t':=s.toks) (o:=.lst (AS xs lo hi)) (fun b ob q=>Heap.get?_push_of_some _ q) (Nat.le_refl _) ?_,rfl,q _ (I.hok.fresh (Nat.le_refl _))⟩
 exact⟨Nat.le_trans (kX xs lo hi) hz,_,0,(r.drop (HT.sIx xs.length 0 lo)).take (HT.sIx xs.length xs.length hi - HT.sIx xs.length 0 lo),Heap.get?_push_size _ rfl⟩
def mn:V->Bool
 | .non=>true
 | .bl _=>true
 | .int _=>true
 | .str _=>true
 | _=>false
def eqV:V->V->Bool
 | .non,.non=>true
 | .bl a,.bl b=>a == b
 | .bl a,.int b=>(if a then 1 else 0) == b
 | .int a,.bl b=>a == (if b then 1 else 0)
 | .int a,.int b=>a == b
 | .str a,.str b=>a == b
 | _,_=>false
theorem Dl{A:Around}{s:Shared}{y x:V}{u v:Value}(ry:c9 y u)(rx:c9 x v)(fy:mn y=true)(fx:mn x=true):SeqAt.EqAt A s u v (eqV y x):=by
 cases y with
 | non =>
  cases ry
  cases x with
  | non=>cases rx;exact SeqAt.EqAt.same _
  | bl b=>cases rx;exact SeqAt.EqAt.none_bool b
  | int b=>obtain⟨t,rfl⟩:=rx;exact SeqAt.EqAt.none_int b t
  | str b=>obtain⟨t,rfl⟩:=rx;exact SeqAt.EqAt.none_str b t
  | _=>exact absurd (show false=true from fx) Bool.false_ne_true
 | bl a =>
  cases ry
  cases x with
  | non=>cases rx;exact SeqAt.EqAt.bool_none a
  | bl b=>cases rx;exact SeqAt.EqAt.bool_bool a b
  | int b=>obtain⟨t,rfl⟩:=rx;exact SeqAt.EqAt.bool_int a b t
  | str b=>obtain⟨t,rfl⟩:=rx;exact SeqAt.EqAt.bool_str a b t
  | _=>exact absurd (show false=true from fx) Bool.false_ne_true
 | int a =>
  obtain⟨t',rfl⟩:=ry
  cases x with
  | non=>cases rx;exact SeqAt.EqAt.int_none a t'
  | bl b=>cases rx;exact SeqAt.EqAt.int_bool a t' b
  | int b=>obtain⟨t,rfl⟩:=rx;exact SeqAt.EqAt.int_int a t' b t
  | str b=>obtain⟨t,rfl⟩:=rx;exact SeqAt.EqAt.int_str a t' b t
  | _=>exact absurd (show false=true from fx) Bool.false_ne_true
 | str a =>
  obtain⟨t',rfl⟩:=ry
  cases x with
  | non=>cases rx;exact SeqAt.EqAt.str_none a t'
  | bl b=>cases rx;exact SeqAt.EqAt.str_bool a t' b
  | int b=>obtain⟨t,rfl⟩:=rx;exact SeqAt.EqAt.str_int a t' b t
  | str b=>obtain⟨t,rfl⟩:=rx;exact SeqAt.EqAt.str_str a t' b t
  | _=>exact absurd (show false=true from fx) Bool.false_ne_true
 | _=>exact absurd (show false=true from fy) Bool.false_ne_true
def eqU(x:V)(u:Value):Bool:=match u with
 | .none=>eqV .non x
 | .bool b=>eqV (.bl b) x
 | .int i _=>eqV (.int i) x
 | .str z _=>eqV (.str z) x
 | _=>false
theorem zF{x y:V}{u:Value}(r:c9 y u)(f:mn y=true):eqU x u=eqV y x:=by
 cases y with
 | non=>cases r;rfl
 | bl b=>cases r;rfl
 | int i=>obtain⟨t,rfl⟩:=r;rfl
 | str z=>obtain⟨t,rfl⟩:=r;rfl
 | _=>exact absurd (show false=true from f) Bool.false_ne_true
theorem kY{x:V}:∀{xs:List V}{us:List Value},bW xs us->xs.all mn=true->us.any (eqU x)=xs.any fun y=>eqV y x
 | _,_,.nil,_=>rfl
 | y::xs,u::us,.cons r t,f=>by
  rw [all_cons,and_eq_true] at f;rw [any_cons,any_cons,zF r f.1,kY t f.2]
theorem iZ{A:Around}{s:Shared}{x:V}{v:Value}(rx:c9 x v)(fx:mn x=true):∀{xs:List V}{us:List Value},bW xs us->xs.all mn=true->∀u∈us,SeqAt.EqAt A s u v (eqU x u)
 | _,_,.nil,_=>fun u hu=>by cases hu
 | y::xs,u::us,.cons r t,f=>fun u' hu=>by
  rw [all_cons,and_eq_true] at f
  rcases mem_cons.mp hu with rfl|hu
  .rw [zF r f.1];exact Dl r rx f.1 fx
  .exact iZ rx fx t f.2 u' hu
def inV(x:V)(xs:List V):Bool:=xs.any fun y=>eqV y x
def rIn(K:PySem.W.Frag)(neg:Bool):R2:=fun x y H Q=>∃p xs,y=.ref p/\(SqL K H p xs\/SqT K H p xs)/\mn x=true/\xs.all mn=true/\Q (.bl (if neg then !inV x xs else inV x xs)) H
theorem vC:OpR X (compareOp .In) (rIn X.K false):=by
 intro pins s σ H x y v u Q I rx ry h;obtain⟨p,xs,rfl,hq,fx,fs,q⟩:=h;cases ry
 rcases hq with hq|hq
 .obtain⟨its,r,pl,hz⟩:=I.list hq;refine SeqAt.in_listAt (eqU x) pl.isList (fun w hw=>iZ rx fx r fs w (by simpa using hw)) ⟨.bl _,H,I,rfl,?_⟩;rw [show its.toArray.any (eqU x)=its.any (eqU x) by simp,kY r fs];exact q
 .obtain⟨its,r,pl,hz⟩:=I.tuple hq;refine SeqAt.in_tupleAt (eqU x) pl (fun w hw=>iZ rx fx r fs w (by simpa using hw)) ⟨.bl _,H,I,rfl,?_⟩;rw [show its.toArray.any (eqU x)=its.any (eqU x) by simp,kY r fs];exact q
theorem pL:OpR X (compareOp .NotIn) (rIn X.K true):=by
 intro pins s σ H x y v u Q I rx ry h;obtain⟨p,xs,rfl,hq,fx,fs,q⟩:=h;cases ry
 rcases hq with hq|hq
 .obtain⟨its,r,pl,hz⟩:=I.list hq;refine SeqAt.notIn_listAt (eqU x) pl.isList (fun w hw=>iZ rx fx r fs w (by simpa using hw)) ⟨.bl _,H,I,rfl,?_⟩;rw [show its.toArray.any (eqU x)=its.any (eqU x) by simp,kY r fs];exact q
 .obtain⟨its,r,pl,hz⟩:=I.tuple hq;refine SeqAt.notIn_tupleAt (eqU x) pl (fun w hw=>iZ rx fx r fs w (by simpa using hw)) ⟨.bl _,H,I,rfl,?_⟩;rw [show its.toArray.any (eqU x)=its.any (eqU x) by simp,kY r fs];exact q
theorem j2:cu X (.builtin "len") (fun xs H Q=>∃p ys,xs=[.ref p]/\(SqL X.K H p ys\/SqT X.K H p ys)/\Q (.int ys.length) H):=by
 intro pins s σ H xs us Q I r h;obtain⟨p,ys,rfl,hq,q⟩:=h;obtain⟨u,rfl,rx⟩:=iJ r;cases rx;have hn:=mZ
 rcases hq with hq|hq
 .obtain⟨its,r',pl,hz⟩:=I.list hq;have hlen:=r'.length;exact Calls.call_len_list pl.isList (by simp only [size_toArray] <;> omega) ⟨.int ys.length,H,I.tok _,⟨s.toks+1,by rw [size_toArray,hlen]⟩,q⟩
 .obtain⟨its,r',pl,hz⟩:=I.tuple hq;have hlen:=r'.length;exact len_tuple pl (by simp only [size_toArray] <;> omega) ⟨.int ys.length,H,I.tok _,⟨s.toks+1,by rw [size_toArray,hlen]⟩,q⟩
theorem pM:cu X (.builtin "len") (fun xs H Q=>∃z,xs=[.str z]/\z.length<=sizeLine/\Q (.int z.length) H):=by
 intro pins s σ H xs us Q I r h;obtain⟨z,rfl,hz,q⟩:=h;obtain⟨u,rfl,t,rfl⟩:=iJ r;have hn:=mZ;exact len_str (by omega) ⟨.int z.length,H,I.tok _,⟨_,rfl⟩,q⟩
theorem cu.or{f:Value}{r r':List V->Hp->VK->Prop}(h:cu X f r)(h':cu X f r'):cu X f (fun xs H Q=>r xs H Q\/r' xs H Q):=by
 intro pins s σ H xs us Q I rs q
 rcases q with q|q
 .exact h pins s σ H xs us Q I rs q
 .exact h' pins s σ H xs us Q I rs q
theorem pN:cu X (.type "list") (fun xs H Q=>∃p ys,xs=[.ref p]/\(SqL X.K H p ys\/SqT X.K H p ys)/\∀l,H l=none->Q (.ref l) (upd H l (.lst ys))):=by
 intro pins s σ H xs us Q I r h;obtain⟨p,ys,rfl,hq,q⟩:=h;obtain⟨u,rfl,rx⟩:=iJ r;cases rx
 have fin:∀(its:List Value),bW ys its->ys.length<=sizeLine->∀(h':Heap) (c':Nat),(∀b o',s.heap.get? b=some o'->h'.get? b=some o') ->
   h'.get? s.heap.objs.size=some { cls:=.type "list",dict:=none,data:=.seq its.toArray c',slots:=#[] }->EP X pins σ Q (.ref s.heap.objs.size) { s with heap:=h' }:=fun its r' hz h' c' kp e =>
  ⟨.ref s.heap.objs.size,_,I.laid (t':=s.toks) kp (Nat.le_refl _) (show bY X.prog X.w _ h' _ (.lst ys) from ⟨hz,its,c',r',e⟩),rfl,q _ (I.hok.fresh (Nat.le_refl _))⟩
 rcases hq with hq|hq
 .obtain⟨its,r',pl,hz⟩:=I.list hq;have hlen:=r'.length;obtain⟨o,ho,hc,n,hd⟩:=pl.isList;exact call_list_seq p (.inl rfl) ho hc hd (fun h' c' kp e=>fin its r' hz h' c' kp e) (by simp only [size_toArray] <;> omega)
 .obtain⟨its,r',pl,hz⟩:=I.tuple hq;have hlen:=r'.length;obtain⟨o,ho,hc,n,hd⟩:=pl;exact call_list_seq p (.inr rfl) ho hc hd (fun h' c' kp e=>fin its r' hz h' c' kp e) (by simp only [size_toArray] <;> omega)
theorem nU:cu X (.type "tuple") (fun xs H Q=>∃p ys,xs=[.ref p]/\((SqL X.K H p ys/\∀l,H l=none->Q (.ref l) (upd H l (.tup ys)))\/(SqT X.K H p ys/\Q (.ref p) H))):=by
 intro pins s σ H xs us Q I r h;obtain⟨p,ys,rfl,h⟩:=h;obtain⟨u,rfl,rx⟩:=iJ r;cases rx
 rcases h with ⟨hq,q⟩|⟨hq,q⟩
 .obtain⟨its,r',pl,hz⟩:=I.list hq;have hlen:=r'.length;refine call_tuple_list pl.isList (fun h' kp=>?_) (by simp only [size_toArray] <;> omega);have I1:Inv X pins σ H { s with heap:=h' }:=I.kept (t':=s.toks) kp
  have I2:Inv X pins σ (upd H h'.objs.size (.tup ys)) { s with heap:=h'.push { cls:=.type "tuple",data:=.seq its.toArray } } :=
   I1.laid (t':=s.toks) (fun b o e=>Heap.get?_push_of_some _ e) (Nat.le_refl _) (show bY X.prog X.w _ _ _ (.tup ys) from ⟨hz,its,r',IsTup.new _ _⟩)
  exact⟨.ref h'.objs.size,_,I2,rfl,q _ (I1.hok.fresh (Nat.le_refl _))⟩
 .obtain⟨its,r',pl,hz⟩:=I.tuple hq;exact call_tuple_same pl ⟨.ref p,H,I,rfl,q⟩
def tyV(K:PySem.W.Frag)(T:String)(x:V)(H:Hp):Prop:=match x with
 | .str _=>T="str"
 | .int _=>T="int"
 | .ref p=>(T="list"/\∃xs,SqL K H p xs)\/(T="tuple"/\∃o,K.lookup p=some o/\o.cls=.type "tuple"/\o.dict=none) \/
   (T="dict"/\((∃kvs,H p=some (.dK kvs))\/∃kvs,H p=some (.dT kvs)))\/(T="set"/\∃S n,H p=some (.set S n))
 | _=>False
theorem zG{pins:List (Addr×Obj)}{σ:St}{H:Hp}{s:Shared}{T:String}{x:V}{v:Value}(I:Inv X pins σ H s)(r:c9 x v)(ty:tyV X.K T x H) :
  s.TypeIs v T/\∀a,v=.ref a->∃ob,s.heap.get? a=some ob/\ob.dict=none:=by
 cases x with
 | str z =>
  obtain⟨t,rfl⟩:=r;cases (show T="str" from ty);exact⟨typeIs_str s z t,fun _ e=>nomatch e⟩
 | int i =>
  obtain⟨t,rfl⟩:=r;cases (show T="int" from ty);exact⟨typeIs_int s i t,fun _ e=>nomatch e⟩
 | ref p =>
  cases r
  rcases ty with ⟨rfl,xs,hq⟩|⟨rfl,o,hk,hc,hd⟩|⟨rfl,hk⟩|⟨rfl,S,n,hk⟩
  .obtain⟨its,_,pl,_⟩:=I.list hq;refine⟨pl.isList.typeIs,fun a e=>?_⟩;cases e;obtain⟨o,n,e,c,hd,_⟩:=pl;exact⟨o,e,hd⟩
  .refine⟨⟨o,I.kIn p o hk,hc⟩,fun a e=>?_⟩;cases e;exact⟨o,I.kIn _ o hk,hd⟩
  .have z:∃o,s.heap.get? p=some o/\o.ExactDict:=by
    rcases hk with ⟨kvs,hk⟩|⟨kvs,hk⟩
    .obtain⟨_,_,_,_,o,_,_,e,ex,_⟩:=I.hok p _ hk;exact⟨o,e,ex⟩
    .obtain⟨_,_,_,_,o,_,_,e,ex,_⟩:=I.hok p _ hk;exact⟨o,e,ex⟩
   obtain⟨o,e,ex⟩:=z;refine⟨⟨o,e,ex.1⟩,fun a e2=>?_⟩;cases e2;exact⟨o,e,ex.2.1⟩
  .obtain⟨o,_,_,_,e,ex,_⟩:=I.hok p _ hk;refine⟨⟨o,e,ex.1⟩,fun a e2=>?_⟩;cases e2;exact⟨o,e,ex.2.1⟩
 | _=>exact False.elim ty
def Dm(K:PySem.W.Frag)(T:String)(r:V->List V->Hp->VK->Prop)(to:TE):TE:=fun σ H Q=>to σ H fun x H1=>tyV K T x H1/\r x [] H1 Q
def tBM(K:PySem.W.Frag)(T:String)(r:V->List V->Hp->VK->Prop)(to:TE)(t:TA):TE:=fun σ H Q=>to σ H fun x H1=>tyV K T x H1/\t σ H1 fun xs H2=>r x xs H2 Q
variable {o e:Expr}{es:List Expr}{to:TE}{t:TA}{name:Str}{apos cpos:Pos}{T id:String}{r:V->List V->Hp->VK->Prop}
theorem zH(pa:PlainAttrs T)(slot:Slot T name id)(hty:typeOf (.builtin id)=pure (.type "method_descriptor"))(hm:MtR X id r)(ho:PE X o to)
  (hbase:attributeBase o name X.env (eval o X.env)=eval o X.env:=by rfl) (hline:(apos.endLine == cpos.line)=true:=by rfl):PE X (.Call (.Attribute o name apos) [] [] cpos) (Dm X.K T r to):=by
 intro pins s σ H Q I h;refine wpAny_Call_method0_late hbase hline (thn (ho pins s σ H _ I h) fun v s1 ⟨x,H1,I1,r1,ty,q1⟩=>?_);obtain⟨h1,h2⟩:=zG I1 r1 ty;exact⟨T,id,pa,slot,hty,h1,h2,Calls.callWith_builtin rfl (PySem.evalArgs_none (hm pins s1 σ H1 x [] v [] Q I1 r1 .nil q1))⟩
theorem Fu(pa:PlainAttrs T)(slot:Slot T name id)(hty:typeOf (.builtin id)=pure (.type "method_descriptor"))(hm:MtR X id r)(ho:PE X o to)(ha:PA X (e::es) t)
  (hbase:attributeBase o name X.env (eval o X.env)=eval o X.env:=by rfl)
  (hfew:((backTo cpos (starEach (e::es) X.env)).all (fun x=>!x.1) && (backToKw cpos (keywordEach [] X.env)).all (fun x=>x.1.isSome)
   && decide ((e::es).length+([]:List Keyword).length+(if ([]:List Keyword).isEmpty then 0 else 1)<30))=true:=by rfl)
  (hline:(apos.endLine == cpos.line)=true:=by rfl) (hs:starEach (e::es) X.env=(false,eval e X.env)::starEach es X.env:=by rfl) (hplain:(backTo cpos (starEach es X.env)).any (·.1)=false:=by rfl) :
  PE X (.Call (.Attribute o name apos) (e::es) [] cpos) (tBM X.K T r to t):=by
 intro pins s σ H Q I h;refine wpAny_Call_method_late hbase hfew hline rfl (thn (ho pins s σ H _ I h) fun v s1 ⟨x,H1,I1,r1,ty,q1⟩=>?_);obtain⟨h1,h2⟩:=zG I1 r1 ty;refine⟨T,id,pa,slot,hty,h1,h2,?_⟩;have hA:=ha cpos pins s1 σ H1 _ I1 q1;rw [hs] at hA ⊢;refine Calls.callWith_builtin (by show (false || (backTo cpos (starEach es X.env)).any (·.1))=false;rw [hplain] <;> rfl) (Calls.evalArgs_plain ?_);exact thn hA fun us s2 ⟨vs,H2,I2,r2,q2⟩=>hm pins s2 σ H2 x vs v us Q I2 r1 r2 q2
end
def MtM(X:Cx)(id:String)(r:V->List V->Hp->VK->Prop):Prop :=
 ∀(pins:List (Addr×Obj)) (s:Shared) (σ:St) (H:Hp) (x:V) (xs:List V) (v:Value) (us:List Value) (Q:VK),Inv X pins σ H s->c9 x v->bW xs us->r x xs H Q ->
  wpAny (model X.prog X.w) X.A (call (.builtin id) (v::us)) (EP X pins σ Q) X.xe s
theorem bW.one:∀{x:V}{us:List Value},bW [x] us->∃u,us=[u]/\c9 x u
 | _,_,.cons r .nil=>⟨_,rfl,r⟩
theorem bW.zero:∀{us:List Value},bW [] us->us=[]
 | _,.nil=>rfl
theorem bW.dropLast{xs:List V}{us:List Value}(h:bW xs us):bW xs.dropLast us.dropLast:=by
 induction h with
 | nil=>exact .nil
 | cons r t ih =>
  cases t with
  | nil=>exact .nil
  | cons q t'=>exact .cons r ih
theorem bW.eraseIdx:∀{xs:List V}{us:List Value} (i:Nat),bW xs us->bW (xs.eraseIdx i) (us.eraseIdx i)
 | _,_,_,.nil=>.nil
 | _,_,0,.cons _ t=>t
 | _,_,i+1,.cons r t=>.cons r (bW.eraseIdx i t)
theorem bW.reverse{xs:List V}{us:List Value}(h:bW xs us):bW xs.reverse us.reverse:=by
 induction h with
 | nil=>exact .nil
 | cons r t ih=>rw [reverse_cons,reverse_cons];exact bW.append ih (.cons r .nil)
theorem bW.rep{xs:List V}{us:List Value}(h:bW xs us):∀k:Nat,bW (List.replicate k xs).flatten (List.replicate k us).flatten
 | 0=>.nil
 | k+1=>by
  rw [replicate_succ,replicate_succ,flatten_cons,flatten_cons];exact bW.append h (bW.rep h k)
theorem uu{α:Type}(l:List α):l.eraseIdx (l.length - 1)=l.dropLast:=by
 induction l with
 | nil=>rfl
 | cons a r ih =>
  cases r with
  | nil=>rfl
  | cons b r =>
   have e:(a::b::r).length - 1=((b::r).length - 1)+1:=by
    have h1:(a::b::r).length=r.length+2:=rfl;have h2:(b::r).length=r.length+1:=rfl;omega
   rw [e,eraseIdx_cons_succ,ih]
   all_goals rfl
theorem pO{α:Type}:∀(l:List α) (i:Nat),(l.eraseIdx i).length<=l.length
 | [],_=>Nat.le_refl _
 | _::_,0=>le_succ _
 | _::r,i+1=>succ_le_succ (pO r i)
theorem pP(its:List Value):∀(k:Nat) (acc:List Value),
  List.foldl (fun x1 x2=>x1++x2) acc.toArray (List.replicate k its.toArray)=(acc++(List.replicate k its).flatten).toArray
 | 0,acc=>by simp
 | k+1,acc=>by
  have e:acc.toArray++its.toArray=(acc++its).toArray:=by simp
  have e2:(acc++its)++(List.replicate k its).flatten=acc++(List.replicate (k+1) its).flatten:=by
   rw [replicate_succ,flatten_cons,append_assoc]
  rw [<- e2,<- pP its k (acc++its),<- e,replicate_succ,foldl_cons]
section
variable {X:Cx}{pins:List (Addr×Obj)}{σ:St}{H:Hp}{s:Shared}{l b:Addr}{xs ys zs:List V}
theorem Inv.lset{its its':List Value}{n:Nat}{f:Array Value->Array Value}{t':Nat}(I:Inv X pins σ H s)(hH:H l=some (.lst xs))
  (e:s.heap.get? l=some { cls:=.type "list",data:=.seq its.toArray n }) (hf:f its.toArray=its'.toArray) (hv:bW ys its') (hz:ys.length<=sizeLine) :
  Inv X pins σ (upd H l (.lst ys)) { s with heap:=s.heap.update l (Obj.mapSeq f),toks:=t' }:=by
 have q:=PySem.IsL.update e f;rw [hf] at q;refine I.write (x:=l) (e:=l) (by rw [hH];exact trivial) (.inl rfl) (fun b' u hb hu=>(Heap.get?_update_other s.heap (Obj.mapSeq f) (Ne.symm hb)).trans hu) ⟨_,q⟩ ?_;exact⟨hz,its',_,hv,q⟩
theorem Inv.lnew{its:List Value}{t':Nat}(I:Inv X pins σ H s)(hv:bW ys its)(hz:ys.length<=sizeLine) :
  Inv X pins σ (upd H s.heap.objs.size (.lst ys)) { s with heap:=s.heap.push { cls:=.type "list",data:=.seq its.toArray },toks:=t' } :=
 I.laid (fun _ _ q=>Heap.get?_push_of_some _ q) (Nat.le_refl _) ⟨hz,its,0,hv,Heap.get?_push_size _ rfl⟩
theorem Inv.fresh(I:Inv X pins σ H s):H s.heap.objs.size=none:=I.hok.fresh (Nat.le_refl _)
theorem Inv.lstM(I:Inv X pins σ H s)(hH:H l=some (.lst xs)):xs.length<=sizeLine/\∃(its:List Value) (n:Nat),bW xs its/\xs.length=its.length/\s.heap.get? l=some { cls:=.type "list",data:=.seq its.toArray n }:=by
 obtain⟨z,its,n,r,e⟩:=I.hok l _ hH;exact⟨z,its,n,r,r.length,e⟩
theorem sS{n:Nat}(h:n<=sizeLine):Builtin.List.listTooLong n=false:=by
 unfold Builtin.List.listTooLong;exact decide_eq_false (by omega)
end
section
variable {X:Cx}
def vD:V->List V->Hp->VK->Prop:=fun x vs H Q=>∃l xs y,x=.ref l/\vs=[y]/\H l=some (.lst xs)/\xs.length<sizeLine/\Q .non (upd H l (.lst (xs++[y])))
theorem dn:MtM X "list.append" vD:=by
 intro pins s σ H x vs v us Q I rx rv h;obtain⟨l,xs,y,rfl,rfl,hH,hz,q⟩:=h;cases rx;obtain⟨u,rfl,ru⟩:=rv.one;obtain⟨z,its,n,r,hl,e⟩:=I.lstM hH;refine call_meets F.slot_list_append ⟨_,e,rfl⟩ F.entry_list_append (F.args_list_append_2 _ _) (PySem.list_append l its.toArray n u (by rw [size_toArray];omega)) ⟨e,?_⟩;refine⟨.non,_,I.lset (its':=its++[u]) hH e (by simp) (r.append (.cons ru .nil)) ?_,rfl,q⟩;rw [length_append,length_singleton]
 omega
def vE:V->List V->Hp->VK->Prop:=fun x vs H Q=>∃l b xs zs,x=.ref l/\vs=[.ref b]/\H l=some (.lst xs)/\H b=some (.lst zs)/\xs.length+zs.length<=sizeLine/\Q .non (upd H l (.lst (xs++zs)))
theorem pQ:MtM X "list.extend" vE:=by
 intro pins s σ H x vs v us Q I rx rv h;obtain⟨l,b,xs,zs,rfl,rfl,hH,hB,hz,q⟩:=h;cases rx;obtain⟨u,rfl,ru⟩:=rv.one;cases ru;obtain⟨z,its,n,r,hl,e⟩:=I.lstM hH;obtain⟨z2,its2,n2,r2,hl2,e2⟩:=I.lstM hB;have hsz:its.toArray.size+its2.toArray.size<=sizeLine:=by rw [size_toArray,size_toArray];omega
 have hlong:¬ (!its.toArray.isEmpty && Builtin.List.listTooLong (its.toArray.size+its2.toArray.size))=true:=by
  rw [sS hsz,Bool.and_false];exact Bool.false_ne_true
 refine call_meets F.slot_list_extend ⟨_,e,rfl⟩ F.entry_list_extend (F.args_list_extend_2 _ _)
  (AutoSeq1.list_extend_list_list_0 l its.toArray n b its2.toArray n2 hlong (by rw [size_toArray];omega) (by omega)) ⟨e,e2,?_⟩
 refine⟨.non,_,I.lset (its':=its++its2) hH e (by simp) (r.append r2) ?_,rfl,q⟩;rw [length_append];omega
def GK:V->List V->Hp->VK->Prop:=fun x vs H Q=>∃l xs y,x=.ref l/\vs=[]/\H l=some (.lst xs)/\xs[xs.length - 1]?=some y/\Q y (upd H l (.lst xs.dropLast))
theorem Dn:MtM X "list.pop" GK:=by
 intro pins s σ H x vs v us Q I rx rv h;obtain⟨l,xs,y,rfl,rfl,hH,hy,q⟩:=h;cases rx;have hus:=rv.zero;subst hus;obtain⟨z,its,n,r,hl,e⟩:=I.lstM hH;obtain⟨u,hu,ru⟩:=r.get hy
 have hy':its.toArray[its.toArray.size - 1]?=some u:=by
  show its.toArray[its.length - 1]?=some u;rw [<- Array.getElem?_toList,<- hl];exact hu
 refine call_meets F.slot_list_pop ⟨_,e,rfl⟩ F.entry_list_pop (F.args_list_pop_1 _) (MeetsSeq.list_pop_last l its.toArray n u hy' (by rw [size_toArray];omega)) ⟨e,?_⟩
 refine⟨y,_,I.lset (its':=its.dropLast) hH e ?_ r.dropLast ?_,ru,q⟩
 .show its.toArray.eraseIdxIfInBounds (its.toArray.size - 1)=its.dropLast.toArray;rw [size_toArray,eraseIdxIfInBounds_toArray,uu]
 .rw [length_dropLast];omega
def zI:V->List V->Hp->VK->Prop:=fun x vs H Q=>∃l xs i k y,x=.ref l/\vs=[.int i]/\H l=some (.lst xs)/\-(2^63)<=i/\i<2^63/\seqIndex? i xs.length=some k/\xs[k]?=some y/\Q y (upd H l (.lst (xs.eraseIdx k)))
theorem yh:MtM X "list.pop" zI:=by
 intro pins s σ H x vs v us Q I rx rv h;obtain⟨l,xs,i,k,y,rfl,rfl,hH,h1,h2,hk,hy,q⟩:=h;cases rx;obtain⟨u,rfl,ru⟩:=rv.one;obtain⟨t,rfl⟩:=ru;obtain⟨z,its,n,r,hl,e⟩:=I.lstM hH;obtain⟨w,hw,rw'⟩:=r.get hy
 refine call_meets F.slot_list_pop ⟨_,e,rfl⟩ F.entry_list_pop (F.args_list_pop_2 _ _)
  (MeetsSeq.list_pop_at l its.toArray n i t k w (fitsIndex_both h1 h2) (by rw [size_toArray,<- hl];exact hk) (by rw [<- Array.getElem?_toList];exact hw) (by rw [size_toArray];omega)) ⟨e,?_⟩
 refine⟨y,_,I.lset (its':=its.eraseIdx k) hH e ?_ (r.eraseIdx k) ?_,rw',q⟩
 .show its.toArray.eraseIdxIfInBounds k=(its.eraseIdx k).toArray;rw [eraseIdxIfInBounds_toArray]
 .have:=pO xs k;omega
def GL:R2:=fun x y H Q=>∃l k xs,x=.ref l/\y=.int k/\H l=some (.lst xs)/\-(2^63)<=k/\k<2^63/\xs.length*k.toNat<=sizeLine /\
 ∀p,H p=none->Q (.ref p) (upd H p (.lst (List.replicate k.toNat xs).flatten))
theorem AZ{α:Type}(xs:List α)(k:Nat):(List.replicate k xs).flatten.length=k*xs.length:=by
 induction k with
 | zero=>simp
 | succ k ih=>rw [replicate_succ,flatten_cons,length_append,ih,succ_mul,add_comm]
theorem Do:OpR X (binaryOp .Mult) GL:=by
 intro pins s σ H x y v u Q I rx ry h;obtain⟨l,k,xs,rfl,rfl,hH,h1,h2,hz,q⟩:=h;cases rx;obtain⟨t,rfl⟩:=ry;obtain⟨z,its,n,r,hl,e⟩:=I.lstM hH;have hlen:its.toArray.size*k.toNat<=sizeLine:=by rw [size_toArray,<- hl];exact hz
 have hcap:¬ its.toArray.size*k.toNat > (2^63 - 1) / 8:=by
  have:(sizeLine:Nat)<=(2^63 - 1) / 8:=by decide
  omega
 have hfit:¬ (!Builtin.List.listFitsIndex k)=true:=by
  rw [fitsIndex_both h1 h2];exact Bool.false_ne_true
 have hlong:¬ Builtin.List.listTooLong (its.toArray.size*k.toNat)=true:=by
  rw [sS hlen];exact Bool.false_ne_true
 have hnew:List.foldl (fun x1 x2=>x1++x2) #[] (List.replicate (if its.toArray.isEmpty=true then 0 else k.toNat) its.toArray)=(List.replicate k.toNat its).flatten.toArray:=by
  have f0:∀m:Nat,List.foldl (fun x1 x2=>x1++x2) #[] (List.replicate m its.toArray)=(List.replicate m its).flatten.toArray:=fun m=>by
   have:=pP its m [];rw [nil_append] at this;exact this
  rw [f0]
  cases its with
  | nil=>simp
  | cons a r'=>rw [if_neg (by simp)]
 refine wpAny_binaryOp_repeat_ref (T:="list") (U:="int") (by decide) ⟨_,e,rfl⟩ (fun s'=>typeIs_int s' k t) noFill_list_mul F.fills_int_mul F.slot_int_rmul repeat_list F.slot_int_index.lookup
  (call_meets F.slot_int_rmul (typeIs_int s k t) F.entry_int_rmul (F.args_int_rmul_2 _ _) (int___rmul___int_list k t l its.toArray n)
   ⟨e,rfl,⟨_,e,rfl⟩,call_meets F.slot_list_mul ⟨_,e,rfl⟩ F.entry_list_mul (F.args_list_mul_2 _ _) (AutoListH.list___mul___list_int_3 l its.toArray n k t hfit hcap hlong) ⟨e,?_⟩⟩)
 rw [hnew];exact⟨.ref _,_,I.lnew (t':=s.toks) (r.rep k.toNat) (by rw [AZ,mul_comm];exact hz),rfl,q _ I.fresh⟩
end
end L2
namespace Att
open PySem PySem.W PySem.Calls PyProof.Rows
theorem kZ{P:Params}{h:Heap}:∀(ns:List Int) (vs:List Value),WellAll P h vs (ns.map WData.int)->IntsAre vs ns:=by
 intro ns
 induction ns with
 | nil =>
  intro vs w;rw [map_nil] at w;cases w;exact .nil
 | cons n ns ih =>
  intro vs w;rw [map_cons] at w
  cases w with
  | cons a b =>
   cases a;exact .cons _ _ (ih _ b)
theorem vF{l:OpenLaw}{n:Nat}(hn:l.most=some n){P:Params}{h:Heap}{args:List WData}{vals:List Value}
  (hpre:l.row.toRowW.claim.pre args=true) (hwl:WellAll P h vals args) :
  ∃a vs ns,vals=[Value.ref a]/\args=[WData.list (ns.map WData.int)]/\h.get? a=some { cls:=.type "list",data:=.seq vs.toArray }/\IntsAre vs ns/\ns.length<=n:=by
 have hsh:WShape.hasAll [] args [.list .int]=true:=(pre_splitW hpre).1;have hc:l.pre.holds [] { args:=args }=true:=(pre_splitW hpre).2;obtain⟨d,r,rfl,h1,h2⟩:=hasAllW_cons hsh;obtain rfl:=hasAllW_nil h2;obtain⟨xs,rfl,h3⟩:=hasW_list h1;obtain⟨ns,rfl⟩:=items_int h3
 have hlen:ns.length<=n:=by
  unfold OpenLaw.pre at hc
  have h4:(WTm.not (.lt (.lit (.int (n:Int))) (.len (.arg 0)))).holds [] { args:=[.list (ns.map .int)] }=true:=by
   have h4:=(holds_andW hc).1;rw [hn] at h4;exact h4
  have h5:=condW_of h4 (w_not (w_lt w_lit (w_len_list (w_arg rfl))));rw [length_map] at h5;refine le_of_not_lt fun q=>?_;have q':(n:Int)<((ns.length:Nat):Int):=by omega
  first
   | (rw [decide_eq_true q'] at h5;exact absurd h5 (by decide))
   | (simp at h5;omega)
 cases hwl with
 | cons w1 w2 =>
  cases w2
  cases w1 with
  | list ho hall=>exact⟨_,_,ns,rfl,rfl,ho,kZ ns _ hall,hlen⟩
theorem vG(l:OpenLaw)(args:List WData):l.row.toRowW.claim.post args (.bool true) args=true :=
 postW_of (r:=l.row.toRowW) (X:=(true == true))
  (show WShape.has [] (.bool true) .bool=true by first|rfl|decide|simp [WShape.has,WShape.arms,WShape.armsAll])
  (show (WTm.eq .res (.lit (.bool true))).value [] { args:=args,res:=some (.bool true),after:=args }=some (.bool (true == true)) from w_eq_bool (w_res rfl) w_lit) rfl
theorem attach_call{l:OpenLaw}{n:Nat}{q:Program}{loose:List Str}{XP:(Str->Option Value)->Heap->Prop}{YP:World->Heap->Prop}{d:DefRec}
  (hn:l.most=some n) (hdf:d.params.defaults=[])
  (call:∀(w:World) (s₀ s₁:Shared) (mg mb:Str->Option Value) (fa:Addr) (o:Obj) (pm cd doc:Value) (a:Addr) (vs:List Value) (ns:List Int),
   Ground q loose [] XP w s₀ mg mb s₁.heap->YP w s₁.heap ->
   s₁.heap.get? fa=some o->o.data=.func (docDef d.name d.params d.body d.scope pm cd doc)->s₁.heap.CodeRec cd d.name->mg d.name=some (.ref fa) ->
   s₁.heap.get? a=some { cls:=.type "list",data:=.seq vs.toArray }->IntsAre vs ns->ns.length<=n->s₁.gens=#[] ->
   codeAny (model l.prog w) callerA (.call (.ref fa) ⟨[.ref a],[]⟩) (fun r s'=>r=.ok (.ret (.bool true))/\OldK s₁.heap s'.heap/\s'.os=s₁.os/\AllBare s'.gens) s₁) :
  WalkO q loose XP YP l.row.toRowW d [] (fun f vs=>PySem.call f vs):=by
 intro w s₀ s₁ mg mb G Y fa o pm cd doc dV kV ho hd hcd hD hmg hg args vals as hpre hlay hrd hwl hlo;obtain rfl:dV=.none:=Dflts.none hD hdf;obtain rfl:kV=.none:=Dflts.noKw hD;obtain⟨a,vs,ns,rfl,rfl,hobj,hints,hlen⟩:=vF hn hpre hwl;refine enter_call (codeAny_mono (call w s₀ s₁ mg mb fa o pm cd doc a vs ns G Y ho (fd_plain hd) hcd hmg hobj hints hlen hg) fun r s' hq=>?_);obtain⟨rfl,h2,h3,h4⟩:=hq;exact⟨.inl ⟨.bool true,.bool true,[],rfl,fun _=>rfl,.bool true,vG l _,fun _=>⟨List.Pairwise.nil,fun _ hm=>(nomatch hm)⟩⟩,h2,h3,h4⟩
end Att
namespace L2
open PySem PySem.Spec PyProof.Rows
theorem pR:∀{vs:List Value}{ns:List Int},IntsAre vs ns->bW (ns.map V.int) vs
 | _,_,.nil=>.nil
 | _,_,.cons n t h=>.cons ⟨t,rfl⟩ (pR h)
def Fv(H:Hp):Prop:=∀b,H b=none\/∃o xs,H b=some (.frz o (.lst xs))
theorem yi{P:Program}{w:World}{K:PySem.W.Frag}{mg mb:Str->Option Value}{CX:CXT}{k:Nat}{fa a:Addr}{fd:FuncData}{x:Str}{sp:Sp}{s₁:Shared}{vs:List Value}{ns:List Int}
  (KX:K.In s₁.heap) (hns:s₁.heap.Ns mainGlobals mg) (hb:s₁.heap.Ns builtinsNs mb) (hbb:∀x:Str,x≠"__name__"->mb x=bootBuiltins x) (hlim:s₁.heap.NoLimit) (hg:s₁.gens=#[])
  (ha:s₁.heap.get? a=some { cls:=.type "list",data:=.seq vs.toArray }) (hi:IntsAre vs ns) (hl:ns.length<=sizeLine) (hr:gx k callerA)
  (F:∀base:Heap,K.In base->base.Ns mainGlobals mg->m7 P w K mg base CX k fa fd [x] sp) (hbind:∀(s:Shared) (u:Value),BindsTo s fd ⟨[u],[]⟩ [(x,u)])
  (hsp:∀H:Hp,Fv H->SqL K H a (ns.map V.int)->sp [.ref a] H (fun v _=>v=.bl true) fun _ _ _=>False)
  (hCX:∀H e s',CX [] H s₁ (fun _ _ _=>False) e s'->False) :
  codeAny (model P w) callerA (.call (.ref fa) ⟨[.ref a],[]⟩) (fun r s'=>r=.ok (.ret (.bool true))/\OldK s₁.heap s'.heap/\s'.os=s₁.os/\AllBare s'.gens) s₁:=by
 have rv:=pR hi;have lenV:=hi.length
 -- from an abstract heap in which nothing but the script may be tracked
 have core:∀H:Hp,Fv H->SqL K H a (ns.map V.int)->HOk P w H s₁.heap->(∀b,H b≠none->b=a)->(H a≠none->K.lookup a=none) ->
   codeAny (model P w) callerA (.call (.ref fa) ⟨[.ref a],[]⟩) (fun r s'=>r=.ok (.ret (.bool true))/\OldK s₁.heap s'.heap/\s'.os=s₁.os/\AllBare s'.gens) s₁:=by
  intro H hO hS hok hA hK;have base_of:∀{b:Addr}{o:Obj},s₁.heap.get? b=some o->H b=none->(x0 s₁.heap H).get? b=some o:=fun e n=>x3 e n
  have noA:∀{b:Addr}{o:Obj}{es:Array DictEntry}{ep:Nat},s₁.heap.get? b=some o->o.data=.dict es ep->H b=none:=fun {b o es ep} e d=>by
   cases q:H b with
   | none=>rfl
   | some u =>
    have e':b=a:=hA b (by rw [q];simp);subst e';rw [ha] at e;cases e;have d':Data.seq vs.toArray _=Data.dict es ep:=d;cases d'
  have nsK:∀{b:Addr}{m:Str->Option Value},s₁.heap.Ns b m->(x0 s₁.heap H).Ns b m:=fun {b m} ⟨o,es,ep,e,d,r⟩=>⟨o,es,ep,base_of e (noA e d),d,r⟩
  have hKb:K.In (x0 s₁.heap H):=fun b o e=>base_of (KX b o e) (by
   cases q:H b with
   | none=>rfl
   | some u =>
    have e':b=a:=hA b (by rw [q];simp);subst e';rw [hK (by rw [q];simp)] at e;cases e)
  have hM:Mod K mg (x0 s₁.heap H):=⟨hKb,nsK hns,⟨mb,nsK hb,hbb⟩,let ⟨mc,h1,h2⟩:=hlim;⟨mc,nsK h1,h2⟩⟩
  have e0:AN P w K mg (x0 s₁.heap H) callerA [] s₁ H:=⟨rfl,hM,fun b o e=>AB e,le_of_eq (va _ _),trivial,fun b hb=>absurd (show b∈([]:List Addr) from hb) (by simp),hok,.of_eq hg⟩
  refine codeAny_mono ((F _ hKb (nsK hns)).run callerA [] s₁ H ⟨[.ref a],[]⟩ [.ref a] [.ref a] _ _ hr e0 (hbind s₁ (.ref a)) (.cons rfl .nil) (hsp H hO hS)) fun r s' h=>?_
  cases r with
  | error e=>exact (hCX H e s' h).elim
  | ok fl =>
   cases fl with
   | next=>exact False.elim h
   | brk=>exact False.elim h
   | cont=>exact False.elim h
   | ret u =>
    obtain⟨v,H',os,bare,un,hok',r',q⟩:=h;have q':v=.bl true:=q;subst q';obtain rfl:u=Value.bool true:=r';refine⟨rfl,OldK.of_keep fun b o e=>?_,os,bare⟩
    cases q:H b with
    | none=>exact un.keep b o e q (by intro z;exact absurd (show b∈([]:List Addr) from z) (by simp)) (by simp)
    | some u =>
     rcases hO b with z|⟨ob,xs,z⟩
     .rw [q] at z;cases z
     .have z2:=un.frzs b ob _ z;obtain⟨e1,_⟩:=hok b _ z;obtain⟨e2,_⟩:=hok' b _ z2;rw [e] at e1;cases e1;exact e2
 cases hk:K.lookup a with
 | some o =>
  -- the script is one of the module's own objects
  have e:=KX a o hk;rw [ha] at e;cases e;refine core (fun _=>none) (fun _=>.inl rfl) (.inr ⟨_,vs.toArray,_,hk,rfl,rfl,rfl,by rw [size_toArray,lenV];exact hl,by simpa using rv⟩) (fun b u z=>by have z':(none:Option HO)=some u:=z;cases z') (fun b z=>absurd rfl z) fun z=>absurd rfl z
 | none =>
  refine core (fun b=>if b=a then some (.frz { cls:=.type "list",data:=.seq vs.toArray } (.lst (ns.map V.int))) else none) (fun b=>?_) (.inl (.inr ⟨{ cls:=.type "list",data:=.seq vs.toArray },if_pos rfl⟩)) (fun b u z=>?_) (fun b z=>?_) fun _=>hk
  .by_cases hb:b=a
   .exact .inr ⟨_,_,if_pos hb⟩
   .exact .inl (if_neg hb)
  .by_cases hb:b=a
   .have z':=(if_pos hb).symm.trans z;cases z';subst hb;exact⟨ha,by rw [length_map];exact hl,vs,_,rv,ha⟩
   .have z':=(if_neg hb).symm.trans z;cases z'
  .by_cases hb:b=a
   .exact hb
   .exact absurd (if_neg hb) z
theorem A0{l:PySem.W.OpenLaw}{n k:Nat}{q:Program}{loose:List Str}{XP:(Str->Option Value)->Heap->Prop}{YP:World->Heap->Prop}{d:DefRec}{K:Params->PySem.W.Frag}{CX:World->CXT}{sp:World->Sp}{x:Str}
  (hn:l.most=some n) (hn2:n<=sizeLine) (hdf:d.params.defaults=[]) (hr:gx k callerA)
  (hY:∀(w:World) (h:Heap),YP w h->(K w.params).In h)
  (F:∀(w:World) (mg:Str->Option Value) (fa:Addr) (h:Heap),(K w.params).In h->h.Ns mainGlobals mg->mg d.name=some (.ref fa) ->
   ∃fd:FuncData,(∀(s:Shared) (u:Value),BindsTo s fd ⟨[u],[]⟩ [(x,u)]) /\
    ∀base:Heap,(K w.params).In base->base.Ns mainGlobals mg->m7 l.prog w (K w.params) mg base (CX w) k fa fd [x] (sp w))
  (hsp:∀(w:World) (H:Hp) (a:Addr) (ns:List Int),ns.length<=n->Fv H->SqL (K w.params) H a (ns.map V.int)->sp w [.ref a] H (fun v _=>v=.bl true) fun _ _ _=>False)
  (hCX:∀(w:World) (H:Hp) (s:Shared) (e:Value) (s':Shared),CX w [] H s (fun _ _ _=>False) e s'->False) :
  PySem.W.WalkO q loose XP YP l.row.toRowW d [] (fun f vs=>PySem.call f vs):=by
 refine Att.attach_call hn hdf fun w s₀ s₁ mg mb fa o pm cd doc a vs ns G Y ho hd hcd hmg hobj hints hlen hg=>?_;have KX:=hY w _ Y;obtain⟨fd,hb,hF⟩:=F w mg fa _ KX G.T.g hmg;exact yi KX G.T.g G.T.b G.T.builtins G.T.nolimit hg hobj hints (Nat.le_trans hlen hn2) hr hF hb (fun H hO hS=>hsp w H a ns hlen hO hS) fun H e s'=>hCX w H s₁ e s'
def vH(s:Stmt)(j:Nat):Stmt:=match s with
 | .ClassDef _ _ _ body _ _ _ _ _ _ _=>body.getD j (.Pass ⟨0,0,0,0⟩)
 | _=>.Pass ⟨0,0,0,0⟩
def cL(s:Stmt):Arguments:=match s with
 | .FunctionDef _ a _ _ _ _ _ _ _ _=>a
 | _=>{ posonlyargs:=[],args:=[],vararg:=none,kwonlyargs:=[],kw_defaults:=[],kwarg:=none,defaults:=[] }
def bS(s:Stmt):List Stmt:=match s with
 | .FunctionDef _ _ b _ _ _ _ _ _ _=>b
 | _=>[]
def aq(s:Stmt):Scope:=match s with
 | .FunctionDef _ _ _ _ _ _ sc _ _ _=>sc
 | _=>{ kind:=.function,names:=[],isGenerator:=false,isCoroutine:=false }
abbrev CX0:CXT:=fun _ _ _ _ _ _=>False
abbrev E0:XK:=fun _ _ _=>False
theorem yj{X:Cx}:m8 CX0 X E0:=fun _ _ _ _ _ _ _ h=>h.elim
structure Fun (K:PySem.W.Frag) (x qual:Str) (st:Stmt) (f:Addr) (fd:FuncData):Prop where
 ex:∃(oc:Value) (od:Option Addr) (kV doc pm:Value) (an:Option Addr) (cdv ct:Value) (osl:Array (Option Value)),
  fd=PySem.W.fnOf x qual (cL st) (bS st) (aq st) .none kV doc pm an cdv ct/\K.lookup f=some ⟨oc,od,.func fd,osl⟩/\PySem.W.codeIn K cdv qual=true
 kp:PySem.W.keepIn K (.ref f)=true
section
variable {P:Program}{w:World}{K:PySem.W.Frag}{mg:Str->Option Value}{base:Heap}
theorem Fun.ok{x qual:Str}{st:Stmt}{f:Addr}{fd:FuncData}{N ps:List Str}{k:Nat}{sp:Sp}(F:Fun K x qual st f fd)(S:aK N ps (aq st))(len:∀vs H Q E,sp vs H Q E->vs.length=ps.length)
  (hbody:∀(cdv:Value) (A:Around) (outer:List Env) (s:Shared) (H:Hp) (vs:List V) (Q:VK) (E:XK),gx k (A.deeper (envOfC qual (aq st) s.heap.objs.size f cdv))->sp vs H Q E ->
   ∃t,PSs (sQ CX0 P w K mg base N qual (aq st) f cdv A outer s H E).nox (bS st) t/\t { nx:=fun _ H'=>Q .non H',rt:=Q } (start N vs) H):m7 P w K mg base CX0 (k+1) f fd ps sp:=by
 obtain⟨oc,od,kV,doc,pm,an,cdv,ct,osl,rfl,lk,hcd⟩:=F.ex;refine AR lk hcd S len fun A outer s H vs Q E hr hsp=>?_;obtain⟨t,h,q⟩:=hbody cdv A outer s H vs Q E hr hsp;exact⟨t,h.nox,q⟩
theorem Fun.binds{x qual:Str}{st:Stmt}{f:Addr}{fd:FuncData}{ps:List Str}(F:Fun K x qual st f fd)
  (h:∀(kV doc pm:Value) (an:Option Addr) (cdv ct:Value) (us:List Value),us.length=ps.length->bindArgs (PySem.W.fnOf x qual (cL st) (bS st) (aq st) .none kV doc pm an cdv ct) ⟨us,[]⟩=pure (ps.zip us)):jw K fd ps []:=by
 obtain⟨oc,od,kV,doc,pm,an,cdv,ct,osl,rfl,lk,hcd⟩:=F.ex;exact .all (h kV doc pm an cdv ct)
theorem vI{x qual:Str}{st:Stmt}{f:Addr}{oc:Value}{od an:Option Addr}{osl:Array (Option Value)}{kV doc pm cdv ct:Value}(l:K.lookup f=some ⟨oc,od,.func (PySem.W.fnOf x qual (cL st) (bS st) (aq st) .none kV doc pm an cdv ct),osl⟩)
  (c:PySem.W.codeIn K cdv qual=true) (k:PySem.W.keepIn K (.ref f)=true):Fun K x qual st f (PySem.W.fnOf x qual (cL st) (bS st) (aq st) .none kV doc pm an cdv ct):=⟨⟨oc,od,kV,doc,pm,an,cdv,ct,osl,rfl,l,c⟩,k⟩
end
section
variable {X:Cx}
theorem pv(i:Nat){x:Str}{pos:Pos}(hN:X.N[i]?=some x:=by rfl)(hv:Vis X.env.scope x:=by first|exact Or.inl rfl|exact Or.inr (Or.inl rfl)|exact Or.inr (Or.inr rfl))(hd:(x == ("__debug__":Str))=false:=by decide)
  (hcd:(x == ("__classdict__":Str))=false:=by decide):PE X (.Name x pos) (aM i):=CT hN hv hd hcd
end
def S(l:List Nat):Str:=⟨l.toArray⟩
theorem gy(l:List Nat):(S l).length=l.length:=by simp [S,Str.length]
theorem Fw(a b:List Nat):S a++S b=S (a++b):=by
 show (⟨a.toArray++b.toArray⟩:Str)=⟨(a++b).toArray⟩
 rw [append_toArray]
theorem Dp{a b:List Nat}(h:S a=S b):a=b:=by
 have h':=congrArg (fun x:Str=>x.cps.toList) h;simpa [S] using h'
theorem G8{a b:List Nat}(h:a≠b):S a≠S b:=fun e=>h (Dp e)
theorem Dq{a b:List Nat}:V.str (S a)=V.str (S b) ↔ a=b:=⟨fun h=>Dp (V.str.inj h),fun h=>by rw [h]⟩
theorem Dr(a b:List Nat):decide (V.str (S a)=V.str (S b))=decide (a=b):=by
 by_cases h:a=b
 .rw [decide_eq_true h,decide_eq_true (Dq.mpr h)]
 .rw [decide_eq_false h,decide_eq_false (fun z=>h (Dq.mp z))]
def dD{α:Type}(xs:List α)(lo hi:Option Int):List α:=(xs.drop (HT.sIx xs.length 0 lo)).take (HT.sIx xs.length xs.length hi - HT.sIx xs.length 0 lo)
theorem e7{α:Type}(xs:List α)(lo hi:Option Int):(dD xs lo hi).length<=xs.length:=by
 unfold dD;rw [length_take,length_drop];omega
theorem vJ(xs:List V)(lo hi:Option Int):AS xs lo hi=dD xs lo hi:=rfl
theorem Ds(lo hi:Option Int)(n:Nat):Builtin.Str.strSliceIndices lo hi 1 n=(List.range (HT.sIx n n hi - HT.sIx n 0 lo)).map (fun k=>HT.sIx n 0 lo+k):=by
 have key:∀(o:Option Int) (d:Nat),d<=n->(match o with|none=>(d:Int)|some i=>max 0 (min (if i<0 then i+(n:Int) else i) (n:Int)))=((HT.sIx n d o:Nat):Int):=by
  intro o d hd
  cases o with
  | none=>rfl
  | some i =>
   show max 0 (min (if i<0 then i+(n:Int) else i) (n:Int))=_;rw [<- HT.clip_eq i n d]
   by_cases h:i<0
   .rw [if_pos h,if_pos h];omega
   .rw [if_neg h,if_neg h];omega
 have k1:=key lo 0 (zero_le _);have k2:=key hi n (Nat.le_refl _);unfold Builtin.Str.strSliceIndices;simp only [show (1:Int) > 0 by decide,if_true];refine Eq.trans (congrArg (fun a=>sliceRange a _ 1) k1) (Eq.trans (congrArg (fun b=>sliceRange _ b 1) k2) ?_);unfold sliceRange;simp only [show (1:Int) > 0 by decide,if_true];generalize HT.sIx n 0 lo=a;generalize HT.sIx n n hi=b
 have ec:(if (a:Int)<(b:Int) then ((b:Int) - (a:Int)+1 - 1) / 1 else 0).toNat=b - a:=by
  split <;> omega
 rw [ec];apply map_congr_left;intro k _;omega
theorem vK{α:Type}(l:List α)(a m:Nat):((List.range m).map (fun k=>a+k)).filterMap (fun i=>l[i]?)=(l.drop a).take m:=by
 induction m generalizing a with
 | zero=>simp
 | succ m ih =>
  rw [range_succ_eq_map,map_cons,map_map,filterMap_cons];have e:((fun k=>a+k) ∘ Nat.succ)=fun k=>(a+1)+k:=by funext k;simp;omega
  rw [e,ih (a+1)]
  cases h:l[a+0]? with
  | none =>
   have hl:l.length<=a:=by simpa using List.getElem?_eq_none_iff.mp h
   rw [drop_eq_nil_of_le hl,drop_eq_nil_of_le (by omega)];simp
  | some v =>
   have hl:a<l.length:=by simpa using (List.getElem?_eq_some_iff.mp h).1
   have hv:l[a]=v:=by simpa using (List.getElem?_eq_some_iff.mp h).2
   rw [drop_eq_getElem_cons hl,hv];rfl
theorem A1(l:List Nat)(lo hi:Option Int):Txt.slice (S l) lo hi=S (dD l lo hi):=by
 have e1:(Builtin.Str.strSliceIndices lo hi 1 (S l).length).filterMap ((S l).cps[·]?)=dD l lo hi:=by
  rw [Ds,gy];have e:(fun i:Nat=>(S l).cps[i]?)=fun i:Nat=>l[i]?:=by funext i;simp [S]
  rw [e];exact vK l _ _
 unfold Txt.slice
 split
 .rename_i h;have h2:(Builtin.Str.strSliceIndices lo hi 1 (S l).length).length=(S l).length:=by simpa using h
  rw [Ds,gy,length_map,length_range] at h2;have a0:=HT.sIx_le l.length 0 (zero_le _) lo;have b0:=HT.sIx_le l.length l.length (Nat.le_refl _) hi;unfold dD
  by_cases hz:l.length=0
  .have:l=[]:=length_eq_zero_iff.mp hz;subst this;simp
  .have ha:HT.sIx l.length 0 lo=0:=by omega
   have hb:HT.sIx l.length l.length hi=l.length:=by omega
   rw [ha,hb];simp
 .rw [e1];rfl
theorem jx{α:Type}(l:List α)(k:Nat):dD l none (some (k:Int))=l.take k:=by
 unfold dD;rw [HT.sIx_nat];show (l.drop 0).take (min k l.length - 0)=l.take k;rw [drop_zero,Nat.sub_zero]
 by_cases h:k<=l.length
 .rw [min_eq_left h]
 .rw [min_eq_right (by omega),take_of_length_le (Nat.le_refl _),take_of_length_le (by omega)]
theorem i3{α:Type}(l:List α)(k:Nat):dD l (some (k:Int)) none=l.drop k:=by
 unfold dD;rw [HT.sIx_nat];show (l.drop (min k l.length)).take (l.length - min k l.length)=l.drop k
 by_cases h:k<=l.length
 .rw [min_eq_left h,take_of_length_le (by rw [length_drop];exact Nat.le_refl _)]
 .rw [min_eq_right (by omega),sub_self,take_zero,drop_eq_nil_of_le (by omega)]
theorem vL{α:Type}(l:List α)(i j:Nat):dD l (some (i:Int)) (some (j:Int))=(l.drop i).take (j - i):=by
 unfold dD;rw [HT.sIx_nat,HT.sIx_nat]
 by_cases h:i<=l.length
 .rw [min_eq_left h]
  by_cases h2:j<=l.length
  .rw [min_eq_left h2]
  .rw [min_eq_right (by omega),take_of_length_le (by rw [length_drop];omega),take_of_length_le (by rw [length_drop];omega)]
 .have e:min i l.length=l.length:=min_eq_right (by omega);rw [e,drop_eq_nil_of_le (Nat.le_refl _),drop_eq_nil_of_le (by omega),take_nil,take_nil]
section
variable {X:Cx}
def GM:V->Option Int->Option Int->Hp->VK->Prop:=fun x lo hi H Q=>∃l,x=.str (S l)/\l.length<=sizeLine/\Q (.str (S (dD l lo hi))) H
theorem Dt:SlR X GM:=by
 intro pins s σ H x v vl vu lo hi sl Q I rx hs pl pu h;obtain⟨l,rfl,hz,q⟩:=h;obtain⟨t,rfl⟩:=rx;refine⟨"str",_,slot_str_getitem.lookup,typeIs_str s _ t,?_⟩
 obtain⟨l',hl',el⟩:∃l':Option (Int×Tok),vl=partValue l'/\l'.map (·.1)=lo:=by
  cases pl with
  | none=>exact⟨none,rfl,rfl⟩
  | int i t=>exact⟨some (i,t),rfl,rfl⟩
 obtain⟨u',hu',eu⟩:∃l':Option (Int×Tok),vu=partValue l'/\l'.map (·.1)=hi:=by
  cases pu with
  | none=>exact⟨none,rfl,rfl⟩
  | int i t=>exact⟨some (i,t),rfl,rfl⟩
 subst hl' hu';refine wpAny_getItem_str_slice (l:=l') (u:=u') (st:=none) hs rfl ?_;have hm:∀t' k,EP X pins σ Q (.str (Txt.slice (S l) lo hi) t') { s with toks:=k }:=fun t' k=>⟨.str (S (dD l lo hi)),H,I.tok _,⟨t',by rw [A1]⟩,q⟩
 have hlen:(Txt.slice (S l) lo hi).length<=sizeLine:=Nat.le_trans (Txt.slice_le _ _ _) (by rw [gy];exact hz);subst el eu;exact post_val_or_str ⟨hlen,hm⟩
def nV{α:Type}(l:List α)(n:Int):List α:=(List.replicate n.toNat l).flatten
theorem vM(k:Nat)(l acc:List Nat):(List.replicate k l.toArray).foldl (·++·) acc.toArray=(acc++(List.replicate k l).flatten).toArray:=by
 induction k generalizing acc with
 | zero=>simp
 | succ k ih =>
  rw [replicate_succ,foldl_cons,append_toArray,ih (acc++l),replicate_succ,flatten_cons,append_assoc]
theorem Fx(l:List Nat)(n:Int):Txt.mul (S l) n=S (nV l n):=by
 unfold Txt.mul nV
 by_cases h:n<1
 .rw [if_pos h];have:n.toNat=0:=by omega
  rw [this];rfl
 .rw [if_neg h]
  split
  .rename_i h2;rw [gy] at h2;simp only [or_eq_true,beq_iff_eq] at h2
   rcases h2 with h2|h2
   .subst h2;simp [S]
   .have:l=[]:=length_eq_zero_iff.mp h2;subst this;simp [S]
  .have e:=vM n.toNat l [];show (⟨_⟩:Str)=_
   have e':(List.replicate n.toNat (S l).cps).foldl (·++·) #[]=((List.replicate n.toNat l).flatten).toArray:=by
    simpa [S] using e
   rw [e'];rfl
theorem fH{α:Type}(l:List α)(n:Int):(nV l n).length=n.toNat*l.length:=by
 unfold nV;rw [length_flatten,map_replicate,sum_replicate_nat]
theorem uv:OpR X (binaryOp .Mult) (fun x y H Q=>∃l n,x=.str (S l)/\y=.int n/\-1000000<=n/\n<=1000000/\n.toNat*l.length<=sizeLine/\Q (.str (S (nV l n))) H):=by
 intro pins s σ H x y v u Q I rx ry h;obtain⟨l,n,rfl,rfl,h1,h2,hz,q⟩:=h;obtain⟨t,rfl⟩:=rx;obtain⟨t',rfl⟩:=ry;have hs:sizeLine=16777216:=sizeLine_eq;have hz':n.toNat*l.length<=16777216:=by rw [<- hs];exact hz
 refine SB.mul ⟨?_,fun hn hc=>?_,fun hn hc=>?_⟩ fun t' k=>⟨.str (S (nV l n)),H,I.tok _,⟨t',by rw [Fx]⟩,q⟩
 .rw [decide_eq_false (by omega),decide_eq_false (by omega)];rfl
 .rw [gy];intro hgt
  have hl:l.length<=16777216:=by
   have:1*l.length<=n.toNat*l.length:=mul_le_mul_right _ (by omega);omega
  have hdiv:(2^63 - 1:Int) / 1000000<=(2^63 - 1) / n:=by
   apply le_ediv_of_mul_le (by omega);have:=mul_le_mul_of_nonneg_left h2 (show (0:Int)<=(2^63 - 1) / 1000000 by decide);have e2:((2^63 - 1:Int) / 1000000)*1000000<=2^63 - 1:=by decide
   omega
  have e3:(2^63 - 1:Int) / 1000000=9223372036854:=by decide
  omega
 .rw [gy];have:l.length*n.toNat<=16777216:=by rw [mul_comm];exact hz'
  exact decide_eq_false (by omega)
theorem vN:OpR X (compareOp .LtE) (fun x y H Q=>∃i j,x=.str i/\y=.str j/\Q (.bl (!decide (j.cps.toList<i.cps.toList))) H):=by
 intro pins s σ H x y v u Q I rx ry h;obtain⟨i,j,rfl,rfl,q⟩:=h;obtain⟨t,rfl⟩:=rx;obtain⟨t',rfl⟩:=ry;exact PySem.P.le_str ⟨.bl _,H,I,rfl,q⟩
end
def Its(xs:List V):It:=⟨fun i _=>i<xs.length,fun i H x H'=>H'=H/\xs[i]?=some x,fun i _=>xs.length=i⟩
theorem vO{M:Model}{A:Around}{E:Value->Shared->Prop}{s:Shared}{tg:Expr}{it:Addr}{u:Value}{Q:Unit->Shared->Prop}(hu:∀a,u≠.ref a)(hQ:Q () s):wpAny M A (letOwnedTupleGo tg (.ref it) u) Q E s:=by
 unfold letOwnedTupleGo
 cases tg <;> first
  | exact wpAny_pure hQ
  | (cases u <;> first
    | exact wpAny_pure hQ
    | exact absurd rfl (hu _))
theorem k6{P:Program}{w:World}{K:PySem.W.Frag}{tg:Expr}{it:Addr}{xs:List V}{n:Nat}{Pt:Nat->Value->Prop}{St:Nat->Heap->Prop}
  (W:∀A:Around,A.handled=none->Walks P w A it [it] [it] n Pt St) (hn:xs.length=n)
  (hv:∀i v,i<n->Pt i v->∃x,xs[i]?=some x/\c9 x v) (hsc:∀i v,Pt i v->∀a,v≠.ref a)
  (hobj:∀i h,St i h->∃o,h.get? it=some o/\∀v,o.data≠.cell v)
  (hfr:∀i h h',St i h->(∀b∈[it],∀o,h.get? b=some o->h'.get? b=some o)->St i h')
  (hself:∀(A:Around) (i:Nat) (s:Shared) (Q:Value->Shared->Prop) (E:Value->Shared->Prop),St i s.heap->Q (.ref it) s->wpAny (model P w) A (pyIter (.ref it)) Q E s) :
  CB P w K tg (Its xs) [it] it St where
 mem:=by simp
 obj:=fun i h st b hb=>by
  have e:b=it:=by simpa using hb
  subst e;exact hobj i h st
 keep:=fun i h h' st k=>hfr i h h' st k
 item:=by
  intro X hP hw hK hc i pins s σ H E I hf st hg;subst hP hw hK;obtain⟨f0,f1,f2,f3,f4,f5⟩:=hf it (by simp);refine (W X.A (I.ok.hd hc)).item i s _ _ (by rw [<- hn];exact hg) st fun v h' tk hp st' kk=>?_;obtain⟨x,hx,rx⟩:=hv i v (by rw [<- hn];exact hg) hp;have I1:Inv X pins σ H { s with heap:=h',toks:=tk }:=I.turned (fun b o hb e=>kk b o (by simpa using hb) e) f0 f1 f3 f4 f5;exact⟨v,rfl,vO (s:={ s with heap:=h',toks:=tk }) (hsc i v hp) ⟨x,H,I1,rx,⟨rfl,hx⟩,st',fun b hb=>(hf b hb).1⟩⟩
 done:=by
  intro X hP hw hK hc i pins s σ H E I hf st hg;subst hP hw hK;obtain⟨f0,f1,f2,f3,f4,f5⟩:=hf it (by simp);have e:n=i:=hn.symm.trans hg;subst e;exact (W X.A (I.ok.hd hc)).done s _ _ st fun h' tk kk=>⟨rfl,I.turned (fun b o hb e=>kk b o (by simpa using hb) e) f0 f1 f3 f4 f5⟩
 self:=hself
section
variable {X:Cx}{tg:Expr}
def gD(l:List Nat):List V:=l.map fun c=>V.str (S [c])
theorem uw{l:List Nat}{i:Nat}{x:V}(h:(gD l)[i]?=some x):∃c,l[i]?=some c/\x=.str (S [c]):=by
 unfold gD at h;rw [getElem?_map] at h
 cases e:l[i]? with
 | none=>rw [e] at h;cases h
 | some c=>rw [e] at h;exact⟨c,rfl,(Option.some.inj h).symm⟩
theorem jy(l:List Nat):(gD l).length=l.length:=length_map _
def nW(i:Int)(n:Nat):List V:=(List.range n).map fun (k:Nat)=>V.int (i - k)
theorem k8(i:Int)(n:Nat):(nW i n).length=n:=by simp [nW]
theorem vP{i:Int}{n k:Nat}{x:V}(h:(nW i n)[k]?=some x):k<n/\x=.int (i - k):=by
 unfold nW at h;rw [getElem?_map] at h
 by_cases hk:k<n
 .rw [getElem?_range hk] at h;exact⟨hk,(Option.some.inj h).symm⟩
 .rw [getElem?_eq_none (by simp;omega)] at h;cases h
def Du(ta:TA):TI:=fun σ H R=>ta σ H fun vs H1=>∃i j:Int,vs=[.int i,.int j,.int (-1)]/\(-(2^60)<=i/\i<2^60/\-(2^60)<=j/\j<2^60)/\R (Its (nW i (i - j).toNat)) H1
theorem il(i j:Int):Builtin.Range.rangeSize i j (-1)=(((i - j).toNat:Nat):Int):=by
 unfold Builtin.Range.rangeSize;rw [if_neg (by decide)];simp only [neg_neg,ediv_one];split <;> omega
theorem pS{a b c:Expr}{ta:TA}{p pos:Pos}(hg:Gl X "range")(hm:X.mg "range"=none)(ha:PA X [a,b,c] ta)
  (hs:starEach [a,b,c] X.env=[(false,eval a X.env),(false,eval b X.env),(false,eval c X.env)]:=by rfl) (hs2:starEach [b,c] X.env=[(false,eval b X.env),(false,eval c X.env)]:=by rfl) :
  PI X tg (.Call (.Name "range" p) [a,b,c] [] pos) (Du ta):=by
 intro pins s σ H R I h;refine Call_ (ik I hg hm boot_range (PyProof.Rows.callWith_type1 (thn (ha pos pins s σ H _ I h) fun us s1 ⟨vs,H1,I1,r1,q1⟩=>?_) (by rw [hs,hs2]) (by rw [hs2];rfl)));obtain⟨i,j,e,⟨q1,q2,q3,q4⟩,q⟩:=q1;subst e
 cases r1 with
 | cons r rr =>
  cases rr with
  | cons r' rr =>
   cases rr with
   | cons r'' rr =>
    cases rr;obtain⟨t,rfl⟩:=r;obtain⟨t',rfl⟩:=r';obtain⟨t'',rfl⟩:=r'';refine call_range_3 (by decide) ?_ (.inl (PyProof.noPylong_small (by decide)))
    refine wpAny_pyIter_range (IsRange.new ..) ?_ ?_
    .unfold Builtin.Range.small;rw [il];simp only [Builtin.Range.rangeFitsLong,and_eq_true,or_eq_true,decide_eq_true_eq,beq_iff_eq,show ¬ (-1:Int) > 0 by decide,if_false];omega
    have I2:Inv X pins σ H1 { s1 with heap:=s1.heap.push { cls:=.type "range",data:=.fields #[.int i t,.int j t',.int (-1) t''] },toks:=s1.toks }:=I1.kept fun b o e=>Heap.get?_push_of_some _ e
    refine⟨_,[(s1.heap.push { cls:=.type "range",data:=.fields #[.int i t,.int j t',.int (-1) t''] }).objs.size],_,Its (nW i (i - j).toNat),H1,rfl,I2.kept (t':=s1.toks) fun b o e=>Heap.get?_push_of_some _ e,
     k6 (fun A hA=>Walks.range hA _ i (-1) (i - j).toNat) (k8 _ _) ?_ ?_ ?_ ?_ (fun A i s Q E st q=>wpAny_pyIter_rangeiter st q),?_,fun b hb=>?_,q⟩
    .rintro k v hk ⟨t,rfl⟩
     refine⟨.int (i - k),?_,t,?_⟩
     .unfold nW;rw [getElem?_map,getElem?_range hk];rfl
     .have e:i+(k:Int)*(-1)=i - k:=by omega
      rw [e]
    .rintro k v ⟨t,rfl⟩ a z;cases z
    .exact fun k h st=>⟨_,st,fun v z=>by
      have z':Data.fields _=Data.cell v:=z;cases z'⟩
    .exact fun k h h' st kk=>kk _ (by simp) _ st
    .show IsRangeIter _ _ (i+((0:Nat):Int)*(-1)) ((((i - j).toNat:Nat):Int) - ((0:Nat):Int)) (-1);rw [<- il];simp only [natCast_zero,zero_mul,add_zero,Int.sub_zero];exact Heap.get?_push_size _ rfl
    .have e:b=(s1.heap.push { cls:=.type "range",data:=.fields #[.int i t,.int j t',.int (-1) t''] }).objs.size:=by simpa using hb
     subst e;exact I2.fpOk (Nat.le_refl _) (I2.hok.fresh (Nat.le_refl _))
end
section
variable {X:Cx}
theorem rm:cu X (.builtin "isinstance") (fun xs H Q=>∃x n t b,xs=[x,.ty n]/\pA X.K H x t/\PySem.W.kitOne X.K t (.type n)=some b/\Q (.bl b) H):=by
 intro pins s σ H xs us Q I r h;obtain⟨x,n,t,b,rfl,ty,e,q⟩:=h;obtain⟨u,w',rfl,rx,ry⟩:=AH r;cases (show w'=Value.type n from ry);exact vx I rx ty e fun tk=>⟨.bl b,H,I.tok _,rfl,q⟩
mutual
inductive DV (K:PySem.W.Frag) (H:Hp):V->PyData->Prop
 | non:DV K H .non .none
 | bl (b:Bool):DV K H (.bl b) (.bool b)
 | int (i:Int):DV K H (.int i) (.int i)
 | str (x:Str):DV K H (.str x) (.str x)
 | lst {a:Addr}{xs:List V}{ds:List PyData}:SqL K H a xs->DVs K H xs ds->DV K H (.ref a) (.list ds)
 | tup {a:Addr}{xs:List V}{ds:List PyData}:SqT K H a xs->DVs K H xs ds->DV K H (.ref a) (.tuple ds)
inductive DVs (K:PySem.W.Frag) (H:Hp):List V->List PyData->Prop
 | nil:DVs K H [] []
 | cons {x:V}{d:PyData}{xs:List V}{ds:List PyData}:DV K H x d->DVs K H xs ds->DVs K H (x::xs) (d::ds)
end
mutual
theorem DV.reads{pins:List (Addr×Obj)}{σ:St}{H:Hp}{s:Shared}(I:Inv X pins σ H s):∀{x:V}{d:PyData}{u:Value},DV X.K H x d->c9 x u->∃as,Reads s.heap u d as
 | _,_,u,.non,r=>by cases (show u=Value.none from r);exact⟨_,.none⟩
 | _,_,u,.bl b,r=>by cases (show u=Value.bool b from r);exact⟨_,.bool b⟩
 | _,_,u,.int i,r=>by obtain⟨t,e⟩:=(show ∃t,u=Value.int i t from r);subst e;exact⟨_,.int i t⟩
 | _,_,u,.str x,r=>by obtain⟨t,e⟩:=(show ∃t,u=Value.str x t from r);subst e;exact⟨_,.str x t⟩
 | _,_,u,.lst (a:=a) hq hs,r=>by
  cases (show u=Value.ref a from r);obtain⟨its,rv,pl,_⟩:=I.list hq;obtain⟨o,ho,hc,n,hd⟩:=pl.isList;obtain⟨as,ra⟩:=DVs.reads I hs rv;exact⟨_,.list ho hc hd ra⟩
 | _,_,u,.tup (a:=a) hq hs,r=>by
  cases (show u=Value.ref a from r);obtain⟨its,rv,pl,_⟩:=I.tuple hq;obtain⟨o,ho,hc,n,hd⟩:=pl;obtain⟨as,ra⟩:=DVs.reads I hs rv;exact⟨_,.tuple ho hc hd ra⟩
theorem DVs.reads{pins:List (Addr×Obj)}{σ:St}{H:Hp}{s:Shared}(I:Inv X pins σ H s):∀{xs:List V}{ds:List PyData}{us:List Value},DVs X.K H xs ds->bW xs us->∃as,ReadsAll s.heap us ds as
 | _,_,_,.nil,.nil=>⟨_,.nil⟩
 | _,_,_,.cons h hs,.cons r rs=>by
  obtain⟨as,ra⟩:=DV.reads I h r;obtain⟨bs,rb⟩:=DVs.reads I hs rs;exact⟨_,.cons ra rb⟩
end
def Fy(K:PySem.W.Frag)(neg:Bool):R2:=fun x y H Q=>∃da db,DV K H x da/\DV K H y db/\SeqAt.shaped da=true/\SeqAt.shaped db=true/\Q (.bl (if neg then !PyData.eqv da db else PyData.eqv da db)) H
theorem Dv(hu:X.A.units+64<cLine):OpR X (compareOp .Eq) (Fy X.K false):=by
 intro pins s σ H x y v u Q I rx ry h;obtain⟨da,db,ha,hb,sa,sb,q⟩:=h;obtain⟨as,ra⟩:=DV.reads I ha rx;obtain⟨bs,rb⟩:=DV.reads I hb ry;exact eq_dataH ra rb sa sb hu ⟨.bl _,H,I,rfl,q⟩
theorem Dw(hu:X.A.units+64<cLine):OpR X (compareOp .NotEq) (Fy X.K true):=by
 intro pins s σ H x y v u Q I rx ry h;obtain⟨da,db,ha,hb,sa,sb,q⟩:=h;obtain⟨as,ra⟩:=DV.reads I ha rx;obtain⟨bs,rb⟩:=DV.reads I hb ry;exact ne_dataH ra rb sa sb hu ⟨.bl _,H,I,rfl,q⟩
theorem DVs.ints{K:PySem.W.Frag}{H:Hp}:∀ns:List Int,DVs K H (ns.map V.int) (ns.map PyData.int)
 | []=>.nil
 | n::ns=>.cons (.int n) (DVs.ints ns)
theorem k9:∀ns ms:List Int,PyData.eqvAll (ns.map PyData.int) (ms.map PyData.int)=decide (ns=ms)
 | [],[]=>by simp [PyData.eqvAll]
 | [],_::_=>by simp [PyData.eqvAll]
 | _::_,[]=>by simp [PyData.eqvAll]
 | a::r,b::t=>by
  simp only [map_cons,PyData.eqvAll,PyData.eqv,k9 r t]
  by_cases h:a=b <;> by_cases h':r=t <;> simp [h,h']
theorem rn:MtR X "str.endswith" (fun x xs H Q=>∃a b,x=.str (S a)/\xs=[.str (S b)]/\Q (.bl (decide (b <:+ a))) H):=by
 intro pins s σ H x xs v us Q I rx rs h;obtain⟨a,b,rfl,rfl,q⟩:=h;obtain⟨t,rfl⟩:=rx;obtain⟨u,rfl,t',rfl⟩:=iJ rs
 have e:Txt.endswith (S a) (S b)=decide (b <:+ a):=by
  unfold Txt.endswith Builtin.Str.subAt;rw [gy,gy]
  have e1:((S a).cps.extract (a.length - b.length) (a.length - b.length+b.length))=((a.drop (a.length - b.length)).take b.length).toArray:=by
   show a.toArray.extract _ _=_;rw [extract_toArray,extract_eq_take_drop];have e2:a.length - b.length+b.length - (a.length - b.length)=b.length:=by omega
   rw [e2]
  rw [e1]
  by_cases h:b <:+ a
  .rw [decide_eq_true h];have hl:=h.length_le;have hd:a.drop (a.length - b.length)=b:=(suffix_iff_eq_drop.mp h).symm;rw [hd];simp [S,hl]
  .rw [decide_eq_false h]
   by_cases hl:b.length<=a.length
   .have hne:¬ (a.drop (a.length - b.length)).take b.length=b:=fun z=>h (by
     rw [take_of_length_le (by rw [length_drop];omega)] at z;exact suffix_iff_eq_drop.mpr z.symm)
    simp only [and_eq_false_imp];intro _;show (((a.drop (a.length - b.length)).take b.length).toArray == b.toArray)=false;rw [beq_eq_false_iff_ne];intro z;exact hne (by simpa using congrArg Array.toList z)
   .rw [decide_eq_false (by omega)];rfl
 exact SC.endswith ⟨.bl _,H,I,rfl,by rw [e];exact q⟩
end
section
variable {X:Cx}{a b:Expr}{ta tb:TE}{pos:Pos}
theorem gE{x:Str}{l:List Nat}{j:Nat}(h:x=S l):PE X (.Constant (.str x) j pos) (tC (.str (S l))):=by
 subst h;exact CU
theorem vQ:cu X (.builtin "len") (fun xs H Q=>∃l,xs=[.str (S l)]/\l.length<=sizeLine/\Q (.int l.length) H):=by
 intro pins s σ H xs us Q I r h;obtain⟨l,rfl,hz,q⟩:=h;exact pM pins s σ H _ us Q I r ⟨S l,rfl,by rw [gy];exact hz,by rw [gy];exact q⟩
def Dx:R2:=fun x y H Q=>∃l i c,x=.str (S l)/\y=.int i/\l.length<=sizeLine/\atI l i=some c/\Q (.str (S [c])) H
theorem A2:IxR X Dx:=by
 intro value slice pins s σ H x y v u Q I rx ry q hs;obtain⟨l,i,c,rfl,rfl,hz,ha,q⟩:=q;exact Dj value slice pins s σ H _ _ v u Q I rx ry ⟨S l,i,c,rfl,rfl,by rw [gy];exact hz,ha,q⟩ hs
theorem A3:OpR X (binaryOp .Add) (fun x y H Q=>∃i j,x=.str (S i)/\y=.str (S j)/\i.length+j.length<=sizeLine/\Q (.str (S (i++j))) H):=by
 intro pins s σ H x y v u Q I rx ry h;obtain⟨i,j,rfl,rfl,hz,q⟩:=h;exact ui pins s σ H _ _ v u Q I rx ry ⟨S i,S j,rfl,rfl,by rw [gy,gy];exact hz,by rw [Fw];exact q⟩
theorem Dy:OpR X (compareOp .Eq) (fun x y H Q=>∃i j,x=.str (S i)/\y=.str (S j)/\Q (.bl (decide (i=j))) H):=by
 intro pins s σ H x y v u Q I rx ry h;obtain⟨i,j,rfl,rfl,q⟩:=h;exact Fm pins s σ H _ _ v u Q I rx ry ⟨rfl,by rw [Dr];exact q⟩
theorem Dz:OpR X (compareOp .NotEq) (fun x y H Q=>∃i j,x=.str (S i)/\y=.str (S j)/\Q (.bl (!decide (i=j))) H):=by
 intro pins s σ H x y v u Q I rx ry h;obtain⟨i,j,rfl,rfl,q⟩:=h;exact Fn pins s σ H _ _ v u Q I rx ry ⟨rfl,by rw [Dr];exact q⟩
theorem DA:OpR X (compareOp .Eq) (rI0 fun i j=>.bl (decide (i=j))):=CC fun _ _ _ _ _ _ _ q=>eq_int (by rw [beq_eq_decide_eq];exact q)
theorem DB:OpR X (compareOp .NotEq) (rI0 fun i j=>.bl (!decide (i=j))):=CC fun _ _ _ _ _ _ _ q=>ne_int (by rw [bne,beq_eq_decide_eq];exact q)
theorem vR:cu X (.builtin "len") (fun xs H Q=>∃p ys,xs=[.ref p]/\SqL X.K H p ys/\Q (.int ys.length) H):=by
 intro pins s σ H xs us Q I r h;obtain⟨p,ys,e,hq,q⟩:=h;exact j2 pins s σ H xs us Q I r ⟨p,ys,e,.inl hq,q⟩
theorem vS:cu X (.builtin "len") (fun xs H Q=>∃p ys,xs=[.ref p]/\SqT X.K H p ys/\Q (.int ys.length) H):=by
 intro pins s σ H xs us Q I r h;obtain⟨p,ys,e,hq,q⟩:=h;exact j2 pins s σ H xs us Q I r ⟨p,ys,e,.inr hq,q⟩
end
structure Cal (P:Program) (w:World) (K:PySem.W.Frag) (mg:Str->Option Value) (base:Heap) (k:Nat) (x:Str) (ps:List Str) (sp:Sp):Prop where
 ex:∃(f:Addr) (fd:FuncData),m7 P w K mg base CX0 k f fd ps sp/\jw K fd ps []/\PySem.W.keepIn K (.ref f)=true/\mg x=some (.ref f)/\∃oc od osl,K.lookup f=some ⟨oc,od,.func fd,osl⟩
structure cj (K:PySem.W.Frag) (mg:Str->Option Value) (x:Str) (st:Stmt):Prop where
 ex:∃(f:Addr) (fd:FuncData),Fun K x x st f fd/\mg x=some (.ref f)
section
variable {P:Program}{w:World}{K:PySem.W.Frag}{mg:Str->Option Value}{base:Heap}{x:Str}{st:Stmt}{N ps:List Str}{k:Nat}{sp:Sp}
theorem cj.ok(D:cj K mg x st)(S:aK N ps (aq st))
  (hb:∀(kV doc pm:Value) (an:Option Addr) (cdv ct:Value) (us:List Value),us.length=ps.length->bindArgs (PySem.W.fnOf x x (cL st) (bS st) (aq st) .none kV doc pm an cdv ct) ⟨us,[]⟩=pure (ps.zip us))
  (len:∀vs H Q E,sp vs H Q E->vs.length=ps.length)
  (hbody:∀(f:Addr) (cdv:Value) (A:Around) (outer:List Env) (s:Shared) (H:Hp) (vs:List V) (Q:VK) (E:XK),gx k (A.deeper (envOfC x (aq st) s.heap.objs.size f cdv))->sp vs H Q E ->
   ∃t,PSs (sQ CX0 P w K mg base N x (aq st) f cdv A outer s H E).nox (bS st) t/\t { nx:=fun _ H'=>Q .non H',rt:=Q } (start N vs) H):Cal P w K mg base (k+1) x ps sp:=by
 obtain⟨f,fd,F,hm⟩:=D.ex
 have lk:∃oc od osl,K.lookup f=some ⟨oc,od,.func fd,osl⟩:=by
  obtain⟨oc,od,kV,doc,pm,an,cdv,ct,osl,rfl,lk,hcd⟩:=F.ex;exact⟨oc,od,osl,lk⟩
 exact⟨f,fd,F.ok S len fun cdv A outer s H vs Q E hr h=>hbody f cdv A outer s H vs Q E hr h,F.binds hb,F.kp,hm,lk⟩
theorem cj.mk'{K:PySem.W.Frag}{h:Heap}{mg:Str->Option Value}{x:Str}{st:Stmt}{f:Addr}{oc:Value}{od an:Option Addr}{osl:Array (Option Value)}{kV doc pm cdv ct:Value}(X:K.In h)(G:h.Ns mainGlobals mg)
  (a:PySem.W.nsIn K mainGlobals x=some (some (.ref f))) (l:K.lookup f=some ⟨oc,od,.func (PySem.W.fnOf x x (cL st) (bS st) (aq st) .none kV doc pm an cdv ct),osl⟩)
  (c:PySem.W.codeIn K cdv x=true) (k:PySem.W.keepIn K (.ref f)=true):cj K mg x st:=⟨f,_,vI (st:=st) l c k,PySem.W.mg_of X G a⟩
end
section
variable {X:Cx}{k:Nat}{x:Str}{ps:List Str}{sp:Sp}{p pos:Pos}{e:Expr}{es:List Expr}{t:TA}
theorem DC(C:Cal X.prog X.w X.K X.mg X.base k x ps sp)(hr:gx k X.A)(ha:PA X (e::es) t)(hg:Gl X x:=by rfl)(hdb:(x == ("__debug__":Str))=false:=by decide)(he:starEach (e::es) X.env=(false,eval e X.env)::starEach es X.env:=by rfl)
  (hpl:(backTo pos (starEach es X.env)).any (·.1)=false:=by rfl):PE X (.Call (.Name x p) (e::es) [] pos) (ei sp [] E0 t):=by
 obtain⟨f,fd,F,hb,hk,hm,_⟩:=C.ex;exact vy F hr hg hm hk hb .nil yj ha hdb he hpl
end
def uy(K:PySem.W.Frag):Sp:=fun vs H Q _=>∃(a:Addr) (ns:List Int),vs=[.ref a]/\SqL K H a (ns.map V.int)/\ns.length<=63/\∀H',Q (.bl true) H'
theorem DD{P:Program}{w:World}{K:PySem.W.Frag}{mg:Str->Option Value}{fa:Addr}{st:Stmt}{k:Nat}{x:Str}(hfa:mg "law"=some (.ref fa))(D:cj K mg "law" st)
  (hbind:∀(kV doc pm:Value) (an:Option Addr) (cdv ct:Value) (s:Shared) (v:Value),BindsTo s (PySem.W.fnOf "law" "law" (cL st) (bS st) (aq st) .none kV doc pm an cdv ct) ⟨[v],[]⟩ [(x,v)])
  (h:∀base:Heap,Cal P w K mg base k "law" [x] (uy K)) :
  ∃fd:FuncData,(∀(s:Shared) (v:Value),BindsTo s fd ⟨[v],[]⟩ [(x,v)])/\∀base:Heap,K.In base->base.Ns mainGlobals mg->m7 P w K mg base CX0 k fa fd [x] (uy K):=by
 obtain⟨f,fd,F,hm⟩:=D.ex;have e:=hfa.symm.trans hm;cases e;obtain⟨oc,od,kV,doc,pm,an,cdv,ct,osl,rfl,lk,hcd⟩:=F.ex;refine⟨_,fun s v=>hbind kV doc pm an cdv ct s v,fun base kb nb=>?_⟩;obtain⟨f',fd',F',_,_,hm',oc',od',osl',lk'⟩:=(h base).ex;have e:=hfa.symm.trans hm';cases e;rw [lk] at lk';cases lk';exact F'
theorem DE{l:PySem.W.OpenLaw}{q:Program}{loose:List Str}{XP:(Str->Option Value)->Heap->Prop}{YP:World->Heap->Prop}{d:DefRec}{K:Params->PySem.W.Frag}{k:Nat}{x:Str}(hn:l.most=some 63)(hdf:d.params.defaults=[])(hr:gx k callerA)
  (hY:∀(w:World) (h:Heap),YP w h->(K w.params).In h)
  (F:∀(w:World) (mg:Str->Option Value) (fa:Addr) (h:Heap),(K w.params).In h->h.Ns mainGlobals mg->mg d.name=some (.ref fa) ->
   ∃fd:FuncData,(∀(s:Shared) (u:Value),BindsTo s fd ⟨[u],[]⟩ [(x,u)])/\∀base:Heap,(K w.params).In base->base.Ns mainGlobals mg->m7 l.prog w (K w.params) mg base CX0 k fa fd [x] (uy (K w.params))) :
  PySem.W.WalkO q loose XP YP l.row.toRowW d [] (fun f vs=>PySem.call f vs) :=
 A0 (n:=63) (k:=k) (x:=x) (CX:=fun _=>CX0) (sp:=fun w=>uy (K w.params)) hn (by decide) hdf hr hY F (fun _ _ a ns hl _ hS=>⟨a,ns,rfl,hS,hl,fun _=>rfl⟩) fun _ _ _ _ _ z=>z
theorem A4{α β:Type}{f:α->β}{xs:List α}{i:Int}{v:α}(h:atI xs i=some v):atI (xs.map f) i=some (f v):=by
 unfold atI at h ⊢;rw [length_map]
 cases e:ixN xs.length i with
 | none=>rw [e] at h;cases h
 | some j =>
  rw [e] at h;show (xs.map f)[j]?=some (f v);have h':xs[j]?=some v:=h;rw [getElem?_map,h'];rfl
theorem im{α:Type}{xs:List α}{i:Int}{j:Nat}{v:α}(h:xs[j]?=some v)(e:i=(j:Int)):atI xs i=some v:=by subst e;exact AU h
def fn(l:List Nat)(t:Nat):Nat:=l.getD t 0
theorem zJ{l:List Nat}{t:Nat}(h:t<l.length):l[t]?=some (fn l t):=by
 unfold fn;rw [getD_eq_getElem?_getD,getElem?_eq_getElem h];rfl
theorem sz(n:Nat)(h:n<=1000000):n<=sizeLine:=by rw [sizeLine_eq];omega
theorem yk{ns:List Int}{i:Nat}{x:V}(h:(ns.map V.int)[i]?=some x):∃z,ns[i]?=some z/\x=.int z:=by
 rw [getElem?_map] at h
 cases e:ns[i]? with
 | none=>rw [e] at h;cases h
 | some z=>rw [e] at h;exact⟨z,rfl,(Option.some.inj h).symm⟩
section
variable {X:Cx}{st:Stmt}{t:TS}
def A5(t:TS):TS:=fun D σ H=>∃J:St->Hp->Prop,t { D with nx:=J } σ H/\∀σ' H',J σ' H'->D.nx σ' H'
theorem jz(h:PS X st t):PS X st (A5 t):=by
 intro pins s σ H D I q;obtain⟨J,q1,q2⟩:=q;refine thn (h pins s σ H _ I q1) fun f s' r=>?_
 cases f with
 | next=>obtain⟨σ',H',I',r'⟩:=r;exact⟨σ',H',I',q2 σ' H' r'⟩
 | brk=>exact r
 | cont=>exact r
 | ret u=>exact r
end
theorem nX{α β:Type}(f:α->β)(xs:List α)(lo hi:Option Int):dD (xs.map f) lo hi=(dD xs lo hi).map f:=by
 unfold dD;rw [length_map,map_take,map_drop]
theorem rp{α:Type}(l:List α):(dD l none (some (-1))).length=l.length - 1:=by
 unfold dD;rw [length_take,length_drop]
 have e:HT.sIx l.length l.length (some (-1))=l.length - 1:=by
  show (if (-1:Int)<0 then (-1+(l.length:Int)).toNat else min (-1:Int).toNat l.length)=l.length - 1;rw [if_pos (by decide)];omega
 have e0:HT.sIx l.length 0 none=0:=rfl;rw [e,e0];omega
theorem et{x:Str}{c:Addr}:∀(names:List (Str×NameKind)) (n:Nat) (acc:List (Str×Addr)),(cellsFrom n names acc).lookup x=some c->(n<=c/\(x,NameKind.cell)∈names)\/acc.lookup x=some c
 | [],n,acc,h=>.inr h
 | (y,k)::r,n,acc,h=>by
  unfold cellsFrom at h
  split at h
  .rename_i hk;have hk':k=.cell:=by simpa using hk
   subst hk'
   rcases et r (n+1) ((y,n)::acc) h with ⟨h1,h2⟩|h1
   .exact .inl ⟨by omega,mem_cons_of_mem _ h2⟩
   .rw [lookup_cons] at h1
    cases e:x == y with
    | true =>
     rw [e] at h1;have:n=c:=Option.some.inj h1;have ex:x=y:=by simpa using e
     subst ex;exact .inl ⟨by omega,mem_cons_self⟩
    | false=>rw [e] at h1;exact .inr h1
  .rcases et r n acc h with ⟨h1,h2⟩|h1
   .exact .inl ⟨h1,mem_cons_of_mem _ h2⟩
   .exact .inr h1
theorem fJ{x:Str}:∀(names:List (Str×NameKind)) (n:Nat) (acc:List (Str×Addr)),(x,NameKind.cell)∉names->(cellsFrom n names acc).lookup x=acc.lookup x
 | [],_,_,_=>rfl
 | (y,k)::r,n,acc,h=>by
  unfold cellsFrom
  split
  .rename_i hk;have hk':k=.cell:=by simpa using hk
   subst hk';rw [fJ r (n+1) _ (fun z=>h (mem_cons_of_mem _ z)),lookup_cons]
   have:(x == y)=false:=by
    rw [beq_eq_false_iff_ne];intro e;subst e;exact h mem_cons_self
   rw [this]
  .exact fJ r n acc (fun z=>h (mem_cons_of_mem _ z))
theorem fK{x y:Str}{c:Addr}:∀(names:List (Str×NameKind)) (n:Nat) (acc:List (Str×Addr)),(∀z d,acc.lookup z=some d->d<n) ->
  (cellsFrom n names acc).lookup x=some c->(cellsFrom n names acc).lookup y=some c->n<=c->x=y
 | [],n,acc,ha,h1,h2,hc=>absurd (ha x c h1) (not_lt.mpr hc)
 | (z,k)::r,n,acc,ha,h1,h2,hc=>by
  unfold cellsFrom at h1 h2
  split at h1
  .rename_i hk;rw [if_pos hk] at h2
   have ha':∀w d,((z,n)::acc).lookup w=some d->d<n+1:=fun w d e=>by
    rw [lookup_cons] at e
    cases q:w == z with
    | true=>rw [q] at e;cases e;exact lt_succ_self _
    | false=>rw [q] at e;exact lt_succ_of_lt (ha w d e)
   by_cases hcn:n+1<=c
   .exact fK r (n+1) _ ha' h1 h2 hcn
   .have e:c=n:=le_antisymm (not_lt.mp hcn) hc;subst e
    have key:∀w:Str,(cellsFrom (c+1) r ((z,c)::acc)).lookup w=some c->w=z:=fun w hw=>by
     rcases et r (c+1) _ hw with ⟨q,_⟩|q
     .exact absurd q (not_succ_le_self _)
     .rw [lookup_cons] at q
      cases q2:w == z with
      | true=>simpa using q2
      | false=>rw [q2] at q;exact absurd (ha w c q) (Nat.lt_irrefl _)
    rw [key x h1,key y h2]
  .rename_i hk;rw [if_neg hk] at h2;exact fK r n acc ha h1 h2 hc
def i4(env:Env):List (Str×NameKind)->List (Str×Addr)->List (Str×Addr)
 | [],acc=>acc
 | (n,k)::r,acc=>if (k == .free)=true then i4 env r ((n,(env.cells.lookup n).getD 0)::acc) else i4 env r acc
theorem fL{env:Env}{x:Str}{c:Addr}:∀(names:List (Str×NameKind)) (acc:List (Str×Addr)),(i4 env names acc).lookup x=some c->((x,NameKind.free)∈names/\c=(env.cells.lookup x).getD 0)\/acc.lookup x=some c
 | [],acc,h=>.inr h
 | (y,k)::r,acc,h=>by
  unfold i4 at h
  split at h
  .rename_i hk;have hk':k=.free:=by simpa using hk
   subst hk'
   rcases fL r _ h with ⟨h1,h2⟩|h1
   .exact .inl ⟨mem_cons_of_mem _ h1,h2⟩
   .rw [lookup_cons] at h1
    cases e:x == y with
    | true =>
     rw [e] at h1;have ex:x=y:=by simpa using e
     subst ex;exact .inl ⟨mem_cons_self,(Option.some.inj h1).symm⟩
    | false=>rw [e] at h1;exact .inr h1
  .rcases fL r acc h with ⟨h1,h2⟩|h1
   .exact .inl ⟨mem_cons_of_mem _ h1,h2⟩
   .exact .inr h1
theorem i5{env:Env}{x:Str}:∀(names:List (Str×NameKind)) (acc:List (Str×Addr)),((x,NameKind.free)∈names\/(acc.lookup x).isSome=true)->((i4 env names acc).lookup x).isSome=true
 | [],acc,h=>h.elim (fun z=>nomatch z) id
 | (y,k)::r,acc,h=>by
  unfold i4
  split
  .rename_i hk;refine i5 r _ ?_
   by_cases e:(x == y)=true
   .exact .inr (by rw [lookup_cons,e];rfl)
   .rcases h with h|h
    .rcases mem_cons.mp h with z|z
     .cases z;exact absurd (by simp) e
     .exact .inl z
    .exact .inr (by rw [lookup_cons];rw [not_eq_true] at e;rw [e];exact h)
  .rename_i hk;refine i5 r acc ?_
   rcases h with h|h
   .rcases mem_cons.mp h with z|z
    .cases z;exact absurd rfl hk
    .exact .inl z
   .exact .inr h
theorem kt{scope:Scope}{env:Env}(h:∀x∈scope.names,x.2=.free->∃c,env.cells.lookup x.1=some c):closureFor scope env=pure (i4 env scope.names []):=by
 unfold closureFor
 have key:∀(names:List (Str×NameKind)) (acc:List (Str×Addr)),(∀x∈names,x.2=.free->∃c,env.cells.lookup x.1=some c) ->
   (forIn names acc fun (x:Str×NameKind) (r:List (Str×Addr))=>(if (x.2 == NameKind.free)=true then do let y <- cellOf env x.1;pure (ForInStep.yield ((x.1,y)::r)) else pure (ForInStep.yield r):Sem _))=pure (i4 env names acc):=by
  intro names
  induction names with
  | nil=>intro acc _;rfl
  | cons p r ih =>
   intro acc hp;obtain⟨n,k⟩:=p;rw [forIn_cons];have hr:∀x∈r,x.2=.free->∃c,env.cells.lookup x.1=some c:=fun x hx=>hp x (mem_cons_of_mem _ hx);unfold i4
   by_cases hk:(k == NameKind.free)=true
   .obtain⟨c,hc⟩:=hp (n,k) mem_cons_self (by simpa using hk);have hc':env.cells.lookup n=some c:=hc;have e1:cellOf env n=pure c:=by unfold cellOf;rw [hc']
    simp only [hk,if_true];rw [e1,hc'];simp only [pure_bind];exact ih _ hr
   .rw [if_neg hk,if_neg hk];simp only [pure_bind];exact ih _ hr
 have e:=key scope.names [] h;have e2:∀(m:Sem (List (Str×Addr))),(m >>= fun r=>pure r)=m:=fun m=>bind_pure m;rw [<- e]
 first
  | rfl
  | exact (e2 _)
def vT(scope:Scope)(C:Addr)(env:Env):Env :=
 { scope:=relabel scope env,locals:=C,globals:=env.globals,cells:=cellsFrom (C+1) scope.names (i4 env scope.names []),qual:=env.qual,func:=none,code:=env.code,frame:=env.frame,builtins:=env.builtins }
def cT(X:Cx)(N':List Str)(scope:Scope)(s:Shared)(H:Hp)(fp:List Addr)(pins:List (Addr×Obj)):Cx :=
 { X with N:=N',s₀:=s,H₀:=H,env:=vT scope s.heap.objs.size X.env,outer:=X.stack,stack:=X.stack,ex:=fp,fn:=fun x=>decide ((x,NameKind.cell)∈scope.names),pn:=X.pn++pins,xe:=fun _ _=>False }
def nY(sc0:Scope)(N:List Str)(scope:Scope)(N':List Str)(ix:List (Option Nat)):Bool :=
 decide (scope.kind=.function) && scope.names.all (fun y=>(!decide (y.2=.local) || decide (scope.names.lookup y.1=some .local)) &&
  (!decide (y.2=.free) || ((decide (sc0.names.lookup y.1=some .cell) || decide (sc0.names.lookup y.1=some .free)) && !decide ((y.1,NameKind.cell)∈scope.names)))) &&
 decide (N'.length=ix.length) && (N'.zip ix).all (fun p=>match p.2 with|none=>true|some j=>decide (N[j]?=some p.1) && decide (scope.names.lookup p.1=some .free))
structure vU (env:Env) (N:List Str) (scope:Scope) (N':List Str) (ix:List (Option Nat)):Prop where
 kind:scope.kind=.function
 loc:∀y∈scope.names,y.2=.local->scope.names.lookup y.1=some .local
 free:∀y∈scope.names,y.2=.free->(env.kindOf y.1=some .cell\/env.kindOf y.1=some .free)/\(y.1,NameKind.cell)∉scope.names
 len:N'.length=ix.length
 slot:∀(i:Nat) (x:Str) (j:Nat),N'[i]?=some x->ix[i]?=some (some j)->N[j]?=some x/\scope.names.lookup x=some .free
theorem pT{env:Env}{N:List Str}{scope:Scope}{N':List Str}{ix:List (Option Nat)}(h:nY env.scope N scope N' ix=true):vU env N scope N' ix:=by
 unfold nY at h;simp only [and_eq_true,decide_eq_true_eq,all_eq_true] at h;obtain⟨⟨⟨h1,h2⟩,h3⟩,h4⟩:=h
 refine⟨h1,fun y hy e=>?_,fun y hy e=>?_,h3,fun i x j e1 e2=>?_⟩
 .have:=(h2 y hy).1;rw [e] at this;simpa using this
 .have:=(h2 y hy).2;rw [e] at this;simpa [Env.kindOf] using this
 .have hm:(x,some j)∈N'.zip ix:=by
   refine mem_of_getElem? (i:=i) ?_;rw [getElem?_zip_eq_some];exact⟨e1,e2⟩
  have:=h4 _ hm;simpa using this
def rlf(env:Env)(p:Str×NameKind):Str×NameKind:=match p with|(n,k)=>if (k == NameKind.free && env.scope.kind == .function && env.kindOf n == some .cell) then (n,.cell) else (n,k)
theorem vV(env:Env)(n:Str)(k:NameKind):∃k',rlf env (n,k)=(n,k')/\(k'=k\/(k=.free/\k'=.cell)):=by
 unfold rlf
 by_cases c:(k == NameKind.free && env.scope.kind == .function && env.kindOf n == some .cell)=true
 .refine⟨.cell,if_pos c,.inr ⟨?_,rfl⟩⟩;simp only [and_eq_true,beq_iff_eq] at c;exact c.1.1
 .exact⟨k,if_neg c,.inl rfl⟩
theorem sU{env:Env}:∀{names:List (Str×NameKind)}{x:Str},names.lookup x=some .free->(names.map (rlf env)).lookup x=some .cell\/(names.map (rlf env)).lookup x=some .free
 | [],_,h=>by simp at h
 | (n,k)::r,x,h=>by
  have ih:=@sU env r x;obtain⟨k',e,hk'⟩:=vV env n k;rw [map_cons,e]
  cases hx:x == n with
  | true =>
   simp only [lookup_cons,hx] at h ⊢;have hk:k=.free:=Option.some.inj h
   rcases hk' with z|z
   .right;rw [z,hk]
   .left;rw [z.2]
  | false =>
   simp only [lookup_cons,hx] at h ⊢;exact ih h
theorem nZ{env:Env}:∀{names:List (Str×NameKind)}{x:Str}{k':NameKind},(names.map (rlf env)).lookup x=some k'->k'=.cell\/k'=.free->names.lookup x=some .cell\/names.lookup x=some .free
 | [],_,_,h,_=>by simp at h
 | (n,k)::r,x,k',h,hk'=>by
  have ih:=@nZ env r x k';obtain⟨k2,e,hk2⟩:=vV env n k;rw [map_cons,e] at h
  cases hx:x == n with
  | true =>
   simp only [lookup_cons,hx] at h ⊢;have:k2=k':=Option.some.inj h;subst this
   rcases hk2 with z|z
   .rw [<- z]
    rcases hk' with q|q
    .left;rw [q]
    .right;rw [q]
   .right;rw [z.1]
  | false =>
   simp only [lookup_cons,hx] at h ⊢;exact ih h hk'
theorem pU{x:Str}{c:Addr}:∀(names:List (Str×NameKind)) (n:Nat) (acc:List (Str×Addr)),(cellsFrom n names acc).lookup x=some c->(x,c)∈cellsFrom n names []\/acc.lookup x=some c:=by
 have app:∀(names:List (Str×NameKind)) (n:Nat) (acc:List (Str×Addr)),cellsFrom n names acc=cellsFrom n names []++acc:=by
  intro names
  induction names with
  | nil=>intro n acc;rfl
  | cons p r ih =>
   intro n acc;obtain⟨y,k⟩:=p;unfold cellsFrom
   split
   .rw [ih (n+1) ((y,n)::acc),ih (n+1) [(y,n)],append_assoc];rfl
   .exact ih n acc
 intro names n acc h;rw [app] at h;rw [lookup_append] at h
 cases e:(cellsFrom n names []).lookup x with
 | some d =>
  rw [e] at h;have:d=c:=by simpa using h
  subst this;exact .inl (mem_of_lookup e)
 | none=>rw [e] at h;exact .inr (by simpa using h)
def vW(ix:List (Option Nat))(σ:St):St:=ix.map fun o=>match o with
 | none=>none
 | some j=>match σ[j]? with
  | some v=>v
  | none=>none
section
variable {X:Cx}{pins:List (Addr×Obj)}{σ:St}{H:Hp}{s:Shared}
theorem yl{N':List Str}{ix:List (Option Nat)}{scope:Scope}{fp:List Addr}(ok:vU X.env X.N scope N' ix)(I:Inv X pins σ H s)(hf:∀b∈fp,uY X pins H b)(hfl:∀b∈fp,b<s.heap.objs.size) :
  Inv (cT X N' scope s H fp pins) [] (vW ix σ) H { s with heap:=pushCells (s.heap.push { cls:=.type "dict",data:=.dict #[] }) scope.names }:=by
 have hk4:∀b o,s.heap.get? b=some o->(pushCells (s.heap.push { cls:=.type "dict",data:=.dict #[] }) scope.names).get? b=some o:=fun b o e=>pushCells_keeps _ _ b o (Heap.get?_push_of_some _ e)
 have hclo:∀x c,(i4 X.env scope.names []).lookup x=some c->X.env.cells.lookup x=some c:=fun x c e=>by
  rcases fL scope.names [] e with ⟨h1,h2⟩|h1
  .obtain⟨d,hd⟩:=I.ok.has x (ok.free _ h1 rfl).1;rw [hd] at h2 ⊢;rw [h2];rfl
  .cases h1
 have hcl:∀x c,X.env.cells.lookup x=some c->c<s.heap.objs.size:=fun x c e=>by
  obtain⟨v,q⟩:=I.cell x c e;exact q.lt
 have own:=cellsFrom_ok scope.names (s.heap.push { cls:=.type "dict",data:=.dict #[] }) (s.heap.objs.size+1) [] ⟨fun _ _ hm=>(nomatch hm),List.Pairwise.nil⟩ (by rw [Heap.size_push];exact Nat.le_refl _);rw [Heap.size_push] at own
 have cases:∀x c,(cellsFrom (s.heap.objs.size+1) scope.names (i4 X.env scope.names [])).lookup x=some c ->
   ((pushCells (s.heap.push { cls:=.type "dict",data:=.dict #[] }) scope.names).IsCell c none/\s.heap.objs.size+1<=c)\/X.env.cells.lookup x=some c:=fun x c e=>by
  rcases pU _ _ _ e with h|h
  .exact .inl (own.empty x c h)
  .exact .inr (hclo x c h)
 have fs':∀b,b∈frs X.stack->b<s.heap.objs.size:=fun b hb=>by
  rcases mem_cons.mp (I.stkSub b hb) with z|z
  .rw [z];exact I.lt
  .by_cases q:b<s.heap.objs.size
   .exact q
   .exact absurd z (I.nofs (not_lt.mp q))
 have cix:(cT X N' scope s H fp pins).Ok:=by
  refine⟨I.ok.mod,ok.kind,I.ok.glob,I.ok.blt,Nat.le_refl _,fun x y c h1 h2=>?_,fun x hx=>?_,fun x c hx e=>?_,I.ok.hd,I.ok.frames,.inl rfl,fun b hb=>⟨ne_of_lt (hfl b hb),fun x c e=>?_⟩,fun b o e=>I.bs b o e,Nat.le_trans I.ok.bsz I.sz,fun b o e hb=>?_,fun b hb=>?_,I.stack,I.stkFree⟩
  .rcases cases x c h1 with ⟨_,z⟩|z
   .exact fK scope.names _ _ (fun w d e=>lt_succ_of_lt (hcl w d (hclo w d e))) h1 h2 z
   .rcases cases y c h2 with ⟨_,z2⟩|z2
    .exact absurd (hcl x c z) (not_lt.mpr (le_of_succ_le z2))
    .exact I.ok.inj x y c z z2
  .have hx':scope.names.lookup x=some .cell\/scope.names.lookup x=some .free:=by
    rcases hx with z|z
    .exact nZ (env:=X.env) z (.inl rfl)
    .exact nZ (env:=X.env) z (.inr rfl)
   rcases hx' with z|z
   .exact Option.isSome_iff_exists.mp (PySem.W.cellsFrom_some scope.names _ _ (.inl z))
   .exact Option.isSome_iff_exists.mp (PySem.W.cellsFrom_some scope.names _ _ (.inr (i5 _ _ (.inl (mem_of_lookup z)))))
  .have hx':(x,NameKind.cell)∈scope.names:=of_decide_eq_true hx
   rcases cases x c e with ⟨_,z⟩|z
   .exact le_of_succ_le z
   .rcases pU _ _ _ e with h|h
    .exact le_of_succ_le (own.empty x c h).2
    .rcases fL scope.names [] h with ⟨h1,_⟩|h1
     .exact absurd hx' (ok.free _ h1 rfl).2
     .cases h1
  .intro z
   rcases cases x c e with ⟨_,z2⟩|z2
   .rw [z] at z2;exact absurd (hfl b hb) (not_lt.mpr (le_of_succ_le z2))
   .exact (hf b hb).2.2.2.2.1 x c z2 z
  .rcases (hf b hb).2.2.2.1 with z|z
   .exact I.ok.noex b o e z
   .exact absurd (Heap.lt_size (I.ok.bs b o e).1) (not_lt.mpr z)
  .intro z
   rcases mem_cons.mp (I.stkSub b z) with q|q
   .exact (hf b hb).2.1 q
   .exact (hf b hb).2.2.1 q
 refine⟨cix,rfl,I.bare,Un.kept hk4,⟨fun _=>none,?_,fun i x v e1 e2 e3=>?_⟩,fun x c e=>?_,I.hok.fresh (Nat.le_refl _),fun x c e=>?_,fun p hp=>?_,I.hok.kept hk4,?_⟩
 .exact (Heap.Ns.new s.heap (.type "dict")).keeps (pushCells_keeps _ _)
 .have e2':∃j,ix[i]?=some (some j)/\σ[j]?=some (some v):=by
   unfold vW at e2;rw [getElem?_map] at e2
   cases q:ix[i]? with
   | none=>rw [q] at e2;cases e2
   | some o =>
    rw [q] at e2
    cases o with
    | none=>cases (Option.some.inj e2)
    | some j =>
     refine⟨j,rfl,?_⟩;have e2'':(match σ[j]? with|some v=>v|none=>none)=some v:=Option.some.inj e2
     cases r:σ[j]? with
     | none=>rw [r] at e2'';cases e2''
     | some w=>rw [r] at e2'';exact congrArg some e2''
  obtain⟨j,hj,hv⟩:=e2';obtain⟨hN,hfr⟩:=ok.slot i x j e1 hj;have hk:=(ok.free _ (mem_of_lookup hfr) rfl).1
  have hvis:Vis X.env.scope x:=by
   rcases hk with z|z
   .exact .inr (.inl z)
   .exact .inr (.inr z)
  obtain⟨m,hn,hl⟩:=I.loc;obtain⟨u,ru,lk⟩:=hl j x v hN hv hvis
  refine⟨u,ru,.inr ⟨?_,?_⟩⟩
  .exact sU (env:=X.env) hfr
  .rcases lk with ⟨z,_⟩|⟨_,c,hc,hcell⟩
   .rcases hk with q|q
    .rw [z] at q;cases q
    .rw [z] at q;cases q
   .refine⟨c,?_,hcell.keeps hk4⟩;show (cellsFrom (s.heap.objs.size+1) scope.names (i4 X.env scope.names [])).lookup x=some c;rw [fJ scope.names _ _ (ok.free _ (mem_of_lookup hfr) rfl).2];obtain⟨d,hd⟩:=Option.isSome_iff_exists.mp (i5 (env:=X.env) scope.names [] (.inl (mem_of_lookup hfr)));rw [hd,<- hclo x d hd,hc]
 .rcases cases x c e with ⟨z,_⟩|z
  .exact⟨none,z⟩
  .obtain⟨v,q⟩:=I.cell x c z;exact⟨v,q.keeps hk4⟩
 .rcases cases x c e with ⟨_,z⟩|z
  .exact I.hok.fresh (le_of_succ_le z)
  .exact I.freeC x c z
 .have hp':p∈X.pn++pins:=by simpa [cT] using hp
  obtain⟨q1,q2,q3,q4,q5⟩:=I.pin p hp';refine⟨hk4 _ _ q1,q2,ne_of_lt (Heap.lt_size q1),fun z=>?_,q5⟩
  rcases mem_cons.mp (I.stkSub p.1 z) with q|q
  .exact q3 q
  .exact q4 q
 .unfold vW;rw [length_map];exact ok.len.symm
end
section
variable {M:Model}{A:Around}{E:Value->Shared->Prop}{s:Shared}
theorem iK{scope:Scope}{globals:Addr}{cl:List (Str×Addr)}{qual:Str}{func:Option Addr}{code:Value}{env:Env}{Q:Env->Shared->Prop}
  (hQ:Q { scope:=scope,locals:=s.heap.objs.size,globals:=globals,cells:=cellsFrom (s.heap.objs.size+1) scope.names cl,qual:=qual,func:=func,code:=env.code,frame:=env.frame,builtins:=env.builtins }
   { s with heap:=pushCells (s.heap.push { cls:=.type "dict",data:=.dict #[] }) scope.names }) :
  wpAny M A (newFunctionEnv scope globals cl [] qual func code (some env)) Q E s:=by
 simp only [newFunctionEnv,Option.isSome_some,if_true];refine wpAny_bind (wpAny_alloc ?_);refine wpAny_bind (wpAny_layCells _ (fun name kind cells=>by cases hkc:kind == NameKind.cell <;> simp [hkc]) _ _ _ _ ?_);rw [show ({ s with heap:=s.heap.push { cls:=.type "dict",data:=.dict #[] } }:Shared).heap.objs.size=s.heap.objs.size+1 from Heap.size_push ..];simp only [forIn_nil];exact wpAny_bind (wpAny_pure (wpAny_pure hQ))
end
section
variable {prog:Program}{w:World}{A:Around}{R:Result->Shared->Prop}{s:Shared}
theorem pV{elt target iter:Expr}{ifs:List Expr}{scope:Scope}{pos:Pos}{it acc:Value}{env:Env}(I:Nat->Shared->Prop)
  (turn:∀n s,I n s->wpAny (model prog w) A (pyNext it) (fun r s₁=>match r with
   | none=>R (.ok .next) s₁
   | some v=>wpAny (model prog w) A (letOwnedTupleGo target it v) (fun _ s₂=>wpAny (model prog w) A (assign target env v) (fun _ s₃ =>
     wpAny (model prog w) A (forIn ifs true fun c r=>if r=true then do let ok <- isTrue c env (eval c env);pure (ForInStep.yield ok) else pure (ForInStep.yield r)) (fun ok s₄ =>
      if ok=true then wpAny (model prog w) A (eval elt env) (fun x s₅ =>
       wpAny (model prog w) A (call (.builtin "list.append") [acc,x]) (fun _ s₆=>∃m,m<n/\I m s₆) (fun _ _=>False) s₅) (fun _ _=>False) s₄
      else ∃m,m<n/\I m s₄) (fun _ _=>False) s₃) (fun _ _=>False) s₂) (fun _ _=>False) s₁) (fun _ _=>False) s)
  (n:Nat) (h:I n s) :
  codeAny (model prog w) A (.compLoop (.ListComp elt [⟨target,iter,ifs,0⟩] scope pos) 0 it acc env) R s:=by
 refine codeAny_loop rfl I (fun n s hI=>?_) n h;show wpAny _ A ((compTurn (.ListComp elt [⟨target,iter,ifs,0⟩] scope pos) 0 it acc env).onRaise (fun x=>do noteFrame x env;theTreesLotGoes x)) _ _ s;refine wpAny_noted ?_;rw [compTurn_list];refine wpAny_bind (wpAny_standAt (wpAny_bind (wpAny_mono (turn n s hI) (fun r s₁ h₁=>?_) fun _ _ h'=>h'.elim)))
 cases r with
 | none=>exact wpAny_pure h₁
 | some v =>
  refine wpAny_bind (wpAny_mono h₁ (fun _ s₂ h₂=>?_) fun _ _ h'=>h'.elim);refine wpAny_bind (wpAny_mono h₂ (fun _ s₃ h₃=>wpAny_bind (wpAny_mono h₃ (fun ok s₄ h₄=>?_) fun _ _ h'=>h'.elim)) fun _ _ h'=>h'.elim)
  cases ok with
  | false=>exact wpAny_pure ⟨rfl,h₄⟩
  | true =>
   exact wpAny_bind (wpAny_bind (wpAny_mono h₄ (fun x s₅ h₅=>wpAny_bind (wpAny_mono h₅ (fun _ s₆ h₆=>wpAny_pure (wpAny_pure ⟨rfl,h₆⟩)) fun _ _ h'=>h'.elim)) fun _ _ h'=>h'.elim))
end
def PIf(X:Cx)(ifs:List Expr)(t:TT):Prop :=
 ∀(pins:List (Addr×Obj)) (s:Shared) (σ:St) (H:Hp) (Q:Bool->Hp->Prop),Inv X pins σ H s->t σ H Q ->
  wpAny (model X.prog X.w) X.A (forIn ifs true fun c r=>if r=true then do let ok <- isTrue c X.env (eval c X.env);pure (ForInStep.yield ok) else pure (ForInStep.yield r)) (TP X pins σ Q) X.xe s
def gF:TT:=fun _ H Q=>Q true H
section
variable {X:Cx}
theorem bv:PIf X [] gF:=fun _ _ _ H _ I h=>wpAny_tests_nil ⟨H,I,h⟩
theorem dQ{c:Expr}{t:TT}(h:PT X c t):PIf X [c] t:=fun pins s σ H Q I q=>wpAny_tests_one (h pins s σ H Q I q)
end
def mq(ix:List (Option Nat))(wi:TI)(g:TG)(tts:TT)(te:TE):TE:=fun σ H Q=>wi σ H fun J H1=>∀D,H1 D=none->∃W:Nat->Nat->St->Hp->Prop,(∃m,W 0 m (vW ix σ) (upd H1 D (.lst [])))/\∀i m τ H2,W i m τ H2 ->
 (J.stop i H2/\Q (.ref D) H2)\/(J.go i H2/\∀x H3,J.yld i H2 x H3->g x τ H3 fun τ2 H4=>tts τ2 H4 fun ok H5=>if ok=true then te τ2 H5 fun v H6=>∃ys,H6 D=some (.lst ys)/\ys.length<sizeLine/\∃m',m'<m/\W (i+1) m' τ2 (upd H6 D (.lst (ys++[v])))
  else ∃m',m'<m/\W (i+1) m' τ2 H5)
section
variable {X:Cx}{tg iter elt:Expr}{ifs:List Expr}{scope:Scope}{N':List Str}{ix:List (Option Nat)}{wi:TI}{g:TG}{tts:TT}{te:TE}
theorem pW{use:Option (Value->Sem Unit)}{Qf:Value->Shared->Prop}{pos p':Pos}{pins:List (Addr×Obj)}{σ:St}{H:Hp}{s:Shared}{Q:VK}(hc:X.calm=true)(ok:vU X.env X.N scope N' ix)(hi:PI X tg iter wi)
  (blk:∀s H fp pn,PG (cT X N' scope s H fp pn) tg g/\PIf (cT X N' scope s H fp pn) ifs tts/\PE (cT X N' scope s H fp pn) elt te)
  (hs:∀x,foldedSetIterable iter X.env x=pure x) (I:Inv X pins σ H s) (hw:mq ix wi g tts te σ H Q)
  (fin:∀D C H' s',Inv X pins σ H' s'->Q (.ref D) H'->(∃m,s'.heap.Ns C m)->H' C=none->X.s₀.heap.objs.size<=C->C≠X.env.locals->(∀x c,X.env.cells.lookup x=some c->c≠C)->C∉X.fs->(∀p∈X.pn++pins,p.1≠C) ->
   compPost (model X.prog X.w) X.A X.xe use Qf (.ref D) C (.ok .next) s') :
  wpAny (model X.prog X.w) X.A (comprehension (.ListComp elt [⟨tg,iter,ifs,0⟩] scope pos) scope X.env p' (newList []) false (eval iter X.env) use) Qf X.xe s:=by
 have hclos:closureFor scope X.env=pure (i4 X.env scope.names []):=kt fun y hy e=>I.ok.has y.1 (ok.free y hy e).1;refine wpAny_comprehension_free (use:=use) rfl hs hclos ok.kind ok.loc (thn (hi pins s σ H _ I hw) fun v s1 h1=>thn h1 fun itv s2 h2=>?_);obtain⟨it,fp,tn,J,H2,e,I2,T,st2,f2,hW⟩:=h2;subst e;obtain⟨W,⟨m0,w0⟩,turn⟩:=hW s2.heap.objs.size (I2.hok.fresh (Nat.le_refl _))
 have hfl:∀b∈fp,b<s2.heap.objs.size:=fun b hb=>by
  obtain⟨o,e,_⟩:=T.obj 0 _ st2 b hb;exact Heap.lt_size e
 refine wpAny_newObj_type ?_
 have I3:Inv X pins σ (upd H2 s2.heap.objs.size (.lst [])) { s2 with heap:=s2.heap.push { cls:=.type "list",dict:=none,data:=.seq ([]:List Value).toArray } } :=
  I2.laid (t':=s2.toks) (fun b o e=>Heap.get?_push_of_some _ e) (Nat.le_refl _) (show bY X.prog X.w _ _ _ (.lst []) from ⟨zero_le _,[],0,.nil,Heap.get?_push_size _ rfl⟩)
 have st3:tn 0 (s2.heap.push { cls:=.type "list",dict:=none,data:=.seq ([]:List Value).toArray }):=T.keep 0 _ _ st2 fun b _ o e=>Heap.get?_push_of_some _ e;have f3:∀b∈fp,uY X pins (upd H2 s2.heap.objs.size (.lst [])) b:=fun b hb=>⟨by rw [aw (ne_of_lt (hfl b hb))];exact (f2 b hb).1,(f2 b hb).2⟩
 have hfl3:∀b∈fp,b<(s2.heap.push { cls:=.type "list",dict:=none,data:=.seq ([]:List Value).toArray }).objs.size:=fun b hb=>by rw [Heap.size_push];exact lt_succ_of_lt (hfl b hb)
 generalize hs3:({ s2 with heap:=s2.heap.push { cls:=.type "list",dict:=none,data:=.seq ([]:List Value).toArray } }:Shared)=s3 at I3 ⊢;have eh3:s3.heap=s2.heap.push { cls:=.type "list",dict:=none,data:=.seq ([]:List Value).toArray }:=by rw [<- hs3]
 rw [<- eh3] at st3 hfl3;generalize hH3:upd H2 s2.heap.objs.size (.lst [])=H3 at I3 f3 w0;generalize hD:s2.heap.objs.size=D at *;refine iK ?_;have I4:=yl ok I3 f3 hfl3;obtain⟨hg,ht,he⟩:=blk s3 H3 fp pins;have st4:tn 0 (pushCells (s3.heap.push { cls:=.type "dict",data:=.dict #[] }) scope.names):=T.keep 0 _ _ st3 fun b _ o e=>pushCells_keeps _ _ b o (Heap.get?_push_of_some _ e)
 have stat:∀{H':Hp},(∀b∈fp,H' b=none)->∀b∈fp,uY (cT X N' scope s3 H3 fp pins) [] H' b:=fun hn b hb=>by
  refine⟨hn b hb,ne_of_lt (hfl3 b hb),I4.ok.exfs b hb,.inl hb,(I4.ok.exf b hb).2,fun p hp=>?_⟩;have hp':p∈X.pn++pins:=by simpa [cT] using hp
  exact (f2 b hb).2.2.2.2.2 p hp'
 have loop:∀(s4:Shared),Inv (cT X N' scope s3 H3 fp pins) [] (vW ix σ) H3 s4->tn 0 s4.heap ->
   codeAny (model X.prog X.w) X.A (.compLoop (.ListComp elt [⟨tg,iter,ifs,0⟩] scope pos) 0 (.ref it) (.ref D) (vT scope s3.heap.objs.size X.env)) (compPost (model X.prog X.w) X.A X.xe use Qf (.ref D) s3.heap.objs.size) s4:=by
  intro s4 I4 st4;refine pV (fun n s'=>∃i τ H',Inv (cT X N' scope s3 H3 fp pins) [] τ H' s'/\tn i s'.heap/\(∀b∈fp,H' b=none)/\W i n τ H') ?_ m0 ⟨0,_,H3,I4,st4,fun b hb=>(f3 b hb).1,w0⟩;rintro n s5 ⟨i,τ,H5,I5,st5,fr5,w5⟩
  rcases turn i n τ H5 w5 with ⟨stop,qn⟩|⟨go,step⟩
  .refine thn (T.done (cT X N' scope s3 H3 fp pins) rfl rfl rfl hc i [] s5 τ H5 (fun _ _=>False) I5 (stat fr5) st5 stop) fun r s6 ⟨hr,I6⟩=>?_;subst hr;have I7:Inv X pins σ H5 s6:=I3.call' (ch:=fp) I6.os I6.base I6.hok I6.bare fun b hb=>⟨(f2 b hb).2.2.2.1,(f2 b hb).2.1,(f2 b hb).2.2.2.2.1,(f2 b hb).2.2.2.2.2⟩
   obtain⟨m6,hn6,_⟩:=I6.loc
   refine fin D s3.heap.objs.size H5 s6 I7 qn ⟨m6,hn6⟩ I6.free ?_ ?_ ?_ ?_ ?_
   .exact I3.sz
   .exact ne_of_gt I3.lt
   .intro x c e z;obtain⟨v,q⟩:=I3.cell x c e;have:=q.lt;rw [z] at this;exact Nat.lt_irrefl _ this
   .exact I3.nofs (Nat.le_refl _)
   .intro p hp z;have:=Heap.lt_size (I3.pin p hp).1;rw [z] at this;exact Nat.lt_irrefl _ this
  .refine thn (T.item (cT X N' scope s3 H3 fp pins) rfl rfl rfl hc i [] s5 τ H5 (fun _ _=>False) I5 (stat fr5) st5 go) fun r s6 ⟨u,hr,h6⟩=>?_;subst hr;refine thn h6 fun _ s7 ⟨x,H7,I7,r7,y7,st7,fr7⟩=>?_;have I7':=I7.pinned (stat fr7) (T.obj _ _ st7)
   have again:∀{s8:Shared}{τ8:St}{H8:Hp},Inv (cT X N' scope s3 H3 fp pins) ([]++pF fp s7.heap) τ8 H8 s8->(∃m',m'<n/\W (i+1) m' τ8 H8) ->
     ∃m,m<n/\∃i τ H',Inv (cT X N' scope s3 H3 fp pins) [] τ H' s8/\tn i s8.heap/\(∀b∈fp,H' b=none)/\W i m τ H':=fun {s8 τ8 H8} I8 ⟨m',hm,w8⟩=>by
    refine⟨m',hm,i+1,τ8,H8,I8.unpinned,T.keep _ _ _ st7 fun b hb o e=>(I8.pin (b,o) (mem_append_right _ (mem_append_right _ (hX hb e)))).1,fun b hb=>?_,w8⟩;obtain⟨o,e,d⟩:=T.obj _ _ st7 b hb;exact (I8.pin (b,o) (mem_append_right _ (mem_append_right _ (hX hb e)))).2.1
   refine thn (hg _ s7 τ H7 x u _ I7' r7 (step x H7 y7)) fun _ s8 ⟨τ8,H8,I8,q8⟩=>?_;refine thn (ht _ s8 τ8 H8 _ I8 q8) fun okb s9 ⟨H9,I9,q9⟩=>?_
   cases okb with
   | false =>
    rw [if_neg Bool.false_ne_true] at q9;rw [if_neg Bool.false_ne_true];exact again I9 q9
   | true =>
    rw [if_pos rfl] at q9;rw [if_pos rfl];refine thn (he _ s9 τ8 H9 _ I9 q9) fun v10 s10 ⟨x10,H10,I10,r10,q10⟩=>?_;obtain⟨ys,hD10,hz,m',hm,w10⟩:=q10;refine thn (dn (X:=cT X N' scope s3 H3 fp pins) _ s10 τ8 H10 (.ref D) [x10] (.ref D) [v10] (fun _ H'=>∃m',m'<n/\W (i+1) m' τ8 H') I10 rfl (.cons r10 .nil) ⟨D,ys,x10,rfl,rfl,hD10,hz,m',hm,w10⟩) fun _ s11 ⟨_,H11,I11,_,q11⟩=>?_;exact again I11 q11
 exact codeAny_compStart_list (loop _ I4 st4) (T.self X.A 0 _ _ _ st4 (loop _ I4 st4))
theorem bw{pos:Pos}(N':List Str)(ix:List (Option Nat))(hc:X.calm=true)(hi:PI X tg iter wi)
  (blk:∀s H fp pn,PG (cT X N' scope s H fp pn) tg g/\PIf (cT X N' scope s H fp pn) ifs tts/\PE (cT X N' scope s H fp pn) elt te)
  (chk:nY X.env.scope X.N scope N' ix=true) (hs:∀x,foldedSetIterable iter X.env x=pure x:=by intro _;rfl) :
  PE X (.ListComp elt [⟨tg,iter,ifs,0⟩] scope pos) (mq ix wi g tts te):=by
 intro pins s σ H Q I hw;rw [eval_ListComp];refine pW (use:=none) hc (pT chk) hi blk hs I hw fun D C H' s' I' q hm hn h1 h2 h3 h4 h5=>?_;obtain⟨m,hm⟩:=hm;refine⟨m,hm,fun h' sb=>⟨.ref D,H',?_,rfl,q⟩⟩;exact I'.turned (t':=s'.toks) (fun b o hb e=>(sb.2 b hb).trans e) hn h2 (.inr h1) h3 h5
end
section
variable {X:Cx}{tg iter elt:Expr}{ifs:List Expr}{scope:Scope}{N':List Str}{ix:List (Option Nat)}{wi:TI}{g:TG}{tts:TT}{te:TE}
theorem dR{i:Nat}{x:Str}{pos pos' cpos:Pos}(N':List Str)(ix:List (Option Nat))(hN:X.N.Nodup)(hi:X.N[i]?=some x)(hx:Loc X.env.scope x)(hc:X.calm=true)(hit:PI X tg iter wi)
  (blk:∀s H fp pn,PG (cT X N' scope s H fp pn) tg g/\PIf (cT X N' scope s H fp pn) ifs tts/\PE (cT X N' scope s H fp pn) elt te)
  (chk:nY X.env.scope X.N scope N' ix=true) (hsw:swapsWith (.ListComp elt [⟨tg,iter,ifs,0⟩] scope cpos) (some (.Name x pos')) pos.line X.env=pure true:=by rfl)
  (hs:∀x,foldedSetIterable iter X.env x=pure x:=by intro _;rfl) (hf:X.fn x=true\/X.env.scope.names.lookup x=some .local:=by first|exact .inl rfl|exact .inr rfl|assumption) :
  PS X (.Assign [.Name x pos'] (.ListComp elt [⟨tg,iter,ifs,0⟩] scope cpos) pos) (vg (mq ix wi g tts te) (bu i)):=by
 intro pins s σ H D I hw;rw [exec_Assign_Name_used _ _ _ _ hsw];refine wpAny_bind (wpAny_standAt (wpAny_bind ?_));show wpAny _ X.A (do let _ <- comprehension (.ListComp elt [⟨tg,iter,ifs,0⟩] scope cpos) scope X.env _ (newList []) false (eval iter X.env) (some (assign (.Name x pos') X.env))) _ _ s;refine wpAny_bind (thn (pW (use:=some (assign (.Name x pos') X.env)) (Qf:=fun _ s'=>SP X pins D .next s') hc (pT chk) hit blk hs I hw fun D' C H' s' I' q hm hn h1 h2 h3 h4 h5=>?_) fun _ s' q=>wpAny_pure (wpAny_pure q))
 obtain⟨m,oC,es,ep,hoC,hdC,hrC⟩:=hm
 have Ip:Inv X (pins++[(C,oC)]) σ H' s':=I'.pins_of fun p hp=>(mem_append.mp hp).elim (fun z=>I'.pin p (mem_append_right _ z)) fun z=>by
  have e:p=(C,oC):=by simpa using z
  subst e;exact⟨hoC,hn,h2,h4,fun v z=>by rw [hdC] at z;cases z⟩
 refine wpAny_assign_Name (kF (v:=.ref D') Ip hN hi hx rfl (fun s2 I2=>?_) hf);have hC2:s2.heap.get? C=some oC:=(I2.pin (C,oC) (by simp)).1;have I2':Inv X pins (σ.set i (some (.ref D'))) H' s2:=I2.pins_of fun p hp=>I2.pin p (mem_append_right _ (mem_append_left _ hp));refine⟨m,⟨oC,es,ep,hC2,hdC,hrC⟩,fun h' sb=>⟨_,H',?_,q⟩⟩;exact I2'.turned (t':=s2.toks) (fun b o hb e=>(sb.2 b hb).trans e) hn h2 (.inr h1) h3 h5
end
abbrev kH(J:It)(D:Addr)(g:TG)(tts:TT)(te:TE)(τ0:St)(H0:Hp)(Q:Hp->Prop):Prop :=
  ∃W:Nat->Nat->St->Hp->Prop,(∃m,W 0 m τ0 (upd H0 D (.lst [])))/\∀i m τ H2,W i m τ H2 ->
   (J.stop i H2/\Q H2)\/(J.go i H2/\∀x H3,J.yld i H2 x H3->g x τ H3 fun τ2 H4=>tts τ2 H4 fun ok H5=>if ok=true then te τ2 H5 fun v H6=>∃ys,H6 D=some (.lst ys)/\ys.length<sizeLine/\∃m',m'<m/\W (i+1) m' τ2 (upd H6 D (.lst (ys++[v])))
    else ∃m',m'<m/\W (i+1) m' τ2 H5)
theorem vX{J:It}{n:Nat}{xs:Nat->V}{D:Addr}{g:TG}{tts:TT}{te:TE}{τ0:St}{H0:Hp}{Q:Hp->Prop}(Pv:Nat->List V->St->Hp->Prop)(h0:Pv 0 [] τ0 (upd H0 D (.lst [])))
  (hgo:∀i ys τ H,i<n->Pv i ys τ H->J.go i H) (hy:∀i ys τ H x H',i<n->Pv i ys τ H->J.yld i H x H'->H'=H/\x=xs i) (hst:∀ys τ H,Pv n ys τ H->J.stop n H)
  (hs:∀i ys τ H,i<n->Pv i ys τ H->∀(K1:St->V->Hp->Prop) (K2:St->Hp->Prop),(∀τ2 v H6,H6 D=some (.lst ys)->ys.length<sizeLine->Pv (i+1) (ys++[v]) τ2 (upd H6 D (.lst (ys++[v])))->K1 τ2 v H6) ->
   (∀τ2 H5,Pv (i+1) ys τ2 H5->K2 τ2 H5)->g (xs i) τ H fun τ2 H4=>tts τ2 H4 fun ok H5=>if ok=true then te τ2 H5 (fun v H6=>K1 τ2 v H6) else K2 τ2 H5)
  (hd:∀ys τ H,Pv n ys τ H->Q H) :
  kH J D g tts te τ0 H0 Q:=by
 refine⟨fun i m τ H=>m=n - i/\i<=n/\∃ys,Pv i ys τ H,⟨n,by simp,zero_le _,[],h0⟩,?_⟩;rintro i m τ H ⟨rfl,hi,ys,p⟩
 by_cases hlt:i<n
 .refine .inr ⟨hgo i ys τ H hlt p,fun x H3 y=>?_⟩;obtain⟨e1,e2⟩:=hy i ys τ H x H3 hlt p y;subst e1 e2;exact hs i ys τ _ hlt p _ _ (fun τ2 v H6 a b c=>⟨ys,a,b,n - (i+1),by omega,rfl,hlt,_,c⟩) (fun τ2 H5 q=>⟨n - (i+1),by omega,rfl,hlt,ys,q⟩)
 .have e:i=n:=by omega
  subst e;exact .inl ⟨hst ys τ H p,hd ys τ H p⟩
theorem vY{K:PySem.W.Frag}{a:Addr}{xs:List V}{D:Addr}{g:TG}{tts:TT}{te:TE}{τ0:St}{H0:Hp}{Q:Hp->Prop}(Pv:Nat->List V->St->Hp->Prop)(h0:Pv 0 [] τ0 (upd H0 D (.lst [])))
  (hl:∀i ys τ H,i<=xs.length->Pv i ys τ H->SqL K H a xs)
  (hs:∀i x ys τ H,xs[i]?=some x->Pv i ys τ H->∀(K1:St->V->Hp->Prop) (K2:St->Hp->Prop),(∀τ2 v H6,H6 D=some (.lst ys)->ys.length<sizeLine->Pv (i+1) (ys++[v]) τ2 (upd H6 D (.lst (ys++[v])))->K1 τ2 v H6) ->
   (∀τ2 H5,Pv (i+1) ys τ2 H5->K2 τ2 H5)->g x τ H fun τ2 H4=>tts τ2 H4 fun ok H5=>if ok=true then te τ2 H5 (fun v H6=>K1 τ2 v H6) else K2 τ2 H5)
  (hd:∀ys τ H,Pv xs.length ys τ H->Q H):kH (Itl K a) D g tts te τ0 H0 Q :=
 vX (J:=Itl K a) (n:=xs.length) (xs:=fun i=>xs.getD i .non) (D:=D) (g:=g) (tts:=tts) (te:=te) (τ0:=τ0) (H0:=H0) (Q:=Q) Pv h0 (fun i ys τ H hi p=>⟨xs,xs[i],hl i ys τ H (le_of_lt hi) p,getElem?_eq_getElem hi⟩)
  (fun i ys τ H x H' hi p y=>⟨y.1,by rw [getD_eq_getElem?_getD,y.2 xs (hl i ys τ H (le_of_lt hi) p)];rfl⟩) (fun ys τ H p=>⟨xs,hl _ ys τ H (Nat.le_refl _) p,Nat.le_refl _⟩) (fun i ys τ H hi p=>hs i _ ys τ H (by rw [getD_eq_getElem?_getD,getElem?_eq_getElem hi];rfl) p) hd
theorem ym{K:PySem.W.Frag}{a:Addr}{xs:List V}{D:Addr}{g:TG}{tts:TT}{te:TE}{τ0:St}{H0:Hp}{Q:Hp->Prop}(Pv:Nat->List V->St->Hp->Prop)(h0:Pv 0 [] τ0 (upd H0 D (.lst [])))
  (hl:∀i ys τ H,i<=xs.length->Pv i ys τ H->SqT K H a xs)
  (hs:∀i x ys τ H,xs[i]?=some x->Pv i ys τ H->∀(K1:St->V->Hp->Prop) (K2:St->Hp->Prop),(∀τ2 v H6,H6 D=some (.lst ys)->ys.length<sizeLine->Pv (i+1) (ys++[v]) τ2 (upd H6 D (.lst (ys++[v])))->K1 τ2 v H6) ->
   (∀τ2 H5,Pv (i+1) ys τ2 H5->K2 τ2 H5)->g x τ H fun τ2 H4=>tts τ2 H4 fun ok H5=>if ok=true then te τ2 H5 (fun v H6=>K1 τ2 v H6) else K2 τ2 H5)
  (hd:∀ys τ H,Pv xs.length ys τ H->Q H):kH (Itt K a) D g tts te τ0 H0 Q :=
 vX (J:=Itt K a) (n:=xs.length) (xs:=fun i=>xs.getD i .non) (D:=D) (g:=g) (tts:=tts) (te:=te) (τ0:=τ0) (H0:=H0) (Q:=Q) Pv h0 (fun i ys τ H hi p=>⟨xs,xs[i],hl i ys τ H (le_of_lt hi) p,getElem?_eq_getElem hi⟩)
  (fun i ys τ H x H' hi p y=>⟨y.1,by rw [getD_eq_getElem?_getD,y.2 xs (hl i ys τ H (le_of_lt hi) p)];rfl⟩) (fun ys τ H p=>⟨xs,hl _ ys τ H (Nat.le_refl _) p,Nat.le_refl _⟩) (fun i ys τ H hi p=>hs i _ ys τ H (by rw [getD_eq_getElem?_getD,getElem?_eq_getElem hi];rfl) p) hd
def zK(p:Addr)(a b c:Int):HO:=.ext fun h=>∃t u v,IsRange h p a b c t u v
def rq(a c:Int)(n:Nat):List V:=(List.range n).map fun (k:Nat)=>V.int (a+k*c)
theorem uz{a c:Int}{n:Nat}{acc:Array Value}(h:ItemsOf (fun i v=>∃t,v=.int (a+i*c) t) acc n):bW (rq a c n) acc.toList:=by
 obtain⟨hn,hi⟩:=h
 have key:∀(m:Nat) (us:List Value) (f:Nat->Int),us.length=m->(∀i u,us[i]?=some u->∃t,u=Value.int (f i) t)->bW ((List.range m).map fun k=>V.int (f k)) us:=by
  intro m
  induction m with
  | zero=>intro us f hl _;rw [length_eq_zero_iff] at hl;subst hl;exact .nil
  | succ m ih =>
   intro us f hl hu
   cases us with
   | nil=>simp at hl
   | cons u r =>
    rw [range_succ_eq_map,map_cons,map_map];refine .cons (hu 0 u rfl) (ih r (fun k=>f (k+1)) (by simpa using hl) fun i v e=>hu (i+1) v (by simpa using e))
 refine key n acc.toList (fun k=>a+k*c) (by simpa using hn) fun i u e=>?_;exact hi i u (by simpa using e)
theorem vZ(a c:Int)(n:Nat):(rq a c n).length=n:=by simp [rq]
section
variable {X:Cx}
theorem yn{pins:List (Addr×Obj)}{σ:St}{H:Hp}{s:Shared}{a b c:Int}{t u v:Tok}{tk:Nat}(I:Inv X pins σ H s) :
  Inv X pins σ (upd H s.heap.objs.size (zK s.heap.objs.size a b c)) { s with heap:=s.heap.push { cls:=.type "range",data:=.fields #[.int a t,.int b u,.int c v] },toks:=tk }:=by
 refine I.laid (fun b o e=>Heap.get?_push_of_some _ e) (Nat.le_refl _) ⟨⟨t,u,v,IsRange.new ..⟩,⟨_,Heap.get?_push_size _ rfl⟩,fun h1 h2 ⟨t,u,v,z⟩ k=>⟨t,u,v,k _ z⟩⟩
theorem v8{a:Expr}{ta:TA}{p pos:Pos}(hg:Gl X "range")(hm:X.mg "range"=none)(ha:PA X [a] ta)(hs:starEach [a] X.env=[(false,eval a X.env)]:=by rfl) :
  PE X (.Call (.Name "range" p) [a] [] pos) (fun σ H Q=>ta σ H fun vs H1=>∃j:Int,vs=[.int j]/\∀p,H1 p=none->Q (.ref p) (upd H1 p (zK p 0 j 1))):=by
 intro pins s σ H Q I h;refine Call_ (ik I hg hm boot_range (PyProof.Rows.callWith_type1 (thn (ha pos pins s σ H _ I h) fun us s1 ⟨vs,H1,I1,r1,q1⟩=>?_) hs rfl));obtain⟨j,e,q⟩:=q1;subst e
 cases r1 with
 | cons r rr =>
  cases rr;obtain⟨t,rfl⟩:=r;exact call_range_1 ⟨.ref s1.heap.objs.size,_,yn I1,rfl,q _ (I1.hok.fresh (Nat.le_refl _))⟩
def Fz(K:PySem.W.Frag)(mk:List V->HO):List V->Hp->VK->Prop:=fun xs H Q=>∃p a b c n,xs=[.ref p]/\H p=some (zK p a b c)/\Builtin.Range.small a b c=true/\Builtin.Range.rangeSize a b c=((n:Nat):Int)/\n<=1000000/\∀l,H l=none->Q (.ref l) (upd H l (mk (rq a c n)))
theorem uA(hc:X.calm=true):cu X (.type "list") (Fz X.K .lst):=by
 intro pins s σ H xs us Q I r h;obtain⟨p,a,b,c,n,rfl,hp,hsm,hsz,hn,q⟩:=h;obtain⟨u,rfl,rx⟩:=iJ r;cases rx;obtain⟨⟨t,u,v,hr⟩,_,_⟩:=(show bY X.prog X.w H s.heap p (zK p a b c) from I.hok p _ hp)
 have hs:sizeLine=16777216:=sizeLine_eq;refine call_list_range (I.ok.hd hc) hr hsm hsz (by omega) fun h' tk acc c' hk e hacc=>?_;exact⟨.ref s.heap.objs.size,_,I.laid (t':=tk) hk (Nat.le_refl _) (show bY X.prog X.w _ h' _ (.lst (rq a c n)) from ⟨by rw [vZ];omega,acc.toList,c',uz hacc,by simpa using e⟩),rfl,q _ (I.hok.fresh (Nat.le_refl _))⟩
theorem i6{α β:Type}{g:α->Option β}{h:α->β}:∀{xs:List α},(∀x∈xs,g x=some (h x))->xs.filterMap g=xs.map h
 | [],_=>rfl
 | x::r,hx=>by rw [filterMap_cons,hx x mem_cons_self,map_cons,i6 fun y hy=>hx y (mem_cons_of_mem _ hy)]
theorem FA(l:List Nat)(u:Tok):Txt.sliceBy (S l) none none (-1,u)=S l.reverse:=by
 have e1:((slicePicked (S l) none none (some (-1,u))).filterMap ((S l).cps[·]?))=l.reverse:=by
  unfold slicePicked Builtin.Str.strSliceIndices sliceRange;simp only [Option.map_some,Option.getD_some,Option.map_none,show ¬ ((-1:Int) > 0) by decide,if_false];rw [gy]
  have ec:(if ((l.length:Int) - 1 > -1) then ((l.length:Int) - 1 - -1 - -1 - 1) / (- -1) else 0).toNat=l.length:=by
   have:(- -1:Int)=1:=by decide
   rw [this,ediv_one];split <;> omega
  rw [ec]
  have e:((List.range l.length).map fun (k:Nat)=>((l.length:Int) - 1+-1*(k:Int)).toNat)=(List.range l.length).map fun k=>l.length - 1 - k:=by
   apply map_congr_left;intro k _;omega
  rw [e];have e2:(fun i:Nat=>(S l).cps[i]?)=fun i:Nat=>l[i]?:=by funext i;simp [S]
  rw [e2];apply ext_getElem?;intro i;rw [filterMap_map]
  have hall:∀x∈List.range l.length,((fun i:Nat=>l[i]?) ∘ fun k=>l.length - 1 - k) x=some (fn l (l.length - 1 - x)):=fun x hx=>by
   have hx':x<l.length:=mem_range.mp hx;have hx2:l.length - 1 - x<l.length:=by omega
   exact zJ hx2
  rw [i6 hall]
  by_cases hi:i<l.length
  .rw [getElem?_map,getElem?_range hi,getElem?_reverse hi,zJ (by omega)];rfl
  .rw [getElem?_eq_none (by simp;omega),getElem?_eq_none (by simp;omega)]
 unfold Txt.sliceBy;rw [if_neg (by simp),e1];rfl
end
theorem wb:typeLookup (.type "list_reverseiterator") "__len__"=pure none:=by rw [typeLookup_type,builtinLookup_eq_fast];kernel_rfl
theorem yo:typeLookup (.type "list_reverseiterator") "__length_hint__"=pure (some (.builtin "list_reverseiterator.__length_hint__")):=by rw [typeLookup_type,builtinLookup_eq_fast];kernel_rfl
section
variable {prog:Program}{w:World}{A:Around}{E:Value->Shared->Prop}{s:Shared}{I l:Addr}{items:Array Value}
theorem yp{Q:Bool->Shared->Prop}{i:Int}(hit:s.heap.IsRevIter I l i)(h:Q false s):wpAny (model prog w) A (Builtin.List.listLengthHint (.ref I)) Q E s:=by
 unfold Builtin.List.listLengthHint;refine wpAny_bind (wpAny_specialOf hit.typeIs wb ?_);show wpAny _ A (specialOf (Value.ref I) (Str.ofString "__length_hint__") >>= _) _ _ _;refine wpAny_bind (wpAny_specialOf hit.typeIs yo ?_)
 (generalize hid:("list_reverseiterator.__length_hint__":String)=id0;(fail_if_success (clear hid id0));wp_delta;rw [show splitId id0=some ("list_reverseiterator","__length_hint__") from by subst hid;decide +kernel];subst hid)
 refine wpAny_bind (wpAny_isInstance (b:=true) hit.typeIs (by rw [isSubtype_type];kernel_rfl) ?_);exact wpAny_pure h
theorem uB{R:Result->Shared->Prop}(hh:A.handled=none)(hit:s.heap.IsRevIter I l ((items.size:Int) - 1))(hl:s.heap.IsList l items)(hlI:l≠I)(hsz:items.size<=sizeLine)(Sx:Addr)(res:Value)(c₀:Nat)
  (hS:s.heap.get? Sx=some { cls:=.type "list",data:=.seq #[] c₀ }) (hSI:Sx≠I) (hSl:Sx≠l)
  (hR:∀h' tk acc' c',(∀b o,b≠Sx->b≠I->s.heap.get? b=some o->h'.get? b=some o)->h'.get? Sx=some { cls:=.type "list",dict:=none,data:=.seq acc' c',slots:=#[] } ->
   ItemsOf (fun i v=>items[items.size - 1 - i]?=some v) acc' items.size->R (.ok (.ret res)) { s with heap:=h',toks:=tk }) :
  wpAny (model prog w) A.in1 (Builtin.List.listExtendWith (.ref Sx) (.ref I) res)
   (fun fin s'=>match fin with|.done f=>R (.ok f) s'|.again c'=>c'.quiet=true/\codeAny (model prog w) A c' R s') (fun e s'=>R (.error e) s') s:=by
 have hSf:Sx∉[I,l]:=fun hm=>by
  rcases mem_cons.mp hm with e|e
  .exact hSI e
  .exact hSl (mem_singleton.mp e)
 have W:=(Walks.listRev (prog:=prog) (w:=w) (A:=A.in1) hh I l hlI items).toS;unfold Builtin.List.listExtendWith;refine wpAny_bind (wpAny_typeOf (T:="list_reverseiterator") hit.typeIs ?_);have h1:Builtin.List.listSameRef (.ref Sx) (.ref I)=false:=by simp [Builtin.List.listSameRef,hSI]
 have h2:(Value.type "list_reverseiterator" == Value.type "list")=false:=by decide
 have h3:(Value.type "list_reverseiterator" == Value.type "tuple")=false:=by decide
 simp only [h1,h2,h3,Bool.or_false,false_eq_true,if_false];refine wpAny_bind (wpAny_pyIter_revIter hit ?_);refine wpAny_bind (wpAny_holding (yp hit ?_));refine wpAny_ite_split (fun hab=>absurd hab (by decide)) (fun _=>?_);refine wpAny_pure ⟨plainId_quiet F.plain_extend_loop _,codeAny_extend_loopS W hsz Sx hSf res items.size 0 _ #[] c₀ rfl (zero_le _) ⟨zero_le _,by simpa using hit,hl⟩ hS (ItemsOf.nil _) fun s' acc' c' hm hS' hacc=>?_⟩
 rw [Moved.eq_with hm];refine hR s'.heap s'.toks acc' c' (fun b o hb hbI e=>hm.heap b o (fun hmem=>?_) e) hS' hacc
 rcases mem_cons.mp hmem with e'|hmem
 .exact hb e'
 .exact hbI (mem_singleton.mp hmem)
theorem n5{R:Result->Shared->Prop}(hh:A.handled=none)(hit:s.heap.IsRevIter I l ((items.size:Int) - 1))(hl:s.heap.IsList l items)(hlI:l≠I)(hsz:items.size<=sizeLine)(Sx:Addr)
  (hS:s.heap.get? Sx=some { cls:=.type "list",data:=.seq #[] }) (hSI:Sx≠I) (hSl:Sx≠l)
  (hR:∀h' tk acc' c',(∀b o,b≠Sx->b≠I->s.heap.get? b=some o->h'.get? b=some o)->h'.get? Sx=some { cls:=.type "list",dict:=none,data:=.seq acc' c',slots:=#[] } ->
   ItemsOf (fun i v=>items[items.size - 1 - i]?=some v) acc' items.size->R (.ok (.ret .none)) { s with heap:=h',toks:=tk }) :
  wpAny (model prog w) A.in1 (Builtin.«list.__init__» ⟨[.ref Sx,.ref I],[]⟩)
   (fun fin s'=>match fin with|.done f=>R (.ok f) s'|.again c'=>c'.quiet=true/\codeAny (model prog w) A c' R s') (fun e s'=>R (.error e) s') s:=by
 show wpAny _ _ (do let old <- Builtin.List.listItems (.ref Sx);Builtin.List.listUpdate (.ref Sx) (fun _=>#[]);letGo old.toList.reverse;Builtin.List.listExtendWith (.ref Sx) (.ref I) .none) _ _ s;refine wpAny_bind ?_;unfold Builtin.List.listItems;refine wpAny_bind (wpAny_seqItems hS rfl (wpAny_pure ?_));show wpAny _ _ (updateSeq Sx (fun _=>#[]) >>= fun _=>letGo (#[]:Array Value).toList.reverse >>= fun _=>Builtin.List.listExtendWith (.ref Sx) (.ref I) .none) _ _ s
 refine wpAny_bind (wpAny_updateSeq hS rfl ?_);have hS₂:=Heap.get?_update_self (Obj.mapSeq (fun _=>(#[]:Array Value))) hS rfl
 have oth:∀b o,b≠Sx->s.heap.get? b=some o->(s.heap.update Sx (Obj.mapSeq (fun _=>(#[]:Array Value)))).get? b=some o :=
  fun b o hb e=>(Heap.get?_update_other _ _ (Ne.symm hb)).trans e
 refine wpAny_bind (wpAny_letGo ?_);refine uB hh (hit.at fun o e=>oth I o (Ne.symm hSI) e) (hl.at fun o e=>oth l o (Ne.symm hSl) e) hlI hsz Sx .none _ hS₂ hSI hSl fun h' tk acc' c' hk hS' hacc=>?_;exact hR h' tk acc' c' (fun b o hb hbI e=>hk b o hb hbI (oth b o hb e)) hS' hacc
theorem n6{Q:Value->Shared->Prop}(hh:A.handled=none)(hit:s.heap.IsRevIter I l ((items.size:Int) - 1))(hl:s.heap.IsList l items)(hlI:l≠I)(hsz:items.size<=sizeLine)
  (hQ:∀h' tk acc' c',(∀b o,b≠I->s.heap.get? b=some o->h'.get? b=some o) ->
   h'.get? s.heap.objs.size=some { cls:=.type "list",dict:=none,data:=.seq acc' c',slots:=#[] }->ItemsOf (fun i v=>items[items.size - 1 - i]?=some v) acc' items.size->Q (.ref s.heap.objs.size) { s with heap:=h',toks:=tk }) :
  wpAny (model prog w) A (call (.type "list") [.ref I]) Q E s:=by
 refine callType_codes (Q₁:=fun obj s₁=>obj=.ref s.heap.objs.size/\s₁={ s with heap:=s.heap.push { cls:=.type "list",data:=.seq #[] } }) F.called_list (F.typeCall_list_1 _) F.entry_list_init
  (code_list_new _ ⟨rfl,rfl⟩) fun obj s₁ h₁=>?_
 obtain⟨rfl,rfl⟩:=h₁;have hS:(s.heap.push { cls:=.type "list",data:=.seq #[] }).get? s.heap.objs.size=some { cls:=.type "list",data:=.seq #[] }:=Heap.get?_push_size _ rfl
 have hSI:s.heap.objs.size≠I:=by
  obtain⟨o,ho,_⟩:=hit;exact ne_of_gt (Heap.lt_size ho)
 have hSl:s.heap.objs.size≠l:=by
  obtain⟨o,ho,_⟩:=hl;exact ne_of_gt (Heap.lt_size ho)
 refine⟨⟨_,hS,rfl⟩,F.args_list_init_2 _ _,n5 (A:=A.in1) hh (hit.at fun o e=>Heap.get?_push_of_some _ e) (hl.push _) hlI hsz _ hS hSI hSl fun h' tk acc' c' hk hS' hacc=>?_⟩;exact⟨rfl,hQ h' tk acc' c' (fun b o hb e=>hk b o (ne_of_lt (Heap.lt_size e)) hb (Heap.get?_push_of_some _ e)) hS' hacc⟩
end
theorem yq{xs:List V}{its:List Value}(r:bW xs its){acc:Array Value}(h:ItemsOf (fun i v=>its.toArray[its.toArray.size - 1 - i]?=some v) acc its.toArray.size):bW xs.reverse acc.toList:=by
 have e:acc.toList=its.reverse:=by
  obtain⟨hn,hi⟩:=h;apply ext_getElem?;intro i
  by_cases hil:i<its.length
  .have hia:i<acc.size:=by rw [hn];simpa using hil
   have:=hi i acc[i] (by simp);rw [getElem?_reverse hil];have e1:acc.toList[i]?=some acc[i]:=by simp
   rw [e1,<- this];simp
  .have hna:acc.toList.length=its.length:=by simpa using hn
   rw [getElem?_eq_none (by omega),getElem?_eq_none (by rw [length_reverse];omega)]
 rw [e];exact r.reverse
section
variable {X:Cx}{e:Expr}{te:TE}{p p1 p2 pos:Pos}
theorem uC(hc:X.calm=true)(he:PE X e te)(hg1:Gl X "list")(hm1:X.mg "list"=none)(hg2:Gl X "reversed")(hm2:X.mg "reversed"=none)
  (hs:starEach [.Call (.Name "reversed" p1) [e] [] p2] X.env=[(false,eval (.Call (.Name "reversed" p1) [e] [] p2) X.env)]:=by rfl) (hs2:starEach [e] X.env=[(false,eval e X.env)]:=by rfl) :
  PE X (.Call (.Name "list" p) [.Call (.Name "reversed" p1) [e] [] p2] [] pos) (fun σ H Q=>te σ H fun x H1=>∃a xs,x=.ref a/\SqL X.K H1 a xs/\∀l,H1 l=none->Q (.ref l) (upd H1 l (.lst xs.reverse))):=by
 intro pins s σ H Q I h;refine Call_ (ik I hg1 hm1 boot_list (PyProof.Rows.callWith_type1 ?_ hs rfl));rw [hs];show wpAny _ _ (spliced ((false,eval (.Call (.Name "reversed" p1) [e] [] p2) X.env)::backTo pos [])) _ _ s;refine Calls.spliced_cons ?_;refine Call_ (ik I hg2 hm2 boot_reversed (PyProof.Rows.callWith_type1 ?_ hs2 rfl));rw [hs2];show wpAny _ _ (spliced ((false,eval e X.env)::backTo p2 [])) _ _ s
 refine Calls.spliced_cons (thn (he pins s σ H _ I h) fun u s1 ⟨x,H1,I1,r1,q1⟩=>Calls.spliced_nil ?_);obtain⟨a,xs,rfl,hS,q⟩:=q1;cases r1;obtain⟨its,rv,pl,hz⟩:=I1.list hS;have hlen:=rv.length;refine call_reversed_list pl.isList ?_;refine Calls.spliced_nil ?_
 have hal:a<s1.heap.objs.size:=by
  obtain⟨o,ho,_⟩:=pl.isList;exact Heap.lt_size ho
 have I2:Inv X pins σ H1 { s1 with heap:=s1.heap.push (revObj a ((its.toArray.size:Int) - 1)) }:=I1.kept (t':=s1.toks) fun b o e=>Heap.get?_push_of_some _ e;refine n6 (I1.ok.hd hc) (I:=s1.heap.objs.size) (l:=a) (items:=its.toArray) ⟨_,Heap.get?_push_size _ rfl,rfl,rfl⟩ (pl.isList.push _) (ne_of_lt hal) (by rw [size_toArray];omega) fun h' tk acc' c' hk eL hacc=>?_;have hfI:=I1.fpOk (H':=H1) (Nat.le_refl s1.heap.objs.size) (I1.hok.fresh (Nat.le_refl _))
 obtain⟨f0,f1,f2,f3,f4,f5⟩:=hfI;have hLn:H1 (s1.heap.push (revObj a ((its.toArray.size:Int) - 1))).objs.size=none:=I2.hok.fresh (Nat.le_refl _);have hLlt:∀b o,(s1.heap.push (revObj a ((its.toArray.size:Int) - 1))).get? b=some o->b≠(s1.heap.push (revObj a ((its.toArray.size:Int) - 1))).objs.size:=fun b o e=>ne_of_lt (Heap.lt_size e);have nit:∀b u,H1 b=some u->b≠s1.heap.objs.size:=fun b u e z=>by rw [z,f0] at e;cases e
 have neL:∀b u,H1 b=some u->b≠(s1.heap.push (revObj a ((its.toArray.size:Int) - 1))).objs.size:=fun b u e z=>by rw [z,hLn] at e;cases e
 have hokT:HOk X.prog X.w H1 h':=fun b u e=>by
  refine (I2.hok b u e).stay (fun c v hc q=>hk c v ?_ q) (fun _ q=>q) fun _ _ q=>q
  rcases hc with z|z
  .rw [z];exact nit b u e
  .exact nit c _ z
 refine⟨.ref _,upd H1 (s1.heap.push (revObj a ((its.toArray.size:Int) - 1))).objs.size (.lst xs.reverse),?_,rfl,q _ hLn⟩
 refine I2.step (g':=s1.gens) (d':=s1.drawn) (t':=tk) (ch:=[s1.heap.objs.size]) (fun b hb=>?_) (fun b o _ _ hc e _=>hk b o (fun z=>hc (by simp [z])) e) (fun b o _ _ hc e _=>⟨o.slots,hk b o (fun z=>hc (by simp [z])) e⟩)
  (fun b o _ e n=>by rw [aw (hLlt b o e)];exact n) (fun b o hc e=>⟨o,hk b o (fun z=>hc (by simp [z])) e⟩) (fun b ys e=>by rw [aw (neL b _ e)];exact e) (fun b o u e=>by rw [aw (neL b _ e)];exact e)
  (fun b ps e=>⟨#[],by rw [aw (neL b _ e),e];simp⟩) (fun m hm=>?_) ?_ I2.bare
 .have e:b=s1.heap.objs.size:=by simpa using hb
  subst e;exact⟨f3,f1,f4,f5⟩
 .obtain⟨o,es,ep,ho,r⟩:=hm;exact⟨o,es,ep,hk _ o (Ne.symm f1) ho,r⟩
 .intro b u e
  by_cases hb:b=(s1.heap.push (revObj a ((its.toArray.size:Int) - 1))).objs.size
  .subst hb;rw [aF] at e;cases e;exact⟨by rw [length_reverse];exact hz,acc'.toList,c',yq rv hacc,by simpa using eL⟩
  .rw [aw hb] at e
   refine (hokT b u e).stay (fun c v _ q=>q) (fun c q=>?_) fun c ys q=>?_
   .rw [aw (neL c _ q)];exact q
   .rw [aw (neL c _ q)];exact q
end
def la(k:Bool)(h:Heap)(a:Addr)(its:Array Value):Prop:=∃o,h.get? a=some o/\o.cls=.type (cond k "tuple" "list")/\∃n,o.data=.seq its n
def i8(k:Bool)(h:Heap)(it a:Addr)(i:Nat):Prop:=∃o,h.get? it=some o/\o.cls=.type (cond k "tuple_iterator" "list_iterator")/\o.data=.fields #[.ref a,.int i 0]
theorem la.mv{k:Bool}{h h':Heap}{a:Addr}{its:Array Value}(r:la k h a its)(f:∀o,h.get? a=some o->h'.get? a=some o):la k h' a its:=let ⟨o,e,q⟩:=r;⟨o,f o e,q⟩
theorem i8.mv{k:Bool}{h h':Heap}{it a:Addr}{i:Nat}(r:i8 k h it a i)(f:∀o,h.get? it=some o->h'.get? it=some o):i8 k h' it a i:=let ⟨o,e,q⟩:=r;⟨o,f o e,q⟩
section
variable {P:Program}{w:World}{A:Around}{E:Value->Shared->Prop}{s:Shared}{k:Bool}{it a:Addr}{i:Nat}{its:Array Value}
theorem pX{x:Value}{Q:Value->Shared->Prop}(W:s.heap.IsTupleIter it a i)(R:s.heap.IsTuple a its)(hx:its[i]?=some x)
  (hQ:∀h',h'.IsTupleIter it a (i+1)->Heap.SameBut it s.heap h'->Q x { s with heap:=h' }):wpAny (model P w) A (Builtin.SmallTypes.nextOf (.ref it)) Q E s:=by
 have hT:=W.typeIs;obtain⟨o,ho,c,d⟩:=W;obtain⟨ol,hol,_,nl,dl⟩:=R;unfold Builtin.SmallTypes.nextOf;refine wpAny_bind (wpAny_callSpecial?_slot (name:=Str.ofString "__next__") hT F.slot_tuple_iterator_next (wpAny_call_entry F.slot_tuple_iterator_next hT F.entry_tuple_iterator_next ?_ (F.args_tuple_iterator_next_1 _)));refine wpAny_bind (m:=field (.ref it) 0) (wpAny_field ho d (x:=.ref a) rfl ?_);have nn:¬ ((Value.ref a == Value.none)=true):=Bool.false_ne_true
 show wpAny _ _ (if (Value.ref a == Value.none)=true then _ else _) _ _ s;rw [if_neg nn];refine wpAny_bind (m:=field (.ref it) 1) (wpAny_field ho d (x:=.int i 0) rfl ?_);refine wpAny_bind (m:=seqItems? (.ref a)) (wpAny_seqItems hol dl ?_);simp only [toNat_natCast,hx];exact wpAny_bind (wpAny_setField ho d (by simp) (wpAny_pure ⟨x,rfl,wpAny_pure (hQ _ ⟨_,Heap.get?_update_self _ ho (Obj.isFreed_of_fields (Obj.data_mapFields d _)),(Obj.cls_mapFields ..).trans c,by rw [Obj.data_mapFields d];simp [rawInt]⟩ (Heap.SameBut.update ..))⟩))
theorem rz{Q:Value->Shared->Prop}(hh:A.handled=none)(W:s.heap.IsTupleIter it a i)(R:s.heap.IsTuple a its)(hx:its[i]?=none)
  (hE:∀h' e,Heap.ExtBut it s.heap h'->(∃o,h'.get? e=some o/\o.cls=.type "StopIteration")->E (.ref e) { s with heap:=h' }):wpAny (model P w) A (Builtin.SmallTypes.nextOf (.ref it)) Q E s:=by
 have hT:=W.typeIs;obtain⟨o,ho,c,d⟩:=W;obtain⟨ol,hol,_,nl,dl⟩:=R;unfold Builtin.SmallTypes.nextOf;refine wpAny_bind (wpAny_callSpecial?_slot (name:=Str.ofString "__next__") hT F.slot_tuple_iterator_next (wpAny_call_entry F.slot_tuple_iterator_next hT F.entry_tuple_iterator_next ?_ (F.args_tuple_iterator_next_1 _)));refine wpAny_bind (m:=field (.ref it) 0) (wpAny_field ho d (x:=.ref a) rfl ?_);have nn:¬ ((Value.ref a == Value.none)=true):=Bool.false_ne_true
 show wpAny _ _ (if (Value.ref a == Value.none)=true then _ else _) _ _ s;rw [if_neg nn];refine wpAny_bind (m:=field (.ref it) 1) (wpAny_field ho d (x:=.int i 0) rfl ?_);refine wpAny_bind (m:=seqItems? (.ref a)) (wpAny_seqItems hol dl ?_);simp only [toNat_natCast,hx];refine wpAny_bind (wpAny_rule (wpAny_bind (wpAny_setField ho d (by simp) (wpAny_bind (m:=newExc (.type "StopIteration") []) ?_))));simp only [newExc,newTuple]
 refine wpAny_bind (wpAny_newObj_type (wpAny_bind (m:=firstArgMember _ _) (wpAny_of_eq (a:=Value.none) (by first|rfl|(simp only [firstArgMember];rfl)) (wpAny_newObj_type ?_ (by size_fits)))) (by size_fits));simp only [raiseNew];refine wpAny_bind (wpAny_handled ?_)
 first|rw [show A.in1.handled=none from hh]|rw [hh]
 exact wpAny_bind (wpAny_pure (wpAny_throw (hE _ _ (((Heap.SameBut.update ..).extBut.push _).push _) ⟨_,Heap.get?_push_size _ rfl,rfl⟩)))
theorem pY{x:Value}{Q:Value->Shared->Prop}(W:i8 k s.heap it a i)(R:la k s.heap a its)(hx:its[i]?=some x)
  (hQ:∀h',i8 k h' it a (i+1)->Heap.SameBut it s.heap h'->Q x { s with heap:=h' }):wpAny (model P w) A (Builtin.SmallTypes.nextOf (.ref it)) Q E s:=by
 cases k with
 | false=>exact wpAny_nextOf_list_item W R hx hQ
 | true=>exact pX W R hx hQ
theorem lb{Q:Value->Shared->Prop}(hh:A.handled=none)(W:i8 k s.heap it a i)(R:la k s.heap a its)(hx:its[i]?=none)
  (hE:∀h' e,Heap.ExtBut it s.heap h'->(∃o,h'.get? e=some o/\o.cls=.type "StopIteration")->E (.ref e) { s with heap:=h' }):wpAny (model P w) A (Builtin.SmallTypes.nextOf (.ref it)) Q E s:=by
 cases k with
 | false=>exact wpAny_nextOf_list_end hh W R hx hE
 | true=>exact rz hh W R hx hE
end
def Sq(k:Bool)(K:PySem.W.Frag)(H:Hp)(a:Addr)(xs:List V):Prop:=cond k (SqT K H a xs) (SqL K H a xs)
section
variable {X:Cx}{pins:List (Addr×Obj)}{σ:St}{H:Hp}{s:Shared}{k l:Bool}{a b c:Addr}{xs ys:List V}
theorem Inv.row(I:Inv X pins σ H s)(h:Sq k X.K H a xs):∃its:List Value,bW xs its/\la k s.heap a its.toArray/\xs.length<=sizeLine:=by
 cases k with
 | false=>obtain⟨its,r,p,z⟩:=I.list h;exact⟨its,r,p.isList,z⟩
 | true=>obtain⟨its,r,p,z⟩:=I.tuple h;exact⟨its,r,p,z⟩
theorem Inv.row_inj(I:Inv X pins σ H s)(h:Sq k X.K H a xs)(h':Sq k X.K H a ys):xs=ys:=by
 cases k with
 | false=>exact I.list_inj h h'
 | true=>exact I.tuple_inj h h'
theorem wc{u:HO}(r:Rd H a u):∃v,H a=some v:=by
 rcases r with r|⟨o,r⟩ <;> exact⟨_,r⟩
theorem Inv.row_ne(I:Inv X pins σ H s)(h:Sq k X.K H a xs)(f:uY X pins H b):a≠b:=by
 have kk:∀o,X.K.lookup a=some o->a≠b:=fun o e z=>by
  have e1:=I.ok.mod.kin a o e
  rcases f.2.2.2.1 with q|q
  .exact I.ok.noex a o e1 (z ▸ q)
  .exact absurd (lt_of_lt_of_le (Heap.lt_size (I.ok.bs a o e1).1) (z ▸ q)) (Nat.lt_irrefl _)
 have hh:∀u,H a=some u->a≠b:=fun u e z=>by rw [z,f.1] at e;cases e
 cases k with
 | false =>
  rcases h with r|⟨o,its,n,e,_⟩
  .obtain⟨v,e⟩:=wc r;exact hh v e
  .exact kk o e
 | true =>
  rcases h with r|⟨o,its,n,e,_⟩
  .obtain⟨v,e⟩:=wc r;exact hh v e
  .exact kk o e
theorem Inv.yielded{h':Heap}{T:Addr}{zs:List V}{t':Nat}{ch:List Addr}(I:Inv X pins σ H s)(hf:∀b∈ch,uY X pins H b)(hT:s.heap.objs.size<=T)
  (kp:∀b o,b∉ch->s.heap.get? b=some o->h'.get? b=some o) (new:bY X.prog X.w (upd H T (.tup zs)) h' T (.tup zs)):Inv X pins σ (upd H T (.tup zs)) { s with heap:=h',toks:=t' }:=by
 have hn:H T=none:=I.hok.fresh hT;have nT:∀b u,H b=some u->b≠T:=fun b u e z=>by rw [z,hn] at e;cases e
 have oT:∀b o,s.heap.get? b=some o->b≠T:=fun b o e z=>absurd (lt_of_lt_of_le (Heap.lt_size e) (z ▸ hT)) (Nat.lt_irrefl _);have nc:∀b u,H b=some u->b∉ch:=fun b u e z=>by rw [(hf b z).1] at e;cases e
 refine I.step (g':=s.gens) (d':=s.drawn) (ch:=ch) (fun b hb=>⟨(hf b hb).2.2.2.1,(hf b hb).2.1,(hf b hb).2.2.2.2.1,(hf b hb).2.2.2.2.2⟩) (fun b o _ _ hc e _=>kp b o hc e) (fun b o _ _ hc e _=>⟨o.slots,kp b o hc e⟩)
  (fun b o _ e n=>by rw [aw (oT b o e)];exact n) (fun b o hc e=>⟨o,kp b o hc e⟩) (fun b xs e=>by rw [aw (nT b _ e)];exact e) (fun b o u e=>by rw [aw (nT b _ e)];exact e)
  (fun b ps e=>⟨#[],by rw [aw (nT b _ e),e];simp⟩) (fun m hm=>?_) (fun b u e=>?_) I.bare
 .obtain⟨o,es,ep,ho,r⟩:=hm;exact⟨o,es,ep,kp _ o (fun z=>(hf _ z).2.1 rfl) ho,r⟩
 .by_cases hb:b=T
  .subst hb;rw [aF] at e;cases e;exact new
  .rw [aw hb] at e;refine (I.hok b u e).stay (fun c v hc q=>kp c v ?_ q) (fun c q=>by rw [aw (nT c _ q)];exact q) fun c xs q=>by rw [aw (nT c _ q)];exact q
   rcases hc with z|z
   .rw [z];exact nc b u e
   .exact nc c _ z
end
section
variable {P:Program}{w:World}{A:Around}{E:Value->Shared->Prop}{s:Shared}{k l:Bool}
abbrev rA(k:Bool)(a:Addr):Obj:={ cls:=.type (cond k "tuple_iterator" "list_iterator"),data:=.fields #[.ref a,.int 0 0] }
theorem jA{a:Addr}{its:Array Value}{Q:Value->Shared->Prop}(R:la k s.heap a its)(hQ:Q (.ref s.heap.objs.size) { s with heap:=s.heap.push (rA k a) }):wpAny (model P w) A (pyIter (.ref a)) Q E s:=by
 cases k with
 | false=>exact wpAny_pyIter_list R hQ
 | true=>exact wpAny_pyIter_tuple R hQ
end
def stA(a b:List Nat)(i:Nat):Bool:=decide (i+b.length<=a.length/\(a.drop i).take b.length=b)
def fnd(a b:List Nat)(lo:Nat):Int:=match (List.range' lo (a.length+1 - lo)).find? (stA a b) with|some k=>(k:Int)|none=>-1
theorem pZ(s sub:Str)(hi:Nat):∀(l:List Nat) (st:Array Nat×Nat),st.fst.size=1->(forIn l st (StrLaws.occBody s sub hi 1)).run.fst=st.fst
 | [],_,_=>rfl
 | x::l,st,h=>by
  rw [forIn_cons];unfold StrLaws.occBody;rw [if_neg (fun z=>by have:=z.1.1.1;omega)];exact pZ s sub hi l (st.fst,st.snd) h
theorem p4(s sub:Str)(hi:Nat)(p:Nat->Bool)(hp:∀i,p i=true ↔ (i+sub.length<=hi/\Builtin.Str.subAt s sub i=true)):∀(l:List Nat) (free:Nat),(∀i∈l,free<=i) ->
  (forIn l ((#[]:Array Nat),free) (StrLaws.occBody s sub hi 1)).run.fst=(match l.find? p with|some k=>#[k]|none=>#[])
 | [],_,_=>rfl
 | x::l,free,hf=>by
  rw [forIn_cons,find?_cons];unfold StrLaws.occBody;have hx:free<=x:=hf x (mem_cons_self ..)
  cases c:p x with
  | true =>
   have hc:=(hp x).mp c;rw [if_pos ⟨⟨⟨by simp,hx⟩,hc.1⟩,hc.2⟩];exact pZ s sub hi l (#[x],x+sub.length) rfl
  | false =>
   rw [if_neg (fun z=>by
    have:=(hp x).mpr ⟨z.1.2,z.2⟩;rw [c] at this;cases this)]
   exact p4 s sub hi p hp l free fun i h=>hf i (mem_cons_of_mem _ h)
theorem A6(a b:List Nat)(i:Nat):Builtin.Str.subAt (S a) (S b) i=decide ((a.drop i).take b.length=b):=by
 unfold Builtin.Str.subAt;rw [gy]
 have e1:((S a).cps.extract i (i+b.length))=((a.drop i).take b.length).toArray:=by
  show a.toArray.extract _ _=_;rw [extract_toArray,extract_eq_take_drop];congr 2;omega
 rw [e1];show (((a.drop i).take b.length).toArray == b.toArray)=_
 by_cases h:(a.drop i).take b.length=b
 .rw [decide_eq_true h,h];simp
 .rw [decide_eq_false h,beq_eq_false_iff_ne];intro z;exact h (by simpa using congrArg Array.toList z)
theorem wd(a b:List Nat)(lo:Nat):(match Builtin.Str.occurrences (S a) (S b) lo (S a).length 1 with|k::_=>(k:Int)|[]=>-1)=fnd a b lo:=by
 rw [StrLaws.occ_eq,gy,p4 (S a) (S b) a.length (stA a b) (fun i=>?_) _ lo (fun i hi=>(mem_range'_1.mp hi).1)]
 .unfold fnd;cases (List.range' lo (a.length+1 - lo)).find? (stA a b) <;> rfl
 .unfold stA;rw [A6,gy];simp
section
variable {X:Cx}
theorem yr:MtR X "str.find" (fun x xs H Q=>∃a b,x=.str (S a)/\xs=[.str (S b)]/\Q (.int (fnd a b 0)) H):=by
 intro pins s σ H x xs v us Q I rx rs h;obtain⟨a,b,rfl,rfl,q⟩:=h;obtain⟨t,rfl⟩:=rx;obtain⟨u,rfl,t',rfl⟩:=iJ rs;have e:Txt.find (S a) (S b)=fnd a b 0:=wd a b 0;exact SC.find ⟨.int _,H,I.tok _,⟨_,rfl⟩,by rw [e];exact q⟩
end
theorem sV{a b:List Nat}{lo:Nat}(h:fnd a b lo≠-1):∃k:Nat,fnd a b lo=(k:Int)/\lo<=k/\stA a b k=true/\∀j,lo<=j->j<k->stA a b j=false:=by
 unfold fnd at h ⊢
 cases e:(List.range' lo (a.length+1 - lo)).find? (stA a b) with
 | none=>rw [e] at h;exact absurd rfl h
 | some k =>
  obtain⟨h1,h2⟩:=find?_eq_some_iff_append.mp e;obtain⟨as,bs,hl,hn⟩:=h2;have hk:k∈List.range' lo (a.length+1 - lo):=by rw [hl];simp
  refine⟨k,rfl,(mem_range'_1.mp hk).1,h1,fun j hj1 hj2=>?_⟩;have hj:j∈List.range' lo (a.length+1 - lo):=mem_range'_1.mpr ⟨hj1,by have:=(mem_range'_1.mp hk).2;omega⟩;have hs:(List.range' lo (a.length+1 - lo)).Pairwise (·<·):=List.pairwise_lt_range';rw [hl] at hj hs
  rcases mem_append.mp hj with z|z
  .have:=hn j z;simpa using this
  .rcases mem_cons.mp z with z|z
   .omega
   .have:=(pairwise_cons.mp (pairwise_append.mp hs).2.1).1 j z;omega
theorem yt{a b:List Nat}{lo:Nat}(h:fnd a b lo=-1):∀j,lo<=j->stA a b j=false:=by
 unfold fnd at h
 cases e:(List.range' lo (a.length+1 - lo)).find? (stA a b) with
 | some k=>rw [e] at h;simp only at h;omega
 | none =>
  intro j hj
  by_cases hlt:j<a.length+1
  .have:=find?_eq_none.mp e j (mem_range'_1.mpr ⟨hj,by omega⟩);simpa using this
  .unfold stA;rw [decide_eq_false (fun z=>by have:=z.1;omega)]
section
variable {X:Cx}{tg:Expr}
def Itk(k:Bool)(K:PySem.W.Frag)(a:Addr):It:=cond k (Itt K a) (Itl K a)
def DF(K:PySem.W.Frag):R2:=fun x y H Q=>∃l b xs zs,x=.ref l/\y=.ref b/\SqL K H l xs/\SqL K H b zs/\xs.length+zs.length<=sizeLine/\∀p,H p=none->Q (.ref p) (upd H p (.lst (xs++zs)))
theorem A7:OpR X (binaryOp .Add) (DF X.K):=by
 intro pins s σ H x y v u Q I rx ry h;obtain⟨l,b,xs,zs,rfl,rfl,hH,hB,hz,q⟩:=h;cases rx;cases ry;obtain⟨its,r,pl,hl⟩:=I.list hH;obtain⟨its2,r2,pl2,hl2⟩:=I.list hB;obtain⟨⟨cls,dd,data,sl⟩,ho,hc,n,hd⟩:=pl.isList;obtain⟨⟨cls2,dd2,data2,sl2⟩,ho2,hc2,n2,hd2⟩:=pl2.isList;simp only at hc hd hc2 hd2;subst hc hd hc2 hd2;have n1:=r.length;have n2':=r2.length;have ea:its.toArray++its2.toArray=(its++its2).toArray:=by simp
 have fin:EP X pins σ Q (.ref s.heap.objs.size) { s with heap:=s.heap.push { cls:=.type "list",data:=.seq (its.toArray++its2.toArray) } }:=by
  rw [ea];exact⟨.ref _,_,I.lnew (t':=s.toks) (r.append r2) (by rw [length_append];omega),rfl,q _ I.fresh⟩
 exact concat_meets ⟨_,ho,rfl⟩ ⟨_,ho2,rfl⟩ noFill_list_add seq_list_add PySem.F.slot_list_add PySem.F.entry_list_add (PySem.F.args_list_add_2 _ _) (list_addW l b its.toArray its2.toArray n n2 dd dd2 sl sl2 (by simp;omega)) ⟨ho,ho2,fin⟩
end
theorem yu{k:Bool}{K:PySem.W.Frag}{a:Addr}{xs:List V}{D:Addr}{g:TG}{tts:TT}{te:TE}{τ0:St}{H0:Hp}{Q:Hp->Prop}(Pv:Nat->List V->St->Hp->Prop)(h0:Pv 0 [] τ0 (upd H0 D (.lst [])))
  (hl:∀i ys τ H,i<=xs.length->Pv i ys τ H->Sq k K H a xs)
  (hs:∀i x ys τ H,xs[i]?=some x->Pv i ys τ H->∀(K1:St->V->Hp->Prop) (K2:St->Hp->Prop),(∀τ2 v H6,H6 D=some (.lst ys)->ys.length<sizeLine->Pv (i+1) (ys++[v]) τ2 (upd H6 D (.lst (ys++[v])))->K1 τ2 v H6) ->
   (∀τ2 H5,Pv (i+1) ys τ2 H5->K2 τ2 H5)->g x τ H fun τ2 H4=>tts τ2 H4 fun ok H5=>if ok=true then te τ2 H5 (fun v H6=>K1 τ2 v H6) else K2 τ2 H5)
  (hd:∀ys τ H,Pv xs.length ys τ H->Q H):kH (Itk k K a) D g tts te τ0 H0 Q:=by
 cases k
 .exact vY (K:=K) (a:=a) Pv h0 hl hs hd
 .exact ym (K:=K) (a:=a) Pv h0 hl hs hd
def j3(n:Nat)(d:PyData):Prop:=d.canLay0=true/\d.depth<=n
theorem j3.shaped{n:Nat}{d:PyData}(h:j3 n d)(hn:n<=64):SeqAt.shaped d=true:=by
 unfold SeqAt.shaped;rw [h.1,decide_eq_true (Nat.le_trans h.2 hn)];rfl
theorem rB{n:Nat}:∀{ds:List PyData},(∀d∈ds,j3 n d)->PyData.canLayAll0 ds=true/\PyData.depthAll ds<=n
 | [],_=>⟨rfl,zero_le _⟩
 | d::ds,h=>by
  obtain⟨a,b⟩:=rB (ds:=ds) fun x hx=>h x (mem_cons_of_mem _ hx);obtain⟨c,e⟩:=h d mem_cons_self;simp only [PyData.canLayAll0,PyData.depthAll,a,c];exact⟨rfl,max_le.mpr ⟨e,b⟩⟩
theorem j3.list{n:Nat}{ds:List PyData}(h:∀d∈ds,j3 n d):j3 (n+1) (.list ds):=by
 obtain⟨a,b⟩:=rB h;exact⟨by simp only [PyData.canLay0];exact a,by simp only [PyData.depth];omega⟩
theorem j3.tuple{n:Nat}{ds:List PyData}(h:∀d∈ds,j3 n d):j3 (n+1) (.tuple ds):=by
 obtain⟨a,b⟩:=rB h;exact⟨by simp only [PyData.canLay0];exact a,by simp only [PyData.depth];omega⟩
theorem j3.int(i:Int):j3 0 (.int i):=⟨by simp [PyData.canLay0],by simp [PyData.depth]⟩
def Lts(l:List Nat):Prop:=∀c∈l,97<=c/\c<=122
theorem Lts.nil:Lts []:=fun c h=>nomatch h
theorem Lts.app{a b:List Nat}(x:Lts a)(y:Lts b):Lts (a++b):=fun c h=>(mem_append.mp h).elim (x c) (y c)
theorem Lts.one{c:Nat}(h:97<=c/\c<=122):Lts [c]:=fun d hd=>by
 have:d=c:=by simpa using hd
 subst this;exact h
theorem Lts.take{a:List Nat}(x:Lts a)(n:Nat):Lts (a.take n):=fun c h=>x c (mem_of_mem_take h)
theorem Lts.drop{a:List Nat}(x:Lts a)(n:Nat):Lts (a.drop n):=fun c h=>x c (mem_of_mem_drop h)
theorem Lts.rep{a:List Nat}(x:Lts a)(n:Int):Lts (nV a n):=fun c h=>by
 unfold nV at h;obtain⟨l,h1,h2⟩:=mem_flatten.mp h;rw [eq_of_mem_replicate h1] at h2;exact x c h2
theorem j3.str{l:List Nat}(h:Lts l):j3 0 (.str (S l)):=by
 refine⟨?_,by simp [PyData.depth]⟩;simp only [PyData.canLay0,PyData.strOk,S];rw [Array.all_eq_true];intro i hi;have:=h l[i] (getElem_mem _);simp only [getElem_toArray,decide_eq_true_eq];omega
theorem p5(ns:List Int):∀d∈ns.map PyData.int,j3 0 d:=fun d hd=>by
 obtain⟨i,_,rfl⟩:=mem_map.mp hd;exact j3.int i
theorem uD{ws:List (List Nat)}(h:∀w∈ws,Lts w):∀d∈ws.map (fun w=>PyData.str (S w)),j3 0 d:=fun d hd=>by
 obtain⟨i,hi,rfl⟩:=mem_map.mp hd;exact j3.str (h i hi)
theorem p6{ws:List (List Nat)}(h:∀w∈ws,Lts w):SeqAt.shaped (.list (ws.map fun w=>PyData.str (S w)))=true:=(j3.list (uD h)).shaped (by decide)
theorem yv{d:PyData}(h:SeqAt.shaped d=true):PyData.eqv d d=true:=SeqAt.eqv_refl d (SeqAt.canLay_of_shaped h)
theorem lc(p:Nat->Prop)(h0:p 0):∀n,0<n->∃k,k<n/\p k/\∀j,j<n->p j->j<=k
 | 0,h=>absurd h (by decide)
 | 1,_=>⟨0,by decide,h0,fun j hj _=>by omega⟩
 | n+2,_=>by
  obtain⟨k,h1,h2,h3⟩:=lc p h0 (n+1) (by omega)
  by_cases c:p (n+1)
  .exact⟨n+1,by omega,c,fun j hj _=>by omega⟩
  .refine⟨k,by omega,h2,fun j hj hp=>?_⟩
   by_cases e:j=n+1
   .subst e;exact absurd hp c
   .exact h3 j (by omega) hp
section
variable {κ:Type} [DecidableEq κ]
def wf(kvs:List (κ×V))(k:κ)(v:V):List (κ×V) :=
 if (kvs.any fun kv=>decide (kv.1=k))=true then kvs.map (fun kv=>if kv.1=k then (kv.1,v) else kv) else kvs++[(k,v)]
theorem rC(kvs:List (κ×V))(k:κ)(v:V):(wf kvs k v).length<=kvs.length+1:=by
 unfold wf
 split
 .rw [length_map];omega
 .rw [length_append,length_cons,length_nil];omega
theorem KV.any{kvs:List (κ×V)}{vs:List (κ×Value)}(r:KV kvs vs)(k:κ):(kvs.any fun kv=>decide (kv.1=k))=vs.any fun kv=>decide (kv.1=k):=by
 unfold KV at r
 induction r with
 | nil=>rfl
 | cons h t ih=>rw [any_cons,any_cons,ih,h.1]
theorem KV.repl{kvs:List (κ×V)}{vs:List (κ×Value)}(r:KV kvs vs)(k:κ){y:V}{u:Value}(ry:c9 y u) :
  KV (kvs.map fun kv=>if kv.1=k then (kv.1,y) else kv) (vs.map fun kv=>if kv.1=k then (kv.1,u) else kv):=by
 unfold KV at r ⊢
 induction r with
 | nil=>exact .nil
 | @cons p q ps qs h t ih =>
  rw [map_cons,map_cons];refine .cons ?_ ih;obtain⟨h1,h2⟩:=h
  by_cases e:p.1=k
  .rw [if_pos e,if_pos (h1.symm.trans e)];exact⟨h1,ry⟩
  .rw [if_neg e,if_neg (fun z=>e (h1.trans z))];exact⟨h1,h2⟩
theorem KV.put{kvs:List (κ×V)}{vs:List (κ×Value)}(r:KV kvs vs)(k:κ){y:V}{u:Value}(ry:c9 y u):KV (wf kvs k y) (stored vs k u):=by
 unfold wf stored;rw [r.any k]
 by_cases e:(vs.any fun kv=>decide (kv.1=k))=true
 .rw [if_pos e,if_pos e];exact r.repl k ry
 .rw [if_neg e,if_neg e];exact Paired.snoc r ⟨rfl,ry⟩
theorem KV.length{kvs:List (κ×V)}{vs:List (κ×Value)}(r:KV kvs vs):kvs.length=vs.length:=Paired.length r
end
theorem FB{P:Program}{w:World}{k:Key}{u:Value}(r:c9 (kV k) u):(eZ P w).is k u=true:=by
 cases k with
 | inl i=>obtain⟨t,e⟩:=(show ∃t,u=Value.int i t from r);subst e;exact rf P w i t
 | inr x=>obtain⟨t,e⟩:=(show ∃t,u=Value.str x t from r);subst e;exact rg P w x t
section
variable {P:Program}{w:World}{H:Hp}{h:Heap}{a:Addr}
theorem FC{u:HO}(ok:HOk P w H h)(e:Rd H a u):bY P w H h a u:=e.ok ok
theorem DG{kvs:List (Key×V)}(ok:HOk P w H h)(e:Rd H a (.dK kvs)):kvs.length<=sizeLine/\(a == sysModules)=false/\∃vs,KV kvs vs/\h.DictOf (eZ P w) a vs :=
 show bY P w H h a (.dK kvs) from FC ok e
theorem FD{kvs:List (Key×V)}(ok:HOk P w H h)(e:H a=some (.dK kvs)):kvs.length<=sizeLine/\(a == sysModules)=false/\∃vs,KV kvs vs/\h.DictOf (eZ P w) a vs:=DG ok (.inl e)
end
section
variable {X:Cx}{pins:List (Addr×Obj)}{σ:St}{H:Hp}{s:Shared}{a:Addr}{y v:V}{u r:Value}{o:Option V}{A:Around}{E:Value->Shared->Prop}
theorem Inv.big(I:Inv X pins σ H s):sysModules<s.heap.objs.size:=by
 have h:mainGlobals<s.heap.objs.size:=(I.mod.glob.keeps I.bk).lt;exact lt_trans (by decide) h
theorem A8{h':Heap}{t':Nat}{ob:HO}(I:Inv X pins σ H s)(mu:Mut (H a))(hs:Heap.SameBut a s.heap h')(he:∃q,h'.get? a=some q)(new:bY X.prog X.w (upd H a ob) h' a ob) :
  Inv X pins σ (upd H a ob) { s with heap:=h',toks:=t' } :=
 I.write (x:=a) (e:=a) mu (.inl rfl) (fun b q hb z=>(hs.2 b hb).trans z) he new
theorem DH{P:Program}{w:World}{H':Hp}{h':Heap}{kvs:List (Key×V)}{vs:List (Key×Value)}(z:kvs.length<=sizeLine)(hd:(a == sysModules)=false)(rel:KV kvs vs)(dd:h'.DictOf (eZ P w) a vs) :
  bY P w H' h' a (.dK kvs):=⟨z,hd,vs,rel,dd⟩
end
section
variable {X:Cx}{pins:List (Addr×Obj)}{σ:St}{H:Hp}{s:Shared}{a:Addr}{kvs:List (Key×V)}{k:Key}{u:Value}{A:Around}{E:Value->Shared->Prop}
theorem FE{Q:Value->Shared->Prop}(I:Inv X pins σ H s)(e:Rd H a (.dK kvs))(h:∀t s',Inv X pins σ H s'->Q (.int kvs.length t) s'):wpAny (model X.prog X.w) A (call (.builtin "len") [.ref a]) Q E s:=by
 obtain⟨z,hd,vs,rel,dd⟩:=DG I.hok e;refine call_len_dict hd dd (by rw [<- rel.length];rw [sizeLine_eq] at z;omega) ?_;rw [<- rel.length];exact h _ _ (I.tok _)
end
theorem sW{P:Program}{w:World}{H:Hp}(h:Heap)(hb:sysModules<h.objs.size):bY P w H (h.push { cls:=.type "dict",data:=.dict #[] }) h.objs.size (.dK []) :=
 ⟨zero_le _,beq_eq_false_iff_ne.mpr (Ne.symm (ne_of_lt hb)),[],.nil,Heap.DictOf.new h⟩
def zL:TE:=fun _ H Q=>∀p,H p=none->Q (.ref p) (upd H p (.dK []))
section
variable {X:Cx}{pos:Pos}
theorem yw:PE X (.Dict [] [] pos) zL:=fun pins s σ H Q I h =>
 wpAny_Dict_empty ⟨.ref s.heap.objs.size,_,I.laid (a:=s.heap.objs.size) (o:=.dK []) (t':=s.toks) (fun _ _ q=>Heap.get?_push_of_some _ q) (Nat.le_refl _) (sW s.heap I.big),rfl,h _ (I.hok.fresh (Nat.le_refl _))⟩
end
def sX:List (TE×TE)->St->Hp->(List (V×V)->Hp->Prop)->Prop
 | [],_,H,Q=>Q [] H
 | (tk,tv)::r,σ,H,Q=>tk σ H fun x H1=>tv σ H1 fun y H2=>sX r σ H2 fun ps H3=>Q ((x,y)::ps) H3
abbrev VV:List (V×V)->List (Value×Value)->Prop:=Paired fun p q=>c9 p.1 q.1/\c9 p.2 q.2
def PPs(X:Cx)(pos:Pos)(keys:List (Option Expr))(values:List Expr)(trs:List (TE×TE)):Prop :=
 ∀(pins:List (Addr×Obj)) (s:Shared) (σ:St) (H:Hp) (Q:List (V×V)->Hp->Prop),Inv X pins σ H s->sX trs σ H Q ->
  wpAny (model X.prog X.w) X.A (evalPairs (pairTrees keys values X.env pos)) (fun vs s'=>∃ps H',Inv X pins σ H' s'/\VV ps vs/\Q ps H') X.xe s
theorem A9{X:Cx}{pos:Pos}:PPs X pos [] [] []:=fun pins s σ H Q I h=>pairTrees_nil_walk ⟨[],H,I,.nil,h⟩
theorem yx{X:Cx}{pos:Pos}{k v:Expr}{ks:List (Option Expr)}{vs:List Expr}{tk tv:TE}{trs:List (TE×TE)}(hk:PE X k tk)(hv:PE X v tv)(hr:PPs X pos ks vs trs) :
  PPs X pos (some k::ks) (v::vs) ((tk,tv)::trs):=fun pins s σ H Q I h =>
 pairTrees_cons_walk (thn (hk pins s σ H _ I h) fun u s1 ⟨x,H1,I1,rx,q1⟩=>thn (hv pins s1 σ H1 _ I1 q1) fun w2 s2 ⟨y,H2,I2,ry,q2⟩ =>
  thn (hr pins s2 σ H2 _ I2 q2) fun ws s3 ⟨ps,H3,I3,rel,q3⟩=>⟨(x,y)::ps,H3,I3,.cons ⟨rx,ry⟩ rel,q3⟩)
def j4(kvs more:List (Key×V)):List (Key×V):=more.foldl (fun acc kv=>wf acc kv.1 kv.2) kvs
theorem KV.merge:∀{more:List (Key×V)}{rs:List (Key×Value)}{kvs:List (Key×V)}{vs:List (Key×Value)},KV more rs->KV kvs vs->KV (j4 kvs more) (merged vs rs):=by
 intro more rs kvs vs r;unfold KV at r
 induction r generalizing kvs vs with
 | nil=>intro q;exact q
 | @cons p q ps qs h t ih =>
  intro r0
  have e:KV (wf kvs p.1 p.2) (stored vs q.1 q.2):=by
   have:=r0.put p.1 h.2;rw [<- h.1];exact this
  exact ih e
theorem i9:∀(more kvs:List (Key×V)),(j4 kvs more).length<=kvs.length+more.length
 | [],kvs=>by show kvs.length<=kvs.length+0;omega
 | p::r,kvs=>by
  have h1:=i9 r (wf kvs p.1 p.2);have h2:=rC kvs p.1 p.2;show (j4 (wf kvs p.1 p.2) r).length<=_;rw [length_cons];omega
theorem ng{P:Program}{w:World}:∀{kvs:List (Key×V)}{ws:List (Value×Value)},VV (kvs.map fun kv=>(kV kv.1,kv.2)) ws->∃rs,Carries (eZ P w) ws rs/\KV kvs rs
 | [],_,r=>by rw [map_nil] at r;cases r;exact⟨[],True.intro,.nil⟩
 | p::kvs,_,r=>by
  rw [map_cons] at r
  cases r with
  | @cons a b as bs h t =>
   obtain⟨rs,c,q⟩:=ng (P:=P) (w:=w) t;obtain⟨b1,b2⟩:=b;exact⟨(p.1,b2)::rs,⟨FB h.1,rfl,c⟩,.cons ⟨rfl,h.2⟩ q⟩
def DI(trs:List (TE×TE)):TE:=fun σ H Q=>∀p,H p=none->sX trs σ (upd H p (.dK [])) fun ps H2=>H2 p=some (.dK [])/\∃kvs:List (Key×V),ps=kvs.map (fun kv=>(kV kv.1,kv.2))/\kvs.length<=15/\Q (.ref p) (upd H2 p (.dK (j4 [] kvs)))
theorem Ba{X:Cx}{pos:Pos}{keys:List (Option Expr)}{values:List Expr}{trs:List (TE×TE)}(h:PPs X pos keys values trs)(hall:keys.all (·.isSome)=true)(hl:keys.length=values.length)(h0:keys≠[])
  (h15:keys.length<=15):PE X (.Dict keys values pos) (DI trs):=by
 intro pins s σ H Q I q;have hn:=I.hok.fresh (Nat.le_refl s.heap.objs.size);have I1:=I.laid (a:=s.heap.objs.size) (o:=.dK []) (h':=s.heap.push { cls:=.type "dict",data:=.dict #[] }) (t':=s.toks) (fun _ _ q=>Heap.get?_push_of_some _ q) (Nat.le_refl _) (sW s.heap I.big);refine wpAny_Dict_walk (knd:=eZ X.prog X.w) hall hl h0 h15 (thn (h pins _ σ _ _ I1 (q _ hn)) fun ws s2 ⟨ps,H2,I2,rel,e,kvs,ep,lk,q2⟩=>?_)
 subst ep;obtain⟨rs,c,rk⟩:=ng (P:=X.prog) (w:=X.w) rel;obtain⟨z,hd,vs0,r0,dd⟩:=FD I2.hok e;cases r0;refine⟨rs,c,dd,fun h' dd' hs=>⟨.ref s.heap.objs.size,_,?_,rfl,q2⟩⟩
 have hz:(j4 [] kvs).length<=sizeLine:=by
  have h1:=i9 kvs [];rw [length_nil] at h1;rw [sizeLine_eq];omega
 have he:∃q,h'.get? s.heap.objs.size=some q:=let ⟨q,_,_,hq,_⟩:=dd';⟨q,hq⟩
 exact A8 I2 (by rw [e];exact True.intro) hs he (DH hz hd (rk.merge .nil) dd')
section
variable {X:Cx}
theorem kI{x:Str}{i:Int}{pos:Pos}(hg:Gl X x)(h:∃t,X.mg x=some (.int i t))(hd:(x == ("__debug__":Str))=false:=by decide):PE X (.Name x pos) (tC (.int i)):=by
 obtain⟨t,e⟩:=h;exact AC (u:=.int i t) hg e ⟨t,rfl⟩ hd
end
structure DJ (P:Program) (w:World) (K:PySem.W.Frag) (mg:Str->Option Value) (base:Heap) (k:Nat) (x:Str) (ps:List Str) (dvs:List V) (sp:Sp):Prop where
 ex:∃(f:Addr) (fd:FuncData),m7 P w K mg base CX0 k f fd ps sp/\(∀n,n<=dvs.length->∃ds,bW (dvs.drop n) ds/\jw K fd ps ds)/\PySem.W.keepIn K (.ref f)=true/\mg x=some (.ref f)
structure sY (K:PySem.W.Frag) (mg:Str->Option Value) (x:Str) (st:Stmt) (dvs:List V):Prop where
 ex:∃(f dT:Addr) (oc:Value) (od an dd:Option Addr) (kV doc pm cdv ct:Value) (osl sl:Array (Option Value)) (items:List Value) (n:Nat),
  K.lookup f=some ⟨oc,od,.func (PySem.W.fnOf x x (cL st) (bS st) (aq st) (.ref dT) kV doc pm an cdv ct),osl⟩/\PySem.W.codeIn K cdv x=true/\PySem.W.keepIn K (.ref f)=true/\mg x=some (.ref f) /\
  K.lookup dT=some ⟨.type "tuple",dd,.seq items.toArray n,sl⟩/\bW dvs items
section
variable {P:Program}{w:World}{K:PySem.W.Frag}{mg:Str->Option Value}{base:Heap}{x:Str}{st:Stmt}{N ps:List Str}{k:Nat}{sp:Sp}{dvs:List V}
theorem sY.ok(D:sY K mg x st dvs)(S:aK N ps (aq st))
  (hb:∀(dT:Addr) (kV doc pm:Value) (an:Option Addr) (cdv ct:Value) (items:List Value) (us:List Value) (n:Nat),items.length=dvs.length->n<=dvs.length->(us++items.drop n).length=ps.length ->
   ∃k,bindArgs (PySem.W.fnOf x x (cL st) (bS st) (aq st) (.ref dT) kV doc pm an cdv ct) ⟨us,[]⟩=seqItems? (.ref dT) >>= k/\k (some items.toArray)=pure (ps.zip (us++items.drop n)))
  (len:∀vs H Q E,sp vs H Q E->vs.length=ps.length)
  (hbody:∀(f:Addr) (cdv:Value) (A:Around) (outer:List Env) (s:Shared) (H:Hp) (vs:List V) (Q:VK) (E:XK),gx k (A.deeper (envOfC x (aq st) s.heap.objs.size f cdv))->sp vs H Q E ->
   ∃t,PSs (sQ CX0 P w K mg base N x (aq st) f cdv A outer s H E).nox (bS st) t/\t { nx:=fun _ H'=>Q .non H',rt:=Q } (start N vs) H):DJ P w K mg base (k+1) x ps dvs sp:=by
 obtain⟨f,dT,oc,od,an,dd,kV,doc,pm,cdv,ct,osl,sl,items,n,lk,hcd,kp,hm,lt,rv⟩:=D.ex;have hl:=rv.length
 refine⟨f,_,AR lk hcd S len fun A outer s H vs Q E hr hsp=>?_,fun j hj=>⟨items.drop j,rv.drop j,fun s us X hlen=>?_⟩,kp,hm⟩
 .obtain⟨t,h,q⟩:=hbody f cdv A outer s H vs Q E hr hsp;exact⟨t,h.nox,q⟩
 .obtain⟨k,h1,h2⟩:=hb dT kV doc pm an cdv ct items us j hl.symm hj hlen;exact BindsTo.of_defaults rfl (X dT _ lt) rfl h1 h2
end
section
variable {X:Cx}{k:Nat}{x:Str}{ps:List Str}{sp:Sp}{p pos:Pos}{e:Expr}{es:List Expr}{t:TA}{dvs:List V}
theorem Bb(j:Nat)(C:DJ X.prog X.w X.K X.mg X.base k x ps dvs sp)(hr:gx k X.A)(hj:j<=dvs.length)(ha:PA X (e::es) t)(hg:Gl X x:=by rfl)(hdb:(x == ("__debug__":Str))=false:=by decide)(he:starEach (e::es) X.env=(false,eval e X.env)::starEach es X.env:=by rfl)
  (hpl:(backTo pos (starEach es X.env)).any (·.1)=false:=by rfl):PE X (.Call (.Name x p) (e::es) [] pos) (ei sp (dvs.drop j) E0 t):=by
 obtain⟨f,fd,F,hb,hk,hm⟩:=C.ex;obtain⟨ds,rv,hb⟩:=hb j hj;exact vy F hr hg hm hk hb rv yj ha hdb he hpl
theorem DK{pins:List (Addr×Obj)}{σ:St}{H:Hp}{s:Shared}{x:V}{u t:Value}(I:Inv X pins σ H s)(rx:c9 x u)(ty:pA X.K H x t) :
  ∃Hq:Heap->Prop,PySem.W.KitX X.K u t Hq/\Hq s.heap/\u≠.builtin "__main__.__loader__#opaque":=by
 cases ty with
 | non=>cases (show u=Value.none from rx);exact⟨_,PySem.W.kitx_none,True.intro,fun z=>nomatch z⟩
 | bl y=>cases (show u=Value.bool y from rx);exact⟨_,PySem.W.kitx_bool,True.intro,fun z=>nomatch z⟩
 | int i=>obtain⟨t,q⟩:=(show ∃t,u=Value.int i t from rx);cases q;exact⟨_,PySem.W.kitx_int,True.intro,fun z=>nomatch z⟩
 | str y=>obtain⟨t,q⟩:=(show ∃t,u=Value.str y t from rx);cases q;exact⟨_,PySem.W.kitx_str,True.intro,fun z=>nomatch z⟩
 | flt y=>obtain⟨t,q⟩:=(show ∃t,u=Value.float y t from rx);cases q;exact⟨_,PySem.W.kitx_float,True.intro,fun z=>nomatch z⟩
 | @lst a xs ea =>
  cases (show u=Value.ref a from rx);obtain⟨_,_,n,_,h1⟩:=(show bY X.prog X.w H s.heap a (.lst xs) from I.hok a _ ea)
  exact⟨_,PySem.W.kitx_list,⟨_,h1,rfl⟩,fun z=>nomatch z⟩
 | @frz a ob xs ea =>
  cases (show u=Value.ref a from rx);obtain⟨_,_,_,n,_,h1⟩:=(show bY X.prog X.w H s.heap a (.frz ob (.lst xs)) from I.hok a _ ea)
  exact⟨_,PySem.W.kitx_list,⟨_,h1,rfl⟩,fun z=>nomatch z⟩
 | @tup a xs ea =>
  cases (show u=Value.ref a from rx);obtain⟨_,_,_,p⟩:=(show bY X.prog X.w H s.heap a (.tup xs) from I.hok a _ ea)
  obtain⟨o,h1,h2,_⟩:=p;exact⟨_,PySem.W.kitx_tuple,⟨o,h1,h2⟩,fun z=>nomatch z⟩
 | @dK a kvs ea =>
  cases (show u=Value.ref a from rx);obtain⟨_,_,vs,_,p⟩:=(show bY X.prog X.w H s.heap a (.dK kvs) from I.hok a _ ea)
  obtain⟨o,es,ep,h1,h2,_⟩:=p;exact⟨_,PySem.W.kitx_dict,⟨o,h1,h2.1⟩,fun z=>nomatch z⟩
 | @dT a kvs ea =>
  cases (show u=Value.ref a from rx);obtain⟨_,_,xs,_,o,es,ep,h1,h2,_⟩:=(show bY X.prog X.w H s.heap a (.dT kvs) from I.hok a _ ea)
  exact⟨_,PySem.W.kitx_dict,⟨o,h1,h2.1⟩,fun z=>nomatch z⟩
 | @ins a C dx fs ea cl ha hn htk hm =>
  cases (show u=Value.ref a from rx);obtain⟨mA,O,_⟩:=kW I.hok ea;obtain⟨od,J,_⟩:=O.look;exact⟨_,PySem.W.kitx_own (cl.get _) cl.hd ha hn htk hm,J,fun z=>nomatch z⟩
theorem sZ:∀{ts:List String}{us:List Value},bW (ts.map V.ty) us->us=ts.map Value.type
 | [],_,.nil=>rfl
 | t::ts,_,.cons r rr=>by rw [sZ rr,show _=Value.type t from r];rfl
theorem p7:cu X (.builtin "isinstance") (fun xs H Q=>∃(x:V) (p:Addr) (ts:List String) (t:Value) (b:Bool),xs=[x,.ref p]/\pA X.K H x t/\H p=some (.tup (ts.map V.ty))/\PySem.W.kitAny X.K t (ts.map Value.type)=some b/\Q (.bl b) H):=by
 intro pins s σ H xs us Q I r h;obtain⟨x,p,ts,t,b,rfl,ty,hp,e,q⟩:=h;obtain⟨u,w',rfl,rx,ry⟩:=AH r;cases (show w'=Value.ref p from ry);obtain⟨Hq,Z,hq,hx⟩:=DK I rx ty;obtain⟨its,rv,⟨⟨cls,dd,data,sl⟩,ho,hc,n,hd⟩,_⟩:=I.tuple (SqT.of hp);simp only at hc hd;subst hc hd;exact PySem.W.kia_tup Z I.kIn hq ho (by rw [sZ rv];exact e) hx fun tk=>⟨.bl b,H,I.tok _,rfl,q⟩
theorem wg:OpR X (compareOp .IsNot) (fun x y H Q=>∃b c,x=.bl b/\y=.bl c/\Q (.bl (!decide (b=c))) H):=by
 intro pins s σ H x y v u Q I rx ry h;obtain⟨b,c,rfl,rfl,q⟩:=h;cases (show v=Value.bool b from rx);cases (show u=Value.bool c from ry);cases b <;> cases c <;> exact wpAny_pure (bI I q (by first|rfl|decide))
theorem n9(bs:List Bool):(List.range bs.length).all (fun i=>bs.getD i false)=bs.all id:=by
 induction bs with
 | nil=>rfl
 | cons b bs ih=>rw [length_cons,range_succ_eq_map,all_cons,all_map,all_cons,<- ih];rfl
theorem oa(bs:List Bool):(List.range bs.length).any (fun i=>bs.getD i false)=bs.any id:=by
 induction bs with
 | nil=>rfl
 | cons b bs ih=>rw [length_cons,range_succ_eq_map,any_cons,any_map,any_cons,<- ih];rfl
theorem wj{bs:List Bool}{its:List Value}(r:bW (bs.map V.bl) its){i:Nat}{v:Value}(h:its.toArray[i]?=some v):v=.bool (bs.getD i false):=by
 have h':its[i]?=some v:=by simpa using h
 have hl:=r.length;rw [length_map] at hl;have hi:i<bs.length:=by have:=(List.getElem?_eq_some_iff.mp h').1;omega
 obtain⟨u,e1,e2⟩:=r.get (i:=i) (x:=V.bl bs[i]) (by rw [getElem?_map,getElem?_eq_getElem hi];rfl);rw [h'] at e1;cases e1;rw [show v=Value.bool bs[i] from e2,getD_eq_getElem?_getD,getElem?_eq_getElem hi];rfl
theorem yz(hc:X.calm=true):cu X (.builtin "all") (fun xs H Q=>∃(p:Addr) (bs:List Bool),xs=[.ref p]/\SqL X.K H p (bs.map V.bl)/\Q (.bl (bs.all id)) H):=by
 intro pins s σ H xs us Q I r h;obtain⟨p,bs,rfl,hS,q⟩:=h;obtain⟨u,rfl,ru⟩:=iJ r;cases (show u=Value.ref p from ru);obtain⟨its,rv,pl,hz⟩:=I.list hS;have hl:=rv.length;rw [length_map] at hl;have hps:p<s.heap.objs.size:=let ⟨o,ho,_⟩:=pl.isList;Heap.lt_size ho
 obtain⟨f0,f1,f2,f3,f4,f5⟩:=I.fpOk (H':=H) (Nat.le_refl s.heap.objs.size) (I.hok.fresh (Nat.le_refl _))
 refine call_all_walk (wpAny_pyIter_list pl.isList ⟨s.heap.objs.size,_,_,its.toArray.size,_,_,fun i=>bs.getD i false,rfl,Walks.list (by exact I.ok.hd hc) s.heap.objs.size p (ne_of_lt hps) its.toArray,⟨⟨_,Heap.get?_push_size _ rfl,rfl,rfl⟩,pl.isList.push _⟩,fun i v s Q E hP hQ=>?_,fun h' tk hk=>?_⟩)
 .rw [wj rv hP];exact wpAny_truthy_bool hQ
 .have I1:Inv X pins σ H { s with heap:=s.heap.push { cls:=.type "list_iterator",data:=.fields #[.ref p,.int 0 0] } }:=I.kept (t':=s.toks) fun b o e=>Heap.get?_push_of_some _ e;have I2:=I1.turned (h':=h') (t':=tk) (it:=s.heap.objs.size) (fun b o hb e=>hk b o (by simpa using hb) e) f0 f1 f3 f4 f5;refine⟨.bl (bs.all id),H,I2,?_,q⟩;show Value.bool _=Value.bool _;rw [size_toArray,<- hl,n9]
theorem yA(hc:X.calm=true):cu X (.builtin "any") (fun xs H Q=>∃(p:Addr) (bs:List Bool),xs=[.ref p]/\SqL X.K H p (bs.map V.bl)/\Q (.bl (bs.any id)) H):=by
 intro pins s σ H xs us Q I r h;obtain⟨p,bs,rfl,hS,q⟩:=h;obtain⟨u,rfl,ru⟩:=iJ r;cases (show u=Value.ref p from ru);obtain⟨its,rv,pl,hz⟩:=I.list hS;have hl:=rv.length;rw [length_map] at hl;have hps:p<s.heap.objs.size:=let ⟨o,ho,_⟩:=pl.isList;Heap.lt_size ho
 obtain⟨f0,f1,f2,f3,f4,f5⟩:=I.fpOk (H':=H) (Nat.le_refl s.heap.objs.size) (I.hok.fresh (Nat.le_refl _))
 refine call_any_walk (wpAny_pyIter_list pl.isList ⟨s.heap.objs.size,_,_,its.toArray.size,_,_,fun i=>bs.getD i false,rfl,Walks.list (by exact I.ok.hd hc) s.heap.objs.size p (ne_of_lt hps) its.toArray,⟨⟨_,Heap.get?_push_size _ rfl,rfl,rfl⟩,pl.isList.push _⟩,fun i v s Q E hP hQ=>?_,fun h' tk hk=>?_⟩)
 .rw [wj rv hP];exact wpAny_truthy_bool hQ
 .have I1:Inv X pins σ H { s with heap:=s.heap.push { cls:=.type "list_iterator",data:=.fields #[.ref p,.int 0 0] } }:=I.kept (t':=s.toks) fun b o e=>Heap.get?_push_of_some _ e;have I2:=I1.turned (h':=h') (t':=tk) (it:=s.heap.objs.size) (fun b o hb e=>hk b o (by simpa using hb) e) f0 f1 f3 f4 f5;refine⟨.bl (bs.any id),H,I2,?_,q⟩;show Value.bool _=Value.bool _;rw [size_toArray,<- hl,oa]
end
section
variable {X:Cx}{o e f:Expr}{apos cpos:Pos}{td ty tx:TE}
theorem wk:cu X (.builtin "len") (fun xs H Q=>∃p kvs,xs=[.ref p]/\Rd H p (.dK kvs)/\Q (.int kvs.length) H):=by
 intro pins s σ H xs us Q I r h;obtain⟨p,kvs,rfl,hd,q⟩:=h;obtain⟨u,rfl,ru⟩:=iJ r;cases (show u=Value.ref p from ru);exact FE I hd fun t s' I'=>⟨.int kvs.length,H,I',⟨t,rfl⟩,q⟩
end
def bc(K:PySem.W.Frag)(x:Str):Addr:=match PySem.W.nsIn K mainGlobals x with
 | some (some (.ref C))=>C
 | _=>0
theorem og{K:PySem.W.Frag}{x:Str}{C:Addr}(h:PySem.W.nsIn K mainGlobals x=some (some (.ref C))):bc K x=C:=by unfold bc;rw [h]
structure DL (P:Program) (w:World) (K:PySem.W.Frag) (mg:Str->Option Value) (base:Heap) (k:Nat) (C:Addr) (m:Str) (ps:List Str) (sp:Sp):Prop where
 ex:∃(f:Addr) (fd:FuncData),m7 P w K mg base CX0 k f fd ps sp/\jw K fd ps []/\E4 K C m f
structure DM (P:Program) (w:World) (K:PySem.W.Frag) (mg:Str->Option Value) (base:Heap) (k:Nat) (C:Addr) (x:Str) (ps:List Str) (sp:Sp):Prop where
 ex:∃(f:Addr) (fd:FuncData),m7 P w K mg base CX0 k f fd ps sp/\jw K fd ps []/\Mk K C f/\mg x=some (.ref C)
structure tm (K:PySem.W.Frag) (C:Addr) (m qual:Str) (st:Stmt):Prop where
 ex:∃(f:Addr) (fd:FuncData),Fun K m qual st f fd/\E4 K C m f
structure tq (K:PySem.W.Frag) (mg:Str->Option Value) (C:Addr) (x qual:Str) (st:Stmt):Prop where
 ex:∃(f:Addr) (fd:FuncData),Fun K "__init__" qual st f fd/\Mk K C f/\mg x=some (.ref C)
section
variable {P:Program}{w:World}{K:PySem.W.Frag}{mg:Str->Option Value}{base:Heap}{x m qual:Str}{C:Addr}{st:Stmt}{N ps:List Str}{k:Nat}{sp:Sp}
theorem tm.ok(D:tm K C m qual st)(S:aK N ps (aq st))
  (hb:∀(kV doc pm:Value) (an:Option Addr) (cdv ct:Value) (us:List Value),us.length=ps.length->bindArgs (PySem.W.fnOf m qual (cL st) (bS st) (aq st) .none kV doc pm an cdv ct) ⟨us,[]⟩=pure (ps.zip us))
  (len:∀vs H Q E,sp vs H Q E->vs.length=ps.length)
  (hbody:∀(f:Addr) (cdv:Value) (A:Around) (outer:List Env) (s:Shared) (H:Hp) (vs:List V) (Q:VK) (E:XK),gx k (A.deeper (envOfC qual (aq st) s.heap.objs.size f cdv))->sp vs H Q E ->
   ∃t,PSs (sQ CX0 P w K mg base N qual (aq st) f cdv A outer s H E).nox (bS st) t/\t { nx:=fun _ H'=>Q .non H',rt:=Q } (start N vs) H):DL P w K mg base (k+1) C m ps sp:=by
 obtain⟨f,fd,F,hm⟩:=D.ex;exact⟨f,fd,F.ok S len fun cdv A outer s H vs Q E hr h=>hbody f cdv A outer s H vs Q E hr h,F.binds hb,hm⟩
theorem tq.ok(D:tq K mg C x qual st)(S:aK N ps (aq st))
  (hb:∀(kV doc pm:Value) (an:Option Addr) (cdv ct:Value) (us:List Value),us.length=ps.length->bindArgs (PySem.W.fnOf "__init__" qual (cL st) (bS st) (aq st) .none kV doc pm an cdv ct) ⟨us,[]⟩=pure (ps.zip us))
  (len:∀vs H Q E,sp vs H Q E->vs.length=ps.length)
  (hbody:∀(f:Addr) (cdv:Value) (A:Around) (outer:List Env) (s:Shared) (H:Hp) (vs:List V) (Q:VK) (E:XK),gx k (A.deeper (envOfC qual (aq st) s.heap.objs.size f cdv))->sp vs H Q E ->
   ∃t,PSs (sQ CX0 P w K mg base N qual (aq st) f cdv A outer s H E).nox (bS st) t/\t { nx:=fun _ H'=>Q .non H',rt:=Q } (start N vs) H):DM P w K mg base (k+1) C x ps sp:=by
 obtain⟨f,fd,F,hm,e⟩:=D.ex;exact⟨f,fd,F.ok S len fun cdv A outer s H vs Q E hr h=>hbody f cdv A outer s H vs Q E hr h,F.binds hb,hm,e⟩
end
section
variable {X:Cx}{k:Nat}{x m:Str}{C:Addr}{ps:List Str}{sp:Sp}{p pos apos:Pos}{o e:Expr}{es:List Expr}{ta:TE}{t:TA}
theorem Bc(M:DM X.prog X.w X.K X.mg X.base k C x ps sp)(hr:gx (k+1) X.A)(ha:PA X (e::es) t)(hg:Gl X x:=by rfl)(hdb:(x == ("__debug__":Str))=false:=by decide)(he:starEach (e::es) X.env=(false,eval e X.env)::starEach es X.env:=by rfl)
  (hpl:(backTo pos (starEach es X.env)).any (·.1)=false:=by rfl):PE X (.Call (.Name x p) (e::es) [] pos) (yb C sp [] E0 t):=by
 obtain⟨f,fd,F,hb,hk,hm⟩:=M.ex;exact AQ hk F hr hg hm hb .nil yj ha hdb he hpl
theorem tu{pl:Sem Bool}(he:PE X o ta)(c:Cls X.K C)(M:DL X.prog X.w X.K X.mg X.base k C m ps sp)(hr:gx k X.A)
  (ht:eval (.Call (.Attribute o m apos) [] [] pos) X.env=(do
   let ov <- eval o X.env
   standAt apos.atName
   let (f,first) <- holding [ov] (getMethod ov m pl)
   callWith pos f first (backTo pos (starEach [] X.env)) (backToKw pos (keywordEach [] X.env))):=by rfl) :
  PE X (.Call (.Attribute o m apos) [] [] pos) (AO C m sp [] E0 ta cS):=by
 obtain⟨f,fd,F,hb,hm⟩:=M.ex;exact yc (pl:=pl) he c hm F hr hb .nil yj ht
end
theorem wl{prog:Program}{w:World}{A:Around}(k:Bool)(hh:A.handled=none)(it a:Addr)(hne:a≠it)(its:Array Value) :
  Draws prog w A it [it,a] its.size (fun i v=>its[i]?=some v) (fun i h=>i8 k h it a i/\la k h a its) where
 live:=fun _ _ st=>let ⟨o,ho,_⟩:=st.1;⟨o,ho⟩
 frame:=fun _ _ _ st hk=>⟨st.1.mv fun o e=>hk it (by simp) o e,st.2.mv fun o e=>hk a (by simp) o e⟩
 item:=fun i s Q E hi st hQ=>by
  refine pY st.1 st.2 (x:=its[i]) (by simp [hi]) fun h' hit' hs'=>?_;exact hQ _ h' s.toks (by simp [hi]) ⟨hit',st.2.mv fun o e=>hs'.extBut _ o hne e⟩ hs'
 done:=fun s Q E st hE=>lb hh st.1 st.2 (by simp) hE
def Ite(k:Bool)(K:PySem.W.Frag)(a:Addr):It :=
  ⟨fun i H=>∃xs x,Sq k K H a xs/\xs[i]?=some x,
   fun i H p H'=>∃T x,H T=none/\p=.ref T/\(∀xs,Sq k K H a xs->xs[i]?=some x)/\H'=upd H T (.tup [.int (i:Int),x]),
   fun i H=>∃xs,Sq k K H a xs/\xs.length<=i⟩
theorem wm{P:Program}{w:World}{K:PySem.W.Frag}{es:List Expr}{ct:Nat}{tp:Pos}{k:Bool}{a e it:Addr}(hei:e≠it) :
  CB P w K (.Tuple es ct tp) (Ite k K a) [e,it] e (fun n h=>(∃old,IsEnum h e it ((n:Nat):Int) old)/\i8 k h it a n) where
 mem:=by simp
 obj:=fun n h st b hb=>by
  obtain⟨⟨old,he⟩,o1,g1,c1,d1⟩:=st;simp only [mem_cons,not_mem_nil,or_false] at hb
  rcases hb with rfl|rfl
  .exact⟨_,he,fun v q=>by cases q⟩
  .exact⟨_,g1,fun v q=>by rw [d1] at q;cases q⟩
 keep:=fun n h h' st kk=>by
  obtain⟨⟨old,he⟩,w1⟩:=st;exact⟨⟨old,kk e (by simp) _ he⟩,w1.mv fun o q=>kk it (by simp) o q⟩
 item:=by
  intro X hP hw hK hc n pins s σ H E I hf st hg;subst hP hw hK;obtain⟨xs,x,q1,hx⟩:=hg;obtain⟨⟨old,he⟩,w1⟩:=st;obtain⟨its,rv,p,_⟩:=I.row q1;obtain⟨ux,hux,rx⟩:=rv.get hx;have ne:=I.row_ne q1 (hf e (by simp));have ni:=I.row_ne q1 (hf it (by simp))
  have hlt:n<its.toArray.size:=by
   have:=(List.getElem?_eq_some_iff.mp hux).1;simpa using this
  have hhd:X.A.in1.handled=none:=by exact I.ok.hd hc
  refine wpAny_pyNext_enum_itemD (wl k hhd it a ni its.toArray) he ⟨w1,p⟩ hlt hei (by simp [hei,Ne.symm ne]) fun y h' tk hP ho hst ht hsz hk=>?_
  have hy:y=ux:=by
   have h1:its[n]?=some y:=by simpa using hP
   rw [hux] at h1;exact (Option.some.inj h1).symm
  subst hy;refine⟨_,rfl,wpAny_letOwnedTupleGo_enum ho fun g ge gs=>?_⟩;have lt:∀{b o},s.heap.get? b=some o->s.heap.objs.size≠b:=fun q=>ne_of_gt (Heap.lt_size q)
  have kp:∀b o,b∉[e,it]->s.heap.get? b=some o->g.get? b=some o:=fun b o hb q=>by
   simp only [mem_cons,not_mem_nil,or_false,not_or] at hb;exact gs.extBut _ _ hb.1 (hk b o hb.1 hb.2 q)
  have I2:Inv X pins σ (upd H s.heap.objs.size (.tup [.int (n:Int),x])) { s with heap:=g,toks:=tk+1 }:=I.yielded (ch:=[e,it]) (fun b hb=>hf b hb) (Nat.le_refl _) kp
   ⟨by show 2<=sizeLine;decide,[.int (n:Int) tk,y],.cons ⟨tk,rfl⟩ (.cons rx .nil),_,gs.extBut _ _ (lt he) ht,rfl,_,rfl⟩
  refine⟨.ref s.heap.objs.size,_,I2,rfl,⟨_,x,I.hok.fresh (Nat.le_refl _),rfl,fun xs' q=>by rw [I.row_inj q q1];exact hx,rfl⟩,⟨⟨y,by simpa using ge⟩,hst.1.mv fun o q=>gs.extBut _ o (Ne.symm hei) q⟩,fun b hb=>?_⟩
  rw [aw ?_]
  .exact (hf b hb).1
  .intro q;subst q;simp only [mem_cons,not_mem_nil,or_false] at hb;obtain⟨o1,g1,_⟩:=w1
   rcases hb with q|q
   .exact lt he q
   .exact lt g1 q
 done:=by
  intro X hP hw hK hc n pins s σ H E I hf st hg;subst hP hw hK;obtain⟨xs,q1,hend⟩:=hg;obtain⟨⟨old,he⟩,w1⟩:=st;obtain⟨its,rv,p,_⟩:=I.row q1;have e1:=rv.length;have ni:=I.row_ne q1 (hf it (by simp));have hhd:X.A.in1.handled=none:=by exact I.ok.hd hc
  obtain⟨f0,f1,f2,f3,f4,f5⟩:=hf it (by simp)
  -- the walk's end is wherever the row has no item
  have hT:s.TypeIs (.ref e) "enumerate":=⟨_,he,rfl⟩
  unfold pyNext
  refine wpAny_bind (wpAny_attempt (wpAny_callSpecial?_slot (name:=Str.ofString "__next__") hT F.slot_enumerate_next
   (wpAny_call_entry F.slot_enumerate_next hT F.entry_enumerate_next ?_ (F.args_enumerate_next_1 _))))
  show wpAny _ _ (field (.ref e) 2 >>= _) _ _ _;refine wpAny_bind (wpAny_field he rfl (x:=.ref it) rfl ?_);refine wpAny_bind (lb hhd w1 p (by simp;omega) fun h' x he' hx'=>?_);obtain⟨o,ho,hcl⟩:=hx';refine wpAny_bind (wpAny_isInstance (T:="StopIteration") (b:=true) ⟨o,ho,hcl⟩ isSubtype_stop ?_);exact wpAny_pure ⟨rfl,I.turned (t':=s.toks) (fun b o hb q=>he' b o hb q) f0 f1 f3 f4 f5⟩
 self:=fun _ _ _ _ _ st h=>let ⟨⟨_,he⟩,_⟩:=st;wpAny_pyIter_enum he h
section
variable {P:Program}{w:World}{A:Around}{E:Value->Shared->Prop}{s:Shared}{k:Bool}
theorem yB(k:Bool)(a:Addr)(xs:Array Value):Meets (Builtin.«enumerate.__new__» ⟨[.type "enumerate",.ref a],[]⟩) (fun _ R s=>la k s.heap a xs /\
   R (.ok (.ret (.ref (s.heap.push (rA k a)).objs.size))) { s with heap:=(s.heap.push (rA k a)).push { cls:=.type "enumerate",data:=.fields #[.none,.bool false,.ref s.heap.objs.size,rawInt 0,.none,.none] } }) :=
 .of_wp fun prog w A R s h=>by
  obtain⟨hp,g,d,tk,os⟩:=s;obtain⟨r1,h⟩:=h;have hsub:=sub_enumerate;have R1:la k (Shared.heap ⟨hp,g,d,tk,os⟩) a xs:=r1;obtain⟨⟨cls,dd,data,sl⟩,ho,hc,n,hd⟩:=id r1;simp only at hc hd;subst hc hd
  wp_walk using AutoSeq1.wpAny_loadPart' ho
  refine wpAny_stack_any fun st=>wpAny_pure ?_
  split
  .rename_i c _ _ _ _ _
   cases (c == Value.type "enumerate")
   .wp_walk using AutoSeq1.wpAny_loadPart' ho,jA R1
    exact⟨_,rfl,h⟩
   .wp_walk using AutoSeq1.wpAny_loadPart' ho,jA R1
    exact⟨_,rfl,h⟩
  .wp_walk using AutoSeq1.wpAny_loadPart' ho,jA R1
   exact⟨_,rfl,h⟩
theorem yC{a:Addr}{xs:Array Value}{Q:Value->Shared->Prop}(r1:la k s.heap a xs)
  (h:∀h',IsEnum h' (s.heap.objs.size+1) s.heap.objs.size 0 .none->i8 k h' s.heap.objs.size a 0->(∀b o,s.heap.get? b=some o->h'.get? b=some o)->Q (.ref (s.heap.objs.size+1)) { s with heap:=h' }) :
  wpAny (model P w) A (call (.type "enumerate") [.ref a]) Q E s:=by
 refine callType_new F.called_enumerate (by decide) (F.typeCall_enumerate_1 _) (F.newCall_enumerate_1 _) (fun obj=>F.args_object_init_2 obj _) F.entry_enumerate_new (yB k a xs) ⟨r1,?_⟩;have z1:(s.heap.push (rA k a)).objs.size=s.heap.objs.size+1:=Heap.size_push ..;have g2:((s.heap.push (rA k a)).push { cls:=.type "enumerate",data:=.fields #[.none,.bool false,.ref s.heap.objs.size,rawInt 0,.none,.none] }).get? (s.heap.push (rA k a)).objs.size=some _:=Heap.get?_push_size _ rfl
 have g1:=Heap.get?_push_of_some { cls:=.type "enumerate",data:=.fields #[.none,.bool false,.ref s.heap.objs.size,rawInt 0,.none,.none] } (Heap.get?_push_size s.heap (o:=rA k a) rfl);show _/\_;rw [z1] at g2 ⊢;exact⟨⟨_,g2,rfl⟩,h _ g2 ⟨_,g1,rfl,rfl⟩ fun b o q=>Heap.get?_push_of_some _ (Heap.get?_push_of_some _ q)⟩
end
section
variable {X:Cx}{es:List Expr}{ct:Nat}{tp:Pos}
def yD(K:PySem.W.Frag)(ta:TA):TI:=fun σ H R=>ta σ H fun vs H1=>∃k a,vs=[.ref a]/\(∃xs,Sq k K H1 a xs)/\R (Ite k K a) H1
theorem Bd{a:Expr}{ta:TA}{p pos:Pos}(hg:Gl X "enumerate")(hm:X.mg "enumerate"=none)(ha:PA X [a] ta)(hs:starEach [a] X.env=[(false,eval a X.env)]:=by rfl) :
  PI X (.Tuple es ct tp) (.Call (.Name "enumerate" p) [a] [] pos) (yD X.K ta):=by
 intro pins s σ H R I h;refine Call_ (ik I hg hm boot_enumerate (PyProof.Rows.callWith_type1 (thn (ha pos pins s σ H _ I h) fun us s1 ⟨vs,H1,I1,r1,q1⟩=>?_) hs rfl));obtain⟨k,a,e,⟨xs,q1⟩,q⟩:=q1;subst e
 cases r1 with
 | cons r rr =>
  cases rr;cases r;obtain⟨its,rv,p,_⟩:=I1.row q1;refine yC p fun h' g1 g2 kk=>wpAny_pyIter_enum g1 ?_;have I2:Inv X pins σ H1 { s1 with heap:=h',toks:=s1.toks }:=I1.kept kk;refine⟨s1.heap.objs.size+1,[s1.heap.objs.size+1,s1.heap.objs.size],_,_,H1,rfl,I2,wm (k:=k) (a:=a) (it:=s1.heap.objs.size) (ne_of_gt (lt_succ_self _)),⟨⟨_,g1⟩,g2⟩,fun b hb=>?_,q⟩
  have hle:s1.heap.objs.size<=b:=by
   simp only [mem_cons,not_mem_nil,or_false] at hb
   rcases hb with e|e
   .rw [e];exact le_add_right _ _
   .rw [e];exact Nat.le_refl _
  exact I1.fpOk hle (I1.hok.fresh hle)
end
section
variable {X:Cx}
theorem wn(hc:X.calm=true):cu X (.builtin "min") (fun xs H Q=>∃(p:Addr) (ns:List Int),xs=[.ref p]/\SqL X.K H p (ns.map V.int)/\0<ns.length/\∀m:Int,m∈ns->(∀a∈ns,m<=a)->Q (.int m) H):=by
 intro pins s σ H xs us Q I r h;obtain⟨p,ns,rfl,hS,hne,q⟩:=h;obtain⟨u,rfl,ru⟩:=iJ r;cases (show u=Value.ref p from ru);obtain⟨its,rv,pl,hz⟩:=I.list hS;have hi:=fj rv;have hl:=pl.isList;obtain⟨ys,e⟩:=hi.allInts.items;have hns:ns=ys.toList.map (·.1):=by rw [<- hi.numsOf,<- nums_intItems,<- e]
 have hsz:0<ys.size:=by
  have h3:=hne;rw [hns,length_map,Array.length_toList] at h3;exact h3
 rw [e] at hl;refine min_intList (by exact I.ok.hd hc) hl hsz fun v h' tk hv hk=>?_;obtain⟨t,rfl⟩:=intItems_at hv;obtain⟨h1,h2⟩:=argBest_lt (numAt ys) (ys.size - 1)
 refine⟨.int _,H,I.kept (t':=tk) hk,⟨t,rfl⟩,q _ ?_ fun a ha=>?_⟩
 .rw [hns,numAt_eq];exact getD_mem (by rw [length_map,Array.length_toList];omega)
 .rw [hns] at ha;obtain⟨j,hj,rfl⟩:=mem_getD ha;rw [length_map,Array.length_toList] at hj;rw [<- numAt_eq];exact h2 j (by omega)
theorem nh(ns:List Int):∀k,k<=ns.length->preSum (fun i=>ns.getD i 0) k=(ns.take k).sum
 | 0,_=>rfl
 | k+1,h=>by
  rw [preSum,nh ns k (by omega),take_add_one,getElem?_eq_getElem (by omega),sum_append,getD_eq_getElem?_getD,getElem?_eq_getElem (by omega)];simp
theorem wo(hc:X.calm=true):cu X (.builtin "sum") (fun xs H Q=>∃(p:Addr) (ns:List Int),xs=[.ref p]/\SqL X.K H p (ns.map V.int)/\Q (.int ns.sum) H):=by
 intro pins s σ H xs us Q I r h;obtain⟨p,ns,rfl,hS,q⟩:=h;obtain⟨u,rfl,ru⟩:=iJ r;cases (show u=Value.ref p from ru);obtain⟨its,rv,pl,hz⟩:=I.list hS;have hi:=fj rv;have hl:=pl.isList;obtain⟨ys,e⟩:=hi.allInts.items;have hns:ns=ys.toList.map (·.1):=by rw [<- hi.numsOf,<- nums_intItems,<- e]
 rw [e] at hl;refine sum_intListG (by exact I.ok.hd hc) hl fun h' tk t' hk=>⟨.int ns.sum,H,I.kept (t':=tk) hk,⟨t',?_⟩,q⟩
 have hlen:ys.size=ns.length:=by rw [hns,length_map,Array.length_toList]
 have hnum:numAt ys=fun i=>ns.getD i 0:=by
  funext i;rw [numAt_eq,hns]
 rw [hnum,hlen,nh ns ns.length (Nat.le_refl _),take_length]
end
section
variable {X:Cx}{e:Expr}{ta:TE}{f:Str}{pos:Pos}
theorem dS(K:PySem.W.Frag)(eK:X.K=K)(he:PE X e ta)(hb:attributeBase e f X.env (eval e X.env)=eval e X.env):PE X (.Attribute e f pos) (uZ K ta f):=eK ▸ De he hb
def FF(K:PySem.W.Frag):List V->Hp->VK->Prop:=fun xs H Q=>∃p ys,xs=[.ref p]/\SqL K H p ys/\Q (.int ys.length) H
def FG(K:PySem.W.Frag):List V->Hp->VK->Prop:=fun xs H Q=>∃p ys,xs=[.ref p]/\SqT K H p ys/\Q (.int ys.length) H
def GN(K:PySem.W.Frag):List V->Hp->VK->Prop:=fun xs H Q=>∃x n t b,xs=[x,.ty n]/\pA K H x t/\PySem.W.kitOne K t (.type n)=some b/\Q (.bl b) H
def e8(K:PySem.W.Frag):List V->Hp->VK->Prop:=fun xs H Q=>∃p ys,xs=[.ref p]/\(SqL K H p ys\/SqT K H p ys)/\∀l,H l=none->Q (.ref l) (upd H l (.lst ys))
end
section
variable {X:Cx}{o e:Expr}{es:List Expr}{to:TE}{t:TA}{name:Str}{apos cpos:Pos}{T id:String}{r:V->List V->Hp->VK->Prop}
theorem ey(K:PySem.W.Frag)(eK:X.K=K)(pa:PlainAttrs T)(slot:Slot T name id)(hty:typeOf (.builtin id)=pure (.type "method_descriptor"))(hm:MtR X id r)(ho:PE X o to)(ha:PA X (e::es) t)
  (hbase:attributeBase o name X.env (eval o X.env)=eval o X.env:=by rfl)
  (hfew:((backTo cpos (starEach (e::es) X.env)).all (fun x=>!x.1) && (backToKw cpos (keywordEach [] X.env)).all (fun x=>x.1.isSome)
   && decide ((e::es).length+([]:List Keyword).length+(if ([]:List Keyword).isEmpty then 0 else 1)<30))=true:=by rfl)
  (hline:(apos.endLine == cpos.line)=true:=by rfl) (hs:starEach (e::es) X.env=(false,eval e X.env)::starEach es X.env:=by rfl) (hplain:(backTo cpos (starEach es X.env)).any (·.1)=false:=by rfl) :
  PE X (.Call (.Attribute o name apos) (e::es) [] cpos) (tBM K T r to t):=eK ▸ Fu pa slot hty hm ho ha hbase hfew hline hs hplain
theorem Be(K:PySem.W.Frag)(eK:X.K=K){es:List Expr}{k:Nat}{t:TGs}{n:Nat}{pos:Pos}(hc:X.calm=true)(h:PGs X es t)
  (hn:(assignEach es X.env).length=n:=by rfl) (hst:(assignEach es X.env).findIdx? (·.1)=none:=by rfl):PG X (.Tuple es k pos) (Fh K n t):=eK ▸ zB hc h hn hst
end
def gz(c:Bool)(A B:Prop):Prop:=match c with|true=>A|false=>B
theorem yE{c:Bool}{A B:Prop}(h1:c=true->A)(h2:c=false->B):gz c A B:=by
 cases c with
 | true=>exact h1 rfl
 | false=>exact h2 rfl
theorem dz{p:Prop}[Decidable p]{A B:Prop}(h1:p->A)(h2:¬ p->B):gz (decide p) A B:=yE (fun h=>h1 (of_decide_eq_true h)) (fun h=>h2 (of_decide_eq_false h))
theorem p8{p:Prop}[Decidable p]{A B:Prop}(h1:¬ p->A)(h2:p->B):gz (!decide p) A B:=yE (fun h=>h1 fun z=>by rw [decide_eq_true z] at h;cases h) (fun h=>h2 (by
 by_cases z:p
 .exact z
 .rw [decide_eq_false z] at h;cases h))
theorem FH{p:Prop}[Decidable p]{A B:Prop}(h:p)(hA:A):gz (decide p) A B:=dz (fun _=>hA) (fun z=>absurd h z)
theorem FI{p:Prop}[Decidable p]{A B:Prop}(h:¬ p)(hB:B):gz (decide p) A B:=dz (fun z=>absurd z h) (fun _=>hB)
theorem DN{p:Prop}[Decidable p]{A B:Prop}(h:¬ p)(hA:A):gz (!decide p) A B:=p8 (fun _=>hA) (fun z=>absurd z h)
theorem DO{p:Prop}[Decidable p]{A B:Prop}(h:p)(hB:B):gz (!decide p) A B:=p8 (fun z=>absurd h z) (fun _=>hB)
theorem lf{c:Bool}{A B:Prop}(h:gz c B A):gz (!c) A B:=by
 cases c <;> exact h
theorem G9{c:Bool}{A B:Prop}(h:c=true)(hA:A):gz c A B:=by subst h;exact hA
theorem Ha{c:Bool}{A B:Prop}(h:c=false)(hB:B):gz c A B:=by subst h;exact hB
theorem FJ{c:Bool}{A B:Prop}(h:c=false)(hA:A):gz (!c) A B:=by subst h;exact hA
theorem Bf{c:Bool}{A B:Prop}(h:c=true)(hB:B):gz (!c) A B:=by subst h;exact hB
inductive D where
 | non|bl (b:Bool)|int (i:Int)|str (l:List Nat)|ty (n:String)
 | lst (ds:List D)|tup (ds:List D)|scr (ns:List Int)|dic (ks:List Key) (ds:List D)|obj (c:Str) (ns:List Str) (ds:List D)|exc (c:Str) (ns:List Str) (ds:List D)
def XAt(x C:Addr)(dd:Option Addr)(new:Bool)(h:Heap):Prop:=∃o vs,h.get? x=some o/\o.cls=.ref C/\o.dict=dd/\o.data=.fields vs/\1<vs.size/\(new=true->vs[1]?=some .none)
def fk(A:Addr->Prop)(a:Addr):Addr->Prop:=fun b=>A b\/b=a
def CF(K:PySem.W.Frag)(O:Addr->Prop)(H:Hp)(a:Addr)(xs:List V):Prop :=
 (¬ O a/\Rd H a (.lst xs))\/∃(o:Obj) (its:Array Value) (n:Nat),K.lookup a=some o/\o.cls=.type "list"/\o.dict=none/\o.data=.seq its n/\its.size<=sizeLine/\bW xs its.toList
theorem CF.sq{K:PySem.W.Frag}{O:Addr->Prop}{H:Hp}{a:Addr}{xs:List V}(h:CF K O H a xs):SqL K H a xs:=h.elim (fun z=>.inl z.2) .inr
def aS(O:Addr->Prop)(H:Hp)(O':Addr->Prop)(H':Hp):Prop:=∀b o,¬ O b->H b=some o->¬ O' b/\H' b=some o
theorem Rd.keeps{O O':Addr->Prop}{H H':Hp}{a:Addr}{u:HO}(k:aS O H O' H')(n:¬ O a)(r:Rd H a u):¬ O' a/\Rd H' a u:=by
 rcases r with e|⟨o,e⟩
 .exact⟨(k _ _ n e).1,.inl (k _ _ n e).2⟩
 .exact⟨(k _ _ n e).1,.inr ⟨o,(k _ _ n e).2⟩⟩
theorem CF.keeps{K:PySem.W.Frag}{O O':Addr->Prop}{H H':Hp}{a:Addr}{xs:List V}(k:aS O H O' H')(h:CF K O H a xs):CF K O' H' a xs:=by
 rcases h with ⟨n,r⟩|r
 .exact .inl (r.keeps k n)
 .exact .inr r
mutual
inductive FV (K:PySem.W.Frag) (O:Addr->Prop) (H:Hp):V->D->Prop
 | non:FV K O H .non .non
 | bl (b:Bool):FV K O H (.bl b) (.bl b)
 | int (i:Int):FV K O H (.int i) (.int i)
 | str (l:List Nat):l.length<=1000000->FV K O H (.str (S l)) (.str l)
 | ty (n:String):FV K O H (.ty n) (.ty n)
 | scr {a:Addr}{ns:List Int}:CF K O H a (ns.map V.int)->FV K O H (.ref a) (.scr ns)
 | lst {a:Addr}{xs:List V}{ds:List D}:¬ O a->H a=some (.lst xs)->FVs K O H xs ds->FV K O H (.ref a) (.lst ds)
 | tup {a:Addr}{xs:List V}{ds:List D}:¬ O a->H a=some (.tup xs)->FVs K O H xs ds->FV K O H (.ref a) (.tup ds)
 | dic {a:Addr}{kvs:List (Key×V)}{ks:List Key}{ds:List D}:¬ O a->H a=some (.dK kvs)->kvs.map Prod.fst=ks->FVs K O H (kvs.map Prod.snd) ds->FV K O H (.ref a) (.dic ks ds)
 | obj {a dx:Addr}{c:Str}{fs:List (Str×V)}{ns:List Str}{ds:List D}:¬ O a->H a=some (.ins (bc K c) dx fs)->fs.map Prod.fst=ns->FVs K O H (fs.map Prod.snd) ds->FV K O H (.ref a) (.obj c ns ds)
 | exc0 {a:Addr}{c:Str}{new:Bool}:¬ O a->H a=some (.ext (XAt a (bc K c) none new))->FV K O H (.ref a) (.exc c [] [])
 | exc1 {a dx:Addr}{c:Str}{new:Bool}{fs:List (Str×V)}{ns:List Str}{ds:List D}:¬ O a->¬ O dx->H a=some (.ext (XAt a (bc K c) (some dx) new))->H dx=some (.xd fs)->fs.map Prod.fst=ns->FVs K O H (fs.map Prod.snd) ds->FV K O H (.ref a) (.exc c ns ds)
inductive FVs (K:PySem.W.Frag) (O:Addr->Prop) (H:Hp):List V->List D->Prop
 | nil:FVs K O H [] []
 | cons {x:V}{d:D}{xs:List V}{ds:List D}:FV K O H x d->FVs K O H xs ds->FVs K O H (x::xs) (d::ds)
end
section
variable {K:PySem.W.Frag}{O O':Addr->Prop}{H H':Hp}
mutual
theorem FV.keeps(k:aS O H O' H'):∀{v:V}{d:D},FV K O H v d->FV K O' H' v d
 | _,_,.non=>.non
 | _,_,.bl b=>.bl b
 | _,_,.int i=>.int i
 | _,_,.str l h=>.str l h
 | _,_,.ty n=>.ty n
 | _,_,.scr s=>.scr (s.keeps k)
 | _,_,.lst n e f=>.lst (k _ _ n e).1 (k _ _ n e).2 (FVs.keeps k f)
 | _,_,.tup n e f=>.tup (k _ _ n e).1 (k _ _ n e).2 (FVs.keeps k f)
 | _,_,.dic n e m f=>.dic (k _ _ n e).1 (k _ _ n e).2 m (FVs.keeps k f)
 | _,_,.obj n e m f=>.obj (k _ _ n e).1 (k _ _ n e).2 m (FVs.keeps k f)
 | _,_,.exc0 n e=>.exc0 (k _ _ n e).1 (k _ _ n e).2
 | _,_,.exc1 n n2 e e2 m f=>.exc1 (k _ _ n e).1 (k _ _ n2 e2).1 (k _ _ n e).2 (k _ _ n2 e2).2 m (FVs.keeps k f)
theorem FVs.keeps(k:aS O H O' H'):∀{vs:List V}{ds:List D},FVs K O H vs ds->FVs K O' H' vs ds
 | _,_,.nil=>.nil
 | _,_,.cons a b=>.cons (FV.keeps k a) (FVs.keeps k b)
end
theorem FVs.length:∀{vs:List V}{ds:List D},FVs K O H vs ds->vs.length=ds.length
 | _,_,.nil=>rfl
 | _,_,.cons _ b=>by rw [length_cons,length_cons,b.length]
theorem FVs.get:∀{vs:List V}{ds:List D}{i:Nat}{v:V},FVs K O H vs ds->vs[i]?=some v->∃d,ds[i]?=some d/\FV K O H v d
 | _,_,0,_,.cons a _,e=>by simp at e;subst e;exact⟨_,rfl,a⟩
 | _,_,i+1,v,.cons _ b,e=>by
  obtain⟨d,h1,h2⟩:=b.get (i:=i) (v:=v) (by simpa using e);exact⟨d,by simpa using h1,h2⟩
theorem FVs.getD:∀{vs:List V}{ds:List D}{i:Nat}{d:D},FVs K O H vs ds->ds[i]?=some d->∃v,vs[i]?=some v/\FV K O H v d
 | _,_,0,_,.cons a _,e=>by simp at e;subst e;exact⟨_,rfl,a⟩
 | _,_,i+1,v,.cons _ b,e=>by
  obtain⟨d,h1,h2⟩:=b.getD (i:=i) (d:=v) (by simpa using e);exact⟨d,by simpa using h1,h2⟩
theorem FVs.append:∀{vs ws:List V}{ds es:List D},FVs K O H vs ds->FVs K O H ws es->FVs K O H (vs++ws) (ds++es)
 | _,_,_,_,.nil,s=>s
 | _,_,_,_,.cons a b,s=>.cons a (b.append s)
theorem FVs.set{v:V}{d:D}(f:FV K O H v d):∀{vs:List V}{ds:List D} (i:Nat),FVs K O H vs ds->FVs K O H (vs.set i v) (ds.set i d)
 | _,_,_,.nil=>.nil
 | _,_,0,.cons _ t=>.cons f t
 | _,_,i+1,.cons q t=>.cons q (FVs.set f i t)
theorem FVs.take:∀{vs:List V}{ds:List D} (n:Nat),FVs K O H vs ds->FVs K O H (vs.take n) (ds.take n)
 | _,_,0,_=>.nil
 | _,_,_+1,.nil=>.nil
 | _,_,n+1,.cons r t=>.cons r (t.take n)
theorem FVs.drop:∀{vs:List V}{ds:List D} (n:Nat),FVs K O H vs ds->FVs K O H (vs.drop n) (ds.drop n)
 | _,_,0,r=>r
 | _,_,_+1,.nil=>.nil
 | _,_,n+1,.cons _ t=>t.drop n
theorem FVs.reverse:∀{vs:List V}{ds:List D},FVs K O H vs ds->FVs K O H vs.reverse ds.reverse
 | _,_,.nil=>.nil
 | _,_,.cons r t=>by rw [reverse_cons,reverse_cons];exact t.reverse.append (.cons r .nil)
theorem FVs.ints:∀{vs:List V}{ns:List Int},FVs K O H vs (ns.map D.int)->vs=ns.map V.int
 | _,[],.nil=>rfl
 | _,n::r,h=>by
  cases h with
  | cons a b=>cases a;rw [FVs.ints b];rfl
theorem FVs.of_ints:∀ns:List Int,FVs K O H (ns.map V.int) (ns.map D.int)
 | []=>.nil
 | n::r=>.cons (.int n) (FVs.of_ints r)
theorem FVs.bls:∀{vs:List V}{bs:List Bool},FVs K O H vs (bs.map D.bl)->vs=bs.map V.bl
 | _,[],.nil=>rfl
 | _,n::r,h=>by
  cases h with
  | cons a b=>cases a;rw [FVs.bls b];rfl
end
inductive PV where
 | dat (d:D)|own (ds:List D)|ins (c:Str) (ns:List Str) (ds:List D)
def PV.isOwn:PV->Bool
 | .dat _=>false
 | _=>true
def PV.d:PV->D
 | .dat d=>d
 | .own ds=>.lst ds
 | .ins c ns ds=>.obj c ns ds
abbrev PSt:=List (Option PV)
def Wr(ρ:PSt)(σ:St)(b:Addr):Prop:=∃(i:Nat) (p:PV),ρ[i]?=some (some p)/\p.isOwn=true/\σ[i]?=some (some (.ref b))
def OO(A:Addr->Prop)(ρ:PSt)(σ:St)(b:Addr):Prop:=A b\/Wr ρ σ b
def RS(K:PySem.W.Frag)(O:Addr->Prop)(H:Hp):PV->V->Prop
 | .dat d,v=>FV K O H v d
 | .own ds,v=>∃a xs,v=.ref a/\H a=some (.lst xs)/\FVs K O H xs ds
 | .ins c ns ds,v=>∃a dx fs,v=.ref a/\H a=some (.ins (bc K c) dx fs)/\fs.map Prod.fst=ns/\FVs K O H (fs.map Prod.snd) ds
structure Rel (K:PySem.W.Frag) (A:Addr->Prop) (ρ:PSt) (σ:St) (H:Hp):Prop where
 len:ρ.length=σ.length
 get:∀(i:Nat) (p:PV),ρ[i]?=some (some p)->∃v,σ[i]?=some (some v)/\RS K (OO A ρ σ) H p v
 dj:∀(i j:Nat) (p q:PV) (v:V),ρ[i]?=some (some p)->ρ[j]?=some (some q)->p.isOwn=true->q.isOwn=true->σ[i]?=some (some v)->σ[j]?=some (some v)->i=j
 dom:∀b,A b->H b≠none
 sep:∀b,A b->¬ Wr ρ σ b
structure Fr (ρ:PSt) (σ:St) (H:Hp) (ρ':PSt) (H':Hp):Prop where
 kp:∀b o,¬ Wr ρ σ b->H b=some o->H' b=some o
 dm:∀b,H b≠none->H' b≠none
 ow:∀b,Wr ρ' σ b->Wr ρ σ b
theorem Fr.refl(ρ:PSt)(σ:St)(H:Hp):Fr ρ σ H ρ H:=⟨fun _ _ _ h=>h,fun _ h=>h,fun _ h=>h⟩
theorem Fr.trans{ρ ρ1 ρ2:PSt}{σ:St}{H H1 H2:Hp}(a:Fr ρ σ H ρ1 H1)(b:Fr ρ1 σ H1 ρ2 H2):Fr ρ σ H ρ2 H2 :=
 ⟨fun c o n h=>b.kp c o (fun z=>n (a.ow c z)) (a.kp c o n h),fun c h=>b.dm c (a.dm c h),fun c h=>a.ow c (b.ow c h)⟩
theorem Fr.keeps{ρ ρ':PSt}{σ:St}{H H':Hp}{A:Addr->Prop}(f:Fr ρ σ H ρ' H'):aS (OO A ρ σ) H (OO A ρ' σ) H':=fun b o n h =>
 ⟨fun z=>z.elim (fun z=>n (.inl z)) (fun z=>n (.inr (f.ow b z))),f.kp b o (fun z=>n (.inr z)) h⟩
theorem Fr.new{ρ:PSt}{σ:St}{H:Hp}{p:Addr}{o:HO}(h:H p=none):Fr ρ σ H ρ (upd H p o) :=
 ⟨fun b u _ e=>by rw [aw (aT e h)];exact e,fun b e=>by
  by_cases z:b=p
  .rw [z,aF];exact nofun
  .rw [aw z];exact e,fun _ h=>h⟩
theorem aS.fresh{O:Addr->Prop}{H:Hp}{p:Addr}{o:HO}(h:H p=none):aS O H (fk O p) (upd H p o):=fun b u n e =>
 ⟨fun z=>z.elim n (fun z=>by rw [z,h] at e;cases e),by rw [aw (aT e h)];exact e⟩
theorem aS.less{O O':Addr->Prop}{H:Hp}(h:∀b,O' b->O b):aS O H O' H:=fun b o n e=>⟨fun z=>n (h b z),e⟩
theorem RS.keeps{K:PySem.W.Frag}{O O':Addr->Prop}{H H':Hp}{p:PV}{v:V}(k:aS O H O' H')(w:p.isOwn=true->∀a,v=.ref a->H' a=H a)(h:RS K O H p v):RS K O' H' p v:=by
 cases p with
 | dat d=>exact FV.keeps k h
 | own ds =>
  obtain⟨a,xs,e,g,f⟩:=h;exact⟨a,xs,e,by rw [w rfl a e];exact g,f.keeps k⟩
 | ins c ns ds =>
  obtain⟨a,dx,fs,e,g,m,f⟩:=h;exact⟨a,dx,fs,e,by rw [w rfl a e];exact g,m,f.keeps k⟩
theorem RS.ref{K:PySem.W.Frag}{O:Addr->Prop}{H:Hp}{p:PV}{v:V}(h:RS K O H p v)(o:p.isOwn=true):∃a u,v=.ref a/\H a=some u:=by
 cases p with
 | dat d=>cases o
 | own ds=>obtain⟨a,xs,e,g,f⟩:=h;exact⟨a,_,e,g⟩
 | ins c ns ds=>obtain⟨a,dx,fs,e,g,m,f⟩:=h;exact⟨a,_,e,g⟩
theorem Rel.wr{K:PySem.W.Frag}{A:Addr->Prop}{ρ:PSt}{σ:St}{H:Hp}(R:Rel K A ρ σ H){b:Addr}(h:Wr ρ σ b):H b≠none:=by
 obtain⟨i,p,e,o,s⟩:=h;obtain⟨v,s',r⟩:=R.get i p e;rw [s] at s';cases s';obtain⟨a,u,e1,e2⟩:=r.ref o;cases e1;rw [e2];exact nofun
theorem Rel.oo{K:PySem.W.Frag}{A:Addr->Prop}{ρ:PSt}{σ:St}{H:Hp}(R:Rel K A ρ σ H){b:Addr}(h:H b=none):¬ OO A ρ σ b:=fun z=>z.elim (fun z=>R.dom b z h) (fun z=>R.wr z h)
theorem Rel.grow{K:PySem.W.Frag}{A:Addr->Prop}{ρ:PSt}{σ:St}{H:Hp}(R:Rel K A ρ σ H){p:Addr}{o:HO}(h:H p=none):Rel K A ρ σ (upd H p o):=by
 have k:aS (OO A ρ σ) H (OO A ρ σ) (upd H p o):=Fr.keeps (Fr.new h);refine⟨R.len,fun i q e=>?_,R.dj,fun b z=>(Fr.new (ρ:=ρ) (σ:=σ) h).dm b (R.dom b z),R.sep⟩;obtain⟨v,s,r⟩:=R.get i q e;refine⟨v,s,r.keeps k fun ow a ea=>?_⟩;obtain⟨a',u,e1,e2⟩:=r.ref ow;rw [ea] at e1;cases e1;rw [aw (aT e2 h)]
theorem Rel.less{K:PySem.W.Frag}{A A':Addr->Prop}{ρ:PSt}{σ:St}{H:Hp}(R:Rel K A ρ σ H)(h:∀b,A' b->A b):Rel K A' ρ σ H:=by
 refine⟨R.len,fun i q e=>?_,R.dj,fun b z=>R.dom b (h b z),fun b z=>R.sep b (h b z)⟩;obtain⟨v,s,r⟩:=R.get i q e;exact⟨v,s,r.keeps (aS.less fun b z=>z.imp (h b) id) fun _ _ _=>rfl⟩
theorem Rel.write{K:PySem.W.Frag}{A:Addr->Prop}{ρ:PSt}{σ:St}{H:Hp}(R:Rel K A ρ σ H){i:Nat}{p q:PV}{a:Addr}{o:HO}(e:ρ[i]?=some (some p))(ow:p.isOwn=true)(ow':q.isOwn=true)(es:σ[i]?=some (some (.ref a)))
  (new:RS K (OO A ρ σ) (upd H a o) q (.ref a)):Rel K A (ρ.set i (some q)) σ (upd H a o)/\Fr ρ σ H (ρ.set i (some q)) (upd H a o):=by
 have hi:i<ρ.length:=(List.getElem?_eq_some_iff.mp e).1;have wa:Wr ρ σ a:=⟨i,p,e,ow,es⟩
 have weq:∀b,Wr (ρ.set i (some q)) σ b ↔ Wr ρ σ b:=fun b=>by
  constructor
  .rintro⟨j,r,e1,o1,s1⟩
   by_cases z:i=j
   .subst z;exact⟨i,p,e,ow,s1⟩
   .rw [getElem?_set_ne z] at e1;exact⟨j,r,e1,o1,s1⟩
  .rintro⟨j,r,e1,o1,s1⟩
   by_cases z:i=j
   .subst z;exact⟨i,q,getElem?_set_self hi,ow',s1⟩
   .exact⟨j,r,by rw [getElem?_set_ne z];exact e1,o1,s1⟩
 have oeq:OO A (ρ.set i (some q)) σ=OO A ρ σ:=funext fun b=>propext (or_congr Iff.rfl (weq b));have kp:∀b u,¬ Wr ρ σ b->H b=some u->upd H a o b=some u:=fun b u n h=>by rw [aw (fun z=>n (by rw [z];exact wa))];exact h
 have k:aS (OO A ρ σ) H (OO A ρ σ) (upd H a o):=fun b u n h=>⟨n,kp b u (fun z=>n (.inr z)) h⟩
 have dm:∀b,H b≠none->upd H a o b≠none:=fun b n=>by
  by_cases z:b=a
  .rw [z,aF];exact nofun
  .rw [aw z];exact n
 refine⟨⟨by rw [length_set];exact R.len,fun j r e1=>?_,fun j l p1 q1 v e1 e2 o1 o2 s1 s2=>?_,fun b z=>dm b (R.dom b z),fun b z w=>R.sep b z ((weq b).mp w)⟩,⟨kp,dm,fun b w=>(weq b).mp w⟩⟩
 .rw [oeq]
  by_cases z:i=j
  .subst z;rw [getElem?_set_self hi] at e1;cases e1;exact⟨_,es,new⟩
  .rw [getElem?_set_ne z] at e1;obtain⟨v,s,rr⟩:=R.get j r e1;refine⟨v,s,rr.keeps k fun ow2 b eb=>?_⟩;rw [aw];intro zz;subst zz;rw [eb] at s;exact z (R.dj i j p r _ e e1 ow ow2 es s)
 .have ex:∀(m:Nat) (x:PV),(ρ.set i (some q))[m]?=some (some x)->x.isOwn=true->∃y:PV,ρ[m]?=some (some y)/\y.isOwn=true:=fun m x em ox=>by
   by_cases z:i=m
   .subst z;exact⟨p,e,ow⟩
   .rw [getElem?_set_ne z] at em;exact⟨x,em,ox⟩
  obtain⟨y1,h1,h2⟩:=ex j p1 e1 o1;obtain⟨y2,h3,h4⟩:=ex l q1 e2 o2;exact R.dj j l y1 y2 v h1 h3 h2 h4 s1 s2
theorem Rel.frz{K:PySem.W.Frag}{A:Addr->Prop}{ρ:PSt}{σ:St}{H:Hp}(R:Rel K A ρ σ H){i:Nat}{p:PV}(e:ρ[i]?=some (some p)) :
  Rel K A (ρ.set i (some (.dat p.d))) σ H/\Fr ρ σ H (ρ.set i (some (.dat p.d))) H:=by
 have hi:i<ρ.length:=(List.getElem?_eq_some_iff.mp e).1
 have ex:∀(m:Nat) (x:PV),(ρ.set i (some (.dat p.d)))[m]?=some (some x)->x.isOwn=true->m≠i/\ρ[m]?=some (some x):=fun m x em ox=>by
  by_cases z:i=m
  .subst z;rw [getElem?_set_self hi] at em;cases em;cases ox
  .rw [getElem?_set_ne z] at em;exact⟨fun q=>z q.symm,em⟩
 have ow:∀b,Wr (ρ.set i (some (.dat p.d))) σ b->Wr ρ σ b:=fun b ⟨j,r,e1,o1,s1⟩=>⟨j,r,(ex j r e1 o1).2,o1,s1⟩
 have k:aS (OO A ρ σ) H (OO A (ρ.set i (some (.dat p.d))) σ) H:=aS.less fun b z=>z.imp id (ow b);refine⟨⟨by rw [length_set];exact R.len,fun j r e1=>?_,fun j l p1 q1 v e1 e2 o1 o2 s1 s2=>R.dj j l p1 q1 v (ex j p1 e1 o1).2 (ex l q1 e2 o2).2 o1 o2 s1 s2,R.dom,fun b z w=>R.sep b z (ow b w)⟩,⟨fun _ _ _ h=>h,fun _ h=>h,ow⟩⟩
 by_cases z:i=j
 .subst z;rw [getElem?_set_self hi] at e1;cases e1;obtain⟨v,s,r⟩:=R.get i p e;refine⟨v,s,?_⟩
  have na:∀a,v=.ref a->p.isOwn=true->¬ OO A (ρ.set i (some (.dat p.d))) σ a:=fun a ea oo z=>by
   subst ea
   rcases z with z|⟨j,r,e1,o1,s1⟩
   .exact R.sep a z ⟨i,p,e,oo,s⟩
   .obtain⟨n1,n2⟩:=ex j r e1 o1;exact n1 (R.dj j i r p _ n2 e o1 oo s1 s)
  cases p with
  | dat d=>exact FV.keeps k r
  | own ds =>
   obtain⟨a,xs,rfl,g,f⟩:=r;exact .lst (na a rfl rfl) g (f.keeps k)
  | ins c ns ds =>
   obtain⟨a,dx,fs,rfl,g,m,f⟩:=r;exact .obj (na a rfl rfl) g m (f.keeps k)
 .rw [getElem?_set_ne z] at e1;obtain⟨v,s,r⟩:=R.get j _ e1;exact⟨v,s,r.keeps k fun _ _ _=>rfl⟩
abbrev PKt:=PV->PSt->Prop
abbrev PTE:=PSt->PKt->Prop
abbrev PTT:=PSt->(Bool->PSt->Prop)->Prop
inductive AV where
 | v (d:D)|sl (i:Nat)
abbrev PA1:=PSt->(AV->PSt->Prop)->Prop
abbrev PTA:=PSt->(List AV->PSt->Prop)->Prop
def Out(K:PySem.W.Frag)(A:Addr->Prop)(ρ:PSt)(σ:St)(H0 H:Hp):PV->V->Prop
 | .dat d,v=>Rel K A ρ σ H/\FV K (OO A ρ σ) H v d
 | .own ds,v=>∃a xs,v=.ref a/\¬ A a/\H0 a=none/\H a=some (.lst xs)/\Rel K (fk A a) ρ σ H/\FVs K (OO (fk A a) ρ σ) H xs ds
 | .ins c ns ds,v=>∃a dx fs,v=.ref a/\¬ A a/\H0 a=none/\H a=some (.ins (bc K c) dx fs)/\fs.map Prod.fst=ns/\Rel K (fk A a) ρ σ H/\FVs K (OO (fk A a) ρ σ) H (fs.map Prod.snd) ds
def LE(K:PySem.W.Frag)(te:TE)(pe:PTE):Prop:=∀(A:Addr->Prop) (ρ:PSt) (σ:St) (H:Hp) (Q:PKt) (Q':VK),Rel K A ρ σ H->pe ρ Q ->
 (∀v H' p ρ',Q p ρ'->Fr ρ σ H ρ' H'->Out K A ρ' σ H H' p v->Q' v H')->te σ H Q'
def LT(K:PySem.W.Frag)(tt:TT)(pt:PTT):Prop:=∀(A:Addr->Prop) (ρ:PSt) (σ:St) (H:Hp) (Q:Bool->PSt->Prop) (Q':Bool->Hp->Prop),Rel K A ρ σ H->pt ρ Q ->
 (∀b H' ρ',Q b ρ'->Fr ρ σ H ρ' H'->Rel K A ρ' σ H'->Q' b H')->tt σ H Q'
def AOk(K:PySem.W.Frag)(O:Addr->Prop)(σ:St)(H:Hp):AV->V->Prop
 | .v d,v=>FV K O H v d
 | .sl i,v=>σ[i]?=some (some v)
def LA1(K:PySem.W.Frag)(te:TE)(pa:PA1):Prop:=∀(A:Addr->Prop) (ρ:PSt) (σ:St) (H:Hp) (Q:AV->PSt->Prop) (Q':VK),Rel K A ρ σ H->pa ρ Q ->
 (∀v H' av ρ',Q av ρ'->Fr ρ σ H ρ' H'->Rel K A ρ' σ H'->AOk K (OO A ρ' σ) σ H' av v->Q' v H')->te σ H Q'
inductive zM (K:PySem.W.Frag) (O:Addr->Prop) (σ:St) (H:Hp):List AV->List V->Prop
 | nil:zM K O σ H [] []
 | cons {a:AV}{v:V}{as:List AV}{vs:List V}:AOk K O σ H a v->zM K O σ H as vs->zM K O σ H (a::as) (v::vs)
def LAs(K:PySem.W.Frag)(ta:TA)(pa:PTA):Prop:=∀(A:Addr->Prop) (ρ:PSt) (σ:St) (H:Hp) (Q:List AV->PSt->Prop) (Q':List V->Hp->Prop),Rel K A ρ σ H->pa ρ Q ->
 (∀vs H' as ρ',Q as ρ'->Fr ρ σ H ρ' H'->Rel K A ρ' σ H'->zM K (OO A ρ' σ) σ H' as vs->Q' vs H')->ta σ H Q'
section
variable {K:PySem.W.Frag}{A O O':Addr->Prop}{ρ ρ':PSt}{σ:St}{H H' H0:Hp}
theorem AOk.keeps{a:AV}{v:V}(k:aS O H O' H')(h:AOk K O σ H a v):AOk K O' σ H' a v:=by
 cases a with
 | v d=>exact FV.keeps k h
 | sl i=>exact h
theorem Out.frz{p:PV}{v:V}(h:Out K A ρ σ H0 H p v):Rel K A ρ σ H/\FV K (OO A ρ σ) H v p.d:=by
 cases p with
 | dat d=>exact h
 | own ds =>
  obtain⟨a,xs,rfl,na,_,e,R,f⟩:=h;refine⟨R.less fun b z=>.inl z,.lst (fun z=>?_) e (f.keeps (aS.less fun b z=>z.imp .inl id))⟩;exact z.elim na (fun z=>R.sep a (.inr rfl) z)
 | ins c ns ds =>
  obtain⟨a,dx,fs,rfl,na,_,e,m,R,f⟩:=h;refine⟨R.less fun b z=>.inl z,.obj (fun z=>?_) e m (f.keeps (aS.less fun b z=>z.imp .inl id))⟩;exact z.elim na (fun z=>R.sep a (.inr rfl) z)
theorem Out.h0{p:PV}{v:V}{H1:Hp}(h:Out K A ρ σ H0 H p v)(dm:∀b,H1 b≠none->H0 b≠none):Out K A ρ σ H1 H p v:=by
 have k:∀a,H0 a=none->H1 a=none:=fun a e=>by
  cases z:H1 a with
  | none=>rfl
  | some o=>exact absurd e (dm a (by rw [z];exact nofun))
 cases p with
 | dat d=>exact h
 | own ds=>obtain⟨a,xs,e1,na,e2,r⟩:=h;exact⟨a,xs,e1,na,k a e2,r⟩
 | ins c ns ds=>obtain⟨a,dx,fs,e1,na,e2,r⟩:=h;exact⟨a,dx,fs,e1,na,k a e2,r⟩
def Gr(H H':Hp):Prop:=∀b o,H b=some o->H' b=some o
theorem Gr.fr(g:Gr H H'):Fr ρ σ H ρ H':=⟨fun b o _ h=>g b o h,fun b h=>by
 cases e:H b with
 | none=>exact absurd e h
 | some o=>rw [g b o e];exact nofun,fun _ h=>h⟩
theorem Gr.new{p:Addr}{o:HO}(h:H p=none):Gr H (upd H p o):=fun b u e=>by rw [aw (aT e h)];exact e
theorem Gr.refl(H:Hp):Gr H H:=fun _ _ h=>h
theorem Rel.gr(R:Rel K A ρ σ H)(g:Gr H H'):Rel K A ρ σ H':=by
 refine⟨R.len,fun i q e=>?_,R.dj,fun b z=>(g.fr (ρ:=ρ) (σ:=σ)).dm b (R.dom b z),R.sep⟩;obtain⟨v,s,r⟩:=R.get i q e;refine⟨v,s,r.keeps (g.fr (ρ:=ρ) (σ:=σ)).keeps fun ow a ea=>?_⟩;obtain⟨a',u,e1,e2⟩:=r.ref ow;rw [ea] at e1;cases e1;rw [e2];exact g _ _ e2
theorem Rel.grA(R:Rel K A ρ σ H)(g:Gr H H'){p:Addr}(h:H p=none)(h':H' p≠none):Rel K (fk A p) ρ σ H':=by
 have k:aS (OO A ρ σ) H (OO (fk A p) ρ σ) H':=fun b u n e=>by
  refine⟨fun z=>?_,g _ _ e⟩
  rcases z with (z|z)|z
  .exact n (.inl z)
  .rw [z,h] at e;cases e
  .exact n (.inr z)
 refine⟨R.len,fun i q e=>?_,R.dj,fun b z=>?_,fun b z w=>?_⟩
 .obtain⟨v,s,r⟩:=R.get i q e;refine⟨v,s,r.keeps k fun ow a ea=>?_⟩;obtain⟨a',u,e1,e2⟩:=r.ref ow;rw [ea] at e1;cases e1;rw [e2];exact g _ _ e2
 .rcases z with z|z
  .exact (g.fr (ρ:=ρ) (σ:=σ)).dm b (R.dom b z)
  .rw [z];exact h'
 .rcases z with z|z
  .exact R.sep b z w
  .exact R.wr w (by rw [z];exact h)
def qa(K:PySem.W.Frag)(O:Addr->Prop)(H0 H:Hp):PV->V->Prop
 | .dat d,v=>FV K O H v d
 | .own ds,v=>∃a xs,v=.ref a/\H0 a=none/\H a=some (.lst xs)/\FVs K (fk O a) H xs ds
 | .ins c ns ds,v=>∃a dx fs,v=.ref a/\H0 a=none/\H a=some (.ins (bc K c) dx fs)/\fs.map Prod.fst=ns/\FVs K (fk O a) H (fs.map Prod.snd) ds
theorem qa.out{p:PV}{v:V}(R:Rel K A ρ σ H)(g:Gr H H')(h:qa K (OO A ρ σ) H H' p v):Out K A ρ σ H H' p v:=by
 cases p with
 | dat d=>exact⟨R.gr g,h⟩
 | own ds =>
  obtain⟨a,xs,rfl,e0,e,f⟩:=h;refine⟨a,xs,rfl,fun z=>R.dom a z e0,e0,e,R.grA g e0 (by rw [e];exact nofun),f.keeps (aS.less fun b z=>?_)⟩
  rcases z with (z|z)|z
  .exact .inl (.inl z)
  .exact .inr z
  .exact .inl (.inr z)
 | ins c ns ds =>
  obtain⟨a,dx,fs,rfl,e0,e,m,f⟩:=h;refine⟨a,dx,fs,rfl,fun z=>R.dom a z e0,e0,e,m,R.grA g e0 (by rw [e];exact nofun),f.keeps (aS.less fun b z=>?_)⟩
  rcases z with (z|z)|z
  .exact .inl (.inl z)
  .exact .inr z
  .exact .inl (.inr z)
def FVc(K:PySem.W.Frag)(O:Addr->Prop)(H:Hp)(v:V)(d:D):Prop:=FV K O H v d\/(∃a xs ds,v=.ref a/\d=.lst ds/\H a=some (.lst xs)/\FVs K O H xs ds) \/
 ∃a dx c fs ns ds,v=.ref a/\d=.obj c ns ds/\H a=some (.ins (bc K c) dx fs)/\fs.map Prod.fst=ns/\FVs K O H (fs.map Prod.snd) ds
def cont(ρ:PSt):AV->Option D
 | .v d=>some d
 | .sl i=>match ρ[i]? with|some (some p)=>some p.d|_=>none
theorem Rel.cont{av:AV}{v:V}{d:D}(R:Rel K A ρ σ H)(h:AOk K (OO A ρ σ) σ H av v)(e:L2.cont ρ av=some d):FVc K (OO A ρ σ) H v d:=by
 cases av with
 | v d'=>cases e;exact .inl h
 | sl i =>
  have h:σ[i]?=some (some v):=h;simp only [L2.cont] at e
  split at e
  .rename_i p ep;cases e;obtain⟨v',s,r⟩:=R.get i p ep;rw [h] at s;cases s
   cases p with
   | dat d=>exact .inl r
   | own ds=>obtain⟨a,xs,e1,e2,f⟩:=r;exact .inr (.inl ⟨a,xs,ds,e1,rfl,e2,f⟩)
   | ins c ns ds=>obtain⟨a,dx,fs,e1,e2,m,f⟩:=r;exact .inr (.inr ⟨a,dx,c,fs,ns,ds,e1,rfl,e2,m,f⟩)
  .cases e
theorem FVc.lst{v:V}{ds:List D}(h:FVc K O H v (.lst ds)):∃a xs,v=.ref a/\H a=some (.lst xs)/\FVs K O H xs ds:=by
 rcases h with h|⟨a,xs,ds',e1,e2,e3,f⟩|⟨a,dx,c,fs,ns,ds',e1,e2,_⟩
 .cases h with
  | lst n s f=>exact⟨_,_,rfl,s,f⟩
 .cases e2;exact⟨a,xs,e1,e3,f⟩
 .cases e2
theorem FVc.fv{v:V}{d:D}(h:FVc K O H v d)(n:∀ds,d≠.lst ds)(n':∀c ns ds,d≠.obj c ns ds):FV K O H v d:=by
 rcases h with h|⟨a,xs,ds',e1,e2,e3,f⟩|⟨a,dx,c,fs,ns,ds',e1,e2,_⟩
 .exact h
 .exact absurd e2 (n _)
 .exact absurd e2 (n' _ _ _)
theorem FVc.tup{v:V}{ds:List D}(h:FVc K O H v (.tup ds)):∃a xs,v=.ref a/\¬ O a/\H a=some (.tup xs)/\FVs K O H xs ds:=by
 cases h.fv nofun nofun with
 | tup n s f=>exact⟨_,_,rfl,n,s,f⟩
theorem FVc.scr{v:V}{ns:List Int}(h:FVc K O H v (.scr ns)):∃a,v=.ref a/\SqL K H a (ns.map V.int):=by
 cases h.fv nofun nofun with
 | scr s=>exact⟨_,rfl,s.sq⟩
theorem FVc.int{v:V}{i:Int}(h:FVc K O H v (.int i)):v=.int i:=by cases h.fv nofun nofun;rfl
theorem FVc.bl{v:V}{i:Bool}(h:FVc K O H v (.bl i)):v=.bl i:=by cases h.fv nofun nofun;rfl
theorem FVc.str{v:V}{i:List Nat}(h:FVc K O H v (.str i)):v=.str (S i)/\i.length<=1000000:=by
 cases h.fv nofun nofun with
 | str _ z=>exact⟨rfl,z⟩
theorem FVc.non{v:V}(h:FVc K O H v .non):v=.non:=by cases h.fv nofun nofun;rfl
end
def pC(d:D):PTE:=fun ρ Q=>Q (.dat d) ρ
def aZ(i:Nat):PTE:=fun ρ Q=>match ρ[i]? with
 | some (some (.dat d))=>Q (.dat d) ρ
 | some (some (.own ds))=>Q (.dat (.lst ds)) (ρ.set i (some (.dat (.lst ds))))
 | some (some (.ins c ns ds))=>Q (.dat (.obj c ns ds)) (ρ.set i (some (.dat (.obj c ns ds))))
 | _=>False
def pSl(i:Nat):PA1:=fun ρ Q=>match ρ[i]? with
 | some (some (.dat d))=>Q (.v d) ρ
 | some (some (.own _))=>Q (.sl i) ρ
 | some (some (.ins _ _ _))=>Q (.sl i) ρ
 | _=>False
def pFz(pe:PTE):PA1:=fun ρ Q=>pe ρ fun p ρ1=>Q (.v p.d) ρ1
def ap:PTA:=fun ρ Q=>Q [] ρ
def af(pa:PA1)(pr:PTA):PTA:=fun ρ Q=>pa ρ fun a ρ1=>pr ρ1 fun as ρ2=>Q (a::as) ρ2
section
variable {K:PySem.W.Frag}{ta tb tc:TE}{pa pb pc:PA1}{pe pe':PTE}{tr:TA}{pr:PTA}
theorem E5{v:V}{d:D}(h:∀O H,FV K O H v d):LE K (tC v) (pC d):=fun A ρ σ H Q Q' R q k=>k v H (.dat d) ρ q (Fr.refl _ _ _) ⟨R,h _ _⟩
theorem le_int{i:Int}:LE K (tC (.int i)) (pC (.int i)):=E5 fun _ _=>.int i
theorem jB{i:Bool}:LE K (tC (.bl i)) (pC (.bl i)):=E5 fun _ _=>.bl i
theorem tw:LE K (tC .non) (pC .non):=E5 fun _ _=>.non
theorem le_str{l:List Nat}(h:l.length<=1000000:=by decide):LE K (tC (.str (S l))) (pC (.str l)):=E5 fun _ _=>.str l h
theorem am{i:Nat}:LE K (aM i) (aZ i):=by
 intro A ρ σ H Q Q' R q k;unfold aZ at q
 split at q
 .rename_i d e;obtain⟨v,s,r⟩:=R.get i _ e;exact⟨v,s,k v H (.dat d) ρ q (Fr.refl _ _ _) ⟨R,r⟩⟩
 .rename_i ds e;obtain⟨R',f⟩:=R.frz e;obtain⟨v,s,r⟩:=R'.get i _ (getElem?_set_self (List.getElem?_eq_some_iff.mp e).1);exact⟨v,s,k v H (.dat (.lst ds)) _ q f ⟨R',r⟩⟩
 .rename_i c ns ds e;obtain⟨R',f⟩:=R.frz e;obtain⟨v,s,r⟩:=R'.get i _ (getElem?_set_self (List.getElem?_eq_some_iff.mp e).1);exact⟨v,s,k v H (.dat (.obj c ns ds)) _ q f ⟨R',r⟩⟩
 .exact q.elim
theorem aj{i:Nat}:LA1 K (aM i) (pSl i):=by
 intro A ρ σ H Q Q' R q k;unfold pSl at q
 split at q
 .rename_i d e;obtain⟨v,s,r⟩:=R.get i _ e;exact⟨v,s,k v H _ ρ q (Fr.refl _ _ _) R r⟩
 .rename_i e;obtain⟨v,s,r⟩:=R.get i _ e;exact⟨v,s,k v H _ ρ q (Fr.refl _ _ _) R s⟩
 .rename_i e;obtain⟨v,s,r⟩:=R.get i _ e;exact⟨v,s,k v H _ ρ q (Fr.refl _ _ _) R s⟩
 .exact q.elim
theorem ac(h:LE K ta pe):LA1 K ta (pFz pe):=fun A ρ σ H Q Q' R q k=>h A ρ σ H _ Q' R q fun v H' p ρ' q f o=>k v H' _ ρ' q f o.frz.1 o.frz.2
theorem ae:LAs K cS ap:=fun A ρ σ H Q Q' R q k=>k [] H [] ρ q (Fr.refl _ _ _) R .nil
theorem aa(h:LA1 K ta pa)(hr:LAs K tr pr):LAs K (aJ ta tr) (af pa pr):=fun A ρ σ H Q Q' R q k =>
 h A ρ σ H _ _ R q fun v H1 a ρ1 q1 f1 R1 o1=>hr A ρ1 σ H1 _ _ R1 q1 fun vs H2 as ρ2 q2 f2 R2 o2=>k _ H2 _ ρ2 q2 (f1.trans f2) R2 (.cons (o1.keeps f2.keeps) o2)
def LO(K:PySem.W.Frag)(r:R2)(f:D->D->(PV->Prop)->Prop):Prop:=∀(O:Addr->Prop) (H:Hp) (x y:V) (a b:D) (Q:PV->Prop) (Q':VK),(∀b,O b->H b≠none)->FVc K O H x a->FVc K O H y b->f a b Q ->
 (∀v H' p,Q p->Gr H H'->qa K O H H' p v->Q' v H')->r x y H Q'
def op2(f:D->D->(PV->Prop)->Prop)(ρ:PSt)(x y:AV)(Q:PKt):Prop:=match cont ρ x,cont ρ y with
 | some a,some b=>f a b fun p=>Q p ρ
 | _,_=>False
def pOp(f:D->D->(PV->Prop)->Prop)(pa pb:PA1):PTE:=fun ρ Q=>pa ρ fun x ρ1=>pb ρ1 fun y ρ2=>op2 f ρ2 x y Q
theorem Rel.dom2{A:Addr->Prop}{ρ:PSt}{σ:St}{H:Hp}(R:Rel K A ρ σ H):∀b,OO A ρ σ b->H b≠none:=fun b z=>z.elim (R.dom b) R.wr
theorem ak{r:R2}{f:D->D->(PV->Prop)->Prop}(o:LO K r f)(ha:LA1 K ta pa)(hb:LA1 K tb pb):LE K (tOp r ta tb) (pOp f pa pb):=fun A ρ σ H Q Q' R q k =>
 ha A ρ σ H _ _ R q fun v H1 a ρ1 q1 f1 R1 o1=>hb A ρ1 σ H1 _ _ R1 q1 fun w H2 b ρ2 q2 f2 R2 o2=>by
  unfold op2 at q2
  split at q2
  .rename_i da db e1 e2;exact o _ H2 v w da db _ _ R2.dom2 (R2.cont (o1.keeps f2.keeps) e1) (R2.cont o2 e2) q2 fun z H3 p q3 g ov=>k z H3 p ρ2 q3 ((f1.trans f2).trans g.fr) ((ov.out R2 g).h0 fun b z=>f2.dm b (f1.dm b z))
  .exact q2.elim
def LU(K:PySem.W.Frag)(r:V->Hp->VK->Prop)(f:D->(PV->Prop)->Prop):Prop:=∀(O:Addr->Prop) (H:Hp) (x:V) (a:D) (Q:PV->Prop) (Q':VK),(∀b,O b->H b≠none)->FVc K O H x a->f a Q ->
 (∀v H' p,Q p->Gr H H'->qa K O H H' p v->Q' v H')->r x H Q'
def op1(f:D->(PV->Prop)->Prop)(ρ:PSt)(x:AV)(Q:PKt):Prop:=match cont ρ x with
 | some a=>f a fun p=>Q p ρ
 | _=>False
def pUn(f:D->(PV->Prop)->Prop)(pa:PA1):PTE:=fun ρ Q=>pa ρ fun x ρ1=>op1 f ρ1 x Q
theorem ig{r:V->Hp->VK->Prop}{f:D->(PV->Prop)->Prop}(o:LU K r f)(ha:LA1 K ta pa):LE K (tUn r ta) (pUn f pa):=fun A ρ σ H Q Q' R q k =>
 ha A ρ σ H _ _ R q fun v H1 a ρ1 q1 f1 R1 o1=>by
  unfold op1 at q1
  split at q1
  .rename_i da e1;exact o _ H1 v da _ _ R1.dom2 (R1.cont o1 e1) q1 fun z H3 p q3 g ov=>k z H3 p ρ1 q3 (f1.trans g.fr) ((ov.out R1 g).h0 fun b z=>f1.dm b z)
  .exact q1.elim
inductive CG (K:PySem.W.Frag) (O:Addr->Prop) (H:Hp):List V->List D->Prop
 | nil:CG K O H [] []
 | cons {x:V}{d:D}{xs:List V}{ds:List D}:FVc K O H x d->CG K O H xs ds->CG K O H (x::xs) (d::ds)
def conts(ρ:PSt):List AV->Option (List D)
 | []=>some []
 | a::r=>match cont ρ a,conts ρ r with
  | some d,some ds=>some (d::ds)
  | _,_=>none
theorem Rel.conts{A:Addr->Prop}{ρ:PSt}{σ:St}{H:Hp}(R:Rel K A ρ σ H):∀{as:List AV}{vs:List V}{ds:List D},zM K (OO A ρ σ) σ H as vs->L2.conts ρ as=some ds->CG K (OO A ρ σ) H vs ds
 | _,_,_,.nil,e=>by cases e;exact .nil
 | _,_,_,.cons a b,e=>by
  unfold L2.conts at e
  split at e
  .rename_i e1 e2;cases e;exact .cons (R.cont a e1) (R.conts b e2)
  .cases e
def LC(K:PySem.W.Frag)(r:List V->Hp->VK->Prop)(f:List D->(PV->Prop)->Prop):Prop:=∀(O:Addr->Prop) (H:Hp) (xs:List V) (as:List D) (Q:PV->Prop) (Q':VK),(∀b,O b->H b≠none)->CG K O H xs as->f as Q ->
 (∀v H' p,Q p->Gr H H'->qa K O H H' p v->Q' v H')->r xs H Q'
def opN(f:List D->(PV->Prop)->Prop)(ρ:PSt)(as:List AV)(Q:PKt):Prop:=match conts ρ as with
 | some ds=>f ds fun p=>Q p ρ
 | _=>False
def pCB(f:List D->(PV->Prop)->Prop)(pr:PTA):PTE:=fun ρ Q=>pr ρ fun as ρ1=>opN f ρ1 as Q
theorem bg{r:List V->Hp->VK->Prop}{f:List D->(PV->Prop)->Prop}(o:LC K r f)(ha:LAs K tr pr):LE K (tCB r tr) (pCB f pr):=fun A ρ σ H Q Q' R q k =>
 ha A ρ σ H _ _ R q fun vs H1 as ρ1 q1 f1 R1 o1=>by
  unfold opN at q1
  split at q1
  .rename_i ds e1;exact o _ H1 vs ds _ _ R1.dom2 (R1.conts o1 e1) q1 fun z H3 p q3 g ov=>k z H3 p ρ1 q3 (f1.trans g.fr) ((ov.out R1 g).h0 fun b z=>f1.dm b z)
  .exact q1.elim
def avD:List AV->Option (List D)
 | []=>some []
 | .v d::r=>match avD r with|some ds=>some (d::ds)|none=>none
 | .sl _::_=>none
theorem zM.avD{O:Addr->Prop}{σ:St}{H:Hp}:∀{as:List AV}{vs:List V}{ds:List D},zM K O σ H as vs->L2.avD as=some ds->FVs K O H vs ds
 | _,_,_,.nil,e=>by cases e;exact .nil
 | .v d::r,_,_,.cons a b,e=>by
  simp only [L2.avD] at e
  split at e
  .rename_i e1;cases e;exact .cons a (b.avD e1)
  .cases e
 | .sl i::r,_,_,.cons a b,e=>by cases e
def gB(pr:PTA):PTE:=fun ρ Q=>pr ρ fun as ρ1=>match avD as with
 | some ds=>ds.length<=1000000/\Q (.own ds) ρ1
 | _=>False
def zN(pr:PTA):PTE:=fun ρ Q=>pr ρ fun as ρ1=>match avD as with
 | some ds=>ds.length<=1000000/\Q (.dat (.tup ds)) ρ1
 | _=>False
theorem bz(ha:LAs K tr pr):LE K (Ft tr) (gB pr):=fun A ρ σ H Q Q' R q k =>
 ha A ρ σ H _ _ R q fun vs H1 as ρ1 q1 f1 R1 o1=>by
  split at q1
  .rename_i ds e1;have fs:=o1.avD e1;refine⟨sz _ (by rw [fs.length];exact q1.1),fun p hp=>k _ _ (.own ds) ρ1 q1.2 (f1.trans (Fr.new hp)) ?_⟩;have g:Gr H1 (upd H1 p (.lst vs)):=Gr.new hp;exact (qa.out (p:=.own ds) R1 g ⟨p,vs,rfl,hp,aF,fs.keeps (aS.fresh hp)⟩).h0 fun b z=>f1.dm b z
  .exact q1.elim
theorem lg(ha:LAs K tr pr):LE K (CD tr) (zN pr):=fun A ρ σ H Q Q' R q k =>
 ha A ρ σ H _ _ R q fun vs H1 as ρ1 q1 f1 R1 o1=>by
  split at q1
  .rename_i ds e1;have fs:=o1.avD e1;refine⟨sz _ (by rw [fs.length];exact q1.1),fun p hp=>k _ _ (.dat (.tup ds)) ρ1 q1.2 (f1.trans (Fr.new hp)) ⟨R1.grow hp,?_⟩⟩;exact .tup (R1.oo hp) aF (fs.keeps (Fr.new hp).keeps)
  .exact q1.elim
def pB(pe:PTE):PTT:=fun ρ Q=>pe ρ fun p ρ1=>match p with
 | .dat (.bl b)=>Q b ρ1
 | _=>False
theorem yF(h:LE K ta pe):LT K (tB ta) (pB pe):=fun A ρ σ H Q Q' R q k=>h A ρ σ H _ _ R q fun v H1 p ρ1 q1 f1 o1=>by
 split at q1
 .rename_i b;obtain⟨R1,f⟩:=o1;cases f;exact⟨b,rfl,k b H1 ρ1 q1 f1 R1⟩
 .exact q1.elim
theorem fg(h:LE K ta pe):LT K (iI ta) (pB pe):=yF h
def E6(a b:PTT):PTT:=fun ρ Q=>a ρ fun c ρ1=>gz c (b ρ1 Q) (Q false ρ1)
def pOr(a b:PTT):PTT:=fun ρ Q=>a ρ fun c ρ1=>gz c (Q true ρ1) (b ρ1 Q)
def Bg(a:PTT):PTT:=fun ρ Q=>a ρ fun c ρ1=>Q (!c) ρ1
variable {tta ttb:TT}{pta ptb:PTT}
theorem wp(ha:LT K tta pta)(hb:LT K ttb ptb):LT K (Fe tta ttb) (E6 pta ptb):=fun A ρ σ H Q Q' R q k=>ha A ρ σ H _ _ R q fun c H1 ρ1 q1 f1 R1=>by
 cases c with
 | true=>exact hb A ρ1 σ H1 _ _ R1 q1 fun b H2 ρ2 q2 f2 R2=>k b H2 ρ2 q2 (f1.trans f2) R2
 | false=>exact k false H1 ρ1 q1 f1 R1
theorem yG(ha:LT K tta pta)(hb:LT K ttb ptb):LT K (tOr tta ttb) (pOr pta ptb):=fun A ρ σ H Q Q' R q k=>ha A ρ σ H _ _ R q fun c H1 ρ1 q1 f1 R1=>by
 cases c with
 | false=>exact hb A ρ1 σ H1 _ _ R1 q1 fun b H2 ρ2 q2 f2 R2=>k b H2 ρ2 q2 (f1.trans f2) R2
 | true=>exact k true H1 ρ1 q1 f1 R1
theorem nj(ha:LT K tta pta):LT K (Ff tta) (Bg pta):=fun A ρ σ H Q Q' R q k=>ha A ρ σ H _ _ R q fun c H1 ρ1 q1 f1 R1=>k _ H1 ρ1 q1 f1 R1
def rD(a b:PTE):PTE:=fun ρ Q=>a ρ fun p ρ1=>match p with
 | .dat (.bl c)=>gz c (b ρ1 Q) (Q (.dat (.bl false)) ρ1)
 | _=>False
def Bh(a:PTE):PTE:=fun ρ Q=>a ρ fun p ρ1=>match p with
 | .dat (.bl c)=>Q (.dat (.bl (!c))) ρ1
 | _=>False
theorem nk(ha:LE K ta pe)(hb:LE K tb pe'):LE K (CW ta tb) (rD pe pe'):=fun A ρ σ H Q Q' R q k=>ha A ρ σ H _ _ R q fun v H1 p ρ1 q1 f1 o1=>by
 split at q1
 .rename_i c;obtain⟨R1,f⟩:=o1;cases f;refine⟨c,rfl,?_⟩
  cases c with
  | true=>exact hb A ρ1 σ H1 _ _ R1 q1 fun b H2 p2 ρ2 q2 f2 o2=>k b H2 p2 ρ2 q2 (f1.trans f2) (o2.h0 fun b z=>f1.dm b z)
  | false=>exact k _ H1 _ ρ1 q1 f1 ⟨R1,.bl false⟩
 .exact q1.elim
theorem zO(ha:LE K ta pe):LE K (CY ta) (Bh pe):=fun A ρ σ H Q Q' R q k=>ha A ρ σ H _ _ R q fun v H1 p ρ1 q1 f1 o1=>by
 split at q1
 .rename_i c;obtain⟨R1,f⟩:=o1;cases f;exact⟨c,rfl,k _ H1 _ ρ1 q1 f1 ⟨R1,.bl (!c)⟩⟩
 .exact q1.elim
def pIf(t:PTT)(a b:PTE):PTE:=fun ρ Q=>t ρ fun c ρ1=>gz c (a ρ1 Q) (b ρ1 Q)
theorem DP(ht:LT K tta pta)(ha:LE K ta pe)(hb:LE K tb pe'):LE K (tIf tta ta tb) (pIf pta pe pe'):=fun A ρ σ H Q Q' R q k=>ht A ρ σ H _ _ R q fun c H1 ρ1 q1 f1 R1=>by
 cases c with
 | true=>exact ha A ρ1 σ H1 _ _ R1 q1 fun b H2 p2 ρ2 q2 f2 o2=>k b H2 p2 ρ2 q2 (f1.trans f2) (o2.h0 fun b z=>f1.dm b z)
 | false=>exact hb A ρ1 σ H1 _ _ R1 q1 fun b H2 p2 ρ2 q2 f2 o2=>k b H2 p2 ρ2 q2 (f1.trans f2) (o2.h0 fun b z=>f1.dm b z)
end
abbrev F2:=D->D->(PV->Prop)->Prop
def fI0(g:Int->Int->D):F2
 | .int i,.int j,Q=>Q (.dat (g i j))
 | _,_,_=>False
def fI(C:Int->Int->Prop)(g:Int->Int->D):F2
 | .int i,.int j,Q=>C i j/\Q (.dat (g i j))
 | _,_,_=>False
section
variable {K:PySem.W.Frag}{X:Cx}
theorem yH{g:Int->Int->V}{g':Int->Int->D}(h:∀i j O H,FV K O H (g i j) (g' i j)):LO K (rI0 g) (fI0 g'):=by
 intro O H x y a b Q Q' dom fx fy q k;unfold fI0 at q
 split at q
 .rename_i i j;exact⟨i,j,fx.int,fy.int,k _ H _ q (Gr.refl _) (h i j _ _)⟩
 .exact q.elim
theorem DQ{C:Int->Int->Prop}{g:Int->Int->V}{g':Int->Int->D}(h:∀i j O H,FV K O H (g i j) (g' i j)):LO K (rI C g) (fI C g'):=by
 intro O H x y a b Q Q' dom fx fy q k;unfold fI at q
 split at q
 .rename_i i j;exact⟨i,j,fx.int,fy.int,q.1,k _ H _ q.2 (Gr.refl _) (h i j _ _)⟩
 .exact q.elim
theorem eA{O:Addr->Prop}{H:Hp}{xs:List V}{ds:List D}{p:Addr}(hp:H p=none)(f:FVs K O H xs ds):qa K O H (upd H p (.lst xs)) (.own ds) (.ref p) :=
 ⟨p,xs,rfl,hp,aF,f.keeps (aS.fresh hp)⟩
theorem lh{O:Addr->Prop}{H:Hp}{xs:List V}{ds:List D}{p:Addr}(dom:∀b,O b->H b≠none)(hp:H p=none)(f:FVs K O H xs ds):qa K O H (upd H p (.tup xs)) (.dat (.tup ds)) (.ref p) :=
 .tup (fun z=>dom p z hp) aF (f.keeps fun b o n e=>⟨n,by rw [aw (aT e hp)];exact e⟩)
def FK:R2:=fun x y H Q=>∃i j,x=.str (S i)/\y=.str (S j)/\i.length+j.length<=sizeLine/\Q (.str (S (i++j))) H
def Bi(K:PySem.W.Frag):R2:=fun x y H Q=>rI0 (fun i j=>.int (i+j)) x y H Q\/FK x y H Q\/DF K x y H Q\/Dh K x y H Q
theorem FL(K:PySem.W.Frag)(e:X.K=K):OpR X (binaryOp .Add) (Bi K):=by
 subst e;exact OpR.or C5 (OpR.or A3 (OpR.or A7 AT))
def FO:F2
 | .int i,.int j,Q=>Q (.dat (.int (i+j)))
 | .str a,.str b,Q=>a.length+b.length<=1000000/\Q (.dat (.str (a++b)))
 | .lst a,.lst b,Q=>a.length+b.length<=1000000/\Q (.own (a++b))
 | .scr a,.lst b,Q=>a.length+b.length<=1000000/\Q (.own (a.map .int++b))
 | .tup a,.tup b,Q=>a≠[]/\a.length+b.length<=1000000/\Q (.dat (.tup (a++b)))
 | _,_,_=>False
theorem zP:LO K (Bi K) FO:=by
 intro O H x y a b Q Q' dom fx fy q k;unfold FO at q
 split at q
 .rename_i i j;exact .inl ⟨i,j,fx.int,fy.int,k _ H _ q (Gr.refl _) (.int _)⟩
 .rename_i i j;exact .inr (.inl ⟨i,j,fx.str.1,fy.str.1,sz _ q.1,k _ H _ q.2 (Gr.refl _) (.str _ (by rw [length_append];exact q.1))⟩)
 .rename_i i j;obtain⟨a,xs,rfl,e1,f1⟩:=fx.lst;obtain⟨b,ys,rfl,e2,f2⟩:=fy.lst;exact .inr (.inr (.inl ⟨a,b,xs,ys,rfl,rfl,SqL.of e1,SqL.of e2,sz _ (by rw [f1.length,f2.length];exact q.1),fun p hp=>k _ _ _ q.2 (Gr.new hp) (eA hp (f1.append f2))⟩))
 .rename_i i j;obtain⟨a,rfl,e1⟩:=fx.scr;obtain⟨b,ys,rfl,e2,f2⟩:=fy.lst;exact .inr (.inr (.inl ⟨a,b,_,ys,rfl,rfl,e1,SqL.of e2,sz _ (by rw [length_map,f2.length];exact q.1),fun p hp=>k _ _ _ q.2 (Gr.new hp) (eA hp ((FVs.of_ints i).append f2))⟩))
 .rename_i i j;obtain⟨a,xs,rfl,n1,e1,f1⟩:=fx.tup;obtain⟨b,ys,rfl,n2,e2,f2⟩:=fy.tup;have l1:=f1.length;have l2:=f2.length
  refine .inr (.inr (.inr ⟨a,b,xs,ys,rfl,rfl,SqT.of e1,SqT.of e2,fun z=>q.1 ?_,sz _ (by rw [l1,l2];exact q.2.1),fun z=>?_,fun _ p hp=>k _ _ _ q.2.2 (Gr.new hp) (lh dom hp (f1.append f2))⟩))
  .exact length_eq_zero_iff.mp (by rw [<- l1,z];rfl)
  .have:j=[]:=length_eq_zero_iff.mp (by rw [<- l2,z];rfl);subst this;exact k _ H _ q.2.2 (Gr.refl _) (by rw [append_nil];exact .tup n1 e1 f1)
 .exact q.elim
theorem gG:LO K (rI0 fun i j=>.int (i - j)) (fI0 fun i j=>.int (i - j)):=yH fun _ _ _ _=>.int _
theorem br:LO K (rI (fun _ j=>0<j) fun i j=>.int (i % j)) (fI (fun _ j=>0<j) fun i j=>.int (i % j)):=DQ fun _ _ _ _=>.int _
theorem jC:LO K (rI Fk fun i j=>.int (i / j)) (fI (fun _ j=>0<j/\j<1073741824) fun i j=>.int (i / j)):=DQ fun _ _ _ _=>.int _
theorem qb:LO K (rI C4 fun i j=>.int (i^j.toNat)) (fI (fun i j=>0<=j/\j<=1000000/\i.natAbs<2^64) fun i j=>.int (i^j.toNat)):=DQ fun _ _ _ _=>.int _
def FP:R2:=fun x y H Q=>∃l n,x=.str (S l)/\y=.int n/\-1000000<=n/\n<=1000000/\n.toNat*l.length<=sizeLine/\Q (.str (S (nV l n))) H
def wq:R2:=fun x y H Q=>rI E3 (fun i j=>.int (i*j)) x y H Q\/FP x y H Q\/GL x y H Q
theorem ja:OpR X (binaryOp .Mult) wq:=OpR.or C7 (OpR.or uv Do)
def rc:F2
 | .int i,.int j,Q=>((-(2^64)<i/\i<2^64)\/(-(2^64)<j/\j<2^64))/\Q (.dat (.int (i*j)))
 | .str a,.int n,Q=>(-1000000<=n/\n<=1000000/\n.toNat*a.length<=1000000)/\Q (.dat (.str (nV a n)))
 | .lst a,.int n,Q=>(-1000000<=n/\n<=1000000/\a.length*n.toNat<=1000000)/\Q (.own (nV a n))
 | _,_,_=>False
theorem FVs.rep{O:Addr->Prop}{H:Hp}{xs:List V}{ds:List D}(f:FVs K O H xs ds):∀n,FVs K O H (List.replicate n xs).flatten (List.replicate n ds).flatten
 | 0=>.nil
 | n+1=>by rw [replicate_succ,replicate_succ,flatten_cons,flatten_cons];exact f.append (f.rep n)
theorem eN:LO K wq rc:=by
 intro O H x y a b Q Q' dom fx fy q k;unfold rc at q
 split at q
 .rename_i i j;exact .inl ⟨i,j,fx.int,fy.int,q.1,k _ H _ q.2 (Gr.refl _) (.int _)⟩
 .rename_i i j;exact .inr (.inl ⟨i,j,fx.str.1,fy.int,q.1.1,q.1.2.1,sz _ q.1.2.2,k _ H _ q.2 (Gr.refl _) (.str _ (by rw [fH];exact q.1.2.2))⟩)
 .rename_i i j;obtain⟨a,xs,rfl,e1,f1⟩:=fx.lst;exact .inr (.inr ⟨a,j,xs,rfl,fy.int,e1,by omega,by omega,sz _ (by rw [f1.length];exact q.1.2.2),fun p hp=>k _ _ _ q.2 (Gr.new hp) (eA hp (f1.rep _))⟩)
 .exact q.elim
def GO:R2:=fun x y H Q=>rI0 (fun i j=>.bl (decide (i<j))) x y H Q\/∃i j,x=.str i/\y=.str j/\Q (.bl (decide (i.cps.toList<j.cps.toList))) H
def E7:R2:=fun x y H Q=>rI0 (fun i j=>.bl (decide (i<=j))) x y H Q\/∃i j,x=.str i/\y=.str j/\Q (.bl (!decide (j.cps.toList<i.cps.toList))) H
theorem E8:OpR X (compareOp .Lt) GO:=OpR.or Fo vq
theorem E9:OpR X (compareOp .LtE) E7:=OpR.or Fp vN
def fLt:F2
 | .int i,.int j,Q=>Q (.dat (.bl (decide (i<j))))
 | .str i,.str j,Q=>Q (.dat (.bl (decide (i<j))))
 | _,_,_=>False
def fLe:F2
 | .int i,.int j,Q=>Q (.dat (.bl (decide (i<=j))))
 | .str i,.str j,Q=>Q (.dat (.bl (!decide (j<i))))
 | _,_,_=>False
theorem yI:LO K GO fLt:=by
 intro O H x y a b Q Q' dom fx fy q k;unfold fLt at q
 split at q
 .rename_i i j;exact .inl ⟨i,j,fx.int,fy.int,k _ H _ q (Gr.refl _) (.bl _)⟩
 .rename_i i j;exact .inr ⟨_,_,fx.str.1,fy.str.1,k _ H _ q (Gr.refl _) (.bl _)⟩
 .exact q.elim
theorem yJ:LO K E7 fLe:=by
 intro O H x y a b Q Q' dom fx fy q k;unfold fLe at q
 split at q
 .rename_i i j;exact .inl ⟨i,j,fx.int,fy.int,k _ H _ q (Gr.refl _) (.bl _)⟩
 .rename_i i j;exact .inr ⟨_,_,fx.str.1,fy.str.1,k _ H _ q (Gr.refl _) (.bl _)⟩
 .exact q.elim
theorem rE:LO K (rI0 fun i j=>.bl (decide (j<i))) (fI0 fun i j=>.bl (decide (j<i))):=yH fun _ _ _ _=>.bl _
theorem FQ:LO K (rI0 fun i j=>.bl (decide (j<=i))) (fI0 fun i j=>.bl (decide (j<=i))):=yH fun _ _ _ _=>.bl _
mutual
def D.py:D->PyData
 | .non=>.none|.bl b=>.bool b|.int i=>.int i|.str l=>.str (S l)|.ty _=>.none
 | .lst ds=>.list (D.pys ds)|.tup ds=>.tuple (D.pys ds)|.scr ns=>.list (ns.map .int)|.dic _ _=>.none|.obj _ _ _=>.none|.exc _ _ _=>.none
def D.pys:List D->List PyData
 | []=>[]
 | d::r=>d.py::D.pys r
end
mutual
def D.plain:D->Bool
 | .non=>true|.bl _=>true|.int _=>true|.str _=>true|.ty _=>false
 | .lst ds=>D.plains ds|.tup ds=>D.plains ds|.scr _=>true|.dic _ _=>false|.obj _ _ _=>false|.exc _ _ _=>false
def D.plains:List D->Bool
 | []=>true
 | d::r=>d.plain && D.plains r
end
mutual
theorem FV.dv{O:Addr->Prop}{H:Hp}:∀{v:V}{d:D},FV K O H v d->d.plain=true->DV K H v d.py
 | _,_,.non,_=>.non
 | _,_,.bl b,_=>.bl b
 | _,_,.int i,_=>.int i
 | _,_,.str l h,_=>.str (S l)
 | _,_,.ty n,p=>nomatch p
 | _,_,.scr s,_=>.lst s.sq (DVs.ints _)
 | _,_,.lst n e f,p=>.lst (SqL.of e) (FVs.dvs f p)
 | _,_,.tup n e f,p=>.tup (SqT.of e) (FVs.dvs f p)
 | _,_,.dic _ _ _ _,p=>nomatch p
 | _,_,.obj _ _ _ _,p=>nomatch p
 | _,_,.exc0 _ _,p=>nomatch p
 | _,_,.exc1 _ _ _ _ _ _,p=>nomatch p
theorem FVs.dvs{O:Addr->Prop}{H:Hp}:∀{vs:List V}{ds:List D},FVs K O H vs ds->D.plains ds=true->DVs K H vs (D.pys ds)
 | _,_,.nil,_=>.nil
 | _,_,.cons a b,p=>by
  have p:(_ && _)=true:=p;rw [and_eq_true] at p;exact .cons (FV.dv a p.1) (FVs.dvs b p.2)
end
theorem FVc.dv{O:Addr->Prop}{H:Hp}{v:V}{d:D}(h:FVc K O H v d)(p:d.plain=true):DV K H v d.py:=by
 rcases h with h|⟨a,xs,ds',rfl,rfl,e3,f⟩|⟨a,dx,c,fs,ns,ds',e1,rfl,_⟩
 .exact h.dv p
 .exact .lst (SqL.of e3) (f.dvs p)
 .cases p
def DR(K:PySem.W.Frag)(neg:Bool):R2:=fun x y H Q=>rI0 (fun i j=>.bl (if neg then !decide (i=j) else decide (i=j))) x y H Q\/(∃i j,x=.str (S i)/\y=.str (S j)/\Q (.bl (if neg then !decide (i=j) else decide (i=j))) H)\/Fy K neg x y H Q
theorem Hb(K:PySem.W.Frag)(e:X.K=K)(hu:X.A.units+64<cLine):OpR X (compareOp .Eq) (DR K false):=by
 subst e;exact OpR.or DA (OpR.or Dy (Dv hu))
theorem Hc(K:PySem.W.Frag)(e:X.K=K)(hu:X.A.units+64<cLine):OpR X (compareOp .NotEq) (DR K true):=by
 subst e;exact OpR.or DB (OpR.or Dz (Dw hu))
def re(a b:D):Prop:=a.plain=true/\b.plain=true/\SeqAt.shaped a.py=true/\SeqAt.shaped b.py=true
def deq(a b:D):Bool:=PyData.eqv a.py b.py
def fEq:F2
 | .int i,.int j,Q=>Q (.dat (.bl (decide (i=j))))
 | .str i,.str j,Q=>Q (.dat (.bl (decide (i=j))))
 | a,b,Q=>re a b/\Q (.dat (.bl (deq a b)))
def fNe:F2
 | .int i,.int j,Q=>Q (.dat (.bl (!decide (i=j))))
 | .str i,.str j,Q=>Q (.dat (.bl (!decide (i=j))))
 | a,b,Q=>re a b/\Q (.dat (.bl (!deq a b)))
theorem FS:LO K (DR K false) fEq:=by
 intro O H x y a b Q Q' dom fx fy q k;unfold fEq at q
 split at q
 .rename_i i j;exact .inl ⟨i,j,fx.int,fy.int,k _ H _ q (Gr.refl _) (.bl _)⟩
 .rename_i i j;exact .inr (.inl ⟨i,j,fx.str.1,fy.str.1,k _ H _ q (Gr.refl _) (.bl _)⟩)
 .exact .inr (.inr ⟨_,_,fx.dv q.1.1,fy.dv q.1.2.1,q.1.2.2.1,q.1.2.2.2,k _ H _ q.2 (Gr.refl _) (.bl _)⟩)
theorem FT:LO K (DR K true) fNe:=by
 intro O H x y a b Q Q' dom fx fy q k;unfold fNe at q
 split at q
 .rename_i i j;exact .inl ⟨i,j,fx.int,fy.int,k _ H _ q (Gr.refl _) (.bl _)⟩
 .rename_i i j;exact .inr (.inl ⟨i,j,fx.str.1,fy.str.1,k _ H _ q (Gr.refl _) (.bl _)⟩)
 .exact .inr (.inr ⟨_,_,fx.dv q.1.1,fy.dv q.1.2.1,q.1.2.2.1,q.1.2.2.2,k _ H _ q.2 (Gr.refl _) (.bl _)⟩)
def GP(neg:Bool):R2:=fun x y H Q=>(∃b c,x=.bl b/\y=.bl c/\Q (.bl (if neg then !decide (b=c) else decide (b=c))) H)\/(y=.non/\Q (.bl (if neg then !decide (x=.non) else decide (x=.non))) H)
theorem wt:OpR X (compareOp .IsNot) (GP true):=OpR.or wg AG
def D.isNon:D->Bool
 | .non=>true
 | _=>false
theorem FVc.isNon{O:Addr->Prop}{H:Hp}{v:V}{d:D}(h:FVc K O H v d):decide (v=.non)=d.isNon:=by
 rcases h with h|⟨a,xs,ds',rfl,rfl,e3,f⟩|⟨a,dx,c,fs,ns,ds',rfl,rfl,_⟩
 .cases h <;> rfl
 .rfl
 .rfl
def fIs(neg:Bool):F2
 | .bl b,.bl c,Q=>Q (.dat (.bl (if neg then !decide (b=c) else decide (b=c))))
 | a,.non,Q=>Q (.dat (.bl (if neg then !a.isNon else a.isNon)))
 | _,_,_=>False
theorem DS{neg:Bool}:LO K (GP neg) (fIs neg):=by
 intro O H x y a b Q Q' dom fx fy q k;unfold fIs at q
 split at q
 .rename_i b c;exact .inl ⟨b,c,fx.bl,fy.bl,k _ H _ q (Gr.refl _) (.bl _)⟩
 .exact .inr ⟨fy.non,by rw [fx.isNon];exact k _ H _ q (Gr.refl _) (.bl _)⟩
 .exact q.elim
def D.fl:D->Bool
 | .non=>true|.bl _=>true|.int _=>true|.str _=>true
 | _=>false
def eqF:D->D->Bool
 | .non,.non=>true
 | .bl a,.bl b=>a == b
 | .bl a,.int b=>(if a then 1 else 0) == b
 | .int a,.bl b=>a == (if b then 1 else 0)
 | .int a,.int b=>a == b
 | .str a,.str b=>a == b
 | _,_=>false
def inD(x:D)(xs:List D):Bool:=xs.any fun y=>eqF y x
theorem FV.fl{O:Addr->Prop}{H:Hp}{v:V}{d:D}(h:FV K O H v d)(f:d.fl=true):mn v=true:=by cases h <;> first|rfl|cases f
theorem DT(a b:List Nat):(S a == S b)=(a == b):=by
 by_cases h:a=b
 .subst h;rw [beq_self_eq_true,beq_self_eq_true]
 .rw [beq_eq_false_iff_ne.mpr h,beq_eq_false_iff_ne.mpr (G8 h)]
theorem FV.eqF{O:Addr->Prop}{H:Hp}{v w:V}{d e:D}(h:FV K O H v d)(f:d.fl=true)(h':FV K O H w e)(f':e.fl=true):eqV v w=L2.eqF d e:=by
 cases h <;> first|(cases f;done)|(cases h' <;> first|(cases f';done)|rfl|exact DT _ _)
theorem FVs.inD{O:Addr->Prop}{H:Hp}{v:V}{d:D}(h:FV K O H v d)(f:d.fl=true):∀{xs:List V}{ds:List D},FVs K O H xs ds->ds.all D.fl=true->xs.all mn=true/\inV v xs=L2.inD d ds
 | _,_,.nil,_=>⟨rfl,rfl⟩
 | _,_,.cons a b,g=>by
  rw [all_cons,and_eq_true] at g;obtain⟨i1,i2⟩:=b.inD h f g.2;refine⟨by rw [all_cons,a.fl g.1,i1];rfl,?_⟩;unfold inV L2.inD at i2 ⊢;rw [any_cons,any_cons,i2,a.eqF g.1 h f]
def fIn(neg:Bool):F2
 | a,.lst ds,Q=>(a.fl=true/\ds.all D.fl=true)/\Q (.dat (.bl (if neg then !inD a ds else inD a ds)))
 | a,.tup ds,Q=>(a.fl=true/\ds.all D.fl=true)/\Q (.dat (.bl (if neg then !inD a ds else inD a ds)))
 | _,_,_=>False
theorem FVc.fl{O:Addr->Prop}{H:Hp}{v:V}{d:D}(h:FVc K O H v d)(f:d.fl=true):FV K O H v d:=h.fv (fun _ z=>by rw [z] at f;cases f) (fun _ _ _ z=>by rw [z] at f;cases f)
theorem Hd(K:PySem.W.Frag)(e:X.K=K):OpR X (compareOp .In) (rIn K false):=by subst e;exact vC
theorem Bj(K:PySem.W.Frag)(e:X.K=K):OpR X (compareOp .NotIn) (rIn K true):=by subst e;exact pL
theorem DU{neg:Bool}:LO K (rIn K neg) (fIn neg):=by
 intro O H x y a b Q Q' dom fx fy q k;unfold fIn at q
 split at q
 .obtain⟨p,xs,rfl,e1,f1⟩:=fy.lst;obtain⟨g1,g2⟩:=f1.inD (fx.fl q.1.1) q.1.1 q.1.2;exact⟨p,xs,rfl,.inl (SqL.of e1),(fx.fl q.1.1).fl q.1.1,g1,by rw [g2];exact k _ H _ q.2 (Gr.refl _) (.bl _)⟩
 .obtain⟨p,xs,rfl,n1,e1,f1⟩:=fy.tup;obtain⟨g1,g2⟩:=f1.inD (fx.fl q.1.1) q.1.1 q.1.2;exact⟨p,xs,rfl,.inr (SqT.of e1),(fx.fl q.1.1).fl q.1.1,g1,by rw [g2];exact k _ H _ q.2 (Gr.refl _) (.bl _)⟩
 .exact q.elim
def iV(K:PySem.W.Frag):R2:=fun x y H Q=>GH K x y H Q\/GI K x y H Q\/Dx x y H Q
theorem di(K:PySem.W.Frag)(e:X.K=K):IxR X (iV K):=by
 subst e;exact IxR.or AX (IxR.or Di A2)
def fIx:F2
 | .lst ds,.int i,Q=>∃d,atI ds i=some d/\Q (.dat d)
 | .tup ds,.int i,Q=>∃d,atI ds i=some d/\Q (.dat d)
 | .scr ns,.int i,Q=>∃d,atI ns i=some d/\Q (.dat (.int d))
 | .str l,.int i,Q=>∃c,atI l i=some c/\Q (.dat (.str [c]))
 | _,_,_=>False
theorem FVs.atI{O:Addr->Prop}{H:Hp}{vs:List V}{ds:List D}{i:Int}{d:D}(f:FVs K O H vs ds)(h:L2.atI ds i=some d):∃v,L2.atI vs i=some v/\FV K O H v d:=by
 unfold L2.atI at h ⊢;rw [f.length]
 cases e:ixN ds.length i with
 | none=>rw [e] at h;cases h
 | some j=>rw [e] at h;exact f.getD h
theorem bq:LO K (iV K) fIx:=by
 intro O H x y a b Q Q' dom fx fy q k;unfold fIx at q
 split at q
 .obtain⟨d,hd,q⟩:=q;obtain⟨p,xs,rfl,e1,f1⟩:=fx.lst;obtain⟨v,hv,fv⟩:=f1.atI hd;exact .inl ⟨p,xs,_,v,rfl,fy.int,SqL.of e1,hv,k _ H _ q (Gr.refl _) fv⟩
 .obtain⟨d,hd,q⟩:=q;obtain⟨p,xs,rfl,n1,e1,f1⟩:=fx.tup;obtain⟨v,hv,fv⟩:=f1.atI hd;exact .inr (.inl ⟨p,xs,_,v,rfl,fy.int,SqT.of e1,hv,k _ H _ q (Gr.refl _) fv⟩)
 .obtain⟨d,hd,q⟩:=q;obtain⟨p,rfl,e1⟩:=fx.scr;exact .inl ⟨p,_,_,_,rfl,fy.int,e1,A4 hd,k _ H _ q (Gr.refl _) (.int d)⟩
 .obtain⟨c,hc,q⟩:=q;exact .inr (.inr ⟨_,_,c,fx.str.1,fy.int,sz _ fx.str.2,hc,k _ H _ q (Gr.refl _) (.str _ (by show 1<=1000000;decide))⟩)
 .exact q.elim
end
end L2
namespace L2
open PySem PySem.Spec PyProof.Rows _root_.HT
section
variable {prog:Program}{w:World}{A:Around}{E:Value->Shared->Prop}{s:Shared}
theorem jD{t sl:Addr}{items:Array Value}{vl vu:Value}{lo hi:Option Int}{Q:Value->Shared->Prop}(ht:IsTup s.heap t items)(hs:s.heap.IsSliceOf sl vl vu .none)(pl:IsPart vl lo)(pu:IsPart vu hi)
  (hw:sIx items.size 0 lo=0/\sIx items.size items.size hi=items.size)
  (h:Q (.ref t) s):wpAny (model prog w) A (getItem (.ref t) (.ref sl)) Q E s:=by
 obtain⟨os,hos,hcs,hds⟩:=id hs;have hTs:s.TypeIs (.ref sl) "slice":=⟨os,hos,hcs⟩
 unfold getItem
 try with_reducible refine wpAny_holding ?_
 first|refine wpAny_bind (wpAny_pure ?_)|skip
 refine wpAny_bind (wpAny_sequenceKey ht.typeIs (by decide) ?_)
 refine wpAny_bind (wpAny_callSpecial?_slot (name:=Str.ofString "__getitem__") ht.typeIs PyProof.Rows.slot_tuple_getitem
  (wpAny_call_entry PyProof.Rows.slot_tuple_getitem ht.typeIs entry_tuple_getitem ?_ (args_tuple_getitem _ _)))
 show wpAny _ _ (Builtin.Tuple.tupleItemsOf (.ref t) >>= _) _ _ s;refine wpAny_bind (tupleItemsOf_ ht ?_);refine wpAny_bind (wpAny_typeOf hTs ?_);rw [if_pos (by decide)];refine wpAny_bind (gi hs pl pu ?_)
 have hyes:(((sIx items.size 0 lo:Nat):Int) == 0 && (1:Int) == 1 && (sIx items.size items.size hi - sIx items.size 0 lo) == items.size)=true:=by
  rw [hw.1,hw.2,Nat.sub_zero];simp
 show wpAny _ _ (if (((sIx items.size 0 lo:Nat):Int) == 0 && (1:Int) == 1 && (sIx items.size items.size hi - sIx items.size 0 lo) == items.size)=true then _ else _) _ _ s;rw [if_pos hyes];refine wpAny_bind (m:=Builtin.Tuple.tupleIsExact _) (wpAny_bind (wpAny_typeOf ht.typeIs (wpAny_pure ?_)));rw [if_pos (by decide)]
 first
  | exact wpAny_bind (m:=rule _) (wpAny_pure (wpAny_pure ⟨_,rfl,wpAny_pure h⟩))
  | exact wpAny_pure ⟨_,rfl,wpAny_pure h⟩
  | exact wpAny_bind (wpAny_rule (wpAny_pure ⟨_,rfl,wpAny_pure h⟩))
def DW(K:PySem.W.Frag):V->Option Int->Option Int->Hp->VK->Prop:=fun x lo hi H Q=>∃a xs,x=.ref a/\SqT K H a xs/\(sIx xs.length 0 lo=0/\sIx xs.length xs.length hi=xs.length)/\Q (.ref a) H
theorem Bk{X:Cx}:SlR X (DW X.K):=by
 intro pins s σ H x v vl vu lo hi sl Q I rx hs pl pu h;obtain⟨a,xs,rfl,hx,hw,q⟩:=h;cases rx;obtain⟨its,r,ht,hz⟩:=I.tuple hx;have hlen:its.toArray.size=xs.length:=by rw [size_toArray];exact r.length.symm
 refine⟨"tuple",_,PyProof.Rows.slot_tuple_getitem.lookup,ht.typeIs,?_⟩;exact jD ht hs pl pu (by rw [hlen];exact hw) ⟨.ref a,H,I,rfl,q⟩
end
end L2
namespace L2
open PySem PySem.Spec PyProof.Rows
section
variable {K:PySem.W.Frag}{X:Cx}{ta tb tc to:TE}{pa pb pc:PA1}{pe:PTE}{tr:TA}{pr:PTA}
def wu(f f':F2)(pa pb pc:PA1):PTE:=fun ρ Q=>pa ρ fun x ρ1=>pb ρ1 fun y ρ2=>op2 f ρ2 x y fun p ρ3=>match p with
 | .dat (.bl k)=>gz k (pc ρ3 fun z ρ4=>op2 f' ρ4 y z Q) (Q (.dat (.bl false)) ρ3)
 | _=>False
theorem tz{r r':R2}{f f':F2}(o:LO K r f)(o':LO K r' f')(ha:LA1 K ta pa)(hb:LA1 K tb pb)(hc:LA1 K tc pc):LE K (sP r r' ta tb tc) (wu f f' pa pb pc):=fun A ρ σ H Q Q' R q k =>
 ha A ρ σ H _ _ R q fun v H1 a ρ1 q1 f1 R1 o1=>hb A ρ1 σ H1 _ _ R1 q1 fun w H2 b ρ2 q2 f2 R2 o2=>by
  unfold op2 at q2
  split at q2
  .rename_i da db e1 e2;refine o _ H2 v w da db _ _ R2.dom2 (R2.cont (o1.keeps f2.keeps) e1) (R2.cont o2 e2) q2 fun z H3 p q3 g ov=>?_;dsimp only at q3
   split at q3
   .rename_i c;cases ov;refine⟨c,rfl,?_⟩;have R3:=R2.gr g
    cases c with
    | true =>
     refine hc A ρ2 σ H3 _ _ R3 q3 fun u H4 cc ρ4 q4 f4 R4 o4=>?_
     try unfold op2 at q4
     split at q4
     .rename_i dc dd e3 e4;have o2':AOk K (OO A ρ4 σ) σ H4 b w:=(o2.keeps (g.fr (ρ:=ρ2) (σ:=σ)).keeps).keeps f4.keeps;exact o' _ H4 w u _ _ _ _ R4.dom2 (R4.cont o2' e3) (R4.cont o4 e4) q4 fun z H5 p q5 g5 ov=>k z H5 p ρ4 q5 ((((f1.trans f2).trans g.fr).trans f4).trans g5.fr) ((ov.out R4 g5).h0 fun b z=>f4.dm b ((g.fr (ρ:=ρ2) (σ:=σ)).dm b (f2.dm b (f1.dm b z))))
     .exact q4.elim
    | false=>exact k _ H3 _ ρ2 q3 ((f1.trans f2).trans g.fr) ⟨R3,.bl false⟩
   .exact q3.elim
  .exact q2.elim
abbrev PTO:=PSt->(Option Int->PSt->Prop)->Prop
def LPo(K:PySem.W.Frag)(t:TO)(p:PTO):Prop:=∀(A:Addr->Prop) (ρ:PSt) (σ:St) (H:Hp) (Q:Option Int->PSt->Prop) (Q':Option Int->Hp->Prop),Rel K A ρ σ H->p ρ Q ->
 (∀b H' ρ',Q b ρ'->Fr ρ σ H ρ' H'->Rel K A ρ' σ H'->Q' b H')->t σ H Q'
def eO:PTO:=fun ρ Q=>Q none ρ
def dX(pe:PTE):PTO:=fun ρ Q=>pe ρ fun p ρ1=>match p with
 | .dat (.int i)=>Q (some i) ρ1
 | _=>False
theorem cO:LPo K vB eO:=fun A ρ σ H Q Q' R q k=>k none H ρ q (Fr.refl _ _ _) R
theorem cv(h:LE K ta pe):LPo K (Df ta) (dX pe):=fun A ρ σ H Q Q' R q k=>h A ρ σ H _ _ R q fun v H1 p ρ1 q1 f1 o1=>by
 split at q1
 .rename_i i;obtain⟨R1,f⟩:=o1;cases f;exact⟨i,rfl,k _ H1 ρ1 q1 f1 R1⟩
 .exact q1.elim
def FU(K:PySem.W.Frag):V->Option Int->Option Int->Hp->VK->Prop:=fun x lo hi H Q=>GJ K x lo hi H Q\/GM x lo hi H Q\/GG K x lo hi H Q\/DW K x lo hi H Q
theorem tD(K:PySem.W.Frag)(e:X.K=K):SlR X (FU K):=by
 subst e;exact SlR.or AY (SlR.or Dt (SlR.or Dg Bk))
def fSl:D->Option Int->Option Int->(PV->Prop)->Prop
 | .lst ds,lo,hi,Q=>Q (.own (dD ds lo hi))
 | .scr ns,lo,hi,Q=>Q (.own ((dD ns lo hi).map .int))
 | .str l,lo,hi,Q=>Q (.dat (.str (dD l lo hi)))
 | .tup ds,lo,hi,Q=>Q (.dat (.tup (dD ds lo hi)))
 | _,_,_,_=>False
theorem FVs.cut{O:Addr->Prop}{H:Hp}{xs:List V}{ds:List D}(f:FVs K O H xs ds)(lo hi:Option Int):FVs K O H (dD xs lo hi) (dD ds lo hi):=by
 unfold dD;rw [f.length];exact (f.drop _).take _
def eB(pa:PA1)(pl ph:PTO):PTE:=fun ρ Q=>pa ρ fun x ρ1=>pl ρ1 fun lo ρ2=>ph ρ2 fun hi ρ3=>match cont ρ3 x with
 | some d=>fSl d lo hi fun p=>Q p ρ3
 | _=>False
theorem Bl{α:Type}{ds:List α}{lo hi:Option Int}{n:Nat}(h:n=ds.length)(hw:HT.sIx n 0 lo=0/\HT.sIx n n hi=n):dD ds lo hi=ds:=by
 subst h;unfold dD;rw [hw.1,hw.2,drop_zero,Nat.sub_zero,take_length]
theorem lsl{O:Addr->Prop}{H:Hp}{x:V}{d:D}{lo hi:Option Int}{Q:PV->Prop}{Q':VK}(dom:∀b,O b->H b≠none)(fx:FVc K O H x d)(q:fSl d lo hi Q)(k:∀v H' p,Q p->Gr H H'->qa K O H H' p v->Q' v H'):FU K x lo hi H Q':=by
 unfold fSl at q
 split at q
 .obtain⟨a,xs,rfl,e1,f1⟩:=fx.lst;exact .inl ⟨a,xs,rfl,SqL.of e1,fun p hp=>k _ _ _ q (Gr.new hp) (eA hp (f1.cut _ _))⟩
 .obtain⟨a,rfl,e1⟩:=fx.scr;exact .inl ⟨a,_,rfl,e1,fun p hp=>k _ _ _ q (Gr.new hp) (eA hp (by rw [vJ,nX];exact FVs.of_ints _))⟩
 .exact .inr (.inl ⟨_,fx.str.1,sz _ fx.str.2,k _ H _ q (Gr.refl _) (.str _ (Nat.le_trans (e7 _ _ _) fx.str.2))⟩)
 .obtain⟨a,xs,rfl,n1,e1,f1⟩:=fx.tup
  by_cases hw:HT.sIx xs.length 0 lo=0/\HT.sIx xs.length xs.length hi=xs.length
  .refine .inr (.inr (.inr ⟨a,xs,rfl,SqT.of e1,hw,k _ H _ q (Gr.refl _) ?_⟩));rw [Bl f1.length hw];exact .tup n1 e1 f1
  .exact .inr (.inr (.inl ⟨a,xs,rfl,SqT.of e1,hw,fun p hp=>k _ _ _ q (Gr.new hp) (lh dom hp (f1.cut _ _))⟩))
 .exact q.elim
theorem cI{tl th:TO}{pl ph:PTO}(ha:LA1 K ta pa)(hl:LPo K tl pl)(hh:LPo K th ph):LE K (tSl (FU K) ta tl th) (eB pa pl ph):=fun A ρ σ H Q Q' R q k =>
 ha A ρ σ H _ _ R q fun v H1 a ρ1 q1 f1 R1 o1=>hl A ρ1 σ H1 _ _ R1 q1 fun lo H2 ρ2 q2 f2 R2=>hh A ρ2 σ H2 _ _ R2 q2 fun hi H3 ρ3 q3 f3 R3=>by
  split at q3
  .rename_i d e1;exact lsl R3.dom2 (R3.cont (o1.keeps (f2.trans f3).keeps) e1) q3 fun z H4 p q4 g ov=>k z H4 p ρ3 q4 (((f1.trans f2).trans f3).trans g.fr) ((ov.out R3 g).h0 fun b z=>f3.dm b (f2.dm b (f1.dm b z)))
  .exact q3.elim
abbrev FN:=List D->(PV->Prop)->Prop
def ku(K:PySem.W.Frag):List V->Hp->VK->Prop:=fun xs H Q=>(∃l,xs=[.str (S l)]/\l.length<=sizeLine/\Q (.int l.length) H)\/FF K xs H Q\/FG K xs H Q\/∃p kvs,xs=[.ref p]/\Rd H p (.dK kvs)/\Q (.int kvs.length) H
theorem cZ(K:PySem.W.Frag)(e:X.K=K):cu X (.builtin "len") (ku K):=by
 subst e;exact cu.or vQ (cu.or vR (cu.or vS wk))
def hZ:FN
 | [.str l],Q=>Q (.dat (.int l.length))
 | [.lst l],Q=>Q (.dat (.int l.length))
 | [.tup l],Q=>Q (.dat (.int l.length))
 | [.scr l],Q=>Q (.dat (.int l.length))
 | [.dic ks _],Q=>Q (.dat (.int ks.length))
 | _,_=>False
theorem bM:LC K (ku K) hZ:=by
 intro O H xs as Q Q' dom fs q k;unfold hZ at q
 split at q
 .cases fs with|cons a b=>cases b;rw [a.str.1];exact .inl ⟨_,rfl,sz _ a.str.2,k _ H _ q (Gr.refl _) (.int _)⟩
 .cases fs with
  | cons a b =>
   cases b;obtain⟨p,ys,rfl,e1,f1⟩:=a.lst;exact .inr (.inl ⟨p,ys,rfl,SqL.of e1,by rw [f1.length];exact k _ H _ q (Gr.refl _) (.int _)⟩)
 .cases fs with
  | cons a b =>
   cases b;obtain⟨p,ys,rfl,n1,e1,f1⟩:=a.tup;exact .inr (.inr (.inl ⟨p,ys,rfl,SqT.of e1,by rw [f1.length];exact k _ H _ q (Gr.refl _) (.int _)⟩))
 .cases fs with
  | cons a b =>
   cases b;obtain⟨p,rfl,e1⟩:=a.scr;exact .inr (.inl ⟨p,_,rfl,e1,by rw [length_map];exact k _ H _ q (Gr.refl _) (.int _)⟩)
 .cases fs with
  | cons a b =>
   cases b
   cases a.fv nofun nofun with
   | dic n e m f=>subst m;exact .inr (.inr (.inr ⟨_,_,rfl,.inl e,k _ H _ q (Gr.refl _) (by rw [length_map];exact .int _)⟩))
 .exact q.elim
inductive Kd where
 | int|bool|str|list|tuple|dict
def Kd.nm:Kd->String
 | .int=>"int"|.bool=>"bool"|.str=>"str"|.list=>"list"|.tuple=>"tuple"|.dict=>"dict"
def isK:Kd->D->Bool
 | .int,.int _=>true
 | .int,.bl _=>true
 | .bool,.bl _=>true
 | .str,.str _=>true
 | .list,.lst _=>true
 | .tuple,.tup _=>true
 | .dict,.dic _ _=>true
 | _,_=>false
def D.sort:D->Bool
 | .obj _ _ _=>false
 | .exc _ _ _=>false
 | .scr _=>false
 | .ty _=>false
 | _=>true
theorem FVc.ty{O:Addr->Prop}{H:Hp}{v:V}{d:D}(h:FVc K O H v d)(s:d.sort=true):∃t,pA K H v t/\∀k:Kd,PySem.W.kitOne K t (.type k.nm)=some (isK k d):=by
 rcases h with h|⟨a,xs,ds',rfl,rfl,e3,f⟩|⟨a,dx,c,fs,ns,ds',rfl,rfl,_⟩
 .cases h with
  | non=>exact⟨_,.non,fun k=>by cases k <;> rfl⟩
  | bl b=>exact⟨_,.bl b,fun k=>by cases k <;> rfl⟩
  | int i=>exact⟨_,.int i,fun k=>by cases k <;> rfl⟩
  | str l h=>exact⟨_,.str _,fun k=>by cases k <;> rfl⟩
  | ty n=>cases s
  | scr _=>cases s
  | lst n e f=>exact⟨_,.lst e,fun k=>by cases k <;> rfl⟩
  | tup n e f=>exact⟨_,.tup e,fun k=>by cases k <;> rfl⟩
  | dic n e m f=>exact⟨_,.dK e,fun k=>by cases k <;> rfl⟩
  | obj _ _ _ _=>cases s
  | exc0 _ _=>cases s
  | exc1 _ _ _ _ _ _=>cases s
 .exact⟨_,.lst e3,fun k=>by cases k <;> rfl⟩
 .cases s
theorem Bm(K:PySem.W.Frag)(e:X.K=K):cu X (.builtin "isinstance") (GN K):=by subst e;exact rm
def Fa(k:Kd)(pa:PA1):PTE:=fun ρ Q=>pa ρ fun x ρ1=>match cont ρ1 x with
 | some d=>gz d.sort (Q (.dat (.bl (isK k d))) ρ1) False
 | _=>False
theorem wv(k:Kd)(ha:LA1 K ta pa):LE K (tCB (GN K) (aJ ta (aJ (tC (.ty k.nm)) cS))) (Fa k pa):=fun A ρ σ H Q Q' R q kk =>
 ha A ρ σ H _ _ R q fun v H1 a ρ1 q1 f1 R1 o1=>by
  split at q1
  .rename_i d e1
   cases hs:d.sort with
   | false=>rw [hs] at q1;exact q1.elim
   | true =>
    rw [hs] at q1;obtain⟨t,ty,hk⟩:=(R1.cont o1 e1).ty hs;exact⟨v,k.nm,t,isK k d,rfl,ty,hk k,kk _ H1 _ ρ1 q1 f1 ⟨R1,.bl _⟩⟩
  .exact q1.elim
def GQ(K:PySem.W.Frag):List V->Hp->VK->Prop:=fun xs H Q=>∃(x:V) (p:Addr) (ts:List String) (t:Value) (b:Bool),xs=[x,.ref p]/\pA K H x t/\H p=some (.tup (ts.map V.ty))/\PySem.W.kitAny K t (ts.map Value.type)=some b/\Q (.bl b) H
theorem FW(K:PySem.W.Frag)(e:X.K=K):cu X (.builtin "isinstance") (GQ K):=by subst e;exact p7
def GR(k l:Kd)(pa:PA1):PTE:=fun ρ Q=>pa ρ fun x ρ1=>match cont ρ1 x with
 | some d=>gz d.sort (Q (.dat (.bl (isK k d || isK l d))) ρ1) False
 | _=>False
theorem FVc.keeps{O O':Addr->Prop}{H H':Hp}{v:V}{d:D}(k:aS O H O' H')(g:Gr H H')(h:FVc K O H v d):FVc K O' H' v d:=by
 rcases h with h|⟨a,xs,ds',e1,e2,e3,f⟩|⟨a,dx,c,fs,ns,ds',e1,e2,e3,m,f⟩
 .exact .inl (h.keeps k)
 .exact .inr (.inl ⟨a,xs,ds',e1,e2,g _ _ e3,f.keeps k⟩)
 .exact .inr (.inr ⟨a,dx,c,fs,ns,ds',e1,e2,g _ _ e3,m,f.keeps k⟩)
theorem DX(k l:Kd)(hkl:∀t b c,PySem.W.kitOne K t (.type k.nm)=some b->PySem.W.kitOne K t (.type l.nm)=some c->PySem.W.kitAny K t [.type k.nm,.type l.nm]=some (b || c))(ha:LA1 K ta pa):LE K (tCB (GQ K) (aJ ta (aJ (CD (aJ (tC (.ty k.nm)) (aJ (tC (.ty l.nm)) cS))) cS))) (GR k l pa):=fun A ρ σ H Q Q' R q kk =>
 ha A ρ σ H _ _ R q fun v H1 a ρ1 q1 f1 R1 o1=>by
  split at q1
  .rename_i d e1
   cases hs:d.sort with
   | false=>rw [hs] at q1;exact q1.elim
   | true =>
    rw [hs] at q1;refine⟨by show 2<=sizeLine;decide,fun p hp=>?_⟩;have g:Gr H1 (upd H1 p (.tup [V.ty k.nm,V.ty l.nm])):=Gr.new hp;obtain⟨t,ty,hk⟩:=((R1.cont o1 e1).keeps (g.fr (ρ:=ρ1) (σ:=σ)).keeps g).ty hs;exact⟨v,p,[k.nm,l.nm],t,_,rfl,ty,aF,hkl _ _ _ (hk k) (hk l),kk _ _ _ ρ1 q1 (f1.trans g.fr) ⟨R1.gr g,.bl _⟩⟩
  .exact q1.elim
end
structure yK where
 nx:PSt->Prop
 rt:PV->PSt->Prop
 bk:PSt->Prop:=fun _=>False
 ct:PSt->Prop:=fun _=>False
abbrev PTS:=yK->PSt->Prop
structure dk (fx:List (Nat×V)) (R:Addr->Prop) (H0:Hp) (ρ:PSt) (σ:St) (H:Hp):Prop where
 kp:∀b o,¬ R b->H0 b=some o->H b=some o
 dm:∀b,H0 b≠none->H b≠none
 ow:∀b,Wr ρ σ b->R b\/H0 b=none
 fx:∀p∈fx,σ[p.1]?=some (some p.2)
section
variable {K:PySem.W.Frag}{fx:List (Nat×V)}{A R:Addr->Prop}{H0 H H':Hp}{ρ ρ':PSt}{σ:St}
theorem dk.fr(F:dk fx R H0 ρ σ H)(f:Fr ρ σ H ρ' H'):dk fx R H0 ρ' σ H' :=
 ⟨fun b o n e=>f.kp b o (fun w=>(F.ow b w).elim n (fun z=>by rw [z] at e;cases e)) (F.kp b o n e),fun b z=>f.dm b (F.dm b z),fun b w=>F.ow b (f.ow b w),F.fx⟩
theorem dk.start(hfx:∀p∈fx,σ[p.1]?=some (some p.2)):dk fx (Wr ρ σ) H ρ σ H:=⟨fun _ _ _ h=>h,fun _ h=>h,fun _ h=>.inl h,hfx⟩
theorem dk.keepsR{ρ1:PSt}{σ1:St}{H1:Hp}(F:dk fx R H1 ρ σ H)(hR:∀b,R b->OO A ρ1 σ1 b):aS (OO A ρ1 σ1) H1 (OO A ρ σ) H:=fun b o n e=>by
 refine⟨fun z=>?_,F.kp b o (fun z=>n (hR b z)) e⟩
 rcases z with z|z
 .exact n (.inl z)
 .rcases F.ow b z with z|z
  .exact n (hR b z)
  .rw [z] at e;cases e
theorem dk.keeps{ρ1:PSt}{σ1:St}{H1:Hp}(F:dk fx (Wr ρ1 σ1) H1 ρ σ H):aS (OO A ρ1 σ1) H1 (OO A ρ σ) H:=F.keepsR fun b z=>.inr z
theorem dk.trans{fx':List (Nat×V)}{ρ1:PSt}{σ1:St}{H1:Hp}(F:dk fx R H0 ρ1 σ1 H1)(G:dk fx' (Wr ρ1 σ1) H1 ρ σ H)(hfx:∀p∈fx,σ[p.1]?=some (some p.2)):dk fx R H0 ρ σ H:=by
 refine⟨fun b o n e=>G.kp b o (fun w=>(F.ow b w).elim n (fun z=>by rw [z] at e;cases e)) (F.kp b o n e),fun b z=>G.dm b (F.dm b z),fun b w=>?_,hfx⟩
 rcases G.ow b w with z|z
 .exact F.ow b z
 .refine .inr ?_
  cases e:H0 b with
  | none=>rfl
  | some o=>exact absurd z (F.dm b (by rw [e];exact nofun))
theorem Out.put{p:PV}{v:V}{i:Nat}(h:Out K A ρ σ H0 H p v):Rel K A (ρ.set i (some p)) (σ.set i (some v)) H/\∀b,Wr (ρ.set i (some p)) (σ.set i (some v)) b->Wr ρ σ b\/H0 b=none:=by
 have get:∀(j:Nat) (q:PV),(ρ.set i (some p))[j]?=some (some q)->(j=i/\q=p/\i<ρ.length)\/(j≠i/\ρ[j]?=some (some q)):=fun j q e=>by
  by_cases z:i=j
  .subst z
   by_cases hi:i<ρ.length
   .rw [getElem?_set_self hi] at e;cases e;exact .inl ⟨rfl,rfl,hi⟩
   .rw [getElem?_eq_none (by rw [length_set];omega)] at e;cases e
  .rw [getElem?_set_ne z] at e;exact .inr ⟨fun q=>z q.symm,e⟩
 cases p with
 | dat d =>
  obtain⟨R1,f⟩:=h
  have ow:∀b,Wr (ρ.set i (some (.dat d))) (σ.set i (some v)) b->Wr ρ σ b:=fun b ⟨j,r,e1,o1,s1⟩=>by
   rcases get j r e1 with ⟨_,rfl,_⟩|⟨n,e⟩
   .cases o1
   .rw [getElem?_set_ne (fun z=>n z.symm)] at s1;exact⟨j,r,e,o1,s1⟩
  have k:aS (OO A ρ σ) H (OO A (ρ.set i (some (.dat d))) (σ.set i (some v))) H:=aS.less fun b z=>z.imp id (ow b)
  refine⟨⟨by rw [length_set,length_set];exact R1.len,fun j r e1=>?_,fun j l p1 q1 v' e1 e2 o1 o2 s1 s2=>?_,R1.dom,fun b z w=>R1.sep b z (ow b w)⟩,fun b w=>.inl (ow b w)⟩
  .rcases get j r e1 with ⟨rfl,rfl,hi⟩|⟨n,e⟩
   .exact⟨v,getElem?_set_self (by rw [<- R1.len];exact hi),f.keeps k⟩
   .obtain⟨u,s,r'⟩:=R1.get j r e;exact⟨u,by rw [getElem?_set_ne (fun z=>n z.symm)];exact s,r'.keeps k fun _ _ _=>rfl⟩
  .rcases get j p1 e1 with ⟨_,rfl,_⟩|⟨n1,e1⟩
   .cases o1
   .rcases get l q1 e2 with ⟨_,rfl,_⟩|⟨n2,e2⟩
    .cases o2
    .rw [getElem?_set_ne (fun z=>n1 z.symm)] at s1;rw [getElem?_set_ne (fun z=>n2 z.symm)] at s2;exact R1.dj j l p1 q1 v' e1 e2 o1 o2 s1 s2
 | own ds =>
  obtain⟨a,xs,rfl,na,hn,e0,R1,f⟩:=h
  have ow:∀b,Wr (ρ.set i (some (.own ds))) (σ.set i (some (.ref a))) b->Wr ρ σ b\/b=a:=fun b ⟨j,r,e1,o1,s1⟩=>by
   rcases get j r e1 with ⟨rfl,rfl,hi⟩|⟨n,e⟩
   .rw [getElem?_set_self (by rw [<- R1.len];exact hi)] at s1;cases s1;exact .inr rfl
   .rw [getElem?_set_ne (fun z=>n z.symm)] at s1;exact .inl ⟨j,r,e,o1,s1⟩
  have k:aS (OO (fk A a) ρ σ) H (OO A (ρ.set i (some (.own ds))) (σ.set i (some (.ref a)))) H:=aS.less fun b z=>by
   rcases z with z|z
   .exact .inl (.inl z)
   .rcases ow b z with z|z
    .exact .inr z
    .exact .inl (.inr z)
  refine⟨⟨by rw [length_set,length_set];exact R1.len,fun j r e1=>?_,fun j l p1 q1 v' e1 e2 o1 o2 s1 s2=>?_,fun b z=>R1.dom b (.inl z),fun b z w=>?_⟩,fun b w=>(ow b w).imp id fun z=>by rw [z];exact hn⟩
  .rcases get j r e1 with ⟨rfl,rfl,hi⟩|⟨n,e⟩
   .exact⟨_,getElem?_set_self (by rw [<- R1.len];exact hi),a,xs,rfl,e0,f.keeps k⟩
   .obtain⟨u,s,r'⟩:=R1.get j r e;exact⟨u,by rw [getElem?_set_ne (fun z=>n z.symm)];exact s,r'.keeps k fun _ _ _=>rfl⟩
  .rcases get j p1 e1 with ⟨rfl,rfl,hi⟩|⟨n1,e1'⟩
   .rw [getElem?_set_self (by rw [<- R1.len];exact hi)] at s1;cases s1
    rcases get l q1 e2 with ⟨rfl,rfl,_⟩|⟨n2,e2⟩
    .rfl
    .rw [getElem?_set_ne (fun z=>n2 z.symm)] at s2;exact absurd ⟨l,q1,e2,o2,s2⟩ (R1.sep a (.inr rfl))
   .rw [getElem?_set_ne (fun z=>n1 z.symm)] at s1
    rcases get l q1 e2 with ⟨rfl,rfl,hi⟩|⟨n2,e2⟩
    .rw [getElem?_set_self (by rw [<- R1.len];exact hi)] at s2;cases s2;exact absurd ⟨j,p1,e1',o1,s1⟩ (R1.sep a (.inr rfl))
    .rw [getElem?_set_ne (fun z=>n2 z.symm)] at s2;exact R1.dj j l p1 q1 v' e1' e2 o1 o2 s1 s2
  .rcases ow b w with w|w
   .exact R1.sep b (.inl z) w
   .rw [w] at z;exact na z
 | ins c ns ds =>
  obtain⟨a,dx,fs,rfl,na,hn,e0,m,R1,f⟩:=h
  have ow:∀b,Wr (ρ.set i (some (.ins c ns ds))) (σ.set i (some (.ref a))) b->Wr ρ σ b\/b=a:=fun b ⟨j,r,e1,o1,s1⟩=>by
   rcases get j r e1 with ⟨rfl,rfl,hi⟩|⟨n,e⟩
   .rw [getElem?_set_self (by rw [<- R1.len];exact hi)] at s1;cases s1;exact .inr rfl
   .rw [getElem?_set_ne (fun z=>n z.symm)] at s1;exact .inl ⟨j,r,e,o1,s1⟩
  have k:aS (OO (fk A a) ρ σ) H (OO A (ρ.set i (some (.ins c ns ds))) (σ.set i (some (.ref a)))) H:=aS.less fun b z=>by
   rcases z with z|z
   .exact .inl (.inl z)
   .rcases ow b z with z|z
    .exact .inr z
    .exact .inl (.inr z)
  refine⟨⟨by rw [length_set,length_set];exact R1.len,fun j r e1=>?_,fun j l p1 q1 v' e1 e2 o1 o2 s1 s2=>?_,fun b z=>R1.dom b (.inl z),fun b z w=>?_⟩,fun b w=>(ow b w).imp id fun z=>by rw [z];exact hn⟩
  .rcases get j r e1 with ⟨rfl,rfl,hi⟩|⟨n,e⟩
   .exact⟨_,getElem?_set_self (by rw [<- R1.len];exact hi),a,dx,fs,rfl,e0,m,f.keeps k⟩
   .obtain⟨u,s,r'⟩:=R1.get j r e;exact⟨u,by rw [getElem?_set_ne (fun z=>n z.symm)];exact s,r'.keeps k fun _ _ _=>rfl⟩
  .rcases get j p1 e1 with ⟨rfl,rfl,hi⟩|⟨n1,e1'⟩
   .rw [getElem?_set_self (by rw [<- R1.len];exact hi)] at s1;cases s1
    rcases get l q1 e2 with ⟨rfl,rfl,_⟩|⟨n2,e2⟩
    .rfl
    .rw [getElem?_set_ne (fun z=>n2 z.symm)] at s2;exact absurd ⟨l,q1,e2,o2,s2⟩ (R1.sep a (.inr rfl))
   .rw [getElem?_set_ne (fun z=>n1 z.symm)] at s1
    rcases get l q1 e2 with ⟨rfl,rfl,hi⟩|⟨n2,e2⟩
    .rw [getElem?_set_self (by rw [<- R1.len];exact hi)] at s2;cases s2;exact absurd ⟨j,p1,e1',o1,s1⟩ (R1.sep a (.inr rfl))
    .rw [getElem?_set_ne (fun z=>n2 z.symm)] at s2;exact R1.dj j l p1 q1 v' e1' e2 o1 o2 s1 s2
  .rcases ow b w with w|w
   .exact R1.sep b (.inl z) w
   .rw [w] at z;exact na z
end
abbrev PTG:=PV->PSt->(PSt->Prop)->Prop
abbrev Bn:=List D->PSt->(PSt->Prop)->Prop
def LG(K:PySem.W.Frag)(fs:List Nat)(g:TG)(pg:PTG):Prop:=∀(fx:List (Nat×V)) (A R:Addr->Prop) (H0:Hp) (ρ:PSt) (σ:St) (H:Hp) (p:PV) (v:V) (Q:PSt->Prop) (Q':St->Hp->Prop),fx.map Prod.fst=fs->dk fx R H0 ρ σ H->Out K A ρ σ H0 H p v->pg p ρ Q ->
 (∀ρ' σ' H',Q ρ'->Rel K A ρ' σ' H'->dk fx R H0 ρ' σ' H'->Q' σ' H')->g v σ H Q'
def LGs(K:PySem.W.Frag)(fs:List Nat)(g:TGs)(pg:Bn):Prop:=∀(fx:List (Nat×V)) (A R:Addr->Prop) (H0:Hp) (ρ:PSt) (σ:St) (H:Hp) (ds:List D) (vs:List V) (Q:PSt->Prop) (Q':St->Hp->Prop),fx.map Prod.fst=fs->dk fx R H0 ρ σ H->Rel K A ρ σ H->FVs K (OO A ρ σ) H vs ds->pg ds ρ Q ->
 (∀ρ' σ',Q ρ'->Rel K A ρ' σ' H->dk fx R H0 ρ' σ' H->(∀b,Wr ρ' σ' b->Wr ρ σ b)->Q' σ' H)->g vs σ H Q'
def LGd(K:PySem.W.Frag)(fs:List Nat)(g:TG)(pg:PTG):Prop:=∀(fx:List (Nat×V)) (A R:Addr->Prop) (H0:Hp) (ρ:PSt) (σ:St) (H:Hp) (d:D) (v:V) (Q:PSt->Prop) (Q':St->Hp->Prop),fx.map Prod.fst=fs->dk fx R H0 ρ σ H->Rel K A ρ σ H->FV K (OO A ρ σ) H v d->pg (.dat d) ρ Q ->
 (∀ρ' σ',Q ρ'->Rel K A ρ' σ' H->dk fx R H0 ρ' σ' H->(∀b,Wr ρ' σ' b->Wr ρ σ b)->Q' σ' H)->g v σ H Q'
def ao(i:Nat):PTG:=fun p ρ Q=>Q (ρ.set i (some p))
def rF:Bn:=fun ds ρ Q=>match ds with|[]=>Q ρ|_=>False
def gj(g:PTG)(gs:Bn):Bn:=fun ds ρ Q=>match ds with|d::r=>g (.dat d) ρ fun ρ1=>gs r ρ1 Q|[]=>False
section
variable {K:PySem.W.Frag}{fs:List Nat}
theorem dk.put{fx:List (Nat×V)}{R:Addr->Prop}{H0 H:Hp}{ρ:PSt}{σ:St}{i:Nat}{p:PV}{v:V}(hf:fx.map Prod.fst=fs)(hi:fs.contains i=false)(F:dk fx R H0 ρ σ H)(ow:∀b,Wr (ρ.set i (some p)) (σ.set i (some v)) b->Wr ρ σ b\/H0 b=none):dk fx R H0 (ρ.set i (some p)) (σ.set i (some v)) H :=
 ⟨F.kp,F.dm,fun b w=>(ow b w).elim (F.ow b) .inr,fun q hq=>by
  have:q.1≠i:=fun z=>by
   have h1:i∈fs:=by rw [<- hf,<- z];exact mem_map_of_mem hq
   rw [contains_iff_mem.mpr h1] at hi;cases hi
  rw [getElem?_set_ne (fun z=>this z.symm)];exact F.fx q hq⟩
theorem au{i:Nat}(hi:fs.contains i=false):LG K fs (bu i) (ao i):=fun fx A R H0 ρ σ H p v Q Q' hf F o q k=>k _ _ _ q o.put.1 (F.put hf hi o.put.2)
theorem li:LGs K fs E2 rF:=fun fx A R H0 ρ σ H ds vs Q Q' hf F r fv q k=>by
 unfold rF at q
 split at q
 .cases fv;exact⟨rfl,k _ _ q r F fun _ h=>h⟩
 .exact q.elim
theorem az{i:Nat}(hi:fs.contains i=false):LGd K fs (bu i) (ao i):=fun fx A R H0 ρ σ H d v Q Q' hf F r fv q k=>by
 have o:Out K A ρ σ H0 H (.dat d) v:=⟨r,fv⟩
 have ow:∀b,Wr (ρ.set i (some (.dat d))) (σ.set i (some v)) b->Wr ρ σ b:=fun b ⟨j,p,e1,o1,s1⟩=>by
  by_cases z:i=j
  .subst z
   by_cases hl:i<ρ.length
   .rw [getElem?_set_self hl] at e1;cases e1;cases o1
   .rw [getElem?_eq_none (by rw [length_set];omega)] at e1;cases e1
  .rw [getElem?_set_ne z] at e1 s1;exact⟨j,p,e1,o1,s1⟩
 exact k _ _ q o.put.1 (F.put hf hi o.put.2) ow
theorem dE{g:TG}{pg:PTG}{gs:TGs}{pgs:Bn}(hg:LGd K fs g pg)(h:LGs K fs gs pgs):LGs K fs (ue g gs) (gj pg pgs):=fun fx A R H0 ρ σ H ds vs Q Q' hf F r fv q k=>by
 unfold gj at q
 split at q
 .cases fv with
  | cons a b =>
   exact⟨_,_,rfl,hg fx A R H0 ρ σ H _ _ _ _ hf F r a q fun ρ1 σ1 q1 r1 F1 w1=>h fx A R H0 ρ1 σ1 H _ _ _ _ hf F1 r1 (b.keeps (aS.less fun b z=>z.imp id (w1 b))) q1 fun ρ2 σ2 q2 r2 F2 w2=>k ρ2 σ2 q2 r2 F2 fun b z=>w1 b (w2 b z)⟩
 .exact q.elim
end
def LS(K:PySem.W.Frag)(fs:List Nat)(ts:TS)(ps:PTS):Prop:=∀(fx:List (Nat×V)) (A R:Addr->Prop) (H0:Hp) (ρ:PSt) (σ:St) (H:Hp) (D:yK) (D':vd),fx.map Prod.fst=fs->Rel K A ρ σ H->dk fx R H0 ρ σ H->ps D ρ ->
 (∀ρ' σ' H',D.nx ρ'->Rel K A ρ' σ' H'->dk fx R H0 ρ' σ' H'->D'.nx σ' H') ->
 (∀v p ρ' σ' H',D.rt p ρ'->Out K A ρ' σ' H0 H' p v->dk fx R H0 ρ' σ' H'->D'.rt v H') ->
 (∀ρ' σ' H',D.bk ρ'->Rel K A ρ' σ' H'->dk fx R H0 ρ' σ' H'->D'.bk σ' H') ->
 (∀ρ' σ' H',D.ct ρ'->Rel K A ρ' σ' H'->dk fx R H0 ρ' σ' H'->D'.ct σ' H')->ts D' σ H
def cM:PTS:=fun D ρ=>D.nx ρ
def aG(a b:PTS):PTS:=fun D ρ=>a { D with nx:=b D } ρ
def fm(pe:PTE):PTS:=fun D ρ=>pe ρ fun _ ρ1=>D.nx ρ1
def bU(pe:PTE):PTS:=fun D ρ=>pe ρ D.rt
def kJ(t:PTT)(a b:PTS):PTS:=fun D ρ=>t ρ fun c ρ1=>gz c (a D ρ1) (b D ρ1)
def oh:PTS:=fun _ _=>False
def aQ(pe:PTE)(g:PTG):PTS:=fun D ρ=>pe ρ fun p ρ1=>g p ρ1 D.nx
def nq(a:PTS):PTS:=fun D ρ=>∃J:PSt->Prop,a { D with nx:=J } ρ/\∀ρ',J ρ'->D.nx ρ'
section
variable {K:PySem.W.Frag}{fs:List Nat}{ta tb:TS}{pa pb:PTS}{te:TE}{pe:PTE}{tt:TT}{pt:PTT}
theorem b3:LS K fs CZ cM:=fun fx A R H0 ρ σ H D D' hf r F q k1 k2 k3 k4=>k1 _ _ _ q r F
theorem oi:LS K fs zA oh:=fun fx A R H0 ρ σ H D D' hf r F q k1 k2 k3 k4=>q
theorem ax(ha:LS K fs ta pa)(hb:LS K fs tb pb):LS K fs (Cz ta tb) (aG pa pb):=fun fx A R H0 ρ σ H D D' hf r F q k1 k2 k3 k4 =>
 ha fx A R H0 ρ σ H _ _ hf r F q (fun ρ1 σ1 H1 q1 r1 F1=>hb fx A R H0 ρ1 σ1 H1 _ _ hf r1 F1 q1 k1 k2 k3 k4) k2 k3 k4
theorem dU(h:LE K te pe):LS K fs (AD te) (fm pe):=fun fx A R H0 ρ σ H D D' hf r F q k1 k2 k3 k4=>h A ρ σ H _ _ r q fun v H1 p ρ1 q1 f1 o1=>k1 _ _ _ q1 o1.frz.1 (F.fr f1)
theorem a8(h:LE K te pe):LS K fs (GA te) (bU pe):=fun fx A R H0 ρ σ H D D' hf r F q k1 k2 k3 k4=>h A ρ σ H _ _ r q fun v H1 p ρ1 q1 f1 o1=>k2 v p ρ1 σ H1 q1 (o1.h0 F.dm) (F.fr f1)
theorem fo(ht:LT K tt pt)(ha:LS K fs ta pa)(hb:LS K fs tb pb):LS K fs (EZ tt ta tb) (kJ pt pa pb):=fun fx A R H0 ρ σ H D D' hf r F q k1 k2 k3 k4=>ht A ρ σ H _ _ r q fun c H1 ρ1 q1 f1 r1=>by
 cases c with
 | true=>exact ha fx A R H0 ρ1 σ H1 D D' hf r1 (F.fr f1) q1 k1 k2 k3 k4
 | false=>exact hb fx A R H0 ρ1 σ H1 D D' hf r1 (F.fr f1) q1 k1 k2 k3 k4
theorem aC{g:TG}{pg:PTG}(h:LE K te pe)(hg:LG K fs g pg):LS K fs (vg te g) (aQ pe pg):=fun fx A R H0 ρ σ H D D' hf r F q k1 k2 k3 k4=>h A ρ σ H _ _ r q fun v H1 p ρ1 q1 f1 o1 =>
 hg fx A R H0 ρ1 σ H1 p v _ _ hf (F.fr f1) (o1.h0 F.dm) q1 k1
theorem lj(h:LS K fs ta pa):LS K fs (A5 ta) (nq pa):=fun fx A R H0 ρ σ H D D' hf r F q k1 k2 k3 k4=>by
 obtain⟨J,q1,q2⟩:=q;refine⟨fun σ' H'=>∃ρ',J ρ'/\Rel K A ρ' σ' H'/\dk fx R H0 ρ' σ' H',?_,fun σ' H' ⟨ρ',j,r',F'⟩=>k1 ρ' σ' H' (q2 ρ' j) r' F'⟩;exact h fx A R H0 ρ σ H _ _ hf r F q1 (fun ρ' σ' H' j r' F'=>⟨ρ',j,r',F'⟩) k2 k3 k4
end
def gH(K:PySem.W.Frag)(tl:TE):TI:=fun σ H R=>tl σ H fun x H1=>(∃k a xs,x=.ref a/\Sq k K H1 a xs/\R (Itk k K a) H1)\/∃l,x=.str (S l)/\R (Its (gD l)) H1
section
variable {X:Cx}{tg:Expr}
theorem Bo{l:Expr}{tl:TE}(hl:PE X l tl):PI X tg l (gH X.K tl):=by
 intro pins s σ H R I h;refine thn (hl pins s σ H _ I h) fun v s1 ⟨x,H1,I1,r1,q1⟩=>?_
 have fin:∀b∈[s1.heap.objs.size],uY X pins H1 b:=fun b hb=>by
  have e:b=s1.heap.objs.size:=by simpa using hb
  subst e;exact I1.fpOk (Nat.le_refl _) (I1.hok.fresh (Nat.le_refl _))
 rcases q1 with ⟨k,a,xs,e,hq,q⟩|⟨l,e,q⟩
 .subst e;cases r1
  cases k with
  | false =>
   obtain⟨its,rv,p,hz⟩:=I1.list hq;refine wpAny_pyIter_list p.isList ?_;exact⟨s1.heap.objs.size,[s1.heap.objs.size],_,_,H1,rfl,I1.kept (t':=s1.toks) fun b o e=>Heap.get?_push_of_some _ e,vk a _,⟨_,Heap.get?_push_size _ rfl,rfl,rfl⟩,fin,q⟩
  | true =>
   obtain⟨its,rv,p,hz⟩:=I1.tuple hq;refine wpAny_pyIter_tuple (show s1.heap.IsTuple a its.toArray from p) ?_;exact⟨s1.heap.objs.size,[s1.heap.objs.size],_,_,H1,rfl,I1.kept (t':=s1.toks) fun b o e=>Heap.get?_push_of_some _ e,uf a _,⟨_,Heap.get?_push_size _ rfl,rfl,rfl⟩,fin,q⟩
 .subst e;obtain⟨t,rfl⟩:=r1
  have hv:∀i v,i<(S l).cps.size->SignAt (S l) i v->∃x,(gD l)[i]?=some x/\c9 x v:=fun i v _ ⟨c,u,hc,e⟩=>by
   subst e;have hc':l[i]?=some c:=by simpa [S] using hc
   exact⟨.str (S [c]),by unfold gD;rw [getElem?_map,hc'];rfl,u,rfl⟩
  have hsc:∀i v,SignAt (S l) i v->∀a,v≠.ref a:=fun i v ⟨c,u,hc,e⟩ a z=>by subst e;cases z
  have hn:(gD l).length=(S l).cps.size:=by rw [jy];simp [S]
  have hobj:∀ty i (h:Heap),h.IsStrIter s1.heap.objs.size ty (S l) t i->∃o,h.get? s1.heap.objs.size=some o/\∀v,o.data≠.cell v:=fun ty i h ⟨o,ho,_,hd⟩=>⟨o,ho,fun v z=>by rw [hd] at z;cases z⟩
  have hfr:∀ty i (h h':Heap),h.IsStrIter s1.heap.objs.size ty (S l) t i->(∀b∈[s1.heap.objs.size],∀o,h.get? b=some o->h'.get? b=some o)->h'.IsStrIter s1.heap.objs.size ty (S l) t i:=fun ty i h h' ⟨o,ho,r⟩ k=>⟨o,k _ (by simp) o ho,r⟩
  cases ha:(S l).cps.all (·<128)
  .refine wpAny_pyIter_wide ha ⟨s1.heap.objs.size,[s1.heap.objs.size],_,Its (gD l),H1,rfl,I1.kept (t':=s1.toks) fun b o e=>Heap.get?_push_of_some _ e,
    k6 (fun A hA=>Walks.strWide hA _ (S l) t) hn hv hsc (hobj _) (hfr _) (fun A i s Q E st q=>wpAny_pyIter_striter_wide st q),⟨_,Heap.get?_push_size _ rfl,rfl,rfl⟩,fin,q⟩
  .refine wpAny_pyIter_ascii ha ⟨s1.heap.objs.size,[s1.heap.objs.size],_,Its (gD l),H1,rfl,I1.kept (t':=s1.toks) fun b o e=>Heap.get?_push_of_some _ e,
    k6 (fun A hA=>Walks.strAscii hA _ (S l) t) hn hv hsc (hobj _) (hfr _) (fun A i s Q E st q=>wpAny_pyIter_striter_ascii st q),⟨_,Heap.get?_push_size _ rfl,rfl,rfl⟩,fin,q⟩
theorem bX(K:PySem.W.Frag)(e:X.K=K){l:Expr}{tl:TE}(hl:PE X l tl):PI X tg l (gH K tl):=by subst e;exact Bo hl
end
abbrev PTI:=PSt->(Nat->(Nat->D)->PSt->Prop)->Prop
def Wlk(K:PySem.W.Frag)(O:Addr->Prop)(H:Hp)(J:It)(n:Nat)(it:Nat->D):Prop:=∀(O':Addr->Prop) (H':Hp),aS O H O' H'->(∀b,O' b->H' b≠none) ->
 (∀k,k<n->J.go k H'/\∀x H'',J.yld k H' x H''->Gr H' H''/\FV K O' H'' x (it k))/\J.stop n H'
def LI(K:PySem.W.Frag)(wi:TI)(pi:PTI):Prop:=∀(A:Addr->Prop) (ρ:PSt) (σ:St) (H:Hp) (Q:Nat->(Nat->D)->PSt->Prop) (Q':It->Hp->Prop),Rel K A ρ σ H->pi ρ Q ->
 (∀J H' n it ρ',Q n it ρ'->Fr ρ σ H ρ' H'->Rel K A ρ' σ H'->Wlk K (OO A ρ' σ) H' J n it->Q' J H')->wi σ H Q'
def itD(ds:List D)(k:Nat):D:=ds.getD k .non
theorem ww{ds:List D}{k:Nat}(h:k<ds.length):ds[k]?=some (itD ds k):=by unfold itD;rw [getD_eq_getElem?_getD,getElem?_eq_getElem h];rfl
theorem dY{ds:List D}{k:Nat}{d:D}(h:ds[k]?=some d):itD ds k=d:=by unfold itD;rw [getD_eq_getElem?_getD,h];rfl
def FY:D->Option (Nat×(Nat->D))
 | .lst ds=>some (ds.length,itD ds)
 | .tup ds=>some (ds.length,itD ds)
 | .scr ns=>some (ns.length,fun k=>.int (ns.getD k 0))
 | .str l=>some (l.length,fun k=>.str [l.getD k 0])
 | _=>none
def dq(pe:PTE):PTI:=fun ρ Q=>pe ρ fun p ρ1=>match FY p.d with
 | some (n,it)=>Q n it ρ1
 | none=>False
section
variable {K:PySem.W.Frag}{te:TE}{pe:PTE}{ta:TA}{pa:PTA}
theorem FV.row{O:Addr->Prop}{H:Hp}{v:V}{d:D}{n:Nat}{it:Nat->D}(h:FV K O H v d)(e:FY d=some (n,it)) :
  (∃k a xs,v=.ref a/\xs.length=n/\(∀O' H',aS O H O' H'->Sq k K H' a xs/\∀j x,xs[j]?=some x->FV K O' H' x (it j)))\/∃l,v=.str (S l)/\l.length=n/\(∀k,it k=.str [l.getD k 0]):=by
 cases h with
 | lst nn e0 f =>
  cases e;refine .inl ⟨false,_,_,rfl,f.length,fun O' H' k=>⟨SqL.of (k _ _ nn e0).2,fun j x hx=>?_⟩⟩;obtain⟨d,hd,fd⟩:=f.get hx;rw [dY hd];exact fd.keeps k
 | tup nn e0 f =>
  cases e;refine .inl ⟨true,_,_,rfl,f.length,fun O' H' k=>⟨SqT.of (k _ _ nn e0).2,fun j x hx=>?_⟩⟩;obtain⟨d,hd,fd⟩:=f.get hx;rw [dY hd];exact fd.keeps k
 | scr s =>
  cases e;refine .inl ⟨false,_,_,rfl,length_map _,fun O' H' k=>⟨(s.keeps k).sq,fun j x hx=>?_⟩⟩;obtain⟨z,hz,rfl⟩:=yk hx;show FV K O' H' (V.int z) (D.int (List.getD _ j 0));rw [getD_eq_getElem?_getD,hz];exact .int z
 | str l hl=>cases e;exact .inr ⟨l,rfl,rfl,fun _=>rfl⟩
 | non=>cases e
 | bl b=>cases e
 | int i=>cases e
 | ty n=>cases e
 | dic _ _ _ _=>cases e
 | obj _ _ _ _=>cases e
 | exc0 _ _=>cases e
 | exc1 _ _ _ _ _ _=>cases e
theorem cg(h:LE K te pe):LI K (gH K te) (dq pe):=fun A ρ σ H Q Q' R q k=>h A ρ σ H _ _ R q fun v H1 p ρ1 q1 f1 o1=>by
 obtain⟨R1,fv⟩:=o1.frz
 split at q1
 .rename_i n it e
  rcases fv.row e with ⟨b,a,xs,rfl,hl,hr⟩|⟨l,rfl,hl,hi⟩
  .refine .inl ⟨b,a,xs,rfl,(hr _ H1 (fun b o n h=>⟨n,h⟩)).1,k _ H1 n it ρ1 q1 f1 R1 fun O' H' kk dom=>?_⟩;obtain⟨sq,hx⟩:=hr O' H' kk
   cases b with
   | false =>
    refine⟨fun j hj=>⟨⟨xs,_,sq,getElem?_eq_getElem (by rw [hl];exact hj)⟩,fun x H'' ⟨e,y⟩=>?_⟩,⟨xs,sq,by rw [hl];exact Nat.le_refl _⟩⟩;subst e;exact⟨Gr.refl _,hx j x (y xs sq)⟩
   | true =>
    refine⟨fun j hj=>⟨⟨xs,_,sq,getElem?_eq_getElem (by rw [hl];exact hj)⟩,fun x H'' ⟨e,y⟩=>?_⟩,⟨xs,sq,by rw [hl];exact Nat.le_refl _⟩⟩;subst e;exact⟨Gr.refl _,hx j x (y xs sq)⟩
  .refine .inr ⟨l,rfl,k _ H1 n it ρ1 q1 f1 R1 fun O' H' kk dom=>?_⟩;refine⟨fun j hj=>⟨by show j<(gD l).length;rw [jy,hl];exact hj,fun x H'' ⟨e,y⟩=>?_⟩,by show (gD l).length=n;rw [jy,hl]⟩;subst e;obtain⟨c,hc,rfl⟩:=uw y;rw [hi,getD_eq_getElem?_getD,hc];exact⟨Gr.refl _,.str _ (by show 1<=1000000;decide)⟩
 .exact q1.elim
def qc(pa:PTA):PTI:=fun ρ Q=>pa ρ fun as ρ1=>match as with
 | [.v (.int j)]=>(-(2^60)<=j/\j<2^60)/\Q j.toNat (fun k=>.int (k:Int)) ρ1
 | _=>False
def FZ(pa:PTA):PTI:=fun ρ Q=>pa ρ fun as ρ1=>match as with
 | [.v (.int i),.v (.int j),.v (.int (-1))]=>(-(2^60)<=i/\i<2^60/\-(2^60)<=j/\j<2^60)/\Q (i - j).toNat (fun k=>.int (i - (k:Int))) ρ1
 | _=>False
theorem F4{O:Addr->Prop}{H:Hp}{lo:Int}{n:Nat}{it:Nat->D}(h:∀k:Nat,it k=.int (lo+k)):Wlk K O H (Itr lo n) n it:=fun O' H' _ _ =>
 ⟨fun j hj=>⟨hj,fun x H'' ⟨e,y⟩=>by subst e y;rw [h];exact⟨Gr.refl _,.int _⟩⟩,Nat.le_refl _⟩
theorem F7{O:Addr->Prop}{H:Hp}{lo:Int}{n:Nat}:Wlk K O H (Its (nW lo n)) n (fun k=>.int (lo - (k:Int))):=fun O' H' _ _ =>
 ⟨fun j hj=>⟨by show j<(nW lo n).length;rw [k8];exact hj,fun x H'' ⟨e,y⟩=>by subst e;rw [(vP y).2];exact⟨Gr.refl _,.int _⟩⟩,k8 _ _⟩
theorem ii(h:LAs K ta pa):LI K (iX ta) (qc pa):=fun A ρ σ H Q Q' R q k=>h A ρ σ H _ _ R q fun vs H1 as ρ1 q1 f1 R1 o1=>by
 split at q1
 .rename_i j
  cases o1 with
  | cons a b =>
   cases b;cases a;exact⟨j,rfl,by omega,by omega,k _ H1 _ _ ρ1 q1.2 f1 R1 (F4 fun k=>by rw [Int.zero_add])⟩
 .exact q1.elim
theorem DY(h:LAs K ta pa):LI K (Du ta) (FZ pa):=fun A ρ σ H Q Q' R q k=>h A ρ σ H _ _ R q fun vs H1 as ρ1 q1 f1 R1 o1=>by
 split at q1
 .rename_i i j
  cases o1 with
  | cons a b =>
   cases b with
   | cons c d =>
    cases d with
    | cons e f =>
     cases f;cases a;cases c;cases e;exact⟨i,j,rfl,q1.1,k _ H1 _ _ ρ1 q1.2 f1 R1 F7⟩
 .exact q1.elim
def rowD:D->Option (List D)
 | .lst ds=>some ds
 | .tup ds=>some ds
 | .scr ns=>some (ns.map .int)
 | _=>none
theorem FV.rowD{O:Addr->Prop}{H:Hp}{v:V}{d:D}{ds:List D}(h:FV K O H v d)(e:L2.rowD d=some ds) :
  ∃k a xs,v=.ref a/\xs.length=ds.length/\(∀O' H',aS O H O' H'->Sq k K H' a xs/\FVs K O' H' xs ds):=by
 cases h with
 | lst nn e0 f=>cases e;exact⟨false,_,_,rfl,f.length,fun O' H' k=>⟨SqL.of (k _ _ nn e0).2,f.keeps k⟩⟩
 | tup nn e0 f=>cases e;exact⟨true,_,_,rfl,f.length,fun O' H' k=>⟨SqT.of (k _ _ nn e0).2,f.keeps k⟩⟩
 | scr s=>cases e;exact⟨false,_,_,rfl,by rw [length_map,length_map],fun O' H' k=>⟨(s.keeps k).sq,FVs.of_ints _⟩⟩
 | str l hl=>cases e
 | non=>cases e
 | bl b=>cases e
 | int i=>cases e
 | ty n=>cases e
 | dic _ _ _ _=>cases e
 | obj _ _ _ _=>cases e
 | exc0 _ _=>cases e
 | exc1 _ _ _ _ _ _=>cases e
def qe(pa:PTA):PTI:=fun ρ Q=>pa ρ fun as ρ1=>match as with
 | [.v a]=>(match rowD a with
  | some xs=>Q xs.length (fun k=>.tup [.int (k:Int),itD xs k]) ρ1
  | _=>False)
 | _=>False
theorem oj(h:LAs K ta pa):LI K (yD K ta) (qe pa):=fun A ρ σ H Q Q' R q k=>h A ρ σ H _ _ R q fun vs H1 as ρ1 q1 f1 R1 o1=>by
 split at q1
 .rename_i da
  cases o1 with
  | cons o1 o3 =>
   cases o3
   split at q1
   .rename_i xs ex;obtain⟨b1,a1,us,rfl,l1,w1⟩:=FV.rowD (show FV K _ H1 _ da from o1) ex;have t1:=w1 _ H1 (fun b o n h=>⟨n,h⟩);refine⟨b1,a1,rfl,⟨us,t1.1⟩,k _ H1 _ _ ρ1 q1 f1 R1 fun O' H' kk dom=>?_⟩;obtain⟨s1,g1⟩:=w1 O' H' kk;refine⟨fun j hj=>?_,⟨us,s1,by omega⟩⟩;have h1:j<us.length:=by omega
    refine⟨⟨us,_,s1,getElem?_eq_getElem h1⟩,fun x H'' ⟨T,u,hT,e,y1,e2⟩=>?_⟩;subst e e2;obtain⟨d1,hd1,fd1⟩:=g1.get (y1 us s1);have e1:itD xs j=d1:=by unfold itD;rw [getD_eq_getElem?_getD,hd1];rfl
    rw [e1];have kk2:aS O' H' O' (upd H' T (.tup [.int (j:Int),u])):=fun b o n e=>⟨n,by rw [aw (aT e hT)];exact e⟩
    exact⟨Gr.new hT,.tup (fun z=>dom T z hT) aF (.cons (.int _) (.cons (fd1.keeps kk2) .nil))⟩
   .exact q1.elim
 .exact q1.elim
end
def jb(pi:PTI)(g:PTG)(pb:PTS):PTS:=fun D ρ=>pi ρ fun n it ρ1=>∃I:Nat->PSt->Prop,I 0 ρ1/\(∀k ρ d,k<n->d=it k->I k ρ->g (.dat d) ρ fun ρ2=>pb { D with nx:=I (k+1),ct:=I (k+1),bk:=D.nx } ρ2)/\∀ρ,I n ρ->D.nx ρ
def jE(pt:PTT)(pb:PTS):PTS:=fun D ρ=>∃I:Nat->PSt->Prop,(∃m,I m ρ)/\∀m ρ,I m ρ->pt ρ fun b ρ1=>gz b (pb { D with nx:=fun ρ'=>∃m',m'<m/\I m' ρ',ct:=fun ρ'=>∃m',m'<m/\I m' ρ',bk:=D.nx } ρ1) (D.nx ρ1)
section
variable {K:PySem.W.Frag}{fs:List Nat}{wi:TI}{pi:PTI}{g:TG}{pg:PTG}{tb:TS}{pb:PTS}{tt:TT}{pt:PTT}
theorem fu(hi:LI K wi pi)(hg:LGd K fs g pg)(hb:LS K fs tb pb):LS K fs (GD wi g tb) (jb pi pg pb):=fun fx A R H0 ρ σ H D D' hf r F q k1 k2 k3 k4=>hi A ρ σ H _ _ r q fun J H1 n it ρ1 q1 f1 r1 W=>by
 obtain⟨I,i0,turn,after⟩:=q1;have F1:=F.fr f1;refine⟨fun i m σ' H'=>i+m=n/\∃ρ',I i ρ'/\Rel K A ρ' σ' H'/\dk fx (Wr ρ1 σ) H1 ρ' σ' H',⟨n,Nat.zero_add n,ρ1,i0,r1,dk.start F1.fx⟩,fun i m σ' H' ⟨him,ρ',iv,r',F'⟩=>?_⟩;obtain⟨go,stop⟩:=W _ H' F'.keeps r'.dom2
 by_cases hk:i<n
 .obtain⟨g1,g2⟩:=go i hk;refine .inr ⟨g1,fun σ'' H''=>∃ρ'',I (i+1) ρ''/\Rel K A ρ'' σ'' H''/\dk fx (Wr ρ1 σ) H1 ρ'' σ'' H'',fun σ'' H'' z=>⟨m - 1,by omega,by omega,z⟩,fun x H'' y=>?_⟩;obtain⟨gr,fv⟩:=g2 x H'' y;refine hg fx A (Wr ρ1 σ) H1 ρ' σ' H'' _ x _ _ hf (F'.fr gr.fr) (r'.gr gr) fv (turn i ρ' _ hk rfl iv) fun ρ2 σ2 q2 r2 F2 _=>?_;refine hb fx A (Wr ρ1 σ) H1 ρ2 σ2 H'' _ _ hf r2 F2 q2 (fun ρ3 σ3 H3 q3 r3 F3=>⟨ρ3,q3,r3,F3⟩) (fun v p ρ3 σ3 H3 q3 o3 F3=>k2 v p ρ3 σ3 H3 q3 (o3.h0 F1.dm) (F1.trans F3 F3.fx)) (fun ρ3 σ3 H3 q3 r3 F3=>k1 ρ3 σ3 H3 q3 r3 (F1.trans F3 F3.fx)) (fun ρ3 σ3 H3 q3 r3 F3=>⟨ρ3,q3,r3,F3⟩)
 .have e:i=n:=by omega
  subst e;exact .inl ⟨stop,k1 ρ' σ' H' (after ρ' iv) r' (F1.trans F' F'.fx)⟩
theorem om(ht:LT K tt pt)(hb:LS K fs tb pb):LS K fs (vh tt tb) (jE pt pb):=fun fx A R H0 ρ σ H D D' hf r F q k1 k2 k3 k4=>by
 obtain⟨I,⟨m0,i0⟩,turn⟩:=q;refine⟨fun m σ' H'=>∃ρ',I m ρ'/\Rel K A ρ' σ' H'/\dk fx R H0 ρ' σ' H',⟨m0,ρ,i0,r,F⟩,fun m σ' H' ⟨ρ',iv,r',F'⟩=>?_⟩;refine ht A ρ' σ' H' _ _ r' (turn m ρ' iv) fun b H1 ρ1 q1 f1 r1=>?_
 cases b with
 | true =>
  refine⟨fun σ'' H''=>∃ρ'' m',m'<m/\I m' ρ''/\Rel K A ρ'' σ'' H''/\dk fx R H0 ρ'' σ'' H'',fun σ'' H'' ⟨ρ'',m',h1,h2⟩=>⟨m',h1,ρ'',h2⟩,?_⟩;exact hb fx A R H0 ρ1 σ' H1 _ _ hf r1 (F'.fr f1) q1 (fun ρ3 σ3 H3 ⟨m',h1,h2⟩ r3 F3=>⟨ρ3,m',h1,h2,r3,F3⟩) k2 k1 (fun ρ3 σ3 H3 ⟨m',h1,h2⟩ r3 F3=>⟨ρ3,m',h1,h2,r3,F3⟩)
 | false=>exact k1 ρ1 σ' H1 q1 r1 (F'.fr f1)
end
def ci(ix:List (Option Nat))(ρ:PSt):PSt:=ix.map fun o=>match o with
 | none=>none
 | some j=>match ρ[j]? with
  | some v=>v
  | none=>none
def gk:List (Option Nat)->PSt->PSt->PSt
 | some j::ix,ρ,t::τ=>gk ix (ρ.set j t) τ
 | none::ix,ρ,_::τ=>gk ix ρ τ
 | _,ρ,_=>ρ
def Bp:List (Option Nat)->Bool
 | []=>true
 | none::r=>Bp r
 | some j::r=>!r.contains (some j) && Bp r
theorem oq:∀(ix:List (Option Nat)) (ρ τ:PSt),(gk ix ρ τ).length=ρ.length
 | [],ρ,τ=>by unfold gk;rfl
 | some j::ix,ρ,t::τ=>by show (gk ix (ρ.set j t) τ).length=_;rw [oq ix,length_set]
 | none::ix,ρ,t::τ=>by show (gk ix ρ τ).length=_;exact oq ix ρ τ
 | some j::ix,ρ,[]=>by unfold gk;rfl
 | none::ix,ρ,[]=>by unfold gk;rfl
theorem kK:∀(ix:List (Option Nat)) (ρ τ:PSt) (j:Nat),some j∉ix->(gk ix ρ τ)[j]?=ρ[j]?
 | [],ρ,τ,j,_=>by unfold gk;rfl
 | some i::ix,ρ,t::τ,j,h=>by
  show (gk ix (ρ.set i t) τ)[j]?=_;rw [kK ix _ τ j (fun z=>h (mem_cons_of_mem _ z)),getElem?_set_ne (fun z=>h (by rw [z];exact mem_cons_self ..))]
 | none::ix,ρ,t::τ,j,h=>by show (gk ix ρ τ)[j]?=_;exact kK ix ρ τ j fun z=>h (mem_cons_of_mem _ z)
 | some i::ix,ρ,[],j,_=>by unfold gk;rfl
 | none::ix,ρ,[],j,_=>by unfold gk;rfl
theorem rG:∀(ix:List (Option Nat)) (ρ τ:PSt) (j k:Nat),Bp ix=true->ix[k]?=some (some j)->k<τ.length->j<ρ.length->(gk ix ρ τ)[j]?=τ[k]?
 | some i::ix,ρ,t::τ,j,k,h,e,hk,hj=>by
  have h:(!ix.contains (some i) && Bp ix)=true:=h;rw [and_eq_true] at h;show (gk ix (ρ.set i t) τ)[j]?=_
  cases k with
  | zero =>
   have e:some (some i)=some (some j):=e;cases e
   have hn:some i∉ix:=fun z=>by
    have:=h.1;rw [contains_iff_mem.mpr z] at this;cases this
   rw [kK ix _ τ i hn,getElem?_set_self hj];rfl
  | succ k =>
   have e:ix[k]?=some (some j):=by simpa using e
   rw [rG ix _ τ j k h.2 e (by simpa using hk) (by rw [length_set];exact hj)];simp
 | none::ix,ρ,t::τ,j,k,h,e,hk,hj=>by
  show (gk ix ρ τ)[j]?=_
  cases k with
  | zero=>cases e
  | succ k =>
   have e:ix[k]?=some (some j):=by simpa using e
   rw [rG ix _ τ j k h e (by simpa using hk) hj];simp
 | [],ρ,τ,j,k,h,e,hk,hj=>by simp at e
 | some i::ix,ρ,[],j,k,h,e,hk,hj=>absurd hk (not_lt_zero _)
 | none::ix,ρ,[],j,k,h,e,hk,hj=>absurd hk (not_lt_zero _)
theorem ou:∀{ix:List (Option Nat)}{k l j:Nat},Bp ix=true->ix[k]?=some (some j)->ix[l]?=some (some j)->k=l
 | some i::ix,k,l,j,h,e1,e2=>by
  have h:(!ix.contains (some i) && Bp ix)=true:=h;rw [and_eq_true] at h
  have no:∀m,ix[m]?≠some (some i):=fun m z=>by
   have:=h.1;rw [contains_iff_mem.mpr (mem_of_getElem? z)] at this;cases this
  cases k with
  | zero =>
   have e1:some (some i)=some (some j):=e1;cases e1
   cases l with
   | zero=>rfl
   | succ l=>exact absurd (by simpa using e2) (no l)
  | succ k =>
   cases l with
   | zero =>
    have e2:some (some i)=some (some j):=e2;cases e2;exact absurd (by simpa using e1) (no k)
   | succ l=>rw [ou (k:=k) (l:=l) h.2 (by simpa using e1) (by simpa using e2)]
 | none::ix,k,l,j,h,e1,e2=>by
  cases k with
  | zero=>cases e1
  | succ k =>
   cases l with
   | zero=>cases e2
   | succ l=>rw [ou (ix:=ix) (k:=k) (l:=l) (j:=j) h (by simpa using e1) (by simpa using e2)]
 | [],k,l,j,h,e1,e2=>by simp at e1
theorem gI{ix:List (Option Nat)}{ρ:PSt}{k:Nat}{p:PV}(h:(ci ix ρ)[k]?=some (some p)):∃j,ix[k]?=some (some j)/\ρ[j]?=some (some p):=by
 unfold ci at h;rw [getElem?_map] at h
 cases e:ix[k]? with
 | none=>rw [e] at h;cases h
 | some o =>
  rw [e] at h
  cases o with
  | none=>cases h
  | some j =>
   refine⟨j,rfl,?_⟩;have h:some (match ρ[j]? with|some v=>v|none=>none)=some (some p):=h
   cases e2:ρ[j]? with
   | none=>rw [e2] at h;cases h
   | some v=>rw [e2] at h;exact h
theorem h7{ix:List (Option Nat)}{σ:St}{k j:Nat}{v:V}(h:ix[k]?=some (some j))(e:σ[j]?=some (some v)):(vW ix σ)[k]?=some (some v):=by
 unfold vW;rw [getElem?_map,h];show some (match σ[j]? with|some v=>v|none=>none)=some (some v);rw [e]
theorem Rel.amb{K:PySem.W.Frag}{A:Addr->Prop}{ρ:PSt}{σ:St}{H:Hp}{a:Addr}{o:HO}(R:Rel K A ρ σ H)(ha:A a):Rel K A ρ σ (upd H a o):=by
 have k:aS (OO A ρ σ) H (OO A ρ σ) (upd H a o):=fun b u n e=>⟨n,by rw [aw (fun z=>n (by rw [z];exact .inl ha))];exact e⟩
 refine⟨R.len,fun i q e=>?_,R.dj,fun b z=>?_,R.sep⟩
 .obtain⟨v,s,r⟩:=R.get i q e;refine⟨v,s,r.keeps k fun ow b eb=>?_⟩;rw [aw];intro z;subst z eb;exact R.sep b ha ⟨i,q,e,ow,s⟩
 .by_cases z':b=a
  .rw [z',aF];exact nofun
  .rw [aw z'];exact R.dom b z
def F8(ix:List (Option Nat))(ρ:PSt):Bool:=ix.all fun o=>match o with|none=>true|some j=>(match ρ[j]? with|some (some _)=>true|_=>false)
structure mr (ix:List (Option Nat)) (ρ1:PSt) (n:Nat) (it:Nat->D) (g:PTG) (pt:PTT) (pe:PTE) (Q:PKt):Prop where
 ex:∃I:Nat->List D->PSt->Prop,I 0 [] (ci ix ρ1) /\
  (∀k ys τ d,k<n->d=it k->I k ys τ->g (.dat d) τ fun τ2=>pt τ2 fun ok τ3=>gz ok (pe τ3 fun p τ4=>I (k+1) (ys++[p.d]) τ4) (I (k+1) ys τ3))/\∀ys τ,I n ys τ->Q (.own ys) (gk ix ρ1 τ)
def cD(ix:List (Option Nat))(pi:PTI)(g:PTG)(pt:PTT)(pe:PTE):PTE:=fun ρ Q=>pi ρ fun n it ρ1=>F8 ix ρ1=true/\n<=1000000/\mr ix ρ1 n it g pt pe Q
def iW:PTT:=fun ρ Q=>Q true ρ
theorem cE{K:PySem.W.Frag}:LT K gF iW:=fun A ρ σ H Q Q' R q k=>k true H ρ q (Fr.refl _ _ _) R
def CH(ix:List (Option Nat)):List Nat:=(List.range ix.length).filter fun k=>(ix.getD k none).isSome
theorem aY{K:PySem.W.Frag}{ix:List (Option Nat)}{wi:TI}{pi:PTI}{g:TG}{pg:PTG}{tts:TT}{pt:PTT}{te:TE}{pe:PTE}(hix:Bp ix=true)(hi:LI K wi pi)(hg:∀fs:List Nat,(∀k∈fs,k∈CH ix)->LGd K fs g pg)(ht:LT K tts pt)(he:LE K te pe) :
  LE K (mq ix wi g tts te) (cD ix pi pg pt pe):=fun A ρ σ H Q Q' R q k=>hi A ρ σ H _ _ R q fun J H1 n it ρ1 q1 f1 R1 W D hD=>by
 obtain⟨hcap,hn,⟨I,i0,turn,after⟩⟩:=q1
 let τρ0:=ci ix ρ1
 let τσ0:=vW ix σ
 let Ai:Addr->Prop:=fun b=>A b\/b=D\/(Wr ρ1 σ b/\¬ Wr τρ0 τσ0 b)
 let H0':=upd H1 D (.lst [])
 have wsub:∀b,Wr τρ0 τσ0 b->Wr ρ1 σ b:=fun b ⟨m,p,e,o,s⟩=>by
  obtain⟨j,h1,h2⟩:=gI e;obtain⟨v,hv,_⟩:=R1.get j p h2;have:=h7 h1 hv;rw [s] at this;cases this;exact⟨j,p,h2,o,hv⟩
 have nD:¬ Wr ρ1 σ D:=fun z=>R1.wr z hD
 have oosub:∀b,OO Ai τρ0 τσ0 b->OO A ρ1 σ b\/b=D:=fun b z=>by
  rcases z with (z|z|z)|z
  .exact .inl (.inl z)
  .exact .inr z
  .exact .inl (.inr z.1)
  .exact .inl (.inr (wsub b z))
 have kD:aS (OO A ρ1 σ) H1 (OO Ai τρ0 τσ0) H0':=fun b o nn e=>by
  refine⟨fun z=>?_,?_⟩
  .rcases oosub b z with z|z
   .exact nn z
   .rw [z,hD] at e;cases e
  .rw [show H0' b=H1 b from aw (aT e hD)];exact e
 have Ri:Rel K Ai τρ0 τσ0 H0':=by
  refine⟨by show (ci ix ρ1).length=(vW ix σ).length;unfold ci vW;rw [length_map,length_map],fun m p e=>?_,fun m l p q v e1 e2 o1 o2 s1 s2=>?_,fun b z=>?_,fun b z w=>?_⟩
  .obtain⟨j,h1,h2⟩:=gI e;obtain⟨v,hv,r⟩:=R1.get j p h2;refine⟨v,h7 h1 hv,r.keeps kD fun ow a ea=>?_⟩;subst ea;exact aw (fun z=>nD (by rw [<- z];exact⟨j,p,h2,ow,hv⟩))
  .obtain⟨j,h1,h2⟩:=gI e1;obtain⟨j',h3,h4⟩:=gI e2;obtain⟨v1,hv1,_⟩:=R1.get j p h2;obtain⟨v2,hv2,_⟩:=R1.get j' q h4;have t1:=h7 h1 hv1;have t2:=h7 h3 hv2;rw [s1] at t1;rw [s2] at t2;cases t1;cases t2;have:=R1.dj j j' p q _ h2 h4 o1 o2 hv1 hv2;subst this;exact ou hix h1 h3
  .rcases z with z|z|z
   .intro e
    by_cases zz:b=D
    .exact R1.dom b z (by rw [zz];exact hD)
    .rw [show H0' b=H1 b from aw zz] at e;exact R1.dom b z e
   .rw [z];show upd H1 D _ D≠none;rw [aF];exact nofun
   .intro e;rw [show H0' b=H1 b from aw (fun zz=>nD (by rw [<- zz];exact z.1))] at e;exact R1.wr z.1 e
  .rcases z with z|z|z
   .exact R1.sep b z (wsub b w)
   .rw [z] at w;exact nD (wsub D w)
   .exact z.2 w
 let fxi:List (Nat×V):=(CH ix).filterMap fun m=>match (τσ0[m]?) with|some (some v)=>some (m,v)|_=>none
 have hfx:∀p∈fxi,τσ0[p.1]?=some (some p.2):=fun p hp=>by
  obtain⟨m,hm,e⟩:=mem_filterMap.mp hp
  split at e
  .rename_i v ev;cases e;exact ev
  .cases e
 have hfs:∀m∈fxi.map Prod.fst,m∈CH ix:=fun m hm=>by
  obtain⟨p,hp,rfl⟩:=mem_map.mp hm;obtain⟨m',hm',e⟩:=mem_filterMap.mp hp
  split at e
  .cases e;exact hm'
  .cases e
 have hgi:=hg (fxi.map Prod.fst) hfs
 have fxget:∀(m j:Nat) (v:V),ix[m]?=some (some j)->σ[j]?=some (some v)->(m,v)∈fxi:=fun m j v h1 h2=>by
  refine mem_filterMap.mpr ⟨m,?_,?_⟩
  .unfold CH;refine mem_filter.mpr ⟨mem_range.mpr (List.getElem?_eq_some_iff.mp h1).1,?_⟩;rw [getD_eq_getElem?_getD,h1];rfl
  .show (match (vW ix σ)[m]? with|some (some v)=>some (m,v)|_=>none)=_;rw [h7 h1 h2]
 let Rr:Addr->Prop:=fun b=>Wr τρ0 τσ0 b\/b=D
 have hRr:∀b,Rr b->OO Ai τρ0 τσ0 b:=fun b z=>z.elim (fun z=>.inr z) (fun z=>.inl (.inr (.inl z)));have F0:dk fxi Rr H0' τρ0 τσ0 H0':=⟨fun _ _ _ h=>h,fun _ h=>h,fun b w=>.inl (.inl w),hfx⟩
 refine⟨fun i m τ H2=>i+m=n/\∃ys τρ xs,I i ys τρ/\ys.length<=i/\Rel K Ai τρ τ H2/\dk fxi Rr H0' τρ τ H2/\H2 D=some (.lst xs)/\FVs K (OO Ai τρ τ) H2 xs ys/\∀b,Wr τρ τ b->Wr τρ0 τσ0 b,
  ⟨n,Nat.zero_add n,[],τρ0,[],i0,Nat.le_refl _,Ri,F0,aF,.nil,fun _ h=>h⟩,fun i m τ H2 ⟨him,ys,τρ,xs,iv,hy,r2,F2,eD,fD,hw⟩=>?_⟩
 have kk:aS (OO A ρ1 σ) H1 (OO Ai τρ τ) H2:=fun b o nn e=>(F2.keepsR hRr) b o (kD b o nn e).1 (kD b o nn e).2;obtain⟨go,stop⟩:=W _ H2 kk r2.dom2
 by_cases hk:i<n
 .obtain⟨g1,g2⟩:=go i hk;refine .inr ⟨g1,fun x H3 y=>?_⟩;obtain⟨gr,fv⟩:=g2 x H3 y;have AiD:Ai D:=.inr (.inl rfl);refine hgi fxi Ai Rr H0' τρ τ H3 _ x _ _ rfl (F2.fr gr.fr) (r2.gr gr) fv (turn i ys τρ _ hk rfl iv) fun τρ2 τ2 q2 r3 F3 w3=>?_;refine ht Ai τρ2 τ2 H3 _ _ r3 q2 fun ok H5 τρ3 q3 f5 r5=>?_;have F5:=F3.fr f5;have fD5:FVs K (OO Ai τρ3 τ2) H5 xs ys:=((fD.keeps (gr.fr (ρ:=τρ) (σ:=τ)).keeps).keeps (aS.less fun b z=>z.imp id (w3 b))).keeps f5.keeps
  have eD5:H5 D=some (.lst xs):=f5.kp D _ (r3.sep D AiD) (gr D _ eD)
  cases ok with
  | true =>
   refine he Ai τρ3 τ2 H5 _ _ r5 q3 fun v H6 p τρ4 q4 f6 o6=>?_;obtain⟨r6,fv6⟩:=o6.frz;have F6:=F5.fr f6;have eD6:H6 D=some (.lst xs):=f6.kp D _ (r5.sep D AiD) eD5;have kw:aS (OO Ai τρ4 τ2) H6 (OO Ai τρ4 τ2) (upd H6 D (.lst (xs++[v]))):=fun b o nn e=>⟨nn,by rw [aw (fun z=>nn (by rw [z];exact .inl AiD))];exact e⟩
   refine⟨xs,eD6,?_,m - 1,by omega,by omega,ys++[p.d],τρ4,xs++[v],q4,by rw [length_append];show _+1<=_;omega,r6.amb AiD,⟨fun b o nn e=>?_,fun b z=>?_,F6.ow,F6.fx⟩,aF,((fD5.keeps f6.keeps).append (.cons fv6 .nil)).keeps kw,fun b z=>hw b (w3 b (f5.ow b (f6.ow b z)))⟩
   .have:xs.length=ys.length:=fD.length;exact lt_of_lt_of_le (by omega:xs.length<1000000) (sz _ (Nat.le_refl _))
   .rw [aw (fun z=>nn (.inr z))];exact F6.kp b o nn e
   .by_cases zz:b=D
    .rw [zz,aF];exact nofun
    .rw [aw zz];exact F6.dm b z
  | false=>exact⟨m - 1,by omega,by omega,ys,τρ3,xs,q3,by omega,r5,F5,eD5,fD5,fun b z=>hw b (w3 b (f5.ow b z))⟩
 .have e:i=n:=by omega
  subst e;refine .inl ⟨stop,?_⟩;have q':=after ys τρ iv
  have cap:∀(m j:Nat),ix[m]?=some (some j)->∃p v,ρ1[j]?=some (some p)/\σ[j]?=some (some v)/\τ[m]?=some (some v):=fun m j e=>by
   have h1:=all_eq_true.mp hcap _ (mem_of_getElem? e);have h1:(match ρ1[j]? with|some (some _)=>true|_=>false)=true:=h1
   split at h1
   .rename_i p ep;obtain⟨v,hv,_⟩:=R1.get j p ep;exact⟨p,v,ep,hv,F2.fx _ (fxget m j v e hv)⟩
   .cases h1
  have get':∀(j:Nat) (p:PV),(gk ix ρ1 τρ)[j]?=some (some p)->(∃m v,ix[m]?=some (some j)/\σ[j]?=some (some v)/\τ[m]?=some (some v)/\τρ[m]?=some (some p))\/(some j∉ix/\ρ1[j]?=some (some p)):=fun j p e=>by
   by_cases hj:some j∈ix
   .obtain⟨m,hm,em⟩:=getElem_of_mem hj;have em':ix[m]?=some (some j):=by rw [getElem?_eq_getElem hm,em]
    obtain⟨p0,v,h1,h2,h3⟩:=cap m j em';rw [rG ix ρ1 τρ j m hix em' (by rw [r2.len];exact (List.getElem?_eq_some_iff.mp h3).1) (List.getElem?_eq_some_iff.mp h1).1] at e;exact .inl ⟨m,v,em',h2,h3,e⟩
   .rw [kK ix ρ1 τρ j hj] at e;exact .inr ⟨hj,e⟩
  have nocap:∀(j:Nat) (p:PV) (b:Addr),some j∉ix->ρ1[j]?=some (some p)->p.isOwn=true->σ[j]?=some (some (.ref b))->¬ Wr τρ0 τσ0 b:=fun j p b hj e o s ⟨m,q,e1,o1,s1⟩=>by
   obtain⟨j',h1,h2⟩:=gI e1;obtain⟨v,hv,_⟩:=R1.get j' q h2;have:=h7 h1 hv;rw [s1] at this;cases this;have:=R1.dj j j' p q _ e h2 o o1 s hv;subst this;exact hj (mem_of_getElem? h1)
  have w':∀b,Wr (gk ix ρ1 τρ) σ b->Wr τρ τ b\/(Wr ρ1 σ b/\¬ Wr τρ0 τσ0 b):=fun b ⟨j,p,e,o,s⟩=>by
   rcases get' j p e with ⟨m,v,h1,h2,h3,h4⟩|⟨hj,h1⟩
   .rw [s] at h2;cases h2;exact .inl ⟨m,p,h4,o,h3⟩
   .exact .inr ⟨⟨j,p,h1,o,s⟩,nocap j p b hj h1 o s⟩
  have oo':∀b,OO (fk A D) (gk ix ρ1 τρ) σ b->OO Ai τρ τ b:=fun b z=>by
   rcases z with (z|z)|z
   .exact .inl (.inl z)
   .exact .inl (.inr (.inl z))
   .rcases w' b z with z|z
    .exact .inr z
    .exact .inl (.inr (.inr z))
  have kp1:∀b o,¬ Wr τρ0 τσ0 b->b≠D->H1 b=some o->H2 b=some o:=fun b o n1 n2 e=>F2.kp b o (fun z=>z.elim n1 n2) (by rw [show H0' b=H1 b from aw n2];exact e);have k1:aS (OO A ρ1 σ) H1 (OO (fk A D) (gk ix ρ1 τρ) σ) H2:=fun b o nn e=>⟨fun z=>(kk b o nn e).1 (oo' b z),(kk b o nn e).2⟩
  have AiD:Ai D:=.inr (.inl rfl)
  have R':Rel K (fk A D) (gk ix ρ1 τρ) σ H2:=by
   refine⟨by rw [oq];exact R1.len,fun j p e=>?_,fun j l p q v e1 e2 o1 o2 s1 s2=>?_,fun b z=>?_,fun b z w=>?_⟩
   .rcases get' j p e with ⟨m,v,h1,h2,h3,h4⟩|⟨hj,h1⟩
    .obtain⟨v',hv',r⟩:=r2.get m p h4;rw [h3] at hv';cases hv';exact⟨v,h2,r.keeps (aS.less oo') fun _ _ _=>rfl⟩
    .obtain⟨v,hv,r⟩:=R1.get j p h1;refine⟨v,hv,r.keeps k1 fun ow a ea=>?_⟩;subst ea;obtain⟨a',u,e1,e2⟩:=r.ref ow;cases e1;rw [e2];exact kp1 a u (nocap j p a hj h1 ow hv) (fun z=>by rw [z,hD] at e2;cases e2) e2
   .rcases get' j p e1 with ⟨m,v1,h1,h2,h3,h4⟩|⟨hj,h1⟩
    .rw [s1] at h2;cases h2
     rcases get' l q e2 with ⟨m',v2,g1,g2,g3,g4⟩|⟨hl,g1⟩
     .rw [s2] at g2;cases g2;have:=r2.dj m m' p q _ h4 g4 o1 o2 h3 g3;subst this;rw [h1] at g1;cases g1;rfl
     .exfalso;obtain⟨v',hv',r⟩:=r2.get m p h4;rw [h3] at hv';cases hv';obtain⟨a,u,ea,_⟩:=r.ref o1;subst ea;exact nocap l q a hl g1 o2 s2 (hw a ⟨m,p,h4,o1,h3⟩)
    .rcases get' l q e2 with ⟨m',v2,g1,g2,g3,g4⟩|⟨hl,g1⟩
     .rw [s2] at g2;cases g2;exfalso;obtain⟨v',hv',r⟩:=r2.get m' q g4;rw [g3] at hv';cases hv';obtain⟨a,u,ea,_⟩:=r.ref o2;subst ea;exact nocap j p a hj h1 o1 s1 (hw a ⟨m',q,g4,o2,g3⟩)
     .exact R1.dj j l p q v h1 g1 o1 o2 s1 s2
   .rcases z with z|z
    .exact r2.dom b (.inl z)
    .rw [z,eD];exact nofun
   .rcases w' b w with w|w
    .rcases z with z|z
     .exact r2.sep b (.inl z) w
     .rw [z] at w;exact r2.sep D AiD w
    .rcases z with z|z
     .exact R1.sep b z w.1
     .rw [z] at w;exact nD w.1
  have f2:Fr ρ1 σ H1 (gk ix ρ1 τρ) H2:=by
   refine⟨fun b o nn e=>kp1 b o (fun z=>nn (wsub b z)) (fun z=>by rw [z,hD] at e;cases e) e,fun b z=>F2.dm b ?_,fun b z=>?_⟩
   .intro e
    by_cases zz:b=D
    .exact z (by rw [zz];exact hD)
    .rw [show H0' b=H1 b from aw zz] at e;exact z e
   .rcases w' b z with z|z
    .exact wsub b (hw b z)
    .exact z.1
  have hD0:H D=none:=by
   cases e:H D with
   | none=>rfl
   | some o=>exact absurd hD (f1.dm D (by rw [e];exact nofun))
  exact k _ H2 (.own ys) _ q' (f1.trans f2) ⟨D,xs,rfl,fun z=>R1.dom D z hD,hD0,eD,R',fD.keeps (aS.less oo')⟩
section
variable {K:PySem.W.Frag}{A A':Addr->Prop}{ρ:PSt}{σ:St}{H H':Hp}
theorem Rel.step(R:Rel K A ρ σ H){i:Nat}{p q:PV}{a:Addr}(e:ρ[i]?=some (some p))(ow:p.isOwn=true)(ow':q.isOwn=true)(es:σ[i]?=some (some (.ref a)))
  (kp:∀b o,b≠a->H b=some o->H' b=some o) (ha:H' a≠none) (h1:∀b,A b->A' b) (h2:∀b,A' b->A b\/H b=none) (dom':∀b,A' b->H' b≠none)
  (new:RS K (OO A' ρ σ) H' q (.ref a)):Rel K A' (ρ.set i (some q)) σ H'/\Fr ρ σ H (ρ.set i (some q)) H':=by
 have hi:i<ρ.length:=(List.getElem?_eq_some_iff.mp e).1;have wa:Wr ρ σ a:=⟨i,p,e,ow,es⟩
 have weq:∀b,Wr (ρ.set i (some q)) σ b ↔ Wr ρ σ b:=fun b=>by
  constructor
  .rintro⟨j,r,e1,o1,s1⟩
   by_cases z:i=j
   .subst z;exact⟨i,p,e,ow,s1⟩
   .rw [getElem?_set_ne z] at e1;exact⟨j,r,e1,o1,s1⟩
  .rintro⟨j,r,e1,o1,s1⟩
   by_cases z:i=j
   .subst z;exact⟨i,q,getElem?_set_self hi,ow',s1⟩
   .exact⟨j,r,by rw [getElem?_set_ne z];exact e1,o1,s1⟩
 have oeq:OO A' (ρ.set i (some q)) σ=OO A' ρ σ:=funext fun b=>propext (or_congr Iff.rfl (weq b));have kp1:∀b u,¬ Wr ρ σ b->H b=some u->H' b=some u:=fun b u n h=>kp b u (fun z=>n (by rw [z];exact wa)) h
 have k:aS (OO A ρ σ) H (OO A' ρ σ) H':=fun b u n h=>by
  refine⟨fun z=>?_,kp1 b u (fun z=>n (.inr z)) h⟩
  rcases z with z|z
  .rcases h2 b z with z|z
   .exact n (.inl z)
   .rw [z] at h;cases h
  .exact n (.inr z)
 have dm:∀b,H b≠none->H' b≠none:=fun b n=>by
  by_cases z:b=a
  .rw [z];exact ha
  .cases eb:H b with
   | none=>exact absurd eb n
   | some o=>rw [kp b o z eb];exact nofun
 refine⟨⟨by rw [length_set];exact R.len,fun j r e1=>?_,fun j l p1 q1 v e1 e2 o1 o2 s1 s2=>?_,dom',fun b z w=>?_⟩,⟨kp1,dm,fun b w=>(weq b).mp w⟩⟩
 .rw [oeq]
  by_cases z:i=j
  .subst z;rw [getElem?_set_self hi] at e1;cases e1;exact⟨_,es,new⟩
  .rw [getElem?_set_ne z] at e1;obtain⟨v,s,rr⟩:=R.get j r e1;refine⟨v,s,rr.keeps k fun ow2 b eb=>?_⟩;obtain⟨b',u,e3,e4⟩:=rr.ref ow2;rw [eb] at e3;cases e3;rw [e4];refine kp b u (fun zz=>?_) e4;subst zz;rw [eb] at s;exact z (R.dj i j p r _ e e1 ow ow2 es s)
 .have ex:∀(m:Nat) (x:PV),(ρ.set i (some q))[m]?=some (some x)->x.isOwn=true->∃y:PV,ρ[m]?=some (some y)/\y.isOwn=true:=fun m x em ox=>by
   by_cases z:i=m
   .subst z;exact⟨p,e,ow⟩
   .rw [getElem?_set_ne z] at em;exact⟨x,em,ox⟩
  obtain⟨y1,g1,g2⟩:=ex j p1 e1 o1;obtain⟨y2,g3,g4⟩:=ex l q1 e2 o2;exact R.dj j l y1 y2 v g1 g3 g2 g4 s1 s2
 .rcases h2 b z with z|z
  .exact R.sep b z ((weq b).mp w)
  .exact R.wr ((weq b).mp w) z
theorem Rel.lstw(R:Rel K A ρ σ H){i:Nat}{ds es:List D}{a:Addr}{ys:List V}(e:ρ[i]?=some (some (.own ds)))(es':σ[i]?=some (some (.ref a)))(f:FVs K (OO A ρ σ) H ys es) :
  Rel K A (ρ.set i (some (.own es))) σ (upd H a (.lst ys))/\Fr ρ σ H (ρ.set i (some (.own es))) (upd H a (.lst ys)):=by
 have wa:OO A ρ σ a:=.inr ⟨i,_,e,rfl,es'⟩;exact R.write (q:=.own es) e rfl rfl es' ⟨a,ys,rfl,aF,f.keeps fun b u n h=>⟨n,by rw [aw (fun z=>n (by rw [z];exact wa))];exact h⟩⟩
theorem Rel.ownAt(R:Rel K A ρ σ H){i:Nat}{ds:List D}(e:ρ[i]?=some (some (.own ds))):∃a xs,σ[i]?=some (some (.ref a))/\H a=some (.lst xs)/\FVs K (OO A ρ σ) H xs ds:=by
 obtain⟨v,s,a,xs,rfl,g,f⟩:=R.get i _ e;exact⟨a,xs,s,g,f⟩
end
def xW(i:Nat)(pe:PTE):PTE:=fun ρ Q=>match ρ[i]? with
 | some (some (.own _))=>pe ρ fun p ρ1=>(match ρ1[i]? with
  | some (some (.own ds))=>ds.length<1000000/\Q (.dat .non) (ρ1.set i (some (.own (ds++[p.d]))))
  | _=>False)
 | _=>False
def F9(i:Nat):PTE:=fun ρ Q=>match ρ[i]? with
 | some (some (.own ds))=>∃d,ds[ds.length - 1]?=some d/\Q (.dat d) (ρ.set i (some (.own ds.dropLast)))
 | _=>False
def wx(i:Nat)(pe pk:PTE):PTS:=fun D ρ=>pe ρ fun p ρ1=>(match ρ1[i]? with
 | some (some (.own _))=>pk ρ1 fun kp ρ2=>(match ρ2[i]?,kp with
  | some (some (.own ds)),.dat (.int k)=>∃j,ixN ds.length k=some j/\D.nx (ρ2.set i (some (.own (ds.set j p.d))))
  | _,_=>False)
 | _=>False)
section
variable {K:PySem.W.Frag}{te tk:TE}{pe pk:PTE}{fs:List Nat}
theorem j5{i:Nat}(h:LE K te pe):LE K (tBM K "list" vD (aM i) (aJ te cS)) (xW i pe):=fun A ρ σ H Q Q' R q k=>by
 unfold xW at q
 split at q
 .rename_i ds0 e0;obtain⟨a0,xs0,s0,g0,f0⟩:=R.ownAt e0;refine⟨_,s0,.inl ⟨rfl,xs0,SqL.of g0⟩,h A ρ σ H _ _ R q fun v H1 p ρ1 q1 f1 o1=>?_⟩;obtain⟨R1,fv⟩:=o1.frz
  split at q1
  .rename_i ds e1;obtain⟨a,xs,s,g,f⟩:=R1.ownAt e1;rw [s0] at s;cases s;obtain⟨R2,f2⟩:=R1.lstw e1 s0 (f.append (.cons fv .nil));exact⟨a0,xs,v,rfl,rfl,g,lt_of_lt_of_le (by rw [f.length];exact q1.1) (sz _ (Nat.le_refl _)),k _ _ _ _ q1.2 (f1.trans f2) ⟨R2,.non⟩⟩
  .exact q1.elim
 .exact q.elim
theorem DZ{i:Nat}:LE K (Dm K "list" GK (aM i)) (F9 i):=fun A ρ σ H Q Q' R q k=>by
 unfold F9 at q
 split at q
 .rename_i ds e;obtain⟨d,hd,q⟩:=q;obtain⟨a,xs,s,g,f⟩:=R.ownAt e;obtain⟨v,hv,fv⟩:=f.getD hd;obtain⟨R2,f2⟩:=R.lstw (es:=ds.dropLast) (ys:=xs.dropLast) e s (by rw [dropLast_eq_take,dropLast_eq_take,f.length];exact f.take _);exact⟨_,s,.inl ⟨rfl,xs,SqL.of g⟩,a,xs,v,rfl,rfl,g,by rw [f.length];exact hv,k _ _ _ _ q f2 ⟨R2,(fv.keeps f2.keeps)⟩⟩
 .exact q.elim
theorem wy{i:Nat}(h:LE K te pe)(hk:LE K tk pk):LS K fs (vg te (CA (aM i) tk ut)) (wx i pe pk):=fun fx A R H0 ρ σ H D D' hf r F q k1 k2 k3 k4=>h A ρ σ H _ _ r q fun v H1 p ρ1 q1 f1 o1=>by
 obtain⟨R1,fv⟩:=o1.frz
 split at q1
 .rename_i ds0 e0;obtain⟨a0,xs0,s0,g0,f0⟩:=R1.ownAt e0;refine⟨_,s0,hk A ρ1 σ H1 _ _ R1 q1 fun w H2 kp ρ2 q2 f2 o2=>?_⟩
  split at q2
  .rename_i ds j e2;obtain⟨n,hn,q2⟩:=q2;obtain⟨R2,fw⟩:=o2;cases fw;obtain⟨a,xs,s,g,f⟩:=R2.ownAt e2;rw [s0] at s;cases s;obtain⟨R3,f3⟩:=R2.lstw e2 s0 (FVs.set (fv.keeps f2.keeps) n f);exact⟨a0,xs,j,n,rfl,rfl,g,by rw [f.length];exact hn,k1 _ _ _ q2 R3 (((F.fr f1).fr f2).fr f3)⟩
  .exact q2.elim
 .exact q1.elim
end
def spP(K:PySem.W.Frag)(c:FN):Sp:=fun vs H Q _=>∃(O:Addr->Prop) (ds:List D) (Qc:PV->Prop),(∀b,O b->H b≠none)/\FVs K O H vs ds/\c ds Qc/\∀r,Qc r->∀v H',Gr H H'->qa K O H H' r v->Q v H'
def bD(c:FN)(pr:PTA):PTE:=fun ρ Q=>pr ρ fun as ρ1=>match avD as with
 | some ds=>c ds fun r=>Q r ρ1
 | none=>False
theorem jc{N:List Str}{vs:List V}{i:Nat}{v:V}(h:vs[i]?=some v):(start N vs)[i]?=some (some v):=by
 unfold start;rw [getElem?_append_left (by rw [length_map];exact (List.getElem?_eq_some_iff.mp h).1),getElem?_map,h];rfl
def de(n:Nat)(ps:List PV):PSt:=ps.map some++List.replicate (n - ps.length) none
theorem dr{n:Nat}{ps:List PV}{i:Nat}{p:PV}(h:(de n ps)[i]?=some (some p)):ps[i]?=some p:=by
 unfold de at h
 by_cases hi:i<ps.length
 .rw [getElem?_append_left (by rw [length_map];exact hi),getElem?_map] at h
  cases e:ps[i]? with
  | none=>rw [e] at h;cases h
  | some q=>rw [e] at h;cases h;rfl
 .rw [getElem?_append_right (by rw [length_map];omega)] at h;have:=mem_of_getElem? h;rw [mem_replicate] at this;cases this.2
section
variable {K:PySem.W.Frag}{tr:TA}{pr:PTA}{ts:TS}{ps:PTS}
theorem aL{c:FN}(h:LAs K tr pr):LE K (ei (spP K c) [] E0 tr) (bD c pr):=fun A ρ σ H Q Q' R q k=>h A ρ σ H _ _ R q fun vs H1 as ρ1 q1 f1 R1 o1=>by
 split at q1
 .rename_i ds e;rw [append_nil];exact⟨OO A ρ1 σ,ds,_,R1.dom2,o1.avD e,q1,fun r qr v H' g ov=>k v H' r ρ1 qr (f1.trans g.fr) ((ov.out R1 g).h0 f1.dm)⟩
 .exact q1.elim
theorem Out.outV{O:Addr->Prop}{ρ:PSt}{σ:St}{H H':Hp}{p:PV}{v:V}(h:Out K O ρ σ H H' p v):qa K O H H' p v:=by
 cases p with
 | dat d=>exact h.2.keeps (aS.less fun b z=>.inl z)
 | own ds =>
  obtain⟨a,xs,e1,na,e2,e3,R,f⟩:=h;exact⟨a,xs,e1,e2,e3,f.keeps (aS.less fun b z=>.inl z)⟩
 | ins c ns ds =>
  obtain⟨a,dx,fs,e1,na,e2,e3,m,R,f⟩:=h;exact⟨a,dx,fs,e1,e2,e3,m,f.keeps (aS.less fun b z=>.inl z)⟩
theorem fnP{c:FN}{N:List Str}(hl:LS K [] ts ps)(hn:∀ds Q,c ds Q->ds.length<=N.length)(hc:∀ds Q,c ds Q->ps { nx:=fun _=>Q (.dat .non),rt:=fun p _=>Q p } (de N.length (ds.map .dat)))
  {vs:List V}{H:Hp}{Q:VK}{E:XK} (h:spP K c vs H Q E):ts { nx:=fun _ H'=>Q .non H',rt:=Q } (start N vs) H:=by
 obtain⟨O,ds,Qc,dom,fv,hq,k⟩:=h
 have nw:∀(ρ:PSt) (b:Addr),ρ=de N.length (ds.map .dat)->¬ Wr ρ (start N vs) b:=fun ρ b e ⟨i,p,e1,o1,s1⟩=>by
  rw [e] at e1;have:=dr e1;rw [getElem?_map] at this
  cases e2:ds[i]? with
  | none=>rw [e2] at this;cases this
  | some d=>rw [e2] at this;cases this;cases o1
 have lenv:=fv.length;have hle:=hn ds Qc hq
 have R0:Rel K O (de N.length (ds.map .dat)) (start N vs) H:=by
  refine⟨?_,fun i p e=>?_,fun i j p q v e1 e2 o1 o2 s1 s2=>?_,dom,fun b _ w=>nw _ b rfl w⟩
  .unfold de start;rw [length_append,length_append,length_map,length_map,length_map,length_replicate,length_replicate,lenv]
  .have:=dr e;rw [getElem?_map] at this
   cases e2:ds[i]? with
   | none=>rw [e2] at this;cases this
   | some d =>
    rw [e2] at this;cases this;obtain⟨v,hv,f⟩:=fv.getD e2;exact⟨v,jc hv,f.keeps (aS.less fun b z=>z.elim id fun w=>absurd w (nw _ b rfl))⟩
  .have:=dr e1;rw [getElem?_map] at this
   cases e3:ds[i]? with
   | none=>rw [e3] at this;cases this
   | some d=>rw [e3] at this;cases this;cases o1
 refine hl [] O (fun _=>False) H _ _ H _ _ rfl R0 ⟨fun _ _ _ h=>h,fun _ h=>h,fun b w=>absurd w (nw _ b rfl),fun p hp=>nomatch hp⟩ (hc ds Qc hq) (fun ρ' σ' H' q r F=>?_) (fun v p ρ' σ' H' q o F=>?_) (fun _ _ _ z=>z.elim) (fun _ _ _ z=>z.elim)
 .exact k _ q .non H' (fun b o e=>F.kp b o id e) .non
 .exact k _ q v H' (fun b o e=>F.kp b o id e) o.outV
abbrev FR:=PV->List D->(PV->PV->Prop)->Prop
def spR(K:PySem.W.Frag)(c:FR):Sp:=fun vs H Q _=>∃(A:Addr->Prop) (a:Addr) (p:PV) (ws:List V) (ds:List D) (Qc:PV->PV->Prop),vs=.ref a::ws/\p.isOwn=true/\(∀b,A b->H b≠none)/\¬ A a/\RS K (fk A a) H p (.ref a)/\FVs K (fk A a) H ws ds/\c p ds Qc /\
 ∀r p',Qc r p'->p'.isOwn=true->∀v H',(∀b o,b≠a->H b=some o->H' b=some o)->H' a≠none->RS K (fk A a) H' p' (.ref a)->qa K (fk A a) H H' r v->(∀a',v=.ref a'->r.isOwn=true->RS K (fk (fk A a) a') H' p' (.ref a))->Q v H'
def ck(c:FR)(i:Nat)(pr:PTA):PTE:=fun ρ Q=>match ρ[i]? with
 | some (some _)=>pr ρ fun as ρ1=>(match ρ1[i]?,avD as with
  | some (some p),some ds=>p.isOwn=true/\c p ds fun r p'=>Q r (ρ1.set i (some p'))
  | _,_=>False)
 | _=>False
theorem a9{c:FR}{i:Nat}(h:LAs K tr pr):LE K (ei (spR K c) [] E0 (aJ (aM i) tr)) (ck c i pr):=fun A ρ σ H Q Q' R q k=>by
 unfold ck at q
 split at q
 .rename_i p0 e0;obtain⟨v0,s0,_⟩:=R.get i p0 e0;refine⟨v0,s0,h A ρ σ H _ _ R q fun vs H1 as ρ1 q1 f1 R1 o1=>?_⟩
  split at q1
  .rename_i p ds e1 ed;obtain⟨ow,q1⟩:=q1;obtain⟨v1,s1,rs⟩:=R1.get i p e1;rw [s0] at s1;cases s1;obtain⟨a,u,rfl,ea⟩:=rs.ref ow;rw [append_nil];have wa:Wr ρ1 σ a:=⟨i,p,e1,ow,s0⟩
   have oeq:fk (fun b=>(OO A ρ1 σ b)/\b≠a) a=OO A ρ1 σ:=funext fun b=>propext ⟨fun z=>z.elim (fun z=>z.1) (fun z=>by rw [z];exact .inr wa),fun z=>by
    by_cases e:b=a
    .exact .inr e
    .exact .inl ⟨z,e⟩⟩
   refine⟨fun b=>(OO A ρ1 σ b)/\b≠a,a,p,vs,ds,_,rfl,ow,fun b z=>R1.dom2 b z.1,fun z=>z.2 rfl,by rw [oeq];exact rs,by rw [oeq];exact o1.avD ed,q1,fun r p' qr ow' v H' kp ha rs' ov hx=>?_⟩;rw [oeq] at rs' ov hx
   have domA:∀b,A b->H' b≠none:=fun b z=>by
    have:b≠a:=fun e=>R1.sep b z (by rw [e];exact wa)
    cases eb:H1 b with
    | none=>exact absurd eb (R1.dom b z)
    | some o=>rw [kp b o this eb];exact nofun
   cases r with
   | dat d =>
    obtain⟨R2,f2⟩:=R1.step (A':=A) e1 ow ow' s0 kp ha (fun _ h=>h) (fun _ h=>.inl h) domA rs';exact k v H' _ _ qr (f1.trans f2) ⟨R2,FV.keeps (aS.less fun b z=>z.imp id (f2.ow b)) ov⟩
   | own es =>
    obtain⟨a',xs,rfl,n1,e2,f⟩:=ov;have hx:=hx a' rfl rfl;have na:a'≠a:=fun e=>by rw [e,ea] at n1;cases n1
    have oo2:∀b,OO (fk A a') ρ1 σ b ↔ fk (OO A ρ1 σ) a' b:=fun b=>⟨fun z=>by
     rcases z with (z|z)|z
     .exact .inl (.inl z)
     .exact .inr z
     .exact .inl (.inr z),fun z=>by
     rcases z with (z|z)|z
     .exact .inl (.inl z)
     .exact .inr z
     .exact .inl (.inr z)⟩
    have oo2':OO (fk A a') ρ1 σ=fk (OO A ρ1 σ) a':=funext fun b=>propext (oo2 b)
    obtain⟨R2,f2⟩:=R1.step (A':=fk A a') e1 ow ow' s0 kp ha (fun _ h=>.inl h) (fun b z=>z.imp id fun z=>by rw [z];exact n1) (fun b z=>z.elim (domA b) fun z=>by rw [z,e2];exact nofun) (by rw [oo2'];exact hx)
    .refine k _ H' (.own es) _ qr (f1.trans f2) ⟨a',xs,rfl,fun z=>R1.dom a' z n1,?_,e2,R2,f.keeps (aS.less fun b z=>?_)⟩
     .cases eb:H a' with
      | none=>rfl
      | some o=>exact absurd n1 (f1.dm a' (by rw [eb];exact nofun))
     .rw [<- oo2'];exact z.imp id (f2.ow b)
   | ins c ns es =>
    obtain⟨a',dx,fs,rfl,n1,e2,m,f⟩:=ov;have hx:=hx a' rfl rfl
    have oo2':OO (fk A a') ρ1 σ=fk (OO A ρ1 σ) a':=funext fun b=>propext ⟨fun z=>by
     rcases z with (z|z)|z
     .exact .inl (.inl z)
     .exact .inr z
     .exact .inl (.inr z),fun z=>by
     rcases z with (z|z)|z
     .exact .inl (.inl z)
     .exact .inr z
     .exact .inl (.inr z)⟩
    obtain⟨R2,f2⟩:=R1.step (A':=fk A a') e1 ow ow' s0 kp ha (fun _ h=>.inl h) (fun b z=>z.imp id fun z=>by rw [z];exact n1) (fun b z=>z.elim (domA b) fun z=>by rw [z,e2];exact nofun) (by rw [oo2'];exact hx)
    .refine k _ H' (.ins c ns es) _ qr (f1.trans f2) ⟨a',dx,fs,rfl,fun z=>R1.dom a' z n1,?_,e2,m,R2,f.keeps (aS.less fun b z=>?_)⟩
     .cases eb:H a' with
      | none=>rfl
      | some o=>exact absurd n1 (f1.dm a' (by rw [eb];exact nofun))
     .rw [<- oo2'];exact z.imp id (f2.ow b)
  .exact q1.elim
 .exact q.elim
def CI(Q:PV->PV->Prop)(r:PV)(ρ:PSt):Prop:=match ρ[0]? with
 | some (some p)=>p.isOwn=true/\Q r p
 | _=>False
theorem fnR{c:FR}{N:List Str}(hl:LS K [0] ts ps)(hn:∀p ds Q,c p ds Q->ds.length+1<=N.length)(hc:∀p ds Q,p.isOwn=true->c p ds Q->ps { nx:=CI Q (.dat .non),rt:=CI Q } (de N.length (p::ds.map .dat)))
  {vs:List V}{H:Hp}{Q:VK}{E:XK} (h:spR K c vs H Q E):ts { nx:=fun _ H'=>Q .non H',rt:=Q } (start N vs) H:=by
 obtain⟨A,a,p,ws,ds,Qc,rfl,ow,dom,na,rs,fv,hq,k⟩:=h;have s0:(start N (V.ref a::ws))[0]?=some (some (.ref a)):=jc rfl;have b0:(de N.length (p::ds.map .dat))[0]?=some (some p):=rfl
 have wr:∀b,Wr (de N.length (p::ds.map .dat)) (start N (.ref a::ws)) b->b=a:=fun b ⟨i,q,e1,o1,s1⟩=>by
  have:=dr e1
  cases i with
  | zero=>rw [s0] at s1;cases s1;rfl
  | succ i =>
   rw [getElem?_cons_succ,getElem?_map] at this
   cases e2:ds[i]? with
   | none=>rw [e2] at this;cases this
   | some d=>rw [e2] at this;cases this;cases o1
 have wa:Wr (de N.length (p::ds.map .dat)) (start N (.ref a::ws)) a:=⟨0,p,b0,ow,s0⟩
 have oeq:OO A (de N.length (p::ds.map .dat)) (start N (.ref a::ws))=fk A a:=funext fun b=>propext ⟨fun z=>z.imp id (wr b),fun z=>z.imp id fun z=>by rw [z];exact wa⟩;have lenv:=fv.length;have hle:=hn p ds Qc hq
 have R0:Rel K A (de N.length (p::ds.map .dat)) (start N (.ref a::ws)) H:=by
  refine⟨?_,fun i q e=>?_,fun i j q1 q2 v e1 e2 o1 o2 s1 s2=>?_,dom,fun b z w=>?_⟩
  .unfold de start;simp only [length_append,length_map,length_replicate,length_cons,lenv]
  .have:=dr e;rw [oeq]
   cases i with
   | zero=>cases this;exact⟨_,s0,rs⟩
   | succ i =>
    rw [getElem?_cons_succ,getElem?_map] at this
    cases e2:ds[i]? with
    | none=>rw [e2] at this;cases this
    | some d =>
     rw [e2] at this;cases this;obtain⟨v,hv,f⟩:=fv.getD e2;exact⟨v,jc (by rw [getElem?_cons_succ];exact hv),f⟩
  .have own0:∀(i:Nat) (q:PV),(de N.length (p::ds.map .dat))[i]?=some (some q)->q.isOwn=true->i=0:=fun i q e o=>by
    have:=dr e
    cases i with
    | zero=>rfl
    | succ i =>
     rw [getElem?_cons_succ,getElem?_map] at this
     cases e2:ds[i]? with
     | none=>rw [e2] at this;cases this
     | some d=>rw [e2] at this;cases this;cases o
   rw [own0 i q1 e1 o1,own0 j q2 e2 o2]
  .rw [wr b w] at z;exact na z
 have fin:∀(v:V) (r:PV) (ρ':PSt) (σ':St) (H':Hp),CI Qc r ρ'->Out K A ρ' σ' H H' r v->dk [(0,.ref a)] (fun b=>b=a) H ρ' σ' H'->Q v H':=fun v r ρ' σ' H' q o F=>by
  unfold CI at q
  split at q
  .rename_i p' e';obtain⟨ow',q⟩:=q;have sa:=F.fx (0,.ref a) (mem_singleton.mpr rfl);have wa':Wr ρ' σ' a:=⟨0,p',e',ow',sa⟩
   have kpa:∀b o,b≠a->H b=some o->H' b=some o:=fun b o n e=>F.kp b o n e
   cases r with
   | dat d =>
    obtain⟨R1,f1⟩:=o;obtain⟨v1,s1,rs1⟩:=R1.get 0 p' e';rw [sa] at s1;cases s1;have less:∀b,fk A a b->OO A ρ' σ' b:=fun b z=>z.imp id fun z=>by rw [z];exact wa'
    exact k _ p' q ow' v H' kpa (R1.wr wa') (rs1.keeps (aS.less less) fun _ _ _=>rfl) (f1.keeps (aS.less less)) (fun _ _ z=>nomatch z)
   | own es =>
    obtain⟨a',xs,rfl,n1,n2,e3,R1,f1⟩:=o;obtain⟨v1,s1,rs1⟩:=R1.get 0 p' e';rw [sa] at s1;cases s1
    have less:∀b,fk (fk A a) a' b->OO (fk A a') ρ' σ' b:=fun b z=>by
     rcases z with (z|z)|z
     .exact .inl (.inl z)
     .exact .inr (by rw [z];exact wa')
     .exact .inl (.inr z)
    exact k _ p' q ow' _ H' kpa (R1.wr wa') (rs1.keeps (aS.less fun b z=>less b (.inl z)) fun _ _ _=>rfl) ⟨a',xs,rfl,n2,e3,f1.keeps (aS.less less)⟩ (fun a'' e _=>by cases e;exact rs1.keeps (aS.less less) fun _ _ _=>rfl)
   | ins c ns es =>
    obtain⟨a',dx,fs,rfl,n1,n2,e3,m,R1,f1⟩:=o;obtain⟨v1,s1,rs1⟩:=R1.get 0 p' e';rw [sa] at s1;cases s1
    have less:∀b,fk (fk A a) a' b->OO (fk A a') ρ' σ' b:=fun b z=>by
     rcases z with (z|z)|z
     .exact .inl (.inl z)
     .exact .inr (by rw [z];exact wa')
     .exact .inl (.inr z)
    exact k _ p' q ow' _ H' kpa (R1.wr wa') (rs1.keeps (aS.less fun b z=>less b (.inl z)) fun _ _ _=>rfl) ⟨a',dx,fs,rfl,n2,e3,m,f1.keeps (aS.less less)⟩ (fun a'' e _=>by cases e;exact rs1.keeps (aS.less less) fun _ _ _=>rfl)
  .exact q.elim
 refine hl [(0,.ref a)] A (fun b=>b=a) H _ _ H _ _ rfl R0 ⟨fun _ _ _ h=>h,fun _ h=>h,fun b w=>.inl (wr b w),fun q hq=>by rw [mem_singleton.mp hq];exact s0⟩ (hc p ds Qc ow hq) (fun ρ' σ' H' q r F=>fin .non (.dat .non) ρ' σ' H' q ⟨r,.non⟩ F) (fun v p ρ' σ' H' q o F=>fin v p ρ' σ' H' q o F) (fun _ _ _ z=>z.elim) (fun _ _ _ z=>z.elim)
end
def GS:FN:=fun as Q=>∃ns:List Int,as=[.scr ns]/\ns.length<=63/\Q (.dat (.bl true))
theorem Bq{K:PySem.W.Frag}{vs:List V}{H:Hp}{Q:VK}{E:XK}(h:uy K vs H Q E):spP K GS vs H Q E:=by
 obtain⟨a,ns,rfl,hS,h63,q⟩:=h
 refine⟨fun _=>False,[.scr ns],fun r=>r=.dat (.bl true),nofun,.cons (.scr ?_) .nil,⟨ns,rfl,h63,rfl⟩,fun r e v H' g o=>?_⟩
 .rcases hS with h|h
  .exact .inl ⟨id,h⟩
  .exact .inr h
 .subst e;cases o;exact q H'
section
variable {K:PySem.W.Frag}{X:Cx}
def D0:List V->Hp->VK->Prop:=fun xs H Q=>∃i j,xs=[.int i,.int j]/\Q (.int (if j<i then j else i)) H
theorem zQ(hc:X.calm=true):cu X (.builtin "min") D0:=vt hc
def yL:FN
 | [.int i,.int j],Q=>Q (.dat (.int (if j<i then j else i)))
 | _,_=>False
theorem wz:LC K D0 yL:=by
 intro O H xs as Q Q' dom fs q k;unfold yL at q
 split at q
 .cases fs with
  | cons a b=>cases b with|cons b c=>cases c;rw [a.int,b.int];exact⟨_,_,rfl,k _ H _ q (Gr.refl _) (.int _)⟩
 .exact q.elim
def D1(K:PySem.W.Frag):List V->Hp->VK->Prop:=fun xs H Q=>∃(p:Addr) (ns:List Int),xs=[.ref p]/\SqL K H p (ns.map V.int)/\0<ns.length/\∀m:Int,m∈ns->(∀a∈ns,m<=a)->Q (.int m) H
def D2(K:PySem.W.Frag):List V->Hp->VK->Prop:=fun xs H Q=>∃(p:Addr) (ns:List Int),xs=[.ref p]/\SqL K H p (ns.map V.int)/\Q (.int ns.sum) H
def GT(K:PySem.W.Frag):List V->Hp->VK->Prop:=fun xs H Q=>∃(p:Addr) (bs:List Bool),xs=[.ref p]/\SqL K H p (bs.map V.bl)/\Q (.bl (bs.all id)) H
def GU(K:PySem.W.Frag):List V->Hp->VK->Prop:=fun xs H Q=>∃(p:Addr) (bs:List Bool),xs=[.ref p]/\SqL K H p (bs.map V.bl)/\Q (.bl (bs.any id)) H
theorem zR(K:PySem.W.Frag)(e:X.K=K)(hc:X.calm=true):cu X (.builtin "min") (D1 K):=by subst e;exact wn hc
theorem D3(K:PySem.W.Frag)(e:X.K=K)(hc:X.calm=true):cu X (.builtin "sum") (D2 K):=by subst e;exact wo hc
theorem Br(K:PySem.W.Frag)(e:X.K=K)(hc:X.calm=true):cu X (.builtin "all") (GT K):=by subst e;exact yz hc
theorem Ga(K:PySem.W.Frag)(e:X.K=K)(hc:X.calm=true):cu X (.builtin "any") (GU K):=by subst e;exact yA hc
def yM:FN
 | [.lst ds],Q=>∃ns:List Int,ds=ns.map .int/\0<ns.length/\∀m:Int,m∈ns->(∀a∈ns,m<=a)->Q (.dat (.int m))
 | _,_=>False
def Bs:FN
 | [.lst ds],Q=>∃ns:List Int,ds=ns.map .int/\Q (.dat (.int ns.sum))
 | _,_=>False
def D4:FN
 | [.lst ds],Q=>∃bs:List Bool,ds=bs.map .bl/\Q (.dat (.bl (bs.all id)))
 | _,_=>False
def Gb:FN
 | [.lst ds],Q=>∃bs:List Bool,ds=bs.map .bl/\Q (.dat (.bl (bs.any id)))
 | _,_=>False
theorem wA:LC K (D1 K) yM:=by
 intro O H xs as Q Q' dom fs q k;unfold yM at q
 split at q
 .obtain⟨ns,rfl,h0,q⟩:=q
  cases fs with
  | cons a b =>
   cases b;obtain⟨p,ys,rfl,e1,f1⟩:=a.lst;rw [f1.ints] at e1;exact⟨p,ns,rfl,SqL.of e1,h0,fun m hm hle=>k _ H _ (q m hm hle) (Gr.refl _) (.int _)⟩
 .exact q.elim
theorem Bt:LC K (D2 K) Bs:=by
 intro O H xs as Q Q' dom fs q k;unfold Bs at q
 split at q
 .obtain⟨ns,rfl,q⟩:=q
  cases fs with
  | cons a b =>
   cases b;obtain⟨p,ys,rfl,e1,f1⟩:=a.lst;rw [f1.ints] at e1;exact⟨p,ns,rfl,SqL.of e1,k _ H _ q (Gr.refl _) (.int _)⟩
 .exact q.elim
theorem wB:LC K (GT K) D4:=by
 intro O H xs as Q Q' dom fs q k;unfold D4 at q
 split at q
 .obtain⟨ns,rfl,q⟩:=q
  cases fs with
  | cons a b =>
   cases b;obtain⟨p,ys,rfl,e1,f1⟩:=a.lst;rw [f1.bls] at e1;exact⟨p,ns,rfl,SqL.of e1,k _ H _ q (Gr.refl _) (.bl _)⟩
 .exact q.elim
theorem D5:LC K (GU K) Gb:=by
 intro O H xs as Q Q' dom fs q k;unfold Gb at q
 split at q
 .obtain⟨ns,rfl,q⟩:=q
  cases fs with
  | cons a b =>
   cases b;obtain⟨p,ys,rfl,e1,f1⟩:=a.lst;rw [f1.bls] at e1;exact⟨p,ns,rfl,SqL.of e1,k _ H _ q (Gr.refl _) (.bl _)⟩
 .exact q.elim
def uE(K:PySem.W.Frag):List V->Hp->VK->Prop:=fun xs H Q=>∃p ys,xs=[.ref p]/\((SqL K H p ys/\∀l,H l=none->Q (.ref l) (upd H l (.tup ys)))\/(SqT K H p ys/\Q (.ref p) H))
theorem c8(K:PySem.W.Frag)(e:X.K=K):cu X (.type "tuple") (uE K):=by subst e;exact nU
theorem ll(K:PySem.W.Frag)(e:X.K=K):cu X (.type "list") (e8 K):=by subst e;exact pN
def dN:FN
 | [.lst ds],Q=>Q (.dat (.tup ds))
 | [.tup ds],Q=>Q (.dat (.tup ds))
 | [.scr ns],Q=>Q (.dat (.tup (ns.map .int)))
 | _,_=>False
def qf:FN
 | [.lst ds],Q=>Q (.own ds)
 | [.tup ds],Q=>Q (.own ds)
 | [.scr ns],Q=>Q (.own (ns.map .int))
 | _,_=>False
theorem cz:LC K (uE K) dN:=by
 intro O H xs as Q Q' dom fs q k;unfold dN at q
 split at q
 .cases fs with
  | cons a b =>
   cases b;obtain⟨p,ys,rfl,e1,f1⟩:=a.lst;exact⟨p,ys,rfl,.inl ⟨SqL.of e1,fun l hl=>k _ _ _ q (Gr.new hl) (lh dom hl f1)⟩⟩
 .cases fs with
  | cons a b =>
   cases b;obtain⟨p,ys,rfl,n1,e1,f1⟩:=a.tup;exact⟨p,ys,rfl,.inr ⟨SqT.of e1,k _ H _ q (Gr.refl _) (.tup n1 e1 f1)⟩⟩
 .cases fs with
  | cons a b =>
   cases b;obtain⟨p,rfl,e1⟩:=a.scr;exact⟨p,_,rfl,.inl ⟨e1,fun l hl=>k _ _ _ q (Gr.new hl) (lh dom hl (FVs.of_ints _))⟩⟩
 .exact q.elim
theorem lm:LC K (e8 K) qf:=by
 intro O H xs as Q Q' dom fs q k;unfold qf at q
 split at q
 .cases fs with
  | cons a b =>
   cases b;obtain⟨p,ys,rfl,e1,f1⟩:=a.lst;exact⟨p,ys,rfl,.inl (SqL.of e1),fun l hl=>k _ _ _ q (Gr.new hl) (eA hl f1)⟩
 .cases fs with
  | cons a b =>
   cases b;obtain⟨p,ys,rfl,n1,e1,f1⟩:=a.tup;exact⟨p,ys,rfl,.inr (SqT.of e1),fun l hl=>k _ _ _ q (Gr.new hl) (eA hl f1)⟩
 .cases fs with
  | cons a b =>
   cases b;obtain⟨p,rfl,e1⟩:=a.scr;exact⟨p,_,rfl,.inl e1,fun l hl=>k _ _ _ q (Gr.new hl) (eA hl (FVs.of_ints _))⟩
 .exact q.elim
variable {ta:TE}{pa:PA1}{tr:TA}{pr:PTA}{pe:PTE}
def u0(i:Int)(n:Nat):List D:=(List.range n).map fun (k:Nat)=>D.int (i+(k:Int))
def mkL(tup:Bool)(ds:List D):PV:=match tup with|true=>.dat (.tup ds)|false=>.own ds
def D6(tup:Bool)(pr:PTA):PTE:=fun ρ Q=>pr ρ fun as ρ1=>match as with
 | [.v (.int j)]=>(0<=j/\j<=1000000)/\Q (mkL tup (u0 0 j.toNat)) ρ1
 | _=>False
theorem D7{O:Addr->Prop}{H:Hp}(i:Int)(n:Nat):FVs K O H (rq i 1 n) (u0 i n):=by
 have e:∀l:List Nat,FVs K O H (l.map fun (k:Nat)=>V.int (i+k*1)) (l.map fun (k:Nat)=>D.int (i+(k:Int))):=fun l=>by
  induction l with
  | nil=>exact .nil
  | cons a r ih=>exact .cons (by show FV K O H (V.int (i+(a:Int)*1)) (D.int (i+(a:Int)));rw [show i+(a:Int)*1=i+(a:Int) by omega];exact .int _) ih
 exact e _
theorem nr{i j:Int}(h:i<=j):Builtin.Range.rangeSize i j 1=(((j - i).toNat:Nat):Int):=by
 unfold Builtin.Range.rangeSize;rw [if_pos (by decide)];simp only [ediv_one];split <;> omega
theorem uF{i j:Int}(h0:-1000000<=i)(h1:i<=j)(h2:j<=1000000):Builtin.Range.small i j 1=true:=by
 unfold Builtin.Range.small;rw [nr h1];simp only [Builtin.Range.rangeFitsLong,and_eq_true,or_eq_true,decide_eq_true_eq,beq_iff_eq,show (1:Int) > 0 by decide,if_true];omega
def mkO(tup:Bool):List V->HO:=match tup with|true=>.tup|false=>.lst
theorem D8{O:Addr->Prop}{H:Hp}{xs:List V}{ds:List D}{p:Addr}(tup:Bool)(dom:∀b,O b->H b≠none)(hp:H p=none)(f:FVs K O H xs ds):qa K O H (upd H p (mkO tup xs)) (mkL tup ds) (.ref p):=by
 cases tup with
 | true=>exact lh dom hp f
 | false=>exact eA hp f
theorem yN(tup:Bool)(h:LAs K tr pr):LE K (tCB (Fz K (mkO tup)) (aJ (fun σ H Q=>tr σ H fun vs H1=>∃j:Int,vs=[.int j]/\∀p,H1 p=none->Q (.ref p) (upd H1 p (zK p 0 j 1))) cS)) (D6 tup pr):=fun A ρ σ H Q Q' R q k=>h A ρ σ H _ _ R q fun vs H1 as ρ1 q1 f1 R1 o1=>by
 split at q1
 .rename_i j
  cases o1 with
  | cons a b =>
   cases b;cases a;refine⟨j,rfl,fun p hp=>⟨p,0,j,1,j.toNat,rfl,aF,uF (by decide) q1.1.1 q1.1.2,by rw [nr q1.1.1,Int.sub_zero],by omega,fun l hl=>?_⟩⟩;have g:Gr H1 (upd H1 p (zK p 0 j 1)):=Gr.new hp;have R2:=R1.gr g;have g2:Gr (upd H1 p (zK p 0 j 1)) (upd (upd H1 p (zK p 0 j 1)) l (mkO tup (rq 0 1 j.toNat))):=Gr.new hl;exact k _ _ _ ρ1 q1.2 (f1.trans (g.fr.trans g2.fr)) ((qa.out R2 g2 (D8 tup R2.dom2 hl (D7 0 _))).h0 fun b z=>(g.fr (ρ:=ρ1) (σ:=σ)).dm b (f1.dm b z))
 .exact q1.elim
theorem D9(K:PySem.W.Frag)(e:X.K=K)(hc:X.calm=true):cu X (.type "list") (Fz K (mkO false)):=by subst e;exact uA hc
def tE(pa:PA1):PTE:=fun ρ Q=>pa ρ fun x ρ1=>match cont ρ1 x with
 | some (.lst ds)=>Q (.own ds.reverse) ρ1
 | _=>False
def tF(K:PySem.W.Frag)(te:TE):TE:=fun σ H Q=>te σ H fun x H1=>∃a xs,x=.ref a/\SqL K H1 a xs/\∀l,H1 l=none->Q (.ref l) (upd H1 l (.lst xs.reverse))
theorem rH{e:Expr}{te:TE}{p p1 p2 pos:Pos}(K:PySem.W.Frag)(eK:X.K=K)(hc:X.calm=true)(he:PE X e te)(hg1:Gl X "list")(hm1:X.mg "list"=none)(hg2:Gl X "reversed")(hm2:X.mg "reversed"=none)
  (hs:starEach [.Call (.Name "reversed" p1) [e] [] p2] X.env=[(false,eval (.Call (.Name "reversed" p1) [e] [] p2) X.env)]:=by rfl) (hs2:starEach [e] X.env=[(false,eval e X.env)]:=by rfl) :
  PE X (.Call (.Name "list" p) [.Call (.Name "reversed" p1) [e] [] p2] [] pos) (tF K te):=by subst eK;exact uC hc he hg1 hm1 hg2 hm2 hs hs2
theorem uG(h:LA1 K ta pa):LE K (tF K ta) (tE pa):=fun A ρ σ H Q Q' R q k=>h A ρ σ H _ _ R q fun v H1 a ρ1 q1 f1 R1 o1=>by
 split at q1
 .rename_i ds e;obtain⟨p,xs,rfl,e1,fs⟩:=(R1.cont o1 e).lst;refine⟨p,xs,rfl,SqL.of e1,fun l hl=>?_⟩;have g:Gr H1 (upd H1 l (.lst xs.reverse)):=Gr.new hl;exact k _ _ _ ρ1 q1 (f1.trans g.fr) ((qa.out (p:=.own ds.reverse) R1 g (eA hl fs.reverse)).h0 f1.dm)
 .exact q1.elim
abbrev FM:=List Nat->List D->(PV->Prop)->Prop
def LM(K:PySem.W.Frag)(r:V->List V->Hp->VK->Prop)(f:FM):Prop:=∀(O:Addr->Prop) (H:Hp) (l:List Nat) (xs:List V) (as:List D) (Q:PV->Prop) (Q':VK),(∀b,O b->H b≠none)->l.length<=1000000->CG K O H xs as->f l as Q ->
 (∀v H' p,Q p->Gr H H'->qa K O H H' p v->Q' v H')->r (.str (S l)) xs H Q'
def pSM(f:FM)(pe:PTE)(pr:PTA):PTE:=fun ρ Q=>pe ρ fun p ρ1=>match p with
 | .dat (.str l)=>pr ρ1 fun as ρ2=>(match conts ρ2 as with
  | some ds=>f l ds fun r=>Q r ρ2
  | none=>False)
 | _=>False
theorem Ea{r:V->List V->Hp->VK->Prop}{f:FM}(o:LM K r f)(he:LE K ta pe)(hr:LAs K tr pr):LE K (tBM K "str" r ta tr) (pSM f pe pr):=fun A ρ σ H Q Q' R q k=>he A ρ σ H _ _ R q fun v H1 p ρ1 q1 f1 o1=>by
 split at q1
 .rename_i l;obtain⟨R1,fv⟩:=o1
  cases fv with
  | str _ hl =>
   refine⟨rfl,hr A ρ1 σ H1 _ _ R1 q1 fun vs H2 as ρ2 q2 f2 R2 o2=>?_⟩
   split at q2
   .rename_i ds e;exact o _ H2 l vs ds _ _ R2.dom2 hl (R2.conts o2 e) q2 fun z H3 p q3 g ov=>k z H3 p ρ2 q3 ((f1.trans f2).trans g.fr) ((ov.out R2 g).h0 fun b z=>f2.dm b (f1.dm b z))
   .exact q2.elim
 .exact q1.elim
def Eb:V->List V->Hp->VK->Prop:=fun x xs H Q=>∃a b,x=.str (S a)/\xs=[.str (S b)]/\Q (.bl (decide (b <:+ a))) H
def zS:V->List V->Hp->VK->Prop:=fun x xs H Q=>∃a b,x=.str (S a)/\xs=[.str (S b)]/\Q (.int (fnd a b 0)) H
theorem Bu:MtR X "str.endswith" Eb:=rn
theorem yO:MtR X "str.find" zS:=yr
def Bv:FM
 | a,[.str b],Q=>Q (.dat (.bl (decide (b <:+ a))))
 | _,_,_=>False
def wC:FM
 | a,[.str b],Q=>Q (.dat (.int (fnd a b 0)))
 | _,_,_=>False
theorem Bw:LM K Eb Bv:=by
 intro O H l xs as Q Q' dom hl fs q k;unfold Bv at q
 split at q
 .cases fs with|cons a b=>cases b;rw [a.str.1];exact⟨_,_,rfl,rfl,k _ H _ q (Gr.refl _) (.bl _)⟩
 .exact q.elim
theorem yP:LM K zS wC:=by
 intro O H l xs as Q Q' dom hl fs q k;unfold wC at q
 split at q
 .cases fs with|cons a b=>cases b;rw [a.str.1];exact⟨_,_,rfl,rfl,k _ H _ q (Gr.refl _) (.int _)⟩
 .exact q.elim
def eP(f:Str):List Str->Option Nat
 | []=>none
 | n::r=>if n=f then some 0 else (eP f r).map (·+1)
theorem qg{f:Str}:∀{fs:List (Str×V)}{k:Nat},eP f (fs.map Prod.fst)=some k->fs.lookup f=(fs.map Prod.snd)[k]?
 | [],k,h=>by cases h
 | (n,v)::r,k,h=>by
  unfold eP at h;rw [map_cons] at h;simp only at h;rw [lookup_cons]
  by_cases e:n=f
  .rw [if_pos e] at h;cases h;rw [show (f == n)=true by rw [e];exact beq_self_eq_true _];rfl
  .rw [if_neg e] at h;rw [show (f == n)=false from beq_eq_false_iff_ne.mpr fun z=>e z.symm]
   cases e2:eP f (r.map Prod.fst) with
   | none=>rw [e2] at h;cases h
   | some j=>rw [e2] at h;cases h;show List.lookup f r=_;rw [qg e2];simp
theorem ln{f:Str}:∀{fs:List (Str×V)},eP f (fs.map Prod.fst)=none->fs.lookup f=none
 | [],h=>rfl
 | (n,v)::r,h=>by
  unfold eP at h;rw [map_cons] at h;simp only at h;rw [lookup_cons]
  by_cases e:n=f
  .rw [if_pos e] at h;cases h
  .rw [if_neg e] at h;rw [show (f == n)=false from beq_eq_false_iff_ne.mpr fun z=>e z.symm]
   cases e2:eP f (r.map Prod.fst) with
   | none=>exact ln e2
   | some j=>rw [e2] at h;cases h
theorem oy{f:Str}{v:V}:∀{fs:List (Str×V)},eP f (fs.map Prod.fst)=none->m4 f v fs=fs++[(f,v)]
 | [],h=>rfl
 | (n,x)::r,h=>by
  unfold eP at h;rw [map_cons] at h;simp only at h
  by_cases e:n=f
  .rw [if_pos e] at h;cases h
  .rw [if_neg e] at h
   cases e2:eP f (r.map Prod.fst) with
   | none=>unfold m4;rw [if_neg e,oy e2];rfl
   | some j=>rw [e2] at h;cases h
theorem FVc.obj{O:Addr->Prop}{H:Hp}{v:V}{c:Str}{ns:List Str}{ds:List D}(h:FVc K O H v (.obj c ns ds)):∃a dx fs,v=.ref a/\H a=some (.ins (bc K c) dx fs)/\fs.map Prod.fst=ns/\FVs K O H (fs.map Prod.snd) ds:=by
 rcases h with h|⟨a,xs,ds',e1,e2,e3,f⟩|⟨a,dx,c,fs,ns,ds',e1,e2,e3,m,f⟩
 .cases h with
  | obj n e m f=>exact⟨_,_,_,rfl,e,m,f⟩
 .cases e2
 .cases e2;exact⟨a,dx,fs,e1,e3,m,f⟩
def uH(c0:Str)(ns0:List Str)(k:Nat)(pa:PA1):PTE:=fun ρ Q=>pa ρ fun x ρ1=>match cont ρ1 x with
 | some (.obj c ns ds)=>(c=c0/\ns=ns0)/\∃d,ds[k]?=some d/\Q (.dat d) ρ1
 | _=>False
theorem gm{c0 f:Str}{ns0:List Str}{i:Nat}(hc:Cls K (bc K c0))(hn:eJ K (bc K c0) f)(hk:eP f ns0=some i)(h:LA1 K ta pa):LE K (uZ K ta f) (uH c0 ns0 i pa):=fun A ρ σ H Q Q' R q k=>h A ρ σ H _ _ R q fun v H1 a ρ1 q1 f1 R1 o1=>by
 split at q1
 .rename_i c ns ds e;obtain⟨⟨rfl,rfl⟩,d,hd,q1⟩:=q1;obtain⟨a,dx,fs,rfl,e1,m,f⟩:=(R1.cont o1 e).obj;obtain⟨v,hv,fv⟩:=f.getD hd;exact⟨a,_,dx,fs,v,rfl,e1,hc,hn,by rw [qg (k:=i) (by rw [m];exact hk)];exact hv,k v H1 _ ρ1 q1 f1 ⟨R1,fv⟩⟩
 .exact q1.elim
def lq(c0:Str)(ns0:List Str)(f:Str)(i:Nat)(pe:PTE):PTS:=fun D ρ=>pe ρ fun p ρ1=>match ρ1[i]? with
 | some (some (.ins c ns ds))=>(c=c0/\ns=ns0/\ns0.length<1000)/\D.nx (ρ1.set i (some (.ins c0 (ns0++[f]) (ds++[p.d]))))
 | _=>False
theorem jF{fs':List Nat}{c0 f:Str}{ns0:List Str}{i:Nat}(hc:Cls K (bc K c0))(hn:eJ K (bc K c0) f)(hk:eP f ns0=none)(h:LE K ta pe):LS K fs' (GF K (aM i) ta f) (lq c0 ns0 f i pe):=fun fx A R H0 ρ σ H D D' hf r F q k1 k2 k3 k4=>h A ρ σ H _ _ r q fun v H1 p ρ1 q1 f1 o1=>by
 obtain⟨R1,fv⟩:=o1.frz
 split at q1
 .rename_i c ns ds e;obtain⟨⟨rfl,rfl,hl⟩,q1⟩:=q1;obtain⟨w,s,a,dx,fs,rfl,g,m,ff⟩:=R1.get i _ e;have hk':eP f (fs.map Prod.fst)=none:=by rw [m];exact hk
  have wa:OO A ρ1 σ a:=.inr ⟨i,_,e,rfl,s⟩;have kw:∀o,aS (OO A ρ1 σ) H1 (OO A ρ1 σ) (upd H1 a o):=fun o b u n h=>⟨n,by rw [aw (fun z=>n (by rw [z];exact wa))];exact h⟩
  obtain⟨R2,f2⟩:=R1.write (o:=.ins (bc K c) dx (m4 f v fs)) (q:=.ins c (ns++[f]) (ds++[p.d])) e rfl rfl s ⟨a,dx,m4 f v fs,rfl,aF,by rw [oy hk',map_append,m];rfl,by rw [oy hk',map_append];exact (ff.append (.cons fv .nil)).keeps (kw _)⟩;refine⟨_,s,a,_,dx,fs,rfl,g,hc,hn,?_,k1 _ _ _ q1 R2 ((F.fr f1).fr f2)⟩;have:fs.length=ns.length:=by rw [<- m,length_map]
  omega
 .exact q1.elim
def Bx(c0:Str)(c:FR)(pr:PTA):PTE:=fun ρ Q=>pr ρ fun as ρ1=>match avD as with
 | some ds=>c (.ins c0 [] []) ds fun r p'=>(match r,p' with
  | .dat .non,.ins c1 ns es=>c1=c0/\Q (.ins c1 ns es) ρ1
  | _,_=>False)
 | none=>False
theorem wD{c0:Str}{c:FR}(h:LAs K tr pr):LE K (yb (bc K c0) (spR K c) [] E0 tr) (Bx c0 c pr):=fun A ρ σ H Q Q' R q k=>h A ρ σ H _ _ R q fun vs H1 as ρ1 q1 f1 R1 o1=>by
 split at q1
 .rename_i ds e;intro x dx hx hdx hne;rw [append_nil]
  let H2:=upd (upd H1 dx (.own x)) x (.ins (bc K c0) dx [])
  have g2:Gr H1 H2:=fun b o z=>by
   show upd (upd H1 dx (.own x)) x _ b=_;rw [aw (aT z hx),aw (aT z hdx)];exact z
  have nx:¬ OO A ρ1 σ x:=R1.oo hx
  have keep2:aS (OO A ρ1 σ) H1 (fk (OO A ρ1 σ) x) H2:=fun b o n z=>by
   refine⟨fun y=>?_,g2 b o z⟩
   rcases y with y|y
   .exact n y
   .rw [y,hx] at z;cases z
  refine⟨OO A ρ1 σ,x,.ins c0 [] [],vs,ds,_,rfl,rfl,fun b z=>(g2.fr (ρ:=ρ1) (σ:=σ)).dm b (R1.dom2 b z),nx,⟨x,dx,[],rfl,aF,rfl,.nil⟩,(o1.avD e).keeps keep2,q1,fun r p' qr ow' v H' kp ha rs ov _=>?_⟩
  split at qr
  .obtain⟨rfl,qr⟩:=qr;cases ov;refine⟨rfl,?_⟩;obtain⟨a',dx',fs,ea,e2,m,f⟩:=rs;cases ea;have g:Gr H1 H':=fun b o z=>kp b o (aT z hx) (g2 b o z)
   have hx0:H x=none:=by
    cases eb:H x with
    | none=>rfl
    | some o=>exact absurd hx (f1.dm x (by rw [eb];exact nofun))
   refine k _ H' _ ρ1 qr (f1.trans g.fr) ⟨x,dx',fs,rfl,fun z=>nx (.inl z),hx0,e2,m,R1.grA g hx (by rw [e2];exact nofun),f.keeps (aS.less fun b z=>?_)⟩
   rcases z with (z|z)|z
   .exact .inl (.inl z)
   .exact .inr z
   .exact .inl (.inr z)
  .exact qr.elim
 .exact q1.elim
def wE(c0:Str)(ns0:List Str)(c:FN)(pe:PTE)(pr:PTA):PTE:=fun ρ Q=>pe ρ fun p ρ1=>match p.d with
 | .obj c1 ns ds=>(c1=c0/\ns=ns0)/\pr ρ1 fun as ρ2=>(match avD as with
  | some es=>c (.obj c1 ns ds::es) fun r=>Q r ρ2
  | none=>False)
 | _=>False
theorem tG{c0 m:Str}{ns0:List Str}{c:FN}(hm:eP m ns0=none)(he:LE K ta pe)(hr:LAs K tr pr):LE K (AO (bc K c0) m (spP K c) [] E0 ta tr) (wE c0 ns0 c pe pr):=fun A ρ σ H Q Q' R q k=>he A ρ σ H _ _ R q fun v H1 p ρ1 q1 f1 o1=>by
 obtain⟨R1,fv⟩:=o1.frz
 split at q1
 .rename_i c1 ns ds e;rw [e] at fv;obtain⟨⟨rfl,rfl⟩,q1⟩:=q1;obtain⟨a,dx,fs,rfl,e1,mm,f⟩:=FVc.obj (.inl fv);refine⟨a,dx,fs,rfl,e1,ln (by rw [mm];exact hm),hr A ρ1 σ H1 _ _ R1 q1 fun vs H2 as ρ2 q2 f2 R2 o2=>?_⟩
  split at q2
  .rename_i es e3;rw [append_nil];exact⟨OO A ρ2 σ,_::es,_,R2.dom2,.cons (fv.keeps f2.keeps) (o2.avD e3),q2,fun r qr v H' g ov=>k v H' r ρ2 qr ((f1.trans f2).trans g.fr) ((ov.out R2 g).h0 fun b z=>f2.dm b (f1.dm b z))⟩
  .exact q2.elim
 .exact q1.elim
end
abbrev Gc:R2:=rI0 fun i j=>.int (i - j)
abbrev wF:R2:=rI (fun _ j=>0<j) fun i j=>.int (i % j)
abbrev Ed:R2:=rI Fk fun i j=>.int (i / j)
abbrev Gd:R2:=rI C4 fun i j=>.int (i^j.toNat)
abbrev Ge:R2:=rI0 fun i j=>.bl (decide (j<i))
abbrev He:R2:=rI0 fun i j=>.bl (decide (j<=i))
abbrev By:V->Hp->VK->Prop:=rU fun i=>.int (-i)
abbrev xX:F2:=fI0 fun i j=>.int (i - j)
abbrev gC:F2:=fI (fun _ j=>0<j) fun i j=>.int (i % j)
abbrev CJ:F2:=fI (fun _ j=>0<j/\j<1073741824) fun i j=>.int (i / j)
abbrev Gf:F2:=fI (fun i j=>0<=j/\j<=1000000/\i.natAbs<2^64) fun i j=>.int (i^j.toNat)
abbrev fGt:F2:=fI0 fun i j=>.bl (decide (j<i))
abbrev fGe:F2:=fI0 fun i j=>.bl (decide (j<=i))
def rJ:D->(PV->Prop)->Prop
 | .int i,Q=>Q (.dat (.int (-i)))
 | _,_=>False
section
variable {K:PySem.W.Frag}{X:Cx}{ta:TE}{tr:TA}{pr:PTA}{ts:TS}{ps:PTS}
theorem mw:OpR X (binaryOp .Sub) Gc:=C6
theorem cK:OpR X (binaryOp .Mod) wF:=C8
theorem nu:OpR X (binaryOp .FloorDiv) Ed:=AF
theorem Bz:OpR X (binaryOp .Pow) Gd:=C9
theorem BA:OpR X (compareOp .Gt) Ge:=Fq
theorem Hf:OpR X (compareOp .GtE) He:=Fs
theorem dZ:LU K By rJ:=by
 intro O H x a Q Q' dom fx q k;unfold rJ at q
 split at q
 .rename_i i;exact⟨i,fx.int,k _ H _ q (Gr.refl _) (.int _)⟩
 .exact q.elim
theorem kL{es:List Expr}{ct:Nat}{tp:Pos}(K:PySem.W.Frag)(e:X.K=K){a:Expr}{ta:TA}{p pos:Pos}(hg:Gl X "enumerate")(hm:X.mg "enumerate"=none)(ha:PA X [a] ta)(hs:starEach [a] X.env=[(false,eval a X.env)]:=by rfl) :
  PI X (.Tuple es ct tp) (.Call (.Name "enumerate" p) [a] [] pos) (yD K ta):=by subst e;exact Bd hg hm ha hs
theorem gn{ix:List (Option Nat)}{fs:List Nat}{i:Nat}(h:∀k∈fs,k∈CH ix)(hi:(CH ix).contains i=false):fs.contains i=false:=by
 cases e:fs.contains i with
 | false=>rfl
 | true =>
  have:=h i (contains_iff_mem.mp e);rw [contains_iff_mem.mpr this] at hi;cases hi
theorem my(t:Value)(b c:Bool)(h1:PySem.W.kitOne K t (.type "list")=some b)(h2:PySem.W.kitOne K t (.type "tuple")=some c):PySem.W.kitAny K t [.type "list",.type "tuple"]=some (b || c):=by
 simp only [PySem.W.kitAny,h1,h2];cases b <;> cases c <;> rfl
def zT(c:FN)(es:List D)(pr:PTA):PTE:=fun ρ Q=>pr ρ fun as ρ1=>match avD as with
 | some ds=>c (ds++es) fun r=>Q r ρ1
 | none=>False
theorem yQ{c:FN}{vs0:List V}{ds:List D}(hd:∀{O:Addr->Prop}{H:Hp},FVs K O H vs0 ds)(h:LAs K tr pr):LE K (ei (spP K c) vs0 E0 tr) (zT c ds pr):=fun A ρ σ H Q Q' R q k=>h A ρ σ H _ _ R q fun vs H1 as ρ1 q1 f1 R1 o1=>by
 split at q1
 .rename_i es e;exact⟨OO A ρ1 σ,_,_,R1.dom2,(o1.avD e).append hd,q1,fun r qr v H' g ov=>k v H' r ρ1 qr (f1.trans g.fr) ((ov.out R1 g).h0 f1.dm)⟩
 .exact q1.elim
theorem jd{c:FN}{n:Nat}(hn:∀ds Q,c ds Q->ds.length=n){vs:List V}{H:Hp}{Q:VK}{E:XK}(h:spP K c vs H Q E):vs.length=n:=by
 obtain⟨O,ds,Qc,_,f,hq,_⟩:=h;rw [f.length];exact hn ds Qc hq
theorem CK{c:FR}{n:Nat}(hn:∀p ds Q,c p ds Q->ds.length+1=n){vs:List V}{H:Hp}{Q:VK}{E:XK}(h:spR K c vs H Q E):vs.length=n:=by
 obtain⟨A,a,p,ws,ds,Qc,rfl,_,_,_,_,f,hq,_⟩:=h;rw [length_cons,f.length];exact hn p ds Qc hq
abbrev dy(pp:PTS)(n:Nat)(ds:List D)(Q:PV->Prop):Prop:=pp { nx:=fun _=>Q (.dat .non),rt:=fun p _=>Q p } (de n (ds.map .dat))
abbrev u4(pp:PTS)(n:Nat)(p:PV)(ds:List D)(Q:PV->PV->Prop):Prop:=pp { nx:=CI Q (.dat .non),rt:=CI Q } (de n (p::ds.map .dat))
end
end L2
namespace L2
theorem Cal.imp{P:PySem.Program}{w:PySem.World}{K:PySem.W.Frag}{mg:PySem.Str->Option PySem.Value}{base:PySem.Heap}{k:Nat}{x:PySem.Str}{ps:List PySem.Str}{sp sp':Sp}(C:Cal P w K mg base k x ps sp)(h:∀vs H Q E,sp' vs H Q E->sp vs H Q E):Cal P w K mg base k x ps sp':=by
 obtain⟨f,fd,F,r⟩:=C.ex;exact⟨f,fd,F.imp h,r⟩
end L2
namespace L2
open PySem PySem.Spec PyProof.Rows
theorem cfm{ix:List (Option Nat)}{ρ1:PSt}{n:Nat}{it:Nat->D}{g:PTG}{pt:PTT}{pe:PTE}{Q:PKt}(T:PSt->Prop)(f:Nat->Option D)(h0:T (ci ix ρ1))
  (hs:∀k τ d,k<n->d=it k->T τ->∀(K1:D->PSt->Prop) (K2:PSt->Prop),(∀d τ',f k=some d->T τ'->K1 d τ')->(∀τ',f k=none->T τ'->K2 τ')->g (.dat d) τ fun τ2=>pt τ2 fun ok τ3=>gz ok (pe τ3 fun p τ4=>K1 p.d τ4) (K2 τ3))
  (hq:∀τ,T τ->Q (.own ((List.range n).filterMap f)) (gk ix ρ1 τ)) :
  mr ix ρ1 n it g pt pe Q:=by
 refine⟨fun k ys τ=>ys=(List.range k).filterMap f/\T τ,⟨rfl,h0⟩,fun k ys τ dd hk ed ⟨e,t⟩=>?_,fun ys τ ⟨e,t⟩=>by rw [e];exact hq τ t⟩
 have r:(List.range (k+1)).filterMap f=(List.range k).filterMap f++(f k).toList:=by
  rw [range_succ,filterMap_append]
  cases e:f k with
  | none=>rw [show [k].filterMap f=[] by simp [e]];rfl
  | some d=>rw [show [k].filterMap f=[d] by simp [e]];rfl
 refine hs k τ dd hk ed t (fun d τ'=>(ys++[d]=(List.range (k+1)).filterMap f/\T τ')) (fun τ'=>(ys=(List.range (k+1)).filterMap f/\T τ')) (fun d τ' h t'=>⟨?_,t'⟩) (fun τ' h t'=>⟨?_,t'⟩)
 .rw [r,e,h];rfl
 .rw [r,e,h];simp
theorem tH{ix:List (Option Nat)}{ρ1:PSt}{n:Nat}{it:Nat->D}{g:PTG}{pe:PTE}{Q:PKt}(T:PSt->Prop)(f:Nat->D)(h0:T (ci ix ρ1))
  (hs:∀k τ d,k<n->d=it k->T τ->∀K1:D->PSt->Prop,(∀τ',T τ'->K1 (f k) τ')->g (.dat d) τ fun τ2=>pe τ2 fun p τ4=>K1 p.d τ4)
  (hq:∀τ,T τ->Q (.own ((List.range n).map f)) (gk ix ρ1 τ)) :
  mr ix ρ1 n it g iW pe Q:=by
 refine cfm T (fun k=>some (f k)) h0 (fun k τ d hk ed t K1 K2 k1 k2=>?_) fun τ t=>?_
 .exact hs k τ d hk ed t K1 fun τ' t'=>k1 _ τ' rfl t'
 .have:(List.range n).filterMap (fun k=>some (f k))=(List.range n).map f:=by rw [<- filterMap_eq_map];rfl
  rw [this];exact hq τ t
theorem lr{β:Type}(f:D->β)(ds:List D):(List.range ds.length).map (fun k=>f (itD ds k))=ds.map f:=by
 apply ext_getElem?;intro i;rw [getElem?_map,getElem?_map]
 by_cases h:i<ds.length
 .rw [getElem?_range h,ww h];rfl
 .rw [getElem?_eq_none (by rw [length_range];omega),getElem?_eq_none (by omega)];rfl
theorem fM{β:Type}(f:Nat->β)(l:List Nat):(List.range l.length).map (fun k=>f (l.getD k 0))=l.map f:=by
 apply ext_getElem?;intro i;rw [getElem?_map,getElem?_map]
 by_cases h:i<l.length
 .rw [getElem?_range h];show some (f (l.getD i 0))=_;rw [getD_eq_getElem?_getD,getElem?_eq_getElem h];rfl
 .rw [getElem?_eq_none (by rw [length_range];omega),getElem?_eq_none (by omega)];rfl
def pw(ws:List (List Nat))(k:Nat):List Nat:=ws.getD k []
theorem io{ws:List (List Nat)}{k:Nat}(h:k<ws.length):ws[k]?=some (pw ws k):=by unfold pw;rw [getD_eq_getElem?_getD,getElem?_eq_getElem h];rfl
theorem gJ{ws:List (List Nat)}{k:Nat}(h:k<ws.length):pw ws k∈ws:=mem_of_getElem? (io h)
theorem gK{ws:List (List Nat)}{k:Nat}(h:k<(ws.map D.str).length):itD (ws.map D.str) k=.str (pw ws k):=dY (by rw [getElem?_map,io (by rwa [length_map] at h)];rfl)
theorem BB{ns:List Int}{k:Nat}(h:k<(ns.map D.int).length):itD (ns.map D.int) k=.int (ns.getD k 0):=dY (by
 have h:k<ns.length:=by rwa [length_map] at h
 rw [getElem?_map,getD_eq_getElem?_getD,getElem?_eq_getElem h];rfl)
theorem iL{ws:List (List Nat)}{i:Int}{k:Nat}(h:k<ws.length)(e:i=(k:Int)):atI (ws.map D.str) i=some (.str (pw ws k)):=im (j:=k) (by rw [getElem?_map,io h];rfl) e
def Pc(m:Nat)(w:List Nat):Prop:=0<w.length/\w.length<=m/\Lts w
def Pcs(m:Nat)(ws:List (List Nat)):Prop:=∀w∈ws,Pc m w
def ltB(c:Nat):Bool:=decide (97<=c) && decide (c<=122)
def yR:D->Int->Int->Bool
 | .str l,a,b=>(decide (a<=(l.length:Int)) && decide ((l.length:Int)<=b)) && l.all ltB
 | _,_,_=>false
theorem oz(l:List Nat)(a b:Int):yR (.str l) a b=((decide (a<=(l.length:Int)) && decide ((l.length:Int)<=b)) && l.all ltB):=rfl
def Gg:D->Nat
 | .str l=>l.length
 | _=>0
theorem BC{l:List Nat}:l.all ltB=true ↔ Lts l:=by
 rw [all_eq_true];unfold Lts ltB
 constructor
 .intro h c hc;have:=h c hc;rw [and_eq_true,decide_eq_true_eq,decide_eq_true_eq] at this;exact this
 .intro h c hc;rw [and_eq_true,decide_eq_true_eq,decide_eq_true_eq];exact h c hc
theorem wG{w:List Nat}:yR (.str w) 1 60=true ↔ Pc 60 w:=by
 unfold yR Pc;rw [and_eq_true,and_eq_true,decide_eq_true_eq,decide_eq_true_eq,BC]
 constructor
 .rintro⟨⟨h1,h2⟩,h3⟩;exact⟨by omega,by omega,h3⟩
 .rintro⟨h1,h2,h3⟩;exact⟨⟨by omega,by omega⟩,h3⟩
theorem rK(i j:Nat):(!decide (([j]:List Nat)<[i]))=decide (i<=j):=by
 by_cases h:i<=j
 .rw [decide_eq_true h]
  have:¬ ([j]:List Nat)<[i]:=by
   rw [cons_lt_cons_iff]
   rintro (z|⟨_,z⟩)
   .omega
   .exact absurd z (List.lt_irrefl _)
  rw [decide_eq_false this];rfl
 .rw [decide_eq_false h]
  have:([j]:List Nat)<[i]:=by
   rw [cons_lt_cons_iff];exact .inl (by omega)
  rw [decide_eq_true this];rfl
theorem rL:∀ws:List (List Nat),D.pys (ws.map .str)=ws.map fun w=>PyData.str (S w)
 | []=>rfl
 | w::r=>by rw [map_cons,map_cons,<- rL r];rfl
theorem nv:∀ws:List (List Nat),D.plains (ws.map .str)=true
 | []=>rfl
 | w::r=>by rw [map_cons];show (true && D.plains (r.map .str))=true;rw [nv r];rfl
theorem lu:∀ns:List Int,D.pys (ns.map .int)=ns.map PyData.int
 | []=>rfl
 | n::r=>by rw [map_cons,map_cons,<- lu r];rfl
theorem jG:∀ns:List Int,D.plains (ns.map .int)=true
 | []=>rfl
 | n::r=>by rw [map_cons];show (true && D.plains (r.map .int))=true;rw [jG r];rfl
def Sh(d:D):Prop:=d.plain=true/\SeqAt.shaped d.py=true
theorem re.of{a b:D}(h:Sh a)(h':Sh b):re a b:=⟨h.1,h'.1,h.2,h'.2⟩
theorem Sh.lstS{ws:List (List Nat)}(h:∀w∈ws,Lts w):Sh (.lst (ws.map .str)):=⟨nv ws,by show SeqAt.shaped (.list (D.pys _))=true;rw [rL];exact p6 h⟩
theorem Sh.lstI(ns:List Int):Sh (.lst (ns.map .int)):=⟨jG ns,by show SeqAt.shaped (.list (D.pys _))=true;rw [lu];exact (j3.list (p5 ns)).shaped (by decide)⟩
theorem Sh.tupI(ns:List Int):Sh (.tup (ns.map .int)):=⟨jG ns,by show SeqAt.shaped (.tuple (D.pys _))=true;rw [lu];exact (j3.tuple (p5 ns)).shaped (by decide)⟩
theorem oA{d:D}(h:Sh d):deq d d=true:=yv h.2
theorem BD{α:Type}(l:List α):dD l none (some (-1))=l.dropLast:=by
 have h:=rp l
 have e:dD l none (some (-1))=l.take (HT.sIx l.length l.length (some (-1)) - HT.sIx l.length 0 none):=by
  unfold dD;rw [show HT.sIx l.length 0 none=0 from rfl,drop_zero]
 rw [e,length_take] at h;rw [e,dropLast_eq_take]
 by_cases z:HT.sIx l.length l.length (some (-1)) - HT.sIx l.length 0 none<=l.length
 .rw [show HT.sIx l.length l.length (some (-1)) - HT.sIx l.length 0 none=l.length - 1 by omega]
 .rw [take_of_length_le (by omega),take_of_length_le (by omega)]
theorem yS{α:Type}(c:α)(n:Nat):nV [c] (n:Int)=List.replicate n c:=by
 unfold nV;rw [toNat_natCast]
 induction n with
 | zero=>rfl
 | succ n ih=>rw [replicate_succ,flatten_cons,ih];rfl
section
variable {X:Cx}{K:PySem.W.Frag}
def Ee:PTE:=fun ρ Q=>Q (.dat (.dic [] [])) ρ
theorem BE:LE K zL Ee:=fun A ρ σ H Q Q' R q k=>fun p hp =>
 k _ _ (.dat (.dic [] [])) ρ q (Fr.new hp) ⟨R.grow hp,.dic (R.oo hp) aF rfl .nil⟩
def wH(neg:Bool):R2:=fun x y H Q=>∃a b,x=.ref a/\y=.ref b/\H a=some (.dK [])/\H b=some (.dK [])/\Q (.bl (!neg)) H
theorem yT(hu:X.A.units+64<cLine):OpR X (compareOp .Eq) (wH false):=by
 intro pins s σ H x y v u Q I rx ry ⟨a,b,e1,e2,h1,h2,q⟩;subst e1 e2;cases rx;cases ry;obtain⟨_,y1,vs,r1,p1⟩:=(show bY X.prog X.w H s.heap a (.dK []) from I.hok a _ h1)
 obtain⟨_,y2,ws,r2,p2⟩:=(show bY X.prog X.w H s.heap b (.dK []) from I.hok b _ h2)
 cases r1;cases r2;exact PySem.W.keq_eq (r:=true) y1 y2 p1 p2 (by omega) (fun _=>.nil) ⟨.bl true,H,I,rfl,q⟩
theorem yU(hu:X.A.units+64<cLine):OpR X (compareOp .NotEq) (wH true):=by
 intro pins s σ H x y v u Q I rx ry ⟨a,b,e1,e2,h1,h2,q⟩;subst e1 e2;cases rx;cases ry;obtain⟨_,y1,vs,r1,p1⟩:=(show bY X.prog X.w H s.heap a (.dK []) from I.hok a _ h1)
 obtain⟨_,y2,ws,r2,p2⟩:=(show bY X.prog X.w H s.heap b (.dK []) from I.hok b _ h2)
 cases r1;cases r2;exact PySem.W.keq_ne (r:=true) y1 y2 p1 p2 (by omega) (fun _=>.nil) ⟨.bl false,H,I,rfl,q⟩
def lv(K:PySem.W.Frag)(neg:Bool):R2:=fun x y H Q=>DR K neg x y H Q\/wH neg x y H Q
theorem fb(K:PySem.W.Frag)(e:X.K=K)(hu:X.A.units+64<cLine):OpR X (compareOp .Eq) (lv K false):=OpR.or (Hb K e hu) (yT hu)
theorem uI(K:PySem.W.Frag)(e:X.K=K)(hu:X.A.units+64<cLine):OpR X (compareOp .NotEq) (lv K true):=OpR.or (Hc K e hu) (yU hu)
def lw:F2
 | .dic [] [],.dic [] [],Q=>Q (.dat (.bl true))
 | a,b,Q=>fEq a b Q
def zU:F2
 | .dic [] [],.dic [] [],Q=>Q (.dat (.bl false))
 | a,b,Q=>fNe a b Q
theorem FVc.dic0{O:Addr->Prop}{H:Hp}{v:V}(h:FVc K O H v (.dic [] [])):∃a,v=.ref a/\H a=some (.dK []):=by
 cases h.fv nofun nofun with
 | dic n e m f =>
  rename_i a kvs
  cases kvs with
  | nil=>exact⟨a,rfl,e⟩
  | cons x r=>cases m
theorem cU:LO K (lv K false) lw:=by
 intro O H x y a b Q Q' dom fx fy q k;unfold lw at q
 split at q
 .obtain⟨a,rfl,e1⟩:=fx.dic0;obtain⟨b,rfl,e2⟩:=fy.dic0;exact .inr ⟨a,b,rfl,rfl,e1,e2,k _ H _ q (Gr.refl _) (.bl _)⟩
 .exact .inl (FS O H x y _ _ Q Q' dom fx fy q k)
theorem ny:LO K (lv K true) zU:=by
 intro O H x y a b Q Q' dom fx fy q k;unfold zU at q
 split at q
 .obtain⟨a,rfl,e1⟩:=fx.dic0;obtain⟨b,rfl,e2⟩:=fy.dic0;exact .inr ⟨a,b,rfl,rfl,e1,e2,k _ H _ q (Gr.refl _) (.bl _)⟩
 .exact .inl (FT O H x y _ _ Q Q' dom fx fy q k)
end
theorem rM:∀ds:List D,D.pys ds=ds.map D.py
 | []=>rfl
 | d::r=>by rw [map_cons,<- rM r];rfl
theorem jH:∀ds:List D,D.plains ds=ds.all D.plain
 | []=>rfl
 | d::r=>by rw [all_cons,<- jH r];rfl
def Fl(n:Nat)(d:D):Prop:=d.plain=true/\j3 n d.py
theorem Fl.sh{n:Nat}{d:D}(h:Fl n d)(hn:n<=64):Sh d:=⟨h.1,h.2.shaped hn⟩
theorem Fl.mono{n m:Nat}{d:D}(h:Fl n d)(hn:n<=m):Fl m d:=⟨h.1,h.2.1,Nat.le_trans h.2.2 hn⟩
theorem Fl.int{n:Nat}(i:Int):Fl n (.int i):=(show Fl 0 (.int i) from ⟨rfl,j3.int i⟩).mono (zero_le _)
theorem Fl.lst{n:Nat}{ds:List D}(h:∀d∈ds,Fl n d):Fl (n+1) (.lst ds):=by
 refine⟨?_,?_⟩
 .show D.plains ds=true;rw [jH,all_eq_true];exact fun d hd=>(h d hd).1
 .show j3 (n+1) (.list (D.pys ds));rw [rM];refine j3.list fun d hd=>?_;obtain⟨x,hx,rfl⟩:=mem_map.mp hd;exact (h x hx).2
theorem Fl.tup{n:Nat}{ds:List D}(h:∀d∈ds,Fl n d):Fl (n+1) (.tup ds):=by
 refine⟨?_,?_⟩
 .show D.plains ds=true;rw [jH,all_eq_true];exact fun d hd=>(h d hd).1
 .show j3 (n+1) (.tuple (D.pys ds));rw [rM];refine j3.tuple fun d hd=>?_;obtain⟨x,hx,rfl⟩:=mem_map.mp hd;exact (h x hx).2
theorem Fl.ints{n:Nat}(zs:List Int):∀d∈zs.map D.int,Fl n d:=fun d hd=>by
 obtain⟨i,_,rfl⟩:=mem_map.mp hd;exact Fl.int i
def ky:D->Bool
 | .int _=>true
 | _=>false
def oB:D->Bool
 | .lst _=>true
 | .tup _=>true
 | _=>false
def aR:D->List D
 | .lst ds=>ds
 | .tup ds=>ds
 | _=>[]
def toI:D->Int
 | .int i=>i
 | _=>0
def bK(d:D)(m:Int):Bool:=oB d && (decide (((aR d).length:Int)=m) && (aR d).all ky)
def Srt(d:D):Prop:=d.sort=true/\∀x∈aR d,x.sort=true
theorem rN:∀{ds:List D},ds.all ky=true->ds=(ds.map toI).map D.int
 | [],_=>rfl
 | d::r,h=>by
  rw [all_cons,and_eq_true] at h;rw [map_cons,map_cons,<- rN h.2];cases d <;> first|rfl|cases h.1
theorem jI{ds:List D}{k:Nat}(h:k<ds.length):itD ds k∈ds:=mem_of_getElem? (ww h)
section
variable {X:Cx}{K:PySem.W.Frag}{te:TE}{pe:PTE}
def Ef(K:PySem.W.Frag):List V->Hp->VK->Prop:=fun xs H Q=>∃(p:Addr) (ns:List Int),xs=[.ref p]/\SqL K H p (ns.map V.int)/\0<ns.length/\∀m:Int,m∈ns->(∀a∈ns,a<=m)->Q (.int m) H
theorem wI(K:PySem.W.Frag)(e:X.K=K)(hc:X.calm=true):cu X (.builtin "max") (Ef K):=by
 subst e;intro pins s σ H xs us Q I r h;obtain⟨p,ns,rfl,hS,hne,q⟩:=h;obtain⟨u,rfl,ru⟩:=iJ r;cases (show u=Value.ref p from ru);obtain⟨its,rv,pl,hz⟩:=I.list hS;have hi:=fj rv;have hl:=pl.isList;obtain⟨ys,e⟩:=hi.allInts.items;have hns:ns=ys.toList.map (·.1):=by rw [<- hi.numsOf,<- nums_intItems,<- e]
 have hsz:0<ys.size:=by
  have h3:=hne;rw [hns,length_map,Array.length_toList] at h3;exact h3
 rw [e] at hl;refine max_intList (by exact I.ok.hd hc) hl hsz fun v h' tk hv hk=>?_;obtain⟨t,rfl⟩:=intItems_at hv;obtain⟨h1,h2⟩:=argBest_gt (numAt ys) (ys.size - 1)
 refine⟨.int _,H,I.kept (t':=tk) hk,⟨t,rfl⟩,q _ ?_ fun a ha=>?_⟩
 .rw [hns,numAt_eq];exact getD_mem (by rw [length_map,Array.length_toList];omega)
 .rw [hns] at ha;obtain⟨j,hj,rfl⟩:=mem_getD ha;rw [length_map,Array.length_toList] at hj;rw [<- numAt_eq];exact h2 j (by omega)
def wJ:FN
 | [.lst ds],Q=>∃ns:List Int,ds=ns.map .int/\0<ns.length/\∀m:Int,m∈ns->(∀a∈ns,a<=m)->Q (.dat (.int m))
 | _,_=>False
theorem rO:LC K (Ef K) wJ:=by
 intro O H xs as Q Q' dom fs q k;unfold wJ at q
 split at q
 .obtain⟨ns,rfl,h0,q⟩:=q
  cases fs with
  | cons a b =>
   cases b;obtain⟨p,ys,rfl,e1,f1⟩:=a.lst;rw [f1.ints] at e1;exact⟨p,ns,rfl,SqL.of e1,h0,fun m h1 h2=>k _ H _ (q m h1 h2) (Gr.refl _) (.int _)⟩
 .exact q.elim
def wK(i:Nat)(pe:PTE):PTE:=fun ρ Q=>match ρ[i]? with
 | some (some (.own _))=>pe ρ fun p ρ1=>(match ρ1[i]?,p with
  | some (some (.own ds)),.dat (.int j)=>∃k d,(ixN ds.length j=some k/\ds.length<=1000000)/\ds[k]?=some d/\Q (.dat d) (ρ1.set i (some (.own (ds.eraseIdx k))))
  | _,_=>False)
 | _=>False
theorem FVs.eraseIdx{O:Addr->Prop}{H:Hp}:∀{xs:List V}{ds:List D} (k:Nat),FVs K O H xs ds->FVs K O H (xs.eraseIdx k) (ds.eraseIdx k)
 | _,_,_,.nil=>.nil
 | _,_,0,.cons a b=>b
 | _,_,k+1,.cons a b=>.cons a (FVs.eraseIdx k b)
theorem yV{i:Nat}(h:LE K te pe):LE K (tBM K "list" zI (aM i) (aJ te cS)) (wK i pe):=fun A ρ σ H Q Q' R q k=>by
 unfold wK at q
 split at q
 .rename_i ds0 e0;obtain⟨a0,xs0,s0,g0,f0⟩:=R.ownAt e0;refine⟨_,s0,.inl ⟨rfl,xs0,SqL.of g0⟩,h A ρ σ H _ _ R q fun v H1 p ρ1 q1 f1 o1=>?_⟩;obtain⟨R1,fv⟩:=o1.frz
  split at q1
  .rename_i ds j e1;obtain⟨a,xs,s,g,f⟩:=R1.ownAt e1;rw [s0] at s;cases s;obtain⟨m,d,⟨hm,hl⟩,hd,q1⟩:=q1;obtain⟨w,hw,fw⟩:=f.getD hd;cases (show FV K _ H1 v (.int j) from fv);obtain⟨t1,t2,t3,t4⟩:=rj hm;obtain⟨R2,f2⟩:=R1.lstw (es:=ds.eraseIdx m) (ys:=xs.eraseIdx m) e1 s0 (f.eraseIdx m);have hx:xs.length=ds.length:=f.length;exact⟨a0,xs,j,m,w,rfl,rfl,g,by omega,by omega,by rw [hx];exact t1,hw,k _ _ _ _ q1 (f1.trans f2) ⟨R2,(fw.keeps f2.keeps)⟩⟩
  .exact q1.elim
 .exact q.elim
end
section
variable {X:Cx}{K:PySem.W.Frag}{te:TE}{pe:PTE}{fs:List Nat}
abbrev GV:R2:=rI C4 fun i j=>.int (i*2^j.toNat)
abbrev wL:F2:=fI (fun i j=>0<=j/\j<=1000000/\i.natAbs<2^64) fun i j=>.int (i*2^j.toNat)
theorem mz:OpR X (binaryOp .LShift) GV:=Db
theorem ip:LO K GV wL:=DQ fun _ _ _ _=>.int _
abbrev BF:R2:=rI (fun _ j=>0<=j) fun i j=>.int (i / 2^j.toNat)
abbrev CL:F2:=fI (fun _ j=>0<=j) fun i j=>.int (i / 2^j.toNat)
theorem wM:OpR X (binaryOp .RShift) BF:=Dc
theorem qh:LO K BF CL:=DQ fun _ _ _ _=>.int _
abbrev rP:R2:=rI0 fun i j=>.int (Builtin.bitAnd i j)
abbrev uJ:F2:=fI0 fun i j=>.int (Builtin.bitAnd i j)
theorem qi:OpR X (binaryOp .BitAnd) rP:=Dd
theorem lx:LO K rP uJ:=yH fun _ _ _ _=>.int _
end
def zV(i:Nat)(pe pe' pk pk':PTE):PTS:=fun E ρ=>pe ρ fun p ρ1=>pe' ρ1 fun p' ρ2=>(match ρ2[i]? with
 | some (some (.own _))=>pk ρ2 fun kp ρ3=>(match ρ3[i]?,kp with
  | some (some (.own ds)),.dat (.int k)=>∃j,ixN ds.length k=some j/\pk' (ρ3.set i (some (.own (ds.set j p.d)))) fun kp' ρ4=>(match ρ4[i]?,kp' with
   | some (some (.own es)),.dat (.int l)=>∃m,ixN es.length l=some m/\E.nx (ρ4.set i (some (.own (es.set m p'.d))))
   | _,_=>False)
  | _,_=>False)
 | _=>False)
section
variable {K:PySem.W.Frag}{te te' tk tk':TE}{pe pe' pk pk':PTE}{fs:List Nat}
theorem BG{i:Nat}(h:LE K te pe)(h':LE K te' pe')(hk:LE K tk pk)(hk':LE K tk' pk') :
  LS K fs (vg (CD (aJ te (aJ te' cS))) (Fh K 2 (ue (CA (aM i) tk ut) (ue (CA (aM i) tk' ut) E2)))) (zV i pe pe' pk pk') :=
 fun fx A R H0 ρ σ H E E' hf r F q k1 k2 k3 k4=>h A ρ σ H _ _ r q fun v H1 p ρ1 q1 f1 o1=>by
 obtain⟨R1,fv⟩:=o1.frz;refine h' A ρ1 σ H1 _ _ R1 q1 fun v' H2 p' ρ2 q2 f2 o2=>?_;obtain⟨R2,fv'⟩:=o2.frz;have fv2:=fv.keeps (f2.keeps (A:=A))
 split at q2
 .rename_i ds0 e0;refine⟨sz _ (by show 2<=1000000;decide),fun T hT=>?_⟩;have R2':Rel K A ρ2 σ (upd H2 T (.tup [v,v'])):=R2.grow hT;have fT:Fr ρ2 σ H2 ρ2 (upd H2 T (.tup [v,v'])):=Fr.new hT;refine⟨T,[v,v'],rfl,SqT.of aF,rfl,v,[v'],rfl,?_⟩;obtain⟨a0,xs0,s0,g0,f0⟩:=R2'.ownAt e0;refine⟨_,s0,hk A ρ2 σ _ _ _ R2' q2 fun w H3 kp ρ3 q3 f3 o3=>?_⟩
  split at q3
  .rename_i ds j e3;obtain⟨n,hn,q3⟩:=q3;obtain⟨R3,fw⟩:=o3;cases fw;obtain⟨a,xs,s,g,f⟩:=R3.ownAt e3;rw [s0] at s;cases s;have fv3:=(fv2.keeps (fT.keeps (A:=A))).keeps (f3.keeps (A:=A));have fv3':=(fv'.keeps (fT.keeps (A:=A))).keeps (f3.keeps (A:=A));obtain⟨R4,f4⟩:=R3.lstw e3 s0 (FVs.set fv3 n f);refine⟨a0,xs,j,n,rfl,rfl,g,by rw [f.length];exact hn,v',[],rfl,?_⟩;refine⟨_,s0,hk' A _ σ _ _ _ R4 q3 fun w' H5 kp' ρ5 q5 f5 o5=>?_⟩
   split at q5
   .rename_i es l e5;obtain⟨m,hm,q5⟩:=q5;obtain⟨R5,fw'⟩:=o5;cases fw';obtain⟨a',xs',s',g',f'⟩:=R5.ownAt e5;rw [s0] at s';cases s';have fv5:=(fv3'.keeps (f4.keeps (A:=A))).keeps (f5.keeps (A:=A));obtain⟨R6,f6⟩:=R5.lstw e5 s0 (FVs.set fv5 m f');exact⟨a0,xs',l,m,rfl,rfl,g',by rw [f'.length];exact hm,rfl,k1 _ _ _ q5 R6 (((((((F.fr f1).fr f2).fr fT).fr f3).fr f4).fr f5).fr f6)⟩
   .exact q5.elim
  .exact q3.elim
 .exact q2.elim
end
section
variable {prog:Program}{w:World}{A:Around}{E:Value->Shared->Prop}{s:Shared}
theorem qj{it t:Addr}{items:Array Value}(hne:t≠it):∀(n i:Nat) (s:Shared) (Q:List Value->Shared->Prop),s.heap.IsListIter it t i->s.heap.IsList t items->i+n<=items.size ->
  (∀h',h'.IsListIter it t (i+n)->Heap.SameBut it s.heap h'->Q ((items.toList.drop i).take n) { s with heap:=h' })->wpAny (model prog w) A (draw (.ref it) n) Q E s
 | 0,i,s,Q,hit,_,_,hQ=>by
  show wpAny _ _ (pure []) Q E s;exact wpAny_pure (by simpa using hQ s.heap hit (Heap.SameBut.refl ..))
 | n+1,i,s,Q,hit,ht,hle,hQ=>by
  have hlt:i<items.size:=by omega
  show wpAny _ _ (pyNext (.ref it) >>= _) Q E s;refine wpAny_bind (wpAny_pyNext_list_item hit ht (x:=items[i]) (by simp [hlt]) fun h₁ hit₁ hs₁=>?_);refine wpAny_bind (wpAny_holding (qj hne n (i+1) _ _ hit₁ (ht.extBut hs₁.extBut hne) (by omega) fun h₂ hit₂ hs₂=>wpAny_pure ?_));have hd:items.toList.drop i=items[i]::items.toList.drop (i+1):=by simp [drop_eq_getElem_cons,hlt]
  have:=hQ h₂ (by rw [show i+(n+1)=i+1+n by omega];exact hit₂) (hs₁.trans hs₂);rw [hd,take_succ_cons] at this;exact this
theorem kz{t:Addr}{items:Array Value}{Q:List Value->Shared->Prop}(hh:A.handled=none)(ht:s.heap.IsList t items)
  (hQ:∀h',Heap.ExtBut s.heap.objs.size s.heap h'->Q items.toList { s with heap:=h' }):wpAny (model prog w) A (unpackItems (.ref t) items.size none) Q E s:=by
 have hlt:t≠s.heap.objs.size:=by obtain⟨o,ho,_⟩:=ht;exact ne_of_lt (Heap.lt_size ho)
 unfold unpackItems
 refine wpAny_bind ?_
 .unfold notIterableAtAll;refine wpAny_bind (wpAny_specialOf ht.typeIs PySem.F.slot_list_iter.lookup ?_);refine wpAny_pure ?_;simp only [false_eq_true,if_false];refine wpAny_bind (wpAny_holding (wpAny_pyIter_list ht ?_));refine wpAny_bind (wpAny_holding (qj hlt items.size 0 _ _ ⟨_,Heap.get?_push_size _ rfl,rfl,rfl⟩ (ht.push _) (by omega) fun h₁ hit₁ hs₁=>?_))
  have hall:List.take items.size (List.drop 0 items.toList)=items.toList:=by
   rw [drop_zero];exact take_of_length_le (by simp)
  rw [hall];rw [if_neg (by simp)];have ht₁:h₁.IsList t items:=(ht.push _).extBut hs₁.extBut hlt;refine wpAny_bind (wpAny_holding (wpAny_pyNext_list_end hh hit₁ ht₁ (by simp) fun h₂ he₂=>?_));simp only [Option.isSome_none,false_eq_true,if_false];refine wpAny_pure (hQ h₂ fun b o hb e=>he₂ b o hb (hs₁.extBut b o hb (Heap.get?_push_of_some _ e)))
theorem jJ{env:Env}{elts:List Expr}{x1}{pos:Pos}{t:Addr}{items:Array Value}{Q:Unit->Shared->Prop}(hh:A.handled=none)(ht:s.heap.IsList t items)
  (hn:(assignEach elts env).length=items.size) (hstar:(assignEach elts env).findIdx? (·.1)=none)
  (h:∀h',Heap.ExtBut s.heap.objs.size s.heap h'->wpAny (model prog w) A (assignInOrder ((assignEach elts env).map (·.2)) items.toList) Q E { s with heap:=h' }) :
  wpAny (model prog w) A (assign (.Tuple elts x1 pos) env (.ref t)) Q E s:=by
 rw [assign_Tuple];refine wpAny_bind (wpAny_standAt ?_);unfold unpack;rw [hn,hstar];exact wpAny_bind (wpAny_holding (kz hh ht h))
end
def Gh(K:PySem.W.Frag)(n:Nat)(t:TGs):TG:=fun v σ H Q=>∃b a xs,v=.ref a/\Sq b K H a xs/\xs.length=n/\t xs σ H Q
section
variable {X:Cx}
theorem qk(K:PySem.W.Frag)(eK:X.K=K){es:List Expr}{k:Nat}{t:TGs}{n:Nat}{pos:Pos}(hc:X.calm=true)(h:PGs X es t)
  (hn:(assignEach es X.env).length=n:=by rfl) (hst:(assignEach es X.env).findIdx? (·.1)=none:=by rfl):PG X (.Tuple es k pos) (Gh K n t):=by
 subst eK;intro pins s σ H v u Q I r hw;obtain⟨b,a,xs,e1,hq,hl,hw⟩:=hw
 cases b with
 | true=>exact zB hc h hn hst pins s σ H v u Q I r ⟨a,xs,e1,hq,hl,hw⟩
 | false =>
  subst e1;cases r;obtain⟨its,rv,ht,hz⟩:=I.list hq;refine jJ (I.ok.hd hc) ht.isList (by simp [hn,<- hl,rv.length]) hst fun h' hx=>?_;have I1:Inv X pins σ H { s with heap:=h' }:=I.kept (t':=s.toks) fun b o e=>hx b o (ne_of_lt (Heap.lt_size e)) e;exact h pins _ σ H xs _ Q I1 (by simpa using rv) hw
def ql(n:Nat)(gs:Bn):PTG:=fun p ρ Q=>match p with|.dat (.tup ds)=>ds.length=n/\gs ds ρ Q|.dat (.lst ds)=>ds.length=n/\gs ds ρ Q|.own ds=>ds.length=n/\gs ds ρ Q|_=>False
end
section
variable {K:PySem.W.Frag}{fs:List Nat}
theorem ly{n:Nat}{gs:TGs}{pgs:Bn}(h:LGs K fs gs pgs):LGd K fs (Gh K n gs) (ql n pgs):=fun fx A R H0 ρ σ H d v Q Q' hf F r fv q k=>by
 unfold ql at q
 split at q
 .rename_i e;cases e
  cases fv with
  | tup nn e f=>exact⟨true,_,_,rfl,SqT.of e,by rw [f.length];exact q.1,h fx A R H0 ρ σ H _ _ Q Q' hf F r f q.2 k⟩
 .rename_i e;cases e
  cases fv with
  | lst nn e f=>exact⟨false,_,_,rfl,SqL.of e,by rw [f.length];exact q.1,h fx A R H0 ρ σ H _ _ Q Q' hf F r f q.2 k⟩
 .rename_i e;cases e
 .exact q.elim
end
def ij(d:D)(xs:List D):Prop:=d=.lst xs\/d=.tup xs
theorem zW{d:D}{xs:List D}{Q:PV->Prop}(h:ij d xs)(q:Q (.dat (.int xs.length))):hZ [d] Q:=by
 rcases h with rfl|rfl <;> exact q
theorem rQ{d:D}{xs:List D}{i:Int}{Q:PV->Prop}(h:ij d xs)(q:∃x,atI xs i=some x/\Q (.dat x)):fIx d (.int i) Q:=by
 rcases h with rfl|rfl <;> exact q
theorem wN{d:D}{xs:List D}{Q:PV->Prop}(h:ij d xs)(q:Q (.own xs)):qf [d] Q:=by
 rcases h with rfl|rfl <;> exact q
theorem zX{d:D}{xs:List D}{F:Nat->(Nat->D)->Prop}(h:ij d xs)(q:F xs.length (itD xs)):(match FY d with|some (n,it)=>F n it|none=>False):=by
 rcases h with rfl|rfl <;> exact q
theorem ij.lst(xs:List D):ij (.lst xs) xs:=.inl rfl
theorem ij.tup(xs:List D):ij (.tup xs) xs:=.inr rfl
theorem ij.items{d:D}{xs:List D}(h:ij d xs):aR d=xs:=by rcases h with rfl|rfl <;> rfl
def nSt:Expr->Bool
 | .Starred _ _=>false
 | _=>true
theorem gL{e:Expr}{es:List Expr}{env:Env}(h:nSt e=true):starEach (e::es) env=(false,eval e env)::starEach es env:=by
 cases e <;> first|rfl|cases h
theorem fN{env:Env}{pos:Pos}:∀{es:List Expr},es.all nSt=true->(backTo pos (starEach es env)).any (·.1)=false
 | [],_=>rfl
 | e::es,h=>by
  rw [all_cons,and_eq_true] at h;rw [gL h.1];show (false || (backTo pos (starEach es env)).any (·.1))=false;rw [fN h.2];rfl
section
variable {X:Cx}{k:Nat}{x:Str}{ps:List Str}{sp:Sp}{e:Expr}{es:List Expr}{te:TE}{t:TA}{p pos:Pos}{dvs:List V}{C:Addr}{id T:String}{r:List V->Hp->VK->Prop}
theorem paC(ha:PE X e te)(hr:PA X es t)(hn:nSt e=true:=by rfl):PA X (e::es) (aJ te t):=AM ha hr (gL hn)
theorem aD(C:Cal X.prog X.w X.K X.mg X.base k x ps sp)(hr:gx k X.A)(ha:PA X (e::es) t)(hg:Gl X x:=by rfl)(hdb:(x == ("__debug__":Str))=false:=by decide)(hn:nSt e=true:=by rfl)(hp:es.all nSt=true:=by rfl) :
  PE X (.Call (.Name x p) (e::es) [] pos) (ei sp [] E0 t):=DC C hr ha hg hdb (gL hn) (fN hp)
theorem yW(j:Nat)(C:DJ X.prog X.w X.K X.mg X.base k x ps dvs sp)(hr:gx k X.A)(hj:j<=dvs.length)(ha:PA X (e::es) t)(hg:Gl X x:=by rfl)(hdb:(x == ("__debug__":Str))=false:=by decide)(hn:nSt e=true:=by rfl)(hp:es.all nSt=true:=by rfl) :
  PE X (.Call (.Name x p) (e::es) [] pos) (ei sp (dvs.drop j) E0 t):=Bb j C hr hj ha hg hdb (gL hn) (fN hp)
theorem tI(M:DM X.prog X.w X.K X.mg X.base k C x ps sp)(hr:gx (k+1) X.A)(ha:PA X (e::es) t)(hg:Gl X x:=by rfl)(hdb:(x == ("__debug__":Str))=false:=by decide)(hn:nSt e=true:=by rfl)(hp:es.all nSt=true:=by rfl) :
  PE X (.Call (.Name x p) (e::es) [] pos) (yb C sp [] E0 t):=Bc M hr ha hg hdb (gL hn) (fN hp)
theorem ay(hc:cu X (.builtin id) r)(hg:Gl X x)(hm:X.mg x=none)(hv:bootBuiltins x=some (.builtin id))(ha:PA X (e::es) t)(hnn:x≠"__name__":=by decide)(hdb:(x == ("__debug__":Str))=false:=by decide)(hn:nSt e=true:=by rfl)(hp:es.all nSt=true:=by rfl) :
  PE X (.Call (.Name x p) (e::es) [] pos) (tCB r t):=yf hc hg hm hv ha hnn hdb (gL hn) (fN hp)
theorem aO(hc:cu X (.type T) r)(hg:Gl X x)(hm:X.mg x=none)(hv:bootBuiltins x=some (.type T))(ha:PA X (e::es) t)(hnn:x≠"__name__":=by decide)(hdb:(x == ("__debug__":Str))=false:=by decide)(hn:nSt e=true:=by rfl)(hp:es.all nSt=true:=by rfl) :
  PE X (.Call (.Name x p) (e::es) [] pos) (tCB r t):=vA hc hg hm hv ha hnn hdb (gL hn) (fN hp)
end
def plT:Expr->Bool
 | .Call _ _ _ _=>true
 | .Name _ _=>true
 | .Subscript _ _ _=>true
 | .Attribute _ _ _=>true
 | _=>false
theorem BH{e:Expr}{env:Env}(h:plT e=true):∀whole,isTrue e env whole=(do let v <- whole;standAt e.pos;holding [v] (truthy v)):=by
 cases e <;> first|(intro _;rfl)|cases h
theorem gM{X:Cx}{e:Expr}{t:TE}(h:PE X e t)(hp:plT e=true:=by rfl):PT X e (tB t):=CV h (BH hp)
def gA(a b:List Nat):Bool:=decide (0<=fnd b a 0)
def du(ps:List (List Nat))(i:Nat):Bool:=!decide (pw ps i∈ps.take i) && !(ps.filter fun o=>decide ((pw ps i).length<o.length)).any fun o=>gA (pw ps i) o
theorem oE{a b:List Nat}:gA a b=true ↔ ∃k,stA b a k=true:=by
 unfold gA
 constructor
 .intro h;have h0:fnd b a 0≠-1:=fun z=>by rw [z] at h;exact absurd (of_decide_eq_true h) (by decide)
  obtain⟨k,_,_,h1,_⟩:=sV h0;exact⟨k,h1⟩
 .rintro⟨k,hk⟩
  by_cases h0:fnd b a 0=-1
  .rw [yt h0 k (zero_le _)] at hk;cases hk
  .obtain⟨j,e,_⟩:=sV h0;rw [e];exact decide_eq_true (by omega)
theorem yX(a:List Nat):gA a a=true:=oE.mpr ⟨0,decide_eq_true ⟨by omega,by rw [drop_zero,take_length]⟩⟩
theorem wO{a b c:List Nat}(h1:gA a b=true)(h2:gA b c=true):gA a c=true:=by
 obtain⟨k1,e1⟩:=oE.mp h1;obtain⟨k2,e2⟩:=oE.mp h2;obtain⟨l1,t1⟩:=of_decide_eq_true e1;obtain⟨l2,t2⟩:=of_decide_eq_true e2;refine oE.mpr ⟨k2+k1,decide_eq_true ⟨by omega,?_⟩⟩
 have hb:b.drop k1=(c.drop (k2+k1)).take (b.length - k1):=by
  rw [<- t2,drop_take,drop_drop,t2]
 have ha:a=((c.drop (k2+k1)).take (b.length - k1)).take a.length:=by rw [<- hb,t1]
 rw [take_take,show min a.length (b.length - k1)=a.length by omega] at ha;exact ha.symm
theorem yY{ps:List (List Nat)}{i:Nat}:du ps i=true ↔ pw ps i∉ps.take i/\∀o∈ps,(pw ps i).length<o.length->gA (pw ps i) o=false:=by
 unfold du;rw [and_eq_true,Bool.not_eq_true',Bool.not_eq_true',decide_eq_false_iff_not,any_eq_false]
 constructor
 .rintro⟨h1,h2⟩;refine⟨h1,fun o ho hl=>?_⟩;have:=h2 o (mem_filter.mpr ⟨ho,decide_eq_true hl⟩);simpa using this
 .rintro⟨h1,h2⟩;refine⟨h1,fun o ho=>?_⟩;obtain⟨m1,m2⟩:=mem_filter.mp ho;rw [h2 o m1 (of_decide_eq_true m2)];decide
theorem wP{ps:List (List Nat)}(hw:∀w∈ps,w.length<=60):∀(m i:Nat),i<ps.length->(61 - (pw ps i).length)*(ps.length+1)+i<=m->∃j,j<ps.length/\du ps j=true/\gA (pw ps i) (pw ps j)=true:=by
 intro m
 induction m with
 | zero =>
  intro i hi h;have hl:=hw _ (mem_of_getElem? (io hi));have:0<(61 - (pw ps i).length)*(ps.length+1):=mul_pos (by omega) (by omega);omega
 | succ m ih =>
  intro i hi h;have hl:=hw _ (mem_of_getElem? (io hi))
  by_cases hk:du ps i=true
  .exact⟨i,hi,hk,yX _⟩
  .by_cases h1:pw ps i∈ps.take i
   .obtain⟨i',hi'⟩:=mem_iff_getElem?.mp h1
    have hlt:i'<i:=by
     have:=(List.getElem?_eq_some_iff.mp hi').1;rw [length_take] at this;omega
    have he:pw ps i'=pw ps i:=by
     rw [getElem?_take,if_pos hlt] at hi';have:=io (ws:=ps) (k:=i') (by omega);rw [hi'] at this;exact (Option.some.inj this).symm
    obtain⟨j,a1,a2,a3⟩:=ih i' (by omega) (by rw [he];omega);exact⟨j,a1,a2,by rw [<- he];exact a3⟩
   .have h2:∃o∈ps,(pw ps i).length<o.length/\gA (pw ps i) o=true:=by
     apply Classical.byContradiction;intro z;refine hk (yY.mpr ⟨h1,fun o ho hlo=>?_⟩)
     cases hs:gA (pw ps i) o with
     | false=>rfl
     | true=>exact absurd ⟨o,ho,hlo,hs⟩ z
    obtain⟨o,ho,hlo,hs⟩:=h2;obtain⟨i',hi'⟩:=mem_iff_getElem?.mp ho;have hlt:i'<ps.length:=(List.getElem?_eq_some_iff.mp hi').1
    have he:pw ps i'=o:=by
     have:=io hlt;rw [hi'] at this;exact (Option.some.inj this).symm
    have hm:(61 - o.length+1)*(ps.length+1)<=(61 - (pw ps i).length)*(ps.length+1):=mul_le_mul_right _ (by have:=hw o ho;omega);rw [add_mul,Nat.one_mul] at hm;obtain⟨j,a1,a2,a3⟩:=ih i' hlt (by rw [he];omega);rw [he] at a3;exact⟨j,a1,a2,wO hs a3⟩
def rR(a b:List Nat)(k:Nat):Prop:=k<min a.length b.length/\b.take k <:+ a/\∀j,j<min a.length b.length->b.take j <:+ a->j<=k
theorem rR.uniq{a b:List Nat}{j k:Nat}(x:rR a b j)(y:rR a b k):j=k:=le_antisymm (y.2.2 j x.1 x.2.1) (x.2.2 k y.1 y.2.1)
def ml(a b:List Nat):Nat:=open Classical in if h:∃k,rR a b k then Classical.choose h else 0
theorem wQ{a b:List Nat}(ha:0<a.length)(hb:0<b.length):rR a b (ml a b):=by
 obtain⟨k,h1,h2,h3⟩:=lc (fun k=>b.take k <:+ a) (by rw [take_zero];exact nil_suffix) (min a.length b.length) (by omega);have h:∃k,rR a b k:=⟨k,h1,h2,h3⟩
 unfold ml;rw [dif_pos h];exact Classical.choose_spec h
theorem oF{a b:List Nat}{k:Nat}(h:rR a b k):ml a b=k:=(wQ (by have:=h.1;omega) (by have:=h.1;omega)).uniq h
def aP(ps:List (List Nat)):List Nat:=(List.range ps.length).filter (du ps)
def wR(ps:List (List Nat)):List Nat:=(List.range ps.length).filter fun i=>!decide (i∈aP ps)
def ai(ps:List (List Nat)):List (List Nat):=(aP ps).map (pw ps)
theorem gN{ps:List (List Nat)}{i:Nat}(h:i∈aP ps):i<ps.length:=mem_range.mp (mem_filter.mp h).1
theorem jK(ps:List (List Nat)):(aP ps).length<=ps.length:=Nat.le_trans (length_filter_le ..) (by rw [length_range];omega)
theorem h9{m:Nat}{ps:List (List Nat)}(h:Pcs m ps):Pcs m (ai ps):=fun w hw=>by
 obtain⟨i,hi,rfl⟩:=mem_map.mp hw;exact h _ (gJ (gN hi))
theorem fA(ps:List (List Nat)):(ai ps).length<=ps.length:=by unfold ai;rw [length_map];exact jK ps
def lz(ps:List (List Nat))(i:Nat):List Nat:=(aP ps).filter fun j=>gA (pw ps i) (pw ps j)
def tJ(ps:List (List Nat))(i:Nat):Nat:=(lz ps i).headD 0
theorem tK{l:List Nat}(h:l.Pairwise (·<·)){m:Nat}(hm:m∈l)(hle:∀a∈l,m<=a):l.headD 0=m:=by
 cases l with
 | nil=>cases hm
 | cons x r =>
  show x=m;have h1:=hle x (mem_cons_self ..)
  rcases mem_cons.mp hm with e|e
  .exact e.symm
  .have:=(pairwise_cons.mp h).1 m e;omega
theorem qm(ps:List (List Nat)):(aP ps).Pairwise (·<·):=pairwise_lt_range.filter _
theorem wS{ps:List (List Nat)}{i m:Nat}(hm:m∈lz ps i)(hle:∀a∈lz ps i,m<=a):tJ ps i=m:=tK ((qm ps).filter _) hm hle
theorem uK{ps:List (List Nat)}(hw:∀w∈ps,w.length<=60){i:Nat}(hi:i<ps.length):∃j,j∈lz ps i:=by
 obtain⟨j,h1,h2,h3⟩:=wP hw _ i hi (Nat.le_refl _);exact⟨j,mem_filter.mpr ⟨mem_filter.mpr ⟨mem_range.mpr h1,h2⟩,h3⟩⟩
def eC(ps:List (List Nat))(i:Nat):D:=.tup [.int (i:Int),.int (tJ ps i:Int),.int (fnd (pw ps (tJ ps i)) (pw ps i) 0)]
def Eg(ws:List (List Nat)):D:=.tup (ws.map fun w=>.tup (ws.map fun v=>.int (ml w v:Int)))
def BI(ps:List (List Nat)):Int:=((ai ps).map fun w=>(w.length:Int)).sum
def nD(k:Nat):D:=.int (k:Int)
def jL:List Str:=["pieces","kept","words","left","laps","total"]
def jM(ps:List (List Nat)):List D:=[.tup (ps.map .str),.tup ((aP ps).map nD),.tup ((ai ps).map .str),.tup ((wR ps).map (eC ps)),Eg (ai ps),.int (BI ps)]
theorem wT{ks:List Nat}{k:Nat}(h:k<(ks.map nD).length):itD (ks.map nD) k=.int ((ks.getD k 0:Nat):Int):=dY (by
 have h:k<ks.length:=by rwa [length_map] at h
 rw [getElem?_map,getD_eq_getElem?_getD,getElem?_eq_getElem h];rfl)
theorem oG(w:List Nat):∀ws:List (List Nat),inD (.str w) (ws.map .str)=decide (w∈ws)
 | []=>by simp [inD]
 | v::r=>by
  have ih:=oG w r;unfold inD at ih ⊢;rw [map_cons,any_cons,ih];show ((v == w) || decide (w∈r))=_
  by_cases h:v=w
  .subst h;simp
  .rw [beq_eq_false_iff_ne.mpr h,Bool.false_or]
   by_cases h2:w∈r
   .rw [decide_eq_true h2,decide_eq_true (mem_cons_of_mem _ h2)]
   .rw [decide_eq_false h2,decide_eq_false (fun z=>(mem_cons.mp z).elim (fun e=>h e.symm) h2)]
theorem tL(k:Nat):∀ks:List Nat,inD (.int (k:Int)) (ks.map nD)=decide (k∈ks)
 | []=>by simp [inD]
 | v::r=>by
  have ih:=tL k r;unfold inD at ih ⊢;rw [map_cons,any_cons,ih];show (((v:Int) == (k:Int)) || decide (k∈r))=_
  by_cases h:v=k
  .subst h;simp
  .rw [show ((v:Int) == (k:Int))=false from beq_eq_false_iff_ne.mpr (by omega),Bool.false_or]
   by_cases h2:k∈r
   .rw [decide_eq_true h2,decide_eq_true (mem_cons_of_mem _ h2)]
   .rw [decide_eq_false h2,decide_eq_false (fun z=>(mem_cons.mp z).elim (fun e=>h e.symm) h2)]
theorem wU(ws:List (List Nat)):(ws.map D.str).all D.fl=true:=by rw [all_map];exact all_eq_true.mpr fun _ _=>rfl
theorem BJ(ks:List Nat):(ks.map nD).all D.fl=true:=by rw [all_map];exact all_eq_true.mpr fun _ _=>rfl
theorem tM(ws:List (List Nat)):(List.range ws.length).map (pw ws)=ws:=by
 apply ext_getElem?;intro k;rw [getElem?_map]
 by_cases hk:k<ws.length
 .rw [getElem?_range hk,io hk];rfl
 .rw [getElem?_eq_none (by rw [length_range];omega),getElem?_eq_none (by omega)];rfl
theorem yZ{β:Type}(f:List Nat->Option β)(ws:List (List Nat)):(List.range ws.length).filterMap (fun k=>f (pw ws k))=ws.filterMap f:=by
 conv=>rhs;rw [<- tM ws]
 rw [filterMap_map];rfl
theorem cV{α β:Type}(p:α->Bool)(g:α->β):∀l:List α,l.filterMap (fun a=>if p a=true then some (g a) else none)=(l.filter p).map g
 | []=>rfl
 | a::r=>by
  rw [filterMap_cons,filter_cons]
  cases h:p a with
  | true=>simp [cV p g r]
  | false=>simp [cV p g r]
theorem y0{β:Type}(f:Nat->Option β)(ks:List Nat):(List.range ks.length).filterMap (fun k=>f (ks.getD k 0))=ks.filterMap f:=by
 have e:(List.range ks.length).map (fun k=>ks.getD k 0)=ks:=by
  have:=fM (fun k=>k) ks;rw [List.map_id'] at this;exact this
 conv=>rhs;rw [<- e]
 rw [filterMap_map];rfl
theorem jN(n:Nat):(u0 0 n).length=n:=by unfold u0;rw [length_map,length_range]
theorem oH{n j:Nat}(h:j<(u0 0 n).length):itD (u0 0 n) j=.int (j:Int):=dY (by
 rw [jN] at h;unfold u0;rw [getElem?_map,getElem?_range h];show some (D.int (0+(j:Int)))=_;rw [Int.zero_add])
abbrev vmB:List Value:=[.type "ValueError",.type "Exception",.type "BaseException",.type "object"]
open PySem.Builtin PySem.Builtin.ObjectAttr
open PySem.Builtin PySem.Builtin.ObjectAttr
open PySem.Builtin PySem.Builtin.ObjectAttr
open PySem.Builtin PySem.Builtin.ObjectAttr
section
variable {prog:Program}{w:World}{A:Around}{E:Value->Shared->Prop}{K:PySem.W.Frag}{h:Heap}{g:Array GenState}{d:Drawn}{t:Nat}{os:OsState}
variable {nm q:Str}{C G N x dx:Addr}{bs:List Value}{sn:List Str}{sub:List Value}{ab:Bool}{col:Option Bool}{k0 k1 k2 k3 k5:Option Value}{name:Str}{v:Value}{o:Obj}{vs:Array Value}{mA:Str->Option Value}
structure XC (K:PySem.W.Frag) (C G:Addr):Prop where
 obj:∃nm q N bs sn sub ab col k0 k1 k2 k3 k5,K.lookup C=some (excClassObj nm q C N bs (.ref G::vmB) true sn sub ab col none k0 k1 k2 k3 k5 "ValueError.__new__")
 ga:PySem.W.findIn K (.ref C) "__getattribute__"=some (some (.builtin "BaseException.__getattribute__"))
 gh:PySem.W.findIn K (.ref C) "__getattr__"=some none
 sa:PySem.W.findIn K (.ref C) "__setattr__"=some (some (.builtin "object.__setattr__"))
 cl:PySem.W.findIn K (.ref C) "__class__"=some (some (.builtin "object.__class__"))
end
theorem XAt.ok{P:Program}{w:World}{H:Hp}{h:Heap}{x C:Addr}{dd:Option Addr}{new:Bool}(p:XAt x C dd new h):bY P w H h x (.ext (XAt x C dd new)):=by
 obtain⟨o,vs,h1,h2,h3,h4⟩:=id p;exact⟨p,⟨o,h1⟩,fun g1 g2 ⟨o',vs',a1,a2⟩ k=>⟨o',vs',k _ a1,a2⟩⟩
theorem bY.there{P:Program}{w:World}{H:Hp}{h:Heap}{a:Addr}{o:HO}(x:bY P w H h a o):∃ob,h.get? a=some ob:=by
 cases o with
 | lst xs=>obtain⟨_,_,_,_,e⟩:=x;exact⟨_,e⟩
 | tup xs=>obtain⟨_,_,_,ob,e,_⟩:=x;exact⟨ob,e⟩
 | dK kvs=>obtain⟨_,_,_,_,o,_,_,e,_⟩:=x;exact⟨o,e⟩
 | dT kvs=>obtain⟨_,_,_,_,o,_,_,e,_⟩:=x;exact⟨o,e⟩
 | set S n=>obtain⟨o,_,_,_,e,_⟩:=x;exact⟨o,e⟩
 | ins C dx fs=>obtain⟨_,_,_,e,_⟩:=x;exact⟨_,e⟩
 | own y=>exact x
 | xd fs=>obtain⟨_,⟨o,_,_,e,_⟩,_⟩:=x;exact⟨o,e⟩
 | rng lo hi=>obtain⟨_,_,_,e⟩:=x;exact⟨_,e⟩
 | frz ob u=>obtain⟨e,_⟩:=x;exact⟨ob,e⟩
 | tbl ps=>exact⟨_,(show h.get? a=some _ from x)⟩
 | met f y=>exact⟨_,(show h.get? a=some _ from x)⟩
 | ext φ=>exact x.2.1
theorem HOk.not{P:Program}{w:World}{H:Hp}{h:Heap}{a:Addr}(x:HOk P w H h)(e:h.get? a=none):H a=none:=by
 cases q:H a with
 | none=>rfl
 | some u=>obtain⟨ob,e2⟩:=(x a u q).there;rw [e] at e2;cases e2
section
variable {X:Cx}{pins:List (Addr×Obj)}{σ:St}{H:Hp}{s:Shared}{h':Heap}{a:Addr}{o:HO}
theorem Inv.news{t':Nat}(I:Inv X pins σ H s)(k:∀b u,s.heap.get? b=some u->h'.get? b=some u)(hn:s.heap.get? a=none)(new:bY X.prog X.w (upd H a o) h' a o):Inv X pins σ (upd H a o) { s with heap:=h',toks:=t' }:=by
 have ha:=I.hok.not hn
 refine I.un ⟨fun b u q _ _ _=>k b u q,fun b u q _ _ _=>⟨u.slots,k b u q⟩,fun b u q n _=>?_,fun b u q _=>⟨u,k b u q⟩,fun b xs q=>?_,fun b u xs q=>?_,fun b ps q=>⟨#[],?_⟩⟩ fun b u q=>?_
 .rw [aw (fun z=>by rw [z,hn] at q;cases q)];exact n
 .rw [aw (aT q ha)];exact q
 .rw [aw (aT q ha)];exact q
 .rw [aw (aT q ha),q];simp
 .by_cases hb:b=a
  .subst hb;rw [aF] at q;cases q;exact new
  .rw [aw hb] at q;exact (I.hok b u q).stay (fun c v _ e=>k c v e) (fun c e=>by rw [aw (aT e ha)];exact e) fun c xs e=>by rw [aw (aT e ha)];exact e
end
def X0(K:PySem.W.Frag)(C:Addr):Prop:=∀h:Heap,K.In h->∃bm N nm q bs hd sn sub ab col dd k0 k1 k2 k3 k5 mN,
 h.get? C=some (excClassObj nm q C N bs bm hd sn sub ab col dd k0 k1 k2 k3 k5 "ValueError.__new__")/\h.Ns N mN/\mN "__init__"=none/\OwnTail h vmB bm
theorem Eh{K:PySem.W.Frag}{C:Addr}(q:PySem.W.excIn K C vmB "ValueError.__new__"=true):X0 K C:=fun h X=>by
 unfold PySem.W.excIn at q;split at q
 case h_2=>cases q
 case h_1 dd cd sl ho =>
  split at q
  case h_2=>cases q
  case h_1 C' bm k0 k1 k2 k3 n k5 hm hs =>
   simp only [and_eq_true,beq_iff_eq,Bool.not_eq_true'] at q;obtain⟨⟨⟨⟨⟨e1,e2⟩,hdel⟩,ht⟩,hok⟩,hni⟩:=q;subst e1 e2
   cases cd with
   | mk nm bs mro ns qn hd sn sub ab col del =>
    cases sl with
    | mk l =>
     have hs:l=[k0,k1,k2,k3,some (.builtin "ValueError.__new__"),k5]:=hs;have hm:mro=.ref C'::bm:=hm;have hdel:del=false:=hdel;subst hs hm hdel;refine⟨bm,ns,nm,qn,bs,hd,sn,sub,ab,col,dd,k0,k1,k2,k3,k5,_,X _ _ ho,.of_isNs (PySem.W.isNs_of_in X hok),PySem.W.nsMap_none_of_in X hok hni,PySem.W.tail_of_in X ht⟩
theorem BK{K:PySem.W.Frag}{G:Addr}(q:PySem.W.excIn K G vmB "ValueError.__new__"=true)(hg:∃nm q N bs sn sub ab col k0 k1 k2 k3 k5,K.lookup G=some (excClassObj nm q G N bs vmB true sn sub ab col none k0 k1 k2 k3 k5 "ValueError.__new__")) :
  ∀h:Heap,K.In h->OwnTail h vmB (.ref G::vmB):=fun h X=>by
 obtain⟨bm,N,nm,qn,bs,hd,sn,sub,ab,col,dd,k0,k1,k2,k3,k5,mN,h1,h2,h3,_⟩:=Eh q h X;exact .own h1 h2 h3 .base
def Ei(C:Addr):TE:=fun σ H Q=>∀e,H e=none->Q (.ref e) (upd H e (.ext (XAt e C none true)))
section
variable {X:Cx}{C:Addr}{x:Str}{p pos:Pos}
theorem BL(z:X0 X.K C)(kp:PySem.W.keepIn X.K (.ref C)=true)(hm:X.mg x=some (.ref C))(hg:Gl X x:=by rfl)(hdb:(x == ("__debug__":Str))=false:=by decide):PE X (.Call (.Name x p) [] [] pos) (Ei C):=by
 intro pins s σ H Q I h;refine wpAny_Call_Name_kw (jr I hg hm ?_ hdb);refine PySem.W.callWith_K0 I.kIn kp ?_;obtain⟨bm,N,nm,qn,bs,hd,sn,sub,ab,col,dd,k0,k1,k2,k3,k5,mN,h1,h2,h3,h4⟩:=z s.heap I.kIn;have I0:=I;obtain⟨hh,g,d,tk,os⟩:=s;refine wpAny_call_exc_subT PySem.F.excBase_ValueError h4 h1 h2 h3 (fun h' e made=>?_) (by show 0<=sizeLine;exact zero_le _);obtain⟨tt,m1,m2,m3⟩:=made.there;have new:XAt e C none true h':=⟨_,_,m1,rfl,rfl,rfl,(by show 1<6;decide),fun _=>rfl⟩
 exact⟨V.ref e,_,I0.news (t':=tk) made.keeps made.new new.ok,rfl,h e (I0.hok.not made.new)⟩
end
def XCl(K:PySem.W.Frag)(c:Str):Prop:=∃dd cd sl,K.lookup (bc K c)=some ⟨.type "type",dd,.cls cd,sl⟩/\cd.name=c
structure Fb (K:PySem.W.Frag) (cs:List Str):Prop where
 g:XCl K "GlueError"
 n:∀c∈cs,XCl K c
 c:∀c∈cs,XC K (bc K c) (bc K "GlueError")
section
variable {K:PySem.W.Frag}{C G D:Addr}{c d:Str}
theorem XCl.ne(h1:XCl K c)(h2:XCl K d)(n:c≠d):bc K c≠bc K d:=fun e=>by
 obtain⟨_,cd,_,l1,n1⟩:=h1;obtain⟨_,cd2,_,l2,n2⟩:=h2;rw [e,l2] at l1;cases l1;exact n (n1.symm.trans n2)
end
def Fc(c d:Str):Bool:=decide (c=d) || decide (d="GlueError")
section
variable {K:PySem.W.Frag}{ta:TA}{te:TE}{pa:PTA}{pe:PA1}{cs:List Str}
def Ej(c:Str):PTE:=fun ρ Q=>Q (.dat (.exc c [] [])) ρ
end
def xY(h:Heap)(e T:Addr)(fl:Value):Prop:=∃oe vs oT ts,h.get? e=some oe/\oe.data=.fields vs/\vs[1]?=some (.ref T)/\T≠e/\h.get? T=some oT/\oT.data=.fields ts/\ts[3]?=some fl
structure Moved (fs:List Addr) (e:Addr) (T0:Option Addr) (h h':Heap):Prop where
 kp:∀b o,b∉fs->b≠e->T0≠some b->h.get? b=some o->h'.get? b=some o
 sl:∀b o,b∈fs->h.get? b=some o->∃sl,h'.get? b=some { o with slots:=sl }
 ex:∀oe vs,h.get? e=some oe->oe.data=.fields vs->∃oe' vs',h'.get? e=some oe'/\oe'.cls=oe.cls/\oe'.dict=oe.dict/\oe'.data=.fields vs'/\vs'.size=vs.size
section
variable {M:Model}{A:Around}{E:Value->Shared->Prop}{s:Shared}{base:Heap}{env:Env}{outer:List Env}{L e T0:Addr}{oe:Obj}{vs:Array Value}
theorem wV{head:Value}{hadNext:Bool}{Q:Unit->Shared->Prop}(hfr:A.frames=some (env::outer))(hl:s.heap.FunFrames base (env::outer))(hf:env.frame=some L)
  (he:s.heap.get? e=some oe) (hd:oe.data=.fields vs) (hsz:1<vs.size)
  (h:∀h' T,s.heap.objs.size<=T->Moved (frs (env::outer)) e none s.heap h'->xY h' e T (rawInt L)->Q () { s with heap:=h' }) :
  wpAny M A (do let a <- frameOf env;let pl <- entryPlaceOf L hadNext;let b <- EntryCells.newEntry head a .none (rawInt L) .none pl;setField (.ref e) 1 b) Q E s:=by
 have nf:e∉frs (env::outer):=fun hm=>by
  obtain⟨_,o,ho,hn⟩:=hl.mem hm;rw [he] at ho;cases ho;exact hn vs hd
 refine wpAny_bind (wpAny_frameOf_fun hfr hl hf fun g1 hs1=>?_);refine wpAny_bind (wpAny_entryPlaceOf fun pl hpl=>?_);have e1:g1.get? e=some oe:=(hs1.2.1 e nf).trans he;unfold EntryCells.newEntry newFields;refine wpAny_bind (wpAny_newObj_type ?_ (hpl.sizeOk5 _ _ _ _ _))
 have hts:∃ts:Array Value,([head,.ref L,.none,rawInt L,.none]++(if pl.isEmpty then List.replicate 6 Value.none else pl)).toArray=ts/\ts[3]?=some (rawInt L):=⟨_,rfl,by
  rcases hpl with rfl|⟨_,_,_,_,_,_,_,rfl⟩ <;> simp⟩
 obtain⟨ts,ets,t3⟩:=hts;rw [ets];generalize hg2:g1.push { cls:=.type "traceback",dict:=none,data:=.fields ts }=g2;have sz1:g1.objs.size=s.heap.objs.size:=hs1.1;have k2:∀b o,g1.get? b=some o->g2.get? b=some o:=fun b o q=>by rw [<- hg2];exact Heap.get?_push_of_some _ q
 have gT:g2.get? g1.objs.size=some { cls:=.type "traceback",dict:=none,data:=.fields ts }:=by rw [<- hg2];exact Heap.get?_push_size _ rfl
 refine wpAny_setField (k2 _ _ e1) hd hsz ?_;have ne:g1.objs.size≠e:=ne_of_gt (Heap.lt_size e1);generalize hg3:g2.update e (Obj.mapFields (·.setIfInBounds 1 (Value.ref g1.objs.size)))=g3;have d3:=Obj.data_mapFields hd (·.setIfInBounds 1 (Value.ref g1.objs.size));have e3:g3.get? e=some (oe.mapFields (·.setIfInBounds 1 (Value.ref g1.objs.size))):=by rw [<- hg3];exact Heap.get?_update_self _ (k2 _ _ e1) (Obj.isFreed_of_fields d3)
 have k3:∀b o,b≠e->g2.get? b=some o->g3.get? b=some o:=fun b o hb q=>by rw [<- hg3];exact (Heap.get?_update_ne _ _ _ _ hb).trans q
 refine h g3 g1.objs.size (by rw [sz1];exact Nat.le_refl _) ⟨fun b o hb hbe _ q=>k3 b o hbe (k2 b o ((hs1.2.1 b hb).trans q)),fun b o hb q=>?_,fun oe' vs' q1 q2=>?_⟩ ⟨_,_,_,ts,e3,d3,by simp [hsz],ne,k3 _ _ ne gT,rfl,t3⟩
 .obtain⟨sl,q'⟩:=hs1.2.2 b o q;exact⟨sl,k3 b _ (fun z=>nf (by rw [<- z];exact hb)) (k2 b _ q')⟩
 .rw [he] at q1;cases q1;rw [hd] at q2;cases q2;obtain⟨c,dc,dt,sl⟩:=oe;cases hd;exact⟨_,_,e3,rfl,rfl,d3,by simp⟩
theorem BM{Q:Unit->Shared->Prop}(hfr:A.frames=some (env::outer))(hl:s.heap.FunFrames base (env::outer))(hf:env.frame=some L)
  (he:s.heap.get? e=some oe) (hd:oe.data=.fields vs) (h1:vs[1]?=some .none)
  (h:∀h' T,s.heap.objs.size<=T->Moved (frs (env::outer)) e none s.heap h'->xY h' e T (rawInt L)->Q () { s with heap:=h' }):wpAny M A (noteFrame (.ref e) env) Q E s:=by
 unfold noteFrame;simp only [hf];refine wpAny_bind (wpAny_field he hd h1 ?_);rw [if_neg (by decide)];exact wV hfr hl hf he hd (Array.getElem?_eq_some_iff.mp h1).1 h
theorem BN{Q:Unit->Shared->Prop}(hfr:A.frames=some (env::outer))(hl:s.heap.FunFrames base (env::outer))(hf:env.frame=some L)(fly:xY s.heap e T0 .none)(nT:T0∉frs (env::outer))
  (h:∀h' T,s.heap.objs.size<=T->Moved (frs (env::outer)) e (some T0) s.heap h'->xY h' e T (rawInt L)->Q () { s with heap:=h' }):wpAny M A (noteFrame (.ref e) env) Q E s:=by
 obtain⟨oe,vs,oT,ts,he,hd,h1,ne,hT,hdT,h3⟩:=fly;have hsz:1<vs.size:=(Array.getElem?_eq_some_iff.mp h1).1;unfold noteFrame;simp only [hf];refine wpAny_bind (wpAny_field he hd h1 ?_);rw [if_pos (show (Value.ref T0 != Value.none)=true by simp)];refine wpAny_bind (wpAny_field hT hdT h3 ?_);rw [if_neg (show ¬ ((Value.none == rawInt L)=true) by simp [rawInt])];refine wpAny_bind (wpAny_setField hT hdT (Array.getElem?_eq_some_iff.mp h3).1 ?_)
 have ot:∀b,b≠T0->(s.heap.update T0 (Obj.mapFields (·.setIfInBounds 3 Value.none))).get? b=s.heap.get? b:=fun b hb=>Heap.get?_update_ne _ _ _ _ hb;have sz:(s.heap.update T0 (Obj.mapFields (·.setIfInBounds 3 Value.none))).objs.size=s.heap.objs.size:=by simp [Heap.update]
 have hl2:(s.heap.update T0 (Obj.mapFields (·.setIfInBounds 3 Value.none))).FunFrames base (env::outer):=hl.of_keeps fun b o q nf=>⟨o,(ot b (fun z=>by rw [z,hT] at q;cases q;exact nf ts hdT)).trans q,rfl⟩
 refine wV hfr hl2 hf ((ot e (Ne.symm ne)).trans he) hd hsz fun h' T hT' mv fly=>h h' T (by rw [<- sz];exact hT') ⟨fun b o h1 h2 h3 q=>mv.kp b o h1 h2 (by simp) ((ot b (fun z=>h3 (by rw [z]))).trans q),fun b o h1 q=>mv.sl b o h1 ((ot b (fun z=>nT (by rw [<- z];exact h1))).trans q),fun oe' vs' q1 q2=>mv.ex oe' vs' ((ot e (Ne.symm ne)).trans q1) q2⟩ fly
theorem rS{fl:Value}{T:Addr}{Q:Unit->Shared->Prop}(fly:xY s.heap e T fl)(h:∀h',(∀b o,b≠T->s.heap.get? b=some o->h'.get? b=some o)->xY h' e T .none->Q () { s with heap:=h' }):wpAny M A (setFlight (.ref e) none) Q E s:=by
 obtain⟨oe,vs,oT,ts,he,hd,h1,ne,hT,hdT,h3⟩:=fly;unfold setFlight;refine wpAny_bind (wpAny_field he hd h1 ?_);rw [if_pos (show (Value.ref T != Value.none)=true by simp)];have hs3:3<ts.size:=(Array.getElem?_eq_some_iff.mp h3).1;refine wpAny_setField hT hdT hs3 (h _ (fun b o hb q=>(Heap.get?_update_ne _ _ _ _ hb).trans q) ?_);have dT:=Obj.data_mapFields hdT (·.setIfInBounds 3 ((none:Option Addr).elim Value.none fun f=>rawInt f))
 exact⟨oe,vs,_,_,(Heap.get?_update_ne _ _ _ _ (Ne.symm ne)).trans he,hd,h1,ne,Heap.get?_update_self _ hT (Obj.isFreed_of_fields dT),dT,by simp [hs3]⟩
end
def CXe(P:Program)(w:World):CXT:=fun outer H s E e s'=>∃(ea C:Addr) (dd:Option Addr) (H':Hp) (T:Addr),e=.ref ea/\s'.os=s.os/\AllBare s'.gens/\Un (frs outer) [] H H' s.heap s'.heap/\HOk P w H' s'.heap /\
 H' ea=some (.ext (XAt ea C dd false))/\xY s'.heap ea T .none/\s.heap.get? T=none/\H' T=none/\E (.ref ea) dd H'
theorem wW{l:List Env}{h base:Heap}(hl:h.FunFrames base l){b:Addr}(hb:b∈frs l):∃o,h.get? b=some o:=by
 obtain⟨_,o,ho,_⟩:=hl.mem hb;exact⟨o,ho⟩
theorem XAt.moved{fs:List Addr}{ea C:Addr}{dd:Option Addr}{new:Bool}{T0:Option Addr}{h h':Heap}(x:XAt ea C dd new h)(mv:Moved fs ea T0 h h'):XAt ea C dd false h':=by
 obtain⟨o,vs,h1,h2,h3,h4,h5,_⟩:=x;obtain⟨o',vs',q1,q2,q3,q4,q5⟩:=mv.ex o vs h1 h4;exact⟨o',vs',q1,q2.trans h2,q3.trans h3,q4,by rw [q5];exact h5,nofun⟩
theorem HOk.moved{P:Program}{w:World}{H H':Hp}{h h1 h2:Heap}{fs:List Addr}{ea C T:Addr}{dd:Option Addr}{new:Bool}{T0:Option Addr}(ok:HOk P w H h)(hea:H ea=some (.ext (XAt ea C dd new)))(mv:Moved fs ea T0 h h1)(hT:h.objs.size<=T)(un:∀b o,b≠T->h1.get? b=some o->h2.get? b=some o)
  (hfs:∀b∈fs,H b=none) (hT0:∀b,T0=some b->H b=none) (fly:xY h2 ea T .none) (hH:H'=upd H ea (.ext (XAt ea C dd false))):HOk P w H' h2:=fun b o eb=>by
 subst hH;have ne:∀c u,H c=some u->c≠T:=fun c u q=>ne_of_lt (lt_of_lt_of_le (ok.lt q) hT);have kp:∀c u,c≠ea->H c=some u->∀v,h.get? c=some v->h2.get? c=some v:=fun c u hc q v z=>un c v (ne c u q) (mv.kp c v (fun m=>by rw [hfs c m] at q;cases q) hc (fun e=>by rw [hT0 c e] at q;cases q) z)
 by_cases hb:b=ea
 .subst hb;rw [aF] at eb;cases eb;have x:XAt b C dd new h:=(ok b _ hea).1;obtain⟨o',vs',q1,q2,q3,q4,q5,q6⟩:=x.moved mv;exact XAt.ok ⟨o',vs',un b o' (ne b _ hea) q1,q2,q3,q4,q5,q6⟩
 .rw [aw hb] at eb
  refine (ok b o eb).stay (fun c v hc q=>?_) (fun c q=>?_) fun c xs q=>?_
  .rcases hc with rfl|hc
   .exact kp c o hb eb v q
   .exact kp c _ (fun z=>by rw [z,hea] at hc;cases hc) hc v q
  .rw [aw (fun z=>by rw [z,hea] at q;cases q)];exact q
  .rw [aw (fun z=>by rw [z,hea] at q;cases q)];exact q
section
variable {P:Program}{w:World}{K:PySem.W.Frag}{mg:Str->Option Value}{base:Heap}{N:List Str}{qual:Str}{scope:Scope}{f:Addr}{cd:Value}{A:Around}{outer:List Env}{s0:Shared}{H0:Hp}{E:XK}{pins:List (Addr×Obj)}{σ:St}{H:Hp}{s:Shared}
theorem wX{ea C:Addr}{dd:Option Addr}(I:Inv (sQ (CXe P w) P w K mg base N qual scope f cd A outer s0 H0 E) pins σ H s)(hea:H ea=some (.ext (XAt ea C dd true)))(hE:E (.ref ea) dd (upd H ea (.ext (XAt ea C dd false)))) :
  (sQ (CXe P w) P w K mg base N qual scope f cd A outer s0 H0 E).xe (.ref ea) s:=by
 obtain⟨⟨o,vs,h1,h2,h3,h4,h5,h6⟩,_,_⟩:=(show bY P w H s.heap ea (.ext (XAt ea C dd true)) from I.hok ea _ hea)
 show wpAny (model P w) _ (leaving _ (.ref ea)) _ _ s;unfold leaving;refine wpAny_bind (BM I.ok.frames I.stack rfl h1 h4 (h6 rfl) fun g1 T hT mv fly=>?_);refine rS fly fun g2 un fly2=>?_;have hf2:∀b∈frs (envOfC qual scope s0.heap.objs.size f cd::outer),H b=none:=I.stkFree;have hok:=I.hok.moved hea mv hT un hf2 (fun b e=>nomatch e) fly2 rfl;have old:∀b o,s0.heap.get? b=some o->b≠s0.heap.objs.size:=fun b o q=>ne_of_lt (Heap.lt_size q)
 have bT:∀b o,s.heap.get? b=some o->b≠T:=fun b o q=>ne_of_lt (lt_of_lt_of_le (Heap.lt_size q) hT);have nea:∀b,H b=none->b≠ea:=fun b n z=>by rw [z,hea] at n;cases n
 have sub:∀b,b∈frs outer->b∈frs (envOfC qual scope s0.heap.objs.size f cd::outer):=fun b hb=>mem_cons_of_mem _ hb
 have nsub:∀b o,s0.heap.get? b=some o->b∉frs outer->b∉frs (envOfC qual scope s0.heap.objs.size f cd::outer):=fun b o q hb z=>by
  rcases mem_cons.mp (show b∈s0.heap.objs.size::frs outer from z) with z|z
  .exact old b o q z
  .exact hb z
 have un0:Un (frs outer) [] H0 (upd H ea (.ext (XAt ea C dd false))) s0.heap g2:=by
  refine⟨fun b ob q n hb hx=>?_,fun b ob q n hb hx=>?_,fun b ob q n hx=>?_,fun b ob q hx=>?_,fun b xs q=>?_,fun b ob u q=>?_,fun b ps q=>?_⟩
  .have q1:=I.base.keep b ob q n hb hx;have n1:=I.base.free b ob q n hx;exact un b ob (bT b ob q1) (mv.kp b ob (nsub b ob q hb) (nea b n1) (by simp) q1)
  .obtain⟨sl,q1⟩:=I.base.slot b ob q n hb hx;obtain⟨sl2,q2⟩:=mv.sl b _ (sub b hb) q1;exact⟨sl2,un b _ (bT b _ q1) q2⟩
  .have n1:=I.base.free b ob q n hx;rw [aw (nea b n1)];exact n1
  .obtain⟨o1,q1⟩:=I.base.there b ob q hx
   by_cases hbe:b=ea
   .subst hbe;obtain⟨o2,vs2,q2,_⟩:=mv.ex o vs h1 h4;exact⟨o2,un b o2 (bT b _ q1) q2⟩
   .by_cases hb:b∈frs (envOfC qual scope s0.heap.objs.size f cd::outer)
    .obtain⟨sl2,q2⟩:=mv.sl b _ hb q1;exact⟨_,un b _ (bT b _ q1) q2⟩
    .exact⟨o1,un b o1 (bT b _ q1) (mv.kp b o1 hb hbe (by simp) q1)⟩
  .have q1:=I.base.tups b xs q;rw [aw (fun z=>by rw [z,hea] at q1;cases q1)];exact q1
  .have q1:=I.base.frzs b ob u q;rw [aw (fun z=>by rw [z,hea] at q1;cases q1)];exact q1
  .obtain⟨m,q1⟩:=I.base.tbls b ps q;exact⟨m,by rw [aw (fun z=>by rw [z,hea] at q1;cases q1)];exact q1⟩
 refine⟨ea,C,dd,_,T,rfl,I.os,I.bare,un0,hok,aF,fly2,?_,?_,hE⟩
 .cases q:s0.heap.get? T with
  | none=>rfl
  | some ob =>
   obtain⟨o1,q1⟩:=I.base.there T ob q (show T∉([]:List Addr) by simp);exact absurd rfl (bT T o1 q1)
 .rw [aw (fun z=>by
   have:=I.hok.lt hea;rw [<- z] at this;exact absurd (lt_of_lt_of_le this hT) (Nat.lt_irrefl _))]
  exact I.hok.fresh hT
end
section
variable {prog:Program}{w:World}{A:Around}{E:Value->Shared->Prop}{K:PySem.W.Frag}{env:Env}
theorem BO{Q:Flow->Shared->Prop}{x:Sem Value}{s:Shared}(hh:A.handled=none)
  (hx:wpAny (model prog w) A x (fun v s₁=>∃ea C G dd,v=.ref ea/\K.In s₁.heap/\XC K C G/\XAt ea C dd true s₁.heap/\E (.ref ea) s₁) E s):wpAny (model prog w) A (raiseStmt env (some x) none) Q E s:=by
 unfold raiseStmt;refine wpAny_bind (wpAny_mono hx (fun v s1 h1=>?_) fun _ _ z=>z);obtain⟨ea,C,G,dd,rfl,X,c,⟨o,vs,q1,q2,q3,q4,q5,q6⟩,hE⟩:=h1;obtain⟨nm,q,N,bs,sn,sub,ab,col,k0,k1,k2,k3,k5,e⟩:=c.obj;have hC:=X _ _ e;obtain⟨hp,g,d,tk,os⟩:=s1;have own:(Value.ref C::.ref G::vmB).contains (.type "BaseException")=true:=rfl;have qn:=q6 rfl
 repeat (first
  | (with_reducible refine wpAny_loadPart_at q1 ?_;first | rw [q2] | rw [q4] | skip)
  | with_reducible refine wpAny_loadPart_at hC ?_
  | (with_reducible refine wpAny_isSubtype_exc hC ?_;rw [own])
  | with_reducible refine wpAny_field q1 q4 qn ?_
  | wp_step)
 exact wpAny_raiseNew_none hh hE
end
def RX(X:Cx)(J:St->XK):Prop:=∀(pins:List (Addr×Obj)) (σ:St) (H:Hp) (s:Shared) (ea C:Addr) (dd:Option Addr),Inv X pins σ H s->H ea=some (.ext (XAt ea C dd true))->J σ (.ref ea) dd (upd H ea (.ext (XAt ea C dd false)))->X.xe (.ref ea) s
def zY(K:PySem.W.Frag)(te:TE)(J:St->XK):TS:=fun D σ H=>te σ H fun v H1=>∃ea C G dd,v=.ref ea/\H1 ea=some (.ext (XAt ea C dd true))/\XC K C G/\J σ (.ref ea) dd (upd H1 ea (.ext (XAt ea C dd false)))
section
variable {X:Cx}{J:St->XK}{x:Expr}{pos:Pos}{te:TE}
theorem za(K:PySem.W.Frag)(ek:X.K=K)(hc:X.calm=true)(hx:RX X J)(he:PE X x te):PS X (.Raise (some x) none pos) (zY K te J):=by
 subst ek;intro pins s σ H D I h
 have key:wpAny (model X.prog X.w) X.A (raiseStmt X.env (some (do let v <- eval x X.env;standAt pos;pure v)) none) (SP X pins D) X.xe s:=by
  refine BO (K:=X.K) (I.ok.hd hc) (wpAny_bind (wpAny_mono (he pins s σ H _ I h) (fun u s1 ⟨v,H1,I1,rv,ea,C,G,dd,ev,hea,c,hj⟩=>wpAny_bind (wpAny_standAt (wpAny_pure ?_))) fun _ _ z=>z));subst ev;obtain rfl:u=Value.ref ea:=rv;have ok:=(show bY X.prog X.w H1 s1.heap ea (.ext (XAt ea C dd true)) from I1.hok ea _ hea)
  exact⟨ea,C,G,dd,rfl,I1.kIn,c,ok.1,hx pins σ H1 s1 ea C dd I1 hea hj⟩
 rw [arm_exec_Raise]
 first
  | exact wpAny_bind (wpAny_standAt key)
  | (simp only [evalOpt,Option.map];exact wpAny_bind (wpAny_standAt key))
  | (show wpAny _ _ (do standAt pos;raiseStmt X.env (some (do let v <- eval x X.env;standAt pos;pure v)) none) _ _ s;exact wpAny_bind (wpAny_standAt key))
theorem Ek{P:Program}{w:World}{K:PySem.W.Frag}{mg:Str->Option Value}{base:Heap}{N:List Str}{qual:Str}{scope:Scope}{f:Addr}{cd:Value}{A:Around}{outer:List Env}{s0:Shared}{H0:Hp}{E:XK} :
  RX (sQ (CXe P w) P w K mg base N qual scope f cd A outer s0 H0 E) (fun _=>E):=fun pins σ H s ea C dd I hea hj=>wX I hea hj
end
def PX(CX:CXT)(X:Cx)(J:St->XK):Prop:=∀(pins:List (Addr×Obj)) (σ:St) (H:Hp) (s:Shared) (e:Value) (s':Shared),Inv X pins σ H s->CX X.stack H s (J σ) e s'->X.xe e s'
def wY(sp:Sp)(J:St->XK)(t:TA):TE:=fun σ H Q=>t σ H fun vs H1=>sp vs H1 Q (J σ)
structure El (P:Program) (w:World) (K:PySem.W.Frag) (mg:Str->Option Value) (base:Heap) (k:Nat) (x:Str) (ps:List Str) (sp:Sp):Prop where
 ex:∃(f:Addr) (fd:FuncData),m7 P w K mg base (CXe P w) k f fd ps sp/\jw K fd ps []/\PySem.W.keepIn K (.ref f)=true/\mg x=some (.ref f)
section
variable {X:Cx}{k:Nat}{x:Str}{ps:List Str}{sp:Sp}{p pos:Pos}{e:Expr}{es:List Expr}{t:TA}{J:St->XK}
theorem wZ(C:El X.prog X.w X.K X.mg X.base k x ps sp)(hr:gx k X.A)(hx:PX (CXe X.prog X.w) X J)(ha:PA X (e::es) t)(hg:Gl X x:=by rfl)(hdb:(x == ("__debug__":Str))=false:=by decide)(hn:nSt e=true:=by rfl)(hp:es.all nSt=true:=by rfl) :
  PE X (.Call (.Name x p) (e::es) [] pos) (wY sp J t):=by
 obtain⟨f,fd,F,hb,hk,hm⟩:=C.ex;intro pins s σ H Q I h;refine wpAny_Call_Name_kw (jr I hg hm ?_ hdb);refine PySem.W.callWith_K (h₀:=X.base) I.ok.mod.kin hk (thn (ha pos pins s σ H _ I h) fun us s1 ⟨vs,H1,I1,r,q⟩=>⟨I1.kIn,?_⟩) (gL hn) (fN hp);have hl:us.length=ps.length:=by rw [<- r.length];exact F.len _ _ _ _ q
 refine wpAny_call (codeAny_mono (F.run X.A X.stack s1 H1 ⟨us,[]⟩ us vs Q (J σ) hr I1.env0 ?_ r q) fun r s' hq=>?_)
 .have:=hb s1 us I1.kIn (by rw [append_nil];exact hl);rw [append_nil] at this;exact this
 .cases r with
  | error e=>exact hx pins σ H1 s1 e s' I1 hq
  | ok fl =>
   cases fl with
   | ret u=>exact I1.after hq
   | next=>exact False.elim hq
   | brk=>exact False.elim hq
   | cont=>exact False.elim hq
end
section
variable {X:Cx}{pins:List (Addr×Obj)}{σ:St}{H:Hp}{s:Shared}
abbrev Cx.mk'(X:Cx)(e:Value):Cx:={ X with A:=X.A.mark (some e),calm:=false }
theorem Inv.mark(I:Inv X pins σ H s)(e:Value):Inv (X.mk' e) pins σ H s :=
 ⟨⟨I.ok.mod,I.ok.kind,I.ok.glob,I.ok.blt,I.ok.above,I.ok.inj,I.ok.has,I.ok.cab,nofun,I.ok.frames,I.ok.stk,I.ok.exf,I.ok.bs,I.ok.bsz,I.ok.noex,I.ok.exfs,I.ok.funs,I.ok.frf⟩,I.os,I.bare,I.base,I.loc,I.cell,I.free,I.freeC,I.pin,I.hok,I.len⟩
theorem Inv.unmark{e:Value}(I:Inv (X.mk' e) pins σ H s)(hd:X.calm=true->X.A.handled=none):Inv X pins σ H s :=
 ⟨⟨I.ok.mod,I.ok.kind,I.ok.glob,I.ok.blt,I.ok.above,I.ok.inj,I.ok.has,I.ok.cab,hd,I.ok.frames,I.ok.stk,I.ok.exf,I.ok.bs,I.ok.bsz,I.ok.noex,I.ok.exfs,I.ok.funs,I.ok.frf⟩,I.os,I.bare,I.base,I.loc,I.cell,I.free,I.freeC,I.pin,I.hok,I.len⟩
end
section
variable {M:Model}{A:Around}{E:Value->Shared->Prop}{K:PySem.W.Frag}{C G D:Addr}
theorem xb{h:Heap}{g:Array GenState}{d:Drawn}{t:Nat}{os:OsState}{ea:Addr}{dd:Option Addr}{new:Bool}{Q:Bool->Shared->Prop}(X:K.In h)(c:XC K C G)(x:XAt ea C dd new h)
  (hD:∃nm q N bs bm hd sn sub ab col d0 k0 k1 k2 k3 k5 nw,K.lookup D=some (excClassObj nm q D N bs bm hd sn sub ab col d0 k0 k1 k2 k3 k5 nw)/\(Value.ref D::bm).contains (.type "BaseException")=true)
  (hq:Q ((Value.ref C::.ref G::vmB).contains (.ref D)) ⟨h,g,d,t,os⟩):wpAny M A (excMatches (.ref ea) (.ref D)) Q E ⟨h,g,d,t,os⟩:=by
 obtain⟨nm,q,N,bs,sn,sub,ab,col,k0,k1,k2,k3,k5,e⟩:=c.obj;obtain⟨nm',q',N',bs',bm',hd',sn',sub',ab',col',d0',k0',k1',k2',k3',k5',nw',e2,hb⟩:=hD;obtain⟨o,vs,q1,q2,_⟩:=x;have hC:=X _ _ e;have hDo:=X _ _ e2;have f:=tc_notTuple;generalize hbb:(Value.ref C::.ref G::vmB).contains (.ref D)=b at hq;unfold excMatches
 repeat (first
  | (with_reducible refine wpAny_loadPart_at q1 ?_;rw [q2])
  | with_reducible refine wpAny_loadPart_at hDo ?_
  | with_reducible refine wpAny_loadPart_at hC ?_
  | (with_reducible refine wpAny_isSubtype_exc hDo ?_;rw [hb])
  | (with_reducible refine wpAny_isSubtype_exc hC ?_;rw [hbb])
  | wp_step)
 cases b <;> (wp_walk;exact hq)
end
structure FTk (X:Cx) (pins:List (Addr×Obj)) (H:Hp) (T:Addr):Prop where
 nt:H T=none
 sz:X.s₀.heap.objs.size<=T
 nl:T≠X.env.locals
 nc:∀x c,X.env.cells.lookup x=some c->c≠T
 np:∀p∈X.pn++pins,p.1≠T
section
variable {X:Cx}{pins:List (Addr×Obj)}{σ:St}{H:Hp}{s:Shared}
theorem Hg{M:Model}{Er:Value->Shared->Prop}{E1:XK}{e:Value}{s':Shared}{Q:Unit->Shared->Prop}(hst:X.stack=X.env::X.outer)(hfm:X.env.frame=some X.env.locals)(I:Inv X pins σ H s)(h:CXe X.prog X.w X.stack H s E1 e s')
  (k:∀ea C dd H' T s2,e=.ref ea->Inv X pins σ H' s2->H' ea=some (.ext (XAt ea C dd false))->xY s2.heap ea T .none->FTk X pins H' T->E1 (.ref ea) dd H'->Q () s2) :
  wpAny M X.A (noteFrame e X.env) (fun _ s1=>wpAny M X.A (setFlight e none) Q Er s1) Er s':=by
 obtain⟨ea,C,dd,H',T0,rfl,os,bare,un1,hok1,hea,fly0,hT0,hT0',hE1⟩:=h;have hf1:∀b∈frs X.stack,H b=none:=I.stkFree;have hss:=I.stack
 have hl:s'.heap.FunFrames X.base X.stack:=by
  have all:∀l:List Env,(∀b∈frs l,b∈frs X.stack)->s.heap.FunFrames X.base l->s'.heap.FunFrames X.base l:=by
   intro l
   induction l with
   | nil=>intro _ _;trivial
   | cons en r ih =>
    intro hs hl;obtain⟨hk,⟨L,o,hf,hn,ho,hd⟩,hr⟩:=hl;have hL:L∈frs (en::r):=by unfold frs;rw [filterMap_cons,hf];exact mem_cons_self
    obtain⟨sl,q⟩:=un1.slot L o ho (hf1 L (hs L hL)) (hs L hL) (by simp);exact⟨hk,⟨L,_,hf,hn,q,hd⟩,ih (fun b hb=>hs b (by unfold frs;rw [filterMap_cons,hf];exact mem_cons_of_mem _ hb)) hr⟩
  exact all _ (fun _ hb=>hb) hss
 have nT0:T0∉frs X.stack:=fun z=>by
  obtain⟨o,q⟩:=wW hss z;rw [hT0] at q;cases q
 have hf2:∀b∈frs X.stack,H' b=none:=fun b hb=>by
  obtain⟨o,q⟩:=wW hss hb;exact un1.free b o q (hf1 b hb) (by simp)
 have fr:=I.ok.frames;rw [hst] at fr hl nT0 hf2;refine BN fr hl hfm fly0 nT0 fun g1 T hT mv fly=>?_;refine rS fly fun g2 un fly2=>?_;have hok:=hok1.moved hea mv hT un hf2 (fun b e=>by cases e;exact hT0') fly2 rfl
 have upe:upd H' ea (.ext (XAt ea C dd false))=H':=by
  funext b
  by_cases z:b=ea
  .subst z;rw [aF,hea]
  .rw [aw z]
 rw [upe] at hok;have bT:∀b o,s'.heap.get? b=some o->b≠T:=fun b o q=>ne_of_lt (lt_of_lt_of_le (Heap.lt_size q) hT);have bT0:∀b o,s.heap.get? b=some o->some T0≠some b:=fun b o q z=>by cases z;rw [hT0] at q;cases q
 have nea:∀b,H' b=none->b≠ea:=fun b n z=>by rw [z,hea] at n;cases n
 obtain⟨oe,vs,oT,ts,he1,he2,_⟩:=id fly0
 have u:Un (frs X.stack) [] H H' s.heap g2:=by
  rw [hst] at un1 ⊢
  refine⟨fun b ob q n hb hx=>?_,fun b ob q n hb hx=>?_,un1.free,fun b ob q hx=>?_,un1.tups,un1.frzs,un1.tbls⟩
  .have q2:=un1.keep b ob q n hb hx;exact un b ob (bT b ob q2) (mv.kp b ob hb (nea b (un1.free b ob q n hx)) (bT0 b ob q) q2)
  .obtain⟨sl1,q2⟩:=un1.slot b ob q n hb hx;obtain⟨sl2,q3⟩:=mv.sl b _ hb q2;exact⟨sl2,un b _ (bT b _ q2) q3⟩
  .obtain⟨o2,q2⟩:=un1.there b ob q hx
   by_cases hbe:b=ea
   .subst hbe;obtain⟨o3,vs3,q3,_⟩:=mv.ex oe vs he1 he2;exact⟨o3,un b o3 (bT b _ q2) q3⟩
   .by_cases hb:b∈frs (X.env::X.outer)
    .obtain⟨sl2,q3⟩:=mv.sl b _ hb q2;exact⟨_,un b _ (bT b _ q2) q3⟩
    .exact⟨o2,un b o2 (bT b _ q2) (mv.kp b o2 hb hbe (bT0 b ob q) q2)⟩
 have far:∀b o,s.heap.get? b=some o->b<T:=fun b o q=>by
  obtain⟨o2,q2⟩:=un1.there b o q (by simp);exact lt_of_lt_of_le (Heap.lt_size q2) hT
 have hL:X.env.locals<T:=by
  obtain⟨m,⟨o,_,_,ho,_⟩,_⟩:=I.loc;exact far _ o ho
 refine k ea C dd H' T { s' with heap:=g2 } rfl (I.call' (s':={ s' with heap:=g2 }) os u hok bare (fun b z=>nomatch z)) hea fly2 ⟨hok1.fresh hT,le_of_lt (lt_of_le_of_lt I.ok.above hL),Ne.symm (ne_of_lt hL),fun x c q=>?_,fun p hp=>?_⟩ hE1
 .obtain⟨v,o,ho,_⟩:=I.cell x c q;exact ne_of_lt (far c o ho)
 .exact ne_of_lt (far _ _ (I.pin p hp).1)
end
abbrev THd:=Addr->Addr->Option Addr->vd->St->Hp->Prop
def PH(X:Cx)(hs:List ExceptHandler)(th:THd):Prop:=∀(pins:List (Addr×Obj)) (s:Shared) (σ:St) (H:Hp) (ea C:Addr) (dd:Option Addr) (T:Addr) (D:vd),Inv X pins σ H s->H ea=some (.ext (XAt ea C dd false))->xY s.heap ea T .none->FTk X pins H T->th ea C dd D σ H ->
 wpAny (model X.prog X.w) X.A (handleBy (.ref ea) X.env hs) (SP X pins D) X.xe s
def XD(K:PySem.W.Frag)(D:Addr):Prop:=∃nm q N bs bm hd sn sub ab col d0 k0 k1 k2 k3 k5 nw,K.lookup D=some (excClassObj nm q D N bs bm hd sn sub ab col d0 k0 k1 k2 k3 k5 nw)/\(Value.ref D::bm).contains (.type "BaseException")=true
section
variable {X:Cx}{C0:Addr}{cn n:Str}{np pos:Pos}{b0:Stmt}{suite:List Stmt}{rest:List ExceptHandler}{i:Nat}{ts:TS}{tr:THd}
theorem Em:PH X [] (fun _ _ _ _ _ _=>False):=fun _ _ _ _ _ _ _ _ _ _ _ _ _ h=>h.elim
end
def hNo(K:PySem.W.Frag)(C0:Addr)(ts:TS)(tr:THd):THd:=fun ea C dd D σ H=>∃G,XC K C G /\
 ((Value.ref C::.ref G::vmB).contains (.ref C0)=true->ts D σ H) /\
 ((Value.ref C::.ref G::vmB).contains (.ref C0)=false->tr ea C dd D σ H)
abbrev Cx.tryb(X:Cx)(pn:List (Addr×Obj))(E:Value->Shared->Prop):Cx:={ X with pn:=pn,xe:=E }
def GW(tb:(St->XK)->TS)(th:THd):TS:=fun D σ H=>∃J:St->XK,tb J D σ H/\∀(σ':St) (ea:Addr) (dd:Option Addr) (H':Hp),J σ' (.ref ea) dd H'->∃C,H' ea=some (.ext (XAt ea C dd false))/\th ea C dd D σ' H'
section
variable {X:Cx}{C0:Addr}{cn n:Str}{np pos:Pos}{b0:Stmt}{suite body:List Stmt}{rest:List ExceptHandler}{h0:ExceptHandler}{hs:List ExceptHandler}{i:Nat}{ts:TS}{tr th:THd}{tb:(St->XK)->TS}
theorem Gi(K:PySem.W.Frag)(ek:X.K=K)(hx:XD K C0)(hm:X.mg cn=some (.ref C0))(hs:∀e,PSs (X.mk' e).nox (b0::suite) ts)(hr:PH X rest tr)
  (hg:Gl X cn:=by rfl) (hdb:(cn == ("__debug__":Str))=false:=by decide):PH X (.ExceptHandler (some (.Name cn np)) none (b0::suite) pos::rest) (hNo K C0 ts tr):=by
 subst ek;intro pins s σ H ea C dd T D I hea fly ft h;obtain⟨G,c,h1,h2⟩:=h;have xa:XAt ea C dd false s.heap:=(show bY X.prog X.w H s.heap ea (.ext (XAt ea C dd false)) from I.hok ea _ hea).1;refine wpAny_handleBy_cons (codeAny_handlers_test ?_) (by intro z;cases z);refine jr (X:=X.mk' (.ref ea)) (I.mark (.ref ea)) hg hm ?_ hdb;have X2:=I.kIn;have I0:=I;obtain⟨hh,g,d,tk,os⟩:=s;refine xb X2 c xa hx ?_
 cases hb:(Value.ref C::.ref G::vmB).contains (.ref C0) with
 | false=>exact hr pins _ σ H ea C dd T D I0 hea fly ft (h2 hb)
 | true =>
  refine codeAny_handlers_suite ?_;refine rS fly fun g2 un fly2=>?_;have I1:Inv X pins σ H { heap:=g2,gens:=g,drawn:=d,toks:=tk,os:=os }:=I0.turned (it:=T) (t':=tk) un ft.nt ft.nl (.inr ft.sz) ft.nc ft.np;refine wpAny_mono (hs (.ref ea) pins _ _ H _ ((I1.mark (.ref ea)).wish _) (h1 hb)) (fun f s3 hf=>?_) fun _ _ z=>False.elim z;have un1:∀{σ' H'},Inv (X.mk' (.ref ea)).nox pins σ' H' s3->Inv X pins σ' H' s3:=fun J=>(Inv.unwish J).unmark I0.ok.hd
  cases f with
  | next =>
   obtain⟨σ',H',J,q⟩:=hf;exact⟨_,H',un1 J,q⟩
  | brk =>
   obtain⟨σ',H',J,q⟩:=hf;exact⟨_,H',un1 J,q⟩
  | cont =>
   obtain⟨σ',H',J,q⟩:=hf;exact⟨_,H',un1 J,q⟩
  | ret u =>
   obtain⟨v,σ',H',J,r,q⟩:=hf;exact⟨v,_,H',un1 J,r,q⟩
theorem En(hst:X.stack=X.env::X.outer)(hfm:X.env.frame=some X.env.locals)
  (hb:∀J pn E,PX (CXe X.prog X.w) (X.tryb pn E) J->PSs (X.tryb pn E) body (tb J)) (hh:PH X (h0::hs) th):PS X (.Try body (h0::hs) [] [] pos) (GW tb th):=by
 intro pins s σ H D I h;obtain⟨J,h1,h2⟩:=h
 have mk:∀{E σ H s},Inv X pins σ H s->Inv (X.tryb (X.pn++pins) E) [] σ H s:=fun I =>
  ⟨⟨I.ok.mod,I.ok.kind,I.ok.glob,I.ok.blt,I.ok.above,I.ok.inj,I.ok.has,I.ok.cab,I.ok.hd,I.ok.frames,I.ok.stk,I.ok.exf,I.ok.bs,I.ok.bsz,I.ok.noex,I.ok.exfs,I.ok.funs,I.ok.frf⟩,I.os,I.bare,I.base,I.loc,I.cell,I.free,I.freeC,fun p hp=>I.pin p (by simpa using hp),I.hok,I.len⟩
 have un:∀{E pins' σ H s},Inv (X.tryb (X.pn++pins) E) pins' σ H s->Inv X pins σ H s:=fun {E pins' σ H s} I =>
  ⟨⟨I.ok.mod,I.ok.kind,I.ok.glob,I.ok.blt,I.ok.above,I.ok.inj,I.ok.has,I.ok.cab,I.ok.hd,I.ok.frames,I.ok.stk,I.ok.exf,I.ok.bs,I.ok.bsz,I.ok.noex,I.ok.exfs,I.ok.funs,I.ok.frf⟩,I.os,I.bare,I.base,I.loc,I.cell,I.free,I.freeC,fun p hp=>I.pin p (mem_append_left pins' hp),I.hok,I.len⟩
 let XE:Value->Shared->Prop:=fun e s1=>∃σ H s,Inv X pins σ H s/\CXe X.prog X.w X.stack H s (J σ) e s1
 have px:PX (CXe X.prog X.w) (X.tryb (X.pn++pins) XE) J:=fun pins' σ' H' s' e s1 I' h=>⟨σ',H',s',un I',h⟩
 refine wpAny_Try_except (wpAny_mono (hb J _ _ px [] s σ H D (mk I) h1) (fun f s1 hf=>?_) fun e s1 he=>?_)
 .cases f with
  | next =>
   obtain⟨σ',H',I',q⟩:=hf;rw [arm_execs_nil];exact wpAny_pure ⟨σ',H',un I',q⟩
  | brk =>
   obtain⟨σ',H',I',q⟩:=hf;exact⟨σ',H',un I',q⟩
  | cont =>
   obtain⟨σ',H',I',q⟩:=hf;exact⟨σ',H',un I',q⟩
  | ret u =>
   obtain⟨v,σ',H',I',r,q⟩:=hf;exact⟨v,σ',H',un I',r,q⟩
 .obtain⟨σ',H',s',I',cx⟩:=he;refine Hg hst hfm I' cx fun ea C dd H2 T s2 ee I2 hea fly ft hJ=>?_;subst ee;obtain⟨C2,hea2,ht⟩:=h2 σ' ea dd H2 hJ;exact hh pins s2 σ' H2 ea C2 dd T D I2 hea2 fly ft ht
end
def XR(K:PySem.W.Frag)(O:Addr->Prop)(H:Hp)(ea:Addr)(dd:Option Addr)(d:D):Prop:=∃c ns ds,d=.exc c ns ds/\H ea=some (.ext (XAt ea (bc K c) dd false))/\FV K O H (.ref ea) d
theorem XR.keeps{K:PySem.W.Frag}{O O':Addr->Prop}{H H':Hp}{ea:Addr}{dd:Option Addr}{d:D}(k:aS O H O' H')(h:XR K O H ea dd d):XR K O' H' ea dd d:=by
 obtain⟨c,ns,ds,rfl,e,f⟩:=h
 have n:¬ O ea:=by cases f with
  | exc0 n _=>exact n
  | exc1 n _ _ _ _ _=>exact n
 exact⟨c,ns,ds,rfl,(k _ _ n e).2,f.keeps k⟩
def LSX(K:PySem.W.Frag)(E:D->Prop)(Eo:XK)(fs:List Nat)(ts:TS)(ps:PTS):Prop:=∀(fx:List (Nat×V)) (A R:Addr->Prop) (H0:Hp) (ρ:PSt) (σ:St) (H:Hp) (D:yK) (D':vd),fx.map Prod.fst=fs->Rel K A ρ σ H->dk fx R H0 ρ σ H->ps D ρ ->
 (∀ρ' σ' H',D.nx ρ'->Rel K A ρ' σ' H'->dk fx R H0 ρ' σ' H'->D'.nx σ' H') ->
 (∀v p ρ' σ' H',D.rt p ρ'->Out K A ρ' σ' H0 H' p v->dk fx R H0 ρ' σ' H'->D'.rt v H') ->
 (∀ρ' σ' H',D.bk ρ'->Rel K A ρ' σ' H'->dk fx R H0 ρ' σ' H'->D'.bk σ' H') ->
 (∀ρ' σ' H',D.ct ρ'->Rel K A ρ' σ' H'->dk fx R H0 ρ' σ' H'->D'.ct σ' H') ->
 (∀ρ' σ' H' ea dd d,E d->Rel K A ρ' σ' H'->dk fx R H0 ρ' σ' H'->H0 ea=none->XR K (OO A ρ' σ') H' ea dd d->Eo (.ref ea) dd H')->ts D' σ H
theorem dk.nn{fx:List (Nat×V)}{R:Addr->Prop}{H0 H:Hp}{ρ:PSt}{σ:St}(F:dk fx R H0 ρ σ H){b:Addr}(h:H b=none):H0 b=none:=by
 cases e:H0 b with
 | none=>rfl
 | some o=>exact absurd h (F.dm b (by rw [e];exact nofun))
section
variable {K:PySem.W.Frag}{E:D->Prop}{Eo:XK}{fs:List Nat}{ta tb ts:TS}{pa pb ps:PTS}{te:TE}{pe:PTE}{tt:TT}{pt:PTT}{wi:TI}{pi:PTI}{g:TG}{pg:PTG}
theorem LS.x(h:LS K fs ts ps):LSX K E Eo fs ts ps:=fun fx A R H0 ρ σ H D D' hf r F q k1 k2 k3 k4 _=>h fx A R H0 ρ σ H D D' hf r F q k1 k2 k3 k4
theorem j6(ha:LSX K E Eo fs ta pa)(hb:LSX K E Eo fs tb pb):LSX K E Eo fs (Cz ta tb) (aG pa pb):=fun fx A R H0 ρ σ H D D' hf r F q k1 k2 k3 k4 k5 =>
 ha fx A R H0 ρ σ H _ _ hf r F q (fun ρ1 σ1 H1 q1 r1 F1=>hb fx A R H0 ρ1 σ1 H1 _ _ hf r1 F1 q1 k1 k2 k3 k4 k5) k2 k3 k4 k5
theorem Ep(ht:LT K tt pt)(ha:LSX K E Eo fs ta pa)(hb:LSX K E Eo fs tb pb):LSX K E Eo fs (EZ tt ta tb) (kJ pt pa pb):=fun fx A R H0 ρ σ H D D' hf r F q k1 k2 k3 k4 k5=>ht A ρ σ H _ _ r q fun c H1 ρ1 q1 f1 r1=>by
 cases c with
 | true=>exact ha fx A R H0 ρ1 σ H1 D D' hf r1 (F.fr f1) q1 k1 k2 k3 k4 k5
 | false=>exact hb fx A R H0 ρ1 σ H1 D D' hf r1 (F.fr f1) q1 k1 k2 k3 k4 k5
theorem zb(ht:LT K tt pt)(hb:LSX K E Eo fs tb pb):LSX K E Eo fs (vh tt tb) (jE pt pb):=fun fx A R H0 ρ σ H D D' hf r F q k1 k2 k3 k4 k5=>by
 obtain⟨I,⟨m0,i0⟩,turn⟩:=q;refine⟨fun m σ' H'=>∃ρ',I m ρ'/\Rel K A ρ' σ' H'/\dk fx R H0 ρ' σ' H',⟨m0,ρ,i0,r,F⟩,fun m σ' H' ⟨ρ',iv,r',F'⟩=>?_⟩;refine ht A ρ' σ' H' _ _ r' (turn m ρ' iv) fun b H1 ρ1 q1 f1 r1=>?_
 cases b with
 | true =>
  refine⟨fun σ'' H''=>∃ρ'' m',m'<m/\I m' ρ''/\Rel K A ρ'' σ'' H''/\dk fx R H0 ρ'' σ'' H'',fun σ'' H'' ⟨ρ'',m',h1,h2⟩=>⟨m',h1,ρ'',h2⟩,?_⟩;exact hb fx A R H0 ρ1 σ' H1 _ _ hf r1 (F'.fr f1) q1 (fun ρ3 σ3 H3 ⟨m',h1,h2⟩ r3 F3=>⟨ρ3,m',h1,h2,r3,F3⟩) k2 k1 (fun ρ3 σ3 H3 ⟨m',h1,h2⟩ r3 F3=>⟨ρ3,m',h1,h2,r3,F3⟩) k5
 | false=>exact k1 ρ1 σ' H1 q1 r1 (F'.fr f1)
end
def xc(E:D->Prop)(pe:PTE):PTS:=fun _ ρ=>pe ρ fun p _=>match p with
 | .dat d=>E d
 | _=>False
section
variable {K:PySem.W.Frag}{E:D->Prop}{Eo:XK}{fs:List Nat}{ta:TA}{pa:PTA}{cs:List Str}{c f:Str}
theorem Gj{H:Hp}{a:Addr}{o o':HO}:upd (upd H a o) a o'=upd H a o':=by
 funext b
 by_cases z:b=a
 .subst z;rw [aF,aF]
 .rw [aw z,aw z,aw z]
theorem xf(X:Fb K cs)(hc:c∈cs):LSX K E Eo fs (zY K (Ei (bc K c)) (fun _=>Eo)) (xc E (Ej c)):=fun fx A R H0 ρ σ H D D' hf r F q k1 k2 k3 k4 k5 e he=>by
 refine⟨e,bc K c,bc K "GlueError",none,rfl,aF,X.c c hc,?_⟩;rw [Gj];have g:Gr H (upd H e (.ext (XAt e (bc K c) none false))):=Gr.new he;exact k5 ρ σ _ e _ _ q (r.gr g) (F.fr g.fr) (F.nn he) ⟨_,_,_,rfl,aF,.exc0 (fun z=>r.dom2 e z he) aF⟩
end
abbrev FX:=List D->(PV->Prop)->(D->Prop)->Prop
def spX(K:PySem.W.Frag)(c:FX):Sp:=fun vs H Q E=>∃(O:Addr->Prop) (ds:List D) (Qc:PV->Prop) (Ec:D->Prop),(∀b,O b->H b≠none)/\FVs K O H vs ds/\c ds Qc Ec/\(∀r,Qc r->∀v H',Gr H H'->qa K O H H' r v->Q v H') /\
 ∀d,Ec d->∀ea dd H',Gr H H'->H ea=none->XR K O H' ea dd d->E (.ref ea) dd H'
section
variable {K:PySem.W.Frag}{tr:TA}{pr:PTA}{ts:XK->TS}{ps:(D->Prop)->PTS}
def zZ(c:FX)(pr:PTA):PTE:=fun ρ Q=>pr ρ fun as ρ1=>match avD as with
 | some ds=>c ds (fun r=>Q r ρ1) (fun _=>False)
 | none=>False
theorem zc{c:FX}(h:LAs K tr pr):LE K (wY (spX K c) (fun _=>E0) tr) (zZ c pr):=fun A ρ σ H Q Q' R q k=>h A ρ σ H _ _ R q fun vs H1 as ρ1 q1 f1 R1 o1=>by
 split at q1
 .rename_i ds e;exact⟨OO A ρ1 σ,ds,_,_,R1.dom2,o1.avD e,q1,fun r qr v H' g ov=>k v H' r ρ1 qr (f1.trans g.fr) ((ov.out R1 g).h0 f1.dm),fun d z=>z.elim⟩
 .exact q1.elim
end
section
variable {K:PySem.W.Frag}{cs:List Str}
theorem qo(X:Fb K cs){c d:Str}(hc:c∈cs)(hd:d∈cs\/d="GlueError"):(Value.ref (bc K c)::.ref (bc K "GlueError")::vmB).contains (.ref (bc K d))=Fc c d:=by
 have yd:XCl K d:=hd.elim (X.n d) fun e=>by rw [e];exact X.g
 have rr:∀a b:Addr,(Value.ref a == Value.ref b)=decide (a=b):=fun a b=>by
  by_cases h:a=b
  .subst h;simp
  .rw [decide_eq_false h];exact beq_eq_false_iff_ne.mpr fun z=>h (Value.ref.inj z)
 rw [contains_cons,contains_cons,rr,rr];have t2:vmB.contains (Value.ref (bc K d))=false:=rfl;rw [t2,Bool.or_false];unfold Fc
 congr 1
 .by_cases h:c=d
  .subst h;rw [decide_eq_true rfl,decide_eq_true rfl]
  .rw [decide_eq_false h,decide_eq_false fun z=>(X.n c hc).ne yd h z.symm]
 .by_cases h:d="GlueError"
  .subst h;rw [decide_eq_true rfl,decide_eq_true rfl]
  .rw [decide_eq_false h,decide_eq_false (yd.ne X.g h)]
end
abbrev PTH:=D->PTS
def LH(K:PySem.W.Frag)(fs:List Nat)(th:THd)(ph:PTH):Prop:=∀(fx:List (Nat×V)) (A R:Addr->Prop) (H0:Hp) (ρ:PSt) (σ:St) (H:Hp) (D:yK) (D':vd) (ea:Addr) (dd:Option Addr) (c:Str) (ns:List Str) (ds:List L2.D),fx.map Prod.fst=fs->Rel K A ρ σ H->dk fx R H0 ρ σ H ->
 H ea=some (.ext (XAt ea (bc K c) dd false))->FV K (OO A ρ σ) H (.ref ea) (.exc c ns ds)->ph (.exc c ns ds) D ρ ->
 (∀ρ' σ' H',D.nx ρ'->Rel K A ρ' σ' H'->dk fx R H0 ρ' σ' H'->D'.nx σ' H') ->
 (∀v p ρ' σ' H',D.rt p ρ'->Out K A ρ' σ' H0 H' p v->dk fx R H0 ρ' σ' H'->D'.rt v H') ->
 (∀ρ' σ' H',D.bk ρ'->Rel K A ρ' σ' H'->dk fx R H0 ρ' σ' H'->D'.bk σ' H') ->
 (∀ρ' σ' H',D.ct ρ'->Rel K A ρ' σ' H'->dk fx R H0 ρ' σ' H'->D'.ct σ' H')->th ea (bc K c) dd D' σ H
def Es:PTH:=fun _ _ _=>False
def GX(cs:List Str)(c0:Str)(pb:PTS)(rest:PTH):PTH:=fun d D ρ=>match d with
 | .exc c _ _=>cs.contains c=true/\gz (Fc c c0) (pb D ρ) (rest d D ρ)
 | _=>False
section
variable {K:PySem.W.Frag}{cs:List Str}{fs:List Nat}{ts:TS}{ps:PTS}{tr:THd}{pr:PTH}{c0:Str}{i:Nat}
theorem Et:LH K fs (fun _ _ _ _ _ _=>False) Es:=fun _ _ _ _ _ _ _ _ _ _ _ _ _ _ _ _ _ _ _ h _ _ _ _=>h
theorem Gk(X:Fb K cs)(h0:c0∈cs\/c0="GlueError")(hs:LS K fs ts ps)(hr:LH K fs tr pr):LH K fs (hNo K (bc K c0) ts tr) (GX cs c0 ps pr):=fun fx A R H0 ρ σ H D D' ea dd c ns ds hf r F hea fv q k1 k2 k3 k4=>by
 obtain⟨hc,q⟩:=(show cs.contains c=true/\_ from q)
 have hc:c∈cs:=contains_iff_mem.mp hc;have ek:=qo X hc h0
 refine⟨bc K "GlueError",X.c c hc,fun e=>?_,fun e=>?_⟩
 .rw [ek] at e;rw [e] at q;exact hs fx A R H0 _ _ H _ _ hf r F q k1 k2 k3 k4
 .rw [ek] at e;rw [e] at q;exact hr fx A R H0 ρ σ H D D' ea dd c ns ds hf r F hea fv q k1 k2 k3 k4
end
section
variable {X:Cx}{st:Stmt}{t:TS}
theorem PS.nox(h:PS X.nox st t):PS X st t:=fun pins s σ H D I hw =>
 wpAny_mono (h pins s σ H D (I.wish _) hw) (fun f s' hs=>by
  cases f with
  | next=>obtain⟨σ',H',J,q⟩:=hs;exact⟨σ',H',J.unwish,q⟩
  | brk=>obtain⟨σ',H',J,q⟩:=hs;exact⟨σ',H',J.unwish,q⟩
  | cont=>obtain⟨σ',H',J,q⟩:=hs;exact⟨σ',H',J.unwish,q⟩
  | ret u=>obtain⟨v,σ',H',J,r,q⟩:=hs;exact⟨v,σ',H',J.unwish,r,q⟩) fun _ _ z=>z.elim
end
section
variable {P:Program}{w:World}{K:PySem.W.Frag}{mg:Str->Option Value}{base:Heap}{x:Str}{st:Stmt}{N ps:List Str}{k:Nat}{sp:Sp}
theorem cj.okE(D:cj K mg x st)(S:aK N ps (aq st))
  (hb:∀(kV doc pm:Value) (an:Option Addr) (cdv ct:Value) (us:List Value),us.length=ps.length->bindArgs (PySem.W.fnOf x x (cL st) (bS st) (aq st) .none kV doc pm an cdv ct) ⟨us,[]⟩=pure (ps.zip us))
  (len:∀vs H Q E,sp vs H Q E->vs.length=ps.length)
  (hbody:∀(f:Addr) (cdv:Value) (A:Around) (outer:List Env) (s:Shared) (H:Hp) (vs:List V) (Q:VK) (E:XK),gx k (A.deeper (envOfC x (aq st) s.heap.objs.size f cdv))->sp vs H Q E ->
   ∃t,PSs (sQ (CXe P w) P w K mg base N x (aq st) f cdv A outer s H E) (bS st) t/\t { nx:=fun _ H'=>Q .non H',rt:=Q } (start N vs) H):El P w K mg base (k+1) x ps sp:=by
 obtain⟨f,fd,F,hm⟩:=D.ex;refine⟨f,fd,?_,F.binds hb,F.kp,hm⟩;obtain⟨oc,od,kV,doc,pm,an,cdv,ct,osl,rfl,lk,hcd⟩:=F.ex;exact AR lk hcd S len fun A outer s H vs Q E hr hsp=>hbody f cdv A outer s H vs Q E hr hsp
end
theorem px0{P:Program}{w:World}{X:Cx}:PX (CXe P w) X (fun _=>E0):=fun pins σ H s e s' I h=>by
 obtain⟨_,_,_,_,_,_,_,_,_,_,_,_,_,_,z⟩:=h;exact z.elim
abbrev Gm(pp:(D->Prop)->PTS)(n:Nat)(ds:List D)(Q:PV->Prop)(E:D->Prop):Prop:=pp E { nx:=fun _=>Q (.dat .non),rt:=fun p _=>Q p } (de n (ds.map .dat))
section
variable {K:PySem.W.Frag}{ts:TS}{ps:(D->Prop)->PTS}
theorem Hh{c:FX}{n:Nat}(hn:∀ds Q E,c ds Q E->ds.length=n){vs:List V}{H:Hp}{Q:VK}{E:XK}(h:spX K c vs H Q E):vs.length=n:=by
 obtain⟨O,ds,Qc,Ec,_,fv,hq,_⟩:=h;rw [fv.length];exact hn ds Qc Ec hq
theorem Hi{c:FX}{N:List Str}{vs:List V}{H:Hp}{Q:VK}{E:XK}(hl:∀Ec,LSX K Ec E [] ts (ps Ec))(hn:∀ds Q E,c ds Q E->ds.length<=N.length)(hc:∀ds Q E,c ds Q E->Gm ps N.length ds Q E)
  (h:spX K c vs H Q E):ts { nx:=fun _ H'=>Q .non H',rt:=Q } (start N vs) H:=by
 obtain⟨O,ds,Qc,Ec,dom,fv,hq,k,kx⟩:=h
 have nw:∀(ρ:PSt) (b:Addr),ρ=de N.length (ds.map .dat)->¬ Wr ρ (start N vs) b:=fun ρ b e ⟨i,p,e1,o1,s1⟩=>by
  rw [e] at e1;have:=dr e1;rw [getElem?_map] at this
  cases e2:ds[i]? with
  | none=>rw [e2] at this;cases this
  | some d=>rw [e2] at this;cases this;cases o1
 have lenv:=fv.length;have hle:=hn ds Qc Ec hq
 have R0:Rel K O (de N.length (ds.map .dat)) (start N vs) H:=by
  refine⟨?_,fun i p e=>?_,fun i j p q v e1 e2 o1 o2 s1 s2=>?_,dom,fun b _ w=>nw _ b rfl w⟩
  .unfold de start;rw [length_append,length_append,length_map,length_map,length_map,length_replicate,length_replicate,lenv]
  .have:=dr e;rw [getElem?_map] at this
   cases e2:ds[i]? with
   | none=>rw [e2] at this;cases this
   | some d =>
    rw [e2] at this;cases this;obtain⟨v,hv,f⟩:=fv.getD e2;exact⟨v,jc hv,f.keeps (aS.less fun b z=>z.elim id fun w=>absurd w (nw _ b rfl))⟩
  .have:=dr e1;rw [getElem?_map] at this
   cases e3:ds[i]? with
   | none=>rw [e3] at this;cases this
   | some d=>rw [e3] at this;cases this;cases o1
 refine hl Ec [] O (fun _=>False) H _ _ H _ _ rfl R0 ⟨fun _ _ _ h=>h,fun _ h=>h,fun b w=>absurd w (nw _ b rfl),fun p hp=>nomatch hp⟩ (hc ds Qc Ec hq) (fun ρ' σ' H' q r F=>?_) (fun v p ρ' σ' H' q o F=>?_) (fun _ _ _ z=>z.elim) (fun _ _ _ z=>z.elim) (fun ρ' σ' H' ea dd d q r F n x=>?_)
 .exact k _ q .non H' (fun b o e=>F.kp b o id e) .non
 .exact k _ q v H' (fun b o e=>F.kp b o id e) o.outV
 .exact kx d q ea dd H' (fun b o e=>F.kp b o id e) n (x.keeps (aS.less fun b z=>.inl z))
end
theorem xg(d:D):(PV.dat d).d=d:=rfl
theorem xh(ds:List D):(PV.own ds).d=.lst ds:=rfl
theorem xi(c:Str)(ns:List Str)(ds:List D):(PV.ins c ns ds).d=.obj c ns ds:=rfl
theorem Eu(ds:List D):mkL false ds=.own ds:=rfl
theorem Ev(ds:List D):mkL true ds=.dat (.tup ds):=rfl
def pkm(ρ:PSt)(j:Nat):Option PV:=match ρ[j]? with
 | some v=>v
 | none=>none
theorem tN(v:Option PV)(r:PSt):pkm (v::r) 0=v:=rfl
theorem tO(v:Option PV)(r:PSt)(n:Nat):pkm (v::r) (n+1)=pkm r n:=rfl
theorem qp(ρ:PSt):ci [] ρ=[]:=rfl
theorem nz(ix:List (Option Nat))(ρ:PSt):ci (none::ix) ρ=none::ci ix ρ:=rfl
theorem nB(j:Nat)(ix:List (Option Nat))(ρ:PSt):ci (some j::ix) ρ=pkm ρ j::ci ix ρ:=rfl
theorem qq(j:Nat)(ix:List (Option Nat))(ρ:PSt)(t:Option PV)(τ:PSt):gk (some j::ix) ρ (t::τ)=gk ix (ρ.set j t) τ:=rfl
theorem qt(ix:List (Option Nat))(ρ:PSt)(t:Option PV)(τ:PSt):gk (none::ix) ρ (t::τ)=gk ix ρ τ:=rfl
theorem tP(ρ τ:PSt):gk [] ρ τ=ρ:=rfl
def Gn(pe:PTE):PTE:=fun ρ Q=>pe ρ fun p ρ1=>Q (.dat p.d) ρ1
theorem Aa{K:PySem.W.Frag}{ta:TE}{pe:PTE}(h:LE K ta pe):LE K ta (Gn pe):=fun A ρ σ H Q Q' R q k=>h A ρ σ H _ Q' R q fun v H' p ρ' q f o=>k v H' (.dat p.d) ρ' q f o.frz
theorem xj{α:Type}{e:α->D}{xs:List α}{k:Nat}(h:k<xs.length):itD (xs.map e) k=e xs[k]:=dY (by rw [getElem?_map,getElem?_eq_getElem h];rfl)
theorem xk{α β:Type}(f:α->β)(xs:List α)(g:Nat->β)(h:∀k (hk:k<xs.length),g k=f xs[k]):(List.range xs.length).map g=xs.map f:=by
 apply ext_getElem?;intro i;rw [getElem?_map,getElem?_map]
 by_cases hi:i<xs.length
 .rw [getElem?_range hi,getElem?_eq_getElem hi];exact congrArg some (h i hi)
 .rw [getElem?_eq_none (by rw [length_range];omega),getElem?_eq_none (by omega)];rfl
section
variable {α:Type}{e:α->D}{xs:List α}{ix:List (Option Nat)}{ρ1:PSt}{g:PTG}{pt:PTT}{pe:PTE}{Q:PKt}
theorem GY(T:PSt->Prop)(f:α->Option D)(h0:T (ci ix ρ1))
  (hs:∀x∈xs,∀τ,T τ->∀(K1:D->PSt->Prop) (K2:PSt->Prop),(∀d τ',f x=some d->T τ'->K1 d τ')->(∀τ',f x=none->T τ'->K2 τ')->g (.dat (e x)) τ fun τ2=>pt τ2 fun ok τ3=>gz ok (pe τ3 fun p τ4=>K1 p.d τ4) (K2 τ3))
  (hq:∀τ,T τ->Q (.own (xs.filterMap f)) (gk ix ρ1 τ)):mr ix ρ1 (xs.map e).length (itD (xs.map e)) g pt pe Q:=by
 refine cfm T (fun k=>(xs[k]?).bind f) h0 (fun k τ d hk ed t K1 K2 k1 k2=>?_) fun τ t=>?_
 .rw [length_map] at hk;rw [xj hk] at ed;subst ed;have eg:(xs[k]?).bind f=f xs[k]:=by rw [getElem?_eq_getElem hk];rfl
  rw [eg] at k1 k2;exact hs _ (getElem_mem hk) τ t K1 K2 k1 k2
 .have e1:(List.range (xs.map e).length).filterMap (fun k=>(xs[k]?).bind f)=xs.filterMap f:=by
   rw [length_map];have h1:(List.range xs.length).map (fun k=>(xs[k]?).bind f)=xs.map f:=xk f xs _ fun k hk=>by rw [getElem?_eq_getElem hk];rfl
   have h2:∀l:List Nat,l.filterMap (fun k=>(xs[k]?).bind f)=(l.map fun k=>(xs[k]?).bind f).filterMap id:=fun l=>by rw [filterMap_map];rfl
   rw [h2,h1,filterMap_map];rfl
  rw [e1];exact hq τ t
theorem Go(T:PSt->Prop)(f:α->D)(h0:T (ci ix ρ1))
  (hs:∀x∈xs,∀τ,T τ->∀K1:D->PSt->Prop,(∀τ',T τ'->K1 (f x) τ')->g (.dat (e x)) τ fun τ2=>pe τ2 fun p τ4=>K1 p.d τ4)
  (hq:∀τ,T τ->Q (.own (xs.map f)) (gk ix ρ1 τ)):mr ix ρ1 (xs.map e).length (itD (xs.map e)) g iW pe Q:=by
 refine GY T (fun x=>some (f x)) h0 (fun x hx τ t K1 K2 k1 k2=>?_) fun τ t=>?_
 .exact hs x hx τ t K1 fun τ' t'=>k1 _ τ' rfl t'
 .rw [show xs.filterMap (fun x=>some (f x))=xs.map f by rw [<- filterMap_eq_map];rfl];exact hq τ t
theorem Gp{β:Type}(p:α->Bool)(f:α->β):∀xs:List α,xs.filterMap (fun x=>if p x=true then some (f x) else none)=(xs.filter p).map f:=cV p f
theorem cfX(T:PSt->Prop)(p:α->Bool)(f:α->D)(h0:T (ci ix ρ1))
  (hs:∀x∈xs,∀τ,T τ->∀(K1:D->PSt->Prop) (K2:PSt->Prop),(∀τ',p x=true->T τ'->K1 (f x) τ')->(∀τ',p x=false->T τ'->K2 τ')->g (.dat (e x)) τ fun τ2=>pt τ2 fun ok τ3=>gz ok (pe τ3 fun p τ4=>K1 p.d τ4) (K2 τ3))
  (hq:∀τ,T τ->Q (.own ((xs.filter p).map f)) (gk ix ρ1 τ)):mr ix ρ1 (xs.map e).length (itD (xs.map e)) g pt pe Q:=by
 refine GY T (fun x=>if p x=true then some (f x) else none) h0 (fun x hx τ t K1 K2 k1 k2=>hs x hx τ t K1 K2 (fun τ' h t'=>k1 _ τ' (by rw [if_pos h]) t') fun τ' h t'=>k2 τ' (by rw [if_neg (by rw [h];decide)]) t') fun τ t=>?_;rw [Gp];exact hq τ t
theorem cm1(f:α->D)
  (hs:∀x∈xs,∀(v:Option PV) (K1:D->PSt->Prop),(∀v',K1 (f x) (v'::(ci ix ρ1).tail))->g (.dat (e x)) (v::(ci ix ρ1).tail) fun τ2=>pe τ2 fun p τ4=>K1 p.d τ4)
  (hq:∀v:Option PV,Q (.own (xs.map f)) (gk ix ρ1 (v::(ci ix ρ1).tail))) (hx:ci ix ρ1=none::(ci ix ρ1).tail:=by rfl):mr ix ρ1 (xs.map e).length (itD (xs.map e)) g iW pe Q:=by
 refine Go (fun τ=>∃v,τ=v::(ci ix ρ1).tail) f ⟨none,hx⟩ ?_ ?_
 .rintro x hx τ ⟨v,rfl⟩ K1 k1;exact hs x hx v K1 fun v'=>k1 _ ⟨v',rfl⟩
 .rintro τ ⟨v,rfl⟩;exact hq v
theorem cf1(p:α->Bool)(f:α->D)
  (hs:∀x∈xs,∀(v:Option PV) (K1:D->PSt->Prop) (K2:PSt->Prop),(∀v',p x=true->K1 (f x) (v'::(ci ix ρ1).tail))->(∀v',p x=false->K2 (v'::(ci ix ρ1).tail))->g (.dat (e x)) (v::(ci ix ρ1).tail) fun τ2=>pt τ2 fun ok τ3=>gz ok (pe τ3 fun p τ4=>K1 p.d τ4) (K2 τ3))
  (hq:∀v:Option PV,Q (.own ((xs.filter p).map f)) (gk ix ρ1 (v::(ci ix ρ1).tail))) (hx:ci ix ρ1=none::(ci ix ρ1).tail:=by rfl):mr ix ρ1 (xs.map e).length (itD (xs.map e)) g pt pe Q:=by
 refine cfX (fun τ=>∃v,τ=v::(ci ix ρ1).tail) p f ⟨none,hx⟩ ?_ ?_
 .rintro x hx τ ⟨v,rfl⟩ K1 K2 k1 k2;exact hs x hx v K1 K2 (fun v' h=>k1 _ h ⟨v',rfl⟩) fun v' h=>k2 _ h ⟨v',rfl⟩
 .rintro τ ⟨v,rfl⟩;exact hq v
end
theorem cmR{ix:List (Option Nat)}{ρ1:PSt}{g:PTG}{pe:PTE}{Q:PKt}{n:Nat}{it:Nat->D}(f:Nat->D)
  (hs:∀k,k<n->∀(v:Option PV) (K1:D->PSt->Prop),(∀v',K1 (f k) (v'::(ci ix ρ1).tail))->g (.dat (it k)) (v::(ci ix ρ1).tail) fun τ2=>pe τ2 fun p τ4=>K1 p.d τ4)
  (hq:∀v:Option PV,Q (.own ((List.range n).map f)) (gk ix ρ1 (v::(ci ix ρ1).tail))) (hx:ci ix ρ1=none::(ci ix ρ1).tail:=by rfl):mr ix ρ1 n it g iW pe Q:=by
 refine tH (fun τ=>∃v,τ=v::(ci ix ρ1).tail) f ⟨none,hx⟩ ?_ ?_
 .rintro k τ d hk rfl ⟨v,rfl⟩ K1 k1;exact hs k hk v K1 fun v'=>k1 _ ⟨v',rfl⟩
 .rintro τ ⟨v,rfl⟩;exact hq v
theorem cfR{ix:List (Option Nat)}{ρ1:PSt}{g:PTG}{pt:PTT}{pe:PTE}{Q:PKt}{n:Nat}{it:Nat->D}(p:Nat->Bool)(f:Nat->D)
  (hs:∀k,k<n->∀(v:Option PV) (K1:D->PSt->Prop) (K2:PSt->Prop),(∀v',p k=true->K1 (f k) (v'::(ci ix ρ1).tail))->(∀v',p k=false->K2 (v'::(ci ix ρ1).tail))->g (.dat (it k)) (v::(ci ix ρ1).tail) fun τ2=>pt τ2 fun ok τ3=>gz ok (pe τ3 fun p τ4=>K1 p.d τ4) (K2 τ3))
  (hq:∀v:Option PV,Q (.own (((List.range n).filter p).map f)) (gk ix ρ1 (v::(ci ix ρ1).tail))) (hx:ci ix ρ1=none::(ci ix ρ1).tail:=by rfl):mr ix ρ1 n it g pt pe Q:=by
 refine cfm (fun τ=>∃v,τ=v::(ci ix ρ1).tail) (fun k=>if p k=true then some (f k) else none) ⟨none,hx⟩ ?_ ?_
 .rintro k τ d hk rfl ⟨v,rfl⟩ K1 K2 k1 k2;exact hs k hk v K1 K2 (fun v' h=>k1 _ _ (by rw [if_pos h]) ⟨v',rfl⟩) fun v' h=>k2 _ (by rw [if_neg (by rw [h];decide)]) ⟨v',rfl⟩
 .rintro τ ⟨v,rfl⟩;rw [cV];exact hq v
section
variable {α:Type}{e:α->D}{xs:List α}{ρ1:PSt}{g:PTG}{pb:PTS}{nx bk:PSt->Prop}{rt:PV->PSt->Prop}
theorem Hj(J:List α->PSt->Prop)(h0:J [] ρ1)
  (hs:∀pre x suf ρ,xs=pre++x::suf->J pre ρ->g (.dat (e x)) ρ fun ρ2=>pb { nx:=J (pre++[x]),rt:=rt,bk:=bk,ct:=J (pre++[x]) } ρ2) (hq:∀ρ,J xs ρ->nx ρ) :
  ∃I:Nat->PSt->Prop,I 0 ρ1/\(∀k ρ d,k<(xs.map e).length->d=itD (xs.map e) k->I k ρ->g (.dat d) ρ fun ρ2=>pb { nx:=I (k+1),rt:=rt,bk:=bk,ct:=I (k+1) } ρ2)/\∀ρ,I (xs.map e).length ρ->nx ρ:=by
 refine⟨fun k ρ=>J (xs.take k) ρ,by show J (xs.take 0) ρ1;rw [take_zero];exact h0,fun k ρ d hk ed hJ=>?_,fun ρ h=>hq ρ (by have h:J (xs.take (xs.map e).length) ρ:=h;rw [length_map,take_length] at h;exact h)⟩;rw [length_map] at hk;rw [xj hk] at ed;subst ed;have ht:xs.take (k+1)=xs.take k++[xs[k]]:=by rw [take_succ,getElem?_eq_getElem hk];rfl
 show g _ ρ fun ρ2=>pb { nx:=J (xs.take (k+1)),rt:=rt,bk:=bk,ct:=J (xs.take (k+1)) } ρ2;rw [ht];exact hs _ _ (xs.drop (k+1)) ρ (by rw [getElem_cons_drop,take_append_drop]) hJ
end
theorem xl{α β:Type}(f:α->β)(xs:List α)(i:Nat):(xs.map f).eraseIdx i=(xs.eraseIdx i).map f:=by
 rw [eraseIdx_eq_take_drop_succ,eraseIdx_eq_take_drop_succ,map_append,map_take,map_drop]
theorem GZ{n i:Nat}(h:i<n):ixN n (i:Int)=some i:=by
 unfold ixN;rw [if_pos (by omega),if_pos (by omega),toNat_natCast]
theorem xm(a b:List Nat):(!(Builtin.Str.occurrences (S b) (S a) 0 (S b).length 1).isEmpty)=gA a b:=by
 have e:=wd b a 0;unfold gA;rw [<- e]
 cases Builtin.Str.occurrences (S b) (S a) 0 (S b).length 1 with
 | nil=>rfl
 | cons k r=>exact (decide_eq_true (by omega:(0:Int)<=(k:Int))).symm
section
variable {X:Cx}{K:PySem.W.Frag}
def Gq(neg:Bool):R2:=fun x y H Q=>∃a b,x=.str (S a)/\y=.str (S b)/\Q (.bl (if neg then !gA a b else gA a b)) H
theorem Ew:OpR X (compareOp .In) (Gq false):=by
 intro pins s σ H x y v u Q I rx ry h;obtain⟨a,b,rfl,rfl,q⟩:=h;obtain⟨t,rfl⟩:=rx;obtain⟨t',rfl⟩:=ry;exact P.in_str ⟨.bl _,H,I,rfl,by rw [xm];exact q⟩
theorem xn:OpR X (compareOp .NotIn) (Gq true):=by
 intro pins s σ H x y v u Q I rx ry h;obtain⟨a,b,rfl,rfl,q⟩:=h;obtain⟨t,rfl⟩:=rx;obtain⟨t',rfl⟩:=ry;exact P.notIn_str ⟨.bl _,H,I,rfl,by rw [xm];exact q⟩
def CM(K:PySem.W.Frag)(neg:Bool):R2:=fun x y H Q=>rIn K neg x y H Q\/Gq neg x y H Q
theorem Ex(K:PySem.W.Frag)(e:X.K=K):OpR X (compareOp .In) (CM K false):=OpR.or (Hd K e) Ew
theorem kM(K:PySem.W.Frag)(e:X.K=K):OpR X (compareOp .NotIn) (CM K true):=OpR.or (Bj K e) xn
def Ab(neg:Bool):F2
 | .str a,.str b,Q=>Q (.dat (.bl (if neg then !gA a b else gA a b)))
 | a,.lst ds,Q=>(a.fl=true/\ds.all D.fl=true)/\Q (.dat (.bl (if neg then !inD a ds else inD a ds)))
 | a,.tup ds,Q=>(a.fl=true/\ds.all D.fl=true)/\Q (.dat (.bl (if neg then !inD a ds else inD a ds)))
 | _,_,_=>False
theorem nC{neg:Bool}:LO K (CM K neg) (Ab neg):=by
 intro O H x y a b Q Q' dom fx fy q k;unfold Ab at q
 split at q
 .obtain⟨rfl,_⟩:=fx.str;obtain⟨rfl,_⟩:=fy.str;exact .inr ⟨_,_,rfl,rfl,k _ H _ q (Gr.refl _) (.bl _)⟩
 .exact .inl (DU O H x y _ _ Q Q' dom fx fy q k)
 .exact .inl (DU O H x y _ _ Q Q' dom fx fy q k)
 .exact q.elim
end
theorem Ac(js:List Nat):js.map nD=(js.map fun j=>((j:Nat):Int)).map D.int:=by rw [map_map];rfl
theorem zd{ns:List Int}(h:ns.length<=1000)(hb:∀n∈ns,n.natAbs<2^64):PyData.layable0 (.list (ns.map .int))=true:=by
 have c:∀l:List Int,PyData.canLayAll0 (l.map .int)=true:=fun l=>by
  induction l with
  | nil=>rfl
  | cons a r ih=>show (PyData.canLay0 (.int a) && PyData.canLayAll0 (r.map .int))=true;rw [ih];rfl
 have d:∀l:List Int,PyData.depthAll (l.map .int)=0:=fun l=>by
  induction l with
  | nil=>rfl
  | cons a r ih=>show max (PyData.depth (.int a)) (PyData.depthAll (r.map .int))=0;rw [ih];rfl
 have w:∀l:List Int,(∀n∈l,n.natAbs<2^64)->PyData.weightAll (l.map .int)<=l.length*66:=fun l=>by
  induction l with
  | nil=>intro _;exact zero_le _
  | cons a r ih =>
   intro hh;have h1:=ih fun n hn=>hh n (mem_cons_of_mem _ hn)
   have h2:PyData.weight (.int a)<=64:=by
    show (if a == 0 then 0 else a.natAbs.log2+1)<=64
    by_cases z:a=0
    .subst z;decide
    .rw [if_neg (by simpa using z)];have:a.natAbs.log2<64:=(log2_lt (by omega)).mpr (hh a (mem_cons_self ..));omega
   show PyData.weight (.int a)+1+PyData.weightAll (r.map .int)<=_;rw [length_cons,succ_mul];omega
 have:=w ns hb;unfold PyData.layable0;rw [and_eq_true,and_eq_true]
 refine⟨⟨c ns,decide_eq_true ?_⟩,decide_eq_true ?_⟩
 .show PyData.depthAll (ns.map .int)+1<=64;rw [d];decide
 .show PyData.weightAll (ns.map .int)<=2^20;omega
section
variable {X:Cx}{K:PySem.W.Frag}{ta te:TE}{pa:PA1}{pe:PTE}
def Ey(K:PySem.W.Frag):V->List V->Hp->VK->Prop:=fun x xs H Q=>∃(p:Addr) (ns:List Int) (k:Int),x=.ref p/\xs=[.int k]/\SqL K H p (ns.map V.int)/\(ns.length<=1000/\(∀n∈ns,n.natAbs<2^64)/\k∈ns)/\Q (.int (ns.idxOf k:Nat)) H
theorem xo(K:PySem.W.Frag)(e:X.K=K):MtR X "list.index" (Ey K):=by
 subst e;intro pins s σ H x xs v us Q I rx rs h;obtain⟨p,ns,k,rfl,rfl,hS,⟨h1,h2,h3⟩,q⟩:=h;cases (show v=Value.ref p from rx);obtain⟨u,rfl,t,rfl⟩:=iJ rs;obtain⟨its,rv,pl,hz⟩:=I.list hS;exact index_list_ints pl.isList (fj rv) (zd h1 h2) h3 ⟨.int _,H,I.tok _,⟨_,rfl⟩,q⟩
def BP(pa:PA1)(pe:PTE):PTE:=fun ρ Q=>pa ρ fun x ρ1=>match cont ρ1 x with
 | some (.lst _)=>pe ρ1 fun p ρ2=>(match cont ρ2 x,p with
  | some (.lst ds),.dat (.int k)=>∃ns:List Int,ds=ns.map .int/\(ns.length<=1000/\(∀n∈ns,n.natAbs<2^64)/\k∈ns)/\Q (.dat (.int (ns.idxOf k:Nat))) ρ2
  | _,_=>False)
 | _=>False
theorem xp(ha:LA1 K ta pa)(he:LE K te pe):LE K (tBM K "list" (Ey K) ta (aJ te cS)) (BP pa pe):=fun A ρ σ H Q Q' R q k =>
 ha A ρ σ H _ _ R q fun v H1 a ρ1 q1 f1 R1 o1=>by
  split at q1
  .rename_i ds0 e1;obtain⟨a0,xs0,rfl,g0,f0⟩:=(R1.cont o1 e1).lst;refine⟨.inl ⟨rfl,xs0,SqL.of g0⟩,he A ρ1 σ H1 _ _ R1 q1 fun w H2 p ρ2 q2 f2 o2=>?_⟩;obtain⟨R2,fv⟩:=o2.frz
   split at q2
   .rename_i ds j e2;obtain⟨ns,rfl,hn,q2⟩:=q2;cases (show FV K _ H2 w (.int j) from fv);obtain⟨a1,xs1,e3,g1,g2⟩:=(R2.cont (o1.keeps f2.keeps) e2).lst;cases e3;rw [g2.ints] at g1;exact⟨a0,ns,j,rfl,rfl,SqL.of g1,hn,k _ H2 _ ρ2 q2 (f1.trans f2) ⟨R2,.int _⟩⟩
   .exact q2.elim
  .exact q1.elim
def nE(n:Int):Nat:=if n == 0 then 0 else n.natAbs.log2+1
def BQ:V->List V->Hp->VK->Prop:=fun x xs H Q=>∃n,x=.int n/\xs=[]/\Q (.int (nE n:Nat)) H
theorem BR:MtR X "int.bit_length" BQ:=by
 intro pins s σ H x xs v us Q I rx rs h;obtain⟨n,rfl,rfl,q⟩:=h;obtain⟨t,rfl⟩:=rx;have hus:=rs.zero;subst hus;exact call_gives F.slot_int_bit_length (typeIs_int s n t) F.entry_int_bit_length (F.args_int_bit_length_1 _) (AutoIntG2.int_bit_length_int_0 n t) ⟨.int _,H,I.tok _,⟨_,rfl⟩,q⟩
def BS(pe:PTE):PTE:=fun ρ Q=>pe ρ fun p ρ1=>match p with
 | .dat (.int n)=>Q (.dat (.int (nE n:Nat))) ρ1
 | _=>False
theorem BU(he:LE K te pe):LE K (Dm K "int" BQ te) (BS pe):=fun A ρ σ H Q Q' R q k=>he A ρ σ H _ _ R q fun v H1 p ρ1 q1 f1 o1=>by
 unfold BS at *
 split at q1
 .obtain⟨R1,fv⟩:=o1;cases fv;exact⟨rfl,_,rfl,rfl,k _ H1 _ ρ1 q1 f1 ⟨R1,.int _⟩⟩
 .exact q1.elim
theorem BV{o:Expr}{to:TE}{name:Str}{apos cpos:Pos}{T id:String}{r:V->List V->Hp->VK->Prop}(K:PySem.W.Frag)(eK:X.K=K)(pa:PlainAttrs T)(slot:Slot T name id)(hty:typeOf (.builtin id)=pure (.type "method_descriptor"))(hm:MtR X id r)(ho:PE X o to)
  (hbase:attributeBase o name X.env (eval o X.env)=eval o X.env:=by rfl) (hline:(apos.endLine == cpos.line)=true:=by rfl):PE X (.Call (.Attribute o name apos) [] [] cpos) (Dm K T r to):=eK ▸ zH pa slot hty hm ho hbase hline
def LPs(K:PySem.W.Frag)(trs:List (TE×TE))(ks:List Key)(pr:PTA):Prop:=∀(A:Addr->Prop) (ρ:PSt) (σ:St) (H:Hp) (Q:List AV->PSt->Prop) (Q':List (V×V)->Hp->Prop),Rel K A ρ σ H->pr ρ Q ->
 (∀vs H' as ρ',Q as ρ'->Fr ρ σ H ρ' H'->Rel K A ρ' σ H'->zM K (OO A ρ' σ) σ H' as vs->vs.length=ks.length->Q' ((ks.zip vs).map fun kv=>(kV kv.1,kv.2)) H')->sX trs σ H Q'
theorem BW:LPs K [] [] ap:=fun A ρ σ H Q Q' R q k=>k [] H [] ρ q (Fr.refl _ _ _) R .nil rfl
theorem ze{tv:TE}{pv:PA1}{trs:List (TE×TE)}{ks:List Key}{pr:PTA}(kk:Key)(hv:LA1 K tv pv)(hr:LPs K trs ks pr):LPs K ((tC (kV kk),tv)::trs) (kk::ks) (af pv pr):=fun A ρ σ H Q Q' R q k =>
 hv A ρ σ H _ _ R q fun v H1 a ρ1 q1 f1 R1 o1=>hr A ρ1 σ H1 _ _ R1 q1 fun vs H2 as ρ2 q2 f2 R2 o2 l2=>k (v::vs) H2 _ ρ2 q2 (f1.trans f2) R2 (.cons (o1.keeps f2.keeps) o2) (by rw [length_cons,l2];rfl)
theorem BX{kvs:List (Key×V)}{k:Key}{v:V}(h:k∉kvs.map Prod.fst):wf kvs k v=kvs++[(k,v)]:=by
 unfold wf;rw [if_neg];intro z;obtain⟨a,m,e⟩:=any_eq_true.mp z;exact h (mem_map.mpr ⟨a,m,of_decide_eq_true e⟩)
theorem qu:∀(kvs acc:List (Key×V)),((acc++kvs).map Prod.fst).Nodup->j4 acc kvs=acc++kvs
 | [],acc,_=>by show acc=_;rw [append_nil]
 | kv::r,acc,h=>by
  show j4 (wf acc kv.1 kv.2) r=_
  have hn:kv.1∉acc.map Prod.fst:=fun m=>by
   rw [map_append,map_cons] at h;exact (nodup_append.mp h).2.2 _ m _ (mem_cons_self ..) rfl
  rw [BX hn,qu r _ (by rw [append_assoc];exact h),append_assoc];rfl
def Ez(ks:List Key)(pr:PTA):PTE:=fun ρ Q=>pr ρ fun as ρ1=>match avD as with
 | some ds=>Q (.dat (.dic ks ds)) ρ1
 | none=>False
theorem BY{trs:List (TE×TE)}{ks:List Key}{pr:PTA}(hn:ks.Nodup)(h15:ks.length<=15)(h:LPs K trs ks pr):LE K (DI trs) (Ez ks pr):=fun A ρ σ H Q Q' R q k=>fun p hp=>by
 have R1:Rel K (fk A p) ρ σ (upd H p (.dK [])):=R.grA (Gr.new hp) hp (by rw [aF];exact nofun);refine h (fk A p) ρ σ _ _ _ R1 q fun vs H2 as ρ2 q2 f2 R2 o2 l2=>?_
 split at q2
 .rename_i ds ed;have e2:H2 p=some (.dK []):=f2.kp p _ (R1.sep p (.inr rfl)) aF;have fv:=o2.avD ed;have m1:(ks.zip vs).map Prod.fst=ks:=map_fst_zip (by omega);have m2:(ks.zip vs).map Prod.snd=vs:=map_snd_zip (by omega)
  have em:j4 [] (ks.zip vs)=ks.zip vs:=by
   rw [qu _ _ (by rw [nil_append,m1];exact hn),nil_append]
  refine⟨e2,ks.zip vs,rfl,by rw [length_zip];omega,?_⟩;rw [em]
  have fr:Fr ρ σ H ρ2 (upd H2 p (.dK (ks.zip vs))):=⟨fun b o n e=>by
   have nb:b≠p:=aT e hp;rw [aw nb];exact f2.kp b o n (by rw [aw nb];exact e),fun b e=>by
   by_cases z:b=p
   .rw [z,aF];exact nofun
   .rw [aw z];exact f2.dm b (by rw [aw z];exact e),f2.ow⟩
  have np:¬ OO A ρ2 σ p:=fun z=>z.elim (fun z=>R.dom p z hp) fun z=>R2.sep p (.inr rfl) z;refine k _ _ (.dat (.dic ks ds)) ρ2 q2 fr ⟨(R2.amb (o:=.dK (ks.zip vs)) (.inr rfl)).less fun b z=>.inl z,.dic np aF m1 ?_⟩;rw [m2];refine fv.keeps fun b o n e=>⟨fun z=>n (z.imp .inl id),?_⟩
  rw [aw fun z=>n (.inl (.inr z))];exact e
 .exact q2.elim
end
section
variable {X:Cx}{K:PySem.W.Frag}
def Ad(K:PySem.W.Frag):R2:=fun x y H Q=>∃a b ys,x=.ref a/\y=.ref b/\SqT K H a []/\SqT K H b ys/\Q (.ref b) H
theorem zf:OpR X (binaryOp .Add) (Ad X.K):=by
 intro pins s σ H x y v u Q I rx ry h;obtain⟨a,b,ys,rfl,rfl,ha,hb,q⟩:=h;cases rx;cases ry;obtain⟨its,r1,p1,_⟩:=I.tuple ha;obtain⟨its2,r2,p2,_⟩:=I.tuple hb;have e0:its=[]:=r1.nil_iff.mpr rfl;subst e0;obtain⟨⟨cls,dd,data,sl⟩,ho,hc,n,hd⟩:=id p1;obtain⟨⟨cls2,dd2,data2,sl2⟩,ho2,hc2,n2,hd2⟩:=id p2;simp only at hc hd hc2 hd2;subst hc hd hc2 hd2;exact concat_meets ⟨_,ho,rfl⟩ ⟨_,ho2,rfl⟩ noFill_tuple_add seq_tuple_add PySem.F.slot_tuple_add PySem.F.entry_tuple_add (PySem.F.args_tuple_add_2 _ _) (tuple_addW0 a b _ _ n n2 dd dd2 sl sl2 rfl) ⟨ho,ho2,.ref b,H,I,rfl,q⟩
def mB(K:PySem.W.Frag):R2:=fun x y H Q=>Bi K x y H Q\/Ad K x y H Q
theorem bE(K:PySem.W.Frag)(e:X.K=K):OpR X (binaryOp .Add) (mB K):=OpR.or (FL K e) (by subst e;exact zf)
def cF:F2
 | .tup a,.tup b,Q=>a.length+b.length<=1000000/\Q (.dat (.tup (a++b)))
 | a,b,Q=>FO a b Q
theorem a5:LO K (mB K) cF:=by
 intro O H x y a b Q Q' dom fx fy q k;unfold cF at q
 split at q
 .rename_i Q ds es
  cases ds with
  | cons d ds=>exact .inl (zP O H x y _ _ _ Q' dom fx fy ⟨nofun,q⟩ k)
  | nil =>
   obtain⟨p1,xs1,rfl,n1,e1,f1⟩:=fx.tup;obtain⟨p2,xs2,rfl,n2,e2,f2⟩:=fy.tup;cases f1;exact .inr ⟨p1,p2,xs2,rfl,rfl,SqT.of e1,SqT.of e2,k _ H _ q.2 (Gr.refl _) (.tup n2 e2 f2)⟩
 .exact .inl (zP O H x y _ _ _ Q' dom fx fy q k)
end
section
variable {X:Cx}
def G0:Expr->Bool
 | .ListComp ..|.SetComp ..|.DictComp ..=>false
 | _=>true
theorem xq{o i e:Expr}{p:Pos}{l:Nat}{env:Env}(h:G0 e=true):swapsWithSole [.Subscript o i p] e l env=pure false:=by
 show swapsWith e (some (.Subscript o i p)) l env=pure false;cases e <;> first|rfl|cases h
theorem rT{o i e:Expr}{p:Pos}{env:Env}:swappedStores [.Subscript o i p] e env=pure none:=rfl
theorem lA{o i e:Expr}{p:Pos}{te:TE}{g:TG}{pos:Pos}(he:PE X e te)(hg:PG X (.Subscript o i p) g)(hn:G0 e=true:=by rfl):PS X (.Assign [.Subscript o i p] e pos) (vg te g) :=
 zC he hg (xq hn) rT rfl
end
def gO(K:PySem.W.Frag)(x:Str)(st:Stmt):Prop:=∃(f:Addr) (oc kV dc pm cd ct:Value) (od an:Option Addr) (sl:Array (Option Value)),PySem.W.nsIn K mainGlobals x=some (some (.ref f)) /\
 K.lookup f=some ⟨oc,od,.func (PySem.W.fnOf x x (cL st) (bS st) (aq st) .none kV dc pm an cd ct),sl⟩/\PySem.W.codeIn K cd x=true/\PySem.W.keepIn K (.ref f)=true
theorem EA{K:PySem.W.Frag}{x:Str}{st:Stmt}{f:Addr}{oc kV dc pm cd ct:Value}{od an:Option Addr}{sl:Array (Option Value)}(a:PySem.W.nsIn K mainGlobals x=some (some (.ref f)))(l:K.lookup f=some ⟨oc,od,.func (PySem.W.fnOf x x (cL st) (bS st) (aq st) .none kV dc pm an cd ct),sl⟩)
  (c:PySem.W.codeIn K cd x=true) (k:PySem.W.keepIn K (.ref f)=true):gO K x st:=⟨f,oc,kV,dc,pm,cd,ct,od,an,sl,a,l,c,k⟩
theorem bJ{K:PySem.W.Frag}{h:Heap}{mg:Str->Option Value}{x:Str}{st:Stmt}(q:gO K x st)(X:K.In h)(G:h.Ns mainGlobals mg):cj K mg x st:=by
 obtain⟨f,oc,kV,dc,pm,cd,ct,od,an,sl,a,l,c,k⟩:=q;exact .mk' X G a l c k
section
variable {X:Cx}{K:PySem.W.Frag}
def EB(K:PySem.W.Frag)(te ts:TE):TE:=fun σ H Q=>te σ H fun x H1=>ts σ H1 fun y H2=>y=.int (-1)/\((∃l,x=.str (S l)/\l.length<=sizeLine/\Q (.str (S l.reverse)) H2)\/∃a xs,x=.ref a/\SqL K H2 a xs/\∀p,H2 p=none->Q (.ref p) (upd H2 p (.lst xs.reverse)))
theorem BZ(K:PySem.W.Frag)(e0:X.K=K){e st:Expr}{te:TE}{ts:TE}{p2 pos:Pos}(he:PE X e te)(hst:PE X st ts) :
  PE X (.Subscript e (.Slice none none (some st) p2) pos) (EB K te ts):=by
 subst e0;intro pins s σ H Q I h;refine Subscript_ (thn (he pins s σ H _ I h) fun v s1 ⟨x,H1,I1,r1,q1⟩=>?_);refine wpAny_Slice ?_;rw [evalPart_none];refine wpAny_pure (wpAny_pure ?_);rw [evalPart_some];refine thn (hst pins s1 σ H1 _ I1 q1) fun vs s2 ⟨y,H2,I2,r2,q2⟩=>?_;obtain⟨rfl,q2⟩:=q2;obtain⟨t',rfl⟩:=r2;have I3:Inv X pins σ H2 { s2 with heap:=s2.heap.push { cls:=.type "slice",data:=.fields #[.none,.none,.int (-1) t'] } }:=I2.kept (t':=s2.toks) fun b ob q=>Heap.get?_push_of_some _ q
 rcases q2 with ⟨l,rfl,hz,q⟩|⟨a,xs,rfl,hx,q⟩
 .obtain⟨t,rfl⟩:=r1;have hm:∀t2 k,EP X pins σ Q (.str (Txt.sliceBy (S l) none none (-1,t')) t2) { { s2 with heap:=s2.heap.push { cls:=.type "slice",data:=.fields #[.none,.none,.int (-1) t'] } } with toks:=k }:=fun t2 k=>⟨.str (S l.reverse),H2,I3.tok _,⟨t2,by rw [FA]⟩,q⟩
  refine tail_any (ops:=[.ref s2.heap.objs.size,.str (S l) t]) (typeIs_str _ _ t) slot_str_getitem.lookup (wpAny_getItem_str_slice (l:=none) (u:=none) (st:=some (-1,t')) ⟨_,Heap.get?_push_size _ rfl,rfl,rfl⟩ rfl ?_) (by with_unfolding_all rfl);exact post_val_or_str ⟨Nat.le_trans (Txt.sliceBy_le _ _ _ (-1,t') (by show (-1:Int)≠0;decide)) (by rw [gy];exact hz),hm⟩
 .cases r1;obtain⟨its,r,ht,hz⟩:=I3.list hx;have hlen:=r.length;refine tail_any (ops:=[.ref a,.ref s2.heap.objs.size]) ht.isList.typeIs slot_list_getitem.lookup (wpAny_getItem_list_slice ht.isList ⟨_,Heap.get?_push_size _ rfl,rfl,rfl⟩ .none .none (st:=some (-1)) (.int _ _) (by simp) ?_ (by rw [size_toArray] <;> omega)) (by first|with_unfolding_all rfl|rfl);rw [PySem.W.krv_pick];refine⟨.ref _,_,I3.laid (t':=s2.toks) (o:=.lst xs.reverse) (fun b ob q=>Heap.get?_push_of_some _ q) (Nat.le_refl _) ?_,rfl,q _ (I3.hok.fresh (Nat.le_refl _))⟩
  exact⟨by rw [length_reverse];exact hz,_,0,r.reverse,Heap.get?_push_size _ rfl⟩
end
section
variable {K:PySem.W.Frag}{ta tb:TE}{pa:PA1}{pe:PTE}
def EC(pa:PA1)(pe:PTE):PTE:=fun ρ Q=>pa ρ fun x ρ1=>pe ρ1 fun p ρ2=>match cont ρ2 x,p with
 | some (.str l),.dat (.int (-1))=>Q (.dat (.str l.reverse)) ρ2
 | some (.lst ds),.dat (.int (-1))=>Q (.own ds.reverse) ρ2
 | _,_=>False
theorem B0(ha:LA1 K ta pa)(hb:LE K tb pe):LE K (EB K ta tb) (EC pa pe):=fun A ρ σ H Q Q' R q k =>
 ha A ρ σ H _ _ R q fun v H1 a ρ1 q1 f1 R1 o1=>hb A ρ1 σ H1 _ _ R1 q1 fun w H2 p ρ2 q2 f2 o2=>by
  split at q2
  .rename_i l e1;obtain⟨R2,fw⟩:=o2;cases fw;have fx:=R2.cont (o1.keeps f2.keeps) e1;exact⟨rfl,.inl ⟨l,fx.str.1,sz _ fx.str.2,k _ H2 _ ρ2 q2 (f1.trans f2) ⟨R2,.str _ (by rw [length_reverse];exact fx.str.2)⟩⟩⟩
  .rename_i ds e1;obtain⟨R2,fw⟩:=o2;cases fw;obtain⟨a,xs,rfl,e2,f3⟩:=(R2.cont (o1.keeps f2.keeps) e1).lst;exact⟨rfl,.inr ⟨a,xs,rfl,SqL.of e2,fun p hp=>k _ _ _ ρ2 q2 ((f1.trans f2).trans (Gr.new hp).fr) (((eA hp f3.reverse).out R2 (Gr.new hp)).h0 fun b z=>f2.dm b (f1.dm b z))⟩⟩
  .exact q2.elim
end
section
open PySem.AutoSeq1 (wpAny_loadPart')
open PySem.MeetsSeq PySem.MeetsSeq2 PySem.MeetsSeq3
variable {P:Program}{w:World}{A:Around}
end
def frzA(ρ:PSt):PSt:=ρ.map (Option.map fun p=>PV.dat p.d)
section
variable {K:PySem.W.Frag}{A:Addr->Prop}{ρ:PSt}{σ:St}{H H':Hp}{O O':Addr->Prop}
theorem oI{i:Nat}{p:PV}(e:(frzA ρ)[i]?=some (some p)):∃p0,ρ[i]?=some (some p0)/\p=.dat p0.d:=by
 unfold frzA at e;rw [getElem?_map] at e
 cases h:ρ[i]? with
 | none=>rw [h] at e;cases e
 | some o =>
  cases o with
  | none=>rw [h] at e;cases e
  | some p0=>rw [h] at e;cases e;exact⟨p0,rfl,rfl⟩
theorem lB{b:Addr}:¬ Wr (frzA ρ) σ b:=fun ⟨i,p,e,o,_⟩=>by
 obtain⟨p0,_,rfl⟩:=oI e;cases o
theorem Rel.frzA(R:Rel K A ρ σ H):Rel K A (frzA ρ) σ H:=by
 have k:aS (OO A ρ σ) H (OO A (L2.frzA ρ) σ) H:=aS.less fun b z=>z.elim .inl fun z=>(lB z).elim
 refine⟨by unfold L2.frzA;rw [length_map];exact R.len,fun i p e=>?_,fun i j p q v e1 e2 o1=>?_,R.dom,fun b _ w=>lB w⟩
 .obtain⟨p0,e0,rfl⟩:=oI e;obtain⟨v,s,r⟩:=R.get i p0 e0;refine⟨v,s,?_⟩
  have na:∀a,v=.ref a->p0.isOwn=true->¬ OO A (L2.frzA ρ) σ a:=fun a ea oo z=>by
   subst ea
   rcases z with z|z
   .exact R.sep a z ⟨i,p0,e0,oo,s⟩
   .exact lB z
  cases p0 with
  | dat d=>exact FV.keeps k r
  | own ds =>
   obtain⟨a,xs,rfl,g,f⟩:=r;exact .lst (na a rfl rfl) g (f.keeps k)
  | ins c ns ds =>
   obtain⟨a,dx,fs,rfl,g,m,f⟩:=r;exact .obj (na a rfl rfl) g m (f.keeps k)
 .obtain⟨p0,_,rfl⟩:=oI e1;cases o1
theorem FV.flat{v:V}{d:D}(h:FV K O H v d)(f:d.fl=true):FV K O' H' v d:=by
 cases h with
 | non=>exact .non
 | bl b=>exact .bl b
 | int i=>exact .int i
 | str l hl=>exact .str l hl
 | ty _=>cases f
 | scr _=>cases f
 | lst _ _ _=>cases f
 | tup _ _ _=>cases f
 | dic _ _ _ _=>cases f
 | obj _ _ _ _=>cases f
 | exc0 _ _=>cases f
 | exc1 _ _ _ _ _ _=>cases f
inductive Cp (K:PySem.W.Frag) (O:Addr->Prop) (H0 H:Hp):List Addr->List (List D)->Prop
 | nil:Cp K O H0 H [] []
 | cons {a:Addr}{xs:List V}{r:List D}{as:List Addr}{rows:List (List D)}:H a=some (.lst xs)->FVs K O H0 xs r->Cp K O H0 H as rows->Cp K O H0 H (a::as) (r::rows)
theorem Cp.length{H0:Hp}:∀{as:List Addr}{rows:List (List D)},Cp K O H0 H as rows->as.length=rows.length
 | _,_,.nil=>rfl
 | _,_,.cons _ _ t=>by rw [length_cons,length_cons,t.length]
theorem Cp.app{H0:Hp}{a:Addr}{xs:List V}{r:List D}(h1:H a=some (.lst xs))(h2:FVs K O H0 xs r):∀{as:List Addr}{rows:List (List D)},Cp K O H0 H as rows->Cp K O H0 H (as++[a]) (rows++[r])
 | _,_,.nil=>.cons h1 h2 .nil
 | _,_,.cons p q t=>.cons p q (Cp.app h1 h2 t)
theorem Cp.get{H0:Hp}:∀{as:List Addr}{rows:List (List D)}{n:Nat}{r:List D},Cp K O H0 H as rows->rows[n]?=some r->∃a xs,as[n]?=some a/\H a=some (.lst xs)/\FVs K O H0 xs r
 | _,_,n,_,.nil,e=>by simp at e
 | _,_,0,_,.cons p q t,e=>by simp at e;subst e;exact⟨_,_,rfl,p,q⟩
 | _,_,n+1,r,.cons p q t,e=>by
  obtain⟨a,xs,h1,h2,h3⟩:=Cp.get (n:=n) (r:=r) t (by simpa using e);exact⟨a,xs,by simpa using h1,h2,h3⟩
theorem Cp.mono{H0:Hp}:∀{as:List Addr}{rows:List (List D)},(∀a∈as,∀o,H a=some o->H' a=some o)->Cp K O H0 H as rows->Cp K O H0 H' as rows
 | _,_,_,.nil=>.nil
 | _,_,k,.cons p q t=>.cons (k _ mem_cons_self _ p) q (t.mono fun a ha=>k a (mem_cons_of_mem _ ha))
theorem Cp.dom{H0:Hp}:∀{as:List Addr}{rows:List (List D)},Cp K O H0 H as rows->∀a∈as,∃o,H a=some o
 | _,_,.nil,_,h=>nomatch h
 | _,_,.cons p q t,a,h=>by
  rcases mem_cons.mp h with rfl|h
  .exact⟨_,p⟩
  .exact t.dom a h
theorem Cp.put{H0:Hp}{a:Addr}{xs:List V}{r:List D}(h2:FVs K O H0 xs r):∀{as:List Addr}{rows:List (List D)}{n:Nat},as.Nodup->as[n]?=some a->Cp K O H0 H as rows->Cp K O H0 (upd H a (.lst xs)) as (rows.set n r)
 | _,_,n,_,e,.nil=>by simp at e
 | _,_,0,nd,e,.cons p q t=>by
  simp at e;subst e;exact .cons aF h2 (t.mono fun b hb o z=>by rw [aw (fun e=>(nodup_cons.mp nd).1 (by rw [<- e];exact hb))];exact z)
 | _,_,n+1,nd,e,.cons p q t=>by
  rw [getElem?_cons_succ] at e;exact .cons (by rw [aw (fun z=>(nodup_cons.mp nd).1 (by rw [z];exact mem_of_getElem? e))];exact p) q (Cp.put h2 (nodup_cons.mp nd).2 e t)
theorem Cp.fvs{H0:Hp}(g:Gr H0 H)(ho:∀b,O' b->O b\/H0 b=none):∀{as:List Addr}{rows:List (List D)},(∀a∈as,¬ O' a)->Cp K O H0 H as rows->FVs K O' H (as.map V.ref) (rows.map D.lst)
 | _,_,_,.nil=>.nil
 | _,_,k,.cons p q t=>.cons (.lst (k _ mem_cons_self) p (q.keeps fun b o n e=>⟨fun z=>(ho b z).elim n (fun z=>by rw [z] at e;cases e),g b o e⟩)) (t.fvs g ho fun a ha=>k a (mem_cons_of_mem _ ha))
inductive gp:List D->List (List D)->Prop
 | nil:gp [] []
 | cons {d:D}{r:List D}{ds:List D}{rows:List (List D)}:ij d r->gp ds rows->gp (d::ds) (r::rows)
theorem gp.length:∀{ds:List D}{rows:List (List D)},gp ds rows->ds.length=rows.length
 | _,_,.nil=>rfl
 | _,_,.cons _ t=>by rw [length_cons,length_cons,t.length]
theorem gp.get:∀{ds:List D}{rows:List (List D)}{n:Nat}{d:D},gp ds rows->ds[n]?=some d->∃r,rows[n]?=some r/\ij d r
 | _,_,n,_,.nil,e=>by simp at e
 | _,_,0,_,.cons p t,e=>by simp at e;subst e;exact⟨_,rfl,p⟩
 | _,_,n+1,d,.cons p t,e=>by
  obtain⟨r,h1,h2⟩:=gp.get (n:=n) (d:=d) t (by simpa using e);exact⟨r,by simpa using h1,h2⟩
theorem FV.sq{v:V}{d:D}{ds:List D}(h:FV K O H v d)(s:ij d ds):∃(k:Bool) (a:Addr) (xs:List V),v=.ref a/\H a=some (if k then .tup xs else .lst xs)/\FVs K O H xs ds:=by
 rcases s with rfl|rfl
 .cases h with
  | lst n e f=>exact⟨false,_,_,rfl,e,f⟩
 .cases h with
  | tup n e f=>exact⟨true,_,_,rfl,e,f⟩
theorem xr{y:Nat}{v:V}{ds:List D}{rows:List (List D)}{Q:VK}(hv:σ[y]?=some (some v))(fv:∃(k:Bool) (a:Addr) (xs:List V),v=.ref a/\H a=some (if k then .tup xs else .lst xs)/\FVs K O H xs ds)(hr:gp ds rows)(hl:ds.length<=1000)
  (k:∀(D:Addr) (as:List Addr) (H1:Hp),Gr H H1->H D=none->as.Nodup->(∀a∈as,H a=none/\a≠D)->H1 D=some (.lst (as.map V.ref))->Cp K O H H1 as rows->Q (.ref D) H1) :
  mq [none] (gH K (aM y)) (bu 0) gF (tCB (e8 K) (aJ (aM 0) cS)) σ H Q:=by
 obtain⟨kd,p,vs,rfl,ep,fvs⟩:=fv
 have hsq:∀H',Gr H H'->Sq kd K H' p vs:=fun H' g=>by
  have:=g _ _ ep
  cases kd with
  | false=>exact SqL.of this
  | true=>exact SqT.of this
 refine⟨_,hv,.inl ⟨kd,p,vs,rfl,hsq H fun _ _ e=>e,fun D hD=>?_⟩⟩
 refine yu (k:=kd) (K:=K) (a:=p) (xs:=vs) (fun i ys τ H1=>(∃t0,τ=[t0])/\∃as:List Addr,ys=as.map V.ref/\as.length=i/\Gr H H1/\as.Nodup/\(∀a∈as,H a=none/\a≠D)/\H1 D=some (.lst ys)/\Cp K O H H1 as (rows.take i)) ⟨⟨none,rfl⟩,[],rfl,rfl,Gr.new hD,.nil,(fun a ha=>nomatch ha),aF,.nil⟩ (fun i ys τ H1 _ z=>by obtain⟨_,as,_,_,g,_⟩:=z;exact hsq H1 g) ?_ ?_
 .rintro i x ys τ H1 hi ⟨⟨t0,rfl⟩,as,rfl,ha,g,nd,fr,eD,cp⟩ K1 K2 k1 k2;obtain⟨dx,hdx,fx⟩:=fvs.get hi;obtain⟨r,hri,sr⟩:=hr.get hdx;obtain⟨kr,q,xs,rfl,eq,fq⟩:=fx.sq sr;have hil:i<ds.length:=(List.getElem?_eq_some_iff.mp hdx).1;show ∃v,_/\_
  refine⟨.ref q,rfl,q,xs,rfl,?_,fun l hl=>?_⟩
  .cases kr with
   | false=>exact .inl (SqL.of (g _ _ eq))
   | true=>exact .inr (SqT.of (g _ _ eq))
  .have hlD:l≠D:=fun z=>by rw [z,eD] at hl;cases hl
   have hlH:H l=none:=by
    cases e:H l with
    | none=>rfl
    | some o=>rw [g _ _ e] at hl;cases hl
   have hla:l∉as:=fun z=>by
    obtain⟨o,e⟩:=cp.dom l z;rw [e] at hl;cases hl
   refine k1 _ _ _ (by rw [aw (Ne.symm hlD)];exact eD) (lt_of_lt_of_le (show _<1000000 by rw [length_map];omega) (sz _ (Nat.le_refl _))) ⟨⟨_,rfl⟩,as++[l],by rw [map_append];rfl,by rw [length_append,ha];rfl,fun b o e=>?_,?_,fun a h=>?_,aF,?_⟩
   .rw [aw (fun z=>by rw [z,hD] at e;cases e),aw (fun z=>by rw [z,hlH] at e;cases e)];exact g b o e
   .rw [nodup_append];exact⟨nd,nodup_cons.mpr ⟨(fun h=>nomatch h),.nil⟩,fun x hx y hy z=>hla (by rw [<- mem_singleton.mp hy,<- z];exact hx)⟩
   .rcases mem_append.mp h with h|h
    .exact fr a h
    .rw [mem_singleton.mp h];exact⟨hlH,hlD⟩
   .rw [take_add_one,hri];have ne:∀a,a∈as->a≠D:=fun a h=>(fr a h).2;exact Cp.app (by rw [aw hlD,aF]) fq (cp.mono fun a h o z=>by rw [aw (ne a h),aw (fun z=>hla (by rw [<- z];exact h))];exact z)
 .rintro ys τ H1 ⟨_,as,rfl,ha,g,nd,fr,eD,cp⟩;rw [take_of_length_le (by rw [fvs.length,hr.length];exact Nat.le_refl _)] at cp;exact k D as H1 g hD nd fr eD cp
structure Opn (K:PySem.W.Frag) (A:Addr->Prop) (ρ:PSt) (σ:St) (H:Hp) (D:Addr) (as:List Addr) (H1:Hp) (rows:List (List L2.D)):Prop where
 gr:Gr H H1
 hD:H D=none
 nd:as.Nodup
 fr:∀a∈as,H a=none/\a≠D
 eD:H1 D=some (.lst (as.map V.ref))
 cp:Cp K (OO A ρ σ) H H1 as rows
theorem B1{y:Nat}{p:PV}{ds:List D}{rows:List (List D)}{Q:VK}(R:Rel K A ρ σ H)(hy:ρ[y]?=some (some p))(sq:ij p.d ds)(hr:gp ds rows)(hl:ds.length<=1000)(k:∀Da as H1,Opn K A ρ σ H Da as H1 rows->Q (.ref Da) H1) :
  mq [none] (gH K (aM y)) (bu 0) gF (tCB (e8 K) (aJ (aM 0) cS)) σ H Q:=by
 obtain⟨v,hv,r⟩:=R.get y p hy;refine xr hv ?_ hr hl fun Da as H1 g hD nd fr eD cp=>k Da as H1 ⟨g,hD,nd,fr,eD,cp⟩
 cases p with
 | dat d=>exact FV.sq r sq
 | own es =>
  obtain⟨a,xs,rfl,e,f⟩:=r
  rcases sq with sq|sq
  .cases sq;exact⟨false,a,xs,rfl,e,f⟩
  .cases sq
 | ins c ns es=>rcases sq with sq|sq <;> cases sq
end
section
variable {P:Program}{w:World}{A:Around}{R:Result->Shared->Prop}{I:Addr}{fp wr:List Addr}{n:Nat}{Pv:Nat->Value->Prop}{St:Nat->Heap->Prop}{d:Value}
abbrev dfl(d:Value):List (Str×Value):=[((Str.ofString "default"),d)]
theorem mxn:(toString "max"++toString ".loop":String)="max.loop":=by decide
theorem rV(W:Walks P w A.in1 I fp wr n Pv St)(bt:Nat->Nat->Bool)(hcmp:CmpOf P w A.in1 .Gt Pv bt)(B:Addr)(hB:B∉fp):∀(k j:Nat) (z:Shared) (vb:Value) (c:Nat),n=j+1+k->St (j+1) z.heap->Pv (argBest bt j) vb ->
  z.heap.get? B=some { cls:=.type "list",dict:=none,data:=.seq #[vb,vb] c,slots:=#[] } ->
  (∀v h' tk,Pv (argBest bt (n - 1)) v->(∀b o,b∉wr->b≠B->z.heap.get? b=some o->h'.get? b=some o)->R (.ok (.ret v)) { z with heap:=h',toks:=tk }) ->
  codeAny (model P w) A (.builtin "max.loop" ⟨[.ref I,.none,.ref B],dfl d⟩) R z
 | 0,j,z,vb,c,hn,st,pb,hS,hR=>by
  refine codeAny_builtin F.entry_max_loop ?_;rw [Around.under_plainId F.plain_max_loop _];show wpAny _ A.in1 (seqItems? (.ref B) >>= _) _ _ z;refine wpAny_bind (wpAny_seqItems hS rfl ?_);show wpAny _ A.in1 (tryCatch (pyNext (.ref I)) _ >>= _) _ _ z;refine wpAny_bind (wpAny_tryCatch (W.done z _ _ (by rw [hn];exact st) fun h' tk old=>?_));have hS':=old B _ (fun q=>hB (W.sub _ q)) hS;show wpAny _ A.in1 (updateSeq B (fun _=>#[]) >>= _) _ _ _
  refine wpAny_bind (wpAny_updateSeq hS' rfl (wpAny_bind (wpAny_letGo (wpAny_pure ?_))));exact hR vb _ tk (by rw [hn];exact pb) fun b o h1 h2 e=>(Heap.get?_update_other _ _ (Ne.symm h2)).trans (old b o h1 e)
 | k+1,j,z,vb,c,hn,st,pb,hS,hR=>by
  refine codeAny_builtin F.entry_max_loop ?_;rw [Around.under_plainId F.plain_max_loop _];show wpAny _ A.in1 (seqItems? (.ref B) >>= _) _ _ z;refine wpAny_bind (wpAny_seqItems hS rfl ?_);show wpAny _ A.in1 (tryCatch (pyNext (.ref I)) _ >>= _) _ _ z;refine wpAny_bind (wpAny_tryCatch (W.item (j+1) z _ _ (by omega) st fun v h' tk hv st' old=>?_));have hS':=old B _ (fun q=>hB (W.sub _ q)) hS;show wpAny _ A.in1 (tryCatch (holding [v,v] (richCompare .Gt v vb >>= _)) _ >>= _) _ _ _
  refine wpAny_bind (wpAny_tryCatch (wpAny_holding (wpAny_bind (hcmp (j+1) (argBest bt j) v vb _ _ _ hv pb ?_))));refine wpAny_bind (wpAny_holding (wpAny_truthy_bool ?_));refine wpAny_bind (wpAny_letGo (wpAny_pure ?_))
  cases hb:bt (j+1) (argBest bt j) with
  | true =>
   simp only [if_true];refine wpAny_bind (wpAny_updateSeq hS' rfl (wpAny_bind (wpAny_letGo ?_)));rw [mxn];refine wpAny_pure ⟨plainId_quiet F.plain_max_loop _,rV W bt hcmp B hB k (j+1) _ v _ (by omega) (W.frame _ _ _ st' fun b hb o e=>(Heap.get?_update_other _ _ (fun q:B=b=>hB (by rw [q];exact hb))).trans e) (by show Pv (if bt (j+1) (argBest bt j) then j+1 else argBest bt j) v;rw [hb];exact hv) (Heap.get?_update_self _ hS' rfl) fun v' h2 t2 p2 o2=>?_⟩
   exact hR v' h2 t2 p2 fun b o h1 h3 e=>o2 b o h1 h3 ((Heap.get?_update_other _ _ (Ne.symm h3)).trans (old b o h1 e))
  | false =>
   simp only [false_eq_true,if_false];refine wpAny_bind (wpAny_letGo ?_);rw [mxn];refine wpAny_pure ⟨plainId_quiet F.plain_max_loop _,rV W bt hcmp B hB k (j+1) _ vb c (by omega) st' (by show Pv (if bt (j+1) (argBest bt j) then j+1 else argBest bt j) vb;rw [hb];exact pb) hS' fun v' h2 t2 p2 o2=>?_⟩;exact hR v' h2 t2 p2 fun b o h1 h3 e=>o2 b o h1 h3 (old b o h1 e)
theorem zg(W:Walks P w A.in1 I fp wr n Pv St)(bt:Nat->Nat->Bool)(hcmp:CmpOf P w A.in1 .Gt Pv bt)(B:Addr)(hB:B∉fp){z:Shared}{c:Nat}(st:St 0 z.heap)
  (hS:z.heap.get? B=some { cls:=.type "list",dict:=none,data:=.seq #[] c,slots:=#[] })
  (hR0:n=0->∀h' tk,(∀b o,b∉wr->b≠B->z.heap.get? b=some o->h'.get? b=some o)->R (.ok (.ret d)) { z with heap:=h',toks:=tk })
  (hR:0<n->∀v h' tk,Pv (argBest bt (n - 1)) v->(∀b o,b∉wr->b≠B->z.heap.get? b=some o->h'.get? b=some o)->R (.ok (.ret v)) { z with heap:=h',toks:=tk }) :
  codeAny (model P w) A (.builtin "max.loop" ⟨[.ref I,.none,.ref B],dfl d⟩) R z:=by
 refine codeAny_builtin F.entry_max_loop ?_;rw [Around.under_plainId F.plain_max_loop _];show wpAny _ A.in1 (seqItems? (.ref B) >>= _) _ _ z;refine wpAny_bind (wpAny_seqItems hS rfl ?_);show wpAny _ A.in1 (tryCatch (pyNext (.ref I)) _ >>= _) _ _ z
 by_cases hn:n=0
 .refine wpAny_bind (wpAny_tryCatch (W.done z _ _ (by rw [hn];exact st) fun h' tk old=>?_));show wpAny _ A.in1 (rule _ >>= _) _ _ _;refine wpAny_bind (wpAny_rule (wpAny_pure ?_));exact hR0 hn h' tk fun b o h1 _ e=>old b o h1 e
 .refine wpAny_bind (wpAny_tryCatch (W.item 0 z _ _ (by omega) st fun v h' tk hv st' old=>?_));have hS':=old B _ (fun q=>hB (W.sub _ q)) hS;show wpAny _ A.in1 (updateSeq B (fun _=>#[v,v]) >>= _) _ _ _;refine wpAny_bind (wpAny_updateSeq hS' rfl ?_);rw [mxn];refine wpAny_pure ⟨plainId_quiet F.plain_max_loop _,rV W bt hcmp B hB (n - 1) 0 _ v _ (by omega) (W.frame _ _ _ st' fun b hb o e=>(Heap.get?_update_other _ _ (fun q:B=b=>hB (by rw [q];exact hb))).trans e) hv (Heap.get?_update_self _ hS' rfl) fun v' h2 t2 p2 o2=>?_⟩
  exact hR (by omega) v' h2 t2 p2 fun b o h1 h3 e=>o2 b o h1 h3 ((Heap.get?_update_other _ _ (Ne.symm h3)).trans (old b o h1 e))
end
theorem xt(a v:Value):argsOk "max" ⟨[a],dfl v⟩:=by unfold argsOk;kernel_rfl
theorem xu{P:Program}{w:World}{A:Around}{z:Shared}{l:Addr}{xs:Array (Int×Tok)}{d:Value}{Q:Value->Shared->Prop}{E:Value->Shared->Prop}(hh:A.handled=none)(hl:z.heap.IsList l (intItems xs))
  (k0:xs.size=0->∀h' tk,(∀b o,z.heap.get? b=some o->h'.get? b=some o)->Q d { z with heap:=h',toks:=tk })
  (k:0<xs.size->∀v h' tk,(intItems xs)[argBest (fun i j=>decide (numAt xs i > numAt xs j)) (xs.size - 1)]?=some v->(∀b o,z.heap.get? b=some o->h'.get? b=some o)->Q v { z with heap:=h',toks:=tk }) :
  wpAny (model P w) A (call (.builtin "max") [.ref l] (dfl d)) Q E z:=by
 have hsz:(intItems xs).size=xs.size:=by simp [intItems]
 refine kmk_tree F.kind_max F.plain_max F.entry_max (xt _ _) ?_;show wpAny _ A.in1 (Builtin.Builtins.bindParams "max" ["key","default"] 0 ⟨[],dfl d⟩ >>= _) _ _ z;refine wpAny_bind (wpAny_of_eq (show Builtin.Builtins.bindParams "max" ["key","default"] 0 ⟨[],dfl d⟩=pure [none,some d] from rfl) ?_);refine wpAny_bind (wpAny_pure ?_);refine wpAny_bind (iter_intList hl fun s₂ e st hfp hlI=>?_);subst e;refine wpAny_bind (wpAny_newObj_type ?_)
 rw [mxn];have W:=Walks.list (prog:=P) (w:=w) (A:=A.in1) hh _ l hlI (intItems xs)
 refine wpAny_pure ⟨plainId_quiet F.plain_max_loop _,zg W _ (CmpOf.ints_gt (numAt xs) (fun _ _=>intItems_at)) _ (fun hm=>Nat.lt_irrefl _ (hfp _ hm)) (W.frame _ _ _ st fun b _ o e=>Heap.get?_push_of_some _ e) (Heap.get?_push_size _ rfl) (fun e0 h' tk old=>?_) fun e0 v h' tk hv old=>?_⟩
 .exact k0 (by omega) h' tk (old_kept fun b o hb e=>old b o hb (ne_of_lt (Heap.lt_size e)) (Heap.get?_push_of_some _ e))
 .exact k (by omega) v h' tk (by rw [hsz] at hv;exact hv) (old_kept fun b o hb e=>old b o hb (ne_of_lt (Heap.lt_size e)) (Heap.get?_push_of_some _ e))
section
variable {X:Cx}{K:PySem.W.Frag}{te tf:TE}{pa:PA1}{pe:PTE}
def B2(K:PySem.W.Frag)(x d:V)(H:Hp)(Q:VK):Prop:=∃(p:Addr) (ns:List Int),x=.ref p/\SqL K H p (ns.map V.int)/\(ns=[]->Q d H)/\(0<ns.length->∀m:Int,m∈ns->(∀a∈ns,a<=m)->Q (.int m) H)
def ED(K:PySem.W.Frag)(te tf:TE):TE:=fun σ H Q=>te σ H fun x H1=>tf σ H1 fun d H2=>B2 K x d H2 Q
theorem EE(K:PySem.W.Frag)(e:X.K=K)(hc:X.calm=true){pins:List (Addr×Obj)}{s:Shared}{σ:St}{H:Hp}{x d:V}{u v:Value}{Q:VK}(I:Inv X pins σ H s)(rx:c9 x u)(rd:c9 d v)(h:B2 K x d H Q) :
  wpAny (model X.prog X.w) X.A (call (.builtin "max") [u] (dfl v)) (EP X pins σ Q) X.xe s:=by
 subst e;obtain⟨p,ns,rfl,hS,q0,q⟩:=h;cases (show u=Value.ref p from rx);obtain⟨its,rv,pl,hz⟩:=I.list hS;have hi:IntsAre its ns:=fj rv;have hl:=pl.isList;obtain⟨ys,e⟩:=hi.allInts.items;have hns:ns=ys.toList.map (·.1):=by rw [<- hi.numsOf,<- nums_intItems,<- e]
 have hsz:ns.length=ys.size:=by rw [hns,length_map,Array.length_toList]
 rw [e] at hl
 refine xu (by exact I.ok.hd hc) hl (fun h0 h' tk hk=>?_) fun h0 v h' tk hv hk=>?_
 .exact⟨d,H,I.kept (t':=tk) hk,rd,q0 (eq_nil_of_length_eq_zero (by omega))⟩
 .obtain⟨t,rfl⟩:=intItems_at hv;obtain⟨h1,h2⟩:=argBest_gt (numAt ys) (ys.size - 1)
  refine⟨.int _,H,I.kept (t':=tk) hk,⟨t,rfl⟩,q (by omega) _ ?_ fun a ha=>?_⟩
  .rw [hns,numAt_eq];exact getD_mem (by rw [length_map,Array.length_toList];omega)
  .rw [hns] at ha;obtain⟨j,hj,rfl⟩:=mem_getD ha;rw [length_map,Array.length_toList] at hj;rw [<- numAt_eq];exact h2 j (by omega)
theorem B3{e f:Expr}{p kp pos:Pos}(K:PySem.W.Frag)(eK:X.K=K)(hc:X.calm=true)(hg:Gl X "max")(hm:X.mg "max"=none)(ha:PA X [e] (aJ te cS))(hf:PE X f tf)
  (hs:backTo pos (starEach [e] X.env)=(false,eval e X.env)::backTo pos (starEach [] X.env):=by rfl) (hpl:(backTo pos (starEach [e] X.env)).any (·.1)=false:=by rfl) :
  PE X (.Call (.Name "max" p) [e] [⟨some (Str.ofString "default"),f,kp⟩] pos) (ED K te tf):=by
 intro pins s σ H Q I h;refine wpAny_Call_Name_kw (ik I hg hm boot_max ?_);refine PyProof.Rows.callWith_kw (thn (ha pos pins s σ H (fun vs H1=>match vs with|[x]=>tf σ H1 fun d H2=>B2 K x d H2 Q|_=>False) I h) fun us s1 ⟨vs,H1,I1,r1,q1⟩=>?_) hs hpl
 match vs,r1,q1 with
 | [x],r1,q1 =>
  obtain⟨u,rfl,ru⟩:=iJ r1;refine PyProof.Rows.kws_cons (thn (hf pins s1 σ H1 _ I1 q1) fun v s2 ⟨d,H2,I2,rd,q2⟩=>PyProof.Rows.kws_nil ?_);exact EE K eK hc I2 ru rd q2
def EF(pa:PA1)(pe:PTE):PTE:=fun ρ Q=>pa ρ fun x ρ1=>pe ρ1 fun p ρ2=>match cont ρ2 x,p with
 | some (.lst ds),.dat (.int d)=>∃ns:List Int,ds=ns.map .int/\(ns=[]->Q (.dat (.int d)) ρ2)/\(0<ns.length->∀m:Int,m∈ns->(∀a∈ns,a<=m)->Q (.dat (.int m)) ρ2)
 | _,_=>False
theorem B4(ha:LA1 K te pa)(he:LE K tf pe):LE K (ED K te tf) (EF pa pe):=fun A ρ σ H Q Q' R q k =>
 ha A ρ σ H _ _ R q fun v H1 a ρ1 q1 f1 R1 o1=>he A ρ1 σ H1 _ _ R1 q1 fun u H2 p ρ2 q2 f2 o2=>by
  obtain⟨R2,fv⟩:=o2.frz
  split at q2
  .rename_i ds d e2;obtain⟨ns,rfl,q0,q2⟩:=q2;cases (show FV K _ H2 u (.int d) from fv);obtain⟨a1,xs1,rfl,g1,g2⟩:=(R2.cont (o1.keeps f2.keeps) e2).lst;rw [g2.ints] at g1;exact⟨a1,ns,rfl,SqL.of g1,fun e=>k _ H2 _ ρ2 (q0 e) (f1.trans f2) ⟨R2,.int _⟩,fun h m h1 h2=>k _ H2 _ ρ2 (q2 h m h1 h2) (f1.trans f2) ⟨R2,.int _⟩⟩
  .exact q2.elim
end
def Fd(i:Nat)(pe:PTE):PTE:=fun ρ Q=>match ρ[i]? with
 | some (some (.own _))=>pe ρ fun p ρ1=>(match ρ1[i]?,p.d with
  | some (some (.own ds)),.lst es=>ds.length+es.length<=1000000/\Q (.dat .non) (ρ1.set i (some (.own (ds++es))))
  | _,_=>False)
 | _=>False
section
variable {K:PySem.W.Frag}{te:TE}{pe:PTE}
theorem Ae{i:Nat}(h:LE K te pe):LE K (tBM K "list" vE (aM i) (aJ te cS)) (Fd i pe):=fun A ρ σ H Q Q' R q k=>by
 unfold Fd at q
 split at q
 .rename_i ds0 e0;obtain⟨a0,xs0,s0,g0,f0⟩:=R.ownAt e0;refine⟨_,s0,.inl ⟨rfl,xs0,SqL.of g0⟩,h A ρ σ H _ _ R q fun v H1 p ρ1 q1 f1 o1=>?_⟩;obtain⟨R1,fv⟩:=o1.frz
  split at q1
  .rename_i ds es e1 e2;rw [e2] at fv;obtain⟨a,xs,s,g,f⟩:=R1.ownAt e1;rw [s0] at s;cases s
   cases fv with
   | lst no ez fz =>
    obtain⟨R2,f2⟩:=R1.lstw e1 s0 (f.append fz);exact⟨a0,_,xs,_,rfl,rfl,g,ez,Nat.le_trans (by rw [f.length,fz.length];exact q1.1) (sz _ (Nat.le_refl _)),k _ _ _ _ q1.2 (f1.trans f2) ⟨R2,.non⟩⟩
  .exact q1.elim
 .exact q.elim
end
section
variable {X:Cx}{K:PySem.W.Frag}{te tk:TE}{pe pk:PTE}{fs:List Nat}
def xv(i:Nat)(pe:PTE):PTS:=fun E ρ=>match ρ[i]? with
 | some (some (.dat (.int a)))=>pe ρ fun p ρ1=>(match ρ1[i]?,p with
  | some (some (.dat (.int a'))),.dat (.int b)=>a'=a/\ao i (.dat (.int (a - b))) ρ1 E.nx
  | _,_=>False)
 | _=>False
theorem B5{i:Nat}(hi:LG K fs (bu i) (ao i))(h:LE K te pe):LS K fs (GC i te (ipI fun i j=>i - j)) (xv i pe):=fun fx A R H0 ρ σ H E E' hf r F q k1 k2 k3 k4=>by
 unfold xv at q
 split at q
 .rename_i a e;obtain⟨v0,s0,rs0⟩:=r.get i _ e;cases (show FV K _ H v0 (.int a) from rs0);refine⟨_,s0,h A ρ σ H _ _ r q fun v H1 p ρ1 q1 f1 o1=>?_⟩;obtain⟨R1,fv⟩:=o1.frz
  split at q1
  .rename_i a' b e1;obtain⟨rfl,q1⟩:=q1;cases (show FV K _ H1 v (.int b) from fv);exact⟨_,b,rfl,rfl,hi fx A R H0 ρ1 σ H1 (.dat (.int (a' - b))) _ _ _ hf (F.fr f1) ⟨R1,.int _⟩ q1 k1⟩
  .exact q1.elim
 .exact q.elim
end
def apart(A:Addr->Prop)(Da:Addr)(as:List Addr):Addr->Prop:=fun b=>A b\/b=Da\/b∈as
section
variable {K:PySem.W.Frag}{A O O':Addr->Prop}{fx:List (Nat×V)}{R:Addr->Prop}{H0 H0' H H':Hp}{ρ ρ':PSt}{σ:St}{x:Nat}{Da:Addr}{as:List Addr}{rows:List (List D)}
theorem Cp.mv:∀{as:List Addr}{rows:List (List D)},(∀a∈as,∀o,H a=some o->H' a=some o)->aS O H0 O' H0'->Cp K O H0 H as rows->Cp K O' H0' H' as rows
 | _,_,_,_,.nil=>.nil
 | _,_,k,kk,.cons p q t=>.cons (k _ mem_cons_self _ p) (q.keeps kk) (t.mv (fun a ha=>k a (mem_cons_of_mem _ ha)) kk)
structure Opd (K:PySem.W.Frag) (A R:Addr->Prop) (H0:Hp) (ρ:PSt) (σ:St) (H:Hp) (x:Nat) (Da:Addr) (as:List Addr) (rows:List (List D)):Prop where
 sx:σ[x]?=some (some (.ref Da))
 nA:∀a,a=Da\/a∈as->¬ A a
 h0:∀a,a=Da\/a∈as->R a\/H0 a=none
 nd:as.Nodup
 ne:Da∉as
 eD:H Da=some (.lst (as.map V.ref))
 cp:Cp K (OO (apart A Da as) ρ σ) H H as rows
theorem Opd.keep{σ':St}(o:Opd K A R H0 ρ σ H x Da as rows)(hs:σ'[x]?=some (some (.ref Da)))(kk:aS (OO (apart A Da as) ρ σ) H (OO (apart A Da as) ρ' σ') H')(kp:∀a,a=Da\/a∈as->∀u,H a=some u->H' a=some u):Opd K A R H0 ρ' σ' H' x Da as rows :=
 ⟨hs,o.nA,o.h0,o.nd,o.ne,kp _ (.inl rfl) _ o.eD,o.cp.mv (fun a ha u e=>kp a (.inr ha) u e) kk⟩
theorem Opd.fr(o:Opd K A R H0 ρ σ H x Da as rows)(r:Rel K (apart A Da as) ρ σ H)(f:Fr ρ σ H ρ' H'):Opd K A R H0 ρ' σ H' x Da as rows :=
 o.keep o.sx f.keeps fun a ha u e=>f.kp a u (r.sep a (.inr ha)) e
def cl(x:Nat)(ρ:PSt):Option (List (List D))->PSt
 | none=>ρ
 | some rows=>ρ.set x (some (.own (rows.map D.lst)))
theorem xw(x:Nat)(ρ:PSt):cl x ρ none=ρ:=rfl
theorem iM(x:Nat)(ρ:PSt)(rows:List (List D)):cl x ρ (some rows)=ρ.set x (some (.own (rows.map D.lst))):=rfl
def InO(K:PySem.W.Frag)(x:Nat)(fx:List (Nat×V))(A R:Addr->Prop)(H0:Hp)(ρ:PSt)(σ:St)(H:Hp):Option (List (List D))->Prop
 | none=>Rel K A ρ σ H/\dk fx R H0 ρ σ H
 | some rows=>∃Da as,Rel K (apart A Da as) ρ σ H/\dk fx R H0 ρ σ H/\Opd K A R H0 ρ σ H x Da as rows
theorem tQ{α:Type}:∀{l:List α}{i:Nat}{v:α},l[i]?=some v->l.set i v=l
 | [],_,_,e=>by simp at e
 | a::l,0,v,e=>by simp at e;rw [e];rfl
 | a::l,i+1,v,e=>by rw [set_cons_succ,tQ (by simpa using e)]
theorem InO.cl{m:Option (List (List D))}(h:InO K x fx A R H0 ρ σ H m):Rel K A (L2.cl x ρ m) σ H/\dk fx R H0 (L2.cl x ρ m) σ H:=by
 cases m with
 | none=>exact h
 | some rows =>
  obtain⟨Da,as,r,F,o⟩:=h;have r1:Rel K (fk A Da) ρ σ H:=r.less fun b z=>z.imp id .inl
  have out:Out K A ρ σ (fun _=>none) H (.own (rows.map D.lst)) (.ref Da):=by
   refine⟨Da,as.map V.ref,rfl,o.nA _ (.inl rfl),rfl,o.eD,r1,o.cp.fvs (Gr.refl H) (fun b z=>.inl ?_) fun a ha z=>?_⟩
   .rcases z with (z|z)|z
    .exact .inl (.inl z)
    .exact .inl (.inr (.inl z))
    .exact .inr z
   .rcases z with (z|z)|z
    .exact o.nA a (.inr ha) z
    .exact o.ne (by rw [<- z];exact ha)
    .exact r.sep a (.inr (.inr ha)) z
  have pt:=(out.put (i:=x)).1;rw [tQ o.sx] at pt;refine⟨pt,F.kp,F.dm,fun b w=>?_,F.fx⟩;obtain⟨j,p,e,ow,s⟩:=w
  by_cases z:x=j
  .subst z;rw [o.sx] at s;cases s;exact o.h0 _ (.inl rfl)
  .have e:(ρ.set x (some (.own (rows.map D.lst))))[j]?=some (some p):=e;rw [getElem?_set_ne z] at e;exact F.ow b ⟨j,p,e,ow,s⟩
theorem Rel.writeA(r:Rel K A ρ σ H){a:Addr}{o:HO}(ha:A a):Rel K A ρ σ (upd H a o):=by
 have k:aS (OO A ρ σ) H (OO A ρ σ) (upd H a o):=fun b u n e=>⟨n,by rw [aw (fun z=>n (.inl (by rw [z];exact ha)))];exact e⟩
 refine⟨r.len,fun i q e=>?_,r.dj,fun b z=>?_,r.sep⟩
 .obtain⟨v,s,rr⟩:=r.get i q e;refine⟨v,s,rr.keeps k fun ow b eb=>?_⟩;subst eb;rw [aw];intro z;exact r.sep a ha ⟨i,q,e,ow,by rw [<- z];exact s⟩
 .by_cases z':b=a
  .rw [z',aF];exact nofun
  .rw [aw z'];exact r.dom b z
theorem Rel.grB(r:Rel K A ρ σ H)(g:Gr H H'){B:Addr->Prop}(hB:∀b,B b->H b=none/\H' b≠none):Rel K (fun b=>A b\/B b) ρ σ H':=by
 have k:aS (OO A ρ σ) H (OO (fun b=>A b\/B b) ρ σ) H':=fun b u n e=>by
  refine⟨fun z=>?_,g _ _ e⟩
  rcases z with (z|z)|z
  .exact n (.inl z)
  .rw [(hB b z).1] at e;cases e
  .exact n (.inr z)
 refine⟨r.len,fun i q e=>?_,r.dj,fun b z=>?_,fun b z w=>?_⟩
 .obtain⟨v,s,rr⟩:=r.get i q e;refine⟨v,s,rr.keeps k fun ow a ea=>?_⟩;obtain⟨a',u,e1,e2⟩:=rr.ref ow;rw [ea] at e1;cases e1;rw [e2];exact g _ _ e2
 .rcases z with z|z
  .exact (g.fr (ρ:=ρ) (σ:=σ)).dm b (r.dom b z)
  .exact (hB b z).2
 .rcases z with z|z
  .exact r.sep b z w
  .exact r.wr w (hB b z).1
theorem oJ{i j:Nat}{p:PV}(e:(ρ.set i none)[j]?=some (some p)):j≠i/\ρ[j]?=some (some p):=by
 by_cases z:i=j
 .subst z
  by_cases h:i<ρ.length
  .rw [getElem?_set_self h] at e;cases e
  .rw [getElem?_eq_none (by rw [length_set];omega)] at e;cases e
 .rw [getElem?_set_ne z] at e;exact⟨fun q=>z q.symm,e⟩
theorem tR{v:Option V}{b:Addr}(w:Wr (ρ.set x none) (σ.set x v) b):Wr ρ σ b:=by
 obtain⟨j,p,e,o,s⟩:=w;obtain⟨n,e⟩:=oJ e;rw [getElem?_set_ne (Ne.symm n)] at s;exact⟨j,p,e,o,s⟩
theorem Rel.clr{v:Option V}(r:Rel K A ρ σ H):Rel K A (ρ.set x none) (σ.set x v) H:=by
 have k:aS (OO A ρ σ) H (OO A (ρ.set x none) (σ.set x v)) H:=aS.less fun b z=>z.imp id tR
 refine⟨by rw [length_set,length_set];exact r.len,fun j p e=>?_,fun i j p q u e1 e2 o1 o2 s1 s2=>?_,r.dom,fun b z w=>r.sep b z (tR w)⟩
 .obtain⟨n,e⟩:=oJ e;obtain⟨u,s,rr⟩:=r.get j p e;exact⟨u,by rw [getElem?_set_ne (Ne.symm n)];exact s,rr.keeps k fun _ _ _=>rfl⟩
 .obtain⟨n1,e1⟩:=oJ e1;obtain⟨n2,e2⟩:=oJ e2;rw [getElem?_set_ne (Ne.symm n1)] at s1;rw [getElem?_set_ne (Ne.symm n2)] at s2;exact r.dj i j p q u e1 e2 o1 o2 s1 s2
theorem Opn.opd{H1:Hp}(o:Opn K A ρ σ H Da as H1 rows)(r:Rel K A ρ σ H)(F:dk fx R H0 ρ σ H)(hx:x<σ.length):Rel K (apart A Da as) (ρ.set x none) (σ.set x (some (.ref Da))) H1/\Opd K A R H0 (ρ.set x none) (σ.set x (some (.ref Da))) H1 x Da as rows:=by
 have nn:∀a,a=Da\/a∈as->H a=none:=fun a z=>z.elim (fun z=>by rw [z];exact o.hD) fun z=>(o.fr a z).1
 have r1:Rel K (apart A Da as) ρ σ H1:=r.grB o.gr (B:=fun b=>b=Da\/b∈as) fun b z=>⟨nn b z,by
  rcases z with z|z
  .rw [z,o.eD];exact nofun
  .obtain⟨u,e⟩:=o.cp.dom b z;rw [e];exact nofun⟩
 refine⟨r1.clr,getElem?_set_self hx,fun a z w=>r.dom a w (nn a z),fun a z=>.inr ?_,o.nd,fun z=>(o.fr _ z).2 rfl,o.eD,o.cp.mv (fun _ _ _ e=>e) fun b u n e=>⟨fun z=>?_,o.gr b u e⟩⟩
 .cases e:H0 a with
  | none=>rfl
  | some u=>exact absurd (nn a z) (F.dm a (by rw [e];exact nofun))
 .rcases z with z|z
  .rcases z with z|z
   .exact n (.inl z)
   .rw [nn b z] at e;cases e
  .exact n (.inr (tR z))
end
structure PEO where
 nx:PSt->Option (List (List D))->Prop
 rt:PV->PSt->Prop
abbrev POT:=PEO->PSt->Option (List (List D))->Prop
def LSO(K:PySem.W.Frag)(fs:List Nat)(x:Nat)(ts:TS)(po:POT):Prop:=∀(fx:List (Nat×V)) (A R:Addr->Prop) (H0:Hp) (ρ:PSt) (σ:St) (H:Hp) (m:Option (List (List D))) (D:PEO) (D':vd),fx.map Prod.fst=fs->InO K x fx A R H0 ρ σ H m->po D ρ m ->
 (∀ρ' σ' H' m',D.nx ρ' m'->InO K x fx A R H0 ρ' σ' H' m'->D'.nx σ' H') ->
 (∀v p ρ' σ' H',D.rt p ρ'->Out K A ρ' σ' H0 H' p v->dk fx R H0 ρ' σ' H'->D'.rt v H')->ts D' σ H
def rW(a b:POT):POT:=fun D ρ m=>a { D with nx:=b D } ρ m
def EG(t:PTT)(a b:POT):POT:=fun D ρ m=>t ρ fun c ρ1=>gz c (a D ρ1 m) (b D ρ1 m)
def Af(a:POT):POT:=fun D ρ m=>∃J:PSt->Option (List (List L2.D))->Prop,a { D with nx:=J } ρ m/\∀ρ' m',J ρ' m'->D.nx ρ' m'
def Gs(p:PTS):POT:=fun D ρ m=>p ⟨fun ρ'=>D.nx ρ' m,fun _ _=>False,fun _=>False,fun _=>False⟩ ρ
def tS(x:Nat)(p:PTS):POT:=fun D ρ m=>p ⟨fun ρ'=>D.nx ρ' none,D.rt,fun _=>False,fun _=>False⟩ (cl x ρ m)
def B6(pe pi pj:PTE):POT:=fun D ρ m=>match m with
 | none=>False
 | some rows=>pe ρ fun v ρ1=>pi ρ1 fun vi ρ2=>(match vi with
  | .dat (.int i)=>∃n row,ixN rows.length i=some n/\rows[n]?=some row/\pj ρ2 fun vj ρ3=>(match vj with
   | .dat (.int j)=>∃l,ixN row.length j=some l/\D.nx ρ3 (some (rows.set n (row.set l v.d)))
   | _=>False)
  | _=>False)
section
variable {K:PySem.W.Frag}{fs:List Nat}{x:Nat}{ta tb ts:TS}{pa pb:POT}{tt:TT}{pt:PTT}{p:PTS}{te ti tj:TE}{pe pi pj:PTE}
theorem jO(ha:LSO K fs x ta pa)(hb:LSO K fs x tb pb):LSO K fs x (Cz ta tb) (rW pa pb):=fun fx A R H0 ρ σ H m D D' hf r q k1 k2 =>
 ha fx A R H0 ρ σ H m _ _ hf r q (fun ρ1 σ1 H1 m1 q1 r1=>hb fx A R H0 ρ1 σ1 H1 m1 _ _ hf r1 q1 k1 k2) k2
theorem tT(ht:LT K tt pt)(ha:LSO K fs x ta pa)(hb:LSO K fs x tb pb):LSO K fs x (EZ tt ta tb) (EG pt pa pb):=fun fx A R H0 ρ σ H m D D' hf r q k1 k2=>by
 cases m with
 | none =>
  exact ht A ρ σ H _ _ r.1 q fun c H1 ρ1 q1 f1 r1=>by
   cases c with
   | true=>exact ha fx A R H0 ρ1 σ H1 none D D' hf ⟨r1,r.2.fr f1⟩ q1 k1 k2
   | false=>exact hb fx A R H0 ρ1 σ H1 none D D' hf ⟨r1,r.2.fr f1⟩ q1 k1 k2
 | some rows =>
  obtain⟨Da,as,r,F,o⟩:=r
  exact ht _ ρ σ H _ _ r q fun c H1 ρ1 q1 f1 r1=>by
   cases c with
   | true=>exact ha fx A R H0 ρ1 σ H1 (some rows) D D' hf ⟨Da,as,r1,F.fr f1,o.fr r f1⟩ q1 k1 k2
   | false=>exact hb fx A R H0 ρ1 σ H1 (some rows) D D' hf ⟨Da,as,r1,F.fr f1,o.fr r f1⟩ q1 k1 k2
theorem zh(ha:LSO K fs x ta pa):LSO K fs x (A5 ta) (Af pa):=fun fx A R H0 ρ σ H m D D' hf r q k1 k2=>by
 obtain⟨J,q1,q2⟩:=q;refine⟨fun σ' H'=>∃ρ' m',J ρ' m'/\InO K x fx A R H0 ρ' σ' H' m',?_,fun σ' H' ⟨ρ',m',j,r'⟩=>k1 ρ' σ' H' m' (q2 ρ' m' j) r'⟩;exact ha fx A R H0 ρ σ H m _ _ hf r q1 (fun ρ' σ' H' m' j r'=>⟨ρ',m',j,r'⟩) k2
theorem nF(h:LS K fs ts p):LSO K fs x ts (tS x p):=fun fx A R H0 ρ σ H m D D' hf r q k1 k2 =>
 h fx A R H0 _ σ H _ D' hf r.cl.1 r.cl.2 q (fun ρ' σ' H' q' r' F'=>k1 ρ' σ' H' none q' ⟨r',F'⟩) k2 (fun _ _ _ z=>(z:False).elim) (fun _ _ _ z=>(z:False).elim)
theorem Ag(h:LS K fs ts p)(h':LS K (x::fs) ts p):LSO K fs x ts (Gs p):=fun fx A R H0 ρ σ H m D D' hf r q k1 k2=>by
 cases m with
 | none=>exact h fx A R H0 ρ σ H _ D' hf r.1 r.2 q (fun ρ' σ' H' q' r' F'=>k1 ρ' σ' H' none q' ⟨r',F'⟩) (fun _ _ _ _ _ z=>(z:False).elim) (fun _ _ _ z=>(z:False).elim) (fun _ _ _ z=>(z:False).elim)
 | some rows =>
  obtain⟨Da,as,r,F,o⟩:=r
  have st:dk ((x,V.ref Da)::fx) (Wr ρ σ) H ρ σ H:=dk.start fun p hp=>by
   rcases mem_cons.mp hp with rfl|hp
   .exact o.sx
   .exact F.fx p hp
  refine h' ((x,V.ref Da)::fx) (apart A Da as) (Wr ρ σ) H ρ σ H _ D' (by rw [map_cons,hf]) r st q (fun ρ' σ' H' q' r' F'=>?_) (fun _ _ _ _ _ z=>(z:False).elim) (fun _ _ _ z=>(z:False).elim) (fun _ _ _ z=>(z:False).elim);refine k1 ρ' σ' H' (some rows) q' ⟨Da,as,r',F.trans F' fun p hp=>F'.fx p (mem_cons_of_mem _ hp),o.keep (F'.fx _ mem_cons_self) F'.keeps fun a ha u e=>F'.kp a u (r.sep a (.inr ha)) e⟩
theorem xx(he:LE K te pe)(hi:LE K ti pi)(hj:LE K tj pj):LSO K fs x (vg te (CA (tOp (iV K) (aM x) ti) tj ut)) (B6 pe pi pj):=fun fx A R H0 ρ σ H m D D' hf r q k1 k2=>by
 cases m with
 | none=>exact q.elim
 | some rows =>
  obtain⟨Da,as,r,F,o⟩:=r;refine he _ ρ σ H _ _ r q fun v H1 p ρ1 q1 f1 o1=>?_;have od1:=o.fr r f1;obtain⟨r1,fv⟩:=o1.frz;refine⟨.ref Da,o.sx,hi _ ρ1 σ H1 _ _ r1 q1 fun vi H2 p2 ρ2 q2 f2 o2=>?_⟩
  split at q2
  .rename_i i;obtain⟨n,row,hn,hrow,q2⟩:=q2;obtain⟨r2,e2⟩:=o2;cases e2;have od2:=od1.fr r1 f2;obtain⟨a,xs,ha,hxs,fxs⟩:=od2.cp.get hrow;have hl:(as.map V.ref).length=rows.length:=by rw [length_map,od2.cp.length]
   refine .inl ⟨Da,as.map V.ref,i,.ref a,rfl,rfl,SqL.of od2.eD,?_,hj _ ρ2 σ H2 _ _ r2 q2 fun vj H3 p3 ρ3 q3 f3 o3=>?_⟩
   .unfold atI;rw [hl,hn];show (as.map V.ref)[n]?=_;rw [getElem?_map,ha];rfl
   .split at q3
    .rename_i j;obtain⟨l,hm,q3⟩:=q3;obtain⟨r3,e3⟩:=o3;cases e3;have od3:=od2.fr r2 f3;obtain⟨a',xs,ha',hxs,fxs⟩:=od3.cp.get hrow;rw [ha] at ha';cases ha';have hin:a∈as:=mem_of_getElem? ha;have hAa:apart A Da as a:=.inr (.inr hin);have fv3:FV K (OO (apart A Da as) ρ3 σ) H3 v p.d:=(fv.keeps f2.keeps).keeps f3.keeps;have kk:aS (OO (apart A Da as) ρ3 σ) H3 (OO (apart A Da as) ρ3 σ) (upd H3 a (.lst (xs.set l v))):=fun b u n e=>⟨n,by rw [aw (fun z=>n (.inl (by rw [z];exact hAa)))];exact e⟩
     have F3:=((F.fr f1).fr f2).fr f3
     refine⟨a,xs,j,l,rfl,rfl,hxs,by rw [fxs.length];exact hm,k1 ρ3 σ _ _ q3 ⟨Da,as,r3.writeA hAa,⟨fun b u n e=>?_,fun b z=>?_,F3.ow,F3.fx⟩,⟨od3.sx,od3.nA,od3.h0,od3.nd,od3.ne,?_,?_⟩⟩⟩
     .rw [aw (fun z=>(od3.h0 a (.inr hin)).elim (fun h=>n (by rw [z];exact h)) fun h=>by rw [z,h] at e;cases e)];exact F3.kp b u n e
     .by_cases z':b=a
      .rw [z',aF];exact nofun
      .rw [aw z'];exact F3.dm b z
     .rw [aw (fun z=>od3.ne (by rw [z];exact hin))];exact od3.eD
     .exact Cp.put (FVs.set (fv3.keeps kk) l (fxs.keeps kk)) od3.nd ha (od3.cp.mv (fun _ _ _ e=>e) kk)
    .exact q3.elim
  .exact q2.elim
def LOp(K:PySem.W.Frag)(te:TE)(po:PSt->(List (List D)->Prop)->Prop):Prop:=∀(A:Addr->Prop) (ρ:PSt) (σ:St) (H:Hp) (Q:List (List D)->Prop) (Q':VK),Rel K A ρ σ H->po ρ Q->(∀Da as H1 rows,Q rows->Opn K A ρ σ H Da as H1 rows->Q' (.ref Da) H1)->te σ H Q'
def B7(x:Nat)(op:PSt->(List (List D)->Prop)->Prop)(po:POT):PTS:=fun D ρ=>x<ρ.length/\op ρ fun rows=>po ⟨fun ρ' m=>D.nx (cl x ρ' m),D.rt⟩ (ρ.set x none) (some rows)
theorem Ah{op:PSt->(List (List D)->Prop)->Prop}{tr:TS}{po:POT}(hx:fs.contains x=false)(h:LOp K te op)(hr:LSO K fs x tr po):LS K fs (Cz (vg te (bu x)) tr) (B7 x op po):=fun fx A R H0 ρ σ H D D' hf r F q k1 k2 k3 k4=>by
 obtain⟨hxl,q⟩:=q;have hxs:x<σ.length:=by rw [<- r.len];exact hxl
 refine h A ρ σ H _ _ r q fun Da as H1 rows q1 o=>?_;obtain⟨r1,od⟩:=o.opd r F hxs
 have F1:dk fx R H0 (ρ.set x none) (σ.set x (some (.ref Da))) H1:=by
  have F0:=F.fr (o.gr.fr (ρ:=ρ) (σ:=σ));refine⟨F0.kp,F0.dm,fun b w=>F0.ow b (tR w),fun p hp=>?_⟩
  have:p.1≠x:=fun z=>by
   have h1:x∈fs:=by rw [<- hf,<- z];exact mem_map_of_mem hp
   rw [contains_iff_mem.mpr h1] at hx;cases hx
  rw [getElem?_set_ne (Ne.symm this)];exact F0.fx p hp
 exact hr fx A R H0 _ _ H1 (some rows) _ _ hf ⟨Da,as,r1,F1,od⟩ q1 (fun ρ' σ' H' m' q' r'=>k1 _ σ' H' q' r'.cl.1 r'.cl.2) k2
def xy(y:Nat):PSt->(List (List D)->Prop)->Prop:=fun ρ Q=>∃p ds rows,ρ[y]?=some (some p)/\ij p.d ds/\gp ds rows/\ds.length<=1000/\Q rows
theorem tU{y:Nat}:LOp K (mq [none] (gH K (aM y)) (bu 0) gF (tCB (e8 K) (aJ (aM 0) cS))) (xy y):=fun A ρ σ H Q Q' r q k=>by
 obtain⟨p,ds,rows,hy,sq,ho,hl,q⟩:=q;exact B1 r hy sq ho hl fun Da as H1 o=>k Da as H1 rows q o
end
section
variable {K:PySem.W.Frag}{A:Addr->Prop}{fx:List (Nat×V)}{R:Addr->Prop}{H0 H:Hp}{ρ:PSt}{σ:St}
def mvd(ρ:PSt)(g r:Nat)(ds:List D):PSt:=(ρ.set r (some (.own ds))).set g none
theorem Aj(ρ:PSt)(g r:Nat)(ds:List D):mvd ρ g r ds=(ρ.set r (some (.own ds))).set g none:=rfl
end
section
variable {X:Cx}{K:PySem.W.Frag}
def tBI(t:TE):TT:=fun σ H Q=>t σ H fun x H1=>∃i,x=.int i/\Q (i != 0) H1
theorem EH{e:Expr}{t:TE}(h:PE X e t)(he:∀whole,isTrue e X.env whole=(do let v <- whole;standAt e.pos;holding [v] (truthy v)):=by intro _;rfl):PT X e (tBI t):=by
 intro pins s σ H Q I hw;refine isTrue_plain (thn (h pins s σ H _ I hw) fun v s1 ⟨x,H1,I1,r1,q1⟩=>?_) (he _);obtain⟨d,rfl,q⟩:=q1;obtain⟨t,rfl⟩:=r1;exact truthy_int ⟨H1,I1,q⟩
def pBI(pe:PTE):PTT:=fun ρ Q=>pe ρ fun p ρ1=>match p with
 | .dat (.int i)=>Q (i != 0) ρ1
 | _=>False
theorem Gu{te:TE}{pe:PTE}(h:LE K te pe):LT K (tBI te) (pBI pe):=fun A ρ σ H Q Q' R q k=>h A ρ σ H _ _ R q fun v H1 p ρ1 q1 f1 o1=>by
 split at q1
 .rename_i b;obtain⟨R1,f⟩:=o1;cases f;exact⟨b,rfl,k _ H1 ρ1 q1 f1 R1⟩
 .exact q1.elim
def B8(pe:PTE):PTE:=fun ρ Q=>pe (frzA ρ) fun p _=>match p with
 | .dat d=>d.fl=true/\Q (.dat d) ρ
 | _=>False
theorem xz{te:TE}{pe:PTE}(h:LE K te pe):LE K te (B8 pe):=fun A ρ σ H Q Q' R q k=>h A _ σ H _ _ R.frzA q fun v H1 p ρ1 q1 f1 o1=>by
 split at q1
 .rename_i d;obtain⟨hf,q1⟩:=q1;have g:Gr H H1:=fun b o e=>f1.kp b o lB e;exact k v H1 _ ρ q1 g.fr ⟨R.gr g,FV.flat o1.2 hf⟩
 .exact q1.elim
end
section
variable {K:PySem.W.Frag}{fx:List (Nat×V)}{A R R1:Addr->Prop}{H0 H H' H1:Hp}{ρ ρ' ρ1:PSt}{σ σ':St}{x:Nat}
theorem InO.gr{m:Option (List (List D))}(h:InO K x fx A R H0 ρ σ H m)(g:Gr H H'):InO K x fx A R H0 ρ σ H' m:=by
 cases m with
 | none=>exact⟨h.1.gr g,h.2.fr g.fr⟩
 | some rows =>
  obtain⟨Da,as,r,F,o⟩:=h;exact⟨Da,as,r.gr g,F.fr g.fr,o.fr r g.fr⟩
def xA(x:Nat)(pe:PTE)(ρ:PSt)(m:Option (List (List D)))(Q:D->Prop):Prop:=pe (frzA (cl x ρ m)) fun p _=>match p with
 | .dat d=>d.fl=true/\Q d
 | _=>False
theorem InO.look{m:Option (List (List D))}{te:TE}{pe:PTE}{Q:D->Prop}{Q':VK}(h:InO K x fx A R H0 ρ σ H m)(he:LE K te pe)(q:xA x pe ρ m Q)(k:∀v H' d,Q d->Gr H H'->(∀O H'',FV K O H'' v d)->Q' v H'):te σ H Q' :=
 he A _ σ H _ _ h.cl.1.frzA q fun v H1 p ρ1 q1 f1 o1=>by
  split at q1
  .rename_i d;exact k v H1 d q1.2 (fun b o e=>f1.kp b o lB e) fun O H''=>FV.flat o1.2 q1.1
  .exact q1.elim
end
def Ak(x:Nat)(pe pi pj:PTE):POT:=fun D ρ m=>match m with
 | none=>False
 | some rows=>xA x pe ρ (some rows) fun v=>pi ρ fun vi ρ2=>(match vi with
  | .dat (.int i)=>∃n row,ixN rows.length i=some n/\rows[n]?=some row/\pj ρ2 fun vj ρ3=>(match vj with
   | .dat (.int j)=>∃l,ixN row.length j=some l/\D.nx ρ3 (some (rows.set n (row.set l v)))
   | _=>False)
  | _=>False)
def Al(x y:Nat)(f:D->D->(PV->Prop)->Prop)(pa pb:PTE):POT:=fun D ρ m=>x≠y/\pa ρ fun p ρ1=>p.d.fl=true/\xA x pb ρ1 m fun b=>f p.d b fun r=>(match r with
 | .dat d=>d.fl=true/\D.nx (ρ1.set y (some (.dat d))) m
 | _=>False)
section
variable {K:PySem.W.Frag}{fs:List Nat}{x y:Nat}{ta tb ts:TS}{pb:POT}{tt:TT}{pt:PTT}{te tf ti tj:TE}{pe pf pi pj:PTE}{wi:TI}{ppi:PTI}{g:TG}{pg:PTG}
theorem zi(he:LE K te pe)(hi:LE K ti pi)(hj:LE K tj pj):LSO K fs x (vg te (CA (tOp (iV K) (aM x) ti) tj ut)) (Ak x pe pi pj):=fun fx A R H0 ρ σ H m D D' hf r q k1 k2=>by
 cases m with
 | none=>exact q.elim
 | some rows =>
  refine r.look he q fun v H1 d q1 g1 fvd=>?_;obtain⟨Da,as,r1,F,o⟩:=r.gr g1;refine⟨.ref Da,o.sx,hi _ ρ σ H1 _ _ r1 q1 fun vi H2 p2 ρ2 q2 f2 o2=>?_⟩
  split at q2
  .rename_i i;obtain⟨n,row,hn,hrow,q2⟩:=q2;obtain⟨r2,e2⟩:=o2;cases e2;have od2:=o.fr r1 f2;obtain⟨a,xs,ha,hxs,fxs⟩:=od2.cp.get hrow;have hl:(as.map V.ref).length=rows.length:=by rw [length_map,od2.cp.length]
   refine .inl ⟨Da,as.map V.ref,i,.ref a,rfl,rfl,SqL.of od2.eD,?_,hj _ ρ2 σ H2 _ _ r2 q2 fun vj H3 p3 ρ3 q3 f3 o3=>?_⟩
   .unfold atI;rw [hl,hn];show (as.map V.ref)[n]?=_;rw [getElem?_map,ha];rfl
   .split at q3
    .rename_i j;obtain⟨l,hm,q3⟩:=q3;obtain⟨r3,e3⟩:=o3;cases e3;have od3:=od2.fr r2 f3;obtain⟨a',xs,ha',hxs,fxs⟩:=od3.cp.get hrow;rw [ha] at ha';cases ha';have hin:a∈as:=mem_of_getElem? ha;have hAa:apart A Da as a:=.inr (.inr hin);have kk:aS (OO (apart A Da as) ρ3 σ) H3 (OO (apart A Da as) ρ3 σ) (upd H3 a (.lst (xs.set l v))):=fun b u n e=>⟨n,by rw [aw (fun z=>n (.inl (by rw [z];exact hAa)))];exact e⟩
     have F3:=(F.fr f2).fr f3
     refine⟨a,xs,j,l,rfl,rfl,hxs,by rw [fxs.length];exact hm,k1 ρ3 σ _ _ q3 ⟨Da,as,r3.writeA hAa,⟨fun b u n e=>?_,fun b z=>?_,F3.ow,F3.fx⟩,⟨od3.sx,od3.nA,od3.h0,od3.nd,od3.ne,?_,?_⟩⟩⟩
     .rw [aw (fun z=>(od3.h0 a (.inr hin)).elim (fun h=>n (by rw [z];exact h)) fun h=>by rw [z,h] at e;cases e)];exact F3.kp b u n e
     .by_cases z':b=a
      .rw [z',aF];exact nofun
      .rw [aw z'];exact F3.dm b z
     .rw [aw (fun z=>od3.ne (by rw [z];exact hin))];exact od3.eD
     .exact Cp.put (FVs.set (fvd _ _) l (fxs.keeps kk)) od3.nd ha (od3.cp.mv (fun _ _ _ e=>e) kk)
    .exact q3.elim
  .exact q2.elim
theorem zj{r:R2}{f:D->D->(PV->Prop)->Prop}(hy:fs.contains y=false)(ho:LO K r f)(ha:LE K te pe)(hb:LE K tf pf):LSO K fs x (vg (tOp r te tf) (bu y)) (Al x y f pe pf):=fun fx A R H0 ρ σ H m D D' hf h q k1 k2=>by
 obtain⟨nxy,q⟩:=q
 have fin:∀(B:Addr->Prop) (ρ1:PSt) (H1:Hp) (v:V) (p:PV),(∀O H'',FV K O H'' v p.d)->InO K x fx A R H0 ρ1 σ H1 m->(xA x pf ρ1 m fun b=>f p.d b fun r=>(match r with
   | .dat d=>d.fl=true/\D.nx (ρ1.set y (some (.dat d))) m
   | _=>False))->tf σ H1 fun u H2=>r v u H2 fun w H3=>bu y w σ H3 D'.nx:=fun B ρ1 H1 v p fv h1 q1=>by
  refine h1.look hb q1 fun u H2 b q2 g2 fvb=>?_;refine ho (fun _=>False) H2 v u p.d b _ _ (fun b z=>z.elim) (.inl (fv _ _)) (.inl (fvb _ _)) q2 fun w H3 p3 q3 g3 o3=>?_
  split at q3
  .rename_i d;have fw:∀O H'',FV K O H'' w d:=fun O H''=>FV.flat (show FV K (fun _=>False) H3 w d from o3) q3.1;have h3:=(h1.gr g2).gr g3
   cases m with
   | none =>
    have o4:Out K A ρ1 σ H0 H3 (.dat d) w:=⟨h3.1,fw _ _⟩
    exact k1 _ _ _ none q3.2 ⟨o4.put.1,h3.2.put hf hy o4.put.2⟩
   | some rows =>
    obtain⟨Da,as,r3,F3,od⟩:=h3;have o4:Out K (apart A Da as) ρ1 σ H0 H3 (.dat d) w:=⟨r3,fw _ _⟩
    have ow:∀b,Wr (ρ1.set y (some (.dat d))) (σ.set y (some w)) b->Wr ρ1 σ b:=fun b ⟨j,p,e1,o1,s1⟩=>by
     by_cases z:y=j
     .subst z
      by_cases hl:y<ρ1.length
      .rw [getElem?_set_self hl] at e1;cases e1;cases o1
      .rw [getElem?_eq_none (by rw [length_set];omega)] at e1;cases e1
     .rw [getElem?_set_ne z] at e1 s1;exact⟨j,p,e1,o1,s1⟩
    exact k1 _ _ _ (some rows) q3.2 ⟨Da,as,o4.put.1,F3.put hf hy o4.put.2,od.keep (by rw [getElem?_set_ne (Ne.symm nxy)];exact od.sx) (aS.less fun b z=>z.imp id (ow b)) fun _ _ _ e=>e⟩
  .exact q3.elim
 cases m with
 | none =>
  refine ha A ρ σ H _ _ h.1 q fun v H1 p ρ1 q1 f1 o1=>?_;exact fin A ρ1 H1 v p (fun O H''=>FV.flat o1.frz.2 q1.1) ⟨o1.frz.1,h.2.fr f1⟩ q1.2
 | some rows =>
  obtain⟨Da,as,r,F,o⟩:=h;refine ha _ ρ σ H _ _ r q fun v H1 p ρ1 q1 f1 o1=>?_;exact fin A ρ1 H1 v p (fun O H''=>FV.flat o1.frz.2 q1.1) ⟨Da,as,o1.frz.1,F.fr f1,o.fr r f1⟩ q1.2
end
def Am(c:FX)(pa:PTA)(pr:PTS)(ph:PTH):PTS:=fun D ρ=>pa ρ fun as ρ1=>match avD as with
 | some ds=>c ds (fun _=>pr D ρ1) (fun d=>ph d D ρ1)
 | none=>False
section
variable {K:PySem.W.Frag}{fs:List Nat}{ta:TA}{pa:PTA}{th:THd}{ph:PTH}{c:FX}{tr:TS}{pr:PTS}
theorem B9(ha:LAs K ta pa)(hr:LS K fs tr pr)(hh:LH K fs th ph):LS K fs (GW (fun J=>Cz (AD (wY (spX K c) J ta)) tr) th) (Am c pa pr ph):=fun fx A R H0 ρ σ H D D' hf r F q k1 k2 k3 k4=>by
 refine⟨fun σ' v dd H'=>∃ρ1 ea d,v=.ref ea/\σ'=σ/\Rel K A ρ1 σ H'/\dk fx R H0 ρ1 σ H'/\XR K (OO A ρ1 σ) H' ea dd d/\ph d D ρ1,?_,fun σ' ea dd H' ⟨ρ1,ea',d,ev,es,r1,F1,x1,q1⟩=>?_⟩
 .refine ha A ρ σ H _ _ r q fun vs H1 as ρ1 q1 f1 R1 o1=>?_
  split at q1
  .rename_i ds e;exact⟨OO A ρ1 σ,ds,_,_,R1.dom2,o1.avD e,q1,fun r qr v H' g ov=>hr fx A R H0 ρ1 σ H' D D' hf (ov.out R1 g).frz.1 ((F.fr f1).fr g.fr) qr k1 k2 k3 k4,fun d qd ea dd H' g n x=>⟨ρ1,ea,d,rfl,rfl,R1.gr g,(F.fr f1).fr g.fr,x,qd⟩⟩
  .exact q1.elim
 .cases ev;subst es;obtain⟨c,ns,ds,rfl,hea,fv⟩:=x1;exact⟨_,hea,hh fx A R H0 ρ1 σ' H' D D' ea dd c ns ds hf r1 F1 hea fv q1 k1 k2 k3 k4⟩
end
end L2
namespace K36
open PySem PySem.Spec PyProof.Rows L2
def top(i:Nat):Stmt:=PySem.Challenge.pw_shortglue_k36_is_table.main.body.getD i (.Pass ⟨0,0,0,0⟩)
abbrev oK:Stmt:=top 7
abbrev iN:Stmt:=top 8
abbrev fO:Stmt:=top 9
abbrev lC:Stmt:=top 12
abbrev gP:Stmt:=top 13
abbrev jP:Stmt:=top 14
abbrev dW:Stmt:=top 15
abbrev jQ:Stmt:=top 16
abbrev fP:Stmt:=top 17
abbrev jR:Stmt:=top 18
abbrev fB:Stmt:=top 26
abbrev fQ:Stmt:=top 27
abbrev Ca:Stmt:=top 20
abbrev jS:Stmt:=top 21
abbrev fc:Stmt:=top 29
abbrev eE:Stmt:=top 30
abbrev lD:Stmt:=top 31
abbrev jT:Stmt:=top 32
abbrev cA:Stmt:=vH (top 33) 0
abbrev cB:Stmt:=vH (top 33) 1
abbrev iO:Stmt:=top 35
abbrev jU:Stmt:=top 36
abbrev jV:Stmt:=top 37
abbrev iP:Stmt:=top 38
abbrev gQ:Stmt:=top 39
abbrev iQ:Stmt:=top 40
abbrev lE:Stmt:=top 41
abbrev jW:Stmt:=top 42
abbrev gR:Stmt:=top 43
abbrev iR:Stmt:=top 44
abbrev iS:Stmt:=top 45
abbrev fR:Stmt:=top 47
abbrev jX:Stmt:=top 46
abbrev gS:Stmt:=top 48
abbrev iT:Stmt:=top 49
abbrev zk:Stmt:=top 50
theorem xB:aK ["thing"] ["thing"] (aq oK):=⟨rfl,rfl,rfl,by decide +kernel,rfl,by decide +kernel,by decide +kernel⟩
theorem qv:aK ["thing"] ["thing"] (aq iN):=⟨rfl,rfl,rfl,by decide +kernel,rfl,by decide +kernel,by decide +kernel⟩
theorem mC:aK ["thing","many"] ["thing","many"] (aq fO):=⟨rfl,rfl,rfl,by decide +kernel,rfl,by decide +kernel,by decide +kernel⟩
theorem uL:aK ["mark"] ["mark"] (aq lC):=⟨rfl,rfl,rfl,by decide +kernel,rfl,by decide +kernel,by decide +kernel⟩
theorem je:aK ["family","table","mark","i","rest"] ["family","table","mark","i"] (aq gP):=⟨rfl,rfl,rfl,by decide +kernel,rfl,by decide +kernel,by decide +kernel⟩
theorem fS:aK ["family","many","table","mark"] ["family"] (aq jP):=⟨rfl,rfl,rfl,by decide +kernel,rfl,by decide +kernel,by decide +kernel⟩
theorem fC:aK ["family","paper","many"] ["family","paper"] (aq dW):=⟨rfl,rfl,rfl,by decide +kernel,rfl,by decide +kernel,by decide +kernel⟩
theorem rX:aK ["family","paper"] ["family","paper"] (aq jQ):=⟨rfl,rfl,rfl,by decide +kernel,rfl,by decide +kernel,by decide +kernel⟩
theorem iq:aK ["family","table","mark","i","rest"] ["family","table","mark","i"] (aq fP):=⟨rfl,rfl,rfl,by decide +kernel,rfl,by decide +kernel,by decide +kernel⟩
theorem dC:aK ["family","table","mark","row","backwards","i"] ["family","table"] (aq jR):=⟨rfl,rfl,rfl,by decide +kernel,rfl,by decide +kernel,by decide +kernel⟩
theorem uM:aK ["thing","least","most"] ["thing","least","most"] (aq fB):=⟨rfl,rfl,rfl,by decide +kernel,rfl,by decide +kernel,by decide +kernel⟩
theorem mD:aK ["text","piece"] ["text","piece"] (aq fQ):=⟨rfl,rfl,rfl,by decide +kernel,rfl,by decide +kernel,by decide +kernel⟩
theorem An:aK ["one","other","k"] ["one","other"] (aq Ca):=⟨rfl,rfl,rfl,by decide +kernel,rfl,by decide +kernel,by decide +kernel⟩
theorem rY:aK ["words"] ["words"] (aq jS):=⟨rfl,rfl,rfl,by decide +kernel,rfl,by decide +kernel,by decide +kernel⟩
theorem eG:aK ["things","at","thing"] ["things"] (aq fc):=⟨rfl,rfl,rfl,by decide +kernel,rfl,by decide +kernel,by decide +kernel⟩
theorem kA:aK ["piece","other"] ["piece","other"] (aq eE):=⟨rfl,rfl,rfl,by decide +kernel,rfl,by decide +kernel,by decide +kernel⟩
theorem jY:aK ["pieces","at","piece","longer"] ["pieces","at"] (aq lD):=⟨rfl,rfl,rfl,by decide +kernel,rfl,by decide +kernel,by decide +kernel⟩
theorem lF:aK ["pieces","kept","at","holder"] ["pieces","kept","at"] (aq jT):=⟨rfl,rfl,rfl,by decide +kernel,rfl,by decide +kernel,by decide +kernel⟩
theorem ir:aK ["self","pieces","indexes"] ["self","pieces"] (aq cA):=⟨rfl,rfl,rfl,by decide +kernel,rfl,by decide +kernel,by decide +kernel⟩
theorem mE:aK ["self"] ["self"] (aq cB):=⟨rfl,rfl,rfl,by decide +kernel,rfl,by decide +kernel,by decide +kernel⟩
theorem dO:aK ["_law_cell","_law_k","_law_number"] ["_law_cell","_law_k"] (aq iO):=⟨rfl,rfl,rfl,by decide +kernel,rfl,by decide +kernel,by decide +kernel⟩
theorem cC:aK ["_law_script","_law_many","_law_cells","_law_found","_law_turn","_law_cell","_law_rest"] ["_law_script","_law_many"] (aq jU):=⟨rfl,rfl,rfl,by decide +kernel,rfl,by decide +kernel,by decide +kernel⟩
theorem rZ:aK ["_law_deck_here"] ["_law_deck_here"] (aq jV):=⟨rfl,rfl,rfl,by decide +kernel,rfl,by decide +kernel,by decide +kernel⟩
theorem eQ:aK ["_law_deck_here","_law_letters","_law_many","_law_found","_law_k"] ["_law_deck_here","_law_letters","_law_many"] (aq iP):=⟨rfl,rfl,rfl,by decide +kernel,rfl,by decide +kernel,by decide +kernel⟩
theorem ba:aK ["_law_deck_here","_law_most","_law_first","_law_many","_law_letters","_law_sort","_law_long","_law_text","_law_pieces_here","_law_k","_law_at","_law_piece"] ["_law_deck_here","_law_most"] (aq gQ):=⟨rfl,rfl,rfl,by decide +kernel,rfl,by decide +kernel,by decide +kernel⟩
theorem dP:aK ["_law_pieces_here","_law_found","_law_k","_law_piece","_law_longer"] ["_law_pieces_here"] (aq iQ):=⟨rfl,rfl,rfl,by decide +kernel,rfl,by decide +kernel,by decide +kernel⟩
theorem nG:aK ["_law_one","_law_other","_law_k"] ["_law_one","_law_other"] (aq lE):=⟨rfl,rfl,rfl,by decide +kernel,rfl,by decide +kernel,by decide +kernel⟩
theorem r8:aK ["_law_words_here"] ["_law_words_here"] (aq jW):=⟨rfl,rfl,rfl,by decide +kernel,rfl,by decide +kernel,by decide +kernel⟩
theorem fU:aK ["_law_laps_here","_law_table_here","_law_mark","_law_i","_law_below","_law_others"] ["_law_laps_here","_law_table_here","_law_mark","_law_i"] (aq gR):=⟨rfl,rfl,rfl,by decide +kernel,rfl,by decide +kernel,by decide +kernel⟩
theorem df:aK ["_law_laps_here","_law_many","_law_table_here","_law_mark","_law_row","_law_i"] ["_law_laps_here"] (aq iR):=⟨rfl,rfl,rfl,by decide +kernel,rfl,by decide +kernel,by decide +kernel⟩
theorem bF:aK ["_law_laps_here","_law_table_here","_law_mark","_law_i","_law_found","_law_below","_law_some","_law_cell"] ["_law_laps_here","_law_table_here"] (aq iS):=⟨rfl,rfl,rfl,by decide +kernel,rfl,by decide +kernel,by decide +kernel⟩
theorem mF:aK ["_law_family","_law_thing"] ["_law_family","_law_thing"] (aq fR):=⟨rfl,rfl,rfl,by decide +kernel,rfl,by decide +kernel,by decide +kernel⟩
theorem cN:aK ["_law_deck_here","_law_table_here","_law_sort","_law_bent_here","_law_mark","_law_i","_law_more","_law_some"] ["_law_deck_here","_law_table_here"] (aq jX):=⟨rfl,rfl,rfl,by decide +kernel,rfl,by decide +kernel,by decide +kernel⟩
theorem b6:aK ["_law_table_here","_law_spots","_law_mark","_law_row","_law_found","_law_i","_law_bent_here"] ["_law_table_here"] (aq gS):=⟨rfl,rfl,rfl,by decide +kernel,rfl,by decide +kernel,by decide +kernel⟩
theorem dg:aK ["_law_deck_here","_law_first","_law_letters","_law_words_here","_law_one","_law_turn"] ["_law_deck_here"] (aq iT):=⟨rfl,rfl,rfl,by decide +kernel,rfl,by decide +kernel,by decide +kernel⟩
theorem eH:aK ["_law_script","_law_deck_here","_law_pieces_here","_law_laps_here","_law_family","_law_table_here","_law_mixed_here","_law_shown","_law_kept","_law_bent_here","_law_great","_law_flat"] ["_law_script"] (aq zk):=⟨rfl,rfl,rfl,by decide +kernel,rfl,by decide +kernel,by decide +kernel⟩
structure Txt (mg:Str->Option Value):Prop where
 b_all:mg "all"=none
 b_any:mg "any"=none
 b_bool:mg "bool"=none
 b_enumerate:mg "enumerate"=none
 b_int:mg "int"=none
 b_isinstance:mg "isinstance"=none
 b_len:mg "len"=none
 b_list:mg "list"=none
 b_max:mg "max"=none
 b_min:mg "min"=none
 b_range:mg "range"=none
 b_reversed:mg "reversed"=none
 b_str:mg "str"=none
 b_sum:mg "sum"=none
 b_tuple:mg "tuple"=none
 g_MOST_PIECES:∃t,mg "MOST_PIECES"=some (.int 40 t)
 g_MOST_SIGNS:∃t,mg "MOST_SIGNS"=some (.int 60 t)
 g_MOST_TABLE_WORDS:∃t,mg "MOST_TABLE_WORDS"=some (.int 8 t)
abbrev xcs:List Str:=["NoTable"]
abbrev Hk:List (Str×Str):=[]
structure TxX (K:PySem.W.Frag) (mg:Str->Option Value):Prop where
 all:Fb K xcs
 at_:∀c g,(c,g)∈Hk->PySem.W.findIn K (.ref (bc K c)) g=some none
 m_NoTable:mg "NoTable"=some (.ref (bc K "NoTable"))
 m_GlueError:mg "GlueError"=some (.ref (bc K "GlueError"))
 d_NoTable:XD K (bc K "NoTable")
 d_GlueError:XD K (bc K "GlueError")
 z_NoTable:X0 K (bc K "NoTable")
 kp_NoTable:PySem.W.keepIn K (.ref (bc K "NoTable"))=true
structure TxC (K:PySem.W.Frag):Prop where
 cl_Family:Cls K (bc K "Family")
 n_Family_pieces:eJ K (bc K "Family") "pieces"
 n_Family_kept:eJ K (bc K "Family") "kept"
 n_Family_words:eJ K (bc K "Family") "words"
 n_Family_left:eJ K (bc K "Family") "left"
 n_Family_laps:eJ K (bc K "Family") "laps"
 n_Family_total:eJ K (bc K "Family") "total"
local macro_rules | `(tactic| walk_at "s")=>`(tactic| first | (with_reducible omega) | (with_reducible assumption) | (with_reducible rfl) | exact le_of_ble_eq_true rfl | (simp only [length_cons,length_nil,length_append,length_map];(with_reducible omega)) | assumption | rfl | (refine ⟨?_,?_⟩ <;> first | (with_reducible omega) | (with_reducible assumption) | (with_reducible rfl) | exact le_of_ble_eq_true rfl | assumption | rfl | (refine ⟨?_,?_⟩ <;> first | (with_reducible omega) | (with_reducible assumption) | (with_reducible rfl) | exact le_of_ble_eq_true rfl | assumption | rfl | (refine ⟨?_,?_⟩ <;> first | (with_reducible omega) | (with_reducible assumption) | (with_reducible rfl) | exact le_of_ble_eq_true rfl | assumption | rfl | fail) | fail) | fail) | omega | fail)
local macro_rules | `(tactic| walk_at "r")=>`(tactic| ((try dsimp only [set_cons_zero,set_cons_succ,xg,xh,xi,Eu,Ev,qp,nz,nB,tN,tO,tail_cons,qq,qt,tP,xw,iM,Aj]);(conv=>whnf);(repeat (first | ((with_reducible refine And.intro ?_ ?_);(next=>walk_at "s");(conv=>whnf)) | ((with_reducible refine (show Exists _ from ?_));(first | (refine ⟨_,rfl,?_⟩) | (refine ⟨_,ij.lst _,?_⟩) | (refine ⟨_,ij.tup _,?_⟩));(conv=>whnf)) | ((refine (show gz _ _ _ from ?_));(first | (with_reducible refine G9 (by assumption) ?_) | (with_reducible refine Ha (by assumption) ?_) | (with_reducible refine FJ (by assumption) ?_) | (with_reducible refine Bf (by assumption) ?_) | ((with_reducible refine FH ?_ ?_);(next=>(first | (with_reducible rfl) | (with_reducible assumption) | (with_reducible omega)))) | ((with_reducible refine FI ?_ ?_);(next=>(first | (with_reducible rfl) | (with_reducible assumption) | (with_reducible omega)))) | ((with_reducible refine DN ?_ ?_);(next=>(first | (with_reducible rfl) | (with_reducible assumption) | (with_reducible omega)))) | ((with_reducible refine DO ?_ ?_);(next=>(first | (with_reducible rfl) | (with_reducible assumption) | (with_reducible omega)))));(conv=>whnf))));(try refine (show gz _ _ _ from ?_));(try dsimp only [set_cons_zero,set_cons_succ,xg,xh,xi,Eu,Ev,qp,nz,nB,tN,tO,tail_cons,qq,qt,tP,xw,iM,Aj])))
def qw:Nat:=1
def cm:FN
 | [d],Q=>d.sort=true/\Q (.dat (.bl (oB d)))
 | _,_=>False
def j7:Nat:=1
def bG:FN
 | [d],Q=>d.sort=true/\Q (.dat (.bl (ky d)))
 | _,_=>False
def iu:Nat:=2
def bd:FN
 | [d,.int m],Q=>Srt d/\(aR d).length<=1000000/\Q (.dat (.bl (bK d m)))
 | _,_=>False
def nH:Nat:=1
theorem qx(m i:Nat):Builtin.bitAnd ((m:Int) / 2^(i:Int).toNat) 1=if m.testBit i then 1 else 0:=by
 have e:(m:Int) / 2^(i:Int).toNat=((m / 2^i:Nat):Int):=by
  rw [toNat_natCast,natCast_ediv,natCast_pow];rfl
 rw [e];generalize hq:m / 2^i=q
 have h:Builtin.bitAnd (q:Int) 1=((q &&& 1:Nat):Int):=by
  unfold Builtin.bitAnd;simp
 rw [h,and_one_is_mod]
 have ht:m.testBit i=decide (q % 2=1):=by
  rw [testBit_eq_decide_div_mod_eq,hq]
 rw [ht]
 by_cases c:q % 2=1
 .rw [decide_eq_true c,if_pos rfl,c];rfl
 .rw [decide_eq_false c,if_neg (by decide),show q % 2=0 by omega];rfl
def mem(m:Nat):List Nat:=(List.range 8).filter m.testBit
theorem zl:∀m:_root_.Fin 256,(List.range (nE (m.1:Int))).filter m.1.testBit=mem m.1:=by decide +kernel
theorem mem_iff{m j:Nat}(hm:m<256):j∈mem m ↔ m.testBit j=true:=by
 unfold mem;rw [mem_filter,mem_range];refine⟨fun h=>h.2,fun h=>⟨?_,h⟩⟩
 rcases lt_or_ge j 8 with h8|h8
 .exact h8
 .rw [testBit_lt_two_pow (lt_of_lt_of_le hm (show 2^8<=2^j from pow_le_pow_right (n:=2) (by decide) h8))] at h;cases h
theorem eI:∀m:_root_.Fin 256,∀i:_root_.Fin 8,m.1.testBit i.1=true->2^i.1<=m.1/\∀j:_root_.Fin 8,(m.1 - 2^i.1).testBit j.1=(decide (j.1≠i.1) && m.1.testBit j.1):=by decide +kernel
theorem gU{m n i:Nat}(hm:m<2^n)(h:m.testBit i=true):i<n:=by
 rcases lt_or_ge i n with h2|h2
 .exact h2
 .rw [testBit_lt_two_pow (lt_of_lt_of_le hm (pow_le_pow_right (n:=2) (by decide) h2))] at h;cases h
theorem cG{n:Nat}(h:n<=8):2^n<=256:=pow_le_pow_right (n:=2) (by decide) h
def u5(l:List Int):Int:=l.foldl max (l.headD 0)
theorem qy:∀(l:List Int) (b:Int),(l.foldl max b=b\/l.foldl max b∈l)/\b<=l.foldl max b/\∀a∈l,a<=l.foldl max b
 | [],b=>⟨.inl rfl,Int.le_refl _,fun a h=>nomatch h⟩
 | a::l,b=>by
  obtain⟨h1,h2,h3⟩:=qy l (max b a);rw [foldl_cons]
  refine⟨?_,by omega,fun c hc=>?_⟩
  .rcases h1 with h1|h1
   .rw [h1]
    rcases le_total a b with h|h
    .exact .inl (by omega)
    .exact .inr (by rw [show max b a=a by omega];exact mem_cons_self)
   .exact .inr (mem_cons_of_mem _ h1)
  .rcases mem_cons.mp hc with rfl|hc
   .omega
   .exact h3 c hc
theorem gW{l:List Int}(h:0<l.length):u5 l∈l/\∀a∈l,a<=u5 l:=by
 cases l with
 | nil=>exact absurd h (by decide)
 | cons a l =>
  obtain⟨h1,h2,h3⟩:=qy (a::l) a;refine⟨?_,h3⟩
  rcases h1 with h1|h1
  .show List.foldl max a (a::l)∈_;rw [h1];exact mem_cons_self
  .exact h1
theorem lG{l:List Int}{m:Int}(h:m∈l)(h2:∀a∈l,a<=m):m=u5 l:=by
 obtain⟨h3,h4⟩:=gW (length_pos_of_mem h);have:=h2 _ h3;have:=h4 _ h;omega
theorem xC{l:List Int}(h:∀a∈l,0<=a):u5 (0::l)=u5 l:=by
 cases l with
 | nil=>rfl
 | cons a l =>
  obtain⟨h3,h4⟩:=gW (l:=a::l) (zero_lt_succ _);refine (lG (mem_cons_of_mem _ h3) fun b hb=>?_).symm
  rcases mem_cons.mp hb with rfl|hb
  .exact h _ h3
  .exact h4 b hb
def cell(tb:List (List Int))(m i:Nat):Int:=(tb.getD m []).getD i 0
def lp(ws:List (List Nat))(j i:Nat):Int:=(ml (pw ws j) (pw ws i):Int)
def cJ(ws:List (List Nat))(tb:List (List Int))(m i:Nat):List Int:=(mem (m - 2^i)).map fun j=>cell tb (m - 2^i) j+lp ws j i
def ms(ws:List (List Nat))(tb:List (List Int))(m i:Nat):Int:=if m.testBit i then u5 (cJ ws tb m i) else -1
def nd(ws:List (List Nat))(tb:List (List Int))(m i:Nat):Int:=u5 (0::cJ ws tb m i)
structure Tab (e:D) (tb:List (List Int)) (n:Nat):Prop where
 sq:ij e (aR e)
 len:(aR e).length=tb.length
 row:∀m,m<tb.length->ij (itD (aR e) m) ((tb.getD m []).map .int)
 wid:∀m,m<tb.length->(tb.getD m []).length=n
 all:tb.length=2^n
theorem zm{ds:List D}{m:Nat}(h:m<ds.length):atI ds (m:Int)=some (itD ds m):=im (j:=m) (by unfold itD;rw [getD_eq_getElem?_getD,getElem?_eq_getElem h];rfl) rfl
theorem fV{L:List Int}{i:Nat}(h:i<L.length):atI (L.map D.int) (i:Int)=some (.int (L.getD i 0)):=by
 refine im (j:=i) ?_ rfl;rw [getElem?_map,getElem?_eq_getElem h,getD_eq_getElem?_getD,getElem?_eq_getElem h];rfl
abbrev G1(ws:List (List Nat))(w:List Nat):D:=.tup (ws.map fun v=>.int (ml w v:Int))
theorem xD{ws:List (List Nat)}{i:Nat}(h:i<ws.length):atI (ws.map (G1 ws)) (i:Int)=some (G1 ws (pw ws i)):=by
 refine im (j:=i) ?_ rfl;rw [getElem?_map,getElem?_eq_getElem h];unfold pw;rw [getD_eq_getElem?_getD,getElem?_eq_getElem h];rfl
theorem tV{ws:List (List Nat)}{w:List Nat}{i:Nat}(h:i<ws.length):atI (ws.map fun v=>D.int (ml w v:Int)) (i:Int)=some (.int (ml w (pw ws i):Int)):=by
 refine im (j:=i) ?_ rfl;rw [getElem?_map,getElem?_eq_getElem h];unfold pw;rw [getD_eq_getElem?_getD,getElem?_eq_getElem h];rfl
theorem oM(m:Nat):((mem m).map nD).length<=8:=by
 rw [length_map];exact Nat.le_trans (length_filter_le ..) (by rw [length_range];exact Nat.le_refl _)
theorem Cb:∀m:_root_.Fin 256,nE (m.1:Int)<=8:=by decide +kernel
def bi:FN
 | [.int m],Q=>∃k:Nat,m=(k:Int)/\k<256/\Q (.own ((mem k).map nD))
 | _,_=>False
def jf:Nat:=5
structure Gv (e:D) (tb:List (List Int)) (n:Nat):Prop where
 sq:ij e (aR e)
 len:(aR e).length=tb.length
 row:∀m,m<tb.length->ij (itD (aR e) m) ((tb.getD m []).map .int)
 wid:∀m,m<tb.length->(tb.getD m []).length=n
def bp:FN
 | [.obj c ns fs,e,.int m,.int i],Q=>c="Family"/\ns=jL/\∃ps:List (List Nat),fs=jM ps/\∃k:Nat,m=(k:Int)/\∃j:Nat,i=(j:Int)/\∃tb:List (List Int),(Gv e tb (ai ps).length/\(ai ps).length<=8/\k<2^(ai ps).length/\j<(ai ps).length/\(k.testBit j=true->k - 2^j<tb.length))/\Q (.dat (.int (ms (ai ps) tb k j)))
 | _,_=>False
def lH:Nat:=4
abbrev gX(r:List Int):D:=.tup (r.map .int)
def Msa(ws:List (List Nat))(tb:List (List Int)):Prop:=∀m,m<tb.length->tb.getD m []=(List.range ws.length).map fun i=>ms ws tb m i
theorem EI(n:Nat):(1:Int)*2^(n:Int).toNat=((2^n:Nat):Int):=by rw [toNat_natCast,Int.one_mul,natCast_pow];rfl
theorem r9{α:Type}{a b:List α}{m:Nat}{d:α}(h:m<a.length):(a++b).getD m d=a.getD m d:=by
 rw [getD_eq_getElem?_getD,getElem?_append_left h,<- getD_eq_getElem?_getD]
theorem sd{α:Type}(a:List α)(x d:α):(a++[x]).getD a.length d=x:=by
 rw [getD_eq_getElem?_getD,getElem?_append_right (Nat.le_refl _),sub_self];rfl
theorem kN{tb:List (List Int)}{r:List Int}{m:Nat}(h:m<tb.length)(i:Nat):cell (tb++[r]) m i=cell tb m i:=by
 unfold cell;rw [r9 h]
theorem Cc{ws:List (List Nat)}{tb:List (List Int)}{r:List Int}{m i:Nat}(h:m<=tb.length)(hm:m<256)(hi:i<8)(hb:m.testBit i=true):cJ ws (tb++[r]) m i=cJ ws tb m i:=by
 have h1:2^i<=m:=(eI ⟨m,hm⟩ ⟨i,hi⟩ hb).1;have h2:0<2^i:=pow_pos (by decide);unfold cJ;exact map_congr_left fun j _=>by rw [kN (by omega)]
theorem EJ{ws:List (List Nat)}{tb:List (List Int)}{r:List Int}{m i:Nat}(h:m<=tb.length)(hm:m<256)(hi:i<8):ms ws (tb++[r]) m i=ms ws tb m i:=by
 unfold ms
 by_cases hb:m.testBit i=true
 .rw [if_pos hb,if_pos hb,Cc h hm hi hb]
 .rw [if_neg hb,if_neg hb]
theorem Cd{ws:List (List Nat)}{tb:List (List Int)}(hn:ws.length<=8)(hl:tb.length<256)(h:Msa ws tb):Msa ws (tb++[(List.range ws.length).map fun i=>ms ws tb tb.length i]):=fun m hm=>by
 have e:∀r:List Int,(List.range ws.length).map (fun i=>ms ws (tb++[r]) m i)=(List.range ws.length).map fun i=>ms ws tb m i:=fun r=>by
  rw [length_append] at hm;have hm:m<tb.length+1:=hm;exact map_congr_left fun i hi=>EJ (by omega) (by omega) (by have:=mem_range.mp hi;omega)
 rw [e]
 by_cases c:m<tb.length
 .rw [r9 c];exact h m c
 .rw [length_append] at hm;have hm:m<tb.length+1:=hm;have:m=tb.length:=by omega
  subst this;rw [sd]
theorem Ce{ws:List (List Nat)}{tb:List (List Int)}(h:Msa ws tb):Gv (.lst (tb.map gX)) tb ws.length :=
 ⟨.inl rfl,length_map _,fun m hm=>.inr (dY (by rw [show aR (.lst (tb.map gX))=tb.map gX from rfl,getElem?_map,getElem?_eq_getElem hm,getD_eq_getElem?_getD,getElem?_eq_getElem hm];rfl)),fun m hm=>by rw [h m hm,length_map,length_range]⟩
def b8:FN
 | [.obj c ns fs],Q=>c="Family"/\ns=jL/\∃ps:List (List Nat),fs=jM ps/\(ai ps).length<=8/\∀tb:List (List Int),Msa (ai ps) tb->tb.length=2^(ai ps).length->Q (.dat (.tup (tb.map gX)))
 | _,_=>False
def fE:Nat:=3
def dh(e:D):Prop:=e.sort=true/\(aR e).length<=1000/\∀r∈aR e,Srt r/\(aR r).length<=1000
def gY(e:D)(n:Nat):Bool:=oB e && (decide ((aR e).length=2^n) && (aR e).all fun r=>bK r n)
theorem Ao{d:D}(h:oB d=true):ij d (aR d):=by
 cases d with
 | lst ds=>exact .inl rfl
 | tup ds=>exact .inr rfl
 | _=>cases h
def aU:FN
 | [.obj c ns fs,e],Q=>c="Family"/\ns=jL/\∃ps:List (List Nat),fs=jM ps/\(dh e/\(ai ps).length<=40)/\Q (.dat (.bl (decide ((ai ps).length<=8) && gY e (ai ps).length)))
 | _,_=>False
def lI:Nat:=2
theorem kO(zs:List Int):(zs.map D.int).map toI=zs:=by rw [map_map];exact List.map_id' _
theorem tW:∀a b:List (List Int),PyData.eqvAll (D.pys (a.map gX)) (D.pys (b.map gX))=decide (a=b)
 | [],[]=>by simp [D.pys,PyData.eqvAll]
 | [],y::b=>by simp [D.pys,PyData.eqvAll]
 | x::a,[]=>by simp [D.pys,PyData.eqvAll]
 | x::a,y::b=>by
  have ih:=tW a b
  have e:PyData.eqv (D.py (gX x)) (D.py (gX y))=decide (x=y):=by
   show PyData.eqv (.tuple (D.pys (x.map .int))) (.tuple (D.pys (y.map .int)))=_;rw [lu,lu];simp only [PyData.eqv];exact k9 x y
  show PyData.eqvAll (D.py (gX x)::D.pys (a.map gX)) (D.py (gX y)::D.pys (b.map gX))=_;simp only [PyData.eqvAll];rw [e,ih,Bool.eq_iff_iff];simp
theorem Cf(a b:List (List Int)):deq (.tup (a.map gX)) (.tup (b.map gX))=decide (a=b):=by
 show PyData.eqv (.tuple (D.pys _)) (.tuple (D.pys _))=_;simp only [PyData.eqv];exact tW a b
theorem xE(tb:List (List Int)):Fl 2 (.tup (tb.map gX)):=Fl.tup fun d hd=>by
 obtain⟨r,_,rfl⟩:=mem_map.mp hd;exact Fl.tup (Fl.ints r)
theorem EK(a b:List (List Int)):re (.tup (a.map gX)) (.tup (b.map gX)):=re.of ((xE a).sh (by decide)) ((xE b).sh (by decide))
theorem tX{ws:List (List Nat)}{a b:List (List Int)}(hn:ws.length<=8)(hl:a.length=b.length)(hl2:a.length<=256)(ha:Msa ws a)(hb:Msa ws b):a=b:=by
 have key:∀m,m<a.length->a.getD m []=b.getD m []:=fun m=>by
  induction m using Nat.strongRecOn with
  | ind m ih =>
   intro hm;rw [ha m hm,hb m (by omega)];refine map_congr_left fun i hi=>?_;have hi:=mem_range.mp hi;unfold ms
   by_cases hbt:m.testBit i=true
   .rw [if_pos hbt,if_pos hbt];have h1:2^i<=m:=(eI ⟨m,by omega⟩ ⟨i,by omega⟩ hbt).1;have h2:0<2^i:=pow_pos (by decide);unfold cJ;congr 1;refine map_congr_left fun j _=>?_;unfold cell;rw [ih (m - 2^i) (by omega) (by omega)]
   .rw [if_neg hbt,if_neg hbt]
 refine ext_getElem hl fun m h1 h2=>?_;have:=key m h1;rw [getD_eq_getElem?_getD,getD_eq_getElem?_getD,getElem?_eq_getElem h1,getElem?_eq_getElem h2] at this;exact this
theorem zn{d:D}{m:Int}(c:bK d m=true):∃zs:List Int,ij d (zs.map .int)/\(zs.length:Int)=m:=by
 unfold bK at c;rw [and_eq_true,and_eq_true] at c;obtain⟨c1,c2,c3⟩:=c
 cases d with
 | lst ds=>exact⟨ds.map toI,.inl (congrArg _ (rN c3)),by rw [length_map];exact of_decide_eq_true c2⟩
 | tup ds=>exact⟨ds.map toI,.inr (congrArg _ (rN c3)),by rw [length_map];exact of_decide_eq_true c2⟩
 | _=>cases c1
theorem EL{e:D}{n:Nat}(h:gY e n=true):∃tb,Tab e tb n:=by
 unfold gY at h;rw [and_eq_true,and_eq_true,decide_eq_true_eq] at h;obtain⟨h1,h2,h3⟩:=h
 have hm:∀m,m<(aR e).length->((aR e).map fun r=>(aR r).map toI).getD m []=(aR (itD (aR e) m)).map toI:=fun m hm=>by
  rw [getD_eq_getElem?_getD,getElem?_map,getElem?_eq_getElem hm];unfold itD;rw [getD_eq_getElem?_getD,getElem?_eq_getElem hm];rfl
 have hz:∀m,m<(aR e).length->∃zs:List Int,ij (itD (aR e) m) (zs.map .int)/\(zs.length:Int)=n:=fun m hm=>zn (all_eq_true.mp h3 _ (jI hm))
 refine⟨(aR e).map fun r=>(aR r).map toI,Ao h1,by rw [length_map],fun m hk=>?_,fun m hk=>?_,by rw [length_map];exact h2⟩
 .rw [length_map] at hk;obtain⟨zs,s,_⟩:=hz m hk;rw [hm m hk,s.items,kO];exact s
 .rw [length_map] at hk;obtain⟨zs,s,l⟩:=hz m hk;rw [hm m hk,s.items,kO];omega
def bb:FN
 | [.obj c ns fs,e],Q=>c="Family"/\ns=jL/\∃ps:List (List Nat),fs=jM ps/\(dh e/\(ai ps).length<=40)/\((decide ((ai ps).length<=8) && gY e (ai ps).length)=false->Q (.dat (.bl false)))/\(∀tb:List (List Int),(ai ps).length<=8->Tab e tb (ai ps).length->∀b:Bool,(b=true ↔ Msa (ai ps) tb)->Q (.dat (.bl b)))
 | _,_=>False
def iw:Nat:=5
def xF(ws:List (List Nat))(tb:List (List Int))(m i:Nat):List Nat:=(mem (m - 2^i)).filter fun j=>decide (cell tb (m - 2^i) j+lp ws j i=cell tb m i)
def nxt(ws:List (List Nat))(tb:List (List Int))(m i:Nat):Nat:=(xF ws tb m i).headD 0
theorem Cg(ws:List (List Nat))(tb:List (List Int))(m i:Nat):(xF ws tb m i).Pairwise (·<·):=by
 unfold xF mem;exact (pairwise_lt_range.sublist filter_sublist).sublist filter_sublist
theorem kP{ws:List (List Nat)}{tb:List (List Int)}(h:Msa ws tb){m i:Nat}(hm:m<tb.length)(hi:i<ws.length):cell tb m i=ms ws tb m i:=by
 unfold cell;rw [h m hm,getD_eq_getElem?_getD,getElem?_map,getElem?_range hi];rfl
theorem xG{ws:List (List Nat)}{tb:List (List Int)}(h:Msa ws tb){m i:Nat}(hm:m<tb.length)(hi:i<ws.length)(hb:m.testBit i=true)(hr:mem (m - 2^i)≠[]):xF ws tb m i≠[]:=by
 have e:=kP h hm hi;unfold ms at e;rw [if_pos hb] at e;have hl:0<(cJ ws tb m i).length:=by unfold cJ;rw [length_map];exact length_pos_iff.mpr hr
 have:=(gW hl).1;rw [<- e] at this;unfold cJ at this;obtain⟨j,hj,ej⟩:=mem_map.mp this;exact ne_nil_of_mem (mem_filter.mpr ⟨hj,decide_eq_true ej⟩)
def bn:FN
 | [.obj c ns fs,e,.int m,.int i],Q=>c="Family"/\ns=jL/\∃ps:List (List Nat),fs=jM ps/\∃k:Nat,m=(k:Int)/\∃j:Nat,i=(j:Int)/\∃tb:List (List Int),(Tab e tb (ai ps).length/\Msa (ai ps) tb/\(ai ps).length<=8/\k<tb.length/\j<(ai ps).length/\k.testBit j=true/\mem (k - 2^j)≠[])/\Q (.dat (.int (nxt (ai ps) tb k j:Int)))
 | _,_=>False
def lJ:Nat:=6
def u6(ws:List (List Nat))(tb:List (List Int))(m i:Nat):List Nat :=
 if m=2^i then [i] else if h:2^i<=m then i::u6 ws tb (m - 2^i) (nxt ws tb m i) else [i]
termination_by m
decreasing_by
 have:0<2^i:=pow_pos (by decide);omega
theorem tY(ws:List (List Nat))(tb:List (List Int)){m i:Nat}(h:m=2^i):u6 ws tb m i=[i]:=by rw [u6,if_pos h]
theorem xH(ws:List (List Nat))(tb:List (List Int)){m i:Nat}(h:m≠2^i)(hb:2^i<=m):u6 ws tb m i=i::u6 ws tb (m - 2^i) (nxt ws tb m i):=by rw [u6,if_neg h,dif_pos hb]
theorem zo:∀m:_root_.Fin 256,mem m.1=[]->m.1=0:=by decide +kernel
theorem Ap{ws:List (List Nat)}{tb:List (List Int)}(hn:ws.length<=8)(h:Msa ws tb)(hl:tb.length=2^ws.length){m i:Nat}(hm:m<tb.length)(hi:i<ws.length)(hb:m.testBit i=true)(hne:m≠2^i):2^i<=m/\mem (m - 2^i)≠[]/\nxt ws tb m i<ws.length/\(m - 2^i).testBit (nxt ws tb m i)=true/\nxt ws tb m i∈xF ws tb m i:=by
 have h256:=cG hn;have hle:2^i<=m:=(eI ⟨m,by omega⟩ ⟨i,by omega⟩ hb).1
 have hr:mem (m - 2^i)≠[]:=fun z=>by
  have:=zo ⟨m - 2^i,lt_of_le_of_lt (sub_le m (2^i)) (by omega)⟩ z;have:m - 2^i=0:=this;omega
 have hc:=xG h hm hi hb hr
 have hx:nxt ws tb m i∈xF ws tb m i:=by
  unfold nxt
  cases hL:xF ws tb m i with
  | nil=>exact absurd hL hc
  | cons x r=>exact mem_cons_self
 have hm2:=(mem_iff (show m - 2^i<256 from lt_of_le_of_lt (sub_le m (2^i)) (by omega))).mp (mem_filter.mp hx).1;exact⟨hle,hr,gU (lt_of_le_of_lt (sub_le m (2^i)) (by omega)) hm2,hm2,hx⟩
def xI(tb:List (List Int)):Nat:=(tb.getD (tb.length - 1) []).idxOf (u5 (tb.getD (tb.length - 1) []))
def Aq(ws:List (List Nat))(tb:List (List Int)):List Nat:=if tb.length - 1=0 then [] else (u6 ws tb (tb.length - 1) (xI tb)).reverse
theorem Gw{ws:List (List Nat)}(hw:∀w∈ws,0<w.length/\w.length<=60){j i:Nat}(hj:j<ws.length)(hi:i<ws.length):lp ws j i<=60:=by
 unfold lp;have h1:=hw _ (gJ hj);have h2:=hw _ (gJ hi);have:=(wQ h1.1 h2.1).1;omega
theorem Ar{ws:List (List Nat)}{tb:List (List Int)}(hn:ws.length<=8)(hw:∀w∈ws,0<w.length/\w.length<=60)(h:Msa ws tb)(hl:tb.length=2^ws.length):∀m,m<tb.length->∀i,i<ws.length->-1<=cell tb m i/\cell tb m i<=60*(m:Int):=fun m=>by
 have h256:=cG hn
 induction m using Nat.strongRecOn with
 | ind m ih =>
  intro hm i hi;rw [kP h hm hi];unfold ms
  by_cases hb:m.testBit i=true
  .rw [if_pos hb];have h1:2^i<=m:=(eI ⟨m,by omega⟩ ⟨i,by omega⟩ hb).1;have h2:0<2^i:=pow_pos (by decide);have hr:m - 2^i<tb.length:=lt_of_le_of_lt (sub_le m (2^i)) hm
   have each:∀a∈cJ ws tb m i,-1<=a/\a<=60*(m:Int):=fun a ha=>by
    unfold cJ at ha;obtain⟨j,hj,rfl⟩:=mem_map.mp ha;have hjb:=(mem_iff (show m - 2^i<256 by omega)).mp hj;have hjn:j<ws.length:=gU (Nat.lt_of_lt_of_eq hr hl) hjb;have:=ih (m - 2^i) (by omega) hr j hjn;have l1:=Gw hw hjn hi;have l0:0<=lp ws j i:=natCast_nonneg _;have:((m - 2^i:Nat):Int)+1<=(m:Int):=by omega
    omega
   cases ho:cJ ws tb m i with
   | nil=>exact⟨by show (-1:Int)<=0;decide,by show (0:Int)<=_;omega⟩
   | cons x r =>
    rw [<- ho];exact each _ (gW (by rw [ho];exact zero_lt_succ _)).1
  .rw [if_neg hb];exact⟨Int.le_refl _,by omega⟩
theorem Ch(B:List Nat)(i:Nat):atI ((B++[i]).map nD) (-1)=some (.int (i:Int)):=by
 unfold atI ixN;rw [length_map,length_append,if_neg (by decide),if_pos (by show -((B.length+1:Nat):Int)<=-1;omega),show ((-1:Int)+((B.length+[i].length:Nat):Int)).toNat=B.length by show ((-1:Int)+((B.length+1:Nat):Int)).toNat=_;omega];show ((B++[i]).map nD)[B.length]?=_;rw [getElem?_map,getElem?_append_right (Nat.le_refl _),sub_self];rfl
def bx:FX
 | [.obj c ns fs,e],Q,E=>c="Family"/\ns=jL/\∃ps:List (List Nat),fs=jM ps/\(dh e/\(ai ps).length<=40)/\(∀w∈ai ps,0<w.length/\w.length<=60)/\((decide ((ai ps).length<=8) && gY e (ai ps).length)=false->E (.exc "NoTable" [] []))/\(∀tb:List (List Int),(ai ps).length<=8->Tab e tb (ai ps).length->(Msa (ai ps) tb->Q (.dat (.tup ((Aq (ai ps) tb).map nD))))/\(¬ Msa (ai ps) tb->E (.exc "NoTable" [] [])))
 | _,_,_=>False
def nI:Nat:=3
def cP:FN
 | [d,.int a,.int b],Q=>d.sort=true/\Gg d<=1000000/\Q (.dat (.bl (yR d a b)))
 | _,_=>False
def iy:Nat:=2
def aV:FN
 | [.str a,.str b],Q=>Q (.dat (.int (fnd a b 0)))
 | _,_=>False
def As:Nat:=3
def gu:FN
 | [.str a,.str b],Q=>(0<a.length/\a.length<=10000)/\(0<b.length/\b.length<=10000)/\Q (.dat (.int (ml a b:Int)))
 | _,_=>False
def lK:Nat:=1
def b9:FN
 | [.tup ds],Q=>∃ws:List (List Nat),ds=ws.map .str/\(ws.length<=1000/\∀w∈ws,0<w.length/\w.length<=10000)/\Q (.dat (Eg ws))
 | _,_=>False
def gZ:Nat:=3
def bf:FN
 | [d],Q=>∃ws:List (List Nat),ij d (ws.map .str)/\(ws.length<=40/\Pcs 60 ws)/\Q (.dat .non)
 | _,_=>False
def gv:Nat:=2
def aI:FN
 | [.str a,.str b],Q=>Q (.dat (.bl (gA a b)))
 | _,_=>False
def nJ:Nat:=4
def cq:FN
 | [.tup ds,.int i],Q=>∃ws:List (List Nat),ds=ws.map .str/\(ws.length<=1000/\∀w∈ws,w.length<=10000)/\(0<=i/\i<(ws.length:Int))/\Q (.dat (.bl (du ws i.toNat)))
 | _,_=>False
def lL:Nat:=4
def bV:FN
 | [.tup ds,.tup ks,.int i],Q=>∃ws:List (List Nat),ds=ws.map .str/\ks=(aP ws).map nD/\(ws.length<=1000/\∀w∈ws,w.length<=60)/\(0<=i/\i<(ws.length:Int))/\Q (.dat (eC ws i.toNat))
 | _,_=>False
def iz:Nat:=3
def bo:FR
 | .ins "Family" [] [],[d],Q=>∃ws:List (List Nat),ij d (ws.map .str)/\(ws.length<=40/\Pcs 60 ws)/\Q (.dat .non) (.ins "Family" jL (jM ws))
 | _,_,_=>False
def iA:Nat:=1
def aW:FN
 | [.obj c ns fs],Q=>c="Family"/\ns=jL/\∃ws:List (List Nat),fs=jM ws/\Q (.dat (.int ((ai ws).length:Int)))
 | _,_=>False
def j8:Nat:=3
def Dk(zs:List Int):Prop:=∀x∈zs,0<=x/\x<1000
def bN:FN
 | [.int c,.int k],Q=>(0<=k/\k<=100000)/\∀z:Int,0<=z->Q (.dat (.int z))
 | _,_=>False
def lM:Nat:=7
def ca:FN
 | [.scr ns,.int mo],Q=>(ns.length<=64/\0<=mo/\mo<=2000)/\∀zs:List Int,Dk zs->zs.length=mo.toNat->Q (.own (zs.map .int))
 | _,_=>False
def lN:Nat:=1
def aA:FR
 | .own ds,[],Q=>∃zs:List Int,ds=zs.map .int/\(Dk zs/\0<zs.length/\zs.length<=100000)/\∀(z:Int) (ys:List Int),0<=z->z<1000->Dk ys->ys.length+1=zs.length->Q (.dat (.int z)) (.own (ys.map .int))
 | _,_,_=>False
def j9:Nat:=5
def bO:FR
 | .own ds,[.lst es,.int n],Q=>∃zs:List Int,ds=zs.map .int/\∃ls:List Nat,es=ls.map (fun c=>.str [c])/\(0<ls.length/\ls.length<=26/\Lts ls)/\(Dk zs/\zs.length<=100000)/\(0<=n/\n<=(zs.length:Int))/\∀(w:List Nat) (ys:List Int),w.length=n.toNat->Lts w->(∀c∈w,c∈ls)->Dk ys->ys.length+n.toNat=zs.length->Q (.dat (.str w)) (.own (ys.map .int))
 | _,_,_=>False
def jg:Nat:=12
def uN(n f:Nat):List Nat:=(List.range n).map fun k=>97+(f+7*k) % 26
theorem xJ(n f:Nat):Lts (uN n f):=fun c hc=>by
 obtain⟨k,_,rfl⟩:=mem_map.mp hc;have:=mod_lt (f+7*k) (show 0<26 by decide);exact⟨by omega,by omega⟩
theorem xK{j:Nat}(h:j<26):atI [97,98,99,100,101,102,103,104,105,106,107,108,109,110,111,112,113,114,115,116,117,118,119,120,121,122] (j:Int)=some (97+j):=by
 have:∀j:Fin 26,atI [97,98,99,100,101,102,103,104,105,106,107,108,109,110,111,112,113,114,115,116,117,118,119,120,121,122] (j.1:Int)=some (97+j.1):=by decide +kernel
 exact this ⟨j,h⟩
theorem tZ{ls:List Nat}{j:Nat}(h:j<ls.length):atI (ls.map fun c=>D.str [c]) (j:Int)=some (.str [ls.getD j 0]) :=
 im (j:=j) (by rw [getElem?_map,getElem?_eq_getElem h,getD_eq_getElem?_getD,getElem?_eq_getElem h];rfl) rfl
theorem At{ls:List Nat}(hL:Lts ls){j:Nat}(h:j<ls.length):Lts [ls.getD j 0]:=by
 rw [getD_eq_getElem?_getD,getElem?_eq_getElem h];exact Lts.one (hL _ (getElem_mem h))
def bL:FR
 | .own ds,[.int mo],Q=>∃zs:List Int,ds=zs.map .int/\(Dk zs/\zs.length<=10000)/\(0<=mo/\mo<=39/\16+7*mo<=(zs.length:Int))/\∀(ps:List (List Nat)) (ys:List Int),(ps.length:Int)<=mo->Pcs 60 ps->Dk ys->(zs.length:Int)<=ys.length+16+7*mo->ys.length<=zs.length->Q (.dat (.lst (ps.map .str))) (.own (ys.map .int))
 | _,_,_=>False
def ka:Nat:=5
theorem Ci{ps:List (List Nat)}{k:Nat}:du ps k=(decide ((ps.filter fun o=>decide ((pw ps k).length<o.length) && gA (pw ps k) o)=[]) && !decide (pw ps k∈ps.take k)):=by
 unfold du;rw [Bool.and_comm];congr 1
 cases hf:(ps.filter fun o=>decide ((pw ps k).length<o.length) && gA (pw ps k) o) with
 | nil =>
  rw [decide_eq_true rfl,Bool.not_eq_true',any_eq_false];intro o ho z;obtain⟨m1,m2⟩:=mem_filter.mp ho;have:o∈ps.filter fun o=>decide ((pw ps k).length<o.length) && gA (pw ps k) o:=mem_filter.mpr ⟨m1,by rw [m2];exact z⟩;rw [hf] at this;cases this
 | cons o r =>
  rw [decide_eq_false (fun z=>nomatch z)];have:o∈ps.filter fun o=>decide ((pw ps k).length<o.length) && gA (pw ps k) o:=by rw [hf];exact mem_cons_self ..
  obtain⟨m1,m2⟩:=mem_filter.mp this;rw [and_eq_true] at m2;rw [Bool.not_eq_false',any_eq_true];exact⟨o,mem_filter.mpr ⟨m1,m2.1⟩,m2.2⟩
theorem se{ws:List (List Nat)}(h:∀w∈ws,Lts w):re (.lst (ws.map .str)) (.lst []):=re.of (Sh.lstS h) (Sh.lstI [])
theorem qz(ws:List (List Nat)):deq (.lst (ws.map .str)) (.lst [])=decide (ws=[]):=by
 show PyData.eqv (.list (D.pys (ws.map .str))) (.list [])=_;rw [rL];cases ws <;> simp [PyData.eqv,PyData.eqvAll]
def bP:FN
 | [.lst ds],Q=>∃ps:List (List Nat),ds=ps.map .str/\(ps.length<=40/\∀w∈ps,w.length<=60/\Lts w)/\Q (.dat (.lst ((ai ps).map .str)))
 | _,_=>False
def nK:Nat:=3
def b4:FN
 | [.str a,.str b],Q=>a.length<=10000/\(0<b.length/\b.length<=10000)/\Q (.dat (.int (ml a b:Int)))
 | _,_=>False
def lO:Nat:=1
abbrev b5(r:List Int):D:=.lst (r.map .int)
abbrev Gx(ws:List (List Nat))(w:List Nat):D:=.lst (ws.map fun v=>.int (ml w v:Int))
abbrev fe(ws:List (List Nat)):List D:=ws.map (Gx ws)
theorem t5{ws:List (List Nat)}{i:Nat}(h:i<ws.length):atI (fe ws) (i:Int)=some (Gx ws (pw ws i)):=by
 refine im (j:=i) ?_ rfl;rw [getElem?_map,getElem?_eq_getElem h];unfold pw;rw [getD_eq_getElem?_getD,getElem?_eq_getElem h];rfl
def G2(ws:List (List Nat)):Prop:=ws.length<=40/\∀w∈ws,0<w.length/\w.length<=60
theorem t6{α:Type}{l:List α}{k:Nat}{d:α}(h:k<l.length):l.getD k d∈l:=mem_of_getElem? (show l[k]?=some (l.getD k d) by rw [getD_eq_getElem?_getD,getElem?_eq_getElem h];rfl)
theorem Au{α:Type}{l:List α}{d x:α}(h:x∈l):∃i,i<l.length/\l.getD i d=x:=by
 obtain⟨i,hi,e⟩:=mem_iff_getElem.mp h;exact⟨i,hi,by rw [getD_eq_getElem?_getD,getElem?_eq_getElem hi];exact e⟩
theorem G3{ps:List (List Nat)}(hl:ps.length<=40)(h:Pcs 60 ps):G2 (ai ps):=⟨Nat.le_trans (fA ps) hl,fun w hw=>⟨(h9 h w hw).1,(h9 h w hw).2.1⟩⟩
def ce:FN
 | [.lst ds],Q=>∃ws:List (List Nat),ds=ws.map .str/\G2 ws/\Q (.dat (.lst (fe ws)))
 | _,_=>False
def jh:Nat:=6
theorem hU{tb:List (List Int)}{m:Nat}(h:m<tb.length):atI (tb.map b5) (m:Int)=some (b5 (tb.getD m [])):=by
 refine im (j:=m) ?_ rfl;rw [getElem?_map,getElem?_eq_getElem h,getD_eq_getElem?_getD,getElem?_eq_getElem h];rfl
def bA:FN
 | [.lst ls,.lst td,.int m,.int i],Q=>∃ws:List (List Nat),ls=fe ws/\∃tb:List (List Int),td=tb.map b5/\∃k:Nat,m=(k:Int)/\∃j:Nat,i=(j:Int)/\(ws.length<=8/\k<2^ws.length/\j<ws.length/\k.testBit j=true/\k - 2^j<tb.length/\∀r,r<tb.length->(tb.getD r []).length=ws.length)/\Q (.dat (.int (nd ws tb k j)))
 | _,_=>False
def kc:Nat:=6
structure Gy (ws:List (List Nat)) (tb:List (List Int)):Prop where
 wid:∀r,r<tb.length->(tb.getD r []).length=ws.length
 on:∀m,m<tb.length->∀i,i<ws.length->m.testBit i=true->nd ws tb m i<=cell tb m i
 off:∀m,m<tb.length->∀i,i<ws.length->m.testBit i=false->cell tb m i=-1
theorem qA(tb:List (List Int))(r:List Int)(i:Nat):cell (tb++[r]) tb.length i=r.getD i 0:=by
 unfold cell;rw [sd]
theorem EM{ws:List (List Nat)}{tb:List (List Int)}{r:List Int}{m i:Nat}(h:m<=tb.length)(hm:m<256)(hi:i<8)(hb:m.testBit i=true):nd ws (tb++[r]) m i=nd ws tb m i:=by
 have h1:=(eI ⟨m,hm⟩ ⟨i,hi⟩ hb).1;have h1:2^i<=m:=h1;have h2:0<2^i:=pow_pos (by decide);unfold nd cJ;congr 2;exact map_congr_left fun j _=>by rw [kN (by omega)]
theorem Cj(n:Nat):nV [D.int (-1)] (n:Int)=(List.replicate n (-1:Int)).map D.int:=by rw [yS,map_replicate]
structure Exa (ws:List (List Nat)) (tb:List (List Int)):Prop where
 wid:∀r,r<tb.length->(tb.getD r []).length=ws.length
 on:∀m,m<tb.length->∀i,i<ws.length->m.testBit i=true->cell tb m i=nd ws tb m i
 off:∀m,m<tb.length->∀i,i<ws.length->m.testBit i=false->cell tb m i=-1
theorem Exa.good{ws:List (List Nat)}{tb:List (List Int)}(h:Exa ws tb):Gy ws tb:=⟨h.wid,fun m hm i hi hb=>by rw [h.on m hm i hi hb];exact Int.le_refl _,h.off⟩
structure Ck (ws:List (List Nat)) (tb:List (List Int)) (k i:Nat) (r:List Int):Prop where
 len:r.length=ws.length
 on:∀j,j<i->k.testBit j=true->r.getD j 0=nd ws tb k j
 off:∀j,j<ws.length->(i<=j\/k.testBit j=false)->r.getD j 0=-1
theorem xL{ws:List (List Nat)}{tb:List (List Int)}{k i:Nat}{r:List Int}(h:Ck ws tb k i r)(hb:k.testBit i=false):Ck ws tb k (i+1) r :=
 ⟨h.len,fun j hj hbj=>by
  by_cases e:j=i
  .subst e;rw [hb] at hbj;cases hbj
  .exact h.on j (by omega) hbj,fun j hj o=>h.off j hj (o.imp (fun z=>by omega) id)⟩
theorem zp{ws:List (List Nat)}{tb:List (List Int)}{k i:Nat}{r:List Int}(h:Ck ws tb k i r)(hi:i<ws.length)(hb:k.testBit i=true):Ck ws tb k (i+1) (r.set i (nd ws tb k i)):=by
 have g:∀j,(r.set i (nd ws tb k i)).getD j 0=if j=i then nd ws tb k i else r.getD j 0:=fun j=>by
  by_cases e:j=i
  .subst e;rw [if_pos rfl,getD_eq_getElem?_getD,getElem?_set_self (by rw [h.len];exact hi)];rfl
  .rw [if_neg e,getD_eq_getElem?_getD,getElem?_set_ne (Ne.symm e),<- getD_eq_getElem?_getD]
 refine⟨by rw [length_set];exact h.len,fun j hj hbj=>?_,fun j hj o=>?_⟩
 .rw [g]
  by_cases e:j=i
  .rw [if_pos e,e]
  .rw [if_neg e];exact h.on j (by omega) hbj
 .have e:j≠i:=fun e=>by
   rcases o with o|o
   .omega
   .rw [e,hb] at o;cases o
  rw [g,if_neg e];exact h.off j hj (o.imp (fun z=>by omega) id)
theorem xM{ws:List (List Nat)}{tb:List (List Int)}{r:List Int}(hn:ws.length<=8)(hk:tb.length<2^ws.length)(h:Exa ws tb)(hr:Ck ws tb tb.length ws.length r):Exa ws (tb++[r]):=by
 have h256:=cG hn;have hl:(tb++[r]).length=tb.length+1:=by rw [length_append];rfl
 refine⟨fun m hm=>?_,fun m hm i hi hb=>?_,fun m hm i hi hb=>?_⟩
 .rw [hl] at hm
  by_cases e:m<tb.length
  .rw [r9 e];exact h.wid m e
  .rw [show m=tb.length by omega,sd];exact hr.len
 .rw [hl] at hm;rw [EM (by omega) (by omega) (by omega) hb]
  by_cases e:m<tb.length
  .rw [kN e];exact h.on m e i hi hb
  .have e:m=tb.length:=by omega
   subst e;rw [qA];exact hr.on i hi hb
 .rw [hl] at hm
  by_cases e:m<tb.length
  .rw [kN e];exact h.off m e i hi hb
  .have e:m=tb.length:=by omega
   subst e;rw [qA];exact hr.off i hi (.inr hb)
theorem uO(ws:List (List Nat))(tb:List (List Int))(k:Nat):Ck ws tb k 0 (List.replicate ws.length (-1)) :=
 ⟨length_replicate,fun j hj=>absurd hj (not_lt_zero j),fun j hj _=>by rw [getD_eq_getElem?_getD,getElem?_replicate,if_pos hj];rfl⟩
def bQ:FN
 | [.lst ls],Q=>∃ws:List (List Nat),ls=fe ws/\ws.length<=8/\∀(tb:List (List Int)),Exa ws tb->tb.length=2^ws.length->Q (.dat (.lst (tb.map b5)))
 | _,_=>False
def ke:Nat:=8
theorem Cm(ws:List (List Nat)):Fl 2 (.lst (fe ws)):=Fl.lst fun d hd=>by
 obtain⟨w,_,rfl⟩:=mem_map.mp hd;refine Fl.lst fun e he=>?_;obtain⟨u,_,rfl⟩:=mem_map.mp he;exact Fl.int _
theorem lP(ws:List (List Nat)):re (.lst (fe ws)) (.lst []):=re.of ((Cm ws).sh (by decide)) (Sh.lstI [])
theorem kf(ws:List (List Nat)):deq (.lst (fe ws)) (.lst [])=decide (ws=[]):=by
 cases ws with
 | nil=>rfl
 | cons w r=>rw [decide_eq_false (fun z=>nomatch z)];rfl
theorem Cn{n r:Nat}(hn:n<=8)(hr:r<2^n):(List.range n).filter r.testBit=mem r:=by
 unfold mem;obtain⟨d,hd⟩:∃d,8=n+d:=⟨8 - n,by omega⟩
 have:∀d,(List.range (n+d)).filter r.testBit=(List.range n).filter r.testBit:=fun d=>by
  induction d with
  | zero=>rfl
  | succ d ih =>
   rw [<- add_assoc,range_succ,filter_append,ih,filter_cons,if_neg]
   .simp
   .intro z;have:=gU hr z;omega
 rw [hd,this d]
theorem Co{L:List Nat}(h:L≠[]):atI (L.map nD) 0=some (.int ((L.headD 0:Nat):Int)):=by
 cases L with
 | nil=>exact absurd rfl h
 | cons x r=>exact im (j:=0) rfl rfl
def bR:FN
 | [.lst ls,.lst td],Q=>∃ws:List (List Nat),ls=fe ws/\∃tb:List (List Int),td=tb.map b5/\(ws.length<=8/\(∀w∈ws,0<w.length/\w.length<=60)/\Msa ws tb/\tb.length=2^ws.length)/\Q (.dat (.tup ((Aq ws tb).map nD)))
 | _,_=>False
def iB:Nat:=2
theorem Cq{ws:List (List Nat)}{tb:List (List Int)}(hw:∀r,r<tb.length->(tb.getD r []).length=ws.length)(hl:tb.length=2^ws.length):Tab (.lst (tb.map b5)) tb ws.length :=
 ⟨.inl rfl,length_map _,fun m hm=>.inl (dY (by rw [show aR (.lst (tb.map b5))=tb.map b5 from rfl,getElem?_map,getElem?_eq_getElem hm,getD_eq_getElem?_getD,getElem?_eq_getElem hm];rfl)),hw,hl⟩
theorem lQ(zs:List Int):∀x∈zs.map D.int,x.sort=true:=fun x hx=>by
 obtain⟨i,_,rfl⟩:=mem_map.mp hx;rfl
theorem cQ{ds:List D}(hl:ds.length<=1000)(h:∀r∈ds,Srt r/\(aR r).length<=1000):dh (.lst ds):=⟨rfl,hl,h⟩
theorem nL{r:List Int}(h:r.length<=1000):Srt (b5 r)/\(aR (b5 r)).length<=1000:=⟨⟨rfl,lQ r⟩,by show (r.map D.int).length<=1000;rw [length_map];exact h⟩
theorem oN{tb:List (List Int)}(hw:∀r∈tb,r.length<=8):∀d∈tb.map b5,Srt d/\(aR d).length<=1000:=fun d hd=>by
 obtain⟨r,hr,rfl⟩:=mem_map.mp hd;exact nL (Nat.le_trans (hw r hr) (by decide))
theorem fW{e:D}{n:Nat}(h:(aR e).length≠2^n):gY e n=false:=by
 unfold gY;rw [decide_eq_false h,Bool.false_and,Bool.and_false]
theorem t7{e:D}{n:Nat}(h:oB e=false):gY e n=false:=by unfold gY;rw [h,Bool.false_and]
theorem oO{e r:D}{n:Nat}(h:r∈aR e)(hr:bK r n=false):gY e n=false:=by
 unfold gY;have:((aR e).all fun r=>bK r n)=false:=by rw [all_eq_false];exact⟨r,h,by rw [hr];decide⟩
 rw [this,Bool.and_false,Bool.and_false]
theorem xN{r x:D}{n:Int}(h:x∈aR r)(hx:ky x=false):bK r n=false:=by
 unfold bK;have:(aR r).all ky=false:=by rw [all_eq_false];exact⟨x,h,by rw [hx];decide⟩
 rw [this,Bool.and_false,Bool.and_false]
theorem ji{r:D}{n:Int}(h:((aR r).length:Int)≠n):bK r n=false:=by
 unfold bK;rw [decide_eq_false h,Bool.false_and,Bool.and_false]
theorem t8{r:D}{n:Int}(h:oB r=false):bK r n=false:=by unfold bK;rw [h,Bool.false_and]
theorem Tab.uniq{e:D}{tb tb':List (List Int)}{n:Nat}(h:Tab e tb n)(h':Tab e tb' n):tb=tb':=by
 refine ext_getElem (by rw [h.all,h'.all]) fun m h1 h2=>?_;have e1:=h.row m h1;have e2:=h'.row m h2;have e3:=e1.items.symm.trans e2.items;have g1:tb.getD m []=tb[m]:=by rw [getD_eq_getElem?_getD,getElem?_eq_getElem h1];rfl
 have g2:tb'.getD m []=tb'[m]:=by rw [getD_eq_getElem?_getD,getElem?_eq_getElem h2];rfl
 rw [g1,g2] at e3;have:=congrArg (List.map toI) e3;rw [kO,kO] at this;exact this
theorem lR{e:D}{tb:List (List Int)}{n:Nat}(h:Tab e tb n):gY e n=true:=by
 unfold gY;rw [and_eq_true,and_eq_true,decide_eq_true_eq,all_eq_true];refine⟨by rcases h.sq with e|e <;> rw [e] <;> rfl,by rw [h.len,h.all],fun r hr=>?_⟩;obtain⟨m,hm,rfl⟩:=mem_iff_getElem.mp hr;have hm':m<tb.length:=by rw [<- h.len];exact hm
 have s:=h.row m hm';have hi:itD (aR e) m=(aR e)[m]:=by unfold itD;rw [getD_eq_getElem?_getD,getElem?_eq_getElem hm];rfl
 rw [hi] at s;unfold bK;rw [s.items,length_map,h.wid m hm',decide_eq_true rfl,Bool.true_and,and_eq_true];refine⟨by rcases s with e|e <;> rw [e] <;> rfl,?_⟩;rw [all_map];exact all_eq_true.mpr fun _ _=>rfl
def NoT(ws:List (List Nat))(e:D):Prop:=(decide (ws.length<=8) && gY e ws.length)=false\/∃tb,Tab e tb ws.length/\¬ Msa ws tb
theorem NoT.tab{ws:List (List Nat)}{e:D}(h:NoT ws e){tb:List (List Int)}(h8:ws.length<=8)(ht:Tab e tb ws.length):¬ Msa ws tb:=by
 rcases h with h|⟨tb0,h1,h2⟩
 .rw [decide_eq_true h8,lR ht] at h;cases h
 .rw [ht.uniq h1];exact h2
def aX:FN
 | [.obj c ns fs,e],Q=>c="Family"/\ns=jL/\∃ps:List (List Nat),fs=jM ps/\((dh e/\(ai ps).length<=40)/\(∀w∈ai ps,0<w.length/\w.length<=60)/\NoT (ai ps) e)/\Q (.dat (.bl true))
 | _,_=>False
def lS:Nat:=8
def zq(tb:List (List Int))(m i:Nat)(v:Int):List (List Int):=tb.set m ((tb.getD m []).set i v)
theorem qB{tb:List (List Int)}{m i:Nat}{v:Int}(hm:m<tb.length)(r:Nat):(zq tb m i v).getD r []=if r=m then (tb.getD m []).set i v else tb.getD r []:=by
 unfold zq
 by_cases e:r=m
 .subst e;rw [if_pos rfl,getD_eq_getElem?_getD,getElem?_set_self hm];rfl
 .rw [if_neg e,getD_eq_getElem?_getD,getElem?_set_ne (Ne.symm e),<- getD_eq_getElem?_getD]
theorem fX{n i:Nat}(h:i<n):ixN n (i:Int)=some i:=by
 unfold ixN;rw [if_pos (by omega)];simp;omega
theorem Av(M:List (List Int)):gp (M.map b5) (M.map fun r=>r.map D.int):=by
 induction M with
 | nil=>exact .nil
 | cons r M ih=>exact .cons (.inl rfl) ih
theorem kg(M:List (List Int)):(M.map fun r=>r.map D.int).map D.lst=M.map b5:=by rw [map_map];rfl
theorem oP{M:List (List Int)}{i:Nat}(h:i<M.length):(M.map fun r=>r.map D.int)[i]?=some ((M.getD i []).map D.int):=by
 rw [getElem?_map,getElem?_eq_getElem h,getD_eq_getElem?_getD,getElem?_eq_getElem h];rfl
theorem zr(M:List (List Int))(i j:Nat)(z:Int):((M.map fun r=>r.map D.int).set i (((M.getD i []).map D.int).set j (.int z))).map D.lst=(zq M i j z).map b5:=by
 unfold zq;rw [<- kg,map_set,map_set,map_set,map_set]
theorem oQ{M:List (List Int)}(hw:∀r∈M,r.length<=8){i:Nat}{d:D}(hd:Srt d/\(aR d).length<=1000):∀x∈(M.map b5).set i d,Srt x/\(aR x).length<=1000:=fun x hx=>by
 rcases mem_or_eq_of_mem_set hx with h|h
 .exact oN hw x h
 .rw [h];exact hd
theorem EN{tb:List (List Int)}{m i:Nat}{v:Int}(hw:∀r∈tb,r.length<=8)(hm:m<tb.length):∀r∈zq tb m i v,r.length<=8:=fun r hr=>by
 rcases mem_or_eq_of_mem_set hr with h|h
 .exact hw r h
 .rw [h,length_set];exact hw _ (t6 hm)
theorem iU{ws:List (List Nat)}{tb:List (List Int)}(h:Msa ws tb):∀r,r<tb.length->(tb.getD r []).length=ws.length:=fun r hr=>by rw [h r hr,length_map,length_range]
theorem t9{ws:List (List Nat)}{tb:List (List Int)}(h:Msa ws tb)(hn:ws.length<=8):∀r∈tb,r.length<=8:=fun r hr=>by
 obtain⟨i,hi,e⟩:=Au (d:=[]) hr;rw [<- e,iU h i hi];exact hn
theorem EO{ws:List (List Nat)}{tb:List (List Int)}(hn:ws.length<=8)(h:Msa ws tb)(hl:tb.length=2^ws.length):∀m,m<tb.length->∀i,i<ws.length->m.testBit i=true->0<=cell tb m i:=fun m=>by
 have h256:=cG hn
 induction m using Nat.strongRecOn with
 | ind m ih =>
  intro hm i hi hb;rw [kP h hm hi];unfold ms;rw [if_pos hb];have h1:2^i<=m:=(eI ⟨m,by omega⟩ ⟨i,by omega⟩ hb).1;have h2:0<2^i:=pow_pos (by decide);have hr:m - 2^i<tb.length:=lt_of_le_of_lt (sub_le m (2^i)) hm
  cases ho:cJ ws tb m i with
  | nil=>exact Int.le_refl 0
  | cons x r =>
   rw [<- ho];have hx:=(gW (l:=cJ ws tb m i) (by rw [ho];exact zero_lt_succ _)).1;unfold cJ at hx ⊢;obtain⟨j,hj,e⟩:=mem_map.mp hx;rw [<- e];have hjb:=(mem_iff (show m - 2^i<256 by omega)).mp hj;have hjn:j<ws.length:=gU (Nat.lt_of_lt_of_eq hr hl) hjb;have:=ih (m - 2^i) (by omega) hr j hjn hjb;have:0<=lp ws j i:=natCast_nonneg _;omega
theorem xO{ws:List (List Nat)}{tb tb':List (List Int)}(hn:ws.length<=8)(h:Msa ws tb)(hl:tb.length=2^ws.length)(hl':tb'.length=tb.length)(hne:tb'≠tb)(hw:∀r,r<tb'.length->(tb'.getD r []).length=ws.length):NoT ws (.lst (tb'.map b5)):=by
 have h256:=cG hn;exact .inr ⟨tb',Cq hw (by rw [hl',hl]),fun z=>hne (tX hn hl' (by omega) z h)⟩
theorem Cr{tb:List (List Int)}{m i:Nat}{v:Int}(hm:m<tb.length)(hi:i<(tb.getD m []).length)(hv:v≠cell tb m i):zq tb m i v≠tb:=fun z=>by
 have:(zq tb m i v).getD m []=tb.getD m []:=by rw [z]
 rw [qB hm,if_pos rfl] at this;have:=congrArg (fun l:List Int=>l.getD i 0) this;have e:((tb.getD m []).set i v).getD i 0=v:=by rw [getD_eq_getElem?_getD,getElem?_set_self hi];rfl
 exact hv (e.symm.trans this)
theorem noF{ws:List (List Nat)}{e:D}(h:gY e ws.length=false):NoT ws e:=.inl (by rw [h,Bool.and_false])
theorem sf{ws:List (List Nat)}{tb:List (List Int)}{m:Nat}{d:D}(hm:m<tb.length)(hd:bK d ws.length=false):NoT ws (.lst ((tb.map b5).set m d)) :=
 noF (oO (r:=d) (mem_set (by rw [length_map];exact hm) d) hd)
theorem Cs(z:Int):∃r:Int,atI [D.int 1,D.int (-1),D.int 2,D.int (-2),D.int 100000000000000000000,D.int (-100000000000000000000)] (z % 6)=some (.int r)/\r≠0:=by
 rcases (show z % 6=0\/z % 6=1\/z % 6=2\/z % 6=3\/z % 6=4\/z % 6=5 by omega) with h|h|h|h|h|h <;> rw [h]
 all_goals exact⟨_,rfl,by decide⟩
theorem Ct(z:Int):∃v:D,atI [D.bl true,D.bl false,D.non,D.str [48],D.tup [D.int 0]] (z % 5)=some v/\v.sort=true/\ky v=false:=by
 rcases (show z % 5=0\/z % 5=1\/z % 5=2\/z % 5=3\/z % 5=4 by omega) with h|h|h|h|h <;> rw [h]
 all_goals exact⟨_,rfl,rfl,rfl⟩
theorem zt{n:Nat}{zs:List Int}(hl:zs.length=n)(hn:n<=8)(h0:0<n)(z:Int):∃v:D,atI [D.lst (zs.map .int++[.int 0]),D.lst (dD (zs.map .int) (some 1) none),D.non,D.dic [.inl 0] [.int 0],D.tup []] (z % 5)=some v/\(Srt v/\(aR v).length<=1000)/\bK v n=false:=by
 have hc:dD (zs.map D.int) (some 1) none=(zs.drop 1).map D.int:=by rw [map_drop];exact i3 _ 1
 rw [hc]
 rcases (show z % 5=0\/z % 5=1\/z % 5=2\/z % 5=3\/z % 5=4 by omega) with h|h|h|h|h <;> rw [h]
 .refine⟨_,rfl,?_,ji ?_⟩
  .rw [show zs.map D.int++[D.int 0]=(zs++[0]).map D.int by rw [map_append];rfl];exact nL (by rw [length_append];show _+1<=_;omega)
  .show ((zs.map D.int++[D.int 0]).length:Int)≠n;rw [length_append,length_map];show ((zs.length+1:Nat):Int)≠n;omega
 .refine⟨_,rfl,nL (by rw [length_drop];omega),ji ?_⟩;show (((zs.drop 1).map D.int).length:Int)≠n;rw [length_map,length_drop];omega
 .exact⟨_,rfl,⟨⟨rfl,fun x hx=>nomatch hx⟩,zero_le _⟩,t8 rfl⟩
 .exact⟨_,rfl,⟨⟨rfl,fun x hx=>nomatch hx⟩,zero_le _⟩,t8 rfl⟩
 .exact⟨_,rfl,⟨⟨rfl,fun x hx=>nomatch hx⟩,zero_le _⟩,ji (by show ((0:Nat):Int)≠n;omega)⟩
theorem zu{ws:List (List Nat)}{tb:List (List Int)}(hw:∀r∈tb,r.length<=8)(hl:tb.length=2^ws.length)(h2:2<=tb.length)(h256:tb.length<=256)(d:D)(hd:Srt d/\(aR d).length<=1000)(z:Int):∃v:D,atI [D.lst (dD (tb.map b5) (some 1) none),D.lst (tb.map b5++[d]),D.lst [D.lst (tb.map b5)],D.lst (dD (tb.map b5) none (some (-1))),D.non,D.dic [] [],D.str [97,98],D.bl true] (z % 8)=some v/\dh v/\NoT ws v:=by
 have ro:=oN hw;have hm:(tb.map b5).length=tb.length:=length_map _;have c1:dD (tb.map b5) (some 1) none=(tb.map b5).drop 1:=i3 _ 1;have c2:dD (tb.map b5) none (some (-1))=(tb.map b5).dropLast:=BD _;rw [c1,c2]
 rcases (show z % 8=0\/z % 8=1\/z % 8=2\/z % 8=3\/z % 8=4\/z % 8=5\/z % 8=6\/z % 8=7 by omega) with h|h|h|h|h|h|h|h <;> rw [h]
 .exact⟨_,rfl,cQ (by rw [length_drop];omega) (fun r hr=>ro r (mem_of_mem_drop hr)),noF (fW (by show ((tb.map b5).drop 1).length≠_;rw [length_drop];omega))⟩
 .refine⟨_,rfl,cQ (by rw [length_append];show _+1<=_;omega) (fun r hr=>(mem_append.mp hr).elim (ro r) fun e=>by rw [mem_singleton.mp e];exact hd),noF (fW ?_)⟩;show (tb.map b5++[d]).length≠_;rw [length_append];show (tb.map b5).length+1≠_;omega
 .refine⟨_,rfl,cQ (by show 1<=1000;decide) (fun r hr=>?_),noF (fW (by show 1≠_;omega))⟩;rw [mem_singleton.mp hr];exact⟨⟨rfl,fun x hx=>(ro x hx).1.1⟩,by show (tb.map b5).length<=1000;omega⟩
 .exact⟨_,rfl,cQ (by rw [length_dropLast];omega) (fun r hr=>ro r ((dropLast_sublist _).subset hr)),noF (fW (by show ((tb.map b5).dropLast).length≠_;rw [length_dropLast];omega))⟩
 all_goals exact⟨_,rfl,⟨rfl,zero_le _,fun x hx=>nomatch hx⟩,noF (t7 rfl)⟩
theorem Cu{ws:List (List Nat)}{tb:List (List Int)}(hn:ws.length<=8)(h:Msa ws tb)(hl:tb.length=2^ws.length){m:Nat}(hm:m<tb.length)(h0:0<m):dh (.lst (((tb.map b5).set m (b5 (tb.getD 0 []))).set 0 (b5 (tb.getD m []))))/\NoT ws (.lst (((tb.map b5).set m (b5 (tb.getD 0 []))).set 0 (b5 (tb.getD m [])))):=by
 have h256:=cG hn;have hw8:=t9 h hn;have hwid:=iU h;have e:((tb.map b5).set m (b5 (tb.getD 0 []))).set 0 (b5 (tb.getD m []))=((tb.set m (tb.getD 0 [])).set 0 (tb.getD m [])).map b5:=by rw [map_set,map_set]
 rw [e];have hsl:((tb.set m (tb.getD 0 [])).set 0 (tb.getD m [])).length=tb.length:=by rw [length_set,length_set]
 have mem:∀r∈(tb.set m (tb.getD 0 [])).set 0 (tb.getD m []),r∈tb:=fun r hr=>by
  rcases mem_or_eq_of_mem_set hr with hr|hr
  .rcases mem_or_eq_of_mem_set hr with hr|hr
   .exact hr
   .rw [hr];exact t6 (by omega)
  .rw [hr];exact t6 hm
 refine⟨cQ (by rw [length_map,hsl];omega) (oN fun r hr=>hw8 r (mem r hr)),xO hn h hl hsl (fun z=>?_) fun r hr=>?_⟩
 .have z0:((tb.set m (tb.getD 0 [])).set 0 (tb.getD m [])).getD 0 []=tb.getD 0 []:=by rw [z]
  rw [getD_eq_getElem?_getD,getElem?_set_self (by rw [length_set];omega)] at z0;have z0:tb.getD m []=tb.getD 0 []:=z0;obtain⟨i,hi⟩:=exists_testBit_of_ne_zero (show m≠0 by omega);have hin:i<ws.length:=gU (Nat.lt_of_lt_of_eq hm hl) hi;have n1:=EO hn h hl m hm i hin hi;have n2:cell tb 0 i=-1:=by rw [kP h (by omega) hin];unfold ms;rw [if_neg (by rw [zero_testBit];decide)]
  unfold cell at n1 n2;rw [z0,n2] at n1;exact absurd n1 (by decide)
 .obtain⟨k,hk,ek⟩:=Au (d:=[]) (mem _ (t6 hr));rw [<- ek];exact hwid k hk
def cf:FR
 | .own ds,[.lst td],Q=>∃zs:List Int,ds=zs.map .int/\∃(tb:List (List Int)),td=tb.map b5/\∃(ws:List (List Nat)),(Msa ws tb/\tb.length=2^ws.length/\0<ws.length/\ws.length<=8)/\(Dk zs/\4<=zs.length/\zs.length<=10000)/\∀(e:D) (ys:List Int),dh e->NoT ws e->Dk ys->zs.length<=ys.length+4->ys.length<=zs.length->Q (.dat e) (.own (ys.map .int))
 | _,_,_=>False
def jj:Nat:=7
theorem Gy.nn{ws:List (List Nat)}{tb:List (List Int)}(h:Gy ws tb){m i:Nat}(hm:m<tb.length)(hi:i<ws.length)(hb:m.testBit i=true):0<=cell tb m i:=by
 have h1:=h.on m hm i hi hb;have h2:=(gW (l:=0::cJ ws tb m i) (zero_lt_succ _)).2 0 mem_cons_self;unfold nd at h1;omega
theorem Cv{ws:List (List Nat)}{tb:List (List Int)}(h:Exa ws tb)(hn:ws.length<=8)(hl:tb.length=2^ws.length):Msa ws tb:=fun m hm=>by
 have h256:=cG hn;have hw:=h.wid m hm;refine ext_getElem (by rw [hw,length_map,length_range]) fun i h1 h2=>?_;have hi:i<ws.length:=by omega
 rw [getElem_map,getElem_range]
 have ec:cell tb m i=(tb.getD m [])[i]:=by
  unfold cell;rw [getD_eq_getElem?_getD (l:=tb.getD m []),getElem?_eq_getElem h1];rfl
 rw [<- ec];unfold ms
 cases hb:m.testBit i with
 | false=>rw [if_neg (by decide)];exact h.off m hm i hi hb
 | true =>
  rw [if_pos rfl,h.on m hm i hi hb];unfold nd;refine xC fun a ha=>?_;unfold cJ at ha;obtain⟨j,hj,rfl⟩:=mem_map.mp ha;have hr:m - 2^i<tb.length:=lt_of_le_of_lt (sub_le _ _) hm;have hjb:=(mem_iff (by omega)).mp hj;have hjn:j<ws.length:=gU (Nat.lt_of_lt_of_eq hr hl) hjb;have:=h.good.nn hr hjn hjb;have:0<=lp ws j i:=natCast_nonneg _;omega
def gq(n:Nat):List (List Nat):=(List.range 9).map fun k=>[97+(5*k+n) % 26]
theorem EQ:∀n:_root_.Fin 9,(ai (gq n.1)).length=9:=by decide +kernel
theorem ER(n:Nat):Pcs 60 (gq n):=fun w hw=>by
 unfold gq at hw;obtain⟨k,_,rfl⟩:=mem_map.mp hw;have:=mod_lt (5*k+n) (show 0<26 by decide);exact⟨by show 0<1;decide,by show 1<=60;decide,fun c hc=>by rw [mem_singleton.mp hc];omega⟩
theorem xP:Srt (.lst [])/\(aR (.lst [])).length<=1000:=⟨⟨rfl,fun x hx=>nomatch hx⟩,zero_le _⟩
theorem Hl(ws:List (List Nat)){d:D}(h:d∈[D.non,.lst [],.lst [.lst [.int 0]],.lst [.lst [],.lst []]]):dh d/\NoT ws d:=by
 have hp:0<2^ws.length:=pow_pos (by decide);simp only [mem_cons,not_mem_nil,or_false] at h
 rcases h with rfl|rfl|rfl|rfl
 .exact⟨⟨rfl,zero_le _,fun r hr=>nomatch hr⟩,noF (t7 rfl)⟩
 .exact⟨cQ (zero_le _) (fun r hr=>nomatch hr),noF (fW (by show 0≠_;omega))⟩
 .refine⟨cQ (by show 1<=1000;decide) fun r hr=>by rw [mem_singleton.mp hr];exact nL (r:=[0]) (by show 1<=1000;decide),?_⟩
  by_cases e:ws.length=0
  .refine noF (oO (r:=.lst [.int 0]) mem_cons_self (ji ?_));show ((1:Nat):Int)≠_;omega
  .refine noF (fW ?_);have:=pow_le_pow_right (n:=2) (by decide) (show 1<=ws.length by omega);show 1≠_;omega
 .refine⟨cQ (by show 2<=1000;decide) fun r hr=>?_,?_⟩
  .simp only [mem_cons,not_mem_nil,or_false,or_self] at hr;rw [hr];exact xP
  .by_cases e:ws.length=0
   .refine noF (fW ?_);rw [e];show 2≠1;decide
   .refine noF (oO (r:=.lst []) mem_cons_self (ji ?_));show ((0:Nat):Int)≠_;omega
theorem ES{e:D}{L:List D}{tb:List (List Int)}{ws:List (List Nat)}(h:ij e L)(hl:L.length=tb.length)(hr:∀m,m<tb.length->ij (itD L m) ((tb.getD m []).map .int))(hw:∀r,r<tb.length->(tb.getD r []).length=ws.length)(ht:tb.length=2^ws.length):Tab e tb ws.length:=by
 have hi:aR e=L:=by rcases h with rfl|rfl <;> rfl
 exact⟨by rw [hi];exact h,by rw [hi];exact hl,fun m hm=>by rw [hi];exact hr m hm,hw,ht⟩
theorem xQ(tb:List (List Int)):Fl 2 (.lst (tb.map b5)):=Fl.lst fun d hd=>by
 obtain⟨r,_,rfl⟩:=mem_map.mp hd;exact Fl.lst (Fl.ints r)
def bB:FN
 | [.lst td],Q=>∃tb:List (List Int),td=tb.map b5/\∃ws:List (List Nat),(Msa ws tb/\tb.length=2^ws.length/\ws.length<=8)/\∀es:List D,(∀e∈es,dh e/\NoT ws e)->es.length<=5000->Q (.dat (.lst es))
 | _,_=>False
def kh:Nat:=6
def l5(f k:Nat):Nat:=97+(f+5*k) % 26
def w9(f k:Nat):List (List Nat):=(List.range k).flatMap fun a=>(List.range 3).map fun b=>[l5 f a,l5 f b]
theorem xR(f k:Nat):w9 f (k+1)=w9 f k++(List.range 3).map fun b=>[l5 f k,l5 f b]:=by
 unfold w9;rw [show List.range (k+1)=List.range k++[k] from range_succ,flatMap_append,flatMap_cons,flatMap_nil,append_nil]
theorem Gz:∀f:_root_.Fin 26,(w9 f.1 3).Nodup:=by decide +kernel
theorem xS(f:Nat):∀k,(w9 f k).length=3*k
 | 0=>rfl
 | k+1=>by rw [xR,length_append,xS f k,length_map,length_range];omega
theorem ET{f k:Nat}{w:List Nat}(h:w∈w9 f k):w.length=2/\Lts w:=by
 unfold w9 at h;obtain⟨a,_,h⟩:=mem_flatMap.mp h;obtain⟨b,_,rfl⟩:=mem_map.mp h;have:=mod_lt (f+5*a) (show 0<26 by decide);have:=mod_lt (f+5*b) (show 0<26 by decide);refine⟨rfl,fun c hc=>?_⟩
 rcases mem_cons.mp hc with rfl|hc
 .unfold l5;omega
 .rw [mem_singleton.mp hc];unfold l5;omega
theorem zw{ps:List (List Nat)}(nd:ps.Nodup)(h2:∀w∈ps,w.length=2):(ai ps).length=ps.length:=by
 have hk:∀k,k<ps.length->du ps k=true:=fun k hk=>by
  unfold du;rw [and_eq_true]
  constructor
  .rw [Bool.not_eq_true',decide_eq_false_iff_not];intro z;obtain⟨i,hi,e⟩:=mem_iff_getElem.mp z;rw [length_take] at hi;rw [getElem_take] at e;have e2:pw ps k=ps[k]:=by unfold pw;rw [getD_eq_getElem?_getD,getElem?_eq_getElem hk];rfl
   rw [e2] at e;have:=(getElem_inj (h₀:=by omega) (h₁:=hk) nd).mp e;omega
  .rw [Bool.not_eq_true',any_eq_false];intro o ho;obtain⟨m1,m2⟩:=mem_filter.mp ho;rw [decide_eq_true_eq,h2 _ (gJ hk),h2 o m1] at m2;omega
 unfold ai aP;rw [length_map,filter_eq_self.mpr fun k hk'=>hk k (mem_range.mp hk'),length_range]
def b7:FR
 | .own ds,[],Q=>∃zs:List Int,ds=zs.map .int/\(Dk zs/\3<=zs.length/\zs.length<=10000)/\∀(ps:List (List Nat)) (ys:List Int),ps.length=8->Pcs 60 ps->(ai ps).length=8->Dk ys->ys.length+3=zs.length->Q (.dat (.lst (ps.map .str))) (.own (ys.map .int))
 | _,_,_=>False
def Aw:Nat:=12
abbrev ua:FN:=GS
def jk:PTS:=(bU (GR .list .tuple (pSl 0)))
theorem uP(d:D)(Q:PV->Prop)(h:cm ([d]) Q):dy jk qw ([d]) Q:=by
 show jk _ [some (.dat (d))];obtain⟨hd,q⟩:=h;cases d <;> first|(cases hd;done)|(walk_at "r";exact q)
theorem xT:∀ds Q,cm ds Q->dy jk qw ds Q:=fun ds Q h=>by
 unfold cm at h
 split at h
 .exact uP _ _ h
 .exact h.elim
def eR:PTS:=(bU (rD (Fa .int (pSl 0)) (Bh (Fa .bool (pSl 0)))))
theorem oR(d:D)(Q:PV->Prop)(h:bG ([d]) Q):dy eR j7 ([d]) Q:=by
 show eR _ [some (.dat (d))];obtain⟨hd,q⟩:=h;cases d <;> first|(cases hd;done)|(walk_at "r";exact q)
theorem qC:∀ds Q,bG ds Q->dy eR j7 ds Q:=fun ds Q h=>by
 unfold bG at h
 split at h
 .exact oR _ _ h
 .exact h.elim
def dF:PTS:=(bU (rD (bD cm (af (pFz (aZ 0)) ap)) (rD (pOp lw (pFz (pCB hZ (af (pSl 0) ap))) (pSl 1)) (pCB D4 (af (pFz (cD [none] (dq (aZ 0)) (ao 0) iW (bD bG (af (pFz (aZ 0)) ap)))) ap)))))
theorem lT(d:D)(m:Int)(Q:PV->Prop)(h:bd ([d,.int m]) Q):dy dF iu ([d,.int m]) Q:=by
 show dF _ [some (.dat (d)),some (.dat (.int m))];obtain⟨⟨hd,hs⟩,hl,q⟩:=h
 have body:∀ds:List D,aR d=ds->oB d=true->(ds.length:Int)=m->bK d m=(ds.map ky).all id:=fun ds e1 e2 e3=>by
  unfold bK;rw [e1,e2,decide_eq_true e3,Bool.true_and,Bool.true_and,all_map];rfl
 have no:∀ds:List D,aR d=ds->¬ (ds.length:Int)=m->bK d m=false:=fun ds e1 e3=>by
  unfold bK;rw [e1,decide_eq_false e3,Bool.false_and,Bool.and_false]
 cases d with
 | lst ds =>
  have hl:ds.length<=1000000:=hl;walk_at "r"
  refine dz (fun c=>?_) (fun c=>?_)
  .walk_at "r"
   refine tH (fun τ=>∃v,τ=[v]) (fun k=>.bl (ky (itD ds k))) ?_ ?_ ?_
   .exact⟨_,rfl⟩
   .rintro k τ _ hk rfl ⟨v,rfl⟩ K1 k1;walk_at "r";exact⟨hs _ (jI hk),k1 _ ⟨_,rfl⟩⟩
   .rintro τ ⟨v,rfl⟩;walk_at "r";refine⟨(List.range ds.length).map fun k=>ky (itD ds k),by rw [map_map];rfl,?_⟩;rw [body ds rfl rfl c] at q;rw [lr];exact q
  .walk_at "r";rw [no ds rfl c] at q;exact q
 | tup ds =>
  have hl:ds.length<=1000000:=hl;walk_at "r"
  refine dz (fun c=>?_) (fun c=>?_)
  .walk_at "r"
   refine tH (fun τ=>∃v,τ=[v]) (fun k=>.bl (ky (itD ds k))) ?_ ?_ ?_
   .exact⟨_,rfl⟩
   .rintro k τ _ hk rfl ⟨v,rfl⟩ K1 k1;walk_at "r";exact⟨hs _ (jI hk),k1 _ ⟨_,rfl⟩⟩
   .rintro τ ⟨v,rfl⟩;walk_at "r";refine⟨(List.range ds.length).map fun k=>ky (itD ds k),by rw [map_map];rfl,?_⟩;rw [body ds rfl rfl c] at q;rw [lr];exact q
  .walk_at "r";rw [no ds rfl c] at q;exact q
 | str l=>walk_at "r";exact q
 | non=>walk_at "r";exact q
 | bl b=>walk_at "r";exact q
 | int i=>walk_at "r";exact q
 | ty n=>cases hd
 | scr ns=>cases hd
 | dic ks ds=>walk_at "r";exact q
 | obj c ns ds=>cases hd
 | exc c ns ds=>cases hd
theorem mG:∀ds Q,bd ds Q->dy dF iu ds Q:=fun ds Q h=>by
 unfold bd at h
 split at h
 .exact lT _ _ _ h
 .exact h.elim
def ia:PTS:=(bU (cD [none,some 0] (qc (af (pFz (BS (aZ 0))) ap)) (ao 0) (pBI (pOp uJ (pFz (pOp CL (pSl 1) (pSl 0))) (pFz (pC (.int 1))))) (aZ 0)))
theorem sg(m:Int)(Q:PV->Prop)(h:bi ([.int m]) Q):dy ia nH ([.int m]) Q:=by
 show ia _ [some (.dat (.int m))];obtain⟨k,rfl,hk,q⟩:=h;have hb:=zl ⟨k,hk⟩;have hb8:nE (k:Int)<=8:=Cb ⟨k,hk⟩;have hb:(List.range (nE (k:Int))).filter k.testBit=mem k:=hb;walk_at "r"
 refine cfR (fun j=>k.testBit j) (fun j=>nD j) (fun j hj v K1 K2 k1 k2=>?_) (fun v=>?_)
 .have e:=qx k j;show (0:Int)<=(j:Int)/\gz (Builtin.bitAnd ((k:Int) / 2^(j:Int).toNat) 1 != 0) _ _;refine⟨by omega,?_⟩;rw [e]
  cases h:k.testBit j with
  | true=>exact k1 _ h
  | false=>exact k2 _ h
 .rw [toNat_natCast,hb];exact q
theorem uQ:∀ds Q,bi ds Q->dy ia nH ds Q:=fun ds Q h=>by
 unfold bi at h
 split at h
 .exact sg _ _ h
 .exact h.elim
def d4:PTS:=(aG (kJ (pB (pOp (Ab true) (pSl 3) (pFz (bD bi (af (pFz (aZ 2)) ap))))) (bU (pUn rJ (pFz (pC (.int 1))))) cM) (aG (aQ (pOp xX (pSl 2) (pFz (pOp wL (pFz (pC (.int 1))) (pSl 3)))) (ao 4)) (bU (EF (pFz (cD [none,some 3,some 1,some 4,some 0] (dq (bD bi (af (pFz (aZ 4)) ap))) (ao 0) iW (pOp cF (pFz (pOp fIx (pFz (pOp fIx (pSl 2) (pSl 3))) (pSl 0))) (pFz (pOp fIx (pFz (pOp fIx (pFz (uH "Family" ["pieces","kept","words","left","laps","total"] 4 (pSl 4))) (pSl 0))) (pSl 1)))))) (pC (.int 0))))))
theorem mH(c:Str)(ns:List Str)(fs:List D)(e:D)(m i:Int)(Q:PV->Prop)(h:bp ([.obj c ns fs,e,.int m,.int i]) Q):dy d4 jf ([.obj c ns fs,e,.int m,.int i]) Q:=by
 show d4 _ [some (.dat (.obj c ns fs)),some (.dat (e)),some (.dat (.int m)),some (.dat (.int i)),none];obtain⟨rfl,rfl,ps,rfl,k,rfl,j,rfl,tb,⟨ht,hn,hk,hj,hkr⟩,q⟩:=h;have h256:=cG hn;have hkk:k<256:=by omega
 have hfl:=BJ (mem k);have hin:=tL j (mem k);unfold ms at q;walk_at "r";rw [hin]
 by_cases hb:k.testBit j=true
 .have hmem:=(mem_iff hkk).mpr hb;rw [if_pos hb] at q;rw [decide_eq_true hmem];obtain⟨hle,hsub⟩:=eI ⟨k,hkk⟩ ⟨j,by omega⟩ hb;have hle:2^j<=k:=hle
  have er:(k:Int) - 1*2^(j:Int).toNat=((k - 2^j:Nat):Int):=by
   rw [toNat_natCast,Int.one_mul,natCast_sub hle,natCast_pow];rfl
  have hml:=oM (k - 2^j);have hrl:k - 2^j<tb.length:=hkr hb;have hr2:k - 2^j<2^(ai ps).length:=lt_of_le_of_lt (sub_le _ _) hk;have hrk:k - 2^j<256:=lt_of_le_of_lt (sub_le _ _) hkk;walk_at "r";rw [er];walk_at "r"
  refine cm1 (e:=nD) (xs:=mem (k - 2^j)) (fun x=>.int (cell tb (k - 2^j) x+lp (ai ps) x j)) (fun x hx v K1 k1=>?_) (fun v=>?_)
  .have hxb:=(mem_iff hrk).mp hx;have hxn:x<(ai ps).length:=gU hr2 hxb;have hw:=ht.wid _ hrl;walk_at "r";refine rQ ht.sq ⟨_,zm (by rw [ht.len];exact hrl),?_⟩;walk_at "r";refine rQ (ht.row _ hrl) ⟨_,fV (by omega),?_⟩;walk_at "r";refine⟨_,xD hxn,?_⟩;walk_at "r";refine⟨_,tV hj,?_⟩;walk_at "r";exact k1 _
  walk_at "r"
  refine⟨cJ (ai ps) tb k j,by unfold cJ;rw [map_map];rfl,?_,?_⟩
  .intro h0;rw [h0] at q;exact q
  .intro h0 mx hm1 hm2;rw [<- lG hm1 hm2] at q;exact q
 .have hmem:¬ j∈mem k:=fun z=>hb ((mem_iff hkk).mp z);rw [if_neg hb] at q;rw [decide_eq_false hmem];walk_at "r";exact q
theorem oS:∀ds Q,bp ds Q->dy d4 jf ds Q:=fun ds Q h=>by
 unfold bp at h
 split at h
 .exact mH _ _ _ _ _ _ _ h
 .exact h.elim
def fY:PTS:=(aG (aQ (wE "Family" ["pieces","kept","words","left","laps","total"] aW (aZ 0) ap) (ao 1)) (aG (kJ (pB (pOp fGt (pSl 1) (pFz (pC (.int 8))))) oh cM) (aG (aQ (gB ap) (ao 2)) (aG (jb (qc (af (pFz (pOp wL (pFz (pC (.int 1))) (pSl 1))) ap)) (ao 3) (fm (xW 2 (pCB dN (af (pFz (cD [none,some 0,some 2,some 3] (qc (af (pFz (aZ 1)) ap)) (ao 0) iW (B8 (bD bp (af (pFz (aZ 1)) (af (pFz (aZ 2)) (af (pFz (aZ 3)) (af (pFz (aZ 0)) ap)))))))) ap))))) (bU (pCB dN (af (pSl 2) ap)))))))
theorem qD(c:Str)(ns:List Str)(fs:List D)(Q:PV->Prop)(h:b8 ([.obj c ns fs]) Q):dy fY lH ([.obj c ns fs]) Q:=by
 show fY _ [some (.dat (.obj c ns fs)),none,none,none];obtain⟨rfl,rfl,ps,rfl,hn,q⟩:=h;have h8:(ai ps).length<=8:=hn;have h256:=cG h8;have hM:0<=((ai ps).length:Int)/\((ai ps).length:Int)<=1000000/\(1:Int).natAbs<2^64:=⟨by omega,by omega,by decide⟩
 have e1:=EI (ai ps).length;have hr2:(-1000000:Int)<=1*2^((ai ps).length:Int).toNat:=by rw [e1];exact Int.le_trans (show (-1000000:Int)<=0 by decide) (natCast_nonneg _)
 have hr3:(1:Int)*2^((ai ps).length:Int).toNat<=1000000:=by rw [e1];exact Int.le_trans (ofNat_le.mpr h256) (by decide)
 walk_at "r";generalize hws:ai ps=ws at *;have hwl:(ai ps).length=ws.length:=by rw [hws]
 rw [e1,toNat_natCast];generalize hN:2^ws.length=N at h256 q
 refine⟨fun k ρ=>∃(f0:PV) (tb:List (List Int)) (v3:Option PV),(f0=.dat (.obj "Family" jL (jM ps)))/\Msa ws tb/\tb.length=k/\ρ=[some f0,some (.dat (.int (ws.length:Int))),some (.own (tb.map gX)),v3],⟨_,[],_,rfl,fun m hm=>absurd hm (not_lt_zero m),rfl,rfl⟩,?_,?_⟩
 .rintro k ρ _ hk rfl ⟨f0,tb,v3,rfl,hG,htl,rfl⟩;have htm:(tb.map gX).length=tb.length:=length_map _;walk_at "r"
  refine cmR (fun i=>.int (ms ws tb k i)) (fun i hi v K1 k1=>?_) (fun v=>?_)
  .have hi:i<ws.length:=by rw [toNat_natCast] at hi;exact hi
   have cond:Gv (.lst (tb.map gX)) tb (ai ps).length/\(ai ps).length<=8/\k<2^(ai ps).length/\i<(ai ps).length/\(k.testBit i=true->k - 2^i<tb.length):=by
    rw [hws];refine⟨Ce hG,h8,by omega,hi,fun hb=>?_⟩;have h1:2^i<=k:=(eI ⟨k,by omega⟩ ⟨i,by omega⟩ hb).1;have h2:0<2^i:=pow_pos (by decide);omega
   walk_at "r";refine⟨tb,cond,?_⟩;walk_at "r";rw [hws];exact k1 _
  .have hml:((List.range (ws.length:Int).toNat).map fun i=>D.int (ms ws tb k i)).length<=8:=by rw [length_map,length_range,toNat_natCast];exact h8
   walk_at "r";refine⟨_,tb++[(List.range ws.length).map fun i=>ms ws tb tb.length i],some (.dat (.int (k:Int))),rfl,Cd h8 (by omega) hG,by rw [length_append,htl];rfl,?_⟩;rw [map_append,toNat_natCast,htl,show (List.range ws.length).map (fun i=>D.int (ms ws tb k i))=((List.range ws.length).map fun i=>ms ws tb k i).map D.int by rw [map_map];rfl];rfl
 .rintro ρ ⟨f0,tb,v3,rfl,hG,htl,rfl⟩;have htm:(tb.map gX).length=tb.length:=length_map _;walk_at "r";exact q tb hG htl
theorem si:∀ds Q,b8 ds Q->dy fY lH ds Q:=fun ds Q h=>by
 unfold b8 at h
 split at h
 .exact qD _ _ _ _ h
 .exact h.elim
def cR:PTS:=(aG (aQ (wE "Family" ["pieces","kept","words","left","laps","total"] aW (aZ 0) ap) (ao 2)) (aG (kJ (pOr (pB (pOp fGt (pSl 2) (pFz (pC (.int 8))))) (pOr (Bg (pB (bD cm (af (pFz (aZ 1)) ap)))) (pB (pOp zU (pFz (pCB hZ (af (pSl 1) ap))) (pFz (pOp wL (pFz (pC (.int 1))) (pSl 2))))))) (bU (pC (.bl false))) cM) (bU (pCB D4 (af (pFz (cD [none,some 2] (dq (aZ 1)) (ao 0) iW (bD bd (af (pFz (aZ 0)) (af (pFz (aZ 1)) ap))))) ap)))))
theorem jl(c:Str)(ns:List Str)(fs:List D)(e:D)(Q:PV->Prop)(h:aU ([.obj c ns fs,e]) Q):dy cR fE ([.obj c ns fs,e]) Q:=by
 show cR _ [some (.dat (.obj c ns fs)),some (.dat (e)),none];obtain⟨rfl,rfl,ps,rfl,⟨⟨hs,hl,hr⟩,hn⟩,q⟩:=h;generalize hw:(ai ps).length=n at q hn;have hM:0<=(n:Int)/\(n:Int)<=1000000/\(1:Int).natAbs<2^64:=⟨by omega,by omega,by decide⟩
 walk_at "r";rw [hw]
 refine dz (fun c=>?_) (fun c=>?_)
 .rw [decide_eq_false (by omega),Bool.false_and] at q;walk_at "r";exact q
 .rw [decide_eq_true (by omega),Bool.true_and] at q;unfold gY at q;walk_at "r"
  refine lf (yE (fun c1=>?_) (fun c1=>?_))
  .have c1:oB e=true:=c1;have sq:=Ao c1;rw [c1,Bool.true_and] at q;walk_at "r";refine zW sq ?_;walk_at "r";rw [EI]
   refine p8 (fun c2=>?_) (fun c2=>?_)
   .rw [decide_eq_false (by omega),Bool.false_and] at q;walk_at "r";exact q
   .rw [decide_eq_true (by omega),Bool.true_and] at q;walk_at "r";generalize hds:aR e=ds at hr hl q sq;have fin:∀v:Option PV,True:=fun _=>trivial
    rcases sq with rfl|rfl <;> (
     walk_at "r"
     refine tH (fun τ=>∃v,τ=[v,some (.dat (.int (n:Int)))]) (fun k=>.bl (bK (itD ds k) n)) ?_ ?_ ?_
     .exact⟨_,rfl⟩
     .rintro k τ _ hk rfl ⟨v,rfl⟩ K1 k1;have h1:Srt (itD ds k):=(hr _ (jI hk)).1;have h2:(aR (itD ds k)).length<=1000000:=Nat.le_trans (hr _ (jI hk)).2 (by decide);walk_at "r";exact k1 _ ⟨_,rfl⟩
     .rintro τ ⟨v,rfl⟩;walk_at "r";refine⟨(List.range ds.length).map fun k=>bK (itD ds k) n,by rw [map_map];rfl,?_⟩;rw [lr (fun r=>bK r n) ds,all_map];exact q)
  .rw [show oB e=false from c1,Bool.false_and] at q;walk_at "r";exact q
theorem jZ:∀ds Q,aU ds Q->dy cR fE ds Q:=fun ds Q h=>by
 unfold aU at h
 split at h
 .exact jl _ _ _ _ _ h
 .exact h.elim
def fZ:PTS:=(bU (rD (bD aU (af (pFz (aZ 0)) (af (pFz (aZ 1)) ap))) (pOp lw (pFz (pCB dN (af (pFz (cD [none] (dq (aZ 1)) (ao 0) iW (pCB dN (af (pSl 0) ap)))) ap))) (pFz (bD b8 (af (pFz (aZ 0)) ap))))))
theorem qE(c:Str)(ns:List Str)(fs:List D)(e:D)(Q:PV->Prop)(h:bb ([.obj c ns fs,e]) Q):dy fZ lI ([.obj c ns fs,e]) Q:=by
 show fZ _ [some (.dat (.obj c ns fs)),some (.dat (e))];obtain⟨rfl,rfl,ps,rfl,⟨oe,hn⟩,q1,q2⟩:=h;walk_at "r"
 refine yE (fun c=>?_) (fun c=>?_)
 .have c:(decide ((ai ps).length<=8) && gY e (ai ps).length)=true:=c;rw [and_eq_true,decide_eq_true_eq] at c;obtain⟨tb,ht⟩:=EL c.2;have q:=q2 tb c.1 ht;have h8:=c.1;have h256:=cG h8;have hta:=ht.all;clear q1 q2;have hln:=ht.len;have hrow:=ht.row;have hsq:=ht.sq;have hwid:=ht.wid
  have etb:(List.range tb.length).map (fun k=>gX (tb.getD k []))=tb.map gX:=by
   refine ext_getElem (by rw [length_map,length_map,length_range]) fun k h1 h2=>?_;rw [length_map] at h2;rw [getElem_map,getElem_map,getElem_range,getD_eq_getElem?_getD,getElem?_eq_getElem h2];rfl
  have done:∀tb':List (List Int),Msa (ai ps) tb'->tb'.length=2^(ai ps).length->Q (.dat (.bl (deq (.tup (tb.map gX)) (.tup (tb'.map gX))))):=fun tb' hM hl=>by
   rw [Cf];refine q _ ⟨fun z=>by rw [of_decide_eq_true z];exact hM,fun z=>decide_eq_true (tX h8 (by omega) (by omega) z hM)⟩
  have hb:tb.length<=256:=by omega
  generalize hds:aR e=ds at hln hrow hsq
  rcases hsq with rfl|rfl <;> (
   walk_at "r"
   refine tH (fun τ=>∃v,τ=[v]) (fun k=>gX (tb.getD k [])) ?_ ?_ ?_
   .exact⟨_,rfl⟩
   .rintro k τ d hk ed ⟨v,rfl⟩ K1 k1;have hk:k<tb.length:=by omega
    have hr:=hrow k hk;have hw:=hwid k hk;have hl8:((tb.getD k []).map D.int).length<=8:=by rw [length_map];omega
    subst ed
    rcases hr with hr|hr <;> (
     rw [hr];walk_at "r";exact k1 _ ⟨_,rfl⟩)
   .rintro τ ⟨v,rfl⟩;rw [hln,etb];have hml:(tb.map gX).length<=256:=by rw [length_map];exact hb
    walk_at "r";intro tb' hM hl;have e1:=EK tb tb';walk_at "r";exact done tb' hM hl)
 .walk_at "r";exact q1 c
theorem sj:∀ds Q,bb ds Q->dy fZ lI ds Q:=fun ds Q h=>by
 unfold bb at h
 split at h
 .exact qE _ _ _ _ _ h
 .exact h.elim
def dG:PTS:=(aG (aQ (pOp xX (pSl 2) (pFz (pOp wL (pFz (pC (.int 1))) (pSl 3)))) (ao 4)) (bU (pCB yM (af (pFz (cD [none,some 3,some 1,some 2,some 4,some 0] (dq (bD bi (af (pFz (aZ 4)) ap))) (ao 0) (pB (pOp lw (pFz (pOp cF (pFz (pOp fIx (pFz (pOp fIx (pSl 2) (pSl 4))) (pSl 0))) (pFz (pOp fIx (pFz (pOp fIx (pFz (uH "Family" ["pieces","kept","words","left","laps","total"] 4 (pSl 5))) (pSl 0))) (pSl 1))))) (pFz (pOp fIx (pFz (pOp fIx (pSl 2) (pSl 3))) (pSl 1))))) (aZ 0))) ap))))
theorem lU(c:Str)(ns:List Str)(fs:List D)(e:D)(m i:Int)(Q:PV->Prop)(h:bn ([.obj c ns fs,e,.int m,.int i]) Q):dy dG iw ([.obj c ns fs,e,.int m,.int i]) Q:=by
 show dG _ [some (.dat (.obj c ns fs)),some (.dat (e)),some (.dat (.int m)),some (.dat (.int i)),none];obtain⟨rfl,rfl,ps,rfl,k,rfl,j,rfl,tb,⟨ht,hM,hn,hk,hj,hb,hne⟩,q⟩:=h;have h256:=cG hn;have hta:=ht.all;have hkk:k<256:=by omega
 have hle:2^j<=k:=(eI ⟨k,hkk⟩ ⟨j,by omega⟩ hb).1
 have er:(k:Int) - 1*2^(j:Int).toNat=((k - 2^j:Nat):Int):=by
  rw [toNat_natCast,Int.one_mul,natCast_sub hle,natCast_pow];rfl
 have hml:=oM (k - 2^j);have hrl:k - 2^j<tb.length:=lt_of_le_of_lt (sub_le _ _) hk;have hrk:k - 2^j<256:=lt_of_le_of_lt (sub_le _ _) hkk;have hcn:=xG hM hk hj hb hne;have hcp:=Cg (ai ps) tb k j;have ec:xF (ai ps) tb k j=(mem (k - 2^j)).filter fun x=>decide (cell tb (k - 2^j) x+lp (ai ps) x j=cell tb k j):=rfl;unfold nxt at q;have hwk:=ht.wid _ hk;walk_at "r";rw [er];walk_at "r"
 refine cf1 (e:=nD) (xs:=mem (k - 2^j)) (fun x=>decide (cell tb (k - 2^j) x+lp (ai ps) x j=cell tb k j)) nD (fun x hx v K1 K2 k1 k2=>?_) (fun v=>?_)
 .have hxb:=(mem_iff hrk).mp hx;have hxn:x<(ai ps).length:=gU (Nat.lt_of_lt_of_eq hrl hta) hxb;have hw:=ht.wid _ hrl;walk_at "r";refine rQ ht.sq ⟨_,zm (by rw [ht.len];exact hrl),?_⟩;walk_at "r";refine rQ (ht.row _ hrl) ⟨_,fV (by omega),?_⟩;walk_at "r";refine⟨_,xD hxn,?_⟩;walk_at "r";refine⟨_,tV hj,?_⟩;walk_at "r";refine rQ ht.sq ⟨_,zm (by rw [ht.len];exact hk),?_⟩;walk_at "r";refine rQ (ht.row _ hk) ⟨_,fV (by omega),?_⟩
  walk_at "r"
  refine dz (fun c=>?_) (fun c=>?_)
  .exact k1 _ (decide_eq_true c)
  .exact k2 _ (decide_eq_false c)
 rw [<- ec];generalize xF (ai ps) tb k j=L at hcn hcp q;walk_at "r";refine⟨L.map fun (x:Nat)=>(x:Int),by rw [map_map];rfl,by rw [length_map];exact length_pos_iff.mpr hcn,fun mm hm hle=>?_⟩;obtain⟨z,hz,rfl⟩:=mem_map.mp hm;rw [tK hcp hz fun a ha=>by have:=hle _ (mem_map_of_mem ha);omega] at q;exact q
theorem mI:∀ds Q,bn ds Q->dy dG iw ds Q:=fun ds Q h=>by
 unfold bn at h
 split at h
 .exact lU _ _ _ _ _ _ _ h
 .exact h.elim
def f8(E:D->Prop):PTS:=(aG (kJ (Bg (pB (bD bb (af (pFz (aZ 0)) (af (pFz (aZ 1)) ap))))) (xc E (Ej "NoTable")) cM) (aG (aQ (pOp xX (pFz (pCB hZ (af (pSl 1) ap))) (pFz (pC (.int 1)))) (ao 2)) (aG (kJ (pB (pOp lw (pSl 2) (pFz (pC (.int 0))))) (bU (zN ap)) cM) (aG (aQ (pCB qf (af (pFz (pOp fIx (pSl 1) (pSl 2))) ap)) (ao 3)) (aG (aQ (gB (af (pFz (BP (pSl 3) (pCB wJ (af (pSl 3) ap)))) ap)) (ao 4)) (aG (jE (pB (pOp zU (pSl 2) (pFz (pOp wL (pFz (pC (.int 1))) (pFz (pOp fIx (pSl 4) (pFz (pUn rJ (pFz (pC (.int 1))))))))))) (aG (aQ (pOp fIx (pSl 4) (pFz (pUn rJ (pFz (pC (.int 1)))))) (ao 5)) (aG (fm (xW 4 (bD bn (af (pFz (aZ 0)) (af (pFz (aZ 1)) (af (pFz (aZ 2)) (af (pFz (aZ 5)) ap))))))) (xv 2 (pOp wL (pFz (pC (.int 1))) (pSl 5)))))) (bU (pCB dN (af (pFz (EC (pSl 4) (pUn rJ (pFz (pC (.int 1)))))) ap)))))))))
theorem qF(c:Str)(ns:List Str)(fs:List D)(e:D)(Q:PV->Prop)(E:D->Prop)(h:bx ([.obj c ns fs,e]) Q E):Gm f8 lJ ([.obj c ns fs,e]) Q E:=by
 show f8 E _ [some (.dat (.obj c ns fs)),some (.dat (e)),none,none,none,none];obtain⟨rfl,rfl,ps,rfl,⟨oe,hn⟩,hw60,q1,q2⟩:=h;walk_at "r"
 intro tb h8 ht b hb
 .cases b with
  | false =>
   walk_at "r";exact (q2 tb h8 ht).2 fun z=>by have:=hb.mpr z;cases this
  | true =>
   have hM:=hb.mp rfl;have q:=(q2 tb h8 ht).1 hM;clear q1 q2;have h256:=cG h8;have hta:=ht.all;have hp0:0<2^(ai ps).length:=pow_pos (by decide);have hln:=ht.len;unfold Aq at q;walk_at "r";refine zW ht.sq ?_;walk_at "r";rw [hln,hta]
   refine dz (fun c=>?_) (fun c=>?_)
   .rw [if_pos (by omega)] at q;walk_at "r";exact q
   .rw [if_neg (by omega)] at q;have eM:((2^(ai ps).length:Nat):Int) - 1=((tb.length - 1:Nat):Int):=by omega
    rw [eM];have hMl:tb.length - 1<tb.length:=by omega
    have hrow:=ht.row _ hMl;have hwid:=ht.wid _ hMl
    have hn0:0<(ai ps).length:=by
     rcases eq_zero_or_pos (ai ps).length with z|z
     .rw [z] at hta;exact absurd hta (by omega)
     .exact z
    have hle:=Ar h8 hw60 hM hta (tb.length - 1) hMl
    have hbig:∀n∈tb.getD (tb.length - 1) [],n.natAbs<2^64:=fun n hn=>by
     obtain⟨i,hi,e⟩:=mem_iff_getElem.mp hn;have:=hle i (by omega)
     have ec:cell tb (tb.length - 1) i=n:=by
      unfold cell;rw [getD_eq_getElem?_getD,getElem?_eq_getElem hi];exact e
     rw [ec] at this;omega
    have hmx:=gW (l:=tb.getD (tb.length - 1) []) (by omega);have htop:xI tb<(ai ps).length:=by unfold xI;rw [<- hwid];exact idxOf_lt_length_of_mem hmx.1
    have ht0:xI tb=(tb.getD (tb.length - 1) []).idxOf (u5 (tb.getD (tb.length - 1) [])):=rfl;have hbit:(tb.length - 1).testBit (xI tb)=true:=by rw [hta,testBit_two_pow_sub_one];exact decide_eq_true htop
    generalize xI tb=I0 at htop ht0 hbit q;have hRm:((tb.getD (tb.length - 1) []).map D.int).length<=8:=by rw [length_map];omega
    walk_at "r";refine rQ ht.sq ⟨_,zm (by rw [hln];exact hMl),?_⟩
    rcases hrow with hrow|hrow <;> (
     rw [hrow];walk_at "r";intro mx hx1 hx2;have emx:=lG hx1 hx2;subst emx;have cnd:(tb.getD (tb.length - 1) []).length<=1000/\(∀n∈tb.getD (tb.length - 1) [],n.natAbs<2^64)/\u5 (tb.getD (tb.length - 1) [])∈tb.getD (tb.length - 1) []:=⟨by omega,hbig,hx1⟩
     walk_at "r";rw [<- ht0];refine⟨fun mm ρ=>∃(B:List Nat) (m i:Nat) (v5:Option PV),mm=m/\m<tb.length/\i<(ai ps).length/\m.testBit i=true/\B.length+m<=256/\B++u6 (ai ps) tb m i=u6 (ai ps) tb (tb.length - 1) I0/\ρ=[some (.dat (.obj "Family" jL (jM ps))),some (.dat e),some (.dat (.int (m:Int))),some (.own ((tb.getD (tb.length - 1) []).map .int)),some (.own ((B++[i]).map nD)),v5],⟨_,[],tb.length - 1,I0,_,rfl,hMl,htop,hbit,by show 0+_<=_;omega,rfl,rfl⟩,?_⟩
     rintro mm ρ ⟨B,m,i,v5,rfl,hm,hi,hb',hBl,hpath,rfl⟩;have hlst:=Ch B i;have hBm:((B++[i]).map nD).length=B.length+1:=by rw [length_map,length_append];rfl
     have hS:0<=(i:Int)/\(i:Int)<=1000000/\(1:Int).natAbs<2^64:=⟨by omega,by omega,by decide⟩
     have eS:=EI i;walk_at "r";refine⟨_,hlst,?_⟩;walk_at "r";rw [eS]
     refine p8 (fun c2=>?_) (fun c2=>?_)
     .have hne:mm≠2^i:=fun z=>c2 (by rw [z]);obtain⟨o1,o2,o3,o4,o5⟩:=Ap h8 hM hta hm hi hb' hne;have cw:Tab e tb (ai ps).length/\Msa (ai ps) tb/\(ai ps).length<=8/\mm<tb.length/\i<(ai ps).length/\mm.testBit i=true/\mem (mm - 2^i)≠[]:=⟨ht,hM,h8,hm,hi,hb',o2⟩
      have hpw:0<2^i:=pow_pos (by decide);have epath:=xH (ai ps) tb hne o1;walk_at "r";refine⟨_,hlst,?_⟩;walk_at "r";refine⟨tb,cw,?_⟩;walk_at "r";rw [eS,show (mm:Int) - ((2^i:Nat):Int)=((mm - 2^i:Nat):Int) by omega];refine⟨mm - 2^i,by omega,B++[i],mm - 2^i,nxt (ai ps) tb mm i,_,rfl,lt_of_le_of_lt (sub_le _ _) hm,o3,o4,by rw [length_append];show B.length+1+_<=_;omega,?_,by rw [map_append (l₁:=B++[i])];rfl⟩
      rw [append_assoc,<- hpath,epath];rfl
     .have he:mm=2^i:=by omega
      rw [tY _ _ he] at hpath;walk_at "r";rw [hpath,<- map_reverse];exact q)
theorem sk:∀ds Q E,bx ds Q E->Gm f8 lJ ds Q E:=fun ds Q E h=>by
 unfold bx at h
 split at h
 .exact qF _ _ _ _ _ _ h
 .exact h.elim
def ib:PTS:=(aG (kJ (pOr (Bg (pB (Fa .str (pSl 0)))) (Bg (pB (wu fLe fLe (pSl 1) (pFz (pCB hZ (af (pSl 0) ap))) (pSl 2))))) (bU (pC (.bl false))) cM) (bU (pCB D4 (af (pFz (cD [none] (dq (aZ 0)) (ao 0) iW (wu fLe fLe (pFz (pC (.str [97]))) (pSl 0) (pFz (pC (.str [122])))))) ap))))
theorem sm(d:D)(a b:Int)(Q:PV->Prop)(h:cP ([d,.int a,.int b]) Q):dy ib nI ([d,.int a,.int b]) Q:=by
 show ib _ [some (.dat (d)),some (.dat (.int a)),some (.dat (.int b))];obtain⟨hd,hl,q⟩:=h
 cases d with
 | str l =>
  have hl:l.length<=1000000:=hl;walk_at "r"
  refine dz (fun c1=>?_) (fun c1=>?_)
  .walk_at "r"
   refine p8 (fun c2=>?_) (fun c2=>?_)
   .walk_at "r";rw [show yR (.str l) a b=false by rw [oz,decide_eq_false c2,Bool.and_false];rfl] at q;exact q
   .walk_at "r"
    refine tH (fun τ=>∃v,τ=[v]) (fun k=>.bl (ltB (l.getD k 0))) ?_ ?_ ?_
    .exact⟨_,rfl⟩
    .rintro k τ _ hk rfl ⟨v,rfl⟩ K1 k1;walk_at "r"
     refine p8 (fun c=>?_) (fun c=>?_)
     .have hc:97<=l.getD k 0:=of_decide_eq_true (by rw [<- rK];rw [decide_eq_false c];rfl);walk_at "r";show K1 (.bl (!decide (([122]:List Nat)<[l.getD k 0]))) _;rw [rK];rw [show ltB (l.getD k 0)=decide (l.getD k 0<=122) by unfold ltB;rw [decide_eq_true hc];rfl] at k1;exact k1 _ ⟨_,rfl⟩
     .have hc:¬ 97<=l.getD k 0:=of_decide_eq_false (by rw [<- rK,decide_eq_true c];rfl);walk_at "r";rw [show ltB (l.getD k 0)=false by unfold ltB;rw [decide_eq_false hc];rfl] at k1;exact k1 _ ⟨_,rfl⟩
    .rintro τ ⟨v,rfl⟩;walk_at "r";refine⟨(List.range l.length).map fun k=>ltB (l.getD k 0),by rw [map_map];rfl,?_⟩
     have e:yR (.str l) a b=(((List.range l.length).map fun k=>ltB (l.getD k 0)).all id):=by
      rw [oz,decide_eq_true c1,decide_eq_true c2,Bool.and_self,Bool.true_and,fM];rw [all_map];rfl
     rw [e] at q;exact q
  .walk_at "r";rw [show yR (.str l) a b=false by rw [oz,decide_eq_false c1,Bool.false_and];rfl] at q;exact q
 | non=>walk_at "r";exact q
 | bl b=>walk_at "r";exact q
 | int i=>walk_at "r";exact q
 | ty n=>cases hd
 | lst ds=>walk_at "r";exact q
 | tup ds=>walk_at "r";exact q
 | scr ns=>cases hd
 | dic ks ds=>walk_at "r";exact q
 | obj c ns ds=>cases hd
 | exc c ns ds=>cases hd
theorem uR:∀ds Q,cP ds Q->dy ib nI ds Q:=fun ds Q h=>by
 unfold cP at h
 split at h
 .exact sm _ _ _ _ h
 .exact h.elim
def dH:PTS:=(bU (pSM wC (aZ 0) (af (pSl 1) ap)))
theorem lV(a b:List Nat)(Q:PV->Prop)(h:aV ([.str a,.str b]) Q):dy dH iy ([.str a,.str b]) Q:=by
 show dH _ [some (.dat (.str a)),some (.dat (.str b))];walk_at "r";exact h
theorem mJ:∀ds Q,aV ds Q->dy dH iy ds Q:=fun ds Q h=>by
 unfold aV at h
 split at h
 .exact lV _ _ _ h
 .exact h.elim
def ub:PTS:=(aG (jb (FZ (af (pFz (pOp xX (pFz (pCB yL (af (pFz (pCB hZ (af (pSl 0) ap))) (af (pFz (pCB hZ (af (pSl 1) ap))) ap)))) (pFz (pC (.int 1))))) (af (pFz (pC (.int 0))) (af (pFz (pUn rJ (pFz (pC (.int 1))))) ap)))) (ao 2) (kJ (pB (pSM Bv (aZ 0) (af (pFz (eB (pSl 1) eO (dX (aZ 2)))) ap))) (bU (aZ 2)) cM)) (bU (pC (.int 0))))
theorem Cw(a b:List Nat)(Q:PV->Prop)(h:gu ([.str a,.str b]) Q):dy ub As ([.str a,.str b]) Q:=by
 show ub _ [some (.dat (.str a)),some (.dat (.str b)),none];obtain⟨⟨a0,a1⟩,⟨b0,b1⟩,q⟩:=h;have hm:(if (b.length:Int)<(a.length:Int) then (b.length:Int) else (a.length:Int))=((min a.length b.length:Nat):Int):=by split <;> omega
 walk_at "r"
 refine⟨fun i ρ=>(∃v2:Option PV,ρ=[some (.dat (.str a)),some (.dat (.str b)),v2])/\∀j,min a.length b.length - i<=j->j<min a.length b.length->¬ b.take j <:+ a,⟨⟨_,rfl⟩,fun j h1 h2=>by omega⟩,?_,?_⟩
 .rintro i ρ d hi ed ⟨⟨v2,rfl⟩,ih⟩;have hi:i<(((if (b.length:Int)<(a.length:Int) then (b.length:Int) else (a.length:Int)) - 1) - 0).toNat:=hi;have ed:d=.int (((if (b.length:Int)<(a.length:Int) then (b.length:Int) else (a.length:Int)) - 1) - (i:Int)):=ed;rw [hm] at hi ed;obtain⟨k,hk,hk2⟩:∃k:Nat,(((min a.length b.length:Nat):Int) - 1) - (i:Int)=(k:Int)/\k=min a.length b.length - 1 - i:=⟨min a.length b.length - 1 - i,by omega,rfl⟩
  rw [hk] at ed;subst ed;walk_at "r";rw [jx]
  refine dz (fun c=>?_) (fun c=>?_)
  .walk_at "r"
   rw [show ml a b=k from oF ⟨by omega,c,fun j h1 h2=>by
    rcases lt_or_ge k j with h|h
    .exact absurd h2 (ih j (by omega) h1)
    .exact h⟩] at q
   exact q
  .refine⟨⟨_,rfl⟩,fun j h1 h2=>?_⟩
   by_cases hj:j=k
   .rw [hj];exact c
   .exact ih j (by omega) h2
 .rintro ρ ⟨⟨v2,rfl⟩,ih⟩;rw [hm] at ih;walk_at "r"
  rw [show ml a b=0 from oF ⟨by omega,by rw [take_zero];exact nil_suffix,fun j h1 h2=>by
   rcases eq_zero_or_pos j with h|h
   .omega
   .exact absurd h2 (ih j (by omega) h1)⟩] at q
  exact q
theorem EU:∀ds Q,gu ds Q->dy ub As ds Q:=fun ds Q h=>by
 unfold gu at h
 split at h
 .exact Cw _ _ _ h
 .exact h.elim
def f9:PTS:=(bU (pCB dN (af (pFz (cD [none,some 0] (dq (aZ 0)) (ao 0) iW (pCB dN (af (pFz (cD [none,some 0] (dq (aZ 1)) (ao 0) iW (bD gu (af (pFz (aZ 1)) (af (pFz (aZ 0)) ap))))) ap)))) ap)))
theorem qG(ds:List D)(Q:PV->Prop)(h:b9 ([.tup ds]) Q):dy f9 lK ([.tup ds]) Q:=by
 show f9 _ [some (.dat (.tup ds))];obtain⟨ws,rfl,⟨hn,hw⟩,q⟩:=h;have hlm:(ws.map D.str).length=ws.length:=length_map _
 have rr:∀f:List Nat->D,(List.range (ws.map D.str).length).map (fun k=>f (pw ws k))=ws.map f:=fun f=>by
  rw [hlm];apply ext_getElem?;intro k;rw [getElem?_map,getElem?_map]
  by_cases hk:k<ws.length
  .rw [getElem?_range hk,io hk];rfl
  .rw [getElem?_eq_none (by rw [length_range];omega),getElem?_eq_none (by omega)];rfl
 walk_at "r"
 refine tH (fun τ=>∃v,τ=[v,some (.dat (.tup (ws.map .str)))]) (fun k=>.tup (ws.map fun v=>.int (ml (pw ws k) v:Int))) ?_ ?_ ?_
 .exact⟨_,rfl⟩
 .rintro k τ d hk ed ⟨v,rfl⟩ K1 k1;rw [gK hk] at ed;subst ed;have w1:=hw _ (gJ (show k<ws.length by omega));walk_at "r"
  refine tH (fun τ=>∃v,τ=[v,some (.dat (.str (pw ws k)))]) (fun j=>.int (ml (pw ws k) (pw ws j):Int)) ?_ ?_ ?_
  .exact⟨_,rfl⟩
  .rintro j τ d hj ed ⟨v,rfl⟩ K2 k2;rw [gK hj] at ed;subst ed;have w2:=hw _ (gJ (show j<ws.length by omega));walk_at "r";exact k2 _ ⟨_,rfl⟩
  .rintro τ ⟨v,rfl⟩;rw [rr (fun w=>D.int (ml (pw ws k) w:Int))];walk_at "r";exact k1 _ ⟨_,rfl⟩
 .rintro τ ⟨v,rfl⟩;rw [rr (fun w=>D.tup (ws.map fun v=>.int (ml w v:Int)))];walk_at "r";exact q
theorem ss:∀ds Q,b9 ds Q->dy f9 lK ds Q:=fun ds Q h=>by
 unfold b9 at h
 split at h
 .exact qG _ _ h
 .exact h.elim
def dw:PTS:=(aG (kJ (pB (pOp fGt (pFz (pCB hZ (af (pSl 0) ap))) (pFz (pC (.int 40))))) oh cM) (jb (qe (af (pFz (aZ 0)) ap)) (ql 2 (gj (ao 1) (gj (ao 2) rF))) (kJ (Bg (pB (zT cP [] (af (pFz (aZ 2)) (af (pFz (pC (.int 1))) (af (pFz (pC (.int 60))) ap)))))) oh cM)))
theorem kB(d:D)(Q:PV->Prop)(h:bf ([d]) Q):dy dw gZ ([d]) Q:=by
 show dw _ [some (.dat (d)),none,none];obtain⟨ws,hd,⟨hn,hp⟩,q⟩:=h;have hlm:(ws.map D.str).length=ws.length:=length_map _
 rcases hd with rfl|rfl
 .walk_at "r"
  refine⟨fun k ρ=>∃v1 v2:Option PV,ρ=[some (.dat (.lst (ws.map .str))),v1,v2],⟨_,_,rfl⟩,?_,?_⟩
  .rintro k ρ d hk ed ⟨v1,v2,rfl⟩;have ed:d=.tup [.int k,itD (ws.map D.str) k]:=ed;rw [gK hk] at ed;subst ed;have hw:=hp _ (gJ (show k<ws.length by omega));have ht:yR (.str (pw ws k)) 1 60=true:=wG.mpr hw;have h1:(pw ws k).length<=1000000:=by have:=hw.2.1;omega
   walk_at "r";refine Bf ht ?_;exact⟨_,_,rfl⟩
  .rintro ρ ⟨v1,v2,rfl⟩;exact q
 .walk_at "r"
  refine⟨fun k ρ=>∃v1 v2:Option PV,ρ=[some (.dat (.tup (ws.map .str))),v1,v2],⟨_,_,rfl⟩,?_,?_⟩
  .rintro k ρ d hk ed ⟨v1,v2,rfl⟩;have ed:d=.tup [.int k,itD (ws.map D.str) k]:=ed;rw [gK hk] at ed;subst ed;have hw:=hp _ (gJ (show k<ws.length by omega));have ht:yR (.str (pw ws k)) 1 60=true:=wG.mpr hw;have h1:(pw ws k).length<=1000000:=by have:=hw.2.1;omega
   walk_at "r";refine Bf ht ?_;exact⟨_,_,rfl⟩
  .rintro ρ ⟨v1,v2,rfl⟩;exact q
theorem lW:∀ds Q,bf ds Q->dy dw gZ ds Q:=fun ds Q h=>by
 unfold bf at h
 split at h
 .exact kB _ _ h
 .exact h.elim
def cX:PTS:=(bU (pOp fGe (pFz (bD aV (af (pFz (aZ 1)) (af (pFz (aZ 0)) ap)))) (pFz (pC (.int 0)))))
theorem j0(a b:List Nat)(Q:PV->Prop)(h:aI ([.str a,.str b]) Q):dy cX gv ([.str a,.str b]) Q:=by
 show cX _ [some (.dat (.str a)),some (.dat (.str b))];walk_at "r";exact h
theorem kC:∀ds Q,aI ds Q->dy cX gv ds Q:=fun ds Q h=>by
 unfold aI at h
 split at h
 .exact j0 _ _ _ h
 .exact h.elim
def ic:PTS:=(aG (aQ (pOp fIx (pSl 0) (pSl 1)) (ao 2)) (aG (aQ (cD [none,some 2] (dq (aZ 0)) (ao 0) (pB (pOp fGt (pFz (pCB hZ (af (pSl 0) ap))) (pFz (pCB hZ (af (pSl 1) ap))))) (aZ 0)) (ao 3)) (bU (rD (pOp (Ab true) (pSl 2) (pFz (eB (pSl 0) eO (dX (aZ 1))))) (Bh (pCB Gb (af (pFz (cD [none,some 2] (dq (aZ 3)) (ao 0) iW (bD aI (af (pFz (aZ 1)) (af (pFz (aZ 0)) ap))))) ap)))))))
theorem su(ds:List D)(i:Int)(Q:PV->Prop)(h:cq ([.tup ds,.int i]) Q):dy ic nJ ([.tup ds,.int i]) Q:=by
 show ic _ [some (.dat (.tup ds)),some (.dat (.int i)),none,none];obtain⟨ws,rfl,⟨hn,hw⟩,hi,q⟩:=h;obtain⟨k,rfl⟩:∃k:Nat,i=(k:Int):=⟨i.toNat,by omega⟩
 have hk:k<ws.length:=by omega
 have hlm:(ws.map D.str).length=ws.length:=length_map _;have w1:=hw _ (gJ hk);walk_at "r";refine⟨_,iL hk rfl,?_⟩;walk_at "r"
 refine cfm (fun τ=>∃v,τ=[v,some (.dat (.str (pw ws k)))]) (fun j=>if (pw ws k).length<(pw ws j).length then some (.str (pw ws j)) else none) ?_ ?_ ?_
 .exact⟨_,rfl⟩
 .rintro j τ d hj ed ⟨v,rfl⟩ K1 K2 k1 k2;rw [gK hj] at ed;subst ed;have w2:=hw _ (gJ (show j<ws.length by omega));walk_at "r"
  refine dz (fun c=>?_) (fun c=>?_)
  .walk_at "r";exact k1 _ _ (by rw [if_pos (by omega)]) ⟨_,rfl⟩
  .exact k2 _ (by rw [if_neg (by omega)]) ⟨_,rfl⟩
 .rintro τ ⟨v,rfl⟩
  have e1:(List.range (ws.map D.str).length).filterMap (fun j=>if (pw ws k).length<(pw ws j).length then some (D.str (pw ws j)) else none)=(ws.filter fun o=>decide ((pw ws k).length<o.length)).map D.str:=by
   rw [hlm,yZ (fun w=>if (pw ws k).length<w.length then some (D.str w) else none) ws,<- cV];congr 1;funext w
   by_cases h:(pw ws k).length<w.length
   .rw [if_pos h,if_pos (decide_eq_true h)]
   .rw [if_neg h,if_neg (by rw [decide_eq_false h];decide)]
  rw [e1];have hll:(ws.filter fun o=>decide ((pw ws k).length<o.length)).length<=ws.length:=length_filter_le ..;generalize hL:(ws.filter fun o=>decide ((pw ws k).length<o.length))=ls at hll ⊢;have hlm2:(ls.map D.str).length=ls.length:=length_map _;have c1:dD (ws.map D.str) none (some (k:Int))=(ws.take k).map D.str:=by rw [jx,map_take]
  have hfl:(dD (ws.map D.str) none (some (k:Int))).all D.fl=true:=by rw [c1];exact wU _
  have hin:inD (.str (pw ws k)) (dD (ws.map D.str) none (some (k:Int)))=decide (pw ws k∈ws.take k):=by rw [c1];exact oG _ _
  have hkb:du ws k=(!inD (.str (pw ws k)) (dD (ws.map D.str) none (some (k:Int))) && !ls.any fun o=>gA (pw ws k) o):=by
   unfold du;rw [hin,hL]
  rw [toNat_natCast,hkb] at q;walk_at "r"
  refine lf (yE (fun c=>?_) (fun c=>?_))
  .walk_at "r";have c:inD (.str (pw ws k)) (dD (ws.map D.str) none (some (k:Int)))=true:=c;rw [c] at q;exact q
  .have c:inD (.str (pw ws k)) (dD (ws.map D.str) none (some (k:Int)))=false:=c;rw [c,Bool.not_false,Bool.true_and] at q;walk_at "r"
   refine tH (fun τ=>∃v,τ=[v,some (.dat (.str (pw ws k)))]) (fun j=>.bl (gA (pw ws k) (pw ls j))) ?_ ?_ ?_
   .exact⟨_,rfl⟩
   .rintro j τ d hj ed ⟨v,rfl⟩ K1 k1;rw [gK hj] at ed;subst ed;walk_at "r";exact k1 _ ⟨_,rfl⟩
   .rintro τ ⟨v,rfl⟩;walk_at "r"
    refine⟨ls.map fun o=>gA (pw ws k) o,?_,?_⟩
    .rw [hlm2,map_map]
     conv=>rhs;rw [<- tM ls,map_map]
     rfl
    .rw [show ((ls.map fun o=>gA (pw ws k) o).any id)=ls.any (fun o=>gA (pw ws k) o) by rw [any_map];rfl];walk_at "r";exact q
theorem uS:∀ds Q,cq ds Q->dy ic nJ ds Q:=fun ds Q h=>by
 unfold cq at h
 split at h
 .exact su _ _ _ h
 .exact h.elim
def gb:PTS:=(aG (aQ (pCB yM (af (pFz (cD [none,some 0,some 2] (dq (aZ 1)) (ao 0) (pB (bD aI (af (pFz (pOp fIx (pSl 1) (pSl 2))) (af (pFz (pOp fIx (pSl 1) (pSl 0))) ap)))) (aZ 0))) ap)) (ao 3)) (bU (zN (af (pFz (aZ 2)) (af (pFz (aZ 3)) (af (pFz (bD aV (af (pFz (pOp fIx (pSl 0) (pSl 3))) (af (pFz (pOp fIx (pSl 0) (pSl 2))) ap)))) ap))))))
theorem qH(ds ks:List D)(i:Int)(Q:PV->Prop)(h:bV ([.tup ds,.tup ks,.int i]) Q):dy gb lL ([.tup ds,.tup ks,.int i]) Q:=by
 show gb _ [some (.dat (.tup ds)),some (.dat (.tup ks)),some (.dat (.int i)),none];obtain⟨ws,rfl,rfl,⟨hn,hw⟩,hi,q⟩:=h;obtain⟨k,rfl⟩:∃k:Nat,i=(k:Int):=⟨i.toNat,by omega⟩
 have hk:k<ws.length:=by omega
 rw [toNat_natCast] at q;have hkl:=jK ws;have hkm:((aP ws).map nD).length=(aP ws).length:=length_map _;walk_at "r"
 refine cfm (fun τ=>∃v,τ=[v,some (.dat (.tup (ws.map .str))),some (.dat (.int (k:Int)))]) (fun j=>if gA (pw ws k) (pw ws ((aP ws).getD j 0))=true then some (nD ((aP ws).getD j 0)) else none) ?_ ?_ ?_
 .exact⟨_,rfl⟩
 .rintro j τ d hj ed ⟨v,rfl⟩ K1 K2 k1 k2;have hj2:(aP ws).getD j 0<ws.length:=gN (mem_of_getElem? (by rw [getD_eq_getElem?_getD,getElem?_eq_getElem (show j<(aP ws).length by omega)];rfl));rw [wT hj] at ed;subst ed;generalize (aP ws).getD j 0=z at hj2 k1 k2 ⊢;walk_at "r";refine⟨_,iL hk rfl,?_⟩;walk_at "r";refine⟨_,iL hj2 rfl,?_⟩;walk_at "r"
  cases hc:gA (pw ws k) (pw ws z) with
  | true=>walk_at "r";exact k1 _ _ (by rw [if_pos hc];rfl) ⟨_,rfl⟩
  | false=>walk_at "r";exact k2 _ (by rw [if_neg (by rw [hc];decide)]) ⟨_,rfl⟩
 .rintro τ ⟨v,rfl⟩
  have e1:(List.range ((aP ws).map nD).length).filterMap (fun j=>if gA (pw ws k) (pw ws ((aP ws).getD j 0))=true then some (nD ((aP ws).getD j 0)) else none)=((lz ws k).map fun j=>((j:Nat):Int)).map D.int:=by
   rw [hkm,y0 (fun j=>if gA (pw ws k) (pw ws j)=true then some (nD j) else none) (aP ws),cV (fun j=>gA (pw ws k) (pw ws j)) nD,map_map];rfl
  rw [e1];obtain⟨h0,hh0⟩:=uK hw hk;walk_at "r";refine⟨by rw [length_map];exact length_pos_of_mem hh0,fun m hm hle=>?_⟩;obtain⟨z,hz,rfl⟩:=mem_map.mp hm;have hz2:z<ws.length:=gN (mem_filter.mp hz).1;have hho:tJ ws k=z:=wS hz fun a ha=>by have:=hle _ (mem_map_of_mem ha);omega
  walk_at "r";refine⟨_,iL hz2 rfl,?_⟩;walk_at "r";refine⟨_,iL hk rfl,?_⟩;walk_at "r";unfold eC at q;rw [hho] at q;exact q
theorem sv:∀ds Q,bV ds Q->dy gb lL ds Q:=fun ds Q h=>by
 unfold bV at h
 split at h
 .exact qH _ _ _ _ h
 .exact h.elim
def dI:PTS:=(aG (fm (bD bf (af (pFz (aZ 1)) ap))) (aG (lq "Family" [] "pieces" 0 (pCB dN (af (pSl 1) ap))) (aG (aQ (D6 false (af (pFz (pCB hZ (af (pFz (uH "Family" ["pieces"] 0 (pSl 0))) ap))) ap)) (ao 2)) (aG (lq "Family" ["pieces"] "kept" 0 (pCB dN (af (pFz (cD [none,some 0] (dq (aZ 2)) (ao 0) (pB (bD cq (af (pFz (uH "Family" ["pieces"] 0 (pSl 1))) (af (pFz (aZ 0)) ap)))) (aZ 0))) ap))) (aG (lq "Family" ["pieces","kept"] "words" 0 (pCB dN (af (pFz (cD [none,some 0] (dq (uH "Family" ["pieces","kept"] 1 (pSl 0))) (ao 0) iW (pOp fIx (pFz (uH "Family" ["pieces","kept"] 0 (pSl 1))) (pSl 0)))) ap))) (aG (lq "Family" ["pieces","kept","words"] "left" 0 (pCB dN (af (pFz (cD [none,some 0] (dq (aZ 2)) (ao 0) (pB (pOp (Ab true) (pSl 0) (pFz (uH "Family" ["pieces","kept","words"] 1 (pSl 1))))) (bD bV (af (pFz (uH "Family" ["pieces","kept","words"] 0 (pSl 1))) (af (pFz (uH "Family" ["pieces","kept","words"] 1 (pSl 1))) (af (pFz (aZ 0)) ap)))))) ap))) (aG (lq "Family" ["pieces","kept","words","left"] "laps" 0 (bD b9 (af (pFz (uH "Family" ["pieces","kept","words","left"] 2 (pSl 0))) ap))) (lq "Family" ["pieces","kept","words","left","laps"] "total" 0 (pCB Bs (af (pFz (cD [none] (dq (uH "Family" ["pieces","kept","words","left","laps"] 2 (pSl 0))) (ao 0) iW (pCB hZ (af (pSl 0) ap)))) ap))))))))))
theorem lX(d:D)(Q:PV->PV->Prop)(h:bo (.ins "Family" [] []) ([d]) Q):u4 dI iz (.ins "Family" [] []) ([d]) Q:=by
 show dI _ [some (.ins "Family" [] []),some (.dat (d)),none];obtain⟨ws,hd,⟨hn,hp⟩,q⟩:=h;have hlm:(ws.map D.str).length=ws.length:=length_map _;have hkl:=jK ws;have hkm:((aP ws).map nD).length=(aP ws).length:=length_map _;have hrl:(u0 0 (((ws.map D.str).length:Nat):Int).toNat).length=ws.length:=by rw [jN];omega
 have hk1:ws.length<=1000/\∀w∈ws,w.length<=10000:=⟨by omega,fun w hw=>by have:=(hp w hw).2.1;omega⟩
 have hk2:ws.length<=1000/\∀w∈ws,w.length<=60:=⟨by omega,fun w hw=>(hp w hw).2.1⟩
 walk_at "r";refine⟨ws,hd,⟨hn,hp⟩,?_⟩
 rcases hd with rfl|rfl
 .walk_at "r"
  refine cfm (fun τ=>∃v,τ=[v,some (.ins "Family" ["pieces"] [.tup (ws.map .str)])]) (fun j=>if du ws j=true then some (nD j) else none) ?_ ?_ ?_
  .exact⟨_,rfl⟩
  .rintro j τ d hj ed ⟨v,rfl⟩ K1 K2 k1 k2;have hj2:j<ws.length:=by rw [jN] at hj;omega
   rw [oH hj] at ed;subst ed;walk_at "r";rw [toNat_natCast]
   cases hc:du ws j with
   | true=>walk_at "r";exact k1 _ _ (by rw [if_pos hc];rfl) ⟨_,rfl⟩
   | false=>walk_at "r";exact k2 _ (by rw [if_neg (by rw [hc];decide)]) ⟨_,rfl⟩
  .rintro τ ⟨v,rfl⟩
   have e1:(List.range (u0 0 (((ws.map D.str).length:Nat):Int).toNat).length).filterMap (fun j=>if du ws j=true then some (nD j) else none)=(aP ws).map nD:=by
    rw [jN,hlm,toNat_natCast,cV (du ws) nD];rfl
   rw [e1];walk_at "r"
   refine tH (fun τ=>∃v,τ=[v,some (.ins "Family" ["pieces","kept"] [.tup (ws.map .str),.tup ((aP ws).map nD)])]) (fun k=>.str (pw ws ((aP ws).getD k 0))) ?_ ?_ ?_
   .exact⟨_,rfl⟩
   .rintro j τ d hj ed ⟨v,rfl⟩ K1 k1;have hj2:(aP ws).getD j 0<ws.length:=gN (mem_of_getElem? (by rw [getD_eq_getElem?_getD,getElem?_eq_getElem (show j<(aP ws).length by omega)];rfl));rw [wT hj] at ed;subst ed;walk_at "r";refine⟨_,iL hj2 rfl,?_⟩;walk_at "r";exact k1 _ ⟨_,rfl⟩
   .rintro τ ⟨v,rfl⟩
    have e2:(List.range ((aP ws).map nD).length).map (fun k=>D.str (pw ws ((aP ws).getD k 0)))=(ai ws).map D.str:=by
     rw [hkm,fM (fun j=>D.str (pw ws j)) (aP ws)];unfold ai;rw [map_map];rfl
    rw [e2];have hwl:=fA ws;have hwm:((ai ws).map D.str).length=(ai ws).length:=length_map _;have hwp:=h9 hp;have hwq:(ai ws).length<=1000/\∀w∈ai ws,0<w.length/\w.length<=10000:=⟨by omega,fun w hw=>⟨(hwp w hw).1,by have:=(hwp w hw).2.1;omega⟩⟩
    have hfl:((aP ws).map nD).all D.fl=true:=BJ _;walk_at "r"
    refine cfm (fun τ=>∃v,τ=[v,some (.ins "Family" ["pieces","kept","words"] [.tup (ws.map .str),.tup ((aP ws).map nD),.tup ((ai ws).map .str)])]) (fun j=>if (!decide (j∈aP ws))=true then some (eC ws j) else none) ?_ ?_ ?_
    .exact⟨_,rfl⟩
    .rintro j τ d hj ed ⟨v,rfl⟩ K1 K2 k1 k2;have hj2:j<ws.length:=by omega
     rw [oH hj] at ed;subst ed;have hin:=tL j (aP ws);walk_at "r"
     refine lf (yE (fun c=>?_) (fun c=>?_))
     .have c:inD (.int (j:Int)) ((aP ws).map nD)=true:=c;rw [hin] at c;exact k2 _ (by rw [c];rfl) ⟨_,rfl⟩
     .have c:inD (.int (j:Int)) ((aP ws).map nD)=false:=c;rw [hin] at c;walk_at "r";rw [toNat_natCast];exact k1 _ _ (by rw [c];rfl) ⟨_,rfl⟩
    .rintro τ ⟨v,rfl⟩
     have e3:(List.range (u0 0 (((ws.map D.str).length:Nat):Int).toNat).length).filterMap (fun j=>if (!decide (j∈aP ws))=true then some (eC ws j) else none)=(wR ws).map (eC ws):=by
      rw [hrl,cV (fun j=>!decide (j∈aP ws)) (eC ws)];rfl
     rw [e3];walk_at "r"
     refine tH (fun τ=>∃v,τ=[v]) (fun k=>.int ((pw (ai ws) k).length:Int)) ?_ ?_ ?_
     .exact⟨_,rfl⟩
     .rintro j τ d hj ed ⟨v,rfl⟩ K1 k1;rw [gK hj] at ed;subst ed;walk_at "r";exact k1 _ ⟨_,rfl⟩
     .rintro τ ⟨v,rfl⟩
      have e4:(List.range ((ai ws).map D.str).length).map (fun k=>D.int ((pw (ai ws) k).length:Int))=((ai ws).map fun w=>(w.length:Int)).map D.int:=by
       rw [hwm,map_map]
       conv=>rhs;rw [<- tM (ai ws),map_map]
       rfl
      rw [e4];walk_at "r";exact q
 .walk_at "r"
  refine cfm (fun τ=>∃v,τ=[v,some (.ins "Family" ["pieces"] [.tup (ws.map .str)])]) (fun j=>if du ws j=true then some (nD j) else none) ?_ ?_ ?_
  .exact⟨_,rfl⟩
  .rintro j τ d hj ed ⟨v,rfl⟩ K1 K2 k1 k2;have hj2:j<ws.length:=by rw [jN] at hj;omega
   rw [oH hj] at ed;subst ed;walk_at "r";rw [toNat_natCast]
   cases hc:du ws j with
   | true=>walk_at "r";exact k1 _ _ (by rw [if_pos hc];rfl) ⟨_,rfl⟩
   | false=>walk_at "r";exact k2 _ (by rw [if_neg (by rw [hc];decide)]) ⟨_,rfl⟩
  .rintro τ ⟨v,rfl⟩
   have e1:(List.range (u0 0 (((ws.map D.str).length:Nat):Int).toNat).length).filterMap (fun j=>if du ws j=true then some (nD j) else none)=(aP ws).map nD:=by
    rw [jN,hlm,toNat_natCast,cV (du ws) nD];rfl
   rw [e1];walk_at "r"
   refine tH (fun τ=>∃v,τ=[v,some (.ins "Family" ["pieces","kept"] [.tup (ws.map .str),.tup ((aP ws).map nD)])]) (fun k=>.str (pw ws ((aP ws).getD k 0))) ?_ ?_ ?_
   .exact⟨_,rfl⟩
   .rintro j τ d hj ed ⟨v,rfl⟩ K1 k1;have hj2:(aP ws).getD j 0<ws.length:=gN (mem_of_getElem? (by rw [getD_eq_getElem?_getD,getElem?_eq_getElem (show j<(aP ws).length by omega)];rfl));rw [wT hj] at ed;subst ed;walk_at "r";refine⟨_,iL hj2 rfl,?_⟩;walk_at "r";exact k1 _ ⟨_,rfl⟩
   .rintro τ ⟨v,rfl⟩
    have e2:(List.range ((aP ws).map nD).length).map (fun k=>D.str (pw ws ((aP ws).getD k 0)))=(ai ws).map D.str:=by
     rw [hkm,fM (fun j=>D.str (pw ws j)) (aP ws)];unfold ai;rw [map_map];rfl
    rw [e2];have hwl:=fA ws;have hwm:((ai ws).map D.str).length=(ai ws).length:=length_map _;have hwp:=h9 hp;have hwq:(ai ws).length<=1000/\∀w∈ai ws,0<w.length/\w.length<=10000:=⟨by omega,fun w hw=>⟨(hwp w hw).1,by have:=(hwp w hw).2.1;omega⟩⟩
    have hfl:((aP ws).map nD).all D.fl=true:=BJ _;walk_at "r"
    refine cfm (fun τ=>∃v,τ=[v,some (.ins "Family" ["pieces","kept","words"] [.tup (ws.map .str),.tup ((aP ws).map nD),.tup ((ai ws).map .str)])]) (fun j=>if (!decide (j∈aP ws))=true then some (eC ws j) else none) ?_ ?_ ?_
    .exact⟨_,rfl⟩
    .rintro j τ d hj ed ⟨v,rfl⟩ K1 K2 k1 k2;have hj2:j<ws.length:=by omega
     rw [oH hj] at ed;subst ed;have hin:=tL j (aP ws);walk_at "r"
     refine lf (yE (fun c=>?_) (fun c=>?_))
     .have c:inD (.int (j:Int)) ((aP ws).map nD)=true:=c;rw [hin] at c;exact k2 _ (by rw [c];rfl) ⟨_,rfl⟩
     .have c:inD (.int (j:Int)) ((aP ws).map nD)=false:=c;rw [hin] at c;walk_at "r";rw [toNat_natCast];exact k1 _ _ (by rw [c];rfl) ⟨_,rfl⟩
    .rintro τ ⟨v,rfl⟩
     have e3:(List.range (u0 0 (((ws.map D.str).length:Nat):Int).toNat).length).filterMap (fun j=>if (!decide (j∈aP ws))=true then some (eC ws j) else none)=(wR ws).map (eC ws):=by
      rw [hrl,cV (fun j=>!decide (j∈aP ws)) (eC ws)];rfl
     rw [e3];walk_at "r"
     refine tH (fun τ=>∃v,τ=[v]) (fun k=>.int ((pw (ai ws) k).length:Int)) ?_ ?_ ?_
     .exact⟨_,rfl⟩
     .rintro j τ d hj ed ⟨v,rfl⟩ K1 k1;rw [gK hj] at ed;subst ed;walk_at "r";exact k1 _ ⟨_,rfl⟩
     .rintro τ ⟨v,rfl⟩
      have e4:(List.range ((ai ws).map D.str).length).map (fun k=>D.int ((pw (ai ws) k).length:Int))=((ai ws).map fun w=>(w.length:Int)).map D.int:=by
       rw [hwm,map_map]
       conv=>rhs;rw [<- tM (ai ws),map_map]
       rfl
      rw [e4];walk_at "r";exact q
theorem mK:∀p ds Q,p.isOwn=true->bo p ds Q->u4 dI iz p ds Q:=fun p ds Q _ h=>by
 unfold bo at h
 split at h
 .exact lX _ _ h
 .exact h.elim
def dJ:PTS:=(bU (pCB hZ (af (pFz (uH "Family" ["pieces","kept","words","left","laps","total"] 2 (pSl 0))) ap)))
theorem lY(c:Str)(ns:List Str)(fs:List D)(Q:PV->Prop)(h:aW ([.obj c ns fs]) Q):dy dJ iA ([.obj c ns fs]) Q:=by
 show dJ _ [some (.dat (.obj c ns fs))];obtain⟨rfl,rfl,ws,rfl,q⟩:=h;walk_at "r";rw [length_map];exact q
theorem mL:∀ds Q,aW ds Q->dy dJ iA ds Q:=fun ds Q h=>by
 unfold aW at h
 split at h
 .exact lY _ _ _ _ h
 .exact h.elim
def eT:PTS:=(aG (aQ (pOp cF (pFz (pOp cF (pFz (pOp cF (pFz (pOp gC (pSl 0) (pFz (pC (.int 2305843009213693951))))) (pFz (pOp rc (pFz (pOp rc (pSl 1) (pSl 1))) (pFz (pC (.int 48271))))))) (pFz (pOp rc (pSl 1) (pFz (pC (.int 9973))))))) (pFz (pC (.int 20021)))) (ao 2)) (aG (aQ (pOp gC (pSl 2) (pFz (pC (.int 2305843009213693951)))) (ao 2)) (aG (aQ (pOp gC (pFz (pOp rc (pSl 2) (pSl 2))) (pFz (pC (.int 2305843009213693951)))) (ao 2)) (aG (aQ (pOp gC (pFz (pOp rc (pFz (pOp cF (pFz (pOp cF (pSl 2) (pFz (pOp rc (pSl 1) (pFz (pC (.int 16807))))))) (pFz (pC (.int 11))))) (pFz (pC (.int 69621))))) (pFz (pC (.int 2305843009213693951)))) (ao 2)) (bU (pOp CJ (pFz (pOp gC (pFz (pOp rc (pSl 2) (pSl 2))) (pFz (pC (.int 2305843009213693951))))) (pFz (pC (.int 4096)))))))))
theorem oU(c k:Int)(Q:PV->Prop)(h:bN ([.int c,.int k]) Q):dy eT j8 ([.int c,.int k]) Q:=by
 show eT _ [some (.dat (.int c)),some (.dat (.int k)),none];obtain⟨⟨h0,h1⟩,q⟩:=h;walk_at "r";exact q _ (ediv_nonneg (emod_nonneg _ (by decide)) (by decide))
theorem qI:∀ds Q,bN ds Q->dy eT j8 ds Q:=fun ds Q h=>by
 unfold bN at h
 split at h
 .exact oU _ _ _ h
 .exact h.elim
def gc:PTS:=(aG (aQ (pOp cF (pFz (pCB qf (af (pSl 0) ap))) (pFz (gB (af (pFz (pCB hZ (af (pSl 0) ap))) ap)))) (ao 2)) (aG (aQ (gB ap) (ao 3)) (aG (aQ (pC (.int 0)) (ao 4)) (aG (jE (pB (pOp fLt (pFz (pCB hZ (af (pSl 3) ap))) (pSl 1))) (aG (jb (dq (aZ 2)) (ao 5) (aG (aQ (aZ 5) (ao 6)) (aG (nq (kJ (pOr (pB (pOp fGt (pSl 4) (pFz (pC (.int 0))))) (pB (pOp fLt (pSl 5) (pFz (pOp Gf (pFz (pC (.int 10))) (pFz (pC (.int 18)))))))) (aG (fm (xW 3 (pOp gC (pFz (bD bN (af (pFz (aZ 5)) (af (pFz (pOp cF (pFz (pCB hZ (af (pSl 3) ap))) (pFz (pC (.int 1))))) ap)))) (pFz (pC (.int 1000)))))) (aQ (pC (.int 0)) (ao 6))) cM)) (jE (E6 (pB (pOp fGt (pSl 6) (pFz (pC (.int 0))))) (pB (pOp fLt (pFz (pCB hZ (af (pSl 3) ap))) (pSl 1)))) (aG (fm (xW 3 (pOp gC (pSl 6) (pFz (pC (.int 1000)))))) (aQ (pOp CJ (pSl 6) (pFz (pC (.int 1000)))) (ao 6))))))) (aQ (pOp cF (pSl 4) (pFz (pC (.int 1)))) (ao 4)))) (bU (tE (pFz (eB (pSl 3) eO (dX (aZ 1))))))))))
theorem qJ(ns:List Int)(mo:Int)(Q:PV->Prop)(h:ca ([.scr ns,.int mo]) Q):dy gc lM ([.scr ns,.int mo]) Q:=by
 show gc _ [some (.dat (.scr ns)),some (.dat (.int mo)),none,none,none,none,none];obtain⟨⟨hn,h0,h1⟩,q⟩:=h;obtain⟨n,rfl⟩:∃n:Nat,mo=(n:Int):=⟨mo.toNat,by omega⟩
 have ecs:ns.map D.int++[D.int (ns.length:Int)]=(ns++[(ns.length:Int)]).map D.int:=by rw [map_append];rfl
 have hnm:(ns.map D.int).length=ns.length:=length_map _;walk_at "r";rw [ecs];generalize hcs:ns++[(ns.length:Int)]=cs;have hcl:cs.length=ns.length+1:=by rw [<- hcs,length_append];rfl
 have hcm:(cs.map D.int).length=cs.length:=length_map _;refine⟨fun m ρ=>∃(x:Option PV) (zs:List Int) (tn:Nat) (v5 v6:Option PV),(x=some (.own (cs.map .int))\/x=some (.dat (.lst (cs.map .int))))/\Dk zs/\zs.length<=n+65/\tn<=zs.length/\m=n - zs.length/\ρ=[some (.dat (.scr ns)),some (.dat (.int (n:Int))),x,some (.own (zs.map .int)),some (.dat (.int (tn:Int))),v5,v6],⟨n,_,[],0,_,_,.inl rfl,nofun,zero_le _,zero_le _,rfl,rfl⟩,?_⟩
 rintro m ρ ⟨x,zs,tn,v5,v6,hx,hz,hzl,htn,hm,rfl⟩;have hzm:(zs.map D.int).length=zs.length:=length_map _
 have fin:∀zs:List Int,Dk zs->n<=zs.length->Q (.own ((zs.take n).map D.int).reverse):=fun zs hz hl=>by
  rw [<- map_reverse];refine q _ (fun x hx=>hz x (mem_of_mem_take (mem_reverse.mp hx))) ?_;rw [length_reverse,length_take,toNat_natCast];omega
 have p18:((10:Int)^(18:Nat))=1000000000000000000:=by decide
 rcases hx with rfl|rfl <;> (
  walk_at "r"
  refine dz (fun c0=>?_) (fun c0=>?_)
  .have c0:zs.length<n:=by omega
   walk_at "r"
   refine⟨fun k ρ=>∃(ys:List Int) (w5 w6:Option PV),Dk ys/\ys.length<=n+k/\zs.length<=ys.length/\(0<k->zs.length<ys.length)/\ρ=[some (.dat (.scr ns)),some (.dat (.int (n:Int))),some (.dat (.lst (cs.map .int))),some (.own (ys.map .int)),some (.dat (.int (tn:Int))),w5,w6],⟨zs,_,_,hz,by omega,Nat.le_refl _,fun z=>absurd z (Nat.lt_irrefl _),rfl⟩,?_,?_⟩
   .rintro k ρ d hk ed ⟨ys,w5,w6,hy,hyl,hzy,hpr,rfl⟩;have hk:k<cs.length:=by rw [hcm] at hk;exact hk
    have ed:d=.int (cs.getD k 0):=by rw [ed];exact BB (by rw [hcm];exact hk)
    subst ed;generalize cs.getD k 0=c;have hym:(ys.map D.int).length=ys.length:=length_map _;walk_at "r"
    refine⟨fun ρ=>∃(us:List Int) (r:Int),Dk us/\0<=r/\((us.length=ys.length+1/\r=0)\/(us.length=ys.length/\0<r))/\ρ=[some (.dat (.scr ns)),some (.dat (.int (n:Int))),some (.dat (.lst (cs.map .int))),some (.own (us.map .int)),some (.dat (.int (tn:Int))),some (.dat (.int c)),some (.dat (.int r))],?_,?_⟩
    .have dm:∀(us:List Int) (z:Int),Dk us->Dk (us++[z % 1000]):=fun us z hu x hx=>by
      rcases mem_append.mp hx with w|w
      .exact hu x w
      .rw [mem_singleton.mp w];exact⟨emod_nonneg _ (by decide),emod_lt_of_pos _ (by decide)⟩
     have app:∀(us:List Int) (z:Int),us.map D.int++[D.int (z % 1000)]=(us++[z % 1000]).map D.int:=fun us z=>by rw [map_append];rfl
     walk_at "r"
     refine dz (fun c1=>?_) (fun c1=>?_)
     .walk_at "r";rintro z hz0;walk_at "r";exact⟨ys++[z % 1000],0,dm ys z hy,by decide,.inl ⟨by rw [length_append];rfl,rfl⟩,by rw [<- app]⟩
     .walk_at "r"
      refine dz (fun c2=>?_) (fun c2=>?_)
      .walk_at "r";rintro z hz0;walk_at "r";exact⟨ys++[z % 1000],0,dm ys z hy,by decide,.inl ⟨by rw [length_append];rfl,rfl⟩,by rw [<- app]⟩
      .have c3:¬ (c<1000000000000000000):=c2;walk_at "r";exact⟨ys,c,hy,by omega,.inr ⟨rfl,by omega⟩,rfl⟩
    .rintro ρ ⟨us,r,hu,hr,hc,rfl⟩
     have dm:∀(us:List Int) (z:Int),Dk us->Dk (us++[z % 1000]):=fun us z hu x hx=>by
      rcases mem_append.mp hx with w|w
      .exact hu x w
      .rw [mem_singleton.mp w];exact⟨emod_nonneg _ (by decide),emod_lt_of_pos _ (by decide)⟩
     have app:∀(us:List Int) (z:Int),us.map D.int++[D.int (z % 1000)]=(us++[z % 1000]).map D.int:=fun us z=>by rw [map_append];rfl
     walk_at "r";refine⟨fun m ρ=>∃(vs:List Int) (r:Int),Dk vs/\0<=r/\us.length<=vs.length/\(vs.length<=n\/vs.length=us.length)/\(vs.length=us.length->us.length=ys.length->0<r)/\m=n - vs.length/\ρ=[some (.dat (.scr ns)),some (.dat (.int (n:Int))),some (.dat (.lst (cs.map .int))),some (.own (vs.map .int)),some (.dat (.int (tn:Int))),some (.dat (.int c)),some (.dat (.int r))],⟨_,us,r,hu,hr,Nat.le_refl _,.inr rfl,fun _ e=>by omega,rfl,rfl⟩,?_⟩
     rintro m ρ ⟨vs,r,hv,hr0,huv,hvn,hrp,hm2,rfl⟩;have hvm:(vs.map D.int).length=vs.length:=length_map _
     have done:¬ (0<r/\vs.length<n)->∃(ys:List Int) (w5 w6:Option PV),Dk ys/\ys.length<=n+(k+1)/\zs.length<=ys.length/\(0<k+1->zs.length<ys.length)/\[some (.dat (.scr ns)),some (.dat (.int (n:Int))),some (.dat (.lst (cs.map .int))),some (.own (vs.map .int)),some (.dat (.int (tn:Int))),some (.dat (.int c)),some (.dat (.int r))]=[some (PV.dat (.scr ns)),some (.dat (.int (n:Int))),some (.dat (.lst (cs.map .int))),some (.own (ys.map .int)),some (.dat (.int (tn:Int))),w5,w6]:=fun hd=>by
      refine⟨vs,_,_,hv,by omega,by omega,fun _=>?_,rfl⟩
      rcases hc with ⟨e1,e2⟩|⟨e1,e2⟩
      .omega
      .by_cases g:vs.length=us.length
       .have:=hrp g e1
        by_cases k0:0<k
        .have:=hpr k0;omega
        .omega
       .omega
     walk_at "r"
     refine dz (fun c3=>?_) (fun c3=>?_)
     .walk_at "r"
      refine dz (fun c4=>?_) (fun c4=>?_)
      .walk_at "r"
       refine⟨_,?_,vs++[r % 1000],r / 1000,dm vs r hv,ediv_nonneg hr0 (by decide),?_,?_,?_,rfl,by rw [<- app]⟩
       .rw [length_append];show n - (vs.length+1)<m;omega
       .rw [length_append];omega
       .rw [length_append];show vs.length+1<=n\/_;omega
       .rw [length_append];intro e;exfalso;have e:vs.length+1=us.length:=e;omega
      .exact done (by omega)
     .exact done (by omega)
   .rintro ρ ⟨ys,w5,w6,hy,hyl,hzy,hpr,rfl⟩;rw [hcm] at hyl hpr;walk_at "r";exact⟨_,by omega,_,ys,tn+1,_,_,.inr rfl,hy,by omega,by have:=hpr (by omega);omega,rfl,by rw [show ((tn:Int)+1)=((tn+1:Nat):Int) by omega]⟩
  .have c0:n<=zs.length:=by omega
   walk_at "r";rw [jx,<- map_take];exact fin zs hz c0)
theorem sw:∀ds Q,ca ds Q->dy gc lM ds Q:=fun ds Q h=>by
 unfold ca at h
 split at h
 .exact qJ _ _ _ h
 .exact h.elim
def gd:PTS:=(bU (F9 0))
theorem qK(ds:List D)(Q:PV->PV->Prop)(h:aA (.own ds) ([]) Q):u4 gd lN (.own ds) ([]) Q:=by
 show gd _ [some (.own ds)];obtain⟨zs,rfl,⟨hz,h0,h1⟩,q⟩:=h;obtain⟨ys,z,rfl⟩:∃ys z,zs=ys++[z]:=⟨zs.dropLast,zs.getLast (ne_nil_of_length_pos h0),(dropLast_concat_getLast _).symm⟩
 have hm:((ys++[z]).map D.int)=ys.map D.int++[D.int z]:=by rw [map_append];rfl
 have hl:(ys.map D.int++[D.int z]).length - 1=(ys.map D.int).length:=by rw [length_append];rfl
 rw [hm];walk_at "r";refine⟨.int z,by rw [hl,getElem?_append_right (Nat.le_refl _),sub_self];rfl,?_⟩;walk_at "r";rw [dropLast_concat];have hzz:=hz z (mem_append_right _ (mem_singleton.mpr rfl));exact q z ys hzz.1 hzz.2 (fun x hx=>hz x (mem_append_left _ hx)) (by rw [length_append];rfl)
theorem sy:∀p ds Q,p.isOwn=true->aA p ds Q->u4 gd lN p ds Q:=fun p ds Q _ h=>by
 unfold aA at h
 split at h
 .exact qK _ _ h
 .exact h.elim
def eU:PTS:=(aG (aQ (pC (.str [])) (ao 3)) (aG (jb (qc (af (pFz (aZ 2)) ap)) (ao 4) (aQ (pOp cF (pSl 3) (pFz (pOp fIx (pSl 1) (pFz (pOp gC (pFz (ck aA 0 ap)) (pFz (pCB hZ (af (pSl 1) ap)))))))) (ao 3))) (bU (aZ 3))))
theorem oV(ds es:List D)(n:Int)(Q:PV->PV->Prop)(h:bO (.own ds) ([.lst es,.int n]) Q):u4 eU j9 (.own ds) ([.lst es,.int n]) Q:=by
 show eU _ [some (.own ds),some (.dat (.lst es)),some (.dat (.int n)),none,none];obtain⟨zs,rfl,ls,rfl,⟨hl0,hl1,hL⟩,⟨hz,h1⟩,⟨hn0,hn1⟩,q⟩:=h;have hlm:(ls.map fun c=>D.str [c]).length=ls.length:=length_map _;walk_at "r"
 refine⟨fun k ρ=>∃(w:List Nat) (ys:List Int) (v4:Option PV),w.length=k/\Lts w/\(∀c∈w,c∈ls)/\Dk ys/\ys.length+k=zs.length/\ρ=[some (.own (ys.map .int)),some (.dat (.lst (ls.map fun c=>.str [c]))),some (.dat (.int n)),some (.dat (.str w)),v4],⟨[],zs,_,rfl,Lts.nil,(fun c hc=>nomatch hc),hz,rfl,rfl⟩,?_,?_⟩
 .rintro k ρ _ hk rfl ⟨w,ys,v4,hw,hwL,hwc,hy,hyl,rfl⟩;have hk2:(k:Int)<n:=by omega
  have g1:Dk ys/\0<ys.length/\ys.length<=100000:=⟨hy,by omega,by omega⟩
  walk_at "r";rintro z y2 hz0 hz1 hd2 hl2;obtain⟨j,hj⟩:∃j:Nat,z % (ls.length:Int)=(j:Int):=⟨(z % (ls.length:Int)).toNat,by have:=emod_nonneg z (show (ls.length:Int)≠0 by omega);omega⟩
  have hj2:j<ls.length:=by have:=emod_lt_of_pos z (show 0<(ls.length:Int) by omega);omega
  walk_at "r";rw [hlm,hj];refine⟨_,im (j:=j) (by rw [getElem?_map,getElem?_eq_getElem hj2];rfl) rfl,?_⟩;walk_at "r";refine⟨w++[ls[j]],y2,_,by rw [length_append,hw];rfl,hwL.app (Lts.one (hL _ (getElem_mem hj2))),fun c hc=>?_,hd2,by omega,rfl⟩
  rcases mem_append.mp hc with x|x
  .exact hwc c x
  .rw [mem_singleton.mp x];exact getElem_mem hj2
 .rintro ρ ⟨w,ys,v4,hw,hwL,hwc,hy,hyl,rfl⟩;walk_at "r";exact q w ys hw hwL hwc hy hyl
theorem qL:∀p ds Q,p.isOwn=true->bO p ds Q->u4 eU j9 p ds Q:=fun p ds Q _ h=>by
 unfold bO at h
 split at h
 .exact oV _ _ _ _ h
 .exact h.elim
def d7:PTS:=(aG (aQ (pOp gC (pFz (ck aA 0 ap)) (pFz (pC (.int 26)))) (ao 2)) (aG (aQ (pOp fIx (pFz (gB (af (pFz (pC (.int 2))) (af (pFz (pC (.int 2))) (af (pFz (pC (.int 3))) (af (pFz (pC (.int 26))) ap)))))) (pFz (pOp gC (pFz (ck aA 0 ap)) (pFz (pC (.int 4)))))) (ao 3)) (aG (aQ (cD [none,some 2] (qc (af (pFz (aZ 3)) ap)) (ao 0) iW (pOp fIx (pFz (pC (.str [97,98,99,100,101,102,103,104,105,106,107,108,109,110,111,112,113,114,115,116,117,118,119,120,121,122]))) (pFz (pOp gC (pFz (pOp cF (pSl 1) (pFz (pOp rc (pFz (pC (.int 7))) (pSl 0))))) (pFz (pC (.int 26))))))) (ao 4)) (aG (aQ (pOp gC (pFz (ck aA 0 ap)) (pFz (pC (.int 4)))) (ao 5)) (aG (aQ (pOp cF (pFz (pC (.int 1))) (pFz (pOp gC (pFz (ck aA 0 ap)) (pFz (pC (.int 6)))))) (ao 6)) (aG (aQ (pOp rc (pFz (ck bO 0 (af (pFz (aZ 4)) (af (pFz (pOp cF (pFz (pC (.int 2))) (pFz (pOp gC (pFz (ck aA 0 ap)) (pFz (pC (.int 9))))))) ap)))) (pFz (pC (.int 9)))) (ao 7)) (aG (aQ (gB ap) (ao 8)) (aG (jb (qc (af (pFz (pOp gC (pFz (ck aA 0 ap)) (pFz (pOp cF (pSl 1) (pFz (pC (.int 1))))))) ap)) (ao 9) (aG (aQ (ck aA 0 ap) (ao 10)) (aG (aQ (eB (pSl 7) (dX (pOp gC (pSl 10) (pFz (pC (.int 9))))) (dX (pOp cF (pFz (pOp cF (pFz (pOp gC (pSl 10) (pFz (pC (.int 9))))) (pSl 6))) (pFz (pOp CJ (pFz (pOp gC (pFz (pOp CJ (pSl 10) (pFz (pC (.int 9))))) (pFz (pC (.int 5))))) (pFz (pC (.int 3)))))))) (ao 11)) (aG (nq (kJ (pB (pOp lw (pSl 5) (pFz (pC (.int 2))))) (aQ (ck bO 0 (af (pFz (aZ 4)) (af (pFz (pOp cF (pFz (pC (.int 1))) (pFz (pOp gC (pSl 10) (pFz (pC (.int 6))))))) ap))) (ao 11)) cM)) (aG (nq (kJ (pB (pOp lw (pSl 5) (pFz (pC (.int 3))))) (aQ (pOp cF (pFz (pOp cF (pFz (pOp rc (pFz (pOp fIx (pSl 4) (pFz (pC (.int 0))))) (pFz (pOp gC (pSl 10) (pFz (pC (.int 4))))))) (pFz (pOp fIx (pSl 4) (pFz (pC (.int 1))))))) (pFz (pOp rc (pFz (pOp fIx (pSl 4) (pFz (pC (.int 0))))) (pFz (pOp gC (pFz (pOp CJ (pSl 10) (pFz (pC (.int 4))))) (pFz (pC (.int 4)))))))) (ao 11)) cM)) (fm (xW 8 (aZ 11)))))))) (bU (aZ 8))))))))))
theorem mM(ds:List D)(mo:Int)(Q:PV->PV->Prop)(h:bL (.own ds) ([.int mo]) Q):u4 d7 jg (.own ds) ([.int mo]) Q:=by
 show d7 _ [some (.own ds),some (.dat (.int mo)),none,none,none,none,none,none,none,none,none,none];obtain⟨zs,rfl,⟨hz,h1⟩,⟨hm0,hm1,hm2⟩,q⟩:=h;have g0:Dk zs/\0<zs.length/\zs.length<=100000:=⟨hz,by omega,by omega⟩
 walk_at "r";rintro a y1 ha0 ha1 hd1 hl1;have g1:Dk y1/\0<y1.length/\y1.length<=100000:=⟨hd1,by omega,by omega⟩
 obtain⟨f,hf⟩:∃f:Nat,a % 26=(f:Int):=⟨(a % 26).toNat,by omega⟩
 have hf26:f<26:=by omega
 walk_at "r";rintro b y2 hb0 hb1 hd2 hl2;rw [hf]
 have hm:∃n:Nat,atI [D.int 2,D.int 2,D.int 3,D.int 26] (b % 4)=some (.int (n:Int))/\(n=2\/n=3\/n=26):=by
  rcases (show b % 4=0\/b % 4=1\/b % 4=2\/b % 4=3 by omega) with e|e|e|e <;> rw [e]
  .exact⟨2,rfl,.inl rfl⟩
  .exact⟨2,rfl,.inl rfl⟩
  .exact⟨3,rfl,.inr (.inl rfl)⟩
  .exact⟨26,rfl,.inr (.inr rfl)⟩
 obtain⟨n,en,hn⟩:=hm;have hn26:n<=26:=by omega
 walk_at "r";refine⟨_,en,?_⟩;walk_at "r"
 refine cmR (fun k=>.str [97+(f+7*k) % 26]) (fun k hk v K1 k1=>?_) (fun v=>?_)
 .have hk:k<n:=by rw [toNat_natCast] at hk;exact hk
  have hk26:k<26:=by omega
  walk_at "r";rw [show ((f:Int)+7*(k:Int)) % 26=(((f+7*k) % 26:Nat):Int) by omega];exact⟨_,xK (mod_lt _ (by decide)),k1 _⟩
 rw [toNat_natCast,show (List.range n).map (fun k=>D.str [97+(f+7*k) % 26])=(uN n f).map fun c=>.str [c] by unfold uN;rw [map_map];rfl];have hll:(uN n f).length=n:=by unfold uN;rw [length_map,length_range]
 have hL:=xJ n f;generalize uN n f=ls at hll hL;have gl:0<ls.length/\ls.length<=26/\Lts ls:=⟨by omega,by omega,hL⟩
 have hlm:(ls.map fun c=>D.str [c]).length=ls.length:=length_map _;have g2:Dk y2/\0<y2.length/\y2.length<=100000:=⟨hd2,by omega,by omega⟩
 walk_at "r";rintro c y3 hc0 hc1 hd3 hl3;have g3:Dk y3/\0<y3.length/\y3.length<=100000:=⟨hd3,by omega,by omega⟩
 walk_at "r";rintro e y4 he0 he1 hd4 hl4;have g4:Dk y4/\0<y4.length/\y4.length<=100000:=⟨hd4,by omega,by omega⟩
 obtain⟨lo,hlo,hlo6⟩:∃lo:Nat,1+e % 6=(lo:Int)/\1<=lo/\lo<=6:=⟨(1+e % 6).toNat,by omega,by omega,by omega⟩
 walk_at "r";rintro u y5 hu0 hu1 hd5 hl5;rw [hlo];generalize c % 4=so;have g5:Dk y5/\y5.length<=100000:=⟨hd5,by omega⟩
 have g6:0<=2+u % 9/\2+u % 9<=(y5.length:Int):=⟨by omega,by omega⟩
 have u9:0<=u % 9/\u % 9<9:=by omega
 walk_at "r";rintro b0 y6 hb0l hb0L _ hd6 hl6;have w2:(-1000000:Int)<=9/\(9:Int)<=1000000/\Int.toNat 9*b0.length<=1000000:=⟨by decide,by decide,by show 9*_<=_;omega⟩
 walk_at "r";have hbl:(nV b0 9).length=9*b0.length:=fH ..;have hbL:Lts (nV b0 9):=hb0L.rep _;generalize nV b0 9=bs at hbl hbL;have g7:Dk y6/\0<y6.length/\y6.length<=100000:=⟨hd6,by omega,by omega⟩
 walk_at "r";rintro r y7 hr0 hr1 hd7 hl7;obtain⟨m,hm,hmm⟩:∃m:Nat,r % (mo+1)=(m:Int)/\(m:Int)<=mo:=⟨(r % (mo+1)).toNat,by have:=emod_nonneg r (show mo+1≠0 by omega);omega,by have:=emod_lt_of_pos r (show 0<mo+1 by omega);have:=emod_nonneg r (show mo+1≠0 by omega);omega⟩
 walk_at "r";rw [hm];rw [toNat_natCast]
 refine⟨fun k ρ=>∃(ps:List (List Nat)) (ys:List Int) (v9 v10 v11:Option PV),ps.length=k/\Pcs 60 ps/\Dk ys/\y7.length<=ys.length+7*k/\ys.length<=y7.length/\ρ=[some (.own (ys.map .int)),some (.dat (.int mo)),some (.dat (.int (f:Int))),some (.dat (.int (n:Int))),some (.dat (.lst (ls.map fun c=>.str [c]))),some (.dat (.int so)),some (.dat (.int (lo:Int))),some (.dat (.str bs)),some (.own (ps.map .str)),v9,v10,v11],⟨[],y7,_,_,_,rfl,(fun w hw=>nomatch hw),hd7,Nat.le_refl _,Nat.le_refl _,rfl⟩,?_,?_⟩
 .rintro k ρ _ hk rfl ⟨ps,ys,v9,v10,v11,hpl,hps,hdy,hyl,hyl',rfl⟩;have hpm:(ps.map D.str).length=ps.length:=length_map _;have g8:Dk ys/\0<ys.length/\ys.length<=100000:=⟨hdy,by omega,by omega⟩
  walk_at "r";rintro t y8 ht0 ht1 hd8 hl8;obtain⟨p9,hp9,hp9'⟩:∃p9:Nat,t % 9=(p9:Int)/\p9<9:=⟨(t % 9).toNat,by omega,by omega⟩
  obtain⟨x1,hx1,hx1'⟩:∃x1:Nat,t / 9 % 5 / 3=(x1:Int)/\x1<=1:=⟨(t / 9 % 5 / 3).toNat,by omega,by omega⟩
  walk_at "r";rw [hp9,hx1]
  have cb:dD bs (some (p9:Int)) (some ((p9:Int)+(lo:Int)+(x1:Int)))=(bs.drop p9).take (lo+x1):=by
   rw [show (p9:Int)+(lo:Int)+(x1:Int)=((p9+lo+x1:Nat):Int) by omega,vL,show p9+lo+x1 - p9=lo+x1 by omega]
  rw [cb];have w0:Pc 60 ((bs.drop p9).take (lo+x1)):=⟨by rw [length_take,length_drop];omega,by rw [length_take];omega,(hbL.drop _).take _⟩
  generalize (bs.drop p9).take (lo+x1)=w at w0
  refine⟨fun ρ=>∃(p:List Nat) (yy:List Int),Pc 60 p/\Dk yy/\y8.length<=yy.length+6/\yy.length<=y8.length/\ρ=[some (.own (yy.map .int)),some (.dat (.int mo)),some (.dat (.int (f:Int))),some (.dat (.int (n:Int))),some (.dat (.lst (ls.map fun c=>.str [c]))),some (.dat (.int so)),some (.dat (.int (lo:Int))),some (.dat (.str bs)),some (.own (ps.map .str)),some (.dat (.int (k:Int))),some (.dat (.int t)),some (.dat (.str p))],?_,?_⟩
  .walk_at "r"
   refine dz (fun c=>?_) (fun c=>?_)
   .have g9:Dk y8/\y8.length<=100000:=⟨hd8,by omega⟩
    have g10:0<=1+t % 6/\1+t % 6<=(y8.length:Int):=⟨by omega,by omega⟩
    walk_at "r";rintro w' y9 hw hwL _ hd9 hl9;walk_at "r";exact⟨w',y9,⟨by omega,by omega,hwL⟩,hd9,by omega,by omega,rfl⟩
   .exact⟨w,y8,w0,hd8,by omega,by omega,rfl⟩
  rintro ρ ⟨p,y9,pc,hd9,hl9,hl9',rfl⟩;walk_at "r"
  refine⟨fun ρ=>∃(p:List Nat),Pc 60 p/\ρ=[some (.own (y9.map .int)),some (.dat (.int mo)),some (.dat (.int (f:Int))),some (.dat (.int (n:Int))),some (.dat (.lst (ls.map fun c=>.str [c]))),some (.dat (.int so)),some (.dat (.int (lo:Int))),some (.dat (.str bs)),some (.own (ps.map .str)),some (.dat (.int (k:Int))),some (.dat (.int t)),some (.dat (.str p))],?_,?_⟩
  .walk_at "r"
   refine dz (fun c=>?_) (fun c=>?_)
   .have s0:=tZ (ls:=ls) (j:=0) (by omega);have s1:=tZ (ls:=ls) (j:=1) (by omega);have l0:=At hL (j:=0) (by omega);have l1:=At hL (j:=1) (by omega);generalize ls.getD 0 0=c0 at s0 l0;generalize ls.getD 1 0=c1 at s1 l1;have w3:(-1000000:Int)<=t % 4/\t % 4<=1000000/\(t % 4).toNat*[c0].length<=1000000:=⟨by omega,by omega,by show _*1<=_;omega⟩
    have w4:(-1000000:Int)<=t / 4 % 4/\t / 4 % 4<=1000000/\(t / 4 % 4).toNat*[c0].length<=1000000:=⟨by omega,by omega,by show _*1<=_;omega⟩
    have r3:(nV [c0] (t % 4)).length=(t % 4).toNat*1:=fH ..;have r4:(nV [c0] (t / 4 % 4)).length=(t / 4 % 4).toNat*1:=fH ..;walk_at "r";refine⟨_,s0,?_⟩;walk_at "r";refine⟨_,s1,?_⟩;walk_at "r";refine⟨_,s0,?_⟩;walk_at "r";exact⟨_,⟨by rw [length_append,length_append];show 0<_+1+_;omega,by rw [length_append,length_append];show _+1+_<=60;omega,((l0.rep _).app l1).app (l0.rep _)⟩,rfl⟩
   .exact⟨p,pc,rfl⟩
  clear pc p;rintro ρ ⟨p,pc,rfl⟩;walk_at "r";refine⟨ps++[p],y9,_,_,_,by rw [length_append,hpl];rfl,fun w hw=>?_,hd9,by omega,by omega,by rw [map_append];rfl⟩
  rcases mem_append.mp hw with h|h
  .exact hps w h
  .rw [mem_singleton.mp h];exact pc
 .rintro ρ ⟨ps,ys,v9,v10,v11,hpl,hps,hdy,hyl,hyl',rfl⟩;walk_at "r";exact q ps ys (by omega) hps hdy (by omega) (by omega)
theorem oW:∀p ds Q,p.isOwn=true->bL p ds Q->u4 d7 jg p ds Q:=fun p ds Q _ h=>by
 unfold bL at h
 split at h
 .exact mM _ _ _ h
 .exact h.elim
def eV:PTS:=(aG (aQ (gB ap) (ao 1)) (aG (jb (qe (af (pFz (aZ 0)) ap)) (ql 2 (gj (ao 2) (gj (ao 3) rF))) (aG (aQ (cD [none,some 3] (dq (aZ 0)) (ao 0) (E6 (pB (pOp fGt (pFz (pCB hZ (af (pSl 0) ap))) (pFz (pCB hZ (af (pSl 1) ap))))) (pB (pOp (Ab false) (pSl 1) (pSl 0)))) (aZ 0)) (ao 4)) (kJ (E6 (pB (pOp lw (pSl 4) (pFz (gB ap)))) (pB (pOp (Ab true) (pSl 3) (pFz (eB (pSl 0) eO (dX (aZ 2))))))) (fm (xW 1 (aZ 3))) cM))) (bU (aZ 1))))
theorem oX(ds:List D)(Q:PV->Prop)(h:bP ([.lst ds]) Q):dy eV ka ([.lst ds]) Q:=by
 show eV _ [some (.dat (.lst ds)),none,none,none,none];obtain⟨ps,rfl,⟨hn,hw⟩,q⟩:=h;have hlm:(ps.map D.str).length=ps.length:=length_map _;walk_at "r"
 refine⟨fun k ρ=>∃v2 v3 v4:Option PV,ρ=[some (.dat (.lst (ps.map .str))),some (.own ((((List.range k).filter (du ps)).map (pw ps)).map .str)),v2,v3,v4],⟨_,_,_,rfl⟩,?_,?_⟩
 .rintro k ρ d hk ed ⟨v2,v3,v4,rfl⟩;have hk:k<ps.length:=by rw [hlm] at hk;exact hk
  subst ed;rw [show itD (ps.map D.str) k=.str (pw ps k) from dY (by rw [getElem?_map,io hk];rfl)];have hpm:=gJ hk;obtain⟨hpl,hpL⟩:=hw _ hpm
  have hml:((((List.range k).filter (du ps)).map (pw ps)).map D.str).length<=40:=by
   rw [length_map,length_map];refine Nat.le_trans (length_filter_le ..) ?_;rw [length_range];omega
  walk_at "r"
  refine cf1 (fun o=>decide ((pw ps k).length<o.length) && gA (pw ps k) o) (fun o=>.str o) (fun o ho v K1 K2 k1 k2=>?_) (fun v=>?_)
  .walk_at "r"
   refine dz (fun c=>?_) (fun c=>?_)
   .walk_at "r"
    cases hs:gA (pw ps k) o with
    | true=>exact k1 _ (by rw [decide_eq_true (by omega:(pw ps k).length<o.length)];exact hs)
    | false=>exact k2 _ (by rw [hs,Bool.and_false])
   .exact k2 _ (by rw [decide_eq_false (by omega:¬ (pw ps k).length<o.length),Bool.false_and])
  .have c1:dD (ps.map D.str) none (some (k:Int))=(ps.take k).map D.str:=by rw [jx,map_take]
   have hfl:(dD (ps.map D.str) none (some (k:Int))).all D.fl=true:=by rw [c1];exact wU _
   have hin:inD (.str (pw ps k)) (dD (ps.map D.str) none (some (k:Int)))=decide (pw ps k∈ps.take k):=by rw [c1];exact oG _ _
   have eF:=se (ws:=ps.filter fun o=>decide ((pw ps k).length<o.length) && gA (pw ps k) o) fun w h=>(hw w (mem_filter.mp h).1).2;have eD:=qz (ps.filter fun o=>decide ((pw ps k).length<o.length) && gA (pw ps k) o);have hkb:=Ci (ps:=ps) (k:=k)
   have hrs:((List.range (k+1)).filter (du ps)).map (pw ps)=((List.range k).filter (du ps)).map (pw ps)++(if du ps k=true then [pw ps k] else []):=by
    rw [range_succ,filter_append,map_append];congr 1;rw [filter_cons];split <;> rfl
   rw [hrs];generalize ((List.range k).filter (du ps)).map (pw ps)=ks at hml ⊢;have hk1:(ks.map D.str).length<=40:=hml;walk_at "r";rw [eD]
   refine dz (fun c=>?_) (fun c=>?_)
   .walk_at "r";rw [hin]
    refine lf (yE (fun c2=>?_) (fun c2=>?_))
    .walk_at "r";have e:du ps k=false:=by rw [hkb,c2,Bool.not_true,Bool.and_false]
     exact⟨_,_,_,by rw [e,if_neg (by decide),append_nil]⟩
    .walk_at "r";have e:du ps k=true:=by rw [hkb,c2,decide_eq_true c];rfl
     exact⟨_,_,_,by rw [e,if_pos rfl,map_append];rfl⟩
   .walk_at "r";have e:du ps k=false:=by rw [hkb,decide_eq_false c,Bool.false_and]
    exact⟨_,_,_,by rw [e,if_neg (by decide),append_nil]⟩
 .rintro ρ ⟨v2,v3,v4,rfl⟩;rw [hlm];walk_at "r";exact q
theorem qM:∀ds Q,bP ds Q->dy eV ka ds Q:=fun ds Q h=>by
 unfold bP at h
 split at h
 .exact oX _ _ h
 .exact h.elim
def ie:PTS:=(aG (jb (FZ (af (pFz (pOp xX (pFz (pCB yL (af (pFz (pCB hZ (af (pSl 0) ap))) (af (pFz (pCB hZ (af (pSl 1) ap))) ap)))) (pFz (pC (.int 1))))) (af (pFz (pC (.int 0))) (af (pFz (pUn rJ (pFz (pC (.int 1))))) ap)))) (ao 2) (kJ (pB (pOp lw (pFz (eB (pSl 0) (dX (pOp xX (pFz (pCB hZ (af (pSl 0) ap))) (pSl 2))) eO)) (pFz (eB (pSl 1) eO (dX (aZ 2)))))) (bU (aZ 2)) cM)) (bU (pC (.int 0))))
theorem sA(a b:List Nat)(Q:PV->Prop)(h:b4 ([.str a,.str b]) Q):dy ie nK ([.str a,.str b]) Q:=by
 show ie _ [some (.dat (.str a)),some (.dat (.str b)),none];obtain⟨a1,⟨b0,b1⟩,q⟩:=h;have hm:(if (b.length:Int)<(a.length:Int) then (b.length:Int) else (a.length:Int))=((min a.length b.length:Nat):Int):=by split <;> omega
 walk_at "r";rw [hm]
 refine⟨fun i ρ=>(∃v2:Option PV,ρ=[some (.dat (.str a)),some (.dat (.str b)),v2])/\∀j,min a.length b.length - i<=j->j<min a.length b.length->¬ b.take j <:+ a,⟨⟨_,rfl⟩,fun j h1 h2=>by omega⟩,?_,?_⟩
 .rintro i ρ d hi ed ⟨⟨v2,rfl⟩,ih⟩;obtain⟨k,hk,hk2⟩:∃k:Nat,(((min a.length b.length:Nat):Int) - 1) - (i:Int)=(k:Int)/\k=min a.length b.length - 1 - i:=⟨min a.length b.length - 1 - i,by omega,rfl⟩
  have hk0:0<k:=by omega
  rw [hk] at ed;subst ed;have cd:dD a (some ((a.length:Int) - (k:Int))) none=a.drop (a.length - k):=by rw [show (a.length:Int) - (k:Int)=((a.length - k:Nat):Int) by omega,i3]
  have ct:=jx b k;walk_at "r";rw [cd,ct]
  refine dz (fun c=>?_) (fun c=>?_)
  .walk_at "r"
   rw [show ml a b=k from oF ⟨by omega,by rw [<- c];exact drop_suffix ..,fun j h1 h2=>by
    rcases lt_or_ge k j with h|h
    .exact absurd h2 (ih j (by omega) h1)
    .exact h⟩] at q
   exact q
  .refine⟨⟨_,rfl⟩,fun j h1 h2=>?_⟩
   by_cases hj:j=k
   .subst hj;intro z;refine c ?_;obtain⟨t,ht⟩:=z;have hl:=congrArg List.length ht;rw [length_append,length_take] at hl;rw [<- ht,show (t++b.take j).length - j=t.length by rw [length_append,length_take];omega,drop_left]
   .exact ih j (by omega) h2
 .rintro ρ ⟨⟨v2,rfl⟩,ih⟩;walk_at "r"
  by_cases a0:0<a.length
  .rw [show ml a b=0 from oF ⟨by omega,by rw [take_zero];exact nil_suffix,fun j h1 h2=>by
    rcases lt_or_ge 0 j with h|h
    .exact absurd h2 (ih j (by omega) h1)
    .exact h⟩] at q
   exact q
  .rw [show ml a b=0 by
    unfold ml;rw [dif_neg];rintro⟨k,hk⟩;have:=hk.1;omega] at q
   exact q
theorem uT:∀ds Q,b4 ds Q->dy ie nK ds Q:=fun ds Q h=>by
 unfold b4 at h
 split at h
 .exact sA _ _ _ h
 .exact h.elim
def gf:PTS:=(bU (Gn (cD [none,some 0] (dq (aZ 0)) (ao 0) iW (cD [none,some 0] (dq (aZ 1)) (ao 0) iW (bD b4 (af (pFz (aZ 1)) (af (pFz (aZ 0)) ap)))))))
theorem qN(ds:List D)(Q:PV->Prop)(h:ce ([.lst ds]) Q):dy gf lO ([.lst ds]) Q:=by
 show gf _ [some (.dat (.lst ds))];obtain⟨ws,rfl,hwo,q⟩:=h;have hwm:(ws.map D.str).length=ws.length:=length_map _;have hn40:=hwo.1;walk_at "r"
 
 refine cm1 (e:=D.str) (xs:=ws) (fun w=>Gx ws w) (fun w hw v K1 k1=>?_) (fun v=>?_)
 .have w1:=hwo.2 w hw;walk_at "r"
  refine cm1 (e:=D.str) (xs:=ws) (fun u=>.int (ml w u:Int)) (fun u hu v K1 k1=>?_) (fun v=>?_)
  .have u1:=hwo.2 u hu;have w2:w.length<=10000:=by omega
   walk_at "r";exact k1 _
  .exact k1 _
 .exact q
theorem sB:∀ds Q,ce ds Q->dy gf lO ds Q:=fun ds Q h=>by
 unfold ce at h
 split at h
 .exact qN _ _ h
 .exact h.elim
def ef:PTS:=(aG (aQ (pOp xX (pSl 2) (pFz (pOp wL (pFz (pC (.int 1))) (pSl 3)))) (ao 4)) (aG (aQ (cD [none,some 4] (qc (af (pFz (pCB hZ (af (pSl 0) ap))) ap)) (ao 0) (pB (pOp lw (pFz (pOp uJ (pFz (pOp CL (pSl 1) (pSl 0))) (pFz (pC (.int 1))))) (pFz (pC (.int 1))))) (aZ 0)) (ao 5)) (bU (pCB wJ (af (pFz (pOp cF (pFz (gB (af (pFz (pC (.int 0))) ap))) (pFz (cD [none,some 3,some 1,some 4,some 0] (dq (aZ 5)) (ao 0) iW (pOp cF (pFz (pOp fIx (pFz (pOp fIx (pSl 2) (pSl 3))) (pSl 0))) (pFz (pOp fIx (pFz (pOp fIx (pSl 4) (pSl 0))) (pSl 1)))))))) ap)))))
theorem mO(ls td:List D)(m i:Int)(Q:PV->Prop)(h:bA ([.lst ls,.lst td,.int m,.int i]) Q):dy ef jh ([.lst ls,.lst td,.int m,.int i]) Q:=by
 show ef _ [some (.dat (.lst ls)),some (.dat (.lst td)),some (.dat (.int m)),some (.dat (.int i)),none,none];obtain⟨ws,rfl,tb,rfl,k,rfl,j,rfl,⟨hn,hk,hj,hb,hr,hw⟩,q⟩:=h;have h256:=cG hn;have hkk:k<256:=by omega
 obtain⟨hle,hsub⟩:=eI ⟨k,hkk⟩ ⟨j,by omega⟩ hb;have hle:2^j<=k:=hle
 have er:(k:Int) - 1*2^(j:Int).toNat=((k - 2^j:Nat):Int):=by
  rw [toNat_natCast,Int.one_mul,natCast_sub hle,natCast_pow];rfl
 have hrk:k - 2^j<256:=lt_of_le_of_lt (sub_le _ _) hkk;have hr2:k - 2^j<2^ws.length:=lt_of_le_of_lt (sub_le _ _) hk;have hwr:=hw _ hr;unfold nd at q;have eo:cJ ws tb k j=(mem (k - 2^j)).map fun x=>cell tb (k - 2^j) x+lp ws x j:=rfl;generalize hR:k - 2^j=r at er hrk hr2 hr hwr eo;have hlm:(fe ws).length=ws.length:=length_map _;have hM:0<=(j:Int)/\(j:Int)<=1000000/\(1:Int).natAbs<2^64:=⟨by omega,by omega,by decide⟩
 have mem_eq:(List.range ws.length).filter r.testBit=mem r:=by
  unfold mem;obtain⟨d,hd⟩:∃d,8=ws.length+d:=⟨8 - ws.length,by omega⟩
  have:∀d,(List.range (ws.length+d)).filter r.testBit=(List.range ws.length).filter r.testBit:=fun d=>by
   induction d with
   | zero=>rfl
   | succ d ih =>
    rw [<- add_assoc,range_succ,filter_append,ih,filter_cons,if_neg]
    .simp
    .intro z;have:=gU hr2 z;omega
  rw [hd,this d]
 walk_at "r";rw [er,hlm];walk_at "r"
 refine cfR (fun x=>r.testBit x) nD (fun x hx v K1 K2 k1 k2=>?_) (fun v=>?_)
 .have e:=qx r x;show (0:Int)<=(x:Int)/\gz (decide (Builtin.bitAnd ((r:Int) / 2^(x:Int).toNat) 1=1)) _ _;refine⟨by omega,?_⟩;rw [e]
  cases h:r.testBit x with
  | true=>exact k1 _ h
  | false=>exact k2 _ h
 rw [toNat_natCast,mem_eq];have hml:=oM r;walk_at "r"
 refine cm1 (e:=nD) (xs:=mem r) (fun x=>.int (cell tb r x+lp ws x j)) (fun x hx v K1 k1=>?_) (fun v=>?_)
 .have hxn:x<ws.length:=gU hr2 ((mem_iff hrk).mp hx);walk_at "r";refine⟨_,hU hr,?_⟩;walk_at "r";refine⟨_,fV (by omega),?_⟩;walk_at "r";refine⟨_,t5 hxn,?_⟩;walk_at "r";refine⟨_,tV hj,?_⟩;walk_at "r";exact k1 _
 rw [show (mem r).map (fun x=>D.int (cell tb r x+lp ws x j))=(cJ ws tb k j).map D.int by rw [eo,map_map];rfl]
 have hol:[D.int 0].length+((cJ ws tb k j).map D.int).length<=1000000:=by
  rw [eo,length_map,length_map];rw [length_map] at hml;show 1+_<=_;omega
 walk_at "r";refine⟨0::cJ ws tb k j,rfl,zero_lt_succ _,fun mx hm1 hm2=>?_⟩;rw [<- lG hm1 hm2] at q;exact q
theorem oY:∀ds Q,bA ds Q->dy ef jh ds Q:=fun ds Q h=>by
 unfold bA at h
 split at h
 .exact mO _ _ _ _ _ h
 .exact h.elim
def eW:PTS:=(aG (aQ (pCB hZ (af (pSl 0) ap)) (ao 1)) (aG (aQ (gB ap) (ao 2)) (aG (jb (qc (af (pFz (pOp wL (pFz (pC (.int 1))) (pSl 1))) ap)) (ao 3) (aG (aQ (pOp rc (pFz (gB (af (pFz (pUn rJ (pFz (pC (.int 1))))) ap))) (pSl 1)) (ao 4)) (aG (jb (qc (af (pFz (aZ 1)) ap)) (ao 5) (kJ (pB (pOp lw (pFz (pOp uJ (pFz (pOp CL (pSl 3) (pSl 5))) (pFz (pC (.int 1))))) (pFz (pC (.int 1))))) (wx 4 (B8 (bD bA (af (pFz (aZ 0)) (af (pFz (aZ 2)) (af (pFz (aZ 3)) (af (pFz (aZ 5)) ap)))))) (aZ 5)) cM)) (fm (xW 2 (aZ 4)))))) (bU (aZ 2)))))
theorem oZ(ls:List D)(Q:PV->Prop)(h:bQ ([.lst ls]) Q):dy eW kc ([.lst ls]) Q:=by
 show eW _ [some (.dat (.lst ls)),none,none,none,none,none];obtain⟨ws,rfl,hn,q⟩:=h;have hlm:(fe ws).length=ws.length:=length_map _;have h256:=cG hn;have hM:0<=(ws.length:Int)/\(ws.length:Int)<=1000000/\(1:Int).natAbs<2^64:=⟨by omega,by omega,by decide⟩
 have e1:=EI ws.length;have hr2:(-1000000:Int)<=1*2^(ws.length:Int).toNat:=by rw [e1];exact Int.le_trans (show (-1000000:Int)<=0 by decide) (natCast_nonneg _)
 have hr3:(1:Int)*2^(ws.length:Int).toNat<=1000000:=by rw [e1];exact Int.le_trans (ofNat_le.mpr h256) (by decide)
 have hM2:0<=((fe ws).length:Int)/\((fe ws).length:Int)<=1000000/\(1:Int).natAbs<2^64:=by rw [hlm];exact hM
 have hr4:(-1000000:Int)<=1*2^((fe ws).length:Int).toNat:=by rw [hlm];exact hr2
 have hr5:(1:Int)*2^((fe ws).length:Int).toNat<=1000000:=by rw [hlm];exact hr3
 walk_at "r";rw [hlm,e1,toNat_natCast];generalize hN:2^ws.length=N at h256 q
 refine⟨fun k ρ=>∃(tb:List (List Int)) (v5 v6 v7:Option PV),Exa ws tb/\tb.length=k/\ρ=[some (.dat (.lst (fe ws))),some (.dat (.int (ws.length:Int))),some (.own (tb.map b5)),v5,v6,v7],⟨[],_,_,_,⟨fun r hr=>absurd hr (not_lt_zero r),fun r hr=>absurd hr (not_lt_zero r),fun r hr=>absurd hr (not_lt_zero r)⟩,rfl,rfl⟩,?_,?_⟩
 .rintro k ρ _ hk rfl ⟨tb,v5,v6,v7,hG,htl,rfl⟩;have htm:(tb.map b5).length=tb.length:=length_map _;have w2:(-1000000:Int)<=(ws.length:Int)/\(ws.length:Int)<=1000000/\(ws.length:Int).toNat*[D.int (-1)].length<=1000000:=⟨by omega,by omega,by show _*1<=_;omega⟩
  have er:=Cj ws.length;walk_at "r";rw [er,toNat_natCast]
  refine⟨fun i ρ=>∃(r:List Int) (v7:Option PV),Ck ws tb k i r/\ρ=[some (.dat (.lst (fe ws))),some (.dat (.int (ws.length:Int))),some (.own (tb.map b5)),some (.dat (.int (k:Int))),some (.own (r.map .int)),v7],⟨_,_,uO ws tb k,rfl⟩,?_,?_⟩
  .rintro i ρ _ hi rfl ⟨r,v7,hR,rfl⟩;have hrl:=hR.len;have hrm:(r.map D.int).length=r.length:=length_map _;have eb:=qx k i;walk_at "r";refine (show gz (decide (Builtin.bitAnd ((k:Int) / 2^(i:Int).toNat) 1=1)) _ _ from ?_);rw [eb]
   cases hb:k.testBit i with
   | false =>
    exact⟨r,_,xL hR hb,rfl⟩
   | true =>
    have hpw:0<2^i:=pow_pos (by decide);have hki:2^i<=k:=(eI ⟨k,by omega⟩ ⟨i,by omega⟩ hb).1;have cond:ws.length<=8/\k<2^ws.length/\i<ws.length/\k.testBit i=true/\k - 2^i<tb.length/\∀r,r<tb.length->(tb.getD r []).length=ws.length:=⟨hn,by omega,hi,hb,by omega,hG.wid⟩
    walk_at "r";refine⟨i,GZ (by rw [hrm,hrl];exact hi),?_⟩;rw [<- map_set (f:=D.int)];exact⟨_,_,zp hR hi hb,rfl⟩
  .rintro ρ ⟨r,v7,hR,rfl⟩;walk_at "r";exact⟨tb++[r],_,_,_,xM hn (by omega) hG (by rw [htl];exact hR),by rw [length_append,htl];rfl,by rw [map_append];rfl⟩
 .rintro ρ ⟨tb,v5,v6,v7,hG,htl,rfl⟩;walk_at "r";exact q tb hG htl
theorem qO:∀ds Q,bQ ds Q->dy eW kc ds Q:=fun ds Q h=>by
 unfold bQ at h
 split at h
 .exact oZ _ _ h
 .exact h.elim
def eX:PTS:=(aG (kJ (pB (pOp lw (pSl 0) (pFz (gB ap)))) (bU (zN ap)) cM) (aG (aQ (pOp xX (pFz (pCB hZ (af (pSl 1) ap))) (pFz (pC (.int 1)))) (ao 2)) (aG (aQ (BP (pFz (pOp fIx (pSl 1) (pSl 2))) (pCB wJ (af (pFz (pOp fIx (pSl 1) (pSl 2))) ap))) (ao 3)) (aG (aQ (gB (af (pFz (aZ 3)) ap)) (ao 4)) (aG (jE (pB (pOp zU (pSl 2) (pFz (pOp wL (pFz (pC (.int 1))) (pSl 3))))) (aG (aQ (pOp xX (pSl 2) (pFz (pOp wL (pFz (pC (.int 1))) (pSl 3)))) (ao 5)) (aG (aQ (cD [none,some 5] (qc (af (pFz (pCB hZ (af (pSl 0) ap))) ap)) (ao 0) (pB (pOp lw (pFz (pOp uJ (pFz (pOp CL (pSl 1) (pSl 0))) (pFz (pC (.int 1))))) (pFz (pC (.int 1))))) (aZ 0)) (ao 6)) (aG (aQ (pOp fIx (pFz (pOp fIx (pSl 1) (pSl 2))) (pSl 3)) (ao 7)) (aG (aQ (cD [none,some 7,some 3,some 1,some 5,some 0] (dq (aZ 6)) (ao 0) (pB (pOp lw (pFz (pOp cF (pFz (pOp fIx (pFz (pOp fIx (pSl 3) (pSl 4))) (pSl 0))) (pFz (pOp fIx (pFz (pOp fIx (pSl 5) (pSl 0))) (pSl 2))))) (pSl 1))) (aZ 0)) (ao 6)) (aG (aQ (aZ 5) (ao 2)) (aG (aQ (pOp fIx (pSl 6) (pFz (pC (.int 0)))) (ao 3)) (aQ (pOp cF (pFz (gB (af (pFz (aZ 3)) ap))) (pSl 4)) (ao 4))))))))) (bU (pCB dN (af (pSl 4) ap))))))))
theorem o0(ls td:List D)(Q:PV->Prop)(h:bR ([.lst ls,.lst td]) Q):dy eX ke ([.lst ls,.lst td]) Q:=by
 show eX _ [some (.dat (.lst ls)),some (.dat (.lst td)),none,none,none,none,none,none];obtain⟨ws,rfl,tb,rfl,⟨h8,hw60,hM,hta⟩,q⟩:=h;have hlm:(fe ws).length=ws.length:=length_map _;have htm:(tb.map b5).length=tb.length:=length_map _;have e1:=lP ws;have e2:=kf ws;have h256:=cG h8;have hp0:0<2^ws.length:=pow_pos (by decide);unfold Aq at q;walk_at "r";rw [e2]
 refine dz (fun c=>?_) (fun c=>?_)
 .have hz:tb.length - 1=0:=by rw [hta,c];rfl
  rw [if_pos hz] at q;walk_at "r";exact q
 .have hn0:0<ws.length:=length_pos_iff.mpr c;have h2:2<=2^ws.length:=Nat.le_trans (show 2<=2^1 by decide) (pow_le_pow_right (n:=2) (by decide) hn0);rw [if_neg (by omega)] at q;have hMl:tb.length - 1<tb.length:=by omega
  have eM:((tb.map b5).length:Int) - 1=((tb.length - 1:Nat):Int):=by omega
  have hwid:(tb.getD (tb.length - 1) []).length=ws.length:=by rw [hM _ hMl,length_map,length_range]
  have hle:=Ar h8 hw60 hM hta (tb.length - 1) hMl
  have hbig:∀n∈tb.getD (tb.length - 1) [],n.natAbs<2^64:=fun n hn=>by
   obtain⟨i,hi,e⟩:=mem_iff_getElem.mp hn;have:=hle i (by omega)
   have ec:cell tb (tb.length - 1) i=n:=by
    unfold cell;rw [getD_eq_getElem?_getD,getElem?_eq_getElem hi];exact e
   rw [ec] at this;omega
  have hmx:=gW (l:=tb.getD (tb.length - 1) []) (by omega);have htop:xI tb<ws.length:=by unfold xI;rw [<- hwid];exact idxOf_lt_length_of_mem hmx.1
  have ht0:xI tb=(tb.getD (tb.length - 1) []).idxOf (u5 (tb.getD (tb.length - 1) [])):=rfl;have hbit:(tb.length - 1).testBit (xI tb)=true:=by rw [hta,testBit_two_pow_sub_one];exact decide_eq_true htop
  generalize xI tb=I0 at htop ht0 hbit q;have hat:=hU (tb:=tb) hMl;walk_at "r";rw [eM];refine⟨_,hat,?_⟩;walk_at "r";refine⟨_,hat,?_⟩;walk_at "r";intro mx hx1 hx2;have emx:=lG hx1 hx2;subst emx;have cnd:(tb.getD (tb.length - 1) []).length<=1000/\(∀n∈tb.getD (tb.length - 1) [],n.natAbs<2^64)/\u5 (tb.getD (tb.length - 1) [])∈tb.getD (tb.length - 1) []:=⟨by omega,hbig,hx1⟩
  walk_at "r";rw [<- ht0];refine⟨fun mm ρ=>∃(T:List Nat) (m i:Nat) (v5 v6 v7:Option PV),mm=m/\m<tb.length/\i<ws.length/\m.testBit i=true/\T.length+m<=256/\T.reverse++u6 ws tb m i=u6 ws tb (tb.length - 1) I0/\ρ=[some (.dat (.lst (fe ws))),some (.dat (.lst (tb.map b5))),some (.dat (.int (m:Int))),some (.dat (.int (i:Int))),some (.own ((i::T).map nD)),v5,v6,v7],⟨_,[],tb.length - 1,I0,_,_,_,rfl,hMl,htop,hbit,by show 0+_<=_;omega,rfl,rfl⟩,?_⟩
  rintro mm ρ ⟨T,m,i,v5,v6,v7,rfl,hm,hi,hb',hTl,hpath,rfl⟩;have hTm:((i::T).map nD).length=T.length+1:=by rw [length_map];rfl
  have hS:0<=(i:Int)/\(i:Int)<=1000000/\(1:Int).natAbs<2^64:=⟨by omega,by omega,by decide⟩
  have eS:=EI i;walk_at "r";rw [eS]
  refine p8 (fun c2=>?_) (fun c2=>?_)
  .have hne:mm≠2^i:=fun z=>c2 (by rw [z]);obtain⟨o1,o2,o3,o4,o5⟩:=Ap h8 hM hta hm hi hb' hne;have hpw:0<2^i:=pow_pos (by decide);have epath:=xH ws tb hne o1;have hr2:mm - 2^i<2^ws.length:=lt_of_le_of_lt (sub_le _ _) (by omega);have hrl:mm - 2^i<tb.length:=by omega
   have emr:=Cn h8 hr2;have ec:xF ws tb mm i=(mem (mm - 2^i)).filter fun x=>decide (cell tb (mm - 2^i) x+lp ws x i=cell tb mm i):=rfl;have hcn:=ne_nil_of_mem o5;have er:(mm:Int) - ((2^i:Nat):Int)=((mm - 2^i:Nat):Int):=by omega
   have hml:=oM (mm - 2^i);have hwr:(tb.getD (mm - 2^i) []).length=ws.length:=by rw [hM _ hrl,length_map,length_range]
   have hwm':(tb.getD mm []).length=ws.length:=by rw [hM _ hm,length_map,length_range]
   have hdec:mm - 2^i<mm:=by omega
   have hTl2:T.length+1+(mm - 2^i)<=256:=by omega
   have hnx:nxt ws tb mm i=(xF ws tb mm i).headD 0:=rfl;generalize hR:mm - 2^i=r at o2 o4 hr2 hrl emr ec er hml hwr hdec hTl2 epath;walk_at "r";rw [eS,er,hlm];walk_at "r"
   refine cfR (fun x=>r.testBit x) nD (fun x hx v K1 K2 k1 k2=>?_) (fun v=>?_)
   .have e:=qx r x;show (0:Int)<=(x:Int)/\gz (decide (Builtin.bitAnd ((r:Int) / 2^(x:Int).toNat) 1=1)) _ _;refine⟨by omega,?_⟩;rw [e]
    cases h:r.testBit x with
    | true=>exact k1 _ h
    | false=>exact k2 _ h
   rw [toNat_natCast,emr];walk_at "r";refine⟨_,hU hm,?_⟩;walk_at "r";refine⟨_,fV (by omega),?_⟩;walk_at "r"
   refine cf1 (e:=nD) (xs:=mem r) (fun x=>decide (cell tb r x+lp ws x i=cell tb mm i)) nD (fun x hx v K1 K2 k1 k2=>?_) (fun v=>?_)
   .have hxn:x<ws.length:=gU hr2 ((mem_iff (by omega)).mp hx);walk_at "r";refine⟨_,hU hrl,?_⟩;walk_at "r";refine⟨_,fV (by omega),?_⟩;walk_at "r";refine⟨_,t5 hxn,?_⟩;walk_at "r";refine⟨_,tV hi,?_⟩;walk_at "r"
    refine dz (fun c=>?_) (fun c=>?_)
    .exact k1 _ (decide_eq_true c)
    .exact k2 _ (decide_eq_false c)
   rw [<- ec];have hh:=Co hcn;rw [<- hnx] at hh;walk_at "r";refine⟨_,hh,?_⟩;walk_at "r";exact⟨r,hdec,i::T,r,nxt ws tb mm i,_,_,_,rfl,hrl,o3,o4,hTl2,by rw [reverse_cons,append_assoc,<- hpath,epath];rfl,rfl⟩
  .have he:mm=2^i:=by omega
   rw [tY _ _ he] at hpath;have hrev:(u6 ws tb (tb.length - 1) I0).reverse=i::T:=by rw [<- hpath,reverse_append,reverse_reverse];rfl
   rw [hrev] at q;walk_at "r";exact q
theorem qP:∀ds Q,bR ds Q->dy eX ke ds Q:=fun ds Q h=>by
 unfold bR at h
 split at h
 .exact o0 _ _ _ h
 .exact h.elim
def dL:PTS:=(aG (kJ (pB (pOp (fIs true) (pFz (bD bb (af (pFz (aZ 0)) (af (pFz (aZ 1)) ap)))) (pFz (pC (.bl false))))) (bU (pC (.bl false))) cM) (Am bx (af (pFz (aZ 0)) (af (pFz (aZ 1)) ap)) (bU (pC (.bl false))) (GX xcs "NoTable" (bU (pC (.bl true))) Es)))
theorem lZ(c:Str)(ns:List Str)(fs:List D)(e:D)(Q:PV->Prop)(h:aX ([.obj c ns fs,e]) Q):dy dL iB ([.obj c ns fs,e]) Q:=by
 show dL _ [some (.dat (.obj c ns fs)),some (.dat (e))];obtain⟨rfl,rfl,ps,rfl,⟨oe,hw60,hno⟩,q⟩:=h;have i1:Fc "NoTable" "NoTable"=true:=by decide +kernel
 walk_at "r"
 refine⟨fun h=>?_,fun tb h8 ht b hb=>?_⟩
 .walk_at "r"
  refine⟨fun _=>?_,fun tb h8 ht=>⟨fun z=>absurd z (hno.tab h8 ht),fun _=>?_⟩⟩
  .walk_at "r";exact q
  .walk_at "r";exact q
 .have hf:b=false:=by
   cases b with
   | false=>rfl
   | true=>exact absurd (hb.mp rfl) (hno.tab h8 ht)
  subst hf;walk_at "r"
  refine⟨fun _=>?_,fun tb h8 ht=>⟨fun z=>absurd z (hno.tab h8 ht),fun _=>?_⟩⟩
  .walk_at "r";exact q
  .walk_at "r";exact q
theorem mP:∀ds Q,aX ds Q->dy dL iB ds Q:=fun ds Q h=>by
 unfold aX at h
 split at h
 .exact lZ _ _ _ _ _ h
 .exact h.elim
def gg:PTS:=(aG (aQ (pOp gC (pFz (ck aA 0 ap)) (pFz (pC (.int 6)))) (ao 2)) (B7 3 (xy 1) (rW (Gs (aQ (pOp cF (pFz (pC (.int 1))) (pFz (pOp gC (pFz (ck aA 0 ap)) (pFz (pOp xX (pFz (pCB hZ (af (pSl 1) ap))) (pFz (pC (.int 1)))))))) (ao 4))) (rW (Al 3 5 gC (ck aA 0 ap) (pCB hZ (af (pFz (pOp fIx (pSl 3) (pSl 4))) ap))) (rW (Af (EG (pB (pOp fLt (pSl 2) (pFz (pC (.int 2))))) (rW (Gs (aQ (pOp fIx (pFz (gB (af (pFz (pC (.int 1))) (af (pFz (pUn rJ (pFz (pC (.int 1))))) (af (pFz (pC (.int 2))) (af (pFz (pUn rJ (pFz (pC (.int 2))))) (af (pFz (pOp Gf (pFz (pC (.int 10))) (pFz (pC (.int 20))))) (af (pFz (pUn rJ (pFz (pOp Gf (pFz (pC (.int 10))) (pFz (pC (.int 20))))))) ap)))))))) (pFz (pOp gC (pFz (ck aA 0 ap)) (pFz (pC (.int 6)))))) (ao 6))) (Ak 3 (pOp cF (pFz (pOp fIx (pFz (pOp fIx (pSl 3) (pSl 4))) (pSl 5))) (pSl 6)) (aZ 4) (aZ 5))) (EG (pB (pOp lw (pSl 2) (pFz (pC (.int 2))))) (B6 (pOp fIx (pFz (gB (af (pFz (pC (.bl true))) (af (pFz (pC (.bl false))) (af (pFz (pC .non)) (af (pFz (pC (.str [48]))) (af (pFz (zN (af (pFz (pC (.int 0))) ap))) ap))))))) (pFz (pOp gC (pFz (ck aA 0 ap)) (pFz (pC (.int 5)))))) (aZ 4) (aZ 5)) (EG (pB (pOp lw (pSl 2) (pFz (pC (.int 3))))) (tS 3 (zV 3 (pOp fIx (pSl 3) (pFz (pC (.int 0)))) (pOp fIx (pSl 3) (pSl 4)) (aZ 4) (pC (.int 0)))) (EG (pB (pOp lw (pSl 2) (pFz (pC (.int 4))))) (tS 3 (wx 3 (pOp fIx (pFz (gB (af (pFz (pOp cF (pFz (pOp fIx (pSl 3) (pSl 4))) (pFz (gB (af (pFz (pC (.int 0))) ap))))) (af (pFz (eB (pFz (pOp fIx (pSl 3) (pSl 4))) (dX (pC (.int 1))) eO)) (af (pFz (pC .non)) (af (pFz (Ez [(Sum.inl 0)] (af (pFz (pC (.int 0))) ap))) (af (pFz (zN ap)) ap))))))) (pFz (pOp gC (pFz (ck aA 0 ap)) (pFz (pC (.int 5)))))) (aZ 4))) (rW (tS 3 (aQ (gB (af (pFz (eB (pSl 3) (dX (pC (.int 1))) eO)) (af (pFz (pOp cF (pSl 3) (pFz (gB (af (pFz (pOp fIx (pSl 3) (pFz (pC (.int 0))))) ap))))) (af (pFz (gB (af (pFz (aZ 3)) ap))) (af (pFz (eB (pSl 3) eO (dX (pUn rJ (pFz (pC (.int 1))))))) (af (pFz (pC .non)) (af (pFz Ee) (af (pFz (pC (.str [97,98]))) (af (pFz (pC (.bl true))) ap))))))))) (ao 7))) (tS 3 (aQ (pOp fIx (pSl 7) (pFz (pOp gC (pFz (ck aA 0 ap)) (pFz (pC (.int 8)))))) (ao 3))))))))) (tS 3 (bU (aZ 3))))))))
theorem qQ(ds td:List D)(Q:PV->PV->Prop)(h:cf (.own ds) ([.lst td]) Q):u4 gg lS (.own ds) ([.lst td]) Q:=by
 show gg _ [some (.own ds),some (.dat (.lst td)),none,none,none,none,none,none];obtain⟨zs,rfl,tb,rfl,ws,⟨hG,hl,n0,n8⟩,⟨hz,h4,hzu⟩,q⟩:=h;have htm:(tb.map b5).length=tb.length:=length_map _;have h256:=cG n8;have h2:2<=2^ws.length:=Nat.le_trans (show 2<=2^1 by decide) (pow_le_pow_right (n:=2) (by decide) n0);have hw8:=t9 hG n8;have g0:Dk zs/\0<zs.length/\zs.length<=100000:=⟨hz,by omega,by omega⟩
 walk_at "r";rintro a y1 ha0 ha1 hd1 hl1;have g1:Dk y1/\0<y1.length/\y1.length<=100000:=⟨hd1,by omega,by omega⟩
 walk_at "r";refine⟨_,_,_,rfl,ij.lst _,Av tb,by omega,?_⟩;walk_at "r";rintro b y2 hb0 hb1 hd2 hl2
 obtain⟨m,hm,hm2,hm0⟩:∃m:Nat,1+b % (((tb.map b5).length:Int) - 1)=(m:Int)/\m<tb.length/\0<m:=by
  have e0:=emod_nonneg b (show ((tb.map b5).length:Int) - 1≠0 by omega);have e1:=emod_lt_of_pos b (show 0<((tb.map b5).length:Int) - 1 by omega);exact⟨(1+b % (((tb.map b5).length:Int) - 1)).toNat,by omega,by omega,by omega⟩
 have g2:Dk y2/\0<y2.length/\y2.length<=100000:=⟨hd2,by omega,by omega⟩
 have hwid:=iU hG m hm2;walk_at "r";rw [hm];walk_at "r";rintro c y3 hc0 hc1 hd3 hl3;refine⟨rfl,?_⟩;unfold xA;rw [iM,kg];have hat:=hU (tb:=tb) hm2;have hil:((tb.getD m []).map D.int).length=ws.length:=by rw [length_map];exact hwid
 walk_at "r";refine⟨_,hat,?_⟩;walk_at "r"
 obtain⟨i,hi,hi2⟩:∃i:Nat,c % (((tb.getD m []).map D.int).length:Int)=(i:Int)/\i<ws.length:=by
  have e0:=emod_nonneg c (show (((tb.getD m []).map D.int).length:Int)≠0 by omega);have e1:=emod_lt_of_pos c (show 0<(((tb.getD m []).map D.int).length:Int) by omega);exact⟨(c % (((tb.getD m []).map D.int).length:Int)).toNat,by omega,by omega⟩
 rw [hi];have g3:Dk y3/\0<y3.length/\y3.length<=100000:=⟨hd3,by omega,by omega⟩
 refine⟨fun ρ mo=>∃(w:PV) (yy:List Int) (v6 v7:Option PV),((∃xs,w=.own xs)\/(∃d,w=.dat d))/\dh w.d/\NoT ws w.d/\Dk yy/\y3.length<=yy.length+1/\yy.length<=y3.length/\cl 3 ρ mo=[some (.own (yy.map .int)),some (.dat (.lst (tb.map b5))),some (.dat (.int (a % 6))),some w,some (.dat (.int (m:Int))),some (.dat (.int (i:Int))),v6,v7],?_,?_⟩
 .have hset:∀(v:Int),v≠cell tb m i->dh (.lst ((zq tb m i v).map b5))/\NoT ws (.lst ((zq tb m i v).map b5)):=fun v hv=>⟨cQ (by rw [length_map];show (tb.set m _).length<=_;rw [length_set];omega) (oN (EN hw8 hm2)),xO n8 hG hl (by show (tb.set m _).length=_;rw [length_set]) (Cr hm2 (by omega) hv) (fun r hr=>by
   have hr:r<(tb.set m _).length:=hr;rw [length_set] at hr;rw [qB hm2]
   split
   .rw [length_set];exact hwid
   .exact iU hG r hr)⟩
  have hrl:(tb.map fun r=>r.map D.int).length=tb.length:=length_map _;walk_at "r"
  refine dz (fun c3=>?_) (fun c3=>?_)
  .walk_at "r";rintro d y4 hd0 hd1' hd4 hl4;obtain⟨mo,hmo1,hmo2⟩:=Cs d;walk_at "r";refine⟨_,hmo1,?_⟩;walk_at "r";rw [kg];refine⟨_,hat,?_⟩;walk_at "r";refine⟨_,fV (by omega),?_⟩;walk_at "r";refine⟨m,_,by rw [hrl];exact fX hm2,oP hm2,?_⟩;walk_at "r";refine⟨i,by rw [hil];exact fX hi2,?_⟩;rw [zr];have hs:=hset (cell tb m i+mo) (by omega);exact⟨_,y4,_,_,.inl ⟨_,rfl⟩,hs.1,hs.2,hd4,by omega,by omega,rfl⟩
  .walk_at "r"
   refine dz (fun c4=>?_) (fun c4=>?_)
   .walk_at "r";rintro d y4 hd0 hd1' hd4 hl4;obtain⟨v,hv1,hv2,hv3⟩:=Ct d;walk_at "r";refine⟨_,hv1,?_⟩;walk_at "r";refine⟨m,_,by rw [hrl];exact fX hm2,oP hm2,?_⟩;walk_at "r";refine⟨i,by rw [hil];exact fX hi2,?_⟩;have hd:Srt (.lst (((tb.getD m []).map D.int).set i v))/\(aR (.lst (((tb.getD m []).map D.int).set i v))).length<=1000:=⟨⟨rfl,fun x hx=>(mem_or_eq_of_mem_set hx).elim (lQ _ x) fun e=>by rw [e];exact hv2⟩,by show (((tb.getD m []).map D.int).set i v).length<=1000;rw [length_set];omega⟩
    have hno:bK (.lst (((tb.getD m []).map D.int).set i v)) ws.length=false:=xN (x:=v) (mem_set (by rw [hil];exact hi2) v) hv3;rw [map_set,kg];exact⟨_,y4,_,_,.inl ⟨_,rfl⟩,cQ (by rw [length_set];omega) (oQ hw8 hd),sf hm2 hno,hd4,by omega,by omega,rfl⟩
   .walk_at "r"
    refine dz (fun c5=>?_) (fun c5=>?_)
    .have hat0:=hU (tb:=tb) (m:=0) (by omega);unfold tS;rw [iM,kg];walk_at "r";refine⟨_,hat0,?_⟩;walk_at "r";refine⟨_,hat,?_⟩;walk_at "r";refine⟨m,by rw [htm];exact fX hm2,?_⟩;walk_at "r";have hs:=Cu n8 hG hl hm2 hm0;refine⟨0,by rw [length_set,htm];exact fX (i:=0) (by omega),?_⟩;exact⟨_,y3,_,_,.inl ⟨_,rfl⟩,hs.1,hs.2,hd3,by omega,by omega,rfl⟩
    .walk_at "r"
     refine dz (fun c6=>?_) (fun c6=>?_)
     .have l1:((tb.getD m []).map D.int).length+[D.int 0].length<=1000000:=by show _+1<=_;omega
      unfold tS;rw [iM,kg];walk_at "r";refine⟨_,hat,?_⟩;walk_at "r";refine⟨_,hat,?_⟩;walk_at "r";rintro d y4 hd0 hd1' hd4 hl4;obtain⟨v,hv1,hv2,hv3⟩:=zt hwid n8 n0 d;walk_at "r";refine⟨_,hv1,?_⟩;walk_at "r";refine⟨m,by rw [htm];exact fX hm2,?_⟩;exact⟨_,y4,_,_,.inl ⟨_,rfl⟩,cQ (by rw [length_set];omega) (oQ hw8 hv2),sf hm2 hv3,hd4,by omega,by omega,rfl⟩
     .have hat0:=hU (tb:=tb) (m:=0) (by omega);have l1:(tb.map b5).length+[b5 (tb.getD 0 [])].length<=1000000:=by show _+1<=_;omega
      refine (show tS 3 _ _ _ _ from ?_);unfold tS;rw [iM,kg];walk_at "r";refine⟨_,hat0,?_⟩;walk_at "r";rintro d y4 hd0 hd1' hd4 hl4;obtain⟨v,hv1,hv2,hv3⟩:=zu (ws:=ws) hw8 hl (by omega) (by omega) (b5 (tb.getD 0 [])) (nL (by rw [iU hG 0 (by omega)];omega)) d;walk_at "r";refine⟨_,hv1,?_⟩;exact⟨_,y4,_,_,.inr ⟨_,rfl⟩,hv2,hv3,hd4,by omega,by omega,rfl⟩
 .rintro ρ mo ⟨w,yy,v6,v7,hw,ho,hno,hdy,hy1,hy2,e⟩;show tS 3 _ _ ρ mo;unfold tS;rw [e]
  rcases hw with ⟨xs,rfl⟩|⟨d,rfl⟩
  .walk_at "r";exact q _ yy ho hno hdy (by omega) (by omega)
  .walk_at "r";exact q _ yy ho hno hdy (by omega) (by omega)
theorem sC:∀p ds Q,p.isOwn=true->cf p ds Q->u4 gg lS p ds Q:=fun p ds Q _ h=>by
 unfold cf at h
 split at h
 .exact qQ _ _ _ h
 .exact h.elim
def eh:PTS:=(aG (aQ (gB ap) (ao 1)) (aG (jb (qe (af (pFz (aZ 0)) ap)) (ql 2 (gj (ao 2) (gj (ao 3) rF))) (fm (Fd 1 (cD [none,some 2,some 3] (qc (af (pFz (pCB hZ (af (pSl 3) ap))) ap)) (ao 0) (pB (pOp (Ab false) (pFz (pOp fIx (pSl 2) (pSl 0))) (pFz (zN (af (pFz (pC (.int 0))) (af (pFz (pC (.int 1))) ap)))))) (zN (af (pFz (aZ 1)) (af (pFz (aZ 0)) ap))))))) (aG (aQ (gB ap) (ao 4)) (aG (jb (dq (pOp cF (pFz (eB (pSl 1) eO (dX (pC (.int 4))))) (pFz (eB (pSl 1) (dX (pUn rJ (pFz (pC (.int 4))))) eO)))) (ql 2 (gj (ao 2) (gj (ao 5) rF))) (B7 6 (xy 0) (rW (B6 (pOp lw (pFz (pOp fIx (pFz (pOp fIx (pSl 0) (pSl 2))) (pSl 5))) (pFz (pC (.int 1)))) (aZ 2) (aZ 5)) (tS 6 (fm (xW 4 (aZ 6))))))) (bU (aZ 4))))))
theorem mQ(td:List D)(Q:PV->Prop)(h:bB ([.lst td]) Q):dy eh jj ([.lst td]) Q:=by
 show eh _ [some (.dat (.lst td)),none,none,none,none,none,none];obtain⟨tb,rfl,ws,⟨hG,hl,n8⟩,q⟩:=h;have htm:(tb.map b5).length=tb.length:=length_map _;have h256:=cG n8;have hw8:=t9 hG n8;walk_at "r"
 refine⟨fun k ρ=>∃(sp:List (Nat×Nat)) (v2 v3:Option PV),(∀p∈sp,p.1<tb.length/\p.2<ws.length)/\sp.length<=8*k/\ρ=[some (.dat (.lst (tb.map b5))),some (.own (sp.map fun p=>.tup [nD p.1,nD p.2])),v2,v3,none,none,none],⟨[],_,_,(fun p hp=>(not_mem_nil hp).elim),Nat.le_refl _,rfl⟩,?_,?_⟩
 .rintro k ρ d hk ed ⟨sp,v2,v3,hsp,hsl,rfl⟩;have hk:k<tb.length:=by rw [htm] at hk;exact hk
  have hwid:=iU hG k hk;subst ed;have hil:((tb.getD k []).map D.int).length=ws.length:=by rw [length_map];exact hwid
  rw [dY (show (tb.map b5)[k]?=some (b5 (tb.getD k [])) by rw [getElem?_map,getElem?_eq_getElem hk,getD_eq_getElem?_getD,getElem?_eq_getElem hk];rfl)];have hsm:(sp.map fun p=>D.tup [nD p.1,nD p.2]).length=sp.length:=length_map _;have fz:[D.int 0,D.int 1].all D.fl=true:=rfl;walk_at "r"
  refine cfR (fun i=>inD (.int (cell tb k i)) [.int 0,.int 1]) (fun i=>.tup [nD k,nD i]) (fun i hi v K1 K2 k1 k2=>?_) (fun v=>?_)
  .rw [toNat_natCast,hil] at hi;walk_at "r";refine⟨_,fV (by omega),?_⟩;walk_at "r"
   refine yE (fun c=>?_) (fun c=>?_)
   .walk_at "r";exact k1 _ c
   .exact k2 _ c
  rw [toNat_natCast,hil]
  have hfl:(((List.range ws.length).filter fun i=>inD (.int (cell tb k i)) [.int 0,.int 1]).map fun i=>D.tup [nD k,nD i]).length<=8:=by
   rw [length_map];refine Nat.le_trans (length_filter_le ..) ?_;rw [length_range];exact n8
  walk_at "r"
  refine⟨sp++((List.range ws.length).filter fun i=>inD (.int (cell tb k i)) [.int 0,.int 1]).map fun i=>(k,i),_,_,fun p hp=>?_,?_,by rw [map_append,map_map];rfl⟩
  .rcases mem_append.mp hp with h|h
   .exact hsp p h
   .obtain⟨i,hi,rfl⟩:=mem_map.mp h;exact⟨hk,mem_range.mp (mem_filter.mp hi).1⟩
  .rw [length_map] at hfl;rw [length_append,length_map];omega
 rintro ρ ⟨sp,v2,v3,hsp,hsl,rfl⟩;rw [htm] at hsl;have c1:=nX (fun p:Nat×Nat=>D.tup [nD p.1,nD p.2]) sp none (some 4);have c2:=nX (fun p:Nat×Nat=>D.tup [nD p.1,nD p.2]) sp (some (-4)) none;have l1:=e7 sp none (some 4);have l2:=e7 sp (some (-4)) none;have m1:∀p∈dD sp none (some 4)++dD sp (some (-4)) none,p∈sp:=fun p hp=>(mem_append.mp hp).elim (fun h=>mem_of_mem_drop (mem_of_mem_take h)) fun h=>mem_of_mem_drop (mem_of_mem_take h)
 have l3:(dD sp none (some 4)++dD sp (some (-4)) none).length<=4096:=by rw [length_append];omega
 walk_at "r";rw [c1,c2,<- map_append];refine⟨by rw [length_map,length_map];omega,?_⟩;generalize dD sp none (some 4)++dD sp (some (-4)) none=S4 at m1 l3;walk_at "r"
 refine Hj (α:=Nat×Nat) (e:=fun p=>D.tup [nD p.1,nD p.2]) (xs:=S4) (fun (pre:List (Nat×Nat)) ρ=>∃(es:List D) (v2 v5 v6:Option PV),(∀e∈es,dh e/\NoT ws e)/\es.length=pre.length/\ρ=[some (.dat (.lst (tb.map b5))),some (.own (sp.map fun p=>.tup [nD p.1,nD p.2])),v2,v3,some (.own es),v5,v6]) ⟨[],_,_,_,(fun p hp=>(not_mem_nil hp).elim),rfl,rfl⟩ ?_ ?_
 .rintro pre p suf ρ ej ⟨es,v2,v5,v6,hes,hel,rfl⟩;have hp:=hsp p (m1 p (by rw [ej];simp));have hpl:pre.length<S4.length:=by rw [ej];simp
  have hm:=hp.1;have hwid:=iU hG p.1 hm;have hil:((tb.getD p.1 []).map D.int).length=ws.length:=by rw [length_map];exact hwid
  have hrl:(tb.map fun r=>r.map D.int).length=tb.length:=length_map _;show ql 2 _ (.dat (.tup [.int (p.1:Int),.int (p.2:Int)])) _ _;walk_at "r";refine⟨_,_,_,rfl,ij.lst _,Av tb,by omega,?_⟩;walk_at "r";refine⟨_,hU hm,?_⟩;walk_at "r";refine⟨_,fV (by omega),?_⟩;walk_at "r";refine⟨p.1,_,by rw [hrl];exact fX hm,oP hm,?_⟩;walk_at "r";refine⟨p.2,by rw [hil];exact fX hp.2,?_⟩;generalize hB:D.bl (decide ((tb.getD p.1 []).getD p.2 0=1))=v
  have hv2:v.sort=true:=by rw [<- hB];rfl
  have hv3:ky v=false:=by rw [<- hB];rfl
  have hd:Srt (.lst (((tb.getD p.1 []).map D.int).set p.2 v))/\(aR (.lst (((tb.getD p.1 []).map D.int).set p.2 v))).length<=1000:=⟨⟨rfl,fun x hx=>(mem_or_eq_of_mem_set hx).elim (lQ _ x) fun e=>by rw [e];exact hv2⟩,by show (((tb.getD p.1 []).map D.int).set p.2 v).length<=1000;rw [length_set];omega⟩
  have hno:bK (.lst (((tb.getD p.1 []).map D.int).set p.2 v)) ws.length=false:=xN (x:=v) (mem_set (by rw [hil];exact hp.2) v) hv3;unfold tS;rw [iM,map_set,kg];walk_at "r";refine⟨es++[.lst ((tb.map b5).set p.1 (.lst (((tb.getD p.1 []).map D.int).set p.2 v)))],_,_,_,fun e he=>?_,by rw [length_append,length_append,hel];rfl,rfl⟩
  rcases mem_append.mp he with h|h
  .exact hes e h
  .rw [mem_singleton.mp h];exact⟨cQ (by rw [length_set];omega) (oQ hw8 hd),sf hm hno⟩
 rintro ρ ⟨es,v2,v5,v6,hes,hel,rfl⟩;walk_at "r";exact q es hes (by omega)
theorem o7:∀ds Q,bB ds Q->dy eh jj ds Q:=fun ds Q h=>by
 unfold bB at h
 split at h
 .exact mQ _ _ h
 .exact h.elim
def eY:PTS:=(aG (aQ (pOp gC (pFz (ck aA 0 ap)) (pFz (pC (.int 26)))) (ao 1)) (aG (aQ (cD [none,some 1] (qc (af (pFz (pC (.int 3))) ap)) (ao 0) iW (pOp fIx (pFz (pC (.str [97,98,99,100,101,102,103,104,105,106,107,108,109,110,111,112,113,114,115,116,117,118,119,120,121,122]))) (pFz (pOp gC (pFz (pOp cF (pSl 1) (pFz (pOp rc (pFz (pC (.int 5))) (pSl 0))))) (pFz (pC (.int 26))))))) (ao 2)) (aG (aQ (gB ap) (ao 3)) (aG (jb (dq (aZ 2)) (ao 4) (fm (Fd 3 (cD [none,some 4] (dq (aZ 2)) (ao 0) iW (pOp cF (pSl 1) (pSl 0)))))) (aG (fm (wK 3 (pOp gC (pFz (ck aA 0 ap)) (pFz (pC (.int 9)))))) (aG (aQ (pOp gC (pFz (ck aA 0 ap)) (pFz (pC (.int 8)))) (ao 5)) (bU (Gn (pOp cF (pFz (eB (pSl 3) (dX (aZ 5)) eO)) (pFz (eB (pSl 3) eO (dX (aZ 5)))))))))))))
theorem o8(ds:List D)(Q:PV->PV->Prop)(h:b7 (.own ds) ([]) Q):u4 eY kh (.own ds) ([]) Q:=by
 show eY _ [some (.own ds),none,none,none,none,none];obtain⟨zs,rfl,⟨hz,h3,hzu⟩,q⟩:=h;have g0:Dk zs/\0<zs.length/\zs.length<=100000:=⟨hz,by omega,by omega⟩
 walk_at "r";rintro a y1 ha0 ha1 hd1 hl1;obtain⟨f,hf⟩:∃f:Nat,a % 26=(f:Int):=⟨(a % 26).toNat,by omega⟩
 have hf26:f<26:=by omega
 walk_at "r";rw [hf]
 refine cmR (fun k=>.str [l5 f k]) (fun k hk v K1 k1=>?_) (fun v=>?_)
 .have hk:k<3:=hk;walk_at "r";rw [show ((f:Int)+5*(k:Int)) % 26=(((f+5*k) % 26:Nat):Int) by omega];exact⟨_,xK (mod_lt _ (by decide)),k1 _⟩
 have e3:(List.range (Int.toNat 3)).map (fun k=>D.str [l5 f k])=(List.range 3).map fun k=>D.str [l5 f k]:=rfl;rw [e3];have l3:((List.range 3).map fun k=>D.str [l5 f k]).length=3:=rfl;walk_at "r"
 refine⟨fun k ρ=>∃v4:Option PV,ρ=[some (.own (y1.map .int)),some (.dat (.int (f:Int))),some (.dat (.lst ((List.range 3).map fun k=>.str [l5 f k]))),some (.own ((w9 f k).map .str)),v4,none],⟨_,rfl⟩,?_,?_⟩
 .rintro k ρ d hk ed ⟨v4,rfl⟩;have hk:k<3:=hk;have hwl:=xS f k;subst ed;rw [show itD ((List.range 3).map fun k=>D.str [l5 f k]) k=.str [l5 f k] from dY (by rw [getElem?_map,getElem?_range hk];rfl)];have hwm:((w9 f k).map D.str).length=(w9 f k).length:=length_map _;walk_at "r"
  refine cm1 (e:=fun k=>D.str [l5 f k]) (xs:=List.range 3) (fun b=>.str [l5 f k,l5 f b]) (fun b hb v K1 k1=>?_) (fun v=>?_)
  .walk_at "r";exact k1 _
  have hml:((List.range 3).map fun b=>D.str [l5 f k,l5 f b]).length=3:=rfl;walk_at "r";exact⟨_,by rw [xR,map_append,map_map];rfl⟩
 rintro ρ ⟨v4,rfl⟩;rw [l3];have hwl:=xS f 3;have hwm:((w9 f 3).map D.str).length=(w9 f 3).length:=length_map _;have hnd:(w9 f 3).Nodup:=Gz ⟨f,hf26⟩;have h2:∀w∈w9 f 3,w.length=2/\Lts w:=fun w hw=>ET hw;generalize w9 f 3=W at hwl hwm hnd h2;have hwl:W.length=9:=hwl;have g1:Dk y1/\0<y1.length/\y1.length<=100000:=⟨hd1,by omega,by omega⟩
 walk_at "r";rintro b y2 hb0 hb1 hd2 hl2;obtain⟨i,hi,hi9⟩:∃i:Nat,b % 9=(i:Int)/\i<9:=⟨(b % 9).toNat,by omega,by omega⟩
 have g2:Dk y2/\0<y2.length/\y2.length<=100000:=⟨hd2,by omega,by omega⟩
 walk_at "r";rw [hi];refine⟨i,.str W[i],⟨GZ (by omega),by omega⟩,by rw [getElem?_map,getElem?_eq_getElem (by omega)];rfl,?_⟩;rw [xl];have hVl:(W.eraseIdx i).length=8:=by rw [length_eraseIdx,if_pos (by omega)];omega
 have hVn:(W.eraseIdx i).Nodup:=hnd.sublist (eraseIdx_sublist ..);have hV2:∀w∈W.eraseIdx i,w.length=2/\Lts w:=fun w hw=>h2 w (mem_of_mem_eraseIdx hw);generalize W.eraseIdx i=V at hVl hVn hV2;have hVm:(V.map D.str).length=V.length:=length_map _;walk_at "r";rintro c y3 hc0 hc1 hd3 hl3;obtain⟨t,ht,ht8⟩:∃t:Nat,c % 8=(t:Int)/\t<8:=⟨(c % 8).toNat,by omega,by omega⟩
 walk_at "r";rw [ht,i3,jx,<- map_drop,<- map_take,<- map_append];have hpm:(V.drop t++V.take t).Perm V:=perm_append_comm.trans (by rw [take_append_drop]);have hmm:∀w∈V.drop t++V.take t,w∈V:=fun w hw=>hpm.mem_iff.mp hw;refine⟨by rw [length_map,length_map,length_drop,length_take];omega,?_⟩;walk_at "r"
 refine q (V.drop t++V.take t) y3 (by rw [hpm.length_eq];exact hVl) (fun w hw=>?_) ?_ hd3 (by omega)
 .have:=hV2 w (hmm w hw);exact⟨by omega,by omega,this.2⟩
 .rw [zw (hpm.nodup_iff.mpr hVn) fun w hw=>(hV2 w (hmm w hw)).1,hpm.length_eq];exact hVl
theorem qR:∀p ds Q,p.isOwn=true->b7 p ds Q->u4 eY kh p ds Q:=fun p ds Q _ h=>by
 unfold b7 at h
 split at h
 .exact o8 _ _ h
 .exact h.elim
def uc:PTS:=(aG (aQ (bD ca (af (pFz (aZ 0)) (af (pFz (pC (.int 170))) ap))) (ao 1)) (aG (aQ (ck bL 1 (af (pFz (pC (.int 5))) ap)) (ao 2)) (aG (nq (kJ (pB (pOp lw (pFz (pOp gC (pFz (ck aA 1 ap)) (pFz (pC (.int 8))))) (pFz (pC (.int 1))))) (aQ (ck b7 1 ap) (ao 2)) cM)) (aG (aQ (bD ce (af (pFz (bD bP (af (pFz (aZ 2)) ap))) ap)) (ao 3)) (aG (aQ (Bx "Family" bo (af (pFz (aZ 2)) ap)) (ao 4)) (aG (aQ (bD bQ (af (pFz (aZ 3)) ap)) (ao 5)) (aG (aQ (cD [none,none] (qe (af (pFz (aZ 5)) ap)) (ql 2 (gj (ao 0) (gj (ao 1) rF))) iW (pIf (pB (pOp lw (pFz (pOp gC (pSl 0) (pFz (pC (.int 2))))) (pFz (pC (.int 0))))) (pCB dN (af (pSl 1) ap)) (pCB qf (af (pSl 1) ap)))) (ao 6)) (aG (aQ (pOp fIx (pFz (gB (af (pFz (aZ 5)) (af (pFz (aZ 6)) (af (pFz (pCB dN (af (pFz (cD [none] (dq (aZ 5)) (ao 0) iW (pCB dN (af (pSl 0) ap)))) ap))) ap))))) (pFz (pOp gC (pFz (ck aA 1 ap)) (pFz (pC (.int 3)))))) (ao 7)) (aG (aQ (cD [none] (dq (aZ 7)) (ao 0) iW (pCB qf (af (pSl 0) ap))) (ao 8)) (aG (kJ (pB (pOp (fIs true) (pFz (bD bb (af (pFz (aZ 4)) (af (pFz (aZ 7)) ap)))) (pFz (pC (.bl true))))) (bU (pC (.bl false))) cM) (aG (kJ (pB (pOp zU (pFz (zZ bx (af (pFz (aZ 4)) (af (pFz (aZ 7)) ap)))) (pFz (bD bR (af (pFz (aZ 3)) (af (pFz (aZ 5)) ap)))))) (bU (pC (.bl false))) cM) (aG (aQ (bD bB (af (pFz (aZ 5)) ap)) (ao 9)) (aG (nq (kJ (pB (pOp zU (pSl 3) (pFz (gB ap)))) (aQ (pOp cF (pSl 9) (pFz (cD [none,some 1,some 5] (qc (af (pFz (pOp fIx (pFz (gB (af (pFz (pC (.int 20))) (af (pFz (pC (.int 2))) ap)))) (pFz (pOp CJ (pFz (pCB hZ (af (pSl 3) ap))) (pFz (pC (.int 7))))))) ap)) (ao 0) iW (ck cf 1 (af (pFz (aZ 2)) ap))))) (ao 9)) cM)) (aG (aQ (pOp cF (pSl 9) (pFz (gB (af (pFz (pC .non)) (af (pFz (gB ap)) (af (pFz (gB (af (pFz (gB (af (pFz (pC (.int 0))) ap))) ap))) (af (pFz (gB (af (pFz (gB ap)) (af (pFz (gB ap)) ap)))) ap))))))) (ao 9)) (aG (kJ (pB (pOp zU (pFz (cD [none,some 4] (dq (aZ 9)) (ao 0) (Bg (pB (bD aX (af (pFz (aZ 1)) (af (pFz (aZ 0)) ap))))) (aZ 0))) (pFz (gB ap)))) (bU (pC (.bl false))) cM) (aG (aQ (Bx "Family" bo (af (pFz (cD [none,some 3] (qc (af (pFz (pC (.int 9))) ap)) (ao 0) iW (pOp fIx (pFz (pC (.str [97,98,99,100,101,102,103,104,105,106,107,108,109,110,111,112,113,114,115,116,117,118,119,120,121,122]))) (pFz (pOp gC (pFz (pOp cF (pFz (pOp rc (pFz (pC (.int 5))) (pSl 0))) (pFz (pCB hZ (af (pSl 1) ap))))) (pFz (pC (.int 26)))))))) ap)) (ao 10)) (aG (aQ (cD [none] (qc (af (pFz (pC (.int 512))) ap)) (ao 0) iW (cD [none,some 0] (qc (af (pFz (pC (.int 9))) ap)) (ao 0) iW (pIf (pB (pOp lw (pFz (pOp uJ (pFz (pOp CL (pSl 1) (pSl 0))) (pFz (pC (.int 1))))) (pFz (pC (.int 1))))) (pC (.int 0)) (pUn rJ (pFz (pC (.int 1))))))) (ao 11)) (bU (rD (bD aX (af (pFz (aZ 10)) (af (pFz (aZ 11)) ap))) (pOp lw (pFz (cD [none] (dq (aZ 7)) (ao 0) iW (pCB qf (af (pSl 0) ap)))) (pSl 8)))))))))))))))))))))
theorem Cy(ns:List Int)(h63:ns.length<=63)(Q:PV->Prop)(q:Q (.dat (.bl true))):dy uc Aw [.scr ns] Q:=by
 show uc _ [some (.dat (.scr ns)),none,none,none,none,none,none,none,none,none,none,none];walk_at "r";rintro z1 hz1 hl1;have hl1:z1.length=170:=hl1;have g1:Dk z1/\z1.length<=10000:=⟨hz1,by omega⟩
 walk_at "r";rintro ps0 z2 hp0 hps0 hz2 hl2 hl2';have hp0:ps0.length<=5:=by omega
 walk_at "r"
 refine⟨fun ρ=>∃(ps:List (List Nat)) (yy:List Int),ps.length<=8/\Pcs 60 ps/\((ai ps).length<=5\/(ai ps).length=8)/\Dk yy/\115<=yy.length/\yy.length<=170/\ρ=[some (.dat (.scr ns)),some (.own (yy.map .int)),some (.dat (.lst (ps.map .str))),none,none,none,none,none,none,none,none,none],?_,?_⟩
 .have g2:Dk z2/\0<z2.length/\z2.length<=100000:=⟨hz2,by omega,by omega⟩
  walk_at "r";rintro a y1 ha0 ha1 hd1 hy1;walk_at "r"
  refine dz (fun c=>?_) (fun c=>?_)
  .have g3:Dk y1/\3<=y1.length/\y1.length<=10000:=⟨hd1,by omega,by omega⟩
   walk_at "r";rintro ps y2 hpl hpc hpw hd2 hy2;walk_at "r";exact⟨ps,y2,by omega,hpc,.inr hpw,hd2,by omega,by omega,rfl⟩
  .exact⟨ps0,y1,by omega,hps0,.inl (Nat.le_trans (fA ps0) hp0),hd1,by omega,by omega,rfl⟩
 rintro ρ ⟨ps,yy,hp,hps,hwc,hdy,hyl,hyu,rfl⟩;have hk:ps.length<=40/\∀w∈ps,w.length<=60/\Lts w:=⟨by omega,fun w hw=>⟨(hps w hw).2.1,(hps w hw).2.2⟩⟩
 have hk2:ps.length<=40/\Pcs 60 ps:=⟨by omega,hps⟩
 have hwn:=fA ps;have hwo:=G3 hk.1 hps;have hwm:((ai ps).map D.str).length=(ai ps).length:=length_map _;have hlm:(fe (ai ps)).length=(ai ps).length:=length_map _;have h8:(ai ps).length<=8:=by omega
 have h256:=cG h8;walk_at "r";rintro tb hE htb;have hM:=Cv hE h8 htb;have hwid:=hE.wid;have hw8:=t9 hM h8;have htm:(tb.map b5).length=tb.length:=length_map _;have hti:∀k,k<tb.length->itD (tb.map b5) k=b5 (tb.getD k []):=fun k hk=>dY (by rw [getElem?_map,getElem?_eq_getElem hk,getD_eq_getElem?_getD,getElem?_eq_getElem hk];rfl);have hrl:∀k,k<tb.length->((tb.getD k []).map D.int).length<=8:=fun k hk=>by rw [length_map,hwid k hk];exact h8
 walk_at "r"
 refine tH (fun τ=>∃v w:Option PV,τ=[v,w]) (fun k=>if (k:Int) % 2=0 then gX (tb.getD k []) else b5 (tb.getD k [])) ⟨_,_,rfl⟩ ?_ ?_
 .rintro k τ _ hk rfl ⟨v,w,rfl⟩ K1 k1;rw [htm] at hk;rw [hti k hk];have hr:=hrl k hk;walk_at "r"
  refine dz (fun c=>?_) (fun c=>?_)
  .walk_at "r";simp only [if_pos c] at k1;exact k1 _ ⟨_,_,rfl⟩
  .walk_at "r";simp only [if_neg c] at k1;exact k1 _ ⟨_,_,rfl⟩
 rintro τ ⟨v,w,rfl⟩;generalize hMx:(List.range (tb.map b5).length).map (fun (k:Nat)=>if (k:Int) % 2=0 then gX (tb.getD k []) else b5 (tb.getD k []))=mx;have hmxl:mx.length=tb.length:=by rw [<- hMx,length_map,length_range,htm]
 have hmxr:∀k,k<tb.length->ij (itD mx k) ((tb.getD k []).map .int):=fun k hk=>by
  rw [dY (show mx[k]?=some (if (k:Int) % 2=0 then gX (tb.getD k []) else b5 (tb.getD k [])) by rw [<- hMx,getElem?_map,getElem?_range (by rw [htm];exact hk)];rfl)]
  split
  .exact .inr rfl
  .exact .inl rfl
 clear hMx;walk_at "r"
 refine cm1 (e:=b5) (xs:=tb) gX (fun r hr v K1 k1=>?_) (fun v=>?_)
 .have hrl:=hw8 r hr;have hrm:(r.map D.int).length=r.length:=length_map _;walk_at "r";exact k1 _
 have htm2:(tb.map gX).length=tb.length:=length_map _;have g2:Dk yy/\0<yy.length/\yy.length<=100000:=⟨hdy,by omega,by omega⟩
 walk_at "r";rintro a y1 ha0 ha1 hd1 hy1
 obtain⟨e,L,hat,hsq,hLl,hLr⟩:∃(e:D) (L:List D),atI [D.lst (tb.map b5),D.lst mx,D.tup (tb.map gX)] (a % 3)=some e/\ij e L/\L.length=tb.length/\∀k,k<tb.length->ij (itD L k) ((tb.getD k []).map .int):=by
  rcases (show a % 3=0\/a % 3=1\/a % 3=2 by omega) with h|h|h <;> rw [h]
  .exact⟨_,_,rfl,.inl rfl,htm,fun k hk=>by rw [hti k hk];exact .inl rfl⟩
  .exact⟨_,_,rfl,.inl rfl,hmxl,hmxr⟩
  .exact⟨_,_,rfl,.inr rfl,htm2,fun k hk=>by rw [dY (show (tb.map gX)[k]?=some (gX (tb.getD k [])) by rw [getElem?_map,getElem?_eq_getElem hk,getD_eq_getElem?_getD,getElem?_eq_getElem hk];rfl)];exact .inr rfl⟩
 have hTab:=ES hsq hLl hLr hwid htb;have hit:aR e=L:=by rcases hsq with rfl|rfl <;> rfl
 have hFo:dh e/\(ai ps).length<=40:=⟨⟨by rcases hsq with rfl|rfl <;> rfl,by rw [hit,hLl];omega,fun r hr=>by
  rw [hit] at hr;obtain⟨k,hk,ek⟩:=mem_iff_getElem.mp hr;have s:=hLr k (by omega);rw [dY (show L[k]?=some r by rw [getElem?_eq_getElem hk,ek])] at s;have hrl:=hrl k (by omega);refine⟨?_,by rw [s.items];omega⟩
  rcases s with rfl|rfl
  .exact⟨rfl,lQ _⟩
  .exact⟨rfl,lQ _⟩⟩,by omega⟩
 have hlist:(List.range L.length).map (fun k=>b5 (tb.getD k []))=tb.map b5:=by
  rw [hLl];refine ext_getElem (by rw [length_map,length_map,length_range]) fun k h1 h2=>?_;rw [length_map] at h2;rw [getElem_map,getElem_map,getElem_range,getD_eq_getElem?_getD,getElem?_eq_getElem h2];rfl
 clear hmxl hmxr;walk_at "r";refine⟨_,hat,?_⟩;walk_at "r";refine zX hsq ?_;walk_at "r"
 refine cmR (fun k=>b5 (tb.getD k [])) (fun k hk v K1 k1=>?_) (fun v=>?_)
 .have s:=hLr k (by omega);walk_at "r";refine wN s ?_;exact k1 _
 rw [hlist];walk_at "r";have hw60:∀w∈ai ps,0<w.length/\w.length<=60:=hwo.2;refine⟨fun h=>absurd h (by rw [decide_eq_true h8,lR hTab];decide),fun tb' _ ht' b hb=>?_⟩;have eb:b=true:=hb.mpr (by rw [ht'.uniq hTab];exact hM);subst eb;walk_at "r";refine⟨fun h=>absurd h (by rw [decide_eq_true h8,lR hTab];decide),fun tb' _ ht'=>⟨fun _=>?_,fun n=>absurd (by rw [ht'.uniq hTab];exact hM) n⟩⟩;rw [ht'.uniq hTab]
 have c1:(ai ps).length<=8/\(∀w∈ai ps,0<w.length/\w.length<=60)/\Msa (ai ps) tb/\tb.length=2^(ai ps).length:=⟨h8,hw60,hM,htb⟩
 have o1:re (.tup ((Aq (ai ps) tb).map nD)) (.tup ((Aq (ai ps) tb).map nD)):=by rw [Ac];exact re.of (Sh.tupI _) (Sh.tupI _)
 have o2:deq (.tup ((Aq (ai ps) tb).map nD)) (.tup ((Aq (ai ps) tb).map nD))=true:=by rw [Ac];exact oA (Sh.tupI _)
 have c2:Msa (ai ps) tb/\tb.length=2^(ai ps).length/\(ai ps).length<=8:=⟨hM,htb,h8⟩
 walk_at "r";rw [o2];walk_at "r";refine⟨ai ps,c2,?_⟩;rintro es hes hel;have el1:=lP (ai ps);have el2:=kf (ai ps);walk_at "r"
 refine⟨fun ρ=>∃(es:List D) (yy:List Int) (x:PV),(∀e∈es,dh e/\NoT (ai ps) e)/\es.length<=6000/\(x=.own es\/x=.dat (.lst es))/\ρ=[some (.dat (.scr ns)),some (.own (yy.map .int)),some (.dat (.lst (ps.map .str))),some (.dat (.lst (fe (ai ps)))),some (.dat (.obj "Family" jL (jM ps))),some (.dat (.lst (tb.map b5))),some (.dat (.lst mx)),some (.dat e),some (.own (tb.map b5)),some x,none,none],?_,?_⟩
 .walk_at "r";rw [el2]
  refine p8 (fun c=>?_) (fun c=>?_)
  .have hn0:0<(ai ps).length:=length_pos_iff.mpr c
   obtain⟨T,hT,hT2⟩:∃T:Nat,atI [D.int 20,D.int 2] (((fe (ai ps)).length:Int) / 7)=some (.int (T:Int))/\T<=20:=by
    rw [hlm]
    rcases hwc with h|h
    .rw [show ((ai ps).length:Int) / 7=0 by omega];exact⟨20,rfl,by omega⟩
    .rw [show ((ai ps).length:Int) / 7=1 by omega];exact⟨2,rfl,by omega⟩
   walk_at "r";refine⟨_,hT,?_⟩;walk_at "r";rw [toNat_natCast]
   refine⟨fun k xs τ=>∃(v:Option PV) (y:List Int),τ=[v,some (.own (y.map .int)),some (.dat (.lst (tb.map b5)))]/\Dk y/\y1.length<=y.length+4*k/\y.length<=y1.length/\xs.length=k/\∀e∈xs,dh e/\NoT (ai ps) e,⟨none,y1,rfl,hd1,by omega,Nat.le_refl _,rfl,(fun e he=>(not_mem_nil he).elim)⟩,?_,?_⟩
   .rintro k xs τ _ hk rfl ⟨v,y,rfl,hy,hyl2,hyl3,hxl,hxs⟩;have g4:Msa (ai ps) tb/\tb.length=2^(ai ps).length/\0<(ai ps).length/\(ai ps).length<=8:=⟨hM,htb,hn0,h8⟩
    have g5:Dk y/\4<=y.length/\y.length<=10000:=⟨hy,by omega,by omega⟩
    walk_at "r";refine⟨ai ps,g4,g5,?_⟩;rintro e' y4 hf4 hn4 hd4 hy4 hy4'
    exact⟨_,y4,rfl,hd4,by omega,by omega,by rw [length_append,hxl];rfl,fun u hu=>by
     rcases mem_append.mp hu with h|h
     .exact hxs u h
     .rw [mem_singleton.mp h];exact⟨hf4,hn4⟩⟩
   rintro xs τ ⟨v,y,rfl,hy,hyl2,hyl3,hxl,hxs⟩;walk_at "r";exact⟨es++xs,y,_,fun u hu=>(mem_append.mp hu).elim (hes u) (hxs u),by rw [length_append];omega,.inl rfl,rfl⟩
  .exact⟨es,y1,_,hes,by omega,.inr rfl,rfl⟩
 rintro ρ ⟨es,y9,x,hes,hel,hx,rfl⟩;have hfin:∀u∈es++[D.non,.lst [],.lst [.lst [.int 0]],.lst [.lst [],.lst []]],dh u/\NoT (ai ps) u:=fun u hu=>(mem_append.mp hu).elim (hes u) (Hl _);have hfl:(es++[D.non,.lst [],.lst [.lst [.int 0]],.lst [.lst [],.lst []]]).length<=7000:=by rw [length_append];show _+4<=_;omega
 have hadd:es.length+[D.non,.lst [],.lst [.lst [.int 0]],.lst [.lst [],.lst []]].length<=1000000:=by show _+4<=_;omega
 have e3:re (.lst []) (.lst []):=re.of (Sh.lstI []) (Sh.lstI []);have e4:deq (.lst []) (.lst [])=true:=oA (Sh.lstI []);have e5:re (.lst (tb.map b5)) (.lst (tb.map b5)):=re.of ((xQ tb).sh (by decide)) ((xQ tb).sh (by decide));have e6:deq (.lst (tb.map b5)) (.lst (tb.map b5))=true:=oA ((xQ tb).sh (by decide));have gl9:(ai (gq (ai ps).length)).length=9:=EQ ⟨(ai ps).length,by omega⟩;have gpc:=ER (ai ps).length
 have gpl:(gq (ai ps).length).length=9:=by unfold gq;rw [length_map,length_range]
 have gqm:(List.range (Int.toNat 9)).map (fun j=>D.str [97+(5*j+(ai ps).length) % 26])=(gq (ai ps).length).map D.str:=by unfold gq;rw [map_map];rfl
 generalize gq (ai ps).length=gs at gl9 gpc gpl gqm;have g7:gs.length<=40/\Pcs 60 gs:=⟨by omega,gpc⟩
 have hFo9:dh (.lst ((List.range (Int.toNat 512)).map fun j=>b5 ((List.range 9).map fun i=>if j.testBit i then 0 else -1))):=cQ (by rw [length_map,length_range];decide) (fun r hr=>by
  obtain⟨j,_,rfl⟩:=mem_map.mp hr;exact nL (by rw [length_map,length_range];decide))
 generalize hfs:es++[D.non,.lst [],.lst [.lst [.int 0]],.lst [.lst [],.lst []]]=fs at hfin hfl
 rcases hx with rfl|rfl <;> (
  walk_at "r";rw [hfs]
  refine cfm (fun τ=>∃v,τ=[v,some (.dat (.obj "Family" jL (jM ps)))]) (fun j=>none) ⟨_,rfl⟩ ?_ ?_
  .rintro j τ d hj ed ⟨v,rfl⟩ K1 K2 k1 k2;have hd:=hfin d (by rw [ed];exact jI hj);have c3:(dh d/\(ai ps).length<=40)/\(∀w∈ai ps,0<w.length/\w.length<=60)/\NoT (ai ps) d:=⟨⟨hd.1,by omega⟩,hw60,hd.2⟩
   clear ed;walk_at "r";exact k2 _ rfl ⟨_,rfl⟩
  rintro τ ⟨v,rfl⟩;rw [show (List.range fs.length).filterMap (fun _=>(none:Option D))=[] from filterMap_eq_nil_iff.mpr fun _ _=>rfl];walk_at "r"
  refine cmR (fun j=>.str [97+(5*j+(ai ps).length) % 26]) (fun j hj v K1 k1=>?_) (fun v=>?_)
  .have hj:j<9:=hj;walk_at "r";rw [hlm,show (5*(j:Int)+((ai ps).length:Int)) % 26=(((5*j+(ai ps).length) % 26:Nat):Int) by omega];exact⟨_,xK (mod_lt _ (by decide)),k1 _⟩
  rw [gqm];walk_at "r"
  refine cmR (fun j=>b5 ((List.range 9).map fun i=>if j.testBit i then 0 else -1)) (fun j hj v K1 k1=>?_) (fun v=>?_)
  .walk_at "r"
   refine cmR (fun i=>.int (if j.testBit i then 0 else -1)) (fun i hi v K2 k2=>?_) (fun v=>?_)
   .have eb:=qx j i;show (0:Int)<=(i:Int)/\gz (decide (Builtin.bitAnd ((j:Int) / 2^(i:Int).toNat) 1=1)) _ _;refine⟨by omega,?_⟩;rw [eb]
    cases hb:j.testBit i with
    | true =>
     simp only [hb,if_true] at k2;exact k2 _
    | false =>
     simp only [hb] at k2;exact k2 _
   .have e9:((List.range (Int.toNat 9)).map fun i=>D.int (if j.testBit i then 0 else -1))=((List.range 9).map fun i=>if j.testBit i then (0:Int) else -1).map D.int:=by rw [map_map];rfl
    rw [e9];exact k1 _
  generalize ((List.range (Int.toNat 512)).map fun j=>b5 ((List.range 9).map fun i=>if j.testBit i then (0:Int) else -1))=big at hFo9;have c4:(dh (.lst big)/\(ai gs).length<=40)/\(∀w∈ai gs,0<w.length/\w.length<=60)/\NoT (ai gs) (.lst big):=⟨⟨hFo9,by omega⟩,(G3 g7.1 gpc).2,.inl (by rw [decide_eq_false (by omega),Bool.false_and])⟩
  walk_at "r";refine zX hsq ?_;walk_at "r"
  refine cmR (fun k=>b5 (tb.getD k [])) (fun k hk v K1 k1=>?_) (fun v=>?_)
  .have s:=hLr k (by omega);walk_at "r";refine wN s ?_;exact k1 _
  rw [hlist];walk_at "r";rw [e6];exact q)
theorem EV:∀ds Q,ua ds Q->dy uc Aw ds Q:=fun ds Q h=>by
 obtain⟨ns,rfl,h63,q⟩:=h;exact Cy ns h63 Q q
section
variable {P:Program}{w:World}{K:PySem.W.Frag}{mg:Str->Option Value}{base:Heap}
theorem qS:∀ds Q,cm ds Q->ds.length=1:=fun ds Q h=>by unfold cm at h;split at h;(first|rfl|exact h.elim);(first|rfl|exact h.elim)
theorem xU(D:cj K mg "is_row" oK)(T:Txt mg)(TC:TxC K)(TX:TxX K mg):Cal P w K mg base 1 "is_row" ["thing"] (spP K cm):=by
 refine D.ok xB (fun _ _ _ _ _ _ us hl=>match us,hl with|[_],_=>rfl) (fun vs H Q E h=>?_) (fun f cdv A outer s H vs Q E hr h=>?_)
 .exact jd qS h
 .have hu:=hr.units;exact⟨_,(ar (a6 (ay (FW K rfl) rfl T.b_isinstance boot_isinstance (paC (pv 0) (paC (iY (paC (kQ (v:=.ty "list") rfl T.b_list boot_list rfl) (paC (kQ (v:=.ty "tuple") rfl T.b_tuple boot_tuple rfl) ag))) ag))))),fnP (K:=K) (c:=cm) (ps:=jk) (N:=["thing"]) (a8 (DX .list .tuple my (aj (i:=0)))) (fun ds Q h=>Nat.le_trans (le_of_eq (qS ds Q h)) (by decide)) xT h⟩
theorem ki:∀ds Q,bG ds Q->ds.length=1:=fun ds Q h=>by unfold bG at h;split at h;(first|rfl|exact h.elim);(first|rfl|exact h.elim)
theorem qT(D:cj K mg "is_number" iN)(T:Txt mg)(TC:TxC K)(TX:TxX K mg):Cal P w K mg base 1 "is_number" ["thing"] (spP K bG):=by
 refine D.ok qv (fun _ _ _ _ _ _ us hl=>match us,hl with|[_],_=>rfl) (fun vs H Q E h=>?_) (fun f cdv A outer s H vs Q E hr h=>?_)
 .exact jd ki h
 .have hu:=hr.units;exact⟨_,(ar (a6 (mY (ay (Bm K rfl) rfl T.b_isinstance boot_isinstance (paC (pv 0) (paC (kQ (v:=.ty "int") rfl T.b_int boot_int rfl) ag))) (pE (zy (ay (Bm K rfl) rfl T.b_isinstance boot_isinstance (paC (pv 0) (paC (kQ (v:=.ty "bool") rfl T.b_bool boot_bool rfl) ag)))))))),fnP (K:=K) (c:=bG) (ps:=eR) (N:=["thing"]) (a8 (nk (wv .int (aj (i:=0))) (zO (wv .bool (aj (i:=0)))))) (fun ds Q h=>Nat.le_trans (le_of_eq (ki ds Q h)) (by decide)) qC h⟩
theorem iC:∀ds Q,bd ds Q->ds.length=2:=fun ds Q h=>by unfold bd at h;split at h;(first|rfl|exact h.elim);(first|rfl|exact h.elim)
theorem mR(D:cj K mg "are_numbers" fO)(T:Txt mg)(TC:TxC K)(TX:TxX K mg)(C_is_number:Cal P w K mg base 1 "is_number" ["thing"] (spP K bG))(C_is_row:Cal P w K mg base 1 "is_row" ["thing"] (spP K cm)):Cal P w K mg base 2 "are_numbers" ["thing","many"] (spP K bd):=by
 refine D.ok mC (fun _ _ _ _ _ _ us hl=>match us,hl with|[_,_],_=>rfl) (fun vs H Q E h=>?_) (fun f cdv A outer s H vs Q E hr h=>?_)
 .exact jd iC h
 .have hu:=hr.units;exact⟨_,(ar (a6 (mY (aD C_is_row (hr.mono (by decide)) (paC (pv 0) ag)) (mY (jv (fb K rfl hu) (ay (cZ K rfl) rfl T.b_len PySem.boot_len (paC (pv 0) ag)) (pv 1) (bh _)) (pE (ay (Br K rfl rfl) rfl T.b_all boot_all (paC (bw (wi:=(gH K (aM 0))) (g:=(bu 0)) (tts:=gF) (te:=(ei (spP K bG) [] E0 (aJ (aM 0) cS))) ["item"] [none] rfl (bX K rfl (pv 0)) (fun _ _ _ _=>⟨(aE (i:=0) (by show List.Nodup (["item"]:List Str);decide +kernel) rfl (by walk_at "o")),bv,(aD C_is_number (hr.mono (by decide)) (paC (pv 0) ag))⟩) (by kernel_rfl)) ag))))))),fnP (K:=K) (c:=bd) (ps:=dF) (N:=["thing","many"]) (a8 (nk (aL (c:=cm) (aa (ac (am (i:=0))) ae)) (nk (ak cU (ac (bg bM (aa (aj (i:=0)) ae))) (aj (i:=1))) (bg wB (aa (ac (aY (ix:=[none]) rfl (cg (am (i:=0))) (fun fs hc=>(az (i:=0) (gn hc (by decide)))) cE (aL (c:=bG) (aa (ac (am (i:=0))) ae)))) ae))))) (fun ds Q h=>Nat.le_trans (le_of_eq (iC ds Q h)) (by decide)) mG h⟩
theorem nM:∀ds Q,bi ds Q->ds.length=1:=fun ds Q h=>by unfold bi at h;split at h;(first|rfl|exact h.elim);(first|rfl|exact h.elim)
theorem uU(D:cj K mg "members" lC)(T:Txt mg)(TC:TxC K)(TX:TxX K mg):Cal P w K mg base 1 "members" ["mark"] (spP K bi):=by
 refine D.ok uL (fun _ _ _ _ _ _ us hl=>match us,hl with|[_],_=>rfl) (fun vs H Q E h=>?_) (fun f cdv A outer s H vs Q E hr h=>?_)
 .exact jd nM h
 .have hu:=hr.units;exact⟨_,(ar (a6 (bw (wi:=(iX (aJ (Dm K "int" BQ (aM 0)) cS))) (g:=(bu 0)) (tts:=(tBI (tOp rP (tOp BF (aM 1) (aM 0)) (tC (V.int 1))))) (te:=(aM 0)) ["i","mark"] [none,some 0] rfl (bH rfl T.b_range (paC (BV K rfl PySem.F.plainAttrs_int PySem.F.slot_int_bit_length PySem.F.type_int_bit_length BR (pv 0)) ag)) (fun _ _ _ _=>⟨(aE (i:=0) (by show List.Nodup (["i","mark"]:List Str);decide +kernel) rfl (by walk_at "o")),(dQ (EH (aB qi (aB wM (pv 1) (pv 0)) al))),(pv 0)⟩) (by kernel_rfl)))),fnP (K:=K) (c:=bi) (ps:=ia) (N:=["mark"]) (a8 (aY (ix:=[none,some 0]) rfl (ii (aa (ac (BU (am (i:=0)))) ae)) (fun fs hc=>(az (i:=0) (gn hc (by decide)))) (Gu (ak lx (ac (ak qh (aj (i:=1)) (aj (i:=0)))) (ac le_int))) (am (i:=0)))) (fun ds Q h=>Nat.le_trans (le_of_eq (nM ds Q h)) (by decide)) uQ h⟩
theorem jm:∀ds Q,bp ds Q->ds.length=4:=fun ds Q h=>by unfold bp at h;split at h;(first|rfl|exact h.elim);(first|rfl|exact h.elim)
theorem o9(D:cj K mg "most_saved" gP)(T:Txt mg)(TC:TxC K)(TX:TxX K mg)(C_members:Cal P w K mg base 1 "members" ["mark"] (spP K bi)):Cal P w K mg base 2 "most_saved" ["family","table","mark","i"] (spP K bp):=by
 refine D.ok je (fun _ _ _ _ _ _ us hl=>match us,hl with|[_,_,_,_],_=>rfl) (fun vs H Q E h=>?_) (fun f cdv A outer s H vs Q E hr h=>?_)
 .exact jd jm h
 .have hu:=hr.units;exact⟨_,(ah (dM (aN (kM K rfl) (pv 3) (aD C_members (hr.mono (by decide)) (paC (pv 2) ag)) (by with_unfolding_all rfl)) (ar (a6 (ju fi al))) bZ) (ah (aH (i:=4) je.nd rfl (by walk_at "o") (aB mw (pv 2) (aB mz al (pv 3)))) (ar (a6 (B3 K rfl rfl rfl T.b_max (paC (bw (wi:=(gH K (ei (spP K bi) [] E0 (aJ (aM 4) cS)))) (g:=(bu 0)) (tts:=gF) (te:=(tOp (mB K) (tOp (iV K) (tOp (iV K) (aM 2) (aM 3)) (aM 0)) (tOp (iV K) (tOp (iV K) (uZ K (aM 4) "laps") (aM 0)) (aM 1)))) ["j","i","table","rest","family"] [none,some 3,some 1,some 4,some 0] rfl (bX K rfl (aD C_members (hr.mono (by decide)) (paC (pv 4) ag))) (fun _ _ _ _=>⟨(aE (i:=0) (by show List.Nodup (["j","i","table","rest","family"]:List Str);decide +kernel) rfl (by walk_at "o")),bv,(aB (bE K rfl) (bj (di K rfl) (bj (di K rfl) (pv 2) (pv 3) (fun _ _=>rfl)) (pv 0) (fun _ _=>rfl)) (bj (di K rfl) (bj (di K rfl) (dS K rfl (pv 4) rfl) (pv 0) (fun _ _=>rfl)) (pv 1) (fun _ _=>rfl)))⟩) (by kernel_rfl)) ag) al))))),fnP (K:=K) (c:=bp) (ps:=d4) (N:=["family","table","mark","i","rest"]) (ax (fo (fg (ak nC (aj (i:=3)) (ac (aL (c:=bi) (aa (ac (am (i:=2))) ae))))) (a8 (ig dZ (ac le_int))) b3) (ax (aC (ak gG (aj (i:=2)) (ac (ak ip (ac le_int) (aj (i:=3))))) (au (i:=4) rfl)) (a8 (B4 (ac (aY (ix:=[none,some 3,some 1,some 4,some 0]) rfl (cg (aL (c:=bi) (aa (ac (am (i:=4))) ae))) (fun fs hc=>(az (i:=0) (gn hc (by decide)))) cE (ak a5 (ac (ak bq (ac (ak bq (aj (i:=2)) (aj (i:=3)))) (aj (i:=0)))) (ac (ak bq (ac (ak bq (ac (gm (ns0:=["pieces","kept","words","left","laps","total"]) TC.cl_Family TC.n_Family_laps (i:=4) (by decide +kernel) (aj (i:=4)))) (aj (i:=0)))) (aj (i:=1))))))) le_int)))) (fun ds Q h=>Nat.le_trans (le_of_eq (jm ds Q h)) (by decide)) oS h⟩
theorem l6:∀ds Q,b8 ds Q->ds.length=1:=fun ds Q h=>by unfold b8 at h;split at h;(first|rfl|exact h.elim);(first|rfl|exact h.elim)
theorem sD(D:cj K mg "table_of" jP)(T:Txt mg)(TC:TxC K)(TX:TxX K mg)(C_Family_many:DL P w K mg base 1 (bc K "Family") "many" ["self"] (spP K aW))(C_most_saved:Cal P w K mg base 2 "most_saved" ["family","table","mark","i"] (spP K bp)):Cal P w K mg base 3 "table_of" ["family"] (spP K b8):=by
 refine D.ok fS (fun _ _ _ _ _ _ us hl=>match us,hl with|[_],_=>rfl) (fun vs H Q E h=>?_) (fun f cdv A outer s H vs Q E hr h=>?_)
 .exact jd l6 h
 .have hu:=hr.units;exact⟨_,(ah (aH (i:=1) fS.nd rfl (by walk_at "o") (tu (pv 0) TC.cl_Family C_Family_many (hr.mono (by decide)))) (ah (dM (aN BA (pv 1) (kI rfl T.g_MOST_TABLE_WORDS) (bh _)) (ar nR) bZ) (ah (aH (i:=2) fS.nd rfl (by walk_at "o") (bC ag)) (ah (fh PassesOwn.never rfl (bH rfl T.b_range (paC (aB mz al (pv 1)) ag)) (aE (i:=3) fS.nd rfl (by walk_at "o")) (ar (dA (ey K rfl PySem.F.plainAttrs_list PySem.F.slot_list_append PySem.F.type_list_append dn (pv 2) (paC (aO (c8 K rfl) rfl T.b_tuple boot_tuple (paC (bw (wi:=(iX (aJ (aM 1) cS))) (g:=(bu 0)) (tts:=gF) (te:=(ei (spP K bp) [] E0 (aJ (aM 1) (aJ (aM 2) (aJ (aM 3) (aJ (aM 0) cS)))))) ["i","family","table","mark"] [none,some 0,some 2,some 3] rfl (bH rfl T.b_range (paC (pv 1) ag)) (fun _ _ _ _=>⟨(aE (i:=0) (by show List.Nodup (["i","family","table","mark"]:List Str);decide +kernel) rfl (by walk_at "o")),bv,(aD C_most_saved (hr.mono (by decide)) (paC (pv 1) (paC (pv 2) (paC (pv 3) (paC (pv 0) ag)))))⟩) (by kernel_rfl)) ag)) ag))))) (ar (a6 (aO (c8 K rfl) rfl T.b_tuple boot_tuple (paC (pv 2) ag)))))))),fnP (K:=K) (c:=b8) (ps:=fY) (N:=["family","many","table","mark"]) (ax (aC (tG (c0:="Family") (m:="many") (ns0:=["pieces","kept","words","left","laps","total"]) (c:=aW) (by decide +kernel) (am (i:=0)) ae) (au (i:=1) rfl)) (ax (fo (fg (ak rE (aj (i:=1)) (ac (le_int (i:=8))))) oi b3) (ax (aC (bz ae) (au (i:=2) rfl)) (ax (fu (ii (aa (ac (ak ip (ac le_int) (aj (i:=1)))) ae)) (az (i:=3) rfl) (dU (j5 (i:=2) (bg cz (aa (ac (aY (ix:=[none,some 0,some 2,some 3]) rfl (ii (aa (ac (am (i:=1))) ae)) (fun fs hc=>(az (i:=0) (gn hc (by decide)))) cE (xz (aL (c:=bp) (aa (ac (am (i:=1))) (aa (ac (am (i:=2))) (aa (ac (am (i:=3))) (aa (ac (am (i:=0))) ae)))))))) ae))))) (a8 (bg cz (aa (aj (i:=2)) ae))))))) (fun ds Q h=>Nat.le_trans (le_of_eq (l6 ds Q h)) (by decide)) si h⟩
theorem fF:∀ds Q,aU ds Q->ds.length=2:=fun ds Q h=>by unfold aU at h;split at h;(first|rfl|exact h.elim);(first|rfl|exact h.elim)
theorem j1(D:cj K mg "has_table_form" dW)(T:Txt mg)(TC:TxC K)(TX:TxX K mg)(C_Family_many:DL P w K mg base 1 (bc K "Family") "many" ["self"] (spP K aW))(C_are_numbers:Cal P w K mg base 2 "are_numbers" ["thing","many"] (spP K bd))(C_is_row:Cal P w K mg base 1 "is_row" ["thing"] (spP K cm)):Cal P w K mg base 3 "has_table_form" ["family","paper"] (spP K aU):=by
 refine D.ok fC (fun _ _ _ _ _ _ us hl=>match us,hl with|[_,_],_=>rfl) (fun vs H Q E h=>?_) (fun f cdv A outer s H vs Q E hr h=>?_)
 .exact jd fF h
 .have hu:=hr.units;exact⟨_,(ah (aH (i:=2) fC.nd rfl (by walk_at "o") (tu (pv 0) TC.cl_Family C_Family_many (hr.mono (by decide)))) (ah (dM (PW.pt (x4 (aN BA (pv 2) (kI rfl T.g_MOST_TABLE_WORDS) (bh _)) (x4 (mX (gM (aD C_is_row (hr.mono (by decide)) (paC (pv 1) ag)))) (ve (aN (uI K rfl hu) (ay (cZ K rfl) rfl T.b_len PySem.boot_len (paC (pv 1) ag)) (aB mz al (pv 2)) (bh _)))))) (ar (a6 jq)) bZ) (ar (a6 (ay (Br K rfl rfl) rfl T.b_all boot_all (paC (bw (wi:=(gH K (aM 1))) (g:=(bu 0)) (tts:=gF) (te:=(ei (spP K bd) [] E0 (aJ (aM 0) (aJ (aM 1) cS)))) ["row","many"] [none,some 2] rfl (bX K rfl (pv 1)) (fun _ _ _ _=>⟨(aE (i:=0) (by show List.Nodup (["row","many"]:List Str);decide +kernel) rfl (by walk_at "o")),bv,(aD C_are_numbers (hr.mono (by decide)) (paC (pv 0) (paC (pv 1) ag)))⟩) (by kernel_rfl)) ag)))))),fnP (K:=K) (c:=aU) (ps:=cR) (N:=["family","paper","many"]) (ax (aC (tG (c0:="Family") (m:="many") (ns0:=["pieces","kept","words","left","laps","total"]) (c:=aW) (by decide +kernel) (am (i:=0)) ae) (au (i:=2) rfl)) (ax (fo (yG (fg (ak rE (aj (i:=2)) (ac (le_int (i:=8))))) (yG (nj (yF (aL (c:=cm) (aa (ac (am (i:=1))) ae)))) (fg (ak ny (ac (bg bM (aa (aj (i:=1)) ae))) (ac (ak ip (ac le_int) (aj (i:=2)))))))) (a8 jB) b3) (a8 (bg wB (aa (ac (aY (ix:=[none,some 2]) rfl (cg (am (i:=1))) (fun fs hc=>(az (i:=0) (gn hc (by decide)))) cE (aL (c:=bd) (aa (ac (am (i:=0))) (aa (ac (am (i:=1))) ae))))) ae))))) (fun ds Q h=>Nat.le_trans (le_of_eq (fF ds Q h)) (by decide)) jZ h⟩
theorem l8:∀ds Q,bb ds Q->ds.length=2:=fun ds Q h=>by unfold bb at h;split at h;(first|rfl|exact h.elim);(first|rfl|exact h.elim)
theorem sE(D:cj K mg "is_table" jQ)(T:Txt mg)(TC:TxC K)(TX:TxX K mg)(C_has_table_form:Cal P w K mg base 3 "has_table_form" ["family","paper"] (spP K aU))(C_table_of:Cal P w K mg base 3 "table_of" ["family"] (spP K b8)):Cal P w K mg base 4 "is_table" ["family","paper"] (spP K bb):=by
 refine D.ok rX (fun _ _ _ _ _ _ us hl=>match us,hl with|[_,_],_=>rfl) (fun vs H Q E h=>?_) (fun f cdv A outer s H vs Q E hr h=>?_)
 .exact jd l8 h
 .have hu:=hr.units;exact⟨_,(ar (a6 (mY (aD C_has_table_form (hr.mono (by decide)) (paC (pv 0) (paC (pv 1) ag))) (pE (jv (fb K rfl hu) (aO (c8 K rfl) rfl T.b_tuple boot_tuple (paC (bw (wi:=(gH K (aM 1))) (g:=(bu 0)) (tts:=gF) (te:=(tCB (uE K) (aJ (aM 0) cS))) ["row"] [none] rfl (bX K rfl (pv 1)) (fun _ _ _ _=>⟨(aE (i:=0) (by show List.Nodup (["row"]:List Str);decide +kernel) rfl (by walk_at "o")),bv,(aO (c8 K rfl) rfl T.b_tuple boot_tuple (paC (pv 0) ag))⟩) (by kernel_rfl)) ag)) (aD C_table_of (hr.mono (by decide)) (paC (pv 0) ag)) (bh _)))))),fnP (K:=K) (c:=bb) (ps:=fZ) (N:=["family","paper"]) (a8 (nk (aL (c:=aU) (aa (ac (am (i:=0))) (aa (ac (am (i:=1))) ae))) (ak cU (ac (bg cz (aa (ac (aY (ix:=[none]) rfl (cg (am (i:=1))) (fun fs hc=>(az (i:=0) (gn hc (by decide)))) cE (bg cz (aa (aj (i:=0)) ae)))) ae))) (ac (aL (c:=b8) (aa (ac (am (i:=0))) ae)))))) (fun ds Q h=>Nat.le_trans (le_of_eq (l8 ds Q h)) (by decide)) sj h⟩
theorem iD:∀ds Q,bn ds Q->ds.length=4:=fun ds Q h=>by unfold bn at h;split at h;(first|rfl|exact h.elim);(first|rfl|exact h.elim)
theorem mS(D:cj K mg "word_before" fP)(T:Txt mg)(TC:TxC K)(TX:TxX K mg)(C_members:Cal P w K mg base 1 "members" ["mark"] (spP K bi)):Cal P w K mg base 2 "word_before" ["family","table","mark","i"] (spP K bn):=by
 refine D.ok iq (fun _ _ _ _ _ _ us hl=>match us,hl with|[_,_,_,_],_=>rfl) (fun vs H Q E h=>?_) (fun f cdv A outer s H vs Q E hr h=>?_)
 .exact jd iD h
 .have hu:=hr.units;exact⟨_,(ah (aH (i:=4) iq.nd rfl (by walk_at "o") (aB mw (pv 2) (aB mz al (pv 3)))) (ar (a6 (ay (zR K rfl rfl) rfl T.b_min boot_min (paC (bw (wi:=(gH K (ei (spP K bi) [] E0 (aJ (aM 4) cS)))) (g:=(bu 0)) (tts:=(iI (tOp (lv K false) (tOp (mB K) (tOp (iV K) (tOp (iV K) (aM 2) (aM 4)) (aM 0)) (tOp (iV K) (tOp (iV K) (uZ K (aM 5) "laps") (aM 0)) (aM 1))) (tOp (iV K) (tOp (iV K) (aM 2) (aM 3)) (aM 1))))) (te:=(aM 0)) ["j","i","table","mark","rest","family"] [none,some 3,some 1,some 2,some 4,some 0] rfl (bX K rfl (aD C_members (hr.mono (by decide)) (paC (pv 4) ag))) (fun _ _ _ _=>⟨(aE (i:=0) (by show List.Nodup (["j","i","table","mark","rest","family"]:List Str);decide +kernel) rfl (by walk_at "o")),(dQ (aN (fb K rfl hu) (aB (bE K rfl) (bj (di K rfl) (bj (di K rfl) (pv 2) (pv 4) (fun _ _=>rfl)) (pv 0) (fun _ _=>rfl)) (bj (di K rfl) (bj (di K rfl) (dS K rfl (pv 5) rfl) (pv 0) (fun _ _=>rfl)) (pv 1) (fun _ _=>rfl))) (bj (di K rfl) (bj (di K rfl) (pv 2) (pv 3) (fun _ _=>rfl)) (pv 1) (fun _ _=>rfl)) (bh _))),(pv 0)⟩) (by kernel_rfl)) ag))))),fnP (K:=K) (c:=bn) (ps:=dG) (N:=["family","table","mark","i","rest"]) (ax (aC (ak gG (aj (i:=2)) (ac (ak ip (ac le_int) (aj (i:=3))))) (au (i:=4) rfl)) (a8 (bg wA (aa (ac (aY (ix:=[none,some 3,some 1,some 2,some 4,some 0]) rfl (cg (aL (c:=bi) (aa (ac (am (i:=4))) ae))) (fun fs hc=>(az (i:=0) (gn hc (by decide)))) (fg (ak cU (ac (ak a5 (ac (ak bq (ac (ak bq (aj (i:=2)) (aj (i:=4)))) (aj (i:=0)))) (ac (ak bq (ac (ak bq (ac (gm (ns0:=["pieces","kept","words","left","laps","total"]) TC.cl_Family TC.n_Family_laps (i:=4) (by decide +kernel) (aj (i:=5)))) (aj (i:=0)))) (aj (i:=1)))))) (ac (ak bq (ac (ak bq (aj (i:=2)) (aj (i:=3)))) (aj (i:=1)))))) (am (i:=0)))) ae)))) (fun ds Q h=>Nat.le_trans (le_of_eq (iD ds Q h)) (by decide)) mI h⟩
theorem l9:∀ds Q E,bx ds Q E->ds.length=2:=fun ds Q E h=>by unfold bx at h;split at h;(first|rfl|exact h.elim);(first|rfl|exact h.elim)
theorem sF(D:cj K mg "order_by" jR)(T:Txt mg)(TC:TxC K)(TX:TxX K mg)(C_is_table:Cal P w K mg base 4 "is_table" ["family","paper"] (spP K bb))(C_word_before:Cal P w K mg base 2 "word_before" ["family","table","mark","i"] (spP K bn)):El P w K mg base 5 "order_by" ["family","table"] (spX K bx):=by
 refine D.okE dC (fun _ _ _ _ _ _ us hl=>match us,hl with|[_,_],_=>rfl) (fun vs H Q E h=>?_) (fun f cdv A outer s H vs Q E hr h=>?_)
 .exact Hh l9 h
 .have hu:=hr.units;exact⟨_,(ah (dM (PT.nox (mX (gM (aD C_is_table (hr.mono (by decide)) (paC (pv 0) (paC (pv 1) ag)))))) (ar (za K rfl rfl Ek (BL TX.z_NoTable TX.kp_NoTable TX.m_NoTable))) bZ) (ah (PS.nox (aH (i:=2) dC.nd rfl (by walk_at "o") (aB mw (ay (cZ K rfl) rfl T.b_len PySem.boot_len (paC (pv 1) ag)) al))) (ah (dM (PT.nox (aN (fb K rfl hu) (pv 2) al (bh _))) (ar (PS.nox (a6 (iY ag)))) bZ) (ah (PS.nox (aH (i:=3) dC.nd rfl (by walk_at "o") (aO (ll K rfl) rfl T.b_list boot_list (paC (bj (di K rfl) (pv 1) (pv 2) (fun _ _=>rfl)) ag)))) (ah (PS.nox (aH (i:=4) dC.nd rfl (by walk_at "o") (bC (paC (ey K rfl PySem.F.plainAttrs_list PySem.F.slot_list_index PySem.F.type_list_index (xo K rfl) (pv 3) (paC (ay (wI K rfl rfl) rfl T.b_max boot_max (paC (pv 3) ag)) ag)) ag)))) (ah (kG PassesOwn.leaving (PT.nox (aN (uI K rfl hu) (pv 2) (aB mz al (bj (di K rfl) (pv 4) (ju fi al) (fun _ _=>rfl))) (bh _))) (ah (PS.nox (aH (i:=5) dC.nd rfl (by walk_at "o") (bj (di K rfl) (pv 4) (ju fi al) (fun _ _=>rfl)))) (ah (PS.nox (dA (ey K rfl PySem.F.plainAttrs_list PySem.F.slot_list_append PySem.F.type_list_append dn (pv 4) (paC (aD C_word_before (hr.mono (by decide)) (paC (pv 0) (paC (pv 1) (paC (pv 2) (paC (pv 5) ag))))) ag)))) (ar (PS.nox (C1 (i:=2) dC.nd rfl (by walk_at "o") (aB mz al (pv 5)) C3)))))) (ar (PS.nox (a6 (aO (c8 K rfl) rfl T.b_tuple boot_tuple (paC (BZ K rfl (pv 4) (ju fi al)) ag))))))))))),Hi (K:=K) (c:=bx) (ps:=f8) (N:=["family","table","mark","row","backwards","i"]) (fun _=>(j6 (Ep (nj (yF (aL (c:=bb) (aa (ac (am (i:=0))) (aa (ac (am (i:=1))) ae))))) (xf TX.all (contains_iff_mem.mp (by decide +kernel))) (LS.x b3)) (j6 (LS.x (aC (ak gG (ac (bg bM (aa (aj (i:=1)) ae))) (ac le_int)) (au (i:=2) rfl))) (j6 (Ep (fg (ak cU (aj (i:=2)) (ac le_int))) (LS.x (a8 (lg ae))) (LS.x b3)) (j6 (LS.x (aC (bg lm (aa (ac (ak bq (aj (i:=1)) (aj (i:=2)))) ae)) (au (i:=3) rfl))) (j6 (LS.x (aC (bz (aa (ac (xp (aj (i:=3)) (bg rO (aa (aj (i:=3)) ae)))) ae)) (au (i:=4) rfl))) (j6 (zb (fg (ak ny (aj (i:=2)) (ac (ak ip (ac le_int) (ac (ak bq (aj (i:=4)) (ac (ig dZ (ac le_int))))))))) (j6 (LS.x (aC (ak bq (aj (i:=4)) (ac (ig dZ (ac le_int)))) (au (i:=5) rfl))) (j6 (LS.x (dU (j5 (i:=4) (aL (c:=bn) (aa (ac (am (i:=0))) (aa (ac (am (i:=1))) (aa (ac (am (i:=2))) (aa (ac (am (i:=5))) ae)))))))) (LS.x (B5 (i:=2) (au (i:=2) rfl) (ak ip (ac le_int) (aj (i:=5)))))))) (LS.x (a8 (bg cz (aa (ac (B0 (aj (i:=4)) (ig dZ (ac le_int)))) ae))))))))))) (fun ds Q E h=>Nat.le_trans (le_of_eq (l9 ds Q E h)) (by decide)) sk h⟩
theorem nN:∀ds Q,cP ds Q->ds.length=3:=fun ds Q h=>by unfold cP at h;split at h;(first|rfl|exact h.elim);(first|rfl|exact h.elim)
theorem uV(D:sY K mg "is_text" fB [.int 0,.int 4000])(T:Txt mg)(TC:TxC K)(TX:TxX K mg):DJ P w K mg base 1 "is_text" ["thing","least","most"] [.int 0,.int 4000] (spP K cP):=by
 refine D.ok uM (fun dT kV doc pm an cdv ct items us n hi hn hl=>?_) (fun vs H Q E h=>?_) (fun f cdv A outer s H vs Q E hr h=>?_)
 .obtain⟨i0,i1,rfl⟩:∃i0 i1,items=[i0,i1]:=match items,hi with|[i0,i1],_=>⟨i0,i1,rfl⟩
  have hn':n=0\/n=1\/n=2:=by (have:n<=2:=hn);omega
  rcases hn' with rfl|rfl|rfl
  .have hl2:us.length=1:=by (simp at hl;omega)
   match us,hl2 with
   | [_],_=>exact⟨_,rfl,rfl⟩
  .have hl2:us.length=2:=by (simp at hl;omega)
   match us,hl2 with
   | [_,_],_=>exact⟨_,rfl,rfl⟩
  .have hl2:us.length=3:=by (simp at hl;omega)
   match us,hl2 with
   | [_,_,_],_=>exact⟨_,rfl,rfl⟩
 .exact jd nN h
 .have hu:=hr.units;exact⟨_,(ah (dM (PW.pt (x4 (mX (gM (ay (Bm K rfl) rfl T.b_isinstance boot_isinstance (paC (pv 0) (paC (kQ (v:=.ty "str") rfl T.b_str boot_str rfl) ag))))) (ve (mX (x8 E9 E9 (pv 1) (ay (cZ K rfl) rfl T.b_len PySem.boot_len (paC (pv 0) ag)) (pv 2)))))) (ar (a6 jq)) bZ) (ar (a6 (ay (Br K rfl rfl) rfl T.b_all boot_all (paC (bw (wi:=(gH K (aM 0))) (g:=(bu 0)) (tts:=gF) (te:=(sP E7 E7 (tC (V.str (S [97]))) (aM 0) (tC (V.str (S [122]))))) ["sign"] [none] rfl (bX K rfl (pv 0)) (fun _ _ _ _=>⟨(aE (i:=0) (by show List.Nodup (["sign"]:List Str);decide +kernel) rfl (by walk_at "o")),bv,(x6 E9 E9 (gE (l:=[97]) (by decide +kernel)) (pv 0) (gE (l:=[122]) (by decide +kernel)))⟩) (by kernel_rfl)) ag))))),fnP (K:=K) (c:=cP) (ps:=ib) (N:=["thing","least","most"]) (ax (fo (yG (nj (yF (wv .str (aj (i:=0))))) (nj (fg (tz yJ yJ (aj (i:=1)) (ac (bg bM (aa (aj (i:=0)) ae))) (aj (i:=2)))))) (a8 jB) b3) (a8 (bg wB (aa (ac (aY (ix:=[none]) rfl (cg (am (i:=0))) (fun fs hc=>(az (i:=0) (gn hc (by decide)))) cE (tz yJ yJ (ac (le_str (l:=[97]))) (aj (i:=0)) (ac (le_str (l:=[122])))))) ae)))) (fun ds Q h=>Nat.le_trans (le_of_eq (nN ds Q h)) (by decide)) uR h⟩
theorem iE:∀ds Q,aV ds Q->ds.length=2:=fun ds Q h=>by unfold aV at h;split at h;(first|rfl|exact h.elim);(first|rfl|exact h.elim)
theorem mT(D:cj K mg "first_place" fQ)(T:Txt mg)(TC:TxC K)(TX:TxX K mg):Cal P w K mg base 1 "first_place" ["text","piece"] (spP K aV):=by
 refine D.ok mD (fun _ _ _ _ _ _ us hl=>match us,hl with|[_,_],_=>rfl) (fun vs H Q E h=>?_) (fun f cdv A outer s H vs Q E hr h=>?_)
 .exact jd iE h
 .have hu:=hr.units;exact⟨_,(ar (a6 (ey K rfl PySem.F.plainAttrs_str PySem.F.slot_str_find PySem.F.type_str_find yO (pv 0) (paC (pv 1) ag)))),fnP (K:=K) (c:=aV) (ps:=dH) (N:=["text","piece"]) (a8 (Ea yP (am (i:=0)) (aa (aj (i:=1)) ae))) (fun ds Q h=>Nat.le_trans (le_of_eq (iE ds Q h)) (by decide)) mJ h⟩
theorem Ax:∀ds Q,gu ds Q->ds.length=2:=fun ds Q h=>by unfold gu at h;split at h;(first|rfl|exact h.elim);(first|rfl|exact h.elim)
theorem EW(D:cj K mg "lap" Ca)(T:Txt mg)(TC:TxC K)(TX:TxX K mg):Cal P w K mg base 1 "lap" ["one","other"] (spP K gu):=by
 refine D.ok An (fun _ _ _ _ _ _ us hl=>match us,hl with|[_,_],_=>rfl) (fun vs H Q E h=>?_) (fun f cdv A outer s H vs Q E hr h=>?_)
 .exact jd Ax h
 .have hu:=hr.units;exact⟨_,(ah (fh PassesOwn.never rfl (pS rfl T.b_range (paC (aB mw (ay (zQ rfl) rfl T.b_min boot_min (paC (ay (cZ K rfl) rfl T.b_len PySem.boot_len (paC (pv 0) ag)) (paC (ay (cZ K rfl) rfl T.b_len PySem.boot_len (paC (pv 1) ag)) ag))) al) (paC al (paC (ju fi al) ag)))) (aE (i:=2) An.nd rfl (by walk_at "o")) (ar (dM (gM (ey K rfl PySem.F.plainAttrs_str PySem.F.slot_str_endswith PySem.F.type_str_endswith Bu (pv 0) (paC (cH (tD K rfl) (pv 1) dB (cY (pv 2))) ag))) (ar (a6 (pv 2))) bZ))) (ar (a6 al))),fnP (K:=K) (c:=gu) (ps:=ub) (N:=["one","other","k"]) (ax (fu (DY (aa (ac (ak gG (ac (bg wz (aa (ac (bg bM (aa (aj (i:=0)) ae))) (aa (ac (bg bM (aa (aj (i:=1)) ae))) ae)))) (ac le_int))) (aa (ac le_int) (aa (ac (ig dZ (ac le_int))) ae)))) (az (i:=2) rfl) (fo (yF (Ea Bw (am (i:=0)) (aa (ac (cI (aj (i:=1)) cO (cv (am (i:=2))))) ae))) (a8 (am (i:=2))) b3)) (a8 le_int)) (fun ds Q h=>Nat.le_trans (le_of_eq (Ax ds Q h)) (by decide)) EU h⟩
theorem ma:∀ds Q,b9 ds Q->ds.length=1:=fun ds Q h=>by unfold b9 at h;split at h;(first|rfl|exact h.elim);(first|rfl|exact h.elim)
theorem sG(D:cj K mg "all_laps" jS)(T:Txt mg)(TC:TxC K)(TX:TxX K mg)(C_lap:Cal P w K mg base 1 "lap" ["one","other"] (spP K gu)):Cal P w K mg base 2 "all_laps" ["words"] (spP K b9):=by
 refine D.ok rY (fun _ _ _ _ _ _ us hl=>match us,hl with|[_],_=>rfl) (fun vs H Q E h=>?_) (fun f cdv A outer s H vs Q E hr h=>?_)
 .exact jd ma h
 .have hu:=hr.units;exact⟨_,(ar (a6 (aO (c8 K rfl) rfl T.b_tuple boot_tuple (paC (bw (wi:=(gH K (aM 0))) (g:=(bu 0)) (tts:=gF) (te:=(tCB (uE K) (aJ (mq [none,some 0] (gH K (aM 1)) (bu 0) gF (ei (spP K gu) [] E0 (aJ (aM 1) (aJ (aM 0) cS)))) cS))) ["one","words"] [none,some 0] rfl (bX K rfl (pv 0)) (fun _ _ _ _=>⟨(aE (i:=0) (by show List.Nodup (["one","words"]:List Str);decide +kernel) rfl (by walk_at "o")),bv,(aO (c8 K rfl) rfl T.b_tuple boot_tuple (paC (bw (wi:=(gH K (aM 1))) (g:=(bu 0)) (tts:=gF) (te:=(ei (spP K gu) [] E0 (aJ (aM 1) (aJ (aM 0) cS)))) ["other","one"] [none,some 0] rfl (bX K rfl (pv 1)) (fun _ _ _ _=>⟨(aE (i:=0) (by show List.Nodup (["other","one"]:List Str);decide +kernel) rfl (by walk_at "o")),bv,(aD C_lap (hr.mono (by decide)) (paC (pv 1) (paC (pv 0) ag)))⟩) (by kernel_rfl)) ag))⟩) (by kernel_rfl)) ag)))),fnP (K:=K) (c:=b9) (ps:=f9) (N:=["words"]) (a8 (bg cz (aa (ac (aY (ix:=[none,some 0]) rfl (cg (am (i:=0))) (fun fs hc=>(az (i:=0) (gn hc (by decide)))) cE (bg cz (aa (ac (aY (ix:=[none,some 0]) rfl (cg (am (i:=1))) (fun fs hc=>(az (i:=0) (gn hc (by decide)))) cE (aL (c:=gu) (aa (ac (am (i:=1))) (aa (ac (am (i:=0))) ae))))) ae)))) ae))) (fun ds Q h=>Nat.le_trans (le_of_eq (ma ds Q h)) (by decide)) ss h⟩
theorem hV:∀ds Q,bf ds Q->ds.length=1:=fun ds Q h=>by unfold bf at h;split at h;(first|rfl|exact h.elim);(first|rfl|exact h.elim)
theorem md(D:cj K mg "check_pieces" fc)(T:Txt mg)(TC:TxC K)(TX:TxX K mg)(C_is_text:DJ P w K mg base 1 "is_text" ["thing","least","most"] [.int 0,.int 4000] (spP K cP)):Cal P w K mg base 2 "check_pieces" ["things"] (spP K bf):=by
 refine D.ok eG (fun _ _ _ _ _ _ us hl=>match us,hl with|[_],_=>rfl) (fun vs H Q E h=>?_) (fun f cdv A outer s H vs Q E hr h=>?_)
 .exact jd hV h
 .have hu:=hr.units;exact⟨_,(ah (dM (aN BA (ay (cZ K rfl) rfl T.b_len PySem.boot_len (paC (pv 0) ag)) (kI rfl T.g_MOST_PIECES) (bh _)) (ar nR) bZ) (ar (fh PassesOwn.never rfl (kL K rfl rfl T.b_enumerate (paC (pv 0) ag)) (qk K rfl (n:=2) rfl (cW (aE (i:=1) eG.nd rfl (by walk_at "o")) (cW (aE (i:=2) eG.nd rfl (by walk_at "o")) jt))) (ar (dM (mX (gM (yW 2 C_is_text (hr.mono (by decide)) (by decide) (paC (pv 2) (paC al (paC (kI rfl T.g_MOST_SIGNS) ag)))))) (ar nR) bZ))))),fnP (K:=K) (c:=bf) (ps:=dw) (N:=["things","at","thing"]) (ax (fo (fg (ak rE (ac (bg bM (aa (aj (i:=0)) ae))) (ac (le_int (i:=40))))) oi b3) (fu (oj (aa (ac (am (i:=0))) ae)) (ly (dE (az (i:=1) rfl) (dE (az (i:=2) rfl) li))) (fo (nj (yF (yQ (ds:=[]) (by repeat (first|exact .nil|exact .cons (.int _) .nil|refine .cons (.int _) ?_)) (aa (ac (am (i:=2))) (aa (ac le_int) (aa (ac (le_int (i:=60))) ae)))))) oi b3))) (fun ds Q h=>Nat.le_trans (le_of_eq (hV ds Q h)) (by decide)) lW h⟩
theorem gw:∀ds Q,aI ds Q->ds.length=2:=fun ds Q h=>by unfold aI at h;split at h;(first|rfl|exact h.elim);(first|rfl|exact h.elim)
theorem kE(D:cj K mg "stands_within" eE)(T:Txt mg)(TC:TxC K)(TX:TxX K mg)(C_first_place:Cal P w K mg base 1 "first_place" ["text","piece"] (spP K aV)):Cal P w K mg base 2 "stands_within" ["piece","other"] (spP K aI):=by
 refine D.ok kA (fun _ _ _ _ _ _ us hl=>match us,hl with|[_,_],_=>rfl) (fun vs H Q E h=>?_) (fun f cdv A outer s H vs Q E hr h=>?_)
 .exact jd gw h
 .have hu:=hr.units;exact⟨_,(ar (a6 (jv Hf (aD C_first_place (hr.mono (by decide)) (paC (pv 1) (paC (pv 0) ag))) al (bh _)))),fnP (K:=K) (c:=aI) (ps:=cX) (N:=["piece","other"]) (a8 (ak FQ (ac (aL (c:=aV) (aa (ac (am (i:=1))) (aa (ac (am (i:=0))) ae)))) (ac le_int))) (fun ds Q h=>Nat.le_trans (le_of_eq (gw ds Q h)) (by decide)) kC h⟩
theorem nO:∀ds Q,cq ds Q->ds.length=2:=fun ds Q h=>by unfold cq at h;split at h;(first|rfl|exact h.elim);(first|rfl|exact h.elim)
theorem uW(D:cj K mg "is_kept" lD)(T:Txt mg)(TC:TxC K)(TX:TxX K mg)(C_stands_within:Cal P w K mg base 2 "stands_within" ["piece","other"] (spP K aI)):Cal P w K mg base 3 "is_kept" ["pieces","at"] (spP K cq):=by
 refine D.ok jY (fun _ _ _ _ _ _ us hl=>match us,hl with|[_,_],_=>rfl) (fun vs H Q E h=>?_) (fun f cdv A outer s H vs Q E hr h=>?_)
 .exact jd nO h
 .have hu:=hr.units;exact⟨_,(ah (aH (i:=2) jY.nd rfl (by walk_at "o") (bj (di K rfl) (pv 0) (pv 1) (fun _ _=>rfl))) (ah (dR (wi:=(gH K (aM 0))) (g:=(bu 0)) (tts:=(iI (tOp Ge (tCB (ku K) (aJ (aM 0) cS)) (tCB (ku K) (aJ (aM 1) cS))))) (te:=(aM 0)) (i:=3) ["other","piece"] [none,some 2] jY.nd rfl (Or.inl rfl) rfl (bX K rfl (pv 0)) (fun _ _ _ _=>⟨(aE (i:=0) (by show List.Nodup (["other","piece"]:List Str);decide +kernel) rfl (by walk_at "o")),(dQ (aN BA (ay (cZ K rfl) rfl T.b_len PySem.boot_len (paC (pv 0) ag)) (ay (cZ K rfl) rfl T.b_len PySem.boot_len (paC (pv 1) ag)) (bh _))),(pv 0)⟩) (by kernel_rfl)) (ar (a6 (mY (jv (kM K rfl) (pv 2) (cH (tD K rfl) (pv 0) dB (cY (pv 1))) (by with_unfolding_all rfl)) (pE (zy (ay (Ga K rfl rfl) rfl T.b_any boot_any (paC (bw (wi:=(gH K (aM 3))) (g:=(bu 0)) (tts:=gF) (te:=(ei (spP K aI) [] E0 (aJ (aM 1) (aJ (aM 0) cS)))) ["other","piece"] [none,some 2] rfl (bX K rfl (pv 3)) (fun _ _ _ _=>⟨(aE (i:=0) (by show List.Nodup (["other","piece"]:List Str);decide +kernel) rfl (by walk_at "o")),bv,(aD C_stands_within (hr.mono (by decide)) (paC (pv 1) (paC (pv 0) ag)))⟩) (by kernel_rfl)) ag))))))))),fnP (K:=K) (c:=cq) (ps:=ic) (N:=["pieces","at","piece","longer"]) (ax (aC (ak bq (aj (i:=0)) (aj (i:=1))) (au (i:=2) rfl)) (ax (aC (aY (ix:=[none,some 2]) rfl (cg (am (i:=0))) (fun fs hc=>(az (i:=0) (gn hc (by decide)))) (fg (ak rE (ac (bg bM (aa (aj (i:=0)) ae))) (ac (bg bM (aa (aj (i:=1)) ae))))) (am (i:=0))) (au (i:=3) rfl)) (a8 (nk (ak nC (aj (i:=2)) (ac (cI (aj (i:=0)) cO (cv (am (i:=1)))))) (zO (bg D5 (aa (ac (aY (ix:=[none,some 2]) rfl (cg (am (i:=3))) (fun fs hc=>(az (i:=0) (gn hc (by decide)))) cE (aL (c:=aI) (aa (ac (am (i:=1))) (aa (ac (am (i:=0))) ae))))) ae))))))) (fun ds Q h=>Nat.le_trans (le_of_eq (nO ds Q h)) (by decide)) uS h⟩
theorem me:∀ds Q,bV ds Q->ds.length=3:=fun ds Q h=>by unfold bV at h;split at h;(first|rfl|exact h.elim);(first|rfl|exact h.elim)
theorem sH(D:cj K mg "left_row" jT)(T:Txt mg)(TC:TxC K)(TX:TxX K mg)(C_first_place:Cal P w K mg base 1 "first_place" ["text","piece"] (spP K aV))(C_stands_within:Cal P w K mg base 2 "stands_within" ["piece","other"] (spP K aI)):Cal P w K mg base 3 "left_row" ["pieces","kept","at"] (spP K bV):=by
 refine D.ok lF (fun _ _ _ _ _ _ us hl=>match us,hl with|[_,_,_],_=>rfl) (fun vs H Q E h=>?_) (fun f cdv A outer s H vs Q E hr h=>?_)
 .exact jd me h
 .have hu:=hr.units;exact⟨_,(ah (aH (i:=3) lF.nd rfl (by walk_at "o") (ay (zR K rfl rfl) rfl T.b_min boot_min (paC (bw (wi:=(gH K (aM 1))) (g:=(bu 0)) (tts:=(tB (ei (spP K aI) [] E0 (aJ (tOp (iV K) (aM 1) (aM 2)) (aJ (tOp (iV K) (aM 1) (aM 0)) cS))))) (te:=(aM 0)) ["one","pieces","at"] [none,some 0,some 2] rfl (bX K rfl (pv 1)) (fun _ _ _ _=>⟨(aE (i:=0) (by show List.Nodup (["one","pieces","at"]:List Str);decide +kernel) rfl (by walk_at "o")),(dQ (gM (aD C_stands_within (hr.mono (by decide)) (paC (bj (di K rfl) (pv 1) (pv 2) (fun _ _=>rfl)) (paC (bj (di K rfl) (pv 1) (pv 0) (fun _ _=>rfl)) ag))))),(pv 0)⟩) (by kernel_rfl)) ag))) (ar (a6 (iY (paC (pv 2) (paC (pv 3) (paC (aD C_first_place (hr.mono (by decide)) (paC (bj (di K rfl) (pv 0) (pv 3) (fun _ _=>rfl)) (paC (bj (di K rfl) (pv 0) (pv 2) (fun _ _=>rfl)) ag))) ag))))))),fnP (K:=K) (c:=bV) (ps:=gb) (N:=["pieces","kept","at","holder"]) (ax (aC (bg wA (aa (ac (aY (ix:=[none,some 0,some 2]) rfl (cg (am (i:=1))) (fun fs hc=>(az (i:=0) (gn hc (by decide)))) (yF (aL (c:=aI) (aa (ac (ak bq (aj (i:=1)) (aj (i:=2)))) (aa (ac (ak bq (aj (i:=1)) (aj (i:=0)))) ae)))) (am (i:=0)))) ae)) (au (i:=3) rfl)) (a8 (lg (aa (ac (am (i:=2))) (aa (ac (am (i:=3))) (aa (ac (aL (c:=aV) (aa (ac (ak bq (aj (i:=0)) (aj (i:=3)))) (aa (ac (ak bq (aj (i:=0)) (aj (i:=2)))) ae)))) ae)))))) (fun ds Q h=>Nat.le_trans (le_of_eq (me ds Q h)) (by decide)) sv h⟩
theorem iF:∀p ds Q,bo p ds Q->ds.length+1=2:=fun p ds Q h=>by unfold bo at h;split at h;(first|rfl|exact h.elim);(first|rfl|exact h.elim)
theorem mU(D:tq K mg (bc K "Family") "Family" "Family.__init__" cA)(T:Txt mg)(TC:TxC K)(TX:TxX K mg)(C_all_laps:Cal P w K mg base 2 "all_laps" ["words"] (spP K b9))(C_check_pieces:Cal P w K mg base 2 "check_pieces" ["things"] (spP K bf))(C_is_kept:Cal P w K mg base 3 "is_kept" ["pieces","at"] (spP K cq))(C_left_row:Cal P w K mg base 3 "left_row" ["pieces","kept","at"] (spP K bV)):DM P w K mg base 4 (bc K "Family") "Family" ["self","pieces"] (spR K bo):=by
 refine D.ok ir (fun _ _ _ _ _ _ us hl=>match us,hl with|[_,_],_=>rfl) (fun vs H Q E h=>?_) (fun f cdv A outer s H vs Q E hr h=>?_)
 .exact CK iF h
 .have hu:=hr.units;exact⟨_,(ah (dA (aD C_check_pieces (hr.mono (by decide)) (paC (pv 1) ag))) (ah (m5 (pv 0) (aO (c8 K rfl) rfl T.b_tuple boot_tuple (paC (pv 1) ag)) rfl) (ah (aH (i:=2) ir.nd rfl (by walk_at "o") (aO (D9 K rfl rfl) rfl T.b_list boot_list (paC (v8 rfl T.b_range (paC (ay (cZ K rfl) rfl T.b_len PySem.boot_len (paC (dS K rfl (pv 0) rfl) ag)) ag)) ag))) (ah (m5 (pv 0) (aO (c8 K rfl) rfl T.b_tuple boot_tuple (paC (bw (wi:=(gH K (aM 2))) (g:=(bu 0)) (tts:=(tB (ei (spP K cq) [] E0 (aJ (uZ K (aM 1) "pieces") (aJ (aM 0) cS))))) (te:=(aM 0)) ["at","self"] [none,some 0] rfl (bX K rfl (pv 2)) (fun _ _ _ _=>⟨(aE (i:=0) (by show List.Nodup (["at","self"]:List Str);decide +kernel) rfl (by walk_at "o")),(dQ (gM (aD C_is_kept (hr.mono (by decide)) (paC (dS K rfl (pv 1) rfl) (paC (pv 0) ag))))),(pv 0)⟩) (by kernel_rfl)) ag)) rfl) (ah (m5 (pv 0) (aO (c8 K rfl) rfl T.b_tuple boot_tuple (paC (bw (wi:=(gH K (uZ K (aM 0) "kept"))) (g:=(bu 0)) (tts:=gF) (te:=(tOp (iV K) (uZ K (aM 1) "pieces") (aM 0))) ["at","self"] [none,some 0] rfl (bX K rfl (dS K rfl (pv 0) rfl)) (fun _ _ _ _=>⟨(aE (i:=0) (by show List.Nodup (["at","self"]:List Str);decide +kernel) rfl (by walk_at "o")),bv,(bj (di K rfl) (dS K rfl (pv 1) rfl) (pv 0) (fun _ _=>rfl))⟩) (by kernel_rfl)) ag)) rfl) (ah (m5 (pv 0) (aO (c8 K rfl) rfl T.b_tuple boot_tuple (paC (bw (wi:=(gH K (aM 2))) (g:=(bu 0)) (tts:=(iI (tOp (CM K true) (aM 0) (uZ K (aM 1) "kept")))) (te:=(ei (spP K bV) [] E0 (aJ (uZ K (aM 1) "pieces") (aJ (uZ K (aM 1) "kept") (aJ (aM 0) cS))))) ["at","self"] [none,some 0] rfl (bX K rfl (pv 2)) (fun _ _ _ _=>⟨(aE (i:=0) (by show List.Nodup (["at","self"]:List Str);decide +kernel) rfl (by walk_at "o")),(dQ (aN (kM K rfl) (pv 0) (dS K rfl (pv 1) rfl) (by with_unfolding_all rfl))),(aD C_left_row (hr.mono (by decide)) (paC (dS K rfl (pv 1) rfl) (paC (dS K rfl (pv 1) rfl) (paC (pv 0) ag))))⟩) (by kernel_rfl)) ag)) rfl) (ah (m5 (pv 0) (aD C_all_laps (hr.mono (by decide)) (paC (dS K rfl (pv 0) rfl) ag)) rfl) (ar (m5 (pv 0) (ay (D3 K rfl rfl) rfl T.b_sum boot_sum (paC (bw (wi:=(gH K (uZ K (aM 0) "words"))) (g:=(bu 0)) (tts:=gF) (te:=(tCB (ku K) (aJ (aM 0) cS))) ["word"] [none] rfl (bX K rfl (dS K rfl (pv 0) rfl)) (fun _ _ _ _=>⟨(aE (i:=0) (by show List.Nodup (["word"]:List Str);decide +kernel) rfl (by walk_at "o")),bv,(ay (cZ K rfl) rfl T.b_len PySem.boot_len (paC (pv 0) ag))⟩) (by kernel_rfl)) ag)) rfl))))))))),fnR (K:=K) (c:=bo) (ps:=dI) (N:=["self","pieces","indexes"]) (ax (dU (aL (c:=bf) (aa (ac (am (i:=1))) ae))) (ax (jF (c0:="Family") (ns0:=[]) (i:=0) TC.cl_Family TC.n_Family_pieces (by decide +kernel) (bg cz (aa (aj (i:=1)) ae))) (ax (aC (yN false (aa (ac (bg bM (aa (ac (gm (ns0:=["pieces"]) TC.cl_Family TC.n_Family_pieces (i:=0) (by decide +kernel) (aj (i:=0)))) ae))) ae)) (au (i:=2) rfl)) (ax (jF (c0:="Family") (ns0:=["pieces"]) (i:=0) TC.cl_Family TC.n_Family_kept (by decide +kernel) (bg cz (aa (ac (aY (ix:=[none,some 0]) rfl (cg (am (i:=2))) (fun fs hc=>(az (i:=0) (gn hc (by decide)))) (yF (aL (c:=cq) (aa (ac (gm (ns0:=["pieces"]) TC.cl_Family TC.n_Family_pieces (i:=0) (by decide +kernel) (aj (i:=1)))) (aa (ac (am (i:=0))) ae)))) (am (i:=0)))) ae))) (ax (jF (c0:="Family") (ns0:=["pieces","kept"]) (i:=0) TC.cl_Family TC.n_Family_words (by decide +kernel) (bg cz (aa (ac (aY (ix:=[none,some 0]) rfl (cg (gm (ns0:=["pieces","kept"]) TC.cl_Family TC.n_Family_kept (i:=1) (by decide +kernel) (aj (i:=0)))) (fun fs hc=>(az (i:=0) (gn hc (by decide)))) cE (ak bq (ac (gm (ns0:=["pieces","kept"]) TC.cl_Family TC.n_Family_pieces (i:=0) (by decide +kernel) (aj (i:=1)))) (aj (i:=0))))) ae))) (ax (jF (c0:="Family") (ns0:=["pieces","kept","words"]) (i:=0) TC.cl_Family TC.n_Family_left (by decide +kernel) (bg cz (aa (ac (aY (ix:=[none,some 0]) rfl (cg (am (i:=2))) (fun fs hc=>(az (i:=0) (gn hc (by decide)))) (fg (ak nC (aj (i:=0)) (ac (gm (ns0:=["pieces","kept","words"]) TC.cl_Family TC.n_Family_kept (i:=1) (by decide +kernel) (aj (i:=1)))))) (aL (c:=bV) (aa (ac (gm (ns0:=["pieces","kept","words"]) TC.cl_Family TC.n_Family_pieces (i:=0) (by decide +kernel) (aj (i:=1)))) (aa (ac (gm (ns0:=["pieces","kept","words"]) TC.cl_Family TC.n_Family_kept (i:=1) (by decide +kernel) (aj (i:=1)))) (aa (ac (am (i:=0))) ae)))))) ae))) (ax (jF (c0:="Family") (ns0:=["pieces","kept","words","left"]) (i:=0) TC.cl_Family TC.n_Family_laps (by decide +kernel) (aL (c:=b9) (aa (ac (gm (ns0:=["pieces","kept","words","left"]) TC.cl_Family TC.n_Family_words (i:=2) (by decide +kernel) (aj (i:=0)))) ae))) (jF (c0:="Family") (ns0:=["pieces","kept","words","left","laps"]) (i:=0) TC.cl_Family TC.n_Family_total (by decide +kernel) (bg Bt (aa (ac (aY (ix:=[none]) rfl (cg (gm (ns0:=["pieces","kept","words","left","laps"]) TC.cl_Family TC.n_Family_words (i:=2) (by decide +kernel) (aj (i:=0)))) (fun fs hc=>(az (i:=0) (gn hc (by decide)))) cE (bg bM (aa (aj (i:=0)) ae)))) ae)))))))))) (fun p ds Q h=>Nat.le_trans (le_of_eq (iF p ds Q h)) (by decide)) mK h⟩
theorem iG:∀ds Q,aW ds Q->ds.length=1:=fun ds Q h=>by unfold aW at h;split at h;(first|rfl|exact h.elim);(first|rfl|exact h.elim)
theorem mV(D:tm K (bc K "Family") "many" "Family.many" cB)(T:Txt mg)(TC:TxC K)(TX:TxX K mg):DL P w K mg base 1 (bc K "Family") "many" ["self"] (spP K aW):=by
 refine D.ok mE (fun _ _ _ _ _ _ us hl=>match us,hl with|[_],_=>rfl) (fun vs H Q E h=>?_) (fun f cdv A outer s H vs Q E hr h=>?_)
 .exact jd iG h
 .have hu:=hr.units;exact⟨_,(ar (a6 (ay (cZ K rfl) rfl T.b_len PySem.boot_len (paC (dS K rfl (pv 0) rfl) ag)))),fnP (K:=K) (c:=aW) (ps:=dJ) (N:=["self"]) (a8 (bg bM (aa (ac (gm (ns0:=["pieces","kept","words","left","laps","total"]) TC.cl_Family TC.n_Family_words (i:=2) (by decide +kernel) (aj (i:=0)))) ae))) (fun ds Q h=>Nat.le_trans (le_of_eq (iG ds Q h)) (by decide)) mL h⟩
theorem kj:∀ds Q,bN ds Q->ds.length=2:=fun ds Q h=>by unfold bN at h;split at h;(first|rfl|exact h.elim);(first|rfl|exact h.elim)
theorem qU(D:cj K mg "_law_mixed" iO)(T:Txt mg)(TC:TxC K)(TX:TxX K mg):Cal P w K mg base 1 "_law_mixed" ["_law_cell","_law_k"] (spP K bN):=by
 refine D.ok dO (fun _ _ _ _ _ _ us hl=>match us,hl with|[_,_],_=>rfl) (fun vs H Q E h=>?_) (fun f cdv A outer s H vs Q E hr h=>?_)
 .exact jd kj h
 .have hu:=hr.units;exact⟨_,(ah (aH (i:=2) dO.nd rfl (by walk_at "o") (aB (bE K rfl) (aB (bE K rfl) (aB (bE K rfl) (aB cK (pv 0) al) (aB ja (aB ja (pv 1) (pv 1)) al)) (aB ja (pv 1) al)) al)) (ah (aH (i:=2) dO.nd rfl (by walk_at "o") (aB cK (pv 2) al)) (ah (aH (i:=2) dO.nd rfl (by walk_at "o") (aB cK (aB ja (pv 2) (pv 2)) al)) (ah (aH (i:=2) dO.nd rfl (by walk_at "o") (aB cK (aB ja (aB (bE K rfl) (aB (bE K rfl) (pv 2) (aB ja (pv 1) al)) al) al) al)) (ar (a6 (aB nu (aB cK (aB ja (pv 2) (pv 2)) al) al))))))),fnP (K:=K) (c:=bN) (ps:=eT) (N:=["_law_cell","_law_k","_law_number"]) (ax (aC (ak a5 (ac (ak a5 (ac (ak a5 (ac (ak br (aj (i:=0)) (ac le_int))) (ac (ak eN (ac (ak eN (aj (i:=1)) (aj (i:=1)))) (ac le_int))))) (ac (ak eN (aj (i:=1)) (ac le_int))))) (ac le_int)) (au (i:=2) rfl)) (ax (aC (ak br (aj (i:=2)) (ac le_int)) (au (i:=2) rfl)) (ax (aC (ak br (ac (ak eN (aj (i:=2)) (aj (i:=2)))) (ac le_int)) (au (i:=2) rfl)) (ax (aC (ak br (ac (ak eN (ac (ak a5 (ac (ak a5 (aj (i:=2)) (ac (ak eN (aj (i:=1)) (ac le_int))))) (ac le_int))) (ac le_int))) (ac le_int)) (au (i:=2) rfl)) (a8 (ak jC (ac (ak br (ac (ak eN (aj (i:=2)) (aj (i:=2)))) (ac le_int))) (ac le_int))))))) (fun ds Q h=>Nat.le_trans (le_of_eq (kj ds Q h)) (by decide)) qI h⟩
theorem mf:∀ds Q,ca ds Q->ds.length=2:=fun ds Q h=>by unfold ca at h;split at h;(first|rfl|exact h.elim);(first|rfl|exact h.elim)
theorem sI(D:cj K mg "_law_deck" jU)(T:Txt mg)(TC:TxC K)(TX:TxX K mg)(C_law_mixed:Cal P w K mg base 1 "_law_mixed" ["_law_cell","_law_k"] (spP K bN)):Cal P w K mg base 2 "_law_deck" ["_law_script","_law_many"] (spP K ca):=by
 refine D.ok cC (fun _ _ _ _ _ _ us hl=>match us,hl with|[_,_],_=>rfl) (fun vs H Q E h=>?_) (fun f cdv A outer s H vs Q E hr h=>?_)
 .exact jd mf h
 .have hu:=hr.units;exact⟨_,(ah (aH (i:=2) cC.nd rfl (by walk_at "o") (aB (bE K rfl) (aO (ll K rfl) rfl T.b_list boot_list (paC (pv 0) ag)) (bC (paC (ay (cZ K rfl) rfl T.b_len PySem.boot_len (paC (pv 0) ag)) ag)))) (ah (aH (i:=3) cC.nd rfl (by walk_at "o") (bC ag)) (ah (aH (i:=4) cC.nd rfl (by walk_at "o") al) (ah (kG PassesOwn.never (aN E8 (ay (cZ K rfl) rfl T.b_len PySem.boot_len (paC (pv 3) ag)) (pv 1) (bh _)) (ah (fh PassesOwn.never rfl (bX K rfl (pv 2)) (aE (i:=5) cC.nd rfl (by walk_at "o")) (ah (aH (i:=6) cC.nd rfl (by walk_at "o") (pv 5)) (ah (jz (dM (PW.pt (x4 (aN BA (pv 4) al (bh _)) (ve (aN E8 (pv 5) (aB Bz al al) (bh _))))) (ah (dA (ey K rfl PySem.F.plainAttrs_list PySem.F.slot_list_append PySem.F.type_list_append dn (pv 3) (paC (aB cK (aD C_law_mixed (hr.mono (by decide)) (paC (pv 5) (paC (aB (bE K rfl) (ay (cZ K rfl) rfl T.b_len PySem.boot_len (paC (pv 3) ag)) al) ag))) al) ag))) (ar (aH (i:=6) cC.nd rfl (by walk_at "o") al))) bZ)) (ar (kG PassesOwn.never (PW.pt (vf (aN BA (pv 6) al (bh _)) (rh (aN E8 (ay (cZ K rfl) rfl T.b_len PySem.boot_len (paC (pv 3) ag)) (pv 1) (bh _))))) (ah (dA (ey K rfl PySem.F.plainAttrs_list PySem.F.slot_list_append PySem.F.type_list_append dn (pv 3) (paC (aB cK (pv 6) al) ag))) (ar (aH (i:=6) cC.nd rfl (by walk_at "o") (aB nu (pv 6) al))))))))) (ar (aH (i:=4) cC.nd rfl (by walk_at "o") (aB (bE K rfl) (pv 4) al))))) (ar (a6 (rH K rfl rfl (cH (tD K rfl) (pv 3) dB (cY (pv 1))) rfl T.b_list rfl T.b_reversed))))))),fnP (K:=K) (c:=ca) (ps:=gc) (N:=["_law_script","_law_many","_law_cells","_law_found","_law_turn","_law_cell","_law_rest"]) (ax (aC (ak a5 (ac (bg lm (aa (aj (i:=0)) ae))) (ac (bz (aa (ac (bg bM (aa (aj (i:=0)) ae))) ae)))) (au (i:=2) rfl)) (ax (aC (bz ae) (au (i:=3) rfl)) (ax (aC le_int (au (i:=4) rfl)) (ax (om (fg (ak yI (ac (bg bM (aa (aj (i:=3)) ae))) (aj (i:=1)))) (ax (fu (cg (am (i:=2))) (az (i:=5) rfl) (ax (aC (am (i:=5)) (au (i:=6) rfl)) (ax (lj (fo (yG (fg (ak rE (aj (i:=4)) (ac le_int))) (fg (ak yI (aj (i:=5)) (ac (ak qb (ac le_int) (ac le_int)))))) (ax (dU (j5 (i:=3) (ak br (ac (aL (c:=bN) (aa (ac (am (i:=5))) (aa (ac (ak a5 (ac (bg bM (aa (aj (i:=3)) ae))) (ac le_int))) ae)))) (ac le_int)))) (aC le_int (au (i:=6) rfl))) b3)) (om (wp (fg (ak rE (aj (i:=6)) (ac le_int))) (fg (ak yI (ac (bg bM (aa (aj (i:=3)) ae))) (aj (i:=1))))) (ax (dU (j5 (i:=3) (ak br (aj (i:=6)) (ac le_int)))) (aC (ak jC (aj (i:=6)) (ac le_int)) (au (i:=6) rfl))))))) (aC (ak a5 (aj (i:=4)) (ac le_int)) (au (i:=4) rfl)))) (a8 (uG (ac (cI (aj (i:=3)) cO (cv (am (i:=1))))))))))) (fun ds Q h=>Nat.le_trans (le_of_eq (mf ds Q h)) (by decide)) sw h⟩
theorem mh:∀p ds Q,aA p ds Q->ds.length+1=1:=fun p ds Q h=>by unfold aA at h;split at h;(first|rfl|exact h.elim);(first|rfl|exact h.elim)
theorem sJ(D:cj K mg "_law_next" jV)(T:Txt mg)(TC:TxC K)(TX:TxX K mg):Cal P w K mg base 1 "_law_next" ["_law_deck_here"] (spR K aA):=by
 refine D.ok rZ (fun _ _ _ _ _ _ us hl=>match us,hl with|[_],_=>rfl) (fun vs H Q E h=>?_) (fun f cdv A outer s H vs Q E hr h=>?_)
 .exact CK mh h
 .have hu:=hr.units;exact⟨_,(ar (a6 (zH PySem.F.plainAttrs_list PySem.F.slot_list_pop PySem.F.type_list_pop Dn (pv 0)))),fnR (K:=K) (c:=aA) (ps:=gd) (N:=["_law_deck_here"]) (a8 (DZ (i:=0))) (fun p ds Q h=>Nat.le_trans (le_of_eq (mh p ds Q h)) (by decide)) sy h⟩
theorem kl:∀p ds Q,bO p ds Q->ds.length+1=3:=fun p ds Q h=>by unfold bO at h;split at h;(first|rfl|exact h.elim);(first|rfl|exact h.elim)
theorem qV(D:cj K mg "_law_signs" iP)(T:Txt mg)(TC:TxC K)(TX:TxX K mg)(C_law_next:Cal P w K mg base 1 "_law_next" ["_law_deck_here"] (spR K aA)):Cal P w K mg base 2 "_law_signs" ["_law_deck_here","_law_letters","_law_many"] (spR K bO):=by
 refine D.ok eQ (fun _ _ _ _ _ _ us hl=>match us,hl with|[_,_,_],_=>rfl) (fun vs H Q E h=>?_) (fun f cdv A outer s H vs Q E hr h=>?_)
 .exact CK kl h
 .have hu:=hr.units;exact⟨_,(ah (aH (i:=3) eQ.nd rfl (by walk_at "o") (gE (l:=[]) (by decide +kernel))) (ah (fh PassesOwn.never rfl (bH rfl T.b_range (paC (pv 2) ag)) (aE (i:=4) eQ.nd rfl (by walk_at "o")) (ar (aH (i:=3) eQ.nd rfl (by walk_at "o") (aB (bE K rfl) (pv 3) (bj (di K rfl) (pv 1) (aB cK (aD C_law_next (hr.mono (by decide)) (paC (pv 0) ag)) (ay (cZ K rfl) rfl T.b_len PySem.boot_len (paC (pv 1) ag))) (fun _ _=>rfl)))))) (ar (a6 (pv 3))))),fnR (K:=K) (c:=bO) (ps:=eU) (N:=["_law_deck_here","_law_letters","_law_many","_law_found","_law_k"]) (ax (aC (le_str (l:=[])) (au (i:=3) rfl)) (ax (fu (ii (aa (ac (am (i:=2))) ae)) (az (i:=4) rfl) (aC (ak a5 (aj (i:=3)) (ac (ak bq (aj (i:=1)) (ac (ak br (ac (a9 (i:=0) ae)) (ac (bg bM (aa (aj (i:=1)) ae)))))))) (au (i:=3) rfl))) (a8 (am (i:=3))))) (fun p ds Q h=>Nat.le_trans (le_of_eq (kl p ds Q h)) (by decide)) qL h⟩
theorem jn:∀p ds Q,bL p ds Q->ds.length+1=2:=fun p ds Q h=>by unfold bL at h;split at h;(first|rfl|exact h.elim);(first|rfl|exact h.elim)
theorem pd(D:cj K mg "_law_pieces" gQ)(T:Txt mg)(TC:TxC K)(TX:TxX K mg)(C_law_next:Cal P w K mg base 1 "_law_next" ["_law_deck_here"] (spR K aA))(C_law_signs:Cal P w K mg base 2 "_law_signs" ["_law_deck_here","_law_letters","_law_many"] (spR K bO)):Cal P w K mg base 3 "_law_pieces" ["_law_deck_here","_law_most"] (spR K bL):=by
 refine D.ok ba (fun _ _ _ _ _ _ us hl=>match us,hl with|[_,_],_=>rfl) (fun vs H Q E h=>?_) (fun f cdv A outer s H vs Q E hr h=>?_)
 .exact CK jn h
 .have hu:=hr.units;exact⟨_,(ah (aH (i:=2) ba.nd rfl (by walk_at "o") (aB cK (aD C_law_next (hr.mono (by decide)) (paC (pv 0) ag)) al)) (ah (aH (i:=3) ba.nd rfl (by walk_at "o") (bj (di K rfl) (bC (paC al (paC al (paC al (paC al ag))))) (aB cK (aD C_law_next (hr.mono (by decide)) (paC (pv 0) ag)) al) (fun _ _=>rfl))) (ah (dR (wi:=(iX (aJ (aM 3) cS))) (g:=(bu 0)) (tts:=gF) (te:=(tOp (iV K) (tC (V.str (S [97,98,99,100,101,102,103,104,105,106,107,108,109,110,111,112,113,114,115,116,117,118,119,120,121,122]))) (tOp wF (tOp (mB K) (aM 1) (tOp wq (tC (V.int 7)) (aM 0))) (tC (V.int 26))))) (i:=4) ["_law_k","_law_first"] [none,some 2] ba.nd rfl (Or.inl rfl) rfl (bH rfl T.b_range (paC (pv 3) ag)) (fun _ _ _ _=>⟨(aE (i:=0) (by show List.Nodup (["_law_k","_law_first"]:List Str);decide +kernel) rfl (by walk_at "o")),bv,(bj (di K rfl) (gE (l:=[97,98,99,100,101,102,103,104,105,106,107,108,109,110,111,112,113,114,115,116,117,118,119,120,121,122]) (by decide +kernel)) (aB cK (aB (bE K rfl) (pv 1) (aB ja al (pv 0))) al) (fun _ _=>rfl))⟩) (by kernel_rfl)) (ah (aH (i:=5) ba.nd rfl (by walk_at "o") (aB cK (aD C_law_next (hr.mono (by decide)) (paC (pv 0) ag)) al)) (ah (aH (i:=6) ba.nd rfl (by walk_at "o") (aB (bE K rfl) al (aB cK (aD C_law_next (hr.mono (by decide)) (paC (pv 0) ag)) al))) (ah (aH (i:=7) ba.nd rfl (by walk_at "o") (aB ja (aD C_law_signs (hr.mono (by decide)) (paC (pv 0) (paC (pv 4) (paC (aB (bE K rfl) al (aB cK (aD C_law_next (hr.mono (by decide)) (paC (pv 0) ag)) al)) ag)))) al)) (ah (aH (i:=8) ba.nd rfl (by walk_at "o") (bC ag)) (ah (fh PassesOwn.never rfl (bH rfl T.b_range (paC (aB cK (aD C_law_next (hr.mono (by decide)) (paC (pv 0) ag)) (aB (bE K rfl) (pv 1) al)) ag)) (aE (i:=9) ba.nd rfl (by walk_at "o")) (ah (aH (i:=10) ba.nd rfl (by walk_at "o") (aD C_law_next (hr.mono (by decide)) (paC (pv 0) ag))) (ah (aH (i:=11) ba.nd rfl (by walk_at "o") (cH (tD K rfl) (pv 7) (cY (aB cK (pv 10) al)) (cY (aB (bE K rfl) (aB (bE K rfl) (aB cK (pv 10) al) (pv 6)) (aB nu (aB cK (aB nu (pv 10) al) al) al))))) (ah (jz (dM (aN (fb K rfl hu) (pv 5) al (bh _)) (ar (aH (i:=11) ba.nd rfl (by walk_at "o") (aD C_law_signs (hr.mono (by decide)) (paC (pv 0) (paC (pv 4) (paC (aB (bE K rfl) al (aB cK (pv 10) al)) ag)))))) bZ)) (ah (jz (dM (aN (fb K rfl hu) (pv 5) al (bh _)) (ar (aH (i:=11) ba.nd rfl (by walk_at "o") (aB (bE K rfl) (aB (bE K rfl) (aB ja (bj (di K rfl) (pv 4) al (fun _ _=>rfl)) (aB cK (pv 10) al)) (bj (di K rfl) (pv 4) al (fun _ _=>rfl))) (aB ja (bj (di K rfl) (pv 4) al (fun _ _=>rfl)) (aB cK (aB nu (pv 10) al) al))))) bZ)) (ar (dA (ey K rfl PySem.F.plainAttrs_list PySem.F.slot_list_append PySem.F.type_list_append dn (pv 8) (paC (pv 11) ag))))))))) (ar (a6 (pv 8))))))))))),fnR (K:=K) (c:=bL) (ps:=d7) (N:=["_law_deck_here","_law_most","_law_first","_law_many","_law_letters","_law_sort","_law_long","_law_text","_law_pieces_here","_law_k","_law_at","_law_piece"]) (ax (aC (ak br (ac (a9 (i:=0) ae)) (ac le_int)) (au (i:=2) rfl)) (ax (aC (ak bq (ac (bz (aa (ac le_int) (aa (ac le_int) (aa (ac le_int) (aa (ac le_int) ae)))))) (ac (ak br (ac (a9 (i:=0) ae)) (ac le_int)))) (au (i:=3) rfl)) (ax (aC (aY (ix:=[none,some 2]) rfl (ii (aa (ac (am (i:=3))) ae)) (fun fs hc=>(az (i:=0) (gn hc (by decide)))) cE (ak bq (ac (le_str (l:=[97,98,99,100,101,102,103,104,105,106,107,108,109,110,111,112,113,114,115,116,117,118,119,120,121,122]))) (ac (ak br (ac (ak a5 (aj (i:=1)) (ac (ak eN (ac le_int) (aj (i:=0)))))) (ac le_int))))) (au (i:=4) rfl)) (ax (aC (ak br (ac (a9 (i:=0) ae)) (ac le_int)) (au (i:=5) rfl)) (ax (aC (ak a5 (ac le_int) (ac (ak br (ac (a9 (i:=0) ae)) (ac le_int)))) (au (i:=6) rfl)) (ax (aC (ak eN (ac (a9 (i:=0) (aa (ac (am (i:=4))) (aa (ac (ak a5 (ac le_int) (ac (ak br (ac (a9 (i:=0) ae)) (ac le_int))))) ae)))) (ac le_int)) (au (i:=7) rfl)) (ax (aC (bz ae) (au (i:=8) rfl)) (ax (fu (ii (aa (ac (ak br (ac (a9 (i:=0) ae)) (ac (ak a5 (aj (i:=1)) (ac le_int))))) ae)) (az (i:=9) rfl) (ax (aC (a9 (i:=0) ae) (au (i:=10) rfl)) (ax (aC (cI (aj (i:=7)) (cv (ak br (aj (i:=10)) (ac le_int))) (cv (ak a5 (ac (ak a5 (ac (ak br (aj (i:=10)) (ac le_int))) (aj (i:=6)))) (ac (ak jC (ac (ak br (ac (ak jC (aj (i:=10)) (ac le_int))) (ac le_int))) (ac le_int)))))) (au (i:=11) rfl)) (ax (lj (fo (fg (ak cU (aj (i:=5)) (ac le_int))) (aC (a9 (i:=0) (aa (ac (am (i:=4))) (aa (ac (ak a5 (ac le_int) (ac (ak br (aj (i:=10)) (ac le_int))))) ae))) (au (i:=11) rfl)) b3)) (ax (lj (fo (fg (ak cU (aj (i:=5)) (ac le_int))) (aC (ak a5 (ac (ak a5 (ac (ak eN (ac (ak bq (aj (i:=4)) (ac le_int))) (ac (ak br (aj (i:=10)) (ac le_int))))) (ac (ak bq (aj (i:=4)) (ac le_int))))) (ac (ak eN (ac (ak bq (aj (i:=4)) (ac le_int))) (ac (ak br (ac (ak jC (aj (i:=10)) (ac le_int))) (ac le_int)))))) (au (i:=11) rfl)) b3)) (dU (j5 (i:=8) (am (i:=11))))))))) (a8 (am (i:=8))))))))))) (fun p ds Q h=>Nat.le_trans (le_of_eq (jn p ds Q h)) (by decide)) oW h⟩
theorem km:∀ds Q,bP ds Q->ds.length=1:=fun ds Q h=>by unfold bP at h;split at h;(first|rfl|exact h.elim);(first|rfl|exact h.elim)
theorem qW(D:cj K mg "_law_words" iQ)(T:Txt mg)(TC:TxC K)(TX:TxX K mg):Cal P w K mg base 1 "_law_words" ["_law_pieces_here"] (spP K bP):=by
 refine D.ok dP (fun _ _ _ _ _ _ us hl=>match us,hl with|[_],_=>rfl) (fun vs H Q E h=>?_) (fun f cdv A outer s H vs Q E hr h=>?_)
 .exact jd km h
 .have hu:=hr.units;exact⟨_,(ah (aH (i:=1) dP.nd rfl (by walk_at "o") (bC ag)) (ah (fh PassesOwn.never rfl (kL K rfl rfl T.b_enumerate (paC (pv 0) ag)) (qk K rfl (n:=2) rfl (cW (aE (i:=2) dP.nd rfl (by walk_at "o")) (cW (aE (i:=3) dP.nd rfl (by walk_at "o")) jt))) (ah (dR (wi:=(gH K (aM 0))) (g:=(bu 0)) (tts:=(Fe (iI (tOp Ge (tCB (ku K) (aJ (aM 0) cS)) (tCB (ku K) (aJ (aM 1) cS)))) (iI (tOp (CM K false) (aM 1) (aM 0))))) (te:=(aM 0)) (i:=4) ["_law_other","_law_piece"] [none,some 3] dP.nd rfl (Or.inl rfl) rfl (bX K rfl (pv 0)) (fun _ _ _ _=>⟨(aE (i:=0) (by show List.Nodup (["_law_other","_law_piece"]:List Str);decide +kernel) rfl (by walk_at "o")),(dQ (PW.pt (vf (aN BA (ay (cZ K rfl) rfl T.b_len PySem.boot_len (paC (pv 0) ag)) (ay (cZ K rfl) rfl T.b_len PySem.boot_len (paC (pv 1) ag)) (bh _)) (rh (aN (Ex K rfl) (pv 1) (pv 0) (by with_unfolding_all rfl)))))),(pv 0)⟩) (by kernel_rfl)) (ar (dM (PW.pt (vf (aN (fb K rfl hu) (pv 4) (bC ag) (bh _)) (rh (aN (kM K rfl) (pv 3) (cH (tD K rfl) (pv 0) dB (cY (pv 2))) (by with_unfolding_all rfl))))) (ar (dA (ey K rfl PySem.F.plainAttrs_list PySem.F.slot_list_append PySem.F.type_list_append dn (pv 1) (paC (pv 3) ag)))) bZ)))) (ar (a6 (pv 1))))),fnP (K:=K) (c:=bP) (ps:=eV) (N:=["_law_pieces_here","_law_found","_law_k","_law_piece","_law_longer"]) (ax (aC (bz ae) (au (i:=1) rfl)) (ax (fu (oj (aa (ac (am (i:=0))) ae)) (ly (dE (az (i:=2) rfl) (dE (az (i:=3) rfl) li))) (ax (aC (aY (ix:=[none,some 3]) rfl (cg (am (i:=0))) (fun fs hc=>(az (i:=0) (gn hc (by decide)))) (wp (fg (ak rE (ac (bg bM (aa (aj (i:=0)) ae))) (ac (bg bM (aa (aj (i:=1)) ae))))) (fg (ak nC (aj (i:=1)) (aj (i:=0))))) (am (i:=0))) (au (i:=4) rfl)) (fo (wp (fg (ak cU (aj (i:=4)) (ac (bz ae)))) (fg (ak nC (aj (i:=3)) (ac (cI (aj (i:=0)) cO (cv (am (i:=2)))))))) (dU (j5 (i:=1) (am (i:=3)))) b3))) (a8 (am (i:=1))))) (fun ds Q h=>Nat.le_trans (le_of_eq (km ds Q h)) (by decide)) qM h⟩
theorem nP:∀ds Q,b4 ds Q->ds.length=2:=fun ds Q h=>by unfold b4 at h;split at h;(first|rfl|exact h.elim);(first|rfl|exact h.elim)
theorem uX(D:cj K mg "_law_lap" lE)(T:Txt mg)(TC:TxC K)(TX:TxX K mg):Cal P w K mg base 1 "_law_lap" ["_law_one","_law_other"] (spP K b4):=by
 refine D.ok nG (fun _ _ _ _ _ _ us hl=>match us,hl with|[_,_],_=>rfl) (fun vs H Q E h=>?_) (fun f cdv A outer s H vs Q E hr h=>?_)
 .exact jd nP h
 .have hu:=hr.units;exact⟨_,(ah (fh PassesOwn.never rfl (pS rfl T.b_range (paC (aB mw (ay (zQ rfl) rfl T.b_min boot_min (paC (ay (cZ K rfl) rfl T.b_len PySem.boot_len (paC (pv 0) ag)) (paC (ay (cZ K rfl) rfl T.b_len PySem.boot_len (paC (pv 1) ag)) ag))) al) (paC al (paC (ju fi al) ag)))) (aE (i:=2) nG.nd rfl (by walk_at "o")) (ar (dM (aN (fb K rfl hu) (cH (tD K rfl) (pv 0) (cY (aB mw (ay (cZ K rfl) rfl T.b_len PySem.boot_len (paC (pv 0) ag)) (pv 2))) dB) (cH (tD K rfl) (pv 1) dB (cY (pv 2))) (bh _)) (ar (a6 (pv 2))) bZ))) (ar (a6 al))),fnP (K:=K) (c:=b4) (ps:=ie) (N:=["_law_one","_law_other","_law_k"]) (ax (fu (DY (aa (ac (ak gG (ac (bg wz (aa (ac (bg bM (aa (aj (i:=0)) ae))) (aa (ac (bg bM (aa (aj (i:=1)) ae))) ae)))) (ac le_int))) (aa (ac le_int) (aa (ac (ig dZ (ac le_int))) ae)))) (az (i:=2) rfl) (fo (fg (ak cU (ac (cI (aj (i:=0)) (cv (ak gG (ac (bg bM (aa (aj (i:=0)) ae))) (aj (i:=2)))) cO)) (ac (cI (aj (i:=1)) cO (cv (am (i:=2))))))) (a8 (am (i:=2))) b3)) (a8 le_int)) (fun ds Q h=>Nat.le_trans (le_of_eq (nP ds Q h)) (by decide)) uT h⟩
theorem mi:∀ds Q,ce ds Q->ds.length=1:=fun ds Q h=>by unfold ce at h;split at h;(first|rfl|exact h.elim);(first|rfl|exact h.elim)
theorem sK(D:cj K mg "_law_laps" jW)(T:Txt mg)(TC:TxC K)(TX:TxX K mg)(C_law_lap:Cal P w K mg base 1 "_law_lap" ["_law_one","_law_other"] (spP K b4)):Cal P w K mg base 2 "_law_laps" ["_law_words_here"] (spP K ce):=by
 refine D.ok r8 (fun _ _ _ _ _ _ us hl=>match us,hl with|[_],_=>rfl) (fun vs H Q E h=>?_) (fun f cdv A outer s H vs Q E hr h=>?_)
 .exact jd mi h
 .have hu:=hr.units;exact⟨_,(ar (a6 (bw (wi:=(gH K (aM 0))) (g:=(bu 0)) (tts:=gF) (te:=(mq [none,some 0] (gH K (aM 1)) (bu 0) gF (ei (spP K b4) [] E0 (aJ (aM 1) (aJ (aM 0) cS))))) ["_law_one","_law_words_here"] [none,some 0] rfl (bX K rfl (pv 0)) (fun _ _ _ _=>⟨(aE (i:=0) (by show List.Nodup (["_law_one","_law_words_here"]:List Str);decide +kernel) rfl (by walk_at "o")),bv,(bw (wi:=(gH K (aM 1))) (g:=(bu 0)) (tts:=gF) (te:=(ei (spP K b4) [] E0 (aJ (aM 1) (aJ (aM 0) cS)))) ["_law_other","_law_one"] [none,some 0] rfl (bX K rfl (pv 1)) (fun _ _ _ _=>⟨(aE (i:=0) (by show List.Nodup (["_law_other","_law_one"]:List Str);decide +kernel) rfl (by walk_at "o")),bv,(aD C_law_lap (hr.mono (by decide)) (paC (pv 1) (paC (pv 0) ag)))⟩) (by kernel_rfl))⟩) (by kernel_rfl)))),fnP (K:=K) (c:=ce) (ps:=gf) (N:=["_law_words_here"]) (a8 (Aa (aY (ix:=[none,some 0]) rfl (cg (am (i:=0))) (fun fs hc=>(az (i:=0) (gn hc (by decide)))) cE (aY (ix:=[none,some 0]) rfl (cg (am (i:=1))) (fun fs hc=>(az (i:=0) (gn hc (by decide)))) cE (aL (c:=b4) (aa (ac (am (i:=1))) (aa (ac (am (i:=0))) ae))))))) (fun ds Q h=>Nat.le_trans (le_of_eq (mi ds Q h)) (by decide)) sB h⟩
theorem jo:∀ds Q,bA ds Q->ds.length=4:=fun ds Q h=>by unfold bA at h;split at h;(first|rfl|exact h.elim);(first|rfl|exact h.elim)
theorem pq(D:cj K mg "_law_needed" gR)(T:Txt mg)(TC:TxC K)(TX:TxX K mg):Cal P w K mg base 1 "_law_needed" ["_law_laps_here","_law_table_here","_law_mark","_law_i"] (spP K bA):=by
 refine D.ok fU (fun _ _ _ _ _ _ us hl=>match us,hl with|[_,_,_,_],_=>rfl) (fun vs H Q E h=>?_) (fun f cdv A outer s H vs Q E hr h=>?_)
 .exact jd jo h
 .have hu:=hr.units;exact⟨_,(ah (aH (i:=4) fU.nd rfl (by walk_at "o") (aB mw (pv 2) (aB mz al (pv 3)))) (ah (dR (wi:=(iX (aJ (tCB (ku K) (aJ (aM 0) cS)) cS))) (g:=(bu 0)) (tts:=(iI (tOp (lv K false) (tOp rP (tOp BF (aM 1) (aM 0)) (tC (V.int 1))) (tC (V.int 1))))) (te:=(aM 0)) (i:=5) ["_law_j","_law_below"] [none,some 4] fU.nd rfl (Or.inl rfl) rfl (bH rfl T.b_range (paC (ay (cZ K rfl) rfl T.b_len PySem.boot_len (paC (pv 0) ag)) ag)) (fun _ _ _ _=>⟨(aE (i:=0) (by show List.Nodup (["_law_j","_law_below"]:List Str);decide +kernel) rfl (by walk_at "o")),(dQ (aN (fb K rfl hu) (aB qi (aB wM (pv 1) (pv 0)) al) al (bh _))),(pv 0)⟩) (by kernel_rfl)) (ar (a6 (ay (wI K rfl rfl) rfl T.b_max boot_max (paC (aB (bE K rfl) (bC (paC al ag)) (bw (wi:=(gH K (aM 5))) (g:=(bu 0)) (tts:=gF) (te:=(tOp (mB K) (tOp (iV K) (tOp (iV K) (aM 2) (aM 3)) (aM 0)) (tOp (iV K) (tOp (iV K) (aM 4) (aM 0)) (aM 1)))) ["_law_j","_law_i","_law_table_here","_law_below","_law_laps_here"] [none,some 3,some 1,some 4,some 0] rfl (bX K rfl (pv 5)) (fun _ _ _ _=>⟨(aE (i:=0) (by show List.Nodup (["_law_j","_law_i","_law_table_here","_law_below","_law_laps_here"]:List Str);decide +kernel) rfl (by walk_at "o")),bv,(aB (bE K rfl) (bj (di K rfl) (bj (di K rfl) (pv 2) (pv 3) (fun _ _=>rfl)) (pv 0) (fun _ _=>rfl)) (bj (di K rfl) (bj (di K rfl) (pv 4) (pv 0) (fun _ _=>rfl)) (pv 1) (fun _ _=>rfl)))⟩) (by kernel_rfl))) ag)))))),fnP (K:=K) (c:=bA) (ps:=ef) (N:=["_law_laps_here","_law_table_here","_law_mark","_law_i","_law_below","_law_others"]) (ax (aC (ak gG (aj (i:=2)) (ac (ak ip (ac le_int) (aj (i:=3))))) (au (i:=4) rfl)) (ax (aC (aY (ix:=[none,some 4]) rfl (ii (aa (ac (bg bM (aa (aj (i:=0)) ae))) ae)) (fun fs hc=>(az (i:=0) (gn hc (by decide)))) (fg (ak cU (ac (ak lx (ac (ak qh (aj (i:=1)) (aj (i:=0)))) (ac le_int))) (ac le_int))) (am (i:=0))) (au (i:=5) rfl)) (a8 (bg rO (aa (ac (ak a5 (ac (bz (aa (ac le_int) ae))) (ac (aY (ix:=[none,some 3,some 1,some 4,some 0]) rfl (cg (am (i:=5))) (fun fs hc=>(az (i:=0) (gn hc (by decide)))) cE (ak a5 (ac (ak bq (ac (ak bq (aj (i:=2)) (aj (i:=3)))) (aj (i:=0)))) (ac (ak bq (ac (ak bq (aj (i:=4)) (aj (i:=0)))) (aj (i:=1))))))))) ae))))) (fun ds Q h=>Nat.le_trans (le_of_eq (jo ds Q h)) (by decide)) oY h⟩
theorem kn:∀ds Q,bQ ds Q->ds.length=1:=fun ds Q h=>by unfold bQ at h;split at h;(first|rfl|exact h.elim);(first|rfl|exact h.elim)
theorem qX(D:cj K mg "_law_table" iR)(T:Txt mg)(TC:TxC K)(TX:TxX K mg)(C_law_needed:Cal P w K mg base 1 "_law_needed" ["_law_laps_here","_law_table_here","_law_mark","_law_i"] (spP K bA)):Cal P w K mg base 2 "_law_table" ["_law_laps_here"] (spP K bQ):=by
 refine D.ok df (fun _ _ _ _ _ _ us hl=>match us,hl with|[_],_=>rfl) (fun vs H Q E h=>?_) (fun f cdv A outer s H vs Q E hr h=>?_)
 .exact jd kn h
 .have hu:=hr.units;exact⟨_,(ah (aH (i:=1) df.nd rfl (by walk_at "o") (ay (cZ K rfl) rfl T.b_len PySem.boot_len (paC (pv 0) ag))) (ah (aH (i:=2) df.nd rfl (by walk_at "o") (bC ag)) (ah (fh PassesOwn.never rfl (bH rfl T.b_range (paC (aB mz al (pv 1)) ag)) (aE (i:=3) df.nd rfl (by walk_at "o")) (ah (aH (i:=4) df.nd rfl (by walk_at "o") (aB ja (bC (paC (ju fi al) ag)) (pv 1))) (ah (fh PassesOwn.never rfl (bH rfl T.b_range (paC (pv 1) ag)) (aE (i:=5) df.nd rfl (by walk_at "o")) (ar (dM (aN (fb K rfl hu) (aB qi (aB wM (pv 3) (pv 5)) al) al (bh _)) (ar (lA (aD C_law_needed (hr.mono (by decide)) (paC (pv 0) (paC (pv 2) (paC (pv 3) (paC (pv 5) ag))))) (kR (pv 4) (pv 5) fG))) bZ))) (ar (dA (ey K rfl PySem.F.plainAttrs_list PySem.F.slot_list_append PySem.F.type_list_append dn (pv 2) (paC (pv 4) ag))))))) (ar (a6 (pv 2)))))),fnP (K:=K) (c:=bQ) (ps:=eW) (N:=["_law_laps_here","_law_many","_law_table_here","_law_mark","_law_row","_law_i"]) (ax (aC (bg bM (aa (aj (i:=0)) ae)) (au (i:=1) rfl)) (ax (aC (bz ae) (au (i:=2) rfl)) (ax (fu (ii (aa (ac (ak ip (ac le_int) (aj (i:=1)))) ae)) (az (i:=3) rfl) (ax (aC (ak eN (ac (bz (aa (ac (ig dZ (ac le_int))) ae))) (aj (i:=1))) (au (i:=4) rfl)) (ax (fu (ii (aa (ac (am (i:=1))) ae)) (az (i:=5) rfl) (fo (fg (ak cU (ac (ak lx (ac (ak qh (aj (i:=3)) (aj (i:=5)))) (ac le_int))) (ac le_int))) (wy (i:=4) (xz (aL (c:=bA) (aa (ac (am (i:=0))) (aa (ac (am (i:=2))) (aa (ac (am (i:=3))) (aa (ac (am (i:=5))) ae)))))) (am (i:=5))) b3)) (dU (j5 (i:=2) (am (i:=4))))))) (a8 (am (i:=2)))))) (fun ds Q h=>Nat.le_trans (le_of_eq (kn ds Q h)) (by decide)) qO h⟩
theorem ko:∀ds Q,bR ds Q->ds.length=2:=fun ds Q h=>by unfold bR at h;split at h;(first|rfl|exact h.elim);(first|rfl|exact h.elim)
theorem qY(D:cj K mg "_law_order" iS)(T:Txt mg)(TC:TxC K)(TX:TxX K mg):Cal P w K mg base 1 "_law_order" ["_law_laps_here","_law_table_here"] (spP K bR):=by
 refine D.ok bF (fun _ _ _ _ _ _ us hl=>match us,hl with|[_,_],_=>rfl) (fun vs H Q E h=>?_) (fun f cdv A outer s H vs Q E hr h=>?_)
 .exact jd ko h
 .have hu:=hr.units;exact⟨_,(ah (dM (aN (fb K rfl hu) (pv 0) (bC ag) (bh _)) (ar (a6 (iY ag))) bZ) (ah (aH (i:=2) bF.nd rfl (by walk_at "o") (aB mw (ay (cZ K rfl) rfl T.b_len PySem.boot_len (paC (pv 1) ag)) al)) (ah (aH (i:=3) bF.nd rfl (by walk_at "o") (ey K rfl PySem.F.plainAttrs_list PySem.F.slot_list_index PySem.F.type_list_index (xo K rfl) (bj (di K rfl) (pv 1) (pv 2) (fun _ _=>rfl)) (paC (ay (wI K rfl rfl) rfl T.b_max boot_max (paC (bj (di K rfl) (pv 1) (pv 2) (fun _ _=>rfl)) ag)) ag))) (ah (aH (i:=4) bF.nd rfl (by walk_at "o") (bC (paC (pv 3) ag))) (ah (kG PassesOwn.never (aN (uI K rfl hu) (pv 2) (aB mz al (pv 3)) (bh _)) (ah (aH (i:=5) bF.nd rfl (by walk_at "o") (aB mw (pv 2) (aB mz al (pv 3)))) (ah (dR (wi:=(iX (aJ (tCB (ku K) (aJ (aM 0) cS)) cS))) (g:=(bu 0)) (tts:=(iI (tOp (lv K false) (tOp rP (tOp BF (aM 1) (aM 0)) (tC (V.int 1))) (tC (V.int 1))))) (te:=(aM 0)) (i:=6) ["_law_j","_law_below"] [none,some 5] bF.nd rfl (Or.inl rfl) rfl (bH rfl T.b_range (paC (ay (cZ K rfl) rfl T.b_len PySem.boot_len (paC (pv 0) ag)) ag)) (fun _ _ _ _=>⟨(aE (i:=0) (by show List.Nodup (["_law_j","_law_below"]:List Str);decide +kernel) rfl (by walk_at "o")),(dQ (aN (fb K rfl hu) (aB qi (aB wM (pv 1) (pv 0)) al) al (bh _))),(pv 0)⟩) (by kernel_rfl)) (ah (aH (i:=7) bF.nd rfl (by walk_at "o") (bj (di K rfl) (bj (di K rfl) (pv 1) (pv 2) (fun _ _=>rfl)) (pv 3) (fun _ _=>rfl))) (ah (dR (wi:=(gH K (aM 6))) (g:=(bu 0)) (tts:=(iI (tOp (lv K false) (tOp (mB K) (tOp (iV K) (tOp (iV K) (aM 3) (aM 4)) (aM 0)) (tOp (iV K) (tOp (iV K) (aM 5) (aM 0)) (aM 2))) (aM 1)))) (te:=(aM 0)) (i:=6) ["_law_j","_law_cell","_law_i","_law_table_here","_law_below","_law_laps_here"] [none,some 7,some 3,some 1,some 5,some 0] bF.nd rfl (Or.inl rfl) rfl (bX K rfl (pv 6)) (fun _ _ _ _=>⟨(aE (i:=0) (by show List.Nodup (["_law_j","_law_cell","_law_i","_law_table_here","_law_below","_law_laps_here"]:List Str);decide +kernel) rfl (by walk_at "o")),(dQ (aN (fb K rfl hu) (aB (bE K rfl) (bj (di K rfl) (bj (di K rfl) (pv 3) (pv 4) (fun _ _=>rfl)) (pv 0) (fun _ _=>rfl)) (bj (di K rfl) (bj (di K rfl) (pv 5) (pv 0) (fun _ _=>rfl)) (pv 2) (fun _ _=>rfl))) (pv 1) (bh _))),(pv 0)⟩) (by kernel_rfl)) (ah (aH (i:=2) bF.nd rfl (by walk_at "o") (pv 5)) (ah (aH (i:=3) bF.nd rfl (by walk_at "o") (bj (di K rfl) (pv 6) al (fun _ _=>rfl))) (ar (aH (i:=4) bF.nd rfl (by walk_at "o") (aB (bE K rfl) (bC (paC (pv 3) ag)) (pv 4))))))))))) (ar (a6 (aO (c8 K rfl) rfl T.b_tuple boot_tuple (paC (pv 4) ag))))))))),fnP (K:=K) (c:=bR) (ps:=eX) (N:=["_law_laps_here","_law_table_here","_law_mark","_law_i","_law_found","_law_below","_law_some","_law_cell"]) (ax (fo (fg (ak cU (aj (i:=0)) (ac (bz ae)))) (a8 (lg ae)) b3) (ax (aC (ak gG (ac (bg bM (aa (aj (i:=1)) ae))) (ac le_int)) (au (i:=2) rfl)) (ax (aC (xp (ac (ak bq (aj (i:=1)) (aj (i:=2)))) (bg rO (aa (ac (ak bq (aj (i:=1)) (aj (i:=2)))) ae))) (au (i:=3) rfl)) (ax (aC (bz (aa (ac (am (i:=3))) ae)) (au (i:=4) rfl)) (ax (om (fg (ak ny (aj (i:=2)) (ac (ak ip (ac le_int) (aj (i:=3)))))) (ax (aC (ak gG (aj (i:=2)) (ac (ak ip (ac le_int) (aj (i:=3))))) (au (i:=5) rfl)) (ax (aC (aY (ix:=[none,some 5]) rfl (ii (aa (ac (bg bM (aa (aj (i:=0)) ae))) ae)) (fun fs hc=>(az (i:=0) (gn hc (by decide)))) (fg (ak cU (ac (ak lx (ac (ak qh (aj (i:=1)) (aj (i:=0)))) (ac le_int))) (ac le_int))) (am (i:=0))) (au (i:=6) rfl)) (ax (aC (ak bq (ac (ak bq (aj (i:=1)) (aj (i:=2)))) (aj (i:=3))) (au (i:=7) rfl)) (ax (aC (aY (ix:=[none,some 7,some 3,some 1,some 5,some 0]) rfl (cg (am (i:=6))) (fun fs hc=>(az (i:=0) (gn hc (by decide)))) (fg (ak cU (ac (ak a5 (ac (ak bq (ac (ak bq (aj (i:=3)) (aj (i:=4)))) (aj (i:=0)))) (ac (ak bq (ac (ak bq (aj (i:=5)) (aj (i:=0)))) (aj (i:=2)))))) (aj (i:=1)))) (am (i:=0))) (au (i:=6) rfl)) (ax (aC (am (i:=5)) (au (i:=2) rfl)) (ax (aC (ak bq (aj (i:=6)) (ac le_int)) (au (i:=3) rfl)) (aC (ak a5 (ac (bz (aa (ac (am (i:=3))) ae))) (aj (i:=4))) (au (i:=4) rfl))))))))) (a8 (bg cz (aa (aj (i:=4)) ae)))))))) (fun ds Q h=>Nat.le_trans (le_of_eq (ko ds Q h)) (by decide)) qP h⟩
theorem iH:∀ds Q,aX ds Q->ds.length=2:=fun ds Q h=>by unfold aX at h;split at h;(first|rfl|exact h.elim);(first|rfl|exact h.elim)
theorem mW(D:cj K mg "_law_refused" fR)(T:Txt mg)(TC:TxC K)(TX:TxX K mg)(C_is_table:Cal P w K mg base 4 "is_table" ["family","paper"] (spP K bb))(C_order_by:El P w K mg base 5 "order_by" ["family","table"] (spX K bx)):Cal P w K mg base 6 "_law_refused" ["_law_family","_law_thing"] (spP K aX):=by
 refine D.ok mF (fun _ _ _ _ _ _ us hl=>match us,hl with|[_,_],_=>rfl) (fun vs H Q E h=>?_) (fun f cdv A outer s H vs Q E hr h=>?_)
 .exact jd iH h
 .have hu:=hr.units;exact⟨_,(ah (dM (aN wt (aD C_is_table (hr.mono (by decide)) (paC (pv 0) (paC (pv 1) ag))) jq (bh _)) (ar (a6 jq)) bZ) (ar (En rfl rfl (fun J pn E px=>ah (dA (wZ C_order_by (hr.mono (by decide)) px (paC (pv 0) (paC (pv 1) ag)))) (ar (a6 jq))) (Gi K rfl TX.d_NoTable TX.m_NoTable (fun _=>(ar (a6 jq))) Em)))),fnP (K:=K) (c:=aX) (ps:=dL) (N:=["_law_family","_law_thing"]) (ax (fo (fg (ak DS (ac (aL (c:=bb) (aa (ac (am (i:=0))) (aa (ac (am (i:=1))) ae)))) (ac jB))) (a8 jB) b3) (B9 (c:=bx) (aa (ac (am (i:=0))) (aa (ac (am (i:=1))) ae)) (a8 jB) (Gk (c0:="NoTable") TX.all (by first|exact Or.inr rfl|exact Or.inl (contains_iff_mem.mp (by decide +kernel))) (a8 jB) Et))) (fun ds Q h=>Nat.le_trans (le_of_eq (iH ds Q h)) (by decide)) mP h⟩
theorem mj:∀p ds Q,cf p ds Q->ds.length+1=2:=fun p ds Q h=>by unfold cf at h;split at h;(first|rfl|exact h.elim);(first|rfl|exact h.elim)
theorem sL(D:cj K mg "_law_bent" jX)(T:Txt mg)(TC:TxC K)(TX:TxX K mg)(C_law_next:Cal P w K mg base 1 "_law_next" ["_law_deck_here"] (spR K aA)):Cal P w K mg base 2 "_law_bent" ["_law_deck_here","_law_table_here"] (spR K cf):=by
 refine D.ok cN (fun _ _ _ _ _ _ us hl=>match us,hl with|[_,_],_=>rfl) (fun vs H Q E h=>?_) (fun f cdv A outer s H vs Q E hr h=>?_)
 .exact CK mj h
 .have hu:=hr.units;exact⟨_,(ah (aH (i:=2) cN.nd rfl (by walk_at "o") (aB cK (aD C_law_next (hr.mono (by decide)) (paC (pv 0) ag)) al)) (ah (dR (wi:=(gH K (aM 1))) (g:=(bu 0)) (tts:=gF) (te:=(tCB (e8 K) (aJ (aM 0) cS))) (i:=3) ["_law_row"] [none] cN.nd rfl (Or.inl rfl) rfl (bX K rfl (pv 1)) (fun _ _ _ _=>⟨(aE (i:=0) (by show List.Nodup (["_law_row"]:List Str);decide +kernel) rfl (by walk_at "o")),bv,(aO (ll K rfl) rfl T.b_list boot_list (paC (pv 0) ag))⟩) (by kernel_rfl)) (ah (aH (i:=4) cN.nd rfl (by walk_at "o") (aB (bE K rfl) al (aB cK (aD C_law_next (hr.mono (by decide)) (paC (pv 0) ag)) (aB mw (ay (cZ K rfl) rfl T.b_len PySem.boot_len (paC (pv 1) ag)) al)))) (ah (aH (i:=5) cN.nd rfl (by walk_at "o") (aB cK (aD C_law_next (hr.mono (by decide)) (paC (pv 0) ag)) (ay (cZ K rfl) rfl T.b_len PySem.boot_len (paC (bj (di K rfl) (pv 3) (pv 4) (fun _ _=>rfl)) ag)))) (ah (jz (dM (aN E8 (pv 2) al (bh _)) (ah (aH (i:=6) cN.nd rfl (by walk_at "o") (bj (di K rfl) (bC (paC al (paC (ju fi al) (paC al (paC (ju fi al) (paC (aB Bz al al) (paC (ju fi (aB Bz al al)) ag))))))) (aB cK (aD C_law_next (hr.mono (by decide)) (paC (pv 0) ag)) al) (fun _ _=>rfl))) (ar (lA (aB (bE K rfl) (bj (di K rfl) (bj (di K rfl) (pv 3) (pv 4) (fun _ _=>rfl)) (pv 5) (fun _ _=>rfl)) (pv 6)) (kR (bj (di K rfl) (pv 3) (pv 4) (fun _ _=>rfl)) (pv 5) fG)))) (ar (dM (aN (fb K rfl hu) (pv 2) al (bh _)) (ar (lA (bj (di K rfl) (bC (paC jq (paC jq (paC sN (paC (gE (l:=[48]) (by decide +kernel)) (paC (iY (paC al ag)) ag)))))) (aB cK (aD C_law_next (hr.mono (by decide)) (paC (pv 0) ag)) al) (fun _ _=>rfl)) (kR (bj (di K rfl) (pv 3) (pv 4) (fun _ _=>rfl)) (pv 5) fG))) (ar (dM (aN (fb K rfl hu) (pv 2) al (bh _)) (ar (zC (iY (paC (bj (di K rfl) (pv 3) al (fun _ _=>rfl)) (paC (bj (di K rfl) (pv 3) (pv 4) (fun _ _=>rfl)) ag))) (Be K rfl (n:=2) rfl (cW (kR (pv 3) (pv 4) fG) (cW (kR (pv 3) al fG) jt))))) (ar (dM (aN (fb K rfl hu) (pv 2) al (bh _)) (ar (lA (bj (di K rfl) (bC (paC (aB (bE K rfl) (bj (di K rfl) (pv 3) (pv 4) (fun _ _=>rfl)) (bC (paC al ag))) (paC (cH (tD K rfl) (bj (di K rfl) (pv 3) (pv 4) (fun _ _=>rfl)) (cY al) dB) (paC sN (paC (Ba (yx (tk:=tC (kV (Sum.inl 0))) al al A9) rfl rfl (by intro z;cases z) (by decide)) (paC (iY ag) ag)))))) (aB cK (aD C_law_next (hr.mono (by decide)) (paC (pv 0) ag)) al) (fun _ _=>rfl)) (kR (pv 3) (pv 4) fG))) (ah (aH (i:=7) cN.nd rfl (by walk_at "o") (bC (paC (cH (tD K rfl) (pv 3) (cY al) dB) (paC (aB (bE K rfl) (pv 3) (bC (paC (bj (di K rfl) (pv 3) al (fun _ _=>rfl)) ag))) (paC (bC (paC (pv 3) ag)) (paC (cH (tD K rfl) (pv 3) dB (cY (ju fi al))) (paC sN (paC yw (paC (gE (l:=[97,98]) (by decide +kernel)) (paC jq ag)))))))))) (ar (aH (i:=3) cN.nd rfl (by walk_at "o") (bj (di K rfl) (pv 7) (aB cK (aD C_law_next (hr.mono (by decide)) (paC (pv 0) ag)) al) (fun _ _=>rfl))))))))))))) (ar (a6 (pv 3)))))))),fnR (K:=K) (c:=cf) (ps:=gg) (N:=["_law_deck_here","_law_table_here","_law_sort","_law_bent_here","_law_mark","_law_i","_law_more","_law_some"]) (ax (aC (ak br (ac (a9 (i:=0) ae)) (ac le_int)) (au (i:=2) rfl)) (Ah (x:=3) rfl tU (jO (Ag (aC (ak a5 (ac le_int) (ac (ak br (ac (a9 (i:=0) ae)) (ac (ak gG (ac (bg bM (aa (aj (i:=1)) ae))) (ac le_int)))))) (au (i:=4) rfl)) (aC (ak a5 (ac le_int) (ac (ak br (ac (a9 (i:=0) ae)) (ac (ak gG (ac (bg bM (aa (aj (i:=1)) ae))) (ac le_int)))))) (au (i:=4) rfl))) (jO (zj (y:=5) rfl br (a9 (i:=0) ae) (bg bM (aa (ac (ak bq (aj (i:=3)) (aj (i:=4)))) ae))) (jO (zh (tT (fg (ak yI (aj (i:=2)) (ac le_int))) (jO (Ag (aC (ak bq (ac (bz (aa (ac le_int) (aa (ac (ig dZ (ac le_int))) (aa (ac le_int) (aa (ac (ig dZ (ac le_int))) (aa (ac (ak qb (ac le_int) (ac le_int))) (aa (ac (ig dZ (ac (ak qb (ac le_int) (ac le_int))))) ae)))))))) (ac (ak br (ac (a9 (i:=0) ae)) (ac le_int)))) (au (i:=6) rfl)) (aC (ak bq (ac (bz (aa (ac le_int) (aa (ac (ig dZ (ac le_int))) (aa (ac le_int) (aa (ac (ig dZ (ac le_int))) (aa (ac (ak qb (ac le_int) (ac le_int))) (aa (ac (ig dZ (ac (ak qb (ac le_int) (ac le_int))))) ae)))))))) (ac (ak br (ac (a9 (i:=0) ae)) (ac le_int)))) (au (i:=6) rfl))) (zi (ak a5 (ac (ak bq (ac (ak bq (aj (i:=3)) (aj (i:=4)))) (aj (i:=5)))) (aj (i:=6))) (am (i:=4)) (am (i:=5)))) (tT (fg (ak cU (aj (i:=2)) (ac le_int))) (xx (ak bq (ac (bz (aa (ac jB) (aa (ac jB) (aa (ac tw) (aa (ac (le_str (l:=[48]))) (aa (ac (lg (aa (ac le_int) ae))) ae))))))) (ac (ak br (ac (a9 (i:=0) ae)) (ac le_int)))) (am (i:=4)) (am (i:=5))) (tT (fg (ak cU (aj (i:=2)) (ac le_int))) (nF (x:=3) (BG (i:=3) (ak bq (aj (i:=3)) (ac le_int)) (ak bq (aj (i:=3)) (aj (i:=4))) (am (i:=4)) le_int)) (tT (fg (ak cU (aj (i:=2)) (ac le_int))) (nF (x:=3) (wy (i:=3) (ak bq (ac (bz (aa (ac (ak a5 (ac (ak bq (aj (i:=3)) (aj (i:=4)))) (ac (bz (aa (ac le_int) ae))))) (aa (ac (cI (ac (ak bq (aj (i:=3)) (aj (i:=4)))) (cv le_int) cO)) (aa (ac tw) (aa (ac (BY (by first|exact List.nodup_singleton _|decide) (by decide) (ze (Sum.inl 0) (ac le_int) BW))) (aa (ac (lg ae)) ae))))))) (ac (ak br (ac (a9 (i:=0) ae)) (ac le_int)))) (am (i:=4)))) (jO (nF (x:=3) (aC (bz (aa (ac (cI (aj (i:=3)) (cv le_int) cO)) (aa (ac (ak a5 (aj (i:=3)) (ac (bz (aa (ac (ak bq (aj (i:=3)) (ac le_int))) ae))))) (aa (ac (bz (aa (ac (am (i:=3))) ae))) (aa (ac (cI (aj (i:=3)) cO (cv (ig dZ (ac le_int))))) (aa (ac tw) (aa (ac BE) (aa (ac (le_str (l:=[97,98]))) (aa (ac jB) ae))))))))) (au (i:=7) rfl))) (nF (x:=3) (aC (ak bq (aj (i:=7)) (ac (ak br (ac (a9 (i:=0) ae)) (ac le_int)))) (au (i:=3) rfl))))))))) (nF (x:=3) (a8 (am (i:=3))))))))) (fun p ds Q h=>Nat.le_trans (le_of_eq (mj p ds Q h)) (by decide)) sC h⟩
theorem jp:∀ds Q,bB ds Q->ds.length=1:=fun ds Q h=>by unfold bB at h;split at h;(first|rfl|exact h.elim);(first|rfl|exact h.elim)
theorem pz(D:cj K mg "_law_truths" gS)(T:Txt mg)(TC:TxC K)(TX:TxX K mg):Cal P w K mg base 1 "_law_truths" ["_law_table_here"] (spP K bB):=by
 refine D.ok b6 (fun _ _ _ _ _ _ us hl=>match us,hl with|[_],_=>rfl) (fun vs H Q E h=>?_) (fun f cdv A outer s H vs Q E hr h=>?_)
 .exact jd jp h
 .have hu:=hr.units;exact⟨_,(ah (aH (i:=1) b6.nd rfl (by walk_at "o") (bC ag)) (ah (fh PassesOwn.never rfl (kL K rfl rfl T.b_enumerate (paC (pv 0) ag)) (qk K rfl (n:=2) rfl (cW (aE (i:=2) b6.nd rfl (by walk_at "o")) (cW (aE (i:=3) b6.nd rfl (by walk_at "o")) jt))) (ar (dA (ey K rfl PySem.F.plainAttrs_list PySem.F.slot_list_extend PySem.F.type_list_extend pQ (pv 1) (paC (bw (wi:=(iX (aJ (tCB (ku K) (aJ (aM 3) cS)) cS))) (g:=(bu 0)) (tts:=(iI (tOp (CM K false) (tOp (iV K) (aM 2) (aM 0)) (CD (aJ (tC (V.int 0)) (aJ (tC (V.int 1)) cS)))))) (te:=(CD (aJ (aM 1) (aJ (aM 0) cS)))) ["_law_i","_law_mark","_law_row"] [none,some 2,some 3] rfl (bH rfl T.b_range (paC (ay (cZ K rfl) rfl T.b_len PySem.boot_len (paC (pv 3) ag)) ag)) (fun _ _ _ _=>⟨(aE (i:=0) (by show List.Nodup (["_law_i","_law_mark","_law_row"]:List Str);decide +kernel) rfl (by walk_at "o")),(dQ (aN (Ex K rfl) (bj (di K rfl) (pv 2) (pv 0) (fun _ _=>rfl)) (iY (paC al (paC al ag))) (by with_unfolding_all rfl))),(iY (paC (pv 1) (paC (pv 0) ag)))⟩) (by kernel_rfl)) ag))))) (ah (aH (i:=4) b6.nd rfl (by walk_at "o") (bC ag)) (ah (fh PassesOwn.never rfl (bX K rfl (aB (bE K rfl) (cH (tD K rfl) (pv 1) dB (cY al)) (cH (tD K rfl) (pv 1) (cY (ju fi al)) dB))) (qk K rfl (n:=2) rfl (cW (aE (i:=2) b6.nd rfl (by walk_at "o")) (cW (aE (i:=5) b6.nd rfl (by walk_at "o")) jt))) (ah (dR (wi:=(gH K (aM 0))) (g:=(bu 0)) (tts:=gF) (te:=(tCB (e8 K) (aJ (aM 0) cS))) (i:=6) ["_law_other"] [none] b6.nd rfl (Or.inl rfl) rfl (bX K rfl (pv 0)) (fun _ _ _ _=>⟨(aE (i:=0) (by show List.Nodup (["_law_other"]:List Str);decide +kernel) rfl (by walk_at "o")),bv,(aO (ll K rfl) rfl T.b_list boot_list (paC (pv 0) ag))⟩) (by kernel_rfl)) (ah (lA (jv (fb K rfl hu) (bj (di K rfl) (bj (di K rfl) (pv 0) (pv 2) (fun _ _=>rfl)) (pv 5) (fun _ _=>rfl)) al (bh _)) (kR (bj (di K rfl) (pv 6) (pv 2) (fun _ _=>rfl)) (pv 5) fG)) (ar (dA (ey K rfl PySem.F.plainAttrs_list PySem.F.slot_list_append PySem.F.type_list_append dn (pv 4) (paC (pv 6) ag))))))) (ar (a6 (pv 4))))))),fnP (K:=K) (c:=bB) (ps:=eh) (N:=["_law_table_here","_law_spots","_law_mark","_law_row","_law_found","_law_i","_law_bent_here"]) (ax (aC (bz ae) (au (i:=1) rfl)) (ax (fu (oj (aa (ac (am (i:=0))) ae)) (ly (dE (az (i:=2) rfl) (dE (az (i:=3) rfl) li))) (dU (Ae (i:=1) (aY (ix:=[none,some 2,some 3]) rfl (ii (aa (ac (bg bM (aa (aj (i:=3)) ae))) ae)) (fun fs hc=>(az (i:=0) (gn hc (by decide)))) (fg (ak nC (ac (ak bq (aj (i:=2)) (aj (i:=0)))) (ac (lg (aa (ac le_int) (aa (ac le_int) ae)))))) (lg (aa (ac (am (i:=1))) (aa (ac (am (i:=0))) ae))))))) (ax (aC (bz ae) (au (i:=4) rfl)) (ax (fu (cg (ak a5 (ac (cI (aj (i:=1)) cO (cv le_int))) (ac (cI (aj (i:=1)) (cv (ig dZ (ac le_int))) cO)))) (ly (dE (az (i:=2) rfl) (dE (az (i:=5) rfl) li))) (Ah (x:=6) rfl tU (jO (xx (ak cU (ac (ak bq (ac (ak bq (aj (i:=0)) (aj (i:=2)))) (aj (i:=5)))) (ac le_int)) (am (i:=2)) (am (i:=5))) (nF (x:=6) (dU (j5 (i:=4) (am (i:=6)))))))) (a8 (am (i:=4))))))) (fun ds Q h=>Nat.le_trans (le_of_eq (jp ds Q h)) (by decide)) o7 h⟩
theorem kq:∀p ds Q,b7 p ds Q->ds.length+1=1:=fun p ds Q h=>by unfold b7 at h;split at h;(first|rfl|exact h.elim);(first|rfl|exact h.elim)
theorem qZ(D:cj K mg "_law_eight" iT)(T:Txt mg)(TC:TxC K)(TX:TxX K mg)(C_law_next:Cal P w K mg base 1 "_law_next" ["_law_deck_here"] (spR K aA)):Cal P w K mg base 2 "_law_eight" ["_law_deck_here"] (spR K b7):=by
 refine D.ok dg (fun _ _ _ _ _ _ us hl=>match us,hl with|[_],_=>rfl) (fun vs H Q E h=>?_) (fun f cdv A outer s H vs Q E hr h=>?_)
 .exact CK kq h
 .have hu:=hr.units;exact⟨_,(ah (aH (i:=1) dg.nd rfl (by walk_at "o") (aB cK (aD C_law_next (hr.mono (by decide)) (paC (pv 0) ag)) al)) (ah (dR (wi:=(iX (aJ (tC (V.int 3)) cS))) (g:=(bu 0)) (tts:=gF) (te:=(tOp (iV K) (tC (V.str (S [97,98,99,100,101,102,103,104,105,106,107,108,109,110,111,112,113,114,115,116,117,118,119,120,121,122]))) (tOp wF (tOp (mB K) (aM 1) (tOp wq (tC (V.int 5)) (aM 0))) (tC (V.int 26))))) (i:=2) ["_law_k","_law_first"] [none,some 1] dg.nd rfl (Or.inl rfl) rfl (bH rfl T.b_range (paC al ag)) (fun _ _ _ _=>⟨(aE (i:=0) (by show List.Nodup (["_law_k","_law_first"]:List Str);decide +kernel) rfl (by walk_at "o")),bv,(bj (di K rfl) (gE (l:=[97,98,99,100,101,102,103,104,105,106,107,108,109,110,111,112,113,114,115,116,117,118,119,120,121,122]) (by decide +kernel)) (aB cK (aB (bE K rfl) (pv 1) (aB ja al (pv 0))) al) (fun _ _=>rfl))⟩) (by kernel_rfl)) (ah (aH (i:=3) dg.nd rfl (by walk_at "o") (bC ag)) (ah (fh PassesOwn.never rfl (bX K rfl (pv 2)) (aE (i:=4) dg.nd rfl (by walk_at "o")) (ar (dA (ey K rfl PySem.F.plainAttrs_list PySem.F.slot_list_extend PySem.F.type_list_extend pQ (pv 3) (paC (bw (wi:=(gH K (aM 2))) (g:=(bu 0)) (tts:=gF) (te:=(tOp (mB K) (aM 1) (aM 0))) ["_law_other","_law_one"] [none,some 4] rfl (bX K rfl (pv 2)) (fun _ _ _ _=>⟨(aE (i:=0) (by show List.Nodup (["_law_other","_law_one"]:List Str);decide +kernel) rfl (by walk_at "o")),bv,(aB (bE K rfl) (pv 1) (pv 0))⟩) (by kernel_rfl)) ag))))) (ah (dA (ey K rfl PySem.F.plainAttrs_list PySem.F.slot_list_pop PySem.F.type_list_pop yh (pv 3) (paC (aB cK (aD C_law_next (hr.mono (by decide)) (paC (pv 0) ag)) al) ag))) (ah (aH (i:=5) dg.nd rfl (by walk_at "o") (aB cK (aD C_law_next (hr.mono (by decide)) (paC (pv 0) ag)) al)) (ar (a6 (aB (bE K rfl) (cH (tD K rfl) (pv 3) (cY (pv 5)) dB) (cH (tD K rfl) (pv 3) dB (cY (pv 5)))))))))))),fnR (K:=K) (c:=b7) (ps:=eY) (N:=["_law_deck_here","_law_first","_law_letters","_law_words_here","_law_one","_law_turn"]) (ax (aC (ak br (ac (a9 (i:=0) ae)) (ac le_int)) (au (i:=1) rfl)) (ax (aC (aY (ix:=[none,some 1]) rfl (ii (aa (ac le_int) ae)) (fun fs hc=>(az (i:=0) (gn hc (by decide)))) cE (ak bq (ac (le_str (l:=[97,98,99,100,101,102,103,104,105,106,107,108,109,110,111,112,113,114,115,116,117,118,119,120,121,122]))) (ac (ak br (ac (ak a5 (aj (i:=1)) (ac (ak eN (ac le_int) (aj (i:=0)))))) (ac le_int))))) (au (i:=2) rfl)) (ax (aC (bz ae) (au (i:=3) rfl)) (ax (fu (cg (am (i:=2))) (az (i:=4) rfl) (dU (Ae (i:=3) (aY (ix:=[none,some 4]) rfl (cg (am (i:=2))) (fun fs hc=>(az (i:=0) (gn hc (by decide)))) cE (ak a5 (aj (i:=1)) (aj (i:=0))))))) (ax (dU (yV (i:=3) (ak br (ac (a9 (i:=0) ae)) (ac le_int)))) (ax (aC (ak br (ac (a9 (i:=0) ae)) (ac le_int)) (au (i:=5) rfl)) (a8 (Aa (ak a5 (ac (cI (aj (i:=3)) (cv (am (i:=5))) cO)) (ac (cI (aj (i:=3)) cO (cv (am (i:=5)))))))))))))) (fun p ds Q h=>Nat.le_trans (le_of_eq (kq p ds Q h)) (by decide)) qR h⟩
theorem Ay:∀ds Q,ua ds Q->ds.length=1:=fun ds Q h=>by obtain⟨_,rfl,_⟩:=h;rfl
theorem EX(D:cj K mg "law" zk)(T:Txt mg)(TC:TxC K)(TX:TxX K mg)(C_Family_init:DM P w K mg base 4 (bc K "Family") "Family" ["self","pieces"] (spR K bo))(C_law_bent:Cal P w K mg base 2 "_law_bent" ["_law_deck_here","_law_table_here"] (spR K cf))(C_law_deck:Cal P w K mg base 2 "_law_deck" ["_law_script","_law_many"] (spP K ca))(C_law_eight:Cal P w K mg base 2 "_law_eight" ["_law_deck_here"] (spR K b7))(C_law_laps:Cal P w K mg base 2 "_law_laps" ["_law_words_here"] (spP K ce))(C_law_next:Cal P w K mg base 1 "_law_next" ["_law_deck_here"] (spR K aA))(C_law_order:Cal P w K mg base 1 "_law_order" ["_law_laps_here","_law_table_here"] (spP K bR))(C_law_pieces:Cal P w K mg base 3 "_law_pieces" ["_law_deck_here","_law_most"] (spR K bL))(C_law_refused:Cal P w K mg base 6 "_law_refused" ["_law_family","_law_thing"] (spP K aX))(C_law_table:Cal P w K mg base 2 "_law_table" ["_law_laps_here"] (spP K bQ))(C_law_truths:Cal P w K mg base 1 "_law_truths" ["_law_table_here"] (spP K bB))(C_law_words:Cal P w K mg base 1 "_law_words" ["_law_pieces_here"] (spP K bP))(C_is_table:Cal P w K mg base 4 "is_table" ["family","paper"] (spP K bb))(C_order_by:El P w K mg base 5 "order_by" ["family","table"] (spX K bx)):Cal P w K mg base 7 "law" ["_law_script"] (spP K ua):=by
 refine D.ok eH (fun _ _ _ _ _ _ us hl=>match us,hl with|[_],_=>rfl) (fun vs H Q E h=>?_) (fun f cdv A outer s H vs Q E hr h=>?_)
 .exact jd Ay h
 .have hu:=hr.units;exact⟨_,(ah (aH (i:=1) eH.nd rfl (by walk_at "o") (aD C_law_deck (hr.mono (by decide)) (paC (pv 0) (paC al ag)))) (ah (aH (i:=2) eH.nd rfl (by walk_at "o") (aD C_law_pieces (hr.mono (by decide)) (paC (pv 1) (paC al ag)))) (ah (jz (dM (aN (fb K rfl hu) (aB cK (aD C_law_next (hr.mono (by decide)) (paC (pv 1) ag)) al) al (bh _)) (ar (aH (i:=2) eH.nd rfl (by walk_at "o") (aD C_law_eight (hr.mono (by decide)) (paC (pv 1) ag)))) bZ)) (ah (aH (i:=3) eH.nd rfl (by walk_at "o") (aD C_law_laps (hr.mono (by decide)) (paC (aD C_law_words (hr.mono (by decide)) (paC (pv 2) ag)) ag))) (ah (aH (i:=4) eH.nd rfl (by walk_at "o") (tI C_Family_init (hr.mono (by decide)) (paC (pv 2) ag))) (ah (aH (i:=5) eH.nd rfl (by walk_at "o") (aD C_law_table (hr.mono (by decide)) (paC (pv 3) ag))) (ah (dR (wi:=(yD K (aJ (aM 5) cS))) (g:=(Gh K 2 (ue (bu 0) (ue (bu 1) E2)))) (tts:=gF) (te:=(tIf (iI (tOp (lv K false) (tOp wF (aM 0) (tC (V.int 2))) (tC (V.int 0)))) (tCB (uE K) (aJ (aM 1) cS)) (tCB (e8 K) (aJ (aM 1) cS)))) (i:=6) ["_law_k","_law_row"] [none,none] eH.nd rfl (Or.inl rfl) rfl (kL K rfl rfl T.b_enumerate (paC (pv 5) ag)) (fun _ _ _ _=>⟨(qk K rfl (n:=2) rfl (cW (aE (i:=0) (by show List.Nodup (["_law_k","_law_row"]:List Str);decide +kernel) rfl (by walk_at "o")) (cW (aE (i:=1) (by show List.Nodup (["_law_k","_law_row"]:List Str);decide +kernel) rfl (by walk_at "o")) jt))),bv,(sO (aN (fb K rfl hu) (aB cK (pv 0) al) al (bh _)) (aO (c8 K rfl) rfl T.b_tuple boot_tuple (paC (pv 1) ag)) (aO (ll K rfl) rfl T.b_list boot_list (paC (pv 1) ag)))⟩) (by kernel_rfl)) (ah (aH (i:=7) eH.nd rfl (by walk_at "o") (bj (di K rfl) (bC (paC (pv 5) (paC (pv 6) (paC (aO (c8 K rfl) rfl T.b_tuple boot_tuple (paC (bw (wi:=(gH K (aM 5))) (g:=(bu 0)) (tts:=gF) (te:=(tCB (uE K) (aJ (aM 0) cS))) ["_law_row"] [none] rfl (bX K rfl (pv 5)) (fun _ _ _ _=>⟨(aE (i:=0) (by show List.Nodup (["_law_row"]:List Str);decide +kernel) rfl (by walk_at "o")),bv,(aO (c8 K rfl) rfl T.b_tuple boot_tuple (paC (pv 0) ag))⟩) (by kernel_rfl)) ag)) ag)))) (aB cK (aD C_law_next (hr.mono (by decide)) (paC (pv 1) ag)) al) (fun _ _=>rfl))) (ah (dR (wi:=(gH K (aM 7))) (g:=(bu 0)) (tts:=gF) (te:=(tCB (e8 K) (aJ (aM 0) cS))) (i:=8) ["_law_row"] [none] eH.nd rfl (Or.inl rfl) rfl (bX K rfl (pv 7)) (fun _ _ _ _=>⟨(aE (i:=0) (by show List.Nodup (["_law_row"]:List Str);decide +kernel) rfl (by walk_at "o")),bv,(aO (ll K rfl) rfl T.b_list boot_list (paC (pv 0) ag))⟩) (by kernel_rfl)) (ah (dM (aN wt (aD C_is_table (hr.mono (by decide)) (paC (pv 4) (paC (pv 7) ag))) jq (bh _)) (ar (a6 jq)) bZ) (ah (dM (aN (uI K rfl hu) (wZ C_order_by (hr.mono (by decide)) px0 (paC (pv 4) (paC (pv 7) ag))) (aD C_law_order (hr.mono (by decide)) (paC (pv 3) (paC (pv 5) ag))) (bh _)) (ar (a6 jq)) bZ) (ah (aH (i:=9) eH.nd rfl (by walk_at "o") (aD C_law_truths (hr.mono (by decide)) (paC (pv 5) ag))) (ah (jz (dM (aN (uI K rfl hu) (pv 3) (bC ag) (bh _)) (ar (aH (i:=9) eH.nd rfl (by walk_at "o") (aB (bE K rfl) (pv 9) (bw (wi:=(iX (aJ (tOp (iV K) (Ft (aJ (tC (V.int 20)) (aJ (tC (V.int 2)) cS))) (tOp Ed (tCB (ku K) (aJ (aM 3) cS)) (tC (V.int 7)))) cS))) (g:=(bu 0)) (tts:=gF) (te:=(ei (spR K cf) [] E0 (aJ (aM 1) (aJ (aM 2) cS)))) ["_law_k","_law_deck_here","_law_table_here"] [none,some 1,some 5] rfl (bH rfl T.b_range (paC (bj (di K rfl) (bC (paC al (paC al ag))) (aB nu (ay (cZ K rfl) rfl T.b_len PySem.boot_len (paC (pv 3) ag)) al) (fun _ _=>rfl)) ag)) (fun _ _ _ _=>⟨(aE (i:=0) (by show List.Nodup (["_law_k","_law_deck_here","_law_table_here"]:List Str);decide +kernel) rfl (by walk_at "o")),bv,(aD C_law_bent (hr.mono (by decide)) (paC (pv 1) (paC (pv 2) ag)))⟩) (by kernel_rfl))))) bZ)) (ah (aH (i:=9) eH.nd rfl (by walk_at "o") (aB (bE K rfl) (pv 9) (bC (paC sN (paC (bC ag) (paC (bC (paC (bC (paC al ag)) ag)) (paC (bC (paC (bC ag) (paC (bC ag) ag))) ag))))))) (ah (dM (aN (uI K rfl hu) (bw (wi:=(gH K (aM 9))) (g:=(bu 0)) (tts:=(Ff (tB (ei (spP K aX) [] E0 (aJ (aM 1) (aJ (aM 0) cS)))))) (te:=(aM 0)) ["_law_thing","_law_family"] [none,some 4] rfl (bX K rfl (pv 9)) (fun _ _ _ _=>⟨(aE (i:=0) (by show List.Nodup (["_law_thing","_law_family"]:List Str);decide +kernel) rfl (by walk_at "o")),(dQ (mX (gM (aD C_law_refused (hr.mono (by decide)) (paC (pv 1) (paC (pv 0) ag)))))),(pv 0)⟩) (by kernel_rfl)) (bC ag) (bh _)) (ar (a6 jq)) bZ) (ah (aH (i:=10) eH.nd rfl (by walk_at "o") (tI C_Family_init (hr.mono (by decide)) (paC (bw (wi:=(iX (aJ (tC (V.int 9)) cS))) (g:=(bu 0)) (tts:=gF) (te:=(tOp (iV K) (tC (V.str (S [97,98,99,100,101,102,103,104,105,106,107,108,109,110,111,112,113,114,115,116,117,118,119,120,121,122]))) (tOp wF (tOp (mB K) (tOp wq (tC (V.int 5)) (aM 0)) (tCB (ku K) (aJ (aM 1) cS))) (tC (V.int 26))))) ["_law_k","_law_laps_here"] [none,some 3] rfl (bH rfl T.b_range (paC al ag)) (fun _ _ _ _=>⟨(aE (i:=0) (by show List.Nodup (["_law_k","_law_laps_here"]:List Str);decide +kernel) rfl (by walk_at "o")),bv,(bj (di K rfl) (gE (l:=[97,98,99,100,101,102,103,104,105,106,107,108,109,110,111,112,113,114,115,116,117,118,119,120,121,122]) (by decide +kernel)) (aB cK (aB (bE K rfl) (aB ja al (pv 0)) (ay (cZ K rfl) rfl T.b_len PySem.boot_len (paC (pv 1) ag))) al) (fun _ _=>rfl))⟩) (by kernel_rfl)) ag))) (ah (dR (wi:=(iX (aJ (tC (V.int 512)) cS))) (g:=(bu 0)) (tts:=gF) (te:=(mq [none,some 0] (iX (aJ (tC (V.int 9)) cS)) (bu 0) gF (tIf (iI (tOp (lv K false) (tOp rP (tOp BF (aM 1) (aM 0)) (tC (V.int 1))) (tC (V.int 1)))) (tC (V.int 0)) (tUn By (tC (V.int 1)))))) (i:=11) ["_law_mark"] [none] eH.nd rfl (Or.inl rfl) rfl (bH rfl T.b_range (paC al ag)) (fun _ _ _ _=>⟨(aE (i:=0) (by show List.Nodup (["_law_mark"]:List Str);decide +kernel) rfl (by walk_at "o")),bv,(bw (wi:=(iX (aJ (tC (V.int 9)) cS))) (g:=(bu 0)) (tts:=gF) (te:=(tIf (iI (tOp (lv K false) (tOp rP (tOp BF (aM 1) (aM 0)) (tC (V.int 1))) (tC (V.int 1)))) (tC (V.int 0)) (tUn By (tC (V.int 1))))) ["_law_i","_law_mark"] [none,some 0] rfl (bH rfl T.b_range (paC al ag)) (fun _ _ _ _=>⟨(aE (i:=0) (by show List.Nodup (["_law_i","_law_mark"]:List Str);decide +kernel) rfl (by walk_at "o")),bv,(sO (aN (fb K rfl hu) (aB qi (aB wM (pv 1) (pv 0)) al) al (bh _)) al (ju fi al))⟩) (by kernel_rfl))⟩) (by kernel_rfl)) (ar (a6 (mY (aD C_law_refused (hr.mono (by decide)) (paC (pv 10) (paC (pv 11) ag))) (pE (jv (fb K rfl hu) (bw (wi:=(gH K (aM 7))) (g:=(bu 0)) (tts:=gF) (te:=(tCB (e8 K) (aJ (aM 0) cS))) ["_law_row"] [none] rfl (bX K rfl (pv 7)) (fun _ _ _ _=>⟨(aE (i:=0) (by show List.Nodup (["_law_row"]:List Str);decide +kernel) rfl (by walk_at "o")),bv,(aO (ll K rfl) rfl T.b_list boot_list (paC (pv 0) ag))⟩) (by kernel_rfl)) (pv 8) (bh _))))))))))))))))))))))),fnP (K:=K) (c:=ua) (ps:=uc) (N:=["_law_script","_law_deck_here","_law_pieces_here","_law_laps_here","_law_family","_law_table_here","_law_mixed_here","_law_shown","_law_kept","_law_bent_here","_law_great","_law_flat"]) (ax (aC (aL (c:=ca) (aa (ac (am (i:=0))) (aa (ac le_int) ae))) (au (i:=1) rfl)) (ax (aC (a9 (i:=1) (aa (ac le_int) ae)) (au (i:=2) rfl)) (ax (lj (fo (fg (ak cU (ac (ak br (ac (a9 (i:=1) ae)) (ac le_int))) (ac le_int))) (aC (a9 (i:=1) ae) (au (i:=2) rfl)) b3)) (ax (aC (aL (c:=ce) (aa (ac (aL (c:=bP) (aa (ac (am (i:=2))) ae))) ae)) (au (i:=3) rfl)) (ax (aC (wD (aa (ac (am (i:=2))) ae)) (au (i:=4) rfl)) (ax (aC (aL (c:=bQ) (aa (ac (am (i:=3))) ae)) (au (i:=5) rfl)) (ax (aC (aY (ix:=[none,none]) rfl (oj (aa (ac (am (i:=5))) ae)) (fun fs hc=>(ly (dE (az (i:=0) (gn hc (by decide))) (dE (az (i:=1) (gn hc (by decide))) li)))) cE (DP (fg (ak cU (ac (ak br (aj (i:=0)) (ac le_int))) (ac le_int))) (bg cz (aa (aj (i:=1)) ae)) (bg lm (aa (aj (i:=1)) ae)))) (au (i:=6) rfl)) (ax (aC (ak bq (ac (bz (aa (ac (am (i:=5))) (aa (ac (am (i:=6))) (aa (ac (bg cz (aa (ac (aY (ix:=[none]) rfl (cg (am (i:=5))) (fun fs hc=>(az (i:=0) (gn hc (by decide)))) cE (bg cz (aa (aj (i:=0)) ae)))) ae))) ae))))) (ac (ak br (ac (a9 (i:=1) ae)) (ac le_int)))) (au (i:=7) rfl)) (ax (aC (aY (ix:=[none]) rfl (cg (am (i:=7))) (fun fs hc=>(az (i:=0) (gn hc (by decide)))) cE (bg lm (aa (aj (i:=0)) ae))) (au (i:=8) rfl)) (ax (fo (fg (ak DS (ac (aL (c:=bb) (aa (ac (am (i:=4))) (aa (ac (am (i:=7))) ae)))) (ac jB))) (a8 jB) b3) (ax (fo (fg (ak ny (ac (zc (c:=bx) (aa (ac (am (i:=4))) (aa (ac (am (i:=7))) ae)))) (ac (aL (c:=bR) (aa (ac (am (i:=3))) (aa (ac (am (i:=5))) ae)))))) (a8 jB) b3) (ax (aC (aL (c:=bB) (aa (ac (am (i:=5))) ae)) (au (i:=9) rfl)) (ax (lj (fo (fg (ak ny (aj (i:=3)) (ac (bz ae)))) (aC (ak a5 (aj (i:=9)) (ac (aY (ix:=[none,some 1,some 5]) rfl (ii (aa (ac (ak bq (ac (bz (aa (ac le_int) (aa (ac le_int) ae)))) (ac (ak jC (ac (bg bM (aa (aj (i:=3)) ae))) (ac le_int))))) ae)) (fun fs hc=>(az (i:=0) (gn hc (by decide)))) cE (a9 (i:=1) (aa (ac (am (i:=2))) ae))))) (au (i:=9) rfl)) b3)) (ax (aC (ak a5 (aj (i:=9)) (ac (bz (aa (ac tw) (aa (ac (bz ae)) (aa (ac (bz (aa (ac (bz (aa (ac le_int) ae))) ae))) (aa (ac (bz (aa (ac (bz ae)) (aa (ac (bz ae)) ae)))) ae))))))) (au (i:=9) rfl)) (ax (fo (fg (ak ny (ac (aY (ix:=[none,some 4]) rfl (cg (am (i:=9))) (fun fs hc=>(az (i:=0) (gn hc (by decide)))) (nj (yF (aL (c:=aX) (aa (ac (am (i:=1))) (aa (ac (am (i:=0))) ae))))) (am (i:=0)))) (ac (bz ae)))) (a8 jB) b3) (ax (aC (wD (aa (ac (aY (ix:=[none,some 3]) rfl (ii (aa (ac le_int) ae)) (fun fs hc=>(az (i:=0) (gn hc (by decide)))) cE (ak bq (ac (le_str (l:=[97,98,99,100,101,102,103,104,105,106,107,108,109,110,111,112,113,114,115,116,117,118,119,120,121,122]))) (ac (ak br (ac (ak a5 (ac (ak eN (ac le_int) (aj (i:=0)))) (ac (bg bM (aa (aj (i:=1)) ae))))) (ac le_int)))))) ae)) (au (i:=10) rfl)) (ax (aC (aY (ix:=[none]) rfl (ii (aa (ac le_int) ae)) (fun fs hc=>(az (i:=0) (gn hc (by decide)))) cE (aY (ix:=[none,some 0]) rfl (ii (aa (ac le_int) ae)) (fun fs hc=>(az (i:=0) (gn hc (by decide)))) cE (DP (fg (ak cU (ac (ak lx (ac (ak qh (aj (i:=1)) (aj (i:=0)))) (ac le_int))) (ac le_int))) le_int (ig dZ (ac le_int))))) (au (i:=11) rfl)) (a8 (nk (aL (c:=aX) (aa (ac (am (i:=10))) (aa (ac (am (i:=11))) ae))) (ak cU (ac (aY (ix:=[none]) rfl (cg (am (i:=7))) (fun fs hc=>(az (i:=0) (gn hc (by decide)))) cE (bg lm (aa (aj (i:=0)) ae)))) (aj (i:=8)))))))))))))))))))))) (fun ds Q h=>Nat.le_trans (le_of_eq (Ay ds Q h)) (by decide)) EV h⟩
end
theorem EY{l:PySem.W.OpenLaw}{w:World}{K:PySem.W.Frag}{h:Heap}{mg:Str->Option Value}{fa:Addr}(X:K.In h)(G:h.Ns mainGlobals mg)(hfa:mg "law"=some (.ref fa))
  {C_Family:Addr} (aC_Family:PySem.W.nsIn K mainGlobals "Family"=some (some (.ref C_Family))) (pg_Family:PySem.W.plainGet K C_Family Str.empty=true) (hd_Family:PySem.W.hasDictIn K C_Family=true) (po_Family:PySem.W.plainOver K C_Family=true) (sa_Family:PySem.W.findIn K (.ref C_Family) "__setattr__"=some (some (.builtin "object.__setattr__"))) (mk_Family:PySem.W.makesIn K C_Family=true) (kc_Family:PySem.W.keepIn K (.ref C_Family)=true)
  (n_Family_pieces:PySem.W.findIn K (.ref C_Family) "pieces"=some none)
  (n_Family_kept:PySem.W.findIn K (.ref C_Family) "kept"=some none)
  (n_Family_words:PySem.W.findIn K (.ref C_Family) "words"=some none)
  (n_Family_left:PySem.W.findIn K (.ref C_Family) "left"=some none)
  (n_Family_laps:PySem.W.findIn K (.ref C_Family) "laps"=some none)
  (n_Family_total:PySem.W.findIn K (.ref C_Family) "total"=some none)
  {C_GlueError:Addr} (aC_GlueError:PySem.W.nsIn K mainGlobals "GlueError"=some (some (.ref C_GlueError))) {q_GlueError:Str}{N_GlueError:Addr}{bs_GlueError sub_GlueError:List Value}{sn_GlueError:List Str}{ab_GlueError:Bool}{col_GlueError:Option Bool}{k0_GlueError k1_GlueError k2_GlueError k3_GlueError k5_GlueError:Option Value} (lC_GlueError:K.lookup C_GlueError=some (excClassObj "GlueError" q_GlueError C_GlueError N_GlueError bs_GlueError [.type "ValueError",.type "Exception",.type "BaseException",.type "object"] true sn_GlueError sub_GlueError ab_GlueError col_GlueError none k0_GlueError k1_GlueError k2_GlueError k3_GlueError k5_GlueError "ValueError.__new__")) (xq_GlueError:PySem.W.excIn K C_GlueError [.type "ValueError",.type "Exception",.type "BaseException",.type "object"] "ValueError.__new__"=true)
  {C_NoTable:Addr} (aC_NoTable:PySem.W.nsIn K mainGlobals "NoTable"=some (some (.ref C_NoTable))) {q_NoTable:Str}{N_NoTable:Addr}{bs_NoTable sub_NoTable:List Value}{sn_NoTable:List Str}{ab_NoTable:Bool}{col_NoTable:Option Bool}{k0_NoTable k1_NoTable k2_NoTable k3_NoTable k5_NoTable:Option Value} (lC_NoTable:K.lookup C_NoTable=some (excClassObj "NoTable" q_NoTable C_NoTable N_NoTable bs_NoTable (.ref C_GlueError::[.type "ValueError",.type "Exception",.type "BaseException",.type "object"]) true sn_NoTable sub_NoTable ab_NoTable col_NoTable none k0_NoTable k1_NoTable k2_NoTable k3_NoTable k5_NoTable "ValueError.__new__")) (ga_NoTable:PySem.W.findIn K (.ref C_NoTable) "__getattribute__"=some (some (.builtin "BaseException.__getattribute__"))) (gh_NoTable:PySem.W.findIn K (.ref C_NoTable) "__getattr__"=some none) (sa_NoTable:PySem.W.findIn K (.ref C_NoTable) "__setattr__"=some (some (.builtin "object.__setattr__"))) (cl_NoTable:PySem.W.findIn K (.ref C_NoTable) "__class__"=some (some (.builtin "object.__class__"))) (kc_NoTable:PySem.W.keepIn K (.ref C_NoTable)=true)
  (xq_NoTable:PySem.W.excIn K C_NoTable [.type "ValueError",.type "Exception",.type "BaseException",.type "object"] "ValueError.__new__"=true)
  (d1:gO K "is_row" oK)
  (d2:gO K "is_number" iN)
  (d3:gO K "members" lC)
  {f4:Addr}{oc4 kV4 dc4 pm4 cd4 ct4:Value}{od4 an4 dd4:Option Addr}{sl4 st4:Array (Option Value)}{dT4:Addr}{n4:Nat}{u4_0 u4_1:Tok} (a4:PySem.W.nsIn K mainGlobals "is_text"=some (some (.ref f4))) (l4:K.lookup f4=some ⟨oc4,od4,.func (PySem.W.fnOf "is_text" "is_text" (cL fB) (bS fB) (aq fB) (.ref dT4) kV4 dc4 pm4 an4 cd4 ct4),sl4⟩) (c4:PySem.W.codeIn K cd4 "is_text"=true) (k4:PySem.W.keepIn K (.ref f4)=true) (t4:K.lookup dT4=some ⟨.type "tuple",dd4,.seq [.int 0 u4_0,.int 4000 u4_1].toArray n4,st4⟩)
  (d5:gO K "first_place" fQ)
  (d6:gO K "lap" Ca)
  {f7:Addr}{oc7 kV7 dc7 pm7 cd7 ct7:Value}{od7 an7:Option Addr}{sl7:Array (Option Value)} (a7:PySem.W.findIn K (.ref C_Family) "many"=some (some (.ref f7))) (i7:PySem.W.isFn K (.ref f7)=true) (l7:K.lookup f7=some ⟨oc7,od7,.func (PySem.W.fnOf "many" "Family.many" (cL cB) (bS cB) (aq cB) .none kV7 dc7 pm7 an7 cd7 ct7),sl7⟩) (c7:PySem.W.codeIn K cd7 "Family.many"=true) (k7:PySem.W.keepIn K (.ref f7)=true)
  (d8:gO K "_law_mixed" iO)
  (d9:gO K "_law_next" jV)
  (d10:gO K "_law_words" iQ)
  (d11:gO K "_law_lap" lE)
  (d12:gO K "_law_needed" gR)
  (d13:gO K "_law_order" iS)
  (d14:gO K "_law_truths" gS)
  (d15:gO K "are_numbers" fO)
  (d16:gO K "most_saved" gP)
  (d17:gO K "word_before" fP)
  (d18:gO K "all_laps" jS)
  (d19:gO K "check_pieces" fc)
  (d20:gO K "stands_within" eE)
  (d21:gO K "_law_deck" jU)
  (d22:gO K "_law_signs" iP)
  (d23:gO K "_law_laps" jW)
  (d24:gO K "_law_table" iR)
  (d25:gO K "_law_bent" jX)
  (d26:gO K "_law_eight" iT)
  (d27:gO K "table_of" jP)
  (d28:gO K "has_table_form" dW)
  (d29:gO K "is_kept" lD)
  (d30:gO K "left_row" jT)
  (d31:gO K "_law_pieces" gQ)
  (d32:gO K "is_table" jQ)
  {f33:Addr}{oc33 kV33 dc33 pm33 cd33 ct33:Value}{od33 an33:Option Addr}{sl33:Array (Option Value)} (a33:PySem.W.findIn K (.ref C_Family) "__init__"=some (some (.ref f33))) (i33:PySem.W.isFn K (.ref f33)=true) (l33:K.lookup f33=some ⟨oc33,od33,.func (PySem.W.fnOf "__init__" "Family.__init__" (cL cA) (bS cA) (aq cA) .none kV33 dc33 pm33 an33 cd33 ct33),sl33⟩) (c33:PySem.W.codeIn K cd33 "Family.__init__"=true) (k33:PySem.W.keepIn K (.ref f33)=true)
  (d34:gO K "order_by" jR)
  (d35:gO K "_law_refused" fR)
  (d36:gO K "law" zk)
  (z1:PySem.W.nsIn K mainGlobals "all"=some none)
  (z2:PySem.W.nsIn K mainGlobals "any"=some none)
  (z3:PySem.W.nsIn K mainGlobals "bool"=some none)
  (z4:PySem.W.nsIn K mainGlobals "enumerate"=some none)
  (z5:PySem.W.nsIn K mainGlobals "int"=some none)
  (z6:PySem.W.nsIn K mainGlobals "isinstance"=some none)
  (z7:PySem.W.nsIn K mainGlobals "len"=some none)
  (z8:PySem.W.nsIn K mainGlobals "list"=some none)
  (z9:PySem.W.nsIn K mainGlobals "max"=some none)
  (z10:PySem.W.nsIn K mainGlobals "min"=some none)
  (z11:PySem.W.nsIn K mainGlobals "range"=some none)
  (z12:PySem.W.nsIn K mainGlobals "reversed"=some none)
  (z13:PySem.W.nsIn K mainGlobals "str"=some none)
  (z14:PySem.W.nsIn K mainGlobals "sum"=some none)
  (z15:PySem.W.nsIn K mainGlobals "tuple"=some none)
  {ty1:Tok} (y1:PySem.W.nsIn K mainGlobals "MOST_PIECES"=some (some (.int 40 ty1)))
  {ty2:Tok} (y2:PySem.W.nsIn K mainGlobals "MOST_SIGNS"=some (some (.int 60 ty2)))
  {ty3:Tok} (y3:PySem.W.nsIn K mainGlobals "MOST_TABLE_WORDS"=some (some (.int 8 ty3))) :
  ∃fd:FuncData,(∀(s:Shared) (v:Value),BindsTo s fd ⟨[v],[]⟩ [("_law_script",v)])/\∀base:Heap,K.In base->base.Ns mainGlobals mg->m7 l.prog w K mg base CX0 7 fa fd ["_law_script"] (uy K):=by
 have eC_Family:=og aC_Family;have TC:TxC K:=⟨by rw [eC_Family];exact⟨pg_Family,hd_Family,po_Family,sa_Family⟩,by show PySem.W.findIn K (.ref (bc K "Family")) "pieces"=some none;rw [eC_Family];exact n_Family_pieces,by show PySem.W.findIn K (.ref (bc K "Family")) "kept"=some none;rw [eC_Family];exact n_Family_kept,by show PySem.W.findIn K (.ref (bc K "Family")) "words"=some none;rw [eC_Family];exact n_Family_words,by show PySem.W.findIn K (.ref (bc K "Family")) "left"=some none;rw [eC_Family];exact n_Family_left,by show PySem.W.findIn K (.ref (bc K "Family")) "laps"=some none;rw [eC_Family];exact n_Family_laps,by show PySem.W.findIn K (.ref (bc K "Family")) "total"=some none;rw [eC_Family];exact n_Family_total⟩
 have eC_GlueError:=og aC_GlueError;have tl_:=BK xq_GlueError ⟨_,_,_,_,_,_,_,_,_,_,_,_,_,lC_GlueError⟩;have eC_NoTable:=og aC_NoTable;have xc_NoTable:XC K C_NoTable C_GlueError:=⟨⟨_,_,_,_,_,_,_,_,_,_,_,_,_,lC_NoTable⟩,ga_NoTable,gh_NoTable,sa_NoTable,cl_NoTable⟩
 have TX:TxX K mg:=⟨⟨by rw [XCl,eC_GlueError];exact⟨_,_,_,lC_GlueError,rfl⟩,fun c hc=>by
  simp only [xcs,mem_cons,not_mem_nil,or_false] at hc
  rcases hc with rfl
  .rw [XCl,eC_NoTable];exact⟨_,_,_,lC_NoTable,rfl⟩,fun c hc=>by
  simp only [xcs,mem_cons,not_mem_nil,or_false] at hc
  rcases hc with rfl
  .rw [eC_NoTable,eC_GlueError];exact xc_NoTable⟩,fun c g hc=>(not_mem_nil hc).elim,by rw [eC_NoTable];exact PySem.W.mg_of X G aC_NoTable,by rw [eC_GlueError];exact PySem.W.mg_of X G aC_GlueError,by rw [eC_NoTable];exact⟨_,_,_,_,_,_,_,_,_,_,_,_,_,_,_,_,_,lC_NoTable,rfl⟩,by rw [eC_GlueError];exact⟨_,_,_,_,_,_,_,_,_,_,_,_,_,_,_,_,_,lC_GlueError,rfl⟩,by rw [eC_NoTable];exact Eh xq_NoTable,by rw [eC_NoTable];exact kc_NoTable⟩
 have D_is_row:=bJ d1 X G;have D_is_number:=bJ d2 X G;have D_members:=bJ d3 X G;have D_is_text:sY K mg "is_text" fB [.int 0,.int 4000]:=⟨⟨f4,dT4,oc4,od4,an4,dd4,kV4,dc4,pm4,cd4,ct4,sl4,st4,[.int 0 u4_0,.int 4000 u4_1],n4,l4,c4,k4,PySem.W.mg_of X G a4,t4,(.cons ⟨_,rfl⟩ (.cons ⟨_,rfl⟩ .nil))⟩⟩
 have D_first_place:=bJ d5 X G;have D_lap:=bJ d6 X G;have D_Family_many:tm K (bc K "Family") "many" "Family.many" cB:=by rw [eC_Family];exact⟨⟨f7,_,vI (st:=cB) l7 c7 k7,⟨a7,i7,k7⟩⟩⟩
 have D_law_mixed:=bJ d8 X G;have D_law_next:=bJ d9 X G;have D_law_words:=bJ d10 X G;have D_law_lap:=bJ d11 X G;have D_law_needed:=bJ d12 X G;have D_law_order:=bJ d13 X G;have D_law_truths:=bJ d14 X G;have D_are_numbers:=bJ d15 X G;have D_most_saved:=bJ d16 X G;have D_word_before:=bJ d17 X G;have D_all_laps:=bJ d18 X G;have D_check_pieces:=bJ d19 X G;have D_stands_within:=bJ d20 X G;have D_law_deck:=bJ d21 X G
 have D_law_signs:=bJ d22 X G;have D_law_laps:=bJ d23 X G;have D_law_table:=bJ d24 X G;have D_law_bent:=bJ d25 X G;have D_law_eight:=bJ d26 X G;have D_table_of:=bJ d27 X G;have D_has_table_form:=bJ d28 X G;have D_is_kept:=bJ d29 X G;have D_left_row:=bJ d30 X G;have D_law_pieces:=bJ d31 X G;have D_is_table:=bJ d32 X G;have D_Family_init:tq K mg (bc K "Family") "Family" "Family.__init__" cA:=by rw [eC_Family];exact⟨⟨f33,_,vI (st:=cA) l33 c33 k33,⟨mk_Family,a33,i33,kc_Family⟩,PySem.W.mg_of X G aC_Family⟩⟩
 have D_order_by:=bJ d34 X G;have D_law_refused:=bJ d35 X G;have D_law:=bJ d36 X G;have T:Txt mg:=⟨PySem.W.mg_none_of X G z1,PySem.W.mg_none_of X G z2,PySem.W.mg_none_of X G z3,PySem.W.mg_none_of X G z4,PySem.W.mg_none_of X G z5,PySem.W.mg_none_of X G z6,PySem.W.mg_none_of X G z7,PySem.W.mg_none_of X G z8,PySem.W.mg_none_of X G z9,PySem.W.mg_none_of X G z10,PySem.W.mg_none_of X G z11,PySem.W.mg_none_of X G z12,PySem.W.mg_none_of X G z13,PySem.W.mg_none_of X G z14,PySem.W.mg_none_of X G z15,⟨_,PySem.W.mg_of X G y1⟩,⟨_,PySem.W.mg_of X G y2⟩,⟨_,PySem.W.mg_of X G y3⟩⟩
 refine DD (st:=zk) hfa D_law (fun _ _ _ _ _ _ s v=>.of_eq rfl) fun base=>?_;have C_is_row:=xU (P:=l.prog) (w:=w) (base:=base) D_is_row T TC TX;have C_is_number:=qT (P:=l.prog) (w:=w) (base:=base) D_is_number T TC TX;have C_members:=uU (P:=l.prog) (w:=w) (base:=base) D_members T TC TX;have C_is_text:=uV (P:=l.prog) (w:=w) (base:=base) D_is_text T TC TX;have C_first_place:=mT (P:=l.prog) (w:=w) (base:=base) D_first_place T TC TX
 have C_lap:=EW (P:=l.prog) (w:=w) (base:=base) D_lap T TC TX;have C_Family_many:=mV (P:=l.prog) (w:=w) (base:=base) D_Family_many T TC TX;have C_law_mixed:=qU (P:=l.prog) (w:=w) (base:=base) D_law_mixed T TC TX;have C_law_next:=sJ (P:=l.prog) (w:=w) (base:=base) D_law_next T TC TX;have C_law_words:=qW (P:=l.prog) (w:=w) (base:=base) D_law_words T TC TX;have C_law_lap:=uX (P:=l.prog) (w:=w) (base:=base) D_law_lap T TC TX
 have C_law_needed:=pq (P:=l.prog) (w:=w) (base:=base) D_law_needed T TC TX;have C_law_order:=qY (P:=l.prog) (w:=w) (base:=base) D_law_order T TC TX;have C_law_truths:=pz (P:=l.prog) (w:=w) (base:=base) D_law_truths T TC TX;have C_are_numbers:=mR (P:=l.prog) (w:=w) (base:=base) D_are_numbers T TC TX C_is_number C_is_row;have C_most_saved:=o9 (P:=l.prog) (w:=w) (base:=base) D_most_saved T TC TX C_members
 have C_word_before:=mS (P:=l.prog) (w:=w) (base:=base) D_word_before T TC TX C_members;have C_all_laps:=sG (P:=l.prog) (w:=w) (base:=base) D_all_laps T TC TX C_lap;have C_check_pieces:=md (P:=l.prog) (w:=w) (base:=base) D_check_pieces T TC TX C_is_text;have C_stands_within:=kE (P:=l.prog) (w:=w) (base:=base) D_stands_within T TC TX C_first_place;have C_law_deck:=sI (P:=l.prog) (w:=w) (base:=base) D_law_deck T TC TX C_law_mixed
 have C_law_signs:=qV (P:=l.prog) (w:=w) (base:=base) D_law_signs T TC TX C_law_next;have C_law_laps:=sK (P:=l.prog) (w:=w) (base:=base) D_law_laps T TC TX C_law_lap;have C_law_table:=qX (P:=l.prog) (w:=w) (base:=base) D_law_table T TC TX C_law_needed;have C_law_bent:=sL (P:=l.prog) (w:=w) (base:=base) D_law_bent T TC TX C_law_next;have C_law_eight:=qZ (P:=l.prog) (w:=w) (base:=base) D_law_eight T TC TX C_law_next
 have C_table_of:=sD (P:=l.prog) (w:=w) (base:=base) D_table_of T TC TX C_Family_many C_most_saved;have C_has_table_form:=j1 (P:=l.prog) (w:=w) (base:=base) D_has_table_form T TC TX C_Family_many C_are_numbers C_is_row;have C_is_kept:=uW (P:=l.prog) (w:=w) (base:=base) D_is_kept T TC TX C_stands_within;have C_left_row:=sH (P:=l.prog) (w:=w) (base:=base) D_left_row T TC TX C_first_place C_stands_within
 have C_law_pieces:=pd (P:=l.prog) (w:=w) (base:=base) D_law_pieces T TC TX C_law_next C_law_signs;have C_is_table:=sE (P:=l.prog) (w:=w) (base:=base) D_is_table T TC TX C_has_table_form C_table_of;have C_Family_init:=mU (P:=l.prog) (w:=w) (base:=base) D_Family_init T TC TX C_all_laps C_check_pieces C_is_kept C_left_row;have C_order_by:=sF (P:=l.prog) (w:=w) (base:=base) D_order_by T TC TX C_is_table C_word_before
 have C_law_refused:=mW (P:=l.prog) (w:=w) (base:=base) D_law_refused T TC TX C_is_table C_order_by;exact (EX (P:=l.prog) (w:=w) (base:=base) D_law T TC TX C_Family_init C_law_bent C_law_deck C_law_eight C_law_laps C_law_next C_law_order C_law_pieces C_law_refused C_law_table C_law_truths C_law_words C_is_table C_order_by).imp fun _ _ _ _ h=>Bq h
end K36

open PySem PySem.W PyProof.Rows
local macro_rules | `(tactic| walk_at "fn") => `(tactic| (refine' L2.EA ?a ?l ?c ?k; (case a => k_is); (case l => k_is); (case c => k_is); (case k => k_is)))
set_option maxRecDepth 100000 in
set_option maxHeartbeats 0 in
theorem PySem.Challenge.cw_shortglue_k36_is_table_holds : PySem.Challenge.rw_shortglue_k36_is_table.Holds := by
  refine topHd ?_
  k_fill
  refine L2.DE (l := PySem.Challenge.rw_shortglue_k36_is_table) (k := 7) (x := "_law_script") rfl rfl ⟨rfl, by decide, by decide⟩ (fun w h Y => PySem.W.kIn_of Y) ?F
  case F =>
    intro w mg fa h KX G hmg
    refine' K36.EY KX G hmg ?aC_Family ?pg_Family ?hd_Family ?po_Family ?sa_Family ?mk_Family ?kc_Family ?n_Family_pieces ?n_Family_kept ?n_Family_words ?n_Family_left ?n_Family_laps ?n_Family_total ?aC_GlueError ?lC_GlueError ?xq_GlueError ?aC_NoTable ?lC_NoTable ?ga_NoTable ?gh_NoTable ?sa_NoTable ?cl_NoTable ?kc_NoTable ?xq_NoTable ?d1 ?d2 ?d3 ?a4 ?l4 ?c4 ?k4 ?t4 ?d5 ?d6 ?a7 ?i7 ?l7 ?c7 ?k7 ?d8 ?d9 ?d10 ?d11 ?d12 ?d13 ?d14 ?d15 ?d16 ?d17 ?d18 ?d19 ?d20 ?d21 ?d22 ?d23 ?d24 ?d25 ?d26 ?d27 ?d28 ?d29 ?d30 ?d31 ?d32 ?a33 ?i33 ?l33 ?c33 ?k33 ?d34 ?d35 ?d36 ?z1 ?z2 ?z3 ?z4 ?z5 ?z6 ?z7 ?z8 ?z9 ?z10 ?z11 ?z12 ?z13 ?z14 ?z15 ?y1 ?y2 ?y3
    (case aC_Family => k_is)
    (case pg_Family => k_is)
    (case hd_Family => k_is)
    (case po_Family => k_is)
    (case sa_Family => k_is)
    (case mk_Family => k_is)
    (case kc_Family => k_is)
    (case n_Family_pieces => k_is)
    (case n_Family_kept => k_is)
    (case n_Family_words => k_is)
    (case n_Family_left => k_is)
    (case n_Family_laps => k_is)
    (case n_Family_total => k_is)
    (case aC_GlueError => k_is)
    (case lC_GlueError => k_is)
    (case xq_GlueError => k_exc)
    (case aC_NoTable => k_is)
    (case lC_NoTable => k_is)
    (case ga_NoTable => k_is)
    (case gh_NoTable => k_is)
    (case sa_NoTable => k_is)
    (case cl_NoTable => k_is)
    (case kc_NoTable => k_is)
    (case xq_NoTable => k_exc)
    (case d1 => walk_at "fn")
    (case d2 => walk_at "fn")
    (case d3 => walk_at "fn")
    (case a4 => k_is)
    (case l4 => k_is)
    (case c4 => k_is)
    (case k4 => k_is)
    (case t4 => k_is)
    (case d5 => walk_at "fn")
    (case d6 => walk_at "fn")
    (case a7 => k_is)
    (case i7 => k_is)
    (case l7 => k_is)
    (case c7 => k_is)
    (case k7 => k_is)
    (case d8 => walk_at "fn")
    (case d9 => walk_at "fn")
    (case d10 => walk_at "fn")
    (case d11 => walk_at "fn")
    (case d12 => walk_at "fn")
    (case d13 => walk_at "fn")
    (case d14 => walk_at "fn")
    (case d15 => walk_at "fn")
    (case d16 => walk_at "fn")
    (case d17 => walk_at "fn")
    (case d18 => walk_at "fn")
    (case d19 => walk_at "fn")
    (case d20 => walk_at "fn")
    (case d21 => walk_at "fn")
    (case d22 => walk_at "fn")
    (case d23 => walk_at "fn")
    (case d24 => walk_at "fn")
    (case d25 => walk_at "fn")
    (case d26 => walk_at "fn")
    (case d27 => walk_at "fn")
    (case d28 => walk_at "fn")
    (case d29 => walk_at "fn")
    (case d30 => walk_at "fn")
    (case d31 => walk_at "fn")
    (case d32 => walk_at "fn")
    (case a33 => k_is)
    (case i33 => k_is)
    (case l33 => k_is)
    (case c33 => k_is)
    (case k33 => k_is)
    (case d34 => walk_at "fn")
    (case d35 => walk_at "fn")
    (case d36 => walk_at "fn")
    (case z1 => k_is)
    (case z2 => k_is)
    (case z3 => k_is)
    (case z4 => k_is)
    (case z5 => k_is)
    (case z6 => k_is)
    (case z7 => k_is)
    (case z8 => k_is)
    (case z9 => k_is)
    (case z10 => k_is)
    (case z11 => k_is)
    (case z12 => k_is)
    (case z13 => k_is)
    (case z14 => k_is)
    (case z15 => k_is)
    (case y1 => k_is)
    (case y2 => k_is)
    (case y3 => k_is)
