import PyProof.Rows.All
import Wide.All
import OpenK.AllK
import Wide.FinOn
import Lean
import PyProof.EqAt
import PyProof.EqKinds
import PyProof.TupleCall
import KE.KSortTup
import PyProof.FString
import PyProof.StrBlock
import KE.KRevSl
import PyProof.StrLawsReplace
import PyProof.StrCalls6
import PyProof.MinMaxWalk
import PyProof.WalkInts
import PyProof.NeKinds
import KE.KEqDict
import PyProof.Rows.SumAny
import KE.KMinKey
import PyProof.Rows.CallKwBuiltin
import PySem.Challenge.RW_shortglue_k60_cover
set_option Elab.async false
set_option linter.all false
set_option maxRecDepth 100000
open List (all_cons all_eq_true all_map any_eq_false append_assoc append_nil append_toArray cons_lt_cons_iff cons_ne_nil contains_cons contains_iff_mem countP_cons dropLast_concat dropLast_concat_getLast dropLast_eq_take drop_eq_getElem_cons drop_eq_nil_of_le drop_one drop_zero eraseIdxIfInBounds_toArray eraseIdx_cons_succ exists_mem_of_ne_nil ext_getElem ext_getElem? extract_eq_take_drop extract_toArray filterMap_append filterMap_cons filterMap_eq_map filterMap_map filter_cons filter_eq_nil_iff flatten_cons foldl_cons forIn_cons forIn_nil getD_eq_getElem?_getD getElem?_append_left getElem?_append_right getElem?_cons_succ getElem?_drop getElem?_eq_getElem getElem?_eq_none getElem?_map getElem?_range getElem?_replicate getElem?_reverse getElem?_set getElem?_set_ne getElem?_set_self getElem?_take_of_lt getElem?_zip_eq_some getElem_cons_drop getElem_inj getElem_mem getElem_of_mem getElem_tail getElem_toArray getElem_zip length_append length_cons length_drop length_dropLast length_eq_zero_iff length_erase_of_mem length_flatten length_map length_nil length_range length_replicate length_reverse length_set length_singleton length_tail length_take length_zip lookup_append lookup_cons map_append map_congr_left map_cons map_drop map_eq_nil_iff map_flatten map_id map_map map_nil map_replicate map_reverse map_set map_snd_zip map_take mem_append mem_append_left mem_append_right mem_cons mem_cons_of_mem mem_cons_self mem_filter mem_filterMap mem_flatten mem_iff_getElem mem_map mem_map_of_mem mem_of_getElem? mem_of_mem_drop mem_of_mem_erase mem_of_mem_take mem_range mem_replicate mem_reverse mem_singleton ne_nil_of_length_pos nil_append nodup_cons not_mem_nil of_mem_zip pairwise_append pairwise_cons pairwise_iff_getElem pairwise_map pairwise_singleton perm_middle push_toArray range_succ range_succ_eq_map replicate_succ reverse_cons set_cons_succ set_cons_zero singleton_append singleton_inj size_toArray sum_replicate_nat tail_cons take_append_drop take_length take_nil take_of_length_le take_sublist take_succ take_succ_cons take_succ_eq_append_getElem take_zero zipIdx_cons zipIdx_nil zip_cons_cons zip_nil_left zip_nil_right)
open Nat (add_comm add_le_add_left add_sub_cancel_left add_zero le_add_right le_antisymm le_of_ble_eq_true le_of_eq le_of_not_lt le_of_succ_le le_succ le_trans le_zero log2_lt lt_of_le_of_lt lt_or_ge lt_succ_of_lt lt_succ_self lt_trichotomy max_le min_eq_left min_eq_right min_le_right min_self mul_comm mul_le_mul_right ne_of_gt ne_of_lt not_lt not_lt_zero not_succ_le_self sub_self succ_mul succ_ne_zero succ_pos zero_le zero_lt_succ)
open Int (ediv_nonneg ediv_one emod_lt_of_pos emod_nonneg fdiv_eq_ediv_of_nonneg fmod_eq_emod_of_nonneg le_ediv_of_mul_le lt_trans mul_le_mul_of_nonneg_left mul_nonneg toNat_natCast toNat_of_nonneg)
open Bool (and_eq_false_iff and_eq_true and_eq_true_iff beq_eq_decide_eq eq_false_iff false_eq_true not_eq_true or_eq_false_iff or_eq_true)
local macro_rules | `(tactic| walk_at "o")=>`(tactic| first | exact Or.inl rfl | exact Or.inr rfl | exact Or.inr (Or.inl rfl) | exact Or.inr (Or.inr rfl))
set_option maxHeartbeats 4000000
noncomputable section
namespace L2
open PySem PySem.W
def lF(tb:String->Option Builtin)(p:Program)(w:World)(n₀:Nat)(ann:Option Value):Nat->SharedT->Thread->Option SharedT
 | 0,_,_=>none
 | n+1,s,t=>match through t with
  | true=>some s
  | false=>match stepOk n₀ ann t with
   | false=>none
   | true=>match stepT (denote tb) p w s t with
    | some (s',t')=>lF tb p w n₀ ann n s' t'
    | none=>none
theorem lG{tb:String->Option Builtin}{p:Program}{w:World}{n₀:Nat}{ann:Option Value}:∀{n:Nat}{s s':SharedT}{t:Thread},lF tb p w n₀ ann n s t=some s'->topRun tb p w n₀ ann n s.abs t=some s'.abs
 | 0,_,_,_,h=>by cases h
 | n+1,s,s',t,h=>by
  unfold lF at h;unfold topRun
  cases he:through t with
  | true=>rw [he] at h;cases h;rfl
  | false =>
   rw [he] at h
   cases hk:stepOk n₀ ann t with
   | false=>rw [hk] at h;cases h
   | true =>
    rw [hk] at h
    cases hs:stepT (denote tb) p w s t with
    | none=>rw [hs] at h;cases h
    | some r=>obtain⟨s₂,t₂⟩:=r;rw [hs] at h;rw [stepT_spec hs];exact lG h
def sD:List Obj->Nat->BT->BT
 | [],_,t=>t
 | o::r,i,t=>sD r (i+1) (t.ins i o)
def yY(P:Params):BT:=sD (boot_heap P).objs.toList 0 .nil
theorem wP:∀P,absHeap (yY P) (boot_heap P).objs.size (boot_heap P).life=boot_heap P:=fun P=>by kernel_rfl
theorem DU{p q:Program}{loose:List Str}{Xt:Shared->Bool}{α:Type}{Yf:Shared->α}{Ya:World->α}{N:Nat}{g0:Bool}{m₀:Nat}{ann:Option Value}
  (e:opening p=plainProg p.main.scope.names) (hN:Nat.ble 600 N=true) (f:∀s,fenceModules? p s=some s)
  (size:∀w:World,((boot_heap w.params).isNs mainGlobals && (Array.mk []:Array GenState).size == 0,(boot_heap w.params).objs.size,(boot_heap w.params).nsMap mainGlobals "__annotations__")=(true,m₀,ann))
  (run:∀(w:World) (os:OsState),(lF treeTable p w m₀ ann N ⟨yY w.params,m₀,(boot_heap w.params).life,Array.mk [],boot_drawn,boot_toks,os⟩ (topStub p)).map (fun sT=>((staticsOk (importedModules p.main.body) (boot_heap w.params) sT.abs.heap && namesBound p sT.abs.heap && gensDone sT.abs && laidKept (boot_heap w.params) sT.abs.heap),openSeen q loose (importedModules p.main.body) Xt g0 sT.abs,Yf sT.abs))=some (true,openGood q loose,Ya w)):LeftO p q loose Xt Yf Ya N g0:=fun w=>by
 obtain⟨⟨h,gs,d,k,os⟩,e,e'⟩:=Option.map_eq_some_iff.mp (boot_open e hN f w);obtain⟨rfl,rfl,rfl,rfl⟩:h=boot_heap w.params/\gs=Array.mk []/\d=boot_drawn/\k=boot_toks:=by simpa using e'
 obtain⟨z1,z2,z3⟩:_/\_/\_:=by simpa only [Prod.mk.injEq] using size w
 obtain⟨sT,r,l⟩:=Option.map_eq_some_iff.mp (run w os);obtain⟨l1,l2,l3⟩:_/\_/\_:=by simpa only [Prod.mk.injEq] using l
 have r:=lG r
 rw [show SharedT.abs ⟨yY w.params,m₀,(boot_heap w.params).life,Array.mk [],boot_drawn,boot_toks,os⟩=⟨boot_heap w.params,Array.mk [],boot_drawn,boot_toks,os⟩ by
  unfold SharedT.abs;dsimp only;rw [<- z2,wP]] at r
 have t:topFrom treeTable p w N ⟨boot_heap w.params,Array.mk [],boot_drawn,boot_toks,os⟩=some sT.abs:=by
  unfold topFrom;dsimp only;rw [z1,z2,z3,r];show (match staticsOk (importedModules p.main.body) (boot_heap w.params) sT.abs.heap && namesBound p sT.abs.heap && gensDone sT.abs && laidKept (boot_heap w.params) sT.abs.heap with|true=>_|false=>_)=_;rw [l1]
 unfold openEnds;rw [e];show (topFrom treeTable p w N _).map _=_;rw [t];exact congrArg some (Prod.ext l2 l3)
end L2
namespace L2
open PySem PySem.W
theorem yZ{p q:Program}{loose:List Str}{Xt:Shared->Bool}{α:Type}{Yf:Shared->α}{Ya:World->α}{N:Nat}{g0:Bool}{m₀:Nat}{ann:Option Value}{l rest:List Stmt}{env:Env}{c:Code}{qp pa pb p1:Pos}{n0 nb n1 n2:Nat}{SA S1:World->OsState->SharedT}
  (e:opening p=plainProg p.main.scope.names) (hN:Nat.ble 600 N=true) (f:∀s,fenceModules? p s=some s)
  (size:∀w:World,((boot_heap w.params).isNs mainGlobals && (Array.mk []:Array GenState).size == 0,(boot_heap w.params).objs.size,(boot_heap w.params).nsMap mainGlobals "__annotations__")=(true,m₀,ann))
  (pre:∀(w:World) (os:OsState),topGo treeTable p w m₀ ann n0 ⟨boot_heap w.params,Array.mk [],boot_drawn,boot_toks,os⟩ (topStub p)=some ((SA w os).abs,⟨denote treeTable (.body (l++rest) env),c,pa,[topFrame qp]⟩))
  (blk:∀(w:World) (os:OsState),segRun treeTable p w m₀ ann 1 nb (SA w os).abs (blockOf (l++rest) env c pa [topFrame qp])=some (.next,(SA w os).abs,c,pb))
  (one:∀(w:World) (os:OsState),segRunT treeTable p w m₀ ann 1 n1 (SA w os) (piecesOf l env c pb [topFrame qp])=some (.next,S1 w os,c,p1))
  (hn:N=n0+(nb+(n1+n2)))
  (run:∀(w:World) (os:OsState),(lF treeTable p w m₀ ann n2 (S1 w os) (restOf rest env c p1 [topFrame qp])).map (fun sT=>((staticsOk (importedModules p.main.body) (boot_heap w.params) sT.abs.heap && namesBound p sT.abs.heap && gensDone sT.abs && laidKept (boot_heap w.params) sT.abs.heap),openSeen q loose (importedModules p.main.body) Xt g0 sT.abs,Yf sT.abs))=some (true,openGood q loose,Ya w)):LeftO p q loose Xt Yf Ya N g0:=fun w=>by
 obtain⟨⟨h,gs,d,k,os⟩,e,e'⟩:=Option.map_eq_some_iff.mp (boot_open e hN f w);obtain⟨rfl,rfl,rfl,rfl⟩:h=boot_heap w.params/\gs=Array.mk []/\d=boot_drawn/\k=boot_toks:=by simpa using e'
 obtain⟨z1,z2,z3⟩:_/\_/\_:=by simpa only [Prod.mk.injEq] using size w
 obtain⟨sT,r,l⟩:=Option.map_eq_some_iff.mp (run w os);obtain⟨l1,l2,l3⟩:_/\_/\_:=by simpa only [Prod.mk.injEq] using l
 have r:=go_top (pre w os) (piece_block (blk w os) (piece_app (segRun_of (one w os)) (lG r)));rw [<- hn] at r
 have t:topFrom treeTable p w N ⟨boot_heap w.params,Array.mk [],boot_drawn,boot_toks,os⟩=some sT.abs:=by
  unfold topFrom;dsimp only;rw [z1,z2,z3,r];show (match staticsOk (importedModules p.main.body) (boot_heap w.params) sT.abs.heap && namesBound p sT.abs.heap && gensDone sT.abs && laidKept (boot_heap w.params) sT.abs.heap with|true=>_|false=>_)=_;rw [l1]
 unfold openEnds;rw [e];show (topFrom treeTable p w N _).map _=_;rw [t];exact congrArg some (Prod.ext l2 l3)
def zhE(P:Params)(x:Str)(t:Nat)(v:Value):DictEntry:=⟨PyData.keyHash P x,.str x t,v⟩
def zhT(xs:List Value):Obj:=⟨.type "tuple",none,.seq xs.toArray 0,#[]⟩
def zhF(xs:List Value):Obj:=⟨.none,none,.fields xs.toArray,#[]⟩
def zhD(es:List DictEntry)(n:Nat):Obj:=⟨.type "dict",none,.dict es.toArray n,#[]⟩
def zhG(c:Str)(xs:List Value):Obj:=⟨.type c.toString,none,.fields xs.toArray,#[]⟩
def AY(xs:List Obj):List (Nat×Obj)->List Obj
 | []=>xs
 | p::r=>AY (xs.set p.1 p.2) r
def zhM(p:Program)(i j:Nat):Stmt:=match p.main.body.getD i (.Pass ⟨0,0,0,0⟩) with
 | .ClassDef _ _ _ body _ _ _ _ _ _ _=>body.getD j (.Pass ⟨0,0,0,0⟩)
 | s=>s
def zhN(k:Value)(s:Stmt)(x q:Str)(g:Addr)(m c:Value):Obj:=match s with
 | .FunctionDef _ a b _ _ _ sc _ _ _=>⟨k,none,.func { name:=x,qualname:=q,params:=a,body:=.stmts b,scope:=sc,globals:=g,closure:=[],defaults:=.none,kwdefaults:=.none,pyModule:=m,code:=c },#[]⟩
 | _=>default
def zhK(x q:Str)(t l n f e:Nat)(b:Bool)(j k r:Value)(u:Nat):Obj:=⟨.type "code",none,.fields #[.str x t,.str q (t+1),.str "/claim/cut.py" (t+2),.int l 0,.int n 0,.int 0 0,.int 0 0,.int f 0,.ref e,.bool b,.int 181 0,.ref (e+1),.none,j,k,r,.int u 0,.int l 0,.str "/claim/cut.py" (u+1)],#[]⟩
def zhQ:Value:=.str "shortglue.errors" 187
def zhU(P:Params)(x:Str)(a t l n:Nat)(es:List DictEntry)(f:List Value):List Obj:=[zhT [.ref 24],zhG "builtin_function_or_method" [.builtin "type.__prepare__",.type "type"],zhD (zhE P "__module__" (t+7) zhQ::zhE P "__qualname__" (t+9) (.str x (t+8))::zhE P "__firstlineno__" (t+11) (.int l (t+10))::es) n,zhT [],zhF f,zhK x x (t+2) l 0 0 (a+3) false .none .none .none (t+5),⟨.type "frame",none,.plain,#[some (.ref (a+5)),some (.ref 3),some (.ref (a+2)),none,some zhQ,none,some (.ref 0)]⟩,zhT []]
def zhV(P:Params)(x:Str)(a t l c:Nat)(es:List DictEntry):List Obj:=[zhD (zhE P "__module__" (t+7) zhQ::zhE P "__firstlineno__" (t+11) (.int l (t+10))::es) 2,⟨.type "type",none,.cls { name:=x,bases:=[.ref 24],mro:=[.ref c,.ref 24,.type "ValueError",.type "Exception",.type "BaseException",.type "object"],ns:=c - 1,qualname:=x,hasDict:=true,slotNames:=[],subclasses:=[],abstract:=false,collection:=none,hasDel:=false },#[some (.ref a),none,some (.str x t),some (.str x (t+8)),some (.builtin "ValueError.__new__"),some (.bool true)]⟩,zhG "super" [.ref c,.ref c,.ref c],zhG "builtin_function_or_method" [.builtin "object.__init_subclass__",.ref c]]
def zhX(P:Params)(x:Str)(a t l:Nat):List Obj:=zhU P x a t l 4 [zhE P "__static_attributes__" (t+12) (.ref (a+7))] []++zhV P x a t l (a+9) [zhE P "__static_attributes__" (t+12) (.ref (a+7)),zhE P "__doc__" (t+13) .none]
def zhY(P:Params)(p:Program)(x q f:Str)(i a t l:Nat):List Obj:=zhU P x a t l 5 [zhE P "__init__" (t+19) (.ref (a+13)),zhE P "__static_attributes__" (t+21) (.ref (a+14))] [.int (l+2:Nat) 0,.int 4 0,.ref (a+12)]++[zhF [],zhT [.str "self" (t+15),.str f (t+16)],zhT [],zhN .none (zhM p i 0) "__init__" q 0 .none .none,zhK "__init__" q (t+12) (l+2) 2 3 (a+7) true (.ref (a+9)) (.ref (a+10)) (.ref (a+11)) (t+17),zhN (.type "function") (zhM p i 0) "__init__" q 3 zhQ (.ref (a+12)),zhT [.str f (t+20)]]++zhV P x a t l (a+16) [zhE P "__init__" (t+19) (.ref (a+13)),zhE P "__static_attributes__" (t+21) (.ref (a+14)),zhE P "__doc__" (t+22) .none]
end L2
section
open PySem PySem.W PyProof.Rows L2
def zzA(P:Params):BT:=sD ((boot_heap P).objs.toList++[zhT [],
  zhF [],
  ⟨(.type "code"),none,(.fields #[(.str "<module>" 182),(.str "<module>" 183),(.str "/claim/cut.py" 184),(.int (1) 0),(.int (0) 0),(.int (0) 0),(.int (0) 0),(.int (0) 0),(.ref 11),(.bool false),(.int (181) 0),(.ref 12),.none,.none,.none,.none,(.int (185) 0),(.int (1) 0),(.str "/claim/cut.py" 186)]),#[]⟩,
  ⟨(.type "frame"),none,.plain,#[(some (.ref 13)),(some (.ref 3)),(some (.ref 3)),none,(some (.str "__main__" 164)),none,(some (.ref 0))]⟩]) 0 .nil
def zz1(P:Params):BT:=sD (AY (boot_heap P).objs.toList [(3,zhD [zhE P "__name__" 165 (.str "shortglue.errors" 187),zhE P "__doc__" 166 .none,zhE P "__package__" 167 .none,zhE P "__loader__" 168 (.builtin "__main__.__loader__#opaque"),zhE P "__spec__" 169 .none,zhE P "__annotations__" 170 (.ref 6),zhE P "__builtins__" 171 (.ref 4),zhE P "__file__" 173 (.str "/claim/cut.py" 172),zhE P "__cached__" 174 .none,zhE P "GlueError" 206 (.ref 24),zhE P "TooMany" 231 (.ref 44),zhE P "NoPiece" 256 (.ref 63),zhE P "NoLap" 281 (.ref 82),zhE P "NoOrder" 297 (.ref 94),zhE P "NotHeld" 322 (.ref 113),zhE P "NoTable" 338 (.ref 125),zhE P "NoRing" 354 (.ref 137),zhE P "TooGreat" 379 (.ref 156),zhE P "NoWords" 395 (.ref 168),zhE P "NotApart" 420 (.ref 187)] 20)]++[zhT [],
  zhF [(.int (2) 0),(.int (0) 0),(.ref 20),(.int (4) 0),(.int (0) 0),(.ref 33),(.int (8) 0),(.int (0) 0),(.ref 52),(.int (12) 0),(.int (0) 0),(.ref 71),(.int (16) 0),(.int (0) 0),(.ref 90),(.int (18) 0),(.int (0) 0),(.ref 102),(.int (22) 0),(.int (0) 0),(.ref 121),(.int (24) 0),(.int (0) 0),(.ref 133),(.int (26) 0),(.int (0) 0),(.ref 145),(.int (30) 0),(.int (0) 0),(.ref 164),(.int (32) 0),(.int (0) 0),(.ref 176)],
  ⟨(.type "code"),none,(.fields #[(.str "<module>" 182),(.str "<module>" 183),(.str "/claim/cut.py" 184),(.int (1) 0),(.int (0) 0),(.int (0) 0),(.int (0) 0),(.int (0) 0),(.ref 11),(.bool false),(.int (181) 0),(.ref 12),.none,.none,.none,.none,(.int (185) 0),(.int (1) 0),(.str "/claim/cut.py" 186)]),#[]⟩,
  ⟨(.type "frame"),none,.plain,#[(some (.ref 13)),(some (.ref 3)),(some (.ref 3)),none,(some (.str "__main__" 164)),none,(some (.ref 0))]⟩,
  zhT [(.type "ValueError")],
  zhG "builtin_function_or_method" [(.builtin "type.__prepare__"),(.type "type")],
  zhD [zhE P "__module__" 196 (.str "shortglue.errors" 187),zhE P "__qualname__" 198 (.str "GlueError" 197),zhE P "__firstlineno__" 200 (.int (2) 199),zhE P "__static_attributes__" 201 (.ref 22)] 4,
  zhT [],
  zhF [],
  ⟨(.type "code"),none,(.fields #[(.str "GlueError" 191),(.str "GlueError" 192),(.str "/claim/cut.py" 193),(.int (2) 0),(.int (0) 0),(.int (0) 0),(.int (0) 0),(.int (0) 0),(.ref 18),(.bool false),(.int (181) 0),(.ref 19),.none,.none,.none,.none,(.int (194) 0),(.int (2) 0),(.str "/claim/cut.py" 195)]),#[]⟩,
  ⟨(.type "frame"),none,.plain,#[(some (.ref 20)),(some (.ref 3)),(some (.ref 17)),none,(some (.str "shortglue.errors" 187)),none,(some (.ref 0))]⟩,
  zhT [],
  zhD [zhE P "__module__" 196 (.str "shortglue.errors" 187),zhE P "__firstlineno__" 200 (.int (2) 199),zhE P "__static_attributes__" 201 (.ref 22),zhE P "__weakref__" 203 (.ref 25),zhE P "__doc__" 204 .none] 3,
  ⟨(.type "type"),none,(.cls { name:="GlueError",bases:=[(.type "ValueError")],mro:=[(.ref 24),(.type "ValueError"),(.type "Exception"),(.type "BaseException"),(.type "object")],ns:=23,qualname:="GlueError",hasDict:=true,slotNames:=[],subclasses:=[(.ref 44),(.ref 63),(.ref 82),(.ref 94),(.ref 113),(.ref 125),(.ref 137),(.ref 156),(.ref 168),(.ref 187)],abstract:=false,collection:=none,hasDel:=false }),#[(some (.ref 15)),none,(some (.str "GlueError" 189)),(some (.str "GlueError" 197)),(some (.builtin "ValueError.__new__")),(some (.bool true))]⟩,
  ⟨(.type "getset_descriptor"),none,(.fields #[(.str "__weakref__" 202),(.ref 24),(.builtin "ExceptionGroup.__weakref__"),.none]),#[]⟩,
  zhG "super" [(.ref 24),(.ref 24),(.ref 24)],
  zhG "builtin_function_or_method" [(.builtin "object.__init_subclass__"),(.ref 24)]]++zhY P PySem.Challenge.pw_shortglue_k60_cover "TooMany" "TooMany.__init__" "most" 2 28 207 4++zhY P PySem.Challenge.pw_shortglue_k60_cover "NoPiece" "NoPiece.__init__" "at" 3 47 232 8++zhY P PySem.Challenge.pw_shortglue_k60_cover "NoLap" "NoLap.__init__" "k" 4 66 257 12++zhX P "NoOrder" 85 282 16++zhY P PySem.Challenge.pw_shortglue_k60_cover "NotHeld" "NotHeld.__init__" "at" 6 97 298 18++zhX P "NoTable" 116 323 22++zhX P "NoRing" 128 339 24++zhY P PySem.Challenge.pw_shortglue_k60_cover "TooGreat" "TooGreat.__init__" "most" 9 140 355 26++zhX P "NoWords" 159 380 30++zhY P PySem.Challenge.pw_shortglue_k60_cover "NotApart" "NotApart.__init__" "at" 11 171 396 32) 0 .nil
def zzV:Env:={ scope:=(PySem.Challenge.pw_shortglue_k60_cover).main.scope,locals:=mainNs,globals:=mainNs,cells:=[],code:=(.ref 13),frame:=some 14 }
abbrev zzC:Code:=.body ((behindTheImports PySem.Challenge.pw_shortglue_k60_cover).take 12++(behindTheImports PySem.Challenge.pw_shortglue_k60_cover).drop 12) zzV
abbrev AZ(w:World)(os:OsState):SharedT:=⟨zzA w.params,15,(boot_heap w.params).life,Array.mk [],boot_drawn,187,os⟩
abbrev DW(w:World)(os:OsState):SharedT:=⟨zz1 w.params,190,(boot_heap w.params).life,Array.mk [],boot_drawn,421,os⟩
theorem A0:∀(w:World) (os:OsState),topGo treeTable PySem.Challenge.pw_shortglue_k60_cover w 11 (some (.ref 6)) 12 ⟨boot_heap w.params,Array.mk [],boot_drawn,boot_toks,os⟩ (topStub PySem.Challenge.pw_shortglue_k60_cover)=some ((AZ w os).abs,⟨denote treeTable zzC,zzC,⟨0,0,0,0⟩,[topFrame ⟨0,0,0,0⟩]⟩):=by intro w os;kernel_rfl
theorem A1:∀(w:World) (os:OsState),segRun treeTable PySem.Challenge.pw_shortglue_k60_cover w 11 (some (.ref 6)) 1 1 (AZ w os).abs (blockOf ((behindTheImports PySem.Challenge.pw_shortglue_k60_cover).take 12++(behindTheImports PySem.Challenge.pw_shortglue_k60_cover).drop 12) zzV zzC ⟨0,0,0,0⟩ [topFrame ⟨0,0,0,0⟩])=some (.next,(AZ w os).abs,zzC,⟨0,0,0,0⟩):=by intro w os;kernel_rfl
theorem A2:∀(w:World) (os:OsState),segRunT treeTable PySem.Challenge.pw_shortglue_k60_cover w 11 (some (.ref 6)) 1 2518 (AZ w os) (piecesOf ((behindTheImports PySem.Challenge.pw_shortglue_k60_cover).take 12) zzV zzC ⟨0,0,0,0⟩ [topFrame ⟨0,0,0,0⟩])=some (.next,DW w os,zzC,⟨32,0,35,20⟩):=by intro w os;kernel_rfl
end
section
open PySem PySem.W PyProof.Rows
def y0:Program:=PySem.W.view PySem.Challenge.pw_shortglue_k60_cover [1,2,3,4,5,6,7,8,9,10,11,12,13,14,15,16,18,19,20,22,23,24,26,28,30,31,32,34,35,36,37,38,39,41,42,43,44,45,46,47,48,49,50,51,52,53,54,55,56,57,58,59,60,61,62,63,64]
local macro_rules | `(tactic| o_head $H)=>`(tactic| (refine holds_open (q:=y0) (loose:=[PySem.Str.ofString "is_text"]) (Xt:=fun s=>xlAt y0 [] s && recOk (RowW.records (OpenRow.toRowW (OpenLaw.row PySem.Challenge.rw_shortglue_k60_cover))) s) (XP:=XL y0 []) (Yf:=Hook.obs $H) (Ya:=Hook.val $H) (YP:=Hook.says $H) (N:=4989) ?hl (Hook.of $H) (Hook.keeps $H) (fun s e=>xl_of s (and_eq_true_iff.mp e).1) XL.keeps (by rfl) (by rfl) (by rfl) (fun s e=>recFacts_of (and_eq_true_iff.mp e).2) (by rfl) (by first | assumption | decide +kernel) (by decide +kernel) ⟨rfl,rfl,rfl,rfl,rfl,by decide +kernel⟩ ?hw ?hc;(case hl=>(refine L2.yZ (m₀:=11) (ann:=some (.ref 6)) (SA:=AZ) (S1:=DW) (n2:=2458) (by kernel_rfl) (by rfl) (fun s=>by kernel_rfl) (fun w=>by kernel_rfl) A0 A1 A2 (by rfl) ?_;intro w os;kernel_rfl))))
set_option maxRecDepth 100000 in
set_option maxHeartbeats 0 in
open_top topHd for PySem.Challenge.rw_shortglue_k60_cover
end
-- CHANGE: your row's module here,as the last of these rows
namespace L2
open PySem PySem.Spec PyProof.Rows
abbrev Key:=Sum Int Str
def A3:Key->Value->Bool
 | .inl k,v=>Value.isInt k v
 | .inr x,v=>Value.isStrOf x v
def Ez(w:World):Key->Int
 | .inl k=>hashInt k
 | .inr x=>hashStr w x
theorem cI:∀{k:Key}{v:Value},A3 k v=true->(∃i t,k=Sum.inl i/\v=Value.int i t)\/(∃x t,k=Sum.inr x/\v=Value.str x t)
 | .inl i,v,h=>by
  obtain⟨t,e⟩:=Value.isInt_shape (k:=i) (v:=v) h;exact .inl ⟨i,t,rfl,e⟩
 | .inr x,v,h=>by
  obtain⟨t,e⟩:=Value.isStrOf_shape (x:=x) (v:=v) h;exact .inr ⟨x,t,rfl,e⟩
theorem A4(a b:Int):decide ((Sum.inl a:Key)=Sum.inl b)=(a == b):=by
 by_cases e:a=b
 .subst e;simp
 .have h:¬ (Sum.inl a:Key)=Sum.inl b:=fun q=>e (Sum.inl.inj q);rw [decide_eq_false h];exact (beq_eq_false_iff_ne.mpr e).symm
theorem A5(a b:Str):decide ((Sum.inr a:Key)=Sum.inr b)=decide (a=b):=by
 by_cases e:a=b
 .subst e;simp
 .have h:¬ (Sum.inr a:Key)=Sum.inr b:=fun q=>e (Sum.inr.inj q);rw [decide_eq_false h,decide_eq_false e]
theorem A6(a:Int)(b:Str):decide ((Sum.inl a:Key)=Sum.inr b)=false:=decide_eq_false (fun q=>nomatch q)
theorem A7(a:Str)(b:Int):decide ((Sum.inr a:Key)=Sum.inl b)=false:=decide_eq_false (fun q=>nomatch q)
def rk(prog:Program)(w:World):PySem.KeyKind prog w Key where
 is:=A3
 hash:=Ez w
 inj:=fun v a b ha hb=>by
  rcases cI ha with ⟨i,t,rfl,rfl⟩|⟨x,t,rfl,rfl⟩
  .rcases cI hb with ⟨j,u,rfl,e⟩|⟨y,u,rfl,e⟩
   .injection e with e1 _;rw [e1]
   .exact nomatch e
  .rcases cI hb with ⟨j,u,rfl,e⟩|⟨y,u,rfl,e⟩
   .exact nomatch e
   .injection e with e1 _;rw [e1]
 byValue:=fun k v h=>by
  rcases cI h with ⟨i,t,rfl,rfl⟩|⟨x,t,rfl,rfl⟩ <;> rfl
 pyHash:=fun hv h=>by
  rcases cI hv with ⟨i,t,rfl,rfl⟩|⟨x,t,rfl,rfl⟩
  .exact wpAny_pyHash_int h
  .exact wpAny_pyHash_str h
 eqBool:=fun hu hv h=>by
  rcases cI hu with ⟨i,t,rfl,rfl⟩|⟨x,t,rfl,rfl⟩
  .rcases cI hv with ⟨j,u,rfl,rfl⟩|⟨y,u,rfl,rfl⟩
   .rw [A4] at h;exact wpAny_eqBool_int h
   .rw [A6] at h;exact SeqAt.EqAt.int_str i t y u _ _ _ _ h
  .rcases cI hv with ⟨j,u,rfl,rfl⟩|⟨y,u,rfl,rfl⟩
   .rw [A7] at h;exact SeqAt.EqAt.str_int x t j u _ _ _ _ h
   .rw [A5] at h;exact wpAny_eqBool_str h
 «strs»:=fun k x t v h=>by
  rcases cI h with ⟨i,u,rfl,e⟩|⟨y,u,rfl,e⟩
  .exact nomatch e
  .injection e with e1 _;subst e1;cases v <;> rfl
inductive V where
 | non|bl (b:Bool)|int (i:Int)|str (x:Str)|byt (b:Array UInt8)|flt (b:UInt64)|ref (a:Addr)|ty (n:String)
 deriving DecidableEq
def eo:V->Value->Prop
 | .non,u=>u=Value.none
 | .bl b,u=>u=Value.bool b
 | .int i,u=>∃t,u=Value.int i t
 | .str x,u=>∃t,u=Value.str x t
 | .byt b,u=>∃t,u=Value.bytes b t
 | .flt b,u=>∃t,u=Value.float b t
 | .ref a,u=>u=Value.ref a
 | .ty n,u=>u=Value.type n
abbrev cB:List V->List Value->Prop:=Paired eo
theorem cB.length{xs:List V}{us:List Value}(r:cB xs us):xs.length=us.length:=Paired.length r
theorem cB.get:∀{xs:List V}{us:List Value}{i:Nat}{x:V},cB xs us->xs[i]?=some x->∃u,us[i]?=some u/\eo x u
 | _,_,_,_,.nil,e=>by simp at e
 | _,_,0,_,.cons r _,e=>by simp at e;subst e;exact⟨_,rfl,r⟩
 | _,_,i+1,x,.cons _ t,e=>by
  obtain⟨u,h1,h2⟩:=cB.get (i:=i) (x:=x) t (by simpa using e);exact⟨u,by simpa using h1,h2⟩
theorem cB.set{x:V}{u:Value}(r:eo x u):∀{xs:List V}{us:List Value} (i:Nat),cB xs us->cB (xs.set i x) (us.set i u)
 | _,_,_,.nil=>.nil
 | _,_,0,.cons _ t=>.cons r t
 | _,_,i+1,.cons q t=>.cons q (cB.set r i t)
theorem cB.append:∀{xs ys:List V}{us ws:List Value},cB xs us->cB ys ws->cB (xs++ys) (us++ws)
 | _,_,_,_,.nil,s=>s
 | _,_,_,_,.cons r t,s=>.cons r (cB.append t s)
theorem cB.take:∀{xs:List V}{us:List Value} (n:Nat),cB xs us->cB (xs.take n) (us.take n)
 | _,_,0,_=>.nil
 | _,_,_+1,.nil=>.nil
 | _,_,n+1,.cons r t=>.cons r (cB.take n t)
theorem cB.drop:∀{xs:List V}{us:List Value} (n:Nat),cB xs us->cB (xs.drop n) (us.drop n)
 | _,_,0,r=>r
 | _,_,_+1,.nil=>.nil
 | _,_,n+1,.cons _ t=>cB.drop n t
def yj:Option V->Option Value->Prop
 | some v,some u=>eo v u
 | none,none=>True
 | _,_=>False
def KV{κ:Type}:List (κ×V)->List (κ×Value)->Prop:=Paired fun (p:κ×V) (q:κ×Value)=>p.1=q.1/\eo p.2 q.2
def kV:Key->V
 | .inl i=>.int i
 | .inr x=>.str x
inductive HO where
 | lst (xs:List V)
 | tup (xs:List V)
 | dK (kvs:List (Key×V))|dT (kvs:List (List Key×V))
 | set (S:Int->Bool) (n:Nat)
 | ins (C dx:Addr) (fs:List (Str×V))
 | own (x:Addr)
 | xd (fs:List (Str×V))
 | met (f x:Addr)
 | rng (lo hi:Int)
 | frz (o:Obj) (u:HO)
 | tbl (ps:Array Value)
 | ext (φ:Heap->Prop)
abbrev Hp:=Addr->Option HO
def upd(H:Hp)(a:Addr)(o:HO):Hp:=fun b=>if b=a then some o else H b
theorem aQ{H:Hp}{a:Addr}{o:HO}:upd H a o a=some o:=by unfold upd;rw [if_pos rfl]
theorem aA{H:Hp}{a b:Addr}{o:HO}(h:b≠a):upd H a o b=H b:=by unfold upd;rw [if_neg h]
theorem bn{H:Hp}{a b:Addr}{o:HO}(h:H a=some o)(h':H b=none):a≠b:=by
 intro e;subst e;rw [h] at h';cases h'
section
variable (P:Program) (w:World)
def ck(H:Hp)(h:Heap)(a:Addr):HO->Prop
 | .lst xs=>xs.length<=sizeLine/\∃(its:List Value) (n:Nat),cB xs its/\h.get? a=some { cls:=.type "list",data:=.seq its.toArray n }
 | .tup xs=>xs.length<=sizeLine/\∃its:List Value,cB xs its/\IsTup h a its.toArray
 | .dK kvs=>kvs.length<=sizeLine/\(a == sysModules)=false/\∃vs,KV kvs vs/\h.DictOf (rk P w) a vs
 | .dT kvs=>kvs.length<=sizeLine/\(a == sysModules)=false/\∃xs:List (List Key×Addr×Value),
   Paired (fun (p:List Key×V) (q:List Key×Addr×Value)=>p.1=q.1/\H q.2.1=some (.tup (p.1.map kV))/\eo p.2 q.2.2) kvs xs /\
   ∃o es ep,h.get? a=some o/\o.ExactDict/\o.data=.dict es ep/\es.toList=xs.map (entryOfKey (tupleKind (rk P w)))/\(xs.map (·.1)).Nodup
 | .set S n=>h.SetOf (intKind P w) a S n
 | .ins C dx fs=>H dx=some (.own a)/\fs.length<=1000/\dx≠a/\h.get? a=some (PySem.W.instObj C dx) /\
   ∃mA,h.Ns1 dx mA/\(∀f,yj (fs.lookup f) (mA f))/\PySem.Within mA (fs.map (·.1))
 | .own _=>∃o,h.get? a=some o
 | .xd fs=>∃mA,h.Ns1 a mA/\∀f,yj (fs.lookup f) (mA f)
 | .rng lo hi=>∃t u v,h.get? a=some { cls:=.type "range",data:=.fields #[.int lo t,.int hi u,.int 1 v] }
 | .frz o u=>h.get? a=some o/\ck H h a u
 | .tbl ps=>h.get? a=some { cls:=.none,data:=.fields ps }
 | .met f x=>h.get? a=some (PySem.W.methodObj (.ref f) (.ref x))
 | .ext φ=>φ h/\(∃o,h.get? a=some o)/\∀h1 h2:Heap,φ h1->(∀o,h1.get? a=some o->h2.get? a=some o)->φ h2
def HOk(H:Hp)(h:Heap):Prop:=∀a o,H a=some o->ck P w H h a o
end
section
variable {P:Program}{w:World}{H H':Hp}{h h':Heap}{a:Addr}{o:HO}
theorem ck.lt(x:ck P w H h a o):a<h.objs.size:=by
 cases o with
 | lst xs=>obtain⟨_,_,_,_,e⟩:=x;exact Heap.lt_size e
 | tup xs=>obtain⟨_,_,_,p⟩:=x;exact p.lt
 | dK kvs=>obtain⟨_,_,_,_,o,_,_,e,_⟩:=x;exact Heap.lt_size e
 | dT kvs=>obtain⟨_,_,_,_,o,_,_,e,_⟩:=x;exact Heap.lt_size e
 | set S n=>obtain⟨o,_,_,_,e,_⟩:=x;exact Heap.lt_size e
 | ins C dx fs=>obtain⟨_,_,_,e,_⟩:=x;exact Heap.lt_size e
 | own y=>obtain⟨_,e⟩:=x;exact Heap.lt_size e
 | xd fs=>obtain⟨_,⟨_,_,_,e,_⟩,_⟩:=x;exact Heap.lt_size e
 | rng lo hi=>obtain⟨_,_,_,e⟩:=x;exact Heap.lt_size e
 | frz ob u=>obtain⟨e,_⟩:=x;exact Heap.lt_size e
 | tbl ps=>exact Heap.lt_size (show h.get? a=some _ from x)
 | met f y=>exact Heap.lt_size (show h.get? a=some _ from x)
 | ext φ=>obtain⟨_,⟨_,e⟩,_⟩:=x;exact Heap.lt_size e
theorem Paired.mapP{α β:Type}{F G:α->β->Prop}:∀{l₁:List α}{l₂:List β},Paired F l₁ l₂->(∀a b,F a b->G a b)->Paired G l₁ l₂
 | _,_,.nil,_=>.nil
 | _,_,.cons r t,f=>.cons (f _ _ r) (Paired.mapP t f)
theorem ck.stay(x:ck P w H h a o)(k:∀b u,(b=a\/H b=some (.own a))->h.get? b=some u->h'.get? b=some u)
  (ho:∀b,H b=some (.own a)->H' b=some (.own a)) (ht:∀b xs,H b=some (.tup xs)->H' b=some (.tup xs)):ck P w H' h' a o:=by
 induction o with
 | lst xs=>obtain⟨z,its,n,r,e⟩:=x;exact⟨z,its,n,r,k _ _ (.inl rfl) e⟩
 | tup xs=>obtain⟨z,its,r,ob,e,c⟩:=x;exact⟨z,its,r,ob,k _ _ (.inl rfl) e,c⟩
 | dK kvs=>obtain⟨z,y,vs,r,ob,es,ep,e,c⟩:=x;exact⟨z,y,vs,r,ob,es,ep,k _ _ (.inl rfl) e,c⟩
 | dT kvs =>
  obtain⟨z,y,xs,r,ob,es,ep,e,c⟩:=x;exact⟨z,y,xs,Paired.mapP r fun p q z=>⟨z.1,ht _ _ z.2.1,z.2.2⟩,ob,es,ep,k _ _ (.inl rfl) e,c⟩
 | set S n=>obtain⟨ob,es,ep,t,e,c⟩:=x;exact⟨ob,es,ep,t,k _ _ (.inl rfl) e,c⟩
 | ins C dx fs =>
  obtain⟨d,z,ne,e,mA,⟨od,es,ep,e2,c⟩,r⟩:=x;exact⟨ho _ d,z,ne,k _ _ (.inl rfl) e,mA,⟨od,es,ep,k _ _ (.inr d) e2,c⟩,r⟩
 | own y=>obtain⟨ob,e⟩:=x;exact⟨ob,k _ _ (.inl rfl) e⟩
 | xd fs=>obtain⟨mA,⟨od,es,ep,e,c⟩,r⟩:=x;exact⟨mA,⟨od,es,ep,k _ _ (.inl rfl) e,c⟩,r⟩
 | rng lo hi=>obtain⟨t,u,v,e⟩:=x;exact⟨t,u,v,k _ _ (.inl rfl) e⟩
 | frz ob u ih=>obtain⟨e,q⟩:=x;exact⟨k _ _ (.inl rfl) e,ih q⟩
 | tbl ps =>
  have e:h.get? a=some { cls:=.none,data:=.fields ps }:=x;show h'.get? a=some { cls:=.none,data:=.fields ps };exact k a _ (.inl rfl) e
 | met f y =>
  have e:h.get? a=some (PySem.W.methodObj (.ref f) (.ref y)):=x;show h'.get? a=some (PySem.W.methodObj (.ref f) (.ref y));exact k a _ (.inl rfl) e
 | ext φ=>obtain⟨p,⟨o,e⟩,st⟩:=x;exact⟨st _ _ p fun o q=>k _ _ (.inl rfl) q,⟨o,k _ _ (.inl rfl) e⟩,st⟩
theorem HOk.lt(x:HOk P w H h)(e:H a=some o):a<h.objs.size:=(x a o e).lt
theorem HOk.fresh(x:HOk P w H h)(e:h.objs.size<=a):H a=none:=by
 cases q:H a with
 | none=>rfl
 | some u=>exact absurd (Nat.lt_of_lt_of_le (x.lt q) e) (Nat.lt_irrefl _)
theorem HOk.kept(x:HOk P w H h)(k:∀b u,h.get? b=some u->h'.get? b=some u):HOk P w H h':=fun a o e =>
 (x a o e).stay (fun b u _ q=>k b u q) (fun _ q=>q) fun _ _ q=>q
theorem HOk.laid(x:HOk P w H h)(k:∀b u,h.get? b=some u->h'.get? b=some u)(hp:h.objs.size<=a)(new:ck P w (upd H a o) h' a o):HOk P w (upd H a o) h':=fun b u e=>by
 have hn:=x.fresh hp
 by_cases hb:b=a
 .subst hb;rw [aQ] at e;cases e;exact new
 .rw [aA hb] at e;exact (x b u e).stay (fun c v _ q=>k c v q) (fun c q=>by rw [aA (bn q hn)];exact q) fun c xs q=>by rw [aA (bn q hn)];exact q
end
def Rd(H:Hp)(a:Addr)(u:HO):Prop:=H a=some u\/∃o,H a=some (.frz o u)
theorem Rd.ok{P:Program}{w:World}{H:Hp}{h:Heap}{a:Addr}{u:HO}(r:Rd H a u)(x:HOk P w H h):ck P w H h a u:=by
 rcases r with r|⟨o,r⟩
 .exact x a u r
 .obtain⟨_,q⟩:=x a _ r;exact q
def Mut:Option HO->Prop
 | some (.lst _)=>True
 | some (.dK _)=>True
 | some (.dT _)=>True
 | some (.set _ _)=>True
 | some (.ins _ _ _)=>True
 | some (.ext _)=>True
 | _=>False
section
variable {P:Program}{w:World}{H:Hp}{h h':Heap}{x e:Addr}{o':HO}
theorem HOk.write(ok:HOk P w H h)(mu:Mut (H x))(he:e=x\/H e=some (.own x))(k:∀b u,b≠e->h.get? b=some u->h'.get? b=some u)(heo:∃u,h'.get? e=some u)
  (new:ck P w (upd H x o') h' x o'):HOk P w (upd H x o') h':=fun b u q=>by
 have nown:∀c y,H c=some (.own y)->c≠x:=fun c y r z=>by subst z;rw [r] at mu;exact mu
 have ntup:∀c xs,H c=some (.tup xs)->c≠x:=fun c xs r z=>by subst z;rw [r] at mu;exact mu
 by_cases hb:b=x
 .subst hb;rw [aQ] at q;cases q;exact new
 .rw [aA hb] at q
  by_cases hbe:b=e
  .have q':H b=some (.own x):=by
    rcases he with z|z
    .exact absurd (hbe.trans z) hb
    .rw [hbe];exact z
   rw [q] at q';cases q';obtain⟨v,hv⟩:=heo;exact⟨v,by rw [hbe];exact hv⟩
  .refine (ok b u q).stay (fun c v hc r=>k c v ?_ r) (fun c r=>by rw [aA (nown c b r)];exact r) fun c xs r=>by rw [aA (ntup c xs r)];exact r
   rcases hc with rfl|hc
   .exact hbe
   .rintro rfl
    rcases he with z|z
    .exact nown c b hc z
    .rw [hc] at z;cases z;exact hb rfl
end
structure Un (fs ex:List Addr) (H H':Hp) (h h':Heap):Prop where
 keep:∀b o,h.get? b=some o->H b=none->b∉fs->b∉ex->h'.get? b=some o
 slot:∀b o,h.get? b=some o->H b=none->b∈fs->b∉ex->∃sl,h'.get? b=some { o with slots:=sl }
 free:∀b o,h.get? b=some o->H b=none->b∉ex->H' b=none
 there:∀b o,h.get? b=some o->b∉ex->∃o',h'.get? b=some o'
 tups:∀b xs,H b=some (.tup xs)->H' b=some (.tup xs)
 frzs:∀b o u,H b=some (.frz o u)->H' b=some (.frz o u)
 tbls:∀b ps,H b=some (.tbl ps)->∃more,H' b=some (.tbl (ps++more))
section
variable {fs fs' ex ex':List Addr}{H H1 H2:Hp}{h h1 h2 h':Heap}{a x e:Addr}{o:HO}
theorem Un.any(u:Un fs ex H H1 h h1){b:Addr}{ob:Obj}(q:h.get? b=some ob)(n:H b=none)(hx:b∉ex):∃sl,h1.get? b=some { ob with slots:=sl }:=by
 by_cases hb:b∈fs
 .exact u.slot b ob q n hb hx
 .exact⟨ob.slots,u.keep b ob q n hb hx⟩
theorem Un.kept(k:∀b u,h.get? b=some u->h'.get? b=some u):Un fs ex H H h h' :=
 ⟨fun b ob q _ _ _=>k b ob q,fun b ob q _ _ _=>⟨ob.slots,k b ob q⟩,fun _ _ _ n _=>n,fun b ob q _=>⟨ob,k b ob q⟩,fun _ _ q=>q,fun _ _ _ q=>q,fun _ ps q=>⟨#[],by rw [q];simp⟩⟩
theorem Un.refl:Un fs ex H H h h:=Un.kept fun _ _ q=>q
theorem Un.laid(k:∀b u,h.get? b=some u->h'.get? b=some u)(hp:h.objs.size<=a)(hn:H a=none):Un fs ex H (upd H a o) h h' where
 keep:=fun b u q _ _ _=>k b u q
 slot:=fun b u q _ _ _=>⟨u.slots,k b u q⟩
 free:=fun b u q n _=>by rw [aA (ne_of_lt (Nat.lt_of_lt_of_le (Heap.lt_size q) hp))];exact n
 there:=fun b u q _=>⟨u,k b u q⟩
 tups:=fun b xs q=>by rw [aA (bn q hn)];exact q
 frzs:=fun b u xs q=>by rw [aA (bn q hn)];exact q
 tbls:=fun b ps q=>⟨#[],by rw [aA (bn q hn),q];simp⟩
theorem Un.write(mu:Mut (H x))(he:e=x\/H e=some (.own x))(k:∀b u,b≠e->h.get? b=some u->h'.get? b=some u)(heo:∃u,h'.get? e=some u):Un fs ex H (upd H x o) h h':=by
 have hx:∀b,H b=none->b≠x:=fun b n z=>by subst z;rw [n] at mu;exact mu
 have hb:∀b,H b=none->b≠e:=fun b n z=>by
  subst z
  rcases he with r|r
  .exact hx b n r
  .rw [n] at r;cases r
 have hm:∀b u,H b=some u->¬ Mut (some u)->b≠x:=fun b u q nm z=>by subst z;rw [q] at mu;exact nm mu
 refine⟨fun b u q n _ _=>k b u (hb b n) q,fun b u q n _ _=>⟨u.slots,k b u (hb b n) q⟩,fun b u q n _=>by rw [aA (hx b n)];exact n,fun b u q _=>?_,
  fun b xs q=>by rw [aA (hm b _ q fun z=>z)];exact q,fun b u xs q=>by rw [aA (hm b _ q fun z=>z)];exact q,fun b ps q=>⟨#[],by rw [aA (hm b _ q fun z=>z),q];simp⟩⟩
 by_cases hbe:b=e
 .subst hbe;exact heo
 .exact⟨u,k b u hbe q⟩
end
def trk(h:Heap)(H:Hp):List Addr:=(List.range h.objs.size).filter fun a=>(H a).isSome
def wQ(h:Heap)(H:Hp):Heap:=PySem.W.hideAll h (trk h H)
theorem uJ(h:Heap)(H:Hp):(wQ h H).objs.size=h.objs.size:=PySem.W.hideAll_size _ _
theorem wR{h:Heap}{H:Hp}{b:Addr}{o:Obj}(e:h.get? b=some o)(n:H b=none):(wQ h H).get? b=some o :=
 PySem.W.hideAll_get _ e fun hm=>by
  have q:(H b).isSome=true:=(mem_filter.mp hm).2;rw [n] at q;simp at q
theorem za{h:Heap}{H:Hp}{b:Addr}{o:Obj}(e:(wQ h H).get? b=some o):h.get? b=some o/\H b=none:=by
 have e':h.get? b=some o:=PySem.W.of_hideAll (trk h H) e;refine⟨e',?_⟩
 cases q:H b with
 | none=>rfl
 | some x =>
  have hm:b∈trk h H:=mem_filter.mpr ⟨mem_range.mpr (Heap.lt_size e'),by simp [q]⟩;have z:(wQ h H).get? b=none:=PySem.W.hideAll_none (trk h H) hm;rw [z] at e;cases e
structure Mod (K:PySem.W.Frag) (mg:Str->Option Value) (base:Heap):Prop where
 kin:K.In base
 glob:base.Ns mainGlobals mg
 blt:∃mb,base.Ns builtinsNs mb/\∀x:Str,x≠"__name__"->mb x=bootBuiltins x
 nolimit:base.NoLimit
structure Cx where
 prog:Program
 w:World
 K:PySem.W.Frag
 mg:Str->Option Value
 base:Heap
 A:Around
 N:List Str
 s₀:Shared
 H₀:Hp
 env:Env
 outer:List Env
 stack:List Env
 ex:List Addr
 fn:Str->Bool
 calm:Bool
 pn:List (Addr×Obj)
 xe:Value->Shared->Prop
def frs(l:List Env):List Addr:=l.filterMap (·.frame)
abbrev Cx.fs(X:Cx):List Addr:=frs X.outer
def Vis(sc:Scope)(x:Str):Prop:=sc.names.lookup x=some .local\/sc.names.lookup x=some .cell\/sc.names.lookup x=some .free
def Loc(sc:Scope)(x:Str):Prop:=sc.names.lookup x=some .local\/sc.names.lookup x=some .cell
def EA(env:Env)(h:Heap)(m:Str->Option Value)(x:Str)(u:Value):Prop :=
 (env.kindOf x=some .local/\m x=some u)\/((env.kindOf x=some .cell\/env.kindOf x=some .free)/\∃c,env.cells.lookup x=some c/\h.IsCell c (some u))
structure Cx.Ok (X:Cx):Prop where
 mod:Mod X.K X.mg X.base
 kind:X.env.scope.kind=.function
 glob:X.env.globals=mainGlobals
 blt:X.env.builtins=builtinsNs
 above:X.s₀.heap.objs.size<=X.env.locals
 inj:∀x y c,X.env.cells.lookup x=some c->X.env.cells.lookup y=some c->x=y
 has:∀x,(X.env.kindOf x=some .cell\/X.env.kindOf x=some .free)->∃c,X.env.cells.lookup x=some c
 cab:∀x c,X.fn x=true->X.env.cells.lookup x=some c->X.s₀.heap.objs.size<=c
 hd:X.calm=true->X.A.handled=none
 frames:X.A.frames=some X.stack
 stk:X.stack=X.outer\/(X.stack=X.env::X.outer/\X.env.frame=some X.env.locals)
 exf:∀b∈X.ex,b≠X.env.locals/\∀x c,X.env.cells.lookup x=some c->c≠b
 bs:∀b o,X.base.get? b=some o->X.s₀.heap.get? b=some o/\X.H₀ b=none
 bsz:X.base.objs.size<=X.s₀.heap.objs.size
 noex:∀b o,X.base.get? b=some o->b∉X.ex
 exfs:∀b∈X.ex,b∉X.fs
 funs:X.s₀.heap.FunFrames X.base X.outer
 frf:∀b∈X.fs,X.H₀ b=none
structure Inv (X:Cx) (pins:List (Addr×Obj)) (σ:List (Option V)) (H:Hp) (s:Shared):Prop where
 ok:X.Ok
 os:s.os=X.s₀.os
 bare:AllBare s.gens
 base:Un X.fs X.ex X.H₀ H X.s₀.heap s.heap
 loc:∃m,s.heap.Ns X.env.locals m/\∀(i:Nat) (x:Str) (v:V),X.N[i]?=some x->σ[i]?=some (some v)->Vis X.env.scope x->∃u,eo v u/\EA X.env s.heap m x u
 cell:∀x c,X.env.cells.lookup x=some c->∃v,s.heap.IsCell c v
 free:H X.env.locals=none
 freeC:∀x c,X.env.cells.lookup x=some c->H c=none
 pin:∀p∈X.pn++pins,s.heap.get? p.1=some p.2/\H p.1=none/\p.1≠X.env.locals/\p.1∉X.fs/\∀v,p.2.data≠.cell v
 hok:HOk X.prog X.w H s.heap
 len:σ.length=X.N.length
section
variable {X:Cx}{pins:List (Addr×Obj)}{σ:List (Option V)}{H H':Hp}{s:Shared}{h':Heap}
theorem Cx.Ok.nofr(ok:X.Ok){b:Addr}{o:Obj}(e:X.base.get? b=some o):b∉X.fs:=fun hb=>by
 have:=(ok.funs.mem hb).1;rw [e] at this;cases this
theorem Inv.bs(I:Inv X pins σ H s):∀b o,X.base.get? b=some o->s.heap.get? b=some o/\H b=none:=fun b o e =>
 ⟨I.base.keep b o (I.ok.bs b o e).1 (I.ok.bs b o e).2 (I.ok.nofr e) (I.ok.noex b o e),I.base.free b o (I.ok.bs b o e).1 (I.ok.bs b o e).2 (I.ok.noex b o e)⟩
theorem Inv.bk(I:Inv X pins σ H s):∀b o,X.base.get? b=some o->s.heap.get? b=some o:=fun b o e=>(I.bs b o e).1
theorem Inv.mod(I:Inv X pins σ H s):Mod X.K X.mg X.base:=I.ok.mod
theorem Inv.kIn(I:Inv X pins σ H s):X.K.In s.heap:=I.ok.mod.kin.keeps I.bk
theorem Inv.lt(I:Inv X pins σ H s):X.env.locals<s.heap.objs.size:=let ⟨_,hn,_⟩:=I.loc;hn.lt
theorem Inv.sz(I:Inv X pins σ H s):X.s₀.heap.objs.size<=s.heap.objs.size:=le_trans I.ok.above (Nat.le_of_lt I.lt)
theorem Inv.nofs(I:Inv X pins σ H s){a:Addr}(h:s.heap.objs.size<=a):a∉X.fs:=fun hb=>by
 obtain⟨_,o,ho,_⟩:=I.ok.funs.mem hb;exact absurd (Nat.lt_of_lt_of_le (Heap.lt_size ho) (le_trans I.sz h)) (Nat.lt_irrefl _)
theorem Inv.cne(I:Inv X pins σ H s):∀x c,X.env.cells.lookup x=some c->c≠X.env.locals:=fun x c e z=>by
 obtain⟨v,o,ho,hd⟩:=I.cell x c e;obtain⟨m,⟨o',es,ep,ho',hd',_⟩,_⟩:=I.loc;rw [z,ho'] at ho;cases ho;rw [hd'] at hd;cases hd
theorem Inv.funs(I:Inv X pins σ H s):s.heap.FunFrames X.base X.outer:=by
 have all:∀(l:List Env),(∀b∈frs l,b∈X.fs)->X.s₀.heap.FunFrames X.base l->s.heap.FunFrames X.base l:=by
  intro l
  induction l with
  | nil=>intro _ _;trivial
  | cons env r ih =>
   intro hs hl;obtain⟨hk,⟨L,o,hf,hn,ho,hd⟩,hr⟩:=hl;have hL:L∈X.fs:=hs L (by unfold frs;rw [filterMap_cons,hf];exact mem_cons_self);obtain⟨sl,e⟩:=I.base.slot L o ho (I.ok.frf L hL) hL fun z=>I.ok.exfs L z hL;exact⟨hk,⟨L,_,hf,hn,e,hd⟩,ih (fun b hb=>hs b (by unfold frs;rw [filterMap_cons,hf];exact mem_cons_of_mem _ hb)) hr⟩
 exact all X.outer (fun _ hb=>hb) I.ok.funs
theorem Inv.stack(I:Inv X pins σ H s):s.heap.FunFrames X.base X.stack:=by
 rcases I.ok.stk with e|⟨e,hf⟩
 .rw [e];exact I.funs
 .rw [e];obtain⟨m,hn,_⟩:=I.loc;refine .cons (by rw [I.ok.kind];decide) hf hn ?_ I.funs;exact Heap.get?_none_of_le (le_trans I.ok.bsz I.ok.above)
theorem Inv.stkSub(I:Inv X pins σ H s):∀b∈frs X.stack,b∈X.env.locals::X.fs:=fun b hb=>by
 rcases I.ok.stk with e|⟨e,hf⟩
 .rw [e] at hb;exact mem_cons_of_mem _ hb
 .rw [e] at hb;unfold frs at hb;rw [filterMap_cons,hf] at hb;exact hb
theorem Inv.stkFree(I:Inv X pins σ H s):∀b∈frs X.stack,H b=none:=fun b hb=>by
 rcases mem_cons.mp (I.stkSub b hb) with e|hb
 .rw [e];exact I.free
 .obtain⟨_,o,ho,_⟩:=I.ok.funs.mem hb;exact I.base.free b o ho (I.ok.frf b hb) fun z=>I.ok.exfs b z hb
theorem Inv.step{g':Array GenState}{t':Nat}{d':Drawn}{ch:List Addr}(I:Inv X pins σ H s)
  (hch:∀b∈ch,(b∈X.ex\/X.s₀.heap.objs.size<=b)/\b≠X.env.locals/\(∀x c,X.env.cells.lookup x=some c->c≠b)/\∀p∈X.pn++pins,p.1≠b)
  (keep:∀b o,b≠X.env.locals->b∉X.fs->b∉ch->s.heap.get? b=some o->H b=none->h'.get? b=some o)
  (slot:∀b o,b≠X.env.locals->b∈X.fs->b∉ch->s.heap.get? b=some o->H b=none->∃sl,h'.get? b=some { o with slots:=sl }) (free:∀b o,b∉ch->s.heap.get? b=some o->H b=none->H' b=none)
  (there:∀b o,b∉ch->s.heap.get? b=some o->∃o',h'.get? b=some o')
  (tups:∀b xs,H b=some (.tup xs)->H' b=some (.tup xs)) (frzs:∀b o u,H b=some (.frz o u)->H' b=some (.frz o u)) (tbls:∀b ps,H b=some (.tbl ps)->∃more,H' b=some (.tbl (ps++more)))
  (ns:∀m,s.heap.Ns X.env.locals m->h'.Ns X.env.locals m) (hok:HOk X.prog X.w H' h') (hg:AllBare g') :
  Inv X pins σ H' { s with heap:=h',gens:=g',drawn:=d',toks:=t' }:=by
 have neL:∀b o,X.s₀.heap.get? b=some o->b≠X.env.locals:=fun b o e=>ne_of_lt (Nat.lt_of_lt_of_le (Heap.lt_size e) I.ok.above)
 have neC:∀b o,X.s₀.heap.get? b=some o->b∉X.ex->b∉ch:=fun b o e hx hb=>by
  rcases (hch b hb).1 with z|z
  .exact hx z
  .exact absurd (Nat.lt_of_lt_of_le (Heap.lt_size e) z) (Nat.lt_irrefl _)
 have cellK:∀x c,X.env.cells.lookup x=some c->∀v,s.heap.IsCell c v->h'.IsCell c v:=fun x c e v ⟨o,ho,hd⟩=>by
  have nch:c∉ch:=fun z=>(hch c z).2.2.1 x c e rfl
  by_cases hc:c∈X.fs
  .obtain⟨sl,q⟩:=slot c o (I.cne x c e) hc nch ho (I.freeC x c e);exact⟨_,q,hd⟩
  .exact⟨o,keep c o (I.cne x c e) hc nch ho (I.freeC x c e),hd⟩
 refine⟨I.ok,I.os,hg,⟨fun b o e n hb hx=>?_,fun b o e n hb hx=>?_,fun b o e n hx=>?_,fun b o e hx=>?_,fun b xs e=>tups b xs (I.base.tups b xs e),fun b o xs e=>frzs b o xs (I.base.frzs b o xs e),fun b ps e=>?_⟩,?_,fun x c e=>?_,?_,fun x c e=>?_,fun p hp=>?_,hok,I.len⟩
 .exact keep b o (neL b o e) hb (neC b o e hx) (I.base.keep b o e n hb hx) (I.base.free b o e n hx)
 .obtain⟨sl,e1⟩:=I.base.slot b o e n hb hx;obtain⟨sl',e2⟩:=slot b _ (neL b o e) hb (neC b o e hx) e1 (I.base.free b o e n hx);exact⟨sl',e2⟩
 .obtain⟨o',e1⟩:=I.base.there b o e hx;exact free b o' (neC b o e hx) e1 (I.base.free b o e n hx)
 .obtain⟨o',e1⟩:=I.base.there b o e hx;exact there b o' (neC b o e hx) e1
 .obtain⟨m1,e1⟩:=I.base.tbls b ps e;obtain⟨m2,e2⟩:=tbls b _ e1;exact⟨m1++m2,by rw [e2,Array.append_assoc]⟩
 .obtain⟨m,hn,hl⟩:=I.loc;refine⟨m,ns m hn,fun i x v e1 e2 e3=>?_⟩;obtain⟨u,r,l⟩:=hl i x v e1 e2 e3;refine⟨u,r,?_⟩
  rcases l with l|⟨k,c,e,z⟩
  .exact .inl l
  .exact .inr ⟨k,c,e,cellK x c e _ z⟩
 .obtain⟨v,z⟩:=I.cell x c e;exact⟨v,cellK x c e v z⟩
 .obtain⟨m,⟨o,_,_,ho,_⟩,_⟩:=I.loc;exact free _ o (fun z=>(hch _ z).2.1 rfl) ho I.free
 .obtain⟨v,o,ho,hd⟩:=I.cell x c e;exact free c o (fun z=>(hch c z).2.2.1 x c e rfl) ho (I.freeC x c e)
 .obtain⟨e,n,ne,nf,d⟩:=I.pin p hp;have nch:p.1∉ch:=fun z=>(hch p.1 z).2.2.2 p hp rfl;exact⟨keep p.1 p.2 ne nf nch e n,free p.1 p.2 nch e n,ne,nf,d⟩
theorem Inv.un{t':Nat}(I:Inv X pins σ H s)(u:Un X.fs [] H H' s.heap h')(hok:HOk X.prog X.w H' h'):Inv X pins σ H' { s with heap:=h',toks:=t' }:=by
 obtain⟨m,⟨o,es,ep,ho,r⟩,_⟩:=id I.loc;obtain⟨sl,hL⟩:=u.any ho I.free (by simp)
 exact I.step (g':=s.gens) (d':=s.drawn) (ch:=[]) (fun _ z=>nomatch z) (fun b o _ hb _ e n=>u.keep b o e n hb (by simp)) (fun b o _ hb _ e n=>u.slot b o e n hb (by simp)) (fun b o _ e n=>u.free b o e n (by simp)) (fun b o _ e=>u.there b o e (by simp)) u.tups u.frzs u.tbls (fun m' hm=>by
  obtain⟨o',es',ep',ho',r'⟩:=hm;rw [ho] at ho';cases ho';exact⟨_,es',ep',hL,r'⟩) hok I.bare
theorem Inv.call{g':Array GenState}{t':Nat}{d':Drawn}{ch:List Addr}(I:Inv X pins σ H s)(u:Un (frs X.stack) ch H H' s.heap h')(hok:HOk X.prog X.w H' h')(hg:AllBare g')
  (hch:∀b∈ch,(b∈X.ex\/X.s₀.heap.objs.size<=b)/\b≠X.env.locals/\(∀x c,X.env.cells.lookup x=some c->c≠b)/\∀p∈X.pn++pins,p.1≠b) :
  Inv X pins σ H' { s with heap:=h',gens:=g',drawn:=d',toks:=t' }:=by
 obtain⟨m,⟨o,es,ep,ho,r⟩,_⟩:=id I.loc;obtain⟨sl,hL⟩:=u.any ho I.free fun z=>(hch _ z).2.1 rfl
 exact I.step (ch:=ch) hch (fun b o hL hb hc e n=>u.keep b o e n (fun z=>(mem_cons.mp (I.stkSub b z)).elim hL hb) hc) (fun b o _ _ hc e n=>u.any e n hc) (fun b o hc e n=>u.free b o e n hc) (fun b o hc e=>u.there b o e hc) u.tups u.frzs u.tbls (fun m' hm=>by
  obtain⟨o',es',ep',ho',r'⟩:=hm;rw [ho] at ho';cases ho';exact⟨_,es',ep',hL,r'⟩) hok hg
theorem Inv.turned{t':Nat}{it:Addr}(I:Inv X pins σ H s)(k:∀b o,b≠it->s.heap.get? b=some o->h'.get? b=some o)(hn:H it=none)(hL:it≠X.env.locals)
  (h1:it∈X.ex\/X.s₀.heap.objs.size<=it) (h2:∀x c,X.env.cells.lookup x=some c->c≠it) (h3:∀p∈X.pn++pins,p.1≠it):Inv X pins σ H { s with heap:=h',toks:=t' }:=by
 have nit:∀b u,H b=some u->b≠it:=fun b u e z=>by rw [z,hn] at e;cases e
 refine I.step (g':=s.gens) (d':=s.drawn) (ch:=[it]) (fun b hb=>?_) (fun b o _ _ hc e _=>k b o (fun z=>hc (by simp [z])) e) (fun b o _ _ hc e _=>⟨o.slots,k b o (fun z=>hc (by simp [z])) e⟩) (fun _ _ _ _ n=>n)
  (fun b o hc e=>⟨o,k b o (fun z=>hc (by simp [z])) e⟩) (fun _ _ e=>e) (fun _ _ _ e=>e) (fun b ps e=>⟨#[],by rw [e];simp⟩) (fun m hm=>?_) (fun b u e=>?_) I.bare
 .have e:b=it:=by simpa using hb
  subst e;exact⟨h1,hL,h2,h3⟩
 .obtain⟨o,es,ep,ho,r⟩:=hm;exact⟨o,es,ep,k _ o (Ne.symm hL) ho,r⟩
 .refine (I.hok b u e).stay (fun c v hc q=>k c v ?_ q) (fun _ q=>q) fun _ _ q=>q
  rcases hc with z|z
  .rw [z];exact nit b u e
  .exact nit c _ z
theorem Inv.tok(I:Inv X pins σ H s)(t:Nat):Inv X pins σ H { s with toks:=t }:=I.un (h':=s.heap) (t':=t) Un.refl I.hok
theorem Inv.kept{t':Nat}(I:Inv X pins σ H s)(k:∀b u,s.heap.get? b=some u->h'.get? b=some u):Inv X pins σ H { s with heap:=h',toks:=t' }:=I.un (Un.kept k) (I.hok.kept k)
theorem Inv.laid{a:Addr}{o:HO}{t':Nat}(I:Inv X pins σ H s)(k:∀b u,s.heap.get? b=some u->h'.get? b=some u)(hp:s.heap.objs.size<=a)(new:ck X.prog X.w (upd H a o) h' a o) :
  Inv X pins σ (upd H a o) { s with heap:=h',toks:=t' }:=I.un (Un.laid k hp (I.hok.fresh hp)) (I.hok.laid k hp new)
theorem Inv.write{x e:Addr}{o:HO}{t':Nat}(I:Inv X pins σ H s)(mu:Mut (H x))(he:e=x\/H e=some (.own x))(k:∀b u,b≠e->s.heap.get? b=some u->h'.get? b=some u)(heo:∃u,h'.get? e=some u)
  (new:ck X.prog X.w (upd H x o) h' x o):Inv X pins σ (upd H x o) { s with heap:=h',toks:=t' }:=I.un (Un.write mu he k heo) (I.hok.write mu he k heo new)
theorem Inv.pins_of{pins':List (Addr×Obj)}(I:Inv X pins σ H s)(h:∀p∈pins',s.heap.get? p.1=some p.2/\H p.1=none/\p.1≠X.env.locals/\p.1∉X.fs/\∀v,p.2.data≠.cell v):Inv X pins' σ H s :=
 ⟨I.ok,I.os,I.bare,I.base,I.loc,I.cell,I.free,I.freeC,fun p hp=>(mem_append.mp hp).elim (fun z=>I.pin p (mem_append_left _ z)) (h p),I.hok,I.len⟩
theorem om{N:List Str}(hN:N.Nodup){i j:Nat}{x:Str}(a:N[i]?=some x)(b:N[j]?=some x):i=j:=by
 obtain⟨h1,e1⟩:=List.getElem?_eq_some_iff.mp a;obtain⟨h2,e2⟩:=List.getElem?_eq_some_iff.mp b;exact (getElem_inj hN).mp (e1.trans e2.symm)
theorem uK{M:Model}{A:Around}{E:Value->Shared->Prop}{i:Nat}{x:Str}{v:V}{u:Value}{Q:Unit->Shared->Prop}(I:Inv X pins σ H s)(hN:X.N.Nodup)(hi:X.N[i]?=some x)(hx:Loc X.env.scope x)(r:eo v u)
  (h:∀s',Inv X pins (σ.set i (some v)) H s'->(∃a,Heap.SameBut a s.heap s'.heap/\(a=X.env.locals\/X.env.cells.lookup x=some a))->Q () s') (hf:X.fn x=true\/X.env.scope.names.lookup x=some .local:=by first|exact .inl rfl|exact .inr rfl|assumption):wpAny M A (storeName X.env x u) Q E s:=by
 obtain⟨m,hn,hl⟩:=id I.loc;have hcls:(X.env.scope.kind == .class || (X.env.scope.kind == .module && X.env.locals != X.env.globals))=false:=by rw [I.ok.kind];rfl
 have hiσ:i<σ.length:=by rw [I.len];exact (List.getElem?_eq_some_iff.mp hi).1
 have cne:=I.cne
 have tracked:∀{a:Addr}{h':Heap},(∃o,s.heap.get? a=some o/\H a=none)->Heap.SameBut a s.heap h'->HOk X.prog X.w H h':=fun {a h'} ha hs b ob e=>by
  obtain⟨_,_,hfree⟩:=ha;refine (I.hok b ob e).stay (fun c w' hc q=>(hs.2 c ?_).trans q) (fun _ q=>q) fun _ _ q=>q;rintro rfl
  rcases hc with rfl|hc
  .rw [hfree] at e;cases e
  .rw [hfree] at hc;cases hc
 rcases hx with hk|hk
 .refine wpAny_storeName_local hk hn (fun h' hn' hs=>?_) hcls;obtain⟨oL,_,_,hoL,_⟩:=id hn
  refine h _ ⟨I.ok,I.os,I.bare,⟨fun b o e n hb hx=>?_,fun b o e n hb hx=>?_,I.base.free,fun b o e hx=>?_,I.base.tups,I.base.frzs,I.base.tbls⟩,⟨_,hn',fun j y v' e1 e2 e3=>?_⟩,fun y c e=>?_,I.free,I.freeC,fun p hp=>?_,tracked ⟨oL,hoL,I.free⟩ hs,by simpa using I.len⟩ ⟨_,hs,.inl rfl⟩
  .exact (hs.2 b (ne_of_lt (Nat.lt_of_lt_of_le (Heap.lt_size e) I.ok.above))).trans (I.base.keep b o e n hb hx)
  .obtain⟨sl,e1⟩:=I.base.slot b o e n hb hx;exact⟨sl,(hs.2 b (ne_of_lt (Nat.lt_of_lt_of_le (Heap.lt_size e) I.ok.above))).trans e1⟩
  .obtain⟨o',e1⟩:=I.base.there b o e hx;exact⟨o',(hs.2 b (ne_of_lt (Nat.lt_of_lt_of_le (Heap.lt_size e) I.ok.above))).trans e1⟩
  .by_cases hj:j=i
   .subst hj;rw [hi] at e1;cases e1;rw [getElem?_set_self hiσ] at e2;cases e2;exact⟨u,r,.inl ⟨hk,by simp⟩⟩
   .rw [getElem?_set_ne (Ne.symm hj)] at e2;obtain⟨u',r',q⟩:=hl j y v' e1 e2 e3;refine⟨u',r',?_⟩
    rcases q with ⟨k,e⟩|⟨k,c,e,z⟩
    .refine .inl ⟨k,?_⟩;have:y≠x:=fun e=>hj (om hN e1 (e ▸ hi));simp [this,e]
    .exact .inr ⟨k,c,e,z.sameBut hs (cne y c e)⟩
  .obtain⟨w',z⟩:=I.cell y c e;exact⟨w',z.sameBut hs (cne y c e)⟩
  .obtain⟨e,n,ne,nf,d⟩:=I.pin p hp;exact⟨(hs.2 p.1 ne).trans e,n,ne,nf,d⟩
 .have hfn:X.fn x=true:=by
   rcases hf with z|z
   .exact z
   .rw [z] at hk;cases hk
  obtain⟨c,hc⟩:=I.ok.has x (.inl hk);obtain⟨w',z⟩:=I.cell x c hc;refine wpAny_storeName_cell I.ok.kind hk hc z (fun h' hc' hs=>?_);obtain⟨oc,hoc,hocd⟩:=id z
  refine h { s with heap:=h' } ⟨I.ok,I.os,I.bare,⟨fun b o e n hb hx=>?_,fun b o e n hb hx=>?_,I.base.free,fun b o e hx=>?_,I.base.tups,I.base.frzs,I.base.tbls⟩,⟨m,hn.sameBut hs (Ne.symm (cne x c hc)),fun j y v' e1 e2 e3=>?_⟩,fun y c' e=>?_,I.free,I.freeC,fun p hp=>?_,tracked ⟨oc,hoc,I.freeC x c hc⟩ hs,by simpa using I.len⟩ ⟨c,hs,.inr hc⟩
  .exact (hs.2 b (ne_of_lt (Nat.lt_of_lt_of_le (Heap.lt_size e) (I.ok.cab x c hfn hc)))).trans (I.base.keep b o e n hb hx)
  .obtain⟨sl,e1⟩:=I.base.slot b o e n hb hx;exact⟨sl,(hs.2 b (ne_of_lt (Nat.lt_of_lt_of_le (Heap.lt_size e) (I.ok.cab x c hfn hc)))).trans e1⟩
  .obtain⟨o',e1⟩:=I.base.there b o e hx;exact⟨o',(hs.2 b (ne_of_lt (Nat.lt_of_lt_of_le (Heap.lt_size e) (I.ok.cab x c hfn hc)))).trans e1⟩
  .by_cases hj:j=i
   .subst hj;rw [hi] at e1;cases e1;rw [getElem?_set_self hiσ] at e2;cases e2;exact⟨u,r,.inr ⟨.inl hk,c,hc,hc'⟩⟩
   .rw [getElem?_set_ne (Ne.symm hj)] at e2;obtain⟨u',r',q⟩:=hl j y v' e1 e2 e3;refine⟨u',r',?_⟩
    rcases q with q|⟨k,c',e,z'⟩
    .exact .inl q
    .refine .inr ⟨k,c',e,z'.sameBut hs ?_⟩;rintro rfl;exact hj (om hN e1 (I.ok.inj _ _ _ e hc ▸ hi))
  .by_cases hcc:c'=c
   .subst hcc;exact⟨_,hc'⟩
   .obtain⟨w2,z2⟩:=I.cell y c' e;exact⟨w2,z2.sameBut hs hcc⟩
  .obtain⟨e,n,ne,nf,d⟩:=I.pin p hp;refine⟨(hs.2 p.1 ?_).trans e,n,ne,nf,d⟩;intro q;rw [q,hoc] at e;have q':oc=p.2:=Option.some.inj e;exact d w' (by rw [<- q'];exact hocd)
theorem jP{M:Model}{A:Around}{E:Value->Shared->Prop}{i:Nat}{x:Str}{v:V}{u:Value}{Q:Unit->Shared->Prop}(I:Inv X pins σ H s)(hN:X.N.Nodup)(hi:X.N[i]?=some x)(hx:Loc X.env.scope x)(r:eo v u)
  (h:∀s',Inv X pins (σ.set i (some v)) H s'->Q () s') (hf:X.fn x=true\/X.env.scope.names.lookup x=some .local:=by first|exact .inl rfl|exact .inr rfl|assumption):wpAny M A (storeName X.env x u) Q E s :=
 uK I hN hi hx r (fun s' I' _=>h s' I') hf
theorem Inv.call'{s':Shared}{ch:List Addr}(I:Inv X pins σ H s)(ho:s'.os=s.os)(u:Un (frs X.stack) ch H H' s.heap s'.heap)(hok:HOk X.prog X.w H' s'.heap)(hg:AllBare s'.gens)
  (hch:∀b∈ch,(b∈X.ex\/X.s₀.heap.objs.size<=b)/\b≠X.env.locals/\(∀x c,X.env.cells.lookup x=some c->c≠b)/\∀p∈X.pn++pins,p.1≠b):Inv X pins σ H' s':=by
 obtain⟨h',g',d',t',o'⟩:=s';have e:o'=s.os:=ho;subst e;exact I.call (g':=g') (t':=t') (d':=d') u hok hg hch
end
abbrev XK:=Value->Option Addr->Hp->Prop
abbrev St:=List (Option V)
abbrev VK:=V->Hp->Prop
abbrev TE:=St->Hp->VK->Prop
abbrev TT:=St->Hp->(Bool->Hp->Prop)->Prop
abbrev TA:=St->Hp->(List V->Hp->Prop)->Prop
structure uC where
 nx:St->Hp->Prop
 rt:VK
 bk:St->Hp->Prop:=fun _ _=>False
 ct:St->Hp->Prop:=fun _ _=>False
abbrev TS:=uC->St->Hp->Prop
def EP(X:Cx)(pins:List (Addr×Obj))(σ:St)(Q:VK)(u:Value)(s':Shared):Prop:=∃v H',Inv X pins σ H' s'/\eo v u/\Q v H'
def TP(X:Cx)(pins:List (Addr×Obj))(σ:St)(Q:Bool->Hp->Prop)(b:Bool)(s':Shared):Prop:=∃H',Inv X pins σ H' s'/\Q b H'
def AP(X:Cx)(pins:List (Addr×Obj))(σ:St)(Q:List V->Hp->Prop)(us:List Value)(s':Shared):Prop:=∃vs H',Inv X pins σ H' s'/\cB vs us/\Q vs H'
def SP(X:Cx)(pins:List (Addr×Obj))(D:uC)(f:Flow)(s':Shared):Prop :=
 match f with
 | .next=>∃σ' H',Inv X pins σ' H' s'/\D.nx σ' H'
 | .brk=>∃σ' H',Inv X pins σ' H' s'/\D.bk σ' H'
 | .cont=>∃σ' H',Inv X pins σ' H' s'/\D.ct σ' H'
 | .ret u=>∃v σ' H',Inv X pins σ' H' s'/\eo v u/\D.rt v H'
def PE(X:Cx)(e:Expr)(t:TE):Prop :=
 ∀(pins:List (Addr×Obj)) (s:Shared) (σ:St) (H:Hp) (Q:VK),Inv X pins σ H s->t σ H Q->wpAny (model X.prog X.w) X.A (eval e X.env) (EP X pins σ Q) X.xe s
def PT(X:Cx)(e:Expr)(t:TT):Prop :=
 ∀(pins:List (Addr×Obj)) (s:Shared) (σ:St) (H:Hp) (Q:Bool->Hp->Prop),Inv X pins σ H s->t σ H Q->wpAny (model X.prog X.w) X.A (isTrue e X.env (eval e X.env)) (TP X pins σ Q) X.xe s
def PW(X:Cx)(e:Expr)(t:TT):Prop :=
 ∀(whole:Sem Value) (pins:List (Addr×Obj)) (s:Shared) (σ:St) (H:Hp) (Q:Bool->Hp->Prop),Inv X pins σ H s->t σ H Q->wpAny (model X.prog X.w) X.A (isTrue e X.env whole) (TP X pins σ Q) X.xe s
theorem PW.pt{X:Cx}{e:Expr}{t:TT}(h:PW X e t):PT X e t:=h _
def PA(X:Cx)(es:List Expr)(t:TA):Prop :=
 ∀(pos:Pos) (pins:List (Addr×Obj)) (s:Shared) (σ:St) (H:Hp) (Q:List V->Hp->Prop),Inv X pins σ H s->t σ H Q->wpAny (model X.prog X.w) X.A (spliced (backTo pos (starEach es X.env))) (AP X pins σ Q) X.xe s
def PS(X:Cx)(st:Stmt)(t:TS):Prop :=
 ∀(pins:List (Addr×Obj)) (s:Shared) (σ:St) (H:Hp) (D:uC),Inv X pins σ H s->t D σ H->wpAny (model X.prog X.w) X.A (exec st X.env) (SP X pins D) X.xe s
def PSs(X:Cx)(st:List Stmt)(t:TS):Prop :=
 ∀(pins:List (Addr×Obj)) (s:Shared) (σ:St) (H:Hp) (D:uC),Inv X pins σ H s->t D σ H->wpAny (model X.prog X.w) X.A (execs st X.env) (SP X pins D) X.xe s
theorem thn{α:Type}{t:Sem α}{Q Q':α->Shared->Prop}{M:Model}{A:Around}{E:Value->Shared->Prop}{s:Shared}(h:wpAny M A t Q E s)(hQ:∀a s,Q a s->Q' a s):wpAny M A t Q' E s:=wpAny_mono h hQ fun _ _ x=>x
section
variable {X:Cx}
def dn(i:Nat):TE:=fun σ H Q=>∃v,σ[i]?=some (some v)/\Q v H
def tC(v:V):TE:=fun _ H Q=>Q v H
theorem A8{i:Nat}{x:Str}{pos:Pos}(hN:X.N[i]?=some x)(hv:Vis X.env.scope x)(hd:(x == ("__debug__":Str))=false:=by decide)(hcd:(x == ("__classdict__":Str))=false:=by decide):PE X (.Name x pos) (dn i):=by
 intro pins s σ H Q I h;obtain⟨v,e,h⟩:=h;obtain⟨m,hn,hl⟩:=I.loc;obtain⟨u,r,l⟩:=hl i x v hN e hv;have fin:EP X pins σ Q u s:=⟨v,H,I,r,h⟩
 rcases l with ⟨hk,hm⟩|⟨hk,c,hc,hcell⟩
 .exact wpAny_Name (wpAny_loadName_local I.ok.kind hk hn hm fin) hd
 .rcases hk with hk|hk
  .exact wpAny_Name (wpAny_loadName_cell I.ok.kind hk hc hcell fin) hd
  .exact wpAny_Name (wpAny_loadName_free I.ok.kind hk hc hcell fin hcd) hd
theorem aw{i j pos}:PE X (.Constant (.int i) j pos) (tC (.int i)):=fun _ _ _ H _ I h=>wpAny_Constant_int ⟨.int i,H,I.tok _,⟨_,rfl⟩,h⟩
theorem cJ{b j pos}:PE X (.Constant (.bool b) j pos) (tC (.bl b)):=fun _ _ _ H _ I h=>Constant_bool ⟨.bl b,H,I,rfl,h⟩
theorem yk{j pos}:PE X (.Constant .none j pos) (tC .non):=fun _ _ _ H _ I h=>Constant_none ⟨.non,H,I,rfl,h⟩
theorem A9{x j pos}:PE X (.Constant (.str x) j pos) (tC (.str x)):=fun _ _ _ H _ I h=>Calls.Constant_str ⟨.str x,H,I.tok _,⟨_,rfl⟩,h⟩
def Gl(X:Cx)(x:Str):Prop:=X.env.kindOf x=some .globalImplicit
theorem iC{E:Value->Shared->Prop}{pins:List (Addr×Obj)}{s:Shared}{σ:St}{H:Hp}{x:Str}{u:Value}{pos:Pos}{Q:Value->Shared->Prop}(I:Inv X pins σ H s)(hg:Gl X x)(hm:X.mg x=some u)(h:Q u s)
  (hd:(x == ("__debug__":Str))=false:=by decide):wpAny (model X.prog X.w) X.A (eval (.Name x pos) X.env) Q E s :=
 Calls.Name_function_global I.ok.kind hg (Calls.loadGlobal_global (by rw [I.ok.glob];exact I.mod.glob.keeps I.bk) hm h) hd
theorem jd{E:Value->Shared->Prop}{pins:List (Addr×Obj)}{s:Shared}{σ:St}{H:Hp}{x:Str}{u:Value}{pos:Pos}{Q:Value->Shared->Prop}(I:Inv X pins σ H s)(hg:Gl X x)(hm:X.mg x=none)(hv:bootBuiltins x=some u)(h:Q u s)
  (hn:x≠"__name__":=by decide) (hd:(x == ("__debug__":Str))=false:=by decide):wpAny (model X.prog X.w) X.A (eval (.Name x pos) X.env) Q E s:=by
 obtain⟨mb,h1,h2⟩:=I.mod.blt;exact Calls.Name_function_global I.ok.kind hg (Calls.loadGlobal_builtin (by rw [I.ok.glob];exact I.mod.glob.keeps I.bk) hm (by rw [I.ok.blt];exact h1.keeps I.bk) ((h2 x hn).trans hv) h) hd
theorem zb{x:Str}{v:V}{u:Value}{pos:Pos}(hg:Gl X x)(hm:X.mg x=some u)(r:eo v u)(hd:(x == ("__debug__":Str))=false:=by decide):PE X (.Name x pos) (tC v) :=
 fun _ _ _ H _ I h=>iC I hg hm ⟨v,H,I,r,h⟩ hd
theorem dM{x:Str}{v:V}{u:Value}{pos:Pos}(hg:Gl X x)(hm:X.mg x=none)(hv:bootBuiltins x=some u)(r:eo v u)(hn:x≠"__name__":=by decide)(hd:(x == ("__debug__":Str))=false:=by decide):PE X (.Name x pos) (tC v) :=
 fun _ _ _ H _ I h=>jd I hg hm hv ⟨v,H,I,r,h⟩ hn hd
variable {a b:Expr}{ta tb:TE}{pos:Pos}
def tB(t:TE):TT:=fun σ H Q=>t σ H fun x H1=>∃c,x=.bl c/\Q c H1
theorem Ba{e:Expr}{t:TE}(h:PE X e t)(he:∀whole,isTrue e X.env whole=(do let v <- whole;standAt e.pos;holding [v] (truthy v)):=by intro _;rfl):PT X e (tB t):=by
 intro pins s σ H Q I hw;refine isTrue_plain (thn (h pins s σ H _ I hw) fun v s1 ⟨x,H1,I1,r1,q1⟩=>?_) (he _);obtain⟨d,rfl,q⟩:=q1;cases r1;exact wpAny_truthy_bool ⟨H1,I1,q⟩
variable {tA tB':TT}{rest:List Expr}
def CP(t u:TT):TT:=fun σ H Q=>t σ H fun c H1=>if c=true then u σ H1 Q else Q false H1
def tOr(t u:TT):TT:=fun σ H Q=>t σ H fun c H1=>if c=true then Q true H1 else u σ H1 Q
def CQ(t:TT):TT:=fun σ H Q=>t σ H fun c H1=>Q (!c) H1
theorem jw(ha:PT X a tA):PW X (.BoolOp .And [a] pos) tA:=by
 intro wh pins s σ H Q I h;refine isTrue_and (thn (ha pins s σ H Q I h) fun c s1 e=>?_)
 cases c with
 | true=>exact isTrue_and_nil e
 | false=>exact e
theorem f7(ha:PT X a tA):PW X (.BoolOp .Or [a] pos) tA:=by
 intro wh pins s σ H Q I h;refine isTrue_or (thn (ha pins s σ H Q I h) fun c s1 e=>?_)
 cases c with
 | false=>exact isTrue_or_nil e
 | true=>exact e
theorem lH(ha:PT X a tA)(hb:PW X (.BoolOp .And (b::rest) pos) tB'):PW X (.BoolOp .And (a::b::rest) pos) (CP tA tB'):=by
 intro wh pins s σ H Q I h;refine isTrue_and (thn (ha pins s σ H _ I h) fun c s1 ⟨H1,I1,q1⟩=>?_)
 cases c with
 | true=>exact hb wh pins s1 σ H1 Q I1 q1
 | false=>exact⟨H1,I1,q1⟩
theorem gD(ha:PT X a tA)(hb:PW X (.BoolOp .Or (b::rest) pos) tB'):PW X (.BoolOp .Or (a::b::rest) pos) (tOr tA tB'):=by
 intro wh pins s σ H Q I h;refine isTrue_or (thn (ha pins s σ H _ I h) fun c s1 ⟨H1,I1,q1⟩=>?_)
 cases c with
 | true=>exact⟨H1,I1,q1⟩
 | false=>exact hb wh pins s1 σ H1 Q I1 q1
theorem cE(ha:PT X a tA):PT X (.UnaryOp .Not a pos) (CQ tA):=by
 intro pins s σ H Q I h;exact isTrue_not (ha pins s σ H (fun c H1=>Q (!c) H1) I h)
def wS(ta tb:TE):TE:=fun σ H Q=>ta σ H fun x H1=>∃c,x=.bl c/\if c=true then tb σ H1 Q else Q (.bl false) H1
def Bb(ta:TE):TE:=fun σ H Q=>ta σ H fun x H1=>∃c,x=.bl c/\Q (.bl (!c)) H1
theorem ii{op}{t:TE}(h:PE X a t):PE X (.BoolOp op [a] pos) t:=fun pins s σ H Q I hw=>BoolOp_one (h pins s σ H Q I hw)
theorem f8(ha:PE X a ta)(hb:PE X (.BoolOp .And (b::rest) pos) tb):PE X (.BoolOp .And (a::b::rest) pos) (wS ta tb):=by
 intro pins s σ H Q I h;refine BoolOp_and (thn (ha pins s σ H _ I h) fun v s1 ⟨x,H1,I1,r1,q1⟩=>?_);obtain⟨c,rfl,q1⟩:=q1;cases r1;refine wpAny_truthy_bool ?_
 cases c with
 | true=>exact hb pins s1 σ H1 Q I1 q1
 | false=>exact⟨.bl false,H1,I1,rfl,q1⟩
theorem yl(ha:PE X a ta):PE X (.UnaryOp .Not a pos) (Bb ta):=by
 intro pins s σ H Q I h;refine UnaryOp_ (thn (ha pins s σ H _ I h) fun v s1 ⟨x,H1,I1,r1,q1⟩=>?_);obtain⟨c,rfl,q1⟩:=q1;cases r1;exact not_of (wpAny_truthy_bool ⟨.bl (!c),H1,I1,rfl,q1⟩)
end
def SqL(K:PySem.W.Frag)(H:Hp)(a:Addr)(xs:List V):Prop :=
 Rd H a (.lst xs) \/
  ∃(o:Obj) (its:Array Value) (n:Nat),K.lookup a=some o/\o.cls=.type "list"/\o.dict=none/\o.data=.seq its n/\its.size<=sizeLine/\cB xs its.toList
def SqT(K:PySem.W.Frag)(H:Hp)(a:Addr)(xs:List V):Prop :=
 Rd H a (.tup xs) \/
  ∃(o:Obj) (its:Array Value) (n:Nat),K.lookup a=some o/\o.cls=.type "tuple"/\o.data=.seq its n/\its.size<=sizeLine/\cB xs its.toList
def EB:Value->Option V
 | .none=>some .non
 | .bool b=>some (.bl b)
 | .int i _=>some (.int i)
 | .str x _=>some (.str x)
 | .bytes b _=>some (.byt b)
 | .float b _=>some (.flt b)
 | .ref a=>some (.ref a)
 | .type n=>some (.ty n)
 | _=>none
theorem eo.abs{x:V}{u:Value}(r:eo x u):EB u=some x:=by
 cases x with
 | non=>cases r;rfl
 | bl _=>cases r;rfl
 | int _=>obtain⟨t,rfl⟩:=r;rfl
 | str _=>obtain⟨t,rfl⟩:=r;rfl
 | byt _=>obtain⟨t,rfl⟩:=r;rfl
 | flt _=>obtain⟨t,rfl⟩:=r;rfl
 | ref _=>cases r;rfl
 | ty _=>cases r;rfl
theorem eo.inj{x y:V}{u:Value}(r:eo x u)(q:eo y u):x=y:=Option.some.inj (r.abs.symm.trans q.abs)
theorem cB.inj:∀{xs ys:List V}{us:List Value},cB xs us->cB ys us->xs=ys
 | _,_,_,.nil,.nil=>rfl
 | _,_,_,.cons r t,.cons r' t'=>by rw [r.inj r',cB.inj t t']
section
variable {X:Cx}{pins:List (Addr×Obj)}{σ:St}{H:Hp}{s:Shared}{a:Addr}{xs ys:List V}
theorem SqL.of{K:PySem.W.Frag}(h:H a=some (.lst xs)):SqL K H a xs:=.inl (.inl h)
theorem SqT.of{K:PySem.W.Frag}(h:H a=some (.tup xs)):SqT K H a xs:=.inl (.inl h)
theorem Inv.list(I:Inv X pins σ H s)(h:SqL X.K H a xs):∃its:List Value,cB xs its/\PlainL s.heap a its.toArray/\xs.length<=sizeLine:=by
 rcases h with h|⟨o,its,n,hk,hc,hd,hs,hz,r⟩
 .obtain⟨z,its,n,r,e⟩:=h.ok I.hok;exact⟨its,r,⟨_,n,e,rfl,rfl,rfl⟩,z⟩
 .refine⟨its.toList,r,⟨o,n,I.kIn a o hk,hc,hd,by simpa using hs⟩,?_⟩;have e:=r.length;simp only [Array.length_toList] at e;omega
theorem Inv.tuple(I:Inv X pins σ H s)(h:SqT X.K H a xs):∃its:List Value,cB xs its/\IsTup s.heap a its.toArray/\xs.length<=sizeLine:=by
 rcases h with h|⟨o,its,n,hk,hc,hs,hz,r⟩
 .obtain⟨z,its,r,p⟩:=h.ok I.hok;exact⟨its,r,p,z⟩
 .refine⟨its.toList,r,⟨o,I.kIn a o hk,hc,n,by simpa using hs⟩,?_⟩;have e:=r.length;simp only [Array.length_toList] at e;omega
theorem Inv.list_inj(I:Inv X pins σ H s)(h:SqL X.K H a xs)(h':SqL X.K H a ys):xs=ys:=by
 obtain⟨its,r,⟨o,n,e,_,_,d⟩,_⟩:=I.list h;obtain⟨its',r',⟨o',n',e',_,_,d'⟩,_⟩:=I.list h';rw [e] at e';cases e';rw [d] at d';injection d' with d1 _;have:its=its':=by simpa using congrArg Array.toList d1
 subst this;exact r.inj r'
theorem Inv.tuple_inj(I:Inv X pins σ H s)(h:SqT X.K H a xs)(h':SqT X.K H a ys):xs=ys:=by
 obtain⟨its,r,⟨o,e,_,n,d⟩,_⟩:=I.tuple h;obtain⟨its',r',⟨o',e',_,n',d'⟩,_⟩:=I.tuple h';rw [e] at e';cases e';rw [d] at d';injection d' with d1 _;have:its=its':=by simpa using congrArg Array.toList d1
 subst this;exact r.inj r'
end
abbrev Cx.wish(X:Cx)(E:Value->Shared->Prop):Cx:={ X with xe:=E }
abbrev Cx.nox(X:Cx):Cx:=X.wish fun _ _=>False
theorem Cx.Ok.wish{X:Cx}(ok:X.Ok)(E:Value->Shared->Prop):(X.wish E).Ok :=
 ⟨ok.mod,ok.kind,ok.glob,ok.blt,ok.above,ok.inj,ok.has,ok.cab,ok.hd,ok.frames,ok.stk,ok.exf,ok.bs,ok.bsz,ok.noex,ok.exfs,ok.funs,ok.frf⟩
theorem Cx.Ok.unwish{X:Cx}{E:Value->Shared->Prop}(ok:(X.wish E).Ok):X.Ok :=
 ⟨ok.mod,ok.kind,ok.glob,ok.blt,ok.above,ok.inj,ok.has,ok.cab,ok.hd,ok.frames,ok.stk,ok.exf,ok.bs,ok.bsz,ok.noex,ok.exfs,ok.funs,ok.frf⟩
section
variable {X:Cx}{pins:List (Addr×Obj)}{σ:St}{H:Hp}{s:Shared}{E:Value->Shared->Prop}
theorem Inv.wish(I:Inv X pins σ H s)(E:Value->Shared->Prop):Inv (X.wish E) pins σ H s:=⟨I.ok.wish E,I.os,I.bare,I.base,I.loc,I.cell,I.free,I.freeC,I.pin,I.hok,I.len⟩
theorem Inv.unwish(I:Inv (X.wish E) pins σ H s):Inv X pins σ H s:=⟨I.ok.unwish,I.os,I.bare,I.base,I.loc,I.cell,I.free,I.freeC,I.pin,I.hok,I.len⟩
theorem SP.unwish{D:uC}{f:Flow}{s':Shared}(h:SP (X.wish E) pins D f s'):SP X pins D f s':=by
 cases f with
 | next=>obtain⟨σ',H',I,q⟩:=h;exact⟨σ',H',I.unwish,q⟩
 | brk=>obtain⟨σ',H',I,q⟩:=h;exact⟨σ',H',I.unwish,q⟩
 | cont=>obtain⟨σ',H',I,q⟩:=h;exact⟨σ',H',I.unwish,q⟩
 | ret u=>obtain⟨v,σ',H',I,r,q⟩:=h;exact⟨v,σ',H',I.unwish,r,q⟩
theorem PT.nox{e:Expr}{t:TT}(h:PT X.nox e t):PT X e t:=fun pins s σ H Q I hw =>
 wpAny_mono (h pins s σ H Q (I.wish _) hw) (fun _ _ ⟨H',I',q⟩=>⟨H',I'.unwish,q⟩) fun _ _ z=>False.elim z
theorem PSs.nox{st:List Stmt}{t:TS}(h:PSs X.nox st t):PSs X st t:=fun pins s σ H D I hw =>
 wpAny_mono (h pins s σ H D (I.wish _) hw) (fun _ _ q=>q.unwish) fun _ _ z=>False.elim z
end
section
variable {X:Cx}{st:Stmt}{rest:List Stmt}{t u:TS}{e:Expr}{te:TE}{pos:Pos}
def zc:TS:=fun D σ H=>D.nx σ H
def CH(t u:TS):TS:=fun D σ H=>t { D with nx:=u D } σ H
theorem aD:PSs X [] zc:=fun _ _ σ H _ I h=>wpAny_execs_nil ⟨σ,H,I,h⟩
theorem aj(h1:PS X st t)(h2:PSs X rest u):PSs X (st::rest) (CH t u):=by
 intro pins s σ H D I h;refine wpAny_execs_cons (thn (h1 pins s σ H { D with nx:=u D } I h) fun f s1 q=>?_)
 cases f with
 | next =>
  obtain⟨σ',H',I',q⟩:=q;exact h2 pins s1 σ' H' D I' q
 | ret v=>exact q
 | brk=>exact q
 | cont=>exact q
theorem al(h1:PS X st t):PSs X [st] t:=by
 intro pins s σ H D I h;refine wpAny_execs_cons (thn (h1 pins s σ H D I h) fun f s1 q=>?_)
 cases f with
 | next=>exact wpAny_execs_nil q
 | ret v=>exact q
 | brk=>exact q
 | cont=>exact q
theorem Inv.quiet{pins:List (Addr×Obj)}{σ:St}{H:Hp}{s:Shared}(I:Inv X pins σ H s):interactive X.env=false:=by simp [interactive,I.ok.kind]
def wT(te:TE):TS:=fun D σ H=>te σ H fun _ H1=>D.nx σ H1
theorem cR(he:PE X e te)(hs:swapsWith e none pos.line X.env=pure false:=by rfl):PS X (.Expr e pos) (wT te):=by
 intro pins s σ H D I h;exact wpAny_Expr_any (thn (he pins s σ H _ I h) fun v s1 ⟨x,H1,I1,r1,q1⟩=>⟨σ,H1,I1,q1⟩) I.quiet hs
def CS(te:TE):TS:=fun D σ H=>te σ H D.rt
theorem aM(he:PE X e te):PS X (.Return (some e) pos) (CS te):=by
 intro pins s σ H D I h;exact wpAny_Return_some (thn (he pins s σ H _ I h) fun v s1 ⟨x,H1,I1,r1,q1⟩=>⟨x,σ,H1,I1,r1,q1⟩)
def CT(c:TT)(t u:TS):TS:=fun D σ H=>c σ H fun b H1=>if b=true then t D σ H1 else u D σ H1
theorem bU{c:Expr}{a b:List Stmt}{tc:TT}(hc:PT X c tc)(ha:PSs X a t)(hb:PSs X b u):PS X (.If c a b pos) (CT tc t u):=by
 intro pins s σ H D I h;refine wpAny_If (thn (hc pins s σ H _ I h) fun d s1 ⟨H1,I1,q1⟩=>?_)
 cases d with
 | true=>exact ha pins s1 σ H1 D I1 q1
 | false=>exact hb pins s1 σ H1 D I1 q1
end
abbrev TG:=V->St->Hp->(St->Hp->Prop)->Prop
abbrev TGs:=List V->St->Hp->(St->Hp->Prop)->Prop
def PG(X:Cx)(target:Expr)(t:TG):Prop :=
 ∀(pins:List (Addr×Obj)) (s:Shared) (σ:St) (H:Hp) (v:V) (u:Value) (Q:St->Hp->Prop),Inv X pins σ H s->eo v u->t v σ H Q ->
  wpAny (model X.prog X.w) X.A (assign target X.env u) (fun _ s'=>∃σ' H',Inv X pins σ' H' s'/\Q σ' H') X.xe s
def PGs(X:Cx)(ts:List Expr)(t:TGs):Prop :=
 ∀(pins:List (Addr×Obj)) (s:Shared) (σ:St) (H:Hp) (vs:List V) (us:List Value) (Q:St->Hp->Prop),Inv X pins σ H s->cB vs us->t vs σ H Q ->
  wpAny (model X.prog X.w) X.A (assignInOrder ((assignEach ts X.env).map (·.2)) us) (fun _ s'=>∃σ' H',Inv X pins σ' H' s'/\Q σ' H') X.xe s
abbrev CU:=V->V->V->Hp->(Hp->Prop)->Prop
def DX(X:Cx)(t:CU):Prop :=
 ∀(pins:List (Addr×Obj)) (s:Shared) (σ:St) (H:Hp) (o i v:V) (ov iv u:Value) (Q:Hp->Prop),Inv X pins σ H s->eo o ov->eo i iv->eo v u->t o i v H Q ->
  wpAny (model X.prog X.w) X.A (setItem ov iv u) (fun _ s'=>∃H',Inv X pins σ H' s'/\Q H') X.xe s
section
variable {X:Cx}{pos:Pos}
def eV(i:Nat):TG:=fun v σ H Q=>Q (σ.set i (some v)) H
theorem aS{i:Nat}{x:Str}(hN:X.N.Nodup)(hi:X.N[i]?=some x)(hx:Loc X.env.scope x)(hf:X.fn x=true\/X.env.scope.names.lookup x=some .local:=by first|exact .inl rfl|exact .inr rfl|assumption):PG X (.Name x pos) (eV i):=by
 intro pins s σ H v u Q I r h;exact wpAny_assign_Name (jP I hN hi hx r (fun s' I'=>⟨_,H,I',h⟩) hf)
def AK:TGs:=fun vs σ H Q=>vs=[]/\Q σ H
def m8(t:TG)(u:TGs):TGs:=fun vs σ H Q=>∃v r,vs=v::r/\t v σ H fun σ' H'=>u r σ' H' Q
theorem eE:PGs X [] AK:=by
 intro pins s σ H vs us Q I r h;obtain⟨e,h⟩:=h;subst e;cases r;exact assignInOrder_nil ⟨σ,H,I,h⟩
theorem bF{e:Expr}{es:List Expr}{t:TG}{u:TGs}(h1:PG X e t)(h2:PGs X es u)
  (hs:(assignEach (e::es) X.env).map (·.2)=assign e X.env::(assignEach es X.env).map (·.2):=by rfl):PGs X (e::es) (m8 t u):=by
 intro pins s σ H vs us Q I r h;obtain⟨v,vr,e1,h⟩:=h;subst e1
 cases r with
 | cons r rr =>
  rw [hs];refine assignInOrder_cons (thn (h1 pins s σ H _ _ _ I r h) fun _ s1 ⟨σ1,H1,I1,q1⟩=>?_);exact h2 pins s1 σ1 H1 _ _ Q I1 rr q1
def EC(K:PySem.W.Frag)(n:Nat)(t:TGs):TG:=fun v σ H Q=>∃a xs,v=.ref a/\SqT K H a xs/\xs.length=n/\t xs σ H Q
theorem Bc{es:List Expr}{k:Nat}{t:TGs}{n:Nat}(hc:X.calm=true)(h:PGs X es t)
  (hn:(assignEach es X.env).length=n:=by rfl) (hst:(assignEach es X.env).findIdx? (·.1)=none:=by rfl):PG X (.Tuple es k pos) (EC X.K n t):=by
 intro pins s σ H v u Q I r hw;obtain⟨a,xs,e1,hq,hl,hw⟩:=hw;subst e1;cases r;obtain⟨its,rv,ht,hz⟩:=I.tuple hq;refine assign_Tuple_tuple (I.ok.hd hc) ht (by simp [hn,<- hl,rv.length]) hst fun h' hx=>?_;have I1:Inv X pins σ H { s with heap:=h' }:=I.kept (t':=s.toks) fun b o e=>hx b o (ne_of_lt (Heap.lt_size e)) e;exact h pins _ σ H xs _ Q I1 (by simpa using rv) hw
def DY(to ti:TE)(t:CU):TG:=fun v σ H Q=>to σ H fun o H1=>ti σ H1 fun i H2=>t o i v H2 fun H3=>Q σ H3
theorem uL{o i:Expr}{to ti:TE}{t:CU}(ho:PE X o to)(hi:PE X i ti)(hs:DX X t)
  (ha:∀v,assign (.Subscript o i pos) X.env v=(do
   let ov <- holding [v] (eval o X.env)
   let iv <- holding [v,ov] (eval i X.env)
   standAt pos
   holding [v,ov,iv] (setItem ov iv v)
   release [v,ov,iv] []):=by intro _;rfl):PG X (.Subscript o i pos) (DY to ti t):=by
 intro pins s σ H v u Q I r h;rw [ha];refine wpAny_bind (wpAny_holding (thn (ho pins s σ H _ I h) fun ov s1 ⟨x,H1,I1,r1,q1⟩=>?_));refine wpAny_bind (wpAny_holding (thn (hi pins s1 σ H1 _ I1 q1) fun iv s2 ⟨y,H2,I2,r2,q2⟩=>?_));refine wpAny_bind (wpAny_standAt (wpAny_bind (wpAny_holding (thn (hs pins s2 σ H2 x y v ov iv u _ I2 r1 r2 r q2) fun _ s3 ⟨H3,I3,q3⟩=>?_))));exact wpAny_release ⟨σ,H3,I3,q3⟩
def AL(te:TE)(g:TG):TS:=fun D σ H=>te σ H fun x H1=>g x σ H1 D.nx
theorem sE{tg e:Expr}{te:TE}{g:TG}(he:PE X e te)(hg:PG X tg g)(hs:swapsWithSole [tg] e pos.line X.env=pure false:=by rfl)(hw:swappedStores [tg] e X.env=pure none:=by rfl)
  (h1:(assignEach [tg] X.env).map (·.2)=[assign tg X.env]:=by rfl):PS X (.Assign [tg] e pos) (AL te g):=by
 intro pins s σ H D I h;refine wpAny_Assign_stores (thn (he pins s σ H _ I h) fun v s1 ⟨x,H1,I1,r1,q1⟩=>?_) hs hw;rw [h1];exact thn (hg pins s1 σ H1 x v _ I1 r1 q1) fun _ s2 q=>q
theorem aY{i:Nat}{x:Str}{e:Expr}{te:TE}{pos':Pos}(hN:X.N.Nodup)(hi:X.N[i]?=some x)(hx:Loc X.env.scope x)(he:PE X e te)(hs:swapsWith e (some (.Name x pos')) pos.line X.env=pure false:=by rfl)(hf:X.fn x=true\/X.env.scope.names.lookup x=some .local:=by first|exact .inl rfl|exact .inr rfl|assumption) :
  PS X (.Assign [.Name x pos'] e pos) (AL te (eV i)):=by
 intro pins s σ H D I h;refine wpAny_Assign_Name (thn (he pins s σ H _ I h) fun v s1 ⟨y,H1,I1,r1,q1⟩=>?_) hs;exact jP I1 hN hi hx r1 (fun s2 I2=>⟨_,H1,I2,q1⟩) hf
end
section
variable {X:Cx}{pos:Pos}
def uM(c:TT)(tb:TS):TS:=fun D σ H=>∃W:Nat->St->Hp->Prop,(∃m,W m σ H)/\∀m σ H,W m σ H ->
 c σ H fun b H1=>if b=true then ∃N:St->Hp->Prop,(∀σ' H',N σ' H'->∃m',m'<m/\W m' σ' H')/\tb { D with nx:=N,ct:=N,bk:=D.nx } σ H1 else D.nx σ H1
theorem sF{c:Expr}{body:List Stmt}{tc:TT}{tb:TS}(hp:PassesOwn (model X.prog X.w) X.A X.env X.xe)(hc:PT X c tc)(hb:PSs X body tb):PS X (.While c body [] pos) (uM tc tb):=by
 intro pins s σ H D I h;obtain⟨W,⟨m0,w0⟩,turn⟩:=h;refine wpAny_While (codeAny_whileLoop (fun n s'=>∃σ' H',Inv X pins σ' H' s'/\W n σ' H') ?_ m0 ⟨σ,H,I,w0⟩);rintro n s1 ⟨σ1,H1,I1,w1⟩;refine wpAny_passesOwn hp (thn (hc pins s1 σ1 H1 _ I1 (turn n σ1 H1 w1)) fun b s2 ⟨H2,I2,q2⟩=>?_)
 cases b with
 | true =>
  obtain⟨N,hN,q2⟩:=q2;rw [if_pos rfl];refine wpAny_passesOwn hp (thn (hb pins s2 σ1 H2 _ I2 q2) fun f s3 q3=>?_)
  cases f with
  | next =>
   obtain⟨σ3,H3,I3,n3⟩:=q3;obtain⟨m',hm,w3⟩:=hN σ3 H3 n3;exact⟨m',hm,σ3,H3,I3,w3⟩
  | cont =>
   obtain⟨σ3,H3,I3,n3⟩:=q3;obtain⟨m',hm,w3⟩:=hN σ3 H3 n3;exact⟨m',hm,σ3,H3,I3,w3⟩
  | brk=>exact q3
  | ret v=>exact q3
 | false =>
  rw [if_neg Bool.false_ne_true];exact wpAny_execs_nil ⟨σ1,H2,I2,q2⟩
end
structure It where
 go:Nat->Hp->Prop
 yld:Nat->Hp->V->Hp->Prop
 stop:Nat->Hp->Prop
def tN(X:Cx)(pins:List (Addr×Obj))(H:Hp)(b:Addr):Prop :=
 H b=none/\b≠X.env.locals/\b∉X.fs/\(b∈X.ex\/X.s₀.heap.objs.size<=b)/\(∀x c,X.env.cells.lookup x=some c->c≠b)/\∀p∈X.pn++pins,p.1≠b
theorem Inv.fpOk{X:Cx}{pins:List (Addr×Obj)}{σ:St}{H H':Hp}{s:Shared}{b:Addr}(I:Inv X pins σ H s)(hb:s.heap.objs.size<=b)(hn:H' b=none):tN X pins H' b:=by
 refine⟨hn,ne_of_gt (Nat.lt_of_lt_of_le I.lt hb),I.nofs hb,.inr (le_trans I.sz hb),fun x c e z=>?_,fun p hp z=>?_⟩
 .obtain⟨v,q⟩:=I.cell x c e;exact absurd (Nat.lt_of_lt_of_le q.lt (by rw [z];exact hb)) (Nat.lt_irrefl _)
 .exact absurd (Nat.lt_of_lt_of_le (Heap.lt_size (I.pin p hp).1) (by rw [z];exact hb)) (Nat.lt_irrefl _)
structure ym (P:Program) (w:World) (K:PySem.W.Frag) (tg:Expr) (J:It) (fp:List Addr) (it:Addr) (tn:Nat->Heap->Prop):Prop where
 mem:it∈fp
 obj:∀i h,tn i h->∀b∈fp,∃o,h.get? b=some o/\∀v,o.data≠.cell v
 keep:∀i h h',tn i h->(∀b∈fp,∀o,h.get? b=some o->h'.get? b=some o)->tn i h'
 item:∀(X:Cx),X.prog=P->X.w=w->X.K=K->X.calm=true->∀(i:Nat) (pins:List (Addr×Obj)) (s:Shared) (σ:St) (H:Hp) (E:Value->Shared->Prop),Inv X pins σ H s->(∀b∈fp,tN X pins H b)->tn i s.heap->J.go i H ->
  wpAny (model P w) X.A (pyNext (.ref it)) (fun r s1=>∃u,r=some u /\
   wpAny (model P w) X.A (letOwnedTupleGo tg (.ref it) u) (fun _ s2=>∃x H',Inv X pins σ H' s2/\eo x u/\J.yld i H x H'/\tn (i+1) s2.heap/\∀b∈fp,H' b=none) E s1) E s
 done:∀(X:Cx),X.prog=P->X.w=w->X.K=K->X.calm=true->∀(i:Nat) (pins:List (Addr×Obj)) (s:Shared) (σ:St) (H:Hp) (E:Value->Shared->Prop),Inv X pins σ H s->(∀b∈fp,tN X pins H b)->tn i s.heap->J.stop i H ->
  wpAny (model P w) X.A (pyNext (.ref it)) (fun r s1=>r=none/\Inv X pins σ H s1) E s
 self:∀(A:Around) (i:Nat) (s:Shared) (Q:Value->Shared->Prop) (E:Value->Shared->Prop),tn i s.heap->Q (.ref it) s->wpAny (model P w) A (pyIter (.ref it)) Q E s
abbrev TI:=St->Hp->(It->Hp->Prop)->Prop
def PIE(X:Cx)(pins:List (Addr×Obj))(σ:St)(tg:Expr)(R:It->Hp->Prop)(itv:Value)(s2:Shared):Prop :=
 ∃(it:Addr) (fp:List Addr) (tn:Nat->Heap->Prop) (J:It) (H':Hp),itv=.ref it/\Inv X pins σ H' s2/\ym X.prog X.w X.K tg J fp it tn/\tn 0 s2.heap/\(∀b∈fp,tN X pins H' b)/\R J H'
def PI(X:Cx)(tg iter:Expr)(wi:TI):Prop :=
 ∀(pins:List (Addr×Obj)) (s:Shared) (σ:St) (H:Hp) (R:It->Hp->Prop),Inv X pins σ H s->wi σ H R ->
  wpAny (model X.prog X.w) X.A (eval iter X.env) (fun v s1=>wpAny (model X.prog X.w) X.A (pyIter v) (PIE X pins σ tg R) X.xe s1) X.xe s
theorem zd{M:Model}{A:Around}{E:Value->Shared->Prop}{s:Shared}{tg:Expr}{it:Addr}{u:Value}{o:Obj}{n:String}{vs:Array Value}{Q:Unit->Shared->Prop}(ho:s.heap.get? it=some o)(hc:o.cls=.type n)(hd:o.data=.fields vs)
    (hn:["enumerate","zip","dict_itemiterator","dict_reverseitemiterator","odict_iterator","itertools.zip_longest","itertools.pairwise"].contains n=false) (hQ:Q () s):wpAny M A (letOwnedTupleGo tg (.ref it) u) Q E s:=by
  unfold letOwnedTupleGo
  cases tg <;> first
    | exact wpAny_pure hQ
    | (cases u <;> first
        | exact wpAny_pure hQ
        | (refine wpAny_bind (wpAny_load ho ?_)
           rw [hc,hd];show wpAny M A (if (["enumerate","zip","dict_itemiterator","dict_reverseitemiterator","odict_iterator","itertools.zip_longest","itertools.pairwise"].contains n && vs[0]? == some (rawInt _))=true then _ else _) Q E s;rw [if_neg (by intro h;rw [hn,Bool.false_and] at h;cases h)];exact wpAny_pure hQ))
def Itl(K:PySem.W.Frag)(a:Addr):It :=
 ⟨fun i H=>∃xs x,SqL K H a xs/\xs[i]?=some x,fun i H x H'=>H'=H/\∀xs,SqL K H a xs->xs[i]?=some x,fun i H=>∃xs,SqL K H a xs/\xs.length<=i⟩
def Itt(K:PySem.W.Frag)(a:Addr):It :=
 ⟨fun i H=>∃xs x,SqT K H a xs/\xs[i]?=some x,fun i H x H'=>H'=H/\∀xs,SqT K H a xs->xs[i]?=some x,fun i H=>∃xs,SqT K H a xs/\xs.length<=i⟩
def Itr(lo:Int)(n:Nat):It:=⟨fun i _=>i<n,fun i H x H'=>H'=H/\x=.int (lo+i),fun i _=>n<=i⟩
theorem uN{P:Program}{w:World}{K:PySem.W.Frag}{tg:Expr}(a it:Addr):ym P w K tg (Itl K a) [it] it (fun i h=>h.IsListIter it a i) where
 mem:=by simp
 obj:=fun i h st b hb=>by
  have e:b=it:=by simpa using hb
  subst e;obtain⟨o,e,c,d⟩:=st;exact⟨o,e,fun v z=>by rw [d] at z;cases z⟩
 keep:=fun i h h' st k=>st.at fun o e=>k it (by simp) o e
 item:=by
  intro X hP hw hK hc i pins s σ H E I hf st hg;subst hP hw hK;obtain⟨xs,x,hq,hx⟩:=hg;obtain⟨its,rv,p,hz⟩:=I.list hq;obtain⟨u,hu,ru⟩:=rv.get hx;obtain⟨f0,f1,f2,f3,f4,f5⟩:=hf it (by simp);refine wpAny_pyNext_list_item st p.isList (x:=u) (by simpa using hu) fun h' st' sb=>?_;have I1:Inv X pins σ H { s with heap:=h' }:=I.turned (t':=s.toks) (fun b o hb e=>(sb.2 b hb).trans e) f0 f1 f3 f4 f5;obtain⟨o,e,c,d⟩:=id st'
  exact⟨u,rfl,zd (s:={ s with heap:=h' }) e c d (by decide) ⟨x,H,I1,ru,⟨rfl,fun ys hy=>by rw [I.list_inj hy hq];exact hx⟩,st',fun b hb=>(hf b hb).1⟩⟩
 done:=by
  intro X hP hw hK hc i pins s σ H E I hf st hg;subst hP hw hK;obtain⟨xs,hq,hx⟩:=hg;obtain⟨its,rv,p,hz⟩:=I.list hq;obtain⟨f0,f1,f2,f3,f4,f5⟩:=hf it (by simp);have hl:=rv.length;exact wpAny_pyNext_list_end (I.ok.hd hc) st p.isList (by simp;omega) fun h' eb=>⟨rfl,I.turned (t':=s.toks) (fun b o hb e=>eb b o hb e) f0 f1 f3 f4 f5⟩
 self:=fun _ _ _ _ _ st h=>wpAny_pyIter_listiter st h
theorem tO{P:Program}{w:World}{K:PySem.W.Frag}{tg:Expr}(a it:Addr):ym P w K tg (Itt K a) [it] it (fun i h=>h.IsTupleIter it a i) where
 mem:=by simp
 obj:=fun i h st b hb=>by
  have e:b=it:=by simpa using hb
  subst e;obtain⟨o,e,c,d⟩:=st;exact⟨o,e,fun v z=>by rw [d] at z;cases z⟩
 keep:=fun i h h' st k=>st.at fun o e=>k it (by simp) o e
 item:=by
  intro X hP hw hK hc i pins s σ H E I hf st hg;subst hP hw hK;obtain⟨xs,x,hq,hx⟩:=hg;obtain⟨its,rv,p,hz⟩:=I.tuple hq;obtain⟨u,hu,ru⟩:=rv.get hx;obtain⟨f0,f1,f2,f3,f4,f5⟩:=hf it (by simp);refine wpAny_pyNext_tuple_item st (show s.heap.IsTuple a its.toArray from p) (x:=u) (by simpa using hu) fun h' st' sb=>?_;have I1:Inv X pins σ H { s with heap:=h' }:=I.turned (t':=s.toks) (fun b o hb e=>(sb.2 b hb).trans e) f0 f1 f3 f4 f5
  obtain⟨o,e,c,d⟩:=id st';exact⟨u,rfl,zd (s:={ s with heap:=h' }) e c d (by decide) ⟨x,H,I1,ru,⟨rfl,fun ys hy=>by rw [I.tuple_inj hy hq];exact hx⟩,st',fun b hb=>(hf b hb).1⟩⟩
 done:=by
  intro X hP hw hK hc i pins s σ H E I hf st hg;subst hP hw hK;obtain⟨xs,hq,hx⟩:=hg;obtain⟨its,rv,p,hz⟩:=I.tuple hq;obtain⟨f0,f1,f2,f3,f4,f5⟩:=hf it (by simp);have hl:=rv.length;exact wpAny_pyNext_tuple_end (I.ok.hd hc) st (show s.heap.IsTuple a its.toArray from p) (by simp;omega) fun h' eb=>⟨rfl,I.turned (t':=s.toks) (fun b o hb e=>eb b o hb e) f0 f1 f3 f4 f5⟩
 self:=fun _ _ _ _ _ st h=>wpAny_pyIter_tupleiter st h
theorem tP{P:Program}{w:World}{K:PySem.W.Frag}{tg:Expr}(it:Addr)(lo:Int)(n:Nat):ym P w K tg (Itr lo n) [it] it (fun i h=>IsRangeIter h it (lo+(i:Nat)*1) ((n:Int) - (i:Nat)) 1) where
 mem:=by simp
 obj:=fun i h st b hb=>by
  have e:b=it:=by simpa using hb
  subst e
  exact⟨_,st,fun v z=>by
   have z':Data.fields _=Data.cell v:=z;cases z'⟩
 keep:=fun i h h' st k=>k it (by simp) _ st
 item:=by
  intro X hP hw hK hc i pins s σ H E I hf st hg;subst hP hw hK;obtain⟨f0,f1,f2,f3,f4,f5⟩:=hf it (by simp);have W:=Walks.range (prog:=X.prog) (w:=X.w) (I.ok.hd hc) it lo 1 n;refine W.item i s _ _ hg st fun v h' tk hv st' kk=>?_;obtain⟨t,rfl⟩:=hv;have I1:Inv X pins σ H { s with heap:=h',toks:=tk }:=I.turned (fun b o hb e=>kk b o (by simpa using hb) e) f0 f1 f3 f4 f5;refine⟨_,rfl,zd (s:={ s with heap:=h',toks:=tk }) (n:="range_iterator") st' rfl rfl (by decide) ⟨.int (lo+i),H,I1,⟨t,?_⟩,⟨rfl,rfl⟩,st',fun b hb=>(hf b hb).1⟩⟩
  rw [Int.mul_one]
 done:=by
  intro X hP hw hK hc i pins s σ H E I hf st hg;subst hP hw hK;obtain⟨f0,f1,f2,f3,f4,f5⟩:=hf it (by simp);exact wpAny_pyNext_range_end (I.ok.hd hc) st (by have:n<=i:=hg;omega) fun h' eb=>⟨rfl,I.turned (t':=s.toks) (fun b o hb e=>eb b o hb e) f0 f1 f3 f4 f5⟩
 self:=fun _ _ _ _ _ st h=>wpAny_pyIter_rangeiter st h
section
variable {X:Cx}{tg:Expr}
theorem sG{pins:List (Addr×Obj)}{σ:St}{H:Hp}{s:Shared}{R:It->Hp->Prop}{E:Value->Shared->Prop}{lo hi:Int}{t u v:Tok}{tk:Nat}(I:Inv X pins σ H s)(h1:-(2^62)<=lo)(h2:lo<2^62)(h3:-(2^62)<=hi)(h4:hi<2^62)
  (q:R (Itr lo (hi - lo).toNat) H):wpAny (model X.prog X.w) X.A (pyIter (.ref s.heap.objs.size)) (PIE X pins σ tg R) E { s with heap:=s.heap.push { cls:=.type "range",data:=.fields #[.int lo t,.int hi u,.int 1 v] },toks:=tk }:=by
 refine wpAny_pyIter_range (IsRange.new ..) (small_one h1 h2 h3 h4) ?_;have I1:Inv X pins σ H { s with heap:=s.heap.push { cls:=.type "range",data:=.fields #[.int lo t,.int hi u,.int 1 v] },toks:=tk }:=I.kept fun b o e=>Heap.get?_push_of_some _ e
 refine⟨(s.heap.push { cls:=.type "range",data:=.fields #[.int lo t,.int hi u,.int 1 v] }).objs.size,[(s.heap.push { cls:=.type "range",data:=.fields #[.int lo t,.int hi u,.int 1 v] }).objs.size],_,_,H,rfl,
  I1.kept (t':=tk) fun b o e=>Heap.get?_push_of_some _ e,tP _ lo (hi - lo).toNat,?_,fun b hb=>?_,q⟩
 .have e1:lo+((0:Nat):Int)*1=lo:=by simp
  have e2:(((hi - lo).toNat:Nat):Int) - ((0:Nat):Int)=Builtin.Range.rangeSize lo hi 1:=by rw [rangeSize_one];split <;> omega
  show IsRangeIter _ _ (lo+((0:Nat):Int)*1) ((((hi - lo).toNat:Nat):Int) - ((0:Nat):Int)) 1;rw [e1,e2];exact Heap.get?_push_size _ rfl
 .have e:b=(s.heap.push { cls:=.type "range",data:=.fields #[.int lo t,.int hi u,.int 1 v] }).objs.size:=by simpa using hb
  subst e;exact I1.fpOk (Nat.le_refl _) (I1.hok.fresh (Nat.le_refl _))
def wU(ta:TA):TI:=fun σ H R=>ta σ H fun vs H1=>∃j:Int,vs=[.int j]/\-(2^62)<=j/\j<2^62/\R (Itr 0 j.toNat) H1
def Bd(ta:TA):TI:=fun σ H R=>ta σ H fun vs H1=>∃i j:Int,vs=[.int i,.int j]/\(-(2^62)<=i/\i<2^62/\-(2^62)<=j/\j<2^62)/\R (Itr i (j - i).toNat) H1
theorem dw{a:Expr}{ta:TA}{p pos:Pos}(hg:Gl X "range")(hm:X.mg "range"=none)(ha:PA X [a] ta)(hs:starEach [a] X.env=[(false,eval a X.env)]:=by rfl):PI X tg (.Call (.Name "range" p) [a] [] pos) (wU ta):=by
 intro pins s σ H R I h;refine Call_ (jd I hg hm boot_range (PyProof.Rows.callWith_type1 (thn (ha pos pins s σ H _ I h) fun us s1 ⟨vs,H1,I1,r1,q1⟩=>?_) hs rfl));obtain⟨j,e,q1,q2,q⟩:=q1;subst e
 cases r1 with
 | cons r rr =>
  cases rr;obtain⟨t,rfl⟩:=r;exact call_range_1 (sG I1 (by omega) (by omega) q1 q2 (by simpa using q))
theorem uO{a b:Expr}{ta:TA}{p pos:Pos}(hg:Gl X "range")(hm:X.mg "range"=none)(ha:PA X [a,b] ta)(hs:starEach [a,b] X.env=[(false,eval a X.env),(false,eval b X.env)]:=by rfl)(hs2:starEach [b] X.env=[(false,eval b X.env)]:=by rfl) :
  PI X tg (.Call (.Name "range" p) [a,b] [] pos) (Bd ta):=by
 intro pins s σ H R I h;refine Call_ (jd I hg hm boot_range (PyProof.Rows.callWith_type1 (thn (ha pos pins s σ H _ I h) fun us s1 ⟨vs,H1,I1,r1,q1⟩=>?_) (by rw [hs,hs2]) (by rw [hs2];rfl)));obtain⟨i,j,e,⟨q1,q2,q3,q4⟩,q⟩:=q1;subst e
 cases r1 with
 | cons r rr =>
  cases rr with
  | cons r' rr =>
   cases rr;obtain⟨t,rfl⟩:=r;obtain⟨t',rfl⟩:=r';exact call_range_2 (sG I1 q1 q2 q3 q4 q)
def CV(wi:TI)(g:TG)(tb:TS):TS:=fun D σ H=>wi σ H fun J H1=>∃W:Nat->Nat->St->Hp->Prop,(∃m,W 0 m σ H1)/\∀i m σ H,W i m σ H ->
 (J.stop i H/\D.nx σ H)\/(J.go i H/\∃N:St->Hp->Prop,(∀σ' H',N σ' H'->∃m',m'<m/\W (i+1) m' σ' H')/\∀x H',J.yld i H x H'->g x σ H' fun σ2 H2=>tb { D with nx:=N,ct:=N,bk:=D.nx } σ2 H2)
def pP(fp:List Addr)(h:Heap):List (Addr×Obj):=fp.filterMap fun b=>(h.get? b).map fun o=>(b,o)
theorem iY{fp:List Addr}{h:Heap}{b:Addr}{o:Obj}(hb:b∈fp)(e:h.get? b=some o):(b,o)∈pP fp h:=mem_filterMap.mpr ⟨b,hb,by rw [e];rfl⟩
theorem uP{fp:List Addr}{h:Heap}{p:Addr×Obj}(hp:p∈pP fp h):p.1∈fp/\h.get? p.1=some p.2:=by
 obtain⟨b,hb,e⟩:=mem_filterMap.mp hp
 cases q:h.get? b with
 | none=>rw [q] at e;cases e
 | some o =>
  rw [q] at e;have e':(b,o)=p:=Option.some.inj e;subst e';exact⟨hb,q⟩
theorem Inv.pinned{pins:List (Addr×Obj)}{σ:St}{H:Hp}{s:Shared}{fp:List Addr}(I:Inv X pins σ H s)(hf:∀b∈fp,tN X pins H b)(ho:∀b∈fp,∃o,s.heap.get? b=some o/\∀v,o.data≠.cell v):Inv X (pins++pP fp s.heap) σ H s :=
 I.pins_of fun p hp=>(mem_append.mp hp).elim (fun z=>I.pin p (mem_append_right _ z)) fun z=>by
  obtain⟨hb,e⟩:=uP z;obtain⟨f0,f1,f2,_⟩:=hf p.1 hb;obtain⟨o,e',d⟩:=ho p.1 hb;rw [e] at e';cases e';exact⟨e,f0,f1,f2,d⟩
theorem Inv.unpinned{pins pl:List (Addr×Obj)}{σ:St}{H:Hp}{s:Shared}(I:Inv X (pins++pl) σ H s):Inv X pins σ H s:=I.pins_of fun p hp=>I.pin p (mem_append_right _ (mem_append_left _ hp))
theorem et{iter:Expr}{body:List Stmt}{wi:TI}{g:TG}{tb:TS}{pos:Pos}(hp:PassesOwn (model X.prog X.w) X.A X.env X.xe)(hc:X.calm=true)(hi:PI X tg iter wi)(hg:PG X tg g)(hb:PSs X body tb)
  (hs:∀x,foldedSetIterable iter X.env x=pure x:=by intro _;rfl):PS X (.For tg iter body [] pos) (CV wi g tb):=by
 intro pins s σ H D I h;refine wpAny_For (thn (hi pins s σ H _ I h) fun v s1 h1=>thn h1 fun itv s2 h2=>?_) hs;obtain⟨it,fp,tn,J,H2,e,I2,T,st2,f2,W,⟨m0,w0⟩,turn⟩:=h2;subst e
 -- what stays true of the iterator's objects through the loop
 have stat:∀{H':Hp},(∀b∈fp,H' b=none)->∀b∈fp,tN X pins H' b:=fun hn b hb=>⟨hn b hb,(f2 b hb).2⟩
 refine codeAny_forLoop_any (fun n s'=>∃i σ' H',Inv X pins σ' H' s'/\tn i s'.heap/\(∀b∈fp,H' b=none)/\W i n σ' H') ?_ m0 ⟨0,σ,H2,I2,st2,fun b hb=>(f2 b hb).1,w0⟩;rintro n s3 ⟨i,σ3,H3,I3,st3,fr3,w3⟩
 rcases turn i n σ3 H3 w3 with ⟨stop,qn⟩|⟨go,N,hN,step⟩
 .refine wpAny_passesOwn hp (thn (T.done X rfl rfl rfl hc i pins s3 σ3 H3 X.xe I3 (stat fr3) st3 stop) fun r s4 ⟨hr,I4⟩=>?_);subst hr;exact wpAny_execs_nil ⟨σ3,H3,I4,qn⟩
 .refine wpAny_passesOwn hp (thn (T.item X rfl rfl rfl hc i pins s3 σ3 H3 X.xe I3 (stat fr3) st3 go) fun r s4 ⟨u,hr,h4⟩=>?_);subst hr;refine wpAny_passesOwn hp (thn h4 fun _ s5 ⟨x,H5,I5,r5,y5,st5,fr5⟩=>?_);have I5':=I5.pinned (stat fr5) (T.obj _ _ st5);refine wpAny_passesOwn hp (thn (hg _ s5 σ3 H5 x u _ I5' r5 (step x H5 y5)) fun _ s6 ⟨σ6,H6,I6,q6⟩=>?_);refine wpAny_passesOwn hp (thn (hb _ s6 σ6 H6 _ I6 q6) fun f s7 q7=>?_)
  have again:∀{σ7:St}{H7:Hp},Inv X (pins++pP fp s5.heap) σ7 H7 s7->N σ7 H7->∃m,m<n/\∃i σ' H',Inv X pins σ' H' s7/\tn i s7.heap/\(∀b∈fp,H' b=none)/\W i m σ' H':=fun {σ7 H7} I7 n7=>by
   obtain⟨m',hm,w7⟩:=hN σ7 H7 n7;refine⟨m',hm,i+1,σ7,H7,I7.unpinned,T.keep _ _ _ st5 fun b hb o e=>(I7.pin (b,o) (mem_append_right _ (mem_append_right _ (iY hb e)))).1,fun b hb=>?_,w7⟩;obtain⟨o,e,d⟩:=T.obj _ _ st5 b hb;exact (I7.pin (b,o) (mem_append_right _ (mem_append_right _ (iY hb e)))).2.1
  cases f with
  | next=>obtain⟨σ7,H7,I7,n7⟩:=q7;exact again I7 n7
  | cont=>obtain⟨σ7,H7,I7,n7⟩:=q7;exact again I7 n7
  | brk=>obtain⟨σ7,H7,I7,q7⟩:=q7;exact⟨σ7,H7,I7.unpinned,q7⟩
  | ret v=>obtain⟨x7,σ7,H7,I7,r7,q7⟩:=q7;exact⟨x7,σ7,H7,I7.unpinned,r7,q7⟩
end
abbrev R2:=V->V->Hp->VK->Prop
def OpR(X:Cx)(f:Value->Value->Sem Value)(r:R2):Prop :=
 ∀(pins:List (Addr×Obj)) (s:Shared) (σ:St) (H:Hp) (x y:V) (v u:Value) (Q:VK),Inv X pins σ H s->eo x v->eo y u->r x y H Q ->
  wpAny (model X.prog X.w) X.A (f v u) (EP X pins σ Q) X.xe s
def UnR(X:Cx)(f:Value->Sem Value)(r:V->Hp->VK->Prop):Prop :=
 ∀(pins:List (Addr×Obj)) (s:Shared) (σ:St) (H:Hp) (x:V) (v:Value) (Q:VK),Inv X pins σ H s->eo x v->r x H Q ->
  wpAny (model X.prog X.w) X.A (f v) (EP X pins σ Q) X.xe s
def cK(X:Cx)(f:Value)(r:List V->Hp->VK->Prop):Prop :=
 ∀(pins:List (Addr×Obj)) (s:Shared) (σ:St) (H:Hp) (xs:List V) (us:List Value) (Q:VK),Inv X pins σ H s->cB xs us->r xs H Q ->
  wpAny (model X.prog X.w) X.A (call f us) (EP X pins σ Q) X.xe s
def tOp(r:R2)(ta tb:TE):TE:=fun σ H Q=>ta σ H fun x H1=>tb σ H1 fun y H2=>r x y H2 Q
def tUn(r:V->Hp->VK->Prop)(ta:TE):TE:=fun σ H Q=>ta σ H fun x H1=>r x H1 Q
def rI(C:Int->Int->Prop)(g:Int->Int->V):R2:=fun x y H Q=>∃i j,x=.int i/\y=.int j/\C i j/\Q (g i j) H
def rI0(g:Int->Int->V):R2:=fun x y H Q=>∃i j,x=.int i/\y=.int j/\Q (g i j) H
def rU(g:Int->V):V->Hp->VK->Prop:=fun x H Q=>∃i,x=.int i/\Q (g i) H
section
variable {X:Cx}{a b c:Expr}{ta tb tc:TE}{pos:Pos}
theorem CW(ha:PE X a ta)(hb:PE X b tb){pins:List (Addr×Obj)}{s:Shared}{σ:St}{H:Hp}{R:V->V->Hp->Prop}(I:Inv X pins σ H s)
  (h:ta σ H fun x H1=>tb σ H1 fun y H2=>R x y H2) {Q:Value->Shared->Prop}{f:Value->Value->Sem Value}
  (hf:∀v u s2 x y H2,Inv X pins σ H2 s2->eo x v->eo y u->R x y H2->wpAny (model X.prog X.w) X.A (f v u) Q X.xe s2) :
  wpAny (model X.prog X.w) X.A (eval a X.env) (fun v s₁=>wpAny (model X.prog X.w) X.A (eval b X.env) (fun u s₂=>wpAny (model X.prog X.w) X.A (f v u) Q X.xe s₂) X.xe s₁) X.xe s:=by
 refine thn (ha pins s σ H _ I h) fun v s1 ⟨x,H1,I1,r1,q1⟩=>?_;refine thn (hb pins s1 σ H1 _ I1 q1) fun u s2 ⟨y,H2,I2,r2,q2⟩=>?_;exact hf v u s2 x y H2 I2 r1 r2 q2
theorem aP{op:Operator}{r:R2}(ho:OpR X (binaryOp op) r)(ha:PE X a ta)(hb:PE X b tb):PE X (.BinOp a op b pos) (tOp r ta tb):=by
 intro pins s σ H Q I h;exact wpAny_BinOp (CW ha hb I h fun v u s2 x y H2 I2 rx ry q=>ho pins s2 σ H2 x y v u Q I2 rx ry q)
theorem tQ{op:UnaryOp}{r:V->Hp->VK->Prop}(ho:UnR X (unaryOp op) r)(ha:PE X a ta):PE X (.UnaryOp op a pos) (tUn r ta):=by
 intro pins s σ H Q I h;exact UnaryOp_ (thn (ha pins s σ H _ I h) fun v s1 ⟨x,H1,I1,r1,q1⟩=>ho pins s1 σ H1 x v Q I1 r1 q1)
theorem opI{f:Value->Value->Sem Value}{C:Int->Int->Prop}{g:Int->Int->Int}
  (rule:∀(i j:Int) (t u:Tok) (s:Shared) (Q:Value->Shared->Prop) (E:Value->Shared->Prop),C i j->Q (.int (g i j) s.toks) { s with toks:=s.toks+1 }->wpAny (model X.prog X.w) X.A (f (.int i t) (.int j u)) Q E s) :
  OpR X f (rI C fun i j=>.int (g i j)):=by
 intro pins s σ H x y v u Q I rx ry h;obtain⟨i,j,rfl,rfl,hc,q⟩:=h;obtain⟨t,rfl⟩:=rx;obtain⟨t',rfl⟩:=ry;exact rule i j t t' s _ _ hc ⟨.int (g i j),H,I.tok _,⟨_,rfl⟩,q⟩
theorem DZ{f:Value->Value->Sem Value}{g:Int->Int->Int}
  (rule:∀(i j:Int) (t u:Tok) (s:Shared) (Q:Value->Shared->Prop) (E:Value->Shared->Prop),Q (.int (g i j) s.toks) { s with toks:=s.toks+1 }->wpAny (model X.prog X.w) X.A (f (.int i t) (.int j u)) Q E s) :
  OpR X f (rI0 fun i j=>.int (g i j)):=by
 intro pins s σ H x y v u Q I rx ry h;obtain⟨i,j,rfl,rfl,q⟩:=h;obtain⟨t,rfl⟩:=rx;obtain⟨t',rfl⟩:=ry;exact rule i j t t' s _ _ ⟨.int (g i j),H,I.tok _,⟨_,rfl⟩,q⟩
theorem AM{f:Value->Value->Sem Value}{g:Int->Int->Bool}
  (rule:∀(i j:Int) (t u:Tok) (s:Shared) (Q:Value->Shared->Prop) (E:Value->Shared->Prop),Q (.bool (g i j)) s->wpAny (model X.prog X.w) X.A (f (.int i t) (.int j u)) Q E s) :
  OpR X f (rI0 fun i j=>.bl (g i j)):=by
 intro pins s σ H x y v u Q I rx ry h;obtain⟨i,j,rfl,rfl,q⟩:=h;obtain⟨t,rfl⟩:=rx;obtain⟨t',rfl⟩:=ry;exact rule i j t t' s _ _ ⟨.bl (g i j),H,I,rfl,q⟩
def CY(i j:Int):Prop:=0<j/\j<1073741824
def CZ(i j:Int):Prop:=0<=j/\j<=1000000/\i.natAbs<2^64
def CI(i j:Int):Prop:=(-(2^64)<i/\i<2^64)\/(-(2^64)<j/\j<2^64)
theorem CI.ok{i j:Int}(h:CI i j):IntMulOk i j:=by
 rcases h with ⟨h1,h2⟩|⟨h1,h2⟩
 .exact .of_left (intBits_le_64 h1 h2)
 .exact .of_right (intBits_le_64 h1 h2)
theorem Be:OpR X (binaryOp .Add) (rI0 fun i j=>.int (i+j)):=DZ fun _ _ _ _ _ _ _ q=>add_int q
theorem Bf:OpR X (binaryOp .Sub) (rI0 fun i j=>.int (i - j)):=DZ fun _ _ _ _ _ _ _ q=>sub_int q
theorem Bg:OpR X (binaryOp .Mult) (rI CI fun i j=>.int (i*j)):=opI fun _ _ _ _ _ _ _ hc q=>mul_int q hc.ok
theorem ze:OpR X (binaryOp .FloorDiv) (rI CY fun i j=>.int (i / j)):=opI fun i j _ _ _ _ _ hc q=>by
 have h1:(0:Int)<j:=hc.1;have h2:j<1073741824:=hc.2;exact floordiv_int (by omega) (by rw [fdiv_eq_ediv_of_nonneg i (by omega)];exact q) (.inl (PyProof.noPylong_small (by omega)))
theorem Bh:OpR X (binaryOp .Mod) (rI (fun _ j=>0<j) fun i j=>.int (i % j)):=opI fun i j _ _ _ _ _ hc q=>by
 have h1:(0:Int)<j:=hc;exact mod_int' (by omega) (by rw [fmod_eq_emod_of_nonneg i (by omega)];exact q)
theorem Bi:OpR X (binaryOp .Pow) (rI CZ fun i j=>.int (i^j.toNat)):=opI fun _ _ _ _ _ _ _ hc q=>pow_int_small hc.1 hc.2.1 hc.2.2 q
theorem unI{f:Value->Sem Value}{g:Int->Int}
  (rule:∀(i:Int) (t:Tok) (s:Shared) (Q:Value->Shared->Prop) (E:Value->Shared->Prop),Q (.int (g i) s.toks) { s with toks:=s.toks+1 }->wpAny (model X.prog X.w) X.A (f (.int i t)) Q E s) :
  UnR X f (rU fun i=>.int (g i)):=by
 intro pins s σ H x v Q I rx h;obtain⟨i,rfl,q⟩:=h;obtain⟨t,rfl⟩:=rx;exact rule i t s _ _ ⟨.int (g i),H,I.tok _,⟨_,rfl⟩,q⟩
theorem nO:UnR X (unaryOp .USub) (rU fun i=>.int (-i)):=unI fun _ _ _ _ _ q=>neg_int q
end
def D0:V->V->Bool
 | .non,.non=>true|.non,.int _=>true|.int _,.non=>true|.non,.bl _=>true|.bl _,.non=>true|.non,.str _=>true|.str _,.non=>true
 | .int _,.int _=>true|.bl _,.bl _=>true|.str _,.str _=>true|.byt _,.byt _=>true
 | .int _,.str _=>true|.str _,.int _=>true|.bl _,.str _=>true|.str _,.bl _=>true
 | _,_=>false
def rEq:R2:=fun x y H Q=>D0 x y=true/\Q (.bl (decide (x=y))) H
def rNe:R2:=fun x y H Q=>D0 x y=true/\Q (.bl (!decide (x=y))) H
theorem uQ{i j:Int}:decide (V.int i=V.int j)=(i == j):=by
 rw [Bool.eq_iff_iff];simp
theorem yn{i j:Bool}:decide (V.bl i=V.bl j)=(i == j):=by
 rw [Bool.eq_iff_iff];simp
theorem uR{i j:Str}:decide (V.str i=V.str j)=(i == j):=by
 rw [Bool.eq_iff_iff];simp
theorem uS{i j:Array UInt8}:decide (V.byt i=V.byt j)=(i.toList == j.toList):=by
 rw [Bool.eq_iff_iff];cases i;cases j;simp
section
variable {X:Cx}{a b c:Expr}{ta tb tc:TE}{pos:Pos}
theorem bZ{pins:List (Addr×Obj)}{σ:St}{H:Hp}{s:Shared}{Q:VK}{k k':Bool}(I:Inv X pins σ H s)(q:Q (.bl k) H)(e:k=k'):EP X pins σ Q (.bool k') s:=by
 subst e;exact⟨.bl k,H,I,rfl,q⟩
theorem C1:OpR X (compareOp .Eq) rEq:=by
 intro pins s σ H x y v u Q I rx ry h;obtain⟨hs,q⟩:=h
 cases x with
 | non =>
  cases rx
  cases y with
  | non=>cases ry;exact PySem.EqNone.eq_none_none (bZ I q (by simp))
  | bl j=>cases ry;exact PySem.EqNone.eq_none_bool (bZ I q (by simp))
  | int j=>obtain⟨t',rfl⟩:=ry;exact PySem.EqNone.eq_none_int (bZ I q (by simp))
  | str j=>obtain⟨t',rfl⟩:=ry;exact PySem.EqNone.eq_none_str (bZ I q (by simp))
  | _=>exact absurd (show false=true from hs) Bool.false_ne_true
 | bl i =>
  cases rx
  cases y with
  | non=>cases ry;exact PySem.EqNone.eq_bool_none (bZ I q (by simp))
  | bl j=>cases ry;exact eq_bool (bZ I q yn)
  | str j=>obtain⟨t',rfl⟩:=ry;exact PySem.EqMixed.eq_bool_str (bZ I q (by simp))
  | _=>exact absurd (show false=true from hs) Bool.false_ne_true
 | int i =>
  obtain⟨t,rfl⟩:=rx
  cases y with
  | non=>cases ry;exact PySem.EqNone.eq_int_none (bZ I q (by simp))
  | int j=>obtain⟨t',rfl⟩:=ry;exact eq_int (bZ I q uQ)
  | str j=>obtain⟨t',rfl⟩:=ry;exact PySem.EqMixed.eq_int_str (bZ I q (by simp))
  | _=>exact absurd (show false=true from hs) Bool.false_ne_true
 | str i =>
  obtain⟨t,rfl⟩:=rx
  cases y with
  | non=>cases ry;exact PySem.EqNone.eq_str_none (bZ I q (by simp))
  | bl j=>cases ry;exact PySem.EqMixed.eq_str_bool (bZ I q (by simp))
  | int j=>obtain⟨t',rfl⟩:=ry;exact PySem.EqMixed.eq_str_int (bZ I q (by simp))
  | str j=>obtain⟨t',rfl⟩:=ry;exact eq_str (bZ I q uR)
  | _=>exact absurd (show false=true from hs) Bool.false_ne_true
 | byt i =>
  obtain⟨t,rfl⟩:=rx
  cases y with
  | byt j=>obtain⟨t',rfl⟩:=ry;exact PySem.W.eq_bytes (bZ I q uS)
  | _=>exact absurd (show false=true from hs) Bool.false_ne_true
 | _=>cases y <;> exact absurd (show false=true from hs) Bool.false_ne_true
theorem C3:OpR X (compareOp .NotEq) rNe:=by
 intro pins s σ H x y v u Q I rx ry h;obtain⟨hs,q⟩:=h
 cases x with
 | non =>
  cases rx
  cases y with
  | non=>cases ry;exact PySem.EqNone.ne_none_none (bZ I q (by simp))
  | bl j=>cases ry;exact PySem.EqNone.ne_none_bool (bZ I q (by simp))
  | int j=>obtain⟨t',rfl⟩:=ry;exact PySem.EqNone.ne_none_int (bZ I q (by simp))
  | str j=>obtain⟨t',rfl⟩:=ry;exact PySem.EqNone.ne_none_str (bZ I q (by simp))
  | _=>exact absurd (show false=true from hs) Bool.false_ne_true
 | bl i =>
  cases rx
  cases y with
  | non=>cases ry;exact PySem.EqNone.ne_bool_none (bZ I q (by simp))
  | bl j=>cases ry;exact ne_bool (bZ I q (congrArg not yn))
  | str j=>obtain⟨t',rfl⟩:=ry;exact PySem.EqMixed.ne_bool_str (bZ I q (by simp))
  | _=>exact absurd (show false=true from hs) Bool.false_ne_true
 | int i =>
  obtain⟨t,rfl⟩:=rx
  cases y with
  | non=>cases ry;exact PySem.EqNone.ne_int_none (bZ I q (by simp))
  | int j=>obtain⟨t',rfl⟩:=ry;exact ne_int (bZ I q (congrArg not uQ))
  | str j=>obtain⟨t',rfl⟩:=ry;exact PySem.EqMixed.ne_int_str (bZ I q (by simp))
  | _=>exact absurd (show false=true from hs) Bool.false_ne_true
 | str i =>
  obtain⟨t,rfl⟩:=rx
  cases y with
  | non=>cases ry;exact PySem.EqNone.ne_str_none (bZ I q (by simp))
  | bl j=>cases ry;exact PySem.EqMixed.ne_str_bool (bZ I q (by simp))
  | int j=>obtain⟨t',rfl⟩:=ry;exact PySem.EqMixed.ne_str_int (bZ I q (by simp))
  | str j=>obtain⟨t',rfl⟩:=ry;exact ne_str (bZ I q (congrArg not uR))
  | _=>exact absurd (show false=true from hs) Bool.false_ne_true
 | byt i =>
  obtain⟨t,rfl⟩:=rx
  cases y with
  | byt j=>obtain⟨t',rfl⟩:=ry;exact PySem.W.ne_bytes (bZ I q (congrArg not uS))
  | _=>exact absurd (show false=true from hs) Bool.false_ne_true
 | _=>cases y <;> exact absurd (show false=true from hs) Bool.false_ne_true
theorem C4:OpR X (compareOp .Lt) (rI0 fun i j=>.bl (decide (i<j))):=AM fun _ _ _ _ _ _ _ q=>lt_int q
theorem C5:OpR X (compareOp .LtE) (rI0 fun i j=>.bl (decide (i<=j))):=AM fun _ _ _ _ _ _ _ q=>le_int q
theorem C6:OpR X (compareOp .Gt) (rI0 fun i j=>.bl (decide (j<i))):=AM fun _ _ _ _ _ _ _ q=>gt_int q
theorem C7:OpR X (compareOp .GtE) (rI0 fun i j=>.bl (decide (j<=i))):=AM fun _ _ _ _ _ _ _ q=>ge_int q
theorem uT:OpR X (compareOp .Lt) (fun x y H Q=>∃i j,x=.str i/\y=.str j/\Q (.bl (decide (i.cps.toList<j.cps.toList))) H):=by
 intro pins s σ H x y v u Q I rx ry h;obtain⟨i,j,rfl,rfl,q⟩:=h;obtain⟨t,rfl⟩:=rx;obtain⟨t',rfl⟩:=ry;exact lt_str (bZ I q rfl)
theorem Bj:OpR X (compareOp .Is) (fun x y H Q=>y=.non/\Q (.bl (decide (x=.non))) H):=by
 intro pins s σ H x y v u Q I rx ry h;obtain⟨rfl,q⟩:=h;cases ry;refine is_none_gen (bZ I q ?_)
 cases x <;> first
  | (cases rx;rfl)
  | (obtain ⟨t,rfl⟩:=rx;rfl)
theorem OpR.or{f:Value->Value->Sem Value}{r r':R2}(h:OpR X f r)(h':OpR X f r'):OpR X f (fun x y H Q=>r x y H Q\/r' x y H Q):=by
 intro pins s σ H x y v u Q I rx ry q
 rcases q with q|q
 .exact h pins s σ H x y v u Q I rx ry q
 .exact h' pins s σ H x y v u Q I rx ry q
theorem aZ(b:Expr){op:CmpOp}(h:op≠.In:=by decide)(h2:op≠.NotIn:=by decide):behindInMarks op b=false:=by
 have e1:(op == CmpOp.In)=false:=by cases op <;> first|rfl|exact absurd rfl h
 have e2:(op == CmpOp.NotIn)=false:=by cases op <;> first|rfl|exact absurd rfl h2
 cases b <;> simp [behindInMarks,e1,e2]
theorem cS{op:CmpOp}{r:R2}(ho:OpR X (compareOp op) r)(ha:PE X a ta)(hb:PE X b tb)(hm:behindInMarks op b=false):PE X (.Compare a [op] [b] pos) (tOp r ta tb):=by
 intro pins s σ H Q I h;exact wpAny_Compare1 (CW ha hb I h fun v u s2 x y H2 I2 rx ry q=>ho pins s2 σ H2 x y v u Q I2 rx ry q) hm
def uU(t:TE):TT:=fun σ H Q=>t σ H fun x H'=>∃k,x=.bl k/\Q k H'
theorem ba{op:CmpOp}{r:R2}(ho:OpR X (compareOp op) r)(ha:PE X a ta)(hb:PE X b tb)(hm:behindInMarks op b=false):PT X (.Compare a [op] [b] pos) (uU (tOp r ta tb)):=by
 intro pins s σ H Q I h
 refine wpAny_isTrue_Compare1 (thn (ha pins s σ H _ I h) fun v s1 ⟨x,H1,I1,r1,q1⟩=>thn (hb pins s1 σ H1 _ I1 q1) fun u s2 ⟨y,H2,I2,r2,q2⟩ =>
  thn (ho pins s2 σ H2 x y v u _ I2 r1 r2 q2) fun c s3 ⟨z,H3,I3,r3,k,e,q3⟩=>?_) hm
 subst e;cases r3;exact wpAny_truthy_bool ⟨H3,I3,q3⟩
def sH(r r':R2)(ta tb tc:TE):TE:=fun σ H Q=>ta σ H fun x H1=>tb σ H1 fun y H2=>r x y H2 fun z H3=>∃k,z=.bl k /\
 (if k=true then tc σ H3 fun w' H4=>r' y w' H4 Q else Q (.bl false) H3)
theorem sI{op op':CmpOp}{r r':R2}(ho:OpR X (compareOp op) r)(ho':OpR X (compareOp op') r')(ha:PE X a ta)(hb:PE X b tb)(hc:PE X c tc)
  (hm:lastMarks [op,op'] [b,c]=false:=by with_unfolding_all rfl):PE X (.Compare a [op,op'] [b,c] pos) (sH r r' ta tb tc):=by
 intro pins s σ H Q I h
 refine Compare_chain (thn (ha pins s σ H _ I h) fun v s1 ⟨x,H1,I1,r1,q1⟩=>chain_link (thn (hb pins s1 σ H1 _ I1 q1) fun u s2 ⟨y,H2,I2,r2,q2⟩ =>
  thn (ho pins s2 σ H2 x y v u _ I2 r1 r2 q2) fun d s3 ⟨z,H3,I3,r3,k,e,q3⟩=>?_)) hm
 subst e;cases r3;refine wpAny_truthy_bool ?_
 cases k with
 | false=>exact ite_ff ⟨.bl false,H3,I3,rfl,q3⟩
 | true=>exact ite_tt (chain_last (thn (hc pins s3 σ H3 _ I3 q3) fun w' s4 ⟨z',H4,I4,r4,q4⟩=>ho' pins s4 σ H4 y z' u w' Q I4 r2 r4 q4))
theorem sJ{op op':CmpOp}{r r':R2}(ho:OpR X (compareOp op) r)(ho':OpR X (compareOp op') r')(ha:PE X a ta)(hb:PE X b tb)(hc:PE X c tc)
  (hm:lastMarks [op,op'] [b,c]=false:=by with_unfolding_all rfl):PT X (.Compare a [op,op'] [b,c] pos) (uU (sH r r' ta tb tc)):=by
 intro pins s σ H Q I h
 refine isTrue_chain (thn (ha pins s σ H _ I h) fun v s1 ⟨x,H1,I1,r1,q1⟩=>test_link (thn (hb pins s1 σ H1 _ I1 q1) fun u s2 ⟨y,H2,I2,r2,q2⟩ =>
  thn (ho pins s2 σ H2 x y v u _ I2 r1 r2 q2) fun d s3 ⟨z,H3,I3,r3,k,e,q3⟩=>?_)) hm
 subst e;cases r3;refine wpAny_truthy_bool ?_
 cases k with
 | false =>
  obtain⟨k',e',q'⟩:=q3;cases e';exact ite_ff ⟨H3,I3,q'⟩
 | true =>
  refine ite_tt (test_last (thn (hc pins s3 σ H3 _ I3 q3) fun w' s4 ⟨z',H4,I4,r4,q4⟩=>thn (ho' pins s4 σ H4 y z' u w' _ I4 r2 r4 q4) fun d' s5 ⟨z2,H5,I5,r5,k2,e2,q5⟩=>?_));subst e2;cases r5;exact wpAny_truthy_bool ⟨H5,I5,q5⟩
theorem nP:(sizeLine:Nat)<2^63:=by rw [sizeLine_eq];decide
theorem tR:OpR X (binaryOp .Add) (fun x y H Q=>∃i j,x=.str i/\y=.str j/\i.length+j.length<=sizeLine/\Q (.str (i++j)) H):=by
 intro pins s σ H x y v u Q I rx ry h;obtain⟨i,j,rfl,rfl,hz,q⟩:=h;obtain⟨t,rfl⟩:=rx;obtain⟨t',rfl⟩:=ry;exact add_str (fun t' tk=>⟨.str (i++j),H,I.tok _,⟨_,rfl⟩,q⟩) hz
theorem m9{x:V}{us:List Value}(r:cB [x] us):∃u,us=[u]/\eo x u:=by
 cases r with
 | cons r1 r2=>cases r2;exact⟨_,rfl,r1⟩
theorem tS{x y:V}{us:List Value}(r:cB [x,y] us):∃u w',us=[u,w']/\eo x u/\eo y w':=by
 cases r with
 | cons r1 r2 =>
  cases r2 with
  | cons r3 r4=>cases r4;exact⟨_,_,rfl,r1,r3⟩
theorem uV(hc:X.calm=true):cK X (.builtin "max") (fun xs H Q=>∃i j,xs=[.int i,.int j]/\Q (.int (if j > i then j else i)) H):=by
 intro pins s σ H xs us Q I r h;obtain⟨i,j,rfl,q⟩:=h;obtain⟨u,w',rfl,⟨t,rfl⟩,⟨t',rfl⟩⟩:=tS r;refine max_two_ints (I.ok.hd hc) fun h' tk k=>⟨_,H,I.kept k,?_,q⟩
 by_cases hj:j > i
 .rw [if_pos hj,if_pos hj];exact⟨_,rfl⟩
 .rw [if_neg hj,if_neg hj];exact⟨_,rfl⟩
end
structure C8 (h:Heap) (x dx C:Addr) (mA:Str->Option Value):Prop where
 obj:h.get? x=some (PySem.W.instObj C dx)
 ns:h.Ns1 dx mA
 ne:dx≠x
theorem uW{h:Heap}{dx:Addr}{mA:Str->Option Value}(n:h.Ns1 dx mA):∃od,h.get? dx=some od/\∀name,PySem.W.lookIn name od=some (mA name):=by
 obtain⟨o,es,ep,ho,hd,hk,_,hm⟩:=n;refine⟨o,ho,fun name=>?_⟩;have e:=hm name;unfold nsFind findBy at e;rw [<- Array.find?_toList] at e;unfold PySem.W.lookIn;rw [hd];dsimp only
 split
 .rename_i y q;rw [q] at e;exact congrArg some e
 .rename_i q;rw [q] at e
  have a:es.toList.any (·.refKey)=false:=by
   rw [any_eq_false];intro y hy;obtain⟨z,t,hkey⟩:=hk y (Array.mem_toList_iff.mp hy);simp [DictEntry.refKey,hkey]
  have a':¬ es.toList.any (·.refKey)=true:=by rw [a];exact Bool.false_ne_true
  rw [if_neg a'];exact congrArg some e
theorem C8.look{h:Heap}{x dx C:Addr}{mA:Str->Option Value}(I:C8 h x dx C mA):∃od,PySem.W.InstAt h x (PySem.W.instObj C dx) C (some od)/\∀name,PySem.W.lookIn name od=some (mA name) :=
 let ⟨od,ho,hl⟩:=uW I.ns
 ⟨od,⟨I.obj,rfl,rfl,ho⟩,hl⟩
theorem yj.some_of{v:V}{o:Option Value}(r:yj (some v) o):∃u,o=some u/\eo v u:=by
 cases o with
 | none=>exact (show False from r).elim
 | some u=>exact⟨u,rfl,r⟩
section
variable {P:Program}{w:World}{H H':Hp}{h h':Heap}{a C dx:Addr}{fs fs':List (Str×V)}
theorem uX(hok:HOk P w H h)(e:H a=some (.ins C dx fs)):∃mA,C8 h a dx C mA/\(∀f,yj (fs.lookup f) (mA f))/\PySem.Within mA (fs.map (·.1))/\fs.length<=1000/\H dx=some (.own a):=by
 obtain⟨d,z,ne,ob,mA,n,r,q⟩:=(show ck P w H h a (.ins C dx fs) from hok a _ e)
 exact⟨mA,⟨ob,n,ne⟩,r,q,z,d⟩
end
structure Cls (K:PySem.W.Frag) (C:Addr):Prop where
 pg:PySem.W.plainGet K C Str.empty=true
 hd:PySem.W.hasDictIn K C=true
 po:PySem.W.plainOver K C=true
 sa:PySem.W.findIn K (.ref C) "__setattr__"=some (some (.builtin "object.__setattr__"))
theorem Cls.get{K:PySem.W.Frag}{C:Addr}(c:Cls K C)(f:Str):PySem.W.plainGet K C f=true:=c.pg
section
variable {X:Cx}{pins:List (Addr×Obj)}{σ:St}{H:Hp}{s:Shared}{a C dx:Addr}{fs:List (Str×V)}{f:Str}{v:V}{A:Around}{E:Value->Shared->Prop}
theorem zf{prog:Program}{w:World}{env:Env}{e:Expr}{f:Str}{pos:Pos}{s:Shared}{Q:Value->Shared->Prop}(hb:attributeBase e f env (eval e env)=eval e env)
  (h:wpAny (model prog w) A (eval e env) (fun o s₁=>wpAny (model prog w) A (getAttr o f true) Q E s₁) E s):wpAny (model prog w) A (eval (.Attribute e f pos) env) Q E s :=
 Attribute_any_ h (by rw [arm_eval_Attribute,hb])
end
section
variable {X:Cx}{pins:List (Addr×Obj)}{σ:St}{H:Hp}{s:Shared}{A:Around}{E:Value->Shared->Prop}{Q:Value->Shared->Prop}{c:Value}{b:Bool}
inductive pM (K:PySem.W.Frag) (H:Hp):V->Value->Prop where
 | non:pM K H .non (.type "NoneType")
 | bl (x:Bool):pM K H (.bl x) (.type "bool")
 | int (i:Int):pM K H (.int i) (.type "int")
 | str (x:Str):pM K H (.str x) (.type "str")
 | flt (x:UInt64):pM K H (.flt x) (.type "float")
 | lst {a:Addr}{xs:List V} (e:H a=some (.lst xs)):pM K H (.ref a) (.type "list")
 | frz {a:Addr}{o:Obj}{xs:List V} (e:H a=some (.frz o (.lst xs))):pM K H (.ref a) (.type "list")
 | tup {a:Addr}{xs:List V} (e:H a=some (.tup xs)):pM K H (.ref a) (.type "tuple")
 | dK {a:Addr}{kvs:List (Key×V)} (e:H a=some (.dK kvs)):pM K H (.ref a) (.type "dict")
 | dT {a:Addr}{kvs:List (List Key×V)} (e:H a=some (.dT kvs)):pM K H (.ref a) (.type "dict")
 | ins {a C dx:Addr}{fs:List (Str×V)} (e:H a=some (.ins C dx fs)) (cl:Cls K C) (ha:PySem.W.findIn K (.ref C) "__class__"=some (some (.builtin "object.__class__")))
   (hn:PySem.W.specialIn K (.builtin "object.__class__") "__get__"=some (some (.builtin "getset_descriptor.__get__"))) (htk:PySem.W.takesIn K (.builtin "object.__class__")=some true)
   (hm:PySem.W.mroIn K C (.type "object")=some true):pM K H (.ref a) (.ref C)
theorem uY{x:V}{u t:Value}(I:Inv X pins σ H s)(rx:eo x u)(ty:pM X.K H x t)(e:PySem.W.kitOne X.K t c=some b)(h:∀tk,Q (.bool b) { s with toks:=tk }) :
  wpAny (model X.prog X.w) A (call (.builtin "isinstance") [u,c]) Q E s:=by
 cases ty with
 | non=>cases (show u=Value.none from rx);exact PySem.W.kia_one PySem.W.kitx_none I.kIn True.intro e (fun z=>nomatch z) h
 | bl y=>cases (show u=Value.bool y from rx);exact PySem.W.kia_one PySem.W.kitx_bool I.kIn True.intro e (fun z=>nomatch z) h
 | int i=>obtain⟨t,q⟩:=(show ∃t,u=Value.int i t from rx);cases q;exact PySem.W.kia_one PySem.W.kitx_int I.kIn True.intro e (fun z=>nomatch z) h
 | str y=>obtain⟨t,q⟩:=(show ∃t,u=Value.str y t from rx);cases q;exact PySem.W.kia_one PySem.W.kitx_str I.kIn True.intro e (fun z=>nomatch z) h
 | flt y=>obtain⟨t,q⟩:=(show ∃t,u=Value.float y t from rx);cases q;exact PySem.W.kia_one PySem.W.kitx_float I.kIn True.intro e (fun z=>nomatch z) h
 | @lst a xs ea =>
  cases (show u=Value.ref a from rx);obtain⟨_,_,n,_,h1⟩:=(show ck X.prog X.w H s.heap a (.lst xs) from I.hok a _ ea)
  exact PySem.W.kia_one PySem.W.kitx_list I.kIn ⟨_,h1,rfl⟩ e (fun z=>nomatch z) h
 | @frz a ob xs ea =>
  cases (show u=Value.ref a from rx);obtain⟨_,_,_,n,_,h1⟩:=(show ck X.prog X.w H s.heap a (.frz ob (.lst xs)) from I.hok a _ ea)
  exact PySem.W.kia_one PySem.W.kitx_list I.kIn ⟨_,h1,rfl⟩ e (fun z=>nomatch z) h
 | @tup a xs ea =>
  cases (show u=Value.ref a from rx);obtain⟨_,_,_,p⟩:=(show ck X.prog X.w H s.heap a (.tup xs) from I.hok a _ ea)
  obtain⟨o,h1,h2,_⟩:=p;exact PySem.W.kia_one PySem.W.kitx_tuple I.kIn ⟨o,h1,h2⟩ e (fun z=>nomatch z) h
 | @dK a kvs ea =>
  cases (show u=Value.ref a from rx);obtain⟨_,_,vs,_,p⟩:=(show ck X.prog X.w H s.heap a (.dK kvs) from I.hok a _ ea)
  obtain⟨o,es,ep,h1,h2,_⟩:=p;exact PySem.W.kia_one PySem.W.kitx_dict I.kIn ⟨o,h1,h2.1⟩ e (fun z=>nomatch z) h
 | @dT a kvs ea =>
  cases (show u=Value.ref a from rx);obtain⟨_,_,xs,_,o,es,ep,h1,h2,_⟩:=(show ck X.prog X.w H s.heap a (.dT kvs) from I.hok a _ ea)
  exact PySem.W.kia_one PySem.W.kitx_dict I.kIn ⟨o,h1,h2.1⟩ e (fun z=>nomatch z) h
 | @ins a C dx fs ea cl ha hn htk hm =>
  cases (show u=Value.ref a from rx);obtain⟨mA,O,_⟩:=uX I.hok ea;obtain⟨od,J,_⟩:=O.look;exact PySem.W.kia_one (PySem.W.kitx_own (cl.get _) cl.hd ha hn htk hm) I.kIn J e (fun z=>nomatch z) h
end
structure iA (k:Nat) (A:Around):Prop where
 hd:A.handled=none
 dp:A.depth+3*k+5<recursionLimit
 un:A.units+16*k+200<cLine
theorem iA.mono{j k:Nat}{A:Around}(r:iA k A)(h:j<=k):iA j A:=⟨r.hd,by have:=r.dp;omega,by have:=r.un;omega⟩
theorem iA.deeper{k:Nat}{A:Around}(r:iA (k+1) A)(env:Env):iA k (A.deeper env) :=
 ⟨r.hd,by have:=r.dp;show A.depth+1+3*k+5<_;omega,by have:=r.un;show A.units+3+16*k+200<_;omega⟩
theorem tT{A:Around}{C:Addr}{us:List Value}{kw:List (Str×Value)}:(A.under (.builtin "type.__call__" ⟨.ref C::us,kw⟩)).depth=A.depth+1:=by
 first|rfl|simp [Around.under,Code.weight,Code.isCreation,Code.isGuard,Code.isCaller,Code.frames,Code.isFrame,guardIds]
theorem tU{A:Around}{C:Addr}{us:List Value}{kw:List (Str×Value)}:(A.under (.builtin "type.__call__" ⟨.ref C::us,kw⟩)).units=A.units+1:=by
 first|rfl|simp [Around.under,Code.cUnits,Code.frames,Code.isFrame]
theorem iA.make{k:Nat}{A:Around}(r:iA (k+1) A)(C:Addr)(us:List Value)(kw:List (Str×Value)):iA k (A.under (.builtin "type.__call__" ⟨.ref C::us,kw⟩)) :=
 ⟨r.hd,by have:=r.dp;rw [tT];omega,by have:=r.un;rw [tU];omega⟩
theorem iA.depth{k:Nat}{A:Around}(r:iA k A):A.depth<recursionLimit:=by have:=r.dp;omega
theorem iA.units{k:Nat}{A:Around}(r:iA k A):A.units+64<cLine:=by have:=r.un;omega
def jO:TA:=fun _ H Q=>Q [] H
def bR(ta:TE)(tr:TA):TA:=fun σ H Q=>ta σ H fun x H1=>tr σ H1 fun xs H2=>Q (x::xs) H2
section
variable {X:Cx}{e:Expr}{es:List Expr}{te:TE}{t:TA}{pos:Pos}
theorem ai:PA X [] jO:=fun _ _ _ _ H Q I h=>Calls.spliced_nil ⟨[],H,I,.nil,h⟩
theorem zg(ha:PE X e te)(hr:PA X es t)(hs:starEach (e::es) X.env=(false,eval e X.env)::starEach es X.env:=by rfl):PA X (e::es) (bR te t):=by
 intro pos pins s σ H Q I h;rw [hs];show wpAny _ _ (spliced ((false,eval e X.env)::backTo pos (starEach es X.env))) _ _ s;refine Calls.spliced_cons (thn (ha pins s σ H _ I h) fun u s1 ⟨x,H1,I1,r1,q1⟩=>?_);exact thn (hr pos pins s1 σ H1 _ I1 q1) fun us s2 ⟨xs,H2,I2,r2,q2⟩=>⟨x::xs,H2,I2,.cons r1 r2,q2⟩
def AN(t:TA):TE:=fun σ H Q=>t σ H fun xs H1=>xs.length<=sizeLine/\∀p,H1 p=none->Q (.ref p) (upd H1 p (.tup xs))
def D1(t:TA):TE:=fun σ H Q=>t σ H fun xs H1=>xs.length<=sizeLine/\∀p,H1 p=none->Q (.ref p) (upd H1 p (.lst xs))
theorem fu{x1}(h:PA X es t):PE X (.Tuple es x1 pos) (AN t):=by
 intro pins s σ H Q I hq;refine wpAny_Tuple_spliced (thn (h pos pins s σ H _ I hq) fun us s1 ⟨xs,H1,I1,r,z,q⟩=>⟨by rw [<- r.length];exact z,?_⟩);have hf:H1 s1.heap.objs.size=none:=I1.hok.fresh (Nat.le_refl _);refine⟨.ref s1.heap.objs.size,upd H1 s1.heap.objs.size (.tup xs),I1.laid (t':=s1.toks) (fun b u e=>Heap.get?_push_of_some _ e) (Nat.le_refl _) ?_,rfl,q _ hf⟩;exact⟨z,us,r,⟨_,Heap.get?_push_size _ rfl,rfl,_,rfl⟩⟩
theorem dy(h:PA X es t):PE X (.List es pos) (D1 t):=by
 intro pins s σ H Q I hq;refine wpAny_List_spliced (thn (h pos pins s σ H _ I hq) fun us s1 ⟨xs,H1,I1,r,z,q⟩=>⟨by rw [<- r.length];exact z,?_⟩);have hf:H1 s1.heap.objs.size=none:=I1.hok.fresh (Nat.le_refl _);refine⟨.ref s1.heap.objs.size,upd H1 s1.heap.objs.size (.lst xs),I1.laid (t':=s1.toks) (fun b u e=>Heap.get?_push_of_some _ e) (Nat.le_refl _) ?_,rfl,q _ hf⟩;exact⟨z,us,0,r,Heap.get?_push_size _ rfl⟩
end
abbrev Sp:=List V->Hp->VK->XK->Prop
abbrev CXT:=List Env->Hp->Shared->XK->Value->Shared->Prop
structure wV (P:Program) (w:World) (K:PySem.W.Frag) (mg:Str->Option Value) (base:Heap) (A:Around) (outer:List Env) (s:Shared) (H:Hp):Prop where
 frames:A.frames=some outer
 mod:Mod K mg base
 bs:∀b o,base.get? b=some o->s.heap.get? b=some o/\H b=none
 bsz:base.objs.size<=s.heap.objs.size
 funs:s.heap.FunFrames base outer
 frf:∀b∈frs outer,H b=none
 hok:HOk P w H s.heap
 bare:AllBare s.gens
def CE(outer:List Env)(P:Program)(w:World)(H:Hp)(s:Shared)(Q:VK)(u:Value)(s':Shared):Prop :=
 ∃v H',s'.os=s.os/\AllBare s'.gens/\Un (frs outer) [] H H' s.heap s'.heap/\HOk P w H' s'.heap/\eo v u/\Q v H'
def CR(CX:CXT)(outer:List Env)(P:Program)(w:World)(H:Hp)(s:Shared)(Q:VK)(E:XK)(r:Result)(s':Shared):Prop :=
 match r with
 | .ok (.ret u)=>CE outer P w H s Q u s'
 | .ok _=>False
 | .error e=>CX outer H s E e s'
structure pQ (P:Program) (w:World) (K:PySem.W.Frag) (mg:Str->Option Value) (base:Heap) (CX:CXT) (k:Nat) (f:Addr) (fd:FuncData) (ps:List Str) (sp:Sp):Prop where
 len:∀vs H Q E,sp vs H Q E->vs.length=ps.length
 run:∀(A:Around) (outer:List Env) (s:Shared) (H:Hp) (args:Args) (us:List Value) (vs:List V) (Q:VK) (E:XK),iA k A->wV P w K mg base A outer s H->BindsTo s fd args (ps.zip us)->cB vs us->sp vs H Q E ->
  codeAny (model P w) A (.call (.ref f) args) (CR CX outer P w H s Q E) s
theorem pQ.imp{P:Program}{w:World}{K:PySem.W.Frag}{mg:Str->Option Value}{base:Heap}{CX:CXT}{k:Nat}{f:Addr}{fd:FuncData}{ps:List Str}{sp sp':Sp}(F:pQ P w K mg base CX k f fd ps sp)
  (h:∀vs H Q E,sp' vs H Q E->sp vs H Q E):pQ P w K mg base CX k f fd ps sp' :=
 ⟨fun vs H Q E q=>F.len vs H Q E (h _ _ _ _ q),fun A outer s H args us vs Q E hr he hb hv hs=>F.run A outer s H args us vs Q E hr he hb hv (h _ _ _ _ hs)⟩
theorem wV.make{P:Program}{w:World}{K:PySem.W.Frag}{mg:Str->Option Value}{base:Heap}{A:Around}{outer:List Env}{s:Shared}{H:Hp}(e:wV P w K mg base A outer s H)(C:Addr)(us:List Value)(kw:List (Str×Value)) :
  wV P w K mg base (A.under (.builtin "type.__call__" ⟨.ref C::us,kw⟩)) outer s H:=⟨by first|exact e.frames|(simpa [Around.under,Code.envs,Code.isFrame,pushEnvs] using e.frames),e.mod,e.bs,e.bsz,e.funs,e.frf,e.hok,e.bare⟩
section
variable {X:Cx}{pins:List (Addr×Obj)}{σ:St}{H:Hp}{s s':Shared}
theorem Inv.env0(I:Inv X pins σ H s):wV X.prog X.w X.K X.mg X.base X.A X.stack s H :=
 ⟨I.ok.frames,I.ok.mod,I.bs,le_trans I.ok.bsz I.sz,I.stack,I.stkFree,I.hok,I.bare⟩
theorem Inv.after{Q:VK}{u:Value}(I:Inv X pins σ H s)(h:CE X.stack X.prog X.w H s Q u s'):EP X pins σ Q u s':=by
 obtain⟨v,H',os,bare,un,hok,r,q⟩:=h;obtain⟨hh,g,d,t,os'⟩:=s';obtain rfl:os'=s.os:=os;exact⟨v,H',I.call (h':=hh) (g':=g) (d':=d) (t':=t) (ch:=[]) un hok bare (fun b z=>absurd z (by simp)),r,q⟩
end
def jx(sp:Sp)(dvs:List V)(E:XK)(t:TA):TE:=fun σ H Q=>t σ H fun vs H1=>sp (vs++dvs) H1 Q E
def ng(K:PySem.W.Frag)(fd:FuncData)(ps:List Str)(ds:List Value):Prop :=
 ∀(s:Shared) (us:List Value),K.In s.heap->(us++ds).length=ps.length->BindsTo s fd ⟨us,[]⟩ (ps.zip (us++ds))
theorem ng.all{K:PySem.W.Frag}{fd:FuncData}{ps:List Str}(h:∀us:List Value,us.length=ps.length->bindArgs fd ⟨us,[]⟩=pure (ps.zip us)):ng K fd ps []:=fun s us _ hl=>by
 rw [append_nil] at hl ⊢;exact .of_eq (h us hl)
def uZ(CX:CXT)(X:Cx)(E:XK):Prop:=∀(pins:List (Addr×Obj)) (σ:St) (H:Hp) (s:Shared) (e:Value) (s':Shared),Inv X pins σ H s->CX X.stack H s E e s'->X.xe e s'
section
variable {X:Cx}{CX:CXT}{k:Nat}{f C:Addr}{fd:FuncData}{ps:List Str}{sp:Sp}{dvs:List V}{ds:List Value}{E:XK}{x m:Str}{p pos apos:Pos}{e o:Expr}{es:List Expr}{ta:TE}{t:TA}
theorem yo{pins:List (Addr×Obj)}{σ:St}{H:Hp}{s:Shared}{Q:VK}{us:List Value}{vs:List V}(F:pQ X.prog X.w X.K X.mg X.base CX k f fd ps sp)(hr:iA k X.A)(hb:ng X.K fd ps ds)(hd:cB dvs ds)(hx:uZ CX X E)
  (I:Inv X pins σ H s) (r:cB vs us) (h:sp (vs++dvs) H Q E):wpAny (model X.prog X.w) X.A (call (.ref f) us) (EP X pins σ Q) X.xe s:=by
 have r2:cB (vs++dvs) (us++ds):=r.append hd;have hl:(us++ds).length=ps.length:=by rw [<- r2.length];exact F.len _ _ _ _ h
 refine wpAny_call (codeAny_mono (F.run X.A X.stack s H ⟨us,[]⟩ (us++ds) (vs++dvs) Q E hr I.env0 (hb s us I.kIn hl) r2 h) fun r s' hq=>?_)
 cases r with
 | error e=>exact hx pins σ H s e s' I hq
 | ok fl =>
  cases fl with
  | ret u=>exact I.after hq
  | next=>exact False.elim hq
  | brk=>exact False.elim hq
  | cont=>exact False.elim hq
theorem zh(F:pQ X.prog X.w X.K X.mg X.base CX k f fd ps sp)(hr:iA k X.A)(hg:Gl X x)(hm:X.mg x=some (.ref f))(hk:PySem.W.keepIn X.K (.ref f)=true)(hb:ng X.K fd ps ds)(hd:cB dvs ds)(hx:uZ CX X E)
  (ha:PA X (e::es) t) (hdb:(x == ("__debug__":Str))=false:=by decide) (he:starEach (e::es) X.env=(false,eval e X.env)::starEach es X.env:=by rfl) (hpl:(backTo pos (starEach es X.env)).any (·.1)=false:=by rfl) :
  PE X (.Call (.Name x p) (e::es) [] pos) (jx sp dvs E t):=by
 intro pins s σ H Q I h;refine wpAny_Call_Name_kw (iC I hg hm ?_ hdb);refine PySem.W.callWith_K (h₀:=X.base) I.ok.mod.kin hk (thn (ha pos pins s σ H _ I h) fun us s1 ⟨vs,H1,I1,r,q⟩=>⟨I1.kIn,?_⟩) he hpl;exact yo F hr hb hd hx I1 r q
end
structure aI (N P:List Str) (sc:Scope):Prop where
 kind:sc.kind=.function
 co:sc.isCoroutine=false
 gen:sc.isGenerator=false
 nd:N.Nodup
 pre:N.take P.length=P
 par:∀x∈P,sc.names.lookup x=some .local\/sc.names.lookup x=some .cell
 nofree:∀y∈sc.names,y.2≠.free
theorem pR{kindOf:Str->Option NameKind}{x:Str}:∀{binds:List (Str×Value)}{m:Str->Option Value},(∀v,(x,v)∉binds)->bindL kindOf binds m x=m x
 | [],_,_=>rfl
 | (n,v)::r,m,h=>by
  unfold bindL;rw [pR fun w hw=>h w (mem_cons_of_mem _ hw)]
  split
  .have:x≠n:=by rintro rfl;exact h v mem_cons_self
   simp [this]
  .rfl
theorem pS{kindOf:Str->Option NameKind}{x:Str}:∀{binds:List (Str×Value)}{m:Str->Option Value},(∀v,(x,v)∉binds)->bindC kindOf binds m x=m x
 | [],_,_=>rfl
 | (n,v)::r,m,h=>by
  unfold bindC;rw [pS fun w hw=>h w (mem_cons_of_mem _ hw)]
  split
  .rfl
  .have:x≠n:=by rintro rfl;exact h v mem_cons_self
   simp [this]
theorem pT{kindOf:Str->Option NameKind}{x:Str}{v:Value}:∀{P:List Str}{vs:List Value}{i:Nat}{m:Str->Option Value},P.Nodup->P[i]?=some x->vs[i]?=some v->kindOf x=some .local ->
  bindL kindOf (P.zip vs) m x=some v
 | [],_,_,_,_,h,_,_=>by simp at h
 | _::_,[],_,_,_,_,h,_=>by simp at h
 | p::P,w::vs,0,m,nd,h1,h2,hk=>by
  simp at h1 h2;subst h1;subst h2;show bindL kindOf ((p,w)::P.zip vs) m p=_;unfold bindL;rw [pR fun v hv=>(nodup_cons.mp nd).1 (of_mem_zip hv).1,if_pos hk];simp
 | p::P,w::vs,i+1,m,nd,h1,h2,hk=>by
  show bindL kindOf ((p,w)::P.zip vs) m x=_;unfold bindL;exact pT (i:=i) (nodup_cons.mp nd).2 (by simpa using h1) (by simpa using h2) hk
theorem pU{kindOf:Str->Option NameKind}{x:Str}{v:Value}:∀{P:List Str}{vs:List Value}{i:Nat}{m:Str->Option Value},P.Nodup->P[i]?=some x->vs[i]?=some v->kindOf x≠some .local ->
  bindC kindOf (P.zip vs) m x=some v
 | [],_,_,_,_,h,_,_=>by simp at h
 | _::_,[],_,_,_,_,h,_=>by simp at h
 | p::P,w::vs,0,m,nd,h1,h2,hk=>by
  simp at h1 h2;subst h1;subst h2;show bindC kindOf ((p,w)::P.zip vs) m p=_;unfold bindC;rw [pS fun v hv=>(nodup_cons.mp nd).1 (of_mem_zip hv).1,if_neg hk];simp
 | p::P,w::vs,i+1,m,nd,h1,h2,hk=>by
  show bindC kindOf ((p,w)::P.zip vs) m x=_;unfold bindC;exact pU (i:=i) (nodup_cons.mp nd).2 (by simpa using h1) (by simpa using h2) hk
def start(N:List Str)(vs:List V):St:=vs.map some++List.replicate (N.length - vs.length) none
def nh(CX:CXT)(P:Program)(w:World)(K:PySem.W.Frag)(mg:Str->Option Value)(base:Heap)(N:List Str)(qual:Str)(scope:Scope)(f:Addr)(cd:Value)(A:Around)(outer:List Env)(s:Shared)(H:Hp)(E:XK):Cx where
 prog:=P
 w:=w
 K:=K
 mg:=mg
 base:=base
 A:=A.deeper (envOfC qual scope s.heap.objs.size f cd)
 N:=N
 s₀:=s
 H₀:=H
 env:=envOfC qual scope s.heap.objs.size f cd
 outer:=outer
 stack:=envOfC qual scope s.heap.objs.size f cd::outer
 ex:=[]
 calm:=true
 fn:=fun _=>true
 pn:=[]
 xe:=fun e s'=>wpAny (model P w) (A.deeper (envOfC qual scope s.heap.objs.size f cd)) (leaving (envOfC qual scope s.heap.objs.size f cd) e) (fun _ s''=>CX outer H s E e s'') (fun e' s''=>CX outer H s E e' s'') s'
theorem sK{sc:Scope}{n:Nat}{x:Str}(h:sc.names.lookup x=some .cell):∃c,(cellsFrom n sc.names []).lookup x=some c:=by
 have q:=PySem.W.cellsFrom_some sc.names n [] (.inl h);exact Option.isSome_iff_exists.mp q
theorem lI{CX:CXT}{P:Program}{w:World}{K:PySem.W.Frag}{mg:Str->Option Value}{base:Heap}{N ps:List Str}{qual:Str}{scope:Scope}{f:Addr}{cd:Value}{A:Around}{outer:List Env}{s s1:Shared}{H:Hp}{E:XK}{us:List Value}{vs:List V}
  (S:aI N ps scope) (hd:A.handled=none) (e0:wV P w K mg base A outer s H) (hl:vs.length=ps.length) (r:cB vs us)
  (x:InCallC s s.heap.objs.size (bindL (envOfC qual scope s.heap.objs.size f cd).kindOf (ps.zip us) fun _=>none) (cellsFrom (s.heap.objs.size+1) scope.names []) (bindC (envOfC qual scope s.heap.objs.size f cd).kindOf (ps.zip us) fun _=>none) s1) :
  Inv (nh CX P w K mg base N qual scope f cd A outer s H E) [] (start N vs) H s1:=by
 have hpl:ps.length<=N.length:=by have:=congrArg List.length S.pre;rw [length_take] at this;omega
 obtain⟨h1,tk,rfl,hk⟩:=x.done;have noA:∀b:Addr,b∉(nh CX P w K mg base N qual scope f cd A outer s H E).ex:=fun b z=>absurd (show b∈([]:List Addr) from z) (by simp)
 refine⟨⟨e0.mod,S.kind,rfl,rfl,Nat.le_refl _,fun y z c h1 h2=>?_,fun y hy=>?_,fun y c _ h=>?_,fun _=>hd,Around.frames_deeper e0.frames,.inr ⟨rfl,rfl⟩,fun b z=>absurd z (noA b),e0.bs,e0.bsz,fun b _ _=>noA b,fun b z=>absurd z (noA b),e0.funs,e0.frf⟩,
  rfl,e0.bare,Un.kept hk,⟨_,x.toInCall.ns,fun i y v h1 h2 h3=>?_⟩,fun y c h=>⟨_,x.cell y c h⟩,e0.hok.fresh (Nat.le_refl _),fun y c h=>?_,fun p hp=>absurd (show p∈([]:List (Addr×Obj)) from hp) (by simp),e0.hok.kept hk,?_⟩
 .exact name_of_addr x.apart (PySem.mem_of_lookup h1) (PySem.mem_of_lookup h2)
 .have hy:scope.names.lookup y=some .cell\/scope.names.lookup y=some .free:=hy
  rcases hy with hy|hy
  .exact sK hy
  .exact absurd rfl (S.nofree _ (PySem.mem_of_lookup hy))
 .exact Nat.le_of_lt (x.above y c (PySem.mem_of_lookup h))
 .have hi:i<vs.length:=by
   unfold start at h2
   by_cases hi:i<vs.length
   .exact hi
   .rw [getElem?_append_right (by simpa using hi)] at h2;rw [getElem?_replicate] at h2;split at h2 <;> cases h2
  have ha:vs[i]?=some v:=by
   unfold start at h2;rw [getElem?_append_left (by simpa using hi),getElem?_map] at h2
   cases e:vs[i]? with
   | none=>rw [e] at h2;cases h2
   | some a=>rw [e] at h2;cases h2;rfl
  obtain⟨u,hu,rv⟩:=r.get ha
  have hp:ps[i]?=some y:=by
   rw [<- S.pre,getElem?_take_of_lt (by omega)];exact h1
  have ndP:ps.Nodup:=by rw [<- S.pre];exact S.nd.sublist (take_sublist _ _)
  refine⟨u,rv,?_⟩
  rcases S.par y (mem_of_getElem? hp) with k|k
  .exact .inl ⟨k,pT ndP hp hu k⟩
  .obtain⟨c,e⟩:=sK (n:=s.heap.objs.size+1) k;refine .inr ⟨.inl k,c,e,?_⟩;have q:=x.cell y c e;rw [pU ndP hp hu (by show scope.names.lookup y≠_;rw [k];decide)] at q;exact q
 .exact e0.hok.fresh (Nat.le_of_lt (x.above y c (PySem.mem_of_lookup h)))
 .unfold start;show _=N.length;rw [length_append,length_map,length_replicate];omega
theorem zi{CX:CXT}{P:Program}{w:World}{K:PySem.W.Frag}{mg:Str->Option Value}{base:Heap}{k:Nat}{f:Addr}{name qual:Str}{params:Arguments}{body:List Stmt}{scope:Scope}{dV kV doc pm cdv ct oc:Value}{an od:Option Addr}
  {osl:Array (Option Value)}{N ps:List Str}{sp:Sp} (lk:K.lookup f=some ⟨oc,od,.func (PySem.W.fnOf name qual params body scope dV kV doc pm an cdv ct),osl⟩) (hcd:PySem.W.codeIn K cdv qual=true) (S:aI N ps scope)
  (len:∀vs H Q E,sp vs H Q E->vs.length=ps.length)
  (hbody:∀(A:Around) (outer:List Env) (s:Shared) (H:Hp) (vs:List V) (Q:VK) (E:XK),iA k (A.deeper (envOfC qual scope s.heap.objs.size f cdv))->sp vs H Q E ->
   ∃t,PSs (nh CX P w K mg base N qual scope f cdv A outer s H E) body t/\t { nx:=fun _ H'=>Q .non H',rt:=Q } (start N vs) H) :
  pQ P w K mg base CX (k+1) f (PySem.W.fnOf name qual params body scope dV kV doc pm an cdv ct) ps sp:=by
 refine⟨len,fun A outer s H args us vs Q E hr e0 hb r hsp=>?_⟩;have hl:=len _ _ _ _ hsp;have KX:K.In s.heap:=e0.mod.kin.keeps fun b o e=>(e0.bs b o e).1;have lim:s.heap.NoLimit:=e0.mod.nolimit.keeps fun b o e=>(e0.bs b o e).1
 have hkind:∀y∈ps.zip us,scope.names.lookup y.1=some .local\/(scope.names.lookup y.1=some .cell/\((cellsFrom (s.heap.objs.size+1) scope.names []).lookup y.1).isSome=true):=fun ⟨n,v⟩ hy=>by
  rcases S.par n (of_mem_zip hy).1 with q|q
  .exact .inl q
  .exact .inr ⟨q,PySem.W.cellsFrom_some _ _ _ (.inl q)⟩
 refine codeAny_call_function hr.depth (KX _ _ lk) rfl S.co S.gen rfl (PySem.W.codeRec_of KX hcd) (hb _ _ _ _ ?_);refine wpAny_newFunctionEnv_cells S.kind hkind fun env he s1 x=>?_;subst he;refine⟨lim.keeps x.toInCall.keep,codeAny_func ?_⟩;obtain⟨t,ht,hq⟩:=hbody A outer s H vs Q E (hr.deeper _) hsp;have I:Inv (nh CX P w K mg base N qual scope f cdv A outer s H E) [] (start N vs) H s1:=lI S hr.hd e0 hl r x
 refine wpAny_mono (ht [] s1 (start N vs) H _ I hq) (fun fl s' hs=>?_) fun e s' hs=>hs
 have fin:∀{σ':St}{H':Hp}{v:V}{u:Value},Inv (nh CX P w K mg base N qual scope f cdv A outer s H E) [] σ' H' s'->eo v u->Q v H'->CE outer P w H s Q u s' :=
  fun {σ' H' v u} J rv q=>⟨v,H',J.os,J.bare,J.base,J.hok,rv,q⟩
 cases fl with
 | ret u =>
  obtain⟨v,σ',H',J,rv,q⟩:=hs;exact fin J rv q
 | next =>
  obtain⟨σ',H',J,q⟩:=hs;exact fin (v:=V.non) (u:=Value.none) J rfl q
 | brk =>
  obtain⟨_,_,_,q⟩:=hs;exact False.elim q
 | cont =>
  obtain⟨_,_,_,q⟩:=hs;exact False.elim q
section
variable {X:Cx}{x:Str}{p pos:Pos}{e:Expr}{es:List Expr}{t:TA}{id T:String}{r:List V->Hp->VK->Prop}
def tCB(r:List V->Hp->VK->Prop)(t:TA):TE:=fun σ H Q=>t σ H fun vs H1=>r vs H1 Q
theorem wW(hc:cK X (.builtin id) r)(hg:Gl X x)(hm:X.mg x=none)(hv:bootBuiltins x=some (.builtin id))(ha:PA X (e::es) t)(hn:x≠"__name__":=by decide)(hdb:(x == ("__debug__":Str))=false:=by decide)
  (he:starEach (e::es) X.env=(false,eval e X.env)::starEach es X.env:=by rfl) (hpl:(backTo pos (starEach es X.env)).any (·.1)=false:=by rfl):PE X (.Call (.Name x p) (e::es) [] pos) (tCB r t):=by
 intro pins s σ H Q I h;refine wpAny_Call_Name_kw (jd I hg hm hv ?_ hn hdb);exact PyProof.Rows.callWith_builtin1 (thn (ha pos pins s σ H _ I h) fun us s1 ⟨vs,H1,I1,r1,q1⟩=>hc pins s1 σ H1 vs us Q I1 r1 q1) he hpl
theorem u4(hc:cK X (.type T) r)(hg:Gl X x)(hm:X.mg x=none)(hv:bootBuiltins x=some (.type T))(ha:PA X (e::es) t)(hn:x≠"__name__":=by decide)(hdb:(x == ("__debug__":Str))=false:=by decide)
  (he:starEach (e::es) X.env=(false,eval e X.env)::starEach es X.env:=by rfl) (hpl:(backTo pos (starEach es X.env)).any (·.1)=false:=by rfl):PE X (.Call (.Name x p) (e::es) [] pos) (tCB r t):=by
 intro pins s σ H Q I h;refine wpAny_Call_Name_kw (jd I hg hm hv ?_ hn hdb);exact PyProof.Rows.callWith_type1 (thn (ha pos pins s σ H _ I h) fun us s1 ⟨vs,H1,I1,r1,q1⟩=>hc pins s1 σ H1 vs us Q I1 r1 q1) he hpl
end
end L2
namespace HT
open PySem PyProof.Rows
def lexLt:List Int->List Int->Bool
 | [],[]=>false
 | [],_::_=>true
 | _::_,[]=>false
 | x::xs,y::ys=>if x=y then lexLt xs ys else decide (x<y)
theorem lexLt_cons(x y:Int)(xs ys:List Int):lexLt (x::xs) (y::ys)=if x=y then lexLt xs ys else decide (x<y):=rfl
theorem lexLt_nil_nil:lexLt [] []=false:=rfl
theorem nj(y:Int)(ys:List Int):lexLt [] (y::ys)=true:=rfl
theorem nk(x:Int)(xs:List Int):lexLt (x::xs) []=false:=rfl
theorem wX(A:Around)(s:Shared)(a:Int)(t:Tok)(c:Int)(u:Tok):∃e,SeqAt.EqAt A s (.int a t) (.int c u) e/\(e=true ↔ a=c) :=
 ⟨(a == c),SeqAt.EqAt.int_int a t c u,by simp⟩
theorem wY(A:Around)(s:Shared)(a:Int)(t:Tok)(c:Int)(u:Tok)(prog:Program)(w:World)(E:Value->Shared->Prop)(Q:Value->Shared->Prop)(h:Q (.bool (decide (a<c))) s) :
  wpAny (model prog w) A (richCompare .Lt (.int a t) (.int c u)) Q E s :=
 (PyProof.Rows.lt_int h:wpAny (model prog w) A (compareOp .Lt (.int a t) (.int c u)) Q E s)
section
open PySem.SeqAt
open PySem.AutoSeq1 (wpAny_loadPart')
open PySem.MeetsSeq PySem.MeetsSeq2 PySem.MeetsSeq3
theorem oq(l b:Addr)(items items2:Array Value)(n n2:Nat)(dd dd2:Option Addr)(sl sl2:Array (Option Value))(ns ms:List Int)(hi:IntsAre items.toList ns)(hj:IntsAre items2.toList ms) :
  Meets (Builtin.«tuple.__lt__» ⟨[.ref l,.ref b],[]⟩)
   (fun _ R s=>s.heap.get? l=some { cls:=.type "tuple",dict:=dd,data:=.seq items n,slots:=sl }/\s.heap.get? b=some { cls:=.type "tuple",dict:=dd2,data:=.seq items2 n2,slots:=sl2 } /\
    R (.ok (.ret (.bool (lexLt ns ms)))) s) :=
 .of_wp fun prog w A R s h=>by
  obtain⟨hp,g,d,tk,os⟩:=s;obtain⟨hl,hb,h⟩:=h;have f2:=AutoSeq1.sub_tuple_tuple;have z1:items.size=ns.length:=by rw [<- hi.length];simp
  have z2:items2.size=ms.length:=by rw [<- hj.length];simp
  wp_walk using wpAny_loadPart' hl,wpAny_loadPart' hb,wpAny_forIn_list _ (fun rest b s'=>b.1=none/\s'=⟨hp,g,d,tk,os⟩/\∃(vs ws:List Value) (ns' ms':List Int),rest=vs.zip ws /\
   IntsAre vs ns'/\IntsAre ws ms'/\ns'.length+items2.size=ms'.length+items.size/\R (.ok (.ret (.bool (lexLt ns' ms')))) ⟨hp,g,d,tk,os⟩) _
  case turn =>
   rintro⟨y,x⟩ rest b s' ⟨hb',rfl,vs,ws,ns',ms',hz,hvi,hwi,hlen,hR⟩
   cases hvi with
   | nil=>rw [zip_nil_left] at hz;cases hz
   | cons a t hvi' =>
    cases hwi with
    | nil=>rw [zip_nil_right] at hz;cases hz
    | cons c u hwi' =>
     rw [zip_cons_cons] at hz;injection hz with hyx hrest;injection hyx with hy hx;subst hy hx;rw [lexLt_cons] at hR;simp only [length_cons] at hlen;obtain⟨e,he,hiff⟩:=wX A.in1 ⟨hp,g,d,tk,os⟩ a t c u;refine wpAny_bind (he prog w _ _ ?_)
     cases e with
     | true =>
      rw [if_pos (hiff.mp rfl)] at hR
      wp_walk
      exact⟨rfl,rfl,_,_,_,_,hrest,hvi',hwi',by omega,hR⟩
     | false =>
      rw [if_neg (fun q=>absurd (hiff.mpr q) Bool.false_ne_true)] at hR;have hri:=wY A.in1 ⟨hp,g,d,tk,os⟩ a t c u prog w
      wp_walk using hri
      exact⟨_,rfl,by simpa using hR⟩
  case fin =>
   rintro⟨b1,b2⟩ s' ⟨hb',rfl,vs,ws,ns',ms',hz,hvi,hwi,hlen,hR⟩;simp only at hb';subst hb'
   have hv:lexLt ns' ms'=decide (items.size<items2.size):=by
    cases hvi with
    | nil =>
     cases hwi with
     | nil =>
      simp only [length_nil] at hlen;rw [lexLt_nil_nil];exact (decide_eq_false (by omega)).symm
     | cons c u hw =>
      simp only [length_nil,length_cons] at hlen;rw [nj];exact (decide_eq_true (by omega)).symm
    | cons a t hv =>
     cases hwi with
     | nil =>
      simp only [length_nil,length_cons] at hlen;rw [nk];exact (decide_eq_false (by omega)).symm
     | cons c u hw =>
      rw [zip_cons_cons] at hz;cases hz
   rw [hv] at hR
   wp_walk
   exact⟨_,rfl,by simpa [Builtin.Tuple.tupleCompareSizes] using hR⟩
  case h =>
   exact⟨rfl,rfl,items.toList,items2.toList,ns,ms,rfl,hi,hj,by omega,h⟩
end
section
variable {prog:Program}{w:World}{A:Around}{E:Value->Shared->Prop}{s:Shared}
theorem lt_tupInts{l b:Addr}{items items2:Array Value}{ns ms:List Int}{Q:Value->Shared->Prop}(hl:IsTup s.heap l items)(hb:IsTup s.heap b items2)(hi:IntsAre items.toList ns)(hj:IntsAre items2.toList ms)
  (hu:A.units<cLine) (h:Q (.bool (lexLt ns ms)) s):wpAny (model prog w) A (compareOp .Lt (.ref l) (.ref b)) Q E s:=by
 obtain⟨⟨cls,dd,data,sl⟩,ho,hc,n,hd⟩:=id hl;obtain⟨⟨cls2,dd2,data2,sl2⟩,ho2,hc2,n2,hd2⟩:=id hb;simp only at hc hd hc2 hd2;subst hc hd hc2 hd2
 exact richCompare_meets_room (op:=.Lt) ⟨_,ho,rfl⟩ ⟨_,ho2,rfl⟩ PySem.F.slot_tuple_lt PySem.F.entry_tuple_lt (PySem.F.args_tuple_lt_2 _ _) (oq l b items items2 n n2 dd dd2 sl sl2 ns ms hi hj)
  ⟨ho,ho2,show Value.bool (lexLt ns ms)≠Value.notImplemented/\Q (.bool (lexLt ns ms)) s from ⟨(fun x=>nomatch x),h⟩⟩ hu
theorem cat_tup{t b:Addr}{vs ws:List Value}{Q:Value->Shared->Prop}(ht:IsTup s.heap t vs.toArray)(hb:IsTup s.heap b ws.toArray)(hv:vs≠[])
  (h1:ws=[]->Q (.ref t) s) (h2:ws≠[]->Q (.ref s.heap.objs.size) { s with heap:=s.heap.push { cls:=.type "tuple",data:=.seq (vs++ws).toArray } })
  (hsz:vs.length+ws.length<=sizeLine):wpAny (model prog w) A (binaryOp .Add (.ref t) (.ref b)) Q E s:=by
 obtain⟨⟨cls,dd,data,sl⟩,ho,hc,n,hd⟩:=id ht;obtain⟨⟨cls2,dd2,data2,sl2⟩,ho2,hc2,n2,hd2⟩:=id hb;simp only at hc hd hc2 hd2;subst hc hd hc2 hd2;have e:vs.toArray++ws.toArray=(vs++ws).toArray:=by simp
 by_cases hw:ws=[]
 .exact concat_meets ⟨_,ho,rfl⟩ ⟨_,ho2,rfl⟩ noFill_tuple_add seq_tuple_add PySem.F.slot_tuple_add PySem.F.entry_tuple_add (PySem.F.args_tuple_add_2 _ _)
   (tuple_addW1 t b vs.toArray ws.toArray n n2 dd dd2 sl sl2 (by simpa using hv) (by simp [hw])) ⟨ho,ho2,h1 hw⟩
 .refine concat_meets ⟨_,ho,rfl⟩ ⟨_,ho2,rfl⟩ noFill_tuple_add seq_tuple_add PySem.F.slot_tuple_add PySem.F.entry_tuple_add (PySem.F.args_tuple_add_2 _ _)
   (tuple_addW2 t b vs.toArray ws.toArray n n2 dd dd2 sl sl2 (by simpa using hv) (by simpa using hw) (by rw [size_toArray,size_toArray];exact hsz)) ⟨ho,ho2,?_⟩
  rw [e];exact h2 hw
def sIx(n d:Nat):Option Int->Nat
 | none=>d
 | some v=>if v<0 then (v+(n:Int)).toNat else min v.toNat n
theorem sIx_nat(n d k:Nat):sIx n d (some (k:Int))=min k n:=by
 show (if (k:Int)<0 then ((k:Int)+(n:Int)).toNat else min (k:Int).toNat n)=min k n;rw [if_neg (by omega),toNat_natCast]
theorem sIx_le(n d:Nat)(hd:d<=n)(o:Option Int):sIx n d o<=n:=by
 cases o with
 | none=>exact hd
 | some v =>
  show (if v<0 then (v+(n:Int)).toNat else min v.toNat n)<=n
  by_cases hv:v<0
  .rw [if_pos hv];omega
  .rw [if_neg hv];exact min_le_right _ _
theorem clip_eq(v:Int)(n d:Nat):(if v<0 then max (v+(n:Int)) 0 else min v (n:Int))=((sIx n d (some v):Nat):Int):=by
 show (if v<0 then max (v+(n:Int)) 0 else min v (n:Int))=(((if v<0 then (v+(n:Int)).toNat else min v.toNat n):Nat):Int)
 by_cases hv:v<0
 .simp only [if_pos hv];omega
 .simp only [if_neg hv];omega
theorem tV(lo hi:Option Int)(n:Nat):Builtin.Slice.sliceAdjust lo hi 1 (n:Int)=(((sIx n 0 lo:Nat):Int),((sIx n n hi:Nat):Int)):=by
 have h1:¬ ((1:Int)<0):=by omega
 unfold Builtin.Slice.sliceAdjust;simp only [h1,if_false]
 refine Prod.ext ?_ ?_
 .cases lo with
  | none=>rfl
  | some v=>exact clip_eq v n 0
 .cases hi with
  | none=>rfl
  | some v=>exact clip_eq v n n
theorem tW(i j:Nat):Builtin.Slice.slicePlaces (i:Int) (j:Int) 1=j - i:=by
 unfold Builtin.Slice.slicePlaces;have h1:(1:Int) > 0:=by omega
 simp only [h1,if_true,ediv_one];split <;> omega
theorem nQ{v:Value}{o:Option Int}{Q:Option Int->Shared->Prop}(p:IsPart v o)(h:Q o s):wpAny (model prog w) A (Builtin.Slice.slicePartIndex v) Q E s:=by
 cases p with
 | none=>exact slicePart_none h
 | int i t=>exact slicePart_int h
theorem ik{sl:Addr}{vl vu:Value}{lo hi:Option Int}{n:Nat}{Q:Int×Int×Nat->Shared->Prop}(hs:s.heap.IsSliceOf sl vl vu .none)(pl:IsPart vl lo)(pu:IsPart vu hi)
  (h:Q (((sIx n 0 lo:Nat):Int),1,sIx n n hi - sIx n 0 lo) s):wpAny (model prog w) A (Builtin.Slice.sliceApplied (.ref sl) (pure (n:Int))) Q E s:=by
 obtain⟨os,hos,hcs,hds⟩:=id hs;unfold Builtin.Slice.sliceApplied Builtin.Slice.sliceFields;refine wpAny_bind (wpAny_bind (wpAny_field hos hds (x:=vl) rfl (wpAny_bind (wpAny_field hos hds (x:=vu) rfl (wpAny_bind (wpAny_field hos hds (x:=.none) rfl (wpAny_pure ?_)))))));refine wpAny_bind (slicePart_none ?_);show wpAny _ _ (if ((1:Int) == 0)=true then _ else _) _ _ s;rw [if_neg (by decide)];refine wpAny_bind (nQ pl (wpAny_bind (nQ pu (wpAny_bind (wpAny_pure ?_)))))
 show wpAny _ _ (match Builtin.Slice.sliceAdjust lo hi 1 (n:Int) with|(lo,hi)=>pure (lo,(1:Int),Builtin.Slice.slicePlaces lo hi 1)) _ _ s;rw [tV lo hi n];show wpAny _ _ (pure (((sIx n 0 lo:Nat):Int),(1:Int),Builtin.Slice.slicePlaces ((sIx n 0 lo:Nat):Int) ((sIx n n hi:Nat):Int) 1)) _ _ s;rw [tW];exact wpAny_pure h
theorem wZ(xs:Array Value)(i k:Nat):((List.range k).filterMap fun (m:Nat)=>xs[((i:Int)+(m:Int)*1).toNat]?).toArray=((xs.toList.drop i).take k).toArray:=by
 have e:(fun (m:Nat)=>xs[((i:Int)+(m:Int)*1).toNat]?)=fun m=>xs[i+m]?:=by
  funext m;have:((i:Int)+(m:Int)*1).toNat=i+m:=by omega
  rw [this]
 rw [e];have:=pick_run xs i k;rw [filterMap_map] at this;have e2:((fun x=>xs[x]?) ∘ fun x=>i+x)=fun m=>xs[i+m]?:=rfl;rw [e2] at this;rw [this]
theorem getItem_tuple_cut{t sl:Addr}{items:Array Value}{vl vu:Value}{lo hi:Option Int}{Q:Value->Shared->Prop}(ht:IsTup s.heap t items)(hs:s.heap.IsSliceOf sl vl vu .none)(pl:IsPart vl lo)(pu:IsPart vu hi)
  (hw:¬ (sIx items.size 0 lo=0/\sIx items.size items.size hi=items.size))
  (h:Q (.ref s.heap.objs.size) { s with heap:=s.heap.push { cls:=.type "tuple",data:=.seq ((items.toList.drop (sIx items.size 0 lo)).take (sIx items.size items.size hi - sIx items.size 0 lo)).toArray } })
  (hsz:items.size<=sizeLine):wpAny (model prog w) A (getItem (.ref t) (.ref sl)) Q E s:=by
 have htake:sizeOk (.seq ((items.toList.drop (sIx items.size 0 lo)).take (sIx items.size items.size hi - sIx items.size 0 lo)).toArray):=by
  show ((items.toList.drop (sIx items.size 0 lo)).take (sIx items.size items.size hi - sIx items.size 0 lo)).toArray.size<=sizeLine;rw [size_toArray,length_take,length_drop,Array.length_toList];omega
 have hj:sIx items.size items.size hi<=items.size:=sIx_le _ _ (Nat.le_refl _) hi;obtain⟨os,hos,hcs,hds⟩:=id hs;have hTs:s.TypeIs (.ref sl) "slice":=⟨os,hos,hcs⟩
 unfold getItem
 try with_reducible refine wpAny_holding ?_
 first|refine wpAny_bind (wpAny_pure ?_)|skip
 refine wpAny_bind (wpAny_sequenceKey ht.typeIs (by decide) ?_)
 refine wpAny_bind (wpAny_callSpecial?_slot (name:=Str.ofString "__getitem__") ht.typeIs PyProof.Rows.slot_tuple_getitem
  (wpAny_call_entry PyProof.Rows.slot_tuple_getitem ht.typeIs entry_tuple_getitem ?_ (args_tuple_getitem _ _)))
 show wpAny _ _ (Builtin.Tuple.tupleItemsOf (.ref t) >>= _) _ _ s;refine wpAny_bind (tupleItemsOf_ ht ?_);refine wpAny_bind (wpAny_typeOf hTs ?_);rw [if_pos (by decide)];refine wpAny_bind (ik hs pl pu ?_)
 have hno:¬ ((((sIx items.size 0 lo:Nat):Int) == 0 && (1:Int) == 1 && (sIx items.size items.size hi - sIx items.size 0 lo) == items.size)=true):=by
  intro q;rw [and_eq_true,and_eq_true] at q;have q1:((sIx items.size 0 lo:Nat):Int)=0:=eq_of_beq q.1.1;have q2:sIx items.size items.size hi - sIx items.size 0 lo=items.size:=eq_of_beq q.2;exact hw ⟨by omega,by omega⟩
 show wpAny _ _ (if (((sIx items.size 0 lo:Nat):Int) == 0 && (1:Int) == 1 && (sIx items.size items.size hi - sIx items.size 0 lo) == items.size)=true then _ else _) _ _ s;rw [if_neg hno,wZ]
 first
  | exact wpAny_bind (m:=Builtin.Tuple.tupleExact _) (wpAny_newObj_type (wpAny_pure ⟨_,rfl,wpAny_pure h⟩) htake)
  | exact wpAny_bind (m:=Builtin.Tuple.tupleExact _) (wpAny_newObj_type (wpAny_bind (wpAny_pure (wpAny_pure ⟨_,rfl,wpAny_pure h⟩))) htake)
  | exact wpAny_bind (wpAny_bind (m:=Builtin.Tuple.tupleExact _) (wpAny_newObj_type (wpAny_pure (wpAny_pure ⟨_,rfl,wpAny_pure h⟩)) htake))
  | exact wpAny_bind (wpAny_bind (m:=Builtin.Tuple.tupleExact _) (wpAny_newObj_type (wpAny_pure ⟨_,rfl,wpAny_pure h⟩) htake))
end
end HT
namespace L2
open PySem PySem.Spec PyProof.Rows
abbrev TO:=St->Hp->(Option Int->Hp->Prop)->Prop
def PO(X:Cx)(e:Option Expr)(t:TO):Prop :=
 ∀(pins:List (Addr×Obj)) (s:Shared) (σ:St) (H:Hp) (Q:Option Int->Hp->Prop),Inv X pins σ H s->t σ H Q ->
  wpAny (model X.prog X.w) X.A (evalPart e X.env) (fun u s'=>∃o H',Inv X pins σ H' s'/\IsPart u o/\Q o H') X.xe s
def ou:TO:=fun _ H Q=>Q none H
def w4(t:TE):TO:=fun σ H Q=>t σ H fun x H1=>∃i,x=.int i/\Q (some i) H1
theorem kd{ns:List Int}:∀{us:List Value},cB (ns.map V.int) us->IntsAre us ns:=by
 induction ns with
 | nil=>intro us r;rw [map_nil] at r;cases r;exact .nil
 | cons n ns ih =>
  intro us r;rw [map_cons] at r
  cases r with
  | cons r1 r2 =>
   obtain⟨t,e⟩:=r1;subst e;exact .cons n t (ih r2)
section
variable {X:Cx}{e:Expr}{te:TE}{lo hi:Option Expr}{tl th:TO}{pos p2:Pos}
theorem jy:PO X none ou:=by
 intro pins s σ H Q I h;rw [evalPart_none];exact wpAny_pure ⟨none,H,I,.none,h⟩
theorem eW(h:PE X e te):PO X (some e) (w4 te):=by
 intro pins s σ H Q I hw;rw [evalPart_some];refine thn (h pins s σ H _ I hw) fun u s1 ⟨x,H1,I1,r1,q1⟩=>?_;obtain⟨i,rfl,q⟩:=q1;obtain⟨t,rfl⟩:=r1;exact⟨some i,H1,I1,.int i t,q⟩
def SlR(X:Cx)(r:V->Option Int->Option Int->Hp->VK->Prop):Prop :=
 ∀(pins:List (Addr×Obj)) (s:Shared) (σ:St) (H:Hp) (x:V) (v vl vu:Value) (lo hi:Option Int) (sl:Addr) (Q:VK),Inv X pins σ H s->eo x v->s.heap.IsSliceOf sl vl vu .none->IsPart vl lo->IsPart vu hi->r x lo hi H Q ->
  ∃T id,typeLookup (.type T) "__getitem__"=pure (some (.builtin id))/\s.TypeIs v T/\wpAny (model X.prog X.w) X.A (getItem v (.ref sl)) (EP X pins σ Q) X.xe s
theorem SlR.or{r r':V->Option Int->Option Int->Hp->VK->Prop}(h:SlR X r)(h':SlR X r'):SlR X (fun x lo hi H Q=>r x lo hi H Q\/r' x lo hi H Q):=by
 intro pins s σ H x v vl vu lo hi sl Q I rx hs pl pu q
 rcases q with q|q
 .exact h pins s σ H x v vl vu lo hi sl Q I rx hs pl pu q
 .exact h' pins s σ H x v vl vu lo hi sl Q I rx hs pl pu q
def tSl(r:V->Option Int->Option Int->Hp->VK->Prop)(te:TE)(tl th:TO):TE:=fun σ H Q=>te σ H fun x H1=>tl σ H1 fun l H2=>th σ H2 fun u H3=>r x l u H3 Q
theorem eP{r:V->Option Int->Option Int->Hp->VK->Prop}(hr:SlR X r)(he:PE X e te)(hl:PO X lo tl)(hu:PO X hi th):PE X (.Subscript e (.Slice lo hi none p2) pos) (tSl r te tl th):=by
 intro pins s σ H Q I h;refine Subscript_ (thn (he pins s σ H _ I h) fun v s1 ⟨x,H1,I1,r1,q1⟩=>?_);refine wpAny_Slice (thn (hl pins s1 σ H1 _ I1 q1) fun vl s2 ⟨l,H2,I2,pl,q2⟩=>thn (hu pins s2 σ H2 _ I2 q2) fun vu s3 ⟨u,H3,I3,pu,q3⟩=>?_);rw [evalPart_none];refine wpAny_pure ?_;have I4:Inv X pins σ H3 { s3 with heap:=s3.heap.push { cls:=.type "slice",data:=.fields #[vl,vu,.none] } }:=I3.kept (t':=s3.toks) fun b ob q=>Heap.get?_push_of_some _ q
 obtain⟨T,id,hT,ht,hg⟩:=hr pins { s3 with heap:=s3.heap.push { cls:=.type "slice",data:=.fields #[vl,vu,.none] } } σ H3 x v vl vu l u s3.heap.objs.size Q I4 r1 (Heap.IsSliceOf.new ..) pl pu q3;show wpAny (model X.prog X.w) X.A (subscriptTail e (.Slice lo hi none p2) v (.ref s3.heap.objs.size)) (EP X pins σ Q) X.xe { s3 with heap:=s3.heap.push { cls:=.type "slice",data:=.fields #[vl,vu,.none] } };exact tail_any (ops:=[.ref s3.heap.objs.size,v]) ht hT hg (by with_unfolding_all rfl)
def zj(xs:List V)(lo hi:Option Int):List V:=(xs.drop (HT.sIx xs.length 0 lo)).take (HT.sIx xs.length xs.length hi - HT.sIx xs.length 0 lo)
theorem lJ(xs:List V)(lo hi:Option Int):(zj xs lo hi).length<=xs.length:=by
 unfold zj;rw [length_take,length_drop];omega
def D2(K:PySem.W.Frag):V->Option Int->Option Int->Hp->VK->Prop:=fun x lo hi H Q=>∃a xs,x=.ref a/\SqT K H a xs /\
 ¬ (HT.sIx xs.length 0 lo=0/\HT.sIx xs.length xs.length hi=xs.length)/\∀p,H p=none->Q (.ref p) (upd H p (.tup (zj xs lo hi)))
theorem Bk:SlR X (D2 X.K):=by
 intro pins s σ H x v vl vu lo hi sl Q I rx hs pl pu h;obtain⟨a,xs,rfl,hx,hw,q⟩:=h;cases rx;obtain⟨its,r,ht,hz⟩:=I.tuple hx;have hlen:its.toArray.size=xs.length:=by rw [size_toArray];exact r.length.symm
 refine⟨"tuple",_,PyProof.Rows.slot_tuple_getitem.lookup,ht.typeIs,?_⟩;refine HT.getItem_tuple_cut ht hs pl pu (by rw [hlen];exact hw) ?_ (by rw [hlen];exact hz);rw [hlen];refine⟨.ref s.heap.objs.size,_,I.laid (t':=s.toks) (o:=.tup (zj xs lo hi)) (fun b ob q=>Heap.get?_push_of_some _ q) (Nat.le_refl _) ?_,rfl,q _ (I.hok.fresh (Nat.le_refl _))⟩;exact⟨le_trans (lJ xs lo hi) hz,_,(r.drop (HT.sIx xs.length 0 lo)).take (HT.sIx xs.length xs.length hi - HT.sIx xs.length 0 lo),IsTup.new _ _⟩
def Bl(K:PySem.W.Frag):R2:=fun x y H Q=>∃a b xs ys,x=.ref a/\y=.ref b/\SqT K H a xs/\SqT K H b ys/\xs≠[]/\xs.length+ys.length<=sizeLine /\
 (ys=[]->Q (.ref a) H)/\(ys≠[]->∀p,H p=none->Q (.ref p) (upd H p (.tup (xs++ys))))
theorem cB.nil_iff{xs:List V}{us:List Value}(r:cB xs us):us=[] ↔ xs=[]:=by
 cases r with
 | nil=>simp
 | cons _ _=>simp
theorem zk:OpR X (binaryOp .Add) (Bl X.K):=by
 intro pins s σ H x y v u Q I rx ry h;obtain⟨a,b,xs,ys,rfl,rfl,ha,hb,hx,hz,q1,q2⟩:=h;cases rx;cases ry;obtain⟨its,r1,p1,_⟩:=I.tuple ha;obtain⟨its2,r2,p2,_⟩:=I.tuple hb;refine HT.cat_tup p1 p2 (fun z=>hx (r1.nil_iff.mp z)) (fun z=>⟨.ref a,H,I,rfl,q1 (r2.nil_iff.mp z)⟩) (fun z=>?_) (by rw [<- r1.length,<- r2.length];exact hz);refine⟨.ref s.heap.objs.size,_,I.laid (t':=s.toks) (o:=.tup (xs++ys)) (fun b ob q=>Heap.get?_push_of_some _ q) (Nat.le_refl _) ?_,rfl,q2 (fun w=>z (r2.nil_iff.mpr w)) _ (I.hok.fresh (Nat.le_refl _))⟩
 exact⟨by rw [length_append];exact hz,_,r1.append r2,IsTup.new _ _⟩
end
def ixN(n:Nat)(i:Int):Option Nat:=if 0<=i then (if i<n then some i.toNat else none) else if -(n:Int)<=i then some (i+n).toNat else none
def atI{α:Type}(xs:List α)(i:Int):Option α:=(ixN xs.length i).bind fun j=>xs[j]?
theorem u8{n:Nat}{i:Int}{j:Nat}(h:ixN n i=some j):seqIndex? i n=some j/\j<n/\-(n:Int)<=i/\i<n:=by
 unfold ixN at h
 by_cases h0:0<=i
 .rw [if_pos h0] at h
  by_cases h1:i<n
  .rw [if_pos h1] at h;have e:i.toNat=j:=Option.some.inj h;exact⟨by rw [seqIndex_of h0 h1,e],by omega,by omega,h1⟩
  .rw [if_neg h1] at h;cases h
 .rw [if_neg h0] at h
  by_cases h1:-(n:Int)<=i
  .rw [if_pos h1] at h;have e:(i+n).toNat=j:=Option.some.inj h;exact⟨by rw [seqIndex_neg (by omega) h1,e],by omega,h1,by omega⟩
  .rw [if_neg h1] at h;cases h
theorem rl{α:Type}{xs:List α}{i:Int}{v:α}(h:atI xs i=some v):∃j,seqIndex? i xs.length=some j/\xs[j]?=some v/\j<xs.length/\-(xs.length:Int)<=i/\i<xs.length:=by
 unfold atI at h
 cases e:ixN xs.length i with
 | none=>rw [e] at h;cases h
 | some j =>
  rw [e] at h;obtain⟨h1,h2,h3,h4⟩:=u8 e;exact⟨j,h1,h,h2,h3,h4⟩
theorem zl{α:Type}{xs:List α}{j:Nat}{v:α}(h:xs[j]?=some v):atI xs (j:Int)=some v:=by
 have hj:j<xs.length:=(List.getElem?_eq_some_iff.mp h).1
 have e:ixN xs.length (j:Int)=some j:=by
  unfold ixN;rw [if_pos (by omega),if_pos (by omega)];simp
 unfold atI;rw [e];exact h
def zm(b:Expr):Prop:=∀o i,subscripted b false o i=operate [o,i] (getItem o i)
def IxR(X:Cx)(r:R2):Prop :=
 ∀(value slice:Expr) (pins:List (Addr×Obj)) (s:Shared) (σ:St) (H:Hp) (x y:V) (v u:Value) (Q:VK),Inv X pins σ H s->eo x v->eo y u->r x y H Q ->
  subscripted slice false v u=operate [v,u] (getItem v u)->wpAny (model X.prog X.w) X.A (subscriptTail value slice v u) (EP X pins σ Q) X.xe s
def MtR(X:Cx)(id:String)(r:V->List V->Hp->VK->Prop):Prop :=
 ∀(pins:List (Addr×Obj)) (s:Shared) (σ:St) (H:Hp) (x:V) (xs:List V) (v:Value) (us:List Value) (Q:VK),Inv X pins σ H s->eo x v->cB xs us->r x xs H Q ->
  wpAny (model X.prog X.w) X.A (call (.builtin id) (v::us)) (EP X pins σ Q) X.xe s
section
variable {X:Cx}{a b:Expr}{ta tb:TE}{pos:Pos}
theorem IxR.or{r r':R2}(h:IxR X r)(h':IxR X r'):IxR X (fun x y H Q=>r x y H Q\/r' x y H Q):=by
 intro value slice pins s σ H x y v u Q I rx ry q hs
 rcases q with q|q
 .exact h value slice pins s σ H x y v u Q I rx ry q hs
 .exact h' value slice pins s σ H x y v u Q I rx ry q hs
theorem bH{r:R2}(hr:IxR X r)(ha:PE X a ta)(hb:PE X b tb)(hs:zm b):PE X (.Subscript a b pos) (tOp r ta tb):=by
 intro pins s σ H Q I h;exact Subscript_ (CW ha hb I h fun v u s2 x y H2 I2 rx ry q=>hr a b pins s2 σ H2 x y v u Q I2 rx ry q (hs _ _))
def D3(K:PySem.W.Frag):R2:=fun x y H Q=>∃p xs i v,x=.ref p/\y=.int i/\SqL K H p xs/\atI xs i=some v/\Q v H
def D4(K:PySem.W.Frag):R2:=fun x y H Q=>∃p xs i v,x=.ref p/\y=.int i/\SqT K H p xs/\atI xs i=some v/\Q v H
def ED:R2:=fun x y H Q=>∃z i c,x=.str z/\y=.int i/\z.length<=sizeLine/\atI z.cps.toList i=some c/\Q (.str ⟨#[c]⟩) H
theorem zn:IxR X (D3 X.K):=by
 intro value slice pins s σ H x y v u Q I rx ry h hs;obtain⟨p,xs,i,z,rfl,rfl,hq,he,q⟩:=h;cases rx;obtain⟨t,rfl⟩:=ry;obtain⟨its,r,pl,hz⟩:=I.list hq;obtain⟨j,h1,h2,h3,h4,h5⟩:=rl he;obtain⟨w,ew,rw'⟩:=r.get h2;have hl:=r.length;have hn:=nP;have fin:EP X pins σ Q w s:=⟨z,H,I,rw',q⟩
 by_cases h0:0<=i
 .have hj:i.toNat=j:=by
   rw [seqIndex_of h0 h5] at h1;exact Option.some.inj h1
  exact item_listR pl.isList h0 (by omega) (by rw [hj];simpa using ew) fin hs
 .have hj:(i+(its.toArray.size:Int)).toNat=j:=by
   rw [seqIndex_neg (by omega) h4] at h1;rw [size_toArray,<- hl];exact Option.some.inj h1
  exact subscriptTail_builtinR (x:=w) pl.isList.typeIs slot_list_getitem.lookup
   (wpAny_getItem_list_neg (Q:=fun r s'=>r=w/\EP X pins σ Q r s') pl.isList (by omega) (by rw [size_toArray] <;> omega) (by omega) (by rw [hj];simpa using ew) ⟨rfl,fin⟩) hs
theorem Bm:IxR X (D4 X.K):=by
 intro value slice pins s σ H x y v u Q I rx ry h hs;obtain⟨p,xs,i,z,rfl,rfl,hq,he,q⟩:=h;cases rx;obtain⟨t,rfl⟩:=ry;obtain⟨its,r,pl,hz⟩:=I.tuple hq;obtain⟨j,h1,h2,h3,h4,h5⟩:=rl he;obtain⟨w,ew,rw'⟩:=r.get h2;have hl:=r.length;have hn:=nP;have fin:EP X pins σ Q w s:=⟨z,H,I,rw',q⟩
 exact subscriptTail_builtinR (x:=w) pl.typeIs slot_tuple_getitem.lookup
  (getItem_tuple (j:=j) (Q:=fun r s'=>r=w/\EP X pins σ Q r s') pl (by omega) (by omega) (by rw [size_toArray,<- hl];exact h1) (by simpa using ew) ⟨rfl,fin⟩) hs
theorem Bn:IxR X ED:=by
 intro value slice pins s σ H x y v u Q I rx ry h hs;obtain⟨z,i,c,rfl,rfl,hz,he,q⟩:=h;obtain⟨t,rfl⟩:=rx;obtain⟨t',rfl⟩:=ry;obtain⟨j,h1,h2,h3,h4,h5⟩:=rl he;have hl:z.cps.toList.length=z.length:=by simp [Str.length]
 rw [hl] at h1 h4 h5;have hn:=nP
 exact tail_any (typeIs_str s z t) slot_str_getitem.lookup (getItem_str (c:=c) (by
  have e1:decide (i < -(2^63:Int))=false:=decide_eq_false (by omega);have e2:decide (i >= 2^63)=false:=decide_eq_false (by omega);rw [e1,e2,Bool.or_false]) (by rw [h1];simpa using h2) ⟨.str ⟨#[c]⟩,H,I.tok _,⟨_,rfl⟩,q⟩) hs
theorem tX(its:List Value)(n j:Nat)(u:Value):Obj.mapSeq (·.setIfInBounds j u) { cls:=.type "list",data:=.seq its.toArray n }={ cls:=.type "list",data:=.seq (its.set j u).toArray n }:=by
 simp [Obj.mapSeq]
theorem Inv.lst{pins:List (Addr×Obj)}{σ:St}{H:Hp}{s:Shared}{p:Addr}{xs:List V}(I:Inv X pins σ H s)(h:H p=some (.lst xs)) :
  ∃(its:List Value) (n:Nat),cB xs its/\s.heap.get? p=some { cls:=.type "list",data:=.seq its.toArray n }/\xs.length<=sizeLine:=by
 obtain⟨z,its,n,r,e⟩:=I.hok p _ h;exact⟨its,n,r,e,z⟩
theorem Inv.lstUpd{pins:List (Addr×Obj)}{σ:St}{H:Hp}{s:Shared}{p:Addr}{xs ys:List V}{its its':List Value}{n n':Nat}{f:Obj->Obj}(I:Inv X pins σ H s)(h:H p=some (.lst xs))
  (ho:s.heap.get? p=some { cls:=.type "list",data:=.seq its.toArray n }) (hf:f { cls:=.type "list",data:=.seq its.toArray n }={ cls:=.type "list",data:=.seq its'.toArray n' }) (r:cB ys its') (hz:ys.length<=sizeLine) (t:Nat) :
  Inv X pins σ (upd H p (.lst ys)) { s with heap:=s.heap.update p f,toks:=t }:=by
 have e:(s.heap.update p f).get? p=some { cls:=.type "list",data:=.seq its'.toArray n' }:=by
  rw [Heap.get?_update_self f ho (by rw [hf] <;> rfl),hf]
 refine I.write (x:=p) (e:=p) (by rw [h];trivial) (.inl rfl) (fun b u hb q=>(Heap.get?_update_other _ _ (Ne.symm hb)).trans q) ⟨_,e⟩ ?_;exact⟨hz,its',n',r,e⟩
def Bo:V->V->V->Hp->(Hp->Prop)->Prop:=fun o i v H Q=>∃p xs k j,o=.ref p/\i=.int k/\H p=some (.lst xs)/\ixN xs.length k=some j/\Q (upd H p (.lst (xs.set j v)))
theorem oy:DX X Bo:=by
 intro pins s σ H o i v ov iv u Q I ro ri rv h;obtain⟨p,xs,k,j,rfl,rfl,hp,hj,q⟩:=h;cases ro;obtain⟨t,rfl⟩:=ri;obtain⟨its,n,r,ho,hz⟩:=I.lst hp;obtain⟨h1,h2,h3,h4⟩:=u8 hj;have hl:=r.length;have hn:=nP
 have I':Inv X pins σ (upd H p (.lst (xs.set j v))) { s with heap:=s.heap.update p (Obj.mapSeq (·.setIfInBounds j u)) } :=
  I.lstUpd hp ho (tX its n j u) (r.set rv j) (by rw [length_set];exact hz) s.toks
 by_cases h0:0<=k
 .have hk:k.toNat=j:=by
   rw [seqIndex_of h0 h4] at h1;exact Option.some.inj h1
  exact PySem.W.ki_setAt ho h0 (by omega) (by rw [size_toArray,<- hl];exact h4) (by rw [hk];exact⟨_,I',q⟩)
 .have hk:(k+(its.toArray.size:Int)).toNat=j:=by
   rw [seqIndex_neg (by omega) h3] at h1;rw [size_toArray,<- hl];exact Option.some.inj h1
  exact PySem.W.ki_setBack ho (by omega) (by rw [size_toArray,<- hl];exact h3) (by omega) (by rw [hk];exact⟨_,I',q⟩)
theorem pV(lo hi:Option Int)(n:Nat):(sliceBounds lo hi none n).1=((HT.sIx n 0 lo:Nat):Int)/\(sliceBounds lo hi none n).2.1=((HT.sIx n n hi:Nat):Int)/\(sliceBounds lo hi none n).2.2=1:=by
 refine⟨?_,?_,rfl⟩
 .cases lo with
  | none=>simp [sliceBounds,HT.sIx]
  | some i =>
   simp only [sliceBounds,HT.sIx,Option.getD_none,show (1:Int) > 0 by decide,if_true]
   by_cases h:i<0
   .simp only [h,if_true] <;> omega
   .simp only [h,if_false] <;> omega
 .cases hi with
  | none=>simp [sliceBounds,HT.sIx]
  | some i =>
   simp only [sliceBounds,HT.sIx,Option.getD_none,show (1:Int) > 0 by decide,if_true]
   by_cases h:i<0
   .simp only [h,if_true] <;> omega
   .simp only [h,if_false] <;> omega
theorem oz(its:List Value)(lo hi:Option Int):slicePick its.toArray lo hi none=((its.drop (HT.sIx its.length 0 lo)).take (HT.sIx its.length its.length hi - HT.sIx its.length 0 lo)).toArray:=by
 obtain⟨h1,h2,h3⟩:=pV lo hi its.toArray.size;unfold slicePick;rw [h1,h2,h3];simp only [sliceRange_one,pick_run,size_toArray] <;> rfl
def D5(K:PySem.W.Frag):V->Option Int->Option Int->Hp->VK->Prop:=fun x lo hi H Q=>∃a xs,x=.ref a/\SqL K H a xs/\∀p,H p=none->Q (.ref p) (upd H p (.lst (zj xs lo hi)))
theorem zo:SlR X (D5 X.K):=by
 intro pins s σ H x v vl vu lo hi sl Q I rx hs pl pu h;obtain⟨a,xs,rfl,hx,q⟩:=h;cases rx;obtain⟨its,r,ht,hz⟩:=I.list hx;have hlen:=r.length;refine⟨"list",_,slot_list_getitem.lookup,ht.isList.typeIs,?_⟩;refine wpAny_getItem_list_slice ht.isList hs pl pu .none (by simp) ?_ (by rw [size_toArray] <;> omega);rw [oz,<- hlen];refine⟨.ref s.heap.objs.size,_,I.laid (t':=s.toks) (o:=.lst (zj xs lo hi)) (fun b ob q=>Heap.get?_push_of_some _ q) (Nat.le_refl _) ?_,rfl,q _ (I.hok.fresh (Nat.le_refl _))⟩
 exact⟨le_trans (lJ xs lo hi) hz,_,0,(r.drop (HT.sIx xs.length 0 lo)).take (HT.sIx xs.length xs.length hi - HT.sIx xs.length 0 lo),Heap.get?_push_size _ rfl⟩
theorem kI:cK X (.builtin "len") (fun xs H Q=>∃p ys,xs=[.ref p]/\(SqL X.K H p ys\/SqT X.K H p ys)/\Q (.int ys.length) H):=by
 intro pins s σ H xs us Q I r h;obtain⟨p,ys,rfl,hq,q⟩:=h;obtain⟨u,rfl,rx⟩:=m9 r;cases rx;have hn:=nP
 rcases hq with hq|hq
 .obtain⟨its,r',pl,hz⟩:=I.list hq;have hlen:=r'.length;exact Calls.call_len_list pl.isList (by simp only [size_toArray] <;> omega) ⟨.int ys.length,H,I.tok _,⟨s.toks+1,by rw [size_toArray,hlen]⟩,q⟩
 .obtain⟨its,r',pl,hz⟩:=I.tuple hq;have hlen:=r'.length;exact len_tuple pl (by simp only [size_toArray] <;> omega) ⟨.int ys.length,H,I.tok _,⟨s.toks+1,by rw [size_toArray,hlen]⟩,q⟩
theorem pW:cK X (.builtin "len") (fun xs H Q=>∃z,xs=[.str z]/\z.length<=sizeLine/\Q (.int z.length) H):=by
 intro pins s σ H xs us Q I r h;obtain⟨z,rfl,hz,q⟩:=h;obtain⟨u,rfl,t,rfl⟩:=m9 r;have hn:=nP;exact len_str (by omega) ⟨.int z.length,H,I.tok _,⟨_,rfl⟩,q⟩
theorem cK.or{f:Value}{r r':List V->Hp->VK->Prop}(h:cK X f r)(h':cK X f r'):cK X f (fun xs H Q=>r xs H Q\/r' xs H Q):=by
 intro pins s σ H xs us Q I rs q
 rcases q with q|q
 .exact h pins s σ H xs us Q I rs q
 .exact h' pins s σ H xs us Q I rs q
theorem pX:cK X (.type "list") (fun xs H Q=>∃p ys,xs=[.ref p]/\(SqL X.K H p ys\/SqT X.K H p ys)/\∀l,H l=none->Q (.ref l) (upd H l (.lst ys))):=by
 intro pins s σ H xs us Q I r h;obtain⟨p,ys,rfl,hq,q⟩:=h;obtain⟨u,rfl,rx⟩:=m9 r;cases rx
 have fin:∀(its:List Value),cB ys its->ys.length<=sizeLine->∀(h':Heap) (c':Nat),(∀b o',s.heap.get? b=some o'->h'.get? b=some o') ->
   h'.get? s.heap.objs.size=some { cls:=.type "list",dict:=none,data:=.seq its.toArray c',slots:=#[] }->EP X pins σ Q (.ref s.heap.objs.size) { s with heap:=h' }:=fun its r' hz h' c' kp e =>
  ⟨.ref s.heap.objs.size,_,I.laid (t':=s.toks) kp (Nat.le_refl _) (show ck X.prog X.w _ h' _ (.lst ys) from ⟨hz,its,c',r',e⟩),rfl,q _ (I.hok.fresh (Nat.le_refl _))⟩
 rcases hq with hq|hq
 .obtain⟨its,r',pl,hz⟩:=I.list hq;have hlen:=r'.length;obtain⟨o,ho,hc,n,hd⟩:=pl.isList;exact call_list_seq p (.inl rfl) ho hc hd (fun h' c' kp e=>fin its r' hz h' c' kp e) (by simp only [size_toArray] <;> omega)
 .obtain⟨its,r',pl,hz⟩:=I.tuple hq;have hlen:=r'.length;obtain⟨o,ho,hc,n,hd⟩:=pl;exact call_list_seq p (.inr rfl) ho hc hd (fun h' c' kp e=>fin its r' hz h' c' kp e) (by simp only [size_toArray] <;> omega)
theorem oA:cK X (.type "tuple") (fun xs H Q=>∃p ys,xs=[.ref p]/\((SqL X.K H p ys/\∀l,H l=none->Q (.ref l) (upd H l (.tup ys)))\/(SqT X.K H p ys/\Q (.ref p) H))):=by
 intro pins s σ H xs us Q I r h;obtain⟨p,ys,rfl,h⟩:=h;obtain⟨u,rfl,rx⟩:=m9 r;cases rx
 rcases h with ⟨hq,q⟩|⟨hq,q⟩
 .obtain⟨its,r',pl,hz⟩:=I.list hq;have hlen:=r'.length;refine call_tuple_list pl.isList (fun h' kp=>?_) (by simp only [size_toArray] <;> omega);have I1:Inv X pins σ H { s with heap:=h' }:=I.kept (t':=s.toks) kp
  have I2:Inv X pins σ (upd H h'.objs.size (.tup ys)) { s with heap:=h'.push { cls:=.type "tuple",data:=.seq its.toArray } } :=
   I1.laid (t':=s.toks) (fun b o e=>Heap.get?_push_of_some _ e) (Nat.le_refl _) (show ck X.prog X.w _ _ _ (.tup ys) from ⟨hz,its,r',IsTup.new _ _⟩)
  exact⟨.ref h'.objs.size,_,I2,rfl,q _ (I1.hok.fresh (Nat.le_refl _))⟩
 .obtain⟨its,r',pl,hz⟩:=I.tuple hq;exact call_tuple_same pl ⟨.ref p,H,I,rfl,q⟩
def tyV(K:PySem.W.Frag)(T:String)(x:V)(H:Hp):Prop:=match x with
 | .str _=>T="str"
 | .int _=>T="int"
 | .ref p=>(T="list"/\∃xs,SqL K H p xs)\/(T="tuple"/\∃o,K.lookup p=some o/\o.cls=.type "tuple"/\o.dict=none) \/
   (T="dict"/\((∃kvs,H p=some (.dK kvs))\/∃kvs,H p=some (.dT kvs)))\/(T="set"/\∃S n,H p=some (.set S n))
 | _=>False
theorem u9{pins:List (Addr×Obj)}{σ:St}{H:Hp}{s:Shared}{T:String}{x:V}{v:Value}(I:Inv X pins σ H s)(r:eo x v)(ty:tyV X.K T x H) :
  s.TypeIs v T/\∀a,v=.ref a->∃ob,s.heap.get? a=some ob/\ob.dict=none:=by
 cases x with
 | str z =>
  obtain⟨t,rfl⟩:=r;cases (show T="str" from ty);exact⟨typeIs_str s z t,fun _ e=>nomatch e⟩
 | int i =>
  obtain⟨t,rfl⟩:=r;cases (show T="int" from ty);exact⟨typeIs_int s i t,fun _ e=>nomatch e⟩
 | ref p =>
  cases r
  rcases ty with ⟨rfl,xs,hq⟩|⟨rfl,o,hk,hc,hd⟩|⟨rfl,hk⟩|⟨rfl,S,n,hk⟩
  .obtain⟨its,_,pl,_⟩:=I.list hq;refine⟨pl.isList.typeIs,fun a e=>?_⟩;cases e;obtain⟨o,n,e,c,hd,_⟩:=pl;exact⟨o,e,hd⟩
  .refine⟨⟨o,I.kIn p o hk,hc⟩,fun a e=>?_⟩;cases e;exact⟨o,I.kIn _ o hk,hd⟩
  .have z:∃o,s.heap.get? p=some o/\o.ExactDict:=by
    rcases hk with ⟨kvs,hk⟩|⟨kvs,hk⟩
    .obtain⟨_,_,_,_,o,_,_,e,ex,_⟩:=I.hok p _ hk;exact⟨o,e,ex⟩
    .obtain⟨_,_,_,_,o,_,_,e,ex,_⟩:=I.hok p _ hk;exact⟨o,e,ex⟩
   obtain⟨o,e,ex⟩:=z;refine⟨⟨o,e,ex.1⟩,fun a e2=>?_⟩;cases e2;exact⟨o,e,ex.2.1⟩
  .obtain⟨o,_,_,_,e,ex,_⟩:=I.hok p _ hk;refine⟨⟨o,e,ex.1⟩,fun a e2=>?_⟩;cases e2;exact⟨o,e,ex.2.1⟩
 | _=>exact False.elim ty
def D6(K:PySem.W.Frag)(T:String)(r:V->List V->Hp->VK->Prop)(to:TE):TE:=fun σ H Q=>to σ H fun x H1=>tyV K T x H1/\r x [] H1 Q
def tBM(K:PySem.W.Frag)(T:String)(r:V->List V->Hp->VK->Prop)(to:TE)(t:TA):TE:=fun σ H Q=>to σ H fun x H1=>tyV K T x H1/\t σ H1 fun xs H2=>r x xs H2 Q
variable {o e:Expr}{es:List Expr}{to:TE}{t:TA}{name:Str}{apos cpos:Pos}{T id:String}{r:V->List V->Hp->VK->Prop}
theorem Bp(pa:PlainAttrs T)(slot:Slot T name id)(hty:typeOf (.builtin id)=pure (.type "method_descriptor"))(hm:MtR X id r)(ho:PE X o to)
  (hbase:attributeBase o name X.env (eval o X.env)=eval o X.env:=by rfl) (hline:(apos.endLine == cpos.line)=true:=by rfl):PE X (.Call (.Attribute o name apos) [] [] cpos) (D6 X.K T r to):=by
 intro pins s σ H Q I h;refine wpAny_Call_method0_late hbase hline (thn (ho pins s σ H _ I h) fun v s1 ⟨x,H1,I1,r1,ty,q1⟩=>?_);obtain⟨h1,h2⟩:=u9 I1 r1 ty;exact⟨T,id,pa,slot,hty,h1,h2,Calls.callWith_builtin rfl (PySem.evalArgs_none (hm pins s1 σ H1 x [] v [] Q I1 r1 .nil q1))⟩
theorem C9(pa:PlainAttrs T)(slot:Slot T name id)(hty:typeOf (.builtin id)=pure (.type "method_descriptor"))(hm:MtR X id r)(ho:PE X o to)(ha:PA X (e::es) t)
  (hbase:attributeBase o name X.env (eval o X.env)=eval o X.env:=by rfl)
  (hfew:((backTo cpos (starEach (e::es) X.env)).all (fun x=>!x.1) && (backToKw cpos (keywordEach [] X.env)).all (fun x=>x.1.isSome)
   && decide ((e::es).length+([]:List Keyword).length+(if ([]:List Keyword).isEmpty then 0 else 1)<30))=true:=by rfl)
  (hline:(apos.endLine == cpos.line)=true:=by rfl) (hs:starEach (e::es) X.env=(false,eval e X.env)::starEach es X.env:=by rfl) (hplain:(backTo cpos (starEach es X.env)).any (·.1)=false:=by rfl) :
  PE X (.Call (.Attribute o name apos) (e::es) [] cpos) (tBM X.K T r to t):=by
 intro pins s σ H Q I h;refine wpAny_Call_method_late hbase hfew hline rfl (thn (ho pins s σ H _ I h) fun v s1 ⟨x,H1,I1,r1,ty,q1⟩=>?_);obtain⟨h1,h2⟩:=u9 I1 r1 ty;refine⟨T,id,pa,slot,hty,h1,h2,?_⟩;have hA:=ha cpos pins s1 σ H1 _ I1 q1;rw [hs] at hA ⊢;refine Calls.callWith_builtin (by show (false || (backTo cpos (starEach es X.env)).any (·.1))=false;rw [hplain] <;> rfl) (Calls.evalArgs_plain ?_);exact thn hA fun us s2 ⟨vs,H2,I2,r2,q2⟩=>hm pins s2 σ H2 x vs v us Q I2 r1 r2 q2
end
def MtM(X:Cx)(id:String)(r:V->List V->Hp->VK->Prop):Prop :=
 ∀(pins:List (Addr×Obj)) (s:Shared) (σ:St) (H:Hp) (x:V) (xs:List V) (v:Value) (us:List Value) (Q:VK),Inv X pins σ H s->eo x v->cB xs us->r x xs H Q ->
  wpAny (model X.prog X.w) X.A (call (.builtin id) (v::us)) (EP X pins σ Q) X.xe s
theorem cB.one:∀{x:V}{us:List Value},cB [x] us->∃u,us=[u]/\eo x u
 | _,_,.cons r .nil=>⟨_,rfl,r⟩
theorem cB.zero:∀{us:List Value},cB [] us->us=[]
 | _,.nil=>rfl
theorem cB.dropLast{xs:List V}{us:List Value}(h:cB xs us):cB xs.dropLast us.dropLast:=by
 induction h with
 | nil=>exact .nil
 | cons r t ih =>
  cases t with
  | nil=>exact .nil
  | cons q t'=>exact .cons r ih
theorem cB.reverse{xs:List V}{us:List Value}(h:cB xs us):cB xs.reverse us.reverse:=by
 induction h with
 | nil=>exact .nil
 | cons r t ih=>rw [reverse_cons,reverse_cons];exact cB.append ih (.cons r .nil)
theorem cB.rep{xs:List V}{us:List Value}(h:cB xs us):∀k:Nat,cB (List.replicate k xs).flatten (List.replicate k us).flatten
 | 0=>.nil
 | k+1=>by
  rw [replicate_succ,replicate_succ,flatten_cons,flatten_cons];exact cB.append h (cB.rep h k)
theorem tY{α:Type}(l:List α):l.eraseIdx (l.length - 1)=l.dropLast:=by
 induction l with
 | nil=>rfl
 | cons a r ih =>
  cases r with
  | nil=>rfl
  | cons b r =>
   have e:(a::b::r).length - 1=((b::r).length - 1)+1:=by
    have h1:(a::b::r).length=r.length+2:=rfl;have h2:(b::r).length=r.length+1:=rfl;omega
   rw [e,eraseIdx_cons_succ,ih]
   all_goals rfl
theorem pY(its:List Value):∀(k:Nat) (acc:List Value),
  List.foldl (fun x1 x2=>x1++x2) acc.toArray (List.replicate k its.toArray)=(acc++(List.replicate k its).flatten).toArray
 | 0,acc=>by simp
 | k+1,acc=>by
  have e:acc.toArray++its.toArray=(acc++its).toArray:=by simp
  have e2:(acc++its)++(List.replicate k its).flatten=acc++(List.replicate (k+1) its).flatten:=by
   rw [replicate_succ,flatten_cons,append_assoc]
  rw [<- e2,<- pY its k (acc++its),<- e,replicate_succ,foldl_cons]
section
variable {X:Cx}{pins:List (Addr×Obj)}{σ:St}{H:Hp}{s:Shared}{l b:Addr}{xs ys zs:List V}
theorem Inv.lset{its its':List Value}{n:Nat}{f:Array Value->Array Value}{t':Nat}(I:Inv X pins σ H s)(hH:H l=some (.lst xs))
  (e:s.heap.get? l=some { cls:=.type "list",data:=.seq its.toArray n }) (hf:f its.toArray=its'.toArray) (hv:cB ys its') (hz:ys.length<=sizeLine) :
  Inv X pins σ (upd H l (.lst ys)) { s with heap:=s.heap.update l (Obj.mapSeq f),toks:=t' }:=by
 have q:=PySem.IsL.update e f;rw [hf] at q;refine I.write (x:=l) (e:=l) (by rw [hH];exact trivial) (.inl rfl) (fun b' u hb hu=>(Heap.get?_update_other s.heap (Obj.mapSeq f) (Ne.symm hb)).trans hu) ⟨_,q⟩ ?_;exact⟨hz,its',_,hv,q⟩
theorem Inv.lnew{its:List Value}{t':Nat}(I:Inv X pins σ H s)(hv:cB ys its)(hz:ys.length<=sizeLine) :
  Inv X pins σ (upd H s.heap.objs.size (.lst ys)) { s with heap:=s.heap.push { cls:=.type "list",data:=.seq its.toArray },toks:=t' } :=
 I.laid (fun _ _ q=>Heap.get?_push_of_some _ q) (Nat.le_refl _) ⟨hz,its,0,hv,Heap.get?_push_size _ rfl⟩
theorem Inv.fresh(I:Inv X pins σ H s):H s.heap.objs.size=none:=I.hok.fresh (Nat.le_refl _)
theorem Inv.lstM(I:Inv X pins σ H s)(hH:H l=some (.lst xs)):xs.length<=sizeLine/\∃(its:List Value) (n:Nat),cB xs its/\xs.length=its.length/\s.heap.get? l=some { cls:=.type "list",data:=.seq its.toArray n }:=by
 obtain⟨z,its,n,r,e⟩:=I.hok l _ hH;exact⟨z,its,n,r,r.length,e⟩
theorem w6{n:Nat}(h:n<=sizeLine):Builtin.List.listTooLong n=false:=by
 unfold Builtin.List.listTooLong;exact decide_eq_false (by omega)
end
section
variable {X:Cx}
def va:V->List V->Hp->VK->Prop:=fun x vs H Q=>∃l xs y,x=.ref l/\vs=[y]/\H l=some (.lst xs)/\xs.length<sizeLine/\Q .non (upd H l (.lst (xs++[y])))
theorem eX:MtM X "list.append" va:=by
 intro pins s σ H x vs v us Q I rx rv h;obtain⟨l,xs,y,rfl,rfl,hH,hz,q⟩:=h;cases rx;obtain⟨u,rfl,ru⟩:=rv.one;obtain⟨z,its,n,r,hl,e⟩:=I.lstM hH;refine call_meets F.slot_list_append ⟨_,e,rfl⟩ F.entry_list_append (F.args_list_append_2 _ _) (PySem.list_append l its.toArray n u (by rw [size_toArray];omega)) ⟨e,?_⟩;refine⟨.non,_,I.lset (its':=its++[u]) hH e (by simp) (r.append (.cons ru .nil)) ?_,rfl,q⟩;rw [length_append,length_singleton]
 omega
def D7:V->List V->Hp->VK->Prop:=fun x vs H Q=>∃l xs y,x=.ref l/\vs=[]/\H l=some (.lst xs)/\xs[xs.length - 1]?=some y/\Q y (upd H l (.lst xs.dropLast))
theorem Bq:MtM X "list.pop" D7:=by
 intro pins s σ H x vs v us Q I rx rv h;obtain⟨l,xs,y,rfl,rfl,hH,hy,q⟩:=h;cases rx;have hus:=rv.zero;subst hus;obtain⟨z,its,n,r,hl,e⟩:=I.lstM hH;obtain⟨u,hu,ru⟩:=r.get hy
 have hy':its.toArray[its.toArray.size - 1]?=some u:=by
  show its.toArray[its.length - 1]?=some u;rw [<- Array.getElem?_toList,<- hl];exact hu
 refine call_meets F.slot_list_pop ⟨_,e,rfl⟩ F.entry_list_pop (F.args_list_pop_1 _) (MeetsSeq.list_pop_last l its.toArray n u hy' (by rw [size_toArray];omega)) ⟨e,?_⟩
 refine⟨y,_,I.lset (its':=its.dropLast) hH e ?_ r.dropLast ?_,ru,q⟩
 .show its.toArray.eraseIdxIfInBounds (its.toArray.size - 1)=its.dropLast.toArray;rw [size_toArray,eraseIdxIfInBounds_toArray,tY]
 .rw [length_dropLast];omega
def D8:R2:=fun x y H Q=>∃l k xs,x=.ref l/\y=.int k/\H l=some (.lst xs)/\-(2^63)<=k/\k<2^63/\xs.length*k.toNat<=sizeLine /\
 ∀p,H p=none->Q (.ref p) (upd H p (.lst (List.replicate k.toNat xs).flatten))
theorem zp{α:Type}(xs:List α)(k:Nat):(List.replicate k xs).flatten.length=k*xs.length:=by
 induction k with
 | zero=>simp
 | succ k ih=>rw [replicate_succ,flatten_cons,length_append,ih,succ_mul,add_comm]
theorem Br:OpR X (binaryOp .Mult) D8:=by
 intro pins s σ H x y v u Q I rx ry h;obtain⟨l,k,xs,rfl,rfl,hH,h1,h2,hz,q⟩:=h;cases rx;obtain⟨t,rfl⟩:=ry;obtain⟨z,its,n,r,hl,e⟩:=I.lstM hH;have hlen:its.toArray.size*k.toNat<=sizeLine:=by rw [size_toArray,<- hl];exact hz
 have hcap:¬ its.toArray.size*k.toNat > (2^63 - 1) / 8:=by
  have:(sizeLine:Nat)<=(2^63 - 1) / 8:=by decide
  omega
 have hfit:¬ (!Builtin.List.listFitsIndex k)=true:=by
  rw [fitsIndex_both h1 h2];exact Bool.false_ne_true
 have hlong:¬ Builtin.List.listTooLong (its.toArray.size*k.toNat)=true:=by
  rw [w6 hlen];exact Bool.false_ne_true
 have hnew:List.foldl (fun x1 x2=>x1++x2) #[] (List.replicate (if its.toArray.isEmpty=true then 0 else k.toNat) its.toArray)=(List.replicate k.toNat its).flatten.toArray:=by
  have f0:∀m:Nat,List.foldl (fun x1 x2=>x1++x2) #[] (List.replicate m its.toArray)=(List.replicate m its).flatten.toArray:=fun m=>by
   have:=pY its m [];rw [nil_append] at this;exact this
  rw [f0]
  cases its with
  | nil=>simp
  | cons a r'=>rw [if_neg (by simp)]
 refine wpAny_binaryOp_repeat_ref (T:="list") (U:="int") (by decide) ⟨_,e,rfl⟩ (fun s'=>typeIs_int s' k t) noFill_list_mul F.fills_int_mul F.slot_int_rmul repeat_list F.slot_int_index.lookup
  (call_meets F.slot_int_rmul (typeIs_int s k t) F.entry_int_rmul (F.args_int_rmul_2 _ _) (int___rmul___int_list k t l its.toArray n)
   ⟨e,rfl,⟨_,e,rfl⟩,call_meets F.slot_list_mul ⟨_,e,rfl⟩ F.entry_list_mul (F.args_list_mul_2 _ _) (AutoListH.list___mul___list_int_3 l its.toArray n k t hfit hcap hlong) ⟨e,?_⟩⟩)
 rw [hnew];exact⟨.ref _,_,I.lnew (t':=s.toks) (r.rep k.toNat) (by rw [zp,mul_comm];exact hz),rfl,q _ I.fresh⟩
end
end L2
namespace Att
open PySem PySem.W PySem.Calls PyProof.Rows
theorem lK{P:Params}{h:Heap}:∀(ns:List Int) (vs:List Value),WellAll P h vs (ns.map WData.int)->IntsAre vs ns:=by
 intro ns
 induction ns with
 | nil =>
  intro vs w;rw [map_nil] at w;cases w;exact .nil
 | cons n ns ih =>
  intro vs w;rw [map_cons] at w
  cases w with
  | cons a b =>
   cases a;exact .cons _ _ (ih _ b)
theorem vb{l:OpenLaw}{n:Nat}(hn:l.most=some n){P:Params}{h:Heap}{args:List WData}{vals:List Value}
  (hpre:l.row.toRowW.claim.pre args=true) (hwl:WellAll P h vals args) :
  ∃a vs ns,vals=[Value.ref a]/\args=[WData.list (ns.map WData.int)]/\h.get? a=some { cls:=.type "list",data:=.seq vs.toArray }/\IntsAre vs ns/\ns.length<=n:=by
 have hsh:WShape.hasAll [] args [.list .int]=true:=(pre_splitW hpre).1;have hc:l.pre.holds [] { args:=args }=true:=(pre_splitW hpre).2;obtain⟨d,r,rfl,h1,h2⟩:=hasAllW_cons hsh;obtain rfl:=hasAllW_nil h2;obtain⟨xs,rfl,h3⟩:=hasW_list h1;obtain⟨ns,rfl⟩:=items_int h3
 have hlen:ns.length<=n:=by
  unfold OpenLaw.pre at hc
  have h4:(WTm.not (.lt (.lit (.int (n:Int))) (.len (.arg 0)))).holds [] { args:=[.list (ns.map .int)] }=true:=by
   have h4:=(holds_andW hc).1;rw [hn] at h4;exact h4
  have h5:=condW_of h4 (w_not (w_lt w_lit (w_len_list (w_arg rfl))));rw [length_map] at h5;refine le_of_not_lt fun q=>?_;have q':(n:Int)<((ns.length:Nat):Int):=by omega
  first
   | (rw [decide_eq_true q'] at h5;exact absurd h5 (by decide))
   | (simp at h5;omega)
 cases hwl with
 | cons w1 w2 =>
  cases w2
  cases w1 with
  | list ho hall=>exact⟨_,_,ns,rfl,rfl,ho,lK ns _ hall,hlen⟩
theorem vc(l:OpenLaw)(args:List WData):l.row.toRowW.claim.post args (.bool true) args=true :=
 postW_of (r:=l.row.toRowW) (X:=(true == true))
  (show WShape.has [] (.bool true) .bool=true by first|rfl|decide|simp [WShape.has,WShape.arms,WShape.armsAll])
  (show (WTm.eq .res (.lit (.bool true))).value [] { args:=args,res:=some (.bool true),after:=args }=some (.bool (true == true)) from w_eq_bool (w_res rfl) w_lit) rfl
theorem attach_call{l:OpenLaw}{n:Nat}{q:Program}{loose:List Str}{XP:(Str->Option Value)->Heap->Prop}{YP:World->Heap->Prop}{d:DefRec}
  (hn:l.most=some n) (hdf:d.params.defaults=[])
  (call:∀(w:World) (s₀ s₁:Shared) (mg mb:Str->Option Value) (fa:Addr) (o:Obj) (pm cd doc:Value) (a:Addr) (vs:List Value) (ns:List Int),
   Ground q loose [] XP w s₀ mg mb s₁.heap->YP w s₁.heap ->
   s₁.heap.get? fa=some o->o.data=.func (docDef d.name d.params d.body d.scope pm cd doc)->s₁.heap.CodeRec cd d.name->mg d.name=some (.ref fa) ->
   s₁.heap.get? a=some { cls:=.type "list",data:=.seq vs.toArray }->IntsAre vs ns->ns.length<=n->s₁.gens=#[] ->
   codeAny (model l.prog w) callerA (.call (.ref fa) ⟨[.ref a],[]⟩) (fun r s'=>r=.ok (.ret (.bool true))/\OldK s₁.heap s'.heap/\s'.os=s₁.os/\AllBare s'.gens) s₁) :
  WalkO q loose XP YP l.row.toRowW d [] (fun f vs=>PySem.call f vs):=by
 intro w s₀ s₁ mg mb G Y fa o pm cd doc dV kV ho hd hcd hD hmg hg args vals as hpre hlay hrd hwl hlo;obtain rfl:dV=.none:=Dflts.none hD hdf;obtain rfl:kV=.none:=Dflts.noKw hD;obtain⟨a,vs,ns,rfl,rfl,hobj,hints,hlen⟩:=vb hn hpre hwl;refine enter_call (codeAny_mono (call w s₀ s₁ mg mb fa o pm cd doc a vs ns G Y ho (fd_plain hd) hcd hmg hobj hints hlen hg) fun r s' hq=>?_);obtain⟨rfl,h2,h3,h4⟩:=hq;exact⟨.inl ⟨.bool true,.bool true,[],rfl,fun _=>rfl,.bool true,vc l _,fun _=>⟨List.Pairwise.nil,fun _ hm=>(nomatch hm)⟩⟩,h2,h3,h4⟩
end Att
namespace L2
open PySem PySem.Spec PyProof.Rows
theorem pZ:∀{vs:List Value}{ns:List Int},IntsAre vs ns->cB (ns.map V.int) vs
 | _,_,.nil=>.nil
 | _,_,.cons n t h=>.cons ⟨t,rfl⟩ (pZ h)
def Db(H:Hp):Prop:=∀b,H b=none\/∃o xs,H b=some (.frz o (.lst xs))
theorem xb{P:Program}{w:World}{K:PySem.W.Frag}{mg mb:Str->Option Value}{CX:CXT}{k:Nat}{fa a:Addr}{fd:FuncData}{x:Str}{sp:Sp}{s₁:Shared}{vs:List Value}{ns:List Int}
  (KX:K.In s₁.heap) (hns:s₁.heap.Ns mainGlobals mg) (hb:s₁.heap.Ns builtinsNs mb) (hbb:∀x:Str,x≠"__name__"->mb x=bootBuiltins x) (hlim:s₁.heap.NoLimit) (hg:s₁.gens=#[])
  (ha:s₁.heap.get? a=some { cls:=.type "list",data:=.seq vs.toArray }) (hi:IntsAre vs ns) (hl:ns.length<=sizeLine) (hr:iA k callerA)
  (F:∀base:Heap,K.In base->base.Ns mainGlobals mg->pQ P w K mg base CX k fa fd [x] sp) (hbind:∀(s:Shared) (u:Value),BindsTo s fd ⟨[u],[]⟩ [(x,u)])
  (hsp:∀H:Hp,Db H->SqL K H a (ns.map V.int)->sp [.ref a] H (fun v _=>v=.bl true) fun _ _ _=>False)
  (hCX:∀H e s',CX [] H s₁ (fun _ _ _=>False) e s'->False) :
  codeAny (model P w) callerA (.call (.ref fa) ⟨[.ref a],[]⟩) (fun r s'=>r=.ok (.ret (.bool true))/\OldK s₁.heap s'.heap/\s'.os=s₁.os/\AllBare s'.gens) s₁:=by
 have rv:=pZ hi;have lenV:=hi.length
 -- from an abstract heap in which nothing but the script may be tracked
 have core:∀H:Hp,Db H->SqL K H a (ns.map V.int)->HOk P w H s₁.heap->(∀b,H b≠none->b=a)->(H a≠none->K.lookup a=none) ->
   codeAny (model P w) callerA (.call (.ref fa) ⟨[.ref a],[]⟩) (fun r s'=>r=.ok (.ret (.bool true))/\OldK s₁.heap s'.heap/\s'.os=s₁.os/\AllBare s'.gens) s₁:=by
  intro H hO hS hok hA hK;have base_of:∀{b:Addr}{o:Obj},s₁.heap.get? b=some o->H b=none->(wQ s₁.heap H).get? b=some o:=fun e n=>wR e n
  have noA:∀{b:Addr}{o:Obj}{es:Array DictEntry}{ep:Nat},s₁.heap.get? b=some o->o.data=.dict es ep->H b=none:=fun {b o es ep} e d=>by
   cases q:H b with
   | none=>rfl
   | some u =>
    have e':b=a:=hA b (by rw [q];simp);subst e';rw [ha] at e;cases e;have d':Data.seq vs.toArray _=Data.dict es ep:=d;cases d'
  have nsK:∀{b:Addr}{m:Str->Option Value},s₁.heap.Ns b m->(wQ s₁.heap H).Ns b m:=fun {b m} ⟨o,es,ep,e,d,r⟩=>⟨o,es,ep,base_of e (noA e d),d,r⟩
  have hKb:K.In (wQ s₁.heap H):=fun b o e=>base_of (KX b o e) (by
   cases q:H b with
   | none=>rfl
   | some u =>
    have e':b=a:=hA b (by rw [q];simp);subst e';rw [hK (by rw [q];simp)] at e;cases e)
  have hM:Mod K mg (wQ s₁.heap H):=⟨hKb,nsK hns,⟨mb,nsK hb,hbb⟩,let ⟨mc,h1,h2⟩:=hlim;⟨mc,nsK h1,h2⟩⟩
  have e0:wV P w K mg (wQ s₁.heap H) callerA [] s₁ H:=⟨rfl,hM,fun b o e=>za e,le_of_eq (uJ _ _),trivial,fun b hb=>absurd (show b∈([]:List Addr) from hb) (by simp),hok,.of_eq hg⟩
  refine codeAny_mono ((F _ hKb (nsK hns)).run callerA [] s₁ H ⟨[.ref a],[]⟩ [.ref a] [.ref a] _ _ hr e0 (hbind s₁ (.ref a)) (.cons rfl .nil) (hsp H hO hS)) fun r s' h=>?_
  cases r with
  | error e=>exact (hCX H e s' h).elim
  | ok fl =>
   cases fl with
   | next=>exact False.elim h
   | brk=>exact False.elim h
   | cont=>exact False.elim h
   | ret u =>
    obtain⟨v,H',os,bare,un,hok',r',q⟩:=h;have q':v=.bl true:=q;subst q';obtain rfl:u=Value.bool true:=r';refine⟨rfl,OldK.of_keep fun b o e=>?_,os,bare⟩
    cases q:H b with
    | none=>exact un.keep b o e q (by intro z;exact absurd (show b∈([]:List Addr) from z) (by simp)) (by simp)
    | some u =>
     rcases hO b with z|⟨ob,xs,z⟩
     .rw [q] at z;cases z
     .have z2:=un.frzs b ob _ z;obtain⟨e1,_⟩:=hok b _ z;obtain⟨e2,_⟩:=hok' b _ z2;rw [e] at e1;cases e1;exact e2
 cases hk:K.lookup a with
 | some o =>
  -- the script is one of the module's own objects
  have e:=KX a o hk;rw [ha] at e;cases e;refine core (fun _=>none) (fun _=>.inl rfl) (.inr ⟨_,vs.toArray,_,hk,rfl,rfl,rfl,by rw [size_toArray,lenV];exact hl,by simpa using rv⟩) (fun b u z=>by have z':(none:Option HO)=some u:=z;cases z') (fun b z=>absurd rfl z) fun z=>absurd rfl z
 | none =>
  refine core (fun b=>if b=a then some (.frz { cls:=.type "list",data:=.seq vs.toArray } (.lst (ns.map V.int))) else none) (fun b=>?_) (.inl (.inr ⟨{ cls:=.type "list",data:=.seq vs.toArray },if_pos rfl⟩)) (fun b u z=>?_) (fun b z=>?_) fun _=>hk
  .by_cases hb:b=a
   .exact .inr ⟨_,_,if_pos hb⟩
   .exact .inl (if_neg hb)
  .by_cases hb:b=a
   .have z':=(if_pos hb).symm.trans z;cases z';subst hb;exact⟨ha,by rw [length_map];exact hl,vs,_,rv,ha⟩
   .have z':=(if_neg hb).symm.trans z;cases z'
  .by_cases hb:b=a
   .exact hb
   .exact absurd (if_neg hb) z
theorem zq{l:PySem.W.OpenLaw}{n k:Nat}{q:Program}{loose:List Str}{XP:(Str->Option Value)->Heap->Prop}{YP:World->Heap->Prop}{d:DefRec}{K:Params->PySem.W.Frag}{CX:World->CXT}{sp:World->Sp}{x:Str}
  (hn:l.most=some n) (hn2:n<=sizeLine) (hdf:d.params.defaults=[]) (hr:iA k callerA)
  (hY:∀(w:World) (h:Heap),YP w h->(K w.params).In h)
  (F:∀(w:World) (mg:Str->Option Value) (fa:Addr) (h:Heap),(K w.params).In h->h.Ns mainGlobals mg->mg d.name=some (.ref fa) ->
   ∃fd:FuncData,(∀(s:Shared) (u:Value),BindsTo s fd ⟨[u],[]⟩ [(x,u)]) /\
    ∀base:Heap,(K w.params).In base->base.Ns mainGlobals mg->pQ l.prog w (K w.params) mg base (CX w) k fa fd [x] (sp w))
  (hsp:∀(w:World) (H:Hp) (a:Addr) (ns:List Int),ns.length<=n->Db H->SqL (K w.params) H a (ns.map V.int)->sp w [.ref a] H (fun v _=>v=.bl true) fun _ _ _=>False)
  (hCX:∀(w:World) (H:Hp) (s:Shared) (e:Value) (s':Shared),CX w [] H s (fun _ _ _=>False) e s'->False) :
  PySem.W.WalkO q loose XP YP l.row.toRowW d [] (fun f vs=>PySem.call f vs):=by
 refine Att.attach_call hn hdf fun w s₀ s₁ mg mb fa o pm cd doc a vs ns G Y ho hd hcd hmg hobj hints hlen hg=>?_;have KX:=hY w _ Y;obtain⟨fd,hb,hF⟩:=F w mg fa _ KX G.T.g hmg;exact xb KX G.T.g G.T.b G.T.builtins G.T.nolimit hg hobj hints (le_trans hlen hn2) hr hF hb (fun H hO hS=>hsp w H a ns hlen hO hS) fun H e s'=>hCX w H s₁ e s'
def gE(s:Stmt)(j:Nat):Stmt:=match s with
 | .ClassDef _ _ _ body _ _ _ _ _ _ _=>body.getD j (.Pass ⟨0,0,0,0⟩)
 | _=>.Pass ⟨0,0,0,0⟩
def cM(s:Stmt):Arguments:=match s with
 | .FunctionDef _ a _ _ _ _ _ _ _ _=>a
 | _=>{ posonlyargs:=[],args:=[],vararg:=none,kwonlyargs:=[],kw_defaults:=[],kwarg:=none,defaults:=[] }
def bV(s:Stmt):List Stmt:=match s with
 | .FunctionDef _ _ b _ _ _ _ _ _ _=>b
 | _=>[]
def ao(s:Stmt):Scope:=match s with
 | .FunctionDef _ _ _ _ _ _ sc _ _ _=>sc
 | _=>{ kind:=.function,names:=[],isGenerator:=false,isCoroutine:=false }
abbrev CX0:CXT:=fun _ _ _ _ _ _=>False
abbrev E0:XK:=fun _ _ _=>False
theorem Bs{X:Cx}:uZ CX0 X E0:=fun _ _ _ _ _ _ _ h=>h.elim
structure Fun (K:PySem.W.Frag) (x qual:Str) (st:Stmt) (f:Addr) (fd:FuncData):Prop where
 ex:∃(oc:Value) (od:Option Addr) (kV doc pm:Value) (an:Option Addr) (cdv ct:Value) (osl:Array (Option Value)),
  fd=PySem.W.fnOf x qual (cM st) (bV st) (ao st) .none kV doc pm an cdv ct/\K.lookup f=some ⟨oc,od,.func fd,osl⟩/\PySem.W.codeIn K cdv qual=true
 kp:PySem.W.keepIn K (.ref f)=true
section
variable {P:Program}{w:World}{K:PySem.W.Frag}{mg:Str->Option Value}{base:Heap}
theorem Fun.ok{x qual:Str}{st:Stmt}{f:Addr}{fd:FuncData}{N ps:List Str}{k:Nat}{sp:Sp}(F:Fun K x qual st f fd)(S:aI N ps (ao st))(len:∀vs H Q E,sp vs H Q E->vs.length=ps.length)
  (hbody:∀(cdv:Value) (A:Around) (outer:List Env) (s:Shared) (H:Hp) (vs:List V) (Q:VK) (E:XK),iA k (A.deeper (envOfC qual (ao st) s.heap.objs.size f cdv))->sp vs H Q E ->
   ∃t,PSs (nh CX0 P w K mg base N qual (ao st) f cdv A outer s H E).nox (bV st) t/\t { nx:=fun _ H'=>Q .non H',rt:=Q } (start N vs) H):pQ P w K mg base CX0 (k+1) f fd ps sp:=by
 obtain⟨oc,od,kV,doc,pm,an,cdv,ct,osl,rfl,lk,hcd⟩:=F.ex;refine zi lk hcd S len fun A outer s H vs Q E hr hsp=>?_;obtain⟨t,h,q⟩:=hbody cdv A outer s H vs Q E hr hsp;exact⟨t,h.nox,q⟩
theorem Fun.binds{x qual:Str}{st:Stmt}{f:Addr}{fd:FuncData}{ps:List Str}(F:Fun K x qual st f fd)
  (h:∀(kV doc pm:Value) (an:Option Addr) (cdv ct:Value) (us:List Value),us.length=ps.length->bindArgs (PySem.W.fnOf x qual (cM st) (bV st) (ao st) .none kV doc pm an cdv ct) ⟨us,[]⟩=pure (ps.zip us)):ng K fd ps []:=by
 obtain⟨oc,od,kV,doc,pm,an,cdv,ct,osl,rfl,lk,hcd⟩:=F.ex;exact .all (h kV doc pm an cdv ct)
theorem je{x qual:Str}{st:Stmt}{f:Addr}{oc:Value}{od an:Option Addr}{osl:Array (Option Value)}{kV doc pm cdv ct:Value}(l:K.lookup f=some ⟨oc,od,.func (PySem.W.fnOf x qual (cM st) (bV st) (ao st) .none kV doc pm an cdv ct),osl⟩)
  (c:PySem.W.codeIn K cdv qual=true) (k:PySem.W.keepIn K (.ref f)=true):Fun K x qual st f (PySem.W.fnOf x qual (cM st) (bV st) (ao st) .none kV doc pm an cdv ct):=⟨⟨oc,od,kV,doc,pm,an,cdv,ct,osl,rfl,l,c⟩,k⟩
end
section
variable {X:Cx}
theorem pv(i:Nat){x:Str}{pos:Pos}(hN:X.N[i]?=some x:=by rfl)(hv:Vis X.env.scope x:=by first|exact Or.inl rfl|exact Or.inr (Or.inl rfl)|exact Or.inr (Or.inr rfl))(hd:(x == ("__debug__":Str))=false:=by decide)
  (hcd:(x == ("__classdict__":Str))=false:=by decide):PE X (.Name x pos) (dn i):=A8 hN hv hd hcd
end
def S(l:List Nat):Str:=⟨l.toArray⟩
theorem ke(l:List Nat):(S l).length=l.length:=by simp [S,Str.length]
theorem Dc(a b:List Nat):S a++S b=S (a++b):=by
 show (⟨a.toArray++b.toArray⟩:Str)=⟨(a++b).toArray⟩
 rw [append_toArray]
theorem Dd{a b:List Nat}(h:S a=S b):a=b:=by
 have h':=congrArg (fun x:Str=>x.cps.toList) h;simpa [S] using h'
theorem Bt{a b:List Nat}:V.str (S a)=V.str (S b) ↔ a=b:=⟨fun h=>Dd (V.str.inj h),fun h=>by rw [h]⟩
theorem Bu(a b:List Nat):decide (V.str (S a)=V.str (S b))=decide (a=b):=by
 by_cases h:a=b
 .rw [decide_eq_true h,decide_eq_true (Bt.mpr h)]
 .rw [decide_eq_false h,decide_eq_false (fun z=>h (Bt.mp z))]
def il{α:Type}(xs:List α)(lo hi:Option Int):List α:=(xs.drop (HT.sIx xs.length 0 lo)).take (HT.sIx xs.length xs.length hi - HT.sIx xs.length 0 lo)
theorem nq{α:Type}(xs:List α)(lo hi:Option Int):(il xs lo hi).length<=xs.length:=by
 unfold il;rw [length_take,length_drop];omega
theorem vd(xs:List V)(lo hi:Option Int):zj xs lo hi=il xs lo hi:=rfl
theorem Bv(lo hi:Option Int)(n:Nat):Builtin.Str.strSliceIndices lo hi 1 n=(List.range (HT.sIx n n hi - HT.sIx n 0 lo)).map (fun k=>HT.sIx n 0 lo+k):=by
 have key:∀(o:Option Int) (d:Nat),d<=n->(match o with|none=>(d:Int)|some i=>max 0 (min (if i<0 then i+(n:Int) else i) (n:Int)))=((HT.sIx n d o:Nat):Int):=by
  intro o d hd
  cases o with
  | none=>rfl
  | some i =>
   show max 0 (min (if i<0 then i+(n:Int) else i) (n:Int))=_;rw [<- HT.clip_eq i n d]
   by_cases h:i<0
   .rw [if_pos h,if_pos h];omega
   .rw [if_neg h,if_neg h];omega
 have k1:=key lo 0 (zero_le _);have k2:=key hi n (Nat.le_refl _);unfold Builtin.Str.strSliceIndices;simp only [show (1:Int) > 0 by decide,if_true];refine Eq.trans (congrArg (fun a=>sliceRange a _ 1) k1) (Eq.trans (congrArg (fun b=>sliceRange _ b 1) k2) ?_);unfold sliceRange;simp only [show (1:Int) > 0 by decide,if_true];generalize HT.sIx n 0 lo=a;generalize HT.sIx n n hi=b
 have ec:(if (a:Int)<(b:Int) then ((b:Int) - (a:Int)+1 - 1) / 1 else 0).toNat=b - a:=by
  split <;> omega
 rw [ec];apply map_congr_left;intro k _;omega
theorem ve{α:Type}(l:List α)(a m:Nat):((List.range m).map (fun k=>a+k)).filterMap (fun i=>l[i]?)=(l.drop a).take m:=by
 induction m generalizing a with
 | zero=>simp
 | succ m ih =>
  rw [range_succ_eq_map,map_cons,map_map,filterMap_cons];have e:((fun k=>a+k) ∘ Nat.succ)=fun k=>(a+1)+k:=by funext k;simp;omega
  rw [e,ih (a+1)]
  cases h:l[a+0]? with
  | none =>
   have hl:l.length<=a:=by simpa using List.getElem?_eq_none_iff.mp h
   rw [drop_eq_nil_of_le hl,drop_eq_nil_of_le (by omega)];simp
  | some v =>
   have hl:a<l.length:=by simpa using (List.getElem?_eq_some_iff.mp h).1
   have hv:l[a]=v:=by simpa using (List.getElem?_eq_some_iff.mp h).2
   rw [drop_eq_getElem_cons hl,hv];rfl
theorem zr(l:List Nat)(lo hi:Option Int):Txt.slice (S l) lo hi=S (il l lo hi):=by
 have e1:(Builtin.Str.strSliceIndices lo hi 1 (S l).length).filterMap ((S l).cps[·]?)=il l lo hi:=by
  rw [Bv,ke];have e:(fun i:Nat=>(S l).cps[i]?)=fun i:Nat=>l[i]?:=by funext i;simp [S]
  rw [e];exact ve l _ _
 unfold Txt.slice
 split
 .rename_i h;have h2:(Builtin.Str.strSliceIndices lo hi 1 (S l).length).length=(S l).length:=by simpa using h
  rw [Bv,ke,length_map,length_range] at h2;have a0:=HT.sIx_le l.length 0 (zero_le _) lo;have b0:=HT.sIx_le l.length l.length (Nat.le_refl _) hi;unfold il
  by_cases hz:l.length=0
  .have:l=[]:=length_eq_zero_iff.mp hz;subst this;simp
  .have ha:HT.sIx l.length 0 lo=0:=by omega
   have hb:HT.sIx l.length l.length hi=l.length:=by omega
   rw [ha,hb];simp
 .rw [e1];rfl
theorem lL{α:Type}(l:List α)(k:Nat):il l none (some (k:Int))=l.take k:=by
 unfold il;rw [HT.sIx_nat];show (l.drop 0).take (min k l.length - 0)=l.take k;rw [drop_zero,Nat.sub_zero]
 by_cases h:k<=l.length
 .rw [min_eq_left h]
 .rw [min_eq_right (by omega),take_of_length_le (Nat.le_refl _),take_of_length_le (by omega)]
theorem p6{α:Type}(l:List α)(k:Nat):il l (some (k:Int)) none=l.drop k:=by
 unfold il;rw [HT.sIx_nat];show (l.drop (min k l.length)).take (l.length - min k l.length)=l.drop k
 by_cases h:k<=l.length
 .rw [min_eq_left h,take_of_length_le (by rw [length_drop];exact Nat.le_refl _)]
 .rw [min_eq_right (by omega),sub_self,take_zero,drop_eq_nil_of_le (by omega)]
theorem p7{α:Type}(l:List α)(i j:Nat):il l (some (i:Int)) (some (j:Int))=(l.drop i).take (j - i):=by
 unfold il;rw [HT.sIx_nat,HT.sIx_nat]
 by_cases h:i<=l.length
 .rw [min_eq_left h]
  by_cases h2:j<=l.length
  .rw [min_eq_left h2]
  .rw [min_eq_right (by omega),take_of_length_le (by rw [length_drop];omega),take_of_length_le (by rw [length_drop];omega)]
 .have e:min i l.length=l.length:=min_eq_right (by omega);rw [e,drop_eq_nil_of_le (Nat.le_refl _),drop_eq_nil_of_le (by omega),take_nil,take_nil]
section
variable {X:Cx}
def D9:V->Option Int->Option Int->Hp->VK->Prop:=fun x lo hi H Q=>∃l,x=.str (S l)/\l.length<=sizeLine/\Q (.str (S (il l lo hi))) H
theorem Bw:SlR X D9:=by
 intro pins s σ H x v vl vu lo hi sl Q I rx hs pl pu h;obtain⟨l,rfl,hz,q⟩:=h;obtain⟨t,rfl⟩:=rx;refine⟨"str",_,slot_str_getitem.lookup,typeIs_str s _ t,?_⟩
 obtain⟨l',hl',el⟩:∃l':Option (Int×Tok),vl=partValue l'/\l'.map (·.1)=lo:=by
  cases pl with
  | none=>exact⟨none,rfl,rfl⟩
  | int i t=>exact⟨some (i,t),rfl,rfl⟩
 obtain⟨u',hu',eu⟩:∃l':Option (Int×Tok),vu=partValue l'/\l'.map (·.1)=hi:=by
  cases pu with
  | none=>exact⟨none,rfl,rfl⟩
  | int i t=>exact⟨some (i,t),rfl,rfl⟩
 subst hl' hu';refine wpAny_getItem_str_slice (l:=l') (u:=u') (st:=none) hs rfl ?_;have hm:∀t' k,EP X pins σ Q (.str (Txt.slice (S l) lo hi) t') { s with toks:=k }:=fun t' k=>⟨.str (S (il l lo hi)),H,I.tok _,⟨t',by rw [zr]⟩,q⟩
 have hlen:(Txt.slice (S l) lo hi).length<=sizeLine:=le_trans (Txt.slice_le _ _ _) (by rw [ke];exact hz);subst el eu;exact post_val_or_str ⟨hlen,hm⟩
def iB{α:Type}(l:List α)(n:Int):List α:=(List.replicate n.toNat l).flatten
theorem vf(k:Nat)(l acc:List Nat):(List.replicate k l.toArray).foldl (·++·) acc.toArray=(acc++(List.replicate k l).flatten).toArray:=by
 induction k generalizing acc with
 | zero=>simp
 | succ k ih =>
  rw [replicate_succ,foldl_cons,append_toArray,ih (acc++l),replicate_succ,flatten_cons,append_assoc]
theorem De(l:List Nat)(n:Int):Txt.mul (S l) n=S (iB l n):=by
 unfold Txt.mul iB
 by_cases h:n<1
 .rw [if_pos h];have:n.toNat=0:=by omega
  rw [this];rfl
 .rw [if_neg h]
  split
  .rename_i h2;rw [ke] at h2;simp only [or_eq_true,beq_iff_eq] at h2
   rcases h2 with h2|h2
   .subst h2;simp [S]
   .have:l=[]:=length_eq_zero_iff.mp h2;subst this;simp [S]
  .have e:=vf n.toNat l [];show (⟨_⟩:Str)=_
   have e':(List.replicate n.toNat (S l).cps).foldl (·++·) #[]=((List.replicate n.toNat l).flatten).toArray:=by
    simpa [S] using e
   rw [e'];rfl
theorem dN{α:Type}(l:List α)(n:Int):(iB l n).length=n.toNat*l.length:=by
 unfold iB;rw [length_flatten,map_replicate,sum_replicate_nat]
theorem tZ:OpR X (binaryOp .Mult) (fun x y H Q=>∃l n,x=.str (S l)/\y=.int n/\-1000000<=n/\n<=1000000/\n.toNat*l.length<=sizeLine/\Q (.str (S (iB l n))) H):=by
 intro pins s σ H x y v u Q I rx ry h;obtain⟨l,n,rfl,rfl,h1,h2,hz,q⟩:=h;obtain⟨t,rfl⟩:=rx;obtain⟨t',rfl⟩:=ry;have hs:sizeLine=16777216:=sizeLine_eq;have hz':n.toNat*l.length<=16777216:=by rw [<- hs];exact hz
 refine SB.mul ⟨?_,fun hn hc=>?_,fun hn hc=>?_⟩ fun t' k=>⟨.str (S (iB l n)),H,I.tok _,⟨t',by rw [De]⟩,q⟩
 .rw [decide_eq_false (by omega),decide_eq_false (by omega)];rfl
 .rw [ke];intro hgt
  have hl:l.length<=16777216:=by
   have:1*l.length<=n.toNat*l.length:=mul_le_mul_right _ (by omega);omega
  have hdiv:(2^63 - 1:Int) / 1000000<=(2^63 - 1) / n:=by
   apply le_ediv_of_mul_le (by omega);have:=mul_le_mul_of_nonneg_left h2 (show (0:Int)<=(2^63 - 1) / 1000000 by decide);have e2:((2^63 - 1:Int) / 1000000)*1000000<=2^63 - 1:=by decide
   omega
  have e3:(2^63 - 1:Int) / 1000000=9223372036854:=by decide
  omega
 .rw [ke];have:l.length*n.toNat<=16777216:=by rw [mul_comm];exact hz'
  exact decide_eq_false (by omega)
theorem vg:OpR X (compareOp .LtE) (fun x y H Q=>∃i j,x=.str i/\y=.str j/\Q (.bl (!decide (j.cps.toList<i.cps.toList))) H):=by
 intro pins s σ H x y v u Q I rx ry h;obtain⟨i,j,rfl,rfl,q⟩:=h;obtain⟨t,rfl⟩:=rx;obtain⟨t',rfl⟩:=ry;exact PySem.P.le_str ⟨.bl _,H,I,rfl,q⟩
end
def Its(xs:List V):It:=⟨fun i _=>i<xs.length,fun i H x H'=>H'=H/\xs[i]?=some x,fun i _=>xs.length=i⟩
theorem vh{M:Model}{A:Around}{E:Value->Shared->Prop}{s:Shared}{tg:Expr}{it:Addr}{u:Value}{Q:Unit->Shared->Prop}(hu:∀a,u≠.ref a)(hQ:Q () s):wpAny M A (letOwnedTupleGo tg (.ref it) u) Q E s:=by
 unfold letOwnedTupleGo
 cases tg <;> first
  | exact wpAny_pure hQ
  | (cases u <;> first
    | exact wpAny_pure hQ
    | exact absurd rfl (hu _))
theorem p8{P:Program}{w:World}{K:PySem.W.Frag}{tg:Expr}{it:Addr}{xs:List V}{n:Nat}{Pt:Nat->Value->Prop}{St:Nat->Heap->Prop}
  (W:∀A:Around,A.handled=none->Walks P w A it [it] [it] n Pt St) (hn:xs.length=n)
  (hv:∀i v,i<n->Pt i v->∃x,xs[i]?=some x/\eo x v) (hsc:∀i v,Pt i v->∀a,v≠.ref a)
  (hobj:∀i h,St i h->∃o,h.get? it=some o/\∀v,o.data≠.cell v)
  (hfr:∀i h h',St i h->(∀b∈[it],∀o,h.get? b=some o->h'.get? b=some o)->St i h')
  (hself:∀(A:Around) (i:Nat) (s:Shared) (Q:Value->Shared->Prop) (E:Value->Shared->Prop),St i s.heap->Q (.ref it) s->wpAny (model P w) A (pyIter (.ref it)) Q E s) :
  ym P w K tg (Its xs) [it] it St where
 mem:=by simp
 obj:=fun i h st b hb=>by
  have e:b=it:=by simpa using hb
  subst e;exact hobj i h st
 keep:=fun i h h' st k=>hfr i h h' st k
 item:=by
  intro X hP hw hK hc i pins s σ H E I hf st hg;subst hP hw hK;obtain⟨f0,f1,f2,f3,f4,f5⟩:=hf it (by simp);refine (W X.A (I.ok.hd hc)).item i s _ _ (by rw [<- hn];exact hg) st fun v h' tk hp st' kk=>?_;obtain⟨x,hx,rx⟩:=hv i v (by rw [<- hn];exact hg) hp;have I1:Inv X pins σ H { s with heap:=h',toks:=tk }:=I.turned (fun b o hb e=>kk b o (by simpa using hb) e) f0 f1 f3 f4 f5;exact⟨v,rfl,vh (s:={ s with heap:=h',toks:=tk }) (hsc i v hp) ⟨x,H,I1,rx,⟨rfl,hx⟩,st',fun b hb=>(hf b hb).1⟩⟩
 done:=by
  intro X hP hw hK hc i pins s σ H E I hf st hg;subst hP hw hK;obtain⟨f0,f1,f2,f3,f4,f5⟩:=hf it (by simp);have e:n=i:=hn.symm.trans hg;subst e;exact (W X.A (I.ok.hd hc)).done s _ _ st fun h' tk kk=>⟨rfl,I.turned (fun b o hb e=>kk b o (by simpa using hb) e) f0 f1 f3 f4 f5⟩
 self:=hself
section
variable {X:Cx}{tg:Expr}
def cT(l:List Nat):List V:=l.map fun c=>V.str (S [c])
theorem f9{l:List Nat}{i:Nat}{x:V}(h:(cT l)[i]?=some x):∃c,l[i]?=some c/\x=.str (S [c]):=by
 unfold cT at h;rw [getElem?_map] at h
 cases e:l[i]? with
 | none=>rw [e] at h;cases h
 | some c=>rw [e] at h;exact⟨c,rfl,(Option.some.inj h).symm⟩
theorem cU(l:List Nat):(cT l).length=l.length:=length_map _
end
section
variable {X:Cx}
theorem rm:cK X (.builtin "isinstance") (fun xs H Q=>∃x n t b,xs=[x,.ty n]/\pM X.K H x t/\PySem.W.kitOne X.K t (.type n)=some b/\Q (.bl b) H):=by
 intro pins s σ H xs us Q I r h;obtain⟨x,n,t,b,rfl,ty,e,q⟩:=h;obtain⟨u,w',rfl,rx,ry⟩:=tS r;cases (show w'=Value.type n from ry);exact uY I rx ty e fun tk=>⟨.bl b,H,I.tok _,rfl,q⟩
mutual
inductive DV (K:PySem.W.Frag) (H:Hp):V->PyData->Prop
 | non:DV K H .non .none
 | bl (b:Bool):DV K H (.bl b) (.bool b)
 | int (i:Int):DV K H (.int i) (.int i)
 | str (x:Str):DV K H (.str x) (.str x)
 | lst {a:Addr}{xs:List V}{ds:List PyData}:SqL K H a xs->DVs K H xs ds->DV K H (.ref a) (.list ds)
 | tup {a:Addr}{xs:List V}{ds:List PyData}:SqT K H a xs->DVs K H xs ds->DV K H (.ref a) (.tuple ds)
inductive DVs (K:PySem.W.Frag) (H:Hp):List V->List PyData->Prop
 | nil:DVs K H [] []
 | cons {x:V}{d:PyData}{xs:List V}{ds:List PyData}:DV K H x d->DVs K H xs ds->DVs K H (x::xs) (d::ds)
end
mutual
theorem DV.reads{pins:List (Addr×Obj)}{σ:St}{H:Hp}{s:Shared}(I:Inv X pins σ H s):∀{x:V}{d:PyData}{u:Value},DV X.K H x d->eo x u->∃as,Reads s.heap u d as
 | _,_,u,.non,r=>by cases (show u=Value.none from r);exact⟨_,.none⟩
 | _,_,u,.bl b,r=>by cases (show u=Value.bool b from r);exact⟨_,.bool b⟩
 | _,_,u,.int i,r=>by obtain⟨t,e⟩:=(show ∃t,u=Value.int i t from r);subst e;exact⟨_,.int i t⟩
 | _,_,u,.str x,r=>by obtain⟨t,e⟩:=(show ∃t,u=Value.str x t from r);subst e;exact⟨_,.str x t⟩
 | _,_,u,.lst (a:=a) hq hs,r=>by
  cases (show u=Value.ref a from r);obtain⟨its,rv,pl,_⟩:=I.list hq;obtain⟨o,ho,hc,n,hd⟩:=pl.isList;obtain⟨as,ra⟩:=DVs.reads I hs rv;exact⟨_,.list ho hc hd ra⟩
 | _,_,u,.tup (a:=a) hq hs,r=>by
  cases (show u=Value.ref a from r);obtain⟨its,rv,pl,_⟩:=I.tuple hq;obtain⟨o,ho,hc,n,hd⟩:=pl;obtain⟨as,ra⟩:=DVs.reads I hs rv;exact⟨_,.tuple ho hc hd ra⟩
theorem DVs.reads{pins:List (Addr×Obj)}{σ:St}{H:Hp}{s:Shared}(I:Inv X pins σ H s):∀{xs:List V}{ds:List PyData}{us:List Value},DVs X.K H xs ds->cB xs us->∃as,ReadsAll s.heap us ds as
 | _,_,_,.nil,.nil=>⟨_,.nil⟩
 | _,_,_,.cons h hs,.cons r rs=>by
  obtain⟨as,ra⟩:=DV.reads I h r;obtain⟨bs,rb⟩:=DVs.reads I hs rs;exact⟨_,.cons ra rb⟩
end
def Df(K:PySem.W.Frag)(neg:Bool):R2:=fun x y H Q=>∃da db,DV K H x da/\DV K H y db/\SeqAt.shaped da=true/\SeqAt.shaped db=true/\Q (.bl (if neg then !PyData.eqv da db else PyData.eqv da db)) H
theorem Bx(hu:X.A.units+64<cLine):OpR X (compareOp .Eq) (Df X.K false):=by
 intro pins s σ H x y v u Q I rx ry h;obtain⟨da,db,ha,hb,sa,sb,q⟩:=h;obtain⟨as,ra⟩:=DV.reads I ha rx;obtain⟨bs,rb⟩:=DV.reads I hb ry;exact eq_dataH ra rb sa sb hu ⟨.bl _,H,I,rfl,q⟩
theorem By(hu:X.A.units+64<cLine):OpR X (compareOp .NotEq) (Df X.K true):=by
 intro pins s σ H x y v u Q I rx ry h;obtain⟨da,db,ha,hb,sa,sb,q⟩:=h;obtain⟨as,ra⟩:=DV.reads I ha rx;obtain⟨bs,rb⟩:=DV.reads I hb ry;exact ne_dataH ra rb sa sb hu ⟨.bl _,H,I,rfl,q⟩
theorem DVs.ints{K:PySem.W.Frag}{H:Hp}:∀ns:List Int,DVs K H (ns.map V.int) (ns.map PyData.int)
 | []=>.nil
 | n::ns=>.cons (.int n) (DVs.ints ns)
end
section
variable {X:Cx}{a b:Expr}{ta tb:TE}{pos:Pos}
theorem aU{x:Str}{l:List Nat}{j:Nat}(h:x=S l):PE X (.Constant (.str x) j pos) (tC (.str (S l))):=by
 subst h;exact A9
theorem vi:cK X (.builtin "len") (fun xs H Q=>∃l,xs=[.str (S l)]/\l.length<=sizeLine/\Q (.int l.length) H):=by
 intro pins s σ H xs us Q I r h;obtain⟨l,rfl,hz,q⟩:=h;exact pW pins s σ H _ us Q I r ⟨S l,rfl,by rw [ke];exact hz,by rw [ke];exact q⟩
def Bz:R2:=fun x y H Q=>∃l i c,x=.str (S l)/\y=.int i/\l.length<=sizeLine/\atI l i=some c/\Q (.str (S [c])) H
theorem zt:IxR X Bz:=by
 intro value slice pins s σ H x y v u Q I rx ry q hs;obtain⟨l,i,c,rfl,rfl,hz,ha,q⟩:=q;exact Bn value slice pins s σ H _ _ v u Q I rx ry ⟨S l,i,c,rfl,rfl,by rw [ke];exact hz,ha,q⟩ hs
theorem zu:OpR X (binaryOp .Add) (fun x y H Q=>∃i j,x=.str (S i)/\y=.str (S j)/\i.length+j.length<=sizeLine/\Q (.str (S (i++j))) H):=by
 intro pins s σ H x y v u Q I rx ry h;obtain⟨i,j,rfl,rfl,hz,q⟩:=h;exact tR pins s σ H _ _ v u Q I rx ry ⟨S i,S j,rfl,rfl,by rw [ke,ke];exact hz,by rw [Dc];exact q⟩
theorem BA:OpR X (compareOp .Eq) (fun x y H Q=>∃i j,x=.str (S i)/\y=.str (S j)/\Q (.bl (decide (i=j))) H):=by
 intro pins s σ H x y v u Q I rx ry h;obtain⟨i,j,rfl,rfl,q⟩:=h;exact C1 pins s σ H _ _ v u Q I rx ry ⟨rfl,by rw [Bu];exact q⟩
theorem BB:OpR X (compareOp .NotEq) (fun x y H Q=>∃i j,x=.str (S i)/\y=.str (S j)/\Q (.bl (!decide (i=j))) H):=by
 intro pins s σ H x y v u Q I rx ry h;obtain⟨i,j,rfl,rfl,q⟩:=h;exact C3 pins s σ H _ _ v u Q I rx ry ⟨rfl,by rw [Bu];exact q⟩
theorem BC:OpR X (compareOp .Eq) (rI0 fun i j=>.bl (decide (i=j))):=AM fun _ _ _ _ _ _ _ q=>eq_int (by rw [beq_eq_decide_eq];exact q)
theorem BD:OpR X (compareOp .NotEq) (rI0 fun i j=>.bl (!decide (i=j))):=AM fun _ _ _ _ _ _ _ q=>ne_int (by rw [bne,beq_eq_decide_eq];exact q)
theorem vj:cK X (.builtin "len") (fun xs H Q=>∃p ys,xs=[.ref p]/\SqL X.K H p ys/\Q (.int ys.length) H):=by
 intro pins s σ H xs us Q I r h;obtain⟨p,ys,e,hq,q⟩:=h;exact kI pins s σ H xs us Q I r ⟨p,ys,e,.inl hq,q⟩
theorem vk:cK X (.builtin "len") (fun xs H Q=>∃p ys,xs=[.ref p]/\SqT X.K H p ys/\Q (.int ys.length) H):=by
 intro pins s σ H xs us Q I r h;obtain⟨p,ys,e,hq,q⟩:=h;exact kI pins s σ H xs us Q I r ⟨p,ys,e,.inr hq,q⟩
end
structure Cal (P:Program) (w:World) (K:PySem.W.Frag) (mg:Str->Option Value) (base:Heap) (k:Nat) (x:Str) (ps:List Str) (sp:Sp):Prop where
 ex:∃(f:Addr) (fd:FuncData),pQ P w K mg base CX0 k f fd ps sp/\ng K fd ps []/\PySem.W.keepIn K (.ref f)=true/\mg x=some (.ref f)/\∃oc od osl,K.lookup f=some ⟨oc,od,.func fd,osl⟩
structure cm (K:PySem.W.Frag) (mg:Str->Option Value) (x:Str) (st:Stmt):Prop where
 ex:∃(f:Addr) (fd:FuncData),Fun K x x st f fd/\mg x=some (.ref f)
section
variable {P:Program}{w:World}{K:PySem.W.Frag}{mg:Str->Option Value}{base:Heap}{x:Str}{st:Stmt}{N ps:List Str}{k:Nat}{sp:Sp}
theorem cm.ok(D:cm K mg x st)(S:aI N ps (ao st))
  (hb:∀(kV doc pm:Value) (an:Option Addr) (cdv ct:Value) (us:List Value),us.length=ps.length->bindArgs (PySem.W.fnOf x x (cM st) (bV st) (ao st) .none kV doc pm an cdv ct) ⟨us,[]⟩=pure (ps.zip us))
  (len:∀vs H Q E,sp vs H Q E->vs.length=ps.length)
  (hbody:∀(f:Addr) (cdv:Value) (A:Around) (outer:List Env) (s:Shared) (H:Hp) (vs:List V) (Q:VK) (E:XK),iA k (A.deeper (envOfC x (ao st) s.heap.objs.size f cdv))->sp vs H Q E ->
   ∃t,PSs (nh CX0 P w K mg base N x (ao st) f cdv A outer s H E).nox (bV st) t/\t { nx:=fun _ H'=>Q .non H',rt:=Q } (start N vs) H):Cal P w K mg base (k+1) x ps sp:=by
 obtain⟨f,fd,F,hm⟩:=D.ex
 have lk:∃oc od osl,K.lookup f=some ⟨oc,od,.func fd,osl⟩:=by
  obtain⟨oc,od,kV,doc,pm,an,cdv,ct,osl,rfl,lk,hcd⟩:=F.ex;exact⟨oc,od,osl,lk⟩
 exact⟨f,fd,F.ok S len fun cdv A outer s H vs Q E hr h=>hbody f cdv A outer s H vs Q E hr h,F.binds hb,F.kp,hm,lk⟩
theorem cm.mk'{K:PySem.W.Frag}{h:Heap}{mg:Str->Option Value}{x:Str}{st:Stmt}{f:Addr}{oc:Value}{od an:Option Addr}{osl:Array (Option Value)}{kV doc pm cdv ct:Value}(X:K.In h)(G:h.Ns mainGlobals mg)
  (a:PySem.W.nsIn K mainGlobals x=some (some (.ref f))) (l:K.lookup f=some ⟨oc,od,.func (PySem.W.fnOf x x (cM st) (bV st) (ao st) .none kV doc pm an cdv ct),osl⟩)
  (c:PySem.W.codeIn K cdv x=true) (k:PySem.W.keepIn K (.ref f)=true):cm K mg x st:=⟨f,_,je (st:=st) l c k,PySem.W.mg_of X G a⟩
end
section
variable {X:Cx}{k:Nat}{x:Str}{ps:List Str}{sp:Sp}{p pos:Pos}{e:Expr}{es:List Expr}{t:TA}
theorem BE(C:Cal X.prog X.w X.K X.mg X.base k x ps sp)(hr:iA k X.A)(ha:PA X (e::es) t)(hg:Gl X x:=by rfl)(hdb:(x == ("__debug__":Str))=false:=by decide)(he:starEach (e::es) X.env=(false,eval e X.env)::starEach es X.env:=by rfl)
  (hpl:(backTo pos (starEach es X.env)).any (·.1)=false:=by rfl):PE X (.Call (.Name x p) (e::es) [] pos) (jx sp [] E0 t):=by
 obtain⟨f,fd,F,hb,hk,hm,_⟩:=C.ex;exact zh F hr hg hm hk hb .nil Bs ha hdb he hpl
end
def t0(K:PySem.W.Frag):Sp:=fun vs H Q _=>∃(a:Addr) (ns:List Int),vs=[.ref a]/\SqL K H a (ns.map V.int)/\ns.length<=63/\∀H',Q (.bl true) H'
theorem BF{P:Program}{w:World}{K:PySem.W.Frag}{mg:Str->Option Value}{fa:Addr}{st:Stmt}{k:Nat}{x:Str}(hfa:mg "law"=some (.ref fa))(D:cm K mg "law" st)
  (hbind:∀(kV doc pm:Value) (an:Option Addr) (cdv ct:Value) (s:Shared) (v:Value),BindsTo s (PySem.W.fnOf "law" "law" (cM st) (bV st) (ao st) .none kV doc pm an cdv ct) ⟨[v],[]⟩ [(x,v)])
  (h:∀base:Heap,Cal P w K mg base k "law" [x] (t0 K)) :
  ∃fd:FuncData,(∀(s:Shared) (v:Value),BindsTo s fd ⟨[v],[]⟩ [(x,v)])/\∀base:Heap,K.In base->base.Ns mainGlobals mg->pQ P w K mg base CX0 k fa fd [x] (t0 K):=by
 obtain⟨f,fd,F,hm⟩:=D.ex;have e:=hfa.symm.trans hm;cases e;obtain⟨oc,od,kV,doc,pm,an,cdv,ct,osl,rfl,lk,hcd⟩:=F.ex;refine⟨_,fun s v=>hbind kV doc pm an cdv ct s v,fun base kb nb=>?_⟩;obtain⟨f',fd',F',_,_,hm',oc',od',osl',lk'⟩:=(h base).ex;have e:=hfa.symm.trans hm';cases e;rw [lk] at lk';cases lk';exact F'
theorem BG{l:PySem.W.OpenLaw}{q:Program}{loose:List Str}{XP:(Str->Option Value)->Heap->Prop}{YP:World->Heap->Prop}{d:DefRec}{K:Params->PySem.W.Frag}{k:Nat}{x:Str}(hn:l.most=some 63)(hdf:d.params.defaults=[])(hr:iA k callerA)
  (hY:∀(w:World) (h:Heap),YP w h->(K w.params).In h)
  (F:∀(w:World) (mg:Str->Option Value) (fa:Addr) (h:Heap),(K w.params).In h->h.Ns mainGlobals mg->mg d.name=some (.ref fa) ->
   ∃fd:FuncData,(∀(s:Shared) (u:Value),BindsTo s fd ⟨[u],[]⟩ [(x,u)])/\∀base:Heap,(K w.params).In base->base.Ns mainGlobals mg->pQ l.prog w (K w.params) mg base CX0 k fa fd [x] (t0 (K w.params))) :
  PySem.W.WalkO q loose XP YP l.row.toRowW d [] (fun f vs=>PySem.call f vs) :=
 zq (n:=63) (k:=k) (x:=x) (CX:=fun _=>CX0) (sp:=fun w=>t0 (K w.params)) hn (by decide) hdf hr hY F (fun _ _ a ns hl _ hS=>⟨a,ns,rfl,hS,hl,fun _=>rfl⟩) fun _ _ _ _ _ z=>z
theorem zv{α β:Type}{f:α->β}{xs:List α}{i:Int}{v:α}(h:atI xs i=some v):atI (xs.map f) i=some (f v):=by
 unfold atI at h ⊢;rw [length_map]
 cases e:ixN xs.length i with
 | none=>rw [e] at h;cases h
 | some j =>
  rw [e] at h;show (xs.map f)[j]?=some (f v);have h':xs[j]?=some v:=h;rw [getElem?_map,h'];rfl
theorem cG{α:Type}{xs:List α}{i:Int}{j:Nat}{v:α}(h:xs[j]?=some v)(e:i=(j:Int)):atI xs i=some v:=by subst e;exact zl h
theorem sz(n:Nat)(h:n<=1000000):n<=sizeLine:=by rw [sizeLine_eq];omega
theorem xc{ns:List Int}{i:Nat}{x:V}(h:(ns.map V.int)[i]?=some x):∃z,ns[i]?=some z/\x=.int z:=by
 rw [getElem?_map] at h
 cases e:ns[i]? with
 | none=>rw [e] at h;cases h
 | some z=>rw [e] at h;exact⟨z,rfl,(Option.some.inj h).symm⟩
section
variable {X:Cx}{st:Stmt}{t:TS}
def BH(t:TS):TS:=fun D σ H=>∃J:St->Hp->Prop,t { D with nx:=J } σ H/\∀σ' H',J σ' H'->D.nx σ' H'
theorem cN(h:PS X st t):PS X st (BH t):=by
 intro pins s σ H D I q;obtain⟨J,q1,q2⟩:=q;refine thn (h pins s σ H _ I q1) fun f s' r=>?_
 cases f with
 | next=>obtain⟨σ',H',I',r'⟩:=r;exact⟨σ',H',I',q2 σ' H' r'⟩
 | brk=>exact r
 | cont=>exact r
 | ret u=>exact r
end
theorem xf{α β:Type}(f:α->β)(xs:List α)(lo hi:Option Int):il (xs.map f) lo hi=(il xs lo hi).map f:=by
 unfold il;rw [length_map,map_take,map_drop]
theorem eY{x:Str}{c:Addr}:∀(names:List (Str×NameKind)) (n:Nat) (acc:List (Str×Addr)),(cellsFrom n names acc).lookup x=some c->(n<=c/\(x,NameKind.cell)∈names)\/acc.lookup x=some c
 | [],n,acc,h=>.inr h
 | (y,k)::r,n,acc,h=>by
  unfold cellsFrom at h
  split at h
  .rename_i hk;have hk':k=.cell:=by simpa using hk
   subst hk'
   rcases eY r (n+1) ((y,n)::acc) h with ⟨h1,h2⟩|h1
   .exact .inl ⟨by omega,mem_cons_of_mem _ h2⟩
   .rw [lookup_cons] at h1
    cases e:x == y with
    | true =>
     rw [e] at h1;have:n=c:=Option.some.inj h1;have ex:x=y:=by simpa using e
     subst ex;exact .inl ⟨by omega,mem_cons_self⟩
    | false=>rw [e] at h1;exact .inr h1
  .rcases eY r n acc h with ⟨h1,h2⟩|h1
   .exact .inl ⟨h1,mem_cons_of_mem _ h2⟩
   .exact .inr h1
theorem gF{x:Str}:∀(names:List (Str×NameKind)) (n:Nat) (acc:List (Str×Addr)),(x,NameKind.cell)∉names->(cellsFrom n names acc).lookup x=acc.lookup x
 | [],_,_,_=>rfl
 | (y,k)::r,n,acc,h=>by
  unfold cellsFrom
  split
  .rename_i hk;have hk':k=.cell:=by simpa using hk
   subst hk';rw [gF r (n+1) _ (fun z=>h (mem_cons_of_mem _ z)),lookup_cons]
   have:(x == y)=false:=by
    rw [beq_eq_false_iff_ne];intro e;subst e;exact h mem_cons_self
   rw [this]
  .exact gF r n acc (fun z=>h (mem_cons_of_mem _ z))
theorem gG{x y:Str}{c:Addr}:∀(names:List (Str×NameKind)) (n:Nat) (acc:List (Str×Addr)),(∀z d,acc.lookup z=some d->d<n) ->
  (cellsFrom n names acc).lookup x=some c->(cellsFrom n names acc).lookup y=some c->n<=c->x=y
 | [],n,acc,ha,h1,h2,hc=>absurd (ha x c h1) (not_lt.mpr hc)
 | (z,k)::r,n,acc,ha,h1,h2,hc=>by
  unfold cellsFrom at h1 h2
  split at h1
  .rename_i hk;rw [if_pos hk] at h2
   have ha':∀w d,((z,n)::acc).lookup w=some d->d<n+1:=fun w d e=>by
    rw [lookup_cons] at e
    cases q:w == z with
    | true=>rw [q] at e;cases e;exact lt_succ_self _
    | false=>rw [q] at e;exact lt_succ_of_lt (ha w d e)
   by_cases hcn:n+1<=c
   .exact gG r (n+1) _ ha' h1 h2 hcn
   .have e:c=n:=le_antisymm (not_lt.mp hcn) hc;subst e
    have key:∀w:Str,(cellsFrom (c+1) r ((z,c)::acc)).lookup w=some c->w=z:=fun w hw=>by
     rcases eY r (c+1) _ hw with ⟨q,_⟩|q
     .exact absurd q (not_succ_le_self _)
     .rw [lookup_cons] at q
      cases q2:w == z with
      | true=>simpa using q2
      | false=>rw [q2] at q;exact absurd (ha w c q) (Nat.lt_irrefl _)
    rw [key x h1,key y h2]
  .rename_i hk;rw [if_neg hk] at h2;exact gG r n acc ha h1 h2 hc
def jQ(env:Env):List (Str×NameKind)->List (Str×Addr)->List (Str×Addr)
 | [],acc=>acc
 | (n,k)::r,acc=>if (k == .free)=true then jQ env r ((n,(env.cells.lookup n).getD 0)::acc) else jQ env r acc
theorem gH{env:Env}{x:Str}{c:Addr}:∀(names:List (Str×NameKind)) (acc:List (Str×Addr)),(jQ env names acc).lookup x=some c->((x,NameKind.free)∈names/\c=(env.cells.lookup x).getD 0)\/acc.lookup x=some c
 | [],acc,h=>.inr h
 | (y,k)::r,acc,h=>by
  unfold jQ at h
  split at h
  .rename_i hk;have hk':k=.free:=by simpa using hk
   subst hk'
   rcases gH r _ h with ⟨h1,h2⟩|h1
   .exact .inl ⟨mem_cons_of_mem _ h1,h2⟩
   .rw [lookup_cons] at h1
    cases e:x == y with
    | true =>
     rw [e] at h1;have ex:x=y:=by simpa using e
     subst ex;exact .inl ⟨mem_cons_self,(Option.some.inj h1).symm⟩
    | false=>rw [e] at h1;exact .inr h1
  .rcases gH r acc h with ⟨h1,h2⟩|h1
   .exact .inl ⟨mem_cons_of_mem _ h1,h2⟩
   .exact .inr h1
theorem jR{env:Env}{x:Str}:∀(names:List (Str×NameKind)) (acc:List (Str×Addr)),((x,NameKind.free)∈names\/(acc.lookup x).isSome=true)->((jQ env names acc).lookup x).isSome=true
 | [],acc,h=>h.elim (fun z=>nomatch z) id
 | (y,k)::r,acc,h=>by
  unfold jQ
  split
  .rename_i hk;refine jR r _ ?_
   by_cases e:(x == y)=true
   .exact .inr (by rw [lookup_cons,e];rfl)
   .rcases h with h|h
    .rcases mem_cons.mp h with z|z
     .cases z;exact absurd (by simp) e
     .exact .inl z
    .exact .inr (by rw [lookup_cons];rw [not_eq_true] at e;rw [e];exact h)
  .rename_i hk;refine jR r acc ?_
   rcases h with h|h
   .rcases mem_cons.mp h with z|z
    .cases z;exact absurd rfl hk
    .exact .inl z
   .exact .inr h
theorem k7{scope:Scope}{env:Env}(h:∀x∈scope.names,x.2=.free->∃c,env.cells.lookup x.1=some c):closureFor scope env=pure (jQ env scope.names []):=by
 unfold closureFor
 have key:∀(names:List (Str×NameKind)) (acc:List (Str×Addr)),(∀x∈names,x.2=.free->∃c,env.cells.lookup x.1=some c) ->
   (forIn names acc fun (x:Str×NameKind) (r:List (Str×Addr))=>(if (x.2 == NameKind.free)=true then do let y <- cellOf env x.1;pure (ForInStep.yield ((x.1,y)::r)) else pure (ForInStep.yield r):Sem _))=pure (jQ env names acc):=by
  intro names
  induction names with
  | nil=>intro acc _;rfl
  | cons p r ih =>
   intro acc hp;obtain⟨n,k⟩:=p;rw [forIn_cons];have hr:∀x∈r,x.2=.free->∃c,env.cells.lookup x.1=some c:=fun x hx=>hp x (mem_cons_of_mem _ hx);unfold jQ
   by_cases hk:(k == NameKind.free)=true
   .obtain⟨c,hc⟩:=hp (n,k) mem_cons_self (by simpa using hk);have hc':env.cells.lookup n=some c:=hc;have e1:cellOf env n=pure c:=by unfold cellOf;rw [hc']
    simp only [hk,if_true];rw [e1,hc'];simp only [pure_bind];exact ih _ hr
   .rw [if_neg hk,if_neg hk];simp only [pure_bind];exact ih _ hr
 have e:=key scope.names [] h;have e2:∀(m:Sem (List (Str×Addr))),(m >>= fun r=>pure r)=m:=fun m=>bind_pure m;rw [<- e]
 first
  | rfl
  | exact (e2 _)
def vm(scope:Scope)(C:Addr)(env:Env):Env :=
 { scope:=relabel scope env,locals:=C,globals:=env.globals,cells:=cellsFrom (C+1) scope.names (jQ env scope.names []),qual:=env.qual,func:=none,code:=env.code,frame:=env.frame,builtins:=env.builtins }
def c9(X:Cx)(N':List Str)(scope:Scope)(s:Shared)(H:Hp)(fp:List Addr)(pins:List (Addr×Obj)):Cx :=
 { X with N:=N',s₀:=s,H₀:=H,env:=vm scope s.heap.objs.size X.env,outer:=X.stack,stack:=X.stack,ex:=fp,fn:=fun x=>decide ((x,NameKind.cell)∈scope.names),pn:=X.pn++pins,xe:=fun _ _=>False }
def oB(sc0:Scope)(N:List Str)(scope:Scope)(N':List Str)(ix:List (Option Nat)):Bool :=
 decide (scope.kind=.function) && scope.names.all (fun y=>(!decide (y.2=.local) || decide (scope.names.lookup y.1=some .local)) &&
  (!decide (y.2=.free) || ((decide (sc0.names.lookup y.1=some .cell) || decide (sc0.names.lookup y.1=some .free)) && !decide ((y.1,NameKind.cell)∈scope.names)))) &&
 decide (N'.length=ix.length) && (N'.zip ix).all (fun p=>match p.2 with|none=>true|some j=>decide (N[j]?=some p.1) && decide (scope.names.lookup p.1=some .free))
structure vn (env:Env) (N:List Str) (scope:Scope) (N':List Str) (ix:List (Option Nat)):Prop where
 kind:scope.kind=.function
 loc:∀y∈scope.names,y.2=.local->scope.names.lookup y.1=some .local
 free:∀y∈scope.names,y.2=.free->(env.kindOf y.1=some .cell\/env.kindOf y.1=some .free)/\(y.1,NameKind.cell)∉scope.names
 len:N'.length=ix.length
 slot:∀(i:Nat) (x:Str) (j:Nat),N'[i]?=some x->ix[i]?=some (some j)->N[j]?=some x/\scope.names.lookup x=some .free
theorem qa{env:Env}{N:List Str}{scope:Scope}{N':List Str}{ix:List (Option Nat)}(h:oB env.scope N scope N' ix=true):vn env N scope N' ix:=by
 unfold oB at h;simp only [and_eq_true,decide_eq_true_eq,all_eq_true] at h;obtain⟨⟨⟨h1,h2⟩,h3⟩,h4⟩:=h
 refine⟨h1,fun y hy e=>?_,fun y hy e=>?_,h3,fun i x j e1 e2=>?_⟩
 .have:=(h2 y hy).1;rw [e] at this;simpa using this
 .have:=(h2 y hy).2;rw [e] at this;simpa [Env.kindOf] using this
 .have hm:(x,some j)∈N'.zip ix:=by
   refine mem_of_getElem? (i:=i) ?_;rw [getElem?_zip_eq_some];exact⟨e1,e2⟩
  have:=h4 _ hm;simpa using this
def rlf(env:Env)(p:Str×NameKind):Str×NameKind:=match p with|(n,k)=>if (k == NameKind.free && env.scope.kind == .function && env.kindOf n == some .cell) then (n,.cell) else (n,k)
theorem vo(env:Env)(n:Str)(k:NameKind):∃k',rlf env (n,k)=(n,k')/\(k'=k\/(k=.free/\k'=.cell)):=by
 unfold rlf
 by_cases c:(k == NameKind.free && env.scope.kind == .function && env.kindOf n == some .cell)=true
 .refine⟨.cell,if_pos c,.inr ⟨?_,rfl⟩⟩;simp only [and_eq_true,beq_iff_eq] at c;exact c.1.1
 .exact⟨k,if_neg c,.inl rfl⟩
theorem sL{env:Env}:∀{names:List (Str×NameKind)}{x:Str},names.lookup x=some .free->(names.map (rlf env)).lookup x=some .cell\/(names.map (rlf env)).lookup x=some .free
 | [],_,h=>by simp at h
 | (n,k)::r,x,h=>by
  have ih:=@sL env r x;obtain⟨k',e,hk'⟩:=vo env n k;rw [map_cons,e]
  cases hx:x == n with
  | true =>
   simp only [lookup_cons,hx] at h ⊢;have hk:k=.free:=Option.some.inj h
   rcases hk' with z|z
   .right;rw [z,hk]
   .left;rw [z.2]
  | false =>
   simp only [lookup_cons,hx] at h ⊢;exact ih h
theorem oE{env:Env}:∀{names:List (Str×NameKind)}{x:Str}{k':NameKind},(names.map (rlf env)).lookup x=some k'->k'=.cell\/k'=.free->names.lookup x=some .cell\/names.lookup x=some .free
 | [],_,_,h,_=>by simp at h
 | (n,k)::r,x,k',h,hk'=>by
  have ih:=@oE env r x k';obtain⟨k2,e,hk2⟩:=vo env n k;rw [map_cons,e] at h
  cases hx:x == n with
  | true =>
   simp only [lookup_cons,hx] at h ⊢;have:k2=k':=Option.some.inj h;subst this
   rcases hk2 with z|z
   .rw [<- z]
    rcases hk' with q|q
    .left;rw [q]
    .right;rw [q]
   .right;rw [z.1]
  | false =>
   simp only [lookup_cons,hx] at h ⊢;exact ih h hk'
theorem qb{x:Str}{c:Addr}:∀(names:List (Str×NameKind)) (n:Nat) (acc:List (Str×Addr)),(cellsFrom n names acc).lookup x=some c->(x,c)∈cellsFrom n names []\/acc.lookup x=some c:=by
 have app:∀(names:List (Str×NameKind)) (n:Nat) (acc:List (Str×Addr)),cellsFrom n names acc=cellsFrom n names []++acc:=by
  intro names
  induction names with
  | nil=>intro n acc;rfl
  | cons p r ih =>
   intro n acc;obtain⟨y,k⟩:=p;unfold cellsFrom
   split
   .rw [ih (n+1) ((y,n)::acc),ih (n+1) [(y,n)],append_assoc];rfl
   .exact ih n acc
 intro names n acc h;rw [app] at h;rw [lookup_append] at h
 cases e:(cellsFrom n names []).lookup x with
 | some d =>
  rw [e] at h;have:d=c:=by simpa using h
  subst this;exact .inl (mem_of_lookup e)
 | none=>rw [e] at h;exact .inr (by simpa using h)
def vp(ix:List (Option Nat))(σ:St):St:=ix.map fun o=>match o with
 | none=>none
 | some j=>match σ[j]? with
  | some v=>v
  | none=>none
section
variable {X:Cx}{pins:List (Addr×Obj)}{σ:St}{H:Hp}{s:Shared}
theorem xg{N':List Str}{ix:List (Option Nat)}{scope:Scope}{fp:List Addr}(ok:vn X.env X.N scope N' ix)(I:Inv X pins σ H s)(hf:∀b∈fp,tN X pins H b)(hfl:∀b∈fp,b<s.heap.objs.size) :
  Inv (c9 X N' scope s H fp pins) [] (vp ix σ) H { s with heap:=pushCells (s.heap.push { cls:=.type "dict",data:=.dict #[] }) scope.names }:=by
 have hk4:∀b o,s.heap.get? b=some o->(pushCells (s.heap.push { cls:=.type "dict",data:=.dict #[] }) scope.names).get? b=some o:=fun b o e=>pushCells_keeps _ _ b o (Heap.get?_push_of_some _ e)
 have hclo:∀x c,(jQ X.env scope.names []).lookup x=some c->X.env.cells.lookup x=some c:=fun x c e=>by
  rcases gH scope.names [] e with ⟨h1,h2⟩|h1
  .obtain⟨d,hd⟩:=I.ok.has x (ok.free _ h1 rfl).1;rw [hd] at h2 ⊢;rw [h2];rfl
  .cases h1
 have hcl:∀x c,X.env.cells.lookup x=some c->c<s.heap.objs.size:=fun x c e=>by
  obtain⟨v,q⟩:=I.cell x c e;exact q.lt
 have own:=cellsFrom_ok scope.names (s.heap.push { cls:=.type "dict",data:=.dict #[] }) (s.heap.objs.size+1) [] ⟨fun _ _ hm=>(nomatch hm),List.Pairwise.nil⟩ (by rw [Heap.size_push];exact Nat.le_refl _);rw [Heap.size_push] at own
 have cases:∀x c,(cellsFrom (s.heap.objs.size+1) scope.names (jQ X.env scope.names [])).lookup x=some c ->
   ((pushCells (s.heap.push { cls:=.type "dict",data:=.dict #[] }) scope.names).IsCell c none/\s.heap.objs.size+1<=c)\/X.env.cells.lookup x=some c:=fun x c e=>by
  rcases qb _ _ _ e with h|h
  .exact .inl (own.empty x c h)
  .exact .inr (hclo x c h)
 have fs':∀b,b∈frs X.stack->b<s.heap.objs.size:=fun b hb=>by
  rcases mem_cons.mp (I.stkSub b hb) with z|z
  .rw [z];exact I.lt
  .by_cases q:b<s.heap.objs.size
   .exact q
   .exact absurd z (I.nofs (not_lt.mp q))
 have cix:(c9 X N' scope s H fp pins).Ok:=by
  refine⟨I.ok.mod,ok.kind,I.ok.glob,I.ok.blt,Nat.le_refl _,fun x y c h1 h2=>?_,fun x hx=>?_,fun x c hx e=>?_,I.ok.hd,I.ok.frames,.inl rfl,fun b hb=>⟨ne_of_lt (hfl b hb),fun x c e=>?_⟩,fun b o e=>I.bs b o e,le_trans I.ok.bsz I.sz,fun b o e hb=>?_,fun b hb=>?_,I.stack,I.stkFree⟩
  .rcases cases x c h1 with ⟨_,z⟩|z
   .exact gG scope.names _ _ (fun w d e=>lt_succ_of_lt (hcl w d (hclo w d e))) h1 h2 z
   .rcases cases y c h2 with ⟨_,z2⟩|z2
    .exact absurd (hcl x c z) (not_lt.mpr (le_of_succ_le z2))
    .exact I.ok.inj x y c z z2
  .have hx':scope.names.lookup x=some .cell\/scope.names.lookup x=some .free:=by
    rcases hx with z|z
    .exact oE (env:=X.env) z (.inl rfl)
    .exact oE (env:=X.env) z (.inr rfl)
   rcases hx' with z|z
   .exact Option.isSome_iff_exists.mp (PySem.W.cellsFrom_some scope.names _ _ (.inl z))
   .exact Option.isSome_iff_exists.mp (PySem.W.cellsFrom_some scope.names _ _ (.inr (jR _ _ (.inl (mem_of_lookup z)))))
  .have hx':(x,NameKind.cell)∈scope.names:=of_decide_eq_true hx
   rcases cases x c e with ⟨_,z⟩|z
   .exact le_of_succ_le z
   .rcases qb _ _ _ e with h|h
    .exact le_of_succ_le (own.empty x c h).2
    .rcases gH scope.names [] h with ⟨h1,_⟩|h1
     .exact absurd hx' (ok.free _ h1 rfl).2
     .cases h1
  .intro z
   rcases cases x c e with ⟨_,z2⟩|z2
   .rw [z] at z2;exact absurd (hfl b hb) (not_lt.mpr (le_of_succ_le z2))
   .exact (hf b hb).2.2.2.2.1 x c z2 z
  .rcases (hf b hb).2.2.2.1 with z|z
   .exact I.ok.noex b o e z
   .exact absurd (Heap.lt_size (I.ok.bs b o e).1) (not_lt.mpr z)
  .intro z
   rcases mem_cons.mp (I.stkSub b z) with q|q
   .exact (hf b hb).2.1 q
   .exact (hf b hb).2.2.1 q
 refine⟨cix,rfl,I.bare,Un.kept hk4,⟨fun _=>none,?_,fun i x v e1 e2 e3=>?_⟩,fun x c e=>?_,I.hok.fresh (Nat.le_refl _),fun x c e=>?_,fun p hp=>?_,I.hok.kept hk4,?_⟩
 .exact (Heap.Ns.new s.heap (.type "dict")).keeps (pushCells_keeps _ _)
 .have e2':∃j,ix[i]?=some (some j)/\σ[j]?=some (some v):=by
   unfold vp at e2;rw [getElem?_map] at e2
   cases q:ix[i]? with
   | none=>rw [q] at e2;cases e2
   | some o =>
    rw [q] at e2
    cases o with
    | none=>cases (Option.some.inj e2)
    | some j =>
     refine⟨j,rfl,?_⟩;have e2'':(match σ[j]? with|some v=>v|none=>none)=some v:=Option.some.inj e2
     cases r:σ[j]? with
     | none=>rw [r] at e2'';cases e2''
     | some w=>rw [r] at e2'';exact congrArg some e2''
  obtain⟨j,hj,hv⟩:=e2';obtain⟨hN,hfr⟩:=ok.slot i x j e1 hj;have hk:=(ok.free _ (mem_of_lookup hfr) rfl).1
  have hvis:Vis X.env.scope x:=by
   rcases hk with z|z
   .exact .inr (.inl z)
   .exact .inr (.inr z)
  obtain⟨m,hn,hl⟩:=I.loc;obtain⟨u,ru,lk⟩:=hl j x v hN hv hvis
  refine⟨u,ru,.inr ⟨?_,?_⟩⟩
  .exact sL (env:=X.env) hfr
  .rcases lk with ⟨z,_⟩|⟨_,c,hc,hcell⟩
   .rcases hk with q|q
    .rw [z] at q;cases q
    .rw [z] at q;cases q
   .refine⟨c,?_,hcell.keeps hk4⟩;show (cellsFrom (s.heap.objs.size+1) scope.names (jQ X.env scope.names [])).lookup x=some c;rw [gF scope.names _ _ (ok.free _ (mem_of_lookup hfr) rfl).2];obtain⟨d,hd⟩:=Option.isSome_iff_exists.mp (jR (env:=X.env) scope.names [] (.inl (mem_of_lookup hfr)));rw [hd,<- hclo x d hd,hc]
 .rcases cases x c e with ⟨z,_⟩|z
  .exact⟨none,z⟩
  .obtain⟨v,q⟩:=I.cell x c z;exact⟨v,q.keeps hk4⟩
 .rcases cases x c e with ⟨_,z⟩|z
  .exact I.hok.fresh (le_of_succ_le z)
  .exact I.freeC x c z
 .have hp':p∈X.pn++pins:=by simpa [c9] using hp
  obtain⟨q1,q2,q3,q4,q5⟩:=I.pin p hp';refine⟨hk4 _ _ q1,q2,ne_of_lt (Heap.lt_size q1),fun z=>?_,q5⟩
  rcases mem_cons.mp (I.stkSub p.1 z) with q|q
  .exact q3 q
  .exact q4 q
 .unfold vp;rw [length_map];exact ok.len.symm
end
section
variable {M:Model}{A:Around}{E:Value->Shared->Prop}{s:Shared}
theorem jA{scope:Scope}{globals:Addr}{cl:List (Str×Addr)}{qual:Str}{func:Option Addr}{code:Value}{env:Env}{Q:Env->Shared->Prop}
  (hQ:Q { scope:=scope,locals:=s.heap.objs.size,globals:=globals,cells:=cellsFrom (s.heap.objs.size+1) scope.names cl,qual:=qual,func:=func,code:=env.code,frame:=env.frame,builtins:=env.builtins }
   { s with heap:=pushCells (s.heap.push { cls:=.type "dict",data:=.dict #[] }) scope.names }) :
  wpAny M A (newFunctionEnv scope globals cl [] qual func code (some env)) Q E s:=by
 simp only [newFunctionEnv,Option.isSome_some,if_true];refine wpAny_bind (wpAny_alloc ?_);refine wpAny_bind (wpAny_layCells _ (fun name kind cells=>by cases hkc:kind == NameKind.cell <;> simp [hkc]) _ _ _ _ ?_);rw [show ({ s with heap:=s.heap.push { cls:=.type "dict",data:=.dict #[] } }:Shared).heap.objs.size=s.heap.objs.size+1 from Heap.size_push ..];simp only [forIn_nil];exact wpAny_bind (wpAny_pure (wpAny_pure hQ))
end
section
variable {prog:Program}{w:World}{A:Around}{R:Result->Shared->Prop}{s:Shared}
theorem qc{elt target iter:Expr}{ifs:List Expr}{scope:Scope}{pos:Pos}{it acc:Value}{env:Env}(I:Nat->Shared->Prop)
  (turn:∀n s,I n s->wpAny (model prog w) A (pyNext it) (fun r s₁=>match r with
   | none=>R (.ok .next) s₁
   | some v=>wpAny (model prog w) A (letOwnedTupleGo target it v) (fun _ s₂=>wpAny (model prog w) A (assign target env v) (fun _ s₃ =>
     wpAny (model prog w) A (forIn ifs true fun c r=>if r=true then do let ok <- isTrue c env (eval c env);pure (ForInStep.yield ok) else pure (ForInStep.yield r)) (fun ok s₄ =>
      if ok=true then wpAny (model prog w) A (eval elt env) (fun x s₅ =>
       wpAny (model prog w) A (call (.builtin "list.append") [acc,x]) (fun _ s₆=>∃m,m<n/\I m s₆) (fun _ _=>False) s₅) (fun _ _=>False) s₄
      else ∃m,m<n/\I m s₄) (fun _ _=>False) s₃) (fun _ _=>False) s₂) (fun _ _=>False) s₁) (fun _ _=>False) s)
  (n:Nat) (h:I n s) :
  codeAny (model prog w) A (.compLoop (.ListComp elt [⟨target,iter,ifs,0⟩] scope pos) 0 it acc env) R s:=by
 refine codeAny_loop rfl I (fun n s hI=>?_) n h;show wpAny _ A ((compTurn (.ListComp elt [⟨target,iter,ifs,0⟩] scope pos) 0 it acc env).onRaise (fun x=>do noteFrame x env;theTreesLotGoes x)) _ _ s;refine wpAny_noted ?_;rw [compTurn_list];refine wpAny_bind (wpAny_standAt (wpAny_bind (wpAny_mono (turn n s hI) (fun r s₁ h₁=>?_) fun _ _ h'=>h'.elim)))
 cases r with
 | none=>exact wpAny_pure h₁
 | some v =>
  refine wpAny_bind (wpAny_mono h₁ (fun _ s₂ h₂=>?_) fun _ _ h'=>h'.elim);refine wpAny_bind (wpAny_mono h₂ (fun _ s₃ h₃=>wpAny_bind (wpAny_mono h₃ (fun ok s₄ h₄=>?_) fun _ _ h'=>h'.elim)) fun _ _ h'=>h'.elim)
  cases ok with
  | false=>exact wpAny_pure ⟨rfl,h₄⟩
  | true =>
   exact wpAny_bind (wpAny_bind (wpAny_mono h₄ (fun x s₅ h₅=>wpAny_bind (wpAny_mono h₅ (fun _ s₆ h₆=>wpAny_pure (wpAny_pure ⟨rfl,h₆⟩)) fun _ _ h'=>h'.elim)) fun _ _ h'=>h'.elim))
end
def PIf(X:Cx)(ifs:List Expr)(t:TT):Prop :=
 ∀(pins:List (Addr×Obj)) (s:Shared) (σ:St) (H:Hp) (Q:Bool->Hp->Prop),Inv X pins σ H s->t σ H Q ->
  wpAny (model X.prog X.w) X.A (forIn ifs true fun c r=>if r=true then do let ok <- isTrue c X.env (eval c X.env);pure (ForInStep.yield ok) else pure (ForInStep.yield r)) (TP X pins σ Q) X.xe s
def t7:TT:=fun _ H Q=>Q true H
section
variable {X:Cx}
theorem eZ:PIf X [] t7:=fun _ _ _ H _ I h=>wpAny_tests_nil ⟨H,I,h⟩
theorem rn{c:Expr}{t:TT}(h:PT X c t):PIf X [c] t:=fun pins s σ H Q I q=>wpAny_tests_one (h pins s σ H Q I q)
end
def xh(ix:List (Option Nat))(wi:TI)(g:TG)(tts:TT)(te:TE):TE:=fun σ H Q=>wi σ H fun J H1=>∀D,H1 D=none->∃W:Nat->Nat->St->Hp->Prop,(∃m,W 0 m (vp ix σ) (upd H1 D (.lst [])))/\∀i m τ H2,W i m τ H2 ->
 (J.stop i H2/\Q (.ref D) H2)\/(J.go i H2/\∀x H3,J.yld i H2 x H3->g x τ H3 fun τ2 H4=>tts τ2 H4 fun ok H5=>if ok=true then te τ2 H5 fun v H6=>∃ys,H6 D=some (.lst ys)/\ys.length<sizeLine/\∃m',m'<m/\W (i+1) m' τ2 (upd H6 D (.lst (ys++[v])))
  else ∃m',m'<m/\W (i+1) m' τ2 H5)
section
variable {X:Cx}{tg iter elt:Expr}{ifs:List Expr}{scope:Scope}{N':List Str}{ix:List (Option Nat)}{wi:TI}{g:TG}{tts:TT}{te:TE}
theorem qe{use:Option (Value->Sem Unit)}{Qf:Value->Shared->Prop}{pos p':Pos}{pins:List (Addr×Obj)}{σ:St}{H:Hp}{s:Shared}{Q:VK}(hc:X.calm=true)(ok:vn X.env X.N scope N' ix)(hi:PI X tg iter wi)
  (blk:∀s H fp pn,PG (c9 X N' scope s H fp pn) tg g/\PIf (c9 X N' scope s H fp pn) ifs tts/\PE (c9 X N' scope s H fp pn) elt te)
  (hs:∀x,foldedSetIterable iter X.env x=pure x) (I:Inv X pins σ H s) (hw:xh ix wi g tts te σ H Q)
  (fin:∀D C H' s',Inv X pins σ H' s'->Q (.ref D) H'->(∃m,s'.heap.Ns C m)->H' C=none->X.s₀.heap.objs.size<=C->C≠X.env.locals->(∀x c,X.env.cells.lookup x=some c->c≠C)->C∉X.fs->(∀p∈X.pn++pins,p.1≠C) ->
   compPost (model X.prog X.w) X.A X.xe use Qf (.ref D) C (.ok .next) s') :
  wpAny (model X.prog X.w) X.A (comprehension (.ListComp elt [⟨tg,iter,ifs,0⟩] scope pos) scope X.env p' (newList []) false (eval iter X.env) use) Qf X.xe s:=by
 have hclos:closureFor scope X.env=pure (jQ X.env scope.names []):=k7 fun y hy e=>I.ok.has y.1 (ok.free y hy e).1;refine wpAny_comprehension_free (use:=use) rfl hs hclos ok.kind ok.loc (thn (hi pins s σ H _ I hw) fun v s1 h1=>thn h1 fun itv s2 h2=>?_);obtain⟨it,fp,tn,J,H2,e,I2,T,st2,f2,hW⟩:=h2;subst e;obtain⟨W,⟨m0,w0⟩,turn⟩:=hW s2.heap.objs.size (I2.hok.fresh (Nat.le_refl _))
 have hfl:∀b∈fp,b<s2.heap.objs.size:=fun b hb=>by
  obtain⟨o,e,_⟩:=T.obj 0 _ st2 b hb;exact Heap.lt_size e
 refine wpAny_newObj_type ?_
 have I3:Inv X pins σ (upd H2 s2.heap.objs.size (.lst [])) { s2 with heap:=s2.heap.push { cls:=.type "list",dict:=none,data:=.seq ([]:List Value).toArray } } :=
  I2.laid (t':=s2.toks) (fun b o e=>Heap.get?_push_of_some _ e) (Nat.le_refl _) (show ck X.prog X.w _ _ _ (.lst []) from ⟨zero_le _,[],0,.nil,Heap.get?_push_size _ rfl⟩)
 have st3:tn 0 (s2.heap.push { cls:=.type "list",dict:=none,data:=.seq ([]:List Value).toArray }):=T.keep 0 _ _ st2 fun b _ o e=>Heap.get?_push_of_some _ e;have f3:∀b∈fp,tN X pins (upd H2 s2.heap.objs.size (.lst [])) b:=fun b hb=>⟨by rw [aA (ne_of_lt (hfl b hb))];exact (f2 b hb).1,(f2 b hb).2⟩
 have hfl3:∀b∈fp,b<(s2.heap.push { cls:=.type "list",dict:=none,data:=.seq ([]:List Value).toArray }).objs.size:=fun b hb=>by rw [Heap.size_push];exact lt_succ_of_lt (hfl b hb)
 generalize hs3:({ s2 with heap:=s2.heap.push { cls:=.type "list",dict:=none,data:=.seq ([]:List Value).toArray } }:Shared)=s3 at I3 ⊢;have eh3:s3.heap=s2.heap.push { cls:=.type "list",dict:=none,data:=.seq ([]:List Value).toArray }:=by rw [<- hs3]
 rw [<- eh3] at st3 hfl3;generalize hH3:upd H2 s2.heap.objs.size (.lst [])=H3 at I3 f3 w0;generalize hD:s2.heap.objs.size=D at *;refine jA ?_;have I4:=xg ok I3 f3 hfl3;obtain⟨hg,ht,he⟩:=blk s3 H3 fp pins;have st4:tn 0 (pushCells (s3.heap.push { cls:=.type "dict",data:=.dict #[] }) scope.names):=T.keep 0 _ _ st3 fun b _ o e=>pushCells_keeps _ _ b o (Heap.get?_push_of_some _ e)
 have stat:∀{H':Hp},(∀b∈fp,H' b=none)->∀b∈fp,tN (c9 X N' scope s3 H3 fp pins) [] H' b:=fun hn b hb=>by
  refine⟨hn b hb,ne_of_lt (hfl3 b hb),I4.ok.exfs b hb,.inl hb,(I4.ok.exf b hb).2,fun p hp=>?_⟩;have hp':p∈X.pn++pins:=by simpa [c9] using hp
  exact (f2 b hb).2.2.2.2.2 p hp'
 have loop:∀(s4:Shared),Inv (c9 X N' scope s3 H3 fp pins) [] (vp ix σ) H3 s4->tn 0 s4.heap ->
   codeAny (model X.prog X.w) X.A (.compLoop (.ListComp elt [⟨tg,iter,ifs,0⟩] scope pos) 0 (.ref it) (.ref D) (vm scope s3.heap.objs.size X.env)) (compPost (model X.prog X.w) X.A X.xe use Qf (.ref D) s3.heap.objs.size) s4:=by
  intro s4 I4 st4;refine qc (fun n s'=>∃i τ H',Inv (c9 X N' scope s3 H3 fp pins) [] τ H' s'/\tn i s'.heap/\(∀b∈fp,H' b=none)/\W i n τ H') ?_ m0 ⟨0,_,H3,I4,st4,fun b hb=>(f3 b hb).1,w0⟩;rintro n s5 ⟨i,τ,H5,I5,st5,fr5,w5⟩
  rcases turn i n τ H5 w5 with ⟨stop,qn⟩|⟨go,step⟩
  .refine thn (T.done (c9 X N' scope s3 H3 fp pins) rfl rfl rfl hc i [] s5 τ H5 (fun _ _=>False) I5 (stat fr5) st5 stop) fun r s6 ⟨hr,I6⟩=>?_;subst hr;have I7:Inv X pins σ H5 s6:=I3.call' (ch:=fp) I6.os I6.base I6.hok I6.bare fun b hb=>⟨(f2 b hb).2.2.2.1,(f2 b hb).2.1,(f2 b hb).2.2.2.2.1,(f2 b hb).2.2.2.2.2⟩
   obtain⟨m6,hn6,_⟩:=I6.loc
   refine fin D s3.heap.objs.size H5 s6 I7 qn ⟨m6,hn6⟩ I6.free ?_ ?_ ?_ ?_ ?_
   .exact I3.sz
   .exact ne_of_gt I3.lt
   .intro x c e z;obtain⟨v,q⟩:=I3.cell x c e;have:=q.lt;rw [z] at this;exact Nat.lt_irrefl _ this
   .exact I3.nofs (Nat.le_refl _)
   .intro p hp z;have:=Heap.lt_size (I3.pin p hp).1;rw [z] at this;exact Nat.lt_irrefl _ this
  .refine thn (T.item (c9 X N' scope s3 H3 fp pins) rfl rfl rfl hc i [] s5 τ H5 (fun _ _=>False) I5 (stat fr5) st5 go) fun r s6 ⟨u,hr,h6⟩=>?_;subst hr;refine thn h6 fun _ s7 ⟨x,H7,I7,r7,y7,st7,fr7⟩=>?_;have I7':=I7.pinned (stat fr7) (T.obj _ _ st7)
   have again:∀{s8:Shared}{τ8:St}{H8:Hp},Inv (c9 X N' scope s3 H3 fp pins) ([]++pP fp s7.heap) τ8 H8 s8->(∃m',m'<n/\W (i+1) m' τ8 H8) ->
     ∃m,m<n/\∃i τ H',Inv (c9 X N' scope s3 H3 fp pins) [] τ H' s8/\tn i s8.heap/\(∀b∈fp,H' b=none)/\W i m τ H':=fun {s8 τ8 H8} I8 ⟨m',hm,w8⟩=>by
    refine⟨m',hm,i+1,τ8,H8,I8.unpinned,T.keep _ _ _ st7 fun b hb o e=>(I8.pin (b,o) (mem_append_right _ (mem_append_right _ (iY hb e)))).1,fun b hb=>?_,w8⟩;obtain⟨o,e,d⟩:=T.obj _ _ st7 b hb;exact (I8.pin (b,o) (mem_append_right _ (mem_append_right _ (iY hb e)))).2.1
   refine thn (hg _ s7 τ H7 x u _ I7' r7 (step x H7 y7)) fun _ s8 ⟨τ8,H8,I8,q8⟩=>?_;refine thn (ht _ s8 τ8 H8 _ I8 q8) fun okb s9 ⟨H9,I9,q9⟩=>?_
   cases okb with
   | false =>
    rw [if_neg Bool.false_ne_true] at q9;rw [if_neg Bool.false_ne_true];exact again I9 q9
   | true =>
    rw [if_pos rfl] at q9;rw [if_pos rfl];refine thn (he _ s9 τ8 H9 _ I9 q9) fun v10 s10 ⟨x10,H10,I10,r10,q10⟩=>?_;obtain⟨ys,hD10,hz,m',hm,w10⟩:=q10;refine thn (eX (X:=c9 X N' scope s3 H3 fp pins) _ s10 τ8 H10 (.ref D) [x10] (.ref D) [v10] (fun _ H'=>∃m',m'<n/\W (i+1) m' τ8 H') I10 rfl (.cons r10 .nil) ⟨D,ys,x10,rfl,rfl,hD10,hz,m',hm,w10⟩) fun _ s11 ⟨_,H11,I11,_,q11⟩=>?_;exact again I11 q11
 exact codeAny_compStart_list (loop _ I4 st4) (T.self X.A 0 _ _ _ st4 (loop _ I4 st4))
theorem eF{pos:Pos}(N':List Str)(ix:List (Option Nat))(hc:X.calm=true)(hi:PI X tg iter wi)
  (blk:∀s H fp pn,PG (c9 X N' scope s H fp pn) tg g/\PIf (c9 X N' scope s H fp pn) ifs tts/\PE (c9 X N' scope s H fp pn) elt te)
  (chk:oB X.env.scope X.N scope N' ix=true) (hs:∀x,foldedSetIterable iter X.env x=pure x:=by intro _;rfl) :
  PE X (.ListComp elt [⟨tg,iter,ifs,0⟩] scope pos) (xh ix wi g tts te):=by
 intro pins s σ H Q I hw;rw [eval_ListComp];refine qe (use:=none) hc (qa chk) hi blk hs I hw fun D C H' s' I' q hm hn h1 h2 h3 h4 h5=>?_;obtain⟨m,hm⟩:=hm;refine⟨m,hm,fun h' sb=>⟨.ref D,H',?_,rfl,q⟩⟩;exact I'.turned (t':=s'.toks) (fun b o hb e=>(sb.2 b hb).trans e) hn h2 (.inr h1) h3 h5
end
section
variable {X:Cx}{tg iter elt:Expr}{ifs:List Expr}{scope:Scope}{N':List Str}{ix:List (Option Nat)}{wi:TI}{g:TG}{tts:TT}{te:TE}
theorem vq{i:Nat}{x:Str}{pos pos' cpos:Pos}(N':List Str)(ix:List (Option Nat))(hN:X.N.Nodup)(hi:X.N[i]?=some x)(hx:Loc X.env.scope x)(hc:X.calm=true)(hit:PI X tg iter wi)
  (blk:∀s H fp pn,PG (c9 X N' scope s H fp pn) tg g/\PIf (c9 X N' scope s H fp pn) ifs tts/\PE (c9 X N' scope s H fp pn) elt te)
  (chk:oB X.env.scope X.N scope N' ix=true) (hsw:swapsWith (.ListComp elt [⟨tg,iter,ifs,0⟩] scope cpos) (some (.Name x pos')) pos.line X.env=pure true:=by rfl)
  (hs:∀x,foldedSetIterable iter X.env x=pure x:=by intro _;rfl) (hf:X.fn x=true\/X.env.scope.names.lookup x=some .local:=by first|exact .inl rfl|exact .inr rfl|assumption) :
  PS X (.Assign [.Name x pos'] (.ListComp elt [⟨tg,iter,ifs,0⟩] scope cpos) pos) (AL (xh ix wi g tts te) (eV i)):=by
 intro pins s σ H D I hw;rw [exec_Assign_Name_used _ _ _ _ hsw];refine wpAny_bind (wpAny_standAt (wpAny_bind ?_));show wpAny _ X.A (do let _ <- comprehension (.ListComp elt [⟨tg,iter,ifs,0⟩] scope cpos) scope X.env _ (newList []) false (eval iter X.env) (some (assign (.Name x pos') X.env))) _ _ s;refine wpAny_bind (thn (qe (use:=some (assign (.Name x pos') X.env)) (Qf:=fun _ s'=>SP X pins D .next s') hc (qa chk) hit blk hs I hw fun D' C H' s' I' q hm hn h1 h2 h3 h4 h5=>?_) fun _ s' q=>wpAny_pure (wpAny_pure q))
 obtain⟨m,oC,es,ep,hoC,hdC,hrC⟩:=hm
 have Ip:Inv X (pins++[(C,oC)]) σ H' s':=I'.pins_of fun p hp=>(mem_append.mp hp).elim (fun z=>I'.pin p (mem_append_right _ z)) fun z=>by
  have e:p=(C,oC):=by simpa using z
  subst e;exact⟨hoC,hn,h2,h4,fun v z=>by rw [hdC] at z;cases z⟩
 refine wpAny_assign_Name (jP (v:=.ref D') Ip hN hi hx rfl (fun s2 I2=>?_) hf);have hC2:s2.heap.get? C=some oC:=(I2.pin (C,oC) (by simp)).1;have I2':Inv X pins (σ.set i (some (.ref D'))) H' s2:=I2.pins_of fun p hp=>I2.pin p (mem_append_right _ (mem_append_left _ hp));refine⟨m,⟨oC,es,ep,hC2,hdC,hrC⟩,fun h' sb=>⟨_,H',?_,q⟩⟩;exact I2'.turned (t':=s2.toks) (fun b o hb e=>(sb.2 b hb).trans e) hn h2 (.inr h1) h3 h5
end
def yp(p:Addr)(a b c:Int):HO:=.ext fun h=>∃t u v,IsRange h p a b c t u v
def rp(a c:Int)(n:Nat):List V:=(List.range n).map fun (k:Nat)=>V.int (a+k*c)
theorem t9{a c:Int}{n:Nat}{acc:Array Value}(h:ItemsOf (fun i v=>∃t,v=.int (a+i*c) t) acc n):cB (rp a c n) acc.toList:=by
 obtain⟨hn,hi⟩:=h
 have key:∀(m:Nat) (us:List Value) (f:Nat->Int),us.length=m->(∀i u,us[i]?=some u->∃t,u=Value.int (f i) t)->cB ((List.range m).map fun k=>V.int (f k)) us:=by
  intro m
  induction m with
  | zero=>intro us f hl _;rw [length_eq_zero_iff] at hl;subst hl;exact .nil
  | succ m ih =>
   intro us f hl hu
   cases us with
   | nil=>simp at hl
   | cons u r =>
    rw [range_succ_eq_map,map_cons,map_map];refine .cons (hu 0 u rfl) (ih r (fun k=>f (k+1)) (by simpa using hl) fun i v e=>hu (i+1) v (by simpa using e))
 refine key n acc.toList (fun k=>a+k*c) (by simpa using hn) fun i u e=>?_;exact hi i u (by simpa using e)
theorem vt(a c:Int)(n:Nat):(rp a c n).length=n:=by simp [rp]
section
variable {X:Cx}
theorem xi{pins:List (Addr×Obj)}{σ:St}{H:Hp}{s:Shared}{a b c:Int}{t u v:Tok}{tk:Nat}(I:Inv X pins σ H s) :
  Inv X pins σ (upd H s.heap.objs.size (yp s.heap.objs.size a b c)) { s with heap:=s.heap.push { cls:=.type "range",data:=.fields #[.int a t,.int b u,.int c v] },toks:=tk }:=by
 refine I.laid (fun b o e=>Heap.get?_push_of_some _ e) (Nat.le_refl _) ⟨⟨t,u,v,IsRange.new ..⟩,⟨_,Heap.get?_push_size _ rfl⟩,fun h1 h2 ⟨t,u,v,z⟩ k=>⟨t,u,v,k _ z⟩⟩
theorem vv{a:Expr}{ta:TA}{p pos:Pos}(hg:Gl X "range")(hm:X.mg "range"=none)(ha:PA X [a] ta)(hs:starEach [a] X.env=[(false,eval a X.env)]:=by rfl) :
  PE X (.Call (.Name "range" p) [a] [] pos) (fun σ H Q=>ta σ H fun vs H1=>∃j:Int,vs=[.int j]/\∀p,H1 p=none->Q (.ref p) (upd H1 p (yp p 0 j 1))):=by
 intro pins s σ H Q I h;refine Call_ (jd I hg hm boot_range (PyProof.Rows.callWith_type1 (thn (ha pos pins s σ H _ I h) fun us s1 ⟨vs,H1,I1,r1,q1⟩=>?_) hs rfl));obtain⟨j,e,q⟩:=q1;subst e
 cases r1 with
 | cons r rr =>
  cases rr;obtain⟨t,rfl⟩:=r;exact call_range_1 ⟨.ref s1.heap.objs.size,_,xi I1,rfl,q _ (I1.hok.fresh (Nat.le_refl _))⟩
def Dg(K:PySem.W.Frag)(mk:List V->HO):List V->Hp->VK->Prop:=fun xs H Q=>∃p a b c n,xs=[.ref p]/\H p=some (yp p a b c)/\Builtin.Range.small a b c=true/\Builtin.Range.rangeSize a b c=((n:Nat):Int)/\n<=1000000/\∀l,H l=none->Q (.ref l) (upd H l (mk (rp a c n)))
theorem ua(hc:X.calm=true):cK X (.type "list") (Dg X.K .lst):=by
 intro pins s σ H xs us Q I r h;obtain⟨p,a,b,c,n,rfl,hp,hsm,hsz,hn,q⟩:=h;obtain⟨u,rfl,rx⟩:=m9 r;cases rx;obtain⟨⟨t,u,v,hr⟩,_,_⟩:=(show ck X.prog X.w H s.heap p (yp p a b c) from I.hok p _ hp)
 have hs:sizeLine=16777216:=sizeLine_eq;refine call_list_range (I.ok.hd hc) hr hsm hsz (by omega) fun h' tk acc c' hk e hacc=>?_;exact⟨.ref s.heap.objs.size,_,I.laid (t':=tk) hk (Nat.le_refl _) (show ck X.prog X.w _ h' _ (.lst (rp a c n)) from ⟨by rw [vt];omega,acc.toList,c',t9 hacc,by simpa using e⟩),rfl,q _ (I.hok.fresh (Nat.le_refl _))⟩
end
theorem vw:typeLookup (.type "list_reverseiterator") "__len__"=pure none:=by rw [typeLookup_type,builtinLookup_eq_fast];kernel_rfl
theorem xj:typeLookup (.type "list_reverseiterator") "__length_hint__"=pure (some (.builtin "list_reverseiterator.__length_hint__")):=by rw [typeLookup_type,builtinLookup_eq_fast];kernel_rfl
section
variable {prog:Program}{w:World}{A:Around}{E:Value->Shared->Prop}{s:Shared}{I l:Addr}{items:Array Value}
theorem xk{Q:Bool->Shared->Prop}{i:Int}(hit:s.heap.IsRevIter I l i)(h:Q false s):wpAny (model prog w) A (Builtin.List.listLengthHint (.ref I)) Q E s:=by
 unfold Builtin.List.listLengthHint;refine wpAny_bind (wpAny_specialOf hit.typeIs vw ?_);show wpAny _ A (specialOf (Value.ref I) (Str.ofString "__length_hint__") >>= _) _ _ _;refine wpAny_bind (wpAny_specialOf hit.typeIs xj ?_)
 (generalize hid:("list_reverseiterator.__length_hint__":String)=id0;(fail_if_success (clear hid id0));wp_delta;rw [show splitId id0=some ("list_reverseiterator","__length_hint__") from by subst hid;decide +kernel];subst hid)
 refine wpAny_bind (wpAny_isInstance (b:=true) hit.typeIs (by rw [isSubtype_type];kernel_rfl) ?_);exact wpAny_pure h
theorem ub{R:Result->Shared->Prop}(hh:A.handled=none)(hit:s.heap.IsRevIter I l ((items.size:Int) - 1))(hl:s.heap.IsList l items)(hlI:l≠I)(hsz:items.size<=sizeLine)(Sx:Addr)(res:Value)(c₀:Nat)
  (hS:s.heap.get? Sx=some { cls:=.type "list",data:=.seq #[] c₀ }) (hSI:Sx≠I) (hSl:Sx≠l)
  (hR:∀h' tk acc' c',(∀b o,b≠Sx->b≠I->s.heap.get? b=some o->h'.get? b=some o)->h'.get? Sx=some { cls:=.type "list",dict:=none,data:=.seq acc' c',slots:=#[] } ->
   ItemsOf (fun i v=>items[items.size - 1 - i]?=some v) acc' items.size->R (.ok (.ret res)) { s with heap:=h',toks:=tk }) :
  wpAny (model prog w) A.in1 (Builtin.List.listExtendWith (.ref Sx) (.ref I) res)
   (fun fin s'=>match fin with|.done f=>R (.ok f) s'|.again c'=>c'.quiet=true/\codeAny (model prog w) A c' R s') (fun e s'=>R (.error e) s') s:=by
 have hSf:Sx∉[I,l]:=fun hm=>by
  rcases mem_cons.mp hm with e|e
  .exact hSI e
  .exact hSl (mem_singleton.mp e)
 have W:=(Walks.listRev (prog:=prog) (w:=w) (A:=A.in1) hh I l hlI items).toS;unfold Builtin.List.listExtendWith;refine wpAny_bind (wpAny_typeOf (T:="list_reverseiterator") hit.typeIs ?_);have h1:Builtin.List.listSameRef (.ref Sx) (.ref I)=false:=by simp [Builtin.List.listSameRef,hSI]
 have h2:(Value.type "list_reverseiterator" == Value.type "list")=false:=by decide
 have h3:(Value.type "list_reverseiterator" == Value.type "tuple")=false:=by decide
 simp only [h1,h2,h3,Bool.or_false,false_eq_true,if_false];refine wpAny_bind (wpAny_pyIter_revIter hit ?_);refine wpAny_bind (wpAny_holding (xk hit ?_));refine wpAny_ite_split (fun hab=>absurd hab (by decide)) (fun _=>?_);refine wpAny_pure ⟨plainId_quiet F.plain_extend_loop _,codeAny_extend_loopS W hsz Sx hSf res items.size 0 _ #[] c₀ rfl (zero_le _) ⟨zero_le _,by simpa using hit,hl⟩ hS (ItemsOf.nil _) fun s' acc' c' hm hS' hacc=>?_⟩
 rw [Moved.eq_with hm];refine hR s'.heap s'.toks acc' c' (fun b o hb hbI e=>hm.heap b o (fun hmem=>?_) e) hS' hacc
 rcases mem_cons.mp hmem with e'|hmem
 .exact hb e'
 .exact hbI (mem_singleton.mp hmem)
theorem oF{R:Result->Shared->Prop}(hh:A.handled=none)(hit:s.heap.IsRevIter I l ((items.size:Int) - 1))(hl:s.heap.IsList l items)(hlI:l≠I)(hsz:items.size<=sizeLine)(Sx:Addr)
  (hS:s.heap.get? Sx=some { cls:=.type "list",data:=.seq #[] }) (hSI:Sx≠I) (hSl:Sx≠l)
  (hR:∀h' tk acc' c',(∀b o,b≠Sx->b≠I->s.heap.get? b=some o->h'.get? b=some o)->h'.get? Sx=some { cls:=.type "list",dict:=none,data:=.seq acc' c',slots:=#[] } ->
   ItemsOf (fun i v=>items[items.size - 1 - i]?=some v) acc' items.size->R (.ok (.ret .none)) { s with heap:=h',toks:=tk }) :
  wpAny (model prog w) A.in1 (Builtin.«list.__init__» ⟨[.ref Sx,.ref I],[]⟩)
   (fun fin s'=>match fin with|.done f=>R (.ok f) s'|.again c'=>c'.quiet=true/\codeAny (model prog w) A c' R s') (fun e s'=>R (.error e) s') s:=by
 show wpAny _ _ (do let old <- Builtin.List.listItems (.ref Sx);Builtin.List.listUpdate (.ref Sx) (fun _=>#[]);letGo old.toList.reverse;Builtin.List.listExtendWith (.ref Sx) (.ref I) .none) _ _ s;refine wpAny_bind ?_;unfold Builtin.List.listItems;refine wpAny_bind (wpAny_seqItems hS rfl (wpAny_pure ?_));show wpAny _ _ (updateSeq Sx (fun _=>#[]) >>= fun _=>letGo (#[]:Array Value).toList.reverse >>= fun _=>Builtin.List.listExtendWith (.ref Sx) (.ref I) .none) _ _ s
 refine wpAny_bind (wpAny_updateSeq hS rfl ?_);have hS₂:=Heap.get?_update_self (Obj.mapSeq (fun _=>(#[]:Array Value))) hS rfl
 have oth:∀b o,b≠Sx->s.heap.get? b=some o->(s.heap.update Sx (Obj.mapSeq (fun _=>(#[]:Array Value)))).get? b=some o :=
  fun b o hb e=>(Heap.get?_update_other _ _ (Ne.symm hb)).trans e
 refine wpAny_bind (wpAny_letGo ?_);refine ub hh (hit.at fun o e=>oth I o (Ne.symm hSI) e) (hl.at fun o e=>oth l o (Ne.symm hSl) e) hlI hsz Sx .none _ hS₂ hSI hSl fun h' tk acc' c' hk hS' hacc=>?_;exact hR h' tk acc' c' (fun b o hb hbI e=>hk b o hb hbI (oth b o hb e)) hS' hacc
theorem oG{Q:Value->Shared->Prop}(hh:A.handled=none)(hit:s.heap.IsRevIter I l ((items.size:Int) - 1))(hl:s.heap.IsList l items)(hlI:l≠I)(hsz:items.size<=sizeLine)
  (hQ:∀h' tk acc' c',(∀b o,b≠I->s.heap.get? b=some o->h'.get? b=some o) ->
   h'.get? s.heap.objs.size=some { cls:=.type "list",dict:=none,data:=.seq acc' c',slots:=#[] }->ItemsOf (fun i v=>items[items.size - 1 - i]?=some v) acc' items.size->Q (.ref s.heap.objs.size) { s with heap:=h',toks:=tk }) :
  wpAny (model prog w) A (call (.type "list") [.ref I]) Q E s:=by
 refine callType_codes (Q₁:=fun obj s₁=>obj=.ref s.heap.objs.size/\s₁={ s with heap:=s.heap.push { cls:=.type "list",data:=.seq #[] } }) F.called_list (F.typeCall_list_1 _) F.entry_list_init
  (code_list_new _ ⟨rfl,rfl⟩) fun obj s₁ h₁=>?_
 obtain⟨rfl,rfl⟩:=h₁;have hS:(s.heap.push { cls:=.type "list",data:=.seq #[] }).get? s.heap.objs.size=some { cls:=.type "list",data:=.seq #[] }:=Heap.get?_push_size _ rfl
 have hSI:s.heap.objs.size≠I:=by
  obtain⟨o,ho,_⟩:=hit;exact ne_of_gt (Heap.lt_size ho)
 have hSl:s.heap.objs.size≠l:=by
  obtain⟨o,ho,_⟩:=hl;exact ne_of_gt (Heap.lt_size ho)
 refine⟨⟨_,hS,rfl⟩,F.args_list_init_2 _ _,oF (A:=A.in1) hh (hit.at fun o e=>Heap.get?_push_of_some _ e) (hl.push _) hlI hsz _ hS hSI hSl fun h' tk acc' c' hk hS' hacc=>?_⟩;exact⟨rfl,hQ h' tk acc' c' (fun b o hb e=>hk b o (ne_of_lt (Heap.lt_size e)) hb (Heap.get?_push_of_some _ e)) hS' hacc⟩
end
theorem xm{xs:List V}{its:List Value}(r:cB xs its){acc:Array Value}(h:ItemsOf (fun i v=>its.toArray[its.toArray.size - 1 - i]?=some v) acc its.toArray.size):cB xs.reverse acc.toList:=by
 have e:acc.toList=its.reverse:=by
  obtain⟨hn,hi⟩:=h;apply ext_getElem?;intro i
  by_cases hil:i<its.length
  .have hia:i<acc.size:=by rw [hn];simpa using hil
   have:=hi i acc[i] (by simp);rw [getElem?_reverse hil];have e1:acc.toList[i]?=some acc[i]:=by simp
   rw [e1,<- this];simp
  .have hna:acc.toList.length=its.length:=by simpa using hn
   rw [getElem?_eq_none (by omega),getElem?_eq_none (by rw [length_reverse];omega)]
 rw [e];exact r.reverse
section
variable {X:Cx}{e:Expr}{te:TE}{p p1 p2 pos:Pos}
theorem uc(hc:X.calm=true)(he:PE X e te)(hg1:Gl X "list")(hm1:X.mg "list"=none)(hg2:Gl X "reversed")(hm2:X.mg "reversed"=none)
  (hs:starEach [.Call (.Name "reversed" p1) [e] [] p2] X.env=[(false,eval (.Call (.Name "reversed" p1) [e] [] p2) X.env)]:=by rfl) (hs2:starEach [e] X.env=[(false,eval e X.env)]:=by rfl) :
  PE X (.Call (.Name "list" p) [.Call (.Name "reversed" p1) [e] [] p2] [] pos) (fun σ H Q=>te σ H fun x H1=>∃a xs,x=.ref a/\SqL X.K H1 a xs/\∀l,H1 l=none->Q (.ref l) (upd H1 l (.lst xs.reverse))):=by
 intro pins s σ H Q I h;refine Call_ (jd I hg1 hm1 boot_list (PyProof.Rows.callWith_type1 ?_ hs rfl));rw [hs];show wpAny _ _ (spliced ((false,eval (.Call (.Name "reversed" p1) [e] [] p2) X.env)::backTo pos [])) _ _ s;refine Calls.spliced_cons ?_;refine Call_ (jd I hg2 hm2 boot_reversed (PyProof.Rows.callWith_type1 ?_ hs2 rfl));rw [hs2];show wpAny _ _ (spliced ((false,eval e X.env)::backTo p2 [])) _ _ s
 refine Calls.spliced_cons (thn (he pins s σ H _ I h) fun u s1 ⟨x,H1,I1,r1,q1⟩=>Calls.spliced_nil ?_);obtain⟨a,xs,rfl,hS,q⟩:=q1;cases r1;obtain⟨its,rv,pl,hz⟩:=I1.list hS;have hlen:=rv.length;refine call_reversed_list pl.isList ?_;refine Calls.spliced_nil ?_
 have hal:a<s1.heap.objs.size:=by
  obtain⟨o,ho,_⟩:=pl.isList;exact Heap.lt_size ho
 have I2:Inv X pins σ H1 { s1 with heap:=s1.heap.push (revObj a ((its.toArray.size:Int) - 1)) }:=I1.kept (t':=s1.toks) fun b o e=>Heap.get?_push_of_some _ e;refine oG (I1.ok.hd hc) (I:=s1.heap.objs.size) (l:=a) (items:=its.toArray) ⟨_,Heap.get?_push_size _ rfl,rfl,rfl⟩ (pl.isList.push _) (ne_of_lt hal) (by rw [size_toArray];omega) fun h' tk acc' c' hk eL hacc=>?_;have hfI:=I1.fpOk (H':=H1) (Nat.le_refl s1.heap.objs.size) (I1.hok.fresh (Nat.le_refl _))
 obtain⟨f0,f1,f2,f3,f4,f5⟩:=hfI;have hLn:H1 (s1.heap.push (revObj a ((its.toArray.size:Int) - 1))).objs.size=none:=I2.hok.fresh (Nat.le_refl _);have hLlt:∀b o,(s1.heap.push (revObj a ((its.toArray.size:Int) - 1))).get? b=some o->b≠(s1.heap.push (revObj a ((its.toArray.size:Int) - 1))).objs.size:=fun b o e=>ne_of_lt (Heap.lt_size e);have nit:∀b u,H1 b=some u->b≠s1.heap.objs.size:=fun b u e z=>by rw [z,f0] at e;cases e
 have neL:∀b u,H1 b=some u->b≠(s1.heap.push (revObj a ((its.toArray.size:Int) - 1))).objs.size:=fun b u e z=>by rw [z,hLn] at e;cases e
 have hokT:HOk X.prog X.w H1 h':=fun b u e=>by
  refine (I2.hok b u e).stay (fun c v hc q=>hk c v ?_ q) (fun _ q=>q) fun _ _ q=>q
  rcases hc with z|z
  .rw [z];exact nit b u e
  .exact nit c _ z
 refine⟨.ref _,upd H1 (s1.heap.push (revObj a ((its.toArray.size:Int) - 1))).objs.size (.lst xs.reverse),?_,rfl,q _ hLn⟩
 refine I2.step (g':=s1.gens) (d':=s1.drawn) (t':=tk) (ch:=[s1.heap.objs.size]) (fun b hb=>?_) (fun b o _ _ hc e _=>hk b o (fun z=>hc (by simp [z])) e) (fun b o _ _ hc e _=>⟨o.slots,hk b o (fun z=>hc (by simp [z])) e⟩)
  (fun b o _ e n=>by rw [aA (hLlt b o e)];exact n) (fun b o hc e=>⟨o,hk b o (fun z=>hc (by simp [z])) e⟩) (fun b ys e=>by rw [aA (neL b _ e)];exact e) (fun b o u e=>by rw [aA (neL b _ e)];exact e)
  (fun b ps e=>⟨#[],by rw [aA (neL b _ e),e];simp⟩) (fun m hm=>?_) ?_ I2.bare
 .have e:b=s1.heap.objs.size:=by simpa using hb
  subst e;exact⟨f3,f1,f4,f5⟩
 .obtain⟨o,es,ep,ho,r⟩:=hm;exact⟨o,es,ep,hk _ o (Ne.symm f1) ho,r⟩
 .intro b u e
  by_cases hb:b=(s1.heap.push (revObj a ((its.toArray.size:Int) - 1))).objs.size
  .subst hb;rw [aQ] at e;cases e;exact⟨by rw [length_reverse];exact hz,acc'.toList,c',xm rv hacc,by simpa using eL⟩
  .rw [aA hb] at e
   refine (hokT b u e).stay (fun c v _ q=>q) (fun c q=>?_) fun c ys q=>?_
   .rw [aA (neL c _ q)];exact q
   .rw [aA (neL c _ q)];exact q
end
def fR(k:Bool)(h:Heap)(a:Addr)(its:Array Value):Prop:=∃o,h.get? a=some o/\o.cls=.type (cond k "tuple" "list")/\∃n,o.data=.seq its n
def de(k:Bool)(h:Heap)(it a:Addr)(i:Nat):Prop:=∃o,h.get? it=some o/\o.cls=.type (cond k "tuple_iterator" "list_iterator")/\o.data=.fields #[.ref a,.int i 0]
theorem fR.mv{k:Bool}{h h':Heap}{a:Addr}{its:Array Value}(r:fR k h a its)(f:∀o,h.get? a=some o->h'.get? a=some o):fR k h' a its:=let ⟨o,e,q⟩:=r;⟨o,f o e,q⟩
theorem de.mv{k:Bool}{h h':Heap}{it a:Addr}{i:Nat}(r:de k h it a i)(f:∀o,h.get? it=some o->h'.get? it=some o):de k h' it a i:=let ⟨o,e,q⟩:=r;⟨o,f o e,q⟩
section
variable {P:Program}{w:World}{A:Around}{E:Value->Shared->Prop}{s:Shared}{k:Bool}{it a:Addr}{i:Nat}{its:Array Value}
theorem qf{x:Value}{Q:Value->Shared->Prop}(W:s.heap.IsTupleIter it a i)(R:s.heap.IsTuple a its)(hx:its[i]?=some x)
  (hQ:∀h',h'.IsTupleIter it a (i+1)->Heap.SameBut it s.heap h'->Q x { s with heap:=h' }):wpAny (model P w) A (Builtin.SmallTypes.nextOf (.ref it)) Q E s:=by
 have hT:=W.typeIs;obtain⟨o,ho,c,d⟩:=W;obtain⟨ol,hol,_,nl,dl⟩:=R;unfold Builtin.SmallTypes.nextOf;refine wpAny_bind (wpAny_callSpecial?_slot (name:=Str.ofString "__next__") hT F.slot_tuple_iterator_next (wpAny_call_entry F.slot_tuple_iterator_next hT F.entry_tuple_iterator_next ?_ (F.args_tuple_iterator_next_1 _)));refine wpAny_bind (m:=field (.ref it) 0) (wpAny_field ho d (x:=.ref a) rfl ?_);have nn:¬ ((Value.ref a == Value.none)=true):=Bool.false_ne_true
 show wpAny _ _ (if (Value.ref a == Value.none)=true then _ else _) _ _ s;rw [if_neg nn];refine wpAny_bind (m:=field (.ref it) 1) (wpAny_field ho d (x:=.int i 0) rfl ?_);refine wpAny_bind (m:=seqItems? (.ref a)) (wpAny_seqItems hol dl ?_);simp only [toNat_natCast,hx];exact wpAny_bind (wpAny_setField ho d (by simp) (wpAny_pure ⟨x,rfl,wpAny_pure (hQ _ ⟨_,Heap.get?_update_self _ ho (Obj.isFreed_of_fields (Obj.data_mapFields d _)),(Obj.cls_mapFields ..).trans c,by rw [Obj.data_mapFields d];simp [rawInt]⟩ (Heap.SameBut.update ..))⟩))
theorem rq{Q:Value->Shared->Prop}(hh:A.handled=none)(W:s.heap.IsTupleIter it a i)(R:s.heap.IsTuple a its)(hx:its[i]?=none)
  (hE:∀h' e,Heap.ExtBut it s.heap h'->(∃o,h'.get? e=some o/\o.cls=.type "StopIteration")->E (.ref e) { s with heap:=h' }):wpAny (model P w) A (Builtin.SmallTypes.nextOf (.ref it)) Q E s:=by
 have hT:=W.typeIs;obtain⟨o,ho,c,d⟩:=W;obtain⟨ol,hol,_,nl,dl⟩:=R;unfold Builtin.SmallTypes.nextOf;refine wpAny_bind (wpAny_callSpecial?_slot (name:=Str.ofString "__next__") hT F.slot_tuple_iterator_next (wpAny_call_entry F.slot_tuple_iterator_next hT F.entry_tuple_iterator_next ?_ (F.args_tuple_iterator_next_1 _)));refine wpAny_bind (m:=field (.ref it) 0) (wpAny_field ho d (x:=.ref a) rfl ?_);have nn:¬ ((Value.ref a == Value.none)=true):=Bool.false_ne_true
 show wpAny _ _ (if (Value.ref a == Value.none)=true then _ else _) _ _ s;rw [if_neg nn];refine wpAny_bind (m:=field (.ref it) 1) (wpAny_field ho d (x:=.int i 0) rfl ?_);refine wpAny_bind (m:=seqItems? (.ref a)) (wpAny_seqItems hol dl ?_);simp only [toNat_natCast,hx];refine wpAny_bind (wpAny_rule (wpAny_bind (wpAny_setField ho d (by simp) (wpAny_bind (m:=newExc (.type "StopIteration") []) ?_))));simp only [newExc,newTuple]
 refine wpAny_bind (wpAny_newObj_type (wpAny_bind (m:=firstArgMember _ _) (wpAny_of_eq (a:=Value.none) (by first|rfl|(simp only [firstArgMember];rfl)) (wpAny_newObj_type ?_ (by size_fits)))) (by size_fits));simp only [raiseNew];refine wpAny_bind (wpAny_handled ?_)
 first|rw [show A.in1.handled=none from hh]|rw [hh]
 exact wpAny_bind (wpAny_pure (wpAny_throw (hE _ _ (((Heap.SameBut.update ..).extBut.push _).push _) ⟨_,Heap.get?_push_size _ rfl,rfl⟩)))
theorem fz{x:Value}{Q:Value->Shared->Prop}(W:de k s.heap it a i)(R:fR k s.heap a its)(hx:its[i]?=some x)
  (hQ:∀h',de k h' it a (i+1)->Heap.SameBut it s.heap h'->Q x { s with heap:=h' }):wpAny (model P w) A (Builtin.SmallTypes.nextOf (.ref it)) Q E s:=by
 cases k with
 | false=>exact wpAny_nextOf_list_item W R hx hQ
 | true=>exact qf W R hx hQ
theorem gI{Q:Value->Shared->Prop}(hh:A.handled=none)(W:de k s.heap it a i)(R:fR k s.heap a its)(hx:its[i]?=none)
  (hE:∀h' e,Heap.ExtBut it s.heap h'->(∃o,h'.get? e=some o/\o.cls=.type "StopIteration")->E (.ref e) { s with heap:=h' }):wpAny (model P w) A (Builtin.SmallTypes.nextOf (.ref it)) Q E s:=by
 cases k with
 | false=>exact wpAny_nextOf_list_end hh W R hx hE
 | true=>exact rq hh W R hx hE
end
structure ZA (z U V i j:Addr):Prop where
 Uz:U≠z
 Vz:V≠z
 iz:i≠z
 jz:j≠z
 UV:U≠V
 Ui:U≠i
 Uj:U≠j
 Vi:V≠i
 Vj:V≠j
 ij:i≠j
section
variable {P:Program}{w:World}{A:Around}{E:Value->Shared->Prop}{s:Shared}{k l:Bool}{z U V i j a c:Addr}{n:Nat}{xs ys:Array Value}{x y u v:Value}
theorem zw{Q:Value->Shared->Prop}(D:ZA z U V i j)(az:a≠z)(cz:c≠z)(ci:c≠i)(cV:c≠V)(hz:IsZip s.heap z U V .none)(hU:IsPair s.heap U (.ref i) (.ref j))(hV:IsPair s.heap V u v)
  (W1:de k s.heap i a n) (W2:de l s.heap j c n) (R1:fR k s.heap a xs) (R2:fR l s.heap c ys) (hx:xs[n]?=some x) (hy:ys[n]?=some y)
  (hQ:∀h',IsZip h' z U V (rawInt s.heap.objs.size)->IsPair h' V x y->de k h' i a (n+1)->de l h' j c (n+1)->IsPair h' s.heap.objs.size x y->h'.objs.size=s.heap.objs.size+1 ->
   (∀b o,b≠z->b≠V->b≠i->b≠j->s.heap.get? b=some o->h'.get? b=some o)->Q (.ref s.heap.objs.size) { s with heap:=h' }) :
  wpAny (model P w) A (Builtin.«zip.__next__» ⟨[.ref z],[]⟩) (fun f s'=>∃r,f=.done (.ret r)/\Q r s') E s:=by
 refine wpAny_bind (m:=field (.ref z) 2) (wpAny_field hz rfl (x:=.bool false) rfl (wpAny_bind (m:=field (.ref z) 3) (wpAny_field hz rfl (x:=.ref U) rfl (wpAny_bind (wpAny_seqItems hU rfl ?_)))));refine wpAny_bind (m:=Builtin.SmallTypes.ownedTupleIsFree (.ref z)) ?_;unfold Builtin.SmallTypes.ownedTupleIsFree;refine wpAny_bind (wpAny_field hz rfl (x:=.none) rfl (wpAny_pure ?_));simp only [if_true];refine wpAny_bind (wpAny_rule (wpAny_bind (wpAny_field hz rfl (x:=.ref V) rfl (wpAny_bind (wpAny_setField_rec hz (by simp) fun g1 z1 b1=>wpAny_bind ?_)))))
 replace z1:IsZip g1 z U V .ellipsis:=z1
 simp only [zipIdx_cons,zipIdx_nil,forIn_cons,forIn_nil];have e1:=b1.extBut;refine wpAny_bind (wpAny_bind (wpAny_onRaise (wpAny_bind (m:=Builtin.SmallTypes.nextOf (.ref i)) (fz (W1.mv fun o e=>e1 _ o D.iz e) (R1.mv fun o e=>e1 _ o az e) hx fun g2 w1 b2=>wpAny_pure ?_))));have e2:=b2.extBut;have v2:IsPair g2 V u v:=e2 _ _ D.Vi (e1 _ _ D.Vz hV);refine wpAny_bind (wpAny_seqItems v2 rfl (wpAny_bind (wpAny_updateSeq_pair v2 fun g3 v3 b3=>wpAny_bind (wpAny_letGo (wpAny_pure ?_)))))
 replace v3:IsPair g3 V x v:=v3
 have e3:=b3.extBut;refine wpAny_bind (wpAny_bind (wpAny_onRaise (wpAny_bind (m:=Builtin.SmallTypes.nextOf (.ref j)) (fz (W2.mv fun o e=>e3 _ o D.Vj.symm (e2 _ o D.ij.symm (e1 _ o D.jz e))) (R2.mv fun o e=>e3 _ o cV (e2 _ o ci (e1 _ o cz e))) hy fun g4 w2 b4=>wpAny_pure ?_))));have e4:=b4.extBut;have v4:IsPair g4 V x v:=e4 _ _ D.Vj v3;refine wpAny_bind (wpAny_seqItems v4 rfl (wpAny_bind (wpAny_updateSeq_pair v4 fun g5 v5 b5=>wpAny_bind (wpAny_letGo (wpAny_pure (wpAny_pure ?_))))))
 replace v5:IsPair g5 V x y:=v5
 have e5:=b5.extBut;refine wpAny_bind (wpAny_seqItems v5 rfl (wpAny_bind (wpAny_newTuple ?_)));have sz:g5.objs.size=s.heap.objs.size:=by rw [b5.1,b4.1,b3.1,b2.1,b1.1]
 have z5:IsZip g5 z U V .ellipsis:=e5 _ _ D.Vz.symm (e4 _ _ D.jz.symm (e3 _ _ D.Vz.symm (e2 _ _ D.iz.symm z1)));have k5:∀b o,b≠z->b≠V->b≠i->b≠j->s.heap.get? b=some o->g5.get? b=some o:=fun b o q1 q2 q3 q4 e=>e5 _ _ q2 (e4 _ _ q4 (e3 _ _ q2 (e2 _ _ q3 (e1 _ _ q1 e))));have w15:de k g5 i a (n+1):=w1.mv fun o e=>e5 _ o D.Vi.symm (e4 _ o D.ij (e3 _ o D.Vi.symm e));have w25:de l g5 j c (n+1):=w2.mv fun o e=>e5 _ o D.Vj.symm e
 have zlt:z<g5.objs.size:=Heap.lt_size z5;refine wpAny_bind (m:=Builtin.SmallTypes.ownedTupleHandOut (.ref z) (.ref g5.objs.size)) ?_;unfold Builtin.SmallTypes.ownedTupleHandOut;have z6:IsZip (g5.push { cls:=.type "tuple",data:=.seq #[x,y] }) z U V .ellipsis:=Heap.get?_push_of_some _ z5;refine wpAny_bind (wpAny_setField_rec z6 (by simp) fun g7 z7 b7=>?_)
 replace z7:IsZip g7 z U V (rawInt g5.objs.size):=z7
 refine wpAny_setField_rec z7 (by simp) fun g8 z8 b8=>?_
 replace z8:IsZip g8 z U V (rawInt g5.objs.size):=z8
 have up:∀b o,b≠z->g5.get? b=some o->g8.get? b=some o:=fun b o q e=>b8.extBut _ _ q (b7.extBut _ _ q (Heap.get?_push_of_some _ e));have t8:IsPair g8 g5.objs.size x y:=b8.extBut _ _ (ne_of_gt zlt) (b7.extBut _ _ (ne_of_gt zlt) (Heap.get?_push_size _ rfl));have s8:g8.objs.size=g5.objs.size+1:=by rw [b8.1,b7.1,Heap.size_push]
 rw [sz] at z8 t8 s8;refine wpAny_pure ⟨_,rfl,?_⟩;show Q (.ref g5.objs.size) _;rw [sz];exact hQ g8 z8 (up _ _ D.Vz v5) (w15.mv fun o e=>up _ o D.iz e) (w25.mv fun o e=>up _ o D.jz e) t8 s8 fun b o q1 q2 q3 q4 e=>up b o q1 (k5 b o q1 q2 q3 q4 e)
theorem BI{Q:Fin->Shared->Prop}(hh:A.handled=none)(D:ZA z U V i j)(az:a≠z)(cz:c≠z)(ci:c≠i)(cV:c≠V)(hz:IsZip s.heap z U V .none)(hU:IsPair s.heap U (.ref i) (.ref j))(hV:IsPair s.heap V u v)
  (W1:de k s.heap i a n) (W2:de l s.heap j c n) (R1:fR k s.heap a xs) (R2:fR l s.heap c ys) (hend:xs[n]?=none\/ys[n]?=none)
  (hE:∀h' e,(∀b o,b≠z->b≠V->b≠i->b≠j->s.heap.get? b=some o->h'.get? b=some o)->(∃o,h'.get? e=some o/\o.cls=.type "StopIteration")->E (.ref e) { s with heap:=h' }) :
  wpAny (model P w) A (Builtin.«zip.__next__» ⟨[.ref z],[]⟩) Q E s:=by
 refine wpAny_bind (m:=field (.ref z) 2) (wpAny_field hz rfl (x:=.bool false) rfl (wpAny_bind (m:=field (.ref z) 3) (wpAny_field hz rfl (x:=.ref U) rfl (wpAny_bind (wpAny_seqItems hU rfl ?_)))));refine wpAny_bind (m:=Builtin.SmallTypes.ownedTupleIsFree (.ref z)) ?_;unfold Builtin.SmallTypes.ownedTupleIsFree;refine wpAny_bind (wpAny_field hz rfl (x:=.none) rfl (wpAny_pure ?_));simp only [if_true];refine wpAny_bind (wpAny_rule (wpAny_bind (wpAny_field hz rfl (x:=.ref V) rfl (wpAny_bind (wpAny_setField_rec hz (by simp) fun g1 z1 b1=>wpAny_bind ?_)))))
 replace z1:IsZip g1 z U V .ellipsis:=z1
 simp only [zipIdx_cons,zipIdx_nil,forIn_cons,forIn_nil];have e1:=b1.extBut
 cases hx:xs[n]? with
 | none =>
  refine wpAny_bind (wpAny_bind (wpAny_onRaise (wpAny_bind (m:=Builtin.SmallTypes.nextOf (.ref i)) (gI hh (W1.mv fun o e=>e1 _ o D.iz e) (R1.mv fun o e=>e1 _ o az e) hx fun g2 e b2 he=>?_))));obtain⟨oe,ge,ce⟩:=he;have z2:IsZip g2 z U V .ellipsis:=b2 _ _ D.iz.symm z1;have ez:e≠z:=fun q=>by subst q;rw [z2] at ge;cases ge;simp at ce
  exact wpAny_setField_rec z2 (by simp) fun g3 _ b3=>hE g3 e (fun b o q1 _ q3 _ q=>b3.extBut _ _ q1 (b2 _ _ q3 (e1 _ _ q1 q))) ⟨oe,b3.extBut _ _ ez ge,ce⟩
 | some x =>
  have hy:ys[n]?=none:=by
   rcases hend with q|q
   .rw [hx] at q;cases q
   .exact q
  refine wpAny_bind (wpAny_bind (wpAny_onRaise (wpAny_bind (m:=Builtin.SmallTypes.nextOf (.ref i)) (fz (W1.mv fun o e=>e1 _ o D.iz e) (R1.mv fun o e=>e1 _ o az e) hx fun g2 w1 b2=>wpAny_pure ?_))));have e2:=b2.extBut;have v2:IsPair g2 V u v:=e2 _ _ D.Vi (e1 _ _ D.Vz hV);refine wpAny_bind (wpAny_seqItems v2 rfl (wpAny_bind (wpAny_updateSeq_pair v2 fun g3 v3 b3=>wpAny_bind (wpAny_letGo (wpAny_pure ?_)))))
  have e3:=b3.extBut;refine wpAny_bind (wpAny_bind (wpAny_onRaise (wpAny_bind (m:=Builtin.SmallTypes.nextOf (.ref j)) (gI hh (W2.mv fun o e=>e3 _ o D.Vj.symm (e2 _ o D.ij.symm (e1 _ o D.jz e))) (R2.mv fun o e=>e3 _ o cV (e2 _ o ci (e1 _ o cz e))) hy fun g4 e b4 he=>?_))));obtain⟨oe,ge,ce⟩:=he;have z4:IsZip g4 z U V .ellipsis:=b4 _ _ D.jz.symm (e3 _ _ D.Vz.symm (e2 _ _ D.iz.symm z1));have ez:e≠z:=fun q=>by subst q;rw [z4] at ge;cases ge;simp at ce
  exact wpAny_setField_rec z4 (by simp) fun g5 _ b5=>hE g5 e (fun b o q1 q2 q3 q4 q=>b5.extBut _ _ q1 (b4 _ _ q4 (e3 _ _ q2 (e2 _ _ q3 (e1 _ _ q1 q))))) ⟨oe,b5.extBut _ _ ez ge,ce⟩
end
def Sq(k:Bool)(K:PySem.W.Frag)(H:Hp)(a:Addr)(xs:List V):Prop:=cond k (SqT K H a xs) (SqL K H a xs)
section
variable {X:Cx}{pins:List (Addr×Obj)}{σ:St}{H:Hp}{s:Shared}{k l:Bool}{a b c:Addr}{xs ys:List V}
theorem Inv.row(I:Inv X pins σ H s)(h:Sq k X.K H a xs):∃its:List Value,cB xs its/\fR k s.heap a its.toArray/\xs.length<=sizeLine:=by
 cases k with
 | false=>obtain⟨its,r,p,z⟩:=I.list h;exact⟨its,r,p.isList,z⟩
 | true=>obtain⟨its,r,p,z⟩:=I.tuple h;exact⟨its,r,p,z⟩
theorem Inv.row_inj(I:Inv X pins σ H s)(h:Sq k X.K H a xs)(h':Sq k X.K H a ys):xs=ys:=by
 cases k with
 | false=>exact I.list_inj h h'
 | true=>exact I.tuple_inj h h'
theorem vx{u:HO}(r:Rd H a u):∃v,H a=some v:=by
 rcases r with r|⟨o,r⟩ <;> exact⟨_,r⟩
theorem Inv.row_ne(I:Inv X pins σ H s)(h:Sq k X.K H a xs)(f:tN X pins H b):a≠b:=by
 have kk:∀o,X.K.lookup a=some o->a≠b:=fun o e z=>by
  have e1:=I.ok.mod.kin a o e
  rcases f.2.2.2.1 with q|q
  .exact I.ok.noex a o e1 (z ▸ q)
  .exact absurd (Nat.lt_of_lt_of_le (Heap.lt_size (I.ok.bs a o e1).1) (z ▸ q)) (Nat.lt_irrefl _)
 have hh:∀u,H a=some u->a≠b:=fun u e z=>by rw [z,f.1] at e;cases e
 cases k with
 | false =>
  rcases h with r|⟨o,its,n,e,_⟩
  .obtain⟨v,e⟩:=vx r;exact hh v e
  .exact kk o e
 | true =>
  rcases h with r|⟨o,its,n,e,_⟩
  .obtain⟨v,e⟩:=vx r;exact hh v e
  .exact kk o e
theorem Inv.yielded{h':Heap}{T:Addr}{zs:List V}{t':Nat}{ch:List Addr}(I:Inv X pins σ H s)(hf:∀b∈ch,tN X pins H b)(hT:s.heap.objs.size<=T)
  (kp:∀b o,b∉ch->s.heap.get? b=some o->h'.get? b=some o) (new:ck X.prog X.w (upd H T (.tup zs)) h' T (.tup zs)):Inv X pins σ (upd H T (.tup zs)) { s with heap:=h',toks:=t' }:=by
 have hn:H T=none:=I.hok.fresh hT;have nT:∀b u,H b=some u->b≠T:=fun b u e z=>by rw [z,hn] at e;cases e
 have oT:∀b o,s.heap.get? b=some o->b≠T:=fun b o e z=>absurd (Nat.lt_of_lt_of_le (Heap.lt_size e) (z ▸ hT)) (Nat.lt_irrefl _);have nc:∀b u,H b=some u->b∉ch:=fun b u e z=>by rw [(hf b z).1] at e;cases e
 refine I.step (g':=s.gens) (d':=s.drawn) (ch:=ch) (fun b hb=>⟨(hf b hb).2.2.2.1,(hf b hb).2.1,(hf b hb).2.2.2.2.1,(hf b hb).2.2.2.2.2⟩) (fun b o _ _ hc e _=>kp b o hc e) (fun b o _ _ hc e _=>⟨o.slots,kp b o hc e⟩)
  (fun b o _ e n=>by rw [aA (oT b o e)];exact n) (fun b o hc e=>⟨o,kp b o hc e⟩) (fun b xs e=>by rw [aA (nT b _ e)];exact e) (fun b o u e=>by rw [aA (nT b _ e)];exact e)
  (fun b ps e=>⟨#[],by rw [aA (nT b _ e),e];simp⟩) (fun m hm=>?_) (fun b u e=>?_) I.bare
 .obtain⟨o,es,ep,ho,r⟩:=hm;exact⟨o,es,ep,kp _ o (fun z=>(hf _ z).2.1 rfl) ho,r⟩
 .by_cases hb:b=T
  .subst hb;rw [aQ] at e;cases e;exact new
  .rw [aA hb] at e;refine (I.hok b u e).stay (fun c v hc q=>kp c v ?_ q) (fun c q=>by rw [aA (nT c _ q)];exact q) fun c xs q=>by rw [aA (nT c _ q)];exact q
   rcases hc with z|z
   .rw [z];exact nc b u e
   .exact nc c _ z
end
def Itz(k l:Bool)(K:PySem.W.Frag)(a c:Addr):It :=
  ⟨fun i H=>∃xs ys x y,Sq k K H a xs/\Sq l K H c ys/\xs[i]?=some x/\ys[i]?=some y,
   fun i H p H'=>∃T x y,H T=none/\p=.ref T/\(∀xs,Sq k K H a xs->xs[i]?=some x)/\(∀ys,Sq l K H c ys->ys[i]?=some y)/\H'=upd H T (.tup [x,y]),
   fun i H=>∃xs ys,Sq k K H a xs/\Sq l K H c ys/\(xs.length<=i\/ys.length<=i)⟩
theorem xn{P:Program}{w:World}{K:PySem.W.Frag}{es:List Expr}{ct:Nat}{tp:Pos}{k l:Bool}{a c z U V i j:Addr}(D:ZA z U V i j) :
  ym P w K (.Tuple es ct tp) (Itz k l K a c) [z,U,V,i,j] z (fun n h=>IsZip h z U V .none/\IsPair h U (.ref i) (.ref j)/\(∃u v,IsPair h V u v)/\de k h i a n/\de l h j c n) where
 mem:=by simp
 obj:=fun n h st b hb=>by
  obtain⟨hz,hU,⟨u,v,hV⟩,⟨o1,g1,c1,d1⟩,⟨o2,g2,c2,d2⟩⟩:=st;simp only [mem_cons,not_mem_nil,or_false] at hb
  rcases hb with rfl|rfl|rfl|rfl|rfl
  .exact⟨_,hz,fun v q=>by cases q⟩
  .exact⟨_,hU,fun v q=>by cases q⟩
  .exact⟨_,hV,fun v q=>by cases q⟩
  .exact⟨_,g1,fun v q=>by rw [d1] at q;cases q⟩
  .exact⟨_,g2,fun v q=>by rw [d2] at q;cases q⟩
 keep:=fun n h h' st kk=>by
  obtain⟨hz,hU,⟨u,v,hV⟩,w1,w2⟩:=st;exact⟨kk z (by simp) _ hz,kk U (by simp) _ hU,⟨u,v,kk V (by simp) _ hV⟩,w1.mv fun o e=>kk i (by simp) o e,w2.mv fun o e=>kk j (by simp) o e⟩
 item:=by
  intro X hP hw hK hc n pins s σ H E I hf st hg;subst hP hw hK;obtain⟨xs,ys,x,y,q1,q2,hx,hy⟩:=hg;obtain⟨hz,hU,⟨u,v,hV⟩,w1,w2⟩:=st;obtain⟨its,rv,p,_⟩:=I.row q1;obtain⟨jts,rv',p',_⟩:=I.row q2;obtain⟨ux,hux,rx⟩:=rv.get hx;obtain⟨uy,huy,ry⟩:=rv'.get hy;have hT:s.TypeIs (.ref z) "zip":=⟨_,hz,rfl⟩
  have nz:=I.row_ne q1 (hf z (by simp));have mz:=I.row_ne q2 (hf z (by simp));have mi:=I.row_ne q2 (hf i (by simp));have mV:=I.row_ne q2 (hf V (by simp));unfold pyNext
  refine wpAny_bind (wpAny_attempt (wpAny_callSpecial?_slot (name:=Str.ofString "__next__") hT F.slot_zip_next (wpAny_call_entry F.slot_zip_next hT F.entry_zip_next
   (zw (x:=ux) (y:=uy) D nz mz mi mV hz hU hV w1 w2 p p' (by simpa using hux) (by simpa using huy) fun h' a1 a2 a3 a4 a5 a6 a7=>wpAny_pure ?_) (F.args_zip_next_1 _))))
  refine⟨_,rfl,wpAny_letOwnedTupleGo_zip a1 fun g gz gs=>?_⟩;have lt:∀{b o},s.heap.get? b=some o->s.heap.objs.size≠b:=fun e=>ne_of_gt (Heap.lt_size e)
  have kp:∀b o,b∉[z,V,i,j]->s.heap.get? b=some o->g.get? b=some o:=fun b o hb e=>by
   simp only [mem_cons,not_mem_nil,or_false,not_or] at hb;exact gs.extBut _ _ hb.1 (a7 b o hb.1 hb.2.1 hb.2.2.1 hb.2.2.2 e)
  have I2:Inv X pins σ (upd H s.heap.objs.size (.tup [x,y])) { s with heap:=g,toks:=s.toks }:=I.yielded (ch:=[z,V,i,j]) (fun b hb=>hf b (by
   simp only [mem_cons,not_mem_nil,or_false] at hb ⊢;rcases hb with q|q|q|q <;> simp [q])) (Nat.le_refl _) kp ⟨by show 2<=sizeLine;decide,[ux,uy],.cons rx (.cons ry .nil),_,gs.extBut _ _ (lt hz) a5,rfl,_,rfl⟩
  refine⟨.ref s.heap.objs.size,_,I2,rfl,⟨_,x,y,I.hok.fresh (Nat.le_refl _),rfl,fun xs' q=>by rw [I.row_inj q q1];exact hx,fun ys' q=>by rw [I.row_inj q q2];exact hy,rfl⟩,
   ⟨gz,gs.extBut _ _ D.Uz (a7 _ _ D.Uz D.UV D.Ui D.Uj hU),⟨_,_,gs.extBut _ _ D.Vz a2⟩,a3.mv fun o e=>gs.extBut _ o D.iz e,a4.mv fun o e=>gs.extBut _ o D.jz e⟩,fun b hb=>?_⟩
  rw [aA ?_]
  .exact (hf b hb).1
  .intro q;subst q;simp only [mem_cons,not_mem_nil,or_false] at hb;obtain⟨o1,g1,_⟩:=w1;obtain⟨o2,g2,_⟩:=w2
   rcases hb with q|q|q|q|q
   .exact lt hz q
   .exact lt hU q
   .exact lt hV q
   .exact lt g1 q
   .exact lt g2 q
 done:=by
  intro X hP hw hK hc n pins s σ H E I hf st hg;subst hP hw hK;obtain⟨xs,ys,q1,q2,hend⟩:=hg;obtain⟨hz,hU,⟨u,v,hV⟩,w1,w2⟩:=st;obtain⟨its,rv,p,_⟩:=I.row q1;obtain⟨jts,rv',p',_⟩:=I.row q2;have e1:=rv.length;have e2:=rv'.length;have hT:s.TypeIs (.ref z) "zip":=⟨_,hz,rfl⟩
  unfold pyNext
  refine wpAny_bind (wpAny_attempt (wpAny_callSpecial?_slot (name:=Str.ofString "__next__") hT F.slot_zip_next (wpAny_call_entry F.slot_zip_next hT F.entry_zip_next
   (BI (I.ok.hd hc) D (I.row_ne q1 (hf z (by simp))) (I.row_ne q2 (hf z (by simp))) (I.row_ne q2 (hf i (by simp))) (I.row_ne q2 (hf V (by simp))) hz hU hV w1 w2 p p' ?_ fun h' e hk he=>?_) (F.args_zip_next_1 _))))
  .rcases hend with q|q
   .exact .inl (by simp;omega)
   .exact .inr (by simp;omega)
  .obtain⟨o,ho,hcl⟩:=he;refine wpAny_bind (wpAny_isInstance (T:="StopIteration") (b:=true) ⟨o,ho,hcl⟩ isSubtype_stop (wpAny_pure ⟨rfl,?_⟩))
   exact I.step (g':=s.gens) (d':=s.drawn) (t':=s.toks) (ch:=[z,V,i,j]) (fun b hb=>by
     have q:=hf b (by
      simp only [mem_cons,not_mem_nil,or_false] at hb ⊢;rcases hb with q|q|q|q <;> simp [q])
     exact⟨q.2.2.2.1,q.2.1,q.2.2.2.2.1,q.2.2.2.2.2⟩) (fun b o _ _ hc e _=>by
     simp only [mem_cons,not_mem_nil,or_false,not_or] at hc;exact hk b o hc.1 hc.2.1 hc.2.2.1 hc.2.2.2 e) (fun b o _ _ hc e _=>⟨o.slots,by
     simp only [mem_cons,not_mem_nil,or_false,not_or] at hc;exact hk b o hc.1 hc.2.1 hc.2.2.1 hc.2.2.2 e⟩) (fun _ _ _ _ q=>q) (fun b o hc e=>⟨o,by
     simp only [mem_cons,not_mem_nil,or_false,not_or] at hc;exact hk b o hc.1 hc.2.1 hc.2.2.1 hc.2.2.2 e⟩) (fun _ _ e=>e) (fun _ _ _ e=>e) (fun b ps e=>⟨#[],by rw [e];simp⟩) (fun m hm=>by
     obtain⟨o,es,ep,ho,r⟩:=hm;exact⟨o,es,ep,hk _ o (hf z (by simp)).2.1.symm (hf V (by simp)).2.1.symm (hf i (by simp)).2.1.symm (hf j (by simp)).2.1.symm ho,r⟩) (fun b u e=>by
     have nn:∀b u,H b=some u->b≠z/\b≠V/\b≠i/\b≠j:=fun b u e=>⟨fun q=>(by rw [q,(hf z (by simp)).1] at e;cases e),fun q=>(by rw [q,(hf V (by simp)).1] at e;cases e),fun q=>(by rw [q,(hf i (by simp)).1] at e;cases e),fun q=>(by rw [q,(hf j (by simp)).1] at e;cases e)⟩
     refine (I.hok b u e).stay (fun c v hc q=>?_) (fun _ q=>q) fun _ _ q=>q
     have n4:c≠z/\c≠V/\c≠i/\c≠j:=by
      rcases hc with q|q
      .rw [q];exact nn b u e
      .exact nn c _ q
     exact hk c v n4.1 n4.2.1 n4.2.2.1 n4.2.2.2 q) I.bare
 self:=fun _ _ _ _ _ st h=>wpAny_pyIter_zip st.1 h
theorem BJ(n:Nat):ZA (n+4) (n+2) (n+3) n (n+1):=by
 refine⟨?_,?_,?_,?_,?_,?_,?_,?_,?_,?_⟩ <;> (intro h;have h2:@Eq Nat _ _:=h;omega)
section
variable {P:Program}{w:World}{A:Around}{E:Value->Shared->Prop}{s:Shared}{k l:Bool}
abbrev k8(k:Bool)(a:Addr):Obj:={ cls:=.type (cond k "tuple_iterator" "list_iterator"),data:=.fields #[.ref a,.int 0 0] }
theorem gf{a:Addr}{its:Array Value}{Q:Value->Shared->Prop}(R:fR k s.heap a its)(hQ:Q (.ref s.heap.objs.size) { s with heap:=s.heap.push (k8 k a) }):wpAny (model P w) A (pyIter (.ref a)) Q E s:=by
 cases k with
 | false=>exact wpAny_pyIter_list R hQ
 | true=>exact wpAny_pyIter_tuple R hQ
abbrev zg1(h:Heap)(k:Bool)(a:Addr):Heap:=h.push (k8 k a)
abbrev zg2(h:Heap)(k l:Bool)(a c:Addr):Heap:=(zg1 h k a).push (k8 l c)
abbrev zg3(h:Heap)(k l:Bool)(a c:Addr):Heap:=(zg2 h k l a c).push { cls:=.type "tuple",data:=.seq #[.ref h.objs.size,.ref (zg1 h k a).objs.size] }
abbrev zg4(h:Heap)(k l:Bool)(a c:Addr):Heap:=(zg3 h k l a c).push { cls:=.type "tuple",data:=.seq #[.none,.none] }
abbrev zg5(h:Heap)(k l:Bool)(a c:Addr):Heap:=(zg4 h k l a c).push { cls:=.type "zip",data:=.fields #[.none,.bool false,.bool false,.ref (zg2 h k l a c).objs.size,.ref (zg3 h k l a c).objs.size] }
theorem zx(k l:Bool)(a c:Addr)(xs ys:Array Value):Meets (Builtin.«zip.__new__» ⟨[.type "zip",.ref a,.ref c],[]⟩) (fun _ R s=>fR k s.heap a xs/\fR l s.heap c ys /\
   R (.ok (.ret (.ref (zg4 s.heap k l a c).objs.size))) { s with heap:=zg5 s.heap k l a c }) :=
 .of_wp fun prog w A R s h=>by
  obtain⟨hp,g,d,tk,os⟩:=s;obtain⟨r1,r2,h⟩:=h;have hsub:=sub_zip;have R1:fR k (Shared.heap ⟨hp,g,d,tk,os⟩) a xs:=r1;have R2:fR l (Shared.heap ⟨hp.push (k8 k a),g,d,tk,os⟩) c ys:=r2.mv fun o e=>Heap.get?_push_of_some _ e
  wp_walk using gf R1,gf R2
  exact⟨_,rfl,h⟩
theorem zy{a c:Addr}{xs ys:Array Value}{Q:Value->Shared->Prop}(r1:fR k s.heap a xs)(r2:fR l s.heap c ys)
  (h:∀h',IsZip h' (s.heap.objs.size+4) (s.heap.objs.size+2) (s.heap.objs.size+3) .none->IsPair h' (s.heap.objs.size+2) (.ref s.heap.objs.size) (.ref (s.heap.objs.size+1)) ->
   IsPair h' (s.heap.objs.size+3) .none .none->de k h' s.heap.objs.size a 0->de l h' (s.heap.objs.size+1) c 0->(∀b o,s.heap.get? b=some o->h'.get? b=some o)->Q (.ref (s.heap.objs.size+4)) { s with heap:=h' }) :
  wpAny (model P w) A (call (.type "zip") [.ref a,.ref c]) Q E s:=by
 refine callType_new F.called_zip (by decide) (F.typeCall_zip_2 _ _) (F.newCall_zip_2 _ _) (fun obj=>F.args_object_init_3 obj _ _) F.entry_zip_new (zx k l a c xs ys) ⟨r1,r2,?_⟩;have z1:(zg1 s.heap k a).objs.size=s.heap.objs.size+1:=Heap.size_push ..;have z2:(zg2 s.heap k l a c).objs.size=s.heap.objs.size+2:=by rw [Heap.size_push,z1]
 have z3:(zg3 s.heap k l a c).objs.size=s.heap.objs.size+3:=by rw [Heap.size_push,z2]
 have z4:(zg4 s.heap k l a c).objs.size=s.heap.objs.size+4:=by rw [Heap.size_push,z3]
 have m4:∀b o,(zg4 s.heap k l a c).get? b=some o->(zg5 s.heap k l a c).get? b=some o:=fun b o e=>Heap.get?_push_of_some _ e;have m3:∀b o,(zg3 s.heap k l a c).get? b=some o->(zg5 s.heap k l a c).get? b=some o:=fun b o e=>m4 b o (Heap.get?_push_of_some _ e);have m2:∀b o,(zg2 s.heap k l a c).get? b=some o->(zg5 s.heap k l a c).get? b=some o:=fun b o e=>m3 b o (Heap.get?_push_of_some _ e);have m1:∀b o,(zg1 s.heap k a).get? b=some o->(zg5 s.heap k l a c).get? b=some o:=fun b o e=>m2 b o (Heap.get?_push_of_some _ e)
 have g5:(zg5 s.heap k l a c).get? (zg4 s.heap k l a c).objs.size=some _:=Heap.get?_push_size _ rfl;have g4:=m4 _ _ (Heap.get?_push_size (zg3 s.heap k l a c) (o:={ cls:=.type "tuple",data:=.seq #[.none,.none] }) rfl);have g3:=m3 _ _ (Heap.get?_push_size (zg2 s.heap k l a c) (o:={ cls:=.type "tuple",data:=.seq #[.ref s.heap.objs.size,.ref (zg1 s.heap k a).objs.size] }) rfl);have g2:=m2 _ _ (Heap.get?_push_size (zg1 s.heap k a) (o:=k8 l c) rfl)
 have g1:=m1 _ _ (Heap.get?_push_size s.heap (o:=k8 k a) rfl);show _/\_;rw [z2,z3,z4] at g5;rw [z1,z2] at g3;rw [z3] at g4;rw [z1] at g2;rw [z4];exact⟨⟨_,g5,rfl⟩,h _ g5 g3 g4 ⟨_,g1,rfl,rfl⟩ ⟨_,g2,rfl,rfl⟩ fun b o e=>m1 b o (Heap.get?_push_of_some _ e)⟩
end
section
variable {X:Cx}{tg:Expr}
def Itk(k:Bool)(K:PySem.W.Frag)(a:Addr):It:=cond k (Itt K a) (Itl K a)
def BK(K:PySem.W.Frag):R2:=fun x y H Q=>∃l b xs zs,x=.ref l/\y=.ref b/\SqL K H l xs/\SqL K H b zs/\xs.length+zs.length<=sizeLine/\∀p,H p=none->Q (.ref p) (upd H p (.lst (xs++zs)))
theorem zA:OpR X (binaryOp .Add) (BK X.K):=by
 intro pins s σ H x y v u Q I rx ry h;obtain⟨l,b,xs,zs,rfl,rfl,hH,hB,hz,q⟩:=h;cases rx;cases ry;obtain⟨its,r,pl,hl⟩:=I.list hH;obtain⟨its2,r2,pl2,hl2⟩:=I.list hB;obtain⟨⟨cls,dd,data,sl⟩,ho,hc,n,hd⟩:=pl.isList;obtain⟨⟨cls2,dd2,data2,sl2⟩,ho2,hc2,n2,hd2⟩:=pl2.isList;simp only at hc hd hc2 hd2;subst hc hd hc2 hd2;have n1:=r.length;have n2':=r2.length;have ea:its.toArray++its2.toArray=(its++its2).toArray:=by simp
 have fin:EP X pins σ Q (.ref s.heap.objs.size) { s with heap:=s.heap.push { cls:=.type "list",data:=.seq (its.toArray++its2.toArray) } }:=by
  rw [ea];exact⟨.ref _,_,I.lnew (t':=s.toks) (r.append r2) (by rw [length_append];omega),rfl,q _ I.fresh⟩
 exact concat_meets ⟨_,ho,rfl⟩ ⟨_,ho2,rfl⟩ noFill_list_add seq_list_add PySem.F.slot_list_add PySem.F.entry_list_add (PySem.F.args_list_add_2 _ _) (list_addW l b its.toArray its2.toArray n n2 dd dd2 sl sl2 (by simp;omega)) ⟨ho,ho2,fin⟩
end
def nR(n:Nat)(d:PyData):Prop:=d.canLay0=true/\d.depth<=n
theorem nR.shaped{n:Nat}{d:PyData}(h:nR n d)(hn:n<=64):SeqAt.shaped d=true:=by
 unfold SeqAt.shaped;rw [h.1,decide_eq_true (le_trans h.2 hn)];rfl
theorem rz{n:Nat}:∀{ds:List PyData},(∀d∈ds,nR n d)->PyData.canLayAll0 ds=true/\PyData.depthAll ds<=n
 | [],_=>⟨rfl,zero_le _⟩
 | d::ds,h=>by
  obtain⟨a,b⟩:=rz (ds:=ds) fun x hx=>h x (mem_cons_of_mem _ hx);obtain⟨c,e⟩:=h d mem_cons_self;simp only [PyData.canLayAll0,PyData.depthAll,a,c];exact⟨rfl,max_le.mpr ⟨e,b⟩⟩
theorem nR.list{n:Nat}{ds:List PyData}(h:∀d∈ds,nR n d):nR (n+1) (.list ds):=by
 obtain⟨a,b⟩:=rz h;exact⟨by simp only [PyData.canLay0];exact a,by simp only [PyData.depth];omega⟩
theorem nR.tuple{n:Nat}{ds:List PyData}(h:∀d∈ds,nR n d):nR (n+1) (.tuple ds):=by
 obtain⟨a,b⟩:=rz h;exact⟨by simp only [PyData.canLay0];exact a,by simp only [PyData.depth];omega⟩
theorem nR.int(i:Int):nR 0 (.int i):=⟨by simp [PyData.canLay0],by simp [PyData.depth]⟩
def Lts(l:List Nat):Prop:=∀c∈l,97<=c/\c<=122
theorem vy(ns:List Int):∀d∈ns.map PyData.int,nR 0 d:=fun d hd=>by
 obtain⟨i,_,rfl⟩:=mem_map.mp hd;exact nR.int i
theorem xo{d:PyData}(h:SeqAt.shaped d=true):PyData.eqv d d=true:=SeqAt.eqv_refl d (SeqAt.canLay_of_shaped h)
section
variable {κ:Type} [DecidableEq κ]
theorem KV.length{kvs:List (κ×V)}{vs:List (κ×Value)}(r:KV kvs vs):kvs.length=vs.length:=Paired.length r
end
section
variable {P:Program}{w:World}{H:Hp}{h:Heap}{a:Addr}
theorem Dh{u:HO}(ok:HOk P w H h)(e:Rd H a u):ck P w H h a u:=e.ok ok
theorem Di{kvs:List (Key×V)}(ok:HOk P w H h)(e:Rd H a (.dK kvs)):kvs.length<=sizeLine/\(a == sysModules)=false/\∃vs,KV kvs vs/\h.DictOf (rk P w) a vs :=
 show ck P w H h a (.dK kvs) from Dh ok e
end
section
variable {X:Cx}{pins:List (Addr×Obj)}{σ:St}{H:Hp}{s:Shared}{a:Addr}{kvs:List (Key×V)}{k:Key}{u:Value}{A:Around}{E:Value->Shared->Prop}
theorem Dj{Q:Value->Shared->Prop}(I:Inv X pins σ H s)(e:Rd H a (.dK kvs))(h:∀t s',Inv X pins σ H s'->Q (.int kvs.length t) s'):wpAny (model X.prog X.w) A (call (.builtin "len") [.ref a]) Q E s:=by
 obtain⟨z,hd,vs,rel,dd⟩:=Di I.hok e;refine call_len_dict hd dd (by rw [<- rel.length];rw [sizeLine_eq] at z;omega) ?_;rw [<- rel.length];exact h _ _ (I.tok _)
end
section
variable {X:Cx}
theorem oH{x:Str}{i:Int}{pos:Pos}(hg:Gl X x)(h:∃t,X.mg x=some (.int i t))(hd:(x == ("__debug__":Str))=false:=by decide):PE X (.Name x pos) (tC (.int i)):=by
 obtain⟨t,e⟩:=h;exact zb (u:=.int i t) hg e ⟨t,rfl⟩ hd
end
structure CJ (P:Program) (w:World) (K:PySem.W.Frag) (mg:Str->Option Value) (base:Heap) (k:Nat) (x:Str) (ps:List Str) (dvs:List V) (sp:Sp):Prop where
 ex:∃(f:Addr) (fd:FuncData),pQ P w K mg base CX0 k f fd ps sp/\(∀n,n<=dvs.length->∃ds,cB (dvs.drop n) ds/\ng K fd ps ds)/\PySem.W.keepIn K (.ref f)=true/\mg x=some (.ref f)
structure sM (K:PySem.W.Frag) (mg:Str->Option Value) (x:Str) (st:Stmt) (dvs:List V):Prop where
 ex:∃(f dT:Addr) (oc:Value) (od an dd:Option Addr) (kV doc pm cdv ct:Value) (osl sl:Array (Option Value)) (items:List Value) (n:Nat),
  K.lookup f=some ⟨oc,od,.func (PySem.W.fnOf x x (cM st) (bV st) (ao st) (.ref dT) kV doc pm an cdv ct),osl⟩/\PySem.W.codeIn K cdv x=true/\PySem.W.keepIn K (.ref f)=true/\mg x=some (.ref f) /\
  K.lookup dT=some ⟨.type "tuple",dd,.seq items.toArray n,sl⟩/\cB dvs items
section
variable {P:Program}{w:World}{K:PySem.W.Frag}{mg:Str->Option Value}{base:Heap}{x:Str}{st:Stmt}{N ps:List Str}{k:Nat}{sp:Sp}{dvs:List V}
theorem sM.ok(D:sM K mg x st dvs)(S:aI N ps (ao st))
  (hb:∀(dT:Addr) (kV doc pm:Value) (an:Option Addr) (cdv ct:Value) (items:List Value) (us:List Value) (n:Nat),items.length=dvs.length->n<=dvs.length->(us++items.drop n).length=ps.length ->
   ∃k,bindArgs (PySem.W.fnOf x x (cM st) (bV st) (ao st) (.ref dT) kV doc pm an cdv ct) ⟨us,[]⟩=seqItems? (.ref dT) >>= k/\k (some items.toArray)=pure (ps.zip (us++items.drop n)))
  (len:∀vs H Q E,sp vs H Q E->vs.length=ps.length)
  (hbody:∀(f:Addr) (cdv:Value) (A:Around) (outer:List Env) (s:Shared) (H:Hp) (vs:List V) (Q:VK) (E:XK),iA k (A.deeper (envOfC x (ao st) s.heap.objs.size f cdv))->sp vs H Q E ->
   ∃t,PSs (nh CX0 P w K mg base N x (ao st) f cdv A outer s H E).nox (bV st) t/\t { nx:=fun _ H'=>Q .non H',rt:=Q } (start N vs) H):CJ P w K mg base (k+1) x ps dvs sp:=by
 obtain⟨f,dT,oc,od,an,dd,kV,doc,pm,cdv,ct,osl,sl,items,n,lk,hcd,kp,hm,lt,rv⟩:=D.ex;have hl:=rv.length
 refine⟨f,_,zi lk hcd S len fun A outer s H vs Q E hr hsp=>?_,fun j hj=>⟨items.drop j,rv.drop j,fun s us X hlen=>?_⟩,kp,hm⟩
 .obtain⟨t,h,q⟩:=hbody f cdv A outer s H vs Q E hr hsp;exact⟨t,h.nox,q⟩
 .obtain⟨k,h1,h2⟩:=hb dT kV doc pm an cdv ct items us j hl.symm hj hlen;exact BindsTo.of_defaults rfl (X dT _ lt) rfl h1 h2
end
section
variable {X:Cx}{k:Nat}{x:Str}{ps:List Str}{sp:Sp}{p pos:Pos}{e:Expr}{es:List Expr}{t:TA}{dvs:List V}
theorem BL{pins:List (Addr×Obj)}{σ:St}{H:Hp}{s:Shared}{x:V}{u t:Value}(I:Inv X pins σ H s)(rx:eo x u)(ty:pM X.K H x t) :
  ∃Hq:Heap->Prop,PySem.W.KitX X.K u t Hq/\Hq s.heap/\u≠.builtin "__main__.__loader__#opaque":=by
 cases ty with
 | non=>cases (show u=Value.none from rx);exact⟨_,PySem.W.kitx_none,True.intro,fun z=>nomatch z⟩
 | bl y=>cases (show u=Value.bool y from rx);exact⟨_,PySem.W.kitx_bool,True.intro,fun z=>nomatch z⟩
 | int i=>obtain⟨t,q⟩:=(show ∃t,u=Value.int i t from rx);cases q;exact⟨_,PySem.W.kitx_int,True.intro,fun z=>nomatch z⟩
 | str y=>obtain⟨t,q⟩:=(show ∃t,u=Value.str y t from rx);cases q;exact⟨_,PySem.W.kitx_str,True.intro,fun z=>nomatch z⟩
 | flt y=>obtain⟨t,q⟩:=(show ∃t,u=Value.float y t from rx);cases q;exact⟨_,PySem.W.kitx_float,True.intro,fun z=>nomatch z⟩
 | @lst a xs ea =>
  cases (show u=Value.ref a from rx);obtain⟨_,_,n,_,h1⟩:=(show ck X.prog X.w H s.heap a (.lst xs) from I.hok a _ ea)
  exact⟨_,PySem.W.kitx_list,⟨_,h1,rfl⟩,fun z=>nomatch z⟩
 | @frz a ob xs ea =>
  cases (show u=Value.ref a from rx);obtain⟨_,_,_,n,_,h1⟩:=(show ck X.prog X.w H s.heap a (.frz ob (.lst xs)) from I.hok a _ ea)
  exact⟨_,PySem.W.kitx_list,⟨_,h1,rfl⟩,fun z=>nomatch z⟩
 | @tup a xs ea =>
  cases (show u=Value.ref a from rx);obtain⟨_,_,_,p⟩:=(show ck X.prog X.w H s.heap a (.tup xs) from I.hok a _ ea)
  obtain⟨o,h1,h2,_⟩:=p;exact⟨_,PySem.W.kitx_tuple,⟨o,h1,h2⟩,fun z=>nomatch z⟩
 | @dK a kvs ea =>
  cases (show u=Value.ref a from rx);obtain⟨_,_,vs,_,p⟩:=(show ck X.prog X.w H s.heap a (.dK kvs) from I.hok a _ ea)
  obtain⟨o,es,ep,h1,h2,_⟩:=p;exact⟨_,PySem.W.kitx_dict,⟨o,h1,h2.1⟩,fun z=>nomatch z⟩
 | @dT a kvs ea =>
  cases (show u=Value.ref a from rx);obtain⟨_,_,xs,_,o,es,ep,h1,h2,_⟩:=(show ck X.prog X.w H s.heap a (.dT kvs) from I.hok a _ ea)
  exact⟨_,PySem.W.kitx_dict,⟨o,h1,h2.1⟩,fun z=>nomatch z⟩
 | @ins a C dx fs ea cl ha hn htk hm =>
  cases (show u=Value.ref a from rx);obtain⟨mA,O,_⟩:=uX I.hok ea;obtain⟨od,J,_⟩:=O.look;exact⟨_,PySem.W.kitx_own (cl.get _) cl.hd ha hn htk hm,J,fun z=>nomatch z⟩
theorem sN:∀{ts:List String}{us:List Value},cB (ts.map V.ty) us->us=ts.map Value.type
 | [],_,.nil=>rfl
 | t::ts,_,.cons r rr=>by rw [sN rr,show _=Value.type t from r];rfl
theorem qg:cK X (.builtin "isinstance") (fun xs H Q=>∃(x:V) (p:Addr) (ts:List String) (t:Value) (b:Bool),xs=[x,.ref p]/\pM X.K H x t/\H p=some (.tup (ts.map V.ty))/\PySem.W.kitAny X.K t (ts.map Value.type)=some b/\Q (.bl b) H):=by
 intro pins s σ H xs us Q I r h;obtain⟨x,p,ts,t,b,rfl,ty,hp,e,q⟩:=h;obtain⟨u,w',rfl,rx,ry⟩:=tS r;cases (show w'=Value.ref p from ry);obtain⟨Hq,Z,hq,hx⟩:=BL I rx ty;obtain⟨its,rv,⟨⟨cls,dd,data,sl⟩,ho,hc,n,hd⟩,_⟩:=I.tuple (SqT.of hp);simp only at hc hd;subst hc hd;exact PySem.W.kia_tup Z I.kIn hq ho (by rw [sN rv];exact e) hx fun tk=>⟨.bl b,H,I.tok _,rfl,q⟩
theorem BM:OpR X (compareOp .Is) (fun x y H Q=>∃b c,x=.bl b/\y=.bl c/\Q (.bl (decide (b=c))) H):=by
 intro pins s σ H x y v u Q I rx ry h;obtain⟨b,c,rfl,rfl,q⟩:=h;cases (show v=Value.bool b from rx);cases (show u=Value.bool c from ry);cases b <;> cases c <;> exact wpAny_pure (bZ I q (by first|rfl|decide))
theorem oI(bs:List Bool):(List.range bs.length).all (fun i=>bs.getD i false)=bs.all id:=by
 induction bs with
 | nil=>rfl
 | cons b bs ih=>rw [length_cons,range_succ_eq_map,all_cons,all_map,all_cons,<- ih];rfl
theorem zB{bs:List Bool}{its:List Value}(r:cB (bs.map V.bl) its){i:Nat}{v:Value}(h:its.toArray[i]?=some v):v=.bool (bs.getD i false):=by
 have h':its[i]?=some v:=by simpa using h
 have hl:=r.length;rw [length_map] at hl;have hi:i<bs.length:=by have:=(List.getElem?_eq_some_iff.mp h').1;omega
 obtain⟨u,e1,e2⟩:=r.get (i:=i) (x:=V.bl bs[i]) (by rw [getElem?_map,getElem?_eq_getElem hi];rfl);rw [h'] at e1;cases e1;rw [show v=Value.bool bs[i] from e2,getD_eq_getElem?_getD,getElem?_eq_getElem hi];rfl
theorem xp(hc:X.calm=true):cK X (.builtin "all") (fun xs H Q=>∃(p:Addr) (bs:List Bool),xs=[.ref p]/\SqL X.K H p (bs.map V.bl)/\Q (.bl (bs.all id)) H):=by
 intro pins s σ H xs us Q I r h;obtain⟨p,bs,rfl,hS,q⟩:=h;obtain⟨u,rfl,ru⟩:=m9 r;cases (show u=Value.ref p from ru);obtain⟨its,rv,pl,hz⟩:=I.list hS;have hl:=rv.length;rw [length_map] at hl;have hps:p<s.heap.objs.size:=let ⟨o,ho,_⟩:=pl.isList;Heap.lt_size ho
 obtain⟨f0,f1,f2,f3,f4,f5⟩:=I.fpOk (H':=H) (Nat.le_refl s.heap.objs.size) (I.hok.fresh (Nat.le_refl _))
 refine call_all_walk (wpAny_pyIter_list pl.isList ⟨s.heap.objs.size,_,_,its.toArray.size,_,_,fun i=>bs.getD i false,rfl,Walks.list (by exact I.ok.hd hc) s.heap.objs.size p (ne_of_lt hps) its.toArray,⟨⟨_,Heap.get?_push_size _ rfl,rfl,rfl⟩,pl.isList.push _⟩,fun i v s Q E hP hQ=>?_,fun h' tk hk=>?_⟩)
 .rw [zB rv hP];exact wpAny_truthy_bool hQ
 .have I1:Inv X pins σ H { s with heap:=s.heap.push { cls:=.type "list_iterator",data:=.fields #[.ref p,.int 0 0] } }:=I.kept (t':=s.toks) fun b o e=>Heap.get?_push_of_some _ e;have I2:=I1.turned (h':=h') (t':=tk) (it:=s.heap.objs.size) (fun b o hb e=>hk b o (by simpa using hb) e) f0 f1 f3 f4 f5;refine⟨.bl (bs.all id),H,I2,?_,q⟩;show Value.bool _=Value.bool _;rw [size_toArray,<- hl,oI]
end
section
variable {X:Cx}{o e f:Expr}{apos cpos:Pos}{td ty tx:TE}
theorem vz:cK X (.builtin "len") (fun xs H Q=>∃p kvs,xs=[.ref p]/\Rd H p (.dK kvs)/\Q (.int kvs.length) H):=by
 intro pins s σ H xs us Q I r h;obtain⟨p,kvs,rfl,hd,q⟩:=h;obtain⟨u,rfl,ru⟩:=m9 r;cases (show u=Value.ref p from ru);exact Dj I hd fun t s' I'=>⟨.int kvs.length,H,I',⟨t,rfl⟩,q⟩
end
def aT(K:PySem.W.Frag)(x:Str):Addr:=match PySem.W.nsIn K mainGlobals x with
 | some (some (.ref C))=>C
 | _=>0
theorem cD{K:PySem.W.Frag}{x:Str}{C:Addr}(h:PySem.W.nsIn K mainGlobals x=some (some (.ref C))):aT K x=C:=by unfold aT;rw [h]
theorem vA{prog:Program}{w:World}{A:Around}(k:Bool)(hh:A.handled=none)(it a:Addr)(hne:a≠it)(its:Array Value) :
  Draws prog w A it [it,a] its.size (fun i v=>its[i]?=some v) (fun i h=>de k h it a i/\fR k h a its) where
 live:=fun _ _ st=>let ⟨o,ho,_⟩:=st.1;⟨o,ho⟩
 frame:=fun _ _ _ st hk=>⟨st.1.mv fun o e=>hk it (by simp) o e,st.2.mv fun o e=>hk a (by simp) o e⟩
 item:=fun i s Q E hi st hQ=>by
  refine fz st.1 st.2 (x:=its[i]) (by simp [hi]) fun h' hit' hs'=>?_;exact hQ _ h' s.toks (by simp [hi]) ⟨hit',st.2.mv fun o e=>hs'.extBut _ o hne e⟩ hs'
 done:=fun s Q E st hE=>gI hh st.1 st.2 (by simp) hE
def Ite(k:Bool)(K:PySem.W.Frag)(a:Addr):It :=
  ⟨fun i H=>∃xs x,Sq k K H a xs/\xs[i]?=some x,
   fun i H p H'=>∃T x,H T=none/\p=.ref T/\(∀xs,Sq k K H a xs->xs[i]?=some x)/\H'=upd H T (.tup [.int (i:Int),x]),
   fun i H=>∃xs,Sq k K H a xs/\xs.length<=i⟩
theorem vB{P:Program}{w:World}{K:PySem.W.Frag}{es:List Expr}{ct:Nat}{tp:Pos}{k:Bool}{a e it:Addr}(hei:e≠it) :
  ym P w K (.Tuple es ct tp) (Ite k K a) [e,it] e (fun n h=>(∃old,IsEnum h e it ((n:Nat):Int) old)/\de k h it a n) where
 mem:=by simp
 obj:=fun n h st b hb=>by
  obtain⟨⟨old,he⟩,o1,g1,c1,d1⟩:=st;simp only [mem_cons,not_mem_nil,or_false] at hb
  rcases hb with rfl|rfl
  .exact⟨_,he,fun v q=>by cases q⟩
  .exact⟨_,g1,fun v q=>by rw [d1] at q;cases q⟩
 keep:=fun n h h' st kk=>by
  obtain⟨⟨old,he⟩,w1⟩:=st;exact⟨⟨old,kk e (by simp) _ he⟩,w1.mv fun o q=>kk it (by simp) o q⟩
 item:=by
  intro X hP hw hK hc n pins s σ H E I hf st hg;subst hP hw hK;obtain⟨xs,x,q1,hx⟩:=hg;obtain⟨⟨old,he⟩,w1⟩:=st;obtain⟨its,rv,p,_⟩:=I.row q1;obtain⟨ux,hux,rx⟩:=rv.get hx;have ne:=I.row_ne q1 (hf e (by simp));have ni:=I.row_ne q1 (hf it (by simp))
  have hlt:n<its.toArray.size:=by
   have:=(List.getElem?_eq_some_iff.mp hux).1;simpa using this
  have hhd:X.A.in1.handled=none:=by exact I.ok.hd hc
  refine wpAny_pyNext_enum_itemD (vA k hhd it a ni its.toArray) he ⟨w1,p⟩ hlt hei (by simp [hei,Ne.symm ne]) fun y h' tk hP ho hst ht hsz hk=>?_
  have hy:y=ux:=by
   have h1:its[n]?=some y:=by simpa using hP
   rw [hux] at h1;exact (Option.some.inj h1).symm
  subst hy;refine⟨_,rfl,wpAny_letOwnedTupleGo_enum ho fun g ge gs=>?_⟩;have lt:∀{b o},s.heap.get? b=some o->s.heap.objs.size≠b:=fun q=>ne_of_gt (Heap.lt_size q)
  have kp:∀b o,b∉[e,it]->s.heap.get? b=some o->g.get? b=some o:=fun b o hb q=>by
   simp only [mem_cons,not_mem_nil,or_false,not_or] at hb;exact gs.extBut _ _ hb.1 (hk b o hb.1 hb.2 q)
  have I2:Inv X pins σ (upd H s.heap.objs.size (.tup [.int (n:Int),x])) { s with heap:=g,toks:=tk+1 }:=I.yielded (ch:=[e,it]) (fun b hb=>hf b hb) (Nat.le_refl _) kp
   ⟨by show 2<=sizeLine;decide,[.int (n:Int) tk,y],.cons ⟨tk,rfl⟩ (.cons rx .nil),_,gs.extBut _ _ (lt he) ht,rfl,_,rfl⟩
  refine⟨.ref s.heap.objs.size,_,I2,rfl,⟨_,x,I.hok.fresh (Nat.le_refl _),rfl,fun xs' q=>by rw [I.row_inj q q1];exact hx,rfl⟩,⟨⟨y,by simpa using ge⟩,hst.1.mv fun o q=>gs.extBut _ o (Ne.symm hei) q⟩,fun b hb=>?_⟩
  rw [aA ?_]
  .exact (hf b hb).1
  .intro q;subst q;simp only [mem_cons,not_mem_nil,or_false] at hb;obtain⟨o1,g1,_⟩:=w1
   rcases hb with q|q
   .exact lt he q
   .exact lt g1 q
 done:=by
  intro X hP hw hK hc n pins s σ H E I hf st hg;subst hP hw hK;obtain⟨xs,q1,hend⟩:=hg;obtain⟨⟨old,he⟩,w1⟩:=st;obtain⟨its,rv,p,_⟩:=I.row q1;have e1:=rv.length;have ni:=I.row_ne q1 (hf it (by simp));have hhd:X.A.in1.handled=none:=by exact I.ok.hd hc
  obtain⟨f0,f1,f2,f3,f4,f5⟩:=hf it (by simp)
  -- the walk's end is wherever the row has no item
  have hT:s.TypeIs (.ref e) "enumerate":=⟨_,he,rfl⟩
  unfold pyNext
  refine wpAny_bind (wpAny_attempt (wpAny_callSpecial?_slot (name:=Str.ofString "__next__") hT F.slot_enumerate_next
   (wpAny_call_entry F.slot_enumerate_next hT F.entry_enumerate_next ?_ (F.args_enumerate_next_1 _))))
  show wpAny _ _ (field (.ref e) 2 >>= _) _ _ _;refine wpAny_bind (wpAny_field he rfl (x:=.ref it) rfl ?_);refine wpAny_bind (gI hhd w1 p (by simp;omega) fun h' x he' hx'=>?_);obtain⟨o,ho,hcl⟩:=hx';refine wpAny_bind (wpAny_isInstance (T:="StopIteration") (b:=true) ⟨o,ho,hcl⟩ isSubtype_stop ?_);exact wpAny_pure ⟨rfl,I.turned (t':=s.toks) (fun b o hb q=>he' b o hb q) f0 f1 f3 f4 f5⟩
 self:=fun _ _ _ _ _ st h=>let ⟨⟨_,he⟩,_⟩:=st;wpAny_pyIter_enum he h
section
variable {P:Program}{w:World}{A:Around}{E:Value->Shared->Prop}{s:Shared}{k:Bool}
theorem xq(k:Bool)(a:Addr)(xs:Array Value):Meets (Builtin.«enumerate.__new__» ⟨[.type "enumerate",.ref a],[]⟩) (fun _ R s=>fR k s.heap a xs /\
   R (.ok (.ret (.ref (s.heap.push (k8 k a)).objs.size))) { s with heap:=(s.heap.push (k8 k a)).push { cls:=.type "enumerate",data:=.fields #[.none,.bool false,.ref s.heap.objs.size,rawInt 0,.none,.none] } }) :=
 .of_wp fun prog w A R s h=>by
  obtain⟨hp,g,d,tk,os⟩:=s;obtain⟨r1,h⟩:=h;have hsub:=sub_enumerate;have R1:fR k (Shared.heap ⟨hp,g,d,tk,os⟩) a xs:=r1;obtain⟨⟨cls,dd,data,sl⟩,ho,hc,n,hd⟩:=id r1;simp only at hc hd;subst hc hd
  wp_walk using AutoSeq1.wpAny_loadPart' ho
  refine wpAny_stack_any fun st=>wpAny_pure ?_
  split
  .rename_i c _ _ _ _ _
   cases (c == Value.type "enumerate")
   .wp_walk using AutoSeq1.wpAny_loadPart' ho,gf R1
    exact⟨_,rfl,h⟩
   .wp_walk using AutoSeq1.wpAny_loadPart' ho,gf R1
    exact⟨_,rfl,h⟩
  .wp_walk using AutoSeq1.wpAny_loadPart' ho,gf R1
   exact⟨_,rfl,h⟩
theorem xr{a:Addr}{xs:Array Value}{Q:Value->Shared->Prop}(r1:fR k s.heap a xs)
  (h:∀h',IsEnum h' (s.heap.objs.size+1) s.heap.objs.size 0 .none->de k h' s.heap.objs.size a 0->(∀b o,s.heap.get? b=some o->h'.get? b=some o)->Q (.ref (s.heap.objs.size+1)) { s with heap:=h' }) :
  wpAny (model P w) A (call (.type "enumerate") [.ref a]) Q E s:=by
 refine callType_new F.called_enumerate (by decide) (F.typeCall_enumerate_1 _) (F.newCall_enumerate_1 _) (fun obj=>F.args_object_init_2 obj _) F.entry_enumerate_new (xq k a xs) ⟨r1,?_⟩;have z1:(s.heap.push (k8 k a)).objs.size=s.heap.objs.size+1:=Heap.size_push ..;have g2:((s.heap.push (k8 k a)).push { cls:=.type "enumerate",data:=.fields #[.none,.bool false,.ref s.heap.objs.size,rawInt 0,.none,.none] }).get? (s.heap.push (k8 k a)).objs.size=some _:=Heap.get?_push_size _ rfl
 have g1:=Heap.get?_push_of_some { cls:=.type "enumerate",data:=.fields #[.none,.bool false,.ref s.heap.objs.size,rawInt 0,.none,.none] } (Heap.get?_push_size s.heap (o:=k8 k a) rfl);show _/\_;rw [z1] at g2 ⊢;exact⟨⟨_,g2,rfl⟩,h _ g2 ⟨_,g1,rfl,rfl⟩ fun b o q=>Heap.get?_push_of_some _ (Heap.get?_push_of_some _ q)⟩
end
section
variable {X:Cx}{es:List Expr}{ct:Nat}{tp:Pos}
def zC(K:PySem.W.Frag)(ta:TA):TI:=fun σ H R=>ta σ H fun vs H1=>∃k a,vs=[.ref a]/\(∃xs,Sq k K H1 a xs)/\R (Ite k K a) H1
theorem zD{a:Expr}{ta:TA}{p pos:Pos}(hg:Gl X "enumerate")(hm:X.mg "enumerate"=none)(ha:PA X [a] ta)(hs:starEach [a] X.env=[(false,eval a X.env)]:=by rfl) :
  PI X (.Tuple es ct tp) (.Call (.Name "enumerate" p) [a] [] pos) (zC X.K ta):=by
 intro pins s σ H R I h;refine Call_ (jd I hg hm boot_enumerate (PyProof.Rows.callWith_type1 (thn (ha pos pins s σ H _ I h) fun us s1 ⟨vs,H1,I1,r1,q1⟩=>?_) hs rfl));obtain⟨k,a,e,⟨xs,q1⟩,q⟩:=q1;subst e
 cases r1 with
 | cons r rr =>
  cases rr;cases r;obtain⟨its,rv,p,_⟩:=I1.row q1;refine xr p fun h' g1 g2 kk=>wpAny_pyIter_enum g1 ?_;have I2:Inv X pins σ H1 { s1 with heap:=h',toks:=s1.toks }:=I1.kept kk;refine⟨s1.heap.objs.size+1,[s1.heap.objs.size+1,s1.heap.objs.size],_,_,H1,rfl,I2,vB (k:=k) (a:=a) (it:=s1.heap.objs.size) (ne_of_gt (lt_succ_self _)),⟨⟨_,g1⟩,g2⟩,fun b hb=>?_,q⟩
  have hle:s1.heap.objs.size<=b:=by
   simp only [mem_cons,not_mem_nil,or_false] at hb
   rcases hb with e|e
   .rw [e];exact le_add_right _ _
   .rw [e];exact Nat.le_refl _
  exact I1.fpOk hle (I1.hok.fresh hle)
end
section
variable {X:Cx}{es:List Expr}{ct:Nat}{tp:Pos}
def Dl(K:PySem.W.Frag)(ta:TA):TI:=fun σ H R=>ta σ H fun vs H1=>∃k l a c,vs=[.ref a,.ref c]/\(∃xs ys,Sq k K H1 a xs/\Sq l K H1 c ys)/\R (Itz k l K a c) H1
end
section
variable {X:Cx}{e:Expr}{ta:TE}{f:Str}{pos:Pos}
def Dm(K:PySem.W.Frag):List V->Hp->VK->Prop:=fun xs H Q=>∃p ys,xs=[.ref p]/\SqL K H p ys/\Q (.int ys.length) H
def Dn(K:PySem.W.Frag):List V->Hp->VK->Prop:=fun xs H Q=>∃p ys,xs=[.ref p]/\SqT K H p ys/\Q (.int ys.length) H
def Ea(K:PySem.W.Frag):List V->Hp->VK->Prop:=fun xs H Q=>∃x n t b,xs=[x,.ty n]/\pM K H x t/\PySem.W.kitOne K t (.type n)=some b/\Q (.bl b) H
def vC(K:PySem.W.Frag):List V->Hp->VK->Prop:=fun xs H Q=>∃p ys,xs=[.ref p]/\(SqL K H p ys\/SqT K H p ys)/\∀l,H l=none->Q (.ref l) (upd H l (.lst ys))
end
section
variable {X:Cx}{o e:Expr}{es:List Expr}{to:TE}{t:TA}{name:Str}{apos cpos:Pos}{T id:String}{r:V->List V->Hp->VK->Prop}
theorem jS(K:PySem.W.Frag)(eK:X.K=K)(pa:PlainAttrs T)(slot:Slot T name id)(hty:typeOf (.builtin id)=pure (.type "method_descriptor"))(hm:MtR X id r)(ho:PE X o to)(ha:PA X (e::es) t)
  (hbase:attributeBase o name X.env (eval o X.env)=eval o X.env:=by rfl)
  (hfew:((backTo cpos (starEach (e::es) X.env)).all (fun x=>!x.1) && (backToKw cpos (keywordEach [] X.env)).all (fun x=>x.1.isSome)
   && decide ((e::es).length+([]:List Keyword).length+(if ([]:List Keyword).isEmpty then 0 else 1)<30))=true:=by rfl)
  (hline:(apos.endLine == cpos.line)=true:=by rfl) (hs:starEach (e::es) X.env=(false,eval e X.env)::starEach es X.env:=by rfl) (hplain:(backTo cpos (starEach es X.env)).any (·.1)=false:=by rfl) :
  PE X (.Call (.Attribute o name apos) (e::es) [] cpos) (tBM K T r to t):=eK ▸ C9 pa slot hty hm ho ha hbase hfew hline hs hplain
end
def jB(c:Bool)(A B:Prop):Prop:=match c with|true=>A|false=>B
theorem BN{c:Bool}{A B:Prop}(h1:c=true->A)(h2:c=false->B):jB c A B:=by
 cases c with
 | true=>exact h1 rfl
 | false=>exact h2 rfl
theorem e6{p:Prop}[Decidable p]{A B:Prop}(h1:p->A)(h2:¬ p->B):jB (decide p) A B:=BN (fun h=>h1 (of_decide_eq_true h)) (fun h=>h2 (of_decide_eq_false h))
theorem oJ{p:Prop}[Decidable p]{A B:Prop}(h1:¬ p->A)(h2:p->B):jB (!decide p) A B:=BN (fun h=>h1 fun z=>by rw [decide_eq_true z] at h;cases h) (fun h=>h2 (by
 by_cases z:p
 .exact z
 .rw [decide_eq_false z] at h;cases h))
theorem Do{p:Prop}[Decidable p]{A B:Prop}(h:p)(hA:A):jB (decide p) A B:=e6 (fun _=>hA) (fun z=>absurd h z)
theorem Dp{p:Prop}[Decidable p]{A B:Prop}(h:¬ p)(hB:B):jB (decide p) A B:=e6 (fun z=>absurd z h) (fun _=>hB)
theorem BO{p:Prop}[Decidable p]{A B:Prop}(h:¬ p)(hA:A):jB (!decide p) A B:=oJ (fun _=>hA) (fun z=>absurd z h)
theorem BP{p:Prop}[Decidable p]{A B:Prop}(h:p)(hB:B):jB (!decide p) A B:=oJ (fun z=>absurd h z) (fun _=>hB)
theorem vD{c:Bool}{A B:Prop}(h:jB c B A):jB (!c) A B:=by
 cases c <;> exact h
theorem Eb{c:Bool}{A B:Prop}(h:c=true)(hA:A):jB c A B:=by subst h;exact hA
theorem Ed{c:Bool}{A B:Prop}(h:c=false)(hB:B):jB c A B:=by subst h;exact hB
theorem Dq{c:Bool}{A B:Prop}(h:c=false)(hA:A):jB (!c) A B:=by subst h;exact hA
theorem Dr{c:Bool}{A B:Prop}(h:c=true)(hB:B):jB (!c) A B:=by subst h;exact hB
inductive D where
 | non|bl (b:Bool)|int (i:Int)|str (l:List Nat)|ty (n:String)
 | lst (ds:List D)|tup (ds:List D)|scr (ns:List Int)|dic (ks:List Key) (ds:List D)|obj (c:Str) (ns:List Str) (ds:List D)|exc (c:Str) (ns:List Str) (ds:List D)
def XAt(x C:Addr)(dd:Option Addr)(new:Bool)(h:Heap):Prop:=∃o vs,h.get? x=some o/\o.cls=.ref C/\o.dict=dd/\o.data=.fields vs/\1<vs.size/\(new=true->vs[1]?=some .none)
def iu(A:Addr->Prop)(a:Addr):Addr->Prop:=fun b=>A b\/b=a
def AO(K:PySem.W.Frag)(O:Addr->Prop)(H:Hp)(a:Addr)(xs:List V):Prop :=
 (¬ O a/\Rd H a (.lst xs))\/∃(o:Obj) (its:Array Value) (n:Nat),K.lookup a=some o/\o.cls=.type "list"/\o.dict=none/\o.data=.seq its n/\its.size<=sizeLine/\cB xs its.toList
theorem AO.sq{K:PySem.W.Frag}{O:Addr->Prop}{H:Hp}{a:Addr}{xs:List V}(h:AO K O H a xs):SqL K H a xs:=h.elim (fun z=>.inl z.2) .inr
def bo(O:Addr->Prop)(H:Hp)(O':Addr->Prop)(H':Hp):Prop:=∀b o,¬ O b->H b=some o->¬ O' b/\H' b=some o
theorem Rd.keeps{O O':Addr->Prop}{H H':Hp}{a:Addr}{u:HO}(k:bo O H O' H')(n:¬ O a)(r:Rd H a u):¬ O' a/\Rd H' a u:=by
 rcases r with e|⟨o,e⟩
 .exact⟨(k _ _ n e).1,.inl (k _ _ n e).2⟩
 .exact⟨(k _ _ n e).1,.inr ⟨o,(k _ _ n e).2⟩⟩
theorem AO.keeps{K:PySem.W.Frag}{O O':Addr->Prop}{H H':Hp}{a:Addr}{xs:List V}(k:bo O H O' H')(h:AO K O H a xs):AO K O' H' a xs:=by
 rcases h with ⟨n,r⟩|r
 .exact .inl (r.keeps k n)
 .exact .inr r
mutual
inductive FV (K:PySem.W.Frag) (O:Addr->Prop) (H:Hp):V->D->Prop
 | non:FV K O H .non .non
 | bl (b:Bool):FV K O H (.bl b) (.bl b)
 | int (i:Int):FV K O H (.int i) (.int i)
 | str (l:List Nat):l.length<=1000000->FV K O H (.str (S l)) (.str l)
 | ty (n:String):FV K O H (.ty n) (.ty n)
 | scr {a:Addr}{ns:List Int}:AO K O H a (ns.map V.int)->FV K O H (.ref a) (.scr ns)
 | lst {a:Addr}{xs:List V}{ds:List D}:¬ O a->H a=some (.lst xs)->FVs K O H xs ds->FV K O H (.ref a) (.lst ds)
 | tup {a:Addr}{xs:List V}{ds:List D}:¬ O a->H a=some (.tup xs)->FVs K O H xs ds->FV K O H (.ref a) (.tup ds)
 | dic {a:Addr}{kvs:List (Key×V)}{ks:List Key}{ds:List D}:¬ O a->H a=some (.dK kvs)->kvs.map Prod.fst=ks->FVs K O H (kvs.map Prod.snd) ds->FV K O H (.ref a) (.dic ks ds)
 | obj {a dx:Addr}{c:Str}{fs:List (Str×V)}{ns:List Str}{ds:List D}:¬ O a->H a=some (.ins (aT K c) dx fs)->fs.map Prod.fst=ns->FVs K O H (fs.map Prod.snd) ds->FV K O H (.ref a) (.obj c ns ds)
 | exc0 {a:Addr}{c:Str}{new:Bool}:¬ O a->H a=some (.ext (XAt a (aT K c) none new))->FV K O H (.ref a) (.exc c [] [])
 | exc1 {a dx:Addr}{c:Str}{new:Bool}{fs:List (Str×V)}{ns:List Str}{ds:List D}:¬ O a->¬ O dx->H a=some (.ext (XAt a (aT K c) (some dx) new))->H dx=some (.xd fs)->fs.map Prod.fst=ns->FVs K O H (fs.map Prod.snd) ds->FV K O H (.ref a) (.exc c ns ds)
inductive FVs (K:PySem.W.Frag) (O:Addr->Prop) (H:Hp):List V->List D->Prop
 | nil:FVs K O H [] []
 | cons {x:V}{d:D}{xs:List V}{ds:List D}:FV K O H x d->FVs K O H xs ds->FVs K O H (x::xs) (d::ds)
end
section
variable {K:PySem.W.Frag}{O O':Addr->Prop}{H H':Hp}
mutual
theorem FV.keeps(k:bo O H O' H'):∀{v:V}{d:D},FV K O H v d->FV K O' H' v d
 | _,_,.non=>.non
 | _,_,.bl b=>.bl b
 | _,_,.int i=>.int i
 | _,_,.str l h=>.str l h
 | _,_,.ty n=>.ty n
 | _,_,.scr s=>.scr (s.keeps k)
 | _,_,.lst n e f=>.lst (k _ _ n e).1 (k _ _ n e).2 (FVs.keeps k f)
 | _,_,.tup n e f=>.tup (k _ _ n e).1 (k _ _ n e).2 (FVs.keeps k f)
 | _,_,.dic n e m f=>.dic (k _ _ n e).1 (k _ _ n e).2 m (FVs.keeps k f)
 | _,_,.obj n e m f=>.obj (k _ _ n e).1 (k _ _ n e).2 m (FVs.keeps k f)
 | _,_,.exc0 n e=>.exc0 (k _ _ n e).1 (k _ _ n e).2
 | _,_,.exc1 n n2 e e2 m f=>.exc1 (k _ _ n e).1 (k _ _ n2 e2).1 (k _ _ n e).2 (k _ _ n2 e2).2 m (FVs.keeps k f)
theorem FVs.keeps(k:bo O H O' H'):∀{vs:List V}{ds:List D},FVs K O H vs ds->FVs K O' H' vs ds
 | _,_,.nil=>.nil
 | _,_,.cons a b=>.cons (FV.keeps k a) (FVs.keeps k b)
end
theorem FVs.length:∀{vs:List V}{ds:List D},FVs K O H vs ds->vs.length=ds.length
 | _,_,.nil=>rfl
 | _,_,.cons _ b=>by rw [length_cons,length_cons,b.length]
theorem FVs.get:∀{vs:List V}{ds:List D}{i:Nat}{v:V},FVs K O H vs ds->vs[i]?=some v->∃d,ds[i]?=some d/\FV K O H v d
 | _,_,0,_,.cons a _,e=>by simp at e;subst e;exact⟨_,rfl,a⟩
 | _,_,i+1,v,.cons _ b,e=>by
  obtain⟨d,h1,h2⟩:=b.get (i:=i) (v:=v) (by simpa using e);exact⟨d,by simpa using h1,h2⟩
theorem FVs.getD:∀{vs:List V}{ds:List D}{i:Nat}{d:D},FVs K O H vs ds->ds[i]?=some d->∃v,vs[i]?=some v/\FV K O H v d
 | _,_,0,_,.cons a _,e=>by simp at e;subst e;exact⟨_,rfl,a⟩
 | _,_,i+1,v,.cons _ b,e=>by
  obtain⟨d,h1,h2⟩:=b.getD (i:=i) (d:=v) (by simpa using e);exact⟨d,by simpa using h1,h2⟩
theorem FVs.append:∀{vs ws:List V}{ds es:List D},FVs K O H vs ds->FVs K O H ws es->FVs K O H (vs++ws) (ds++es)
 | _,_,_,_,.nil,s=>s
 | _,_,_,_,.cons a b,s=>.cons a (b.append s)
theorem FVs.set{v:V}{d:D}(f:FV K O H v d):∀{vs:List V}{ds:List D} (i:Nat),FVs K O H vs ds->FVs K O H (vs.set i v) (ds.set i d)
 | _,_,_,.nil=>.nil
 | _,_,0,.cons _ t=>.cons f t
 | _,_,i+1,.cons q t=>.cons q (FVs.set f i t)
theorem FVs.take:∀{vs:List V}{ds:List D} (n:Nat),FVs K O H vs ds->FVs K O H (vs.take n) (ds.take n)
 | _,_,0,_=>.nil
 | _,_,_+1,.nil=>.nil
 | _,_,n+1,.cons r t=>.cons r (t.take n)
theorem FVs.drop:∀{vs:List V}{ds:List D} (n:Nat),FVs K O H vs ds->FVs K O H (vs.drop n) (ds.drop n)
 | _,_,0,r=>r
 | _,_,_+1,.nil=>.nil
 | _,_,n+1,.cons _ t=>t.drop n
theorem FVs.reverse:∀{vs:List V}{ds:List D},FVs K O H vs ds->FVs K O H vs.reverse ds.reverse
 | _,_,.nil=>.nil
 | _,_,.cons r t=>by rw [reverse_cons,reverse_cons];exact t.reverse.append (.cons r .nil)
theorem FVs.ints:∀{vs:List V}{ns:List Int},FVs K O H vs (ns.map D.int)->vs=ns.map V.int
 | _,[],.nil=>rfl
 | _,n::r,h=>by
  cases h with
  | cons a b=>cases a;rw [FVs.ints b];rfl
theorem FVs.of_ints:∀ns:List Int,FVs K O H (ns.map V.int) (ns.map D.int)
 | []=>.nil
 | n::r=>.cons (.int n) (FVs.of_ints r)
theorem FVs.bls:∀{vs:List V}{bs:List Bool},FVs K O H vs (bs.map D.bl)->vs=bs.map V.bl
 | _,[],.nil=>rfl
 | _,n::r,h=>by
  cases h with
  | cons a b=>cases a;rw [FVs.bls b];rfl
end
inductive PV where
 | dat (d:D)|own (ds:List D)|ins (c:Str) (ns:List Str) (ds:List D)
def PV.isOwn:PV->Bool
 | .dat _=>false
 | _=>true
def PV.d:PV->D
 | .dat d=>d
 | .own ds=>.lst ds
 | .ins c ns ds=>.obj c ns ds
abbrev PSt:=List (Option PV)
def Wr(ρ:PSt)(σ:St)(b:Addr):Prop:=∃(i:Nat) (p:PV),ρ[i]?=some (some p)/\p.isOwn=true/\σ[i]?=some (some (.ref b))
def OO(A:Addr->Prop)(ρ:PSt)(σ:St)(b:Addr):Prop:=A b\/Wr ρ σ b
def RS(K:PySem.W.Frag)(O:Addr->Prop)(H:Hp):PV->V->Prop
 | .dat d,v=>FV K O H v d
 | .own ds,v=>∃a xs,v=.ref a/\H a=some (.lst xs)/\FVs K O H xs ds
 | .ins c ns ds,v=>∃a dx fs,v=.ref a/\H a=some (.ins (aT K c) dx fs)/\fs.map Prod.fst=ns/\FVs K O H (fs.map Prod.snd) ds
structure Rel (K:PySem.W.Frag) (A:Addr->Prop) (ρ:PSt) (σ:St) (H:Hp):Prop where
 len:ρ.length=σ.length
 get:∀(i:Nat) (p:PV),ρ[i]?=some (some p)->∃v,σ[i]?=some (some v)/\RS K (OO A ρ σ) H p v
 dj:∀(i j:Nat) (p q:PV) (v:V),ρ[i]?=some (some p)->ρ[j]?=some (some q)->p.isOwn=true->q.isOwn=true->σ[i]?=some (some v)->σ[j]?=some (some v)->i=j
 dom:∀b,A b->H b≠none
 sep:∀b,A b->¬ Wr ρ σ b
structure Fr (ρ:PSt) (σ:St) (H:Hp) (ρ':PSt) (H':Hp):Prop where
 kp:∀b o,¬ Wr ρ σ b->H b=some o->H' b=some o
 dm:∀b,H b≠none->H' b≠none
 ow:∀b,Wr ρ' σ b->Wr ρ σ b
theorem Fr.refl(ρ:PSt)(σ:St)(H:Hp):Fr ρ σ H ρ H:=⟨fun _ _ _ h=>h,fun _ h=>h,fun _ h=>h⟩
theorem Fr.trans{ρ ρ1 ρ2:PSt}{σ:St}{H H1 H2:Hp}(a:Fr ρ σ H ρ1 H1)(b:Fr ρ1 σ H1 ρ2 H2):Fr ρ σ H ρ2 H2 :=
 ⟨fun c o n h=>b.kp c o (fun z=>n (a.ow c z)) (a.kp c o n h),fun c h=>b.dm c (a.dm c h),fun c h=>a.ow c (b.ow c h)⟩
theorem Fr.keeps{ρ ρ':PSt}{σ:St}{H H':Hp}{A:Addr->Prop}(f:Fr ρ σ H ρ' H'):bo (OO A ρ σ) H (OO A ρ' σ) H':=fun b o n h =>
 ⟨fun z=>z.elim (fun z=>n (.inl z)) (fun z=>n (.inr (f.ow b z))),f.kp b o (fun z=>n (.inr z)) h⟩
theorem Fr.new{ρ:PSt}{σ:St}{H:Hp}{p:Addr}{o:HO}(h:H p=none):Fr ρ σ H ρ (upd H p o) :=
 ⟨fun b u _ e=>by rw [aA (bn e h)];exact e,fun b e=>by
  by_cases z:b=p
  .rw [z,aQ];exact nofun
  .rw [aA z];exact e,fun _ h=>h⟩
theorem bo.fresh{O:Addr->Prop}{H:Hp}{p:Addr}{o:HO}(h:H p=none):bo O H (iu O p) (upd H p o):=fun b u n e =>
 ⟨fun z=>z.elim n (fun z=>by rw [z,h] at e;cases e),by rw [aA (bn e h)];exact e⟩
theorem bo.less{O O':Addr->Prop}{H:Hp}(h:∀b,O' b->O b):bo O H O' H:=fun b o n e=>⟨fun z=>n (h b z),e⟩
theorem RS.keeps{K:PySem.W.Frag}{O O':Addr->Prop}{H H':Hp}{p:PV}{v:V}(k:bo O H O' H')(w:p.isOwn=true->∀a,v=.ref a->H' a=H a)(h:RS K O H p v):RS K O' H' p v:=by
 cases p with
 | dat d=>exact FV.keeps k h
 | own ds =>
  obtain⟨a,xs,e,g,f⟩:=h;exact⟨a,xs,e,by rw [w rfl a e];exact g,f.keeps k⟩
 | ins c ns ds =>
  obtain⟨a,dx,fs,e,g,m,f⟩:=h;exact⟨a,dx,fs,e,by rw [w rfl a e];exact g,m,f.keeps k⟩
theorem RS.ref{K:PySem.W.Frag}{O:Addr->Prop}{H:Hp}{p:PV}{v:V}(h:RS K O H p v)(o:p.isOwn=true):∃a u,v=.ref a/\H a=some u:=by
 cases p with
 | dat d=>cases o
 | own ds=>obtain⟨a,xs,e,g,f⟩:=h;exact⟨a,_,e,g⟩
 | ins c ns ds=>obtain⟨a,dx,fs,e,g,m,f⟩:=h;exact⟨a,_,e,g⟩
theorem Rel.wr{K:PySem.W.Frag}{A:Addr->Prop}{ρ:PSt}{σ:St}{H:Hp}(R:Rel K A ρ σ H){b:Addr}(h:Wr ρ σ b):H b≠none:=by
 obtain⟨i,p,e,o,s⟩:=h;obtain⟨v,s',r⟩:=R.get i p e;rw [s] at s';cases s';obtain⟨a,u,e1,e2⟩:=r.ref o;cases e1;rw [e2];exact nofun
theorem Rel.oo{K:PySem.W.Frag}{A:Addr->Prop}{ρ:PSt}{σ:St}{H:Hp}(R:Rel K A ρ σ H){b:Addr}(h:H b=none):¬ OO A ρ σ b:=fun z=>z.elim (fun z=>R.dom b z h) (fun z=>R.wr z h)
theorem Rel.grow{K:PySem.W.Frag}{A:Addr->Prop}{ρ:PSt}{σ:St}{H:Hp}(R:Rel K A ρ σ H){p:Addr}{o:HO}(h:H p=none):Rel K A ρ σ (upd H p o):=by
 have k:bo (OO A ρ σ) H (OO A ρ σ) (upd H p o):=Fr.keeps (Fr.new h);refine⟨R.len,fun i q e=>?_,R.dj,fun b z=>(Fr.new (ρ:=ρ) (σ:=σ) h).dm b (R.dom b z),R.sep⟩;obtain⟨v,s,r⟩:=R.get i q e;refine⟨v,s,r.keeps k fun ow a ea=>?_⟩;obtain⟨a',u,e1,e2⟩:=r.ref ow;rw [ea] at e1;cases e1;rw [aA (bn e2 h)]
theorem Rel.less{K:PySem.W.Frag}{A A':Addr->Prop}{ρ:PSt}{σ:St}{H:Hp}(R:Rel K A ρ σ H)(h:∀b,A' b->A b):Rel K A' ρ σ H:=by
 refine⟨R.len,fun i q e=>?_,R.dj,fun b z=>R.dom b (h b z),fun b z=>R.sep b (h b z)⟩;obtain⟨v,s,r⟩:=R.get i q e;exact⟨v,s,r.keeps (bo.less fun b z=>z.imp (h b) id) fun _ _ _=>rfl⟩
theorem Rel.write{K:PySem.W.Frag}{A:Addr->Prop}{ρ:PSt}{σ:St}{H:Hp}(R:Rel K A ρ σ H){i:Nat}{p q:PV}{a:Addr}{o:HO}(e:ρ[i]?=some (some p))(ow:p.isOwn=true)(ow':q.isOwn=true)(es:σ[i]?=some (some (.ref a)))
  (new:RS K (OO A ρ σ) (upd H a o) q (.ref a)):Rel K A (ρ.set i (some q)) σ (upd H a o)/\Fr ρ σ H (ρ.set i (some q)) (upd H a o):=by
 have hi:i<ρ.length:=(List.getElem?_eq_some_iff.mp e).1;have wa:Wr ρ σ a:=⟨i,p,e,ow,es⟩
 have weq:∀b,Wr (ρ.set i (some q)) σ b ↔ Wr ρ σ b:=fun b=>by
  constructor
  .rintro⟨j,r,e1,o1,s1⟩
   by_cases z:i=j
   .subst z;exact⟨i,p,e,ow,s1⟩
   .rw [getElem?_set_ne z] at e1;exact⟨j,r,e1,o1,s1⟩
  .rintro⟨j,r,e1,o1,s1⟩
   by_cases z:i=j
   .subst z;exact⟨i,q,getElem?_set_self hi,ow',s1⟩
   .exact⟨j,r,by rw [getElem?_set_ne z];exact e1,o1,s1⟩
 have oeq:OO A (ρ.set i (some q)) σ=OO A ρ σ:=funext fun b=>propext (or_congr Iff.rfl (weq b));have kp:∀b u,¬ Wr ρ σ b->H b=some u->upd H a o b=some u:=fun b u n h=>by rw [aA (fun z=>n (by rw [z];exact wa))];exact h
 have k:bo (OO A ρ σ) H (OO A ρ σ) (upd H a o):=fun b u n h=>⟨n,kp b u (fun z=>n (.inr z)) h⟩
 have dm:∀b,H b≠none->upd H a o b≠none:=fun b n=>by
  by_cases z:b=a
  .rw [z,aQ];exact nofun
  .rw [aA z];exact n
 refine⟨⟨by rw [length_set];exact R.len,fun j r e1=>?_,fun j l p1 q1 v e1 e2 o1 o2 s1 s2=>?_,fun b z=>dm b (R.dom b z),fun b z w=>R.sep b z ((weq b).mp w)⟩,⟨kp,dm,fun b w=>(weq b).mp w⟩⟩
 .rw [oeq]
  by_cases z:i=j
  .subst z;rw [getElem?_set_self hi] at e1;cases e1;exact⟨_,es,new⟩
  .rw [getElem?_set_ne z] at e1;obtain⟨v,s,rr⟩:=R.get j r e1;refine⟨v,s,rr.keeps k fun ow2 b eb=>?_⟩;rw [aA];intro zz;subst zz;rw [eb] at s;exact z (R.dj i j p r _ e e1 ow ow2 es s)
 .have ex:∀(m:Nat) (x:PV),(ρ.set i (some q))[m]?=some (some x)->x.isOwn=true->∃y:PV,ρ[m]?=some (some y)/\y.isOwn=true:=fun m x em ox=>by
   by_cases z:i=m
   .subst z;exact⟨p,e,ow⟩
   .rw [getElem?_set_ne z] at em;exact⟨x,em,ox⟩
  obtain⟨y1,h1,h2⟩:=ex j p1 e1 o1;obtain⟨y2,h3,h4⟩:=ex l q1 e2 o2;exact R.dj j l y1 y2 v h1 h3 h2 h4 s1 s2
theorem Rel.frz{K:PySem.W.Frag}{A:Addr->Prop}{ρ:PSt}{σ:St}{H:Hp}(R:Rel K A ρ σ H){i:Nat}{p:PV}(e:ρ[i]?=some (some p)) :
  Rel K A (ρ.set i (some (.dat p.d))) σ H/\Fr ρ σ H (ρ.set i (some (.dat p.d))) H:=by
 have hi:i<ρ.length:=(List.getElem?_eq_some_iff.mp e).1
 have ex:∀(m:Nat) (x:PV),(ρ.set i (some (.dat p.d)))[m]?=some (some x)->x.isOwn=true->m≠i/\ρ[m]?=some (some x):=fun m x em ox=>by
  by_cases z:i=m
  .subst z;rw [getElem?_set_self hi] at em;cases em;cases ox
  .rw [getElem?_set_ne z] at em;exact⟨fun q=>z q.symm,em⟩
 have ow:∀b,Wr (ρ.set i (some (.dat p.d))) σ b->Wr ρ σ b:=fun b ⟨j,r,e1,o1,s1⟩=>⟨j,r,(ex j r e1 o1).2,o1,s1⟩
 have k:bo (OO A ρ σ) H (OO A (ρ.set i (some (.dat p.d))) σ) H:=bo.less fun b z=>z.imp id (ow b);refine⟨⟨by rw [length_set];exact R.len,fun j r e1=>?_,fun j l p1 q1 v e1 e2 o1 o2 s1 s2=>R.dj j l p1 q1 v (ex j p1 e1 o1).2 (ex l q1 e2 o2).2 o1 o2 s1 s2,R.dom,fun b z w=>R.sep b z (ow b w)⟩,⟨fun _ _ _ h=>h,fun _ h=>h,ow⟩⟩
 by_cases z:i=j
 .subst z;rw [getElem?_set_self hi] at e1;cases e1;obtain⟨v,s,r⟩:=R.get i p e;refine⟨v,s,?_⟩
  have na:∀a,v=.ref a->p.isOwn=true->¬ OO A (ρ.set i (some (.dat p.d))) σ a:=fun a ea oo z=>by
   subst ea
   rcases z with z|⟨j,r,e1,o1,s1⟩
   .exact R.sep a z ⟨i,p,e,oo,s⟩
   .obtain⟨n1,n2⟩:=ex j r e1 o1;exact n1 (R.dj j i r p _ n2 e o1 oo s1 s)
  cases p with
  | dat d=>exact FV.keeps k r
  | own ds =>
   obtain⟨a,xs,rfl,g,f⟩:=r;exact .lst (na a rfl rfl) g (f.keeps k)
  | ins c ns ds =>
   obtain⟨a,dx,fs,rfl,g,m,f⟩:=r;exact .obj (na a rfl rfl) g m (f.keeps k)
 .rw [getElem?_set_ne z] at e1;obtain⟨v,s,r⟩:=R.get j _ e1;exact⟨v,s,r.keeps k fun _ _ _=>rfl⟩
abbrev PKt:=PV->PSt->Prop
abbrev PTE:=PSt->PKt->Prop
abbrev PTT:=PSt->(Bool->PSt->Prop)->Prop
inductive AV where
 | v (d:D)|sl (i:Nat)
abbrev PA1:=PSt->(AV->PSt->Prop)->Prop
abbrev PTA:=PSt->(List AV->PSt->Prop)->Prop
def Out(K:PySem.W.Frag)(A:Addr->Prop)(ρ:PSt)(σ:St)(H0 H:Hp):PV->V->Prop
 | .dat d,v=>Rel K A ρ σ H/\FV K (OO A ρ σ) H v d
 | .own ds,v=>∃a xs,v=.ref a/\¬ A a/\H0 a=none/\H a=some (.lst xs)/\Rel K (iu A a) ρ σ H/\FVs K (OO (iu A a) ρ σ) H xs ds
 | .ins c ns ds,v=>∃a dx fs,v=.ref a/\¬ A a/\H0 a=none/\H a=some (.ins (aT K c) dx fs)/\fs.map Prod.fst=ns/\Rel K (iu A a) ρ σ H/\FVs K (OO (iu A a) ρ σ) H (fs.map Prod.snd) ds
def LE(K:PySem.W.Frag)(te:TE)(pe:PTE):Prop:=∀(A:Addr->Prop) (ρ:PSt) (σ:St) (H:Hp) (Q:PKt) (Q':VK),Rel K A ρ σ H->pe ρ Q ->
 (∀v H' p ρ',Q p ρ'->Fr ρ σ H ρ' H'->Out K A ρ' σ H H' p v->Q' v H')->te σ H Q'
def LT(K:PySem.W.Frag)(tt:TT)(pt:PTT):Prop:=∀(A:Addr->Prop) (ρ:PSt) (σ:St) (H:Hp) (Q:Bool->PSt->Prop) (Q':Bool->Hp->Prop),Rel K A ρ σ H->pt ρ Q ->
 (∀b H' ρ',Q b ρ'->Fr ρ σ H ρ' H'->Rel K A ρ' σ H'->Q' b H')->tt σ H Q'
def AOk(K:PySem.W.Frag)(O:Addr->Prop)(σ:St)(H:Hp):AV->V->Prop
 | .v d,v=>FV K O H v d
 | .sl i,v=>σ[i]?=some (some v)
def LA1(K:PySem.W.Frag)(te:TE)(pa:PA1):Prop:=∀(A:Addr->Prop) (ρ:PSt) (σ:St) (H:Hp) (Q:AV->PSt->Prop) (Q':VK),Rel K A ρ σ H->pa ρ Q ->
 (∀v H' av ρ',Q av ρ'->Fr ρ σ H ρ' H'->Rel K A ρ' σ H'->AOk K (OO A ρ' σ) σ H' av v->Q' v H')->te σ H Q'
inductive zE (K:PySem.W.Frag) (O:Addr->Prop) (σ:St) (H:Hp):List AV->List V->Prop
 | nil:zE K O σ H [] []
 | cons {a:AV}{v:V}{as:List AV}{vs:List V}:AOk K O σ H a v->zE K O σ H as vs->zE K O σ H (a::as) (v::vs)
def LAs(K:PySem.W.Frag)(ta:TA)(pa:PTA):Prop:=∀(A:Addr->Prop) (ρ:PSt) (σ:St) (H:Hp) (Q:List AV->PSt->Prop) (Q':List V->Hp->Prop),Rel K A ρ σ H->pa ρ Q ->
 (∀vs H' as ρ',Q as ρ'->Fr ρ σ H ρ' H'->Rel K A ρ' σ H'->zE K (OO A ρ' σ) σ H' as vs->Q' vs H')->ta σ H Q'
section
variable {K:PySem.W.Frag}{A O O':Addr->Prop}{ρ ρ':PSt}{σ:St}{H H' H0:Hp}
theorem AOk.keeps{a:AV}{v:V}(k:bo O H O' H')(h:AOk K O σ H a v):AOk K O' σ H' a v:=by
 cases a with
 | v d=>exact FV.keeps k h
 | sl i=>exact h
theorem Out.frz{p:PV}{v:V}(h:Out K A ρ σ H0 H p v):Rel K A ρ σ H/\FV K (OO A ρ σ) H v p.d:=by
 cases p with
 | dat d=>exact h
 | own ds =>
  obtain⟨a,xs,rfl,na,_,e,R,f⟩:=h;refine⟨R.less fun b z=>.inl z,.lst (fun z=>?_) e (f.keeps (bo.less fun b z=>z.imp .inl id))⟩;exact z.elim na (fun z=>R.sep a (.inr rfl) z)
 | ins c ns ds =>
  obtain⟨a,dx,fs,rfl,na,_,e,m,R,f⟩:=h;refine⟨R.less fun b z=>.inl z,.obj (fun z=>?_) e m (f.keeps (bo.less fun b z=>z.imp .inl id))⟩;exact z.elim na (fun z=>R.sep a (.inr rfl) z)
theorem Out.h0{p:PV}{v:V}{H1:Hp}(h:Out K A ρ σ H0 H p v)(dm:∀b,H1 b≠none->H0 b≠none):Out K A ρ σ H1 H p v:=by
 have k:∀a,H0 a=none->H1 a=none:=fun a e=>by
  cases z:H1 a with
  | none=>rfl
  | some o=>exact absurd e (dm a (by rw [z];exact nofun))
 cases p with
 | dat d=>exact h
 | own ds=>obtain⟨a,xs,e1,na,e2,r⟩:=h;exact⟨a,xs,e1,na,k a e2,r⟩
 | ins c ns ds=>obtain⟨a,dx,fs,e1,na,e2,r⟩:=h;exact⟨a,dx,fs,e1,na,k a e2,r⟩
def Gr(H H':Hp):Prop:=∀b o,H b=some o->H' b=some o
theorem Gr.fr(g:Gr H H'):Fr ρ σ H ρ H':=⟨fun b o _ h=>g b o h,fun b h=>by
 cases e:H b with
 | none=>exact absurd e h
 | some o=>rw [g b o e];exact nofun,fun _ h=>h⟩
theorem Gr.new{p:Addr}{o:HO}(h:H p=none):Gr H (upd H p o):=fun b u e=>by rw [aA (bn e h)];exact e
theorem Gr.refl(H:Hp):Gr H H:=fun _ _ h=>h
theorem Rel.gr(R:Rel K A ρ σ H)(g:Gr H H'):Rel K A ρ σ H':=by
 refine⟨R.len,fun i q e=>?_,R.dj,fun b z=>(g.fr (ρ:=ρ) (σ:=σ)).dm b (R.dom b z),R.sep⟩;obtain⟨v,s,r⟩:=R.get i q e;refine⟨v,s,r.keeps (g.fr (ρ:=ρ) (σ:=σ)).keeps fun ow a ea=>?_⟩;obtain⟨a',u,e1,e2⟩:=r.ref ow;rw [ea] at e1;cases e1;rw [e2];exact g _ _ e2
theorem Rel.grA(R:Rel K A ρ σ H)(g:Gr H H'){p:Addr}(h:H p=none)(h':H' p≠none):Rel K (iu A p) ρ σ H':=by
 have k:bo (OO A ρ σ) H (OO (iu A p) ρ σ) H':=fun b u n e=>by
  refine⟨fun z=>?_,g _ _ e⟩
  rcases z with (z|z)|z
  .exact n (.inl z)
  .rw [z,h] at e;cases e
  .exact n (.inr z)
 refine⟨R.len,fun i q e=>?_,R.dj,fun b z=>?_,fun b z w=>?_⟩
 .obtain⟨v,s,r⟩:=R.get i q e;refine⟨v,s,r.keeps k fun ow a ea=>?_⟩;obtain⟨a',u,e1,e2⟩:=r.ref ow;rw [ea] at e1;cases e1;rw [e2];exact g _ _ e2
 .rcases z with z|z
  .exact (g.fr (ρ:=ρ) (σ:=σ)).dm b (R.dom b z)
  .rw [z];exact h'
 .rcases z with z|z
  .exact R.sep b z w
  .exact R.wr w (by rw [z];exact h)
def qh(K:PySem.W.Frag)(O:Addr->Prop)(H0 H:Hp):PV->V->Prop
 | .dat d,v=>FV K O H v d
 | .own ds,v=>∃a xs,v=.ref a/\H0 a=none/\H a=some (.lst xs)/\FVs K (iu O a) H xs ds
 | .ins c ns ds,v=>∃a dx fs,v=.ref a/\H0 a=none/\H a=some (.ins (aT K c) dx fs)/\fs.map Prod.fst=ns/\FVs K (iu O a) H (fs.map Prod.snd) ds
theorem qh.out{p:PV}{v:V}(R:Rel K A ρ σ H)(g:Gr H H')(h:qh K (OO A ρ σ) H H' p v):Out K A ρ σ H H' p v:=by
 cases p with
 | dat d=>exact⟨R.gr g,h⟩
 | own ds =>
  obtain⟨a,xs,rfl,e0,e,f⟩:=h;refine⟨a,xs,rfl,fun z=>R.dom a z e0,e0,e,R.grA g e0 (by rw [e];exact nofun),f.keeps (bo.less fun b z=>?_)⟩
  rcases z with (z|z)|z
  .exact .inl (.inl z)
  .exact .inr z
  .exact .inl (.inr z)
 | ins c ns ds =>
  obtain⟨a,dx,fs,rfl,e0,e,m,f⟩:=h;refine⟨a,dx,fs,rfl,fun z=>R.dom a z e0,e0,e,m,R.grA g e0 (by rw [e];exact nofun),f.keeps (bo.less fun b z=>?_)⟩
  rcases z with (z|z)|z
  .exact .inl (.inl z)
  .exact .inr z
  .exact .inl (.inr z)
def FVc(K:PySem.W.Frag)(O:Addr->Prop)(H:Hp)(v:V)(d:D):Prop:=FV K O H v d\/(∃a xs ds,v=.ref a/\d=.lst ds/\H a=some (.lst xs)/\FVs K O H xs ds) \/
 ∃a dx c fs ns ds,v=.ref a/\d=.obj c ns ds/\H a=some (.ins (aT K c) dx fs)/\fs.map Prod.fst=ns/\FVs K O H (fs.map Prod.snd) ds
def cont(ρ:PSt):AV->Option D
 | .v d=>some d
 | .sl i=>match ρ[i]? with|some (some p)=>some p.d|_=>none
theorem Rel.cont{av:AV}{v:V}{d:D}(R:Rel K A ρ σ H)(h:AOk K (OO A ρ σ) σ H av v)(e:L2.cont ρ av=some d):FVc K (OO A ρ σ) H v d:=by
 cases av with
 | v d'=>cases e;exact .inl h
 | sl i =>
  have h:σ[i]?=some (some v):=h;simp only [L2.cont] at e
  split at e
  .rename_i p ep;cases e;obtain⟨v',s,r⟩:=R.get i p ep;rw [h] at s;cases s
   cases p with
   | dat d=>exact .inl r
   | own ds=>obtain⟨a,xs,e1,e2,f⟩:=r;exact .inr (.inl ⟨a,xs,ds,e1,rfl,e2,f⟩)
   | ins c ns ds=>obtain⟨a,dx,fs,e1,e2,m,f⟩:=r;exact .inr (.inr ⟨a,dx,c,fs,ns,ds,e1,rfl,e2,m,f⟩)
  .cases e
theorem FVc.lst{v:V}{ds:List D}(h:FVc K O H v (.lst ds)):∃a xs,v=.ref a/\H a=some (.lst xs)/\FVs K O H xs ds:=by
 rcases h with h|⟨a,xs,ds',e1,e2,e3,f⟩|⟨a,dx,c,fs,ns,ds',e1,e2,_⟩
 .cases h with
  | lst n s f=>exact⟨_,_,rfl,s,f⟩
 .cases e2;exact⟨a,xs,e1,e3,f⟩
 .cases e2
theorem FVc.fv{v:V}{d:D}(h:FVc K O H v d)(n:∀ds,d≠.lst ds)(n':∀c ns ds,d≠.obj c ns ds):FV K O H v d:=by
 rcases h with h|⟨a,xs,ds',e1,e2,e3,f⟩|⟨a,dx,c,fs,ns,ds',e1,e2,_⟩
 .exact h
 .exact absurd e2 (n _)
 .exact absurd e2 (n' _ _ _)
theorem FVc.tup{v:V}{ds:List D}(h:FVc K O H v (.tup ds)):∃a xs,v=.ref a/\¬ O a/\H a=some (.tup xs)/\FVs K O H xs ds:=by
 cases h.fv nofun nofun with
 | tup n s f=>exact⟨_,_,rfl,n,s,f⟩
theorem FVc.scr{v:V}{ns:List Int}(h:FVc K O H v (.scr ns)):∃a,v=.ref a/\SqL K H a (ns.map V.int):=by
 cases h.fv nofun nofun with
 | scr s=>exact⟨_,rfl,s.sq⟩
theorem FVc.int{v:V}{i:Int}(h:FVc K O H v (.int i)):v=.int i:=by cases h.fv nofun nofun;rfl
theorem FVc.bl{v:V}{i:Bool}(h:FVc K O H v (.bl i)):v=.bl i:=by cases h.fv nofun nofun;rfl
theorem FVc.str{v:V}{i:List Nat}(h:FVc K O H v (.str i)):v=.str (S i)/\i.length<=1000000:=by
 cases h.fv nofun nofun with
 | str _ z=>exact⟨rfl,z⟩
theorem FVc.non{v:V}(h:FVc K O H v .non):v=.non:=by cases h.fv nofun nofun;rfl
end
def pC(d:D):PTE:=fun ρ Q=>Q (.dat d) ρ
def bw(i:Nat):PTE:=fun ρ Q=>match ρ[i]? with
 | some (some (.dat d))=>Q (.dat d) ρ
 | some (some (.own ds))=>Q (.dat (.lst ds)) (ρ.set i (some (.dat (.lst ds))))
 | some (some (.ins c ns ds))=>Q (.dat (.obj c ns ds)) (ρ.set i (some (.dat (.obj c ns ds))))
 | _=>False
def pSl(i:Nat):PA1:=fun ρ Q=>match ρ[i]? with
 | some (some (.dat d))=>Q (.v d) ρ
 | some (some (.own _))=>Q (.sl i) ρ
 | some (some (.ins _ _ _))=>Q (.sl i) ρ
 | _=>False
def pFz(pe:PTE):PA1:=fun ρ Q=>pe ρ fun p ρ1=>Q (.v p.d) ρ1
def ar:PTA:=fun ρ Q=>Q [] ρ
def ag(pa:PA1)(pr:PTA):PTA:=fun ρ Q=>pa ρ fun a ρ1=>pr ρ1 fun as ρ2=>Q (a::as) ρ2
section
variable {K:PySem.W.Frag}{ta tb tc:TE}{pa pb pc:PA1}{pe pe':PTE}{tr:TA}{pr:PTA}
theorem CK{v:V}{d:D}(h:∀O H,FV K O H v d):LE K (tC v) (pC d):=fun A ρ σ H Q Q' R q k=>k v H (.dat d) ρ q (Fr.refl _ _ _) ⟨R,h _ _⟩
theorem le_int{i:Int}:LE K (tC (.int i)) (pC (.int i)):=CK fun _ _=>.int i
theorem cL{i:Bool}:LE K (tC (.bl i)) (pC (.bl i)):=CK fun _ _=>.bl i
theorem yq:LE K (tC .non) (pC .non):=CK fun _ _=>.non
theorem le_str{l:List Nat}(h:l.length<=1000000:=by decide):LE K (tC (.str (S l))) (pC (.str l)):=CK fun _ _=>.str l h
theorem au{i:Nat}:LE K (dn i) (bw i):=by
 intro A ρ σ H Q Q' R q k;unfold bw at q
 split at q
 .rename_i d e;obtain⟨v,s,r⟩:=R.get i _ e;exact⟨v,s,k v H (.dat d) ρ q (Fr.refl _ _ _) ⟨R,r⟩⟩
 .rename_i ds e;obtain⟨R',f⟩:=R.frz e;obtain⟨v,s,r⟩:=R'.get i _ (getElem?_set_self (List.getElem?_eq_some_iff.mp e).1);exact⟨v,s,k v H (.dat (.lst ds)) _ q f ⟨R',r⟩⟩
 .rename_i c ns ds e;obtain⟨R',f⟩:=R.frz e;obtain⟨v,s,r⟩:=R'.get i _ (getElem?_set_self (List.getElem?_eq_some_iff.mp e).1);exact⟨v,s,k v H (.dat (.obj c ns ds)) _ q f ⟨R',r⟩⟩
 .exact q.elim
theorem ak{i:Nat}:LA1 K (dn i) (pSl i):=by
 intro A ρ σ H Q Q' R q k;unfold pSl at q
 split at q
 .rename_i d e;obtain⟨v,s,r⟩:=R.get i _ e;exact⟨v,s,k v H _ ρ q (Fr.refl _ _ _) R r⟩
 .rename_i e;obtain⟨v,s,r⟩:=R.get i _ e;exact⟨v,s,k v H _ ρ q (Fr.refl _ _ _) R s⟩
 .rename_i e;obtain⟨v,s,r⟩:=R.get i _ e;exact⟨v,s,k v H _ ρ q (Fr.refl _ _ _) R s⟩
 .exact q.elim
theorem af(h:LE K ta pe):LA1 K ta (pFz pe):=fun A ρ σ H Q Q' R q k=>h A ρ σ H _ Q' R q fun v H' p ρ' q f o=>k v H' _ ρ' q f o.frz.1 o.frz.2
theorem ah:LAs K jO ar:=fun A ρ σ H Q Q' R q k=>k [] H [] ρ q (Fr.refl _ _ _) R .nil
theorem ae(h:LA1 K ta pa)(hr:LAs K tr pr):LAs K (bR ta tr) (ag pa pr):=fun A ρ σ H Q Q' R q k =>
 h A ρ σ H _ _ R q fun v H1 a ρ1 q1 f1 R1 o1=>hr A ρ1 σ H1 _ _ R1 q1 fun vs H2 as ρ2 q2 f2 R2 o2=>k _ H2 _ ρ2 q2 (f1.trans f2) R2 (.cons (o1.keeps f2.keeps) o2)
def LO(K:PySem.W.Frag)(r:R2)(f:D->D->(PV->Prop)->Prop):Prop:=∀(O:Addr->Prop) (H:Hp) (x y:V) (a b:D) (Q:PV->Prop) (Q':VK),(∀b,O b->H b≠none)->FVc K O H x a->FVc K O H y b->f a b Q ->
 (∀v H' p,Q p->Gr H H'->qh K O H H' p v->Q' v H')->r x y H Q'
def op2(f:D->D->(PV->Prop)->Prop)(ρ:PSt)(x y:AV)(Q:PKt):Prop:=match cont ρ x,cont ρ y with
 | some a,some b=>f a b fun p=>Q p ρ
 | _,_=>False
def pOp(f:D->D->(PV->Prop)->Prop)(pa pb:PA1):PTE:=fun ρ Q=>pa ρ fun x ρ1=>pb ρ1 fun y ρ2=>op2 f ρ2 x y Q
theorem Rel.dom2{A:Addr->Prop}{ρ:PSt}{σ:St}{H:Hp}(R:Rel K A ρ σ H):∀b,OO A ρ σ b->H b≠none:=fun b z=>z.elim (R.dom b) R.wr
theorem aq{r:R2}{f:D->D->(PV->Prop)->Prop}(o:LO K r f)(ha:LA1 K ta pa)(hb:LA1 K tb pb):LE K (tOp r ta tb) (pOp f pa pb):=fun A ρ σ H Q Q' R q k =>
 ha A ρ σ H _ _ R q fun v H1 a ρ1 q1 f1 R1 o1=>hb A ρ1 σ H1 _ _ R1 q1 fun w H2 b ρ2 q2 f2 R2 o2=>by
  unfold op2 at q2
  split at q2
  .rename_i da db e1 e2;exact o _ H2 v w da db _ _ R2.dom2 (R2.cont (o1.keeps f2.keeps) e1) (R2.cont o2 e2) q2 fun z H3 p q3 g ov=>k z H3 p ρ2 q3 ((f1.trans f2).trans g.fr) ((ov.out R2 g).h0 fun b z=>f2.dm b (f1.dm b z))
  .exact q2.elim
def LU(K:PySem.W.Frag)(r:V->Hp->VK->Prop)(f:D->(PV->Prop)->Prop):Prop:=∀(O:Addr->Prop) (H:Hp) (x:V) (a:D) (Q:PV->Prop) (Q':VK),(∀b,O b->H b≠none)->FVc K O H x a->f a Q ->
 (∀v H' p,Q p->Gr H H'->qh K O H H' p v->Q' v H')->r x H Q'
def op1(f:D->(PV->Prop)->Prop)(ρ:PSt)(x:AV)(Q:PKt):Prop:=match cont ρ x with
 | some a=>f a fun p=>Q p ρ
 | _=>False
def pUn(f:D->(PV->Prop)->Prop)(pa:PA1):PTE:=fun ρ Q=>pa ρ fun x ρ1=>op1 f ρ1 x Q
theorem ud{r:V->Hp->VK->Prop}{f:D->(PV->Prop)->Prop}(o:LU K r f)(ha:LA1 K ta pa):LE K (tUn r ta) (pUn f pa):=fun A ρ σ H Q Q' R q k =>
 ha A ρ σ H _ _ R q fun v H1 a ρ1 q1 f1 R1 o1=>by
  unfold op1 at q1
  split at q1
  .rename_i da e1;exact o _ H1 v da _ _ R1.dom2 (R1.cont o1 e1) q1 fun z H3 p q3 g ov=>k z H3 p ρ1 q3 (f1.trans g.fr) ((ov.out R1 g).h0 fun b z=>f1.dm b z)
  .exact q1.elim
inductive AQ (K:PySem.W.Frag) (O:Addr->Prop) (H:Hp):List V->List D->Prop
 | nil:AQ K O H [] []
 | cons {x:V}{d:D}{xs:List V}{ds:List D}:FVc K O H x d->AQ K O H xs ds->AQ K O H (x::xs) (d::ds)
def conts(ρ:PSt):List AV->Option (List D)
 | []=>some []
 | a::r=>match cont ρ a,conts ρ r with
  | some d,some ds=>some (d::ds)
  | _,_=>none
theorem Rel.conts{A:Addr->Prop}{ρ:PSt}{σ:St}{H:Hp}(R:Rel K A ρ σ H):∀{as:List AV}{vs:List V}{ds:List D},zE K (OO A ρ σ) σ H as vs->L2.conts ρ as=some ds->AQ K (OO A ρ σ) H vs ds
 | _,_,_,.nil,e=>by cases e;exact .nil
 | _,_,_,.cons a b,e=>by
  unfold L2.conts at e
  split at e
  .rename_i e1 e2;cases e;exact .cons (R.cont a e1) (R.conts b e2)
  .cases e
def LC(K:PySem.W.Frag)(r:List V->Hp->VK->Prop)(f:List D->(PV->Prop)->Prop):Prop:=∀(O:Addr->Prop) (H:Hp) (xs:List V) (as:List D) (Q:PV->Prop) (Q':VK),(∀b,O b->H b≠none)->AQ K O H xs as->f as Q ->
 (∀v H' p,Q p->Gr H H'->qh K O H H' p v->Q' v H')->r xs H Q'
def opN(f:List D->(PV->Prop)->Prop)(ρ:PSt)(as:List AV)(Q:PKt):Prop:=match conts ρ as with
 | some ds=>f ds fun p=>Q p ρ
 | _=>False
def pCB(f:List D->(PV->Prop)->Prop)(pr:PTA):PTE:=fun ρ Q=>pr ρ fun as ρ1=>opN f ρ1 as Q
theorem bv{r:List V->Hp->VK->Prop}{f:List D->(PV->Prop)->Prop}(o:LC K r f)(ha:LAs K tr pr):LE K (tCB r tr) (pCB f pr):=fun A ρ σ H Q Q' R q k =>
 ha A ρ σ H _ _ R q fun vs H1 as ρ1 q1 f1 R1 o1=>by
  unfold opN at q1
  split at q1
  .rename_i ds e1;exact o _ H1 vs ds _ _ R1.dom2 (R1.conts o1 e1) q1 fun z H3 p q3 g ov=>k z H3 p ρ1 q3 (f1.trans g.fr) ((ov.out R1 g).h0 fun b z=>f1.dm b z)
  .exact q1.elim
def avD:List AV->Option (List D)
 | []=>some []
 | .v d::r=>match avD r with|some ds=>some (d::ds)|none=>none
 | .sl _::_=>none
theorem zE.avD{O:Addr->Prop}{σ:St}{H:Hp}:∀{as:List AV}{vs:List V}{ds:List D},zE K O σ H as vs->L2.avD as=some ds->FVs K O H vs ds
 | _,_,_,.nil,e=>by cases e;exact .nil
 | .v d::r,_,_,.cons a b,e=>by
  simp only [L2.avD] at e
  split at e
  .rename_i e1;cases e;exact .cons a (b.avD e1)
  .cases e
 | .sl i::r,_,_,.cons a b,e=>by cases e
def nS(pr:PTA):PTE:=fun ρ Q=>pr ρ fun as ρ1=>match avD as with
 | some ds=>ds.length<=1000000/\Q (.own ds) ρ1
 | _=>False
def sO(pr:PTA):PTE:=fun ρ Q=>pr ρ fun as ρ1=>match avD as with
 | some ds=>ds.length<=1000000/\Q (.dat (.tup ds)) ρ1
 | _=>False
theorem dz(ha:LAs K tr pr):LE K (D1 tr) (nS pr):=fun A ρ σ H Q Q' R q k =>
 ha A ρ σ H _ _ R q fun vs H1 as ρ1 q1 f1 R1 o1=>by
  split at q1
  .rename_i ds e1;have fs:=o1.avD e1;refine⟨sz _ (by rw [fs.length];exact q1.1),fun p hp=>k _ _ (.own ds) ρ1 q1.2 (f1.trans (Fr.new hp)) ?_⟩;have g:Gr H1 (upd H1 p (.lst vs)):=Gr.new hp;exact (qh.out (p:=.own ds) R1 g ⟨p,vs,rfl,hp,aQ,fs.keeps (bo.fresh hp)⟩).h0 fun b z=>f1.dm b z
  .exact q1.elim
theorem gj(ha:LAs K tr pr):LE K (AN tr) (sO pr):=fun A ρ σ H Q Q' R q k =>
 ha A ρ σ H _ _ R q fun vs H1 as ρ1 q1 f1 R1 o1=>by
  split at q1
  .rename_i ds e1;have fs:=o1.avD e1;refine⟨sz _ (by rw [fs.length];exact q1.1),fun p hp=>k _ _ (.dat (.tup ds)) ρ1 q1.2 (f1.trans (Fr.new hp)) ⟨R1.grow hp,?_⟩⟩;exact .tup (R1.oo hp) aQ (fs.keeps (Fr.new hp).keeps)
  .exact q1.elim
def pB(pe:PTE):PTT:=fun ρ Q=>pe ρ fun p ρ1=>match p with
 | .dat (.bl b)=>Q b ρ1
 | _=>False
theorem fA(h:LE K ta pe):LT K (tB ta) (pB pe):=fun A ρ σ H Q Q' R q k=>h A ρ σ H _ _ R q fun v H1 p ρ1 q1 f1 o1=>by
 split at q1
 .rename_i b;obtain⟨R1,f⟩:=o1;cases f;exact⟨b,rfl,k b H1 ρ1 q1 f1 R1⟩
 .exact q1.elim
theorem gk(h:LE K ta pe):LT K (uU ta) (pB pe):=fA h
def yr(a b:PTT):PTT:=fun ρ Q=>a ρ fun c ρ1=>jB c (b ρ1 Q) (Q false ρ1)
def pOr(a b:PTT):PTT:=fun ρ Q=>a ρ fun c ρ1=>jB c (Q true ρ1) (b ρ1 Q)
def kc(a:PTT):PTT:=fun ρ Q=>a ρ fun c ρ1=>Q (!c) ρ1
variable {tta ttb:TT}{pta ptb:PTT}
theorem lM(ha:LT K tta pta)(hb:LT K ttb ptb):LT K (CP tta ttb) (yr pta ptb):=fun A ρ σ H Q Q' R q k=>ha A ρ σ H _ _ R q fun c H1 ρ1 q1 f1 R1=>by
 cases c with
 | true=>exact hb A ρ1 σ H1 _ _ R1 q1 fun b H2 ρ2 q2 f2 R2=>k b H2 ρ2 q2 (f1.trans f2) R2
 | false=>exact k false H1 ρ1 q1 f1 R1
theorem gJ(ha:LT K tta pta)(hb:LT K ttb ptb):LT K (tOr tta ttb) (pOr pta ptb):=fun A ρ σ H Q Q' R q k=>ha A ρ σ H _ _ R q fun c H1 ρ1 q1 f1 R1=>by
 cases c with
 | false=>exact hb A ρ1 σ H1 _ _ R1 q1 fun b H2 ρ2 q2 f2 R2=>k b H2 ρ2 q2 (f1.trans f2) R2
 | true=>exact k true H1 ρ1 q1 f1 R1
theorem cF(ha:LT K tta pta):LT K (CQ tta) (kc pta):=fun A ρ σ H Q Q' R q k=>ha A ρ σ H _ _ R q fun c H1 ρ1 q1 f1 R1=>k _ H1 ρ1 q1 f1 R1
def jC(a b:PTE):PTE:=fun ρ Q=>a ρ fun p ρ1=>match p with
 | .dat (.bl c)=>jB c (b ρ1 Q) (Q (.dat (.bl false)) ρ1)
 | _=>False
def zF(a:PTE):PTE:=fun ρ Q=>a ρ fun p ρ1=>match p with
 | .dat (.bl c)=>Q (.dat (.bl (!c))) ρ1
 | _=>False
theorem fB(ha:LE K ta pe)(hb:LE K tb pe'):LE K (wS ta tb) (jC pe pe'):=fun A ρ σ H Q Q' R q k=>ha A ρ σ H _ _ R q fun v H1 p ρ1 q1 f1 o1=>by
 split at q1
 .rename_i c;obtain⟨R1,f⟩:=o1;cases f;refine⟨c,rfl,?_⟩
  cases c with
  | true=>exact hb A ρ1 σ H1 _ _ R1 q1 fun b H2 p2 ρ2 q2 f2 o2=>k b H2 p2 ρ2 q2 (f1.trans f2) (o2.h0 fun b z=>f1.dm b z)
  | false=>exact k _ H1 _ ρ1 q1 f1 ⟨R1,.bl false⟩
 .exact q1.elim
theorem yt(ha:LE K ta pe):LE K (Bb ta) (zF pe):=fun A ρ σ H Q Q' R q k=>ha A ρ σ H _ _ R q fun v H1 p ρ1 q1 f1 o1=>by
 split at q1
 .rename_i c;obtain⟨R1,f⟩:=o1;cases f;exact⟨c,rfl,k _ H1 _ ρ1 q1 f1 ⟨R1,.bl (!c)⟩⟩
 .exact q1.elim
end
abbrev F2:=D->D->(PV->Prop)->Prop
def fI0(g:Int->Int->D):F2
 | .int i,.int j,Q=>Q (.dat (g i j))
 | _,_,_=>False
def fI(C:Int->Int->Prop)(g:Int->Int->D):F2
 | .int i,.int j,Q=>C i j/\Q (.dat (g i j))
 | _,_,_=>False
section
variable {K:PySem.W.Frag}{X:Cx}
theorem zG{g:Int->Int->V}{g':Int->Int->D}(h:∀i j O H,FV K O H (g i j) (g' i j)):LO K (rI0 g) (fI0 g'):=by
 intro O H x y a b Q Q' dom fx fy q k;unfold fI0 at q
 split at q
 .rename_i i j;exact⟨i,j,fx.int,fy.int,k _ H _ q (Gr.refl _) (h i j _ _)⟩
 .exact q.elim
theorem CL{C:Int->Int->Prop}{g:Int->Int->V}{g':Int->Int->D}(h:∀i j O H,FV K O H (g i j) (g' i j)):LO K (rI C g) (fI C g'):=by
 intro O H x y a b Q Q' dom fx fy q k;unfold fI at q
 split at q
 .rename_i i j;exact⟨i,j,fx.int,fy.int,q.1,k _ H _ q.2 (Gr.refl _) (h i j _ _)⟩
 .exact q.elim
theorem e7{O:Addr->Prop}{H:Hp}{xs:List V}{ds:List D}{p:Addr}(hp:H p=none)(f:FVs K O H xs ds):qh K O H (upd H p (.lst xs)) (.own ds) (.ref p) :=
 ⟨p,xs,rfl,hp,aQ,f.keeps (bo.fresh hp)⟩
theorem lN{O:Addr->Prop}{H:Hp}{xs:List V}{ds:List D}{p:Addr}(dom:∀b,O b->H b≠none)(hp:H p=none)(f:FVs K O H xs ds):qh K O H (upd H p (.tup xs)) (.dat (.tup ds)) (.ref p) :=
 .tup (fun z=>dom p z hp) aQ (f.keeps fun b o n e=>⟨n,by rw [aA (bn e hp)];exact e⟩)
def Ds:R2:=fun x y H Q=>∃i j,x=.str (S i)/\y=.str (S j)/\i.length+j.length<=sizeLine/\Q (.str (S (i++j))) H
def zH(K:PySem.W.Frag):R2:=fun x y H Q=>rI0 (fun i j=>.int (i+j)) x y H Q\/Ds x y H Q\/BK K x y H Q\/Bl K x y H Q
theorem Dt(K:PySem.W.Frag)(e:X.K=K):OpR X (binaryOp .Add) (zH K):=by
 subst e;exact OpR.or Be (OpR.or zu (OpR.or zA zk))
def Du:F2
 | .int i,.int j,Q=>Q (.dat (.int (i+j)))
 | .str a,.str b,Q=>a.length+b.length<=1000000/\Q (.dat (.str (a++b)))
 | .lst a,.lst b,Q=>a.length+b.length<=1000000/\Q (.own (a++b))
 | .scr a,.lst b,Q=>a.length+b.length<=1000000/\Q (.own (a.map .int++b))
 | .tup a,.tup b,Q=>a≠[]/\a.length+b.length<=1000000/\Q (.dat (.tup (a++b)))
 | _,_,_=>False
theorem yu:LO K (zH K) Du:=by
 intro O H x y a b Q Q' dom fx fy q k;unfold Du at q
 split at q
 .rename_i i j;exact .inl ⟨i,j,fx.int,fy.int,k _ H _ q (Gr.refl _) (.int _)⟩
 .rename_i i j;exact .inr (.inl ⟨i,j,fx.str.1,fy.str.1,sz _ q.1,k _ H _ q.2 (Gr.refl _) (.str _ (by rw [length_append];exact q.1))⟩)
 .rename_i i j;obtain⟨a,xs,rfl,e1,f1⟩:=fx.lst;obtain⟨b,ys,rfl,e2,f2⟩:=fy.lst;exact .inr (.inr (.inl ⟨a,b,xs,ys,rfl,rfl,SqL.of e1,SqL.of e2,sz _ (by rw [f1.length,f2.length];exact q.1),fun p hp=>k _ _ _ q.2 (Gr.new hp) (e7 hp (f1.append f2))⟩))
 .rename_i i j;obtain⟨a,rfl,e1⟩:=fx.scr;obtain⟨b,ys,rfl,e2,f2⟩:=fy.lst;exact .inr (.inr (.inl ⟨a,b,_,ys,rfl,rfl,e1,SqL.of e2,sz _ (by rw [length_map,f2.length];exact q.1),fun p hp=>k _ _ _ q.2 (Gr.new hp) (e7 hp ((FVs.of_ints i).append f2))⟩))
 .rename_i i j;obtain⟨a,xs,rfl,n1,e1,f1⟩:=fx.tup;obtain⟨b,ys,rfl,n2,e2,f2⟩:=fy.tup;have l1:=f1.length;have l2:=f2.length
  refine .inr (.inr (.inr ⟨a,b,xs,ys,rfl,rfl,SqT.of e1,SqT.of e2,fun z=>q.1 ?_,sz _ (by rw [l1,l2];exact q.2.1),fun z=>?_,fun _ p hp=>k _ _ _ q.2.2 (Gr.new hp) (lN dom hp (f1.append f2))⟩))
  .exact length_eq_zero_iff.mp (by rw [<- l1,z];rfl)
  .have:j=[]:=length_eq_zero_iff.mp (by rw [<- l2,z];rfl);subst this;exact k _ H _ q.2.2 (Gr.refl _) (by rw [append_nil];exact .tup n1 e1 f1)
 .exact q.elim
theorem qi:LO K (rI0 fun i j=>.int (i - j)) (fI0 fun i j=>.int (i - j)):=zG fun _ _ _ _=>.int _
theorem cP:LO K (rI (fun _ j=>0<j) fun i j=>.int (i % j)) (fI (fun _ j=>0<j) fun i j=>.int (i % j)):=CL fun _ _ _ _=>.int _
theorem oK:LO K (rI CY fun i j=>.int (i / j)) (fI (fun _ j=>0<j/\j<1073741824) fun i j=>.int (i / j)):=CL fun _ _ _ _=>.int _
theorem qj:LO K (rI CZ fun i j=>.int (i^j.toNat)) (fI (fun i j=>0<=j/\j<=1000000/\i.natAbs<2^64) fun i j=>.int (i^j.toNat)):=CL fun _ _ _ _=>.int _
def Dv:R2:=fun x y H Q=>∃l n,x=.str (S l)/\y=.int n/\-1000000<=n/\n<=1000000/\n.toNat*l.length<=sizeLine/\Q (.str (S (iB l n))) H
def zI:R2:=fun x y H Q=>rI CI (fun i j=>.int (i*j)) x y H Q\/Dv x y H Q\/D8 x y H Q
theorem jT:OpR X (binaryOp .Mult) zI:=OpR.or Bg (OpR.or tZ Br)
def rg:F2
 | .int i,.int j,Q=>((-(2^64)<i/\i<2^64)\/(-(2^64)<j/\j<2^64))/\Q (.dat (.int (i*j)))
 | .str a,.int n,Q=>(-1000000<=n/\n<=1000000/\n.toNat*a.length<=1000000)/\Q (.dat (.str (iB a n)))
 | .lst a,.int n,Q=>(-1000000<=n/\n<=1000000/\a.length*n.toNat<=1000000)/\Q (.own (iB a n))
 | _,_,_=>False
theorem FVs.rep{O:Addr->Prop}{H:Hp}{xs:List V}{ds:List D}(f:FVs K O H xs ds):∀n,FVs K O H (List.replicate n xs).flatten (List.replicate n ds).flatten
 | 0=>.nil
 | n+1=>by rw [replicate_succ,replicate_succ,flatten_cons,flatten_cons];exact f.append (f.rep n)
theorem fC:LO K zI rg:=by
 intro O H x y a b Q Q' dom fx fy q k;unfold rg at q
 split at q
 .rename_i i j;exact .inl ⟨i,j,fx.int,fy.int,q.1,k _ H _ q.2 (Gr.refl _) (.int _)⟩
 .rename_i i j;exact .inr (.inl ⟨i,j,fx.str.1,fy.int,q.1.1,q.1.2.1,sz _ q.1.2.2,k _ H _ q.2 (Gr.refl _) (.str _ (by rw [dN];exact q.1.2.2))⟩)
 .rename_i i j;obtain⟨a,xs,rfl,e1,f1⟩:=fx.lst;exact .inr (.inr ⟨a,j,xs,rfl,fy.int,e1,by omega,by omega,sz _ (by rw [f1.length];exact q.1.2.2),fun p hp=>k _ _ _ q.2 (Gr.new hp) (e7 hp (f1.rep _))⟩)
 .exact q.elim
def CM:R2:=fun x y H Q=>rI0 (fun i j=>.bl (decide (i<j))) x y H Q\/∃i j,x=.str i/\y=.str j/\Q (.bl (decide (i.cps.toList<j.cps.toList))) H
def AR:R2:=fun x y H Q=>rI0 (fun i j=>.bl (decide (i<=j))) x y H Q\/∃i j,x=.str i/\y=.str j/\Q (.bl (!decide (j.cps.toList<i.cps.toList))) H
theorem yv:OpR X (compareOp .Lt) CM:=OpR.or C4 uT
theorem uD:OpR X (compareOp .LtE) AR:=OpR.or C5 vg
def fLt:F2
 | .int i,.int j,Q=>Q (.dat (.bl (decide (i<j))))
 | .str i,.str j,Q=>Q (.dat (.bl (decide (i<j))))
 | _,_,_=>False
def fLe:F2
 | .int i,.int j,Q=>Q (.dat (.bl (decide (i<=j))))
 | .str i,.str j,Q=>Q (.dat (.bl (!decide (j<i))))
 | _,_,_=>False
theorem qk:LO K CM fLt:=by
 intro O H x y a b Q Q' dom fx fy q k;unfold fLt at q
 split at q
 .rename_i i j;exact .inl ⟨i,j,fx.int,fy.int,k _ H _ q (Gr.refl _) (.bl _)⟩
 .rename_i i j;exact .inr ⟨_,_,fx.str.1,fy.str.1,k _ H _ q (Gr.refl _) (.bl _)⟩
 .exact q.elim
theorem k9:LO K AR fLe:=by
 intro O H x y a b Q Q' dom fx fy q k;unfold fLe at q
 split at q
 .rename_i i j;exact .inl ⟨i,j,fx.int,fy.int,k _ H _ q (Gr.refl _) (.bl _)⟩
 .rename_i i j;exact .inr ⟨_,_,fx.str.1,fy.str.1,k _ H _ q (Gr.refl _) (.bl _)⟩
 .exact q.elim
theorem ue:LO K (rI0 fun i j=>.bl (decide (j<i))) (fI0 fun i j=>.bl (decide (j<i))):=zG fun _ _ _ _=>.bl _
theorem vE:LO K (rI0 fun i j=>.bl (decide (j<=i))) (fI0 fun i j=>.bl (decide (j<=i))):=zG fun _ _ _ _=>.bl _
mutual
def D.py:D->PyData
 | .non=>.none|.bl b=>.bool b|.int i=>.int i|.str l=>.str (S l)|.ty _=>.none
 | .lst ds=>.list (D.pys ds)|.tup ds=>.tuple (D.pys ds)|.scr ns=>.list (ns.map .int)|.dic _ _=>.none|.obj _ _ _=>.none|.exc _ _ _=>.none
def D.pys:List D->List PyData
 | []=>[]
 | d::r=>d.py::D.pys r
end
mutual
def D.plain:D->Bool
 | .non=>true|.bl _=>true|.int _=>true|.str _=>true|.ty _=>false
 | .lst ds=>D.plains ds|.tup ds=>D.plains ds|.scr _=>true|.dic _ _=>false|.obj _ _ _=>false|.exc _ _ _=>false
def D.plains:List D->Bool
 | []=>true
 | d::r=>d.plain && D.plains r
end
mutual
theorem FV.dv{O:Addr->Prop}{H:Hp}:∀{v:V}{d:D},FV K O H v d->d.plain=true->DV K H v d.py
 | _,_,.non,_=>.non
 | _,_,.bl b,_=>.bl b
 | _,_,.int i,_=>.int i
 | _,_,.str l h,_=>.str (S l)
 | _,_,.ty n,p=>nomatch p
 | _,_,.scr s,_=>.lst s.sq (DVs.ints _)
 | _,_,.lst n e f,p=>.lst (SqL.of e) (FVs.dvs f p)
 | _,_,.tup n e f,p=>.tup (SqT.of e) (FVs.dvs f p)
 | _,_,.dic _ _ _ _,p=>nomatch p
 | _,_,.obj _ _ _ _,p=>nomatch p
 | _,_,.exc0 _ _,p=>nomatch p
 | _,_,.exc1 _ _ _ _ _ _,p=>nomatch p
theorem FVs.dvs{O:Addr->Prop}{H:Hp}:∀{vs:List V}{ds:List D},FVs K O H vs ds->D.plains ds=true->DVs K H vs (D.pys ds)
 | _,_,.nil,_=>.nil
 | _,_,.cons a b,p=>by
  have p:(_ && _)=true:=p;rw [and_eq_true] at p;exact .cons (FV.dv a p.1) (FVs.dvs b p.2)
end
theorem FVc.dv{O:Addr->Prop}{H:Hp}{v:V}{d:D}(h:FVc K O H v d)(p:d.plain=true):DV K H v d.py:=by
 rcases h with h|⟨a,xs,ds',rfl,rfl,e3,f⟩|⟨a,dx,c,fs,ns,ds',e1,rfl,_⟩
 .exact h.dv p
 .exact .lst (SqL.of e3) (f.dvs p)
 .cases p
def BQ(K:PySem.W.Frag)(neg:Bool):R2:=fun x y H Q=>rI0 (fun i j=>.bl (if neg then !decide (i=j) else decide (i=j))) x y H Q\/(∃i j,x=.str (S i)/\y=.str (S j)/\Q (.bl (if neg then !decide (i=j) else decide (i=j))) H)\/Df K neg x y H Q
theorem EE(K:PySem.W.Frag)(e:X.K=K)(hu:X.A.units+64<cLine):OpR X (compareOp .Eq) (BQ K false):=by
 subst e;exact OpR.or BC (OpR.or BA (Bx hu))
theorem EF(K:PySem.W.Frag)(e:X.K=K)(hu:X.A.units+64<cLine):OpR X (compareOp .NotEq) (BQ K true):=by
 subst e;exact OpR.or BD (OpR.or BB (By hu))
def uE(a b:D):Prop:=a.plain=true/\b.plain=true/\SeqAt.shaped a.py=true/\SeqAt.shaped b.py=true
def deq(a b:D):Bool:=PyData.eqv a.py b.py
def fEq:F2
 | .int i,.int j,Q=>Q (.dat (.bl (decide (i=j))))
 | .str i,.str j,Q=>Q (.dat (.bl (decide (i=j))))
 | a,b,Q=>uE a b/\Q (.dat (.bl (deq a b)))
def fNe:F2
 | .int i,.int j,Q=>Q (.dat (.bl (!decide (i=j))))
 | .str i,.str j,Q=>Q (.dat (.bl (!decide (i=j))))
 | a,b,Q=>uE a b/\Q (.dat (.bl (!deq a b)))
theorem Dw:LO K (BQ K false) fEq:=by
 intro O H x y a b Q Q' dom fx fy q k;unfold fEq at q
 split at q
 .rename_i i j;exact .inl ⟨i,j,fx.int,fy.int,k _ H _ q (Gr.refl _) (.bl _)⟩
 .rename_i i j;exact .inr (.inl ⟨i,j,fx.str.1,fy.str.1,k _ H _ q (Gr.refl _) (.bl _)⟩)
 .exact .inr (.inr ⟨_,_,fx.dv q.1.1,fy.dv q.1.2.1,q.1.2.2.1,q.1.2.2.2,k _ H _ q.2 (Gr.refl _) (.bl _)⟩)
theorem Dx:LO K (BQ K true) fNe:=by
 intro O H x y a b Q Q' dom fx fy q k;unfold fNe at q
 split at q
 .rename_i i j;exact .inl ⟨i,j,fx.int,fy.int,k _ H _ q (Gr.refl _) (.bl _)⟩
 .rename_i i j;exact .inr (.inl ⟨i,j,fx.str.1,fy.str.1,k _ H _ q (Gr.refl _) (.bl _)⟩)
 .exact .inr (.inr ⟨_,_,fx.dv q.1.1,fy.dv q.1.2.1,q.1.2.2.1,q.1.2.2.2,k _ H _ q.2 (Gr.refl _) (.bl _)⟩)
def Ee(neg:Bool):R2:=fun x y H Q=>(∃b c,x=.bl b/\y=.bl c/\Q (.bl (if neg then !decide (b=c) else decide (b=c))) H)\/(y=.non/\Q (.bl (if neg then !decide (x=.non) else decide (x=.non))) H)
theorem Ef:OpR X (compareOp .Is) (Ee false):=OpR.or BM Bj
def D.isNon:D->Bool
 | .non=>true
 | _=>false
theorem FVc.isNon{O:Addr->Prop}{H:Hp}{v:V}{d:D}(h:FVc K O H v d):decide (v=.non)=d.isNon:=by
 rcases h with h|⟨a,xs,ds',rfl,rfl,e3,f⟩|⟨a,dx,c,fs,ns,ds',rfl,rfl,_⟩
 .cases h <;> rfl
 .rfl
 .rfl
def fIs(neg:Bool):F2
 | .bl b,.bl c,Q=>Q (.dat (.bl (if neg then !decide (b=c) else decide (b=c))))
 | a,.non,Q=>Q (.dat (.bl (if neg then !a.isNon else a.isNon)))
 | _,_,_=>False
theorem BR{neg:Bool}:LO K (Ee neg) (fIs neg):=by
 intro O H x y a b Q Q' dom fx fy q k;unfold fIs at q
 split at q
 .rename_i b c;exact .inl ⟨b,c,fx.bl,fy.bl,k _ H _ q (Gr.refl _) (.bl _)⟩
 .exact .inr ⟨fy.non,by rw [fx.isNon];exact k _ H _ q (Gr.refl _) (.bl _)⟩
 .exact q.elim
def uF(K:PySem.W.Frag):R2:=fun x y H Q=>D3 K x y H Q\/D4 K x y H Q\/Bz x y H Q
theorem du(K:PySem.W.Frag)(e:X.K=K):IxR X (uF K):=by
 subst e;exact IxR.or zn (IxR.or Bm zt)
def fIx:F2
 | .lst ds,.int i,Q=>∃d,atI ds i=some d/\Q (.dat d)
 | .tup ds,.int i,Q=>∃d,atI ds i=some d/\Q (.dat d)
 | .scr ns,.int i,Q=>∃d,atI ns i=some d/\Q (.dat (.int d))
 | .str l,.int i,Q=>∃c,atI l i=some c/\Q (.dat (.str [c]))
 | _,_,_=>False
theorem FVs.atI{O:Addr->Prop}{H:Hp}{vs:List V}{ds:List D}{i:Int}{d:D}(f:FVs K O H vs ds)(h:L2.atI ds i=some d):∃v,L2.atI vs i=some v/\FV K O H v d:=by
 unfold L2.atI at h ⊢;rw [f.length]
 cases e:ixN ds.length i with
 | none=>rw [e] at h;cases h
 | some j=>rw [e] at h;exact f.getD h
theorem bI:LO K (uF K) fIx:=by
 intro O H x y a b Q Q' dom fx fy q k;unfold fIx at q
 split at q
 .obtain⟨d,hd,q⟩:=q;obtain⟨p,xs,rfl,e1,f1⟩:=fx.lst;obtain⟨v,hv,fv⟩:=f1.atI hd;exact .inl ⟨p,xs,_,v,rfl,fy.int,SqL.of e1,hv,k _ H _ q (Gr.refl _) fv⟩
 .obtain⟨d,hd,q⟩:=q;obtain⟨p,xs,rfl,n1,e1,f1⟩:=fx.tup;obtain⟨v,hv,fv⟩:=f1.atI hd;exact .inr (.inl ⟨p,xs,_,v,rfl,fy.int,SqT.of e1,hv,k _ H _ q (Gr.refl _) fv⟩)
 .obtain⟨d,hd,q⟩:=q;obtain⟨p,rfl,e1⟩:=fx.scr;exact .inl ⟨p,_,_,_,rfl,fy.int,e1,zv hd,k _ H _ q (Gr.refl _) (.int d)⟩
 .obtain⟨c,hc,q⟩:=q;exact .inr (.inr ⟨_,_,c,fx.str.1,fy.int,sz _ fx.str.2,hc,k _ H _ q (Gr.refl _) (.str _ (by show 1<=1000000;decide))⟩)
 .exact q.elim
end
end L2
namespace L2
open PySem PySem.Spec PyProof.Rows _root_.HT
section
variable {prog:Program}{w:World}{A:Around}{E:Value->Shared->Prop}{s:Shared}
theorem kf{t sl:Addr}{items:Array Value}{vl vu:Value}{lo hi:Option Int}{Q:Value->Shared->Prop}(ht:IsTup s.heap t items)(hs:s.heap.IsSliceOf sl vl vu .none)(pl:IsPart vl lo)(pu:IsPart vu hi)
  (hw:sIx items.size 0 lo=0/\sIx items.size items.size hi=items.size)
  (h:Q (.ref t) s):wpAny (model prog w) A (getItem (.ref t) (.ref sl)) Q E s:=by
 obtain⟨os,hos,hcs,hds⟩:=id hs;have hTs:s.TypeIs (.ref sl) "slice":=⟨os,hos,hcs⟩
 unfold getItem
 try with_reducible refine wpAny_holding ?_
 first|refine wpAny_bind (wpAny_pure ?_)|skip
 refine wpAny_bind (wpAny_sequenceKey ht.typeIs (by decide) ?_)
 refine wpAny_bind (wpAny_callSpecial?_slot (name:=Str.ofString "__getitem__") ht.typeIs PyProof.Rows.slot_tuple_getitem
  (wpAny_call_entry PyProof.Rows.slot_tuple_getitem ht.typeIs entry_tuple_getitem ?_ (args_tuple_getitem _ _)))
 show wpAny _ _ (Builtin.Tuple.tupleItemsOf (.ref t) >>= _) _ _ s;refine wpAny_bind (tupleItemsOf_ ht ?_);refine wpAny_bind (wpAny_typeOf hTs ?_);rw [if_pos (by decide)];refine wpAny_bind (ik hs pl pu ?_)
 have hyes:(((sIx items.size 0 lo:Nat):Int) == 0 && (1:Int) == 1 && (sIx items.size items.size hi - sIx items.size 0 lo) == items.size)=true:=by
  rw [hw.1,hw.2,Nat.sub_zero];simp
 show wpAny _ _ (if (((sIx items.size 0 lo:Nat):Int) == 0 && (1:Int) == 1 && (sIx items.size items.size hi - sIx items.size 0 lo) == items.size)=true then _ else _) _ _ s;rw [if_pos hyes];refine wpAny_bind (m:=Builtin.Tuple.tupleIsExact _) (wpAny_bind (wpAny_typeOf ht.typeIs (wpAny_pure ?_)));rw [if_pos (by decide)]
 first
  | exact wpAny_bind (m:=rule _) (wpAny_pure (wpAny_pure ⟨_,rfl,wpAny_pure h⟩))
  | exact wpAny_pure ⟨_,rfl,wpAny_pure h⟩
  | exact wpAny_bind (wpAny_rule (wpAny_pure ⟨_,rfl,wpAny_pure h⟩))
def BS(K:PySem.W.Frag):V->Option Int->Option Int->Hp->VK->Prop:=fun x lo hi H Q=>∃a xs,x=.ref a/\SqT K H a xs/\(sIx xs.length 0 lo=0/\sIx xs.length xs.length hi=xs.length)/\Q (.ref a) H
theorem zJ{X:Cx}:SlR X (BS X.K):=by
 intro pins s σ H x v vl vu lo hi sl Q I rx hs pl pu h;obtain⟨a,xs,rfl,hx,hw,q⟩:=h;cases rx;obtain⟨its,r,ht,hz⟩:=I.tuple hx;have hlen:its.toArray.size=xs.length:=by rw [size_toArray];exact r.length.symm
 refine⟨"tuple",_,PyProof.Rows.slot_tuple_getitem.lookup,ht.typeIs,?_⟩;exact kf ht hs pl pu (by rw [hlen];exact hw) ⟨.ref a,H,I,rfl,q⟩
end
end L2
namespace L2
open PySem PySem.Spec PyProof.Rows
section
variable {K:PySem.W.Frag}{X:Cx}{ta tb tc to:TE}{pa pb pc:PA1}{pe:PTE}{tr:TA}{pr:PTA}
def ql(f f':F2)(pa pb pc:PA1):PTE:=fun ρ Q=>pa ρ fun x ρ1=>pb ρ1 fun y ρ2=>op2 f ρ2 x y fun p ρ3=>match p with
 | .dat (.bl k)=>jB k (pc ρ3 fun z ρ4=>op2 f' ρ4 y z Q) (Q (.dat (.bl false)) ρ3)
 | _=>False
theorem ly{r r':R2}{f f':F2}(o:LO K r f)(o':LO K r' f')(ha:LA1 K ta pa)(hb:LA1 K tb pb)(hc:LA1 K tc pc):LE K (sH r r' ta tb tc) (ql f f' pa pb pc):=fun A ρ σ H Q Q' R q k =>
 ha A ρ σ H _ _ R q fun v H1 a ρ1 q1 f1 R1 o1=>hb A ρ1 σ H1 _ _ R1 q1 fun w H2 b ρ2 q2 f2 R2 o2=>by
  unfold op2 at q2
  split at q2
  .rename_i da db e1 e2;refine o _ H2 v w da db _ _ R2.dom2 (R2.cont (o1.keeps f2.keeps) e1) (R2.cont o2 e2) q2 fun z H3 p q3 g ov=>?_;dsimp only at q3
   split at q3
   .rename_i c;cases ov;refine⟨c,rfl,?_⟩;have R3:=R2.gr g
    cases c with
    | true =>
     refine hc A ρ2 σ H3 _ _ R3 q3 fun u H4 cc ρ4 q4 f4 R4 o4=>?_
     try unfold op2 at q4
     split at q4
     .rename_i dc dd e3 e4;have o2':AOk K (OO A ρ4 σ) σ H4 b w:=(o2.keeps (g.fr (ρ:=ρ2) (σ:=σ)).keeps).keeps f4.keeps;exact o' _ H4 w u _ _ _ _ R4.dom2 (R4.cont o2' e3) (R4.cont o4 e4) q4 fun z H5 p q5 g5 ov=>k z H5 p ρ4 q5 ((((f1.trans f2).trans g.fr).trans f4).trans g5.fr) ((ov.out R4 g5).h0 fun b z=>f4.dm b ((g.fr (ρ:=ρ2) (σ:=σ)).dm b (f2.dm b (f1.dm b z))))
     .exact q4.elim
    | false=>exact k _ H3 _ ρ2 q3 ((f1.trans f2).trans g.fr) ⟨R3,.bl false⟩
   .exact q3.elim
  .exact q2.elim
abbrev PTO:=PSt->(Option Int->PSt->Prop)->Prop
def LPo(K:PySem.W.Frag)(t:TO)(p:PTO):Prop:=∀(A:Addr->Prop) (ρ:PSt) (σ:St) (H:Hp) (Q:Option Int->PSt->Prop) (Q':Option Int->Hp->Prop),Rel K A ρ σ H->p ρ Q ->
 (∀b H' ρ',Q b ρ'->Fr ρ σ H ρ' H'->Rel K A ρ' σ H'->Q' b H')->t σ H Q'
def kJ:PTO:=fun ρ Q=>Q none ρ
def im(pe:PTE):PTO:=fun ρ Q=>pe ρ fun p ρ1=>match p with
 | .dat (.int i)=>Q (some i) ρ1
 | _=>False
theorem gK:LPo K ou kJ:=fun A ρ σ H Q Q' R q k=>k none H ρ q (Fr.refl _ _ _) R
theorem dA(h:LE K ta pe):LPo K (w4 ta) (im pe):=fun A ρ σ H Q Q' R q k=>h A ρ σ H _ _ R q fun v H1 p ρ1 q1 f1 o1=>by
 split at q1
 .rename_i i;obtain⟨R1,f⟩:=o1;cases f;exact⟨i,rfl,k _ H1 ρ1 q1 f1 R1⟩
 .exact q1.elim
def BU(K:PySem.W.Frag):V->Option Int->Option Int->Hp->VK->Prop:=fun x lo hi H Q=>D5 K x lo hi H Q\/D9 x lo hi H Q\/D2 K x lo hi H Q\/BS K x lo hi H Q
theorem xt(K:PySem.W.Frag)(e:X.K=K):SlR X (BU K):=by
 subst e;exact SlR.or zo (SlR.or Bw (SlR.or Bk zJ))
def fSl:D->Option Int->Option Int->(PV->Prop)->Prop
 | .lst ds,lo,hi,Q=>Q (.own (il ds lo hi))
 | .scr ns,lo,hi,Q=>Q (.own ((il ns lo hi).map .int))
 | .str l,lo,hi,Q=>Q (.dat (.str (il l lo hi)))
 | .tup ds,lo,hi,Q=>Q (.dat (.tup (il ds lo hi)))
 | _,_,_,_=>False
theorem FVs.cut{O:Addr->Prop}{H:Hp}{xs:List V}{ds:List D}(f:FVs K O H xs ds)(lo hi:Option Int):FVs K O H (il xs lo hi) (il ds lo hi):=by
 unfold il;rw [f.length];exact (f.drop _).take _
def jf(pa:PA1)(pl ph:PTO):PTE:=fun ρ Q=>pa ρ fun x ρ1=>pl ρ1 fun lo ρ2=>ph ρ2 fun hi ρ3=>match cont ρ3 x with
 | some d=>fSl d lo hi fun p=>Q p ρ3
 | _=>False
theorem zK{α:Type}{ds:List α}{lo hi:Option Int}{n:Nat}(h:n=ds.length)(hw:HT.sIx n 0 lo=0/\HT.sIx n n hi=n):il ds lo hi=ds:=by
 subst h;unfold il;rw [hw.1,hw.2,drop_zero,Nat.sub_zero,take_length]
theorem lsl{O:Addr->Prop}{H:Hp}{x:V}{d:D}{lo hi:Option Int}{Q:PV->Prop}{Q':VK}(dom:∀b,O b->H b≠none)(fx:FVc K O H x d)(q:fSl d lo hi Q)(k:∀v H' p,Q p->Gr H H'->qh K O H H' p v->Q' v H'):BU K x lo hi H Q':=by
 unfold fSl at q
 split at q
 .obtain⟨a,xs,rfl,e1,f1⟩:=fx.lst;exact .inl ⟨a,xs,rfl,SqL.of e1,fun p hp=>k _ _ _ q (Gr.new hp) (e7 hp (f1.cut _ _))⟩
 .obtain⟨a,rfl,e1⟩:=fx.scr;exact .inl ⟨a,_,rfl,e1,fun p hp=>k _ _ _ q (Gr.new hp) (e7 hp (by rw [vd,xf];exact FVs.of_ints _))⟩
 .exact .inr (.inl ⟨_,fx.str.1,sz _ fx.str.2,k _ H _ q (Gr.refl _) (.str _ (le_trans (nq _ _ _) fx.str.2))⟩)
 .obtain⟨a,xs,rfl,n1,e1,f1⟩:=fx.tup
  by_cases hw:HT.sIx xs.length 0 lo=0/\HT.sIx xs.length xs.length hi=xs.length
  .refine .inr (.inr (.inr ⟨a,xs,rfl,SqT.of e1,hw,k _ H _ q (Gr.refl _) ?_⟩));rw [zK f1.length hw];exact .tup n1 e1 f1
  .exact .inr (.inr (.inl ⟨a,xs,rfl,SqT.of e1,hw,fun p hp=>k _ _ _ q (Gr.new hp) (lN dom hp (f1.cut _ _))⟩))
 .exact q.elim
theorem eQ{tl th:TO}{pl ph:PTO}(ha:LA1 K ta pa)(hl:LPo K tl pl)(hh:LPo K th ph):LE K (tSl (BU K) ta tl th) (jf pa pl ph):=fun A ρ σ H Q Q' R q k =>
 ha A ρ σ H _ _ R q fun v H1 a ρ1 q1 f1 R1 o1=>hl A ρ1 σ H1 _ _ R1 q1 fun lo H2 ρ2 q2 f2 R2=>hh A ρ2 σ H2 _ _ R2 q2 fun hi H3 ρ3 q3 f3 R3=>by
  split at q3
  .rename_i d e1;exact lsl R3.dom2 (R3.cont (o1.keeps (f2.trans f3).keeps) e1) q3 fun z H4 p q4 g ov=>k z H4 p ρ3 q4 (((f1.trans f2).trans f3).trans g.fr) ((ov.out R3 g).h0 fun b z=>f3.dm b (f2.dm b (f1.dm b z)))
  .exact q3.elim
abbrev FN:=List D->(PV->Prop)->Prop
def uf(K:PySem.W.Frag):List V->Hp->VK->Prop:=fun xs H Q=>(∃l,xs=[.str (S l)]/\l.length<=sizeLine/\Q (.int l.length) H)\/Dm K xs H Q\/Dn K xs H Q\/∃p kvs,xs=[.ref p]/\Rd H p (.dK kvs)/\Q (.int kvs.length) H
theorem cC(K:PySem.W.Frag)(e:X.K=K):cK X (.builtin "len") (uf K):=by
 subst e;exact cK.or vi (cK.or vj (cK.or vk vz))
def fE:FN
 | [.str l],Q=>Q (.dat (.int l.length))
 | [.lst l],Q=>Q (.dat (.int l.length))
 | [.tup l],Q=>Q (.dat (.int l.length))
 | [.scr l],Q=>Q (.dat (.int l.length))
 | [.dic ks _],Q=>Q (.dat (.int ks.length))
 | _,_=>False
theorem bC:LC K (uf K) fE:=by
 intro O H xs as Q Q' dom fs q k;unfold fE at q
 split at q
 .cases fs with|cons a b=>cases b;rw [a.str.1];exact .inl ⟨_,rfl,sz _ a.str.2,k _ H _ q (Gr.refl _) (.int _)⟩
 .cases fs with
  | cons a b =>
   cases b;obtain⟨p,ys,rfl,e1,f1⟩:=a.lst;exact .inr (.inl ⟨p,ys,rfl,SqL.of e1,by rw [f1.length];exact k _ H _ q (Gr.refl _) (.int _)⟩)
 .cases fs with
  | cons a b =>
   cases b;obtain⟨p,ys,rfl,n1,e1,f1⟩:=a.tup;exact .inr (.inr (.inl ⟨p,ys,rfl,SqT.of e1,by rw [f1.length];exact k _ H _ q (Gr.refl _) (.int _)⟩))
 .cases fs with
  | cons a b =>
   cases b;obtain⟨p,rfl,e1⟩:=a.scr;exact .inr (.inl ⟨p,_,rfl,e1,by rw [length_map];exact k _ H _ q (Gr.refl _) (.int _)⟩)
 .cases fs with
  | cons a b =>
   cases b
   cases a.fv nofun nofun with
   | dic n e m f=>subst m;exact .inr (.inr (.inr ⟨_,_,rfl,.inl e,k _ H _ q (Gr.refl _) (by rw [length_map];exact .int _)⟩))
 .exact q.elim
inductive Kd where
 | int|bool|str|list|tuple|dict
def Kd.nm:Kd->String
 | .int=>"int"|.bool=>"bool"|.str=>"str"|.list=>"list"|.tuple=>"tuple"|.dict=>"dict"
def isK:Kd->D->Bool
 | .int,.int _=>true
 | .int,.bl _=>true
 | .bool,.bl _=>true
 | .str,.str _=>true
 | .list,.lst _=>true
 | .tuple,.tup _=>true
 | .dict,.dic _ _=>true
 | _,_=>false
def D.sort:D->Bool
 | .obj _ _ _=>false
 | .exc _ _ _=>false
 | .scr _=>false
 | .ty _=>false
 | _=>true
theorem FVc.ty{O:Addr->Prop}{H:Hp}{v:V}{d:D}(h:FVc K O H v d)(s:d.sort=true):∃t,pM K H v t/\∀k:Kd,PySem.W.kitOne K t (.type k.nm)=some (isK k d):=by
 rcases h with h|⟨a,xs,ds',rfl,rfl,e3,f⟩|⟨a,dx,c,fs,ns,ds',rfl,rfl,_⟩
 .cases h with
  | non=>exact⟨_,.non,fun k=>by cases k <;> rfl⟩
  | bl b=>exact⟨_,.bl b,fun k=>by cases k <;> rfl⟩
  | int i=>exact⟨_,.int i,fun k=>by cases k <;> rfl⟩
  | str l h=>exact⟨_,.str _,fun k=>by cases k <;> rfl⟩
  | ty n=>cases s
  | scr _=>cases s
  | lst n e f=>exact⟨_,.lst e,fun k=>by cases k <;> rfl⟩
  | tup n e f=>exact⟨_,.tup e,fun k=>by cases k <;> rfl⟩
  | dic n e m f=>exact⟨_,.dK e,fun k=>by cases k <;> rfl⟩
  | obj _ _ _ _=>cases s
  | exc0 _ _=>cases s
  | exc1 _ _ _ _ _ _=>cases s
 .exact⟨_,.lst e3,fun k=>by cases k <;> rfl⟩
 .cases s
theorem nr(K:PySem.W.Frag)(e:X.K=K):cK X (.builtin "isinstance") (Ea K):=by subst e;exact rm
def vF(k:Kd)(pa:PA1):PTE:=fun ρ Q=>pa ρ fun x ρ1=>match cont ρ1 x with
 | some d=>jB d.sort (Q (.dat (.bl (isK k d))) ρ1) False
 | _=>False
theorem jg(k:Kd)(ha:LA1 K ta pa):LE K (tCB (Ea K) (bR ta (bR (tC (.ty k.nm)) jO))) (vF k pa):=fun A ρ σ H Q Q' R q kk =>
 ha A ρ σ H _ _ R q fun v H1 a ρ1 q1 f1 R1 o1=>by
  split at q1
  .rename_i d e1
   cases hs:d.sort with
   | false=>rw [hs] at q1;exact q1.elim
   | true =>
    rw [hs] at q1;obtain⟨t,ty,hk⟩:=(R1.cont o1 e1).ty hs;exact⟨v,k.nm,t,isK k d,rfl,ty,hk k,kk _ H1 _ ρ1 q1 f1 ⟨R1,.bl _⟩⟩
  .exact q1.elim
def Eg(K:PySem.W.Frag):List V->Hp->VK->Prop:=fun xs H Q=>∃(x:V) (p:Addr) (ts:List String) (t:Value) (b:Bool),xs=[x,.ref p]/\pM K H x t/\H p=some (.tup (ts.map V.ty))/\PySem.W.kitAny K t (ts.map Value.type)=some b/\Q (.bl b) H
theorem Dy(K:PySem.W.Frag)(e:X.K=K):cK X (.builtin "isinstance") (Eg K):=by subst e;exact qg
def Eh(k l:Kd)(pa:PA1):PTE:=fun ρ Q=>pa ρ fun x ρ1=>match cont ρ1 x with
 | some d=>jB d.sort (Q (.dat (.bl (isK k d || isK l d))) ρ1) False
 | _=>False
theorem FVc.keeps{O O':Addr->Prop}{H H':Hp}{v:V}{d:D}(k:bo O H O' H')(g:Gr H H')(h:FVc K O H v d):FVc K O' H' v d:=by
 rcases h with h|⟨a,xs,ds',e1,e2,e3,f⟩|⟨a,dx,c,fs,ns,ds',e1,e2,e3,m,f⟩
 .exact .inl (h.keeps k)
 .exact .inr (.inl ⟨a,xs,ds',e1,e2,g _ _ e3,f.keeps k⟩)
 .exact .inr (.inr ⟨a,dx,c,fs,ns,ds',e1,e2,g _ _ e3,m,f.keeps k⟩)
theorem BV(k l:Kd)(hkl:∀t b c,PySem.W.kitOne K t (.type k.nm)=some b->PySem.W.kitOne K t (.type l.nm)=some c->PySem.W.kitAny K t [.type k.nm,.type l.nm]=some (b || c))(ha:LA1 K ta pa):LE K (tCB (Eg K) (bR ta (bR (AN (bR (tC (.ty k.nm)) (bR (tC (.ty l.nm)) jO))) jO))) (Eh k l pa):=fun A ρ σ H Q Q' R q kk =>
 ha A ρ σ H _ _ R q fun v H1 a ρ1 q1 f1 R1 o1=>by
  split at q1
  .rename_i d e1
   cases hs:d.sort with
   | false=>rw [hs] at q1;exact q1.elim
   | true =>
    rw [hs] at q1;refine⟨by show 2<=sizeLine;decide,fun p hp=>?_⟩;have g:Gr H1 (upd H1 p (.tup [V.ty k.nm,V.ty l.nm])):=Gr.new hp;obtain⟨t,ty,hk⟩:=((R1.cont o1 e1).keeps (g.fr (ρ:=ρ1) (σ:=σ)).keeps g).ty hs;exact⟨v,p,[k.nm,l.nm],t,_,rfl,ty,aQ,hkl _ _ _ (hk k) (hk l),kk _ _ _ ρ1 q1 (f1.trans g.fr) ⟨R1.gr g,.bl _⟩⟩
  .exact q1.elim
end
structure xu where
 nx:PSt->Prop
 rt:PV->PSt->Prop
 bk:PSt->Prop:=fun _=>False
 ct:PSt->Prop:=fun _=>False
abbrev PTS:=xu->PSt->Prop
structure dL (fx:List (Nat×V)) (R:Addr->Prop) (H0:Hp) (ρ:PSt) (σ:St) (H:Hp):Prop where
 kp:∀b o,¬ R b->H0 b=some o->H b=some o
 dm:∀b,H0 b≠none->H b≠none
 ow:∀b,Wr ρ σ b->R b\/H0 b=none
 fx:∀p∈fx,σ[p.1]?=some (some p.2)
section
variable {K:PySem.W.Frag}{fx:List (Nat×V)}{A R:Addr->Prop}{H0 H H':Hp}{ρ ρ':PSt}{σ:St}
theorem dL.fr(F:dL fx R H0 ρ σ H)(f:Fr ρ σ H ρ' H'):dL fx R H0 ρ' σ H' :=
 ⟨fun b o n e=>f.kp b o (fun w=>(F.ow b w).elim n (fun z=>by rw [z] at e;cases e)) (F.kp b o n e),fun b z=>f.dm b (F.dm b z),fun b w=>F.ow b (f.ow b w),F.fx⟩
theorem dL.start(hfx:∀p∈fx,σ[p.1]?=some (some p.2)):dL fx (Wr ρ σ) H ρ σ H:=⟨fun _ _ _ h=>h,fun _ h=>h,fun _ h=>.inl h,hfx⟩
theorem dL.keepsR{ρ1:PSt}{σ1:St}{H1:Hp}(F:dL fx R H1 ρ σ H)(hR:∀b,R b->OO A ρ1 σ1 b):bo (OO A ρ1 σ1) H1 (OO A ρ σ) H:=fun b o n e=>by
 refine⟨fun z=>?_,F.kp b o (fun z=>n (hR b z)) e⟩
 rcases z with z|z
 .exact n (.inl z)
 .rcases F.ow b z with z|z
  .exact n (hR b z)
  .rw [z] at e;cases e
theorem dL.keeps{ρ1:PSt}{σ1:St}{H1:Hp}(F:dL fx (Wr ρ1 σ1) H1 ρ σ H):bo (OO A ρ1 σ1) H1 (OO A ρ σ) H:=F.keepsR fun b z=>.inr z
theorem dL.trans{fx':List (Nat×V)}{ρ1:PSt}{σ1:St}{H1:Hp}(F:dL fx R H0 ρ1 σ1 H1)(G:dL fx' (Wr ρ1 σ1) H1 ρ σ H)(hfx:∀p∈fx,σ[p.1]?=some (some p.2)):dL fx R H0 ρ σ H:=by
 refine⟨fun b o n e=>G.kp b o (fun w=>(F.ow b w).elim n (fun z=>by rw [z] at e;cases e)) (F.kp b o n e),fun b z=>G.dm b (F.dm b z),fun b w=>?_,hfx⟩
 rcases G.ow b w with z|z
 .exact F.ow b z
 .refine .inr ?_
  cases e:H0 b with
  | none=>rfl
  | some o=>exact absurd z (F.dm b (by rw [e];exact nofun))
theorem Out.put{p:PV}{v:V}{i:Nat}(h:Out K A ρ σ H0 H p v):Rel K A (ρ.set i (some p)) (σ.set i (some v)) H/\∀b,Wr (ρ.set i (some p)) (σ.set i (some v)) b->Wr ρ σ b\/H0 b=none:=by
 have get:∀(j:Nat) (q:PV),(ρ.set i (some p))[j]?=some (some q)->(j=i/\q=p/\i<ρ.length)\/(j≠i/\ρ[j]?=some (some q)):=fun j q e=>by
  by_cases z:i=j
  .subst z
   by_cases hi:i<ρ.length
   .rw [getElem?_set_self hi] at e;cases e;exact .inl ⟨rfl,rfl,hi⟩
   .rw [getElem?_eq_none (by rw [length_set];omega)] at e;cases e
  .rw [getElem?_set_ne z] at e;exact .inr ⟨fun q=>z q.symm,e⟩
 cases p with
 | dat d =>
  obtain⟨R1,f⟩:=h
  have ow:∀b,Wr (ρ.set i (some (.dat d))) (σ.set i (some v)) b->Wr ρ σ b:=fun b ⟨j,r,e1,o1,s1⟩=>by
   rcases get j r e1 with ⟨_,rfl,_⟩|⟨n,e⟩
   .cases o1
   .rw [getElem?_set_ne (fun z=>n z.symm)] at s1;exact⟨j,r,e,o1,s1⟩
  have k:bo (OO A ρ σ) H (OO A (ρ.set i (some (.dat d))) (σ.set i (some v))) H:=bo.less fun b z=>z.imp id (ow b)
  refine⟨⟨by rw [length_set,length_set];exact R1.len,fun j r e1=>?_,fun j l p1 q1 v' e1 e2 o1 o2 s1 s2=>?_,R1.dom,fun b z w=>R1.sep b z (ow b w)⟩,fun b w=>.inl (ow b w)⟩
  .rcases get j r e1 with ⟨rfl,rfl,hi⟩|⟨n,e⟩
   .exact⟨v,getElem?_set_self (by rw [<- R1.len];exact hi),f.keeps k⟩
   .obtain⟨u,s,r'⟩:=R1.get j r e;exact⟨u,by rw [getElem?_set_ne (fun z=>n z.symm)];exact s,r'.keeps k fun _ _ _=>rfl⟩
  .rcases get j p1 e1 with ⟨_,rfl,_⟩|⟨n1,e1⟩
   .cases o1
   .rcases get l q1 e2 with ⟨_,rfl,_⟩|⟨n2,e2⟩
    .cases o2
    .rw [getElem?_set_ne (fun z=>n1 z.symm)] at s1;rw [getElem?_set_ne (fun z=>n2 z.symm)] at s2;exact R1.dj j l p1 q1 v' e1 e2 o1 o2 s1 s2
 | own ds =>
  obtain⟨a,xs,rfl,na,hn,e0,R1,f⟩:=h
  have ow:∀b,Wr (ρ.set i (some (.own ds))) (σ.set i (some (.ref a))) b->Wr ρ σ b\/b=a:=fun b ⟨j,r,e1,o1,s1⟩=>by
   rcases get j r e1 with ⟨rfl,rfl,hi⟩|⟨n,e⟩
   .rw [getElem?_set_self (by rw [<- R1.len];exact hi)] at s1;cases s1;exact .inr rfl
   .rw [getElem?_set_ne (fun z=>n z.symm)] at s1;exact .inl ⟨j,r,e,o1,s1⟩
  have k:bo (OO (iu A a) ρ σ) H (OO A (ρ.set i (some (.own ds))) (σ.set i (some (.ref a)))) H:=bo.less fun b z=>by
   rcases z with z|z
   .exact .inl (.inl z)
   .rcases ow b z with z|z
    .exact .inr z
    .exact .inl (.inr z)
  refine⟨⟨by rw [length_set,length_set];exact R1.len,fun j r e1=>?_,fun j l p1 q1 v' e1 e2 o1 o2 s1 s2=>?_,fun b z=>R1.dom b (.inl z),fun b z w=>?_⟩,fun b w=>(ow b w).imp id fun z=>by rw [z];exact hn⟩
  .rcases get j r e1 with ⟨rfl,rfl,hi⟩|⟨n,e⟩
   .exact⟨_,getElem?_set_self (by rw [<- R1.len];exact hi),a,xs,rfl,e0,f.keeps k⟩
   .obtain⟨u,s,r'⟩:=R1.get j r e;exact⟨u,by rw [getElem?_set_ne (fun z=>n z.symm)];exact s,r'.keeps k fun _ _ _=>rfl⟩
  .rcases get j p1 e1 with ⟨rfl,rfl,hi⟩|⟨n1,e1'⟩
   .rw [getElem?_set_self (by rw [<- R1.len];exact hi)] at s1;cases s1
    rcases get l q1 e2 with ⟨rfl,rfl,_⟩|⟨n2,e2⟩
    .rfl
    .rw [getElem?_set_ne (fun z=>n2 z.symm)] at s2;exact absurd ⟨l,q1,e2,o2,s2⟩ (R1.sep a (.inr rfl))
   .rw [getElem?_set_ne (fun z=>n1 z.symm)] at s1
    rcases get l q1 e2 with ⟨rfl,rfl,hi⟩|⟨n2,e2⟩
    .rw [getElem?_set_self (by rw [<- R1.len];exact hi)] at s2;cases s2;exact absurd ⟨j,p1,e1',o1,s1⟩ (R1.sep a (.inr rfl))
    .rw [getElem?_set_ne (fun z=>n2 z.symm)] at s2;exact R1.dj j l p1 q1 v' e1' e2 o1 o2 s1 s2
  .rcases ow b w with w|w
   .exact R1.sep b (.inl z) w
   .rw [w] at z;exact na z
 | ins c ns ds =>
  obtain⟨a,dx,fs,rfl,na,hn,e0,m,R1,f⟩:=h
  have ow:∀b,Wr (ρ.set i (some (.ins c ns ds))) (σ.set i (some (.ref a))) b->Wr ρ σ b\/b=a:=fun b ⟨j,r,e1,o1,s1⟩=>by
   rcases get j r e1 with ⟨rfl,rfl,hi⟩|⟨n,e⟩
   .rw [getElem?_set_self (by rw [<- R1.len];exact hi)] at s1;cases s1;exact .inr rfl
   .rw [getElem?_set_ne (fun z=>n z.symm)] at s1;exact .inl ⟨j,r,e,o1,s1⟩
  have k:bo (OO (iu A a) ρ σ) H (OO A (ρ.set i (some (.ins c ns ds))) (σ.set i (some (.ref a)))) H:=bo.less fun b z=>by
   rcases z with z|z
   .exact .inl (.inl z)
   .rcases ow b z with z|z
    .exact .inr z
    .exact .inl (.inr z)
  refine⟨⟨by rw [length_set,length_set];exact R1.len,fun j r e1=>?_,fun j l p1 q1 v' e1 e2 o1 o2 s1 s2=>?_,fun b z=>R1.dom b (.inl z),fun b z w=>?_⟩,fun b w=>(ow b w).imp id fun z=>by rw [z];exact hn⟩
  .rcases get j r e1 with ⟨rfl,rfl,hi⟩|⟨n,e⟩
   .exact⟨_,getElem?_set_self (by rw [<- R1.len];exact hi),a,dx,fs,rfl,e0,m,f.keeps k⟩
   .obtain⟨u,s,r'⟩:=R1.get j r e;exact⟨u,by rw [getElem?_set_ne (fun z=>n z.symm)];exact s,r'.keeps k fun _ _ _=>rfl⟩
  .rcases get j p1 e1 with ⟨rfl,rfl,hi⟩|⟨n1,e1'⟩
   .rw [getElem?_set_self (by rw [<- R1.len];exact hi)] at s1;cases s1
    rcases get l q1 e2 with ⟨rfl,rfl,_⟩|⟨n2,e2⟩
    .rfl
    .rw [getElem?_set_ne (fun z=>n2 z.symm)] at s2;exact absurd ⟨l,q1,e2,o2,s2⟩ (R1.sep a (.inr rfl))
   .rw [getElem?_set_ne (fun z=>n1 z.symm)] at s1
    rcases get l q1 e2 with ⟨rfl,rfl,hi⟩|⟨n2,e2⟩
    .rw [getElem?_set_self (by rw [<- R1.len];exact hi)] at s2;cases s2;exact absurd ⟨j,p1,e1',o1,s1⟩ (R1.sep a (.inr rfl))
    .rw [getElem?_set_ne (fun z=>n2 z.symm)] at s2;exact R1.dj j l p1 q1 v' e1' e2 o1 o2 s1 s2
  .rcases ow b w with w|w
   .exact R1.sep b (.inl z) w
   .rw [w] at z;exact na z
end
abbrev PTG:=PV->PSt->(PSt->Prop)->Prop
abbrev yw:=List D->PSt->(PSt->Prop)->Prop
def LG(K:PySem.W.Frag)(fs:List Nat)(g:TG)(pg:PTG):Prop:=∀(fx:List (Nat×V)) (A R:Addr->Prop) (H0:Hp) (ρ:PSt) (σ:St) (H:Hp) (p:PV) (v:V) (Q:PSt->Prop) (Q':St->Hp->Prop),fx.map Prod.fst=fs->dL fx R H0 ρ σ H->Out K A ρ σ H0 H p v->pg p ρ Q ->
 (∀ρ' σ' H',Q ρ'->Rel K A ρ' σ' H'->dL fx R H0 ρ' σ' H'->Q' σ' H')->g v σ H Q'
def LGs(K:PySem.W.Frag)(fs:List Nat)(g:TGs)(pg:yw):Prop:=∀(fx:List (Nat×V)) (A R:Addr->Prop) (H0:Hp) (ρ:PSt) (σ:St) (H:Hp) (ds:List D) (vs:List V) (Q:PSt->Prop) (Q':St->Hp->Prop),fx.map Prod.fst=fs->dL fx R H0 ρ σ H->Rel K A ρ σ H->FVs K (OO A ρ σ) H vs ds->pg ds ρ Q ->
 (∀ρ' σ',Q ρ'->Rel K A ρ' σ' H->dL fx R H0 ρ' σ' H->(∀b,Wr ρ' σ' b->Wr ρ σ b)->Q' σ' H)->g vs σ H Q'
def LGd(K:PySem.W.Frag)(fs:List Nat)(g:TG)(pg:PTG):Prop:=∀(fx:List (Nat×V)) (A R:Addr->Prop) (H0:Hp) (ρ:PSt) (σ:St) (H:Hp) (d:D) (v:V) (Q:PSt->Prop) (Q':St->Hp->Prop),fx.map Prod.fst=fs->dL fx R H0 ρ σ H->Rel K A ρ σ H->FV K (OO A ρ σ) H v d->pg (.dat d) ρ Q ->
 (∀ρ' σ',Q ρ'->Rel K A ρ' σ' H->dL fx R H0 ρ' σ' H->(∀b,Wr ρ' σ' b->Wr ρ σ b)->Q' σ' H)->g v σ H Q'
def ax(i:Nat):PTG:=fun p ρ Q=>Q (ρ.set i (some p))
def jU:yw:=fun ds ρ Q=>match ds with|[]=>Q ρ|_=>False
def cH(g:PTG)(gs:yw):yw:=fun ds ρ Q=>match ds with|d::r=>g (.dat d) ρ fun ρ1=>gs r ρ1 Q|[]=>False
section
variable {K:PySem.W.Frag}{fs:List Nat}
theorem dL.put{fx:List (Nat×V)}{R:Addr->Prop}{H0 H:Hp}{ρ:PSt}{σ:St}{i:Nat}{p:PV}{v:V}(hf:fx.map Prod.fst=fs)(hi:fs.contains i=false)(F:dL fx R H0 ρ σ H)(ow:∀b,Wr (ρ.set i (some p)) (σ.set i (some v)) b->Wr ρ σ b\/H0 b=none):dL fx R H0 (ρ.set i (some p)) (σ.set i (some v)) H :=
 ⟨F.kp,F.dm,fun b w=>(ow b w).elim (F.ow b) .inr,fun q hq=>by
  have:q.1≠i:=fun z=>by
   have h1:i∈fs:=by rw [<- hf,<- z];exact mem_map_of_mem hq
   rw [contains_iff_mem.mpr h1] at hi;cases hi
  rw [getElem?_set_ne (fun z=>this z.symm)];exact F.fx q hq⟩
theorem aE{i:Nat}(hi:fs.contains i=false):LG K fs (eV i) (ax i):=fun fx A R H0 ρ σ H p v Q Q' hf F o q k=>k _ _ _ q o.put.1 (F.put hf hi o.put.2)
theorem eG:LGs K fs AK jU:=fun fx A R H0 ρ σ H ds vs Q Q' hf F r fv q k=>by
 unfold jU at q
 split at q
 .cases fv;exact⟨rfl,k _ _ q r F fun _ h=>h⟩
 .exact q.elim
theorem aG{i:Nat}(hi:fs.contains i=false):LGd K fs (eV i) (ax i):=fun fx A R H0 ρ σ H d v Q Q' hf F r fv q k=>by
 have o:Out K A ρ σ H0 H (.dat d) v:=⟨r,fv⟩
 have ow:∀b,Wr (ρ.set i (some (.dat d))) (σ.set i (some v)) b->Wr ρ σ b:=fun b ⟨j,p,e1,o1,s1⟩=>by
  by_cases z:i=j
  .subst z
   by_cases hl:i<ρ.length
   .rw [getElem?_set_self hl] at e1;cases e1;cases o1
   .rw [getElem?_eq_none (by rw [length_set];omega)] at e1;cases e1
  .rw [getElem?_set_ne z] at e1 s1;exact⟨j,p,e1,o1,s1⟩
 exact k _ _ q o.put.1 (F.put hf hi o.put.2) ow
theorem bG{g:TG}{pg:PTG}{gs:TGs}{pgs:yw}(hg:LGd K fs g pg)(h:LGs K fs gs pgs):LGs K fs (m8 g gs) (cH pg pgs):=fun fx A R H0 ρ σ H ds vs Q Q' hf F r fv q k=>by
 unfold cH at q
 split at q
 .cases fv with
  | cons a b =>
   exact⟨_,_,rfl,hg fx A R H0 ρ σ H _ _ _ _ hf F r a q fun ρ1 σ1 q1 r1 F1 w1=>h fx A R H0 ρ1 σ1 H _ _ _ _ hf F1 r1 (b.keeps (bo.less fun b z=>z.imp id (w1 b))) q1 fun ρ2 σ2 q2 r2 F2 w2=>k ρ2 σ2 q2 r2 F2 fun b z=>w1 b (w2 b z)⟩
 .exact q.elim
end
def LS(K:PySem.W.Frag)(fs:List Nat)(ts:TS)(ps:PTS):Prop:=∀(fx:List (Nat×V)) (A R:Addr->Prop) (H0:Hp) (ρ:PSt) (σ:St) (H:Hp) (D:xu) (D':uC),fx.map Prod.fst=fs->Rel K A ρ σ H->dL fx R H0 ρ σ H->ps D ρ ->
 (∀ρ' σ' H',D.nx ρ'->Rel K A ρ' σ' H'->dL fx R H0 ρ' σ' H'->D'.nx σ' H') ->
 (∀v p ρ' σ' H',D.rt p ρ'->Out K A ρ' σ' H0 H' p v->dL fx R H0 ρ' σ' H'->D'.rt v H') ->
 (∀ρ' σ' H',D.bk ρ'->Rel K A ρ' σ' H'->dL fx R H0 ρ' σ' H'->D'.bk σ' H') ->
 (∀ρ' σ' H',D.ct ρ'->Rel K A ρ' σ' H'->dL fx R H0 ρ' σ' H'->D'.ct σ' H')->ts D' σ H
def a8:PTS:=fun D ρ=>D.nx ρ
def aH(a b:PTS):PTS:=fun D ρ=>a { D with nx:=b D } ρ
def io(pe:PTE):PTS:=fun D ρ=>pe ρ fun _ ρ1=>D.nx ρ1
def bh(pe:PTE):PTS:=fun D ρ=>pe ρ D.rt
def dO(t:PTT)(a b:PTS):PTS:=fun D ρ=>t ρ fun c ρ1=>jB c (a D ρ1) (b D ρ1)
def bD(pe:PTE)(g:PTG):PTS:=fun D ρ=>pe ρ fun p ρ1=>g p ρ1 D.nx
def dB(a:PTS):PTS:=fun D ρ=>∃J:PSt->Prop,a { D with nx:=J } ρ/\∀ρ',J ρ'->D.nx ρ'
section
variable {K:PySem.W.Frag}{fs:List Nat}{ta tb:TS}{pa pb:PTS}{te:TE}{pe:PTE}{tt:TT}{pt:PTT}
theorem aK:LS K fs zc a8:=fun fx A R H0 ρ σ H D D' hf r F q k1 k2 k3 k4=>k1 _ _ _ q r F
theorem ay(ha:LS K fs ta pa)(hb:LS K fs tb pb):LS K fs (CH ta tb) (aH pa pb):=fun fx A R H0 ρ σ H D D' hf r F q k1 k2 k3 k4 =>
 ha fx A R H0 ρ σ H _ _ hf r F q (fun ρ1 σ1 H1 q1 r1 F1=>hb fx A R H0 ρ1 σ1 H1 _ _ hf r1 F1 q1 k1 k2 k3 k4) k2 k3 k4
theorem gL(h:LE K te pe):LS K fs (wT te) (io pe):=fun fx A R H0 ρ σ H D D' hf r F q k1 k2 k3 k4=>h A ρ σ H _ _ r q fun v H1 p ρ1 q1 f1 o1=>k1 _ _ _ q1 o1.frz.1 (F.fr f1)
theorem aL(h:LE K te pe):LS K fs (CS te) (bh pe):=fun fx A R H0 ρ σ H D D' hf r F q k1 k2 k3 k4=>h A ρ σ H _ _ r q fun v H1 p ρ1 q1 f1 o1=>k2 v p ρ1 σ H1 q1 (o1.h0 F.dm) (F.fr f1)
theorem b6(ht:LT K tt pt)(ha:LS K fs ta pa)(hb:LS K fs tb pb):LS K fs (CT tt ta tb) (dO pt pa pb):=fun fx A R H0 ρ σ H D D' hf r F q k1 k2 k3 k4=>ht A ρ σ H _ _ r q fun c H1 ρ1 q1 f1 r1=>by
 cases c with
 | true=>exact ha fx A R H0 ρ1 σ H1 D D' hf r1 (F.fr f1) q1 k1 k2 k3 k4
 | false=>exact hb fx A R H0 ρ1 σ H1 D D' hf r1 (F.fr f1) q1 k1 k2 k3 k4
theorem aR{g:TG}{pg:PTG}(h:LE K te pe)(hg:LG K fs g pg):LS K fs (AL te g) (bD pe pg):=fun fx A R H0 ρ σ H D D' hf r F q k1 k2 k3 k4=>h A ρ σ H _ _ r q fun v H1 p ρ1 q1 f1 o1 =>
 hg fx A R H0 ρ1 σ H1 p v _ _ hf (F.fr f1) (o1.h0 F.dm) q1 k1
theorem cO(h:LS K fs ta pa):LS K fs (BH ta) (dB pa):=fun fx A R H0 ρ σ H D D' hf r F q k1 k2 k3 k4=>by
 obtain⟨J,q1,q2⟩:=q;refine⟨fun σ' H'=>∃ρ',J ρ'/\Rel K A ρ' σ' H'/\dL fx R H0 ρ' σ' H',?_,fun σ' H' ⟨ρ',j,r',F'⟩=>k1 ρ' σ' H' (q2 ρ' j) r' F'⟩;exact h fx A R H0 ρ σ H _ _ hf r F q1 (fun ρ' σ' H' j r' F'=>⟨ρ',j,r',F'⟩) k2 k3 k4
end
def ug(K:PySem.W.Frag)(tl:TE):TI:=fun σ H R=>tl σ H fun x H1=>(∃k a xs,x=.ref a/\Sq k K H1 a xs/\R (Itk k K a) H1)\/∃l,x=.str (S l)/\R (Its (cT l)) H1
section
variable {X:Cx}{tg:Expr}
theorem zL{l:Expr}{tl:TE}(hl:PE X l tl):PI X tg l (ug X.K tl):=by
 intro pins s σ H R I h;refine thn (hl pins s σ H _ I h) fun v s1 ⟨x,H1,I1,r1,q1⟩=>?_
 have fin:∀b∈[s1.heap.objs.size],tN X pins H1 b:=fun b hb=>by
  have e:b=s1.heap.objs.size:=by simpa using hb
  subst e;exact I1.fpOk (Nat.le_refl _) (I1.hok.fresh (Nat.le_refl _))
 rcases q1 with ⟨k,a,xs,e,hq,q⟩|⟨l,e,q⟩
 .subst e;cases r1
  cases k with
  | false =>
   obtain⟨its,rv,p,hz⟩:=I1.list hq;refine wpAny_pyIter_list p.isList ?_;exact⟨s1.heap.objs.size,[s1.heap.objs.size],_,_,H1,rfl,I1.kept (t':=s1.toks) fun b o e=>Heap.get?_push_of_some _ e,uN a _,⟨_,Heap.get?_push_size _ rfl,rfl,rfl⟩,fin,q⟩
  | true =>
   obtain⟨its,rv,p,hz⟩:=I1.tuple hq;refine wpAny_pyIter_tuple (show s1.heap.IsTuple a its.toArray from p) ?_;exact⟨s1.heap.objs.size,[s1.heap.objs.size],_,_,H1,rfl,I1.kept (t':=s1.toks) fun b o e=>Heap.get?_push_of_some _ e,tO a _,⟨_,Heap.get?_push_size _ rfl,rfl,rfl⟩,fin,q⟩
 .subst e;obtain⟨t,rfl⟩:=r1
  have hv:∀i v,i<(S l).cps.size->SignAt (S l) i v->∃x,(cT l)[i]?=some x/\eo x v:=fun i v _ ⟨c,u,hc,e⟩=>by
   subst e;have hc':l[i]?=some c:=by simpa [S] using hc
   exact⟨.str (S [c]),by unfold cT;rw [getElem?_map,hc'];rfl,u,rfl⟩
  have hsc:∀i v,SignAt (S l) i v->∀a,v≠.ref a:=fun i v ⟨c,u,hc,e⟩ a z=>by subst e;cases z
  have hn:(cT l).length=(S l).cps.size:=by rw [cU];simp [S]
  have hobj:∀ty i (h:Heap),h.IsStrIter s1.heap.objs.size ty (S l) t i->∃o,h.get? s1.heap.objs.size=some o/\∀v,o.data≠.cell v:=fun ty i h ⟨o,ho,_,hd⟩=>⟨o,ho,fun v z=>by rw [hd] at z;cases z⟩
  have hfr:∀ty i (h h':Heap),h.IsStrIter s1.heap.objs.size ty (S l) t i->(∀b∈[s1.heap.objs.size],∀o,h.get? b=some o->h'.get? b=some o)->h'.IsStrIter s1.heap.objs.size ty (S l) t i:=fun ty i h h' ⟨o,ho,r⟩ k=>⟨o,k _ (by simp) o ho,r⟩
  cases ha:(S l).cps.all (·<128)
  .refine wpAny_pyIter_wide ha ⟨s1.heap.objs.size,[s1.heap.objs.size],_,Its (cT l),H1,rfl,I1.kept (t':=s1.toks) fun b o e=>Heap.get?_push_of_some _ e,
    p8 (fun A hA=>Walks.strWide hA _ (S l) t) hn hv hsc (hobj _) (hfr _) (fun A i s Q E st q=>wpAny_pyIter_striter_wide st q),⟨_,Heap.get?_push_size _ rfl,rfl,rfl⟩,fin,q⟩
  .refine wpAny_pyIter_ascii ha ⟨s1.heap.objs.size,[s1.heap.objs.size],_,Its (cT l),H1,rfl,I1.kept (t':=s1.toks) fun b o e=>Heap.get?_push_of_some _ e,
    p8 (fun A hA=>Walks.strAscii hA _ (S l) t) hn hv hsc (hobj _) (hfr _) (fun A i s Q E st q=>wpAny_pyIter_striter_ascii st q),⟨_,Heap.get?_push_size _ rfl,rfl,rfl⟩,fin,q⟩
theorem eM(K:PySem.W.Frag)(e:X.K=K){l:Expr}{tl:TE}(hl:PE X l tl):PI X tg l (ug K tl):=by subst e;exact zL hl
end
abbrev PTI:=PSt->(Nat->(Nat->D)->PSt->Prop)->Prop
def Wlk(K:PySem.W.Frag)(O:Addr->Prop)(H:Hp)(J:It)(n:Nat)(it:Nat->D):Prop:=∀(O':Addr->Prop) (H':Hp),bo O H O' H'->(∀b,O' b->H' b≠none) ->
 (∀k,k<n->J.go k H'/\∀x H'',J.yld k H' x H''->Gr H' H''/\FV K O' H'' x (it k))/\J.stop n H'
def LI(K:PySem.W.Frag)(wi:TI)(pi:PTI):Prop:=∀(A:Addr->Prop) (ρ:PSt) (σ:St) (H:Hp) (Q:Nat->(Nat->D)->PSt->Prop) (Q':It->Hp->Prop),Rel K A ρ σ H->pi ρ Q ->
 (∀J H' n it ρ',Q n it ρ'->Fr ρ σ H ρ' H'->Rel K A ρ' σ H'->Wlk K (OO A ρ' σ) H' J n it->Q' J H')->wi σ H Q'
def itD(ds:List D)(k:Nat):D:=ds.getD k .non
theorem vG{ds:List D}{k:Nat}(h:k<ds.length):ds[k]?=some (itD ds k):=by unfold itD;rw [getD_eq_getElem?_getD,getElem?_eq_getElem h];rfl
theorem jV{ds:List D}{k:Nat}{d:D}(h:ds[k]?=some d):itD ds k=d:=by unfold itD;rw [getD_eq_getElem?_getD,h];rfl
def Ei:D->Option (Nat×(Nat->D))
 | .lst ds=>some (ds.length,itD ds)
 | .tup ds=>some (ds.length,itD ds)
 | .scr ns=>some (ns.length,fun k=>.int (ns.getD k 0))
 | .str l=>some (l.length,fun k=>.str [l.getD k 0])
 | _=>none
def iD(pe:PTE):PTI:=fun ρ Q=>pe ρ fun p ρ1=>match Ei p.d with
 | some (n,it)=>Q n it ρ1
 | none=>False
section
variable {K:PySem.W.Frag}{te:TE}{pe:PTE}{ta:TA}{pa:PTA}
theorem FV.row{O:Addr->Prop}{H:Hp}{v:V}{d:D}{n:Nat}{it:Nat->D}(h:FV K O H v d)(e:Ei d=some (n,it)) :
  (∃k a xs,v=.ref a/\xs.length=n/\(∀O' H',bo O H O' H'->Sq k K H' a xs/\∀j x,xs[j]?=some x->FV K O' H' x (it j)))\/∃l,v=.str (S l)/\l.length=n/\(∀k,it k=.str [l.getD k 0]):=by
 cases h with
 | lst nn e0 f =>
  cases e;refine .inl ⟨false,_,_,rfl,f.length,fun O' H' k=>⟨SqL.of (k _ _ nn e0).2,fun j x hx=>?_⟩⟩;obtain⟨d,hd,fd⟩:=f.get hx;rw [jV hd];exact fd.keeps k
 | tup nn e0 f =>
  cases e;refine .inl ⟨true,_,_,rfl,f.length,fun O' H' k=>⟨SqT.of (k _ _ nn e0).2,fun j x hx=>?_⟩⟩;obtain⟨d,hd,fd⟩:=f.get hx;rw [jV hd];exact fd.keeps k
 | scr s =>
  cases e;refine .inl ⟨false,_,_,rfl,length_map _,fun O' H' k=>⟨(s.keeps k).sq,fun j x hx=>?_⟩⟩;obtain⟨z,hz,rfl⟩:=xc hx;show FV K O' H' (V.int z) (D.int (List.getD _ j 0));rw [getD_eq_getElem?_getD,hz];exact .int z
 | str l hl=>cases e;exact .inr ⟨l,rfl,rfl,fun _=>rfl⟩
 | non=>cases e
 | bl b=>cases e
 | int i=>cases e
 | ty n=>cases e
 | dic _ _ _ _=>cases e
 | obj _ _ _ _=>cases e
 | exc0 _ _=>cases e
 | exc1 _ _ _ _ _ _=>cases e
theorem eN(h:LE K te pe):LI K (ug K te) (iD pe):=fun A ρ σ H Q Q' R q k=>h A ρ σ H _ _ R q fun v H1 p ρ1 q1 f1 o1=>by
 obtain⟨R1,fv⟩:=o1.frz
 split at q1
 .rename_i n it e
  rcases fv.row e with ⟨b,a,xs,rfl,hl,hr⟩|⟨l,rfl,hl,hi⟩
  .refine .inl ⟨b,a,xs,rfl,(hr _ H1 (fun b o n h=>⟨n,h⟩)).1,k _ H1 n it ρ1 q1 f1 R1 fun O' H' kk dom=>?_⟩;obtain⟨sq,hx⟩:=hr O' H' kk
   cases b with
   | false =>
    refine⟨fun j hj=>⟨⟨xs,_,sq,getElem?_eq_getElem (by rw [hl];exact hj)⟩,fun x H'' ⟨e,y⟩=>?_⟩,⟨xs,sq,by rw [hl];exact Nat.le_refl _⟩⟩;subst e;exact⟨Gr.refl _,hx j x (y xs sq)⟩
   | true =>
    refine⟨fun j hj=>⟨⟨xs,_,sq,getElem?_eq_getElem (by rw [hl];exact hj)⟩,fun x H'' ⟨e,y⟩=>?_⟩,⟨xs,sq,by rw [hl];exact Nat.le_refl _⟩⟩;subst e;exact⟨Gr.refl _,hx j x (y xs sq)⟩
  .refine .inr ⟨l,rfl,k _ H1 n it ρ1 q1 f1 R1 fun O' H' kk dom=>?_⟩;refine⟨fun j hj=>⟨by show j<(cT l).length;rw [cU,hl];exact hj,fun x H'' ⟨e,y⟩=>?_⟩,by show (cT l).length=n;rw [cU,hl]⟩;subst e;obtain⟨c,hc,rfl⟩:=f9 y;rw [hi,getD_eq_getElem?_getD,hc];exact⟨Gr.refl _,.str _ (by show 1<=1000000;decide)⟩
 .exact q1.elim
def wL(pa:PTA):PTI:=fun ρ Q=>pa ρ fun as ρ1=>match as with
 | [.v (.int j)]=>(-(2^60)<=j/\j<2^60)/\Q j.toNat (fun k=>.int (k:Int)) ρ1
 | _=>False
def Ej(pa:PTA):PTI:=fun ρ Q=>pa ρ fun as ρ1=>match as with
 | [.v (.int i),.v (.int j)]=>(-(2^60)<=i/\i<2^60/\-(2^60)<=j/\j<2^60)/\Q (j - i).toNat (fun k=>.int (i+(k:Int))) ρ1
 | _=>False
theorem BW{O:Addr->Prop}{H:Hp}{lo:Int}{n:Nat}{it:Nat->D}(h:∀k:Nat,it k=.int (lo+k)):Wlk K O H (Itr lo n) n it:=fun O' H' _ _ =>
 ⟨fun j hj=>⟨hj,fun x H'' ⟨e,y⟩=>by subst e y;rw [h];exact⟨Gr.refl _,.int _⟩⟩,Nat.le_refl _⟩
theorem oM(h:LAs K ta pa):LI K (wU ta) (wL pa):=fun A ρ σ H Q Q' R q k=>h A ρ σ H _ _ R q fun vs H1 as ρ1 q1 f1 R1 o1=>by
 split at q1
 .rename_i j
  cases o1 with
  | cons a b =>
   cases b;cases a;exact⟨j,rfl,by omega,by omega,k _ H1 _ _ ρ1 q1.2 f1 R1 (BW fun k=>by rw [Int.zero_add])⟩
 .exact q1.elim
theorem Dz(h:LAs K ta pa):LI K (Bd ta) (Ej pa):=fun A ρ σ H Q Q' R q k=>h A ρ σ H _ _ R q fun vs H1 as ρ1 q1 f1 R1 o1=>by
 split at q1
 .rename_i i j
  cases o1 with
  | cons a b =>
   cases b with
   | cons c d =>
    cases d;cases a;cases c;exact⟨i,j,rfl,⟨by omega,by omega,by omega,by omega⟩,k _ H1 _ _ ρ1 q1.2 f1 R1 (BW fun k=>rfl)⟩
 .exact q1.elim
def rowD:D->Option (List D)
 | .lst ds=>some ds
 | .tup ds=>some ds
 | .scr ns=>some (ns.map .int)
 | _=>none
theorem FV.rowD{O:Addr->Prop}{H:Hp}{v:V}{d:D}{ds:List D}(h:FV K O H v d)(e:L2.rowD d=some ds) :
  ∃k a xs,v=.ref a/\xs.length=ds.length/\(∀O' H',bo O H O' H'->Sq k K H' a xs/\FVs K O' H' xs ds):=by
 cases h with
 | lst nn e0 f=>cases e;exact⟨false,_,_,rfl,f.length,fun O' H' k=>⟨SqL.of (k _ _ nn e0).2,f.keeps k⟩⟩
 | tup nn e0 f=>cases e;exact⟨true,_,_,rfl,f.length,fun O' H' k=>⟨SqT.of (k _ _ nn e0).2,f.keeps k⟩⟩
 | scr s=>cases e;exact⟨false,_,_,rfl,by rw [length_map,length_map],fun O' H' k=>⟨(s.keeps k).sq,FVs.of_ints _⟩⟩
 | str l hl=>cases e
 | non=>cases e
 | bl b=>cases e
 | int i=>cases e
 | ty n=>cases e
 | dic _ _ _ _=>cases e
 | obj _ _ _ _=>cases e
 | exc0 _ _=>cases e
 | exc1 _ _ _ _ _ _=>cases e
def DA(pa:PTA):PTI:=fun ρ Q=>pa ρ fun as ρ1=>match as with
 | [.v a,.v b]=>(match rowD a,rowD b with
  | some xs,some ys=>Q (min xs.length ys.length) (fun k=>.tup [itD xs k,itD ys k]) ρ1
  | _,_=>False)
 | _=>False
def vH(pa:PTA):PTI:=fun ρ Q=>pa ρ fun as ρ1=>match as with
 | [.v a]=>(match rowD a with
  | some xs=>Q xs.length (fun k=>.tup [.int (k:Int),itD xs k]) ρ1
  | _=>False)
 | _=>False
theorem BX(h:LAs K ta pa):LI K (Dl K ta) (DA pa):=fun A ρ σ H Q Q' R q k=>h A ρ σ H _ _ R q fun vs H1 as ρ1 q1 f1 R1 o1=>by
 split at q1
 .rename_i da db
  cases o1 with
  | cons o1 o2 =>
   cases o2 with
   | cons o2 o3 =>
    cases o3
    split at q1
    .rename_i xs ys ex ey;obtain⟨b1,a1,us,rfl,l1,w1⟩:=FV.rowD (show FV K _ H1 _ da from o1) ex;obtain⟨b2,a2,ws,rfl,l2,w2⟩:=FV.rowD (show FV K _ H1 _ db from o2) ey;have t1:=w1 _ H1 (fun b o n h=>⟨n,h⟩);have t2:=w2 _ H1 (fun b o n h=>⟨n,h⟩);refine⟨b1,b2,a1,a2,rfl,⟨us,ws,t1.1,t2.1⟩,k _ H1 _ _ ρ1 q1 f1 R1 fun O' H' kk dom=>?_⟩;obtain⟨s1,g1⟩:=w1 O' H' kk;obtain⟨s2,g2⟩:=w2 O' H' kk;refine⟨fun j hj=>?_,⟨us,ws,s1,s2,by omega⟩⟩
     have h1:j<us.length:=by omega
     have h2:j<ws.length:=by omega
     refine⟨⟨us,ws,_,_,s1,s2,getElem?_eq_getElem h1,getElem?_eq_getElem h2⟩,fun x H'' ⟨T,u,w,hT,e,y1,y2,e2⟩=>?_⟩;subst e e2;obtain⟨d1,hd1,fd1⟩:=g1.get (y1 us s1);obtain⟨d2,hd2,fd2⟩:=g2.get (y2 ws s2);have e1:itD xs j=d1:=by unfold itD;rw [getD_eq_getElem?_getD,hd1];rfl
     have e2:itD ys j=d2:=by unfold itD;rw [getD_eq_getElem?_getD,hd2];rfl
     rw [e1,e2];have kk2:bo O' H' O' (upd H' T (.tup [u,w])):=fun b o n e=>⟨n,by rw [aA (bn e hT)];exact e⟩
     exact⟨Gr.new hT,.tup (fun z=>dom T z hT) aQ (.cons (fd1.keeps kk2) (.cons (fd2.keeps kk2) .nil))⟩
    .exact q1.elim
 .exact q1.elim
theorem vI(h:LAs K ta pa):LI K (zC K ta) (vH pa):=fun A ρ σ H Q Q' R q k=>h A ρ σ H _ _ R q fun vs H1 as ρ1 q1 f1 R1 o1=>by
 split at q1
 .rename_i da
  cases o1 with
  | cons o1 o3 =>
   cases o3
   split at q1
   .rename_i xs ex;obtain⟨b1,a1,us,rfl,l1,w1⟩:=FV.rowD (show FV K _ H1 _ da from o1) ex;have t1:=w1 _ H1 (fun b o n h=>⟨n,h⟩);refine⟨b1,a1,rfl,⟨us,t1.1⟩,k _ H1 _ _ ρ1 q1 f1 R1 fun O' H' kk dom=>?_⟩;obtain⟨s1,g1⟩:=w1 O' H' kk;refine⟨fun j hj=>?_,⟨us,s1,by omega⟩⟩;have h1:j<us.length:=by omega
    refine⟨⟨us,_,s1,getElem?_eq_getElem h1⟩,fun x H'' ⟨T,u,hT,e,y1,e2⟩=>?_⟩;subst e e2;obtain⟨d1,hd1,fd1⟩:=g1.get (y1 us s1);have e1:itD xs j=d1:=by unfold itD;rw [getD_eq_getElem?_getD,hd1];rfl
    rw [e1];have kk2:bo O' H' O' (upd H' T (.tup [.int (j:Int),u])):=fun b o n e=>⟨n,by rw [aA (bn e hT)];exact e⟩
    exact⟨Gr.new hT,.tup (fun z=>dom T z hT) aQ (.cons (.int _) (.cons (fd1.keeps kk2) .nil))⟩
   .exact q1.elim
 .exact q1.elim
end
def gM(pi:PTI)(g:PTG)(pb:PTS):PTS:=fun D ρ=>pi ρ fun n it ρ1=>∃I:Nat->PSt->Prop,I 0 ρ1/\(∀k ρ d,k<n->d=it k->I k ρ->g (.dat d) ρ fun ρ2=>pb { D with nx:=I (k+1),ct:=I (k+1),bk:=D.nx } ρ2)/\∀ρ,I n ρ->D.nx ρ
def oN(pt:PTT)(pb:PTS):PTS:=fun D ρ=>∃I:Nat->PSt->Prop,(∃m,I m ρ)/\∀m ρ,I m ρ->pt ρ fun b ρ1=>jB b (pb { D with nx:=fun ρ'=>∃m',m'<m/\I m' ρ',ct:=fun ρ'=>∃m',m'<m/\I m' ρ',bk:=D.nx } ρ1) (D.nx ρ1)
section
variable {K:PySem.W.Frag}{fs:List Nat}{wi:TI}{pi:PTI}{g:TG}{pg:PTG}{tb:TS}{pb:PTS}{tt:TT}{pt:PTT}
theorem eO(hi:LI K wi pi)(hg:LGd K fs g pg)(hb:LS K fs tb pb):LS K fs (CV wi g tb) (gM pi pg pb):=fun fx A R H0 ρ σ H D D' hf r F q k1 k2 k3 k4=>hi A ρ σ H _ _ r q fun J H1 n it ρ1 q1 f1 r1 W=>by
 obtain⟨I,i0,turn,after⟩:=q1;have F1:=F.fr f1;refine⟨fun i m σ' H'=>i+m=n/\∃ρ',I i ρ'/\Rel K A ρ' σ' H'/\dL fx (Wr ρ1 σ) H1 ρ' σ' H',⟨n,Nat.zero_add n,ρ1,i0,r1,dL.start F1.fx⟩,fun i m σ' H' ⟨him,ρ',iv,r',F'⟩=>?_⟩;obtain⟨go,stop⟩:=W _ H' F'.keeps r'.dom2
 by_cases hk:i<n
 .obtain⟨g1,g2⟩:=go i hk;refine .inr ⟨g1,fun σ'' H''=>∃ρ'',I (i+1) ρ''/\Rel K A ρ'' σ'' H''/\dL fx (Wr ρ1 σ) H1 ρ'' σ'' H'',fun σ'' H'' z=>⟨m - 1,by omega,by omega,z⟩,fun x H'' y=>?_⟩;obtain⟨gr,fv⟩:=g2 x H'' y;refine hg fx A (Wr ρ1 σ) H1 ρ' σ' H'' _ x _ _ hf (F'.fr gr.fr) (r'.gr gr) fv (turn i ρ' _ hk rfl iv) fun ρ2 σ2 q2 r2 F2 _=>?_;refine hb fx A (Wr ρ1 σ) H1 ρ2 σ2 H'' _ _ hf r2 F2 q2 (fun ρ3 σ3 H3 q3 r3 F3=>⟨ρ3,q3,r3,F3⟩) (fun v p ρ3 σ3 H3 q3 o3 F3=>k2 v p ρ3 σ3 H3 q3 (o3.h0 F1.dm) (F1.trans F3 F3.fx)) (fun ρ3 σ3 H3 q3 r3 F3=>k1 ρ3 σ3 H3 q3 r3 (F1.trans F3 F3.fx)) (fun ρ3 σ3 H3 q3 r3 F3=>⟨ρ3,q3,r3,F3⟩)
 .have e:i=n:=by omega
  subst e;exact .inl ⟨stop,k1 ρ' σ' H' (after ρ' iv) r' (F1.trans F' F'.fx)⟩
theorem xv(ht:LT K tt pt)(hb:LS K fs tb pb):LS K fs (uM tt tb) (oN pt pb):=fun fx A R H0 ρ σ H D D' hf r F q k1 k2 k3 k4=>by
 obtain⟨I,⟨m0,i0⟩,turn⟩:=q;refine⟨fun m σ' H'=>∃ρ',I m ρ'/\Rel K A ρ' σ' H'/\dL fx R H0 ρ' σ' H',⟨m0,ρ,i0,r,F⟩,fun m σ' H' ⟨ρ',iv,r',F'⟩=>?_⟩;refine ht A ρ' σ' H' _ _ r' (turn m ρ' iv) fun b H1 ρ1 q1 f1 r1=>?_
 cases b with
 | true =>
  refine⟨fun σ'' H''=>∃ρ'' m',m'<m/\I m' ρ''/\Rel K A ρ'' σ'' H''/\dL fx R H0 ρ'' σ'' H'',fun σ'' H'' ⟨ρ'',m',h1,h2⟩=>⟨m',h1,ρ'',h2⟩,?_⟩;exact hb fx A R H0 ρ1 σ' H1 _ _ hf r1 (F'.fr f1) q1 (fun ρ3 σ3 H3 ⟨m',h1,h2⟩ r3 F3=>⟨ρ3,m',h1,h2,r3,F3⟩) k2 k1 (fun ρ3 σ3 H3 ⟨m',h1,h2⟩ r3 F3=>⟨ρ3,m',h1,h2,r3,F3⟩)
 | false=>exact k1 ρ1 σ' H1 q1 r1 (F'.fr f1)
end
def bN(ix:List (Option Nat))(ρ:PSt):PSt:=ix.map fun o=>match o with
 | none=>none
 | some j=>match ρ[j]? with
  | some v=>v
  | none=>none
def gC:List (Option Nat)->PSt->PSt->PSt
 | some j::ix,ρ,t::τ=>gC ix (ρ.set j t) τ
 | none::ix,ρ,_::τ=>gC ix ρ τ
 | _,ρ,_=>ρ
def zM:List (Option Nat)->Bool
 | []=>true
 | none::r=>zM r
 | some j::r=>!r.contains (some j) && zM r
theorem oO:∀(ix:List (Option Nat)) (ρ τ:PSt),(gC ix ρ τ).length=ρ.length
 | [],ρ,τ=>by unfold gC;rfl
 | some j::ix,ρ,t::τ=>by show (gC ix (ρ.set j t) τ).length=_;rw [oO ix,length_set]
 | none::ix,ρ,t::τ=>by show (gC ix ρ τ).length=_;exact oO ix ρ τ
 | some j::ix,ρ,[]=>by unfold gC;rfl
 | none::ix,ρ,[]=>by unfold gC;rfl
theorem lz:∀(ix:List (Option Nat)) (ρ τ:PSt) (j:Nat),some j∉ix->(gC ix ρ τ)[j]?=ρ[j]?
 | [],ρ,τ,j,_=>by unfold gC;rfl
 | some i::ix,ρ,t::τ,j,h=>by
  show (gC ix (ρ.set i t) τ)[j]?=_;rw [lz ix _ τ j (fun z=>h (mem_cons_of_mem _ z)),getElem?_set_ne (fun z=>h (by rw [z];exact mem_cons_self ..))]
 | none::ix,ρ,t::τ,j,h=>by show (gC ix ρ τ)[j]?=_;exact lz ix ρ τ j fun z=>h (mem_cons_of_mem _ z)
 | some i::ix,ρ,[],j,_=>by unfold gC;rfl
 | none::ix,ρ,[],j,_=>by unfold gC;rfl
theorem rA:∀(ix:List (Option Nat)) (ρ τ:PSt) (j k:Nat),zM ix=true->ix[k]?=some (some j)->k<τ.length->j<ρ.length->(gC ix ρ τ)[j]?=τ[k]?
 | some i::ix,ρ,t::τ,j,k,h,e,hk,hj=>by
  have h:(!ix.contains (some i) && zM ix)=true:=h;rw [and_eq_true] at h;show (gC ix (ρ.set i t) τ)[j]?=_
  cases k with
  | zero =>
   have e:some (some i)=some (some j):=e;cases e
   have hn:some i∉ix:=fun z=>by
    have:=h.1;rw [contains_iff_mem.mpr z] at this;cases this
   rw [lz ix _ τ i hn,getElem?_set_self hj];rfl
  | succ k =>
   have e:ix[k]?=some (some j):=by simpa using e
   rw [rA ix _ τ j k h.2 e (by simpa using hk) (by rw [length_set];exact hj)];simp
 | none::ix,ρ,t::τ,j,k,h,e,hk,hj=>by
  show (gC ix ρ τ)[j]?=_
  cases k with
  | zero=>cases e
  | succ k =>
   have e:ix[k]?=some (some j):=by simpa using e
   rw [rA ix _ τ j k h e (by simpa using hk) hj];simp
 | [],ρ,τ,j,k,h,e,hk,hj=>by simp at e
 | some i::ix,ρ,[],j,k,h,e,hk,hj=>absurd hk (not_lt_zero _)
 | none::ix,ρ,[],j,k,h,e,hk,hj=>absurd hk (not_lt_zero _)
theorem oP:∀{ix:List (Option Nat)}{k l j:Nat},zM ix=true->ix[k]?=some (some j)->ix[l]?=some (some j)->k=l
 | some i::ix,k,l,j,h,e1,e2=>by
  have h:(!ix.contains (some i) && zM ix)=true:=h;rw [and_eq_true] at h
  have no:∀m,ix[m]?≠some (some i):=fun m z=>by
   have:=h.1;rw [contains_iff_mem.mpr (mem_of_getElem? z)] at this;cases this
  cases k with
  | zero =>
   have e1:some (some i)=some (some j):=e1;cases e1
   cases l with
   | zero=>rfl
   | succ l=>exact absurd (by simpa using e2) (no l)
  | succ k =>
   cases l with
   | zero =>
    have e2:some (some i)=some (some j):=e2;cases e2;exact absurd (by simpa using e1) (no k)
   | succ l=>rw [oP (k:=k) (l:=l) h.2 (by simpa using e1) (by simpa using e2)]
 | none::ix,k,l,j,h,e1,e2=>by
  cases k with
  | zero=>cases e1
  | succ k =>
   cases l with
   | zero=>cases e2
   | succ l=>rw [oP (ix:=ix) (k:=k) (l:=l) (j:=j) h (by simpa using e1) (by simpa using e2)]
 | [],k,l,j,h,e1,e2=>by simp at e1
theorem iE{ix:List (Option Nat)}{ρ:PSt}{k:Nat}{p:PV}(h:(bN ix ρ)[k]?=some (some p)):∃j,ix[k]?=some (some j)/\ρ[j]?=some (some p):=by
 unfold bN at h;rw [getElem?_map] at h
 cases e:ix[k]? with
 | none=>rw [e] at h;cases h
 | some o =>
  rw [e] at h
  cases o with
  | none=>cases h
  | some j =>
   refine⟨j,rfl,?_⟩;have h:some (match ρ[j]? with|some v=>v|none=>none)=some (some p):=h
   cases e2:ρ[j]? with
   | none=>rw [e2] at h;cases h
   | some v=>rw [e2] at h;exact h
theorem iZ{ix:List (Option Nat)}{σ:St}{k j:Nat}{v:V}(h:ix[k]?=some (some j))(e:σ[j]?=some (some v)):(vp ix σ)[k]?=some (some v):=by
 unfold vp;rw [getElem?_map,h];show some (match σ[j]? with|some v=>v|none=>none)=some (some v);rw [e]
theorem Rel.amb{K:PySem.W.Frag}{A:Addr->Prop}{ρ:PSt}{σ:St}{H:Hp}{a:Addr}{o:HO}(R:Rel K A ρ σ H)(ha:A a):Rel K A ρ σ (upd H a o):=by
 have k:bo (OO A ρ σ) H (OO A ρ σ) (upd H a o):=fun b u n e=>⟨n,by rw [aA (fun z=>n (by rw [z];exact .inl ha))];exact e⟩
 refine⟨R.len,fun i q e=>?_,R.dj,fun b z=>?_,R.sep⟩
 .obtain⟨v,s,r⟩:=R.get i q e;refine⟨v,s,r.keeps k fun ow b eb=>?_⟩;rw [aA];intro z;subst z eb;exact R.sep b ha ⟨i,q,e,ow,s⟩
 .by_cases z':b=a
  .rw [z',aQ];exact nofun
  .rw [aA z'];exact R.dom b z
def DB(ix:List (Option Nat))(ρ:PSt):Bool:=ix.all fun o=>match o with|none=>true|some j=>(match ρ[j]? with|some (some _)=>true|_=>false)
structure lf (ix:List (Option Nat)) (ρ1:PSt) (n:Nat) (it:Nat->D) (g:PTG) (pt:PTT) (pe:PTE) (Q:PKt):Prop where
 ex:∃I:Nat->List D->PSt->Prop,I 0 [] (bN ix ρ1) /\
  (∀k ys τ d,k<n->d=it k->I k ys τ->g (.dat d) τ fun τ2=>pt τ2 fun ok τ3=>jB ok (pe τ3 fun p τ4=>I (k+1) (ys++[p.d]) τ4) (I (k+1) ys τ3))/\∀ys τ,I n ys τ->Q (.own ys) (gC ix ρ1 τ)
def jD(ix:List (Option Nat))(pi:PTI)(g:PTG)(pt:PTT)(pe:PTE):PTE:=fun ρ Q=>pi ρ fun n it ρ1=>DB ix ρ1=true/\n<=1000000/\lf ix ρ1 n it g pt pe Q
def pN:PTT:=fun ρ Q=>Q true ρ
theorem iF{K:PySem.W.Frag}:LT K t7 pN:=fun A ρ σ H Q Q' R q k=>k true H ρ q (Fr.refl _ _ _) R
def AS(ix:List (Option Nat)):List Nat:=(List.range ix.length).filter fun k=>(ix.getD k none).isSome
theorem dC{K:PySem.W.Frag}{ix:List (Option Nat)}{wi:TI}{pi:PTI}{g:TG}{pg:PTG}{tts:TT}{pt:PTT}{te:TE}{pe:PTE}(hix:zM ix=true)(hi:LI K wi pi)(hg:∀fs:List Nat,(∀k∈fs,k∈AS ix)->LGd K fs g pg)(ht:LT K tts pt)(he:LE K te pe) :
  LE K (xh ix wi g tts te) (jD ix pi pg pt pe):=fun A ρ σ H Q Q' R q k=>hi A ρ σ H _ _ R q fun J H1 n it ρ1 q1 f1 R1 W D hD=>by
 obtain⟨hcap,hn,⟨I,i0,turn,after⟩⟩:=q1
 let τρ0:=bN ix ρ1
 let τσ0:=vp ix σ
 let Ai:Addr->Prop:=fun b=>A b\/b=D\/(Wr ρ1 σ b/\¬ Wr τρ0 τσ0 b)
 let H0':=upd H1 D (.lst [])
 have wsub:∀b,Wr τρ0 τσ0 b->Wr ρ1 σ b:=fun b ⟨m,p,e,o,s⟩=>by
  obtain⟨j,h1,h2⟩:=iE e;obtain⟨v,hv,_⟩:=R1.get j p h2;have:=iZ h1 hv;rw [s] at this;cases this;exact⟨j,p,h2,o,hv⟩
 have nD:¬ Wr ρ1 σ D:=fun z=>R1.wr z hD
 have oosub:∀b,OO Ai τρ0 τσ0 b->OO A ρ1 σ b\/b=D:=fun b z=>by
  rcases z with (z|z|z)|z
  .exact .inl (.inl z)
  .exact .inr z
  .exact .inl (.inr z.1)
  .exact .inl (.inr (wsub b z))
 have kD:bo (OO A ρ1 σ) H1 (OO Ai τρ0 τσ0) H0':=fun b o nn e=>by
  refine⟨fun z=>?_,?_⟩
  .rcases oosub b z with z|z
   .exact nn z
   .rw [z,hD] at e;cases e
  .rw [show H0' b=H1 b from aA (bn e hD)];exact e
 have Ri:Rel K Ai τρ0 τσ0 H0':=by
  refine⟨by show (bN ix ρ1).length=(vp ix σ).length;unfold bN vp;rw [length_map,length_map],fun m p e=>?_,fun m l p q v e1 e2 o1 o2 s1 s2=>?_,fun b z=>?_,fun b z w=>?_⟩
  .obtain⟨j,h1,h2⟩:=iE e;obtain⟨v,hv,r⟩:=R1.get j p h2;refine⟨v,iZ h1 hv,r.keeps kD fun ow a ea=>?_⟩;subst ea;exact aA (fun z=>nD (by rw [<- z];exact⟨j,p,h2,ow,hv⟩))
  .obtain⟨j,h1,h2⟩:=iE e1;obtain⟨j',h3,h4⟩:=iE e2;obtain⟨v1,hv1,_⟩:=R1.get j p h2;obtain⟨v2,hv2,_⟩:=R1.get j' q h4;have t1:=iZ h1 hv1;have t2:=iZ h3 hv2;rw [s1] at t1;rw [s2] at t2;cases t1;cases t2;have:=R1.dj j j' p q _ h2 h4 o1 o2 hv1 hv2;subst this;exact oP hix h1 h3
  .rcases z with z|z|z
   .intro e
    by_cases zz:b=D
    .exact R1.dom b z (by rw [zz];exact hD)
    .rw [show H0' b=H1 b from aA zz] at e;exact R1.dom b z e
   .rw [z];show upd H1 D _ D≠none;rw [aQ];exact nofun
   .intro e;rw [show H0' b=H1 b from aA (fun zz=>nD (by rw [<- zz];exact z.1))] at e;exact R1.wr z.1 e
  .rcases z with z|z|z
   .exact R1.sep b z (wsub b w)
   .rw [z] at w;exact nD (wsub D w)
   .exact z.2 w
 let fxi:List (Nat×V):=(AS ix).filterMap fun m=>match (τσ0[m]?) with|some (some v)=>some (m,v)|_=>none
 have hfx:∀p∈fxi,τσ0[p.1]?=some (some p.2):=fun p hp=>by
  obtain⟨m,hm,e⟩:=mem_filterMap.mp hp
  split at e
  .rename_i v ev;cases e;exact ev
  .cases e
 have hfs:∀m∈fxi.map Prod.fst,m∈AS ix:=fun m hm=>by
  obtain⟨p,hp,rfl⟩:=mem_map.mp hm;obtain⟨m',hm',e⟩:=mem_filterMap.mp hp
  split at e
  .cases e;exact hm'
  .cases e
 have hgi:=hg (fxi.map Prod.fst) hfs
 have fxget:∀(m j:Nat) (v:V),ix[m]?=some (some j)->σ[j]?=some (some v)->(m,v)∈fxi:=fun m j v h1 h2=>by
  refine mem_filterMap.mpr ⟨m,?_,?_⟩
  .unfold AS;refine mem_filter.mpr ⟨mem_range.mpr (List.getElem?_eq_some_iff.mp h1).1,?_⟩;rw [getD_eq_getElem?_getD,h1];rfl
  .show (match (vp ix σ)[m]? with|some (some v)=>some (m,v)|_=>none)=_;rw [iZ h1 h2]
 let Rr:Addr->Prop:=fun b=>Wr τρ0 τσ0 b\/b=D
 have hRr:∀b,Rr b->OO Ai τρ0 τσ0 b:=fun b z=>z.elim (fun z=>.inr z) (fun z=>.inl (.inr (.inl z)));have F0:dL fxi Rr H0' τρ0 τσ0 H0':=⟨fun _ _ _ h=>h,fun _ h=>h,fun b w=>.inl (.inl w),hfx⟩
 refine⟨fun i m τ H2=>i+m=n/\∃ys τρ xs,I i ys τρ/\ys.length<=i/\Rel K Ai τρ τ H2/\dL fxi Rr H0' τρ τ H2/\H2 D=some (.lst xs)/\FVs K (OO Ai τρ τ) H2 xs ys/\∀b,Wr τρ τ b->Wr τρ0 τσ0 b,
  ⟨n,Nat.zero_add n,[],τρ0,[],i0,Nat.le_refl _,Ri,F0,aQ,.nil,fun _ h=>h⟩,fun i m τ H2 ⟨him,ys,τρ,xs,iv,hy,r2,F2,eD,fD,hw⟩=>?_⟩
 have kk:bo (OO A ρ1 σ) H1 (OO Ai τρ τ) H2:=fun b o nn e=>(F2.keepsR hRr) b o (kD b o nn e).1 (kD b o nn e).2;obtain⟨go,stop⟩:=W _ H2 kk r2.dom2
 by_cases hk:i<n
 .obtain⟨g1,g2⟩:=go i hk;refine .inr ⟨g1,fun x H3 y=>?_⟩;obtain⟨gr,fv⟩:=g2 x H3 y;have AiD:Ai D:=.inr (.inl rfl);refine hgi fxi Ai Rr H0' τρ τ H3 _ x _ _ rfl (F2.fr gr.fr) (r2.gr gr) fv (turn i ys τρ _ hk rfl iv) fun τρ2 τ2 q2 r3 F3 w3=>?_;refine ht Ai τρ2 τ2 H3 _ _ r3 q2 fun ok H5 τρ3 q3 f5 r5=>?_;have F5:=F3.fr f5;have fD5:FVs K (OO Ai τρ3 τ2) H5 xs ys:=((fD.keeps (gr.fr (ρ:=τρ) (σ:=τ)).keeps).keeps (bo.less fun b z=>z.imp id (w3 b))).keeps f5.keeps
  have eD5:H5 D=some (.lst xs):=f5.kp D _ (r3.sep D AiD) (gr D _ eD)
  cases ok with
  | true =>
   refine he Ai τρ3 τ2 H5 _ _ r5 q3 fun v H6 p τρ4 q4 f6 o6=>?_;obtain⟨r6,fv6⟩:=o6.frz;have F6:=F5.fr f6;have eD6:H6 D=some (.lst xs):=f6.kp D _ (r5.sep D AiD) eD5;have kw:bo (OO Ai τρ4 τ2) H6 (OO Ai τρ4 τ2) (upd H6 D (.lst (xs++[v]))):=fun b o nn e=>⟨nn,by rw [aA (fun z=>nn (by rw [z];exact .inl AiD))];exact e⟩
   refine⟨xs,eD6,?_,m - 1,by omega,by omega,ys++[p.d],τρ4,xs++[v],q4,by rw [length_append];show _+1<=_;omega,r6.amb AiD,⟨fun b o nn e=>?_,fun b z=>?_,F6.ow,F6.fx⟩,aQ,((fD5.keeps f6.keeps).append (.cons fv6 .nil)).keeps kw,fun b z=>hw b (w3 b (f5.ow b (f6.ow b z)))⟩
   .have:xs.length=ys.length:=fD.length;exact Nat.lt_of_lt_of_le (by omega:xs.length<1000000) (sz _ (Nat.le_refl _))
   .rw [aA (fun z=>nn (.inr z))];exact F6.kp b o nn e
   .by_cases zz:b=D
    .rw [zz,aQ];exact nofun
    .rw [aA zz];exact F6.dm b z
  | false=>exact⟨m - 1,by omega,by omega,ys,τρ3,xs,q3,by omega,r5,F5,eD5,fD5,fun b z=>hw b (w3 b (f5.ow b z))⟩
 .have e:i=n:=by omega
  subst e;refine .inl ⟨stop,?_⟩;have q':=after ys τρ iv
  have cap:∀(m j:Nat),ix[m]?=some (some j)->∃p v,ρ1[j]?=some (some p)/\σ[j]?=some (some v)/\τ[m]?=some (some v):=fun m j e=>by
   have h1:=all_eq_true.mp hcap _ (mem_of_getElem? e);have h1:(match ρ1[j]? with|some (some _)=>true|_=>false)=true:=h1
   split at h1
   .rename_i p ep;obtain⟨v,hv,_⟩:=R1.get j p ep;exact⟨p,v,ep,hv,F2.fx _ (fxget m j v e hv)⟩
   .cases h1
  have get':∀(j:Nat) (p:PV),(gC ix ρ1 τρ)[j]?=some (some p)->(∃m v,ix[m]?=some (some j)/\σ[j]?=some (some v)/\τ[m]?=some (some v)/\τρ[m]?=some (some p))\/(some j∉ix/\ρ1[j]?=some (some p)):=fun j p e=>by
   by_cases hj:some j∈ix
   .obtain⟨m,hm,em⟩:=getElem_of_mem hj;have em':ix[m]?=some (some j):=by rw [getElem?_eq_getElem hm,em]
    obtain⟨p0,v,h1,h2,h3⟩:=cap m j em';rw [rA ix ρ1 τρ j m hix em' (by rw [r2.len];exact (List.getElem?_eq_some_iff.mp h3).1) (List.getElem?_eq_some_iff.mp h1).1] at e;exact .inl ⟨m,v,em',h2,h3,e⟩
   .rw [lz ix ρ1 τρ j hj] at e;exact .inr ⟨hj,e⟩
  have nocap:∀(j:Nat) (p:PV) (b:Addr),some j∉ix->ρ1[j]?=some (some p)->p.isOwn=true->σ[j]?=some (some (.ref b))->¬ Wr τρ0 τσ0 b:=fun j p b hj e o s ⟨m,q,e1,o1,s1⟩=>by
   obtain⟨j',h1,h2⟩:=iE e1;obtain⟨v,hv,_⟩:=R1.get j' q h2;have:=iZ h1 hv;rw [s1] at this;cases this;have:=R1.dj j j' p q _ e h2 o o1 s hv;subst this;exact hj (mem_of_getElem? h1)
  have w':∀b,Wr (gC ix ρ1 τρ) σ b->Wr τρ τ b\/(Wr ρ1 σ b/\¬ Wr τρ0 τσ0 b):=fun b ⟨j,p,e,o,s⟩=>by
   rcases get' j p e with ⟨m,v,h1,h2,h3,h4⟩|⟨hj,h1⟩
   .rw [s] at h2;cases h2;exact .inl ⟨m,p,h4,o,h3⟩
   .exact .inr ⟨⟨j,p,h1,o,s⟩,nocap j p b hj h1 o s⟩
  have oo':∀b,OO (iu A D) (gC ix ρ1 τρ) σ b->OO Ai τρ τ b:=fun b z=>by
   rcases z with (z|z)|z
   .exact .inl (.inl z)
   .exact .inl (.inr (.inl z))
   .rcases w' b z with z|z
    .exact .inr z
    .exact .inl (.inr (.inr z))
  have kp1:∀b o,¬ Wr τρ0 τσ0 b->b≠D->H1 b=some o->H2 b=some o:=fun b o n1 n2 e=>F2.kp b o (fun z=>z.elim n1 n2) (by rw [show H0' b=H1 b from aA n2];exact e);have k1:bo (OO A ρ1 σ) H1 (OO (iu A D) (gC ix ρ1 τρ) σ) H2:=fun b o nn e=>⟨fun z=>(kk b o nn e).1 (oo' b z),(kk b o nn e).2⟩
  have AiD:Ai D:=.inr (.inl rfl)
  have R':Rel K (iu A D) (gC ix ρ1 τρ) σ H2:=by
   refine⟨by rw [oO];exact R1.len,fun j p e=>?_,fun j l p q v e1 e2 o1 o2 s1 s2=>?_,fun b z=>?_,fun b z w=>?_⟩
   .rcases get' j p e with ⟨m,v,h1,h2,h3,h4⟩|⟨hj,h1⟩
    .obtain⟨v',hv',r⟩:=r2.get m p h4;rw [h3] at hv';cases hv';exact⟨v,h2,r.keeps (bo.less oo') fun _ _ _=>rfl⟩
    .obtain⟨v,hv,r⟩:=R1.get j p h1;refine⟨v,hv,r.keeps k1 fun ow a ea=>?_⟩;subst ea;obtain⟨a',u,e1,e2⟩:=r.ref ow;cases e1;rw [e2];exact kp1 a u (nocap j p a hj h1 ow hv) (fun z=>by rw [z,hD] at e2;cases e2) e2
   .rcases get' j p e1 with ⟨m,v1,h1,h2,h3,h4⟩|⟨hj,h1⟩
    .rw [s1] at h2;cases h2
     rcases get' l q e2 with ⟨m',v2,g1,g2,g3,g4⟩|⟨hl,g1⟩
     .rw [s2] at g2;cases g2;have:=r2.dj m m' p q _ h4 g4 o1 o2 h3 g3;subst this;rw [h1] at g1;cases g1;rfl
     .exfalso;obtain⟨v',hv',r⟩:=r2.get m p h4;rw [h3] at hv';cases hv';obtain⟨a,u,ea,_⟩:=r.ref o1;subst ea;exact nocap l q a hl g1 o2 s2 (hw a ⟨m,p,h4,o1,h3⟩)
    .rcases get' l q e2 with ⟨m',v2,g1,g2,g3,g4⟩|⟨hl,g1⟩
     .rw [s2] at g2;cases g2;exfalso;obtain⟨v',hv',r⟩:=r2.get m' q g4;rw [g3] at hv';cases hv';obtain⟨a,u,ea,_⟩:=r.ref o2;subst ea;exact nocap j p a hj h1 o1 s1 (hw a ⟨m',q,g4,o2,g3⟩)
     .exact R1.dj j l p q v h1 g1 o1 o2 s1 s2
   .rcases z with z|z
    .exact r2.dom b (.inl z)
    .rw [z,eD];exact nofun
   .rcases w' b w with w|w
    .rcases z with z|z
     .exact r2.sep b (.inl z) w
     .rw [z] at w;exact r2.sep D AiD w
    .rcases z with z|z
     .exact R1.sep b z w.1
     .rw [z] at w;exact nD w.1
  have f2:Fr ρ1 σ H1 (gC ix ρ1 τρ) H2:=by
   refine⟨fun b o nn e=>kp1 b o (fun z=>nn (wsub b z)) (fun z=>by rw [z,hD] at e;cases e) e,fun b z=>F2.dm b ?_,fun b z=>?_⟩
   .intro e
    by_cases zz:b=D
    .exact z (by rw [zz];exact hD)
    .rw [show H0' b=H1 b from aA zz] at e;exact z e
   .rcases w' b z with z|z
    .exact wsub b (hw b z)
    .exact z.1
  have hD0:H D=none:=by
   cases e:H D with
   | none=>rfl
   | some o=>exact absurd hD (f1.dm D (by rw [e];exact nofun))
  exact k _ H2 (.own ys) _ q' (f1.trans f2) ⟨D,xs,rfl,fun z=>R1.dom D z hD,hD0,eD,R',fD.keeps (bo.less oo')⟩
section
variable {K:PySem.W.Frag}{A A':Addr->Prop}{ρ:PSt}{σ:St}{H H':Hp}
theorem Rel.step(R:Rel K A ρ σ H){i:Nat}{p q:PV}{a:Addr}(e:ρ[i]?=some (some p))(ow:p.isOwn=true)(ow':q.isOwn=true)(es:σ[i]?=some (some (.ref a)))
  (kp:∀b o,b≠a->H b=some o->H' b=some o) (ha:H' a≠none) (h1:∀b,A b->A' b) (h2:∀b,A' b->A b\/H b=none) (dom':∀b,A' b->H' b≠none)
  (new:RS K (OO A' ρ σ) H' q (.ref a)):Rel K A' (ρ.set i (some q)) σ H'/\Fr ρ σ H (ρ.set i (some q)) H':=by
 have hi:i<ρ.length:=(List.getElem?_eq_some_iff.mp e).1;have wa:Wr ρ σ a:=⟨i,p,e,ow,es⟩
 have weq:∀b,Wr (ρ.set i (some q)) σ b ↔ Wr ρ σ b:=fun b=>by
  constructor
  .rintro⟨j,r,e1,o1,s1⟩
   by_cases z:i=j
   .subst z;exact⟨i,p,e,ow,s1⟩
   .rw [getElem?_set_ne z] at e1;exact⟨j,r,e1,o1,s1⟩
  .rintro⟨j,r,e1,o1,s1⟩
   by_cases z:i=j
   .subst z;exact⟨i,q,getElem?_set_self hi,ow',s1⟩
   .exact⟨j,r,by rw [getElem?_set_ne z];exact e1,o1,s1⟩
 have oeq:OO A' (ρ.set i (some q)) σ=OO A' ρ σ:=funext fun b=>propext (or_congr Iff.rfl (weq b));have kp1:∀b u,¬ Wr ρ σ b->H b=some u->H' b=some u:=fun b u n h=>kp b u (fun z=>n (by rw [z];exact wa)) h
 have k:bo (OO A ρ σ) H (OO A' ρ σ) H':=fun b u n h=>by
  refine⟨fun z=>?_,kp1 b u (fun z=>n (.inr z)) h⟩
  rcases z with z|z
  .rcases h2 b z with z|z
   .exact n (.inl z)
   .rw [z] at h;cases h
  .exact n (.inr z)
 have dm:∀b,H b≠none->H' b≠none:=fun b n=>by
  by_cases z:b=a
  .rw [z];exact ha
  .cases eb:H b with
   | none=>exact absurd eb n
   | some o=>rw [kp b o z eb];exact nofun
 refine⟨⟨by rw [length_set];exact R.len,fun j r e1=>?_,fun j l p1 q1 v e1 e2 o1 o2 s1 s2=>?_,dom',fun b z w=>?_⟩,⟨kp1,dm,fun b w=>(weq b).mp w⟩⟩
 .rw [oeq]
  by_cases z:i=j
  .subst z;rw [getElem?_set_self hi] at e1;cases e1;exact⟨_,es,new⟩
  .rw [getElem?_set_ne z] at e1;obtain⟨v,s,rr⟩:=R.get j r e1;refine⟨v,s,rr.keeps k fun ow2 b eb=>?_⟩;obtain⟨b',u,e3,e4⟩:=rr.ref ow2;rw [eb] at e3;cases e3;rw [e4];refine kp b u (fun zz=>?_) e4;subst zz;rw [eb] at s;exact z (R.dj i j p r _ e e1 ow ow2 es s)
 .have ex:∀(m:Nat) (x:PV),(ρ.set i (some q))[m]?=some (some x)->x.isOwn=true->∃y:PV,ρ[m]?=some (some y)/\y.isOwn=true:=fun m x em ox=>by
   by_cases z:i=m
   .subst z;exact⟨p,e,ow⟩
   .rw [getElem?_set_ne z] at em;exact⟨x,em,ox⟩
  obtain⟨y1,g1,g2⟩:=ex j p1 e1 o1;obtain⟨y2,g3,g4⟩:=ex l q1 e2 o2;exact R.dj j l y1 y2 v g1 g3 g2 g4 s1 s2
 .rcases h2 b z with z|z
  .exact R.sep b z ((weq b).mp w)
  .exact R.wr ((weq b).mp w) z
theorem Rel.lstw(R:Rel K A ρ σ H){i:Nat}{ds es:List D}{a:Addr}{ys:List V}(e:ρ[i]?=some (some (.own ds)))(es':σ[i]?=some (some (.ref a)))(f:FVs K (OO A ρ σ) H ys es) :
  Rel K A (ρ.set i (some (.own es))) σ (upd H a (.lst ys))/\Fr ρ σ H (ρ.set i (some (.own es))) (upd H a (.lst ys)):=by
 have wa:OO A ρ σ a:=.inr ⟨i,_,e,rfl,es'⟩;exact R.write (q:=.own es) e rfl rfl es' ⟨a,ys,rfl,aQ,f.keeps fun b u n h=>⟨n,by rw [aA (fun z=>n (by rw [z];exact wa))];exact h⟩⟩
theorem Rel.ownAt(R:Rel K A ρ σ H){i:Nat}{ds:List D}(e:ρ[i]?=some (some (.own ds))):∃a xs,σ[i]?=some (some (.ref a))/\H a=some (.lst xs)/\FVs K (OO A ρ σ) H xs ds:=by
 obtain⟨v,s,a,xs,rfl,g,f⟩:=R.get i _ e;exact⟨a,xs,s,g,f⟩
end
def yx(i:Nat)(pe:PTE):PTE:=fun ρ Q=>match ρ[i]? with
 | some (some (.own _))=>pe ρ fun p ρ1=>(match ρ1[i]? with
  | some (some (.own ds))=>ds.length<1000000/\Q (.dat .non) (ρ1.set i (some (.own (ds++[p.d]))))
  | _=>False)
 | _=>False
def DC(i:Nat):PTE:=fun ρ Q=>match ρ[i]? with
 | some (some (.own ds))=>∃d,ds[ds.length - 1]?=some d/\Q (.dat d) (ρ.set i (some (.own ds.dropLast)))
 | _=>False
def sP(i:Nat)(pe pk:PTE):PTS:=fun D ρ=>pe ρ fun p ρ1=>(match ρ1[i]? with
 | some (some (.own _))=>pk ρ1 fun kp ρ2=>(match ρ2[i]?,kp with
  | some (some (.own ds)),.dat (.int k)=>∃j,ixN ds.length k=some j/\D.nx (ρ2.set i (some (.own (ds.set j p.d))))
  | _,_=>False)
 | _=>False)
section
variable {K:PySem.W.Frag}{te tk:TE}{pe pk:PTE}{fs:List Nat}
theorem nU{i:Nat}(h:LE K te pe):LE K (tBM K "list" va (dn i) (bR te jO)) (yx i pe):=fun A ρ σ H Q Q' R q k=>by
 unfold yx at q
 split at q
 .rename_i ds0 e0;obtain⟨a0,xs0,s0,g0,f0⟩:=R.ownAt e0;refine⟨_,s0,.inl ⟨rfl,xs0,SqL.of g0⟩,h A ρ σ H _ _ R q fun v H1 p ρ1 q1 f1 o1=>?_⟩;obtain⟨R1,fv⟩:=o1.frz
  split at q1
  .rename_i ds e1;obtain⟨a,xs,s,g,f⟩:=R1.ownAt e1;rw [s0] at s;cases s;obtain⟨R2,f2⟩:=R1.lstw e1 s0 (f.append (.cons fv .nil));exact⟨a0,xs,v,rfl,rfl,g,Nat.lt_of_lt_of_le (by rw [f.length];exact q1.1) (sz _ (Nat.le_refl _)),k _ _ _ _ q1.2 (f1.trans f2) ⟨R2,.non⟩⟩
  .exact q1.elim
 .exact q.elim
theorem BY{i:Nat}:LE K (D6 K "list" D7 (dn i)) (DC i):=fun A ρ σ H Q Q' R q k=>by
 unfold DC at q
 split at q
 .rename_i ds e;obtain⟨d,hd,q⟩:=q;obtain⟨a,xs,s,g,f⟩:=R.ownAt e;obtain⟨v,hv,fv⟩:=f.getD hd;obtain⟨R2,f2⟩:=R.lstw (es:=ds.dropLast) (ys:=xs.dropLast) e s (by rw [dropLast_eq_take,dropLast_eq_take,f.length];exact f.take _);exact⟨_,s,.inl ⟨rfl,xs,SqL.of g⟩,a,xs,v,rfl,rfl,g,by rw [f.length];exact hv,k _ _ _ _ q f2 ⟨R2,(fv.keeps f2.keeps)⟩⟩
 .exact q.elim
theorem rB{i:Nat}(h:LE K te pe)(hk:LE K tk pk):LS K fs (AL te (DY (dn i) tk Bo)) (sP i pe pk):=fun fx A R H0 ρ σ H D D' hf r F q k1 k2 k3 k4=>h A ρ σ H _ _ r q fun v H1 p ρ1 q1 f1 o1=>by
 obtain⟨R1,fv⟩:=o1.frz
 split at q1
 .rename_i ds0 e0;obtain⟨a0,xs0,s0,g0,f0⟩:=R1.ownAt e0;refine⟨_,s0,hk A ρ1 σ H1 _ _ R1 q1 fun w H2 kp ρ2 q2 f2 o2=>?_⟩
  split at q2
  .rename_i ds j e2;obtain⟨n,hn,q2⟩:=q2;obtain⟨R2,fw⟩:=o2;cases fw;obtain⟨a,xs,s,g,f⟩:=R2.ownAt e2;rw [s0] at s;cases s;obtain⟨R3,f3⟩:=R2.lstw e2 s0 (FVs.set (fv.keeps f2.keeps) n f);exact⟨a0,xs,j,n,rfl,rfl,g,by rw [f.length];exact hn,k1 _ _ _ q2 R3 (((F.fr f1).fr f2).fr f3)⟩
  .exact q2.elim
 .exact q1.elim
end
def spP(K:PySem.W.Frag)(c:FN):Sp:=fun vs H Q _=>∃(O:Addr->Prop) (ds:List D) (Qc:PV->Prop),(∀b,O b->H b≠none)/\FVs K O H vs ds/\c ds Qc/\∀r,Qc r->∀v H',Gr H H'->qh K O H H' r v->Q v H'
def bg(c:FN)(pr:PTA):PTE:=fun ρ Q=>pr ρ fun as ρ1=>match avD as with
 | some ds=>c ds fun r=>Q r ρ1
 | none=>False
theorem jW{N:List Str}{vs:List V}{i:Nat}{v:V}(h:vs[i]?=some v):(start N vs)[i]?=some (some v):=by
 unfold start;rw [getElem?_append_left (by rw [length_map];exact (List.getElem?_eq_some_iff.mp h).1),getElem?_map,h];rfl
def dq(n:Nat)(ps:List PV):PSt:=ps.map some++List.replicate (n - ps.length) none
theorem dD{n:Nat}{ps:List PV}{i:Nat}{p:PV}(h:(dq n ps)[i]?=some (some p)):ps[i]?=some p:=by
 unfold dq at h
 by_cases hi:i<ps.length
 .rw [getElem?_append_left (by rw [length_map];exact hi),getElem?_map] at h
  cases e:ps[i]? with
  | none=>rw [e] at h;cases h
  | some q=>rw [e] at h;cases h;rfl
 .rw [getElem?_append_right (by rw [length_map];omega)] at h;have:=mem_of_getElem? h;rw [mem_replicate] at this;cases this.2
section
variable {K:PySem.W.Frag}{tr:TA}{pr:PTA}{ts:TS}{ps:PTS}
theorem aC{c:FN}(h:LAs K tr pr):LE K (jx (spP K c) [] E0 tr) (bg c pr):=fun A ρ σ H Q Q' R q k=>h A ρ σ H _ _ R q fun vs H1 as ρ1 q1 f1 R1 o1=>by
 split at q1
 .rename_i ds e;rw [append_nil];exact⟨OO A ρ1 σ,ds,_,R1.dom2,o1.avD e,q1,fun r qr v H' g ov=>k v H' r ρ1 qr (f1.trans g.fr) ((ov.out R1 g).h0 f1.dm)⟩
 .exact q1.elim
theorem Out.outV{O:Addr->Prop}{ρ:PSt}{σ:St}{H H':Hp}{p:PV}{v:V}(h:Out K O ρ σ H H' p v):qh K O H H' p v:=by
 cases p with
 | dat d=>exact h.2.keeps (bo.less fun b z=>.inl z)
 | own ds =>
  obtain⟨a,xs,e1,na,e2,e3,R,f⟩:=h;exact⟨a,xs,e1,e2,e3,f.keeps (bo.less fun b z=>.inl z)⟩
 | ins c ns ds =>
  obtain⟨a,dx,fs,e1,na,e2,e3,m,R,f⟩:=h;exact⟨a,dx,fs,e1,e2,e3,m,f.keeps (bo.less fun b z=>.inl z)⟩
theorem fnP{c:FN}{N:List Str}(hl:LS K [] ts ps)(hn:∀ds Q,c ds Q->ds.length<=N.length)(hc:∀ds Q,c ds Q->ps { nx:=fun _=>Q (.dat .non),rt:=fun p _=>Q p } (dq N.length (ds.map .dat)))
  {vs:List V}{H:Hp}{Q:VK}{E:XK} (h:spP K c vs H Q E):ts { nx:=fun _ H'=>Q .non H',rt:=Q } (start N vs) H:=by
 obtain⟨O,ds,Qc,dom,fv,hq,k⟩:=h
 have nw:∀(ρ:PSt) (b:Addr),ρ=dq N.length (ds.map .dat)->¬ Wr ρ (start N vs) b:=fun ρ b e ⟨i,p,e1,o1,s1⟩=>by
  rw [e] at e1;have:=dD e1;rw [getElem?_map] at this
  cases e2:ds[i]? with
  | none=>rw [e2] at this;cases this
  | some d=>rw [e2] at this;cases this;cases o1
 have lenv:=fv.length;have hle:=hn ds Qc hq
 have R0:Rel K O (dq N.length (ds.map .dat)) (start N vs) H:=by
  refine⟨?_,fun i p e=>?_,fun i j p q v e1 e2 o1 o2 s1 s2=>?_,dom,fun b _ w=>nw _ b rfl w⟩
  .unfold dq start;rw [length_append,length_append,length_map,length_map,length_map,length_replicate,length_replicate,lenv]
  .have:=dD e;rw [getElem?_map] at this
   cases e2:ds[i]? with
   | none=>rw [e2] at this;cases this
   | some d =>
    rw [e2] at this;cases this;obtain⟨v,hv,f⟩:=fv.getD e2;exact⟨v,jW hv,f.keeps (bo.less fun b z=>z.elim id fun w=>absurd w (nw _ b rfl))⟩
  .have:=dD e1;rw [getElem?_map] at this
   cases e3:ds[i]? with
   | none=>rw [e3] at this;cases this
   | some d=>rw [e3] at this;cases this;cases o1
 refine hl [] O (fun _=>False) H _ _ H _ _ rfl R0 ⟨fun _ _ _ h=>h,fun _ h=>h,fun b w=>absurd w (nw _ b rfl),fun p hp=>nomatch hp⟩ (hc ds Qc hq) (fun ρ' σ' H' q r F=>?_) (fun v p ρ' σ' H' q o F=>?_) (fun _ _ _ z=>z.elim) (fun _ _ _ z=>z.elim)
 .exact k _ q .non H' (fun b o e=>F.kp b o id e) .non
 .exact k _ q v H' (fun b o e=>F.kp b o id e) o.outV
abbrev FR:=PV->List D->(PV->PV->Prop)->Prop
def spR(K:PySem.W.Frag)(c:FR):Sp:=fun vs H Q _=>∃(A:Addr->Prop) (a:Addr) (p:PV) (ws:List V) (ds:List D) (Qc:PV->PV->Prop),vs=.ref a::ws/\p.isOwn=true/\(∀b,A b->H b≠none)/\¬ A a/\RS K (iu A a) H p (.ref a)/\FVs K (iu A a) H ws ds/\c p ds Qc /\
 ∀r p',Qc r p'->p'.isOwn=true->∀v H',(∀b o,b≠a->H b=some o->H' b=some o)->H' a≠none->RS K (iu A a) H' p' (.ref a)->qh K (iu A a) H H' r v->(∀a',v=.ref a'->r.isOwn=true->RS K (iu (iu A a) a') H' p' (.ref a))->Q v H'
def df(c:FR)(i:Nat)(pr:PTA):PTE:=fun ρ Q=>match ρ[i]? with
 | some (some _)=>pr ρ fun as ρ1=>(match ρ1[i]?,avD as with
  | some (some p),some ds=>p.isOwn=true/\c p ds fun r p'=>Q r (ρ1.set i (some p'))
  | _,_=>False)
 | _=>False
theorem cb{c:FR}{i:Nat}(h:LAs K tr pr):LE K (jx (spR K c) [] E0 (bR (dn i) tr)) (df c i pr):=fun A ρ σ H Q Q' R q k=>by
 unfold df at q
 split at q
 .rename_i p0 e0;obtain⟨v0,s0,_⟩:=R.get i p0 e0;refine⟨v0,s0,h A ρ σ H _ _ R q fun vs H1 as ρ1 q1 f1 R1 o1=>?_⟩
  split at q1
  .rename_i p ds e1 ed;obtain⟨ow,q1⟩:=q1;obtain⟨v1,s1,rs⟩:=R1.get i p e1;rw [s0] at s1;cases s1;obtain⟨a,u,rfl,ea⟩:=rs.ref ow;rw [append_nil];have wa:Wr ρ1 σ a:=⟨i,p,e1,ow,s0⟩
   have oeq:iu (fun b=>(OO A ρ1 σ b)/\b≠a) a=OO A ρ1 σ:=funext fun b=>propext ⟨fun z=>z.elim (fun z=>z.1) (fun z=>by rw [z];exact .inr wa),fun z=>by
    by_cases e:b=a
    .exact .inr e
    .exact .inl ⟨z,e⟩⟩
   refine⟨fun b=>(OO A ρ1 σ b)/\b≠a,a,p,vs,ds,_,rfl,ow,fun b z=>R1.dom2 b z.1,fun z=>z.2 rfl,by rw [oeq];exact rs,by rw [oeq];exact o1.avD ed,q1,fun r p' qr ow' v H' kp ha rs' ov hx=>?_⟩;rw [oeq] at rs' ov hx
   have domA:∀b,A b->H' b≠none:=fun b z=>by
    have:b≠a:=fun e=>R1.sep b z (by rw [e];exact wa)
    cases eb:H1 b with
    | none=>exact absurd eb (R1.dom b z)
    | some o=>rw [kp b o this eb];exact nofun
   cases r with
   | dat d =>
    obtain⟨R2,f2⟩:=R1.step (A':=A) e1 ow ow' s0 kp ha (fun _ h=>h) (fun _ h=>.inl h) domA rs';exact k v H' _ _ qr (f1.trans f2) ⟨R2,FV.keeps (bo.less fun b z=>z.imp id (f2.ow b)) ov⟩
   | own es =>
    obtain⟨a',xs,rfl,n1,e2,f⟩:=ov;have hx:=hx a' rfl rfl;have na:a'≠a:=fun e=>by rw [e,ea] at n1;cases n1
    have oo2:∀b,OO (iu A a') ρ1 σ b ↔ iu (OO A ρ1 σ) a' b:=fun b=>⟨fun z=>by
     rcases z with (z|z)|z
     .exact .inl (.inl z)
     .exact .inr z
     .exact .inl (.inr z),fun z=>by
     rcases z with (z|z)|z
     .exact .inl (.inl z)
     .exact .inr z
     .exact .inl (.inr z)⟩
    have oo2':OO (iu A a') ρ1 σ=iu (OO A ρ1 σ) a':=funext fun b=>propext (oo2 b)
    obtain⟨R2,f2⟩:=R1.step (A':=iu A a') e1 ow ow' s0 kp ha (fun _ h=>.inl h) (fun b z=>z.imp id fun z=>by rw [z];exact n1) (fun b z=>z.elim (domA b) fun z=>by rw [z,e2];exact nofun) (by rw [oo2'];exact hx)
    .refine k _ H' (.own es) _ qr (f1.trans f2) ⟨a',xs,rfl,fun z=>R1.dom a' z n1,?_,e2,R2,f.keeps (bo.less fun b z=>?_)⟩
     .cases eb:H a' with
      | none=>rfl
      | some o=>exact absurd n1 (f1.dm a' (by rw [eb];exact nofun))
     .rw [<- oo2'];exact z.imp id (f2.ow b)
   | ins c ns es =>
    obtain⟨a',dx,fs,rfl,n1,e2,m,f⟩:=ov;have hx:=hx a' rfl rfl
    have oo2':OO (iu A a') ρ1 σ=iu (OO A ρ1 σ) a':=funext fun b=>propext ⟨fun z=>by
     rcases z with (z|z)|z
     .exact .inl (.inl z)
     .exact .inr z
     .exact .inl (.inr z),fun z=>by
     rcases z with (z|z)|z
     .exact .inl (.inl z)
     .exact .inr z
     .exact .inl (.inr z)⟩
    obtain⟨R2,f2⟩:=R1.step (A':=iu A a') e1 ow ow' s0 kp ha (fun _ h=>.inl h) (fun b z=>z.imp id fun z=>by rw [z];exact n1) (fun b z=>z.elim (domA b) fun z=>by rw [z,e2];exact nofun) (by rw [oo2'];exact hx)
    .refine k _ H' (.ins c ns es) _ qr (f1.trans f2) ⟨a',dx,fs,rfl,fun z=>R1.dom a' z n1,?_,e2,m,R2,f.keeps (bo.less fun b z=>?_)⟩
     .cases eb:H a' with
      | none=>rfl
      | some o=>exact absurd n1 (f1.dm a' (by rw [eb];exact nofun))
     .rw [<- oo2'];exact z.imp id (f2.ow b)
  .exact q1.elim
 .exact q.elim
def AT(Q:PV->PV->Prop)(r:PV)(ρ:PSt):Prop:=match ρ[0]? with
 | some (some p)=>p.isOwn=true/\Q r p
 | _=>False
theorem fnR{c:FR}{N:List Str}(hl:LS K [0] ts ps)(hn:∀p ds Q,c p ds Q->ds.length+1<=N.length)(hc:∀p ds Q,p.isOwn=true->c p ds Q->ps { nx:=AT Q (.dat .non),rt:=AT Q } (dq N.length (p::ds.map .dat)))
  {vs:List V}{H:Hp}{Q:VK}{E:XK} (h:spR K c vs H Q E):ts { nx:=fun _ H'=>Q .non H',rt:=Q } (start N vs) H:=by
 obtain⟨A,a,p,ws,ds,Qc,rfl,ow,dom,na,rs,fv,hq,k⟩:=h;have s0:(start N (V.ref a::ws))[0]?=some (some (.ref a)):=jW rfl;have b0:(dq N.length (p::ds.map .dat))[0]?=some (some p):=rfl
 have wr:∀b,Wr (dq N.length (p::ds.map .dat)) (start N (.ref a::ws)) b->b=a:=fun b ⟨i,q,e1,o1,s1⟩=>by
  have:=dD e1
  cases i with
  | zero=>rw [s0] at s1;cases s1;rfl
  | succ i =>
   rw [getElem?_cons_succ,getElem?_map] at this
   cases e2:ds[i]? with
   | none=>rw [e2] at this;cases this
   | some d=>rw [e2] at this;cases this;cases o1
 have wa:Wr (dq N.length (p::ds.map .dat)) (start N (.ref a::ws)) a:=⟨0,p,b0,ow,s0⟩
 have oeq:OO A (dq N.length (p::ds.map .dat)) (start N (.ref a::ws))=iu A a:=funext fun b=>propext ⟨fun z=>z.imp id (wr b),fun z=>z.imp id fun z=>by rw [z];exact wa⟩;have lenv:=fv.length;have hle:=hn p ds Qc hq
 have R0:Rel K A (dq N.length (p::ds.map .dat)) (start N (.ref a::ws)) H:=by
  refine⟨?_,fun i q e=>?_,fun i j q1 q2 v e1 e2 o1 o2 s1 s2=>?_,dom,fun b z w=>?_⟩
  .unfold dq start;simp only [length_append,length_map,length_replicate,length_cons,lenv]
  .have:=dD e;rw [oeq]
   cases i with
   | zero=>cases this;exact⟨_,s0,rs⟩
   | succ i =>
    rw [getElem?_cons_succ,getElem?_map] at this
    cases e2:ds[i]? with
    | none=>rw [e2] at this;cases this
    | some d =>
     rw [e2] at this;cases this;obtain⟨v,hv,f⟩:=fv.getD e2;exact⟨v,jW (by rw [getElem?_cons_succ];exact hv),f⟩
  .have own0:∀(i:Nat) (q:PV),(dq N.length (p::ds.map .dat))[i]?=some (some q)->q.isOwn=true->i=0:=fun i q e o=>by
    have:=dD e
    cases i with
    | zero=>rfl
    | succ i =>
     rw [getElem?_cons_succ,getElem?_map] at this
     cases e2:ds[i]? with
     | none=>rw [e2] at this;cases this
     | some d=>rw [e2] at this;cases this;cases o
   rw [own0 i q1 e1 o1,own0 j q2 e2 o2]
  .rw [wr b w] at z;exact na z
 have fin:∀(v:V) (r:PV) (ρ':PSt) (σ':St) (H':Hp),AT Qc r ρ'->Out K A ρ' σ' H H' r v->dL [(0,.ref a)] (fun b=>b=a) H ρ' σ' H'->Q v H':=fun v r ρ' σ' H' q o F=>by
  unfold AT at q
  split at q
  .rename_i p' e';obtain⟨ow',q⟩:=q;have sa:=F.fx (0,.ref a) (mem_singleton.mpr rfl);have wa':Wr ρ' σ' a:=⟨0,p',e',ow',sa⟩
   have kpa:∀b o,b≠a->H b=some o->H' b=some o:=fun b o n e=>F.kp b o n e
   cases r with
   | dat d =>
    obtain⟨R1,f1⟩:=o;obtain⟨v1,s1,rs1⟩:=R1.get 0 p' e';rw [sa] at s1;cases s1;have less:∀b,iu A a b->OO A ρ' σ' b:=fun b z=>z.imp id fun z=>by rw [z];exact wa'
    exact k _ p' q ow' v H' kpa (R1.wr wa') (rs1.keeps (bo.less less) fun _ _ _=>rfl) (f1.keeps (bo.less less)) (fun _ _ z=>nomatch z)
   | own es =>
    obtain⟨a',xs,rfl,n1,n2,e3,R1,f1⟩:=o;obtain⟨v1,s1,rs1⟩:=R1.get 0 p' e';rw [sa] at s1;cases s1
    have less:∀b,iu (iu A a) a' b->OO (iu A a') ρ' σ' b:=fun b z=>by
     rcases z with (z|z)|z
     .exact .inl (.inl z)
     .exact .inr (by rw [z];exact wa')
     .exact .inl (.inr z)
    exact k _ p' q ow' _ H' kpa (R1.wr wa') (rs1.keeps (bo.less fun b z=>less b (.inl z)) fun _ _ _=>rfl) ⟨a',xs,rfl,n2,e3,f1.keeps (bo.less less)⟩ (fun a'' e _=>by cases e;exact rs1.keeps (bo.less less) fun _ _ _=>rfl)
   | ins c ns es =>
    obtain⟨a',dx,fs,rfl,n1,n2,e3,m,R1,f1⟩:=o;obtain⟨v1,s1,rs1⟩:=R1.get 0 p' e';rw [sa] at s1;cases s1
    have less:∀b,iu (iu A a) a' b->OO (iu A a') ρ' σ' b:=fun b z=>by
     rcases z with (z|z)|z
     .exact .inl (.inl z)
     .exact .inr (by rw [z];exact wa')
     .exact .inl (.inr z)
    exact k _ p' q ow' _ H' kpa (R1.wr wa') (rs1.keeps (bo.less fun b z=>less b (.inl z)) fun _ _ _=>rfl) ⟨a',dx,fs,rfl,n2,e3,m,f1.keeps (bo.less less)⟩ (fun a'' e _=>by cases e;exact rs1.keeps (bo.less less) fun _ _ _=>rfl)
  .exact q.elim
 refine hl [(0,.ref a)] A (fun b=>b=a) H _ _ H _ _ rfl R0 ⟨fun _ _ _ h=>h,fun _ h=>h,fun b w=>.inl (wr b w),fun q hq=>by rw [mem_singleton.mp hq];exact s0⟩ (hc p ds Qc ow hq) (fun ρ' σ' H' q r F=>fin .non (.dat .non) ρ' σ' H' q ⟨r,.non⟩ F) (fun v p ρ' σ' H' q o F=>fin v p ρ' σ' H' q o F) (fun _ _ _ z=>z.elim) (fun _ _ _ z=>z.elim)
end
def Ek:FN:=fun as Q=>∃ns:List Int,as=[.scr ns]/\ns.length<=63/\Q (.dat (.bl true))
theorem zN{K:PySem.W.Frag}{vs:List V}{H:Hp}{Q:VK}{E:XK}(h:t0 K vs H Q E):spP K Ek vs H Q E:=by
 obtain⟨a,ns,rfl,hS,h63,q⟩:=h
 refine⟨fun _=>False,[.scr ns],fun r=>r=.dat (.bl true),nofun,.cons (.scr ?_) .nil,⟨ns,rfl,h63,rfl⟩,fun r e v H' g o=>?_⟩
 .rcases hS with h|h
  .exact .inl ⟨id,h⟩
  .exact .inr h
 .subst e;cases o;exact q H'
section
variable {K:PySem.W.Frag}{X:Cx}
def BZ:List V->Hp->VK->Prop:=fun xs H Q=>∃i j,xs=[.int i,.int j]/\Q (.int (if j > i then j else i)) H
theorem B0(hc:X.calm=true):cK X (.builtin "max") BZ:=uV hc
def zO:FN
 | [.int i,.int j],Q=>Q (.dat (.int (if j > i then j else i)))
 | _,_=>False
theorem zP:LC K BZ zO:=by
 intro O H xs as Q Q' dom fs q k;unfold zO at q
 split at q
 .cases fs with
  | cons a b=>cases b with|cons b c=>cases c;rw [a.int,b.int];exact⟨_,_,rfl,k _ H _ q (Gr.refl _) (.int _)⟩
 .exact q.elim
def El(K:PySem.W.Frag):List V->Hp->VK->Prop:=fun xs H Q=>∃(p:Addr) (bs:List Bool),xs=[.ref p]/\SqL K H p (bs.map V.bl)/\Q (.bl (bs.all id)) H
theorem rC(K:PySem.W.Frag)(e:X.K=K)(hc:X.calm=true):cK X (.builtin "all") (El K):=by subst e;exact xp hc
def xw:FN
 | [.lst ds],Q=>∃bs:List Bool,ds=bs.map .bl/\Q (.dat (.bl (bs.all id)))
 | _,_=>False
theorem lO:LC K (El K) xw:=by
 intro O H xs as Q Q' dom fs q k;unfold xw at q
 split at q
 .obtain⟨ns,rfl,q⟩:=q
  cases fs with
  | cons a b =>
   cases b;obtain⟨p,ys,rfl,e1,f1⟩:=a.lst;rw [f1.bls] at e1;exact⟨p,ns,rfl,SqL.of e1,k _ H _ q (Gr.refl _) (.bl _)⟩
 .exact q.elim
def B1(K:PySem.W.Frag):List V->Hp->VK->Prop:=fun xs H Q=>∃p ys,xs=[.ref p]/\((SqL K H p ys/\∀l,H l=none->Q (.ref l) (upd H l (.tup ys)))\/(SqT K H p ys/\Q (.ref p) H))
theorem kg(K:PySem.W.Frag)(e:X.K=K):cK X (.type "tuple") (B1 K):=by subst e;exact oA
theorem sQ(K:PySem.W.Frag)(e:X.K=K):cK X (.type "list") (vC K):=by subst e;exact pX
def kK:FN
 | [.lst ds],Q=>Q (.dat (.tup ds))
 | [.tup ds],Q=>Q (.dat (.tup ds))
 | [.scr ns],Q=>Q (.dat (.tup (ns.map .int)))
 | _,_=>False
def uh:FN
 | [.lst ds],Q=>Q (.own ds)
 | [.tup ds],Q=>Q (.own ds)
 | [.scr ns],Q=>Q (.own (ns.map .int))
 | _,_=>False
theorem i9:LC K (B1 K) kK:=by
 intro O H xs as Q Q' dom fs q k;unfold kK at q
 split at q
 .cases fs with
  | cons a b =>
   cases b;obtain⟨p,ys,rfl,e1,f1⟩:=a.lst;exact⟨p,ys,rfl,.inl ⟨SqL.of e1,fun l hl=>k _ _ _ q (Gr.new hl) (lN dom hl f1)⟩⟩
 .cases fs with
  | cons a b =>
   cases b;obtain⟨p,ys,rfl,n1,e1,f1⟩:=a.tup;exact⟨p,ys,rfl,.inr ⟨SqT.of e1,k _ H _ q (Gr.refl _) (.tup n1 e1 f1)⟩⟩
 .cases fs with
  | cons a b =>
   cases b;obtain⟨p,rfl,e1⟩:=a.scr;exact⟨p,_,rfl,.inl ⟨e1,fun l hl=>k _ _ _ q (Gr.new hl) (lN dom hl (FVs.of_ints _))⟩⟩
 .exact q.elim
theorem oQ:LC K (vC K) uh:=by
 intro O H xs as Q Q' dom fs q k;unfold uh at q
 split at q
 .cases fs with
  | cons a b =>
   cases b;obtain⟨p,ys,rfl,e1,f1⟩:=a.lst;exact⟨p,ys,rfl,.inl (SqL.of e1),fun l hl=>k _ _ _ q (Gr.new hl) (e7 hl f1)⟩
 .cases fs with
  | cons a b =>
   cases b;obtain⟨p,ys,rfl,n1,e1,f1⟩:=a.tup;exact⟨p,ys,rfl,.inr (SqT.of e1),fun l hl=>k _ _ _ q (Gr.new hl) (e7 hl f1)⟩
 .cases fs with
  | cons a b =>
   cases b;obtain⟨p,rfl,e1⟩:=a.scr;exact⟨p,_,rfl,.inl e1,fun l hl=>k _ _ _ q (Gr.new hl) (e7 hl (FVs.of_ints _))⟩
 .exact q.elim
variable {ta:TE}{pa:PA1}{tr:TA}{pr:PTA}{pe:PTE}
def B2(i:Int)(n:Nat):List D:=(List.range n).map fun (k:Nat)=>D.int (i+(k:Int))
def mkL(tup:Bool)(ds:List D):PV:=match tup with|true=>.dat (.tup ds)|false=>.own ds
def B3(tup:Bool)(pr:PTA):PTE:=fun ρ Q=>pr ρ fun as ρ1=>match as with
 | [.v (.int j)]=>(0<=j/\j<=1000000)/\Q (mkL tup (B2 0 j.toNat)) ρ1
 | _=>False
theorem B4{O:Addr->Prop}{H:Hp}(i:Int)(n:Nat):FVs K O H (rp i 1 n) (B2 i n):=by
 have e:∀l:List Nat,FVs K O H (l.map fun (k:Nat)=>V.int (i+k*1)) (l.map fun (k:Nat)=>D.int (i+(k:Int))):=fun l=>by
  induction l with
  | nil=>exact .nil
  | cons a r ih=>exact .cons (by show FV K O H (V.int (i+(a:Int)*1)) (D.int (i+(a:Int)));rw [show i+(a:Int)*1=i+(a:Int) by omega];exact .int _) ih
 exact e _
theorem nV{i j:Int}(h:i<=j):Builtin.Range.rangeSize i j 1=(((j - i).toNat:Nat):Int):=by
 unfold Builtin.Range.rangeSize;rw [if_pos (by decide)];simp only [ediv_one];split <;> omega
theorem ui{i j:Int}(h0:-1000000<=i)(h1:i<=j)(h2:j<=1000000):Builtin.Range.small i j 1=true:=by
 unfold Builtin.Range.small;rw [nV h1];simp only [Builtin.Range.rangeFitsLong,and_eq_true,or_eq_true,decide_eq_true_eq,beq_iff_eq,show (1:Int) > 0 by decide,if_true];omega
def mkO(tup:Bool):List V->HO:=match tup with|true=>.tup|false=>.lst
theorem B5{O:Addr->Prop}{H:Hp}{xs:List V}{ds:List D}{p:Addr}(tup:Bool)(dom:∀b,O b->H b≠none)(hp:H p=none)(f:FVs K O H xs ds):qh K O H (upd H p (mkO tup xs)) (mkL tup ds) (.ref p):=by
 cases tup with
 | true=>exact lN dom hp f
 | false=>exact e7 hp f
theorem xx(tup:Bool)(h:LAs K tr pr):LE K (tCB (Dg K (mkO tup)) (bR (fun σ H Q=>tr σ H fun vs H1=>∃j:Int,vs=[.int j]/\∀p,H1 p=none->Q (.ref p) (upd H1 p (yp p 0 j 1))) jO)) (B3 tup pr):=fun A ρ σ H Q Q' R q k=>h A ρ σ H _ _ R q fun vs H1 as ρ1 q1 f1 R1 o1=>by
 split at q1
 .rename_i j
  cases o1 with
  | cons a b =>
   cases b;cases a;refine⟨j,rfl,fun p hp=>⟨p,0,j,1,j.toNat,rfl,aQ,ui (by decide) q1.1.1 q1.1.2,by rw [nV q1.1.1,Int.sub_zero],by omega,fun l hl=>?_⟩⟩;have g:Gr H1 (upd H1 p (yp p 0 j 1)):=Gr.new hp;have R2:=R1.gr g;have g2:Gr (upd H1 p (yp p 0 j 1)) (upd (upd H1 p (yp p 0 j 1)) l (mkO tup (rp 0 1 j.toNat))):=Gr.new hl;exact k _ _ _ ρ1 q1.2 (f1.trans (g.fr.trans g2.fr)) ((qh.out R2 g2 (B5 tup R2.dom2 hl (B4 0 _))).h0 fun b z=>(g.fr (ρ:=ρ1) (σ:=σ)).dm b (f1.dm b z))
 .exact q1.elim
theorem B6(K:PySem.W.Frag)(e:X.K=K)(hc:X.calm=true):cK X (.type "list") (Dg K (mkO false)):=by subst e;exact ua hc
def sR(pa:PA1):PTE:=fun ρ Q=>pa ρ fun x ρ1=>match cont ρ1 x with
 | some (.lst ds)=>Q (.own ds.reverse) ρ1
 | _=>False
def sS(K:PySem.W.Frag)(te:TE):TE:=fun σ H Q=>te σ H fun x H1=>∃a xs,x=.ref a/\SqL K H1 a xs/\∀l,H1 l=none->Q (.ref l) (upd H1 l (.lst xs.reverse))
theorem rD{e:Expr}{te:TE}{p p1 p2 pos:Pos}(K:PySem.W.Frag)(eK:X.K=K)(hc:X.calm=true)(he:PE X e te)(hg1:Gl X "list")(hm1:X.mg "list"=none)(hg2:Gl X "reversed")(hm2:X.mg "reversed"=none)
  (hs:starEach [.Call (.Name "reversed" p1) [e] [] p2] X.env=[(false,eval (.Call (.Name "reversed" p1) [e] [] p2) X.env)]:=by rfl) (hs2:starEach [e] X.env=[(false,eval e X.env)]:=by rfl) :
  PE X (.Call (.Name "list" p) [.Call (.Name "reversed" p1) [e] [] p2] [] pos) (sS K te):=by subst eK;exact uc hc he hg1 hm1 hg2 hm2 hs hs2
theorem uj(h:LA1 K ta pa):LE K (sS K ta) (sR pa):=fun A ρ σ H Q Q' R q k=>h A ρ σ H _ _ R q fun v H1 a ρ1 q1 f1 R1 o1=>by
 split at q1
 .rename_i ds e;obtain⟨p,xs,rfl,e1,fs⟩:=(R1.cont o1 e).lst;refine⟨p,xs,rfl,SqL.of e1,fun l hl=>?_⟩;have g:Gr H1 (upd H1 l (.lst xs.reverse)):=Gr.new hl;exact k _ _ _ ρ1 q1 (f1.trans g.fr) ((qh.out (p:=.own ds.reverse) R1 g (e7 hl fs.reverse)).h0 f1.dm)
 .exact q1.elim
abbrev FM:=List Nat->List D->(PV->Prop)->Prop
def LM(K:PySem.W.Frag)(r:V->List V->Hp->VK->Prop)(f:FM):Prop:=∀(O:Addr->Prop) (H:Hp) (l:List Nat) (xs:List V) (as:List D) (Q:PV->Prop) (Q':VK),(∀b,O b->H b≠none)->l.length<=1000000->AQ K O H xs as->f l as Q ->
 (∀v H' p,Q p->Gr H H'->qh K O H H' p v->Q' v H')->r (.str (S l)) xs H Q'
def pSM(f:FM)(pe:PTE)(pr:PTA):PTE:=fun ρ Q=>pe ρ fun p ρ1=>match p with
 | .dat (.str l)=>pr ρ1 fun as ρ2=>(match conts ρ2 as with
  | some ds=>f l ds fun r=>Q r ρ2
  | none=>False)
 | _=>False
theorem DD{r:V->List V->Hp->VK->Prop}{f:FM}(o:LM K r f)(he:LE K ta pe)(hr:LAs K tr pr):LE K (tBM K "str" r ta tr) (pSM f pe pr):=fun A ρ σ H Q Q' R q k=>he A ρ σ H _ _ R q fun v H1 p ρ1 q1 f1 o1=>by
 split at q1
 .rename_i l;obtain⟨R1,fv⟩:=o1
  cases fv with
  | str _ hl =>
   refine⟨rfl,hr A ρ1 σ H1 _ _ R1 q1 fun vs H2 as ρ2 q2 f2 R2 o2=>?_⟩
   split at q2
   .rename_i ds e;exact o _ H2 l vs ds _ _ R2.dom2 hl (R2.conts o2 e) q2 fun z H3 p q3 g ov=>k z H3 p ρ2 q3 ((f1.trans f2).trans g.fr) ((ov.out R2 g).h0 fun b z=>f2.dm b (f1.dm b z))
   .exact q2.elim
 .exact q1.elim
def qm(f:Str):List Str->Option Nat
 | []=>none
 | n::r=>if n=f then some 0 else (qm f r).map (·+1)
theorem qo{f:Str}:∀{fs:List (Str×V)}{k:Nat},qm f (fs.map Prod.fst)=some k->fs.lookup f=(fs.map Prod.snd)[k]?
 | [],k,h=>by cases h
 | (n,v)::r,k,h=>by
  unfold qm at h;rw [map_cons] at h;simp only at h;rw [lookup_cons]
  by_cases e:n=f
  .rw [if_pos e] at h;cases h;rw [show (f == n)=true by rw [e];exact beq_self_eq_true _];rfl
  .rw [if_neg e] at h;rw [show (f == n)=false from beq_eq_false_iff_ne.mpr fun z=>e z.symm]
   cases e2:qm f (r.map Prod.fst) with
   | none=>rw [e2] at h;cases h
   | some j=>rw [e2] at h;cases h;show List.lookup f r=_;rw [qo e2];simp
end
abbrev zQ:R2:=rI0 fun i j=>.int (i - j)
abbrev DE:R2:=rI (fun _ j=>0<j) fun i j=>.int (i % j)
abbrev DF:R2:=rI CY fun i j=>.int (i / j)
abbrev B7:R2:=rI CZ fun i j=>.int (i^j.toNat)
abbrev EG:R2:=rI0 fun i j=>.bl (decide (j<i))
abbrev Em:R2:=rI0 fun i j=>.bl (decide (j<=i))
abbrev B8:V->Hp->VK->Prop:=rU fun i=>.int (-i)
abbrev B9:F2:=fI0 fun i j=>.int (i - j)
abbrev lA:F2:=fI (fun _ j=>0<j) fun i j=>.int (i % j)
abbrev CN:F2:=fI (fun _ j=>0<j/\j<1073741824) fun i j=>.int (i / j)
abbrev Ca:F2:=fI (fun i j=>0<=j/\j<=1000000/\i.natAbs<2^64) fun i j=>.int (i^j.toNat)
abbrev fGt:F2:=fI0 fun i j=>.bl (decide (j<i))
abbrev fGe:F2:=fI0 fun i j=>.bl (decide (j<=i))
def yy:D->(PV->Prop)->Prop
 | .int i,Q=>Q (.dat (.int (-i)))
 | _,_=>False
section
variable {K:PySem.W.Frag}{X:Cx}{ta:TE}{tr:TA}{pr:PTA}{ts:TS}{ps:PTS}
theorem vJ:OpR X (binaryOp .Sub) zQ:=Bf
theorem eS:OpR X (binaryOp .Mod) DE:=Bh
theorem sU:OpR X (binaryOp .FloorDiv) DF:=ze
theorem vK:OpR X (binaryOp .Pow) B7:=Bi
theorem AU:OpR X (compareOp .Gt) EG:=C6
theorem Cb:OpR X (compareOp .GtE) Em:=C7
theorem nW:LU K B8 yy:=by
 intro O H x a Q Q' dom fx q k;unfold yy at q
 split at q
 .rename_i i;exact⟨i,fx.int,k _ H _ q (Gr.refl _) (.int _)⟩
 .exact q.elim
theorem sV{es:List Expr}{ct:Nat}{tp:Pos}(K:PySem.W.Frag)(e:X.K=K){a:Expr}{ta:TA}{p pos:Pos}(hg:Gl X "enumerate")(hm:X.mg "enumerate"=none)(ha:PA X [a] ta)(hs:starEach [a] X.env=[(false,eval a X.env)]:=by rfl) :
  PI X (.Tuple es ct tp) (.Call (.Name "enumerate" p) [a] [] pos) (zC K ta):=by subst e;exact zD hg hm ha hs
theorem pO{ix:List (Option Nat)}{fs:List Nat}{i:Nat}(h:∀k∈fs,k∈AS ix)(hi:(AS ix).contains i=false):fs.contains i=false:=by
 cases e:fs.contains i with
 | false=>rfl
 | true =>
  have:=h i (contains_iff_mem.mp e);rw [contains_iff_mem.mpr this] at hi;cases hi
theorem nu(t:Value)(b c:Bool)(h1:PySem.W.kitOne K t (.type "list")=some b)(h2:PySem.W.kitOne K t (.type "tuple")=some c):PySem.W.kitAny K t [.type "list",.type "tuple"]=some (b || c):=by
 simp only [PySem.W.kitAny,h1,h2];cases b <;> cases c <;> rfl
def yz(c:FN)(es:List D)(pr:PTA):PTE:=fun ρ Q=>pr ρ fun as ρ1=>match avD as with
 | some ds=>c (ds++es) fun r=>Q r ρ1
 | none=>False
theorem xy{c:FN}{vs0:List V}{ds:List D}(hd:∀{O:Addr->Prop}{H:Hp},FVs K O H vs0 ds)(h:LAs K tr pr):LE K (jx (spP K c) vs0 E0 tr) (yz c ds pr):=fun A ρ σ H Q Q' R q k=>h A ρ σ H _ _ R q fun vs H1 as ρ1 q1 f1 R1 o1=>by
 split at q1
 .rename_i es e;exact⟨OO A ρ1 σ,_,_,R1.dom2,(o1.avD e).append hd,q1,fun r qr v H' g ov=>k v H' r ρ1 qr (f1.trans g.fr) ((ov.out R1 g).h0 f1.dm)⟩
 .exact q1.elim
theorem jh{c:FN}{n:Nat}(hn:∀ds Q,c ds Q->ds.length=n){vs:List V}{H:Hp}{Q:VK}{E:XK}(h:spP K c vs H Q E):vs.length=n:=by
 obtain⟨O,ds,Qc,_,f,hq,_⟩:=h;rw [f.length];exact hn ds Qc hq
theorem En{c:FR}{n:Nat}(hn:∀p ds Q,c p ds Q->ds.length+1=n){vs:List V}{H:Hp}{Q:VK}{E:XK}(h:spR K c vs H Q E):vs.length=n:=by
 obtain⟨A,a,p,ws,ds,Qc,rfl,_,_,_,_,f,hq,_⟩:=h;rw [length_cons,f.length];exact hn p ds Qc hq
abbrev dg(pp:PTS)(n:Nat)(ds:List D)(Q:PV->Prop):Prop:=pp { nx:=fun _=>Q (.dat .non),rt:=fun p _=>Q p } (dq n (ds.map .dat))
abbrev CO(pp:PTS)(n:Nat)(p:PV)(ds:List D)(Q:PV->PV->Prop):Prop:=pp { nx:=AT Q (.dat .non),rt:=AT Q } (dq n (p::ds.map .dat))
end
end L2
namespace L2
theorem Cal.imp{P:PySem.Program}{w:PySem.World}{K:PySem.W.Frag}{mg:PySem.Str->Option PySem.Value}{base:PySem.Heap}{k:Nat}{x:PySem.Str}{ps:List PySem.Str}{sp sp':Sp}(C:Cal P w K mg base k x ps sp)(h:∀vs H Q E,sp' vs H Q E->sp vs H Q E):Cal P w K mg base k x ps sp':=by
 obtain⟨f,fd,F,r⟩:=C.ex;exact⟨f,fd,F.imp h,r⟩
end L2
namespace L2
open PySem PySem.Spec PyProof.Rows
theorem cfm{ix:List (Option Nat)}{ρ1:PSt}{n:Nat}{it:Nat->D}{g:PTG}{pt:PTT}{pe:PTE}{Q:PKt}(T:PSt->Prop)(f:Nat->Option D)(h0:T (bN ix ρ1))
  (hs:∀k τ d,k<n->d=it k->T τ->∀(K1:D->PSt->Prop) (K2:PSt->Prop),(∀d τ',f k=some d->T τ'->K1 d τ')->(∀τ',f k=none->T τ'->K2 τ')->g (.dat d) τ fun τ2=>pt τ2 fun ok τ3=>jB ok (pe τ3 fun p τ4=>K1 p.d τ4) (K2 τ3))
  (hq:∀τ,T τ->Q (.own ((List.range n).filterMap f)) (gC ix ρ1 τ)) :
  lf ix ρ1 n it g pt pe Q:=by
 refine⟨fun k ys τ=>ys=(List.range k).filterMap f/\T τ,⟨rfl,h0⟩,fun k ys τ dd hk ed ⟨e,t⟩=>?_,fun ys τ ⟨e,t⟩=>by rw [e];exact hq τ t⟩
 have r:(List.range (k+1)).filterMap f=(List.range k).filterMap f++(f k).toList:=by
  rw [range_succ,filterMap_append]
  cases e:f k with
  | none=>rw [show [k].filterMap f=[] by simp [e]];rfl
  | some d=>rw [show [k].filterMap f=[d] by simp [e]];rfl
 refine hs k τ dd hk ed t (fun d τ'=>(ys++[d]=(List.range (k+1)).filterMap f/\T τ')) (fun τ'=>(ys=(List.range (k+1)).filterMap f/\T τ')) (fun d τ' h t'=>⟨?_,t'⟩) (fun τ' h t'=>⟨?_,t'⟩)
 .rw [r,e,h];rfl
 .rw [r,e,h];simp
theorem xz{ix:List (Option Nat)}{ρ1:PSt}{n:Nat}{it:Nat->D}{g:PTG}{pe:PTE}{Q:PKt}(T:PSt->Prop)(f:Nat->D)(h0:T (bN ix ρ1))
  (hs:∀k τ d,k<n->d=it k->T τ->∀K1:D->PSt->Prop,(∀τ',T τ'->K1 (f k) τ')->g (.dat d) τ fun τ2=>pe τ2 fun p τ4=>K1 p.d τ4)
  (hq:∀τ,T τ->Q (.own ((List.range n).map f)) (gC ix ρ1 τ)) :
  lf ix ρ1 n it g pN pe Q:=by
 refine cfm T (fun k=>some (f k)) h0 (fun k τ d hk ed t K1 K2 k1 k2=>?_) fun τ t=>?_
 .exact hs k τ d hk ed t K1 fun τ' t'=>k1 _ τ' rfl t'
 .have:(List.range n).filterMap (fun k=>some (f k))=(List.range n).map f:=by rw [<- filterMap_eq_map];rfl
  rw [this];exact hq τ t
theorem lP{β:Type}(f:D->β)(ds:List D):(List.range ds.length).map (fun k=>f (itD ds k))=ds.map f:=by
 apply ext_getElem?;intro i;rw [getElem?_map,getElem?_map]
 by_cases h:i<ds.length
 .rw [getElem?_range h,vG h];rfl
 .rw [getElem?_eq_none (by rw [length_range];omega),getElem?_eq_none (by omega)];rfl
theorem rE{β:Type}(f:Nat->β)(l:List Nat):(List.range l.length).map (fun k=>f (l.getD k 0))=l.map f:=by
 apply ext_getElem?;intro i;rw [getElem?_map,getElem?_map]
 by_cases h:i<l.length
 .rw [getElem?_range h];show some (f (l.getD i 0))=_;rw [getD_eq_getElem?_getD,getElem?_eq_getElem h];rfl
 .rw [getElem?_eq_none (by rw [length_range];omega),getElem?_eq_none (by omega)];rfl
def pw(ws:List (List Nat))(k:Nat):List Nat:=ws.getD k []
theorem iG{ws:List (List Nat)}{k:Nat}(h:k<ws.length):ws[k]?=some (pw ws k):=by unfold pw;rw [getD_eq_getElem?_getD,getElem?_eq_getElem h];rfl
theorem kL{ws:List (List Nat)}{k:Nat}(h:k<ws.length):pw ws k∈ws:=mem_of_getElem? (iG h)
theorem vL{ws:List (List Nat)}{k:Nat}(h:k<(ws.map D.str).length):itD (ws.map D.str) k=.str (pw ws k):=jV (by rw [getElem?_map,iG (by rwa [length_map] at h)];rfl)
theorem vM{ns:List Int}{k:Nat}(h:k<(ns.map D.int).length):itD (ns.map D.int) k=.int (ns.getD k 0):=jV (by
 have h:k<ns.length:=by rwa [length_map] at h
 rw [getElem?_map,getD_eq_getElem?_getD,getElem?_eq_getElem h];rfl)
def ltB(c:Nat):Bool:=decide (97<=c) && decide (c<=122)
def wM:D->Int->Int->Bool
 | .str l,a,b=>(decide (a<=(l.length:Int)) && decide ((l.length:Int)<=b)) && l.all ltB
 | _,_,_=>false
theorem gN(l:List Nat)(a b:Int):wM (.str l) a b=((decide (a<=(l.length:Int)) && decide ((l.length:Int)<=b)) && l.all ltB):=rfl
def uk:D->Nat
 | .str l=>l.length
 | _=>0
theorem rF(i j:Nat):(!decide (([j]:List Nat)<[i]))=decide (i<=j):=by
 by_cases h:i<=j
 .rw [decide_eq_true h]
  have:¬ ([j]:List Nat)<[i]:=by
   rw [cons_lt_cons_iff]
   rintro (z|⟨_,z⟩)
   .omega
   .exact absurd z (List.lt_irrefl _)
  rw [decide_eq_false this];rfl
 .rw [decide_eq_false h]
  have:([j]:List Nat)<[i]:=by
   rw [cons_lt_cons_iff];exact .inl (by omega)
  rw [decide_eq_true this];rfl
theorem vN:∀ns:List Int,D.pys (ns.map .int)=ns.map PyData.int
 | []=>rfl
 | n::r=>by rw [map_cons,map_cons,<- vN r];rfl
theorem nX:∀ns:List Int,D.plains (ns.map .int)=true
 | []=>rfl
 | n::r=>by rw [map_cons];show (true && D.plains (r.map .int))=true;rw [nX r];rfl
def Sh(d:D):Prop:=d.plain=true/\SeqAt.shaped d.py=true
theorem uE.of{a b:D}(h:Sh a)(h':Sh b):uE a b:=⟨h.1,h'.1,h.2,h'.2⟩
theorem Sh.lstI(ns:List Int):Sh (.lst (ns.map .int)):=⟨nX ns,by show SeqAt.shaped (.list (D.pys _))=true;rw [vN];exact (nR.list (vy ns)).shaped (by decide)⟩
theorem lB{d:D}(h:Sh d):deq d d=true:=xo h.2
section
variable {X:Cx}{K:PySem.W.Frag}
def vO(neg:Bool):R2:=fun x y H Q=>∃a b,x=.ref a/\y=.ref b/\H a=some (.dK [])/\H b=some (.dK [])/\Q (.bl (!neg)) H
theorem xA(hu:X.A.units+64<cLine):OpR X (compareOp .Eq) (vO false):=by
 intro pins s σ H x y v u Q I rx ry ⟨a,b,e1,e2,h1,h2,q⟩;subst e1 e2;cases rx;cases ry;obtain⟨_,y1,vs,r1,p1⟩:=(show ck X.prog X.w H s.heap a (.dK []) from I.hok a _ h1)
 obtain⟨_,y2,ws,r2,p2⟩:=(show ck X.prog X.w H s.heap b (.dK []) from I.hok b _ h2)
 cases r1;cases r2;exact PySem.W.keq_eq (r:=true) y1 y2 p1 p2 (by omega) (fun _=>.nil) ⟨.bl true,H,I,rfl,q⟩
theorem xB(hu:X.A.units+64<cLine):OpR X (compareOp .NotEq) (vO true):=by
 intro pins s σ H x y v u Q I rx ry ⟨a,b,e1,e2,h1,h2,q⟩;subst e1 e2;cases rx;cases ry;obtain⟨_,y1,vs,r1,p1⟩:=(show ck X.prog X.w H s.heap a (.dK []) from I.hok a _ h1)
 obtain⟨_,y2,ws,r2,p2⟩:=(show ck X.prog X.w H s.heap b (.dK []) from I.hok b _ h2)
 cases r1;cases r2;exact PySem.W.keq_ne (r:=true) y1 y2 p1 p2 (by omega) (fun _=>.nil) ⟨.bl false,H,I,rfl,q⟩
def xC(K:PySem.W.Frag)(neg:Bool):R2:=fun x y H Q=>BQ K neg x y H Q\/vO neg x y H Q
theorem iH(K:PySem.W.Frag)(e:X.K=K)(hu:X.A.units+64<cLine):OpR X (compareOp .Eq) (xC K false):=OpR.or (EE K e hu) (xA hu)
theorem jX(K:PySem.W.Frag)(e:X.K=K)(hu:X.A.units+64<cLine):OpR X (compareOp .NotEq) (xC K true):=OpR.or (EF K e hu) (xB hu)
def oR:F2
 | .dic [] [],.dic [] [],Q=>Q (.dat (.bl true))
 | a,b,Q=>fEq a b Q
def rh:F2
 | .dic [] [],.dic [] [],Q=>Q (.dat (.bl false))
 | a,b,Q=>fNe a b Q
theorem FVc.dic0{O:Addr->Prop}{H:Hp}{v:V}(h:FVc K O H v (.dic [] [])):∃a,v=.ref a/\H a=some (.dK []):=by
 cases h.fv nofun nofun with
 | dic n e m f =>
  rename_i a kvs
  cases kvs with
  | nil=>exact⟨a,rfl,e⟩
  | cons x r=>cases m
theorem eA:LO K (xC K false) oR:=by
 intro O H x y a b Q Q' dom fx fy q k;unfold oR at q
 split at q
 .obtain⟨a,rfl,e1⟩:=fx.dic0;obtain⟨b,rfl,e2⟩:=fy.dic0;exact .inr ⟨a,b,rfl,rfl,e1,e2,k _ H _ q (Gr.refl _) (.bl _)⟩
 .exact .inl (Dw O H x y _ _ Q Q' dom fx fy q k)
theorem fF:LO K (xC K true) rh:=by
 intro O H x y a b Q Q' dom fx fy q k;unfold rh at q
 split at q
 .obtain⟨a,rfl,e1⟩:=fx.dic0;obtain⟨b,rfl,e2⟩:=fy.dic0;exact .inr ⟨a,b,rfl,rfl,e1,e2,k _ H _ q (Gr.refl _) (.bl _)⟩
 .exact .inl (Dx O H x y _ _ Q Q' dom fx fy q k)
end
theorem rG:∀ds:List D,D.pys ds=ds.map D.py
 | []=>rfl
 | d::r=>by rw [map_cons,<- rG r];rfl
theorem kh:∀ds:List D,D.plains ds=ds.all D.plain
 | []=>rfl
 | d::r=>by rw [all_cons,<- kh r];rfl
def Fl(n:Nat)(d:D):Prop:=d.plain=true/\nR n d.py
theorem Fl.sh{n:Nat}{d:D}(h:Fl n d)(hn:n<=64):Sh d:=⟨h.1,h.2.shaped hn⟩
theorem Fl.mono{n m:Nat}{d:D}(h:Fl n d)(hn:n<=m):Fl m d:=⟨h.1,h.2.1,le_trans h.2.2 hn⟩
theorem Fl.int{n:Nat}(i:Int):Fl n (.int i):=(show Fl 0 (.int i) from ⟨rfl,nR.int i⟩).mono (zero_le _)
theorem Fl.str{n:Nat}{l:List Nat}(h:∀c∈l,c<128):Fl n (.str l):=by
 refine⟨rfl,?_,by simp [D.py,PyData.depth]⟩;simp only [D.py,PyData.canLay0,PyData.strOk,S];rw [Array.all_eq_true];intro i hi;have:=h l[i] (getElem_mem _);simp only [getElem_toArray,decide_eq_true_eq];omega
theorem Fl.lst{n:Nat}{ds:List D}(h:∀d∈ds,Fl n d):Fl (n+1) (.lst ds):=by
 refine⟨?_,?_⟩
 .show D.plains ds=true;rw [kh,all_eq_true];exact fun d hd=>(h d hd).1
 .show nR (n+1) (.list (D.pys ds));rw [rG];refine nR.list fun d hd=>?_;obtain⟨x,hx,rfl⟩:=mem_map.mp hd;exact (h x hx).2
theorem Fl.tup{n:Nat}{ds:List D}(h:∀d∈ds,Fl n d):Fl (n+1) (.tup ds):=by
 refine⟨?_,?_⟩
 .show D.plains ds=true;rw [kh,all_eq_true];exact fun d hd=>(h d hd).1
 .show nR (n+1) (.tuple (D.pys ds));rw [rG];refine nR.tuple fun d hd=>?_;obtain⟨x,hx,rfl⟩:=mem_map.mp hd;exact (h x hx).2
theorem Fl.ints{n:Nat}(zs:List Int):∀d∈zs.map D.int,Fl n d:=fun d hd=>by
 obtain⟨i,_,rfl⟩:=mem_map.mp hd;exact Fl.int i
def lQ:D->Bool
 | .int _=>true
 | _=>false
def xD:D->Bool
 | .lst _=>true
 | .tup _=>true
 | _=>false
def ji:D->List D
 | .lst ds=>ds
 | .tup ds=>ds
 | _=>[]
def toI:D->Int
 | .int i=>i
 | _=>0
def ki(d:D)(m:Int):Bool:=xD d && (decide (((ji d).length:Int)=m) && (ji d).all lQ)
def Srt(d:D):Prop:=d.sort=true/\∀x∈ji d,x.sort=true
theorem vP:∀{ds:List D},ds.all lQ=true->ds=(ds.map toI).map D.int
 | [],_=>rfl
 | d::r,h=>by
  rw [all_cons,and_eq_true] at h;rw [map_cons,map_cons,<- vP h.2];cases d <;> first|rfl|cases h.1
theorem lR{ds:List D}{k:Nat}(h:k<ds.length):itD ds k∈ds:=mem_of_getElem? (vG h)
abbrev SIt(h:Heap)(a:Addr)(x:Str)(t:Tok)(i:Nat):Prop:=h.IsStrIter a (strIterType x) x t i
theorem SIt.mv{h h':Heap}{a:Addr}{x:Str}{t:Tok}{i:Nat}(W:SIt h a x t i)(k:∀o,h.get? a=some o->h'.get? a=some o):SIt h' a x t i:=let ⟨o,ho,r⟩:=W;⟨o,k o ho,r⟩
section
variable {P:Program}{w:World}{A:Around}{E:Value->Shared->Prop}{s:Shared}{z U V i j:Addr}{n:Nat}{x y:Str}{t t':Tok}{cx cy:Nat}{u v:Value}
theorem iI{Q:Value->Shared->Prop}(W:SIt s.heap i x t n)(hx:x.cps[n]?=some cx)(hQ:∀h',SIt h' i x t (n+1)->Heap.SameBut i s.heap h'->Q (.str ⟨#[cx]⟩ s.toks) { s with heap:=h',toks:=s.toks+1 }) :
  wpAny (model P w) A (Builtin.SmallTypes.nextOf (.ref i)) Q E s:=by
 unfold SIt strIterType at W hQ
 cases ha:x.cps.all (·<128)
 .simp only [ha,false_eq_true,if_false] at W hQ;exact wpAny_nextOf_wide_item W hx hQ
 .simp only [ha,if_true] at W hQ;exact wpAny_nextOf_ascii_item W hx hQ
theorem lS{Q:Value->Shared->Prop}(hh:A.handled=none)(W:SIt s.heap i x t n)(hx:x.cps[n]?=none)
  (hE:∀h' e,Heap.ExtBut i s.heap h'->(∃o,h'.get? e=some o/\o.cls=.type "StopIteration")->E (.ref e) { s with heap:=h' }) :
  wpAny (model P w) A (Builtin.SmallTypes.nextOf (.ref i)) Q E s:=by
 unfold SIt strIterType at W
 cases ha:x.cps.all (·<128)
 .simp only [ha,false_eq_true,if_false] at W;exact wpAny_nextOf_wide_end hh W hx hE
 .simp only [ha,if_true] at W;exact wpAny_nextOf_ascii_end hh W hx hE
theorem zR{Q:Value->Shared->Prop}(D:ZA z U V i j)(hz:IsZip s.heap z U V .none)(hU:IsPair s.heap U (.ref i) (.ref j))(hV:IsPair s.heap V u v)
  (W1:SIt s.heap i x t n) (W2:SIt s.heap j y t' n) (hx:x.cps[n]?=some cx) (hy:y.cps[n]?=some cy)
  (hQ:∀h',IsZip h' z U V (rawInt s.heap.objs.size)->IsPair h' V (.str ⟨#[cx]⟩ s.toks) (.str ⟨#[cy]⟩ (s.toks+1))->SIt h' i x t (n+1)->SIt h' j y t' (n+1)->IsPair h' s.heap.objs.size (.str ⟨#[cx]⟩ s.toks) (.str ⟨#[cy]⟩ (s.toks+1))->h'.objs.size=s.heap.objs.size+1 ->
   (∀b o,b≠z->b≠V->b≠i->b≠j->s.heap.get? b=some o->h'.get? b=some o)->Q (.ref s.heap.objs.size) { s with heap:=h',toks:=s.toks+1+1 }) :
  wpAny (model P w) A (Builtin.«zip.__next__» ⟨[.ref z],[]⟩) (fun f s'=>∃r,f=.done (.ret r)/\Q r s') E s:=by
 refine wpAny_bind (m:=field (.ref z) 2) (wpAny_field hz rfl (x:=.bool false) rfl (wpAny_bind (m:=field (.ref z) 3) (wpAny_field hz rfl (x:=.ref U) rfl (wpAny_bind (wpAny_seqItems hU rfl ?_)))));refine wpAny_bind (m:=Builtin.SmallTypes.ownedTupleIsFree (.ref z)) ?_;unfold Builtin.SmallTypes.ownedTupleIsFree;refine wpAny_bind (wpAny_field hz rfl (x:=.none) rfl (wpAny_pure ?_));simp only [if_true];refine wpAny_bind (wpAny_rule (wpAny_bind (wpAny_field hz rfl (x:=.ref V) rfl (wpAny_bind (wpAny_setField_rec hz (by simp) fun g1 z1 b1=>wpAny_bind ?_)))))
 replace z1:IsZip g1 z U V .ellipsis:=z1
 simp only [zipIdx_cons,zipIdx_nil,forIn_cons,forIn_nil];have e1:=b1.extBut;refine wpAny_bind (wpAny_bind (wpAny_onRaise (wpAny_bind (m:=Builtin.SmallTypes.nextOf (.ref i)) (iI (W1.mv fun o e=>e1 _ o D.iz e) hx fun g2 w1 b2=>wpAny_pure ?_))));have e2:=b2.extBut;have v2:IsPair g2 V u v:=e2 _ _ D.Vi (e1 _ _ D.Vz hV);refine wpAny_bind (wpAny_seqItems v2 rfl (wpAny_bind (wpAny_updateSeq_pair v2 fun g3 v3 b3=>wpAny_bind (wpAny_letGo (wpAny_pure ?_)))))
 replace v3:IsPair g3 V (.str ⟨#[cx]⟩ s.toks) v:=v3
 have e3:=b3.extBut;refine wpAny_bind (wpAny_bind (wpAny_onRaise (wpAny_bind (m:=Builtin.SmallTypes.nextOf (.ref j)) (iI (W2.mv fun o e=>e3 _ o D.Vj.symm (e2 _ o D.ij.symm (e1 _ o D.jz e))) hy fun g4 w2 b4=>wpAny_pure ?_))));have e4:=b4.extBut;have v4:IsPair g4 V (.str ⟨#[cx]⟩ s.toks) v:=e4 _ _ D.Vj v3;refine wpAny_bind (wpAny_seqItems v4 rfl (wpAny_bind (wpAny_updateSeq_pair v4 fun g5 v5 b5=>wpAny_bind (wpAny_letGo (wpAny_pure (wpAny_pure ?_))))))
 replace v5:IsPair g5 V (.str ⟨#[cx]⟩ s.toks) (.str ⟨#[cy]⟩ (s.toks+1)):=v5
 have e5:=b5.extBut;refine wpAny_bind (wpAny_seqItems v5 rfl (wpAny_bind (wpAny_newTuple ?_)));have sz:g5.objs.size=s.heap.objs.size:=by rw [b5.1,b4.1,b3.1,b2.1,b1.1]
 have z5:IsZip g5 z U V .ellipsis:=e5 _ _ D.Vz.symm (e4 _ _ D.jz.symm (e3 _ _ D.Vz.symm (e2 _ _ D.iz.symm z1)));have k5:∀b o,b≠z->b≠V->b≠i->b≠j->s.heap.get? b=some o->g5.get? b=some o:=fun b o q1 q2 q3 q4 e=>e5 _ _ q2 (e4 _ _ q4 (e3 _ _ q2 (e2 _ _ q3 (e1 _ _ q1 e))));have w15:SIt g5 i x t (n+1):=w1.mv fun o e=>e5 _ o D.Vi.symm (e4 _ o D.ij (e3 _ o D.Vi.symm e));have w25:SIt g5 j y t' (n+1):=w2.mv fun o e=>e5 _ o D.Vj.symm e
 have zlt:z<g5.objs.size:=Heap.lt_size z5;refine wpAny_bind (m:=Builtin.SmallTypes.ownedTupleHandOut (.ref z) (.ref g5.objs.size)) ?_;unfold Builtin.SmallTypes.ownedTupleHandOut;have z6:IsZip (g5.push { cls:=.type "tuple",data:=.seq #[(.str ⟨#[cx]⟩ s.toks),(.str ⟨#[cy]⟩ (s.toks+1))] }) z U V .ellipsis:=Heap.get?_push_of_some _ z5;refine wpAny_bind (wpAny_setField_rec z6 (by simp) fun g7 z7 b7=>?_)
 replace z7:IsZip g7 z U V (rawInt g5.objs.size):=z7
 refine wpAny_setField_rec z7 (by simp) fun g8 z8 b8=>?_
 replace z8:IsZip g8 z U V (rawInt g5.objs.size):=z8
 have up:∀b o,b≠z->g5.get? b=some o->g8.get? b=some o:=fun b o q e=>b8.extBut _ _ q (b7.extBut _ _ q (Heap.get?_push_of_some _ e));have t8:IsPair g8 g5.objs.size (.str ⟨#[cx]⟩ s.toks) (.str ⟨#[cy]⟩ (s.toks+1)):=b8.extBut _ _ (ne_of_gt zlt) (b7.extBut _ _ (ne_of_gt zlt) (Heap.get?_push_size _ rfl));have s8:g8.objs.size=g5.objs.size+1:=by rw [b8.1,b7.1,Heap.size_push]
 rw [sz] at z8 t8 s8;refine wpAny_pure ⟨_,rfl,?_⟩;show Q (.ref g5.objs.size) _;rw [sz];exact hQ g8 z8 (up _ _ D.Vz v5) (w15.mv fun o e=>up _ o D.iz e) (w25.mv fun o e=>up _ o D.jz e) t8 s8 fun b o q1 q2 q3 q4 e=>up b o q1 (k5 b o q1 q2 q3 q4 e)
theorem Cc{Q:Fin->Shared->Prop}(hh:A.handled=none)(D:ZA z U V i j)(hz:IsZip s.heap z U V .none)(hU:IsPair s.heap U (.ref i) (.ref j))(hV:IsPair s.heap V u v)
  (W1:SIt s.heap i x t n) (W2:SIt s.heap j y t' n) (hend:x.cps[n]?=none\/y.cps[n]?=none)
  (hE:∀h' tk e,(∀b o,b≠z->b≠V->b≠i->b≠j->s.heap.get? b=some o->h'.get? b=some o)->(∃o,h'.get? e=some o/\o.cls=.type "StopIteration")->E (.ref e) { s with heap:=h',toks:=tk }) :
  wpAny (model P w) A (Builtin.«zip.__next__» ⟨[.ref z],[]⟩) Q E s:=by
 refine wpAny_bind (m:=field (.ref z) 2) (wpAny_field hz rfl (x:=.bool false) rfl (wpAny_bind (m:=field (.ref z) 3) (wpAny_field hz rfl (x:=.ref U) rfl (wpAny_bind (wpAny_seqItems hU rfl ?_)))));refine wpAny_bind (m:=Builtin.SmallTypes.ownedTupleIsFree (.ref z)) ?_;unfold Builtin.SmallTypes.ownedTupleIsFree;refine wpAny_bind (wpAny_field hz rfl (x:=.none) rfl (wpAny_pure ?_));simp only [if_true];refine wpAny_bind (wpAny_rule (wpAny_bind (wpAny_field hz rfl (x:=.ref V) rfl (wpAny_bind (wpAny_setField_rec hz (by simp) fun g1 z1 b1=>wpAny_bind ?_)))))
 replace z1:IsZip g1 z U V .ellipsis:=z1
 simp only [zipIdx_cons,zipIdx_nil,forIn_cons,forIn_nil];have e1:=b1.extBut
 cases hx:x.cps[n]? with
 | none =>
  refine wpAny_bind (wpAny_bind (wpAny_onRaise (wpAny_bind (m:=Builtin.SmallTypes.nextOf (.ref i)) (lS hh (W1.mv fun o e=>e1 _ o D.iz e) hx fun g2 e b2 he=>?_))));obtain⟨oe,ge,ce⟩:=he;have z2:IsZip g2 z U V .ellipsis:=b2 _ _ D.iz.symm z1;have ez:e≠z:=fun q=>by subst q;rw [z2] at ge;cases ge;simp at ce
  exact wpAny_setField_rec z2 (by simp) fun g3 _ b3=>hE g3 _ e (fun b o q1 _ q3 _ q=>b3.extBut _ _ q1 (b2 _ _ q3 (e1 _ _ q1 q))) ⟨oe,b3.extBut _ _ ez ge,ce⟩
 | some cx =>
  have hy:y.cps[n]?=none:=by
   rcases hend with q|q
   .rw [hx] at q;cases q
   .exact q
  refine wpAny_bind (wpAny_bind (wpAny_onRaise (wpAny_bind (m:=Builtin.SmallTypes.nextOf (.ref i)) (iI (W1.mv fun o e=>e1 _ o D.iz e) hx fun g2 w1 b2=>wpAny_pure ?_))));have e2:=b2.extBut;have v2:IsPair g2 V u v:=e2 _ _ D.Vi (e1 _ _ D.Vz hV);refine wpAny_bind (wpAny_seqItems v2 rfl (wpAny_bind (wpAny_updateSeq_pair v2 fun g3 v3 b3=>wpAny_bind (wpAny_letGo (wpAny_pure ?_)))));have e3:=b3.extBut;refine wpAny_bind (wpAny_bind (wpAny_onRaise (wpAny_bind (m:=Builtin.SmallTypes.nextOf (.ref j)) (lS hh (W2.mv fun o e=>e3 _ o D.Vj.symm (e2 _ o D.ij.symm (e1 _ o D.jz e))) hy fun g4 e b4 he=>?_))))
  obtain⟨oe,ge,ce⟩:=he;have z4:IsZip g4 z U V .ellipsis:=b4 _ _ D.jz.symm (e3 _ _ D.Vz.symm (e2 _ _ D.iz.symm z1));have ez:e≠z:=fun q=>by subst q;rw [z4] at ge;cases ge;simp at ce
  exact wpAny_setField_rec z4 (by simp) fun g5 _ b5=>hE g5 _ e (fun b o q1 q2 q3 q4 q=>b5.extBut _ _ q1 (b4 _ _ q4 (e3 _ _ q2 (e2 _ _ q3 (e1 _ _ q1 q))))) ⟨oe,b5.extBut _ _ ez ge,ce⟩
end
def DG(xs ys:List V):It :=
  ⟨fun i H=>∃x y,xs[i]?=some x/\ys[i]?=some y,
   fun i H p H'=>∃T x y,H T=none/\p=.ref T/\xs[i]?=some x/\ys[i]?=some y/\H'=upd H T (.tup [x,y]),
   fun i H=>xs.length<=i\/ys.length<=i⟩
theorem vQ{P:Program}{w:World}{K:PySem.W.Frag}{es:List Expr}{ct:Nat}{tp:Pos}{z U V i j:Addr}{la lb:List Nat}{t t':Tok}(D:ZA z U V i j) :
  ym P w K (.Tuple es ct tp) (DG (cT la) (cT lb)) [z,U,V,i,j] z (fun n h=>IsZip h z U V .none/\IsPair h U (.ref i) (.ref j)/\(∃u v,IsPair h V u v)/\SIt h i (S la) t n/\SIt h j (S lb) t' n) where
 mem:=by simp
 obj:=fun n h st b hb=>by
  obtain⟨hz,hU,⟨u,v,hV⟩,⟨o1,g1,c1,d1⟩,⟨o2,g2,c2,d2⟩⟩:=st;simp only [mem_cons,not_mem_nil,or_false] at hb
  rcases hb with rfl|rfl|rfl|rfl|rfl
  .exact⟨_,hz,fun v q=>by cases q⟩
  .exact⟨_,hU,fun v q=>by cases q⟩
  .exact⟨_,hV,fun v q=>by cases q⟩
  .exact⟨_,g1,fun v q=>by rw [d1] at q;cases q⟩
  .exact⟨_,g2,fun v q=>by rw [d2] at q;cases q⟩
 keep:=fun n h h' st kk=>by
  obtain⟨hz,hU,⟨u,v,hV⟩,w1,w2⟩:=st;exact⟨kk z (by simp) _ hz,kk U (by simp) _ hU,⟨u,v,kk V (by simp) _ hV⟩,w1.mv fun o e=>kk i (by simp) o e,w2.mv fun o e=>kk j (by simp) o e⟩
 item:=by
  intro X hP hw hK hc n pins s σ H E I hf st hg;subst hP hw hK;obtain⟨x,y,hx,hy⟩:=hg;obtain⟨hz,hU,⟨u,v,hV⟩,w1,w2⟩:=st;obtain⟨cx,hcx,rfl⟩:=f9 hx;obtain⟨cy,hcy,rfl⟩:=f9 hy;have hT:s.TypeIs (.ref z) "zip":=⟨_,hz,rfl⟩
  unfold pyNext
  refine wpAny_bind (wpAny_attempt (wpAny_callSpecial?_slot (name:=Str.ofString "__next__") hT F.slot_zip_next (wpAny_call_entry F.slot_zip_next hT F.entry_zip_next
   (zR (cx:=cx) (cy:=cy) D hz hU hV w1 w2 (by simpa [S] using hcx) (by simpa [S] using hcy) fun h' a1 a2 a3 a4 a5 a6 a7=>wpAny_pure ?_) (F.args_zip_next_1 _))))
  refine⟨_,rfl,wpAny_letOwnedTupleGo_zip a1 fun g gz gs=>?_⟩;have lt:∀{b o},s.heap.get? b=some o->s.heap.objs.size≠b:=fun e=>ne_of_gt (Heap.lt_size e)
  have kp:∀b o,b∉[z,V,i,j]->s.heap.get? b=some o->g.get? b=some o:=fun b o hb e=>by
   simp only [mem_cons,not_mem_nil,or_false,not_or] at hb;exact gs.extBut _ _ hb.1 (a7 b o hb.1 hb.2.1 hb.2.2.1 hb.2.2.2 e)
  have I2:Inv X pins σ (upd H s.heap.objs.size (.tup [.str (S [cx]),.str (S [cy])])) { s with heap:=g,toks:=s.toks+1+1 }:=I.yielded (ch:=[z,V,i,j]) (fun b hb=>hf b (by
   simp only [mem_cons,not_mem_nil,or_false] at hb ⊢;rcases hb with q|q|q|q <;> simp [q])) (Nat.le_refl _) kp ⟨by show 2<=sizeLine;decide,[.str ⟨#[cx]⟩ s.toks,.str ⟨#[cy]⟩ (s.toks+1)],.cons ⟨_,rfl⟩ (.cons ⟨_,rfl⟩ .nil),_,gs.extBut _ _ (lt hz) a5,rfl,_,rfl⟩
  refine⟨.ref s.heap.objs.size,_,I2,rfl,⟨_,_,_,I.hok.fresh (Nat.le_refl _),rfl,hx,hy,rfl⟩,
   ⟨gz,gs.extBut _ _ D.Uz (a7 _ _ D.Uz D.UV D.Ui D.Uj hU),⟨_,_,gs.extBut _ _ D.Vz a2⟩,a3.mv fun o e=>gs.extBut _ o D.iz e,a4.mv fun o e=>gs.extBut _ o D.jz e⟩,fun b hb=>?_⟩
  rw [aA ?_]
  .exact (hf b hb).1
  .intro q;subst q;simp only [mem_cons,not_mem_nil,or_false] at hb;obtain⟨o1,g1,_⟩:=w1;obtain⟨o2,g2,_⟩:=w2
   rcases hb with q|q|q|q|q
   .exact lt hz q
   .exact lt hU q
   .exact lt hV q
   .exact lt g1 q
   .exact lt g2 q
 done:=by
  intro X hP hw hK hc n pins s σ H E I hf st hg;subst hP hw hK;have hend:(cT la).length<=n\/(cT lb).length<=n:=hg;obtain⟨hz,hU,⟨u,v,hV⟩,w1,w2⟩:=st;rw [cU,cU] at hend;have hT:s.TypeIs (.ref z) "zip":=⟨_,hz,rfl⟩
  unfold pyNext
  refine wpAny_bind (wpAny_attempt (wpAny_callSpecial?_slot (name:=Str.ofString "__next__") hT F.slot_zip_next (wpAny_call_entry F.slot_zip_next hT F.entry_zip_next
   (Cc (I.ok.hd hc) D hz hU hV w1 w2 ?_ fun h' tk e hk he=>?_) (F.args_zip_next_1 _))))
  .rcases hend with q|q
   .exact .inl (by simp [S];omega)
   .exact .inr (by simp [S];omega)
  .obtain⟨o,ho,hcl⟩:=he;refine wpAny_bind (wpAny_isInstance (T:="StopIteration") (b:=true) ⟨o,ho,hcl⟩ isSubtype_stop (wpAny_pure ⟨rfl,?_⟩))
   exact I.step (g':=s.gens) (d':=s.drawn) (t':=tk) (ch:=[z,V,i,j]) (fun b hb=>by
     have q:=hf b (by
      simp only [mem_cons,not_mem_nil,or_false] at hb ⊢;rcases hb with q|q|q|q <;> simp [q])
     exact⟨q.2.2.2.1,q.2.1,q.2.2.2.2.1,q.2.2.2.2.2⟩) (fun b o _ _ hc e _=>by
     simp only [mem_cons,not_mem_nil,or_false,not_or] at hc;exact hk b o hc.1 hc.2.1 hc.2.2.1 hc.2.2.2 e) (fun b o _ _ hc e _=>⟨o.slots,by
     simp only [mem_cons,not_mem_nil,or_false,not_or] at hc;exact hk b o hc.1 hc.2.1 hc.2.2.1 hc.2.2.2 e⟩) (fun _ _ _ _ q=>q) (fun b o hc e=>⟨o,by
     simp only [mem_cons,not_mem_nil,or_false,not_or] at hc;exact hk b o hc.1 hc.2.1 hc.2.2.1 hc.2.2.2 e⟩) (fun _ _ e=>e) (fun _ _ _ e=>e) (fun b ps e=>⟨#[],by rw [e];simp⟩) (fun m hm=>by
     obtain⟨o,es,ep,ho,r⟩:=hm;exact⟨o,es,ep,hk _ o (hf z (by simp)).2.1.symm (hf V (by simp)).2.1.symm (hf i (by simp)).2.1.symm (hf j (by simp)).2.1.symm ho,r⟩) (fun b u e=>by
     have nn:∀b u,H b=some u->b≠z/\b≠V/\b≠i/\b≠j:=fun b u e=>⟨fun q=>(by rw [q,(hf z (by simp)).1] at e;cases e),fun q=>(by rw [q,(hf V (by simp)).1] at e;cases e),fun q=>(by rw [q,(hf i (by simp)).1] at e;cases e),fun q=>(by rw [q,(hf j (by simp)).1] at e;cases e)⟩
     refine (I.hok b u e).stay (fun c v hc q=>?_) (fun _ q=>q) fun _ _ q=>q
     have n4:c≠z/\c≠V/\c≠i/\c≠j:=by
      rcases hc with q|q
      .rw [q];exact nn b u e
      .exact nn c _ q
     exact hk c v n4.1 n4.2.1 n4.2.2.1 n4.2.2.2 q) I.bare
 self:=fun _ _ _ _ _ st h=>wpAny_pyIter_zip st.1 h
section
variable {P:Program}{w:World}{A:Around}{E:Value->Shared->Prop}{s:Shared}
abbrev ul(x:Str)(t:Tok):Obj:={ cls:=.type (strIterType x),data:=.fields #[.str x t,.int 0 0] }
theorem nY{x:Str}{t:Tok}{Q:Value->Shared->Prop}(hQ:Q (.ref s.heap.objs.size) { s with heap:=s.heap.push (ul x t) }):wpAny (model P w) A (pyIter (.str x t)) Q E s:=by
 unfold ul strIterType at hQ
 cases ha:x.cps.all (·<128)
 .simp only [ha,false_eq_true,if_false] at hQ;exact wpAny_pyIter_wide ha hQ
 .simp only [ha,if_true] at hQ;exact wpAny_pyIter_ascii ha hQ
abbrev yg1(h:Heap)(x:Str)(t:Tok):Heap:=h.push (ul x t)
abbrev yg2(h:Heap)(x y:Str)(t u:Tok):Heap:=(yg1 h x t).push (ul y u)
abbrev yg3(h:Heap)(x y:Str)(t u:Tok):Heap:=(yg2 h x y t u).push { cls:=.type "tuple",data:=.seq #[.ref h.objs.size,.ref (yg1 h x t).objs.size] }
abbrev yg4(h:Heap)(x y:Str)(t u:Tok):Heap:=(yg3 h x y t u).push { cls:=.type "tuple",data:=.seq #[.none,.none] }
abbrev yg5(h:Heap)(x y:Str)(t u:Tok):Heap:=(yg4 h x y t u).push { cls:=.type "zip",data:=.fields #[.none,.bool false,.bool false,.ref (yg2 h x y t u).objs.size,.ref (yg3 h x y t u).objs.size] }
theorem xE(x y:Str)(t u:Tok):Meets (Builtin.«zip.__new__» ⟨[.type "zip",.str x t,.str y u],[]⟩) (fun _ R s =>
   R (.ok (.ret (.ref (yg4 s.heap x y t u).objs.size))) { s with heap:=yg5 s.heap x y t u }) :=
 .of_wp fun prog w A R s h=>by
  obtain⟨hp,g,d,tk,os⟩:=s;have hsub:=sub_zip
  wp_walk using nY (x:=x) (t:=t),nY (x:=y) (t:=u)
  exact⟨_,rfl,h⟩
theorem xF{x y:Str}{t u:Tok}{Q:Value->Shared->Prop}
  (h:∀h',IsZip h' (s.heap.objs.size+4) (s.heap.objs.size+2) (s.heap.objs.size+3) .none->IsPair h' (s.heap.objs.size+2) (.ref s.heap.objs.size) (.ref (s.heap.objs.size+1)) ->
   IsPair h' (s.heap.objs.size+3) .none .none->SIt h' s.heap.objs.size x t 0->SIt h' (s.heap.objs.size+1) y u 0->(∀b o,s.heap.get? b=some o->h'.get? b=some o)->Q (.ref (s.heap.objs.size+4)) { s with heap:=h' }) :
  wpAny (model P w) A (call (.type "zip") [.str x t,.str y u]) Q E s:=by
 refine callType_new F.called_zip (by decide) (F.typeCall_zip_2 _ _) (F.newCall_zip_2 _ _) (fun obj=>F.args_object_init_3 obj _ _) F.entry_zip_new (xE x y t u) ?_;have z1:(yg1 s.heap x t).objs.size=s.heap.objs.size+1:=Heap.size_push ..;have z2:(yg2 s.heap x y t u).objs.size=s.heap.objs.size+2:=by rw [Heap.size_push,z1]
 have z3:(yg3 s.heap x y t u).objs.size=s.heap.objs.size+3:=by rw [Heap.size_push,z2]
 have z4:(yg4 s.heap x y t u).objs.size=s.heap.objs.size+4:=by rw [Heap.size_push,z3]
 have m4:∀b o,(yg4 s.heap x y t u).get? b=some o->(yg5 s.heap x y t u).get? b=some o:=fun b o e=>Heap.get?_push_of_some _ e;have m3:∀b o,(yg3 s.heap x y t u).get? b=some o->(yg5 s.heap x y t u).get? b=some o:=fun b o e=>m4 b o (Heap.get?_push_of_some _ e);have m2:∀b o,(yg2 s.heap x y t u).get? b=some o->(yg5 s.heap x y t u).get? b=some o:=fun b o e=>m3 b o (Heap.get?_push_of_some _ e);have m1:∀b o,(yg1 s.heap x t).get? b=some o->(yg5 s.heap x y t u).get? b=some o:=fun b o e=>m2 b o (Heap.get?_push_of_some _ e)
 have g5:(yg5 s.heap x y t u).get? (yg4 s.heap x y t u).objs.size=some _:=Heap.get?_push_size _ rfl;have g4:=m4 _ _ (Heap.get?_push_size (yg3 s.heap x y t u) (o:={ cls:=.type "tuple",data:=.seq #[.none,.none] }) rfl);have g3:=m3 _ _ (Heap.get?_push_size (yg2 s.heap x y t u) (o:={ cls:=.type "tuple",data:=.seq #[.ref s.heap.objs.size,.ref (yg1 s.heap x t).objs.size] }) rfl);have g2:=m2 _ _ (Heap.get?_push_size (yg1 s.heap x t) (o:=ul y u) rfl)
 have g1:=m1 _ _ (Heap.get?_push_size s.heap (o:=ul x t) rfl);show _/\_;rw [z2,z3,z4] at g5;rw [z1,z2] at g3;rw [z3] at g4;rw [z1] at g2;rw [z4];exact⟨⟨_,g5,rfl⟩,h _ g5 g3 g4 ⟨_,g1,rfl,rfl⟩ ⟨_,g2,rfl,rfl⟩ fun b o e=>m1 b o (Heap.get?_push_of_some _ e)⟩
end
section
variable {X:Cx}{es:List Expr}{ct:Nat}{tp:Pos}
def xG(K:PySem.W.Frag)(ta:TA):TI:=fun σ H R=>ta σ H fun vs H1=>(∃k l a c,vs=[.ref a,.ref c]/\(∃xs ys,Sq k K H1 a xs/\Sq l K H1 c ys)/\R (Itz k l K a c) H1)\/∃la lb,vs=[.str (S la),.str (S lb)]/\R (DG (cT la) (cT lb)) H1
theorem rH(K:PySem.W.Frag)(e:X.K=K){a b:Expr}{ta:TA}{p pos:Pos}(hg:Gl X "zip")(hm:X.mg "zip"=none)(ha:PA X [a,b] ta)
  (hs:starEach [a,b] X.env=[(false,eval a X.env),(false,eval b X.env)]:=by rfl) (hs2:starEach [b] X.env=[(false,eval b X.env)]:=by rfl) :
  PI X (.Tuple es ct tp) (.Call (.Name "zip" p) [a,b] [] pos) (xG K ta):=by
 subst e;intro pins s σ H R I h;refine Call_ (jd I hg hm boot_zip (PyProof.Rows.callWith_type1 (thn (ha pos pins s σ H _ I h) fun us s1 ⟨vs,H1,I1,r1,q1⟩=>?_) (by rw [hs,hs2]) (by rw [hs2];rfl)))
 have fin:∀b∈[s1.heap.objs.size+4,s1.heap.objs.size+2,s1.heap.objs.size+3,s1.heap.objs.size,s1.heap.objs.size+1],tN X pins H1 b:=fun b hb=>by
  have hle:s1.heap.objs.size<=b:=by
   simp only [mem_cons,not_mem_nil,or_false] at hb
   rcases hb with e|e|e|e|e
   .rw [e];exact le_add_right _ _
   .rw [e];exact le_add_right _ _
   .rw [e];exact le_add_right _ _
   .rw [e];exact Nat.le_refl _
   .rw [e];exact le_add_right _ _
  exact I1.fpOk hle (I1.hok.fresh hle)
 rcases q1 with ⟨k,l,a,c,e,⟨xs,ys,q1,q2⟩,q⟩|⟨la,lb,e,q⟩
 .subst e
  cases r1 with
  | cons r rr =>
   cases rr with
   | cons r' rr =>
    cases rr;cases r;cases r';obtain⟨its,rv,p,_⟩:=I1.row q1;obtain⟨jts,rv',p',_⟩:=I1.row q2;refine zy p p' fun h' g1 g2 g3 g4 g5 kk=>wpAny_pyIter_zip g1 ?_;have I2:Inv X pins σ H1 { s1 with heap:=h',toks:=s1.toks }:=I1.kept kk
    exact⟨s1.heap.objs.size+4,[s1.heap.objs.size+4,s1.heap.objs.size+2,s1.heap.objs.size+3,s1.heap.objs.size,s1.heap.objs.size+1],_,_,H1,rfl,I2,xn (i:=s1.heap.objs.size) (j:=s1.heap.objs.size+1)
     (BJ _),⟨g1,g2,⟨_,_,g3⟩,g4,g5⟩,fin,q⟩
 .subst e
  cases r1 with
  | cons r rr =>
   cases rr with
   | cons r' rr =>
    cases rr;obtain⟨t,rfl⟩:=r;obtain⟨u,rfl⟩:=r';refine xF fun h' g1 g2 g3 g4 g5 kk=>wpAny_pyIter_zip g1 ?_;have I2:Inv X pins σ H1 { s1 with heap:=h',toks:=s1.toks }:=I1.kept kk
    exact⟨s1.heap.objs.size+4,[s1.heap.objs.size+4,s1.heap.objs.size+2,s1.heap.objs.size+3,s1.heap.objs.size,s1.heap.objs.size+1],_,_,H1,rfl,I2,vQ (i:=s1.heap.objs.size) (j:=s1.heap.objs.size+1)
     (BJ _),⟨g1,g2,⟨_,_,g3⟩,g4,g5⟩,fin,q⟩
def sW(pa:PTA):PTI:=fun ρ Q=>pa ρ fun as ρ1=>match as with
 | [.v (.str x),.v (.str y)]=>Q (min x.length y.length) (fun k=>.tup [.str [x.getD k 0],.str [y.getD k 0]]) ρ1
 | [.v a,.v b]=>(match rowD a,rowD b with
  | some xs,some ys=>Q (min xs.length ys.length) (fun k=>.tup [itD xs k,itD ys k]) ρ1
  | _,_=>False)
 | _=>False
end
section
variable {K:PySem.W.Frag}{ta:TA}{pa:PTA}
theorem Cd{O:Addr->Prop}{H:Hp}{x y:List Nat}:Wlk K O H (DG (cT x) (cT y)) (min x.length y.length) (fun k=>.tup [.str [x.getD k 0],.str [y.getD k 0]]):=fun O' H' kk dom=>by
 refine⟨fun j hj=>?_,?_⟩
 .have h1:j<(cT x).length:=by rw [cU];omega
  have h2:j<(cT y).length:=by rw [cU];omega
  refine⟨⟨_,_,getElem?_eq_getElem h1,getElem?_eq_getElem h2⟩,fun v H'' ⟨T,u,w,hT,e,y1,y2,e2⟩=>?_⟩;subst e e2;obtain⟨c,hc,rfl⟩:=f9 y1;obtain⟨d,hd,rfl⟩:=f9 y2;show Gr H' _/\FV K O' _ _ (.tup [.str [x.getD j 0],.str [y.getD j 0]]);rw [getD_eq_getElem?_getD,getD_eq_getElem?_getD,hc,hd];exact⟨Gr.new hT,.tup (fun z=>dom T z hT) aQ (.cons (.str _ (by show 1<=1000000;decide)) (.cons (.str _ (by show 1<=1000000;decide)) .nil))⟩
 .show (cT x).length<=_\/(cT y).length<=_;rw [cU,cU];omega
theorem rJ(h:LAs K ta pa):LI K (xG K ta) (sW pa):=fun A ρ σ H Q Q' R q k=>h A ρ σ H _ _ R q fun vs H1 as ρ1 q1 f1 R1 o1=>by
 split at q1
 .rename_i x y
  cases o1 with
  | cons o1 o2 =>
   cases o2 with
   | cons o2 o3 =>
    cases o3;have f1':FV K _ H1 _ (.str x):=o1;have f2':FV K _ H1 _ (.str y):=o2;cases f1';cases f2';exact .inr ⟨x,y,rfl,k _ H1 _ _ ρ1 q1 f1 R1 Cd⟩
 .rename_i da db hno;have:=BX (K:=K) (ta:=ta) (pa:=pa) h
  cases o1 with
  | cons o1 o2 =>
   cases o2 with
   | cons o2 o3 =>
    cases o3
    split at q1
    .rename_i xs ys ex ey;obtain⟨b1,a1,us,rfl,l1,w1⟩:=FV.rowD (show FV K _ H1 _ da from o1) ex;obtain⟨b2,a2,ws,rfl,l2,w2⟩:=FV.rowD (show FV K _ H1 _ db from o2) ey;have t1:=w1 _ H1 (fun b o n h=>⟨n,h⟩);have t2:=w2 _ H1 (fun b o n h=>⟨n,h⟩);refine .inl ⟨b1,b2,a1,a2,rfl,⟨us,ws,t1.1,t2.1⟩,k _ H1 _ _ ρ1 q1 f1 R1 fun O' H' kk dom=>?_⟩;obtain⟨s1,g1⟩:=w1 O' H' kk;obtain⟨s2,g2⟩:=w2 O' H' kk;refine⟨fun j hj=>?_,⟨us,ws,s1,s2,by omega⟩⟩
     have h1:j<us.length:=by omega
     have h2:j<ws.length:=by omega
     refine⟨⟨us,ws,_,_,s1,s2,getElem?_eq_getElem h1,getElem?_eq_getElem h2⟩,fun x H'' ⟨T,u,w,hT,e,y1,y2,e2⟩=>?_⟩;subst e e2;obtain⟨d1,hd1,fd1⟩:=g1.get (y1 us s1);obtain⟨d2,hd2,fd2⟩:=g2.get (y2 ws s2);have e1:itD xs j=d1:=by unfold itD;rw [getD_eq_getElem?_getD,hd1];rfl
     have e2:itD ys j=d2:=by unfold itD;rw [getD_eq_getElem?_getD,hd2];rfl
     rw [e1,e2];have kk2:bo O' H' O' (upd H' T (.tup [u,w])):=fun b o n e=>⟨n,by rw [aA (bn e hT)];exact e⟩
     exact⟨Gr.new hT,.tup (fun z=>dom T z hT) aQ (.cons (fd1.keeps kk2) (.cons (fd2.keeps kk2) .nil))⟩
    .exact q1.elim
 .exact q1.elim
end
section
variable {X:Cx}{K:PySem.W.Frag}{te:TE}{pe:PTE}
def zS:List V->Hp->VK->Prop:=fun xs H Q=>(∃b,xs=[.bl b]/\Q (.int (if b then 1 else 0)) H)\/∃i,xs=[.int i]/\Q (.int i) H
theorem zT:cK X (.type "int") zS:=by
 intro pins s σ H xs us Q I r h
 rcases h with ⟨b,rfl,q⟩|⟨i,rfl,q⟩
 .obtain⟨u,rfl,ru⟩:=m9 r;cases (show u=Value.bool b from ru);exact call_int_bool ⟨.int _,H,I.tok _,⟨_,rfl⟩,q⟩
 .obtain⟨u,rfl,t,rfl⟩:=m9 r;exact call_int_int ⟨.int _,H,I,⟨_,rfl⟩,q⟩
def vR:FN
 | [.bl b],Q=>Q (.dat (.int (if b then 1 else 0)))
 | [.int i],Q=>Q (.dat (.int i))
 | _,_=>False
theorem vS:LC K zS vR:=by
 intro O H xs as Q Q' dom fs q k;unfold vR at q
 split at q
 .cases fs with|cons a b=>cases b;rw [a.bl];exact .inl ⟨_,rfl,k _ H _ q (Gr.refl _) (.int _)⟩
 .cases fs with|cons a b=>cases b;rw [a.int];exact .inr ⟨_,rfl,k _ H _ q (Gr.refl _) (.int _)⟩
 .exact q.elim
end
section
variable {X:Cx}{K:PySem.W.Frag}{te tk:TE}{pe pk:PTE}
def insN{α:Type}(xs:List α)(i:Int)(y:α):List α:=xs.take (min i.toNat xs.length)++[y]++xs.drop (min i.toNat xs.length)
def vT:V->List V->Hp->VK->Prop:=fun x vs H Q=>∃l xs i y,x=.ref l/\vs=[.int i,y]/\H l=some (.lst xs)/\(0<=i/\i<2^62)/\xs.length<sizeLine/\Q .non (upd H l (.lst (insN xs i y)))
theorem lT:MtM X "list.insert" vT:=by
 intro pins s σ H x vs v us Q I rx rv h;obtain⟨l,xs,i,y,rfl,rfl,hH,hi,hz0,q⟩:=h;cases rx
 cases rv with
 | cons ri rr =>
  cases rr with
  | cons ry rr =>
   cases rr;obtain⟨t,rfl⟩:=ri;rename_i u;obtain⟨z,its,n,r,hl,e⟩:=I.lstM hH;refine call_meets F.slot_list_insert ⟨_,e,rfl⟩ F.entry_list_insert (F.args_list_insert_3 _ _ _) (AutoSeq1.list_insert_list_int_val_1 l its.toArray n i t u (by rw [fitsIndex_both (by omega) (by omega)];decide) (by rw [size_toArray];omega)) ⟨e,?_⟩
   refine⟨.non,_,I.lset (its':=insN its i u) hH e ?_ ?_ ?_,rfl,q⟩
   .have:¬ i<0:=by omega
    simp only [this,if_false,size_toArray,insN,extract_toArray,push_toArray,append_toArray];congr 1;rw [extract_eq_take_drop,extract_eq_take_drop];simp [take_of_length_le]
   .exact ((r.take _).append (.cons ry .nil)).append (r.drop _) |> fun h=>by unfold insN;rw [<- hl];exact h
   .unfold insN;rw [length_append,length_append,length_take,length_drop];show _+1+_<=_;omega
def lU(i:Nat)(pk pe:PTE):PTE:=fun ρ Q=>match ρ[i]? with
 | some (some (.own _))=>pk ρ fun kp ρ1=>(match kp with
  | .dat (.int j)=>pe ρ1 fun p ρ2=>(match ρ2[i]? with
   | some (some (.own ds))=>((0<=j/\j<2^60)/\ds.length<1000000)/\Q (.dat .non) (ρ2.set i (some (.own (insN ds j p.d))))
   | _=>False)
  | _=>False)
 | _=>False
theorem FVs.insN{O:Addr->Prop}{H:Hp}{xs:List V}{ds:List D}{j:Int}{y:V}{d:D}(f:FVs K O H xs ds)(g:FV K O H y d):FVs K O H (L2.insN xs j y) (L2.insN ds j d):=by
 unfold L2.insN;rw [f.length];exact ((f.take _).append (.cons g .nil)).append (f.drop _)
theorem lV{i:Nat}(hk:LE K tk pk)(h:LE K te pe):LE K (tBM K "list" vT (dn i) (bR tk (bR te jO))) (lU i pk pe):=fun A ρ σ H Q Q' R q k=>by
 unfold lU at q
 split at q
 .rename_i ds0 e0;obtain⟨a0,xs0,s0,g0,f0⟩:=R.ownAt e0;refine⟨_,s0,.inl ⟨rfl,xs0,SqL.of g0⟩,hk A ρ σ H _ _ R q fun v1 H1 p1 ρ1 q1 f1 o1=>?_⟩
  split at q1
  .rename_i j;obtain⟨R1,fv1⟩:=o1;cases fv1;refine h A ρ1 σ H1 _ _ R1 q1 fun v H2 p ρ2 q2 f2 o2=>?_;obtain⟨R2,fv⟩:=o2.frz
   split at q2
   .rename_i ds e2;obtain⟨a,xs,s,g,f⟩:=R2.ownAt e2;rw [s0] at s;cases s;obtain⟨R3,f3⟩:=R2.lstw e2 s0 (f.insN (j:=j) fv);exact⟨a0,xs,j,v,rfl,rfl,g,by omega,Nat.lt_of_lt_of_le (by rw [f.length];exact q2.1.2) (sz _ (Nat.le_refl _)),k _ _ _ _ q2.2 ((f1.trans f2).trans f3) ⟨R3,.non⟩⟩
   .exact q2.elim
  .exact q1.elim
 .exact q.elim
end
section
variable {prog:Program}{w:World}{A:Around}{E:Value->Shared->Prop}{s:Shared}
theorem qq{it t:Addr}{items:Array Value}(hne:t≠it):∀(n i:Nat) (s:Shared) (Q:List Value->Shared->Prop),s.heap.IsListIter it t i->s.heap.IsList t items->i+n<=items.size ->
  (∀h',h'.IsListIter it t (i+n)->Heap.SameBut it s.heap h'->Q ((items.toList.drop i).take n) { s with heap:=h' })->wpAny (model prog w) A (draw (.ref it) n) Q E s
 | 0,i,s,Q,hit,_,_,hQ=>by
  show wpAny _ _ (pure []) Q E s;exact wpAny_pure (by simpa using hQ s.heap hit (Heap.SameBut.refl ..))
 | n+1,i,s,Q,hit,ht,hle,hQ=>by
  have hlt:i<items.size:=by omega
  show wpAny _ _ (pyNext (.ref it) >>= _) Q E s;refine wpAny_bind (wpAny_pyNext_list_item hit ht (x:=items[i]) (by simp [hlt]) fun h₁ hit₁ hs₁=>?_);refine wpAny_bind (wpAny_holding (qq hne n (i+1) _ _ hit₁ (ht.extBut hs₁.extBut hne) (by omega) fun h₂ hit₂ hs₂=>wpAny_pure ?_));have hd:items.toList.drop i=items[i]::items.toList.drop (i+1):=by simp [drop_eq_getElem_cons,hlt]
  have:=hQ h₂ (by rw [show i+(n+1)=i+1+n by omega];exact hit₂) (hs₁.trans hs₂);rw [hd,take_succ_cons] at this;exact this
theorem lg{t:Addr}{items:Array Value}{Q:List Value->Shared->Prop}(hh:A.handled=none)(ht:s.heap.IsList t items)
  (hQ:∀h',Heap.ExtBut s.heap.objs.size s.heap h'->Q items.toList { s with heap:=h' }):wpAny (model prog w) A (unpackItems (.ref t) items.size none) Q E s:=by
 have hlt:t≠s.heap.objs.size:=by obtain⟨o,ho,_⟩:=ht;exact ne_of_lt (Heap.lt_size ho)
 unfold unpackItems
 refine wpAny_bind ?_
 .unfold notIterableAtAll;refine wpAny_bind (wpAny_specialOf ht.typeIs PySem.F.slot_list_iter.lookup ?_);refine wpAny_pure ?_;simp only [false_eq_true,if_false];refine wpAny_bind (wpAny_holding (wpAny_pyIter_list ht ?_));refine wpAny_bind (wpAny_holding (qq hlt items.size 0 _ _ ⟨_,Heap.get?_push_size _ rfl,rfl,rfl⟩ (ht.push _) (by omega) fun h₁ hit₁ hs₁=>?_))
  have hall:List.take items.size (List.drop 0 items.toList)=items.toList:=by
   rw [drop_zero];exact take_of_length_le (by simp)
  rw [hall];rw [if_neg (by simp)];have ht₁:h₁.IsList t items:=(ht.push _).extBut hs₁.extBut hlt;refine wpAny_bind (wpAny_holding (wpAny_pyNext_list_end hh hit₁ ht₁ (by simp) fun h₂ he₂=>?_));simp only [Option.isSome_none,false_eq_true,if_false];refine wpAny_pure (hQ h₂ fun b o hb e=>he₂ b o hb (hs₁.extBut b o hb (Heap.get?_push_of_some _ e)))
theorem kj{env:Env}{elts:List Expr}{x1}{pos:Pos}{t:Addr}{items:Array Value}{Q:Unit->Shared->Prop}(hh:A.handled=none)(ht:s.heap.IsList t items)
  (hn:(assignEach elts env).length=items.size) (hstar:(assignEach elts env).findIdx? (·.1)=none)
  (h:∀h',Heap.ExtBut s.heap.objs.size s.heap h'->wpAny (model prog w) A (assignInOrder ((assignEach elts env).map (·.2)) items.toList) Q E { s with heap:=h' }) :
  wpAny (model prog w) A (assign (.Tuple elts x1 pos) env (.ref t)) Q E s:=by
 rw [assign_Tuple];refine wpAny_bind (wpAny_standAt ?_);unfold unpack;rw [hn,hstar];exact wpAny_bind (wpAny_holding (lg hh ht h))
end
def zU(K:PySem.W.Frag)(n:Nat)(t:TGs):TG:=fun v σ H Q=>∃b a xs,v=.ref a/\Sq b K H a xs/\xs.length=n/\t xs σ H Q
section
variable {X:Cx}
theorem ip(K:PySem.W.Frag)(eK:X.K=K){es:List Expr}{k:Nat}{t:TGs}{n:Nat}{pos:Pos}(hc:X.calm=true)(h:PGs X es t)
  (hn:(assignEach es X.env).length=n:=by rfl) (hst:(assignEach es X.env).findIdx? (·.1)=none:=by rfl):PG X (.Tuple es k pos) (zU K n t):=by
 subst eK;intro pins s σ H v u Q I r hw;obtain⟨b,a,xs,e1,hq,hl,hw⟩:=hw
 cases b with
 | true=>exact Bc hc h hn hst pins s σ H v u Q I r ⟨a,xs,e1,hq,hl,hw⟩
 | false =>
  subst e1;cases r;obtain⟨its,rv,ht,hz⟩:=I.list hq;refine kj (I.ok.hd hc) ht.isList (by simp [hn,<- hl,rv.length]) hst fun h' hx=>?_;have I1:Inv X pins σ H { s with heap:=h' }:=I.kept (t':=s.toks) fun b o e=>hx b o (ne_of_lt (Heap.lt_size e)) e;exact h pins _ σ H xs _ Q I1 (by simpa using rv) hw
def jc(n:Nat)(gs:yw):PTG:=fun p ρ Q=>match p with|.dat (.tup ds)=>ds.length=n/\gs ds ρ Q|.dat (.lst ds)=>ds.length=n/\gs ds ρ Q|.own ds=>ds.length=n/\gs ds ρ Q|_=>False
end
section
variable {K:PySem.W.Frag}{fs:List Nat}
theorem gO{n:Nat}{gs:TGs}{pgs:yw}(h:LGs K fs gs pgs):LGd K fs (zU K n gs) (jc n pgs):=fun fx A R H0 ρ σ H d v Q Q' hf F r fv q k=>by
 unfold jc at q
 split at q
 .rename_i e;cases e
  cases fv with
  | tup nn e f=>exact⟨true,_,_,rfl,SqT.of e,by rw [f.length];exact q.1,h fx A R H0 ρ σ H _ _ Q Q' hf F r f q.2 k⟩
 .rename_i e;cases e
  cases fv with
  | lst nn e f=>exact⟨false,_,_,rfl,SqL.of e,by rw [f.length];exact q.1,h fx A R H0 ρ σ H _ _ Q Q' hf F r f q.2 k⟩
 .rename_i e;cases e
 .exact q.elim
theorem vU{n:Nat}{gs:TGs}{pgs:yw}(h:LGs K fs gs pgs):LG K fs (zU K n gs) (jc n pgs):=fun fx A R H0 ρ σ H p v Q Q' hf F o q k=>by
 unfold jc at q
 split at q
 .obtain⟨r,fv⟩:=o
  cases fv with
  | tup nn e f=>exact⟨true,_,_,rfl,SqT.of e,by rw [f.length];exact q.1,h fx A R H0 ρ σ H _ _ Q Q' hf F r f q.2 fun ρ' σ' q' r' F' _=>k ρ' σ' H q' r' F'⟩
 .obtain⟨r,fv⟩:=o
  cases fv with
  | lst nn e f=>exact⟨false,_,_,rfl,SqL.of e,by rw [f.length];exact q.1,h fx A R H0 ρ σ H _ _ Q Q' hf F r f q.2 fun ρ' σ' q' r' F' _=>k ρ' σ' H q' r' F'⟩
 .obtain⟨r,fv⟩:=o.frz
  cases fv with
  | lst nn e f=>exact⟨false,_,_,rfl,SqL.of e,by rw [f.length];exact q.1,h fx A R H0 ρ σ H _ _ Q Q' hf F r f q.2 fun ρ' σ' q' r' F' _=>k ρ' σ' H q' r' F'⟩
 .exact q.elim
end
def lh(d:D)(xs:List D):Prop:=d=.lst xs\/d=.tup xs
theorem lh.lst(xs:List D):lh (.lst xs) xs:=.inl rfl
theorem lh.tup(xs:List D):lh (.tup xs) xs:=.inr rfl
def nSt:Expr->Bool
 | .Starred _ _=>false
 | _=>true
theorem gP{e:Expr}{es:List Expr}{env:Env}(h:nSt e=true):starEach (e::es) env=(false,eval e env)::starEach es env:=by
 cases e <;> first|rfl|cases h
theorem gQ{env:Env}{pos:Pos}:∀{es:List Expr},es.all nSt=true->(backTo pos (starEach es env)).any (·.1)=false
 | [],_=>rfl
 | e::es,h=>by
  rw [all_cons,and_eq_true] at h;rw [gP h.1];show (false || (backTo pos (starEach es env)).any (·.1))=false;rw [gQ h.2];rfl
section
variable {X:Cx}{k:Nat}{x:Str}{ps:List Str}{sp:Sp}{e:Expr}{es:List Expr}{te:TE}{t:TA}{p pos:Pos}{dvs:List V}{C:Addr}{id T:String}{r:List V->Hp->VK->Prop}
theorem paC(ha:PE X e te)(hr:PA X es t)(hn:nSt e=true:=by rfl):PA X (e::es) (bR te t):=zg ha hr (gP hn)
theorem aF(C:Cal X.prog X.w X.K X.mg X.base k x ps sp)(hr:iA k X.A)(ha:PA X (e::es) t)(hg:Gl X x:=by rfl)(hdb:(x == ("__debug__":Str))=false:=by decide)(hn:nSt e=true:=by rfl)(hp:es.all nSt=true:=by rfl) :
  PE X (.Call (.Name x p) (e::es) [] pos) (jx sp [] E0 t):=BE C hr ha hg hdb (gP hn) (gQ hp)
theorem ap(hc:cK X (.builtin id) r)(hg:Gl X x)(hm:X.mg x=none)(hv:bootBuiltins x=some (.builtin id))(ha:PA X (e::es) t)(hnn:x≠"__name__":=by decide)(hdb:(x == ("__debug__":Str))=false:=by decide)(hn:nSt e=true:=by rfl)(hp:es.all nSt=true:=by rfl) :
  PE X (.Call (.Name x p) (e::es) [] pos) (tCB r t):=wW hc hg hm hv ha hnn hdb (gP hn) (gQ hp)
theorem bY(hc:cK X (.type T) r)(hg:Gl X x)(hm:X.mg x=none)(hv:bootBuiltins x=some (.type T))(ha:PA X (e::es) t)(hnn:x≠"__name__":=by decide)(hdb:(x == ("__debug__":Str))=false:=by decide)(hn:nSt e=true:=by rfl)(hp:es.all nSt=true:=by rfl) :
  PE X (.Call (.Name x p) (e::es) [] pos) (tCB r t):=u4 hc hg hm hv ha hnn hdb (gP hn) (gQ hp)
end
def plT:Expr->Bool
 | .Call _ _ _ _=>true
 | .Name _ _=>true
 | .Subscript _ _ _=>true
 | .Attribute _ _ _=>true
 | _=>false
theorem zV{e:Expr}{env:Env}(h:plT e=true):∀whole,isTrue e env whole=(do let v <- whole;standAt e.pos;holding [v] (truthy v)):=by
 cases e <;> first|(intro _;rfl)|cases h
theorem aW{X:Cx}{e:Expr}{t:TE}(h:PE X e t)(hp:plT e=true:=by rfl):PT X e (tB t):=Ba h (zV hp)
def nD(k:Nat):D:=.int (k:Int)
theorem zW(n:Nat):B2 0 n=(List.range n).map nD:=by
 unfold B2 nD;exact map_congr_left fun k _=>by rw [Int.zero_add]
theorem jY{α β:Type}(p:α->Bool)(g:α->β):∀l:List α,l.filterMap (fun a=>if p a=true then some (g a) else none)=(l.filter p).map g
 | []=>rfl
 | a::r=>by
  rw [filterMap_cons,filter_cons]
  cases h:p a with
  | true=>simp [jY p g r]
  | false=>simp [jY p g r]
abbrev vmB:List Value:=[.type "ValueError",.type "Exception",.type "BaseException",.type "object"]
section
variable {prog:Program}{w:World}{A:Around}{E:Value->Shared->Prop}{K:PySem.W.Frag}{h:Heap}{g:Array GenState}{d:Drawn}{t:Nat}{os:OsState}
variable {nm q:Str}{C N:Addr}{bs bm:List Value}{sn:List Str}{sub:List Value}{ab:Bool}{col:Option Bool}{k0 k1 k2 k3 k5:Option Value}
theorem rK{rest:List Value}{fI:Addr}{Q:Fin->Shared->Prop}(X:K.In h)(hC:h.get? C=some (excClassObj nm q C N bs bm true sn sub ab col none k0 k1 k2 k3 k5 "ValueError.__new__"))(T:OwnTail h vmB bm)
  (hi:PySem.W.findIn K (.ref C) "__init__"=some (some (.ref fI))) (hf:PySem.W.typeIn K (.ref fI)=some (.type "function")) (hrest:rest.length<=sizeLine)
  (hq:∀h',Heap.MadeExcOf h h' (h.objs.size+1) (.ref C) rest->wpAny (model prog w) A (call (.ref fI) (.ref (h.objs.size+1)::rest)) (fun r s'=>r=.none/\Q (.done (.ret (.ref (h.objs.size+1)))) s') E ⟨h',g,d,t,os⟩) :
  wpAny (model prog w) A (Builtin.«type.__call__» ⟨.ref C::rest,[]⟩) Q E ⟨h,g,d,t,os⟩:=by
 have FV:=PySem.F.excBase_ValueError
 repeat (first
  | with_reducible refine wpAny_loadPart_at hC ?_
  | with_reducible refine wpAny_madeBy_exc hC ?_
  | wp_step)
 refine codeAny_call_builtin_code (Code.quiet_builtin _ FV.quiet) (wpAny_check_new_subT FV T hC ?_);refine codeAny_exc_new_subT FV T hC ?_ hrest;show wpAny _ _ _ _ _ _;generalize hh1:(h.push { cls:=.type "tuple",data:=.seq rest.toArray })=h1;generalize hh2:(h1.push { cls:=.ref C,data:=.fields #[.ref h.objs.size,.none,.none,.none,.bool false,.none] })=h2
 have kp:∀b o,h.get? b=some o->h2.get? b=some o:=fun b o e=>by
  rw [<- hh2,<- hh1];exact Heap.get?_push_of_some _ (Heap.get?_push_of_some _ e)
 have hC2:=kp _ _ hC;have X2:K.In h2:=X.keeps kp;have sz:h1.objs.size=h.objs.size+1:=by rw [<- hh1];exact Heap.size_push ..
 have ge:h2.get? (h.objs.size+1)=some { cls:=.ref C,data:=.fields #[.ref h.objs.size,.none,.none,.none,.bool false,.none] }:=by
  rw [<- hh2,<- sz];exact Heap.get?_push_size _ rfl
 have gt:h2.get? h.objs.size=some { cls:=.type "tuple",data:=.seq rest.toArray }:=by
  rw [<- hh2,<- hh1];exact Heap.get?_push_of_some _ (Heap.get?_push_size _ rfl)
 have cc:(Value.ref C::bm).contains (.ref C)=true:=by simp
 unfold isInstance
 repeat (first
  | with_reducible refine wpAny_loadPart_at ge ?_
  | (with_reducible refine wpAny_isSubtype_exc hC2 ?_;rw [cc])
  | wp_step)
 show wpAny _ _ (typeLookup (.ref C) _) _ _ _;refine (PySem.W.looks_findIn X2 hi).at ?_;refine wpAny_holding (wpAny_bind ((PySem.W.bind_fn X2 _ hf).at ?_));refine wpAny_bind (wpAny_mono (hq h2 ⟨kp,Heap.get?_none_of_le (le_succ _),h.objs.size,ge,Heap.get?_none_of_le (Nat.le_refl _),gt⟩) (fun r s' hr=>?_) fun _ _ x=>x);obtain⟨rfl,hQ⟩:=hr
 wp_walk
 exact hQ
theorem zX{rest:List Value}{fI:Addr}{Q:Value->Shared->Prop}(X:K.In h)(hC:h.get? C=some (excClassObj nm q C N bs bm true sn sub ab col none k0 k1 k2 k3 k5 "ValueError.__new__"))(T:OwnTail h vmB bm)
  (hi:PySem.W.findIn K (.ref C) "__init__"=some (some (.ref fI))) (hf:PySem.W.typeIn K (.ref fI)=some (.type "function")) (hrest:rest.length<=sizeLine)
  (hq:∀h',Heap.MadeExcOf h h' (h.objs.size+1) (.ref C) rest->wpAny (model prog w) (A.under (.builtin "type.__call__" ⟨.ref C::rest,[]⟩)) (call (.ref fI) (.ref (h.objs.size+1)::rest)) (fun r s'=>r=.none/\Q (.ref (h.objs.size+1)) s') E ⟨h',g,d,t,os⟩) :
  wpAny (model prog w) A (call (.ref C) rest) Q E ⟨h,g,d,t,os⟩:=by
 have u1:=tc_lookup;have u2:=tc_bind (.ref C);have hT:(⟨h,g,d,t,os⟩:Shared).TypeIs (.ref C) "type":=⟨_,hC,rfl⟩
 refine wpAny_call (codeAny_of_tree ?_);show wpAny _ _ (callAny (.ref C) _) _ _ _
 repeat (any_goals (first
  | assumption
  | with_reducible refine wpAny_loadPart_at hC ?_
  | wp_step))
 refine⟨rfl,?_⟩;refine codeAny_call_builtin_at (Code.quiet_builtin _ (by decide +kernel)) entry_typeCall ?_;refine wpAny_check_type_call_sub hC (rK X hC T hi hf hrest fun h' hm=>?_);exact hq h' hm
end
open PySem.Builtin PySem.Builtin.ObjectAttr
section
variable {prog:Program}{w:World}{A:Around}{E:Value->Shared->Prop}{K:PySem.W.Frag}{h:Heap}{g:Array GenState}{d:Drawn}{t:Nat}{os:OsState}
variable {nm q:Str}{C G N x:Addr}{bs:List Value}{sn:List Str}{sub:List Value}{ab:Bool}{col:Option Bool}{k0 k1 k2 k3 k5:Option Value}{name:Str}{v:Value}{o:Obj}{vs:Array Value}
def Ep(h h':Heap)(x:Addr)(o:Obj)(name:Str)(v:Value)(dx:Addr):Prop :=
 h'.get? x=some { o with dict:=some dx }/\h.objs.size<=dx/\dx≠x/\h'.Ns1 dx (fun y=>if y=name then some v else none)/\∀b ob,b≠x->h.get? b=some ob->h'.get? b=some ob
theorem oS{tk:Tok}{Q:Fin->Shared->Prop}(X:K.In h)(hC:h.get? C=some (excClassObj nm q C N bs (.ref G::vmB) true sn sub ab col none k0 k1 k2 k3 k5 "ValueError.__new__"))
  (hna:PySem.W.findIn K (.ref C) name=some none) (hx:h.get? x=some o) (hc:o.cls=.ref C) (hd:o.data=.fields vs) (hdn:o.dict=none)
  (hq:∀h' tk' dx,Ep h h' x o name v dx->Q (.done (.ret .none)) ⟨h',g,d,tk',os⟩) :
  wpAny (model prog w) A (Builtin.«object.__setattr__» ⟨[.ref x,.str name tk,v],[]⟩) Q E ⟨h,g,d,t,os⟩:=by
 have hpass:=PySem.F.store_ValueError.passes (.ref x);unfold Builtin.«object.__setattr__»
 repeat (first
  | rw [refuse_eq]
  | (rw [refuseLoop_ref,refuseLoop_ref,hpass])
  | (with_reducible refine wpAny_loadPart_at hx ?_;rw [hc])
  | with_reducible refine wpAny_mroOf_exc hC ?_
  | (with_reducible refine (PySem.W.looks_findIn X hna).at ?_)
  | wp_step)
 rw [hdn,if_neg (by simp [typeHasDict])]
 split
 .rename_i hcd;cases hcd
 split
 .rename_i c hcd;rw [hd] at hcd;cases hcd
 .have hx1:(h.push { cls:=.type "dict",data:=.dict #[] }).get? x=some o:=Heap.get?_push_of_some _ hx;have hxs:x≠h.objs.size:=ne_of_lt (Heap.lt_size hx);refine wpAny_bind (wpAny_alloc' ?_);refine wpAny_bind (wpAny_update' hx1 ?_);refine wpAny_pure ?_;generalize hg2:((h.push { cls:=.type "dict",data:=.dict #[] }).update x fun o=>{ cls:=o.cls,dict:=some h.objs.size,data:=o.data,slots:=o.slots })=h2
  have gd:h2.get? h.objs.size=some { cls:=.type "dict",data:=.dict #[] }:=by
   rw [<- hg2];exact (Heap.get?_update_ne _ _ _ _ hxs.symm).trans (Heap.get?_push_at rfl rfl)
  have gx:h2.get? x=some { o with dict:=some h.objs.size }:=by
   rw [<- hg2];refine Heap.get?_update_self _ hx1 ?_;have hfr:=(Heap.get?_some_iff.mp hx).2;obtain⟨oc,od,odt,osl⟩:=o;cases odt <;> first|rfl|exact hfr
  have kp:∀b ob,b≠x->h.get? b=some ob->h2.get? b=some ob:=fun b ob hb e=>by
   rw [<- hg2];exact (Heap.get?_update_ne _ _ _ _ hb).trans (Heap.get?_push_of_some _ e)
  have hnd:h2.Ns h.objs.size (fun _=>none):=⟨_,#[],_,gd,rfl,fun e he=>absurd he (by simp),fun _=>rfl⟩
  show wpAny _ _ (storeInDict h.objs.size (.str name tk) name v) _ _ _;unfold storeInDict newKeyGuard;refine wpAny_bind (wpAny_pure (wpAny_bind (wpAny_nsSet1 (Heap.Ns1.of_empty hnd) fun h' hn' hs=>?_)));obtain⟨oD,esD,epD,hoD,hdD,hcD⟩:=hn'.count (Within.cons name v Within.nil)
  refine wpAny_bind (wpAny_lookBehind hoD (by
   rw [hdD];exact pastItsLine_dict (le_trans hcD (by rw [length_cons,length_nil,sizeLine_eq];omega))) ?_)
  wp_walk
  exact hq h' _ h.objs.size ⟨(hs.2 x hxs).trans gx,Nat.le_refl _,hxs.symm,hn',fun b ob hb e=>(hs.2 b (ne_of_lt (Heap.lt_size e))).trans (kp b ob hb e)⟩
theorem zY{Q:Unit->Shared->Prop}(X:K.In h)(hC:h.get? C=some (excClassObj nm q C N bs (.ref G::vmB) true sn sub ab col none k0 k1 k2 k3 k5 "ValueError.__new__"))
  (hsa:PySem.W.findIn K (.ref C) "__setattr__"=some (some (.builtin "object.__setattr__"))) (hna:PySem.W.findIn K (.ref C) name=some none)
  (hx:h.get? x=some o) (hc:o.cls=.ref C) (hd:o.data=.fields vs) (hdn:o.dict=none)
  (hq:∀h' tk' dx,Ep h h' x o name v dx->Q () ⟨h',g,d,tk',os⟩) :
  wpAny (model prog w) A (setAttr (.ref x) name v) Q E ⟨h,g,d,t,os⟩:=by
 have SF:=PySem.F.store_ValueError;have u3:=SF.slot.bind (.ref x);unfold setAttr callSpecial? specialOf;refine wpAny_bind (wpAny_mkText (wpAny_bind (wpAny_bind (wpAny_bind (wpAny_typeOf_ref hx ?_)))));rw [hc];refine (PySem.W.looks_findIn X hsa).at ?_;refine wpAny_holding (wpAny_bind (wpAny_of_eq u3 (wpAny_bind (wpAny_call ?_))))
 have own:(Value.ref C::.ref G::vmB).contains (.type "object")=true:=by
  rw [contains_cons,contains_cons,SF.hasOwner,Bool.or_true,Bool.or_true]
 refine codeAny_call_builtin SF.slot.plain SF.entry ?_;simp only [checkBuiltinCall,SF.kind,SF.split];have ha:=SF.args (.ref x) (.str name t) v;show wpAny _ _ (isInstance (.ref x) (.type "object") >>= _) _ _ _;refine wpAny_bind ?_;unfold isInstance;refine wpAny_bind (wpAny_typeOf_ref hx ?_);rw [hc];refine wpAny_isSubtype_exc hC ?_;rw [own]
 have step:∀{Q':Fin->Shared->Prop},(∀s',Q () s'->Q' (.done (.ret .none)) s')->wpAny (model prog w) A.in1 (Builtin.«object.__setattr__» ⟨[.ref x,.str name t,v],[]⟩) Q' E ⟨h,g,d,t+1,os⟩:=fun k =>
  oS X hC hna hx hc hd hdn fun h' tk' dx z=>k _ (hq h' tk' dx z)
 show wpAny _ _ (match Manifest.signature? "object.__setattr__" with|some sig=>Bind.checkArgs "object.__setattr__" sig { pos:=[Value.ref x]++[Value.str name t,v] }|x=>pure ()) _ _ _
 cases hsig:Manifest.signature? "object.__setattr__" with
 | none=>exact wpAny_pure (step fun s' z=>wpAny_pure (wpAny_pure z))
 | some sig =>
  simp only [argsOk,hsig] at ha;have h2:Bind.checkArgs "object.__setattr__" sig ⟨[.ref x,.str name t,v],[]⟩=pure ():=ha;show wpAny _ _ (Bind.checkArgs "object.__setattr__" sig ⟨[.ref x,.str name t,v],[]⟩) _ _ _;rw [h2];exact wpAny_pure (step fun s' z=>wpAny_pure (wpAny_pure z))
end
open PySem.Builtin PySem.Builtin.ObjectAttr
section
variable {prog:Program}{w:World}{A:Around}{E:Value->Shared->Prop}{K:PySem.W.Frag}{h:Heap}{g:Array GenState}{d:Drawn}{t:Nat}{os:OsState}
variable {nm q:Str}{C G N x dx:Addr}{bs:List Value}{sn:List Str}{sub:List Value}{ab:Bool}{col:Option Bool}{k0 k1 k2 k3 k5:Option Value}{name:Str}{v:Value}{o:Obj}{vs:Array Value}{mA:Str->Option Value}
theorem qs{tk:Tok}{Q:Fin->Shared->Prop}(X:K.In h)(hC:h.get? C=some (excClassObj nm q C N bs (.ref G::vmB) true sn sub ab col none k0 k1 k2 k3 k5 "ValueError.__new__"))
  (hna:PySem.W.findIn K (.ref C) name=some none) (hx:h.get? x=some o) (hc:o.cls=.ref C) (hd:o.data=.fields vs) (hdx:o.dict=some dx) (hns:h.Ns dx mA) (hv:mA name=some v)
  (hq:Q (.done (.ret v)) ⟨h,g,d,t,os⟩):wpAny (model prog w) A (Builtin.«object.__getattribute__» ⟨[.ref x,.str name tk],[]⟩) Q E ⟨h,g,d,t,os⟩:=by
 unfold Builtin.«object.__getattribute__»
 repeat (first
  | (with_reducible refine wpAny_loadPart_at hx ?_;rw [hc])
  | (with_reducible refine (PySem.W.looks_findIn X hna).at ?_)
  | wp_step)
 rw [hd];show wpAny _ _ (instanceDict x false) _ _ _;unfold instanceDict
 repeat (first
  | (with_reducible refine wpAny_loadPart_at hx ?_;rw [hc])
  | with_reducible refine wpAny_loadPart_at hC ?_
  | wp_step)
 rw [hdx]
 repeat (first
  | (with_reducible refine wpAny_nsGet hns ?_;rw [hv])
  | wp_step)
 exact hq
end
open PySem.Builtin PySem.Builtin.ObjectAttr
section
variable {prog:Program}{w:World}{A:Around}{E:Value->Shared->Prop}{K:PySem.W.Frag}{h:Heap}{g:Array GenState}{d:Drawn}{t:Nat}{os:OsState}
variable {nm q:Str}{C G N x dx:Addr}{bs:List Value}{sn:List Str}{sub:List Value}{ab:Bool}{col:Option Bool}{k0 k1 k2 k3 k5:Option Value}{name:Str}{v:Value}{o:Obj}{vs:Array Value}{mA:Str->Option Value}
theorem vV{R:Result->Shared->Prop}(hC:h.get? C=some (excClassObj nm q C N bs (.ref G::vmB) true sn sub ab col none k0 k1 k2 k3 k5 "ValueError.__new__"))(hx:h.get? x=some o)(hc:o.cls=.ref C)
  (hq:R (.ok (.ret (.ref C))) ⟨h,g,d,t,os⟩):codeAny (model prog w) A (.call (.builtin "getset_descriptor.__get__") ⟨[.builtin "object.__class__",.ref x,.ref C],[]⟩) R ⟨h,g,d,t,os⟩:=by
 have hT5:(⟨h,g,d,t,os⟩:Shared).TypeIs (.builtin "object.__class__") "getset_descriptor":=PySem.F.typeOf_object_class
 have own:(Value.ref C::.ref G::vmB).contains (.type (".".intercalate ("object.__class__".cutAt '.').dropLast))=true:=by
  rw [PySem.F.owner_object_class];rfl
 refine codeAny_call_builtin PySem.F.slot_gs_get.plain PySem.F.entry_gs_get ?_;refine PySem.F.slot_gs_get.check _ _ _ _ _ _ _ _ hT5 (PySem.F.args_gs_get _ _ _) ?_
 repeat (any_goals (first
  | assumption
  | (with_reducible refine wpAny_loadPart_at hx ?_;rw [hc])
  | (with_reducible refine wpAny_isSubtype_exc hC ?_;rw [own])
  | wp_step))
 refine⟨Code.quiet_builtin _ (by decide +kernel),codeAny_builtin PySem.F.entry_object_class ?_⟩
 repeat (any_goals (first
  | assumption
  | (with_reducible refine wpAny_loadPart_at hx ?_;rw [hc])
  | wp_step))
theorem rL{tk:Tok}{Q:Fin->Shared->Prop}(X:K.In h)(hC:h.get? C=some (excClassObj nm q C N bs (.ref G::vmB) true sn sub ab col none k0 k1 k2 k3 k5 "ValueError.__new__"))(hx:h.get? x=some o)(hc:o.cls=.ref C)
  (hcl:PySem.W.findIn K (.ref C) "__class__"=some (some (.builtin "object.__class__"))) (hq:Q (.done (.ret (.ref C))) ⟨h,g,d,t,os⟩) :
  wpAny (model prog w) A (Builtin.«object.__getattribute__» ⟨[.ref x,.str "__class__" tk],[]⟩) Q E ⟨h,g,d,t,os⟩:=by
 have u5:=PySem.F.typeOf_object_class;have u6:=PySem.F.slot_gs_get.lookup;have u7:=PySem.F.slot_gs_set.lookup;unfold Builtin.«object.__getattribute__»
 repeat (any_goals (first
  | assumption
  | (with_reducible refine wpAny_loadPart_at hx ?_;rw [hc])
  | (with_reducible refine (PySem.W.looks_findIn X hcl).at ?_)
  | wp_step))
 refine vV hC hx hc ?_
 repeat (any_goals (first
  | assumption
  | wp_step))
end
open PySem.Builtin PySem.Builtin.ObjectAttr
section
variable {prog:Program}{w:World}{A:Around}{E:Value->Shared->Prop}{K:PySem.W.Frag}{h:Heap}{g:Array GenState}{d:Drawn}{t:Nat}{os:OsState}
variable {nm q:Str}{C G N x dx:Addr}{bs:List Value}{sn:List Str}{sub:List Value}{ab:Bool}{col:Option Bool}{k0 k1 k2 k3 k5:Option Value}{name:Str}{v:Value}{o:Obj}{vs:Array Value}{mA:Str->Option Value}
theorem Es{fill expr:Bool}{tk:Tok}{Q:Value->Shared->Prop}(X:K.In h)(hC:h.get? C=some (excClassObj nm q C N bs (.ref G::vmB) true sn sub ab col none k0 k1 k2 k3 k5 "ValueError.__new__"))
  (hga:PySem.W.findIn K (.ref C) "__getattribute__"=some (some (.builtin "BaseException.__getattribute__"))) (hgh:PySem.W.findIn K (.ref C) "__getattr__"=some none)
  (hx:h.get? x=some o) (hc:o.cls=.ref C) (hh:handedOut v=pure v)
  (step:∀{Q':Fin->Shared->Prop}{E':Value->Shared->Prop},Q' (.done (.ret v)) ⟨h,g,d,t,os⟩->wpAny (model prog w) A.in1 (Builtin.«object.__getattribute__» ⟨[.ref x,.str name tk],[]⟩) Q' E' ⟨h,g,d,t,os⟩)
  (hq:Q v ⟨h,g,d,t,os⟩):wpAny (model prog w) A (getAttrBy (.ref x) (.str name tk) fill expr) Q E ⟨h,g,d,t,os⟩:=by
 unfold getAttrBy;refine wpAny_holding (wpAny_bind (wpAny_typeOf_ref hx ?_));rw [hc];refine wpAny_bind ((PySem.W.looks_findIn X hga).at ?_);have hx2:(Value.builtin "BaseException.__getattribute__" == Value.builtin "object.__getattribute__")=false:=by decide +kernel
 show wpAny _ _ (if (onTheHeap (.ref C) && (Value.builtin "BaseException.__getattribute__" == Value.builtin "object.__getattribute__"))=true then _ else _) _ _ _;rw [hx2,Bool.and_false,if_neg (by decide)];unfold getAttrByItsOwn;refine wpAny_bind ((PySem.W.looks_hook X (r:=none) (by rw [if_pos (by rfl)];exact hgh)).at ?_);refine wpAny_bind (wpAny_attempt ?_);unfold callGetattribute;refine wpAny_holding ?_
 rw [if_neg (by cases expr <;> decide)];unfold boundAndCalled;have FB:=PySem.F.attrBase_ValueError
 have own:(Value.ref C::.ref G::vmB).contains (.type "BaseException")=true:=by
  rw [contains_cons,contains_cons,FB.hasBase,Bool.or_true,Bool.or_true]
 have ha:=PySem.F.args_bexc_ga (.ref x) (.str name tk);have hk:builtinKind "BaseException.__getattribute__"=some .slot:=by decide +kernel
 have hsp:splitId "BaseException.__getattribute__"=some ("BaseException","__getattribute__"):=by decide +kernel
 refine wpAny_bind (wpAny_of_eq (FB.ga.bind (.ref x)) ?_);refine wpAny_call (codeAny_call_builtin FB.ga.plain PySem.F.entry_bexc_ga ?_);simp only [checkBuiltinCall,hk,hsp];show wpAny _ _ (isInstance (.ref x) (.type "BaseException") >>= _) _ _ _;refine wpAny_bind ?_;unfold isInstance;refine wpAny_bind (wpAny_typeOf_ref hx ?_);rw [hc];refine wpAny_isSubtype_exc hC ?_;rw [own];have done:wpAny (model prog w) A (handedOut v) Q E ⟨h,g,d,t,os⟩:=by rw [hh];exact wpAny_pure hq
 show wpAny _ _ (match Manifest.signature? "BaseException.__getattribute__" with|some sig=>Bind.checkArgs "BaseException.__getattribute__" sig { pos:=[Value.ref x]++[Value.str name tk] }|x=>pure ()) _ _ _
 cases hsig:Manifest.signature? "BaseException.__getattribute__" with
 | none=>exact wpAny_pure (step done)
 | some sig =>
  simp only [argsOk,hsig] at ha;have h2:Bind.checkArgs "BaseException.__getattribute__" sig ⟨[.ref x,.str name tk],[]⟩=pure ():=ha;show wpAny _ _ (Bind.checkArgs "BaseException.__getattribute__" sig ⟨[.ref x,.str name tk],[]⟩) _ _ _;rw [h2];exact wpAny_pure (step done)
theorem zZ{Q:Option Value->Shared->Prop}(X:K.In h)(hC:h.get? C=some (excClassObj nm q C N bs (.ref G::vmB) true sn sub ab col none k0 k1 k2 k3 k5 "ValueError.__new__"))
  (hga:PySem.W.findIn K (.ref C) "__getattribute__"=some (some (.builtin "BaseException.__getattribute__"))) (hgh:PySem.W.findIn K (.ref C) "__getattr__"=some none)
  (hcl:PySem.W.findIn K (.ref C) "__class__"=some (some (.builtin "object.__class__"))) (hx:h.get? x=some o) (hc:o.cls=.ref C) (hq:Q (some (.ref C)) ⟨h,g,d,t+1,os⟩) :
  wpAny (model prog w) A (getAttr? (.ref x) "__class__") Q E ⟨h,g,d,t,os⟩:=by
 unfold getAttr? getAttrBy?;refine wpAny_bind (wpAny_mkText (wpAny_bind (wpAny_attempt ?_)));exact Es X hC hga hgh hx hc rfl (fun k=>rL X hC hx hc hcl k) (wpAny_pure hq)
structure XC (K:PySem.W.Frag) (C G:Addr):Prop where
 obj:∃nm q N bs sn sub ab col k0 k1 k2 k3 k5,K.lookup C=some (excClassObj nm q C N bs (.ref G::vmB) true sn sub ab col none k0 k1 k2 k3 k5 "ValueError.__new__")
 ga:PySem.W.findIn K (.ref C) "__getattribute__"=some (some (.builtin "BaseException.__getattribute__"))
 gh:PySem.W.findIn K (.ref C) "__getattr__"=some none
 sa:PySem.W.findIn K (.ref C) "__setattr__"=some (some (.builtin "object.__setattr__"))
 cl:PySem.W.findIn K (.ref C) "__class__"=some (some (.builtin "object.__class__"))
theorem sX{dd:Option Addr}{new:Bool}(c:XC K C G):PySem.W.KitX K (.ref x) (.ref C) (XAt x C dd new) where
 ty:=fun M h X p=>by
  obtain⟨o,vs,h1,h2,_⟩:=p;exact h2 ▸ (PySem.W.Looks.ld h1).andThen .now
 it:=fun M h X p=>by
  obtain⟨nm,q,N,bs,sn,sub,ab,col,k0,k1,k2,k3,k5,e⟩:=c.obj;intro A' Q' E' s' k q;unfold isType loadHead;exact wpAny_bind (wpAny_loadPart (k _ _ (X _ _ e)) (wpAny_pure q))
 ne:=fun h tp dd its n sl X htp=>by
  obtain⟨nm,q,N,bs,sn,sub,ab,col,k0,k1,k2,k3,k5,e⟩:=c.obj;refine eq_false_iff.mpr fun z=>?_;have e2:C=tp:=Value.ref.inj (beq_iff_eq.mp z);subst e2;have e3:=congrArg Obj.data (Option.some.inj ((X _ _ e).symm.trans htp));cases e3
 ca:=fun {prog w A E Q s} X p k=>by
  obtain⟨h,g,d,t,os⟩:=s;obtain⟨o,vs,h1,h2,_⟩:=p;obtain⟨nm,q,N,bs,sn,sub,ab,col,k0,k1,k2,k3,k5,e⟩:=c.obj;exact zZ X (X _ _ e) c.ga c.gh c.cl h1 h2 k
end
theorem vW{v:V}{u:Value}(r:eo v u):handedOut u=pure u:=by
 cases v with
 | non=>cases (show u=Value.none from r);rfl
 | bl b=>cases (show u=Value.bool b from r);rfl
 | int i=>obtain⟨t,e⟩:=(show ∃t,u=Value.int i t from r);subst e;rfl
 | str x=>obtain⟨t,e⟩:=(show ∃t,u=Value.str x t from r);subst e;rfl
 | flt x=>obtain⟨t,e⟩:=(show ∃t,u=Value.float x t from r);subst e;rfl
 | ty n=>cases (show u=Value.type n from r);rfl
 | byt b=>obtain⟨t,e⟩:=(show ∃t,u=Value.bytes b t from r);subst e;rfl
 | ref a=>cases (show u=Value.ref a from r);rfl
theorem XAt.ok{P:Program}{w:World}{H:Hp}{h:Heap}{x C:Addr}{dd:Option Addr}{new:Bool}(p:XAt x C dd new h):ck P w H h x (.ext (XAt x C dd new)):=by
 obtain⟨o,vs,h1,h2,h3,h4⟩:=id p;exact⟨p,⟨o,h1⟩,fun g1 g2 ⟨o',vs',a1,a2⟩ k=>⟨o',vs',k _ a1,a2⟩⟩
section
variable {X:Cx}{pins:List (Addr×Obj)}{σ:St}{H:Hp}{s:Shared}{a dx C G:Addr}{f:Str}{v:V}{fs:List (Str×V)}{A:Around}{E:Value->Shared->Prop}
theorem EH{b new:Bool}{Q:Value->Shared->Prop}(I:Inv X pins σ H s)(ea:H a=some (.ext (XAt a C (some dx) new)))(ed:H dx=some (.xd fs))(c:XC X.K C G)(n:PySem.W.findIn X.K (.ref C) f=some none)(l:fs.lookup f=some v)
  (h:∀u s',Inv X pins σ H s'->eo v u->Q u s'):wpAny (model X.prog X.w) A (getAttr (.ref a) f b) Q E s:=by
 obtain⟨⟨o,vs,h1,h2,h3,h4,h5⟩,_,_⟩:=(show ck X.prog X.w H s.heap a (.ext (XAt a C (some dx) new)) from I.hok a _ ea)
 obtain⟨mA,hns,r⟩:=(show ck X.prog X.w H s.heap dx (.xd fs) from I.hok dx _ ed)
 obtain⟨u,hu,ru⟩:=yj.some_of (v:=v) (o:=mA f) (by rw [<- l];exact r f);obtain⟨nm,q,N,bs,sn,sub,ab,col,k0,k1,k2,k3,k5,e⟩:=c.obj;have I2:=I.tok (s.toks+1);have X2:=I.kIn;obtain⟨hh,g,d,t,os⟩:=s;unfold getAttr;refine wpAny_bind (wpAny_mkText ?_);exact Es X2 (X2 _ _ e) c.ga c.gh h1 h2 (vW ru) (fun k=>qs X2 (X2 _ _ e) n h1 h2 h4 h3 hns.ns hu k) (h u _ I2 ru)
theorem Un.setX{h h':Heap}{fs ex:List Addr}{o:HO}{o2:HO}(mu:Mut (H a))(hx:H dx=none)(hd:h.get? dx=none)(k:∀b ob,b≠a->h.get? b=some ob->h'.get? b=some ob)(ha:∃o,h'.get? a=some o):Un fs ex H (upd (upd H dx o) a o2) h h':=by
 have na:∀b,H b=none->b≠a:=fun b n z=>by subst z;rw [n] at mu;exact mu
 have nd:∀b ob,h.get? b=some ob->b≠dx:=fun b ob e z=>by rw [z,hd] at e;cases e
 have hm:∀b u,H b=some u->¬ Mut (some u)->b≠a/\b≠dx:=fun b u q nm=>⟨fun z=>by subst z;rw [q] at mu;exact nm mu,fun z=>by subst z;rw [hx] at q;cases q⟩
 refine⟨fun b u q n _ _=>k b u (na b n) q,fun b u q n _ _=>⟨u.slots,k b u (na b n) q⟩,fun b u q n _=>by rw [aA (na b n),aA (nd b u q)];exact n,fun b u q _=>?_,
  fun b xs q=>by rw [aA (hm b _ q fun z=>z).1,aA (hm b _ q fun z=>z).2];exact q,fun b u xs q=>by rw [aA (hm b _ q fun z=>z).1,aA (hm b _ q fun z=>z).2];exact q,
  fun b ps q=>⟨#[],by rw [aA (hm b _ q fun z=>z).1,aA (hm b _ q fun z=>z).2,q];simp⟩⟩
 by_cases hb:b=a
 .subst hb;exact ha
 .exact⟨u,k b u hb q⟩
theorem setX{new:Bool}{y:V}{u:Value}{Q:Unit->Shared->Prop}(I:Inv X pins σ H s)(ea:H a=some (.ext (XAt a C none new)))(c:XC X.K C G)(n:PySem.W.findIn X.K (.ref C) f=some none)(ry:eo y u)
  (h:∀dx s',H dx=none->Inv X pins σ (upd (upd H dx (.xd [(f,y)])) a (.ext (XAt a C (some dx) new))) s'->Q () s'):wpAny (model X.prog X.w) A (setAttr (.ref a) f u) Q E s:=by
 obtain⟨⟨o,vs,h1,h2,h3,h4,h5⟩,_,_⟩:=(show ck X.prog X.w H s.heap a (.ext (XAt a C none new)) from I.hok a _ ea)
 obtain⟨nm,q,N,bs,sn,sub,ab,col,k0,k1,k2,k3,k5,e⟩:=c.obj;have X2:=I.kIn;obtain⟨hh,g,d,t,os⟩:=s;refine zY X2 (X2 _ _ e) c.sa n h1 h2 h4 h3 fun h' tk' dx z=>?_;obtain⟨z1,z2,z3,z4,z5⟩:=z;have hdx:H dx=none:=I.hok.fresh z2;have hg0:hh.get? dx=none:=Heap.get?_none_of_le z2;have hne:dx≠a:=z3;have mu:Mut (H a):=by rw [ea];exact True.intro
 refine h dx _ hdx (I.un (t':=tk') (Un.setX mu hdx hg0 z5 ⟨_,z1⟩) fun b ob eb=>?_)
 by_cases hb:b=a
 .subst hb;rw [aQ] at eb;cases eb;exact XAt.ok ⟨_,vs,z1,h2,rfl,h4,h5⟩
 .rw [aA hb] at eb
  by_cases hb2:b=dx
  .subst hb2;rw [aQ] at eb;cases eb;refine⟨_,z4,fun y'=>?_⟩;show yj (List.lookup y' [(f,y)]) _
   by_cases q:y'=f
   .subst q;rw [if_pos rfl];have e1:List.lookup y' [(y',y)]=some y:=by simp [List.lookup]
    rw [e1];exact ry
   .rw [if_neg q];have:(y' == f)=false:=beq_eq_false_iff_ne.mpr q;simp [List.lookup,this,yj]
  .rw [aA hb2] at eb
   refine (I.hok b ob eb).stay (fun c w hc e=>?_) (fun c e=>?_) fun c xs e=>?_
   .refine z5 c w ?_ e;rintro rfl
    rcases hc with hc|hc
    .exact hb hc.symm
    .rw [ea] at hc;cases hc
   .rw [aA,aA]
    .exact e
    .rintro rfl;rw [hdx] at e;cases e
    .rintro rfl;rw [ea] at e;cases e
   .rw [aA,aA]
    .exact e
    .rintro rfl;rw [hdx] at e;cases e
    .rintro rfl;rw [ea] at e;cases e
end
section
variable {X:Cx}{o e value:Expr}{f:Str}{pos pos':Pos}{ta tv:TE}
def Aa(K:PySem.W.Frag)(ta:TE)(f:Str):TE:=fun σ H Q=>ta σ H fun x H1=>∃a C G dx new fs v,x=.ref a/\H1 a=some (.ext (XAt a C (some dx) new))/\H1 dx=some (.xd fs)/\XC K C G/\PySem.W.findIn K (.ref C) f=some none/\fs.lookup f=some v/\Q v H1
theorem Ab(he:PE X e ta)(hb:attributeBase e f X.env (eval e X.env)=eval e X.env):PE X (.Attribute e f pos) (Aa X.K ta f):=by
 intro pins s σ H Q I h;refine zf hb (thn (he pins s σ H _ I h) fun u s1 ⟨x,H1,I1,rx,a,C,G,dx,new,fs,v,ex,ea,ed,c,n,l,q⟩=>?_);subst ex;obtain rfl:u=Value.ref a:=rx;exact EH I1 ea ed c n l fun u' s2 I2 ru=>⟨v,H1,I2,ru,q⟩
def Ac(K:PySem.W.Frag)(ta tv:TE)(f:Str):TS:=fun D σ H=>tv σ H fun y H1=>ta σ H1 fun x H2=>∃a C G new,x=.ref a/\H2 a=some (.ext (XAt a C none new))/\XC K C G/\PySem.W.findIn K (.ref C) f=some none /\
 ∀dx,H2 dx=none->D.nx σ (upd (upd H2 dx (.xd [(f,y)])) a (.ext (XAt a C (some dx) new)))
theorem Ad(ha:PE X o ta)(hv:PE X value tv)(hs:swapsWith value (some (.Attribute o f pos')) pos.line X.env=pure false):PS X (.Assign [.Attribute o f pos'] value pos) (Ac X.K ta tv f):=by
 intro pins s σ H D I h;refine plainObj_wpAny_Assign_Attribute (thn (hv pins s σ H _ I h) fun u s1 ⟨y,H1,I1,ry,q⟩=>thn (ha pins s1 σ H1 _ I1 q) fun ov s2 ⟨x,H2,I2,rx,a,C,G,new,ex,ea,c,n,q2⟩=>?_) hs;subst ex;obtain rfl:ov=Value.ref a:=rx;exact setX I2 ea c n ry fun dx s3 hdx I3=>⟨σ,_,I3,q2 dx hdx⟩
end
theorem ck.there{P:Program}{w:World}{H:Hp}{h:Heap}{a:Addr}{o:HO}(x:ck P w H h a o):∃ob,h.get? a=some ob:=by
 cases o with
 | lst xs=>obtain⟨_,_,_,_,e⟩:=x;exact⟨_,e⟩
 | tup xs=>obtain⟨_,_,_,ob,e,_⟩:=x;exact⟨ob,e⟩
 | dK kvs=>obtain⟨_,_,_,_,o,_,_,e,_⟩:=x;exact⟨o,e⟩
 | dT kvs=>obtain⟨_,_,_,_,o,_,_,e,_⟩:=x;exact⟨o,e⟩
 | set S n=>obtain⟨o,_,_,_,e,_⟩:=x;exact⟨o,e⟩
 | ins C dx fs=>obtain⟨_,_,_,e,_⟩:=x;exact⟨_,e⟩
 | own y=>exact x
 | xd fs=>obtain⟨_,⟨o,_,_,e,_⟩,_⟩:=x;exact⟨o,e⟩
 | rng lo hi=>obtain⟨_,_,_,e⟩:=x;exact⟨_,e⟩
 | frz ob u=>obtain⟨e,_⟩:=x;exact⟨ob,e⟩
 | tbl ps=>exact⟨_,(show h.get? a=some _ from x)⟩
 | met f y=>exact⟨_,(show h.get? a=some _ from x)⟩
 | ext φ=>exact x.2.1
theorem HOk.not{P:Program}{w:World}{H:Hp}{h:Heap}{a:Addr}(x:HOk P w H h)(e:h.get? a=none):H a=none:=by
 cases q:H a with
 | none=>rfl
 | some u=>obtain⟨ob,e2⟩:=(x a u q).there;rw [e] at e2;cases e2
section
variable {X:Cx}{pins:List (Addr×Obj)}{σ:St}{H:Hp}{s:Shared}{h':Heap}{a:Addr}{o:HO}
theorem Inv.news{t':Nat}(I:Inv X pins σ H s)(k:∀b u,s.heap.get? b=some u->h'.get? b=some u)(hn:s.heap.get? a=none)(new:ck X.prog X.w (upd H a o) h' a o):Inv X pins σ (upd H a o) { s with heap:=h',toks:=t' }:=by
 have ha:=I.hok.not hn
 refine I.un ⟨fun b u q _ _ _=>k b u q,fun b u q _ _ _=>⟨u.slots,k b u q⟩,fun b u q n _=>?_,fun b u q _=>⟨u,k b u q⟩,fun b xs q=>?_,fun b u xs q=>?_,fun b ps q=>⟨#[],?_⟩⟩ fun b u q=>?_
 .rw [aA (fun z=>by rw [z,hn] at q;cases q)];exact n
 .rw [aA (bn q ha)];exact q
 .rw [aA (bn q ha)];exact q
 .rw [aA (bn q ha),q];simp
 .by_cases hb:b=a
  .subst hb;rw [aQ] at q;cases q;exact new
  .rw [aA hb] at q;exact (I.hok b u q).stay (fun c v _ e=>k c v e) (fun c e=>by rw [aA (bn e ha)];exact e) fun c xs e=>by rw [aA (bn e ha)];exact e
end
structure XM (K:PySem.W.Frag) (C G fI:Addr):Prop where
 c:XC K C G
 tail:∀h:Heap,K.In h->OwnTail h vmB (.ref G::vmB)
 init:PySem.W.findIn K (.ref C) "__init__"=some (some (.ref fI))
 fn:PySem.W.typeIn K (.ref fI)=some (.type "function")
 kp:PySem.W.keepIn K (.ref C)=true
def yA(K:PySem.W.Frag)(f:Str):Sp:=fun vs H Q _=>∃a C G new v,vs=[.ref a,v]/\H a=some (.ext (XAt a C none new))/\XC K C G/\PySem.W.findIn K (.ref C) f=some none/\∀dx,H dx=none->Q .non (upd (upd H dx (.xd [(f,v)])) a (.ext (XAt a C (some dx) new)))
structure rM (P:Program) (w:World) (K:PySem.W.Frag) (mg:Str->Option Value) (base:Heap) (k:Nat) (C:Addr) (x f:Str):Prop where
 ex:∃(G fI:Addr) (fd:FuncData) (ps:List Str),pQ P w K mg base CX0 k fI fd ps (yA K f)/\ng K fd ps []/\XM K C G fI/\PySem.W.findIn K (.ref C) f=some none/\mg x=some (.ref C)
def Ce(C:Addr)(f:Str)(t:TA):TE:=fun σ H Q=>t σ H fun vs H1=>∃v,vs=[v]/\∀e dx,H1 e=none->H1 dx=none->dx≠e->Q (.ref e) (upd (upd H1 dx (.xd [(f,v)])) e (.ext (XAt e C (some dx) true)))
section
variable {X:Cx}{k:Nat}{C:Addr}{x f:Str}{p pos:Pos}{e:Expr}{es:List Expr}{t:TA}
theorem xH{pins:List (Addr×Obj)}{σ:St}{H:Hp}{s:Shared}{Q:VK}{u:Value}{v:V}(M:rM X.prog X.w X.K X.mg X.base k C x f)(hr:iA (k+1) X.A)(I:Inv X pins σ H s)(r:eo v u)
  (h:∀e dx,H e=none->H dx=none->dx≠e->Q (.ref e) (upd (upd H dx (.xd [(f,v)])) e (.ext (XAt e C (some dx) true)))):wpAny (model X.prog X.w) X.A (call (.ref C) [u]) (EP X pins σ Q) X.xe s:=by
 obtain⟨G,fI,fd,ps,F,hb,m,na,hm⟩:=M.ex;obtain⟨nm,q,N,bs,sn,sub,ab,col,k0,k1,k2,k3,k5,ob⟩:=m.c.obj;have X2:=I.kIn;have I0:=I;have hz:s.heap.get? (s.heap.objs.size+1)=none:=Heap.get?_none_of_le (le_succ _);have he0:=I.hok.not hz;obtain⟨hh,g,d,tk,os⟩:=s;refine zX X2 (X2 _ _ ob) (m.tail hh X2) m.init m.fn (by show 1<=sizeLine;decide) fun h' made=>?_;obtain⟨tt,m1,m2,m3⟩:=made.there;have new:XAt (hh.objs.size+1) C none true h':=⟨_,_,m1,rfl,rfl,rfl,(by show 1<6;decide),fun _=>rfl⟩
 have I2:Inv X pins σ (upd H (hh.objs.size+1) (.ext (XAt (hh.objs.size+1) C none true))) { heap:=h',gens:=g,drawn:=d,toks:=tk,os:=os }:=I0.news (t':=tk) made.keeps hz new.ok
 have hsp:yA X.K f [V.ref (hh.objs.size+1),v] (upd H (hh.objs.size+1) (.ext (XAt (hh.objs.size+1) C none true))) (fun y H2=>y=.non/\Q (.ref (hh.objs.size+1)) H2) E0:=by
  refine⟨_,C,G,true,v,rfl,aQ,m.c,na,fun dx hdx=>⟨rfl,?_⟩⟩;have hne:dx≠hh.objs.size+1:=fun z=>by rw [z,aQ] at hdx;cases hdx
  rw [aA hne] at hdx
  have e1:upd (upd (upd H (hh.objs.size+1) (.ext (XAt (hh.objs.size+1) C none true))) dx (.xd [(f,v)])) (hh.objs.size+1) (.ext (XAt (hh.objs.size+1) C (some dx) true))=upd (upd H dx (.xd [(f,v)])) (hh.objs.size+1) (.ext (XAt (hh.objs.size+1) C (some dx) true)):=by
   funext b;unfold upd
   by_cases z:b=hh.objs.size+1
   .rw [if_pos z,if_pos z]
   .rw [if_neg z,if_neg z,if_neg z]
  rw [e1];exact h _ dx he0 hdx hne
 have hl:[Value.ref (hh.objs.size+1),u].length=ps.length:=(F.len _ _ _ E0 hsp).symm ▸ rfl;refine wpAny_call (codeAny_mono (F.run _ X.stack _ _ ⟨[Value.ref (hh.objs.size+1),u],[]⟩ [Value.ref (hh.objs.size+1),u] [V.ref (hh.objs.size+1),v] _ E0 (hr.make C [u] []) (I2.env0.make C [u] []) (hb _ [Value.ref (hh.objs.size+1),u] I2.kIn (by rw [append_nil];exact hl)) (.cons rfl (.cons r .nil)) hsp) fun r s' hq=>?_)
 cases r with
 | error e=>exact hq.elim
 | ok fl =>
  cases fl with
  | ret w =>
   obtain⟨y,H',I3,rv,ev,q3⟩:=I2.after hq;subst ev;exact⟨rv,V.ref (hh.objs.size+1),H',I3,rfl,q3⟩
  | next=>exact False.elim hq
  | brk=>exact False.elim hq
  | cont=>exact False.elim hq
theorem rN(M:rM X.prog X.w X.K X.mg X.base k C x f)(hr:iA (k+1) X.A)(ha:PA X (e::es) t)(hg:Gl X x:=by rfl)(hdb:(x == ("__debug__":Str))=false:=by decide)(hn:nSt e=true:=by rfl)(hp:es.all nSt=true:=by rfl) :
  PE X (.Call (.Name x p) (e::es) [] pos) (Ce C f t):=by
 intro pins s σ H Q I h;obtain⟨G,fI,fd,ps,F,hb,m,na,hm⟩:=id M.ex;refine wpAny_Call_Name_kw (iC I hg hm ?_ hdb);refine PySem.W.callWith_K (h₀:=X.base) I.ok.mod.kin m.kp (thn (ha pos pins s σ H _ I h) fun us s1 ⟨vs,H1,I1,r,q⟩=>⟨I1.kIn,?_⟩) (gP hn) (gQ hp);obtain⟨v,rfl,q⟩:=q
 cases r with
 | cons r rr =>
  cases rr;exact xH M hr I1 r q
end
def X0(K:PySem.W.Frag)(C:Addr):Prop:=∀h:Heap,K.In h->∃bm N nm q bs hd sn sub ab col dd k0 k1 k2 k3 k5 mN,
 h.get? C=some (excClassObj nm q C N bs bm hd sn sub ab col dd k0 k1 k2 k3 k5 "ValueError.__new__")/\h.Ns N mN/\mN "__init__"=none/\OwnTail h vmB bm
theorem rO{K:PySem.W.Frag}{C:Addr}(q:PySem.W.excIn K C vmB "ValueError.__new__"=true):X0 K C:=fun h X=>by
 unfold PySem.W.excIn at q;split at q
 case h_2=>cases q
 case h_1 dd cd sl ho =>
  split at q
  case h_2=>cases q
  case h_1 C' bm k0 k1 k2 k3 n k5 hm hs =>
   simp only [and_eq_true,beq_iff_eq,Bool.not_eq_true'] at q;obtain⟨⟨⟨⟨⟨e1,e2⟩,hdel⟩,ht⟩,hok⟩,hni⟩:=q;subst e1 e2
   cases cd with
   | mk nm bs mro ns qn hd sn sub ab col del =>
    cases sl with
    | mk l =>
     have hs:l=[k0,k1,k2,k3,some (.builtin "ValueError.__new__"),k5]:=hs;have hm:mro=.ref C'::bm:=hm;have hdel:del=false:=hdel;subst hs hm hdel;refine⟨bm,ns,nm,qn,bs,hd,sn,sub,ab,col,dd,k0,k1,k2,k3,k5,_,X _ _ ho,.of_isNs (PySem.W.isNs_of_in X hok),PySem.W.nsMap_none_of_in X hok hni,PySem.W.tail_of_in X ht⟩
theorem Ae{K:PySem.W.Frag}{G:Addr}(q:PySem.W.excIn K G vmB "ValueError.__new__"=true)(hg:∃nm q N bs sn sub ab col k0 k1 k2 k3 k5,K.lookup G=some (excClassObj nm q G N bs vmB true sn sub ab col none k0 k1 k2 k3 k5 "ValueError.__new__")) :
  ∀h:Heap,K.In h->OwnTail h vmB (.ref G::vmB):=fun h X=>by
 obtain⟨bm,N,nm,qn,bs,hd,sn,sub,ab,col,dd,k0,k1,k2,k3,k5,mN,h1,h2,h3,_⟩:=rO q h X;exact .own h1 h2 h3 .base
section
variable {X:Cx}{C:Addr}{x:Str}{p pos:Pos}
def DH(K:PySem.W.Frag)(D:Addr):List V->Hp->VK->Prop:=fun xs H Q=>∃a C G dd new b,xs=[.ref a,.ref D]/\H a=some (.ext (XAt a C dd new))/\XC K C G/\PySem.W.kitOne K (.ref C) (.ref D)=some b/\Q (.bl b) H
theorem xI{D:Addr}:cK X (.builtin "isinstance") (DH X.K D):=by
 intro pins s σ H xs us Q I r h;obtain⟨a,C,G,dd,new,b,rfl,ea,c,e,q⟩:=h;obtain⟨u,w',rfl,rx,ry⟩:=tS r;cases (show u=Value.ref a from rx);cases (show w'=Value.ref D from ry);have ok:=(show ck X.prog X.w H s.heap a (.ext (XAt a C dd new)) from I.hok a _ ea)
 exact PySem.W.kia_one (sX c) I.kIn ok.1 e (fun z=>nomatch z) fun tk=>⟨.bl b,H,I.tok _,rfl,q⟩
def Af(K:PySem.W.Frag):List V->Hp->VK->Prop:=fun xs H Q=>∃a C G dd new n b,xs=[.ref a,.ty n]/\H a=some (.ext (XAt a C dd new))/\XC K C G/\PySem.W.kitOne K (.ref C) (.type n)=some b/\Q (.bl b) H
theorem vX:cK X (.builtin "isinstance") (Af X.K):=by
 intro pins s σ H xs us Q I r h;obtain⟨a,C,G,dd,new,n,b,rfl,ea,c,e,q⟩:=h;obtain⟨u,w',rfl,rx,ry⟩:=tS r;cases (show u=Value.ref a from rx);cases (show w'=Value.type n from ry);have ok:=(show ck X.prog X.w H s.heap a (.ext (XAt a C dd new)) from I.hok a _ ea)
 exact PySem.W.kia_one (sX c) I.kIn ok.1 e (fun z=>nomatch z) fun tk=>⟨.bl b,H,I.tok _,rfl,q⟩
end
def XCl(K:PySem.W.Frag)(c:Str):Prop:=∃dd cd sl,K.lookup (aT K c)=some ⟨.type "type",dd,.cls cd,sl⟩/\cd.name=c
structure yB (K:PySem.W.Frag) (cs:List Str):Prop where
 g:XCl K "GlueError"
 n:∀c∈cs,XCl K c
 c:∀c∈cs,XC K (aT K c) (aT K "GlueError")
section
variable {K:PySem.W.Frag}{C G D:Addr}{c d:Str}
theorem XCl.ne(h1:XCl K c)(h2:XCl K d)(n:c≠d):aT K c≠aT K d:=fun e=>by
 obtain⟨_,cd,_,l1,n1⟩:=h1;obtain⟨_,cd2,_,l2,n2⟩:=h2;rw [e,l2] at l1;cases l1;exact n (n1.symm.trans n2)
theorem vY(x:XC K C G)(base:Value):PySem.W.subIn K (.ref C) base=some ((Value.ref C::.ref G::vmB).contains base):=by
 obtain⟨nm,q,N,bs,sn,sub,ab,col,k0,k1,k2,k3,k5,e⟩:=x.obj;show PySem.W.mroIn K C base=_;unfold PySem.W.mroIn PySem.W.clsIn;rw [e];rfl
theorem Ag(x:XC K C G)(y:∃dd cd sl,K.lookup D=some ⟨.type "type",dd,.cls cd,sl⟩):PySem.W.kitOne K (.ref C) (.ref D)=some (decide (C=D) || decide (D=G)):=by
 obtain⟨dd,cd,sl,e⟩:=y;unfold PySem.W.kitOne
 by_cases h:C=D
 .subst h;simp
 .rw [if_neg (fun z=>h (Value.ref.inj (beq_iff_eq.mp z)))];unfold PySem.W.kitCls
  have e1:((PySem.W.clsIn K D).isSome && PySem.W.typeIn K (.ref D) == some (.type "type"))=true:=by
   have e2:PySem.W.clsIn K D=some cd:=by unfold PySem.W.clsIn;rw [e]
   have e3:PySem.W.typeIn K (.ref D)=some (.type "type"):=by show (K.lookup D).map (·.cls)=_;rw [e];rfl
   rw [e2,e3];rfl
  show (if ((PySem.W.clsIn K D).isSome && PySem.W.typeIn K (.ref D) == some (.type "type"))=true then PySem.W.subIn K (.ref C) (.ref D) else none)=_;rw [if_pos e1,vY x,decide_eq_false h,Bool.false_or];congr 1;rw [contains_cons,contains_cons];have t1:(Value.ref D == Value.ref C)=false:=beq_eq_false_iff_ne.mpr fun z=>h (Value.ref.inj z).symm;have t2:vmB.contains (Value.ref D)=false:=rfl;rw [t1,t2,Bool.false_or,Bool.or_false]
  by_cases g:D=G
  .subst g;simp
  .rw [decide_eq_false g];exact beq_eq_false_iff_ne.mpr fun z=>g (Value.ref.inj z)
theorem Ah(x:XC K C G):PySem.W.kitOne K (.ref C) (.type "ValueError")=some true:=by
 unfold PySem.W.kitOne;rw [if_neg (by intro z;cases beq_iff_eq.mp z)];unfold PySem.W.kitCls;show (if PySem.W.kitMeta "ValueError"=true then PySem.W.subIn K (.ref C) (.type "ValueError") else none)=_;rw [if_pos (by decide +kernel),vY x];rfl
end
def um(c d:Str):Bool:=decide (c=d) || decide (d="GlueError")
theorem Aj{K:PySem.W.Frag}{cs:List Str}(X:yB K cs){c d:Str}(hc:c∈cs)(hd:d∈cs\/d="GlueError"):PySem.W.kitOne K (.ref (aT K c)) (.ref (aT K d))=some (um c d):=by
 have yd:XCl K d:=hd.elim (X.n d) fun e=>by rw [e];exact X.g
 obtain⟨dd,cd,sl,e1,e2⟩:=id yd;rw [Ag (X.c c hc) ⟨dd,cd,sl,e1⟩];unfold um
 congr 2
 .by_cases h:c=d
  .subst h;rw [decide_eq_true rfl,decide_eq_true rfl]
  .rw [decide_eq_false h,decide_eq_false ((X.n c hc).ne yd h)]
 .by_cases h:d="GlueError"
  .subst h;rw [decide_eq_true rfl,decide_eq_true rfl]
  .rw [decide_eq_false h,decide_eq_false (yd.ne X.g h)]
section
variable {K:PySem.W.Frag}{ta:TA}{te:TE}{pa:PTA}{pe:PA1}{cs:List Str}
theorem FVc.exc{O:Addr->Prop}{H:Hp}{v:V}{c:Str}{ns:List Str}{ds:List D}(h:FVc K O H v (.exc c ns ds)):FV K O H v (.exc c ns ds):=h.fv nofun nofun
def xJ(c f:Str)(pa:PTA):PTE:=fun ρ Q=>pa ρ fun as ρ1=>match avD as with
 | some [d]=>Q (.dat (.exc c [f] [d])) ρ1
 | _=>False
def oU(cs:List Str)(ats:List (Str×Str))(f:Str)(pa:PA1):PTE:=fun ρ Q=>pa ρ fun x ρ1=>match cont ρ1 x with
 | some (.exc c ns ds)=>(cs.contains c=true/\ats.contains (c,f)=true)/\∃i,qm f ns=some i/\∃d,ds[i]?=some d/\Q (.dat d) ρ1
 | _=>False
theorem iJ{ats:List (Str×Str)}{f:Str}(X:yB K cs)(hat:∀c g,(c,g)∈ats->PySem.W.findIn K (.ref (aT K c)) g=some none)(h:LA1 K te pe):LE K (Aa K te f) (oU cs ats f pe):=fun A ρ σ H Q Q' R q k=>h A ρ σ H _ _ R q fun v H1 a ρ1 q1 f1 R1 o1=>by
 split at q1
 .rename_i c ns ds e;obtain⟨⟨hc,ha⟩,i,hi,d,hd,q1⟩:=q1;have hc:c∈cs:=contains_iff_mem.mp hc
  cases (R1.cont o1 e).exc with
  | exc0 n1 e1=>cases hd
  | exc1 n1 n2 e1 e2 m f =>
   obtain⟨v,hv,fv⟩:=f.getD hd;exact⟨_,_,_,_,_,_,v,rfl,e1,e2,X.c c hc,hat c _ (contains_iff_mem.mp ha),by rw [qo (k:=i) (by rw [m];exact hi)];exact hv,k v H1 _ ρ1 q1 f1 ⟨R1,fv⟩⟩
 .exact q1.elim
def rj(cs:List Str)(d:Str)(pa:PA1):PTE:=fun ρ Q=>pa ρ fun x ρ1=>match cont ρ1 x with
 | some (.exc c ns ds)=>cs.contains c=true/\Q (.dat (.bl (um c d))) ρ1
 | _=>False
theorem e8{d:Str}(X:yB K cs)(hd:d∈cs\/d="GlueError")(h:LA1 K te pe):LE K (tCB (DH K (aT K d)) (bR te (bR (tC (.ref (aT K d))) jO))) (rj cs d pe):=fun A ρ σ H Q Q' R q k=>h A ρ σ H _ _ R q fun v H1 a ρ1 q1 f1 R1 o1=>by
 split at q1
 .rename_i c ns ds e;obtain⟨hc,q1⟩:=q1;have hc:c∈cs:=contains_iff_mem.mp hc;have ek:=Aj X hc hd
  cases (R1.cont o1 e).exc with
  | exc0 n1 e1=>exact⟨_,_,_,_,_,_,rfl,e1,X.c c hc,ek,k _ H1 _ ρ1 q1 f1 ⟨R1,.bl _⟩⟩
  | exc1 n1 n2 e1 e2 m f=>exact⟨_,_,_,_,_,_,rfl,e1,X.c c hc,ek,k _ H1 _ ρ1 q1 f1 ⟨R1,.bl _⟩⟩
 .exact q1.elim
def Et(cs:List Str)(pa:PA1):PTE:=fun ρ Q=>pa ρ fun x ρ1=>match cont ρ1 x with
 | some (.exc c ns ds)=>cs.contains c=true/\Q (.dat (.bl true)) ρ1
 | _=>False
theorem Cf(X:yB K cs)(h:LA1 K te pe):LE K (tCB (Af K) (bR te (bR (tC (.ty "ValueError")) jO))) (Et cs pe):=fun A ρ σ H Q Q' R q k=>h A ρ σ H _ _ R q fun v H1 a ρ1 q1 f1 R1 o1=>by
 split at q1
 .rename_i c ns ds e;obtain⟨hc,q1⟩:=q1;have hc:c∈cs:=contains_iff_mem.mp hc;have ek:=Ah (X.c c hc)
  cases (R1.cont o1 e).exc with
  | exc0 n1 e1=>exact⟨_,_,_,_,_,_,_,rfl,e1,X.c c hc,ek,k _ H1 _ ρ1 q1 f1 ⟨R1,.bl _⟩⟩
  | exc1 n1 n2 e1 e2 m f=>exact⟨_,_,_,_,_,_,_,rfl,e1,X.c c hc,ek,k _ H1 _ ρ1 q1 f1 ⟨R1,.bl _⟩⟩
 .exact q1.elim
end
section
variable {X:Cx}
theorem jE(K:PySem.W.Frag)(e:X.K=K){D:Addr}:cK X (.builtin "isinstance") (DH K D):=by subst e;exact xI
theorem DI(K:PySem.W.Frag)(e:X.K=K):cK X (.builtin "isinstance") (Af K):=by subst e;exact vX
theorem di{x:Str}{C:Addr}{p:Pos}(hm:X.mg x=some (.ref C))(hg:Gl X x:=by rfl)(hdb:(x == ("__debug__":Str))=false:=by decide):PE X (.Name x p) (tC (.ref C)):=by
 intro pins s σ H Q I h;exact iC I hg hm ⟨.ref C,H,I,rfl,h⟩ hdb
end
section
variable {P:Program}{w:World}{K:PySem.W.Frag}{mg:Str->Option Value}{base:Heap}{x qual nm:Str}{C G fI:Addr}{st:Stmt}{fd:FuncData}{N ps:List Str}
theorem gR(F:Fun K "__init__" qual st fI fd)(S:aI N ps (ao st))(hl:ps.length=2)
  (hb:∀(kV doc pm:Value) (an:Option Addr) (cdv ct:Value) (us:List Value),us.length=ps.length->bindArgs (PySem.W.fnOf "__init__" qual (cM st) (bV st) (ao st) .none kV doc pm an cdv ct) ⟨us,[]⟩=pure (ps.zip us))
  (hp:∀(cdv:Value) (A:Around) (outer:List Env) (s:Shared) (H:Hp) (E:XK),PSs (nh CX0 P w K mg base N qual (ao st) fI cdv A outer s H E).nox (bV st) (Ac K (dn 0) (dn 1) nm))
  (m:XM K C G fI) (na:PySem.W.findIn K (.ref C) nm=some none) (hm:mg x=some (.ref C)):rM P w K mg base 1 C x nm:=by
 refine⟨G,fI,fd,ps,F.ok (k:=0) S (fun vs H Q E h=>?_) (fun cdv A outer s H vs Q E hr h=>⟨_,hp cdv A outer s H E,?_⟩),F.binds hb,m,na,hm⟩
 .obtain⟨a,C,G,new,v,rfl,_⟩:=h;exact hl.symm
 .obtain⟨a,C,G,new,v,rfl,ea,c,n,q⟩:=h;exact⟨v,rfl,.ref a,rfl,a,C,G,new,rfl,ea,c,n,fun dx hdx=>q dx hdx⟩
end
section
variable {X:Cx}{e:Expr}{f:Str}{pos:Pos}{ta:TE}
theorem fG(K:PySem.W.Frag)(ek:X.K=K)(he:PE X e ta)(hb:attributeBase e f X.env (eval e X.env)=eval e X.env):PE X (.Attribute e f pos) (Aa K ta f):=by subst ek;exact Ab he hb
theorem eT(K:PySem.W.Frag)(ek:X.K=K){o value:Expr}{pos':Pos}{tv:TE}(ha:PE X o ta)(hv:PE X value tv)(hs:swapsWith value (some (.Attribute o f pos')) pos.line X.env=pure false):PS X (.Assign [.Attribute o f pos'] value pos) (Ac K ta tv f):=by subst ek;exact Ad ha hv hs
end
def wN(h:Heap)(e T:Addr)(fl:Value):Prop:=∃oe vs oT ts,h.get? e=some oe/\oe.data=.fields vs/\vs[1]?=some (.ref T)/\T≠e/\h.get? T=some oT/\oT.data=.fields ts/\ts[3]?=some fl
structure Moved (fs:List Addr) (e:Addr) (T0:Option Addr) (h h':Heap):Prop where
 kp:∀b o,b∉fs->b≠e->T0≠some b->h.get? b=some o->h'.get? b=some o
 sl:∀b o,b∈fs->h.get? b=some o->∃sl,h'.get? b=some { o with slots:=sl }
 ex:∀oe vs,h.get? e=some oe->oe.data=.fields vs->∃oe' vs',h'.get? e=some oe'/\oe'.cls=oe.cls/\oe'.dict=oe.dict/\oe'.data=.fields vs'/\vs'.size=vs.size
section
variable {M:Model}{A:Around}{E:Value->Shared->Prop}{s:Shared}{base:Heap}{env:Env}{outer:List Env}{L e T0:Addr}{oe:Obj}{vs:Array Value}
theorem vZ{head:Value}{hadNext:Bool}{Q:Unit->Shared->Prop}(hfr:A.frames=some (env::outer))(hl:s.heap.FunFrames base (env::outer))(hf:env.frame=some L)
  (he:s.heap.get? e=some oe) (hd:oe.data=.fields vs) (hsz:1<vs.size)
  (h:∀h' T,s.heap.objs.size<=T->Moved (frs (env::outer)) e none s.heap h'->wN h' e T (rawInt L)->Q () { s with heap:=h' }) :
  wpAny M A (do let a <- frameOf env;let pl <- entryPlaceOf L hadNext;let b <- EntryCells.newEntry head a .none (rawInt L) .none pl;setField (.ref e) 1 b) Q E s:=by
 have nf:e∉frs (env::outer):=fun hm=>by
  obtain⟨_,o,ho,hn⟩:=hl.mem hm;rw [he] at ho;cases ho;exact hn vs hd
 refine wpAny_bind (wpAny_frameOf_fun hfr hl hf fun g1 hs1=>?_);refine wpAny_bind (wpAny_entryPlaceOf fun pl hpl=>?_);have e1:g1.get? e=some oe:=(hs1.2.1 e nf).trans he;unfold EntryCells.newEntry newFields;refine wpAny_bind (wpAny_newObj_type ?_ (hpl.sizeOk5 _ _ _ _ _))
 have hts:∃ts:Array Value,([head,.ref L,.none,rawInt L,.none]++(if pl.isEmpty then List.replicate 6 Value.none else pl)).toArray=ts/\ts[3]?=some (rawInt L):=⟨_,rfl,by
  rcases hpl with rfl|⟨_,_,_,_,_,_,_,rfl⟩ <;> simp⟩
 obtain⟨ts,ets,t3⟩:=hts;rw [ets];generalize hg2:g1.push { cls:=.type "traceback",dict:=none,data:=.fields ts }=g2;have sz1:g1.objs.size=s.heap.objs.size:=hs1.1;have k2:∀b o,g1.get? b=some o->g2.get? b=some o:=fun b o q=>by rw [<- hg2];exact Heap.get?_push_of_some _ q
 have gT:g2.get? g1.objs.size=some { cls:=.type "traceback",dict:=none,data:=.fields ts }:=by rw [<- hg2];exact Heap.get?_push_size _ rfl
 refine wpAny_setField (k2 _ _ e1) hd hsz ?_;have ne:g1.objs.size≠e:=ne_of_gt (Heap.lt_size e1);generalize hg3:g2.update e (Obj.mapFields (·.setIfInBounds 1 (Value.ref g1.objs.size)))=g3;have d3:=Obj.data_mapFields hd (·.setIfInBounds 1 (Value.ref g1.objs.size));have e3:g3.get? e=some (oe.mapFields (·.setIfInBounds 1 (Value.ref g1.objs.size))):=by rw [<- hg3];exact Heap.get?_update_self _ (k2 _ _ e1) (Obj.isFreed_of_fields d3)
 have k3:∀b o,b≠e->g2.get? b=some o->g3.get? b=some o:=fun b o hb q=>by rw [<- hg3];exact (Heap.get?_update_ne _ _ _ _ hb).trans q
 refine h g3 g1.objs.size (by rw [sz1];exact Nat.le_refl _) ⟨fun b o hb hbe _ q=>k3 b o hbe (k2 b o ((hs1.2.1 b hb).trans q)),fun b o hb q=>?_,fun oe' vs' q1 q2=>?_⟩ ⟨_,_,_,ts,e3,d3,by simp [hsz],ne,k3 _ _ ne gT,rfl,t3⟩
 .obtain⟨sl,q'⟩:=hs1.2.2 b o q;exact⟨sl,k3 b _ (fun z=>nf (by rw [<- z];exact hb)) (k2 b _ q')⟩
 .rw [he] at q1;cases q1;rw [hd] at q2;cases q2;obtain⟨c,dc,dt,sl⟩:=oe;cases hd;exact⟨_,_,e3,rfl,rfl,d3,by simp⟩
theorem Ak{Q:Unit->Shared->Prop}(hfr:A.frames=some (env::outer))(hl:s.heap.FunFrames base (env::outer))(hf:env.frame=some L)
  (he:s.heap.get? e=some oe) (hd:oe.data=.fields vs) (h1:vs[1]?=some .none)
  (h:∀h' T,s.heap.objs.size<=T->Moved (frs (env::outer)) e none s.heap h'->wN h' e T (rawInt L)->Q () { s with heap:=h' }):wpAny M A (noteFrame (.ref e) env) Q E s:=by
 unfold noteFrame;simp only [hf];refine wpAny_bind (wpAny_field he hd h1 ?_);rw [if_neg (by decide)];exact vZ hfr hl hf he hd (Array.getElem?_eq_some_iff.mp h1).1 h
theorem wb{Q:Unit->Shared->Prop}(hfr:A.frames=some (env::outer))(hl:s.heap.FunFrames base (env::outer))(hf:env.frame=some L)(fly:wN s.heap e T0 .none)(nT:T0∉frs (env::outer))
  (h:∀h' T,s.heap.objs.size<=T->Moved (frs (env::outer)) e (some T0) s.heap h'->wN h' e T (rawInt L)->Q () { s with heap:=h' }):wpAny M A (noteFrame (.ref e) env) Q E s:=by
 obtain⟨oe,vs,oT,ts,he,hd,h1,ne,hT,hdT,h3⟩:=fly;have hsz:1<vs.size:=(Array.getElem?_eq_some_iff.mp h1).1;unfold noteFrame;simp only [hf];refine wpAny_bind (wpAny_field he hd h1 ?_);rw [if_pos (show (Value.ref T0 != Value.none)=true by simp)];refine wpAny_bind (wpAny_field hT hdT h3 ?_);rw [if_neg (show ¬ ((Value.none == rawInt L)=true) by simp [rawInt])];refine wpAny_bind (wpAny_setField hT hdT (Array.getElem?_eq_some_iff.mp h3).1 ?_)
 have ot:∀b,b≠T0->(s.heap.update T0 (Obj.mapFields (·.setIfInBounds 3 Value.none))).get? b=s.heap.get? b:=fun b hb=>Heap.get?_update_ne _ _ _ _ hb;have sz:(s.heap.update T0 (Obj.mapFields (·.setIfInBounds 3 Value.none))).objs.size=s.heap.objs.size:=by simp [Heap.update]
 have hl2:(s.heap.update T0 (Obj.mapFields (·.setIfInBounds 3 Value.none))).FunFrames base (env::outer):=hl.of_keeps fun b o q nf=>⟨o,(ot b (fun z=>by rw [z,hT] at q;cases q;exact nf ts hdT)).trans q,rfl⟩
 refine vZ hfr hl2 hf ((ot e (Ne.symm ne)).trans he) hd hsz fun h' T hT' mv fly=>h h' T (by rw [<- sz];exact hT') ⟨fun b o h1 h2 h3 q=>mv.kp b o h1 h2 (by simp) ((ot b (fun z=>h3 (by rw [z]))).trans q),fun b o h1 q=>mv.sl b o h1 ((ot b (fun z=>nT (by rw [<- z];exact h1))).trans q),fun oe' vs' q1 q2=>mv.ex oe' vs' ((ot e (Ne.symm ne)).trans q1) q2⟩ fly
theorem oV{fl:Value}{T:Addr}{Q:Unit->Shared->Prop}(fly:wN s.heap e T fl)(h:∀h',(∀b o,b≠T->s.heap.get? b=some o->h'.get? b=some o)->wN h' e T .none->Q () { s with heap:=h' }):wpAny M A (setFlight (.ref e) none) Q E s:=by
 obtain⟨oe,vs,oT,ts,he,hd,h1,ne,hT,hdT,h3⟩:=fly;unfold setFlight;refine wpAny_bind (wpAny_field he hd h1 ?_);rw [if_pos (show (Value.ref T != Value.none)=true by simp)];have hs3:3<ts.size:=(Array.getElem?_eq_some_iff.mp h3).1;refine wpAny_setField hT hdT hs3 (h _ (fun b o hb q=>(Heap.get?_update_ne _ _ _ _ hb).trans q) ?_);have dT:=Obj.data_mapFields hdT (·.setIfInBounds 3 ((none:Option Addr).elim Value.none fun f=>rawInt f))
 exact⟨oe,vs,_,_,(Heap.get?_update_ne _ _ _ _ (Ne.symm ne)).trans he,hd,h1,ne,Heap.get?_update_self _ hT (Obj.isFreed_of_fields dT),dT,by simp [hs3]⟩
end
def CXe(P:Program)(w:World):CXT:=fun outer H s E e s'=>∃(ea C:Addr) (dd:Option Addr) (H':Hp) (T:Addr),e=.ref ea/\s'.os=s.os/\AllBare s'.gens/\Un (frs outer) [] H H' s.heap s'.heap/\HOk P w H' s'.heap /\
 H' ea=some (.ext (XAt ea C dd false))/\wN s'.heap ea T .none/\s.heap.get? T=none/\H' T=none/\E (.ref ea) dd H'
theorem oW{l:List Env}{h base:Heap}(hl:h.FunFrames base l){b:Addr}(hb:b∈frs l):∃o,h.get? b=some o:=by
 obtain⟨_,o,ho,_⟩:=hl.mem hb;exact⟨o,ho⟩
theorem XAt.moved{fs:List Addr}{ea C:Addr}{dd:Option Addr}{new:Bool}{T0:Option Addr}{h h':Heap}(x:XAt ea C dd new h)(mv:Moved fs ea T0 h h'):XAt ea C dd false h':=by
 obtain⟨o,vs,h1,h2,h3,h4,h5,_⟩:=x;obtain⟨o',vs',q1,q2,q3,q4,q5⟩:=mv.ex o vs h1 h4;exact⟨o',vs',q1,q2.trans h2,q3.trans h3,q4,by rw [q5];exact h5,nofun⟩
theorem HOk.moved{P:Program}{w:World}{H H':Hp}{h h1 h2:Heap}{fs:List Addr}{ea C T:Addr}{dd:Option Addr}{new:Bool}{T0:Option Addr}(ok:HOk P w H h)(hea:H ea=some (.ext (XAt ea C dd new)))(mv:Moved fs ea T0 h h1)(hT:h.objs.size<=T)(un:∀b o,b≠T->h1.get? b=some o->h2.get? b=some o)
  (hfs:∀b∈fs,H b=none) (hT0:∀b,T0=some b->H b=none) (fly:wN h2 ea T .none) (hH:H'=upd H ea (.ext (XAt ea C dd false))):HOk P w H' h2:=fun b o eb=>by
 subst hH;have ne:∀c u,H c=some u->c≠T:=fun c u q=>ne_of_lt (Nat.lt_of_lt_of_le (ok.lt q) hT);have kp:∀c u,c≠ea->H c=some u->∀v,h.get? c=some v->h2.get? c=some v:=fun c u hc q v z=>un c v (ne c u q) (mv.kp c v (fun m=>by rw [hfs c m] at q;cases q) hc (fun e=>by rw [hT0 c e] at q;cases q) z)
 by_cases hb:b=ea
 .subst hb;rw [aQ] at eb;cases eb;have x:XAt b C dd new h:=(ok b _ hea).1;obtain⟨o',vs',q1,q2,q3,q4,q5,q6⟩:=x.moved mv;exact XAt.ok ⟨o',vs',un b o' (ne b _ hea) q1,q2,q3,q4,q5,q6⟩
 .rw [aA hb] at eb
  refine (ok b o eb).stay (fun c v hc q=>?_) (fun c q=>?_) fun c xs q=>?_
  .rcases hc with rfl|hc
   .exact kp c o hb eb v q
   .exact kp c _ (fun z=>by rw [z,hea] at hc;cases hc) hc v q
  .rw [aA (fun z=>by rw [z,hea] at q;cases q)];exact q
  .rw [aA (fun z=>by rw [z,hea] at q;cases q)];exact q
section
variable {P:Program}{w:World}{K:PySem.W.Frag}{mg:Str->Option Value}{base:Heap}{N:List Str}{qual:Str}{scope:Scope}{f:Addr}{cd:Value}{A:Around}{outer:List Env}{s0:Shared}{H0:Hp}{E:XK}{pins:List (Addr×Obj)}{σ:St}{H:Hp}{s:Shared}
theorem wc{ea C:Addr}{dd:Option Addr}(I:Inv (nh (CXe P w) P w K mg base N qual scope f cd A outer s0 H0 E) pins σ H s)(hea:H ea=some (.ext (XAt ea C dd true)))(hE:E (.ref ea) dd (upd H ea (.ext (XAt ea C dd false)))) :
  (nh (CXe P w) P w K mg base N qual scope f cd A outer s0 H0 E).xe (.ref ea) s:=by
 obtain⟨⟨o,vs,h1,h2,h3,h4,h5,h6⟩,_,_⟩:=(show ck P w H s.heap ea (.ext (XAt ea C dd true)) from I.hok ea _ hea)
 show wpAny (model P w) _ (leaving _ (.ref ea)) _ _ s;unfold leaving;refine wpAny_bind (Ak I.ok.frames I.stack rfl h1 h4 (h6 rfl) fun g1 T hT mv fly=>?_);refine oV fly fun g2 un fly2=>?_;have hf2:∀b∈frs (envOfC qual scope s0.heap.objs.size f cd::outer),H b=none:=I.stkFree;have hok:=I.hok.moved hea mv hT un hf2 (fun b e=>nomatch e) fly2 rfl;have old:∀b o,s0.heap.get? b=some o->b≠s0.heap.objs.size:=fun b o q=>ne_of_lt (Heap.lt_size q)
 have bT:∀b o,s.heap.get? b=some o->b≠T:=fun b o q=>ne_of_lt (Nat.lt_of_lt_of_le (Heap.lt_size q) hT);have nea:∀b,H b=none->b≠ea:=fun b n z=>by rw [z,hea] at n;cases n
 have sub:∀b,b∈frs outer->b∈frs (envOfC qual scope s0.heap.objs.size f cd::outer):=fun b hb=>mem_cons_of_mem _ hb
 have nsub:∀b o,s0.heap.get? b=some o->b∉frs outer->b∉frs (envOfC qual scope s0.heap.objs.size f cd::outer):=fun b o q hb z=>by
  rcases mem_cons.mp (show b∈s0.heap.objs.size::frs outer from z) with z|z
  .exact old b o q z
  .exact hb z
 have un0:Un (frs outer) [] H0 (upd H ea (.ext (XAt ea C dd false))) s0.heap g2:=by
  refine⟨fun b ob q n hb hx=>?_,fun b ob q n hb hx=>?_,fun b ob q n hx=>?_,fun b ob q hx=>?_,fun b xs q=>?_,fun b ob u q=>?_,fun b ps q=>?_⟩
  .have q1:=I.base.keep b ob q n hb hx;have n1:=I.base.free b ob q n hx;exact un b ob (bT b ob q1) (mv.kp b ob (nsub b ob q hb) (nea b n1) (by simp) q1)
  .obtain⟨sl,q1⟩:=I.base.slot b ob q n hb hx;obtain⟨sl2,q2⟩:=mv.sl b _ (sub b hb) q1;exact⟨sl2,un b _ (bT b _ q1) q2⟩
  .have n1:=I.base.free b ob q n hx;rw [aA (nea b n1)];exact n1
  .obtain⟨o1,q1⟩:=I.base.there b ob q hx
   by_cases hbe:b=ea
   .subst hbe;obtain⟨o2,vs2,q2,_⟩:=mv.ex o vs h1 h4;exact⟨o2,un b o2 (bT b _ q1) q2⟩
   .by_cases hb:b∈frs (envOfC qual scope s0.heap.objs.size f cd::outer)
    .obtain⟨sl2,q2⟩:=mv.sl b _ hb q1;exact⟨_,un b _ (bT b _ q1) q2⟩
    .exact⟨o1,un b o1 (bT b _ q1) (mv.kp b o1 hb hbe (by simp) q1)⟩
  .have q1:=I.base.tups b xs q;rw [aA (fun z=>by rw [z,hea] at q1;cases q1)];exact q1
  .have q1:=I.base.frzs b ob u q;rw [aA (fun z=>by rw [z,hea] at q1;cases q1)];exact q1
  .obtain⟨m,q1⟩:=I.base.tbls b ps q;exact⟨m,by rw [aA (fun z=>by rw [z,hea] at q1;cases q1)];exact q1⟩
 refine⟨ea,C,dd,_,T,rfl,I.os,I.bare,un0,hok,aQ,fly2,?_,?_,hE⟩
 .cases q:s0.heap.get? T with
  | none=>rfl
  | some ob =>
   obtain⟨o1,q1⟩:=I.base.there T ob q (show T∉([]:List Addr) by simp);exact absurd rfl (bT T o1 q1)
 .rw [aA (fun z=>by
   have:=I.hok.lt hea;rw [<- z] at this;exact absurd (Nat.lt_of_lt_of_le this hT) (Nat.lt_irrefl _))]
  exact I.hok.fresh hT
theorem Al{E1:XK}{e:Value}{s':Shared}(I:Inv (nh (CXe P w) P w K mg base N qual scope f cd A outer s0 H0 E) pins σ H s)
  (h:CXe P w (envOfC qual scope s0.heap.objs.size f cd::outer) H s E1 e s') (hE:∀c dd H',E1 c dd H'->E c dd H'):(nh (CXe P w) P w K mg base N qual scope f cd A outer s0 H0 E).xe e s':=by
 obtain⟨ea,C,dd,H',T0,rfl,os,bare,un1,hok1,hea,fly0,hT0,hT0',hE1⟩:=h;have hf1:∀b∈frs (envOfC qual scope s0.heap.objs.size f cd::outer),H b=none:=I.stkFree;have hst:=I.stack
 have hl:s'.heap.FunFrames base (envOfC qual scope s0.heap.objs.size f cd::outer):=by
  have all:∀l:List Env,(∀b∈frs l,b∈frs (envOfC qual scope s0.heap.objs.size f cd::outer))->s.heap.FunFrames base l->s'.heap.FunFrames base l:=by
   intro l
   induction l with
   | nil=>intro _ _;trivial
   | cons en r ih =>
    intro hs hl;obtain⟨hk,⟨L,o,hf,hn,ho,hd⟩,hr⟩:=hl;have hL:L∈frs (en::r):=by unfold frs;rw [filterMap_cons,hf];exact mem_cons_self
    obtain⟨sl,q⟩:=un1.slot L o ho (hf1 L (hs L hL)) (hs L hL) (by simp);exact⟨hk,⟨L,_,hf,hn,q,hd⟩,ih (fun b hb=>hs b (by unfold frs;rw [filterMap_cons,hf];exact mem_cons_of_mem _ hb)) hr⟩
  exact all _ (fun _ hb=>hb) hst
 have nT0:T0∉frs (envOfC qual scope s0.heap.objs.size f cd::outer):=fun z=>by
  obtain⟨o,q⟩:=oW hst z;rw [hT0] at q;cases q
 have hf2:∀b∈frs (envOfC qual scope s0.heap.objs.size f cd::outer),H' b=none:=fun b hb=>by
  obtain⟨o,q⟩:=oW hst hb;exact un1.free b o q (hf1 b hb) (by simp)
 show wpAny (model P w) _ (leaving _ (.ref ea)) _ _ s';unfold leaving;refine wpAny_bind (wb I.ok.frames hl rfl fly0 nT0 fun g1 T hT mv fly=>?_);refine oV fly fun g2 un fly2=>?_;have hok:=hok1.moved hea mv hT un hf2 (fun b e=>by cases e;exact hT0') fly2 rfl
 have upe:upd H' ea (.ext (XAt ea C dd false))=H':=by
  funext b
  by_cases z:b=ea
  .subst z;rw [aQ,hea]
  .rw [aA z]
 rw [upe] at hok;have old:∀b o,s0.heap.get? b=some o->b≠s0.heap.objs.size:=fun b o q=>ne_of_lt (Heap.lt_size q);have bT:∀b o,s'.heap.get? b=some o->b≠T:=fun b o q=>ne_of_lt (Nat.lt_of_lt_of_le (Heap.lt_size q) hT);have bT0:∀b o,s.heap.get? b=some o->some T0≠some b:=fun b o q z=>by cases z;rw [hT0] at q;cases q
 have nea:∀b,H' b=none->b≠ea:=fun b n z=>by rw [z,hea] at n;cases n
 have sub:∀b,b∈frs outer->b∈frs (envOfC qual scope s0.heap.objs.size f cd::outer):=fun b hb=>mem_cons_of_mem _ hb
 have nsub:∀b o,s0.heap.get? b=some o->b∉frs outer->b∉frs (envOfC qual scope s0.heap.objs.size f cd::outer):=fun b o q hb z=>by
  rcases mem_cons.mp (show b∈s0.heap.objs.size::frs outer from z) with z|z
  .exact old b o q z
  .exact hb z
 obtain⟨oe,vs,oT,ts,he1,he2,_⟩:=id fly0
 have un0:Un (frs outer) [] H0 H' s0.heap g2:=by
  refine⟨fun b ob q n hb hx=>?_,fun b ob q n hb hx=>?_,fun b ob q n hx=>?_,fun b ob q hx=>?_,fun b xs q=>un1.tups b xs (I.base.tups b xs q),fun b ob u q=>un1.frzs b ob u (I.base.frzs b ob u q),fun b ps q=>?_⟩
  .have q1:=I.base.keep b ob q n hb hx;have n1:=I.base.free b ob q n hx;have q2:=un1.keep b ob q1 n1 (nsub b ob q hb) hx;exact un b ob (bT b ob q2) (mv.kp b ob (nsub b ob q hb) (nea b (un1.free b ob q1 n1 hx)) (bT0 b ob q1) q2)
  .obtain⟨sl,q1⟩:=I.base.slot b ob q n hb hx;obtain⟨sl1,q2⟩:=un1.slot b _ q1 (I.base.free b ob q n hx) (sub b hb) hx;obtain⟨sl2,q3⟩:=mv.sl b _ (sub b hb) q2;exact⟨sl2,un b _ (bT b _ q2) q3⟩
  .obtain⟨o1,q1⟩:=I.base.there b ob q hx;exact un1.free b o1 q1 (I.base.free b ob q n hx) hx
  .obtain⟨o1,q1⟩:=I.base.there b ob q hx;obtain⟨o2,q2⟩:=un1.there b o1 q1 hx
   by_cases hbe:b=ea
   .subst hbe;obtain⟨o3,vs3,q3,_⟩:=mv.ex oe vs he1 he2;exact⟨o3,un b o3 (bT b _ q2) q3⟩
   .by_cases hb:b∈frs (envOfC qual scope s0.heap.objs.size f cd::outer)
    .obtain⟨sl2,q3⟩:=mv.sl b _ hb q2;exact⟨_,un b _ (bT b _ q2) q3⟩
    .exact⟨o2,un b o2 (bT b _ q2) (mv.kp b o2 hb hbe (bT0 b o1 q1) q2)⟩
  .obtain⟨m,q1⟩:=I.base.tbls b ps q;obtain⟨m2,q2⟩:=un1.tbls b _ q1;exact⟨m++m2,by rw [q2,Array.append_assoc]⟩
 refine⟨ea,C,dd,H',T,rfl,os.trans I.os,bare,un0,hok,hea,fly2,?_,hok1.fresh hT,hE _ _ _ hE1⟩
 cases q:s0.heap.get? T with
 | none=>rfl
 | some ob =>
  obtain⟨o1,q1⟩:=I.base.there T ob q (show T∉([]:List Addr) by simp);obtain⟨o2,q2⟩:=un1.there T o1 q1 (by simp);exact absurd rfl (bT T o2 q2)
end
section
variable {prog:Program}{w:World}{A:Around}{E:Value->Shared->Prop}{K:PySem.W.Frag}{env:Env}
theorem Am{Q:Flow->Shared->Prop}{x:Sem Value}{s:Shared}(hh:A.handled=none)
  (hx:wpAny (model prog w) A x (fun v s₁=>∃ea C G dd,v=.ref ea/\K.In s₁.heap/\XC K C G/\XAt ea C dd true s₁.heap/\E (.ref ea) s₁) E s):wpAny (model prog w) A (raiseStmt env (some x) none) Q E s:=by
 unfold raiseStmt;refine wpAny_bind (wpAny_mono hx (fun v s1 h1=>?_) fun _ _ z=>z);obtain⟨ea,C,G,dd,rfl,X,c,⟨o,vs,q1,q2,q3,q4,q5,q6⟩,hE⟩:=h1;obtain⟨nm,q,N,bs,sn,sub,ab,col,k0,k1,k2,k3,k5,e⟩:=c.obj;have hC:=X _ _ e;obtain⟨hp,g,d,tk,os⟩:=s1;have own:(Value.ref C::.ref G::vmB).contains (.type "BaseException")=true:=rfl;have qn:=q6 rfl
 repeat (first
  | (with_reducible refine wpAny_loadPart_at q1 ?_;first | rw [q2] | rw [q4] | skip)
  | with_reducible refine wpAny_loadPart_at hC ?_
  | (with_reducible refine wpAny_isSubtype_exc hC ?_;rw [own])
  | with_reducible refine wpAny_field q1 q4 qn ?_
  | wp_step)
 exact wpAny_raiseNew_none hh hE
end
def RX(X:Cx)(J:St->XK):Prop:=∀(pins:List (Addr×Obj)) (σ:St) (H:Hp) (s:Shared) (ea C:Addr) (dd:Option Addr),Inv X pins σ H s->H ea=some (.ext (XAt ea C dd true))->J σ (.ref ea) dd (upd H ea (.ext (XAt ea C dd false)))->X.xe (.ref ea) s
def yC(K:PySem.W.Frag)(te:TE)(J:St->XK):TS:=fun D σ H=>te σ H fun v H1=>∃ea C G dd,v=.ref ea/\H1 ea=some (.ext (XAt ea C dd true))/\XC K C G/\J σ (.ref ea) dd (upd H1 ea (.ext (XAt ea C dd false)))
section
variable {X:Cx}{J:St->XK}{x:Expr}{pos:Pos}{te:TE}
theorem oX(K:PySem.W.Frag)(ek:X.K=K)(hc:X.calm=true)(hx:RX X J)(he:PE X x te):PS X (.Raise (some x) none pos) (yC K te J):=by
 subst ek;intro pins s σ H D I h
 have key:wpAny (model X.prog X.w) X.A (raiseStmt X.env (some (do let v <- eval x X.env;standAt pos;pure v)) none) (SP X pins D) X.xe s:=by
  refine Am (K:=X.K) (I.ok.hd hc) (wpAny_bind (wpAny_mono (he pins s σ H _ I h) (fun u s1 ⟨v,H1,I1,rv,ea,C,G,dd,ev,hea,c,hj⟩=>wpAny_bind (wpAny_standAt (wpAny_pure ?_))) fun _ _ z=>z));subst ev;obtain rfl:u=Value.ref ea:=rv;have ok:=(show ck X.prog X.w H1 s1.heap ea (.ext (XAt ea C dd true)) from I1.hok ea _ hea)
  exact⟨ea,C,G,dd,rfl,I1.kIn,c,ok.1,hx pins σ H1 s1 ea C dd I1 hea hj⟩
 rw [arm_exec_Raise]
 first
  | exact wpAny_bind (wpAny_standAt key)
  | (simp only [evalOpt,Option.map];exact wpAny_bind (wpAny_standAt key))
  | (show wpAny _ _ (do standAt pos;raiseStmt X.env (some (do let v <- eval x X.env;standAt pos;pure v)) none) _ _ s;exact wpAny_bind (wpAny_standAt key))
theorem wd{P:Program}{w:World}{K:PySem.W.Frag}{mg:Str->Option Value}{base:Heap}{N:List Str}{qual:Str}{scope:Scope}{f:Addr}{cd:Value}{A:Around}{outer:List Env}{s0:Shared}{H0:Hp}{E:XK} :
  RX (nh (CXe P w) P w K mg base N qual scope f cd A outer s0 H0 E) (fun _=>E):=fun pins σ H s ea C dd I hea hj=>wc I hea hj
end
def PX(CX:CXT)(X:Cx)(J:St->XK):Prop:=∀(pins:List (Addr×Obj)) (σ:St) (H:Hp) (s:Shared) (e:Value) (s':Shared),Inv X pins σ H s->CX X.stack H s (J σ) e s'->X.xe e s'
theorem Cg{P:Program}{w:World}{K:PySem.W.Frag}{mg:Str->Option Value}{base:Heap}{N:List Str}{qual:Str}{scope:Scope}{f:Addr}{cd:Value}{A:Around}{outer:List Env}{s0:Shared}{H0:Hp}{E:XK} :
  PX (CXe P w) (nh (CXe P w) P w K mg base N qual scope f cd A outer s0 H0 E) (fun _=>E):=fun pins σ H s e s' I h=>Al I h fun _ _ _ z=>z
def sY(sp:Sp)(J:St->XK)(t:TA):TE:=fun σ H Q=>t σ H fun vs H1=>sp vs H1 Q (J σ)
structure uG (P:Program) (w:World) (K:PySem.W.Frag) (mg:Str->Option Value) (base:Heap) (k:Nat) (x:Str) (ps:List Str) (sp:Sp):Prop where
 ex:∃(f:Addr) (fd:FuncData),pQ P w K mg base (CXe P w) k f fd ps sp/\ng K fd ps []/\PySem.W.keepIn K (.ref f)=true/\mg x=some (.ref f)
section
variable {X:Cx}{k:Nat}{x:Str}{ps:List Str}{sp:Sp}{p pos:Pos}{e:Expr}{es:List Expr}{t:TA}{J:St->XK}
theorem e9(C:uG X.prog X.w X.K X.mg X.base k x ps sp)(hr:iA k X.A)(hx:PX (CXe X.prog X.w) X J)(ha:PA X (e::es) t)(hg:Gl X x:=by rfl)(hdb:(x == ("__debug__":Str))=false:=by decide)(hn:nSt e=true:=by rfl)(hp:es.all nSt=true:=by rfl) :
  PE X (.Call (.Name x p) (e::es) [] pos) (sY sp J t):=by
 obtain⟨f,fd,F,hb,hk,hm⟩:=C.ex;intro pins s σ H Q I h;refine wpAny_Call_Name_kw (iC I hg hm ?_ hdb);refine PySem.W.callWith_K (h₀:=X.base) I.ok.mod.kin hk (thn (ha pos pins s σ H _ I h) fun us s1 ⟨vs,H1,I1,r,q⟩=>⟨I1.kIn,?_⟩) (gP hn) (gQ hp);have hl:us.length=ps.length:=by rw [<- r.length];exact F.len _ _ _ _ q
 refine wpAny_call (codeAny_mono (F.run X.A X.stack s1 H1 ⟨us,[]⟩ us vs Q (J σ) hr I1.env0 ?_ r q) fun r s' hq=>?_)
 .have:=hb s1 us I1.kIn (by rw [append_nil];exact hl);rw [append_nil] at this;exact this
 .cases r with
  | error e=>exact hx pins σ H1 s1 e s' I1 hq
  | ok fl =>
   cases fl with
   | ret u=>exact I1.after hq
   | next=>exact False.elim hq
   | brk=>exact False.elim hq
   | cont=>exact False.elim hq
end
section
variable {X:Cx}{pins:List (Addr×Obj)}{σ:St}{H:Hp}{s:Shared}
abbrev Cx.mk'(X:Cx)(e:Value):Cx:={ X with A:=X.A.mark (some e),calm:=false }
theorem Inv.mark(I:Inv X pins σ H s)(e:Value):Inv (X.mk' e) pins σ H s :=
 ⟨⟨I.ok.mod,I.ok.kind,I.ok.glob,I.ok.blt,I.ok.above,I.ok.inj,I.ok.has,I.ok.cab,nofun,I.ok.frames,I.ok.stk,I.ok.exf,I.ok.bs,I.ok.bsz,I.ok.noex,I.ok.exfs,I.ok.funs,I.ok.frf⟩,I.os,I.bare,I.base,I.loc,I.cell,I.free,I.freeC,I.pin,I.hok,I.len⟩
theorem Inv.unmark{e:Value}(I:Inv (X.mk' e) pins σ H s)(hd:X.calm=true->X.A.handled=none):Inv X pins σ H s :=
 ⟨⟨I.ok.mod,I.ok.kind,I.ok.glob,I.ok.blt,I.ok.above,I.ok.inj,I.ok.has,I.ok.cab,hd,I.ok.frames,I.ok.stk,I.ok.exf,I.ok.bs,I.ok.bsz,I.ok.noex,I.ok.exfs,I.ok.funs,I.ok.frf⟩,I.os,I.bare,I.base,I.loc,I.cell,I.free,I.freeC,I.pin,I.hok,I.len⟩
theorem jZ{M:Model}{A:Around}{E:Value->Shared->Prop}{i:Nat}{x:Str}{pos:Pos}{Q:Unit->Shared->Prop}(I:Inv X pins σ H s)(hN:X.N.Nodup)(hi:X.N[i]?=some x)(hk:X.env.scope.names.lookup x=some .local)
  (h:∀s',Inv X pins (σ.set i none) H s'->Q () s'):wpAny M A (do bindName X.env x .none;unbindBehindTheSuite X.env x pos) Q E s:=by
 refine wpAny_bind (wpAny_bindName (jP I hN hi (.inl hk) (v:=.non) rfl (fun s1 I1=>?_) (.inr hk)));have hiσ:i<σ.length:=by rw [I.len];exact (List.getElem?_eq_some_iff.mp hi).1
 obtain⟨m,hn,hl⟩:=id I1.loc;obtain⟨u,ru,lk⟩:=hl i x .non hi (getElem?_set_self hiσ) (.inl hk)
 have hm:m x=some u:=by
  rcases lk with ⟨_,z⟩|⟨z,_⟩
  .exact z
  .have z':X.env.scope.names.lookup x=some .cell\/X.env.scope.names.lookup x=some .free:=z;rw [hk] at z';rcases z' with z'|z' <;> cases z'
 unfold unbindBehindTheSuite;refine wpAny_onRaise (wpAny_unbindName_local hk hn hm (by rw [I.ok.kind];rfl) fun h' u' hn' hs=>?_);have cne:=I1.cne;obtain⟨oL,_,_,hoL,_⟩:=id hn;have big:∀b o,X.s₀.heap.get? b=some o->b≠X.env.locals:=fun b o q=>ne_of_lt (Nat.lt_of_lt_of_le (Heap.lt_size q) I.ok.above)
 refine h _ ⟨I1.ok,I1.os,I1.bare,⟨fun b o q n hb hx=>(hs.2 b (big b o q)).trans (I1.base.keep b o q n hb hx),fun b o q n hb hx=>?_,I1.base.free,fun b o q hx=>?_,I1.base.tups,I1.base.frzs,I1.base.tbls⟩,⟨_,hn',fun j y v' e1 e2 e3=>?_⟩,fun y c q=>?_,I1.free,I1.freeC,fun p hp=>?_,fun b ob q=>?_,by simpa using I.len⟩
 .obtain⟨sl,q1⟩:=I1.base.slot b o q n hb hx;exact⟨sl,(hs.2 b (big b o q)).trans q1⟩
 .obtain⟨o',q1⟩:=I1.base.there b o q hx;exact⟨o',(hs.2 b (big b o q)).trans q1⟩
 .by_cases hj:j=i
  .subst hj;rw [getElem?_set_self hiσ] at e2;cases e2
  .rw [getElem?_set_ne (Ne.symm hj)] at e2;obtain⟨u2,r2,q⟩:=hl j y v' e1 (by rw [getElem?_set_ne (Ne.symm hj)];exact e2) e3;refine⟨u2,r2,?_⟩
   rcases q with ⟨k,z⟩|⟨k,c,z1,z2⟩
   .have:y≠x:=fun z=>hj (om hN e1 (z ▸ hi));exact .inl ⟨k,by simp [this,z]⟩
   .exact .inr ⟨k,c,z1,z2.sameBut hs (cne y c z1)⟩
 .obtain⟨w',z⟩:=I1.cell y c q;exact⟨w',z.sameBut hs (cne y c q)⟩
 .obtain⟨q,n,ne,nf,dd⟩:=I1.pin p hp;exact⟨(hs.2 p.1 ne).trans q,n,ne,nf,dd⟩
 .refine (I1.hok b ob q).stay (fun c w' hc z=>(hs.2 c ?_).trans z) (fun _ z=>z) fun _ _ z=>z;rintro rfl
  rcases hc with hc|hc
  .rw [<- hc,I1.free] at q;cases q
  .rw [I1.free] at hc;cases hc
end
section
variable {M:Model}{A:Around}{E:Value->Shared->Prop}{K:PySem.W.Frag}{C G D:Addr}
theorem wf{h:Heap}{g:Array GenState}{d:Drawn}{t:Nat}{os:OsState}{ea:Addr}{dd:Option Addr}{new:Bool}{Q:Bool->Shared->Prop}(X:K.In h)(c:XC K C G)(x:XAt ea C dd new h)
  (hD:∃nm q N bs bm hd sn sub ab col d0 k0 k1 k2 k3 k5 nw,K.lookup D=some (excClassObj nm q D N bs bm hd sn sub ab col d0 k0 k1 k2 k3 k5 nw)/\(Value.ref D::bm).contains (.type "BaseException")=true)
  (hq:Q ((Value.ref C::.ref G::vmB).contains (.ref D)) ⟨h,g,d,t,os⟩):wpAny M A (excMatches (.ref ea) (.ref D)) Q E ⟨h,g,d,t,os⟩:=by
 obtain⟨nm,q,N,bs,sn,sub,ab,col,k0,k1,k2,k3,k5,e⟩:=c.obj;obtain⟨nm',q',N',bs',bm',hd',sn',sub',ab',col',d0',k0',k1',k2',k3',k5',nw',e2,hb⟩:=hD;obtain⟨o,vs,q1,q2,_⟩:=x;have hC:=X _ _ e;have hDo:=X _ _ e2;have f:=tc_notTuple;generalize hbb:(Value.ref C::.ref G::vmB).contains (.ref D)=b at hq;unfold excMatches
 repeat (first
  | (with_reducible refine wpAny_loadPart_at q1 ?_;rw [q2])
  | with_reducible refine wpAny_loadPart_at hDo ?_
  | with_reducible refine wpAny_loadPart_at hC ?_
  | (with_reducible refine wpAny_isSubtype_exc hDo ?_;rw [hb])
  | (with_reducible refine wpAny_isSubtype_exc hC ?_;rw [hbb])
  | wp_step)
 cases b <;> (wp_walk;exact hq)
end
structure FTk (X:Cx) (pins:List (Addr×Obj)) (H:Hp) (T:Addr):Prop where
 nt:H T=none
 sz:X.s₀.heap.objs.size<=T
 nl:T≠X.env.locals
 nc:∀x c,X.env.cells.lookup x=some c->c≠T
 np:∀p∈X.pn++pins,p.1≠T
section
variable {X:Cx}{pins:List (Addr×Obj)}{σ:St}{H:Hp}{s:Shared}
theorem EI{M:Model}{Er:Value->Shared->Prop}{E1:XK}{e:Value}{s':Shared}{Q:Unit->Shared->Prop}(hst:X.stack=X.env::X.outer)(hfm:X.env.frame=some X.env.locals)(I:Inv X pins σ H s)(h:CXe X.prog X.w X.stack H s E1 e s')
  (k:∀ea C dd H' T s2,e=.ref ea->Inv X pins σ H' s2->H' ea=some (.ext (XAt ea C dd false))->wN s2.heap ea T .none->FTk X pins H' T->E1 (.ref ea) dd H'->Q () s2) :
  wpAny M X.A (noteFrame e X.env) (fun _ s1=>wpAny M X.A (setFlight e none) Q Er s1) Er s':=by
 obtain⟨ea,C,dd,H',T0,rfl,os,bare,un1,hok1,hea,fly0,hT0,hT0',hE1⟩:=h;have hf1:∀b∈frs X.stack,H b=none:=I.stkFree;have hss:=I.stack
 have hl:s'.heap.FunFrames X.base X.stack:=by
  have all:∀l:List Env,(∀b∈frs l,b∈frs X.stack)->s.heap.FunFrames X.base l->s'.heap.FunFrames X.base l:=by
   intro l
   induction l with
   | nil=>intro _ _;trivial
   | cons en r ih =>
    intro hs hl;obtain⟨hk,⟨L,o,hf,hn,ho,hd⟩,hr⟩:=hl;have hL:L∈frs (en::r):=by unfold frs;rw [filterMap_cons,hf];exact mem_cons_self
    obtain⟨sl,q⟩:=un1.slot L o ho (hf1 L (hs L hL)) (hs L hL) (by simp);exact⟨hk,⟨L,_,hf,hn,q,hd⟩,ih (fun b hb=>hs b (by unfold frs;rw [filterMap_cons,hf];exact mem_cons_of_mem _ hb)) hr⟩
  exact all _ (fun _ hb=>hb) hss
 have nT0:T0∉frs X.stack:=fun z=>by
  obtain⟨o,q⟩:=oW hss z;rw [hT0] at q;cases q
 have hf2:∀b∈frs X.stack,H' b=none:=fun b hb=>by
  obtain⟨o,q⟩:=oW hss hb;exact un1.free b o q (hf1 b hb) (by simp)
 have fr:=I.ok.frames;rw [hst] at fr hl nT0 hf2;refine wb fr hl hfm fly0 nT0 fun g1 T hT mv fly=>?_;refine oV fly fun g2 un fly2=>?_;have hok:=hok1.moved hea mv hT un hf2 (fun b e=>by cases e;exact hT0') fly2 rfl
 have upe:upd H' ea (.ext (XAt ea C dd false))=H':=by
  funext b
  by_cases z:b=ea
  .subst z;rw [aQ,hea]
  .rw [aA z]
 rw [upe] at hok;have bT:∀b o,s'.heap.get? b=some o->b≠T:=fun b o q=>ne_of_lt (Nat.lt_of_lt_of_le (Heap.lt_size q) hT);have bT0:∀b o,s.heap.get? b=some o->some T0≠some b:=fun b o q z=>by cases z;rw [hT0] at q;cases q
 have nea:∀b,H' b=none->b≠ea:=fun b n z=>by rw [z,hea] at n;cases n
 obtain⟨oe,vs,oT,ts,he1,he2,_⟩:=id fly0
 have u:Un (frs X.stack) [] H H' s.heap g2:=by
  rw [hst] at un1 ⊢
  refine⟨fun b ob q n hb hx=>?_,fun b ob q n hb hx=>?_,un1.free,fun b ob q hx=>?_,un1.tups,un1.frzs,un1.tbls⟩
  .have q2:=un1.keep b ob q n hb hx;exact un b ob (bT b ob q2) (mv.kp b ob hb (nea b (un1.free b ob q n hx)) (bT0 b ob q) q2)
  .obtain⟨sl1,q2⟩:=un1.slot b ob q n hb hx;obtain⟨sl2,q3⟩:=mv.sl b _ hb q2;exact⟨sl2,un b _ (bT b _ q2) q3⟩
  .obtain⟨o2,q2⟩:=un1.there b ob q hx
   by_cases hbe:b=ea
   .subst hbe;obtain⟨o3,vs3,q3,_⟩:=mv.ex oe vs he1 he2;exact⟨o3,un b o3 (bT b _ q2) q3⟩
   .by_cases hb:b∈frs (X.env::X.outer)
    .obtain⟨sl2,q3⟩:=mv.sl b _ hb q2;exact⟨_,un b _ (bT b _ q2) q3⟩
    .exact⟨o2,un b o2 (bT b _ q2) (mv.kp b o2 hb hbe (bT0 b ob q) q2)⟩
 have far:∀b o,s.heap.get? b=some o->b<T:=fun b o q=>by
  obtain⟨o2,q2⟩:=un1.there b o q (by simp);exact Nat.lt_of_lt_of_le (Heap.lt_size q2) hT
 have hL:X.env.locals<T:=by
  obtain⟨m,⟨o,_,_,ho,_⟩,_⟩:=I.loc;exact far _ o ho
 refine k ea C dd H' T { s' with heap:=g2 } rfl (I.call' (s':={ s' with heap:=g2 }) os u hok bare (fun b z=>nomatch z)) hea fly2 ⟨hok1.fresh hT,Nat.le_of_lt (lt_of_le_of_lt I.ok.above hL),Ne.symm (ne_of_lt hL),fun x c q=>?_,fun p hp=>?_⟩ hE1
 .obtain⟨v,o,ho,_⟩:=I.cell x c q;exact ne_of_lt (far c o ho)
 .exact ne_of_lt (far _ _ (I.pin p hp).1)
end
abbrev THd:=Addr->Addr->Option Addr->uC->St->Hp->Prop
def PH(X:Cx)(hs:List ExceptHandler)(th:THd):Prop:=∀(pins:List (Addr×Obj)) (s:Shared) (σ:St) (H:Hp) (ea C:Addr) (dd:Option Addr) (T:Addr) (D:uC),Inv X pins σ H s->H ea=some (.ext (XAt ea C dd false))->wN s.heap ea T .none->FTk X pins H T->th ea C dd D σ H ->
 wpAny (model X.prog X.w) X.A (handleBy (.ref ea) X.env hs) (SP X pins D) X.xe s
def hAs(K:PySem.W.Frag)(C0:Addr)(i:Nat)(ts:TS)(tr:THd):THd:=fun ea C dd D σ H=>∃G,XC K C G /\
 ((Value.ref C::.ref G::vmB).contains (.ref C0)=true->ts { nx:=fun σ' H'=>D.nx (σ'.set i none) H',bk:=fun σ' H'=>D.bk (σ'.set i none) H',ct:=fun σ' H'=>D.ct (σ'.set i none) H',rt:=D.rt } (σ.set i (some (.ref ea))) H) /\
 ((Value.ref C::.ref G::vmB).contains (.ref C0)=false->tr ea C dd D σ H)
def XD(K:PySem.W.Frag)(D:Addr):Prop:=∃nm q N bs bm hd sn sub ab col d0 k0 k1 k2 k3 k5 nw,K.lookup D=some (excClassObj nm q D N bs bm hd sn sub ab col d0 k0 k1 k2 k3 k5 nw)/\(Value.ref D::bm).contains (.type "BaseException")=true
section
variable {X:Cx}{C0:Addr}{cn n:Str}{np pos:Pos}{b0:Stmt}{suite:List Stmt}{rest:List ExceptHandler}{i:Nat}{ts:TS}{tr:THd}
theorem DJ(K:PySem.W.Frag)(ek:X.K=K)(hx:XD K C0)(hm:X.mg cn=some (.ref C0))(hN:X.N.Nodup)(hi:X.N[i]?=some n)(hk:X.env.scope.names.lookup n=some .local)(hs:∀e,PSs (X.mk' e).nox (b0::suite) ts)(hr:PH X rest tr)
  (hg:Gl X cn:=by rfl) (hdb:(cn == ("__debug__":Str))=false:=by decide):PH X (.ExceptHandler (some (.Name cn np)) (some n) (b0::suite) pos::rest) (hAs K C0 i ts tr):=by
 subst ek;intro pins s σ H ea C dd T D I hea fly ft h;obtain⟨G,c,h1,h2⟩:=h;have xa:XAt ea C dd false s.heap:=(show ck X.prog X.w H s.heap ea (.ext (XAt ea C dd false)) from I.hok ea _ hea).1;refine wpAny_handleBy_cons (codeAny_handlers_test ?_) (by intro z;cases z);refine iC (X:=X.mk' (.ref ea)) (I.mark (.ref ea)) hg hm ?_ hdb;have X2:=I.kIn;have I0:=I;obtain⟨hh,g,d,tk,os⟩:=s;refine wf X2 c xa hx ?_
 cases hb:(Value.ref C::.ref G::vmB).contains (.ref C0) with
 | false=>exact hr pins _ σ H ea C dd T D I0 hea fly ft (h2 hb)
 | true =>
  refine codeAny_handlers_suite_as ?_;refine oV fly fun g2 un fly2=>?_;have I1:Inv X pins σ H { heap:=g2,gens:=g,drawn:=d,toks:=tk,os:=os }:=I0.turned (it:=T) (t':=tk) un ft.nt ft.nl (.inr ft.sz) ft.nc ft.np;refine jP (X:=X) (v:=.ref ea) I1 hN hi (.inl hk) rfl (fun s2 I2=>?_) (.inr hk);refine wpAny_mono (hs (.ref ea) pins s2 _ H _ ((I2.mark (.ref ea)).wish _) (h1 hb)) (fun f s3 hf=>?_) fun _ _ z=>False.elim z
  have un1:∀{σ' H'},Inv (X.mk' (.ref ea)).nox pins σ' H' s3->Inv X pins σ' H' s3:=fun J=>(Inv.unwish J).unmark I0.ok.hd;show wpAny _ X.A (do bindName X.env n .none;unbindBehindTheSuite X.env n pos) (fun _ s4=>SP X pins D f s4) X.xe s3
  cases f with
  | next =>
   obtain⟨σ',H',J,q⟩:=hf;exact jZ (un1 J) hN hi hk fun s4 I4=>⟨_,H',I4,q⟩
  | brk =>
   obtain⟨σ',H',J,q⟩:=hf;exact jZ (un1 J) hN hi hk fun s4 I4=>⟨_,H',I4,q⟩
  | cont =>
   obtain⟨σ',H',J,q⟩:=hf;exact jZ (un1 J) hN hi hk fun s4 I4=>⟨_,H',I4,q⟩
  | ret u =>
   obtain⟨v,σ',H',J,r,q⟩:=hf;exact jZ (un1 J) hN hi hk fun s4 I4=>⟨v,_,H',I4,r,q⟩
theorem lW:PH X [] (fun _ _ _ _ _ _=>False):=fun _ _ _ _ _ _ _ _ _ _ _ _ _ h=>h.elim
end
abbrev Cx.tryb(X:Cx)(pn:List (Addr×Obj))(E:Value->Shared->Prop):Cx:={ X with pn:=pn,xe:=E }
def Eu(tb:(St->XK)->TS)(th:THd):TS:=fun D σ H=>∃J:St->XK,tb J D σ H/\∀(σ':St) (ea:Addr) (dd:Option Addr) (H':Hp),J σ' (.ref ea) dd H'->∃C,H' ea=some (.ext (XAt ea C dd false))/\th ea C dd D σ' H'
section
variable {X:Cx}{C0:Addr}{cn n:Str}{np pos:Pos}{b0:Stmt}{suite body:List Stmt}{rest:List ExceptHandler}{h0:ExceptHandler}{hs:List ExceptHandler}{i:Nat}{ts:TS}{tr th:THd}{tb:(St->XK)->TS}
theorem lX(hst:X.stack=X.env::X.outer)(hfm:X.env.frame=some X.env.locals)
  (hb:∀J pn E,PX (CXe X.prog X.w) (X.tryb pn E) J->PSs (X.tryb pn E) body (tb J)) (hh:PH X (h0::hs) th):PS X (.Try body (h0::hs) [] [] pos) (Eu tb th):=by
 intro pins s σ H D I h;obtain⟨J,h1,h2⟩:=h
 have mk:∀{E σ H s},Inv X pins σ H s->Inv (X.tryb (X.pn++pins) E) [] σ H s:=fun I =>
  ⟨⟨I.ok.mod,I.ok.kind,I.ok.glob,I.ok.blt,I.ok.above,I.ok.inj,I.ok.has,I.ok.cab,I.ok.hd,I.ok.frames,I.ok.stk,I.ok.exf,I.ok.bs,I.ok.bsz,I.ok.noex,I.ok.exfs,I.ok.funs,I.ok.frf⟩,I.os,I.bare,I.base,I.loc,I.cell,I.free,I.freeC,fun p hp=>I.pin p (by simpa using hp),I.hok,I.len⟩
 have un:∀{E pins' σ H s},Inv (X.tryb (X.pn++pins) E) pins' σ H s->Inv X pins σ H s:=fun {E pins' σ H s} I =>
  ⟨⟨I.ok.mod,I.ok.kind,I.ok.glob,I.ok.blt,I.ok.above,I.ok.inj,I.ok.has,I.ok.cab,I.ok.hd,I.ok.frames,I.ok.stk,I.ok.exf,I.ok.bs,I.ok.bsz,I.ok.noex,I.ok.exfs,I.ok.funs,I.ok.frf⟩,I.os,I.bare,I.base,I.loc,I.cell,I.free,I.freeC,fun p hp=>I.pin p (mem_append_left pins' hp),I.hok,I.len⟩
 let XE:Value->Shared->Prop:=fun e s1=>∃σ H s,Inv X pins σ H s/\CXe X.prog X.w X.stack H s (J σ) e s1
 have px:PX (CXe X.prog X.w) (X.tryb (X.pn++pins) XE) J:=fun pins' σ' H' s' e s1 I' h=>⟨σ',H',s',un I',h⟩
 refine wpAny_Try_except (wpAny_mono (hb J _ _ px [] s σ H D (mk I) h1) (fun f s1 hf=>?_) fun e s1 he=>?_)
 .cases f with
  | next =>
   obtain⟨σ',H',I',q⟩:=hf;rw [arm_execs_nil];exact wpAny_pure ⟨σ',H',un I',q⟩
  | brk =>
   obtain⟨σ',H',I',q⟩:=hf;exact⟨σ',H',un I',q⟩
  | cont =>
   obtain⟨σ',H',I',q⟩:=hf;exact⟨σ',H',un I',q⟩
  | ret u =>
   obtain⟨v,σ',H',I',r,q⟩:=hf;exact⟨v,σ',H',un I',r,q⟩
 .obtain⟨σ',H',s',I',cx⟩:=he;refine EI hst hfm I' cx fun ea C dd H2 T s2 ee I2 hea fly ft hJ=>?_;subst ee;obtain⟨C2,hea2,ht⟩:=h2 σ' ea dd H2 hJ;exact hh pins s2 σ' H2 ea C2 dd T D I2 hea2 fly ft ht
end
def XR(K:PySem.W.Frag)(O:Addr->Prop)(H:Hp)(ea:Addr)(dd:Option Addr)(d:D):Prop:=∃c ns ds,d=.exc c ns ds/\H ea=some (.ext (XAt ea (aT K c) dd false))/\FV K O H (.ref ea) d
theorem XR.keeps{K:PySem.W.Frag}{O O':Addr->Prop}{H H':Hp}{ea:Addr}{dd:Option Addr}{d:D}(k:bo O H O' H')(h:XR K O H ea dd d):XR K O' H' ea dd d:=by
 obtain⟨c,ns,ds,rfl,e,f⟩:=h
 have n:¬ O ea:=by cases f with
  | exc0 n _=>exact n
  | exc1 n _ _ _ _ _=>exact n
 exact⟨c,ns,ds,rfl,(k _ _ n e).2,f.keeps k⟩
def LSX(K:PySem.W.Frag)(E:D->Prop)(Eo:XK)(fs:List Nat)(ts:TS)(ps:PTS):Prop:=∀(fx:List (Nat×V)) (A R:Addr->Prop) (H0:Hp) (ρ:PSt) (σ:St) (H:Hp) (D:xu) (D':uC),fx.map Prod.fst=fs->Rel K A ρ σ H->dL fx R H0 ρ σ H->ps D ρ ->
 (∀ρ' σ' H',D.nx ρ'->Rel K A ρ' σ' H'->dL fx R H0 ρ' σ' H'->D'.nx σ' H') ->
 (∀v p ρ' σ' H',D.rt p ρ'->Out K A ρ' σ' H0 H' p v->dL fx R H0 ρ' σ' H'->D'.rt v H') ->
 (∀ρ' σ' H',D.bk ρ'->Rel K A ρ' σ' H'->dL fx R H0 ρ' σ' H'->D'.bk σ' H') ->
 (∀ρ' σ' H',D.ct ρ'->Rel K A ρ' σ' H'->dL fx R H0 ρ' σ' H'->D'.ct σ' H') ->
 (∀ρ' σ' H' ea dd d,E d->Rel K A ρ' σ' H'->dL fx R H0 ρ' σ' H'->H0 ea=none->XR K (OO A ρ' σ') H' ea dd d->Eo (.ref ea) dd H')->ts D' σ H
theorem dL.nn{fx:List (Nat×V)}{R:Addr->Prop}{H0 H:Hp}{ρ:PSt}{σ:St}(F:dL fx R H0 ρ σ H){b:Addr}(h:H b=none):H0 b=none:=by
 cases e:H0 b with
 | none=>rfl
 | some o=>exact absurd h (F.dm b (by rw [e];exact nofun))
section
variable {K:PySem.W.Frag}{E:D->Prop}{Eo:XK}{fs:List Nat}{ta tb ts:TS}{pa pb ps:PTS}{te:TE}{pe:PTE}{tt:TT}{pt:PTT}{wi:TI}{pi:PTI}{g:TG}{pg:PTG}
theorem LS.x(h:LS K fs ts ps):LSX K E Eo fs ts ps:=fun fx A R H0 ρ σ H D D' hf r F q k1 k2 k3 k4 _=>h fx A R H0 ρ σ H D D' hf r F q k1 k2 k3 k4
theorem iK(ha:LSX K E Eo fs ta pa)(hb:LSX K E Eo fs tb pb):LSX K E Eo fs (CH ta tb) (aH pa pb):=fun fx A R H0 ρ σ H D D' hf r F q k1 k2 k3 k4 k5 =>
 ha fx A R H0 ρ σ H _ _ hf r F q (fun ρ1 σ1 H1 q1 r1 F1=>hb fx A R H0 ρ1 σ1 H1 _ _ hf r1 F1 q1 k1 k2 k3 k4 k5) k2 k3 k4 k5
theorem An(ht:LT K tt pt)(ha:LSX K E Eo fs ta pa)(hb:LSX K E Eo fs tb pb):LSX K E Eo fs (CT tt ta tb) (dO pt pa pb):=fun fx A R H0 ρ σ H D D' hf r F q k1 k2 k3 k4 k5=>ht A ρ σ H _ _ r q fun c H1 ρ1 q1 f1 r1=>by
 cases c with
 | true=>exact ha fx A R H0 ρ1 σ H1 D D' hf r1 (F.fr f1) q1 k1 k2 k3 k4 k5
 | false=>exact hb fx A R H0 ρ1 σ H1 D D' hf r1 (F.fr f1) q1 k1 k2 k3 k4 k5
theorem Ch(hi:LI K wi pi)(hg:LGd K fs g pg)(hb:LSX K E Eo fs tb pb):LSX K E Eo fs (CV wi g tb) (gM pi pg pb):=fun fx A R H0 ρ σ H D D' hf r F q k1 k2 k3 k4 k5=>hi A ρ σ H _ _ r q fun J H1 n it ρ1 q1 f1 r1 W=>by
 obtain⟨I,i0,turn,after⟩:=q1;have F1:=F.fr f1;refine⟨fun i m σ' H'=>i+m=n/\∃ρ',I i ρ'/\Rel K A ρ' σ' H'/\dL fx (Wr ρ1 σ) H1 ρ' σ' H',⟨n,Nat.zero_add n,ρ1,i0,r1,dL.start F1.fx⟩,fun i m σ' H' ⟨him,ρ',iv,r',F'⟩=>?_⟩;obtain⟨go,stop⟩:=W _ H' F'.keeps r'.dom2
 by_cases hk:i<n
 .obtain⟨g1,g2⟩:=go i hk;refine .inr ⟨g1,fun σ'' H''=>∃ρ'',I (i+1) ρ''/\Rel K A ρ'' σ'' H''/\dL fx (Wr ρ1 σ) H1 ρ'' σ'' H'',fun σ'' H'' z=>⟨m - 1,by omega,by omega,z⟩,fun x H'' y=>?_⟩;obtain⟨gr,fv⟩:=g2 x H'' y;refine hg fx A (Wr ρ1 σ) H1 ρ' σ' H'' _ x _ _ hf (F'.fr gr.fr) (r'.gr gr) fv (turn i ρ' _ hk rfl iv) fun ρ2 σ2 q2 r2 F2 _=>?_
  refine hb fx A (Wr ρ1 σ) H1 ρ2 σ2 H'' _ _ hf r2 F2 q2 (fun ρ3 σ3 H3 q3 r3 F3=>⟨ρ3,q3,r3,F3⟩) (fun v p ρ3 σ3 H3 q3 o3 F3=>k2 v p ρ3 σ3 H3 q3 (o3.h0 F1.dm) (F1.trans F3 F3.fx)) (fun ρ3 σ3 H3 q3 r3 F3=>k1 ρ3 σ3 H3 q3 r3 (F1.trans F3 F3.fx)) (fun ρ3 σ3 H3 q3 r3 F3=>⟨ρ3,q3,r3,F3⟩)
   (fun ρ3 σ3 H3 ea dd d q3 r3 F3 n3 x3=>k5 ρ3 σ3 H3 ea dd d q3 r3 (F1.trans F3 F3.fx) (F1.nn n3) x3)
 .have e:i=n:=by omega
  subst e;exact .inl ⟨stop,k1 ρ' σ' H' (after ρ' iv) r' (F1.trans F' F'.fx)⟩
theorem xK(ht:LT K tt pt)(hb:LSX K E Eo fs tb pb):LSX K E Eo fs (uM tt tb) (oN pt pb):=fun fx A R H0 ρ σ H D D' hf r F q k1 k2 k3 k4 k5=>by
 obtain⟨I,⟨m0,i0⟩,turn⟩:=q;refine⟨fun m σ' H'=>∃ρ',I m ρ'/\Rel K A ρ' σ' H'/\dL fx R H0 ρ' σ' H',⟨m0,ρ,i0,r,F⟩,fun m σ' H' ⟨ρ',iv,r',F'⟩=>?_⟩;refine ht A ρ' σ' H' _ _ r' (turn m ρ' iv) fun b H1 ρ1 q1 f1 r1=>?_
 cases b with
 | true =>
  refine⟨fun σ'' H''=>∃ρ'' m',m'<m/\I m' ρ''/\Rel K A ρ'' σ'' H''/\dL fx R H0 ρ'' σ'' H'',fun σ'' H'' ⟨ρ'',m',h1,h2⟩=>⟨m',h1,ρ'',h2⟩,?_⟩;exact hb fx A R H0 ρ1 σ' H1 _ _ hf r1 (F'.fr f1) q1 (fun ρ3 σ3 H3 ⟨m',h1,h2⟩ r3 F3=>⟨ρ3,m',h1,h2,r3,F3⟩) k2 k1 (fun ρ3 σ3 H3 ⟨m',h1,h2⟩ r3 F3=>⟨ρ3,m',h1,h2,r3,F3⟩) k5
 | false=>exact k1 ρ1 σ' H1 q1 r1 (F'.fr f1)
end
def oY(E:D->Prop)(pe:PTE):PTS:=fun _ ρ=>pe ρ fun p _=>match p with
 | .dat d=>E d
 | _=>False
section
variable {K:PySem.W.Frag}{E:D->Prop}{Eo:XK}{fs:List Nat}{ta:TA}{pa:PTA}{cs:List Str}{c f:Str}
theorem DK{H:Hp}{a:Addr}{o o':HO}:upd (upd H a o) a o'=upd H a o':=by
 funext b
 by_cases z:b=a
 .subst z;rw [aQ,aQ]
 .rw [aA z,aA z,aA z]
theorem lY(X:yB K cs)(hc:c∈cs)(h:LAs K ta pa):LSX K E Eo fs (yC K (Ce (aT K c) f ta) (fun _=>Eo)) (oY E (xJ c f pa)):=fun fx A R H0 ρ σ H D D' hf r F q k1 k2 k3 k4 k5 =>
 h A ρ σ H _ _ r q fun vs H1 as ρ1 q1 f1 R1 o1=>by
  split at q1
  .rename_i d e1;have fs:=o1.avD e1
   cases fs with
   | @cons v _ _ _ fv fr =>
    cases fr;refine⟨_,rfl,fun e dx he hdx hne=>⟨e,aT K c,aT K "GlueError",some dx,rfl,aQ,X.c c hc,?_⟩⟩;rw [DK];have he2:upd H1 dx (.xd [(f,v)]) e=none:=by rw [aA (fun z=>hne z.symm)];exact he
    have g1:Gr H1 (upd H1 dx (.xd [(f,v)])):=Gr.new hdx;have g2:=Gr.new (o:=.ext (XAt e (aT K c) (some dx) false)) he2;have g:Gr H1 (upd (upd H1 dx (.xd [(f,v)])) e (.ext (XAt e (aT K c) (some dx) false))):=fun b o z=>g2 b o (g1 b o z);have F1:=F.fr f1;exact k5 ρ1 σ _ e _ _ q1 (R1.gr g) (F1.fr g.fr) (F1.nn he) ⟨_,_,_,rfl,aQ,.exc1 (fs:=[(f,v)]) (fun z=>R1.dom2 e z he) (fun z=>R1.dom2 dx z hdx) aQ (by rw [aA hne];exact aQ) rfl (.cons (fv.keeps fun b o n z=>⟨n,g b o z⟩) .nil)⟩
  .exact q1.elim
end
abbrev FX:=List D->(PV->Prop)->(D->Prop)->Prop
def spX(K:PySem.W.Frag)(c:FX):Sp:=fun vs H Q E=>∃(O:Addr->Prop) (ds:List D) (Qc:PV->Prop) (Ec:D->Prop),(∀b,O b->H b≠none)/\FVs K O H vs ds/\c ds Qc Ec/\(∀r,Qc r->∀v H',Gr H H'->qh K O H H' r v->Q v H') /\
 ∀d,Ec d->∀ea dd H',Gr H H'->H ea=none->XR K O H' ea dd d->E (.ref ea) dd H'
section
variable {K:PySem.W.Frag}{tr:TA}{pr:PTA}{ts:XK->TS}{ps:(D->Prop)->PTS}
def sZ(c:FX)(pr:PTA):PTE:=fun ρ Q=>pr ρ fun as ρ1=>match avD as with
 | some ds=>c ds (fun r=>Q r ρ1) (fun _=>False)
 | none=>False
theorem oZ{c:FX}(h:LAs K tr pr):LE K (sY (spX K c) (fun _=>E0) tr) (sZ c pr):=fun A ρ σ H Q Q' R q k=>h A ρ σ H _ _ R q fun vs H1 as ρ1 q1 f1 R1 o1=>by
 split at q1
 .rename_i ds e;exact⟨OO A ρ1 σ,ds,_,_,R1.dom2,o1.avD e,q1,fun r qr v H' g ov=>k v H' r ρ1 qr (f1.trans g.fr) ((ov.out R1 g).h0 f1.dm),fun d z=>z.elim⟩
 .exact q1.elim
end
section
variable {K:PySem.W.Frag}{cs:List Str}
theorem qt(X:yB K cs){c d:Str}(hc:c∈cs)(hd:d∈cs\/d="GlueError"):(Value.ref (aT K c)::.ref (aT K "GlueError")::vmB).contains (.ref (aT K d))=um c d:=by
 have yd:XCl K d:=hd.elim (X.n d) fun e=>by rw [e];exact X.g
 have rr:∀a b:Addr,(Value.ref a == Value.ref b)=decide (a=b):=fun a b=>by
  by_cases h:a=b
  .subst h;simp
  .rw [decide_eq_false h];exact beq_eq_false_iff_ne.mpr fun z=>h (Value.ref.inj z)
 rw [contains_cons,contains_cons,rr,rr];have t2:vmB.contains (Value.ref (aT K d))=false:=rfl;rw [t2,Bool.or_false];unfold um
 congr 1
 .by_cases h:c=d
  .subst h;rw [decide_eq_true rfl,decide_eq_true rfl]
  .rw [decide_eq_false h,decide_eq_false fun z=>(X.n c hc).ne yd h z.symm]
 .by_cases h:d="GlueError"
  .subst h;rw [decide_eq_true rfl,decide_eq_true rfl]
  .rw [decide_eq_false h,decide_eq_false (yd.ne X.g h)]
end
section
variable {K:PySem.W.Frag}{A R:Addr->Prop}{fx:List (Nat×V)}{fs:List Nat}{H0 H:Hp}{ρ:PSt}{σ:St}{i:Nat}
theorem j0{j:Nat}{q:PV}(e:(ρ.set i none)[j]?=some (some q)):j≠i/\ρ[j]?=some (some q):=by
 by_cases z:i=j
 .subst z
  by_cases hi:i<ρ.length
  .rw [getElem?_set_self hi] at e;cases e
  .rw [getElem?_eq_none (by rw [length_set];omega)] at e;cases e
 .rw [getElem?_set_ne z] at e;exact⟨fun q=>z q.symm,e⟩
theorem o0{b:Addr}(h:Wr (ρ.set i none) (σ.set i none) b):Wr ρ σ b:=by
 obtain⟨j,r,e1,o1,s1⟩:=h;obtain⟨n,e⟩:=j0 e1;rw [getElem?_set_ne (fun z=>n z.symm)] at s1;exact⟨j,r,e,o1,s1⟩
theorem Rel.unset(R1:Rel K A ρ σ H):Rel K A (ρ.set i none) (σ.set i none) H:=by
 have k:bo (OO A ρ σ) H (OO A (ρ.set i none) (σ.set i none)) H:=bo.less fun b z=>z.imp id o0
 refine⟨by rw [length_set,length_set];exact R1.len,fun j r e1=>?_,fun j l p1 q1 v' e1 e2 o1 o2 s1 s2=>?_,R1.dom,fun b z w=>R1.sep b z (o0 w)⟩
 .obtain⟨n,e⟩:=j0 e1;obtain⟨u,s,r'⟩:=R1.get j r e;exact⟨u,by rw [getElem?_set_ne (fun z=>n z.symm)];exact s,r'.keeps k fun _ _ _=>rfl⟩
 .obtain⟨n1,e1⟩:=j0 e1;obtain⟨n2,e2⟩:=j0 e2;rw [getElem?_set_ne (fun z=>n1 z.symm)] at s1;rw [getElem?_set_ne (fun z=>n2 z.symm)] at s2;exact R1.dj j l p1 q1 v' e1 e2 o1 o2 s1 s2
theorem dL.unset(hf:fx.map Prod.fst=fs)(hi:fs.contains i=false)(F:dL fx R H0 ρ σ H):dL fx R H0 (ρ.set i none) (σ.set i none) H :=
 ⟨F.kp,F.dm,fun b w=>F.ow b (o0 w),fun q hq=>by
  have:q.1≠i:=fun z=>by
   have h1:i∈fs:=by rw [<- hf,<- z];exact mem_map_of_mem hq
   rw [contains_iff_mem.mpr h1] at hi;cases hi
  rw [getElem?_set_ne (fun z=>this z.symm)];exact F.fx q hq⟩
end
abbrev PTH:=D->PTS
def LH(K:PySem.W.Frag)(fs:List Nat)(th:THd)(ph:PTH):Prop:=∀(fx:List (Nat×V)) (A R:Addr->Prop) (H0:Hp) (ρ:PSt) (σ:St) (H:Hp) (D:xu) (D':uC) (ea:Addr) (dd:Option Addr) (c:Str) (ns:List Str) (ds:List L2.D),fx.map Prod.fst=fs->Rel K A ρ σ H->dL fx R H0 ρ σ H ->
 H ea=some (.ext (XAt ea (aT K c) dd false))->FV K (OO A ρ σ) H (.ref ea) (.exc c ns ds)->ph (.exc c ns ds) D ρ ->
 (∀ρ' σ' H',D.nx ρ'->Rel K A ρ' σ' H'->dL fx R H0 ρ' σ' H'->D'.nx σ' H') ->
 (∀v p ρ' σ' H',D.rt p ρ'->Out K A ρ' σ' H0 H' p v->dL fx R H0 ρ' σ' H'->D'.rt v H') ->
 (∀ρ' σ' H',D.bk ρ'->Rel K A ρ' σ' H'->dL fx R H0 ρ' σ' H'->D'.bk σ' H') ->
 (∀ρ' σ' H',D.ct ρ'->Rel K A ρ' σ' H'->dL fx R H0 ρ' σ' H'->D'.ct σ' H')->th ea (aT K c) dd D' σ H
def qu:PTH:=fun _ _ _=>False
def yD(cs:List Str)(c0:Str)(i:Nat)(pb:PTS)(rest:PTH):PTH:=fun d D ρ=>match d with
 | .exc c _ _=>cs.contains c=true/\jB (um c c0) (pb { nx:=fun ρ'=>D.nx (ρ'.set i none),bk:=fun ρ'=>D.bk (ρ'.set i none),ct:=fun ρ'=>D.ct (ρ'.set i none),rt:=D.rt } (ρ.set i (some (.dat d)))) (rest d D ρ)
 | _=>False
section
variable {K:PySem.W.Frag}{cs:List Str}{fs:List Nat}{ts:TS}{ps:PTS}{tr:THd}{pr:PTH}{c0:Str}{i:Nat}
theorem lZ:LH K fs (fun _ _ _ _ _ _=>False) qu:=fun _ _ _ _ _ _ _ _ _ _ _ _ _ _ _ _ _ _ _ h _ _ _ _=>h
theorem rP(X:yB K cs)(h0:c0∈cs\/c0="GlueError")(hi:fs.contains i=false)(hs:LS K fs ts ps)(hr:LH K fs tr pr):LH K fs (hAs K (aT K c0) i ts tr) (yD cs c0 i ps pr):=fun fx A R H0 ρ σ H D D' ea dd c ns ds hf r F hea fv q k1 k2 k3 k4=>by
 obtain⟨hc,q⟩:=(show cs.contains c=true/\_ from q)
 have hc:c∈cs:=contains_iff_mem.mp hc;have ek:=qt X hc h0
 refine⟨aT K "GlueError",X.c c hc,fun e=>?_,fun e=>?_⟩
 .rw [ek] at e;rw [e] at q;have o:Out K A ρ σ H0 H (.dat (.exc c ns ds)) (.ref ea):=⟨r,fv⟩
  exact hs fx A R H0 _ _ H _ _ hf (o.put (i:=i)).1 (F.put hf hi o.put.2) q (fun ρ' σ' H' q' r' F'=>k1 _ _ _ q' r'.unset (F'.unset hf hi)) k2 (fun ρ' σ' H' q' r' F'=>k3 _ _ _ q' r'.unset (F'.unset hf hi)) (fun ρ' σ' H' q' r' F'=>k4 _ _ _ q' r'.unset (F'.unset hf hi))
 .rw [ek] at e;rw [e] at q;exact hr fx A R H0 ρ σ H D D' ea dd c ns ds hf r F hea fv q k1 k2 k3 k4
end
def qv(c:FX)(pa:PTA)(ph:PTH):PTS:=fun D ρ=>pa ρ fun as ρ1=>match avD as with
 | some ds=>c ds (fun _=>D.nx ρ1) (fun d=>ph d D ρ1)
 | none=>False
section
variable {K:PySem.W.Frag}{fs:List Nat}{ta:TA}{pa:PTA}{th:THd}{ph:PTH}{c:FX}
theorem l0(ha:LAs K ta pa)(hh:LH K fs th ph):LS K fs (Eu (fun J=>CH (wT (sY (spX K c) J ta)) zc) th) (qv c pa ph):=fun fx A R H0 ρ σ H D D' hf r F q k1 k2 k3 k4=>by
 refine⟨fun σ' v dd H'=>∃ρ1 ea d,v=.ref ea/\σ'=σ/\Rel K A ρ1 σ H'/\dL fx R H0 ρ1 σ H'/\XR K (OO A ρ1 σ) H' ea dd d/\ph d D ρ1,?_,fun σ' ea dd H' ⟨ρ1,ea',d,ev,es,r1,F1,x1,q1⟩=>?_⟩
 .refine ha A ρ σ H _ _ r q fun vs H1 as ρ1 q1 f1 R1 o1=>?_
  split at q1
  .rename_i ds e;exact⟨OO A ρ1 σ,ds,_,_,R1.dom2,o1.avD e,q1,fun r qr v H' g ov=>k1 ρ1 σ H' qr (ov.out R1 g).frz.1 ((F.fr f1).fr g.fr),fun d qd ea dd H' g n x=>⟨ρ1,ea,d,rfl,rfl,R1.gr g,(F.fr f1).fr g.fr,x,qd⟩⟩
  .exact q1.elim
 .cases ev;subst es;obtain⟨c,ns,ds,rfl,hea,fv⟩:=x1;exact⟨_,hea,hh fx A R H0 ρ1 σ' H' D D' ea dd c ns ds hf r1 F1 hea fv q1 k1 k2 k3 k4⟩
end
def LEX(K:PySem.W.Frag)(E:D->Prop)(Eo:XK)(te:TE)(pe:PTE):Prop:=∀(A:Addr->Prop) (ρ:PSt) (σ:St) (H:Hp) (Q:PKt) (Q':VK),Rel K A ρ σ H->pe ρ Q ->
 (∀v H' p ρ',Q p ρ'->Fr ρ σ H ρ' H'->Out K A ρ' σ H H' p v->Q' v H') ->
 (∀ρ' H' ea dd d,E d->Fr ρ σ H ρ' H'->Rel K A ρ' σ H'->H ea=none->XR K (OO A ρ' σ) H' ea dd d->Eo (.ref ea) dd H')->te σ H Q'
def yE(E:D->Prop)(c:FX)(pr:PTA):PTE:=fun ρ Q=>pr ρ fun as ρ1=>match avD as with
 | some ds=>c ds (fun r=>Q r ρ1) E
 | none=>False
section
variable {K:PySem.W.Frag}{E:D->Prop}{Eo:XK}{fs:List Nat}{ta:TA}{pa:PTA}{c:FX}{te:TE}{pe:PTE}{g:TG}{pg:PTG}
theorem xL(h:LAs K ta pa):LEX K E Eo (sY (spX K c) (fun _=>Eo) ta) (yE E c pa):=fun A ρ σ H Q Q' R q k kx=>h A ρ σ H _ _ R q fun vs H1 as ρ1 q1 f1 R1 o1=>by
 split at q1
 .rename_i ds e;refine⟨OO A ρ1 σ,ds,_,_,R1.dom2,o1.avD e,q1,fun r qr v H' g ov=>k v H' r ρ1 qr (f1.trans g.fr) ((ov.out R1 g).h0 f1.dm),fun d z ea dd H' g n x=>kx ρ1 H' ea dd d z (f1.trans g.fr) (R1.gr g) ?_ x⟩
  cases e0:H ea with
  | none=>rfl
  | some o=>exact absurd n (f1.dm ea (by rw [e0];exact nofun))
 .exact q1.elim
theorem Ao(h:LEX K E Eo te pe):LSX K E Eo fs (wT te) (io pe):=fun fx A R H0 ρ σ H D D' hf r F q k1 k2 k3 k4 k5=>h A ρ σ H _ _ r q (fun v H1 p ρ1 q1 f1 o1=>k1 _ _ _ q1 o1.frz.1 (F.fr f1)) fun ρ' H' ea dd d z f R1 n x=>k5 ρ' σ H' ea dd d z R1 (F.fr f) (F.nn n) x
end
section
variable {X:Cx}{st:Stmt}{t:TS}
theorem PS.nox(h:PS X.nox st t):PS X st t:=fun pins s σ H D I hw =>
 wpAny_mono (h pins s σ H D (I.wish _) hw) (fun f s' hs=>by
  cases f with
  | next=>obtain⟨σ',H',J,q⟩:=hs;exact⟨σ',H',J.unwish,q⟩
  | brk=>obtain⟨σ',H',J,q⟩:=hs;exact⟨σ',H',J.unwish,q⟩
  | cont=>obtain⟨σ',H',J,q⟩:=hs;exact⟨σ',H',J.unwish,q⟩
  | ret u=>obtain⟨v,σ',H',J,r,q⟩:=hs;exact⟨v,σ',H',J.unwish,r,q⟩) fun _ _ z=>z.elim
end
section
variable {P:Program}{w:World}{K:PySem.W.Frag}{mg:Str->Option Value}{base:Heap}{x:Str}{st:Stmt}{N ps:List Str}{k:Nat}{sp:Sp}
theorem cm.okE(D:cm K mg x st)(S:aI N ps (ao st))
  (hb:∀(kV doc pm:Value) (an:Option Addr) (cdv ct:Value) (us:List Value),us.length=ps.length->bindArgs (PySem.W.fnOf x x (cM st) (bV st) (ao st) .none kV doc pm an cdv ct) ⟨us,[]⟩=pure (ps.zip us))
  (len:∀vs H Q E,sp vs H Q E->vs.length=ps.length)
  (hbody:∀(f:Addr) (cdv:Value) (A:Around) (outer:List Env) (s:Shared) (H:Hp) (vs:List V) (Q:VK) (E:XK),iA k (A.deeper (envOfC x (ao st) s.heap.objs.size f cdv))->sp vs H Q E ->
   ∃t,PSs (nh (CXe P w) P w K mg base N x (ao st) f cdv A outer s H E) (bV st) t/\t { nx:=fun _ H'=>Q .non H',rt:=Q } (start N vs) H):uG P w K mg base (k+1) x ps sp:=by
 obtain⟨f,fd,F,hm⟩:=D.ex;refine⟨f,fd,?_,F.binds hb,F.kp,hm⟩;obtain⟨oc,od,kV,doc,pm,an,cdv,ct,osl,rfl,lk,hcd⟩:=F.ex;exact zi lk hcd S len fun A outer s H vs Q E hr hsp=>hbody f cdv A outer s H vs Q E hr hsp
end
theorem px0{P:Program}{w:World}{X:Cx}:PX (CXe P w) X (fun _=>E0):=fun pins σ H s e s' I h=>by
 obtain⟨_,_,_,_,_,_,_,_,_,_,_,_,_,_,z⟩:=h;exact z.elim
abbrev Ci(pp:(D->Prop)->PTS)(n:Nat)(ds:List D)(Q:PV->Prop)(E:D->Prop):Prop:=pp E { nx:=fun _=>Q (.dat .non),rt:=fun p _=>Q p } (dq n (ds.map .dat))
section
variable {K:PySem.W.Frag}{ts:TS}{ps:(D->Prop)->PTS}
theorem Ev{c:FX}{n:Nat}(hn:∀ds Q E,c ds Q E->ds.length=n){vs:List V}{H:Hp}{Q:VK}{E:XK}(h:spX K c vs H Q E):vs.length=n:=by
 obtain⟨O,ds,Qc,Ec,_,fv,hq,_⟩:=h;rw [fv.length];exact hn ds Qc Ec hq
theorem Ew{c:FX}{N:List Str}{vs:List V}{H:Hp}{Q:VK}{E:XK}(hl:∀Ec,LSX K Ec E [] ts (ps Ec))(hn:∀ds Q E,c ds Q E->ds.length<=N.length)(hc:∀ds Q E,c ds Q E->Ci ps N.length ds Q E)
  (h:spX K c vs H Q E):ts { nx:=fun _ H'=>Q .non H',rt:=Q } (start N vs) H:=by
 obtain⟨O,ds,Qc,Ec,dom,fv,hq,k,kx⟩:=h
 have nw:∀(ρ:PSt) (b:Addr),ρ=dq N.length (ds.map .dat)->¬ Wr ρ (start N vs) b:=fun ρ b e ⟨i,p,e1,o1,s1⟩=>by
  rw [e] at e1;have:=dD e1;rw [getElem?_map] at this
  cases e2:ds[i]? with
  | none=>rw [e2] at this;cases this
  | some d=>rw [e2] at this;cases this;cases o1
 have lenv:=fv.length;have hle:=hn ds Qc Ec hq
 have R0:Rel K O (dq N.length (ds.map .dat)) (start N vs) H:=by
  refine⟨?_,fun i p e=>?_,fun i j p q v e1 e2 o1 o2 s1 s2=>?_,dom,fun b _ w=>nw _ b rfl w⟩
  .unfold dq start;rw [length_append,length_append,length_map,length_map,length_map,length_replicate,length_replicate,lenv]
  .have:=dD e;rw [getElem?_map] at this
   cases e2:ds[i]? with
   | none=>rw [e2] at this;cases this
   | some d =>
    rw [e2] at this;cases this;obtain⟨v,hv,f⟩:=fv.getD e2;exact⟨v,jW hv,f.keeps (bo.less fun b z=>z.elim id fun w=>absurd w (nw _ b rfl))⟩
  .have:=dD e1;rw [getElem?_map] at this
   cases e3:ds[i]? with
   | none=>rw [e3] at this;cases this
   | some d=>rw [e3] at this;cases this;cases o1
 refine hl Ec [] O (fun _=>False) H _ _ H _ _ rfl R0 ⟨fun _ _ _ h=>h,fun _ h=>h,fun b w=>absurd w (nw _ b rfl),fun p hp=>nomatch hp⟩ (hc ds Qc Ec hq) (fun ρ' σ' H' q r F=>?_) (fun v p ρ' σ' H' q o F=>?_) (fun _ _ _ z=>z.elim) (fun _ _ _ z=>z.elim) (fun ρ' σ' H' ea dd d q r F n x=>?_)
 .exact k _ q .non H' (fun b o e=>F.kp b o id e) .non
 .exact k _ q v H' (fun b o e=>F.kp b o id e) o.outV
 .exact kx d q ea dd H' (fun b o e=>F.kp b o id e) n (x.keeps (bo.less fun b z=>.inl z))
end
theorem l7{X:Cx}{c0 cn n:Str}{np pos:Pos}{b0:Stmt}{suite:List Stmt}{rest:List ExceptHandler}{ts:TS}{tr:THd}(i:Nat)(K:PySem.W.Frag)(ek:X.K=K)(hx:XD K (aT K c0))(hm:X.mg cn=some (.ref (aT K c0)))(hN:X.N.Nodup)(hi:X.N[i]?=some n)(hk:X.env.scope.names.lookup n=some .local)(hs:∀e,PSs (X.mk' e).nox (b0::suite) ts)(hr:PH X rest tr)
  (hg:Gl X cn:=by rfl) (hdb:(cn == ("__debug__":Str))=false:=by decide):PH X (.ExceptHandler (some (.Name cn np)) (some n) (b0::suite) pos::rest) (hAs K (aT K c0) i ts tr):=DJ K ek hx hm hN hi hk hs hr hg hdb
theorem wg(d:D):(PV.dat d).d=d:=rfl
theorem wj(ds:List D):(PV.own ds).d=.lst ds:=rfl
theorem wk(c:Str)(ns:List Str)(ds:List D):(PV.ins c ns ds).d=.obj c ns ds:=rfl
theorem Cj(ds:List D):mkL false ds=.own ds:=rfl
theorem Ck(ds:List D):mkL true ds=.dat (.tup ds):=rfl
def pkm(ρ:PSt)(j:Nat):Option PV:=match ρ[j]? with
 | some v=>v
 | none=>none
theorem tm(v:Option PV)(r:PSt):pkm (v::r) 0=v:=rfl
theorem tq(v:Option PV)(r:PSt)(n:Nat):pkm (v::r) (n+1)=pkm r n:=rfl
theorem qw(ρ:PSt):bN [] ρ=[]:=rfl
theorem nZ(ix:List (Option Nat))(ρ:PSt):bN (none::ix) ρ=none::bN ix ρ:=rfl
theorem oa(j:Nat)(ix:List (Option Nat))(ρ:PSt):bN (some j::ix) ρ=pkm ρ j::bN ix ρ:=rfl
theorem qx(j:Nat)(ix:List (Option Nat))(ρ:PSt)(t:Option PV)(τ:PSt):gC (some j::ix) ρ (t::τ)=gC ix (ρ.set j t) τ:=rfl
theorem qy(ix:List (Option Nat))(ρ:PSt)(t:Option PV)(τ:PSt):gC (none::ix) ρ (t::τ)=gC ix ρ τ:=rfl
theorem tu(ρ τ:PSt):gC [] ρ τ=ρ:=rfl
theorem o7{α:Type}{e:α->D}{xs:List α}{k:Nat}(h:k<xs.length):itD (xs.map e) k=e xs[k]:=jV (by rw [getElem?_map,getElem?_eq_getElem h];rfl)
theorem wl{α β:Type}(f:α->β)(xs:List α)(g:Nat->β)(h:∀k (hk:k<xs.length),g k=f xs[k]):(List.range xs.length).map g=xs.map f:=by
 apply ext_getElem?;intro i;rw [getElem?_map,getElem?_map]
 by_cases hi:i<xs.length
 .rw [getElem?_range hi,getElem?_eq_getElem hi];exact congrArg some (h i hi)
 .rw [getElem?_eq_none (by rw [length_range];omega),getElem?_eq_none (by omega)];rfl
section
variable {α:Type}{e:α->D}{xs:List α}{ix:List (Option Nat)}{ρ1:PSt}{g:PTG}{pt:PTT}{pe:PTE}{Q:PKt}
theorem Ex(T:PSt->Prop)(f:α->Option D)(h0:T (bN ix ρ1))
  (hs:∀x∈xs,∀τ,T τ->∀(K1:D->PSt->Prop) (K2:PSt->Prop),(∀d τ',f x=some d->T τ'->K1 d τ')->(∀τ',f x=none->T τ'->K2 τ')->g (.dat (e x)) τ fun τ2=>pt τ2 fun ok τ3=>jB ok (pe τ3 fun p τ4=>K1 p.d τ4) (K2 τ3))
  (hq:∀τ,T τ->Q (.own (xs.filterMap f)) (gC ix ρ1 τ)):lf ix ρ1 (xs.map e).length (itD (xs.map e)) g pt pe Q:=by
 refine cfm T (fun k=>(xs[k]?).bind f) h0 (fun k τ d hk ed t K1 K2 k1 k2=>?_) fun τ t=>?_
 .rw [length_map] at hk;rw [o7 hk] at ed;subst ed;have eg:(xs[k]?).bind f=f xs[k]:=by rw [getElem?_eq_getElem hk];rfl
  rw [eg] at k1 k2;exact hs _ (getElem_mem hk) τ t K1 K2 k1 k2
 .have e1:(List.range (xs.map e).length).filterMap (fun k=>(xs[k]?).bind f)=xs.filterMap f:=by
   rw [length_map];have h1:(List.range xs.length).map (fun k=>(xs[k]?).bind f)=xs.map f:=wl f xs _ fun k hk=>by rw [getElem?_eq_getElem hk];rfl
   have h2:∀l:List Nat,l.filterMap (fun k=>(xs[k]?).bind f)=(l.map fun k=>(xs[k]?).bind f).filterMap id:=fun l=>by rw [filterMap_map];rfl
   rw [h2,h1,filterMap_map];rfl
  rw [e1];exact hq τ t
theorem Cm(T:PSt->Prop)(f:α->D)(h0:T (bN ix ρ1))
  (hs:∀x∈xs,∀τ,T τ->∀K1:D->PSt->Prop,(∀τ',T τ'->K1 (f x) τ')->g (.dat (e x)) τ fun τ2=>pe τ2 fun p τ4=>K1 p.d τ4)
  (hq:∀τ,T τ->Q (.own (xs.map f)) (gC ix ρ1 τ)):lf ix ρ1 (xs.map e).length (itD (xs.map e)) g pN pe Q:=by
 refine Ex T (fun x=>some (f x)) h0 (fun x hx τ t K1 K2 k1 k2=>?_) fun τ t=>?_
 .exact hs x hx τ t K1 fun τ' t'=>k1 _ τ' rfl t'
 .rw [show xs.filterMap (fun x=>some (f x))=xs.map f by rw [<- filterMap_eq_map];rfl];exact hq τ t
theorem DL{β:Type}(p:α->Bool)(f:α->β):∀xs:List α,xs.filterMap (fun x=>if p x=true then some (f x) else none)=(xs.filter p).map f:=jY p f
theorem cfX(T:PSt->Prop)(p:α->Bool)(f:α->D)(h0:T (bN ix ρ1))
  (hs:∀x∈xs,∀τ,T τ->∀(K1:D->PSt->Prop) (K2:PSt->Prop),(∀τ',p x=true->T τ'->K1 (f x) τ')->(∀τ',p x=false->T τ'->K2 τ')->g (.dat (e x)) τ fun τ2=>pt τ2 fun ok τ3=>jB ok (pe τ3 fun p τ4=>K1 p.d τ4) (K2 τ3))
  (hq:∀τ,T τ->Q (.own ((xs.filter p).map f)) (gC ix ρ1 τ)):lf ix ρ1 (xs.map e).length (itD (xs.map e)) g pt pe Q:=by
 refine Ex T (fun x=>if p x=true then some (f x) else none) h0 (fun x hx τ t K1 K2 k1 k2=>hs x hx τ t K1 K2 (fun τ' h t'=>k1 _ τ' (by rw [if_pos h]) t') fun τ' h t'=>k2 τ' (by rw [if_neg (by rw [h];decide)]) t') fun τ t=>?_;rw [DL];exact hq τ t
theorem cm1(f:α->D)
  (hs:∀x∈xs,∀(v:Option PV) (K1:D->PSt->Prop),(∀v',K1 (f x) (v'::(bN ix ρ1).tail))->g (.dat (e x)) (v::(bN ix ρ1).tail) fun τ2=>pe τ2 fun p τ4=>K1 p.d τ4)
  (hq:∀v:Option PV,Q (.own (xs.map f)) (gC ix ρ1 (v::(bN ix ρ1).tail))) (hx:bN ix ρ1=none::(bN ix ρ1).tail:=by rfl):lf ix ρ1 (xs.map e).length (itD (xs.map e)) g pN pe Q:=by
 refine Cm (fun τ=>∃v,τ=v::(bN ix ρ1).tail) f ⟨none,hx⟩ ?_ ?_
 .rintro x hx τ ⟨v,rfl⟩ K1 k1;exact hs x hx v K1 fun v'=>k1 _ ⟨v',rfl⟩
 .rintro τ ⟨v,rfl⟩;exact hq v
theorem cf1(p:α->Bool)(f:α->D)
  (hs:∀x∈xs,∀(v:Option PV) (K1:D->PSt->Prop) (K2:PSt->Prop),(∀v',p x=true->K1 (f x) (v'::(bN ix ρ1).tail))->(∀v',p x=false->K2 (v'::(bN ix ρ1).tail))->g (.dat (e x)) (v::(bN ix ρ1).tail) fun τ2=>pt τ2 fun ok τ3=>jB ok (pe τ3 fun p τ4=>K1 p.d τ4) (K2 τ3))
  (hq:∀v:Option PV,Q (.own ((xs.filter p).map f)) (gC ix ρ1 (v::(bN ix ρ1).tail))) (hx:bN ix ρ1=none::(bN ix ρ1).tail:=by rfl):lf ix ρ1 (xs.map e).length (itD (xs.map e)) g pt pe Q:=by
 refine cfX (fun τ=>∃v,τ=v::(bN ix ρ1).tail) p f ⟨none,hx⟩ ?_ ?_
 .rintro x hx τ ⟨v,rfl⟩ K1 K2 k1 k2;exact hs x hx v K1 K2 (fun v' h=>k1 _ h ⟨v',rfl⟩) fun v' h=>k2 _ h ⟨v',rfl⟩
 .rintro τ ⟨v,rfl⟩;exact hq v
end
theorem cmR{ix:List (Option Nat)}{ρ1:PSt}{g:PTG}{pe:PTE}{Q:PKt}{n:Nat}{it:Nat->D}(f:Nat->D)
  (hs:∀k,k<n->∀(v:Option PV) (K1:D->PSt->Prop),(∀v',K1 (f k) (v'::(bN ix ρ1).tail))->g (.dat (it k)) (v::(bN ix ρ1).tail) fun τ2=>pe τ2 fun p τ4=>K1 p.d τ4)
  (hq:∀v:Option PV,Q (.own ((List.range n).map f)) (gC ix ρ1 (v::(bN ix ρ1).tail))) (hx:bN ix ρ1=none::(bN ix ρ1).tail:=by rfl):lf ix ρ1 n it g pN pe Q:=by
 refine xz (fun τ=>∃v,τ=v::(bN ix ρ1).tail) f ⟨none,hx⟩ ?_ ?_
 .rintro k τ d hk rfl ⟨v,rfl⟩ K1 k1;exact hs k hk v K1 fun v'=>k1 _ ⟨v',rfl⟩
 .rintro τ ⟨v,rfl⟩;exact hq v
theorem cfR{ix:List (Option Nat)}{ρ1:PSt}{g:PTG}{pt:PTT}{pe:PTE}{Q:PKt}{n:Nat}{it:Nat->D}(p:Nat->Bool)(f:Nat->D)
  (hs:∀k,k<n->∀(v:Option PV) (K1:D->PSt->Prop) (K2:PSt->Prop),(∀v',p k=true->K1 (f k) (v'::(bN ix ρ1).tail))->(∀v',p k=false->K2 (v'::(bN ix ρ1).tail))->g (.dat (it k)) (v::(bN ix ρ1).tail) fun τ2=>pt τ2 fun ok τ3=>jB ok (pe τ3 fun p τ4=>K1 p.d τ4) (K2 τ3))
  (hq:∀v:Option PV,Q (.own (((List.range n).filter p).map f)) (gC ix ρ1 (v::(bN ix ρ1).tail))) (hx:bN ix ρ1=none::(bN ix ρ1).tail:=by rfl):lf ix ρ1 n it g pt pe Q:=by
 refine cfm (fun τ=>∃v,τ=v::(bN ix ρ1).tail) (fun k=>if p k=true then some (f k) else none) ⟨none,hx⟩ ?_ ?_
 .rintro k τ d hk rfl ⟨v,rfl⟩ K1 K2 k1 k2;exact hs k hk v K1 K2 (fun v' h=>k1 _ _ (by rw [if_pos h]) ⟨v',rfl⟩) fun v' h=>k2 _ (by rw [if_neg (by rw [h];decide)]) ⟨v',rfl⟩
 .rintro τ ⟨v,rfl⟩;rw [jY];exact hq v
section
variable {α:Type}{e:α->D}{xs:List α}{ρ1:PSt}{g:PTG}{pb:PTS}{nx bk:PSt->Prop}{rt:PV->PSt->Prop}
theorem DM(J:List α->PSt->Prop)(h0:J [] ρ1)
  (hs:∀pre x suf ρ,xs=pre++x::suf->J pre ρ->g (.dat (e x)) ρ fun ρ2=>pb { nx:=J (pre++[x]),rt:=rt,bk:=bk,ct:=J (pre++[x]) } ρ2) (hq:∀ρ,J xs ρ->nx ρ) :
  ∃I:Nat->PSt->Prop,I 0 ρ1/\(∀k ρ d,k<(xs.map e).length->d=itD (xs.map e) k->I k ρ->g (.dat d) ρ fun ρ2=>pb { nx:=I (k+1),rt:=rt,bk:=bk,ct:=I (k+1) } ρ2)/\∀ρ,I (xs.map e).length ρ->nx ρ:=by
 refine⟨fun k ρ=>J (xs.take k) ρ,by show J (xs.take 0) ρ1;rw [take_zero];exact h0,fun k ρ d hk ed hJ=>?_,fun ρ h=>hq ρ (by have h:J (xs.take (xs.map e).length) ρ:=h;rw [length_map,take_length] at h;exact h)⟩;rw [length_map] at hk;rw [o7 hk] at ed;subst ed;have ht:xs.take (k+1)=xs.take k++[xs[k]]:=by rw [take_succ,getElem?_eq_getElem hk];rfl
 show g _ ρ fun ρ2=>pb { nx:=J (xs.take (k+1)),rt:=rt,bk:=bk,ct:=J (xs.take (k+1)) } ρ2;rw [ht];exact hs _ _ (xs.drop (k+1)) ρ (by rw [getElem_cons_drop,take_append_drop]) hJ
end
theorem DN{n i:Nat}(h:i<n):ixN n (i:Int)=some i:=by
 unfold ixN;rw [if_pos (by omega),if_pos (by omega),toNat_natCast]
end L2
namespace L2
open PySem PySem.W PyProof.Rows
section
variable {n:Nat}{r:Nat->Nat}{cmp:Nat->Nat->(Bool->Shared->Prop)->Shared->Prop}{s:Shared}
def Ans(n:Nat)(r:Nat->Nat)(cmp:Nat->Nat->(Bool->Shared->Prop)->Shared->Prop)(s:Shared):Prop :=
 ∀(i j:Nat) (C:Bool->Shared->Prop),i<n->j<n->C (decide (r i<r j)) s->cmp i j C s
def kk(r:Nat->Nat)(p:Array Nat)(i:Nat):Nat:=r (p.getD i 0)
def Pm(n:Nat)(p:Array Nat):Prop:=p.toList.Perm (List.range n)
theorem Pm.size{p:Array Nat}(h:Pm n p):p.size=n:=by
 have:=List.Perm.length_eq h;rw [Array.length_toList,length_range] at this;exact this
theorem Pm.lt{p:Array Nat}(h:Pm n p){i:Nat}(hi:i<n):p.getD i 0<n:=by
 have hs:=h.size;have e:p.getD i 0=p[i]'(by omega):=by simp [Array.getD,hs,hi]
 rw [e];exact mem_range.mp (h.mem_iff.mp (Array.getElem_mem_toList (by omega)))
def Up(r:Nat->Nat)(p:Array Nat)(k:Nat):Prop:=∀i j,i<=j->j<k->kk r p i<=kk r p j
theorem Up.succ{p:Array Nat}{k:Nat}(h:Up r p k)(h1:1<=k)(g:kk r p (k - 1)<=kk r p k):Up r p (k+1):=fun i j hij hj=>by
 rcases lt_or_ge j k with z|z
 .exact h i j hij z
 .have:j=k:=by omega
  subst this
  rcases lt_or_ge i j with y|y
  .exact le_trans (h i (j - 1) (by omega) (by omega)) g
  .have:i=j:=by omega
   rw [this];exact Nat.le_refl _
theorem yF{α:Type}{c:Bool}{T₁ T₂:KasT α}{Q:α->Shared->Prop}(h1:c=true->T₁.kasWp cmp Q s)(h2:c=false->T₂.kasWp cmp Q s):(if c=true then T₁ else T₂).kasWp cmp Q s:=by
 cases c with
 | true=>exact h1 rfl
 | false=>exact h2 rfl
theorem yG(A:Ans n r cmp s){p:Array Nat}(hp:Pm n p){G:Nat->Shared->Prop}:∀(f m:Nat),1<=m->m+f<=n->Up r p m ->
  (∀m',m<=m'->m'<=m+f->Up r p m'->(m'=m+f\/(m'<m+f/\kk r p m'<kk r p (m' - 1)))->G m' s)->(kas_asc p f m).kasWp cmp G s
 | 0,m,h1,hf,hu,k=>k m (Nat.le_refl _) (Nat.le_refl _) hu (.inl rfl)
 | f+1,m,h1,hf,hu,k=>by
  show cmp (p.getD m 0) (p.getD (m - 1) 0) (fun c s'=>(if c=true then KasT.ret m else kas_asc p f (m+1)).kasWp cmp G s') s
  refine A _ _ _ (hp.lt (by omega)) (hp.lt (by omega)) (yF (fun e=>?_) fun e=>?_)
  .exact k m (Nat.le_refl _) (by omega) hu (.inr ⟨by omega,of_decide_eq_true e⟩)
  .have e':¬ (kk r p m<kk r p (m - 1)):=of_decide_eq_false e;exact yG A hp f (m+1) (by omega) (by omega) (hu.succ h1 (by omega)) fun m' a b c d=>k m' (by omega) (by omega) c (by omega)
end
end L2
namespace L2
open PySem PySem.Spec PyProof.Rows
def lxB:List Int->List Int->Bool
 | [],[]=>false
 | [],_::_=>true
 | _::_,[]=>false
 | x::xs,y::ys=>if x=y then lxB xs ys else decide (x<y)
theorem qz{x y:Int}{xs ys:List Int}:lxB (x::xs) (y::ys)=true ↔ x<y\/(x=y/\lxB xs ys=true):=by
 show (if x=y then lxB xs ys else decide (x<y))=true ↔ _
 split
 .rename_i h;subst h;simp
 .rename_i h;simp [h]
theorem yH:∀xs:List Int,lxB xs xs=false
 | []=>rfl
 | x::xs=>by show (if x=x then lxB xs xs else _)=false;rw [if_pos rfl];exact yH xs
theorem Cn:∀{xs ys zs:List Int},lxB xs ys=true->lxB ys zs=true->lxB xs zs=true
 | [],[],_,h,_=>by cases h
 | [],_::_,[],_,h=>by cases h
 | [],_::_,_::_,_,_=>rfl
 | _::_,[],_,h,_=>by cases h
 | _::_,_::_,[],_,h=>by cases h
 | x::xs,y::ys,z::zs,h1,h2=>by
  rw [qz] at h1 h2 ⊢
  rcases h1 with a|⟨rfl,a⟩
  .rcases h2 with b|⟨rfl,b⟩
   .left;omega
   .left;exact a
  .rcases h2 with b|⟨rfl,b⟩
   .left;exact b
   .right;exact⟨rfl,Cn a b⟩
theorem yI:∀{xs ys:List Int},lxB xs ys=false->lxB ys xs=false->xs=ys
 | [],[],_,_=>rfl
 | [],_::_,h,_=>by cases h
 | _::_,[],_,h=>by cases h
 | x::xs,y::ys,h1,h2=>by
  have a:¬ (x<y\/(x=y/\lxB xs ys=true)):=fun z=>by rw [qz.mpr z] at h1;cases h1
  have b:¬ (y<x\/(y=x/\lxB ys xs=true)):=fun z=>by rw [qz.mpr z] at h2;cases h2
  have e:x=y:=by omega
  subst e
  have a':lxB xs ys=false:=by
   cases g:lxB xs ys with
   | false=>rfl
   | true=>exact absurd (.inr ⟨rfl,g⟩) a
  have b':lxB ys xs=false:=by
   cases g:lxB ys xs with
   | false=>rfl
   | true=>exact absurd (.inr ⟨rfl,g⟩) b
  rw [yI a' b']
theorem yJ{α:Type}{p q:α->Bool}:∀{l:List α},(∀x∈l,p x=true->q x=true)->l.countP p<=l.countP q
 | [],_=>Nat.le_refl _
 | a::l,h=>by
  have ih:=yJ (l:=l) fun x hx=>h x (mem_cons_of_mem _ hx);rw [countP_cons,countP_cons];have:=h a (mem_cons_self ..)
  cases e:p a with
  | false=>simp only [false_eq_true,if_false];omega
  | true=>rw [this e];simp only [if_true];omega
theorem yK{α:Type}{p q:α->Bool}{y:α}(hp:p y=false)(hq:q y=true):∀{l:List α},y∈l->(∀x∈l,p x=true->q x=true)->l.countP p<l.countP q
 | [],hy,_=>by cases hy
 | a::l,hy,h=>by
  have h':∀x∈l,p x=true->q x=true:=fun x hx=>h x (mem_cons_of_mem _ hx);rw [countP_cons,countP_cons]
  rcases mem_cons.mp hy with rfl|z
  .have:=yJ h';rw [hp,hq];simp only [false_eq_true,if_false,if_true];omega
  .have ih:=yK hp hq z h';have:=h a (mem_cons_self ..)
   cases e:p a with
   | false=>simp only [false_eq_true,if_false];omega
   | true=>rw [this e];simp only [if_true];omega
def rkL(rows:List (List Int))(i:Nat):Nat:=rows.countP fun r=>lxB r (rows.getD i [])
theorem wm{rows:List (List Int)}{i j:Nat}(hi:i<rows.length)(hj:j<rows.length):lxB (rows.getD i []) (rows.getD j [])=decide (rkL rows i<rkL rows j):=by
 have mem:∀{i},i<rows.length->rows.getD i []∈rows:=fun {i} h=>by
  rw [getD_eq_getElem?_getD,getElem?_eq_getElem h];exact getElem_mem h
 have one:∀{i j},i<rows.length->lxB (rows.getD i []) (rows.getD j [])=true->rkL rows i<rkL rows j:=fun {i j} hi e =>
  yK (p:=fun r=>lxB r (rows.getD i [])) (q:=fun r=>lxB r (rows.getD j [])) (y:=rows.getD i []) (yH _) e (mem hi) fun x _ hx=>Cn (ys:=rows.getD i []) hx e
 cases e:lxB (rows.getD i []) (rows.getD j []) with
 | true=>rw [decide_eq_true (one hi e)]
 | false =>
  symm;refine decide_eq_false ?_
  cases g:lxB (rows.getD j []) (rows.getD i []) with
  | true=>have:=one hj g;omega
  | false =>
   have z:=yI e g;unfold rkL;rw [z];exact Nat.lt_irrefl _
section
variable {prog:Program}{w:World}{A:Around}{E:Value->Shared->Prop}{s:Shared}
def Ap(h:Heap)(a:Addr)(r:List Int):Prop:=r≠[]/\∃o xs n,h.get? a=some o/\o.cls=.type "tuple"/\o.data=.seq xs n/\IntsAre xs.toList r
theorem l8{vs:List Value}{ns:List Int}(h:IntsAre vs ns):vs.length=ns.length:=by
 induction h with
 | nil=>rfl
 | cons n t _ ih=>rw [length_cons,length_cons,ih]
theorem yL{b:Bool}{Q:Bool->Shared->Prop}:∀{us vs:List Value}{xs ys:List Int}{i:Nat}{fin:Bool},IntsAre us xs->IntsAre vs ys->fin=decide (xs.length<ys.length)->Q (lxB xs ys) s->PySem.W.KatLex prog w A b fin Q (us.zip vs) i s
 | _,_,_,_,i,fin,.nil,.nil,hf,h=>by subst hf;exact h
 | _,_,_,_,i,fin,.nil,.cons n t _,hf,h=>by
  subst hf;show Q (decide (0<_+1)) s;rw [decide_eq_true (succ_pos _)];exact h
 | _,_,_,_,i,fin,.cons n t _,.nil,hf,h=>by
  subst hf;show Q (decide (_+1<0)) s;rw [decide_eq_false (not_lt_zero _)];exact h
 | _,_,n::xs,m::ys,i,fin,.cons _ t a,.cons _ u c,hf,h=>by
  rw [zip_cons_cons];refine PySem.W.kat_cons (wpAny_eqBool_int ?_)
  refine PySem.W.kat_go (fun e=>PySem.W.kat_yes ?_) fun e=>PySem.W.kat_no ?_
  .have e':n=m:=by simpa using e
   refine yL a c ?_ ?_
   .rw [hf,length_cons,length_cons];exact decide_eq_decide.mpr (by omega)
   .have:lxB (n::xs) (m::ys)=lxB xs ys:=if_pos e';rw [this] at h;exact h
  .have e':¬ n=m:=by simpa using e
   have:lxB (n::xs) (m::ys)=decide (n<m):=if_neg e';rw [this] at h
   cases g:(b && i == 0) with
   | true=>exact oneLt_int h
   | false=>exact PySem.W.kat_one _ _ (lt_int h)
theorem Co{i j:Nat}{x y:Addr}{r q:List Int}{vs:List Value}{b:Bool}{C:Bool->Shared->Prop}(hx:vs.getD i Value.none=.ref x)(hy:vs.getD j Value.none=.ref y)(tx:Ap s.heap x r)(ty:Ap s.heap y q)(h:C (lxB r q) s) :
  PySem.W.kas_ask prog w A (tuples' b) vs i j C s:=by
 obtain⟨_,o,xs,n,e1,_,d1,i1⟩:=tx;obtain⟨_,o2,ys,n2,e2,_,d2,i2⟩:=ty;unfold PySem.W.kas_ask;rw [hx,hy];refine PySem.W.kat_lt e1 d1 e2 d2 (yL i1 i2 ?_ h);rw [<- l8 i1,<- l8 i2,Array.length_toList,Array.length_toList]
theorem wn{h:Heap}:∀{prs:List (Addr×List Int)},(∀pr∈prs,Ap h pr.1 pr.2)->∃fs:List Value,fs.length=prs.length/\(∀v∈fs,∃i t,v=Value.int i t)/\PySem.W.KatTups h (prs.map fun pr=>Value.ref pr.1) fs
 | [],_=>⟨[],rfl,nofun,trivial⟩
 | pr::prs,hh=>by
  obtain⟨fs,hl,hi,ht⟩:=wn (prs:=prs) fun q hq=>hh q (mem_cons_of_mem _ hq);obtain⟨ne,o,xs,n,e,c,d,ia⟩:=hh pr (mem_cons_self ..);obtain⟨a,l⟩:=pr;dsimp only at ne e ia;obtain⟨xl⟩:=xs;have ia:IntsAre xl l:=ia
  match xl,l,ia,ne,d with
  | _,_,.nil,ne,_=>exact absurd rfl ne
  | .int i t::vs,_,.cons _ _ r,_,d =>
   refine⟨.int i t::fs,by rw [length_cons,length_cons,hl],fun v hv=>?_,PySem.W.KatTups.cons e c d (by simp) ht⟩
   rcases mem_cons.mp hv with rfl|hv
   .exact⟨i,t,rfl⟩
   .exact hi v hv
end
section
variable {X:Cx}{K:PySem.W.Frag}
abbrev AW(r:List Int):D:=.tup (r.map .int)
theorem yM:∀{prs:List (Addr×List Int)}{us:List Value},cB (prs.map fun pr=>V.ref pr.1) us->us=prs.map fun pr=>Value.ref pr.1
 | [],_,.nil=>rfl
 | pr::prs,_,.cons r t=>by
  rw [map_cons,yM t,show _=Value.ref pr.1 from r]
theorem qA:∀prs:List (Addr×List Int),cB (prs.map fun pr=>V.ref pr.1) (prs.map fun pr=>Value.ref pr.1)
 | []=>.nil
 | pr::prs=>.cons (show eo (V.ref pr.1) (Value.ref pr.1) from rfl) (qA prs)
theorem tw{O:Addr->Prop}{H:Hp}:∀{rows:List (List Int)}{ys:List V},FVs K O H ys (rows.map AW)->∃prs:List (Addr×List Int),ys=prs.map (fun pr=>V.ref pr.1)/\prs.map (·.2)=rows/\∀pr∈prs,¬ O pr.1/\H pr.1=some (.tup (pr.2.map V.int))
 | [],_,.nil=>⟨[],rfl,rfl,nofun⟩
 | r::rows,_,.cons a b=>by
  obtain⟨prs,h1,h2,h3⟩:=tw (rows:=rows) b
  cases a with
  | tup n e f =>
   rw [f.ints] at e;refine⟨(_,r)::prs,by rw [h1];rfl,by rw [<- h2];rfl,fun pr hp=>?_⟩
   rcases mem_cons.mp hp with rfl|hp
   .exact⟨n,e⟩
   .exact h3 pr hp
theorem tz{O:Addr->Prop}{H:Hp}:∀{prs:List (Addr×List Int)},(∀pr∈prs,¬ O pr.1/\H pr.1=some (.tup (pr.2.map V.int)))->FVs K O H (prs.map fun pr=>V.ref pr.1) ((prs.map (·.2)).map AW)
 | [],_=>.nil
 | pr::prs,h=>.cons (.tup (h pr (mem_cons_self ..)).1 (h pr (mem_cons_self ..)).2 (FVs.of_ints _)) (tz fun q hq=>h q (mem_cons_of_mem _ hq))
end
theorem EJ{α β:Type}(f:α->β)(xs:List α):il (xs.map f) (some 1) none=(xs.tail).map f:=by
 rw [show (1:Int)=((1:Nat):Int) from rfl,p6,<- map_drop,drop_one]
section
variable {α β:Type}{e:α->D}{e':β->D}{xs:List α}{ys:List β}{ix:List (Option Nat)}{ρ1:PSt}{g:PTG}{pt:PTT}{pe:PTE}{Q:PKt}
theorem wo{γ:Type}(f:α->β->γ)(xs:List α)(ys:List β)(h:Nat->γ)(hh:∀k (h1:k<xs.length) (h2:k<ys.length),h k=f xs[k] ys[k]):(List.range (min xs.length ys.length)).map h=(xs.zip ys).map fun p=>f p.1 p.2:=by
 apply ext_getElem?;intro i;rw [getElem?_map,getElem?_map]
 by_cases hi:i<min xs.length ys.length
 .have h1:i<xs.length:=by omega
  have h2:i<ys.length:=by omega
  rw [getElem?_range hi,getElem?_eq_getElem (by rw [length_zip];exact hi),getElem_zip];exact congrArg some (hh i h1 h2)
 .rw [getElem?_eq_none (by rw [length_range];omega),getElem?_eq_none (by rw [length_zip];omega)];rfl
theorem cmZ{it:Nat->D}{n:Nat}(f:α->β->D)
  (hs:∀a b,(a,b)∈xs.zip ys->∀(v w:Option PV) (K1:D->PSt->Prop),(∀v' w',K1 (f a b) (v'::w'::(bN ix ρ1).tail.tail))->g (.dat (.tup [e a,e' b])) (v::w::(bN ix ρ1).tail.tail) fun τ2=>pe τ2 fun p τ4=>K1 p.d τ4)
  (hq:∀v w:Option PV,Q (.own ((xs.zip ys).map fun p=>f p.1 p.2)) (gC ix ρ1 (v::w::(bN ix ρ1).tail.tail))) (hx:bN ix ρ1=none::none::(bN ix ρ1).tail.tail:=by rfl)
  (hn:n=min (xs.map e).length (ys.map e').length:=by rfl) (hit:∀k,it k=.tup [itD (xs.map e) k,itD (ys.map e') k]:=by intro k;rfl):lf ix ρ1 n it g pN pe Q:=by
 rw [length_map,length_map] at hn;subst hn
 by_cases h0:0<min xs.length ys.length
 .have ga:∀k,k<min xs.length ys.length->∃h1:k<xs.length,∃h2:k<ys.length,it k=.tup [e xs[k],e' ys[k]]:=fun k hk=>⟨by omega,by omega,by rw [hit,o7 (by omega),o7 (by omega)]⟩
  have hx0:0<xs.length:=by omega
  have hy0:0<ys.length:=by omega
  refine xz (fun τ=>∃v w,τ=v::w::(bN ix ρ1).tail.tail) (fun k=>f (xs.getD k xs[0]) (ys.getD k ys[0])) ⟨none,none,hx⟩ ?_ ?_
  .rintro k τ d hk rfl ⟨v,w,rfl⟩ K1 k1;obtain⟨h1,h2,ek⟩:=ga k hk;rw [ek];have g1:xs.getD k xs[0]=xs[k]:=by rw [getD_eq_getElem?_getD,getElem?_eq_getElem h1];rfl
   have g2:ys.getD k ys[0]=ys[k]:=by rw [getD_eq_getElem?_getD,getElem?_eq_getElem h2];rfl
   rw [g1,g2] at k1;refine hs _ _ ?_ v w K1 fun v' w'=>k1 _ ⟨v',w',rfl⟩;refine mem_iff_getElem.mpr ⟨k,by rw [length_zip];exact hk,by rw [getElem_zip]⟩
  .rintro τ ⟨v,w,rfl⟩;rw [wo f xs ys _ fun k h1 h2=>by rw [getD_eq_getElem?_getD,getElem?_eq_getElem h1,getD_eq_getElem?_getD,getElem?_eq_getElem h2];rfl];exact hq v w
 .refine xz (fun τ=>∃v w,τ=v::w::(bN ix ρ1).tail.tail) (fun _=>.non) ⟨none,none,hx⟩ (fun k τ d hk=>by omega) ?_;rintro τ ⟨v,w,rfl⟩;have e1:min xs.length ys.length=0:=by omega
  have e2:xs.zip ys=[]:=length_eq_zero_iff.mp (by rw [length_zip];exact e1);have:=hq v w;rw [e2] at this;rw [e1];exact this
end
theorem cm2{α:Type}{e:α->D}{xs:List α}{ix:List (Option Nat)}{ρ1:PSt}{g:PTG}{pe:PTE}{Q:PKt}(f:α->D)
  (hs:∀x∈xs,∀(v w:Option PV) (K1:D->PSt->Prop),(∀v' w',K1 (f x) (v'::w'::(bN ix ρ1).tail.tail))->g (.dat (e x)) (v::w::(bN ix ρ1).tail.tail) fun τ2=>pe τ2 fun p τ4=>K1 p.d τ4)
  (hq:∀v w:Option PV,Q (.own (xs.map f)) (gC ix ρ1 (v::w::(bN ix ρ1).tail.tail))) (hx:bN ix ρ1=none::none::(bN ix ρ1).tail.tail:=by rfl):lf ix ρ1 (xs.map e).length (itD (xs.map e)) g pN pe Q:=by
 refine Cm (fun τ=>∃v w,τ=v::w::(bN ix ρ1).tail.tail) f ⟨none,none,hx⟩ ?_ ?_
 .rintro x hx τ ⟨v,w,rfl⟩ K1 k1;exact hs x hx v w K1 fun v' w'=>k1 _ ⟨v',w',rfl⟩
 .rintro τ ⟨v,w,rfl⟩;exact hq v w
section
variable {X:Cx}{K:PySem.W.Frag}
def yN(K:PySem.W.Frag):R2:=fun x y H Q=>∃a b ys,x=.ref a/\y=.ref b/\SqT K H a []/\SqT K H b ys/\Q (.ref b) H
theorem xM:OpR X (binaryOp .Add) (yN X.K):=by
 intro pins s σ H x y v u Q I rx ry h;obtain⟨a,b,ys,rfl,rfl,ha,hb,q⟩:=h;cases rx;cases ry;obtain⟨its,r1,p1,_⟩:=I.tuple ha;obtain⟨its2,r2,p2,_⟩:=I.tuple hb;have e0:its=[]:=r1.nil_iff.mpr rfl;subst e0;obtain⟨⟨cls,dd,data,sl⟩,ho,hc,n,hd⟩:=id p1;obtain⟨⟨cls2,dd2,data2,sl2⟩,ho2,hc2,n2,hd2⟩:=id p2;simp only at hc hd hc2 hd2;subst hc hd hc2 hd2;exact concat_meets ⟨_,ho,rfl⟩ ⟨_,ho2,rfl⟩ noFill_tuple_add seq_tuple_add PySem.F.slot_tuple_add PySem.F.entry_tuple_add (PySem.F.args_tuple_add_2 _ _) (tuple_addW0 a b _ _ n n2 dd dd2 sl sl2 rfl) ⟨ho,ho2,.ref b,H,I,rfl,q⟩
def xN(K:PySem.W.Frag):R2:=fun x y H Q=>zH K x y H Q\/yN K x y H Q
theorem br(K:PySem.W.Frag)(e:X.K=K):OpR X (binaryOp .Add) (xN K):=OpR.or (Dt K e) (by subst e;exact xM)
def cp:F2
 | .tup a,.tup b,Q=>a.length+b.length<=1000000/\Q (.dat (.tup (a++b)))
 | a,b,Q=>Du a b Q
theorem aV:LO K (xN K) cp:=by
 intro O H x y a b Q Q' dom fx fy q k;unfold cp at q
 split at q
 .rename_i Q ds es
  cases ds with
  | cons d ds=>exact .inl (yu O H x y _ _ _ Q' dom fx fy ⟨nofun,q⟩ k)
  | nil =>
   obtain⟨p1,xs1,rfl,n1,e1,f1⟩:=fx.tup;obtain⟨p2,xs2,rfl,n2,e2,f2⟩:=fy.tup;cases f1;exact .inr ⟨p1,p2,xs2,rfl,rfl,SqT.of e1,SqT.of e2,k _ H _ q.2 (Gr.refl _) (.tup n2 e2 f2)⟩
 .exact .inl (yu O H x y _ _ _ Q' dom fx fy q k)
end
section
variable {X:Cx}
def Ey:Expr->Bool
 | .ListComp ..|.SetComp ..|.DictComp ..=>false
 | _=>true
theorem wq{o i e:Expr}{p:Pos}{l:Nat}{env:Env}(h:Ey e=true):swapsWithSole [.Subscript o i p] e l env=pure false:=by
 show swapsWith e (some (.Subscript o i p)) l env=pure false;cases e <;> first|rfl|cases h
theorem rQ{o i e:Expr}{p:Pos}{env:Env}:swappedStores [.Subscript o i p] e env=pure none:=rfl
theorem rR{o i e:Expr}{p:Pos}{te:TE}{g:TG}{pos:Pos}(he:PE X e te)(hg:PG X (.Subscript o i p) g)(hn:Ey e=true:=by rfl):PS X (.Assign [.Subscript o i p] e pos) (AL te g) :=
 sE he hg (wq hn) rQ rfl
end
def iw(K:PySem.W.Frag)(x:Str)(st:Stmt):Prop:=∃(f:Addr) (oc kV dc pm cd ct:Value) (od an:Option Addr) (sl:Array (Option Value)),PySem.W.nsIn K mainGlobals x=some (some (.ref f)) /\
 K.lookup f=some ⟨oc,od,.func (PySem.W.fnOf x x (cM st) (bV st) (ao st) .none kV dc pm an cd ct),sl⟩/\PySem.W.codeIn K cd x=true/\PySem.W.keepIn K (.ref f)=true
theorem Cp{K:PySem.W.Frag}{x:Str}{st:Stmt}{f:Addr}{oc kV dc pm cd ct:Value}{od an:Option Addr}{sl:Array (Option Value)}(a:PySem.W.nsIn K mainGlobals x=some (some (.ref f)))(l:K.lookup f=some ⟨oc,od,.func (PySem.W.fnOf x x (cM st) (bV st) (ao st) .none kV dc pm an cd ct),sl⟩)
  (c:PySem.W.codeIn K cd x=true) (k:PySem.W.keepIn K (.ref f)=true):iw K x st:=⟨f,oc,kV,dc,pm,cd,ct,od,an,sl,a,l,c,k⟩
theorem bW{K:PySem.W.Frag}{h:Heap}{mg:Str->Option Value}{x:Str}{st:Stmt}(q:iw K x st)(X:K.In h)(G:h.Ns mainGlobals mg):cm K mg x st:=by
 obtain⟨f,oc,kV,dc,pm,cd,ct,od,an,sl,a,l,c,k⟩:=q;exact .mk' X G a l c k
section
variable {X:Cx}{K:PySem.W.Frag}
def DO(i j:Int):Prop:=0<j/\j<18446744073709551616
abbrev Cq:=rI DO fun i j=>.int (i / j)
abbrev Cr:F2:=fI (fun _ j=>0<j/\j<18446744073709551616) fun i j=>.int (i / j)
theorem Cs{x y:Int}(h:y.natAbs<18446744073709551616):Builtin.divisionGoesByPylong x y=false:=by
 refine PyProof.noPylong_of_log2 ?_
 by_cases h0:y.natAbs=0
 .rw [h0];decide +kernel
 .have h64:y.natAbs.log2<64:=(log2_lt h0).mpr h;omega
theorem Aq:OpR X (binaryOp .FloorDiv) Cq:=opI fun i j _ _ _ _ _ hc q=>by
 have h1:(0:Int)<j:=hc.1;have h2:j<18446744073709551616:=hc.2;exact floordiv_int (by omega) (by rw [fdiv_eq_ediv_of_nonneg i (by omega)];exact q) (.inl (Cs (by omega)))
theorem xO:LO K Cq Cr:=CL fun _ _ _ _=>.int _
end
def o8:FM
 | a,[.str [b],.str [c]],Q=>(b≠c/\a.length<=1000000)/\Q (.dat (.str (a.map fun x=>if x=b then c else x)))
 | _,_,_=>False
theorem wt{b c:Nat}{l:List Nat}(h:b∉l):(l.map fun x=>if x=b then c else x)=l:=by
 have:∀x∈l,(if x=b then c else x)=id x:=fun x hx=>if_neg fun (e:x=b)=>h (by rw [<- e];exact hx);rw [map_congr_left this,map_id]
theorem wu(b c:Nat):∀parts:List Str,(∀p∈parts,b∉p.cps.toList)->((Str.join ⟨#[b]⟩ parts).cps.toList.map fun x=>if x=b then c else x)=(Str.join ⟨#[c]⟩ parts).cps.toList
 | [],_=>rfl
 | [p],h=>wt (h p (mem_singleton.mpr rfl))
 | p::q::r,h=>by
  have ih:=wu b c (q::r) fun a ha=>h a (mem_cons_of_mem _ ha);show ((p++⟨#[b]⟩++Str.join ⟨#[b]⟩ (q::r)).cps.toList.map fun x=>if x=b then c else x)=(p++⟨#[c]⟩++Str.join ⟨#[c]⟩ (q::r)).cps.toList;simp only [Str.cps_append,Array.toList_append,map_append];rw [ih,wt (h p mem_cons_self)];simp
theorem qB(l:List Nat)(b c:Nat):Txt.replace (S l) (S [b]) (S [c])=S (l.map fun x=>if x=b then c else x):=by
 have e:(Txt.replace (S l) ⟨#[b]⟩ ⟨#[c]⟩).cps.toList=(S l).cps.toList.map fun x=>if x=b then c else x:=by
  rw [StrLaws.replace_one,<- wu b c _ (StrLaws.split_free (S l) b),StrLaws.join_split]
 show Txt.replace (S l) ⟨#[b]⟩ ⟨#[c]⟩=_;generalize Txt.replace (S l) ⟨#[b]⟩ ⟨#[c]⟩=z at e;obtain⟨a⟩:=z;have e:a.toList=l.map fun x=>if x=b then c else x:=e
 show (⟨a⟩:Str)=⟨_⟩
 congr 1;rw [<- e]
theorem rS{M:Model}{Γ:PySem.Ctx}{p:Pos}{t:Sem Fin}{fs:List Frame}{s s':Shared}{e:End}(h:Runs M Γ p t fs s e s'):s.toks<=s'.toks:=by
 induction h with
 | done|raise|yield=>exact Nat.le_refl _
 | again _ _ ih|rule _ ih|«at» _ ih|load _ _ ih|update _ _ ih|loadIfAlive _ ih|point _ ih|alloc _ ih|ask _ ih|choose _ _ ih|os _ ih|handled _ ih|genState _ _ ih|stack _ ih|thread _ ih|newGen _ ih=>exact ih
 | fresh _ ih=>exact le_trans (le_succ _) ih
 | call _ _ i1 i2=>exact le_trans i1 i2
 | callSusp _ ih=>exact ih
 | resumeFresh _ _ _ _ i1 i2=>exact le_trans i1 i2
 | resumeSuspended _ _ _ _ i1 i2=>exact le_trans i1 i2
 | resumeJustStarted _ _ _ ih=>exact ih
 | resumeThrowFresh _ _ ih=>exact ih
 | resumeRunning _ _ ih=>exact ih
 | resumeFinished _ _ ih=>exact ih
 | segRet _ _ i1 i2=>exact le_trans i1 i2
 | segGen _ _ i1 i2=>exact le_trans i1 i2
 | segSuspOut _ _ ih=>exact ih
 | segSuspGen _ _ _ _ i1 i2=>exact le_trans i1 i2
theorem xP{M:Model}{Γ:PySem.Ctx}{p:Pos}{g:Nat}{r:Resume}{s s':Shared}{res:GenResult}(h:Wakes M Γ p g r s res s'):s.toks<=s'.toks:=by
 unfold Wakes at h
 split at h
 .exact h.elim
 .split at h
  .obtain⟨e,s1,h1,_,_,rfl⟩:=h;have z:=rS h1;exact z
  .rw [h.2];exact Nat.le_refl _
  .rw [h.2];exact Nat.le_refl _
 .obtain⟨e,s1,h1,_,_,rfl⟩:=h;have z:=rS h1;exact z
 .rw [h.2];exact Nat.le_refl _
 .rw [h.2];exact Nat.le_refl _
theorem yO{α:Type}{M:Model}{Γ:PySem.Ctx}{Q:α->Pos->Shared->Prop}{E:Value->Pos->Shared->Prop}(n:Nat)(t:Sem α) :
  ∀(p:Pos) (s:Shared),n<=s.toks->Sem.wp M Γ t (fun a p s'=>n<=s'.toks->Q a p s') (fun a p s'=>n<=s'.toks->E a p s') p s->Sem.wp M Γ t Q E p s:=by
 induction t with
 | pure x=>exact fun p s l h=>h l
 | raise v=>exact fun p s l h=>h l
 | unsupported|finish|yield|fork|await|register=>exact fun _ _ _ h=>h
 | rule _ k ih|«at» _ k ih|loadIfAlive _ k ih|point _ k ih|ask k ih|handled _ k ih|stack k ih|thread k ih=>exact fun p s l h=>ih _ _ _ l h
 | alloc _ k ih|os _ _ k ih|newGen _ k ih=>exact fun p s l h=>ih _ _ _ l h
 | fresh k ih=>exact fun p s l h=>ih _ _ _ (le_trans l (le_succ _)) h
 | load a _ k ih|genState a k ih=>exact fun p s l ⟨o,ho,h⟩=>⟨o,ho,ih _ _ _ l h⟩
 | update a _ f k ih|choose _ _ k ih=>exact fun p s l ⟨ha,h⟩=>⟨ha,ih _ _ _ l h⟩
 | call c h g l k ih=>exact fun p s l ⟨r,s',hr,h⟩=>⟨r,s',hr,ih _ _ _ (le_trans l (rS hr)) h⟩
 | resume g r l k ih=>exact fun p s l ⟨res,s',hw,h⟩=>⟨res,s',hw,ih _ _ _ (le_trans l (xP hw)) h⟩
theorem xQ{α:Type}{M:Model}{A:Around}{t:Sem α}{Q:α->Shared->Prop}{E:Value->Shared->Prop}{s:Shared}
  (h:wpAny M A t (fun a s'=>s.toks<=s'.toks->Q a s') (fun a s'=>s.toks<=s'.toks->E a s') s):wpAny M A t Q E s :=
 fun Γ p hΓ=>yO s.toks t p s (Nat.le_refl _) (h Γ p hΓ)
theorem thT{α:Type}{M:Model}{A:Around}{t:Sem α}{Q Q':α->Shared->Prop}{E:Value->Shared->Prop}{s:Shared}(h:wpAny M A t Q E s)(k:∀a s',s.toks<=s'.toks->Q a s'->Q' a s'):wpAny M A t Q' E s :=
 xQ (wpAny_mono h (fun a s' q l=>k a s' l q) fun _ _ q _=>q)
theorem tkK{α:Type}{M:Model}{Γ:PySem.Ctx}{t:Sem α}{Q Q1:α->Pos->Shared->Prop}{E:Value->Pos->Shared->Prop}{p:Pos}{s:Shared}(hl:0<s.toks)(h:Sem.wp M Γ t Q1 E p s)(k:∀a p s',0<s'.toks->Q1 a p s'->Q a p s'):Sem.wp M Γ t Q E p s :=
 yO 1 t p s hl (Sem.wp_mono M Γ t (fun a p s' q l=>k a p s' l q) (fun e p s' (q:E e p s') (_:1<=s'.toks)=>q) p s h)
theorem DP{β:Type}{M:Model}{Γ:PySem.Ctx}{n:Str}{f:Value->Sem β}{Q Q1:β->Pos->Shared->Prop}{E:Value->Pos->Shared->Prop}{p:Pos}{s:Shared}(h:Sem.wp M Γ (mkText n >>= f) Q1 E p s)(k:∀a p s',0<s'.toks->Q1 a p s'->Q a p s'):Sem.wp M Γ (mkText n >>= f) Q E p s:=by
 rw [Sem.wp_bind'] at h ⊢;have h:Sem.wp M Γ (f (.str n s.toks)) Q1 E p { s with toks:=s.toks+1 }:=h;show Sem.wp M Γ (f (.str n s.toks)) Q E p { s with toks:=s.toks+1 };exact tkK (succ_pos _) h k
theorem xR{M:Model}{Γ:PySem.Ctx}{env:Env}{n:Str}{v:Value}{Q:Unit->Pos->Shared->Prop}{E:Value->Pos->Shared->Prop}{p:Pos}{s:Shared}(hk:env.scope.kind=.function)(hl:env.kindOf n=some .local)
  (h:Sem.wp M Γ (storeName env n v) (fun a p' s'=>0<s'.toks->Q a p' s') E p s):Sem.wp M Γ (storeName env n v) Q E p s:=by
 rw [storeName_local hl (by rw [hk];rfl)] at h ⊢;unfold nsSet at h ⊢;rw [Sem.wp_bind'] at h ⊢;refine Sem.wp_mono M Γ _ (fun a p1 s1 h1=>?_) (fun _ _ _ q=>q) p s h;exact DP h1 fun a p s l q=>q l
theorem Ct{M:Model}{A:Around}{scope:Scope}{gl bl:Addr}{n:Str}{v:Value}{r:List (Str×Value)}{qual:Str}{func:Option Addr}{code:Value}{Q:Env->Shared->Prop}{E:Value->Shared->Prop}{s:Shared}
  (hk:scope.kind=.function) (hl:scope.names.lookup n=some .local) (h:wpAny M A (newFunctionEnv scope gl [] ((n,v)::r) qual func code none bl) (fun e s'=>0<s'.toks->Q e s') E s) :
  wpAny M A (newFunctionEnv scope gl [] ((n,v)::r) qual func code none bl) Q E s:=by
 intro Γ p hΓ;have h:=h Γ p hΓ;unfold newFunctionEnv at h ⊢;rw [Sem.wp_bind'] at h ⊢;refine Sem.wp_mono M Γ _ (fun a p1 s1 h1=>?_) (fun _ _ _ q=>q) p s h;rw [Sem.wp_bind'] at h1 ⊢;refine Sem.wp_mono M Γ _ (fun c p2 s2 h2=>?_) (fun _ _ _ q=>q) p1 s1 h1;dsimp only at h2 ⊢;rw [Sem.wp_bind',forIn_cons,Sem.wp_bind',Sem.wp_bind'] at h2 ⊢;refine xR (env:={ scope,locals:=a,globals:=gl,cells:=c,qual,func,code,frame:=some a,builtins:=bl }) hk hl (Sem.wp_mono M Γ _ (fun x p3 s3 h3 l=>?_) (fun _ _ _ q=>q) p2 s2 h2)
 exact tkK l h3 fun y p4 s4 l4 h4=>tkK l4 h4 fun z p5 s5 l5 h5=>tkK l5 h5 fun _ _ _ l6 q=>q l6
def PET(X:Cx)(e:Expr)(t:TE):Prop :=
 ∀(pins:List (Addr×Obj)) (s:Shared) (σ:St) (H:Hp) (Q:VK),Inv X pins σ H s->0<s.toks->t σ H Q->wpAny (model X.prog X.w) X.A (eval e X.env) (EP X pins σ Q) X.xe s
def PAT(X:Cx)(es:List Expr)(t:TA):Prop :=
 ∀(pos:Pos) (pins:List (Addr×Obj)) (s:Shared) (σ:St) (H:Hp) (Q:List V->Hp->Prop),Inv X pins σ H s->0<s.toks->t σ H Q->wpAny (model X.prog X.w) X.A (spliced (backTo pos (starEach es X.env))) (AP X pins σ Q) X.xe s
def PST(X:Cx)(st:Stmt)(t:TS):Prop :=
 ∀(pins:List (Addr×Obj)) (s:Shared) (σ:St) (H:Hp) (D:uC),Inv X pins σ H s->0<s.toks->t D σ H->wpAny (model X.prog X.w) X.A (exec st X.env) (SP X pins D) X.xe s
def AX(X:Cx)(st:List Stmt)(t:TS):Prop :=
 ∀(pins:List (Addr×Obj)) (s:Shared) (σ:St) (H:Hp) (D:uC),Inv X pins σ H s->0<s.toks->t D σ H->wpAny (model X.prog X.w) X.A (execs st X.env) (SP X pins D) X.xe s
section
variable {X:Cx}
theorem AX.nox{st:List Stmt}{t:TS}(h:AX X.nox st t):AX X st t:=fun pins s σ H D I k hw =>
 wpAny_mono (h pins s σ H D (I.wish _) k hw) (fun _ _ q=>q.unwish) fun _ _ z=>z.elim
theorem xS{st:Stmt}{t:TS}(h1:PST X st t):AX X [st] t:=by
 intro pins s σ H D I k h;refine wpAny_execs_cons (thn (h1 pins s σ H D I k h) fun f s1 q=>?_)
 cases f with
 | next=>exact wpAny_execs_nil q
 | ret v=>exact q
 | brk=>exact q
 | cont=>exact q
theorem Ar{e:Expr}{te:TE}{pos:Pos}(he:PET X e te):PST X (.Return (some e) pos) (CS te):=fun pins s σ H D I k h =>
 wpAny_Return_some (thn (he pins s σ H _ I k h) fun v s1 ⟨x,H1,I1,r1,q1⟩=>⟨x,σ,H1,I1,r1,q1⟩)
theorem As{a:Expr}{pos:Pos}{op}{t:TE}(h:PET X a t):PET X (.BoolOp op [a] pos) t:=fun pins s σ H Q I k hw=>BoolOp_one (h pins s σ H Q I k hw)
theorem At{a b:Expr}{rest:List Expr}{pos:Pos}{ta tb:TE}(ha:PE X a ta)(hb:PET X (.BoolOp .And (b::rest) pos) tb):PET X (.BoolOp .And (a::b::rest) pos) (wS ta tb):=by
 intro pins s σ H Q I k h;refine BoolOp_and (thT (ha pins s σ H _ I h) fun v s1 l ⟨x,H1,I1,r1,q1⟩=>?_);obtain⟨c,rfl,q1⟩:=q1;cases r1;refine wpAny_truthy_bool ?_
 cases c with
 | true=>exact hb pins s1 σ H1 Q I1 (Nat.lt_of_lt_of_le k l) q1
 | false=>exact⟨.bl false,H1,I1,rfl,q1⟩
theorem paT{e:Expr}{es:List Expr}{te:TE}{t:TA}(ha:PET X e te)(hr:PA X es t)(hn:nSt e=true:=by rfl):PAT X (e::es) (bR te t):=by
 intro pos pins s σ H Q I k h;rw [gP hn];show wpAny _ _ (spliced ((false,eval e X.env)::backTo pos (starEach es X.env))) _ _ s;refine Calls.spliced_cons (thn (ha pins s σ H _ I k h) fun u s1 ⟨x,H1,I1,r1,q1⟩=>?_);exact thn (hr pos pins s1 σ H1 _ I1 q1) fun us s2 ⟨xs,H2,I2,r2,q2⟩=>⟨x::xs,H2,I2,.cons r1 r2,q2⟩
theorem xT{k:Nat}{x:Str}{ps:List Str}{dvs:List V}{sp:Sp}{e:Expr}{es:List Expr}{t:TA}{p pos:Pos}(j:Nat)(C:CJ X.prog X.w X.K X.mg X.base k x ps dvs sp)(hr:iA k X.A)(hj:j<=dvs.length)(ha:PAT X (e::es) t)(hg:Gl X x:=by rfl)(hdb:(x == ("__debug__":Str))=false:=by decide)(hn:nSt e=true:=by rfl)(hp:es.all nSt=true:=by rfl) :
  PET X (.Call (.Name x p) (e::es) [] pos) (jx sp (dvs.drop j) E0 t):=by
 obtain⟨f,fd,F,hb,hk,hm⟩:=C.ex;obtain⟨ds,rv,hb⟩:=hb j hj;intro pins s σ H Q I z h;refine wpAny_Call_Name_kw (iC I hg hm ?_ hdb);refine PySem.W.callWith_K (h₀:=X.base) I.ok.mod.kin hk (thn (ha pos pins s σ H _ I z h) fun us s1 ⟨vs,H1,I1,r,q⟩=>⟨I1.kIn,?_⟩) (gP hn) (gQ hp);exact yo F hr hb rv Bs I1 r q
def tD:V->List V->Hp->VK->Prop:=fun x xs H Q=>∃a b c,x=.str (S a)/\xs=[.str (S [b]),.str (S [c])]/\b≠c/\a.length<=1000000/\Q (.str (S (a.map fun x=>if x=b then c else x))) H
theorem uo{K:PySem.W.Frag}:LM K tD o8:=by
 intro O H l xs as Q Q' dom hl fs q k;unfold o8 at q
 split at q
 .cases fs with
  | cons a b =>
   cases b with
   | cons b n =>
    cases n;rw [a.str.1,b.str.1];exact⟨_,_,_,rfl,rfl,q.1.1,q.1.2,k _ H _ q.2 (Gr.refl _) (.str _ (by rw [length_map];exact hl))⟩
 .exact q.elim
theorem rT(K:PySem.W.Frag)(eK:X.K=K){o:Expr}{to:TE}{a b:Str}{la lb:List Nat}{i j:Nat}{p1 p2 apos cpos:Pos}(e1:a=S la)(e2:b=S lb)(ho:PE X o to)
  (hbase:attributeBase o "replace" X.env (eval o X.env)=eval o X.env:=by rfl) (hline:(apos.endLine == cpos.line)=true:=by rfl) :
  PET X (.Call (.Attribute o "replace" apos) [.Constant (.str a) i p1,.Constant (.str b) j p2] [] cpos) (tBM K "str" tD to (bR (tC (.str (S la))) (bR (tC (.str (S lb))) jO))):=by
 subst eK e1 e2;intro pins s σ H Q I k h;refine wpAny_Call_method_late hbase (by rfl) hline rfl (thT (ho pins s σ H _ I h) fun v s1 l ⟨x,H1,I1,r1,ty,q1⟩=>?_);obtain⟨h1,h2⟩:=u9 I1 r1 ty;refine⟨"str","str.replace",PySem.F.plainAttrs_str,PySem.F.slot_str_replace,PySem.F.type_str_replace,h1,h2,?_⟩;refine Calls.callWith_builtin (by rfl) (Calls.evalArgs_plain ?_);refine Calls.spliced_cons (Calls.Constant_str (k:=i) (pos:=p1) ?_)
 show wpAny _ _ (spliced ((false,eval (.Constant (.str (S lb)) j p2) X.env)::[])) _ _ _;refine Calls.spliced_cons (Calls.Constant_str (k:=j) (pos:=p2) (Calls.spliced_nil ?_));obtain⟨aa,b,c,rfl,e,hne,hz,q⟩:=q1;obtain⟨t,rfl⟩:=r1;have e1:S la=S [b]:=V.str.inj (List.cons.inj e).1;have e2:S lb=S [c]:=V.str.inj (List.cons.inj (List.cons.inj e).2).1;rw [e1,e2]
 refine SC.replace (ne_of_gt (Nat.lt_of_lt_of_le k l)) (succ_ne_zero _) (ne_of_lt (lt_succ_self _)) ?_ ?_ fun t' m=>?_
 .cases hq:(S [b] == S [c])
  .rfl
  .exact absurd (List.cons.inj (congrArg (fun z:Str=>z.cps.toList) (eq_of_beq hq))).1 hne
 .have z1:(S [c]).length=1:=ke _;have z2:(S aa).length=aa.length:=ke _;rw [z1,z2];omega
 .rw [qB];exact⟨.str _,H1,I1.tok _,⟨_,rfl⟩,q⟩
end
section
variable {P:Program}{w:World}{K:PySem.W.Frag}{mg:Str->Option Value}{base:Heap}{x:Str}{st:Stmt}{N ps:List Str}{k:Nat}{sp:Sp}
theorem Fun.okT{n:Str}{f:Addr}{fd:FuncData}(F:Fun K x x st f fd)(S:aI N (n::ps) (ao st))(hn:(ao st).names.lookup n=some .local)(len:∀vs H Q E,sp vs H Q E->vs.length=(n::ps).length)
  (hbody:∀(cdv:Value) (A:Around) (outer:List Env) (s:Shared) (H:Hp) (vs:List V) (Q:VK) (E:XK),iA k (A.deeper (envOfC x (ao st) s.heap.objs.size f cdv))->sp vs H Q E ->
   ∃t,AX (nh CX0 P w K mg base N x (ao st) f cdv A outer s H E).nox (bV st) t/\t { nx:=fun _ H'=>Q .non H',rt:=Q } (start N vs) H):pQ P w K mg base CX0 (k+1) f fd (n::ps) sp:=by
 obtain⟨oc,od,kV,doc,pm,an,cdv,ct,osl,rfl,lk,hcd⟩:=F.ex;refine⟨len,fun A outer s H args us vs Q E hr e0 hb r hsp=>?_⟩;have hl:=len _ _ _ _ hsp;have KX:K.In s.heap:=e0.mod.kin.keeps fun b o e=>(e0.bs b o e).1;have lim:s.heap.NoLimit:=e0.mod.nolimit.keeps fun b o e=>(e0.bs b o e).1
 obtain⟨u0,us,rfl⟩:∃u0 us',us=u0::us':=by
  cases us with
  | nil=>have:=r.length;rw [hl] at this;cases this
  | cons a b=>exact⟨a,b,rfl⟩
 have hkind:∀y∈(n::ps).zip (u0::us),(ao st).names.lookup y.1=some .local\/((ao st).names.lookup y.1=some .cell/\((cellsFrom (s.heap.objs.size+1) (ao st).names []).lookup y.1).isSome=true):=fun ⟨n,v⟩ hy=>by
  rcases S.par n (of_mem_zip hy).1 with q|q
  .exact .inl q
  .exact .inr ⟨q,PySem.W.cellsFrom_some _ _ _ (.inl q)⟩
 refine codeAny_call_function hr.depth (KX _ _ lk) rfl S.co S.gen rfl (PySem.W.codeRec_of KX hcd) (hb _ _ _ _ ?_);refine Ct S.kind hn (wpAny_newFunctionEnv_cells S.kind hkind fun env he s1 x0 htk=>?_);subst he;refine⟨lim.keeps x0.toInCall.keep,codeAny_func ?_⟩;obtain⟨t,ht,hq⟩:=hbody cdv A outer s H vs Q E (hr.deeper _) hsp;have I:=lI (CX:=CX0) (E:=E) S hr.hd e0 hl r x0;refine wpAny_mono (ht.nox [] s1 (start N vs) H _ I htk hq) (fun fl s' hs=>?_) fun e s' hs=>hs
 have fin:∀{σ':St}{H':Hp}{v:V}{u:Value},Inv (nh CX0 P w K mg base N x (ao st) f cdv A outer s H E) [] σ' H' s'->eo v u->Q v H'->CE outer P w H s Q u s' :=
  fun {σ' H' v u} J rv q=>⟨v,H',J.os,J.bare,J.base,J.hok,rv,q⟩
 cases fl with
 | ret u =>
  obtain⟨v,σ',H',J,rv,q⟩:=hs;exact fin J rv q
 | next =>
  obtain⟨σ',H',J,q⟩:=hs;exact fin (v:=V.non) (u:=Value.none) J rfl q
 | brk =>
  obtain⟨_,_,_,q⟩:=hs;exact False.elim q
 | cont =>
  obtain⟨_,_,_,q⟩:=hs;exact False.elim q
theorem cm.okT{n:Str}(D:cm K mg x st)(S:aI N (n::ps) (ao st))
  (hb:∀(kV doc pm:Value) (an:Option Addr) (cdv ct:Value) (us:List Value),us.length=(n::ps).length->bindArgs (PySem.W.fnOf x x (cM st) (bV st) (ao st) .none kV doc pm an cdv ct) ⟨us,[]⟩=pure ((n::ps).zip us))
  (len:∀vs H Q E,sp vs H Q E->vs.length=(n::ps).length)
  (hbody:∀(f:Addr) (cdv:Value) (A:Around) (outer:List Env) (s:Shared) (H:Hp) (vs:List V) (Q:VK) (E:XK),iA k (A.deeper (envOfC x (ao st) s.heap.objs.size f cdv))->sp vs H Q E ->
   ∃t,AX (nh CX0 P w K mg base N x (ao st) f cdv A outer s H E).nox (bV st) t/\t { nx:=fun _ H'=>Q .non H',rt:=Q } (start N vs) H) (hn:(ao st).names.lookup n=some .local:=by rfl):Cal P w K mg base (k+1) x (n::ps) sp:=by
 obtain⟨f,fd,F,hm⟩:=D.ex
 have lk:∃oc od osl,K.lookup f=some ⟨oc,od,.func fd,osl⟩:=by
  obtain⟨oc,od,kV,doc,pm,an,cdv,ct,osl,rfl,lk,hcd⟩:=F.ex;exact⟨oc,od,osl,lk⟩
 exact⟨f,fd,F.okT S hn len fun cdv A outer s H vs Q E hr h=>hbody f cdv A outer s H vs Q E hr h,F.binds hb,F.kp,hm,lk⟩
end
section
variable {P:Program}{w:World}{A:Around}{R:Result->Shared->Prop}{I T B:Addr}{xs:Array Value}
theorem Au(hh:A.handled=none)(hn:T≠I){z:Shared}{v:Value}{c:Nat}(hB1:B≠I)(hB:z.heap.get? B=some { cls:=.type "list",dict:=none,data:=.seq #[v,v] c,slots:=#[] })
  (it:z.heap.IsTupleIter I T xs.size) (hT:z.heap.IsTuple T xs)
  (k:∀h' tk,(∀b o,b≠I->b≠B->z.heap.get? b=some o->h'.get? b=some o)->R (.ok (.ret v)) { z with heap:=h',toks:=tk }) :
  codeAny (model P w) A (.builtin "min.loop" ⟨[.ref I,.none,.ref B],[]⟩) R z:=by
 refine codeAny_builtin F.entry_min_loop ?_;rw [Around.under_plainId F.plain_min_loop _];show wpAny _ A.in1 (seqItems? (.ref B) >>= _) _ _ z;refine wpAny_bind (wpAny_seqItems hB rfl ?_);show wpAny _ A.in1 (tryCatch (pyNext (.ref I)) _ >>= _) _ _ z;refine wpAny_bind (wpAny_tryCatch ((Walks.tuple (A:=A.in1) hh I T hn xs).done z _ _ ⟨it,hT⟩ fun h' tk old=>?_));have hB':=old B _ (by simpa using hB1) hB
 show wpAny _ A.in1 (updateSeq B (fun _=>#[]) >>= _) _ _ _;refine wpAny_bind (wpAny_updateSeq hB' rfl (wpAny_bind (wpAny_letGo (wpAny_pure ?_))));exact k _ tk fun b o h1 h2 e=>(Heap.get?_update_other _ _ (Ne.symm h2)).trans (old b o (by simpa using h1) e)
theorem Av(hh:A.handled=none)(hn:T≠I){z:Shared}{v x:Value}{c i:Nat}{bt:Bool}(hB1:B≠I)(hB2:B≠T)(hB:z.heap.get? B=some { cls:=.type "list",dict:=none,data:=.seq #[v,v] c,slots:=#[] })
  (it:z.heap.IsTupleIter I T i) (hT:z.heap.IsTuple T xs) (hx:xs[i]?=some x)
  (hc:∀(y:Shared) (Q:Value->Shared->Prop) (E:Value->Shared->Prop),(∀b o,b≠I->b≠B->z.heap.get? b=some o->y.heap.get? b=some o)->Q (.bool bt) y->wpAny (model P w) A.in1 (richCompare .Lt x v) Q E y)
  (k:∀h' tk c',(∀b o,b≠I->b≠B->z.heap.get? b=some o->h'.get? b=some o)->h'.IsTupleIter I T (i+1)->h'.IsTuple T xs->h'.get? B=some { cls:=.type "list",dict:=none,data:=.seq #[if bt then x else v,if bt then x else v] c',slots:=#[] } ->
   codeAny (model P w) A (.builtin "min.loop" ⟨[.ref I,.none,.ref B],[]⟩) R { z with heap:=h',toks:=tk }) :
  codeAny (model P w) A (.builtin "min.loop" ⟨[.ref I,.none,.ref B],[]⟩) R z:=by
 have hname:(toString "min"++toString ".loop":String)="min.loop":=by decide
 have hi:i<xs.size:=by
  by_cases h:i<xs.size
  .exact h
  .rw [Array.getElem?_eq_none (by omega)] at hx;cases hx
 refine codeAny_builtin F.entry_min_loop ?_;rw [Around.under_plainId F.plain_min_loop _];show wpAny _ A.in1 (seqItems? (.ref B) >>= _) _ _ z;refine wpAny_bind (wpAny_seqItems hB rfl ?_);show wpAny _ A.in1 (tryCatch (pyNext (.ref I)) _ >>= _) _ _ z;refine wpAny_bind (wpAny_tryCatch ((Walks.tuple (A:=A.in1) hh I T hn xs).item i z _ _ hi ⟨it,hT⟩ fun v' h' tk hv st old=>?_));have hv:xs[i]?=some v':=hv;rw [hx] at hv
 cases hv;have hB':=old B _ (by simpa using hB1) hB;show wpAny _ A.in1 (tryCatch (holding [x,x] (richCompare .Lt x v >>= _)) _ >>= _) _ _ _;refine wpAny_bind (wpAny_tryCatch (wpAny_holding (wpAny_bind (hc _ _ _ (fun b o h1 h2 e=>old b o (by simpa using h1) e) ?_))));refine wpAny_bind (wpAny_holding (wpAny_truthy_bool ?_));refine wpAny_bind (wpAny_letGo (wpAny_pure ?_))
 cases bt with
 | true =>
  simp only [if_true];refine wpAny_bind (wpAny_updateSeq hB' rfl (wpAny_bind (wpAny_letGo ?_)));rw [hname]
  refine wpAny_pure ⟨plainId_quiet F.plain_min_loop _,k _ tk _ (fun b o h1 h2 e=>(Heap.get?_update_other _ _ (Ne.symm h2)).trans (old b o (by simpa using h1) e)) ?_ ?_ (Heap.get?_update_self _ hB' rfl)⟩
  .exact st.1.at fun o e=>(Heap.get?_update_other _ _ hB1).trans e
  .exact st.2.at fun o e=>(Heap.get?_update_other _ _ hB2).trans e
 | false =>
  simp only [false_eq_true,if_false];refine wpAny_bind (wpAny_letGo ?_);rw [hname];exact wpAny_pure ⟨plainId_quiet F.plain_min_loop _,k _ tk _ (fun b o h1 h2 e=>old b o (by simpa using h1) e) st.1 st.2 hB'⟩
theorem xU(hh:A.handled=none)(hn:T≠I){z:Shared}{x:Value}{c:Nat}(hB1:B≠I)(hB2:B≠T)(hB:z.heap.get? B=some { cls:=.type "list",dict:=none,data:=.seq #[] c,slots:=#[] })
  (it:z.heap.IsTupleIter I T 0) (hT:z.heap.IsTuple T xs) (hx:xs[0]?=some x)
  (k:∀h' tk c',(∀b o,b≠I->b≠B->z.heap.get? b=some o->h'.get? b=some o)->h'.IsTupleIter I T 1->h'.IsTuple T xs->h'.get? B=some { cls:=.type "list",dict:=none,data:=.seq #[x,x] c',slots:=#[] } ->
   codeAny (model P w) A (.builtin "min.loop" ⟨[.ref I,.none,.ref B],[]⟩) R { z with heap:=h',toks:=tk }) :
  codeAny (model P w) A (.builtin "min.loop" ⟨[.ref I,.none,.ref B],[]⟩) R z:=by
 have hname:(toString "min"++toString ".loop":String)="min.loop":=by decide
 have hi:0<xs.size:=by
  by_cases h:0<xs.size
  .exact h
  .rw [Array.getElem?_eq_none (by omega)] at hx;cases hx
 refine codeAny_builtin F.entry_min_loop ?_;rw [Around.under_plainId F.plain_min_loop _];show wpAny _ A.in1 (seqItems? (.ref B) >>= _) _ _ z;refine wpAny_bind (wpAny_seqItems hB rfl ?_);show wpAny _ A.in1 (tryCatch (pyNext (.ref I)) _ >>= _) _ _ z;refine wpAny_bind (wpAny_tryCatch ((Walks.tuple (A:=A.in1) hh I T hn xs).item 0 z _ _ hi ⟨it,hT⟩ fun v' h' tk hv st old=>?_));have hv:xs[0]?=some v':=hv;rw [hx] at hv
 cases hv;have hB':=old B _ (by simpa using hB1) hB;show wpAny _ A.in1 (updateSeq B (fun _=>#[x,x]) >>= _) _ _ _;refine wpAny_bind (wpAny_updateSeq hB' rfl ?_);rw [hname]
 refine wpAny_pure ⟨plainId_quiet F.plain_min_loop _,k _ tk _ (fun b o h1 h2 e=>(Heap.get?_update_other _ _ (Ne.symm h2)).trans (old b o (by simpa using h1) e)) ?_ ?_ (Heap.get?_update_self _ hB' rfl)⟩
 .exact st.1.at fun o e=>(Heap.get?_update_other _ _ hB1).trans e
 .exact st.2.at fun o e=>(Heap.get?_update_other _ _ hB2).trans e
end
theorem uq{P:Program}{w:World}{A:Around}{z:Shared}{a b:Value}{bt:Bool}{Q:Value->Shared->Prop}{E:Value->Shared->Prop}(hh:A.handled=none)
  (hc:∀(y:Shared) (Q:Value->Shared->Prop) (E:Value->Shared->Prop),(∀c o,z.heap.get? c=some o->y.heap.get? c=some o)->Q (.bool bt) y->wpAny (model P w) A.in1 (richCompare .Lt b a) Q E y)
  (k:∀h' tk,(∀c o,z.heap.get? c=some o->h'.get? c=some o)->Q (if bt then b else a) { z with heap:=h',toks:=tk }) :
  wpAny (model P w) A (call (.builtin "min") [a,b]) Q E z:=by
 have hname:(toString "min"++toString ".loop":String)="min.loop":=by decide
 refine call_function_tree F.kind_min F.plain_min F.entry_min (F.args_min2 _ _) ?_;show wpAny _ A.in1 (Builtin.Builtins.bindParams "min" ["key","default"] 0 ⟨[],[]⟩ >>= _) _ _ z;refine wpAny_bind (wpAny_of_eq (show _=pure [none,none] from rfl) ?_);show wpAny _ A.in1 (newTuple [a,b] >>= _) _ _ z;refine wpAny_bind (wpAny_newObj_type ?_);have hT:(z.heap.push { cls:=.type "tuple",data:=.seq #[a,b] }).IsTuple z.heap.objs.size #[a,b]:=⟨_,Heap.get?_push_size _ rfl,rfl,0,rfl⟩
 refine wpAny_bind (wpAny_pyIter_tuple hT ?_);refine wpAny_bind (wpAny_newObj_type ?_);rw [hname];refine wpAny_pure ⟨plainId_quiet F.plain_min_loop _,?_⟩;have e1:∀(h:Heap) (o:Obj),(h.push o).objs.size=h.objs.size+1:=fun h o=>Heap.size_push ..;generalize hq:z.heap.push { cls:=.type "tuple",data:=.seq #[a,b] }=h1 at hT ⊢;have l1:h1.objs.size=z.heap.objs.size+1:=by rw [<- hq,e1]
 have o1:∀c o,z.heap.get? c=some o->h1.get? c=some o:=fun c o e=>by rw [<- hq];exact Heap.get?_push_of_some _ e
 clear hq;generalize hq:h1.push { cls:=.type "tuple_iterator",data:=.fields #[.ref z.heap.objs.size,.int 0 0] }=h2;have l2:h2.objs.size=z.heap.objs.size+2:=by rw [<- hq,e1,l1]
 have o2:∀c o,h1.get? c=some o->h2.get? c=some o:=fun c o e=>by rw [<- hq];exact Heap.get?_push_of_some _ e
 have it2:h2.IsTupleIter h1.objs.size z.heap.objs.size 0:=by rw [<- hq];exact⟨_,Heap.get?_push_size _ rfl,rfl,rfl⟩
 clear hq;have hT2:h2.IsTuple z.heap.objs.size #[a,b]:=hT.at fun o e=>o2 _ o e;generalize hq:h2.push { cls:=.type "list",data:=.seq [].toArray }=h3;have o3:∀c o,h2.get? c=some o->h3.get? c=some o:=fun c o e=>by rw [<- hq];exact Heap.get?_push_of_some _ e
 have b3:h3.get? h2.objs.size=some { cls:=.type "list",dict:=none,data:=.seq #[] 0,slots:=#[] }:=by rw [<- hq];exact Heap.get?_push_size _ rfl
 clear hq
 have lt:∀c o,z.heap.get? c=some o->c≠h1.objs.size/\c≠h2.objs.size:=fun c o e=>by
  exact⟨ne_of_lt (Nat.lt_of_lt_of_le (Heap.lt_size e) (by omega)),ne_of_lt (Nat.lt_of_lt_of_le (Heap.lt_size e) (by omega))⟩
 have n1:z.heap.objs.size≠h1.objs.size:=by omega
 have n2:h2.objs.size≠h1.objs.size:=by omega
 have n3:h2.objs.size≠z.heap.objs.size:=by omega
 refine xU (xs:=#[a,b]) (x:=a) hh n1 n2 n3 b3 (it2.at fun o e=>o3 _ o e) (hT2.at fun o e=>o3 _ o e) rfl fun h4 t4 c4 o4 it4 hT4 b4=>?_;refine Av (xs:=#[a,b]) (x:=b) (bt:=bt) hh n1 n2 n3 b4 it4 hT4 rfl (fun y Q E o5 q=>hc y Q E (fun c o e=>o5 c o (lt c o e).1 (lt c o e).2 (o4 c o (lt c o e).1 (lt c o e).2 (o3 c o (o2 c o (o1 c o e))))) q) fun h5 t5 c5 o5 it5 hT5 b5=>?_;refine Au (xs:=#[a,b]) hh n1 n2 b5 it5 hT5 fun h6 t6 o6=>?_
 exact k h6 t6 fun c o e=>o6 c o (lt c o e).1 (lt c o e).2 (o5 c o (lt c o e).1 (lt c o e).2 (o4 c o (lt c o e).1 (lt c o e).2 (o3 c o (o2 c o (o1 c o e)))))
section
variable {X:Cx}{K:PySem.W.Frag}
def Cu(K:PySem.W.Frag):List V->Hp->VK->Prop:=fun xs H Q=>∃p q ns ms,xs=[.ref p,.ref q]/\SqT K H p (ns.map V.int)/\SqT K H q (ms.map V.int)/\Q (.ref (if HT.lexLt ms ns then q else p)) H
theorem yP(K:PySem.W.Frag)(e:X.K=K)(hc:X.calm=true)(hu:X.A.units+64<cLine):cK X (.builtin "min") (Cu K):=by
 subst e;intro pins s σ H xs us Q I r h;obtain⟨p,q,ns,ms,rfl,hp,hq,k⟩:=h;obtain⟨u,v,rfl,ru,rv⟩:=tS r;cases (show u=Value.ref p from ru);cases (show v=Value.ref q from rv);obtain⟨its,vs,t1,_⟩:=I.tuple hp;obtain⟨its2,vs2,t2,_⟩:=I.tuple hq
 refine uq (bt:=HT.lexLt ms ns) (I.ok.hd hc) (fun y Q E old z=>?_) fun h' tk old=>⟨_,H,I.kept old,?_,k⟩
 .obtain⟨o,e,c,n,d⟩:=t1;obtain⟨o2,e2,c2,n2,d2⟩:=t2;exact HT.lt_tupInts (s:=y) (A:=X.A.in1) ⟨o2,old _ _ e2,c2,n2,d2⟩ ⟨o,old _ _ e,c,n,d⟩ (kd vs2) (kd vs) (lt_of_le_of_lt (add_le_add_left (by decide:1<=64) _) hu) z
 .cases HT.lexLt ms ns <;> rfl
def ltP(a b c d:Int):Bool:=decide (a<c) || (decide (a=c) && decide (b<d))
theorem Aw(a b c d:Int):HT.lexLt [a,b] [c,d]=ltP a b c d:=by
 unfold ltP;rw [HT.lexLt_cons]
 by_cases h:a=c
 .subst h;rw [if_pos rfl,HT.lexLt_cons]
  by_cases h2:b=d
  .subst h2;simp [HT.lexLt_nil_nil]
  .rw [if_neg h2];simp
 .rw [if_neg h];simp [h]
def xV:FN
 | [.tup [.int a,.int b],.tup [.int c,.int d]],Q=>Q (.dat (if ltP c d a b then .tup [.int c,.int d] else .tup [.int a,.int b]))
 | _,_=>False
theorem wv:LC K (Cu K) xV:=by
 intro O H xs as Q Q' dom fs q k;unfold xV at q
 split at q
 .rename_i a b c d
  cases fs with
  | cons f1 fs =>
   cases fs with
   | cons f2 fs =>
    cases fs;obtain⟨p1,x1,rfl,n1,e1,g1⟩:=f1.tup;obtain⟨p2,x2,rfl,n2,e2,g2⟩:=f2.tup;have y1:=FVs.ints (ns:=[a,b]) g1;have y2:=FVs.ints (ns:=[c,d]) g2;refine⟨p1,p2,[a,b],[c,d],rfl,SqT.of (by rw [e1,y1]),SqT.of (by rw [e2,y2]),?_⟩;rw [Aw];refine k _ H _ q (Gr.refl _) ?_
    cases ltP c d a b
    .exact FV.tup n1 e1 g1
    .exact FV.tup n2 e2 g2
 .exact q.elim
end
section
open PySem.AutoSeq1 (wpAny_loadPart')
open PySem.MeetsSeq PySem.MeetsSeq2 PySem.MeetsSeq3
variable {P:Program}{w:World}{A:Around}
end
section
variable {K:PySem.W.Frag}{A O O':Addr->Prop}{fx:List (Nat×V)}{R:Addr->Prop}{H0 H0' H H':Hp}{ρ ρ':PSt}{σ:St}{x:Nat}{Da:Addr}{as:List Addr}{rows:List (List D)}
def cl(x:Nat)(ρ:PSt):Option (List (List D))->PSt
 | none=>ρ
 | some rows=>ρ.set x (some (.own (rows.map D.lst)))
theorem ww(x:Nat)(ρ:PSt):cl x ρ none=ρ:=rfl
theorem wx(x:Nat)(ρ:PSt)(rows:List (List D)):cl x ρ (some rows)=ρ.set x (some (.own (rows.map D.lst))):=rfl
end
section
variable {K:PySem.W.Frag}{A:Addr->Prop}{fx:List (Nat×V)}{R:Addr->Prop}{H0 H:Hp}{ρ:PSt}{σ:St}
def mvd(ρ:PSt)(g r:Nat)(ds:List D):PSt:=(ρ.set r (some (.own ds))).set g none
theorem yQ(ρ:PSt)(g r:Nat)(ds:List D):mvd ρ g r ds=(ρ.set r (some (.own ds))).set g none:=rfl
end
theorem o9:∀{M:Nat}{l:List Nat},l.Nodup->(∀x∈l,x<M)->l.length<=M
 | 0,l,_,h=>by
  cases l with
  | nil=>exact Nat.le_refl _
  | cons x r=>exact absurd (h x mem_cons_self) (not_lt_zero _)
 | M+1,l,nd,h=>by
  by_cases c:M∈l
  .have h1:=o9 (M:=M) (nd.erase M) (fun x hx=>by
    have:=h x (mem_of_mem_erase hx);have hne:x≠M:=(nd.mem_erase_iff.mp hx).1;omega)
   rw [length_erase_of_mem c] at h1;omega
  .have:=o9 (M:=M) nd (fun x hx=>by
    have:=h x hx;have:x≠M:=fun e=>c (e ▸ hx);omega)
   omega
structure jF (k:Nat) (A:Around):Prop where
 dp:A.depth+3*k+5<recursionLimit
 un:A.units+16*k+200<cLine
theorem iA.n{k:Nat}{A:Around}(r:iA k A):jF k A:=⟨r.dp,r.un⟩
theorem iA.mark{k:Nat}{A:Around}(r:iA k A)(e:Option Value):jF k (A.mark e):=⟨r.dp,r.un⟩
theorem jF.mono{j k:Nat}{A:Around}(r:jF k A)(h:j<=k):jF j A:=⟨by have:=r.dp;omega,by have:=r.un;omega⟩
theorem jF.deeper{k:Nat}{A:Around}(r:jF (k+1) A)(env:Env):jF k (A.deeper env) :=
 ⟨by have:=r.dp;show A.depth+1+3*k+5<_;omega,by have:=r.un;show A.units+3+16*k+200<_;omega⟩
theorem jF.depth{k:Nat}{A:Around}(r:jF k A):A.depth<recursionLimit:=by have:=r.dp;omega
theorem jF.units{k:Nat}{A:Around}(r:jF k A):A.units+64<cLine:=by have:=r.un;omega
structure uH (P:Program) (w:World) (K:PySem.W.Frag) (mg:Str->Option Value) (base:Heap) (k:Nat) (x:Str) (ps:List Str) (sp:Sp):Prop where
 ex:∃(f:Addr) (fd:FuncData),(∀vs H Q E,sp vs H Q E->vs.length=ps.length) /\
  (∀(A:Around) (outer:List Env) (s:Shared) (H:Hp) (args:Args) (us:List Value) (vs:List V) (Q:VK) (E:XK),jF k A->wV P w K mg base A outer s H->BindsTo s fd args (ps.zip us)->cB vs us->sp vs H Q E ->
   codeAny (model P w) A (.call (.ref f) args) (CR CX0 outer P w H s Q E) s)/\ng K fd ps []/\PySem.W.keepIn K (.ref f)=true/\mg x=some (.ref f)
abbrev cxN(P:Program)(w:World)(K:PySem.W.Frag)(mg:Str->Option Value)(base:Heap)(N:List Str)(qual:Str)(scope:Scope)(f:Addr)(cd:Value)(A:Around)(outer:List Env)(s:Shared)(H:Hp)(E:XK):Cx :=
 { nh CX0 P w K mg base N qual scope f cd A outer s H E with calm:=false }
section
variable {P:Program}{w:World}{K:PySem.W.Frag}{mg:Str->Option Value}{base:Heap}{x:Str}{st:Stmt}{N ps:List Str}{k:Nat}{sp:Sp}
theorem cm.okN(D:cm K mg x st)(S:aI N ps (ao st))
  (hb:∀(kV doc pm:Value) (an:Option Addr) (cdv ct:Value) (us:List Value),us.length=ps.length->bindArgs (PySem.W.fnOf x x (cM st) (bV st) (ao st) .none kV doc pm an cdv ct) ⟨us,[]⟩=pure (ps.zip us))
  (len:∀vs H Q E,sp vs H Q E->vs.length=ps.length)
  (hbody:∀(f:Addr) (cdv:Value) (A:Around) (outer:List Env) (s:Shared) (H:Hp) (vs:List V) (Q:VK) (E:XK),jF k (A.deeper (envOfC x (ao st) s.heap.objs.size f cdv))->sp vs H Q E ->
   ∃t,PSs (cxN P w K mg base N x (ao st) f cdv A outer s H E).nox (bV st) t/\t { nx:=fun _ H'=>Q .non H',rt:=Q } (start N vs) H):uH P w K mg base (k+1) x ps sp:=by
 obtain⟨f,fd,F,hm⟩:=D.ex;have bd:=F.binds hb;have kp:=F.kp;obtain⟨oc,od,kV,doc,pm,an,cdv,ct,osl,rfl,lk,hcd⟩:=F.ex;refine⟨f,_,len,fun A outer s H args us vs Q E hr e0 hb r hsp=>?_,bd,kp,hm⟩;have hl:=len _ _ _ _ hsp;have KX:K.In s.heap:=e0.mod.kin.keeps fun b o e=>(e0.bs b o e).1;have lim:s.heap.NoLimit:=e0.mod.nolimit.keeps fun b o e=>(e0.bs b o e).1
 have hkind:∀y∈ps.zip us,(ao st).names.lookup y.1=some .local\/((ao st).names.lookup y.1=some .cell/\((cellsFrom (s.heap.objs.size+1) (ao st).names []).lookup y.1).isSome=true):=fun ⟨n,v⟩ hy=>by
  rcases S.par n (of_mem_zip hy).1 with q|q
  .exact .inl q
  .exact .inr ⟨q,PySem.W.cellsFrom_some _ _ _ (.inl q)⟩
 refine codeAny_call_function hr.depth (KX _ _ lk) rfl S.co S.gen rfl (PySem.W.codeRec_of KX hcd) (hb _ _ _ _ ?_);refine wpAny_newFunctionEnv_cells S.kind hkind fun env he s1 y=>?_;subst he;refine⟨lim.keeps y.toInCall.keep,codeAny_func ?_⟩;obtain⟨t,ht,hq⟩:=hbody f cdv A outer s H vs Q E (hr.deeper _) hsp;have e1:wV P w K mg base { A with handled:=none } outer s H:=⟨e0.frames,e0.mod,e0.bs,e0.bsz,e0.funs,e0.frf,e0.hok,e0.bare⟩
 have I0:Inv (nh CX0 P w K mg base N x (ao st) f cdv { A with handled:=none } outer s H E) [] (start N vs) H s1:=lI S rfl e1 hl r y
 have I:Inv (cxN P w K mg base N x (ao st) f cdv A outer s H E) [] (start N vs) H s1 :=
  ⟨⟨I0.ok.mod,I0.ok.kind,I0.ok.glob,I0.ok.blt,I0.ok.above,I0.ok.inj,I0.ok.has,I0.ok.cab,nofun,I0.ok.frames,I0.ok.stk,I0.ok.exf,I0.ok.bs,I0.ok.bsz,I0.ok.noex,I0.ok.exfs,I0.ok.funs,I0.ok.frf⟩,I0.os,I0.bare,I0.base,I0.loc,I0.cell,I0.free,I0.freeC,I0.pin,I0.hok,I0.len⟩
 refine wpAny_mono (ht.nox [] s1 (start N vs) H _ I hq) (fun fl s' hs=>?_) fun e s' hs=>hs
 have fin:∀{σ':St}{H':Hp}{v:V}{u:Value},Inv (cxN P w K mg base N x (ao st) f cdv A outer s H E) [] σ' H' s'->eo v u->Q v H'->CE outer P w H s Q u s' :=
  fun {σ' H' v u} J rv q=>⟨v,H',J.os,J.bare,J.base,J.hok,rv,q⟩
 cases fl with
 | ret u =>
  obtain⟨v,σ',H',J,rv,q⟩:=hs;exact fin J rv q
 | next =>
  obtain⟨σ',H',J,q⟩:=hs;exact fin (v:=V.non) (u:=Value.none) J rfl q
 | brk =>
  obtain⟨_,_,_,q⟩:=hs;exact False.elim q
 | cont =>
  obtain⟨_,_,_,q⟩:=hs;exact False.elim q
end
section
variable {X:Cx}{k:Nat}{x:Str}{ps:List Str}{sp:Sp}{p pos:Pos}{e:Expr}{es:List Expr}{t:TA}
theorem fS(C:uH X.prog X.w X.K X.mg X.base k x ps sp)(hr:jF k X.A)(ha:PA X (e::es) t)(hg:Gl X x:=by rfl)(hdb:(x == ("__debug__":Str))=false:=by decide)(he:starEach (e::es) X.env=(false,eval e X.env)::starEach es X.env:=by rfl)
  (hpl:(backTo pos (starEach es X.env)).any (·.1)=false:=by rfl):PE X (.Call (.Name x p) (e::es) [] pos) (jx sp [] E0 t):=by
 obtain⟨f,fd,len,run,hb,hk,hm⟩:=C.ex;intro pins s σ H Q I h;refine wpAny_Call_Name_kw (iC I hg hm ?_ hdb);refine PySem.W.callWith_K (h₀:=X.base) I.ok.mod.kin hk (thn (ha pos pins s σ H _ I h) fun us s1 ⟨vs,H1,I1,r,q⟩=>⟨I1.kIn,?_⟩) he hpl;have r2:cB (vs++[]) (us++[]):=r.append .nil;have hl:(us++[]).length=ps.length:=by rw [<- r2.length];exact len _ _ _ _ q
 refine wpAny_call (codeAny_mono (run X.A X.stack s1 H1 ⟨us,[]⟩ (us++[]) (vs++[]) Q E0 hr I1.env0 (hb s1 us I1.kIn hl) r2 q) fun r s' hq=>?_)
 cases r with
 | error e=>exact hq.elim
 | ok fl =>
  cases fl with
  | ret u=>exact I1.after hq
  | next=>exact False.elim hq
  | brk=>exact False.elim hq
  | cont=>exact False.elim hq
end
end L2
namespace L2
open PySem PySem.Spec PyProof.Rows PySem.W
section
variable {n:Nat}{r:Nat->Nat}{cmp:Nat->Nat->(Bool->Shared->Prop)->Shared->Prop}{s:Shared}
theorem xW(A:Ans n r cmp s){G:Nat×Array Nat->Shared->Prop}{p:Array Nat}(hn:1<=n)(hp:Pm n p)(hu:Up r p n)(k:G (n,p) s):(kas_count n p).kasWp cmp G s:=by
 unfold kas_count;rw [KasT.kasWp_bind];refine yG A hp (n - 1) 1 (Nat.le_refl _) (by omega) (fun i j _ hj=>by rw [show i=0 by omega,show j=0 by omega];exact Nat.le_refl _) fun m a b c d=>?_
 have hm:m=n:=by
  rcases d with d|⟨d1,d2⟩
  .omega
  .have:=hu (m - 1) m (by omega) (by omega);omega
 subst hm;refine yF (fun _=>k) fun e=>?_;simp at e
end
theorem qC:∀(f n r:Nat),minRun' f n r<=n+r
 | 0,n,r=>Nat.le_refl _
 | f+1,n,r=>by
  rw [minRun'_succ]
  split
  .exact Nat.le_refl _
  .have:=qC f (n / 2) (max r (n % 2));omega
section
variable {prog:Program}{w:World}{A:Around}{E:Value->Shared->Prop}{κ:SortKind}{it:Array Keyed}
theorem Ax{n:Nat}{Q:Unit->SortSt->Shared->Prop}{G:Array Nat->Shared->Prop}{s:Shared}(h2:2<=n)
  (hG:∀p st z,p.size=n->arrOf st=p.map (kas_item it)->failedOf st=none->G p z->Q () st z)
  (h:(kas_count n (List.range n).toArray).kasWp (kas_cmp prog w A κ it) (fun q z=>q.1=n/\G q.2 z) s):kasC (model prog w) A E sortRuns' Q (kas_st κ it (List.range n).toArray) s:=by
 have z0:(List.range n).toArray.size=n:=by simp
 have z1:(arrOf (kas_st κ it (List.range n).toArray)).size=n:=(Array.size_map ..).trans z0;obtain⟨m,hm⟩:∃m,n=m+2:=⟨n - 2,by omega⟩
 have eR:List.range' 0 n=0::1::List.range' 2 m:=by rw [hm];rfl
 have mr:=qC n n 0;rw [sortRuns'_eq];refine kasC_bind (kasC_get ?_);dsimp only;simp only [z1];refine kasC_bind (kasC_range ?_);show kasC _ _ _ (forIn (List.range' 0 n) _ _) _ _ _;rw [eR];refine kasC_cons ?_;dsimp only;rw [if_neg (show ¬ (0 >= n) by omega)];simp only [Nat.sub_zero,Nat.zero_add];refine kasC_bind (kas_count_ (show 1<=n by omega) (le_of_eq z0.symm) (fun c p z _ _ hp g=>?_) h);obtain⟨gc,g⟩:=g
 have gc:c=n:=gc;subst gc;dsimp only;rw [if_neg (show ¬ (c<minRun' c c 0) by omega)];refine kasC_bind (kasC_get ?_);rw [show (pendingOf (kas_st κ it p)).back?=none from rfl];refine kasC_bind (kasC_modify (kasC_pure ?_));refine kasC_cons ?_;dsimp only;rw [if_pos (show c >= c from Nat.le_refl _)];refine kasC_pure ?_;dsimp only;refine kasC_bind (kasC_range ?_);show kasC _ _ _ (forIn (List.range' 0 c) _ _) _ _ _
 rw [eR];refine kasC_cons (kasC_bind (kasC_get ?_));rw [if_pos (show (pendingOf (setPending (kas_st κ it p) ((pendingOf (kas_st κ it p)).push (0,c,0)))).size<=1 from Nat.le_refl 1)];exact kasC_pure (kasC_pure (hG p _ _ (hp.trans z0) rfl rfl g))
variable {ks vs:List Value}
theorem Cv{Q:SortSt->Shared->Prop}{G:Array Nat->Shared->Prop}{s:Shared}(hl:ks.length=vs.length)(h2:2<=vs.length)
  (hG:∀p st z,p.size=vs.length->arrOf st=p.map (kas_item (ks.toArray.zip vs.toArray))->failedOf st=none->G p z->Q st z)
  (h:(kas_count vs.length (List.range vs.length).toArray).kasWp (kas_ask prog w A κ ks) (fun q z=>q.1=vs.length/\G q.2 z) s) :
  wpAny (model prog w) A ((sortRuns').run (SortSt.mk' κ (ks.toArray.zip vs.toArray) #[] 7 none)) (fun q z=>Q q.2 z) E s:=by
 rw [kat_ask_eq hl] at h;have go:=Ax (E:=E) (Q:=fun _ st z=>Q st z) h2 hG h;have z:(ks.toArray.zip vs.toArray).size=vs.length:=by simp [hl]
 have e:=kas_range (ks.toArray.zip vs.toArray);rw [z] at e
 have est:kas_st κ (ks.toArray.zip vs.toArray) (List.range vs.length).toArray=SortSt.mk' κ (ks.toArray.zip vs.toArray) #[] 7 none:=by
  show SortSt.mk' κ ((List.range vs.length).toArray.map (kas_item (ks.toArray.zip vs.toArray))) #[] 7 none=_;rw [e]
 rw [<- est];exact go
end
section
variable {prog:Program}{w:World}{A:Around}{E:Value->Shared->Prop}{s:Shared}
theorem Ay{prs:List (Addr×List Int)}(h:prs.Pairwise (fun x y=>lxB y.2 x.2=false)):Up (rkL (prs.map (·.2))) (List.range prs.length).toArray prs.length:=fun i j hij hj=>by
 have g:∀{k},k<prs.length->kk (rkL (prs.map (·.2))) (List.range prs.length).toArray k=rkL (prs.map (·.2)) k:=fun {k} hk=>by
  unfold kk;congr 1;simp [Array.getD,hk]
 rw [g (by omega),g hj]
 rcases lt_or_ge i j with z|z
 .have:=pairwise_iff_getElem.mp h i j (by omega) hj z
  have e:∀{k},(hk:k<prs.length)->(prs.map (·.2)).getD k []=prs[k].2:=fun {k} hk=>by
   rw [getD_eq_getElem?_getD,getElem?_map,getElem?_eq_getElem hk];rfl
  rw [<- e hj,<- e (by omega:i<prs.length),wm (by rw [length_map];exact hj) (by rw [length_map];omega)] at this;have:=of_decide_eq_false this;omega
 .rw [show i=j by omega];exact Nat.le_refl _
theorem qD{a:Addr}{prs:List (Addr×List Int)}{n:Nat}{P:Fin->Shared->Prop}(ho:s.heap.get? a=some (seqObj "list" (prs.map fun pr=>Value.ref pr.1).toArray n))(ht:∀pr∈prs,Ap s.heap pr.1 pr.2)(h64:prs.length<=100000)(hup:prs.Pairwise (fun x y=>lxB y.2 x.2=false))
  (h:∀prs':List (Addr×List Int),prs'.Perm prs->prs'.Pairwise (fun x y=>lxB y.2 x.2=false)->P (.done (.ret .none)) { s with heap:=sortedHeap s.heap a (prs.map fun pr=>Value.ref pr.1) (prs'.map fun pr=>Value.ref pr.1).toArray }) :
  wpAny (model prog w) A (Builtin.«list.sort» ⟨[.ref a],[]⟩) P E s:=by
 rw [list_sort_plain];have ha:a<s.heap.objs.size:=Heap.lt_size ho;generalize hvs:(prs.map fun pr=>Value.ref pr.1)=vs at ho h;have hlen:vs.length=prs.length:=by rw [<- hvs,length_map]
 refine wpAny_bind (listItems_at ho rfl ?_);refine wpAny_bind (listUpdate_at ho rfl ?_ (by rw [size_toArray,sizeLine_eq];omega) (zero_le _));obtain⟨e1,ho1⟩:∃e1,(s.heap.update a (Obj.mapSeq fun _=>#[])).get? a=some (seqObj "list" #[] e1):=⟨_,get?_update_seq ho (fun _=>#[])⟩
 refine wpAny_bind (seqEpoch_at ho1 rfl ?_);refine wpAny_bind (wpAny_newTuple ?_ (by show vs.length<=_;rw [sizeLine_eq];omega));refine wpAny_bind (wpAny_newList ?_ (zero_le _));refine wpAny_holding ?_
 have keep:∀b o,b≠a->s.heap.get? b=some o->(((s.heap.update a (Obj.mapSeq fun _=>#[])).push (seqObj "tuple" vs.toArray 0)).push (seqObj "list" #[] 0)).get? b=some o:=fun b o hb q=>by
  have hlt:b<s.heap.objs.size:=Heap.lt_size q;rw [Heap.get?_push_ne _ _ _ (by rw [size_push',Heap.size_update];exact ne_of_lt (lt_succ_of_lt hlt)),Heap.get?_push_ne _ _ _ (by rw [Heap.size_update];exact ne_of_lt hlt),Heap.get?_update_ne _ _ _ _ hb];exact q
 have ht':∀pr∈prs,Ap (((s.heap.update a (Obj.mapSeq fun _=>#[])).push (seqObj "tuple" vs.toArray 0)).push (seqObj "list" #[] 0)) pr.1 pr.2:=fun pr hpr=>by
  obtain⟨ne,o,xs,m,e,c,d,ia⟩:=ht pr hpr;refine⟨ne,o,xs,m,keep _ _ (fun z=>?_) e,c,d,ia⟩;rw [z,ho] at e;rw [<- Option.some.inj e] at c;exact absurd (show Value.type "list"=Value.type "tuple" from c) (by decide)
 have ho6:(((s.heap.update a (Obj.mapSeq fun _=>#[])).push (seqObj "tuple" vs.toArray 0)).push (seqObj "list" #[] 0)).get? a=some (seqObj "list" #[] e1):=by
  rw [Heap.get?_push_ne _ _ _ (by rw [size_push',Heap.size_update];exact ne_of_lt (lt_succ_of_lt ha)),Heap.get?_push_ne _ _ _ (by rw [Heap.size_update];exact ne_of_lt ha)];exact ho1
 show wpAny (model prog w) A _ P E { s with heap:=((s.heap.update a (Obj.mapSeq fun _=>#[])).push (seqObj "tuple" vs.toArray 0)).push (seqObj "list" #[] 0) };dsimp only;have hsz:vs.toArray.size=vs.length:=by simp
 by_cases h2:vs.toArray.size<2
 .rw [if_pos h2,if_pos h2];refine wpAny_bind (wpAny_pure ?_);rw [StateT.run_pure];refine wpAny_bind (wpAny_pure ?_);dsimp only;refine wpAny_bind (seqEpoch_at ho6 rfl ?_);refine wpAny_bind (listUpdate_at ho6 rfl ?_ (zero_le _) (by rw [Array.size_map];show (pairsOf vs).size<=_;rw [pairsOf_size,sizeLine_eq];omega));simp only [bne_self_eq_false,false_eq_true,if_false];refine wpAny_pure ?_
  have q:=h prs (List.Perm.refl _) (by
   match prs,hlen with
   | [],_=>exact .nil
   | [x],_=>exact .cons (fun _ z=>by cases z) .nil
   | _::_::_,hl=>rw [hsz] at h2;rw [hl] at h2;simp only [length_cons] at h2;omega)
  rw [hvs] at q
  have e:(arrOf (SortSt.mk' general' (vs.toArray.zip vs.toArray) #[] 7 none)).map (·.2)=vs.toArray:=by
   show (vs.toArray.zip vs.toArray).map (·.2)=vs.toArray;apply Array.toList_inj.mp;rw [Array.toList_map,Array.toList_zip];exact map_snd_zip (Nat.le_refl _)
  rw [<- e] at q;exact q
 .rw [if_neg h2,if_neg h2];obtain⟨fs,fl,fi,ft⟩:=wn ht';rw [hvs] at ft
  refine wpAny_bind (PySem.W.kat_kind (T:=.type "int") ft (by omega) (fun v hv=>?_) rfl ?_)
  .obtain⟨i,t,rfl⟩:=fi v hv;exact PySem.W.Looks.of_pure rfl
  have hUp:Up (rkL (prs.map (·.2))) (List.range vs.length).toArray vs.length:=hlen ▸ Ay hup
  refine wpAny_bind (wpAny_mono (Cv (ks:=vs) (vs:=vs) (Q:=fun st' s'=>∃p:Array Nat,Pm vs.length p/\Up (rkL (prs.map (·.2))) p vs.length/\arrOf st'=p.map (PySem.W.kas_item (vs.toArray.zip vs.toArray))/\failedOf st'=none/\s'={ s with heap:=((s.heap.update a (Obj.mapSeq fun _=>#[])).push (seqObj "tuple" vs.toArray 0)).push (seqObj "list" #[] 0) })
   (G:=fun p s'=>Pm vs.length p/\Up (rkL (prs.map (·.2))) p vs.length/\s'={ s with heap:=((s.heap.update a (Obj.mapSeq fun _=>#[])).push (seqObj "tuple" vs.toArray 0)).push (seqObj "list" #[] 0) })
   rfl (by omega) (fun p' st' s' a1 a2 a3 a4=>⟨p',a4.1,a4.2.1,a2,a3,a4.2.2⟩) (xW (r:=rkL (prs.map (·.2))) (fun i j C hi hj hC=>?_) (by omega) (List.Perm.refl _) hUp ⟨rfl,List.Perm.refl _,hUp,rfl⟩)) ?_ fun _ _ e=>e)
  .rw [hlen] at hi hj
   have gx:∀{i},i<prs.length->vs.getD i Value.none=.ref (prs.getD i (0,[])).1/\Ap (((s.heap.update a (Obj.mapSeq fun _=>#[])).push (seqObj "tuple" vs.toArray 0)).push (seqObj "list" #[] 0)) (prs.getD i (0,[])).1 ((prs.map (·.2)).getD i []):=fun {i} hi=>by
    have e:prs.getD i (0,[])=prs[i]:=by rw [getD_eq_getElem?_getD,getElem?_eq_getElem hi];rfl
    refine⟨?_,?_⟩
    .rw [e,<- hvs,getD_eq_getElem?_getD,getElem?_map,getElem?_eq_getElem hi];rfl
    .have:=ht' prs[i] (getElem_mem hi);rw [e,getD_eq_getElem?_getD,getElem?_map,getElem?_eq_getElem hi];exact this
   obtain⟨x1,x2⟩:=gx hi;obtain⟨y1,y2⟩:=gx hj;refine Co x1 y1 x2 y2 ?_;rw [wm (by rw [length_map];exact hi) (by rw [length_map];exact hj)];exact hC
  .rintro⟨⟨⟩,st'⟩ s' ⟨p,hp,hu,har,hf,rfl⟩;dsimp only;have hout:=PySem.W.kat_snds (ks:=vs) (vs:=vs) rfl har;rw [hout];refine wpAny_bind (seqEpoch_at ho6 rfl ?_);refine wpAny_bind (listUpdate_at ho6 rfl ?_ (zero_le _) (by rw [size_toArray,length_map,Array.length_toList,hp.size,sizeLine_eq];omega));rw [hf];simp only [bne_self_eq_false,false_eq_true,if_false];refine wpAny_pure ?_;have hlt:∀i∈p.toList,i<prs.length:=fun i hi=>by rw [<- hlen];exact mem_range.mp (hp.mem_iff.mp hi)
   have eall:(List.range prs.length).map (fun i=>prs.getD i (0,[]))=prs:=by
    apply ext_getElem?;intro i;rw [getElem?_map]
    rcases lt_or_ge i prs.length with z|z
    .rw [getElem?_range z,getElem?_eq_getElem z];show some (prs.getD i (0,[]))=_;rw [getD_eq_getElem?_getD,getElem?_eq_getElem z];rfl
    .rw [getElem?_eq_none (by rw [length_range];exact z),getElem?_eq_none z];rfl
   have q:=h (p.toList.map fun i=>prs.getD i (0,[])) (by
    have:=List.Perm.map (fun i=>prs.getD i (0,[])) (show p.toList.Perm (List.range prs.length) from hlen ▸ hp);rw [eall] at this;exact this) (by
    rw [pairwise_map,pairwise_iff_getElem];intro i j hi hj hij;rw [Array.length_toList] at hi hj;have hs:=hp.size;have hh:=hu i j (Nat.le_of_lt hij) (by omega);have k1:kk (rkL (prs.map (·.2))) p i=rkL (prs.map (·.2)) p.toList[i]:=by unfold kk;simp [Array.getD,hi]
    have k2:kk (rkL (prs.map (·.2))) p j=rkL (prs.map (·.2)) p.toList[j]:=by unfold kk;simp [Array.getD,hj]
    rw [k1,k2] at hh;have li:=hlt p.toList[i] (getElem_mem _);have lj:=hlt p.toList[j] (getElem_mem _)
    have g:∀{k},k<prs.length->(prs.getD k (0,[])).2=(prs.map (·.2)).getD k []:=fun {k} hk=>by
     rw [getD_eq_getElem?_getD,getD_eq_getElem?_getD,getElem?_map,getElem?_eq_getElem hk];rfl
    rw [g li,g lj,wm (by rw [length_map];exact lj) (by rw [length_map];exact li)];exact decide_eq_false (by omega))
   have e:((p.toList.map fun i=>prs.getD i (0,[])).map fun pr=>Value.ref pr.1)=p.toList.map fun i=>vs.getD i Value.none:=by
    rw [map_map];refine map_congr_left fun i hi=>?_;have:=hlt i hi;rw [<- hvs];show Value.ref (prs.getD i (0,[])).1=_;rw [getD_eq_getElem?_getD,getD_eq_getElem?_getD,getElem?_map,getElem?_eq_getElem this];rfl
   rw [e] at q;exact q
theorem wy{l:Addr}{prs:List (Addr×List Int)}{Q:Value->Shared->Prop}(hl:s.heap.IsList l (prs.map fun pr=>Value.ref pr.1).toArray)(ht:∀pr∈prs,Ap s.heap pr.1 pr.2)(h64:prs.length<=100000)(hup:prs.Pairwise (fun x y=>lxB y.2 x.2=false))
  (h:∀prs':List (Addr×List Int),prs'.Perm prs->prs'.Pairwise (fun x y=>lxB y.2 x.2=false)->Q (.ref (s.heap.objs.size+1)) { s with heap:=sortedAll s.heap (prs.map fun pr=>Value.ref pr.1) (prs'.map fun pr=>Value.ref pr.1).toArray }) :
  wpAny (model prog w) A (call (.builtin "sorted") [.ref l]) Q E s:=by
 refine Calls.call_function_entry kind_sorted plain_sorted entry_sorted (args_sorted1 _) ?_;unfold Builtin.«sorted»;have hlen:(prs.map fun pr=>Value.ref pr.1).length=prs.length:=length_map _;refine wpAny_bind (m:=checkCount "sorted" 1 1 _) (wpAny_pure ?_);refine wpAny_bind (collect_list hl ?_ (by rw [sizeLine_eq];omega));refine wpAny_bind (wpAny_newList ?_ (by rw [sizeLine_eq];omega))
 have hsz:((s.heap.push (seqObj "list" #[] 0)).update s.heap.objs.size (Obj.mapSeq (·++(prs.map fun pr=>Value.ref pr.1).toArray))).objs.size=s.heap.objs.size+1:=by
  rw [Heap.size_update,size_push']
 have hoL:(((s.heap.push (seqObj "list" #[] 0)).update s.heap.objs.size (Obj.mapSeq (·++(prs.map fun pr=>Value.ref pr.1).toArray))).push (seqObj "list" (prs.map fun pr=>Value.ref pr.1).toArray 0)).get? (s.heap.objs.size+1)=some (seqObj "list" (prs.map fun pr=>Value.ref pr.1).toArray 0):=by
  rw [<- hsz];exact Heap.get?_push_size _ rfl
 have keep:∀b o,s.heap.get? b=some o->(((s.heap.push (seqObj "list" #[] 0)).update s.heap.objs.size (Obj.mapSeq (·++(prs.map fun pr=>Value.ref pr.1).toArray))).push (seqObj "list" (prs.map fun pr=>Value.ref pr.1).toArray 0)).get? b=some o:=fun b o q=>by
  have hlt:b<s.heap.objs.size:=Heap.lt_size q;rw [Heap.get?_push_ne _ _ _ (by rw [hsz];exact ne_of_lt (lt_succ_of_lt hlt)),Heap.get?_update_ne _ _ _ _ (ne_of_lt hlt),Heap.get?_push_ne _ _ _ (ne_of_lt hlt)];exact q
 show wpAny _ _ _ _ _ { s with heap:=((s.heap.push (seqObj "list" #[] 0)).update s.heap.objs.size (Obj.mapSeq (·++(prs.map fun pr=>Value.ref pr.1).toArray))).push (seqObj "list" (prs.map fun pr=>Value.ref pr.1).toArray 0) };rw [hsz]
 refine wpAny_bind (wpAny_holding (wpAny_call_entry slot_list_sort ⟨_,hoL,rfl⟩ entry_list_sort (qD hoL (fun pr hpr=>?_) h64 hup fun prs' a1 a2=>⟨_,rfl,?_⟩) (args_list_sort _)))
 .obtain⟨ne,o,xs,m,e,c⟩:=ht pr hpr;exact⟨ne,o,xs,m,keep _ _ e,c⟩
 .exact wpAny_pure ⟨_,rfl,h prs' a1 a2⟩
end
section
variable {X:Cx}{K:PySem.W.Frag}
def yR(K:PySem.W.Frag):List V->Hp->VK->Prop:=fun xs H Q=>∃(p:Addr) (prs:List (Addr×List Int)),xs=[.ref p]/\SqL K H p (prs.map fun pr=>V.ref pr.1)/\(∀pr∈prs,SqT K H pr.1 (pr.2.map V.int)/\pr.2≠[])/\(prs.length<=100000/\prs.Pairwise (fun x y=>lxB y.2 x.2=false)) /\
 ∀prs':List (Addr×List Int),prs'.Perm prs->prs'.Pairwise (fun x y=>lxB y.2 x.2=false)->∀q,H q=none->Q (.ref q) (upd H q (.lst (prs'.map fun pr=>V.ref pr.1)))
theorem Az(K:PySem.W.Frag)(e:X.K=K):cK X (.builtin "sorted") (yR K):=by
 subst e;intro pins s σ H xs us Q I r h;obtain⟨p,prs,rfl,hS,ht,h64,q⟩:=h;obtain⟨u,rfl,ru⟩:=m9 r;cases (show u=Value.ref p from ru);obtain⟨its,rv,pl,hz⟩:=I.list hS;have hv:=yM rv;subst hv;have hb:prs.length<=100000:=h64.1
 refine wy pl.isList (fun pr hpr=>?_) h64.1 h64.2 fun prs' hp hs=>?_
 .obtain⟨sq,ne⟩:=ht pr hpr;obtain⟨its,rv,⟨o,e,c,n,d⟩,_⟩:=I.tuple sq;exact⟨ne,o,_,n,e,c,d,kd rv⟩
 .obtain⟨e,he⟩:=sortedAll_at s.heap (prs.map fun pr=>Value.ref pr.1) (prs'.map fun pr=>Value.ref pr.1).toArray;have hle:s.heap.objs.size<=s.heap.objs.size+1:=le_succ _;refine⟨.ref (s.heap.objs.size+1),_,I.laid (a:=s.heap.objs.size+1) (o:=.lst (prs'.map fun pr=>V.ref pr.1)) (t':=s.toks) (fun b o z=>sortedAll_old z) hle ?_,rfl,q prs' hp hs _ (I.hok.fresh hle)⟩;refine⟨?_,_,e,qA prs',he⟩;rw [length_map,hp.length_eq]
  exact sz _ (by omega)
def wz:FN
 | [.lst ds],Q=>∃rows:List (List Int),ds=rows.map AW/\((rows.length<=100000/\rows.Pairwise (fun a b=>lxB b a=false))/\∀r∈rows,r≠[])/\∀rows':List (List Int),rows'.Perm rows->rows'.Pairwise (fun a b=>lxB b a=false)->Q (.own (rows'.map AW))
 | _,_=>False
theorem xX:LC K (yR K) wz:=by
 intro O H xs as Q Q' dom fs q k;unfold wz at q
 split at q
 .obtain⟨rows,rfl,h0,q⟩:=q
  cases fs with
  | cons a b =>
   cases b;obtain⟨p,ys,rfl,e1,f1⟩:=a.lst;obtain⟨prs,rfl,rfl,h3⟩:=tw f1;rw [length_map] at h0;refine⟨p,prs,rfl,SqL.of e1,fun pr hp=>⟨SqT.of (h3 pr hp).2,h0.2 _ (mem_map_of_mem hp)⟩,by have z:=h0.1;rw [pairwise_map] at z;exact z,fun prs' h1 h2 p' hp'=>k _ _ _ (q (prs'.map (·.2)) (h1.map _) (by rw [pairwise_map];exact h2)) (Gr.new hp') (e7 hp' (tz fun pr hp=>h3 pr (h1.mem_iff.mp hp)))⟩
 .exact q.elim
end
end L2
namespace L2
open PySem PySem.Spec PyProof.Rows
def XI(K:PySem.W.Frag)(G:Addr)(nm:String)(C:Addr):Prop:=PySem.W.nsIn K mainGlobals nm=some (some (.ref C))/\(∃(q:Str) (N:Addr) (bs sub:List Value) (sn:List Str) (ab:Bool) (col:Option Bool) (k0 k1 k2 k3 k5:Option Value),K.lookup C=some (excClassObj nm q C N bs (.ref G::[.type "ValueError",.type "Exception",.type "BaseException",.type "object"]) true sn sub ab col none k0 k1 k2 k3 k5 "ValueError.__new__")) /\
 PySem.W.findIn K (.ref C) "__getattribute__"=some (some (.builtin "BaseException.__getattribute__"))/\PySem.W.findIn K (.ref C) "__getattr__"=some none/\PySem.W.findIn K (.ref C) "__setattr__"=some (some (.builtin "object.__setattr__"))/\PySem.W.findIn K (.ref C) "__class__"=some (some (.builtin "object.__class__"))/\PySem.W.keepIn K (.ref C)=true
theorem DQ{K:PySem.W.Frag}{G:Addr}{nm:String}{C:Addr}{q:Str}{N:Addr}{bs sub:List Value}{sn:List Str}{ab:Bool}{col:Option Bool}{k0 k1 k2 k3 k5:Option Value}(a:PySem.W.nsIn K mainGlobals nm=some (some (.ref C)))
  (l:K.lookup C=some (excClassObj nm q C N bs (.ref G::[.type "ValueError",.type "Exception",.type "BaseException",.type "object"]) true sn sub ab col none k0 k1 k2 k3 k5 "ValueError.__new__"))
  (g:PySem.W.findIn K (.ref C) "__getattribute__"=some (some (.builtin "BaseException.__getattribute__"))) (h:PySem.W.findIn K (.ref C) "__getattr__"=some none) (s:PySem.W.findIn K (.ref C) "__setattr__"=some (some (.builtin "object.__setattr__"))) (c:PySem.W.findIn K (.ref C) "__class__"=some (some (.builtin "object.__class__"))) (k:PySem.W.keepIn K (.ref C)=true):XI K G nm C :=
 ⟨a,⟨_,_,_,_,_,_,_,_,_,_,_,_,l⟩,g,h,s,c,k⟩
def XJ(K:PySem.W.Frag)(C:Addr)(qn at_:String)(st:Stmt):Prop:=∃(fx:Addr) (oc kV dc pm cd ct:Value) (od an:Option Addr) (sl:Array (Option Value)),PySem.W.findIn K (.ref C) "__init__"=some (some (.ref fx))/\PySem.W.typeIn K (.ref fx)=some (.type "function")/\K.lookup fx=some ⟨oc,od,.func (PySem.W.fnOf "__init__" qn (cM st) (bV st) (ao st) .none kV dc pm an cd ct),sl⟩/\PySem.W.codeIn K cd qn=true/\PySem.W.keepIn K (.ref fx)=true/\PySem.W.findIn K (.ref C) at_=some none
theorem DR{K:PySem.W.Frag}{C:Addr}{qn at_:String}{st:Stmt}{fx:Addr}{oc kV dc pm cd ct:Value}{od an:Option Addr}{sl:Array (Option Value)}(i:PySem.W.findIn K (.ref C) "__init__"=some (some (.ref fx)))(t:PySem.W.typeIn K (.ref fx)=some (.type "function"))(l:K.lookup fx=some ⟨oc,od,.func (PySem.W.fnOf "__init__" qn (cM st) (bV st) (ao st) .none kV dc pm an cd ct),sl⟩)(c:PySem.W.codeIn K cd qn=true)(k:PySem.W.keepIn K (.ref fx)=true)(n:PySem.W.findIn K (.ref C) at_=some none):XJ K C qn at_ st :=
 ⟨_,_,_,_,_,_,_,_,_,_,i,t,l,c,k,n⟩
end L2
namespace K60
open PySem PySem.Spec PyProof.Rows L2
def top(i:Nat):Stmt:=PySem.Challenge.pw_shortglue_k60_cover.main.body.getD i (.Pass ⟨0,0,0,0⟩)
abbrev pd:Stmt:=top 18
abbrev jG:Stmt:=top 19
abbrev gS:Stmt:=top 20
abbrev gm:Stmt:=top 25
abbrev kl:Stmt:=top 26
abbrev c8:Stmt:=top 28
abbrev jH:Stmt:=top 30
abbrev l9:Stmt:=top 31
abbrev fb:Stmt:=top 32
abbrev fT:Stmt:=top 34
abbrev km:Stmt:=top 35
abbrev rV:Stmt:=top 36
abbrev eH:Stmt:=top 37
abbrev kn:Stmt:=top 38
abbrev jI:Stmt:=top 39
abbrev ko:Stmt:=top 41
abbrev kq:Stmt:=top 42
abbrev jJ:Stmt:=top 43
abbrev kr:Stmt:=top 45
abbrev gU:Stmt:=top 46
abbrev iL:Stmt:=top 47
abbrev jK:Stmt:=top 48
abbrev kt:Stmt:=top 49
abbrev gW:Stmt:=top 50
abbrev gX:Stmt:=top 53
abbrev jL:Stmt:=top 54
abbrev gY:Stmt:=top 55
abbrev ku:Stmt:=top 56
abbrev dP:Stmt:=top 57
abbrev fU:Stmt:=top 58
abbrev fV:Stmt:=top 59
abbrev fW:Stmt:=top 60
abbrev eI:Stmt:=top 61
abbrev gZ:Stmt:=top 62
abbrev eJ:Stmt:=top 63
abbrev xY:Stmt:=top 64
theorem wA:aI ["thing"] ["thing"] (ao pd):=⟨rfl,rfl,rfl,by decide +kernel,rfl,by decide +kernel,by decide +kernel⟩
theorem qE:aI ["thing"] ["thing"] (ao jG):=⟨rfl,rfl,rfl,by decide +kernel,rfl,by decide +kernel,by decide +kernel⟩
theorem nv:aI ["thing","many"] ["thing","many"] (ao gS):=⟨rfl,rfl,rfl,by decide +kernel,rfl,by decide +kernel,by decide +kernel⟩
theorem ur:aI ["thing","least","most"] ["thing","least","most"] (ao gm):=⟨rfl,rfl,rfl,by decide +kernel,rfl,by decide +kernel,by decide +kernel⟩
theorem rW:aI ["thing","least","most"] ["thing","least","most"] (ao kl):=⟨rfl,rfl,rfl,by decide +kernel,rfl,by decide +kernel,by decide +kernel⟩
theorem iM:aI ["thing","many"] ["thing","many"] (ao c8):=⟨rfl,rfl,rfl,by decide +kernel,rfl,by decide +kernel,by decide +kernel⟩
theorem qF:aI ["thing"] ["thing"] (ao jH):=⟨rfl,rfl,rfl,by decide +kernel,rfl,by decide +kernel,by decide +kernel⟩
theorem kv:aI ["text","gapped","place","sign","own"] ["text","gapped","place"] (ao l9):=⟨rfl,rfl,rfl,by decide +kernel,rfl,by decide +kernel,by decide +kernel⟩
theorem ll:aI ["text","gapped"] ["text","gapped"] (ao fb):=⟨rfl,rfl,rfl,by decide +kernel,rfl,by decide +kernel,by decide +kernel⟩
theorem fc:aI ["things","at","thing"] ["things"] (ao fT):=⟨rfl,rfl,rfl,by decide +kernel,rfl,by decide +kernel,by decide +kernel⟩
theorem dQ:aI ["text","pieces","best","index","piece","place"] ["text","pieces"] (ao km):=⟨rfl,rfl,rfl,by decide +kernel,rfl,by decide +kernel,by decide +kernel⟩
theorem fH:aI ["text","pieces","best","chosen","marks","mark","less","index"] ["text","pieces"] (ao rV):=⟨rfl,rfl,rfl,by decide +kernel,rfl,by decide +kernel,by decide +kernel⟩
theorem ky:aI ["pieces","chosen"] ["pieces","chosen"] (ao eH):=⟨rfl,rfl,rfl,by decide +kernel,rfl,by decide +kernel,by decide +kernel⟩
theorem fe:aI ["text","pieces","chosen","covered","place","end"] ["text","pieces","chosen"] (ao kn):=⟨rfl,rfl,rfl,by decide +kernel,rfl,by decide +kernel,by decide +kernel⟩
theorem kM:aI ["text","pieces","marks","best"] ["text","pieces","marks"] (ao jI):=⟨rfl,rfl,rfl,by decide +kernel,rfl,by decide +kernel,by decide +kernel⟩
theorem dk:aI ["_law_cells","_law_many","_law_own","_law_row","_law_deck_here","_law_k","_law_at","_law_one"] ["_law_cells","_law_many"] (ao ko):=⟨rfl,rfl,rfl,by decide +kernel,rfl,by decide +kernel,by decide +kernel⟩
theorem rX:aI ["_law_deck_here"] ["_law_deck_here"] (ao kq):=⟨rfl,rfl,rfl,by decide +kernel,rfl,by decide +kernel,by decide +kernel⟩
theorem qG:aI ["_law_found"] ["_law_found"] (ao jJ):=⟨rfl,rfl,rfl,by decide +kernel,rfl,by decide +kernel,by decide +kernel⟩
theorem bp:aI ["_law_error","_law_found"] ["_law_error"] (ao kr):=⟨rfl,rfl,rfl,by decide +kernel,rfl,by decide +kernel,by decide +kernel⟩
theorem dS:aI ["_law_number","_law_letters","_law_most","_law_found"] ["_law_number","_law_letters","_law_most"] (ao gU):=⟨rfl,rfl,rfl,by decide +kernel,rfl,by decide +kernel,by decide +kernel⟩
theorem cW:aI ["_law_piece","_law_number","_law_found","_law_sign"] ["_law_piece","_law_number"] (ao iL):=⟨rfl,rfl,rfl,by decide +kernel,rfl,by decide +kernel,by decide +kernel⟩
theorem bX:aI ["_law_deck_here","_law_whole_here","_law_letters","_law_text","_law_pieces","_law_k","_law_number","_law_at","_law_piece"] ["_law_deck_here","_law_whole_here"] (ao jK):=⟨rfl,rfl,rfl,by decide +kernel,rfl,by decide +kernel,by decide +kernel⟩
theorem ma:aI ["_law_text","_law_piece","_law_place","_law_k"] ["_law_text","_law_piece","_law_place"] (ao kt):=⟨rfl,rfl,rfl,by decide +kernel,rfl,by decide +kernel,by decide +kernel⟩
theorem dU:aI ["_law_text","_law_pieces","_law_found","_law_index","_law_place"] ["_law_text","_law_pieces"] (ao gW):=⟨rfl,rfl,rfl,by decide +kernel,rfl,by decide +kernel,by decide +kernel⟩
theorem cu:aI ["_law_text","_law_pieces","_law_members_here","_law_row","_law_mark","_law_place","_law_index","_law_end","_law_other","_law_number","_law_there"] ["_law_text","_law_pieces","_law_members_here","_law_row","_law_mark"] (ao gX):=⟨rfl,rfl,rfl,by decide +kernel,rfl,by decide +kernel,by decide +kernel⟩
theorem kN:aI ["_law_told","_law_row"] ["_law_told"] (ao jL):=⟨rfl,rfl,rfl,by decide +kernel,rfl,by decide +kernel,by decide +kernel⟩
theorem dW:aI ["_law_text","_law_pieces","_law_members_here","_law_told","_law_mark","_law_k"] ["_law_text","_law_pieces","_law_members_here","_law_told"] (ao gY):=⟨rfl,rfl,rfl,by decide +kernel,rfl,by decide +kernel,by decide +kernel⟩
theorem md:aI ["_law_text","_law_pieces","_law_members_here","_law_at"] ["_law_text","_law_pieces","_law_members_here"] (ao ku):=⟨rfl,rfl,rfl,by decide +kernel,rfl,by decide +kernel,by decide +kernel⟩
theorem dE:aI ["_law_text","_law_pieces","_law_at","_law_error"] ["_law_text","_law_pieces","_law_at"] (ao dP):=⟨rfl,rfl,rfl,by decide +kernel,rfl,by decide +kernel,by decide +kernel⟩
theorem ff:aI ["_law_text","_law_things","_law_at","_law_error"] ["_law_text","_law_things","_law_at"] (ao fU):=⟨rfl,rfl,rfl,by decide +kernel,rfl,by decide +kernel,by decide +kernel⟩
theorem fg:aI ["_law_text","_law_things","_law_error"] ["_law_text","_law_things"] (ao fV):=⟨rfl,rfl,rfl,by decide +kernel,rfl,by decide +kernel,by decide +kernel⟩
theorem fh:aI ["_law_text","_law_pieces","_law_at","_law_other","_law_thing","_law_bent"] ["_law_text","_law_pieces","_law_at","_law_other"] (ao fW):=⟨rfl,rfl,rfl,by decide +kernel,rfl,by decide +kernel,by decide +kernel⟩
theorem cX:aI ["_law_text","_law_pieces","_law_members_here","_law_bare_here","_law_told"] ["_law_text","_law_pieces"] (ao eI):=⟨rfl,rfl,rfl,by decide +kernel,rfl,by decide +kernel,by decide +kernel⟩
theorem jj:aI ["_law_text","_law_error"] ["_law_text"] (ao gZ):=⟨rfl,rfl,rfl,by decide +kernel,rfl,by decide +kernel,by decide +kernel⟩
theorem gn:aI ["_law_sign","_law_found"] ["_law_sign"] (ao eJ):=⟨rfl,rfl,rfl,by decide +kernel,rfl,by decide +kernel,by decide +kernel⟩
theorem me:aI ["_law_script","_law_deck_here","_law_text","_law_pieces","_law_handed","_law_most"] ["_law_script"] (ao xY):=⟨rfl,rfl,rfl,by decide +kernel,rfl,by decide +kernel,by decide +kernel⟩
structure Txt (mg:Str->Option Value):Prop where
 b_ValueError:mg "ValueError"=none
 b_all:mg "all"=none
 b_bool:mg "bool"=none
 b_enumerate:mg "enumerate"=none
 b_int:mg "int"=none
 b_isinstance:mg "isinstance"=none
 b_len:mg "len"=none
 b_list:mg "list"=none
 b_max:mg "max"=none
 b_min:mg "min"=none
 b_range:mg "range"=none
 b_reversed:mg "reversed"=none
 b_sorted:mg "sorted"=none
 b_str:mg "str"=none
 b_tuple:mg "tuple"=none
 b_zip:mg "zip"=none
 g_MOST_PIECES:∃t,mg "MOST_PIECES"=some (.int 40 t)
 g_MOST_SIGNS:∃t,mg "MOST_SIGNS"=some (.int 60 t)
abbrev fX:Stmt:=gE (top 2) 0
theorem mf:aI ["self","most"] ["self","most"] (ao fX):=⟨rfl,rfl,rfl,by decide +kernel,rfl,by decide +kernel,by decide +kernel⟩
abbrev fY:Stmt:=gE (top 3) 0
theorem mh:aI ["self","at"] ["self","at"] (ao fY):=⟨rfl,rfl,rfl,by decide +kernel,rfl,by decide +kernel,by decide +kernel⟩
abbrev iN:Stmt:=gE (top 4) 0
theorem pq:aI ["self","k"] ["self","k"] (ao iN):=⟨rfl,rfl,rfl,by decide +kernel,rfl,by decide +kernel,by decide +kernel⟩
abbrev fZ:Stmt:=gE (top 6) 0
theorem mj:aI ["self","at"] ["self","at"] (ao fZ):=⟨rfl,rfl,rfl,by decide +kernel,rfl,by decide +kernel,by decide +kernel⟩
abbrev fj:Stmt:=gE (top 9) 0
theorem lm:aI ["self","most"] ["self","most"] (ao fj):=⟨rfl,rfl,rfl,by decide +kernel,rfl,by decide +kernel,by decide +kernel⟩
abbrev fm:Stmt:=gE (top 11) 0
theorem ln:aI ["self","at"] ["self","at"] (ao fm):=⟨rfl,rfl,rfl,by decide +kernel,rfl,by decide +kernel,by decide +kernel⟩
abbrev fo:Stmt:=gE (top 12) 0
theorem lp:aI ["self","at"] ["self","at"] (ao fo):=⟨rfl,rfl,rfl,by decide +kernel,rfl,by decide +kernel,by decide +kernel⟩
abbrev dR:Stmt:=gE (top 13) 0
theorem j1:aI ["self","at"] ["self","at"] (ao dR):=⟨rfl,rfl,rfl,by decide +kernel,rfl,by decide +kernel,by decide +kernel⟩
abbrev hX:Stmt:=gE (top 14) 0
theorem ny:aI ["self","at"] ["self","at"] (ao hX):=⟨rfl,rfl,rfl,by decide +kernel,rfl,by decide +kernel,by decide +kernel⟩
abbrev xcs:List Str:=["TooMany","NoPiece","NoLap","NoOrder","NotHeld","NoTable","NoRing","TooGreat","NoWords","NotApart","NoCounts","NotCovered","NoLine","NoPaper","NotTold"]
abbrev wO:List (Str×Str):=[("TooMany","most"),("NoPiece","at"),("NoLap","k"),("NotHeld","at"),("TooGreat","most"),("NotApart","at"),("NoCounts","at"),("NotCovered","at"),("NoLine","at")]
structure TxX (K:PySem.W.Frag) (mg:Str->Option Value):Prop where
 all:yB K xcs
 at_:∀c g,(c,g)∈wO->PySem.W.findIn K (.ref (aT K c)) g=some none
 m'b:mg "TooMany"=some (.ref (aT K "TooMany"))
 m'c:mg "NoPiece"=some (.ref (aT K "NoPiece"))
 m'd:mg "NoLap"=some (.ref (aT K "NoLap"))
 m'e:mg "NoOrder"=some (.ref (aT K "NoOrder"))
 m'f:mg "NotHeld"=some (.ref (aT K "NotHeld"))
 m'g:mg "NoTable"=some (.ref (aT K "NoTable"))
 m'h:mg "NoRing"=some (.ref (aT K "NoRing"))
 m'i:mg "TooGreat"=some (.ref (aT K "TooGreat"))
 m'j:mg "NoWords"=some (.ref (aT K "NoWords"))
 m'k:mg "NotApart"=some (.ref (aT K "NotApart"))
 m'l:mg "NoCounts"=some (.ref (aT K "NoCounts"))
 m'm:mg "NotCovered"=some (.ref (aT K "NotCovered"))
 m'n:mg "NoLine"=some (.ref (aT K "NoLine"))
 m'o:mg "NoPaper"=some (.ref (aT K "NoPaper"))
 m'p:mg "NotTold"=some (.ref (aT K "NotTold"))
 m'a:mg "GlueError"=some (.ref (aT K "GlueError"))
 d'b:XD K (aT K "TooMany")
 d'c:XD K (aT K "NoPiece")
 d'd:XD K (aT K "NoLap")
 d'e:XD K (aT K "NoOrder")
 d'f:XD K (aT K "NotHeld")
 d'g:XD K (aT K "NoTable")
 d'h:XD K (aT K "NoRing")
 d'i:XD K (aT K "TooGreat")
 d'j:XD K (aT K "NoWords")
 d'k:XD K (aT K "NotApart")
 d'l:XD K (aT K "NoCounts")
 d'm:XD K (aT K "NotCovered")
 d'n:XD K (aT K "NoLine")
 d'o:XD K (aT K "NoPaper")
 d'p:XD K (aT K "NotTold")
 d'a:XD K (aT K "GlueError")
 z'e:X0 K (aT K "NoOrder")
 kp'e:PySem.W.keepIn K (.ref (aT K "NoOrder"))=true
 z'g:X0 K (aT K "NoTable")
 kp'g:PySem.W.keepIn K (.ref (aT K "NoTable"))=true
 z'h:X0 K (aT K "NoRing")
 kp'h:PySem.W.keepIn K (.ref (aT K "NoRing"))=true
 z'j:X0 K (aT K "NoWords")
 kp'j:PySem.W.keepIn K (.ref (aT K "NoWords"))=true
 z'o:X0 K (aT K "NoPaper")
 kp'o:PySem.W.keepIn K (.ref (aT K "NoPaper"))=true
 z'p:X0 K (aT K "NotTold")
 kp'p:PySem.W.keepIn K (.ref (aT K "NotTold"))=true
local macro_rules | `(tactic| walk_at "s")=>`(tactic| first | (with_reducible omega) | (with_reducible assumption) | (with_reducible rfl) | exact le_of_ble_eq_true rfl | (simp only [length_cons,length_nil,length_append,length_map];(with_reducible omega)) | assumption | rfl | (refine ⟨?_,?_⟩ <;> first | (with_reducible omega) | (with_reducible assumption) | (with_reducible rfl) | exact le_of_ble_eq_true rfl | assumption | rfl | (refine ⟨?_,?_⟩ <;> first | (with_reducible omega) | (with_reducible assumption) | (with_reducible rfl) | exact le_of_ble_eq_true rfl | assumption | rfl | (refine ⟨?_,?_⟩ <;> first | (with_reducible omega) | (with_reducible assumption) | (with_reducible rfl) | exact le_of_ble_eq_true rfl | assumption | rfl | fail) | fail) | fail) | omega | fail)
local macro_rules | `(tactic| walk_at "r")=>`(tactic| ((try dsimp only [set_cons_zero,set_cons_succ,wg,wj,wk,Cj,Ck,qw,nZ,oa,tm,tq,tail_cons,qx,qy,tu,ww,wx,yQ]);(conv=>whnf);(repeat (first | ((with_reducible refine And.intro ?_ ?_);(next=>walk_at "s");(conv=>whnf)) | ((with_reducible refine (show Exists _ from ?_));(first | (refine ⟨_,rfl,?_⟩) | (refine ⟨_,lh.lst _,?_⟩) | (refine ⟨_,lh.tup _,?_⟩));(conv=>whnf)) | ((refine (show jB _ _ _ from ?_));(first | (with_reducible refine Eb (by assumption) ?_) | (with_reducible refine Ed (by assumption) ?_) | (with_reducible refine Dq (by assumption) ?_) | (with_reducible refine Dr (by assumption) ?_) | ((with_reducible refine Do ?_ ?_);(next=>(first | (with_reducible rfl) | (with_reducible assumption) | (with_reducible omega)))) | ((with_reducible refine Dp ?_ ?_);(next=>(first | (with_reducible rfl) | (with_reducible assumption) | (with_reducible omega)))) | ((with_reducible refine BO ?_ ?_);(next=>(first | (with_reducible rfl) | (with_reducible assumption) | (with_reducible omega)))) | ((with_reducible refine BP ?_ ?_);(next=>(first | (with_reducible rfl) | (with_reducible assumption) | (with_reducible omega)))));(conv=>whnf))));(try refine (show jB _ _ _ from ?_));(try dsimp only [set_cons_zero,set_cons_succ,wg,wj,wk,Cj,Ck,qw,nZ,oa,tm,tq,tail_cons,qx,qy,tu,ww,wx,yQ])))
def qH:Nat:=1
def b9:FN
 | [d],Q=>d.sort=true/\Q (.dat (.bl (xD d)))
 | _,_=>False
def kO:Nat:=1
def bu:FN
 | [d],Q=>d.sort=true/\Q (.dat (.bl (lQ d)))
 | _,_=>False
def jk:Nat:=2
def bx:FN
 | [d,.int m],Q=>Srt d/\(ji d).length<=1000000/\Q (.dat (.bl (ki d m)))
 | _,_=>False
def og:Nat:=3
def cY:FN
 | [d,.int a,.int b],Q=>d.sort=true/\uk d<=1000000/\Q (.dat (.bl (wM d a b)))
 | _,_=>False
def ml:Nat:=3
def pz(d:D)(a b:Int):Bool:=lQ d && (decide (a<=toI d) && decide (toI d<=b))
def wB(zs:List Int):Bool:=(List.range (zs.length - 1)).all fun k=>decide (zs.getD k 0<zs.getD (k+1) 0)
def AA(d:D)(m:Int):Bool:=xD d && ((ji d).all (fun x=>pz x 0 (m - 1)) && wB ((ji d).map toI))
theorem Cw{d:D}{a b:Int}(h:pz d a b=true):lQ d=true:=by unfold pz at h;rw [and_eq_true] at h;exact h.1
def bE:FN
 | [d,.int a,.int b],Q=>d.sort=true/\Q (.dat (.bl (pz d a b)))
 | _,_=>False
def eB:Nat:=2
def aO:FN
 | [.tup ds,.int m],Q=>Srt (.tup ds)/\ds.length<=100000/\Q (.dat (.bl (AA (.tup ds) m)))
 | _,_=>False
def kP:Nat:=1
def jM(l:List Nat):List Nat:=l.map fun c=>if c=63 then 97 else c
def uI:D->Bool
 | .str l=>wM (.str (jM l)) 1 60
 | _=>false
theorem tE{l:List Nat}(c:Nat)(hc:c∈l)(h:decide (97<=c/\c<=122)=false)(h63:decide (c=63)=false):uI (.str l)=false:=by
 show wM (.str (jM l)) 1 60=false;rw [gN];have hm:c∈jM l:=mem_map.mpr ⟨c,hc,if_neg (of_decide_eq_false h63)⟩
 have:(jM l).all ltB=false:=by
  cases e:(jM l).all ltB with
  | false=>rfl
  | true =>
   have z:=all_eq_true.mp e c hm;unfold ltB at z;rw [and_eq_true] at z;exact absurd ⟨of_decide_eq_true z.1,of_decide_eq_true z.2⟩ (of_decide_eq_false h)
 rw [this,Bool.and_false]
theorem wC{l:List Nat}(h:60<l.length):uI (.str l)=false:=by
 show wM (.str (jM l)) 1 60=false;have:(jM l).length=l.length:=length_map _;rw [gN,this,decide_eq_false (show ¬ ((l.length:Int)<=60) by omega),Bool.and_false,Bool.false_and]
theorem tF{l:List Nat}(h0:0<l.length)(h1:l.length<=60)(g:∀c∈l,(97<=c/\c<=122)\/c=63):uI (.str l)=true:=by
 show wM (.str (jM l)) 1 60=true;have:(jM l).length=l.length:=length_map _;rw [gN,this,decide_eq_true (show (1:Int)<=l.length by omega),decide_eq_true (show (l.length:Int)<=60 by omega),Bool.and_self,Bool.true_and];refine all_eq_true.mpr fun c hc=>?_;obtain⟨x,hx,rfl⟩:=mem_map.mp hc;unfold ltB
 by_cases e:x=63
 .rw [if_pos e];rfl
 .rw [if_neg e,and_eq_true];have:=(g x hx).resolve_right e;exact⟨decide_eq_true this.1,decide_eq_true this.2⟩
def cf:FN
 | [d],Q=>(d.sort=true/\uk d<=1000)/\Q (.dat (.bl (uI d)))
 | _,_=>False
def oh:Nat:=5
def yS(t g:List Nat)(n k:Nat):Prop:=g.getD k 0=63\/g.getD k 0=t.getD (n+k) 0
def ut(t g:List Nat)(p:Int):Bool:=decide ((0<=p/\p<=(t.length:Int) - (g.length:Int))/\∀k,k<g.length->(g.getD k 0=63\/g.getD k 0=t.getD (p.toNat+k) 0))
theorem pA{t g:List Nat}{n:Nat}(h1:(n:Int)<=(t.length:Int) - (g.length:Int))(h2:∀k,k<g.length->yS t g n k):ut t g (n:Int)=true:=decide_eq_true ⟨⟨by omega,h1⟩,h2⟩
theorem wD{t g:List Nat}{n k:Nat}(hk:k<g.length)(h:¬ yS t g n k):ut t g (n:Int)=false:=decide_eq_false fun z=>h (z.2 k hk)
theorem lC{t g:List Nat}{p:Int}(h:¬ (0<=p/\p<=(t.length:Int) - (g.length:Int))):ut t g p=false:=decide_eq_false fun z=>h z.1
theorem xZ{t:List Nat}{n m k:Nat}(h:k<m):((t.drop n).take m).getD k 0=t.getD (n+k) 0:=by
 rw [getD_eq_getElem?_getD,getD_eq_getElem?_getD,getElem?_take_of_lt h,getElem?_drop]
def bO:FN
 | [.str t,.str g,.int p],Q=>(t.length<=10000/\g.length<=10000)/\Q (.dat (.bl (ut t g p)))
 | _,_=>False
def iq:Nat:=2
def bi:FN
 | [.str t,.str g],Q=>(t.length<=10000/\g.length<=10000)/\Q (.dat (.tup (((List.range t.length).filter fun k:Nat=>ut t g (k:Int)).map nD)))
 | _,_=>False
def iO:Nat:=3
def Gc(w:List Nat):Prop:=∀c∈w,(97<=c/\c<=122)\/c=63
theorem Gc.nil:Gc []:=fun c hc=>nomatch hc
theorem Gc.app{a b:List Nat}(h:Gc a)(k:Gc b):Gc (a++b):=fun c hc=>(mem_append.mp hc).elim (h c) (k c)
theorem Gc.one{c:Nat}(h:(97<=c/\c<=122)\/c=63):Gc [c]:=fun d hd=>by rw [mem_singleton.mp hd];exact h
theorem Gc.take{a:List Nat}(h:Gc a)(n:Nat):Gc (a.take n):=fun c hc=>h c (mem_of_mem_take hc)
theorem Gc.drop{a:List Nat}(h:Gc a)(n:Nat):Gc (a.drop n):=fun c hc=>h c (mem_of_mem_drop hc)
theorem Gc.of{a:List Nat}(h:Lts a):Gc a:=fun c hc=>.inl (h c hc)
theorem Gc.rep{a:List Nat}(h:Gc a)(z:Int):Gc (iB a z):=fun c hc=>by
 unfold iB at hc;obtain⟨l,hl,hc⟩:=mem_flatten.mp hc;rw [(mem_replicate.mp hl).2] at hc;exact h c hc
def x4(ds:List D):Prop:=ds.length<=10000/\∀d∈ds,d.sort=true/\uk d<=1000
def AB(ds:List D)(k:Nat):Prop:=k<ds.length/\(∀j,j<k->uI (itD ds j)=true)/\uI (itD ds k)=false
theorem AC{d:D}(h:uI d=true):∃l:List Nat,d=.str l/\0<l.length/\l.length<=60/\Gc l:=by
 cases d <;> try (cases h;done)
 rename_i l;have h:wM (.str (jM l)) 1 60=true:=h;have e:(jM l).length=l.length:=length_map _;rw [gN,e,and_eq_true,and_eq_true] at h;have h1:=of_decide_eq_true h.1.1;have h2:=of_decide_eq_true h.1.2;refine⟨l,rfl,by omega,by omega,fun c hc=>?_⟩;have z:=all_eq_true.mp h.2 _ (mem_map.mpr ⟨c,hc,rfl⟩)
 by_cases w:c=63
 .exact .inr w
 .rw [if_neg w] at z;unfold ltB at z;rw [and_eq_true] at z;exact .inl ⟨of_decide_eq_true z.1,of_decide_eq_true z.2⟩
theorem yT:∀{ds:List D},(∀d∈ds,uI d=true)->∃ps:List (List Nat),ds=ps.map .str/\∀p∈ps,0<p.length/\p.length<=60/\Gc p
 | [],_=>⟨[],rfl,fun p hp=>nomatch hp⟩
 | d::ds,h=>by
  obtain⟨l,rfl,hl⟩:=AC (h d (mem_cons_self ..));obtain⟨ps,rfl,hp⟩:=yT fun d hd=>h d (mem_cons_of_mem _ hd);refine⟨l::ps,rfl,fun p hp'=>?_⟩
  rcases mem_cons.mp hp' with rfl|z
  .exact hl
  .exact hp p z
def bz:FX
 | [d],Q,E=>∃ds:List D,lh d ds/\x4 ds/\(40<ds.length->E (.exc "TooMany" ["most"] [.int 40]))/\(ds.length<=40->(∀k:Nat,AB ds k->E (.exc "NoPiece" ["at"] [.int k]))/\((∀k,k<ds.length->uI (itD ds k)=true)->Q (.dat .non)))
 | _,_,_=>False
def mm:Nat:=6
def lnP(ps:List (List Nat))(i:Nat):Nat:=(pw ps i).length
def kz(t:List Nat)(ps:List (List Nat))(r:Nat×Nat):Prop:=r.2<ps.length/\ut t (pw ps r.2) (r.1:Int)=true
def cvr(ps:List (List Nat))(r:Nat×Nat)(q:Nat):Prop:=r.1<=q/\q<r.1+lnP ps r.2
instance (ps:List (List Nat)) (r:Nat×Nat) (q:Nat):Decidable (cvr ps r q):=by unfold cvr;exact inferInstance
def Cov(t:List Nat)(ps:List (List Nat))(rs:List (Nat×Nat)):Prop:=∀q,q<t.length->∃r∈rs,cvr ps r q
def Apr(t:List Nat)(ps:List (List Nat))(x y:Nat):Prop:=∀r,kz t ps r->r.1<=x->r.1+lnP ps r.2<=y
theorem kz.le{t:List Nat}{ps:List (List Nat)}{r:Nat×Nat}(h:kz t ps r):r.1+lnP ps r.2<=t.length:=by
 have z:=of_decide_eq_true h.2;have:=z.1.2;unfold lnP;omega
def leP(a b:Int×Int):Prop:=a.1<b.1\/(a.1=b.1/\a.2<=b.2)
def Lea(S:Int×Int->Prop)(x:Int×Int):Prop:=S x/\∀y,S y->leP x y
def prD(x:Int×Int):D:=.tup [.int x.1,.int x.2]
def mnP(x y:Int×Int):Int×Int:=if ltP y.1 y.2 x.1 x.2 then y else x
theorem yU{a b c:Int×Int}(h:leP a b)(k:leP b c):leP a c:=by unfold leP at *;omega
theorem Lea.min{S T:Int×Int->Prop}{x y:Int×Int}(h:Lea S x)(k:Lea T y):Lea (fun e=>S e\/T e) (mnP x y):=by
 unfold mnP
 cases e:ltP y.1 y.2 x.1 x.2 with
 | true =>
  rw [if_pos rfl];unfold ltP at e;simp only [or_eq_true,and_eq_true,decide_eq_true_eq] at e;have z:leP y x:=by unfold leP;omega
  exact⟨.inr k.1,fun w hw=>hw.elim (fun q=>yU z (h.2 w q)) (k.2 w)⟩
 | false =>
  rw [if_neg Bool.false_ne_true];unfold ltP at e;simp only [or_eq_false_iff,and_eq_false_iff,decide_eq_false_iff_not] at e;have z:leP x y:=by unfold leP;omega
  exact⟨.inl h.1,fun w hw=>hw.elim (h.2 w) (fun q=>yU z (k.2 w q))⟩
theorem Lea.congr{S T:Int×Int->Prop}{x:Int×Int}(h:Lea S x)(k:∀e,S e ↔ T e):Lea T x:=⟨(k x).mp h.1,fun y hy=>h.2 y ((k y).mpr hy)⟩
theorem Lea.one(y:Int×Int):Lea (fun e=>e=y) y:=⟨rfl,fun z hz=>by rw [hz];exact .inr ⟨rfl,Int.le_refl _⟩⟩
theorem Cy(x y:Int×Int):(if ltP y.1 y.2 x.1 x.2 then D.tup [.int y.1,.int y.2] else .tup [.int x.1,.int x.2])=prD (mnP x y):=by
 unfold mnP prD;cases ltP y.1 y.2 x.1 x.2 <;> rfl
def Sq0(t:List Nat)(ps:List (List Nat))(i q:Nat)(e:Int×Int):Prop:=e=(0,0)\/∃j,j<i/\ut t (pw ps j) (q:Int)=true/\e=(-((q:Int)+(lnP ps j:Int)),(j:Int))
def Fst(t:List Nat)(ps:List (List Nat))(m:Nat)(e:Int×Int):Prop:=∃q,q<=m/\Sq0 t ps ps.length q e
def Far(t:List Nat)(ps:List (List Nat))(bs:List (Int×Int)):Prop:=bs.length=t.length/\∀m,m<t.length->Lea (Fst t ps m) (bs.getD m (0,0))
theorem Sq0.succ{t:List Nat}{ps:List (List Nat)}{i q:Nat}(e:Int×Int):Sq0 t ps (i+1) q e ↔ Sq0 t ps i q e\/(ut t (pw ps i) (q:Int)=true/\e=(-((q:Int)+(lnP ps i:Int)),(i:Int))):=by
 unfold Sq0
 constructor
 .rintro (h|⟨j,hj,h⟩)
  .exact .inl (.inl h)
  .by_cases z:j=i
   .subst z;exact .inr h
   .exact .inl (.inr ⟨j,by omega,h⟩)
 .rintro ((h|⟨j,hj,h⟩)|h)
  .exact .inl h
  .exact .inr ⟨j,by omega,h⟩
  .exact .inr ⟨i,by omega,h⟩
theorem mn{bs:List (Int×Int)}{i j:Nat}{x:Int×Int}(h:i<bs.length):(bs.set i x).getD j (0,0)=if i=j then x else bs.getD j (0,0):=by
 rw [getD_eq_getElem?_getD,getD_eq_getElem?_getD,getElem?_set]
 split
 .rfl
 .rfl
theorem j2{bs:List (Int×Int)}{i:Nat}(h:i<bs.length):(bs.map prD)[i]?=some (prD (bs.getD i (0,0))):=by
 rw [getElem?_map,getD_eq_getElem?_getD,getElem?_eq_getElem h];rfl
theorem Far.no{t:List Nat}{ps:List (List Nat)}{bs:List (Int×Int)}(F:Far t ps bs){m:Nat}(hm:m<t.length){r:Nat×Nat}(hr:kz t ps r)(h:r.1<=m):(r.1+lnP ps r.2:Int)<=-(bs.getD m (0,0)).1:=by
 have z:=(F.2 m hm).2 (-((r.1:Int)+(lnP ps r.2:Int)),(r.2:Int)) ⟨r.1,h,.inr ⟨r.2,hr.1,hr.2,rfl⟩⟩;unfold leP at z;dsimp only at z;omega
theorem Far.at{t:List Nat}{ps:List (List Nat)}{bs:List (Int×Int)}(F:Far t ps bs){m:Nat}(hm:m<t.length):bs.getD m (0,0)=(0,0)\/∃r:Nat×Nat,kz t ps r/\r.1<=m/\bs.getD m (0,0)=(-((r.1:Int)+(lnP ps r.2:Int)),(r.2:Int)):=by
 obtain⟨q,hq,h⟩:=(F.2 m hm).1
 rcases h with h|⟨j,hj,hf,h⟩
 .exact .inl h
 .exact .inr ⟨(q,j),⟨hj,hf⟩,hq,h⟩
theorem wE{t:List Nat}{ps:List (List Nat)}(m:Nat)(hm:m<t.length):Lea (Sq0 t ps 0 m) ((List.replicate t.length ((0,0):Int×Int)).getD m (0,0)):=by
 rw [getD_eq_getElem?_getD,getElem?_replicate,if_pos hm];refine (Lea.one (0,0)).congr fun e=>⟨.inl,?_⟩
 rintro (h|⟨j,hj,_⟩)
 .exact h
 .exact absurd hj (not_lt_zero _)
theorem x5{t:List Nat}{ps:List (List Nat)}{bs:List (Int×Int)}{fl:List Nat}{k j n:Nat}(hl:bs.length=n)(hj:j<fl.length)(hp:fl[j]<n)
  (h:∀m,m<n->Lea (fun e=>Sq0 t ps k m e\/(m∈fl.take j/\e=(-((m:Int)+(lnP ps k:Int)),(k:Int)))) (bs.getD m (0,0))) (m:Nat) (hm:m<n) :
  Lea (fun e=>Sq0 t ps k m e\/(m∈fl.take (j+1)/\e=(-((m:Int)+(lnP ps k:Int)),(k:Int)))) ((bs.set fl[j] (mnP (bs.getD fl[j] (0,0)) (-((fl[j]:Int)+(lnP ps k:Int)),(k:Int)))).getD m (0,0)):=by
 have e1:∀x,x∈fl.take (j+1) ↔ x∈fl.take j\/x=fl[j]:=fun x=>by
  rw [take_succ_eq_append_getElem hj,mem_append,mem_singleton]
 rw [mn (by omega)]
 by_cases z:fl[j]=m
 .rw [if_pos z];subst z
  refine ((h _ hm).min (Lea.one _)).congr fun e=>⟨?_,?_⟩
  .rintro ((h|h)|h)
   .exact .inl h
   .exact .inr ⟨(e1 _).mpr (.inl h.1),h.2⟩
   .exact .inr ⟨(e1 _).mpr (.inr rfl),h⟩
  .rintro (h|⟨_,h⟩)
   .exact .inl (.inl h)
   .exact .inr h
 .rw [if_neg z]
  refine (h m hm).congr fun e=>⟨?_,?_⟩
  .exact fun h=>h.imp id fun h=>⟨(e1 _).mpr (.inl h.1),h.2⟩
  .exact fun h=>h.imp id fun h=>⟨((e1 _).mp h.1).resolve_right fun w=>z w.symm,h.2⟩
theorem x6{t:List Nat}{ps:List (List Nat)}{bs:List (Int×Int)}{k n:Nat}(hl:bs.length=n)(hk:k+1<n)
  (h1:∀m,m<n->m<=k->Lea (Fst t ps m) (bs.getD m (0,0))) (h2:∀m,m<n->k<m->Lea (Sq0 t ps ps.length m) (bs.getD m (0,0))) :
  (∀m,m<n->m<=k+1->Lea (Fst t ps m) ((bs.set (k+1) (mnP (bs.getD (k+1) (0,0)) (bs.getD k (0,0)))).getD m (0,0)))/\∀m,m<n->k+1<m->Lea (Sq0 t ps ps.length m) ((bs.set (k+1) (mnP (bs.getD (k+1) (0,0)) (bs.getD k (0,0)))).getD m (0,0)):=by
 refine⟨fun m hm hk1=>?_,fun m hm hk1=>?_⟩
 .rw [mn (by omega)]
  by_cases z:k+1=m
  .rw [if_pos z];subst z
   refine ((h2 _ hm (by omega)).min (h1 k (by omega) (Nat.le_refl _))).congr fun e=>⟨?_,?_⟩
   .rintro (h|⟨q,hq,h⟩)
    .exact⟨k+1,Nat.le_refl _,h⟩
    .exact⟨q,by omega,h⟩
   .rintro⟨q,hq,h⟩
    by_cases w:q=k+1
    .subst w;exact .inl h
    .exact .inr ⟨q,by omega,h⟩
  .rw [if_neg z];exact h1 m hm (by omega)
 .rw [mn (by omega),if_neg (by omega)];exact h2 m hm (by omega)
def rwD(r:Nat×Nat):D:=.tup [nD r.1,nD r.2]
theorem tG(ds:List D):deq (.lst ds) (.lst [])=decide (ds=[]):=by
 cases ds with
 | nil=>rw [decide_eq_true rfl];exact lB (Sh.lstI [])
 | cons d r=>simp [deq,D.py,D.pys,PyData.eqv,PyData.eqvAll]
theorem Cz(r:Nat×Nat):Fl 2 (rwD r):=(Fl.tup (n:=1) fun d hd=>Fl.ints [(r.1:Int),(r.2:Int)] d hd)
theorem AD{ds:List D}(h:∀d∈ds,Fl 2 d):uE (.lst ds) (.lst []):=uE.of ((Fl.lst h).sh (by decide)) (Sh.lstI [])
theorem AE(rs:List (Nat×Nat)):uE (.lst (rs.map rwD)) (.lst []):=AD fun d hd=>by
 obtain⟨r,_,rfl⟩:=mem_map.mp hd;exact Cz r
theorem CA(r:Nat×Nat):∀x∈ji (rwD r),x.sort=true:=fun x hx=>by
 rcases mem_cons.mp hx with rfl|hx
 .rfl
 .rw [mem_singleton.mp hx];rfl
theorem rY{α:Type}(xs:List α):(xs.map fun _=>true).all id=true:=all_eq_true.mpr fun x hx=>by obtain⟨_,_,rfl⟩:=mem_map.mp hx;rfl
def bP:FN
 | [.str t,d],Q=>∃ps:List (List Nat),lh d (ps.map .str)/\(ps.length<=40/\t.length<=10000/\∀p∈ps,p.length<=60)/\∀bs:List (Int×Int),Far t ps bs->Q (.dat (.lst (bs.map prD)))
 | _,_=>False
def tH:Nat:=8
def wF(t:List Nat)(ps:List (List Nat))(m:Nat)(c:Nat×Nat):Prop:=kz t ps c/\(c.1<=m/\m<c.1+lnP ps c.2)/\∀r,kz t ps r->r.1<=m->r.1+lnP ps r.2<c.1+lnP ps c.2\/(r.1+lnP ps r.2=c.1+lnP ps c.2/\c.2<=r.2)
inductive Pch (t:List Nat) (ps:List (List Nat)):Nat->List (Nat×Nat)->List Nat->Prop
 | nil:Pch t ps 0 [] []
 | snoc {m:Nat}{c:Nat×Nat}{cs:List (Nat×Nat)}{ms:List Nat}:Pch t ps m cs ms->m<t.length->wF t ps m c->Pch t ps (c.1+lnP ps c.2) (cs++[c]) (ms++[m])
theorem Pch.all{t:List Nat}{ps:List (List Nat)}{m:Nat}{cs:List (Nat×Nat)}{ms:List Nat}(h:Pch t ps m cs ms) :
  (m<=t.length/\cs.length=ms.length/\cs.length<=m)/\(∀c∈cs,kz t ps c)/\(∀q,q<m->∃c∈cs,cvr ps c q)/\ms.Pairwise (Apr t ps)/\(∀x∈ms,x<m)/\(∀x∈ms,Apr t ps x m)/\ms.Pairwise (·<·):=by
 induction h with
 | nil=>exact⟨⟨zero_le _,rfl,Nat.le_refl _⟩,fun c hc=>(nomatch hc),fun q hq=>absurd hq (not_lt_zero _),.nil,fun c hc=>(nomatch hc),fun c hc=>(nomatch hc),.nil⟩
 | @snoc m c cs ms h hm b ih =>
  obtain⟨⟨i0,i1,i8⟩,i2,i3,i4,i5,i6,i7⟩:=ih;obtain⟨bm,⟨b1,b2⟩,b3⟩:=b
  refine⟨⟨bm.le,by rw [length_append,length_append,i1];rfl,by rw [length_append];show cs.length+1<=_;omega⟩,fun x hx=>(mem_append.mp hx).elim (i2 x) fun z=>by rw [mem_singleton.mp z];exact bm,fun q hq=>?_,?_,?_,?_,?_⟩
  .by_cases e:q<m
   .obtain⟨x,hx,z⟩:=i3 q e;exact⟨x,mem_append_left _ hx,z⟩
   .exact⟨c,mem_append_right _ (mem_singleton.mpr rfl),by omega,hq⟩
  .exact pairwise_append.mpr ⟨i4,pairwise_singleton ..,fun x hx y hy=>by rw [mem_singleton.mp hy];exact i6 x hx⟩
  .intro x hx
   rcases mem_append.mp hx with z|z
   .have:=i5 x z;omega
   .rw [mem_singleton.mp z];exact b2
  .intro x hx r hr hrx
   rcases mem_append.mp hx with z|z
   .have:=i6 x z r hr hrx;omega
   .rw [mem_singleton.mp z] at hrx;rcases b3 r hr hrx with w|w <;> omega
  .exact pairwise_append.mpr ⟨i7,pairwise_singleton ..,fun x hx y hy=>by rw [mem_singleton.mp hy];exact i5 x hx⟩
theorem Far.best{t:List Nat}{ps:List (List Nat)}{bs:List (Int×Int)}(F:Far t ps bs){m:Nat}(hm:m<t.length)(h:∃r,kz t ps r/\cvr ps r m):∃c:Nat×Nat,wF t ps m c/\bs.getD m (0,0)=(-((c.1:Int)+(lnP ps c.2:Int)),(c.2:Int)):=by
 obtain⟨r,hr,h1,h2⟩:=h;have z:=F.no hm hr h1
 rcases F.at hm with e|⟨c,hc,hcm,e⟩
 .rw [e] at z;have z:(r.1+lnP ps r.2:Int)<=0:=z;omega
 .refine⟨c,⟨hc,⟨hcm,?_⟩,fun r' hr' h'=>?_⟩,e⟩
  .rw [e] at z;have z:(r.1+lnP ps r.2:Int)<=-(-((c.1:Int)+(lnP ps c.2:Int))):=z;omega
  .have w:=(F.2 m hm).2 (-((r'.1:Int)+(lnP ps r'.2:Int)),(r'.2:Int)) ⟨r'.1,h',.inr ⟨r'.2,hr'.1,hr'.2,rfl⟩⟩;rw [e] at w;unfold leP at w;dsimp only at w;omega
def CB(t:List Nat)(ps:List (List Nat))(q:Nat):Prop:=q<t.length/\(∀m,m<q->∃r,kz t ps r/\cvr ps r m)/\¬ ∃r,kz t ps r/\cvr ps r q
theorem Far.bare{t:List Nat}{ps:List (List Nat)}{bs:List (Int×Int)}(F:Far t ps bs){m:Nat}(hm:m<t.length)(h:-(bs.getD m (0,0)).1<=(m:Int)):¬ ∃r,kz t ps r/\cvr ps r m:=fun ⟨r,hr,h1,h2⟩=>by
 have:=F.no hm hr h1;omega
theorem Far.best2{t:List Nat}{ps:List (List Nat)}{bs:List (Int×Int)}(F:Far t ps bs){m:Nat}(hm:m<t.length)(h:¬ (-(bs.getD m (0,0)).1<=(m:Int))):∃r,kz t ps r/\cvr ps r m:=by
 rcases F.at hm with e|⟨c,hc,hcm,e⟩
 .rw [e] at h;exact absurd (show -(0:Int)<=(m:Int) by omega) h
 .refine⟨c,hc,hcm,?_⟩;rw [e] at h;have h:¬ (-(-((c.1:Int)+(lnP ps c.2:Int)))<=(m:Int)):=h;omega
theorem wG{ps:List (List Nat)}(hn:ps.length<=40)(hp:∀p∈ps,0<p.length/\p.length<=60/\Gc p):x4 (ps.map .str):=⟨by rw [length_map];omega,fun d hd=>by
 obtain⟨p,h,rfl⟩:=mem_map.mp hd;exact⟨rfl,by have:=(hp p h).2.1;show p.length<=1000;omega⟩⟩
theorem qI{ps:List (List Nat)}(hp:∀p∈ps,0<p.length/\p.length<=60/\Gc p)(k:Nat):¬ AB (ps.map .str) k:=fun ⟨h1,_,h3⟩=>by
 have hm:=hp _ (kL (by rw [length_map] at h1;exact h1));rw [vL h1,tF hm.1 hm.2.1 hm.2.2] at h3;cases h3
theorem fq:∀{a b:List (List Nat)},a.map D.str=b.map D.str->a=b
 | [],[],_=>rfl
 | [],_::_,e=>nomatch e
 | _::_,[],e=>nomatch e
 | x::a,y::b,e=>by
  obtain⟨e1,e2⟩:=List.cons.inj e;cases e1;rw [fq e2]
theorem tI{t:List Nat}{ps:List (List Nat)}{q m:Nat}(h:CB t ps q)(k:CB t ps m):q=m:=by
 rcases lt_trichotomy q m with z|z|z
 .exact absurd (k.2.1 q z) h.2.2
 .exact z
 .exact absurd (h.2.1 m z) k.2.2
theorem rZ{t:List Nat}{ps:List (List Nat)}{cs:List (Nat×Nat)}{ms:List Nat}(h:Pch t ps t.length cs ms)(q:Nat)(hq:q<t.length):∃r,kz t ps r/\cvr ps r q:=by
 obtain⟨_,h2,h3,_⟩:=h.all;obtain⟨c,h4,h5⟩:=h3 q hq;exact⟨c,h2 c h4,h5⟩
theorem tJ{ds:List D}{j k:Nat}(h:AB ds j)(g:AB ds k):j=k:=by
 rcases lt_trichotomy j k with z|z|z
 .have:=g.2.1 j z;rw [h.2.2] at this;cases this
 .exact z
 .have:=h.2.1 k z;rw [g.2.2] at this;cases this
def aX:FX
 | [.str t,d],Q,E=>∃ds:List D,lh d ds/\(x4 ds/\t.length<=10000)/\(40<ds.length->E (.exc "TooMany" ["most"] [.int 40]))/\(ds.length<=40->(∀k:Nat,AB ds k->E (.exc "NoPiece" ["at"] [.int k]))/\∀ps:List (List Nat),ds=ps.map .str->(∀p∈ps,0<p.length/\p.length<=60/\Gc p)->(∀q:Nat,CB t ps q->E (.exc "NotCovered" ["at"] [.int q]))/\∀(cs:List (Nat×Nat)) (ms:List Nat),Pch t ps t.length cs ms->Q (.dat (.tup [.tup (cs.map rwD),.tup (ms.map nD)])))
 | _,_,_=>False
def gp:Nat:=2
def bc:FN
 | [d,d2],Q=>∃ps:List (List Nat),lh d (ps.map .str)/\∃rs:List (Nat×Nat),lh d2 (rs.map rwD)/\(ps.length<=40/\rs.length<=10000/\∀r∈rs,r.2<ps.length)/\Q (.dat (.bl true))
 | _,_=>False
def mq:Nat:=6
def evR(ps:List (List Nat))(r:Nat×Nat):List Int:=[(r.1:Int),(r.1:Int)+(lnP ps r.2:Int)]
theorem CC{a b c d:Int}(h:lxB [c,d] [a,b]=false):a<=c:=by
 cases e:decide (c<a) with
 | false=>have:=of_decide_eq_false e;omega
 | true =>
  rw [qz.mpr (.inl (of_decide_eq_true e))] at h;cases h
theorem DS{t:List Nat}{ps:List (List Nat)}{rs:List (Nat×Nat)}{pre suf:List (List Int)}{r:Nat×Nat}{c:Int}(hcv:Cov t ps rs)(hm:∀r∈rs,kz t ps r)(hr:r∈rs)
  (hp:(pre++evR ps r::suf).Perm (rs.map (evR ps))) (hs:(pre++evR ps r::suf).Pairwise (fun a b=>lxB b a=false)) (h0:0<=c) (hc:∀s:Nat×Nat,evR ps s∈pre->(s.1:Int)+(lnP ps s.2:Int)<=c):(r.1:Int)<=c:=by
 by_cases z:(r.1:Int)<=c
 .exact z
 .exfalso;have hle:=(hm r hr).le;obtain⟨s,hs1,hs2,hs3⟩:=hcv c.toNat (by omega);have hin:=hp.mem_iff.mpr (mem_map.mpr ⟨s,hs1,rfl⟩);rw [pairwise_append] at hs;obtain⟨_,p2,p3⟩:=hs;rw [pairwise_cons] at p2
  rcases mem_append.mp hin with w|w
  .have:=hc s w;omega
  .rcases mem_cons.mp w with w|w
   .have:=congrArg (fun l=>l.getD 0 0) w;have:(s.1:Int)=(r.1:Int):=this;omega
   .have:=CC (p2.1 _ w);omega
theorem wH{t:List Nat}{ps:List (List Nat)}{rs:List (Nat×Nat)}{xs:List (List Int)}{c:Int}(hcv:Cov t ps rs)(hp:xs.Perm (rs.map (evR ps)))(h0:0<=c)(h1:c<=t.length)(hc:∀s:Nat×Nat,evR ps s∈xs->(s.1:Int)+(lnP ps s.2:Int)<=c):c=t.length:=by
 by_cases z:c=t.length
 .exact z
 .exfalso;obtain⟨s,hs1,hs2,hs3⟩:=hcv c.toNat (by omega);have:=hc s (hp.mem_iff.mpr (mem_map.mpr ⟨s,hs1,rfl⟩));omega
theorem DT{ps:List (List Nat)}{rs:List (Nat×Nat)}(h:rs.Pairwise (fun a b=>a.1<b.1)):(rs.map (evR ps)).Pairwise (fun a b=>lxB b a=false):=by
 rw [pairwise_map];refine h.imp fun {a b} z=>?_
 cases e:lxB (evR ps b) (evR ps a) with
 | false=>rfl
 | true=>rcases qz.mp e with w|w <;> omega
theorem Pch.rise{t:List Nat}{ps:List (List Nat)}{m:Nat}{cs:List (Nat×Nat)}{ms:List Nat}(h:Pch t ps m cs ms):cs.Pairwise (fun a b=>a.1<b.1)/\∀c∈cs,∃x∈ms,c.1<=x:=by
 induction h with
 | nil=>exact⟨.nil,fun c hc=>nomatch hc⟩
 | @snoc m c cs ms h hm b ih =>
  obtain⟨_,_,_,_,i5,i6,_⟩:=h.all
  refine⟨pairwise_append.mpr ⟨ih.1,pairwise_singleton ..,fun a ha d hd=>?_⟩,fun d hd=>?_⟩
  .rw [mem_singleton.mp hd];obtain⟨x,hx,h1⟩:=ih.2 a ha;have h2:=i6 x hx c b.1;have h3:=b.2.1.2;omega
  .rcases mem_append.mp hd with z|z
   .obtain⟨x,hx,h1⟩:=ih.2 d z;exact⟨x,mem_append_left _ hx,h1⟩
   .rw [mem_singleton.mp z];exact⟨m,mem_append_right _ (mem_singleton.mpr rfl),b.2.1.1⟩
def cv:FN
 | [.str t,d,d2],Q=>∃ps:List (List Nat),lh d (ps.map .str)/\∃rs:List (Nat×Nat),lh d2 (rs.map rwD)/\(ps.length<=40/\t.length<=10000/\(∀p∈ps,p.length<=60)/\(rs.length<=10000/\rs.Pairwise (fun a b=>a.1<b.1))/\(∀r∈rs,kz t ps r)/\Cov t ps rs)/\Q (.dat (.bl true))
 | _,_=>False
def kQ:Nat:=4
theorem x8{ms:List Nat}{n:Nat}(h1:ms.Pairwise (·<·))(h2:∀m∈ms,m<n):ms.length<=n:=o9 (h1.imp fun h=>ne_of_lt h) h2
theorem x9{ms:List Nat}{n:Nat}(h1:ms.Pairwise (·<·))(h2:∀m∈ms,m<n):AA (.lst (ms.map nD)) (n:Int)=true/\AA (.tup (ms.map nD)) (n:Int)=true:=by
 have a:(ms.map nD).all (fun x=>pz x 0 ((n:Int) - 1))=true:=all_eq_true.mpr fun x hx=>by
  obtain⟨m,hm,rfl⟩:=mem_map.mp hx;have:=h2 m hm;show (true && (decide ((0:Int)<=(m:Int)) && decide ((m:Int)<=(n:Int) - 1)))=true;rw [decide_eq_true (by omega),decide_eq_true (by omega)];rfl
 have e:(ms.map nD).map toI=ms.map fun m:Nat=>(m:Int):=by rw [map_map];rfl
 have b:wB ((ms.map nD).map toI)=true:=by
  rw [e];refine all_eq_true.mpr fun k hk=>?_;have hk:=mem_range.mp hk;rw [length_map] at hk;have hk1:k+1<ms.length:=by omega
  have:=pairwise_iff_getElem.mp h1 k (k+1) (by omega) hk1 (lt_succ_self _);refine decide_eq_true ?_;simp only [getD_eq_getElem?_getD,getElem?_map,getElem?_eq_getElem hk1,getElem?_eq_getElem (show k<ms.length by omega),Option.map_some,Option.getD_some];omega
 have e1:∀x y:Bool,x=true->y=true->(true && (x && y))=true:=by decide
 exact⟨e1 _ _ a b,e1 _ _ a b⟩
theorem ya{R:Nat->Nat->Prop}{ms:List Nat}(h:ms.Pairwise R){a b:Nat}(m:(a,b)∈ms.zip ms.tail):a∈ms/\R a b:=by
 obtain⟨k,hk,e⟩:=mem_iff_getElem.mp m;rw [getElem_zip] at e;rw [length_zip,length_tail] at hk;have e1:=congrArg Prod.fst e;have e2:=congrArg Prod.snd e;dsimp only at e1 e2;rw [getElem_tail] at e2;have:=pairwise_iff_getElem.mp h k (k+1) (by omega) (by omega) (lt_succ_self _);rw [e1,e2] at this;exact⟨e1 ▸ getElem_mem _,this⟩
def cg:FN
 | [.str t,d,d2],Q=>∃ps:List (List Nat),lh d (ps.map .str)/\∃ms:List Nat,d2=.tup (ms.map nD)/\(ps.length<=40/\t.length<=1000/\(∀p∈ps,p.length<=60)/\ms.Pairwise (·<·)/\(∀m∈ms,m<t.length)/\ms.Pairwise (Apr t ps))/\Q (.dat (.bl true))
 | _,_=>False
def mw:Nat:=8
def Dk(zs:List Int):Prop:=∀x∈zs,0<=x/\x<1000000000000000000
def cw:FN
 | [.scr ns,.int mo],Q=>(ns.length<=64/\0<=mo/\mo<=2000)/\∀zs:List Int,Dk zs->zs.length=mo.toNat->Q (.own (zs.map .int))
 | _,_=>False
def mx:Nat:=1
def aJ:FR
 | .own ds,[],Q=>∃zs:List Int,ds=zs.map .int/\(Dk zs/\0<zs.length/\zs.length<=100000)/\∀(z:Int) (ys:List Int),0<=z->z<1000000000000000000->Dk ys->ys.length+1=zs.length->Q (.dat (.int z)) (.own (ys.map .int))
 | _,_,_=>False
def kR:Nat:=1
def aB:FN
 | [.int z],Q=>Q (.dat (.bl true))
 | _,_=>False
def my:Nat:=2
def bq:FN
 | [.exc c ns ds],Q=>∃w:List Nat,((c="TooMany"/\w=[84,111,111,77,97,110,121,32])\/(c="NoPiece"/\w=[78,111,80,105,101,99,101,32])\/(c="NotCovered"/\w=[78,111,116,67,111,118,101,114,101,100,32]))/\Q (.dat (.str w))
 | _,_=>False
def jl:Nat:=4
def bj:FN
 | [.int z,.str ls,.int mo],Q=>(0<=z/\0<ls.length/\ls.length<=26/\0<=mo/\mo<=100)/\∀w:List Nat,(w.length:Int)<=mo->(∀c∈w,c∈ls)->(0<z->0<mo->0<w.length)->Q (.dat (.str w))
 | _,_=>False
def j3:Nat:=4
def bS:FN
 | [.str w,.int z],Q=>(Gc w/\w.length<=100)/\∀u:List Nat,u.length=w.length->Gc u->Q (.dat (.str u))
 | _,_=>False
def kS:Nat:=9
theorem yb{α β:Type}(f:α->β)(xs:List α)(i:Int)(y:α):insN (xs.map f) i (f y)=(insN xs i y).map f:=by
 unfold insN;rw [map_append,map_append,map_take,map_drop,length_map];rfl
theorem dF{α:Type}(xs:List α)(i:Int)(y:α):(insN xs i y).Perm (y::xs):=by
 unfold insN;rw [append_assoc,singleton_append];refine perm_middle.trans ?_;rw [take_append_drop]
def cq:FR
 | .own ds,[.bl wh],Q=>∃zs:List Int,ds=zs.map .int/\(Dk zs/\20<=zs.length/\zs.length<=10000)/\∀(t:List Nat) (ps:List (List Nat)) (ys:List Int),t.length<=16->Lts t->(0<ps.length/\ps.length<=7)->(∀p∈ps,0<p.length/\p.length<=5/\Gc p)->Dk ys->zs.length<=ys.length+20->ys.length<=zs.length->Q (.dat (.tup [.str t,.lst (ps.map .str)])) (.own (ys.map .int))
 | _,_,_=>False
def mB:Nat:=4
def bQ:FN
 | [.str t,.str g,.int p],Q=>(t.length<=10000/\g.length<=10000)/\Q (.dat (.bl (ut t g p)))
 | _,_=>False
def jm:Nat:=5
def bJ:FN
 | [.str t,d],Q=>∃ps:List (List Nat),lh d (ps.map .str)/\(ps.length<=40/\t.length<=1000/\∀p∈ps,0<p.length/\p.length<=60)/\∀rs:List (Nat×Nat),(∀r,r∈rs ↔ kz t ps r)->rs.length<=ps.length*t.length->Q (.dat (.lst (rs.map rwD)))
 | _,_=>False
def jn:Nat:=11
def bK:FN
 | [.str t,d,.lst es,dr,.int m],Q=>∃ps:List (List Nat),lh d (ps.map .str)/\∃rs:List (Nat×Nat),es=rs.map rwD/\∃c:Nat×Nat,dr=rwD c/\∃k:Nat,m=(k:Int)/\(t.length<=10000/\(∀p∈ps,p.length<=60)/\(∀r∈rs,kz t ps r)/\wF t ps k c)/\Q (.dat (.bl true))
 | _,_=>False
def kT:Nat:=2
def cj:FN
 | [d],Q=>∃cs:List (Nat×Nat),∃ms:List Nat,d=.tup [.tup (cs.map rwD),.tup (ms.map nD)]/\cs.length=ms.length/\cs.length<=10000/\Q (.dat (.bl true))
 | _,_=>False
def jo:Nat:=6
theorem Pch.chain{t:List Nat}{ps:List (List Nat)}{m:Nat}{cs:List (Nat×Nat)}{ms:List Nat}(h:Pch t ps m cs ms):∃f:Nat->Nat,f 0=0/\f cs.length=m/\∀k,k<cs.length->ms.getD k 0=f k/\f k<t.length/\wF t ps (f k) (cs.getD k (0,0))/\f (k+1)=(cs.getD k (0,0)).1+lnP ps (cs.getD k (0,0)).2:=by
 induction h with
 | nil=>exact⟨fun _=>0,rfl,rfl,fun k hk=>absurd hk (not_lt_zero _)⟩
 | @snoc m c cs ms h hm b ih =>
  obtain⟨f,f0,fn,fk⟩:=ih;have hl:=h.all.1.2.1
  refine⟨fun k=>if k<=cs.length then f k else c.1+lnP ps c.2,?_,?_,fun k hk=>?_⟩
  .show (if 0<=cs.length then f 0 else _)=0;rw [if_pos (zero_le _),f0]
  .show (if (cs++[c]).length<=cs.length then _ else _)=_;rw [length_append,if_neg (by show ¬ (cs.length+1<=cs.length);omega)]
  .rw [length_append] at hk;have hk:k<cs.length+1:=hk;dsimp only;rw [if_pos (show k<=cs.length by omega)]
   by_cases z:k<cs.length
   .have e1:(ms++[m]).getD k 0=ms.getD k 0:=by rw [getD_eq_getElem?_getD,getElem?_append_left (by omega),getD_eq_getElem?_getD]
    have e2:(cs++[c]).getD k (0,0)=cs.getD k (0,0):=by rw [getD_eq_getElem?_getD,getElem?_append_left z,getD_eq_getElem?_getD]
    rw [e1,e2,if_pos (show k+1<=cs.length by omega)];exact fk k z
   .have e:k=cs.length:=by omega
    subst e;have e1:(ms++[m]).getD cs.length 0=m:=by rw [hl,getD_eq_getElem?_getD,getElem?_append_right (Nat.le_refl _),sub_self];rfl
    have e2:(cs++[c]).getD cs.length (0,0)=c:=by rw [getD_eq_getElem?_getD,getElem?_append_right (Nat.le_refl _),sub_self];rfl
    rw [e1,e2,if_neg (show ¬ (cs.length+1<=cs.length) by omega),fn];exact⟨rfl,hm,b,rfl⟩
def bL:FN
 | [.str t,d,.lst es,dt],Q=>∃ps:List (List Nat),lh d (ps.map .str)/\∃rs:List (Nat×Nat),es=rs.map rwD/\∃(cs:List (Nat×Nat)) (ms:List Nat),dt=.tup [.tup (cs.map rwD),.tup (ms.map nD)]/\(t.length<=10000/\(∀p∈ps,p.length<=60)/\(∀r∈rs,kz t ps r)/\Pch t ps t.length cs ms)/\Q (.dat (.bl true))
 | _,_=>False
def mC:Nat:=4
def cA:FN
 | [.str t,d,.lst es],Q=>∃ps:List (List Nat),lh d (ps.map .str)/\∃rs:List (Nat×Nat),es=rs.map rwD/\(t.length<=1000/\(∀p∈ps,p.length<=60)/\∀r,r∈rs ↔ kz t ps r)/\rs.length<=100000/\(∀q:Nat,CB t ps q->Q (.dat (.int q)))/\((∀q,q<t.length->∃r,kz t ps r/\cvr ps r q)->Q (.dat (.int (-1))))
 | _,_=>False
def fJ:Nat:=4
def a9:FN
 | [.str t,d,.int m],Q=>∃ps:List (List Nat),lh d (ps.map .str)/\(ps.length<=40/\t.length<=10000/\∀p∈ps,0<p.length/\p.length<=60/\Gc p)/\(∃q:Nat,m=(q:Int)/\CB t ps q)/\Q (.dat (.bl true))
 | _,_=>False
def iP:Nat:=4
def bA:FN
 | [.str t,d,.int m],Q=>∃ds:List D,lh d ds/\(x4 ds/\t.length<=10000/\ds.length<=40)/\(∃k:Nat,m=(k:Int)/\AB ds k)/\Q (.dat (.bl true))
 | _,_=>False
def iQ:Nat:=3
def bb:FN
 | [.str t,d],Q=>∃ds:List D,lh d ds/\(x4 ds/\t.length<=10000/\40<ds.length)/\Q (.dat (.bl true))
 | _,_=>False
def iR:Nat:=6
theorem r0{α:Type}{xs:List α}{i j:Nat}{y:α}(h:j<i)(hi:i<=xs.length):(insN xs (i:Int) y)[j]?=xs[j]?:=by
 unfold insN;rw [toNat_natCast,min_eq_left hi,append_assoc,getElem?_append_left (by rw [length_take];omega),getElem?_take_of_lt h]
theorem AF{α:Type}{xs:List α}{i:Nat}{y:α}(hi:i<=xs.length):(insN xs (i:Int) y)[i]?=some y:=by
 unfold insN;rw [toNat_natCast,min_eq_left hi,append_assoc,getElem?_append_right (by rw [length_take];omega),length_take,min_eq_left hi,sub_self];rfl
theorem r8{α:Type}{xs:List α}{i:Nat}{y:α}(hi:xs.length<=i):insN xs (i:Int) y=insN xs (xs.length:Int) y:=by
 unfold insN;rw [toNat_natCast,toNat_natCast,min_eq_right hi,min_self]
theorem yc{ps:List (List Nat)}{a o:Nat}{x z:D}(hp:∀p∈ps,0<p.length/\p.length<=60/\Gc p)(ha:a<=ps.length)(hx:uI x=false):AB (insN (insN (ps.map D.str) (a:Int) x) ((a:Int)+1+(o:Int)) z) a:=by
 have l1:(insN (ps.map D.str) (a:Int) x).length=ps.length+1:=by rw [(dF _ _ _).length_eq,length_cons,length_map]
 have l2:(insN (insN (ps.map D.str) (a:Int) x) ((a:Int)+1+(o:Int)) z).length=ps.length+2:=by rw [(dF _ _ _).length_eq,length_cons,l1]
 have get:∀j,j<=a->(insN (insN (ps.map D.str) (a:Int) x) ((a:Int)+1+(o:Int)) z)[j]?=(insN (ps.map D.str) (a:Int) x)[j]?:=fun j hj=>by
  rw [show (a:Int)+1+(o:Int)=((a+1+o:Nat):Int) by omega]
  by_cases w:a+1+o<=(insN (ps.map D.str) (a:Int) x).length
  .exact r0 (by omega) w
  .rw [r8 (by omega),l1];exact r0 (by omega) (by omega)
 refine⟨by omega,fun j hj=>?_,?_⟩
 .have e:(insN (insN (ps.map D.str) (a:Int) x) ((a:Int)+1+(o:Int)) z)[j]?=some (.str (pw ps j)):=by
   rw [get j (by omega),r0 hj (by rw [length_map];exact ha),getElem?_map,iG (by omega)];rfl
  rw [jV e];have hm:=hp _ (kL (show j<ps.length by omega));exact tF hm.1 hm.2.1 hm.2.2
 .have e:(insN (insN (ps.map D.str) (a:Int) x) ((a:Int)+1+(o:Int)) z)[a]?=some x:=by
   rw [get a (Nat.le_refl _),AF (by rw [length_map];exact ha)]
  rw [jV e];exact hx
theorem lD{α:Type}{l:List α}{n:Int}{x:α}(h:x∈iB l n):x∈l:=by
 unfold iB at h;obtain⟨l',h1,h2⟩:=mem_flatten.mp h;rw [(mem_replicate.mp h1).2] at h2;exact h2
theorem AG{ps:List (List Nat)}{i j:Int}{x:D}(hn:ps.length<=7)(hp:∀p∈ps,0<p.length/\p.length<=60/\Gc p)(hx:x.sort=true/\uk x<=1000):x4 (insN (insN (ps.map D.str) i x) j (.str [97,32,98]))/\(insN (insN (ps.map D.str) i x) j (.str [97,32,98])).length<=40:=by
 have l:(insN (insN (ps.map D.str) i x) j (.str [97,32,98])).length=ps.length+2:=by rw [(dF _ _ _).length_eq,length_cons,(dF _ _ _).length_eq,length_cons,length_map]
 refine⟨⟨by omega,fun d hd=>?_⟩,by omega⟩
 rcases mem_cons.mp ((dF _ _ _).mem_iff.mp hd) with rfl|z
 .exact⟨rfl,by decide⟩
 .rcases mem_cons.mp ((dF _ _ _).mem_iff.mp z) with rfl|z
  .exact hx
  .exact (wG (by omega) hp).2 d z
theorem uu(x:D)(h:x∈[D.non,D.int 7,D.str [],D.str [97,66],D.str (iB [97] 61),D.bl true,D.lst [D.str [97]],D.str [97,45,98]]):(x.sort=true/\uk x<=1000)/\uI x=false:=by
 have r:=dN [97] 61;rw [show ([97]:List Nat).length=1 from rfl,Nat.mul_one,show (61:Int).toNat=61 from rfl] at r;simp only [mem_cons,not_mem_nil,or_false] at h
 rcases h with rfl|rfl|rfl|rfl|rfl|rfl|rfl|rfl
 .exact⟨⟨rfl,by decide⟩,rfl⟩
 .exact⟨⟨rfl,by decide⟩,rfl⟩
 .exact⟨⟨rfl,by decide⟩,rfl⟩
 .exact⟨⟨rfl,by decide⟩,tE 66 (by decide) rfl rfl⟩
 .exact⟨⟨rfl,by show (iB [97] 61).length<=1000;omega⟩,wC (by omega)⟩
 .exact⟨⟨rfl,by decide⟩,rfl⟩
 .exact⟨⟨rfl,by decide⟩,rfl⟩
 .exact⟨⟨rfl,by decide⟩,tE 45 (by decide) rfl rfl⟩
def bB:FN
 | [.str t,.lst es,.int a,.int o],Q=>∃ps:List (List Nat),es=ps.map .str/\(0<ps.length/\ps.length<=7/\t.length<=10000/\∀p∈ps,0<p.length/\p.length<=60/\Gc p)/\(0<=a/\a<=ps.length/\0<=o/\o<=10)/\Q (.dat (.bl true))
 | _,_=>False
def gu:Nat:=5
def aN:FN
 | [.str t,d],Q=>∃ps:List (List Nat),lh d (ps.map .str)/\(ps.length<=40/\t.length<=1000/\∀p∈ps,0<p.length/\p.length<=60/\Gc p)/\Q (.dat (.bl true))
 | _,_=>False
def jp:Nat:=2
def bM:FN
 | [.str t],Q=>(0<t.length/\t.length<=10000)/\Q (.dat (.bl true))
 | _,_=>False
def gv:Nat:=2
theorem pD(c:Nat):(iB [c] 1500).length=1500:=by rw [dN];rfl
theorem ye{c q:Nat}(h:q<1500):(iB [c] 1500).getD q 0=c:=by
 have hl:=pD c;rw [getD_eq_getElem?_getD,getElem?_eq_getElem (by omega)];show (iB [c] 1500)[q]=c;have:=lD (getElem_mem (l:=iB [c] 1500) (n:=q) (by omega));exact mem_singleton.mp this
theorem yf{c q:Nat}(h:q<1500):kz (iB [c] 1500) [[c]] (q,0):=by
 refine⟨by show 0<1;decide,pA (t:=iB [c] 1500) (g:=pw [[c]] 0) (n:=q) ?_ fun k hk=>?_⟩
 .rw [pD];show (q:Int)<=((1500:Nat):Int) - ((1:Nat):Int);omega
 .have:k=0:=by have:k<1:=hk;omega
  subst this;refine .inr ?_;rw [add_zero,ye h];rfl
theorem yg{c m:Nat}{cs:List (Nat×Nat)}{ms:List Nat}(h:Pch (iB [c] 1500) [[c]] m cs ms):cs=(List.range m).map (fun k=>(k,0))/\ms=List.range m:=by
 induction h with
 | nil=>exact⟨rfl,rfl⟩
 | @snoc m r cs ms h hm b ih =>
  obtain⟨bm,⟨b1,b2⟩,_⟩:=b;have h2:r.2=0:=by have:=bm.1;have:r.2<1:=this;omega
  have hl:lnP [[c]] r.2=1:=by rw [h2];rfl
  rw [hl] at b2 ⊢;have h1:r.1=m:=by omega
  have hr:r=(m,0):=Prod.ext h1 h2;rw [ih.1,ih.2,hr];show _++[(m,0)]=(List.range (m+1)).map _/\_=List.range (m+1);rw [range_succ,map_append];exact⟨rfl,rfl⟩
theorem yV{xs ys:List D}(h1:∀d∈xs,Fl 2 d)(h2:∀d∈ys,Fl 2 d):Sh (.tup [.tup xs,.tup ys]):=(Fl.tup (n:=3) fun d hd=>by
 rcases mem_cons.mp hd with rfl|hd
 .exact Fl.tup h1
 .rw [mem_singleton.mp hd];exact Fl.tup h2).sh (by decide)
theorem AH{rs:List (Nat×Nat)}:∀d∈rs.map rwD,Fl 2 d:=fun d hd=>by obtain⟨r,_,rfl⟩:=mem_map.mp hd;exact Cz r
theorem AI{ms:List Nat}:∀d∈ms.map nD,Fl 2 d:=fun d hd=>by obtain⟨r,_,rfl⟩:=mem_map.mp hd;exact Fl.int _
def bf:FN
 | [.str [c]],Q=>(97<=c/\c<=122)/\Q (.dat (.bl true))
 | _,_=>False
def yW:Nat:=6
abbrev tK:FN:=Ek
def j4:PTS:=(bh (Eh .list .tuple (pSl 0)))
theorem uv(d:D)(Q:PV->Prop)(h:b9 ([d]) Q):dg j4 qH ([d]) Q:=by
 show j4 _ [some (.dat (d))];obtain⟨hd,q⟩:=h;cases d <;> first|(cases hd;done)|(walk_at "r";exact q)
theorem wI:∀ds Q,b9 ds Q->dg j4 qH ds Q:=fun ds Q h=>by
 unfold b9 at h
 split at h
 .exact uv _ _ h
 .exact h.elim
def fK:PTS:=(bh (jC (vF .int (pSl 0)) (zF (vF .bool (pSl 0)))))
theorem pE(d:D)(Q:PV->Prop)(h:bu ([d]) Q):dg fK kO ([d]) Q:=by
 show fK _ [some (.dat (d))];obtain⟨hd,q⟩:=h;cases d <;> first|(cases hd;done)|(walk_at "r";exact q)
theorem qJ:∀ds Q,bu ds Q->dg fK kO ds Q:=fun ds Q h=>by
 unfold bu at h
 split at h
 .exact pE _ _ h
 .exact h.elim
def dX:PTS:=(bh (jC (bg b9 (ag (pFz (bw 0)) ar)) (jC (pOp oR (pFz (pCB fE (ag (pSl 0) ar))) (pSl 1)) (pCB xw (ag (pFz (jD [none] (iD (bw 0)) (ax 0) pN (bg bu (ag (pFz (bw 0)) ar)))) ar)))))
theorem mD(d:D)(m:Int)(Q:PV->Prop)(h:bx ([d,.int m]) Q):dg dX jk ([d,.int m]) Q:=by
 show dX _ [some (.dat (d)),some (.dat (.int m))];obtain⟨⟨hd,hs⟩,hl,q⟩:=h
 have body:∀ds:List D,ji d=ds->xD d=true->(ds.length:Int)=m->ki d m=(ds.map lQ).all id:=fun ds e1 e2 e3=>by
  unfold ki;rw [e1,e2,decide_eq_true e3,Bool.true_and,Bool.true_and,all_map];rfl
 have no:∀ds:List D,ji d=ds->¬ (ds.length:Int)=m->ki d m=false:=fun ds e1 e3=>by
  unfold ki;rw [e1,decide_eq_false e3,Bool.false_and,Bool.and_false]
 cases d with
 | lst ds =>
  have hl:ds.length<=1000000:=hl;walk_at "r"
  refine e6 (fun c=>?_) (fun c=>?_)
  .walk_at "r"
   refine xz (fun τ=>∃v,τ=[v]) (fun k=>.bl (lQ (itD ds k))) ?_ ?_ ?_
   .exact⟨_,rfl⟩
   .rintro k τ _ hk rfl ⟨v,rfl⟩ K1 k1;walk_at "r";exact⟨hs _ (lR hk),k1 _ ⟨_,rfl⟩⟩
   .rintro τ ⟨v,rfl⟩;walk_at "r";refine⟨(List.range ds.length).map fun k=>lQ (itD ds k),by rw [map_map];rfl,?_⟩;rw [body ds rfl rfl c] at q;rw [lP];exact q
  .walk_at "r";rw [no ds rfl c] at q;exact q
 | tup ds =>
  have hl:ds.length<=1000000:=hl;walk_at "r"
  refine e6 (fun c=>?_) (fun c=>?_)
  .walk_at "r"
   refine xz (fun τ=>∃v,τ=[v]) (fun k=>.bl (lQ (itD ds k))) ?_ ?_ ?_
   .exact⟨_,rfl⟩
   .rintro k τ _ hk rfl ⟨v,rfl⟩ K1 k1;walk_at "r";exact⟨hs _ (lR hk),k1 _ ⟨_,rfl⟩⟩
   .rintro τ ⟨v,rfl⟩;walk_at "r";refine⟨(List.range ds.length).map fun k=>lQ (itD ds k),by rw [map_map];rfl,?_⟩;rw [body ds rfl rfl c] at q;rw [lP];exact q
  .walk_at "r";rw [no ds rfl c] at q;exact q
 | str l=>walk_at "r";exact q
 | non=>walk_at "r";exact q
 | bl b=>walk_at "r";exact q
 | int i=>walk_at "r";exact q
 | ty n=>cases hd
 | scr ns=>cases hd
 | dic ks ds=>walk_at "r";exact q
 | obj c ns ds=>cases hd
 | exc c ns ds=>cases hd
theorem nA:∀ds Q,bx ds Q->dg dX jk ds Q:=fun ds Q h=>by
 unfold bx at h
 split at h
 .exact mD _ _ _ h
 .exact h.elim
def ja:PTS:=(aH (dO (pOr (kc (pB (vF .str (pSl 0)))) (kc (pB (ql fLe fLe (pSl 1) (pFz (pCB fE (ag (pSl 0) ar))) (pSl 2))))) (bh (pC (.bl false))) a8) (bh (pCB xw (ag (pFz (jD [none] (iD (bw 0)) (ax 0) pN (ql fLe fLe (pFz (pC (.str [97]))) (pSl 0) (pFz (pC (.str [122])))))) ar))))
theorem sd(d:D)(a b:Int)(Q:PV->Prop)(h:cY ([d,.int a,.int b]) Q):dg ja og ([d,.int a,.int b]) Q:=by
 show ja _ [some (.dat (d)),some (.dat (.int a)),some (.dat (.int b))];obtain⟨hd,hl,q⟩:=h
 cases d with
 | str l =>
  have hl:l.length<=1000000:=hl;walk_at "r"
  refine e6 (fun c1=>?_) (fun c1=>?_)
  .walk_at "r"
   refine oJ (fun c2=>?_) (fun c2=>?_)
   .walk_at "r";rw [show wM (.str l) a b=false by rw [gN,decide_eq_false c2,Bool.and_false];rfl] at q;exact q
   .walk_at "r"
    refine xz (fun τ=>∃v,τ=[v]) (fun k=>.bl (ltB (l.getD k 0))) ?_ ?_ ?_
    .exact⟨_,rfl⟩
    .rintro k τ _ hk rfl ⟨v,rfl⟩ K1 k1;walk_at "r"
     refine oJ (fun c=>?_) (fun c=>?_)
     .have hc:97<=l.getD k 0:=of_decide_eq_true (by rw [<- rF];rw [decide_eq_false c];rfl);walk_at "r";show K1 (.bl (!decide (([122]:List Nat)<[l.getD k 0]))) _;rw [rF];rw [show ltB (l.getD k 0)=decide (l.getD k 0<=122) by unfold ltB;rw [decide_eq_true hc];rfl] at k1;exact k1 _ ⟨_,rfl⟩
     .have hc:¬ 97<=l.getD k 0:=of_decide_eq_false (by rw [<- rF,decide_eq_true c];rfl);walk_at "r";rw [show ltB (l.getD k 0)=false by unfold ltB;rw [decide_eq_false hc];rfl] at k1;exact k1 _ ⟨_,rfl⟩
    .rintro τ ⟨v,rfl⟩;walk_at "r";refine⟨(List.range l.length).map fun k=>ltB (l.getD k 0),by rw [map_map];rfl,?_⟩
     have e:wM (.str l) a b=(((List.range l.length).map fun k=>ltB (l.getD k 0)).all id):=by
      rw [gN,decide_eq_true c1,decide_eq_true c2,Bool.and_self,Bool.true_and,rE];rw [all_map];rfl
     rw [e] at q;exact q
  .walk_at "r";rw [show wM (.str l) a b=false by rw [gN,decide_eq_false c1,Bool.false_and];rfl] at q;exact q
 | non=>walk_at "r";exact q
 | bl b=>walk_at "r";exact q
 | int i=>walk_at "r";exact q
 | ty n=>cases hd
 | lst ds=>walk_at "r";exact q
 | tup ds=>walk_at "r";exact q
 | scr ns=>cases hd
 | dic ks ds=>walk_at "r";exact q
 | obj c ns ds=>cases hd
 | exc c ns ds=>cases hd
theorem uw:∀ds Q,cY ds Q->dg ja og ds Q:=fun ds Q h=>by
 unfold cY at h
 split at h
 .exact sd _ _ _ _ h
 .exact h.elim
def hZ:PTS:=(bh (jC (bg bu (ag (pFz (bw 0)) ar)) (ql fLe fLe (pSl 1) (pSl 0) (pSl 2))))
theorem qK(d:D)(a b:Int)(Q:PV->Prop)(h:bE ([d,.int a,.int b]) Q):dg hZ ml ([d,.int a,.int b]) Q:=by
 show hZ _ [some (.dat (d)),some (.dat (.int a)),some (.dat (.int b))];obtain⟨hd,q⟩:=h
 cases d with
 | int i =>
  walk_at "r"
  refine e6 (fun c=>?_) (fun c=>?_)
  .walk_at "r";rw [show pz (.int i) a b=decide (i<=b) by unfold pz;rw [show lQ (.int i)=true from rfl,show toI (.int i)=i from rfl,decide_eq_true c];rfl] at q;exact q
  .walk_at "r";rw [show pz (.int i) a b=false by unfold pz;rw [show toI (.int i)=i from rfl,decide_eq_false c,Bool.false_and,Bool.and_false]] at q;exact q
 | str l=>walk_at "r";exact q
 | non=>walk_at "r";exact q
 | bl b=>walk_at "r";exact q
 | lst ds=>walk_at "r";exact q
 | tup ds=>walk_at "r";exact q
 | ty n=>cases hd
 | scr ns=>cases hd
 | dic ks ds=>walk_at "r";exact q
 | obj c ns ds=>cases hd
 | exc c ns ds=>cases hd
theorem se:∀ds Q,bE ds Q->dg hZ ml ds Q:=fun ds Q h=>by
 unfold bE at h
 split at h
 .exact qK _ _ _ _ h
 .exact h.elim
def cr:PTS:=(aH (dO (pOr (kc (pB (bg b9 (ag (pFz (bw 0)) ar)))) (kc (pB (pCB xw (ag (pFz (jD [none,some 1] (iD (bw 0)) (ax 0) pN (bg bE (ag (pFz (bw 0)) (ag (pFz (pC (.int 0))) (ag (pFz (pOp B9 (pSl 1) (pFz (pC (.int 1))))) ar)))))) ar))))) (bh (pC (.bl false))) a8) (bh (pCB xw (ag (pFz (jD [none,none] (sW (ag (pFz (bw 0)) (ag (pFz (jf (pSl 0) (im (pC (.int 1))) kJ)) ar))) (jc 2 (cH (ax 0) (cH (ax 1) jU))) pN (pOp fLt (pSl 0) (pSl 1)))) ar))))
theorem iy(ds:List D)(m:Int)(Q:PV->Prop)(h:aO ([.tup ds,.int m]) Q):dg cr eB ([.tup ds,.int m]) Q:=by
 show cr _ [some (.dat (.tup ds)),some (.dat (.int m))];obtain⟨⟨hd,hs⟩,hl,q⟩:=h;have hl:ds.length<=100000:=hl;walk_at "r"
 refine xz (fun τ=>∃v,τ=[v,some (.dat (.int m))]) (fun k=>.bl (pz (itD ds k) 0 (m - 1))) ?_ ?_ ?_
 .exact⟨_,rfl⟩
 .rintro k τ _ hk rfl ⟨v,rfl⟩ K1 k1;walk_at "r";exact⟨hs _ (lR hk),k1 _ ⟨_,rfl⟩⟩
 .rintro τ ⟨v,rfl⟩;walk_at "r";refine⟨(List.range ds.length).map fun k=>pz (itD ds k) 0 (m - 1),by rw [map_map];rfl,?_⟩;rw [lP (fun x=>pz x 0 (m - 1)) ds];have ea:(ds.map fun x=>pz x 0 (m - 1)).all id=ds.all fun x=>pz x 0 (m - 1):=by rw [all_map];rfl
  walk_at "r"
  refine vD (BN (fun c=>?_) (fun c=>?_))
  .have c:(ds.map fun x=>pz x 0 (m - 1)).all id=true:=c;rw [ea] at c;obtain⟨zs,rfl⟩:∃zs:List Int,ds=zs.map .int:=⟨_,vP (all_eq_true.mpr fun x hx=>Cw (all_eq_true.mp c x hx))⟩
   have c1:il (zs.map D.int) (some 1) none=(zs.drop 1).map D.int:=by rw [show (1:Int)=((1:Nat):Int) from rfl,p6,map_drop]
   have hzl:(zs.map D.int).length=zs.length:=length_map _;have hcl:(il (zs.map D.int) (some 1) none).length=zs.length - 1:=by rw [c1,length_map,length_drop]
   have hti:(zs.map D.int).map toI=zs:=by rw [map_map];exact List.map_id' _
   walk_at "r"
   refine xz (fun τ=>∃v w,τ=[v,w]) (fun k=>.bl (decide (zs.getD k 0<zs.getD (k+1) 0))) ?_ ?_ ?_
   .exact⟨_,_,rfl⟩
   .rintro k τ d hk ed ⟨v,w,rfl⟩ K1 k1;have hk1:k<(zs.map D.int).length:=by omega
    have hk2:k+1<zs.length:=by omega
    have ed:d=.tup [itD (zs.map D.int) k,itD (il (zs.map D.int) (some 1) none) k]:=ed
    have e2:itD (il (zs.map D.int) (some 1) none) k=.int (zs.getD (k+1) 0):=by
     rw [c1,vM (by rw [length_map,length_drop];omega),getD_eq_getElem?_getD,getElem?_drop,getD_eq_getElem?_getD,add_comm 1 k]
    rw [vM hk1,e2] at ed;subst ed;walk_at "r";exact k1 _ ⟨_,_,rfl⟩
   .rintro τ ⟨v,w,rfl⟩;walk_at "r";refine⟨(List.range (min (zs.map D.int).length (il (zs.map D.int) (some 1) none).length)).map fun k=>decide (zs.getD k 0<zs.getD (k+1) 0),by rw [map_map];rfl,?_⟩;rw [show min (zs.map D.int).length (il (zs.map D.int) (some 1) none).length=zs.length - 1 by omega]
    rw [show AA (.tup (zs.map .int)) m=(((List.range (zs.length - 1)).map fun k=>decide (zs.getD k 0<zs.getD (k+1) 0)).all id) by
     unfold AA wB;show (true && ((zs.map D.int).all (fun x=>pz x 0 (m - 1)) && _))=_;rw [c,Bool.true_and,Bool.true_and,show ji (.tup (zs.map .int))=zs.map D.int from rfl,hti,all_map];rfl] at q
    exact q
  .have c:(ds.map fun x=>pz x 0 (m - 1)).all id=false:=c;rw [ea] at c;walk_at "r"
   rw [show AA (.tup ds) m=false by
    unfold AA;show (true && (ds.all (fun x=>pz x 0 (m - 1)) && _))=false;rw [c];rfl] at q
   exact q
theorem iS:∀ds Q,aO ds Q->dg cr eB ds Q:=fun ds Q h=>by
 unfold aO at h
 split at h
 .exact iy _ _ _ h
 .exact h.elim
def fL:PTS:=(bh (jC (vF .str (pSl 0)) (yz cY [] (ag (pFz (pSM o8 (bw 0) (ag (pFz (pC (.str [63]))) (ag (pFz (pC (.str [97]))) ar)))) (ag (pFz (pC (.int 1))) (ag (pFz (pC (.int 60))) ar))))))
theorem pF(d:D)(Q:PV->Prop)(h:cf ([d]) Q):dg fL kP ([d]) Q:=by
 show fL _ [some (.dat (d))];obtain⟨⟨hd,hl⟩,q⟩:=h
 cases d with
 | str l =>
  have hl:l.length<=1000:=hl;have h1:(D.str (jM l)).sort=true:=rfl;have h2:uk (.str (jM l))<=1000000:=by show (jM l).length<=1000000;unfold jM;rw [length_map];omega
  have h3:(63≠97/\l.length<=1000000):=⟨by decide,by omega⟩
  walk_at "r";exact q
 | non=>walk_at "r";exact q
 | bl b=>walk_at "r";exact q
 | int i=>walk_at "r";exact q
 | ty n=>cases hd
 | lst ds=>walk_at "r";exact q
 | tup ds=>walk_at "r";exact q
 | scr ns=>cases hd
 | dic ks ds=>walk_at "r";exact q
 | obj c ns ds=>cases hd
 | exc c ns ds=>cases hd
theorem qL:∀ds Q,cf ds Q->dg fL kP ds Q:=fun ds Q h=>by
 unfold cf at h
 split at h
 .exact pF _ _ h
 .exact h.elim
def jb:PTS:=(aH (dO (kc (pB (ql fLe fLe (pFz (pC (.int 0))) (pSl 2) (pFz (pOp B9 (pFz (pCB fE (ag (pSl 0) ar))) (pFz (pCB fE (ag (pSl 1) ar)))))))) (bh (pC (.bl false))) a8) (aH (gM (sW (ag (pFz (jf (pSl 0) (im (bw 2)) (im (pOp cp (pSl 2) (pFz (pCB fE (ag (pSl 1) ar))))))) (ag (pFz (bw 1)) ar))) (jc 2 (cH (ax 3) (cH (ax 4) jU))) (dO (yr (pB (pOp rh (pSl 4) (pFz (pC (.str [63]))))) (pB (pOp rh (pSl 4) (pSl 3)))) (bh (pC (.bl false))) a8)) (bh (pC (.bl true)))))
theorem sf(t g:List Nat)(p:Int)(Q:PV->Prop)(h:bO ([.str t,.str g,.int p]) Q):dg jb oh ([.str t,.str g,.int p]) Q:=by
 show jb _ [some (.dat (.str t)),some (.dat (.str g)),some (.dat (.int p)),none,none];obtain⟨⟨ht,hg⟩,q⟩:=h;walk_at "r"
 refine e6 (fun c1=>?_) (fun c1=>?_)
 .walk_at "r"
  refine oJ (fun c2=>?_) (fun c2=>?_)
  .walk_at "r";rw [lC (by omega)] at q;exact q
  .obtain⟨n,rfl⟩:∃n:Nat,p=(n:Int):=⟨p.toNat,by omega⟩
   have e1:il t (some (n:Int)) (some ((n:Int)+(g.length:Int)))=(t.drop n).take g.length:=by
    rw [show (n:Int)+(g.length:Int)=((n+g.length:Nat):Int) by omega,p7,add_sub_cancel_left]
   have l1:((t.drop n).take g.length).length=g.length:=by rw [length_take,length_drop];omega
   walk_at "r";rw [e1]
   refine⟨fun k ρ=>(∃v3 v4:Option PV,ρ=[some (.dat (.str t)),some (.dat (.str g)),some (.dat (.int (n:Int))),v3,v4])/\∀j,j<k->yS t g n j,⟨⟨_,_,rfl⟩,fun j hj=>absurd hj (not_lt_zero _)⟩,?_,?_⟩
   .rintro k ρ _ hk rfl ⟨⟨v3,v4,rfl⟩,ih⟩;rw [l1,min_self] at hk;rw [xZ hk]
    have stp:yS t g n k->∀j,j<k+1->yS t g n j:=fun z j hj=>by
     by_cases e:j=k
     .rw [e];exact z
     .exact ih j (by omega)
    walk_at "r"
    refine oJ (fun c3=>?_) (fun c3=>?_)
    .walk_at "r"
     refine oJ (fun c4=>?_) (fun c4=>?_)
     .walk_at "r";rw [wD hk (fun z=>z.elim (fun z=>c3 (by rw [z])) (fun z=>c4 (by rw [z])))] at q;exact q
     .exact⟨⟨_,_,rfl⟩,stp (.inr (singleton_inj.mp c4))⟩
    .exact⟨⟨_,_,rfl⟩,stp (.inl (singleton_inj.mp c3))⟩
   .rintro ρ ⟨⟨v3,v4,rfl⟩,ih⟩;rw [l1,min_self] at ih;walk_at "r";rw [pA c2 ih] at q;exact q
 .walk_at "r";rw [lC (by omega)] at q;exact q
theorem uz:∀ds Q,bO ds Q->dg jb oh ds Q:=fun ds Q h=>by
 unfold bO at h
 split at h
 .exact sf _ _ _ _ h
 .exact h.elim
def dh:PTS:=(bh (pCB kK (ag (pFz (jD [none,some 0,some 1] (wL (ag (pFz (pCB fE (ag (pSl 0) ar))) ar)) (ax 0) (pB (bg bO (ag (pFz (bw 1)) (ag (pFz (bw 2)) (ag (pFz (bw 0)) ar))))) (bw 0))) ar)))
theorem kA(t g:List Nat)(Q:PV->Prop)(h:bi ([.str t,.str g]) Q):dg dh iq ([.str t,.str g]) Q:=by
 show dh _ [some (.dat (.str t)),some (.dat (.str g))];obtain⟨⟨ht,hg⟩,q⟩:=h;have b:t.length<=10000/\g.length<=10000:=⟨ht,hg⟩
 walk_at "r";rw [toNat_natCast]
 refine cfR (fun k:Nat=>ut t g (k:Int)) nD (fun k hk v K1 K2 k1 k2=>?_) (fun v=>?_)
 .walk_at "r"
  cases e:ut t g (k:Int)
  .exact k2 _ e
  .walk_at "r";exact k1 _ e
 .walk_at "r";exact q
theorem lq:∀ds Q,bi ds Q->dg dh iq ds Q:=fun ds Q h=>by
 unfold bi at h
 split at h
 .exact kA _ _ _ h
 .exact h.elim
def dG(E:D->Prop):PTS:=(aH (dO (pB (pOp fGt (pFz (pCB fE (ag (pSl 0) ar))) (pFz (pC (.int 40))))) (oY E (xJ "TooMany" "most" (ag (pFz (pC (.int 40))) ar))) a8) (gM (vH (ag (pFz (bw 0)) ar)) (jc 2 (cH (ax 1) (cH (ax 2) jU))) (dO (kc (pB (bg cf (ag (pFz (bw 2)) ar)))) (oY E (xJ "NoPiece" "at" (ag (pFz (bw 1)) ar))) a8)))
theorem lr(d:D)(Q:PV->Prop)(E:D->Prop)(h:bz ([d]) Q E):Ci dG iO ([d]) Q E:=by
 show dG E _ [some (.dat (d)),none,none];obtain⟨ds,hd,⟨hn,hs⟩,he1,he2⟩:=h;rcases hd with rfl|rfl
 all_goals
  walk_at "r"
  refine e6 (fun c=>?_) (fun c=>?_)
  .walk_at "r";exact he1 (by omega)
  .obtain⟨he2,q⟩:=he2 (by omega);walk_at "r"
   refine⟨fun k ρ=>(∃v1 v2:Option PV,ρ=[_,v1,v2])/\∀j,j<k->uI (itD ds j)=true,⟨⟨_,_,rfl⟩,fun j hj=>absurd hj (not_lt_zero _)⟩,?_,?_⟩
   .rintro k ρ d hk ed ⟨⟨v1,v2,rfl⟩,ih⟩;have ed:d=.tup [.int k,itD ds k]:=ed;subst ed;have g:=hs _ (lR hk);walk_at "r"
    refine vD (BN (fun c=>?_) (fun c=>?_))
    .refine⟨⟨_,_,rfl⟩,fun j hj=>?_⟩
     by_cases e:j=k
     .rw [e];exact c
     .exact ih j (by omega)
    .walk_at "r";exact he2 k ⟨hk,ih,c⟩
   .rintro ρ ⟨⟨v1,v2,rfl⟩,ih⟩;exact q ih
theorem mE:∀ds Q E,bz ds Q E->Ci dG iO ds Q E:=fun ds Q E h=>by
 unfold bz at h
 split at h
 .exact lr _ _ _ h
 .exact h.elim
def h7:PTS:=(aH (bD (jD [none] (iD (bw 0)) (ax 0) pN (sO (ag (pFz (pC (.int 0))) (ag (pFz (pC (.int 0))) ar)))) (ax 2)) (aH (gM (vH (ag (pFz (bw 1)) ar)) (jc 2 (cH (ax 3) (cH (ax 4) jU))) (gM (iD (bg bi (ag (pFz (bw 0)) (ag (pFz (bw 4)) ar)))) (ax 5) (sP 2 (pCB xV (ag (pFz (pOp fIx (pSl 2) (pSl 5))) (ag (pFz (sO (ag (pFz (pUn yy (pFz (pOp cp (pSl 5) (pFz (pCB fE (ag (pSl 4) ar))))))) (ag (pFz (bw 3)) ar)))) ar))) (bw 5)))) (aH (gM (Ej (ag (pFz (pC (.int 1))) (ag (pFz (pCB fE (ag (pSl 0) ar))) ar))) (ax 5) (sP 2 (pCB xV (ag (pFz (pOp fIx (pSl 2) (pSl 5))) (ag (pFz (pOp fIx (pSl 2) (pFz (pOp B9 (pSl 5) (pFz (pC (.int 1))))))) ar))) (bw 5))) (bh (bw 2)))))
theorem qM(t:List Nat)(d:D)(Q:PV->Prop)(h:bP ([.str t,d]) Q):dg h7 mm ([.str t,d]) Q:=by
 show h7 _ [some (.dat (.str t)),some (.dat (d)),none,none,none,none];obtain⟨ps,hd,⟨hn,ht,hp⟩,q⟩:=h;have hlm:(ps.map D.str).length=ps.length:=length_map _
 have e0:(List.range t.length).map (fun _=>prD (0,0))=(List.replicate t.length ((0,0):Int×Int)).map prD:=by
  rw [map_replicate];exact ext_getElem (by simp) (fun i a b=>by simp)
 rcases hd with rfl|rfl
 all_goals
  walk_at "r"
  refine xz (fun τ=>∃v,τ=[v]) (fun k=>prD (0,0)) ?_ ?_ ?_
  .exact⟨_,rfl⟩
  .rintro k τ _ hk rfl ⟨v,rfl⟩ K1 k1;walk_at "r";exact k1 _ ⟨_,rfl⟩
  .rintro τ ⟨v,rfl⟩;walk_at "r";rw [e0]
   refine⟨fun k ρ=>∃(bs:List (Int×Int)) (v3 v4 v5:Option PV),(bs.length=t.length/\∀m,m<t.length->Lea (Sq0 t ps k m) (bs.getD m (0,0)))/\ρ=[some (.dat (.str t)),_,some (.own (bs.map prD)),v3,v4,v5],⟨_,_,_,_,⟨length_replicate ..,wE⟩,rfl⟩,?_,?_⟩
   .rintro k ρ d hk ed ⟨bs,v3,v4,v5,⟨hl,hb⟩,rfl⟩;have ed:d=.tup [.int k,itD (ps.map D.str) k]:=ed;rw [vL hk] at ed;subst ed;have hw:=hp _ (kL (show k<ps.length by omega));have g0:t.length<=10000/\(pw ps k).length<=10000:=⟨ht,by omega⟩
    walk_at "r";generalize hfl:(List.range t.length).filter (fun m:Nat=>ut t (pw ps k) (m:Int))=fl;have hfm:(fl.map nD).length=fl.length:=length_map _;have hmem:∀m,m∈fl ↔ m<t.length/\ut t (pw ps k) (m:Int)=true:=fun m=>by rw [<- hfl,mem_filter,mem_range]
    refine⟨fun j ρ=>∃(bs:List (Int×Int)) (v5:Option PV),(bs.length=t.length/\∀m,m<t.length->Lea (fun e=>Sq0 t ps k m e\/(m∈fl.take j/\e=(-((m:Int)+(lnP ps k:Int)),(k:Int)))) (bs.getD m (0,0)))/\ρ=[some (.dat (.str t)),_,some (.own (bs.map prD)),some (.dat (.int (k:Int))),some (.dat (.str (pw ps k))),v5],⟨bs,_,⟨hl,fun m hm=>(hb m hm).congr fun e=>⟨.inl,fun z=>z.elim id fun z=>nomatch z.1⟩⟩,rfl⟩,?_,?_⟩
    .rintro j ρ d hj ed ⟨bs,v5,⟨hl,hb⟩,rfl⟩;have hj:j<fl.length:=by rw [<- hfm];exact hj
     have ed:d=itD (fl.map nD) j:=ed;rw [jV (d:=nD fl[j]) (by rw [getElem?_map,getElem?_eq_getElem hj];rfl)] at ed;subst ed;have hpl:=((hmem fl[j]).mp (getElem_mem hj)).1;have hpb:fl[j]<bs.length:=by omega
     have hbm:(bs.map prD).length=bs.length:=length_map _;have hg:∀(x:Int×Int) (a b:Int),mnP x (a,b)=(if ltP a b x.1 x.2 then (a,b) else x):=fun _ _ _=>rfl;have stp:=x5 hl hj hpl hb;show ax 5 (.dat (.int (fl[j]:Int))) _ _;walk_at "r";refine⟨_,cG (j:=fl[j]) (show (bs.map prD)[fl[j]]?=some (.tup [.int (bs.getD fl[j] (0,0)).1,.int (bs.getD fl[j] (0,0)).2]) from j2 hpb) rfl,?_⟩;walk_at "r";exact⟨fl[j],DN (by omega),_,_,⟨by rw [length_set];exact hl,stp⟩,by rw [map_set,<- Cy];rfl⟩
    .rintro ρ ⟨bs,v5,⟨hl,hb⟩,rfl⟩
     exact⟨bs,_,_,_,⟨hl,fun m hm=>(hb m hm).congr fun e=>by
      rw [Sq0.succ,hfm,take_length,hmem];exact⟨fun z=>z.imp id fun z=>⟨z.1.2,z.2⟩,fun z=>z.imp id fun z=>⟨⟨hm,z.1⟩,z.2⟩⟩⟩,rfl⟩
   .rintro ρ ⟨bs,v3,v4,v5,⟨hl,hb⟩,rfl⟩;rw [hlm] at hb;walk_at "r"
    refine⟨fun k ρ=>∃(bs:List (Int×Int)) (v3 v4 v5:Option PV),(bs.length=t.length/\(∀m,m<t.length->m<=k->Lea (Fst t ps m) (bs.getD m (0,0)))/\∀m,m<t.length->k<m->Lea (Sq0 t ps ps.length m) (bs.getD m (0,0)))/\ρ=[some (.dat (.str t)),_,some (.own (bs.map prD)),v3,v4,v5],⟨bs,_,_,_,⟨hl,fun m hm h0=>(hb m hm).congr fun e=>⟨fun z=>⟨m,Nat.le_refl _,z⟩,fun ⟨q,hq,z⟩=>by rw [show m=q by omega];exact z⟩,fun m hm _=>hb m hm⟩,rfl⟩,?_,?_⟩
    .rintro k ρ _ hk rfl ⟨bs,v3,v4,v5,⟨hl,h1,h2⟩,rfl⟩;have hk1:k+1<bs.length:=by omega
     have hk0:k<bs.length:=by omega
     have stp:=x6 hl (by omega) h1 h2;walk_at "r";rw [show (1:Int)+(k:Int)=((k+1:Nat):Int) by omega];refine⟨_,cG (j:=k+1) (show (bs.map prD)[k+1]?=some (.tup [.int (bs.getD (k+1) (0,0)).1,.int (bs.getD (k+1) (0,0)).2]) from j2 hk1) rfl,?_⟩;walk_at "r";rw [show ((k+1:Nat):Int) - 1=((k:Nat):Int) by omega];refine⟨_,cG (j:=k) (show (bs.map prD)[k]?=some (.tup [.int (bs.getD k (0,0)).1,.int (bs.getD k (0,0)).2]) from j2 hk0) rfl,?_⟩
     walk_at "r";have hbm:(bs.map prD).length=bs.length:=length_map _;exact⟨k+1,DN (by omega),_,_,_,_,⟨by rw [length_set];exact hl,stp⟩,by rw [map_set,<- Cy]⟩
    .rintro ρ ⟨bs,v3,v4,v5,⟨hl,h1,h2⟩,rfl⟩;walk_at "r";exact q bs ⟨hl,fun m hm=>h1 m hm (by omega)⟩
theorem sg:∀ds Q,bP ds Q->dg h7 mm ds Q:=fun ds Q h=>by
 unfold bP at h
 split at h
 .exact qM _ _ _ h
 .exact h.elim
def lE(E:D->Prop):PTS:=(aH (io (yE E bz (ag (pFz (bw 1)) ar))) (aH (bD (bg bP (ag (pFz (bw 0)) (ag (pFz (bw 1)) ar))) (ax 2)) (aH (bD (nS ar) (ax 3)) (aH (bD (nS ar) (ax 4)) (aH (bD (pC (.int 0)) (ax 5)) (aH (oN (pB (pOp fLt (pSl 5) (pFz (pCB fE (ag (pSl 0) ar))))) (aH (bD (pOp fIx (pSl 2) (pSl 5)) (jc 2 (cH (ax 6) (cH (ax 7) jU)))) (aH (dO (pB (pOp fLe (pFz (pUn yy (pSl 6))) (pSl 5))) (oY E (xJ "NotCovered" "at" (ag (pFz (bw 5)) ar))) a8) (aH (io (yx 3 (sO (ag (pFz (pOp B9 (pFz (pUn yy (pSl 6))) (pFz (pCB fE (ag (pFz (pOp fIx (pSl 1) (pSl 7))) ar))))) (ag (pFz (bw 7)) ar))))) (aH (io (yx 4 (bw 5))) (bD (pUn yy (pSl 6)) (ax 5))))))) (bh (sO (ag (pFz (pCB kK (ag (pSl 3) ar))) (ag (pFz (pCB kK (ag (pSl 4) ar))) ar))))))))))
theorem wJ(t:List Nat)(d:D)(Q:PV->Prop)(E:D->Prop)(h:aX ([.str t,d]) Q E):Ci lE tH ([.str t,d]) Q E:=by
 show lE E _ [some (.dat (.str t)),some (.dat (d)),none,none,none,none,none,none];obtain⟨ds,hd,⟨hgp,ht⟩,he1,he2⟩:=h;walk_at "r";refine⟨ds,hd,hgp,he1,fun z=>?_⟩;obtain⟨he2,q⟩:=he2 z;refine⟨he2,fun hall=>?_⟩;obtain⟨ps,rfl,hp⟩:=yT (fun d hd=>by obtain⟨k,hk,rfl⟩:=mem_iff_getElem.mp hd;have:=hall k hk;rwa [jV (getElem?_eq_getElem hk)] at this);obtain⟨he3,q⟩:=q ps rfl hp;have hn:ps.length<=40:=by rw [length_map] at z;exact z
 have g1:ps.length<=40/\t.length<=10000/\∀p∈ps,p.length<=60:=⟨hn,ht,fun p h=>(hp p h).2.1⟩
 have hd':=hd;rcases hd with rfl|rfl
 all_goals
  walk_at "r";rintro bs F;walk_at "r";refine⟨fun k ρ=>∃(m:Nat) (cs:List (Nat×Nat)) (ms:List Nat) (v6 v7:Option PV),Pch t ps m cs ms/\k=t.length - m/\ρ=[some (.dat (.str t)),_,some (.dat (.lst (bs.map prD))),some (.own (cs.map rwD)),some (.own (ms.map nD)),some (.dat (.int (m:Int))),v6,v7],⟨_,0,[],[],_,_,.nil,rfl,rfl⟩,?_⟩;rintro k ρ ⟨m,cs,ms,v6,v7,hch,rfl,rfl⟩;obtain⟨⟨i0,i1,i8⟩,i2,i3,_⟩:=hch.all;have hcm:(cs.map rwD).length=cs.length:=length_map _
  have hmm:(ms.map nD).length=ms.length:=length_map _;walk_at "r"
  refine e6 (fun c1=>?_) (fun c1=>?_)
  .have hm:m<t.length:=by omega
   have hbl:m<bs.length:=by rw [F.1];exact hm
   walk_at "r";refine⟨_,cG (j:=m) (show (bs.map prD)[m]?=some (.tup [.int (bs.getD m (0,0)).1,.int (bs.getD m (0,0)).2]) from j2 hbl) rfl,?_⟩;walk_at "r"
   refine e6 (fun c2=>?_) (fun c2=>?_)
   .walk_at "r";exact he3 m ⟨hm,fun q hq=>by obtain⟨c,h1,h2⟩:=i3 q hq;exact⟨c,i2 c h1,h2⟩,F.bare hm c2⟩
   .obtain⟨c,hb,eb⟩:=F.best hm (F.best2 hm c2);obtain⟨bm,⟨b1,b2⟩,b3⟩:=id hb;have hl:=bm.le;rw [eb];walk_at "r";refine⟨_,cG (j:=c.2) (show (ps.map D.str)[c.2]?=some (.str (pw ps c.2)) by rw [getElem?_map,iG bm.1];rfl) rfl,?_⟩;walk_at "r"
    exact⟨t.length - (c.1+lnP ps c.2),by omega,c.1+lnP ps c.2,cs++[c],ms++[m],_,_,.snoc hch hm hb,rfl,by
     have e1:- -((c.1:Int)+(lnP ps c.2:Int)) - ((pw ps c.2).length:Int)=(c.1:Int):=by show - -((c.1:Int)+((pw ps c.2).length:Int)) - _=_;omega
     have e2:- -((c.1:Int)+(lnP ps c.2:Int))=((c.1+lnP ps c.2:Nat):Int):=by omega
     rw [e1,e2,map_append,map_append];rfl⟩
  .have hm:m=t.length:=by omega
   subst hm;walk_at "r";exact q cs ms hch
theorem yh:∀ds Q E,aX ds Q E->Ci lE tH ds Q E:=fun ds Q E h=>by
 unfold aX at h
 split at h
 .exact wJ _ _ _ _ h
 .exact h.elim
def cZ:PTS:=(aH (dO (kc (pB (bg b9 (ag (pFz (bw 1)) ar)))) (bh (pC (.bl false))) a8) (bh (pCB xw (ag (pFz (jD [none,some 0] (iD (bw 1)) (ax 0) pN (jC (bg bx (ag (pFz (bw 0)) (ag (pFz (pC (.int 2))) ar))) (bg bE (ag (pFz (pOp fIx (pSl 0) (pFz (pC (.int 1))))) (ag (pFz (pC (.int 0))) (ag (pFz (pOp B9 (pFz (pCB fE (ag (pSl 1) ar))) (pFz (pC (.int 1))))) ar))))))) ar))))
theorem j5(d d2:D)(Q:PV->Prop)(h:bc ([d,d2]) Q):dg cZ gp ([d,d2]) Q:=by
 show cZ _ [some (.dat (d)),some (.dat (d2))];obtain⟨ps,hd,rs,hd2,⟨hn,hl,hr⟩,q⟩:=h;have hlm:(ps.map D.str).length=ps.length:=length_map _;rcases hd with rfl|rfl <;> rcases hd2 with rfl|rfl
 all_goals
  walk_at "r"
  refine cm1 (fun r:Nat×Nat=>.bl true) (fun r hr1 v K1 k1=>?_) (fun v=>?_)
  .have s1:Srt (rwD r):=⟨rfl,CA r⟩
   have s2:ki (rwD r) 2=true:=rfl
   have s3:pz (nD r.2) 0 (((ps.map D.str).length:Int) - 1)=true:=by
    have:=hr r hr1;show (true && (decide ((0:Int)<=(r.2:Int)) && decide ((r.2:Int)<=((ps.map D.str).length:Int) - 1)))=true;rw [decide_eq_true (by omega),decide_eq_true (by omega)];rfl
   walk_at "r";rw [s3];exact k1 _
  .walk_at "r";refine⟨rs.map fun _=>true,by rw [map_map];rfl,?_⟩;rw [rY];exact q
theorem kB:∀ds Q,bc ds Q->dg cZ gp ds Q:=fun ds Q h=>by
 unfold bc at h
 split at h
 .exact j5 _ _ _ h
 .exact h.elim
def h8:PTS:=(aH (dO (kc (pB (bg bc (ag (pFz (bw 1)) (ag (pFz (bw 2)) ar))))) (bh (pC (.bl false))) a8) (aH (dO (kc (pB (pCB xw (ag (pFz (jD [none,none,some 0,some 1] (iD (bw 2)) (jc 2 (cH (ax 0) (cH (ax 1) jU))) pN (bg bO (ag (pFz (bw 2)) (ag (pFz (pOp fIx (pSl 3) (pSl 1))) (ag (pFz (bw 0)) ar)))))) ar)))) (bh (pC (.bl false))) a8) (aH (bD (pC (.int 0)) (ax 3)) (aH (gM (iD (pCB wz (ag (pFz (jD [none,none,some 1] (iD (bw 2)) (jc 2 (cH (ax 0) (cH (ax 1) jU))) pN (sO (ag (pFz (bw 0)) (ag (pFz (pOp cp (pSl 0) (pFz (pCB fE (ag (pFz (pOp fIx (pSl 2) (pSl 1))) ar))))) ar))))) ar))) (jc 2 (cH (ax 4) (cH (ax 5) jU))) (aH (dO (pB (pOp fGt (pSl 4) (pSl 3))) (bh (pC (.bl false))) a8) (bD (pCB zO (ag (pSl 3) (ag (pSl 5) ar))) (ax 3)))) (bh (pOp oR (pSl 3) (pFz (pCB fE (ag (pSl 0) ar)))))))))
theorem qN(t:List Nat)(d d2:D)(Q:PV->Prop)(h:cv ([.str t,d,d2]) Q):dg h8 mq ([.str t,d,d2]) Q:=by
 show h8 _ [some (.dat (.str t)),some (.dat (d)),some (.dat (d2)),none,none,none];obtain⟨ps,hd,rs,hd2,⟨hn,ht,hp,⟨hl,hpw⟩,hr,hcv⟩,q⟩:=h;have hlm:(ps.map D.str).length=ps.length:=length_map _;have hrm:(rs.map rwD).length=rs.length:=length_map _;have hd':=hd;have hd2':=hd2;have g0:ps.length<=40/\rs.length<=10000/\∀r∈rs,r.2<ps.length:=⟨hn,by omega,fun r h=>(hr r h).1⟩
 rcases hd with rfl|rfl <;> rcases hd2 with rfl|rfl
 all_goals
  walk_at "r"
  refine cm2 (fun r:Nat×Nat=>.bl true) (fun r hr1 v w K1 k1=>?_) (fun v w=>?_)
  .have hm:=hr r hr1;have h1:t.length<=10000/\(pw ps r.2).length<=10000:=⟨by omega,by have:=hp _ (kL hm.1);omega⟩
   have h2:=hm.2;walk_at "r";refine⟨_,cG (j:=r.2) (show (ps.map D.str)[r.2]?=some (.str (pw ps r.2)) by rw [getElem?_map,iG hm.1];rfl) rfl,?_⟩;walk_at "r";rw [h2];exact k1 _ _
  .walk_at "r";refine⟨rs.map fun _=>true,by rw [map_map];rfl,?_⟩;rw [rY];walk_at "r"
   refine cm2 (fun r:Nat×Nat=>AW (evR ps r)) (fun r hr1 v w K1 k1=>?_) (fun v w=>?_)
   .have hm:=hr r hr1;walk_at "r";refine⟨_,cG (j:=r.2) (show (ps.map D.str)[r.2]?=some (.str (pw ps r.2)) by rw [getElem?_map,iG hm.1];rfl) rfl,?_⟩;have:=hm.le;walk_at "r";exact k1 _ _
   .walk_at "r";refine⟨rs.map (evR ps),by rw [map_map];rfl,⟨⟨by rw [length_map];omega,DT hpw⟩,fun r hr=>by obtain⟨_,_,rfl⟩:=mem_map.mp hr;exact cons_ne_nil _ _⟩,fun xs hxp hxs=>?_⟩;walk_at "r"
    refine DM (e:=AW) (fun pre ρ=>∃(c:Int) (v4 v5:Option PV),(0<=c/\c<=t.length/\∀s:Nat×Nat,evR ps s∈pre->(s.1:Int)+(lnP ps s.2:Int)<=c)/\ρ=[some (.dat (.str t)),_,_,some (.dat (.int c)),v4,v5]) ⟨0,_,_,⟨by decide,by omega,fun s hs=>nomatch hs⟩,rfl⟩ ?_ ?_
    .rintro pre x suf ρ rfl ⟨c,v4,v5,⟨h0,h1,h2⟩,rfl⟩;obtain⟨r,hr1,rfl⟩:=mem_map.mp (hxp.mem_iff.mp (mem_append_right _ (mem_cons_self ..)));have hsw:=DS hcv hr hr1 hxp hxs h0 h2;have hle:=(hr r hr1).le;walk_at "r";refine⟨_,_,_,⟨by split <;> omega,by split <;> omega,fun s hs=>?_⟩,rfl⟩
     rcases mem_append.mp hs with w|w
     .have:=h2 s w;split <;> omega
     .have:(s.1:Int)+(lnP ps s.2:Int)=(r.1:Int)+(lnP ps r.2:Int):=congrArg (fun l:List Int=>l.getD 1 0) (mem_singleton.mp w);split <;> omega
    .rintro ρ ⟨c,v4,v5,⟨h0,h1,h2⟩,rfl⟩;have hce:=wH hcv hxp h0 h1 h2;subst hce;walk_at "r";rw [decide_eq_true rfl];exact q
theorem si:∀ds Q,cv ds Q->dg h8 mq ds Q:=fun ds Q h=>by
 unfold cv at h
 split at h
 .exact qN _ _ _ _ h
 .exact h.elim
def fM:PTS:=(aH (dO (kc (pB (bg aO (ag (pFz (bw 2)) (ag (pFz (pCB fE (ag (pSl 0) ar))) ar))))) (bh (pC (.bl false))) a8) (aH (bD (bg bP (ag (pFz (bw 0)) (ag (pFz (bw 1)) ar))) (ax 3)) (bh (pCB xw (ag (pFz (jD [none,none,some 3] (sW (ag (pFz (bw 2)) (ag (pFz (jf (pSl 2) (im (pC (.int 1))) kJ)) ar))) (jc 2 (cH (ax 0) (cH (ax 1) jU))) pN (pOp fLe (pFz (pUn yy (pFz (pOp fIx (pFz (pOp fIx (pSl 2) (pSl 0))) (pFz (pC (.int 0))))))) (pSl 1)))) ar)))))
theorem pG(t:List Nat)(d d2:D)(Q:PV->Prop)(h:cg ([.str t,d,d2]) Q):dg fM kQ ([.str t,d,d2]) Q:=by
 show fM _ [some (.dat (.str t)),some (.dat (d)),some (.dat (d2)),none];obtain⟨ps,hd,ms,hd2,⟨hn,ht,hp,h1,h2,h3⟩,q⟩:=h;have hmm:(ms.map nD).length=ms.length:=length_map _;have hml:ms.length<=t.length:=x8 h1 h2;have r1:=x9 h1 h2;have g1:ps.length<=40/\t.length<=10000/\∀p∈ps,p.length<=60:=⟨hn,by omega,hp⟩
 have s1:∀x∈ms.map nD,x.sort=true:=fun x hx=>by obtain⟨m,_,rfl⟩:=mem_map.mp hx;rfl
 subst hd2;have r1:=r1.2;have s2:Srt (.tup (ms.map nD)):=⟨rfl,s1⟩
 walk_at "r";refine⟨ps,hd,g1,?_⟩;rintro bs F;walk_at "r";rw [EJ]
 refine cmZ (xs:=ms) (ys:=ms.tail) (e:=nD) (e':=nD) (fun a b=>.bl true) (fun a b m v w K1 k1=>?_) (fun v w=>?_)
 .obtain⟨ha,hab⟩:=ya h3 m;have ham:=h2 a ha;have hbl:a<bs.length:=by rw [F.1];exact ham
  have hle:-(bs.getD a (0,0)).1<=(b:Int):=by
   rcases F.at ham with e|⟨r,hr,hra,e⟩
   .rw [e];show (0:Int)<=_;omega
   .have:=hab r hr hra;rw [e];show -(-((r.1:Int)+(lnP ps r.2:Int)))<=_;omega
  walk_at "r";refine⟨_,cG (j:=a) (show (bs.map prD)[a]?=some (.tup [.int (bs.getD a (0,0)).1,.int (bs.getD a (0,0)).2]) from j2 hbl) rfl,?_⟩;walk_at "r";rw [decide_eq_true hle];exact k1 _ _
 .walk_at "r";refine⟨(ms.zip ms.tail).map fun _=>true,by rw [map_map];rfl,?_⟩;rw [rY];exact q
theorem qO:∀ds Q,cg ds Q->dg fM kQ ds Q:=fun ds Q h=>by
 unfold cg at h
 split at h
 .exact pG _ _ _ _ h
 .exact h.elim
def h9:PTS:=(aH (bD (pOp cp (pFz (pCB uh (ag (pSl 0) ar))) (pFz (pOp rg (pFz (nS (ag (pFz (pC (.int 0))) ar))) (pFz (pCB vR (ag (pFz (pOp oR (pFz (pCB fE (ag (pSl 0) ar))) (pFz (pC (.int 0))))) ar)))))) (ax 2)) (aH (bD (jD [none] (iD (bw 2)) (ax 0) pN (pOp rg (pSl 0) (pFz (pCB vR (ag (pFz (pOp fGe (pSl 0) (pFz (pOp Ca (pFz (pC (.int 10))) (pFz (pC (.int 18))))))) ar))))) (ax 3)) (aH (bD (nS ar) (ax 4)) (aH (gM (wL (ag (pFz (bw 1)) ar)) (ax 5) (aH (bD (pOp lA (pSl 5) (pFz (pCB fE (ag (pSl 2) ar)))) (ax 6)) (aH (bD (pOp cp (pFz (pOp rg (pFz (pOp lA (pFz (pOp cp (pFz (pOp cp (pFz (pOp fIx (pSl 2) (pSl 6))) (pFz (pOp rg (pFz (pOp rg (pSl 5) (pSl 5))) (pFz (pC (.int 16807))))))) (pFz (pOp rg (pFz (pC (.int 3))) (pSl 5))))) (pFz (pC (.int 2147483629))))) (pFz (pOp fIx (pFz (nS (ag (pFz (pC (.int 48271))) (ag (pFz (pC (.int 69621))) (ag (pFz (pC (.int 39373))) (ag (pFz (pC (.int 16807))) ar)))))) (pFz (pOp lA (pSl 5) (pFz (pC (.int 4))))))))) (pFz (pC (.int 7)))) (ax 7)) (aH (io (yx 4 (pOp fIx (pFz (nS (ag (pFz (pOp lA (pFz (pOp rg (pSl 7) (pSl 7))) (pFz (pC (.int 2147483629))))) (ag (pFz (pOp lA (pFz (pOp fIx (pSl 3) (pSl 6))) (pFz (pOp Ca (pFz (pC (.int 10))) (pFz (pC (.int 18))))))) ar)))) (pFz (pCB vR (ag (pFz (pOp rh (pFz (pOp fIx (pSl 3) (pSl 6))) (pFz (pC (.int 0))))) ar)))))) (sP 3 (pOp Cr (pFz (pOp fIx (pSl 3) (pSl 6))) (pFz (pOp Ca (pFz (pC (.int 10))) (pFz (pC (.int 18)))))) (bw 6)))))) (bh (sR (pSl 4)))))))
theorem qP(ns:List Int)(mo:Int)(Q:PV->Prop)(h:cw ([.scr ns,.int mo]) Q):dg h9 mw ([.scr ns,.int mo]) Q:=by
 show h9 _ [some (.dat (.scr ns)),some (.dat (.int mo)),none,none,none,none,none,none];obtain⟨⟨hn,h0,h1⟩,q⟩:=h;have hnm:(ns.map D.int).length=ns.length:=length_map _;walk_at "r"
 obtain⟨cs,hcs,hc0,hc1⟩:∃cs:List Int,ns.map D.int++iB [D.int 0] (if decide ((ns.length:Int)=0)=true then 1 else 0)=cs.map D.int/\0<cs.length/\cs.length<=65:=by
  by_cases e:ns.length=0
  .refine⟨[0],?_,by decide,by decide⟩;rw [if_pos (decide_eq_true (by omega)),length_eq_zero_iff.mp e];rfl
  .refine⟨ns,?_,by omega,by omega⟩;rw [if_neg (fun z=>e (by have:=of_decide_eq_true z;omega))];exact append_nil _
 have hcm:(cs.map D.int).length=cs.length:=length_map _;rw [<- length_append,hcs,hcm];refine⟨by omega,?_⟩;walk_at "r"
 refine cm1 (fun c:Int=>.int (c*(if decide (c >= 10^18)=true then 1 else 0))) (fun c hc v K1 k1=>?_) (fun v=>?_)
 .walk_at "r";exact k1 _
 .walk_at "r";have e3:cs.map (fun c=>D.int (c*if decide (c >= 10^18)=true then 1 else 0))=(cs.map fun c=>c*if decide (c >= 10^18)=true then 1 else 0).map D.int:=by rw [map_map];rfl
  rw [e3];generalize hrs:(cs.map fun c=>c*if decide (c >= 10^18)=true then 1 else 0)=rs;have hrl:rs.length=cs.length:=by rw [<- hrs,length_map]
  clear hrs e3
  refine⟨fun k ρ=>∃(rs zs:List Int) (v5 v6 v7:Option PV),rs.length=cs.length/\Dk zs/\zs.length=k/\ρ=[some (.dat (.scr ns)),some (.dat (.int mo)),some (.dat (.lst (cs.map .int))),some (.own (rs.map .int)),some (.own (zs.map .int)),v5,v6,v7],⟨rs,[],_,_,_,hrl,(fun x hx=>nomatch hx),rfl,rfl⟩,?_,?_⟩
  .rintro k ρ _ hk rfl ⟨rs,zs,v5,v6,v7,hrl,hz,hzl,rfl⟩;have hk:k<mo.toNat:=hk;have hrm:(rs.map D.int).length=rs.length:=length_map _;have hzm:(zs.map D.int).length=zs.length:=length_map _;obtain⟨j,hj⟩:∃j:Nat,(k:Int) % (cs.length:Int)=(j:Int):=⟨((k:Int) % (cs.length:Int)).toNat,by have:=emod_nonneg (k:Int) (show (cs.length:Int)≠0 by omega);omega⟩
   have hj2:j<cs.length:=by have:=emod_lt_of_pos (k:Int) (show 0<(cs.length:Int) by omega);omega
   obtain⟨i,hi,hi2⟩:∃i:Nat,(k:Int) % 4=(i:Int)/\i<4:=⟨((k:Int) % 4).toNat,by omega,by omega⟩
   obtain⟨f,ef,hf0,hf1⟩:∃f:Int,atI ([.int 48271,.int 69621,.int 39373,.int 16807]:List D) (i:Int)=some (.int f)/\0<=f/\f<=69621:=by
    rcases i with _|_|_|_|i
    .exact⟨_,rfl,by decide,by decide⟩
    .exact⟨_,rfl,by decide,by decide⟩
    .exact⟨_,rfl,by decide,by decide⟩
    .exact⟨_,rfl,by decide,by decide⟩
    .omega
   have ec:atI (cs.map D.int) (j:Int)=some (.int cs[j]):=cG (j:=j) (by rw [getElem?_map,getElem?_eq_getElem hj2];rfl) rfl;have er:atI (rs.map D.int) (j:Int)=some (.int (rs[j]'(by omega))):=cG (j:=j) (by rw [getElem?_map,getElem?_eq_getElem (by omega)];rfl) rfl;generalize rs[j]'(by omega)=r at er;walk_at "r";rw [hcm,hj];walk_at "r";refine⟨_,ec,?_⟩;walk_at "r";rw [hi];refine⟨_,ef,?_⟩;have hb:∀a:Int,0<=a % 2147483629*f+7/\a % 2147483629*f+7<=2147483629*69621+7:=fun a=>⟨by have:=mul_nonneg (emod_nonneg a (show (2147483629:Int)≠0 by decide)) hf0;omega,by have:=Int.mul_le_mul (Int.le_of_lt (emod_lt_of_pos a (show (0:Int)<2147483629 by decide))) hf1 hf0 (by decide);omega⟩
   have hb:=hb (cs[j]+(k:Int)*(k:Int)*16807+3*(k:Int));have p18:(0:Int)<10^Int.toNat 18:=by decide
   have p18b:(10:Int)^Int.toNat 18<18446744073709551616:=by decide
   have q18:((10:Int)^Int.toNat 18)=1000000000000000000:=by decide
   walk_at "r";generalize (cs[j]+(k:Int)*(k:Int)*16807+3*(k:Int)) % 2147483629*f+7=x at hb;refine⟨_,er,?_⟩;walk_at "r";refine⟨_,er,?_⟩;walk_at "r"
   have fin:∀z:Int,0<=z->z<1000000000000000000->∃(rs' zs':List Int) (v5 v6 v7:Option PV),rs'.length=cs.length/\Dk zs'/\zs'.length=k+1/\[some (.dat (.scr ns)),some (.dat (.int mo)),some (.dat (.lst (cs.map .int))),some (.own ((rs.map D.int).set j (.int (r / 10^Int.toNat 18)))),some (.own (zs.map D.int++[.int z])),some (.dat (.int (k:Int))),some (.dat (.int (j:Int))),some (.dat (.int x))]=[some (PV.dat (.scr ns)),some (.dat (.int mo)),some (.dat (.lst (cs.map .int))),some (.own (rs'.map .int)),some (.own (zs'.map .int)),v5,v6,v7]:=fun z hz0 hz1=>by
    refine⟨rs.set j (r / 10^Int.toNat 18),zs++[z],_,_,_,by rw [length_set];exact hrl,fun y hy=>?_,by rw [length_append,hzl];rfl,by rw [map_set,map_append];rfl⟩
    rcases mem_append.mp hy with w|w
    .exact hz y w
    .rw [mem_singleton.mp w];exact⟨hz0,hz1⟩
   obtain⟨z,ez,hz0,hz1⟩:∃z:Int,atI ([.int (x*x % 2147483629),.int (r % 10^Int.toNat 18)]:List D) (if (!decide (r=0))=true then 1 else 0)=some (.int z)/\0<=z/\z<1000000000000000000:=by
    by_cases e:r=0
    .rw [decide_eq_true e];exact⟨x*x % 2147483629,rfl,emod_nonneg _ (by decide),lt_trans (emod_lt_of_pos _ (by decide)) (by decide)⟩
    .rw [decide_eq_false e];exact⟨r % 10^Int.toNat 18,rfl,emod_nonneg _ (by decide),Int.lt_of_lt_of_le (emod_lt_of_pos _ p18) (by rw [q18];decide)⟩
   refine⟨_,ez,?_⟩;walk_at "r";refine⟨_,er,?_⟩;walk_at "r";refine⟨j,?_,fin z hz0 hz1⟩;rw [hrm,hrl];exact DN hj2
  .rintro ρ ⟨rs,zs,v5,v6,v7,hrl,hz,hzl,rfl⟩;walk_at "r";rw [<- map_reverse];exact q _ (fun x hx=>hz x (mem_reverse.mp hx)) (by rw [length_reverse];exact hzl)
theorem sj:∀ds Q,cw ds Q->dg h9 mw ds Q:=fun ds Q h=>by
 unfold cw at h
 split at h
 .exact qP _ _ _ h
 .exact h.elim
def ib:PTS:=(bh (DC 0))
theorem qQ(ds:List D)(Q:PV->PV->Prop)(h:aJ (.own ds) ([]) Q):CO ib mx (.own ds) ([]) Q:=by
 show ib _ [some (.own ds)];obtain⟨zs,rfl,⟨hz,h0,h1⟩,q⟩:=h;obtain⟨ys,z,rfl⟩:∃ys z,zs=ys++[z]:=⟨zs.dropLast,zs.getLast (ne_nil_of_length_pos h0),(dropLast_concat_getLast _).symm⟩
 have hm:((ys++[z]).map D.int)=ys.map D.int++[D.int z]:=by rw [map_append];rfl
 have hl:(ys.map D.int++[D.int z]).length - 1=(ys.map D.int).length:=by rw [length_append];rfl
 rw [hm];walk_at "r";refine⟨.int z,by rw [hl,getElem?_append_right (Nat.le_refl _),sub_self];rfl,?_⟩;walk_at "r";rw [dropLast_concat];have hzz:=hz z (mem_append_right _ (mem_singleton.mpr rfl));exact q z ys hzz.1 hzz.2 (fun x hx=>hz x (mem_append_left _ hx)) (by rw [length_append];rfl)
theorem sk:∀p ds Q,p.isOwn=true->aJ p ds Q->CO ib mx p ds Q:=fun p ds Q _ h=>by
 unfold aJ at h
 split at h
 .exact qQ _ _ h
 .exact h.elim
def fN:PTS:=(bh (jC (vF .int (pSl 0)) (zF (vF .bool (pSl 0)))))
theorem pH(z:Int)(Q:PV->Prop)(h:aB ([.int z]) Q):dg fN kR ([.int z]) Q:=by
 show fN _ [some (.dat (.int z))];walk_at "r";exact h
theorem qR:∀ds Q,aB ds Q->dg fN kR ds Q:=fun ds Q h=>by
 unfold aB at h
 split at h
 .exact pH _ _ h
 .exact h.elim
def ic:PTS:=(aH (bD (pC (.str [])) (ax 1)) (aH (dB (dO (pB (rj xcs "TooMany" (pSl 0))) (bD (pOp cp (pSl 1) (pFz (pC (.str [84,111,111,77,97,110,121,32])))) (ax 1)) a8)) (aH (dB (dO (pB (rj xcs "NoPiece" (pSl 0))) (bD (pOp cp (pSl 1) (pFz (pC (.str [78,111,80,105,101,99,101,32])))) (ax 1)) a8)) (aH (dB (dO (pB (rj xcs "NoLap" (pSl 0))) (bD (pOp cp (pSl 1) (pFz (pC (.str [78,111,76,97,112,32])))) (ax 1)) a8)) (aH (dB (dO (pB (rj xcs "NoOrder" (pSl 0))) (bD (pOp cp (pSl 1) (pFz (pC (.str [78,111,79,114,100,101,114,32])))) (ax 1)) a8)) (aH (dB (dO (pB (rj xcs "NotHeld" (pSl 0))) (bD (pOp cp (pSl 1) (pFz (pC (.str [78,111,116,72,101,108,100,32])))) (ax 1)) a8)) (aH (dB (dO (pB (rj xcs "NoTable" (pSl 0))) (bD (pOp cp (pSl 1) (pFz (pC (.str [78,111,84,97,98,108,101,32])))) (ax 1)) a8)) (aH (dB (dO (pB (rj xcs "NoRing" (pSl 0))) (bD (pOp cp (pSl 1) (pFz (pC (.str [78,111,82,105,110,103,32])))) (ax 1)) a8)) (aH (dB (dO (pB (rj xcs "TooGreat" (pSl 0))) (bD (pOp cp (pSl 1) (pFz (pC (.str [84,111,111,71,114,101,97,116,32])))) (ax 1)) a8)) (aH (dB (dO (pB (rj xcs "NoWords" (pSl 0))) (bD (pOp cp (pSl 1) (pFz (pC (.str [78,111,87,111,114,100,115,32])))) (ax 1)) a8)) (aH (dB (dO (pB (rj xcs "NotApart" (pSl 0))) (bD (pOp cp (pSl 1) (pFz (pC (.str [78,111,116,65,112,97,114,116,32])))) (ax 1)) a8)) (aH (dB (dO (pB (rj xcs "NoCounts" (pSl 0))) (bD (pOp cp (pSl 1) (pFz (pC (.str [78,111,67,111,117,110,116,115,32])))) (ax 1)) a8)) (aH (dB (dO (pB (rj xcs "NotCovered" (pSl 0))) (bD (pOp cp (pSl 1) (pFz (pC (.str [78,111,116,67,111,118,101,114,101,100,32])))) (ax 1)) a8)) (aH (dB (dO (pOr (pB (rj xcs "NoLine" (pSl 0))) (pOr (pB (rj xcs "NoPaper" (pSl 0))) (pB (rj xcs "NotTold" (pSl 0))))) (bD (pOp cp (pSl 1) (pFz (pC (.str [111,116,104,101,114,32])))) (ax 1)) a8)) (aH (dB (dO (kc (pB (Et xcs (pSl 0)))) (bD (pOp cp (pSl 1) (pFz (pC (.str [110,111,110,101])))) (ax 1)) a8)) (bh (bw 1)))))))))))))))))
theorem qS(c:Str)(ns:List Str)(ds:List D)(Q:PV->Prop)(h:bq ([.exc c ns ds]) Q):dg ic my ([.exc c ns ds]) Q:=by
 show ic _ [some (.dat (.exc c ns ds)),none];obtain⟨w,h,q⟩:=h;rcases h with ⟨rfl,rfl⟩|⟨rfl,rfl⟩|⟨rfl,rfl⟩
 all_goals
  walk_at "r"
  repeat (first|((refine⟨_,?_,fun ρ h=>h⟩);walk_at "r")|((refine Ed ?_ ?_);(next=>decide +kernel);(try walk_at "r"))|((refine Eb ?_ ?_);(next=>decide +kernel);(try walk_at "r")))
  exact q
theorem sm:∀ds Q,bq ds Q->dg ic my ds Q:=fun ds Q h=>by
 unfold bq at h
 split at h
 .exact qS _ _ _ _ h
 .exact h.elim
def dY:PTS:=(aH (bD (pC (.str [])) (ax 3)) (aH (oN (yr (pB (pOp fGt (pSl 0) (pFz (pC (.int 0))))) (pB (pOp fLt (pFz (pCB fE (ag (pSl 3) ar))) (pSl 2)))) (aH (bD (pOp cp (pSl 3) (pFz (pOp fIx (pSl 1) (pFz (pOp lA (pSl 0) (pFz (pCB fE (ag (pSl 1) ar)))))))) (ax 3)) (bD (pOp CN (pSl 0) (pFz (pCB fE (ag (pSl 1) ar)))) (ax 0)))) (bh (bw 3))))
theorem mF(z:Int)(ls:List Nat)(mo:Int)(Q:PV->Prop)(h:bj ([.int z,.str ls,.int mo]) Q):dg dY jl ([.int z,.str ls,.int mo]) Q:=by
 show dY _ [some (.dat (.int z)),some (.dat (.str ls)),some (.dat (.int mo)),none];obtain⟨⟨hz,hl0,hl1,hm0,hm1⟩,q⟩:=h;walk_at "r";refine⟨fun m ρ=>∃(w:List Nat) (r:Int),(w.length:Int)<=mo/\(∀c∈w,c∈ls)/\0<=r/\(0<w.length\/r=z)/\m=mo.toNat - w.length/\ρ=[some (.dat (.int r)),some (.dat (.str ls)),some (.dat (.int mo)),some (.dat (.str w))],⟨_,[],z,hm0,(fun c hc=>nomatch hc),hz,.inr rfl,rfl,rfl⟩,?_⟩;rintro m ρ ⟨w,r,hw,hc,hr,hp,hm,rfl⟩
 walk_at "r"
 refine e6 (fun c1=>?_) (fun c1=>?_)
 .walk_at "r"
  refine e6 (fun c2=>?_) (fun c2=>?_)
  .obtain⟨j,hj⟩:∃j:Nat,r % (ls.length:Int)=(j:Int):=⟨(r % (ls.length:Int)).toNat,by have:=emod_nonneg r (show (ls.length:Int)≠0 by omega);omega⟩
   have hj2:j<ls.length:=by have:=emod_lt_of_pos r (show 0<(ls.length:Int) by omega);omega
   have hdv:0<=r / (ls.length:Int):=ediv_nonneg hr (by omega);walk_at "r";rw [hj];refine⟨_,cG (j:=j) (getElem?_eq_getElem hj2) rfl,?_⟩;walk_at "r"
   refine⟨_,?_,w++[ls[j]],r / (ls.length:Int),?_,fun c hx=>?_,hdv,.inl ?_,rfl,rfl⟩
   .rw [length_append];show mo.toNat - (w.length+1)<m;omega
   .rw [length_append];show ((w.length+1:Nat):Int)<=mo;omega
   .rcases mem_append.mp hx with x|x
    .exact hc c x
    .rw [mem_singleton.mp x];exact getElem_mem hj2
   .rw [length_append];exact succ_pos _
  .walk_at "r";exact q w hw hc (fun a b=>by omega)
 .walk_at "r";exact q w hw hc (fun a b=>by omega)
theorem nB:∀ds Q,bj ds Q->dg dY jl ds Q:=fun ds Q h=>by
 unfold bj at h
 split at h
 .exact mF _ _ _ _ h
 .exact h.elim
def eU:PTS:=(aH (bD (pC (.str [])) (ax 2)) (aH (gM (iD (bw 0)) (ax 3) (aH (dB (dO (pB (pOp oR (pFz (pOp lA (pSl 1) (pFz (pC (.int 5))))) (pFz (pC (.int 0))))) (bD (pC (.str [63])) (ax 3)) a8)) (aH (bD (pOp CN (pSl 1) (pFz (pC (.int 5)))) (ax 1)) (bD (pOp cp (pSl 2) (pSl 3)) (ax 2))))) (bh (bw 2))))
theorem nC(w:List Nat)(z:Int)(Q:PV->Prop)(h:bS ([.str w,.int z]) Q):dg eU j3 ([.str w,.int z]) Q:=by
 show eU _ [some (.dat (.str w)),some (.dat (.int z)),none,none];obtain⟨⟨hw,hl⟩,q⟩:=h;walk_at "r"
 refine⟨fun k ρ=>∃(u:List Nat) (r:Int) (v3:Option PV),u.length=k/\Gc u/\ρ=[some (.dat (.str w)),some (.dat (.int r)),some (.dat (.str u)),v3],⟨[],z,_,rfl,Gc.nil,rfl⟩,?_,?_⟩
 .rintro k ρ d hk ed ⟨u,r,v3,hu,hg,rfl⟩;subst ed;have hk:k<w.length:=hk
  have hc:(97<=w.getD k 0/\w.getD k 0<=122)\/w.getD k 0=63:=by
   rw [getD_eq_getElem?_getD,getElem?_eq_getElem hk];exact hw _ (getElem_mem hk)
  walk_at "r"
  refine⟨fun ρ=>∃c:Nat,((97<=c/\c<=122)\/c=63)/\ρ=[some (.dat (.str w)),some (.dat (.int r)),some (.dat (.str u)),some (.dat (.str [c]))],?_,?_⟩
  .walk_at "r"
   refine e6 (fun c1=>?_) (fun c1=>?_)
   .walk_at "r";exact⟨63,.inr rfl,rfl⟩
   .exact⟨_,hc,rfl⟩
  .rintro ρ ⟨c,hc,rfl⟩;walk_at "r";exact⟨u++[c],_,_,by rw [length_append,hu];rfl,hg.app (Gc.one hc),rfl⟩
 .rintro ρ ⟨u,r,v3,hu,hg,rfl⟩;walk_at "r";exact q u hu hg
theorem pI:∀ds Q,bS ds Q->dg eU j3 ds Q:=fun ds Q h=>by
 unfold bS at h
 split at h
 .exact nC _ _ _ h
 .exact h.elim
def fO:PTS:=(aH (bD (pOp fIx (pFz (nS (ag (pFz (pC (.str [97,98]))) (ag (pFz (pC (.str [97,98]))) (ag (pFz (pC (.str [97,98,99]))) ar))))) (pFz (pOp lA (pFz (df aJ 0 ar)) (pFz (pC (.int 3)))))) (ax 2)) (aH (bD (bg bj (ag (pFz (pOp cp (pFz (df aJ 0 ar)) (pFz (pOp Ca (pFz (pC (.int 10))) (pFz (pC (.int 9))))))) (ag (pFz (bw 2)) (ag (pFz (pC (.int 9))) ar)))) (ax 3)) (aH (bD (pOp cp (pSl 3) (pFz (bg bj (ag (pFz (pOp cp (pFz (df aJ 0 ar)) (pFz (pOp Ca (pFz (pC (.int 10))) (pFz (pC (.int 9))))))) (ag (pFz (bw 2)) (ag (pFz (pC (.int 7))) ar)))))) (ax 3)) (aH (bD (jf (pSl 3) kJ (im (pOp fIx (pFz (nS (ag (pFz (pC (.int 0))) (ag (pFz (pC (.int 1))) (ag (pFz (pC (.int 3))) (ag (pFz (pC (.int 7))) (ag (pFz (pC (.int 11))) (ag (pFz (pC (.int 16))) ar)))))))) (pFz (pOp lA (pFz (df aJ 0 ar)) (pFz (pC (.int 6)))))))) (ax 3)) (aH (bD (nS ar) (ax 4)) (aH (gM (wL (ag (pFz (pOp cp (pFz (pC (.int 1))) (pFz (pOp lA (pFz (df aJ 0 ar)) (pFz (pC (.int 5))))))) ar)) (ax 5) (aH (bD (df aJ 0 ar) (ax 6)) (aH (bD (pOp lA (pSl 6) (pFz (pOp cp (pFz (pCB fE (ag (pSl 3) ar))) (pFz (pC (.int 1)))))) (ax 7)) (aH (bD (jf (pSl 3) (im (bw 7)) (im (pOp cp (pFz (pOp cp (pSl 7) (pFz (pC (.int 1))))) (pFz (pOp lA (pFz (pOp CN (pSl 6) (pFz (pC (.int 17))))) (pFz (pC (.int 5)))))))) (ax 8)) (aH (dB (dO (pB (pOp oR (pSl 7) (pFz (pCB fE (ag (pSl 3) ar))))) (bD (pC (.str [97])) (ax 8)) a8)) (io (yx 4 (bg bS (ag (pFz (bw 8)) (ag (pFz (pOp CN (pSl 6) (pFz (pC (.int 85))))) ar)))))))))) (aH (dB (dO (pB (bw 1)) (aH (io (yx 4 (pOp fIx (pFz (nS (ag (pFz (pC (.str [97,98,63]))) (ag (pFz (pC (.str [63]))) (ag (pFz (pC (.str [97,63]))) (ag (pFz (pC (.str [63,63]))) ar)))))) (pFz (pOp lA (pFz (df aJ 0 ar)) (pFz (pC (.int 4)))))))) (io (lU 4 (pOp lA (pFz (df aJ 0 ar)) (pFz (pCB fE (ag (pSl 4) ar)))) (pOp rg (pFz (pC (.str [63]))) (pFz (pOp cp (pFz (pC (.int 1))) (pFz (pOp lA (pFz (df aJ 0 ar)) (pFz (pC (.int 4))))))))))) a8)) (bh (sO (ag (pFz (bw 3)) (ag (pFz (bw 4)) ar)))))))))))
theorem pJ(ds:List D)(wh:Bool)(Q:PV->PV->Prop)(h:cq (.own ds) ([.bl wh]) Q):CO fO kS (.own ds) ([.bl wh]) Q:=by
 show fO _ [some (.own ds),some (.dat (.bl wh)),none,none,none,none,none,none,none];obtain⟨zs,rfl,⟨hz,h3,h1⟩,q⟩:=h;have g0:Dk zs/\0<zs.length/\zs.length<=100000:=⟨hz,by omega,by omega⟩
 walk_at "r";rintro n1 y1 ha0 ha1 hd1 hy1;have g1:Dk y1/\0<y1.length/\y1.length<=100000:=⟨hd1,by omega,by omega⟩
 obtain⟨i,hi,hi2⟩:∃i:Nat,n1 % 3=(i:Int)/\i<3:=⟨(n1 % 3).toNat,by omega,by omega⟩
 walk_at "r";rw [hi]
 obtain⟨ls,el,hl0,hl1,hlL⟩:∃ls:List Nat,atI ([.str [97,98],.str [97,98],.str [97,98,99]]:List D) (i:Int)=some (.str ls)/\0<ls.length/\ls.length<=26/\Lts ls:=by
  have d:∀l∈[[97,98],[97,98,99]],∀c∈l,97<=c/\c<=122:=by decide
  rcases i with _|_|_|i
  .exact⟨_,rfl,by decide,by decide,d _ (by decide)⟩
  .exact⟨_,rfl,by decide,by decide,d _ (by decide)⟩
  .exact⟨_,rfl,by decide,by decide,d _ (by decide)⟩
  .omega
 refine⟨_,el,?_⟩;walk_at "r";rintro n2 y2 hb0 hb1 hd2 hy2;have g2:Dk y2/\0<y2.length/\y2.length<=100000:=⟨hd2,by omega,by omega⟩
 have p9:((10:Int)^(9:Nat))=1000000000:=by decide
 have gs:0<=n2+10^9/\0<ls.length/\ls.length<=26/\(0:Int)<=9/\(9:Int)<=100:=⟨by omega,hl0,hl1,by decide,by decide⟩
 walk_at "r";rintro w1 hw1 hw1c _;have w1L:Lts w1:=fun c hc=>hlL c (hw1c c hc);walk_at "r";rintro n3 y3 hc0 hc1 hd3 hy3;have g3:Dk y3/\0<y3.length/\y3.length<=100000:=⟨hd3,by omega,by omega⟩
 have gs3:0<=n3+10^9/\0<ls.length/\ls.length<=26/\(0:Int)<=7/\(7:Int)<=100:=⟨by omega,hl0,hl1,by decide,by decide⟩
 walk_at "r";rintro w2 hw2 hw2c _;have w2L:Lts w2:=fun c hc=>hlL c (hw2c c hc);walk_at "r";rintro n4 y4 he0 he1 hd4 hy4;have g4:Dk y4/\0<y4.length/\y4.length<=100000:=⟨hd4,by omega,by omega⟩
 obtain⟨j,hj,hj2⟩:∃j:Nat,n4 % 6=(j:Int)/\j<6:=⟨(n4 % 6).toNat,by omega,by omega⟩
 walk_at "r";rw [hj]
 obtain⟨m,em,hm⟩:∃m:Nat,atI ([.int 0,.int 1,.int 3,.int 7,.int 11,.int 16]:List D) (j:Int)=some (.int (m:Int))/\m<=16:=by
  rcases j with _|_|_|_|_|_|j
  .exact⟨0,rfl,by decide⟩
  .exact⟨1,rfl,by decide⟩
  .exact⟨3,rfl,by decide⟩
  .exact⟨7,rfl,by decide⟩
  .exact⟨11,rfl,by decide⟩
  .exact⟨16,rfl,by decide⟩
  .omega
 refine⟨_,em,?_⟩;walk_at "r";rw [lL];generalize hT:(w1++w2).take m=t
 have htL:Lts t:=by
  rw [<- hT];intro c hc;exact (mem_append.mp (mem_of_mem_take hc)).elim (w1L c) (w2L c)
 have htl:t.length<=16:=by rw [<- hT,length_take];omega
 walk_at "r";rintro n5 y5 hf0 hf1 hd5 hy5;have tg:Gc t:=Gc.of htL;walk_at "r"
 refine⟨fun k ρ=>∃(ps:List (List Nat)) (ys:List Int) (v5 v6 v7 v8:Option PV),(ps.length=k/\(∀p∈ps,0<p.length/\p.length<=5/\Gc p)/\Dk ys/\ys.length+k=y5.length)/\ρ=[some (.own (ys.map .int)),some (.dat (.bl wh)),some (.dat (.str ls)),some (.dat (.str t)),some (.own (ps.map .str)),v5,v6,v7,v8],⟨[],y5,_,_,_,_,⟨rfl,fun p hp=>(nomatch hp),hd5,rfl⟩,rfl⟩,?_,?_⟩
 .rintro k ρ _ hk rfl ⟨ps,ys,v5,v6,v7,v8,⟨hpl,hps,hdy,hyl⟩,rfl⟩;have hk5:k<5:=by omega
  have hpm:(ps.map D.str).length=ps.length:=length_map _;have g6:Dk ys/\0<ys.length/\ys.length<=100000:=⟨hdy,by omega,by omega⟩
  walk_at "r";rintro n y6 hn0 hn1 hd6 hy6;have hq0:0<=n / 17:=ediv_nonneg hn0 (by decide);obtain⟨a,ha,ha2⟩:∃a:Nat,n % ((t.length:Int)+1)=(a:Int)/\a<=t.length:=⟨(n % ((t.length:Int)+1)).toNat,by have:=emod_nonneg n (show (t.length:Int)+1≠0 by omega);omega,by have:=emod_lt_of_pos n (show 0<(t.length:Int)+1 by omega);omega⟩
  obtain⟨b,hb,hb2⟩:∃b:Nat,n / 17 % 5=(b:Int)/\b<5:=⟨(n / 17 % 5).toNat,by omega,by omega⟩
  walk_at "r";rw [ha,hb,show (a:Int)+1+(b:Int)=((a+1+b:Nat):Int) by omega,p7];generalize hU:(t.drop a).take (a+1+b - a)=u;have hul:u.length=min (1+b) (t.length - a):=by rw [<- hU,length_take,length_drop];omega
  have hug:Gc u:=by rw [<- hU];exact (tg.drop a).take _
  refine⟨fun ρ=>∃w:List Nat,(0<w.length/\w.length<=5/\Gc w)/\ρ=[some (.own (y6.map .int)),some (.dat (.bl wh)),some (.dat (.str ls)),some (.dat (.str t)),some (.own (ps.map .str)),some (.dat (.int (k:Int))),some (.dat (.int n)),some (.dat (.int (a:Int))),some (.dat (.str w))],?_,?_⟩
  .walk_at "r"
   refine e6 (fun c1=>?_) (fun c1=>?_)
   .walk_at "r";exact⟨[97],⟨by decide,by decide,Gc.one (.inl ⟨by decide,by decide⟩)⟩,rfl⟩
   .exact⟨u,⟨by omega,by omega,hug⟩,rfl⟩
  .rintro ρ ⟨w,⟨hw0,hw1,hwg⟩,rfl⟩;have gg:Gc w/\w.length<=100:=⟨hwg,by omega⟩
   walk_at "r";rintro v hvl hvg;walk_at "r";refine⟨ps++[v],y6,_,_,_,_,⟨by rw [length_append,hpl];rfl,fun p hp=>?_,hd6,by omega⟩,by rw [map_append];rfl⟩
   rcases mem_append.mp hp with z|z
   .exact hps p z
   .rw [mem_singleton.mp z];exact⟨by omega,by omega,hvg⟩
 .rintro ρ ⟨ps,ys,v5,v6,v7,v8,⟨hpl,hps,hdy,hyl⟩,rfl⟩;have hn5:1<=ps.length/\ps.length<=5:=by omega
  have hpm:(ps.map D.str).length=ps.length:=length_map _
  refine⟨fun ρ=>∃(ps:List (List Nat)) (ys:List Int),(0<ps.length/\ps.length<=7)/\(∀p∈ps,0<p.length/\p.length<=5/\Gc p)/\(Dk ys/\zs.length<=ys.length+20/\ys.length<=zs.length)/\ρ=[some (.own (ys.map .int)),some (.dat (.bl wh)),some (.dat (.str ls)),some (.dat (.str t)),some (.own (ps.map .str)),v5,v6,v7,v8],?_,?_⟩
  .walk_at "r"
   cases wh with
   | false =>
    refine (show jB _ _ _ from ?_);exact⟨ps,ys,⟨by omega,by omega⟩,hps,⟨hdy,by omega,by omega⟩,rfl⟩
   | true =>
    have g6:Dk ys/\0<ys.length/\ys.length<=100000:=⟨hdy,by omega,by omega⟩
    walk_at "r";rintro n7 y7 hn70 hn71 hd7 hy7;obtain⟨i7,hi7,hi72⟩:∃i:Nat,n7 % 4=(i:Int)/\i<4:=⟨(n7 % 4).toNat,by omega,by omega⟩
    walk_at "r";rw [hi7]
    obtain⟨w7,ew7,hw7⟩:∃w:List Nat,atI ([.str [97,98,63],.str [63],.str [97,63],.str [63,63]]:List D) (i7:Int)=some (.str w)/\0<w.length/\w.length<=5/\Gc w:=by
     have d:∀l∈[[97,98,63],[63],[97,63],[63,63]],∀c∈l,(97<=c/\c<=122)\/c=63:=by decide
     rcases i7 with _|_|_|_|i7
     .exact⟨_,rfl,by decide,by decide,d _ (by decide)⟩
     .exact⟨_,rfl,by decide,by decide,d _ (by decide)⟩
     .exact⟨_,rfl,by decide,by decide,d _ (by decide)⟩
     .exact⟨_,rfl,by decide,by decide,d _ (by decide)⟩
     .omega
    refine⟨_,ew7,?_⟩;have g7:Dk y7/\0<y7.length/\y7.length<=100000:=⟨hd7,by omega,by omega⟩
    walk_at "r";rintro n8 y8 hn80 hn81 hd8 hy8;have g8:Dk y8/\0<y8.length/\y8.length<=100000:=⟨hd8,by omega,by omega⟩
    have hpm7:(ps.map D.str++[D.str w7]).length=ps.length+1:=by rw [length_append,hpm];rfl
    have lc:[63].length=1:=rfl;walk_at "r";rintro n9 y9 hn90 hn91 hd9 hy9;have w9:(-1000000:Int)<=1+n9 % 4/\1+n9 % 4<=1000000/\(1+n9 % 4).toNat*[63].length<=1000000:=⟨by omega,by omega,by rw [lc];omega⟩
    have hm8:0<=n8 % ((ps.map D.str++[D.str w7]).length:Int):=emod_nonneg n8 (by omega);have hm8':n8 % ((ps.map D.str++[D.str w7]).length:Int)<2^60:=by have:=emod_lt_of_pos n8 (show 0<((ps.map D.str++[D.str w7]).length:Int) by omega);omega
    walk_at "r";have r9:=dN [63] (1+n9 % 4);rw [lc,Nat.mul_one] at r9;rw [show ps.map D.str++[D.str w7]=(ps++[w7]).map D.str by rw [map_append];rfl,yb]
    refine⟨_,y9,?_,fun p hp=>?_,⟨hd9,by omega,by omega⟩,rfl⟩
    .rw [(dF _ _ _).length_eq,length_cons,length_append];show 0<ps.length+1+1/\ps.length+1+1<=7;omega
    .rcases mem_cons.mp ((dF _ _ _).mem_iff.mp hp) with rfl|z
     .exact⟨by omega,by omega,(Gc.one (.inr rfl)).rep _⟩
     .rcases mem_append.mp z with z|z
      .exact hps p z
      .rw [mem_singleton.mp z];exact hw7
  .rintro ρ ⟨ps,ys,hl,hp,⟨hd,hy1,hy2⟩,rfl⟩;walk_at "r";exact q t ps ys htl htL hl hp hd hy1 hy2
theorem qT:∀p ds Q,p.isOwn=true->cq p ds Q->CO fO kS p ds Q:=fun p ds Q _ h=>by
 unfold cq at h
 split at h
 .exact pJ _ _ _ h
 .exact h.elim
def ie:PTS:=(aH (dO (pOr (pB (pOp fLt (pSl 2) (pFz (pC (.int 0))))) (pB (pOp fGt (pFz (pOp cp (pSl 2) (pFz (pCB fE (ag (pSl 1) ar))))) (pFz (pCB fE (ag (pSl 0) ar)))))) (bh (pC (.bl false))) a8) (aH (gM (wL (ag (pFz (pCB fE (ag (pSl 1) ar))) ar)) (ax 3) (dO (yr (pB (pOp rh (pFz (pOp fIx (pSl 1) (pSl 3))) (pFz (pC (.str [63]))))) (pB (pOp rh (pFz (pOp fIx (pSl 1) (pSl 3))) (pFz (pOp fIx (pSl 0) (pFz (pOp cp (pSl 2) (pSl 3)))))))) (bh (pC (.bl false))) a8)) (bh (pC (.bl true)))))
theorem qU(t g:List Nat)(p:Int)(Q:PV->Prop)(h:bQ ([.str t,.str g,.int p]) Q):dg ie mB ([.str t,.str g,.int p]) Q:=by
 show ie _ [some (.dat (.str t)),some (.dat (.str g)),some (.dat (.int p)),none];obtain⟨⟨ht,hg⟩,q⟩:=h;walk_at "r"
 refine e6 (fun c1=>?_) (fun c1=>?_)
 .walk_at "r";rw [lC (by omega)] at q;exact q
 .walk_at "r"
  refine e6 (fun c2=>?_) (fun c2=>?_)
  .walk_at "r";rw [lC (by omega)] at q;exact q
  .obtain⟨n,rfl⟩:∃n:Nat,p=(n:Int):=⟨p.toNat,by omega⟩
   walk_at "r"
   refine⟨fun k ρ=>(∃v3:Option PV,ρ=[some (.dat (.str t)),some (.dat (.str g)),some (.dat (.int (n:Int))),v3])/\∀j,j<k->yS t g n j,⟨⟨_,rfl⟩,fun j hj=>absurd hj (not_lt_zero _)⟩,?_,?_⟩
   .rintro k ρ _ hk rfl ⟨⟨v3,rfl⟩,ih⟩;rw [toNat_natCast] at hk;have htk:n+k<t.length:=by omega
    have ga:g.getD k 0=g[k]:=by rw [getD_eq_getElem?_getD,getElem?_eq_getElem hk];rfl
    have gb:t.getD (n+k) 0=t[n+k]:=by rw [getD_eq_getElem?_getD,getElem?_eq_getElem htk];rfl
    have stp:yS t g n k->∀j,j<k+1->yS t g n j:=fun z j hj=>by
     by_cases e:j=k
     .rw [e];exact z
     .exact ih j (by omega)
    walk_at "r";refine⟨_,cG (j:=k) (getElem?_eq_getElem hk) rfl,?_⟩;walk_at "r"
    refine oJ (fun c3=>?_) (fun c3=>?_)
    .walk_at "r";refine⟨_,cG (j:=k) (getElem?_eq_getElem hk) rfl,?_⟩;walk_at "r";refine⟨_,cG (j:=n+k) (getElem?_eq_getElem htk) (by omega),?_⟩;walk_at "r"
     refine oJ (fun c4=>?_) (fun c4=>?_)
     .walk_at "r";rw [wD hk (fun z=>z.elim (fun z=>c3 (by rw [<- ga,z])) (fun z=>c4 (by rw [<- ga,<- gb,z])))] at q;exact q
     .exact⟨⟨_,rfl⟩,stp (.inr (by rw [ga,gb];exact singleton_inj.mp c4))⟩
    .exact⟨⟨_,rfl⟩,stp (.inl (by rw [ga];exact singleton_inj.mp c3))⟩
   .rintro ρ ⟨⟨v3,rfl⟩,ih⟩;rw [toNat_natCast] at ih;walk_at "r";rw [pA (by omega) ih] at q;exact q
theorem sr:∀ds Q,bQ ds Q->dg ie mB ds Q:=fun ds Q h=>by
 unfold bQ at h
 split at h
 .exact qU _ _ _ _ h
 .exact h.elim
def dZ:PTS:=(aH (bD (nS ar) (ax 2)) (aH (gM (wL (ag (pFz (pCB fE (ag (pSl 1) ar))) ar)) (ax 3) (gM (wL (ag (pFz (pCB fE (ag (pSl 0) ar))) ar)) (ax 4) (dO (pB (bg bQ (ag (pFz (bw 0)) (ag (pFz (pOp fIx (pSl 1) (pSl 3))) (ag (pFz (bw 4)) ar))))) (io (yx 2 (sO (ag (pFz (bw 4)) (ag (pFz (bw 3)) ar))))) a8))) (bh (bw 2))))
theorem mG(t:List Nat)(d:D)(Q:PV->Prop)(h:bJ ([.str t,d]) Q):dg dZ jm ([.str t,d]) Q:=by
 show dZ _ [some (.dat (.str t)),some (.dat (d)),none,none,none];obtain⟨ps,hd,⟨hn,ht,hp⟩,q⟩:=h;have hlm:(ps.map D.str).length=ps.length:=length_map _;rcases hd with rfl|rfl
 all_goals
  walk_at "r";rw [hlm,toNat_natCast]
  refine⟨fun k ρ=>∃(rs:List (Nat×Nat)) (v3 v4:Option PV),((∀r,r∈rs ↔ kz t ps r/\r.2<k)/\rs.length<=k*t.length)/\ρ=[some (.dat (.str t)),_,some (.own (rs.map rwD)),v3,v4],⟨[],_,_,⟨fun r=>⟨fun z=>(nomatch z),fun z=>absurd z.2 (not_lt_zero _)⟩,zero_le _⟩,rfl⟩,?_,?_⟩
  .rintro k ρ _ hk rfl ⟨rs,v3,v4,⟨hr,hl⟩,rfl⟩;have hk:k<ps.length:=hk;have hw:=hp _ (kL hk);walk_at "r";rw [toNat_natCast]
   refine⟨fun j ρ=>∃(rs:List (Nat×Nat)) (v4:Option PV),((∀r,r∈rs ↔ kz t ps r/\(r.2<k\/r.2=k/\r.1<j))/\rs.length<=k*t.length+j)/\ρ=[some (.dat (.str t)),_,some (.own (rs.map rwD)),some (.dat (.int (k:Int))),v4],⟨rs,_,⟨fun r=>(hr r).trans ⟨fun z=>⟨z.1,.inl z.2⟩,fun z=>⟨z.1,z.2.elim id fun w=>absurd w.2 (not_lt_zero _)⟩⟩,hl⟩,rfl⟩,?_,?_⟩
   .rintro j ρ _ hj rfl ⟨rs,v4,⟨hr,hl⟩,rfl⟩;have g0:t.length<=10000/\(pw ps k).length<=10000:=⟨by omega,by omega⟩
    have hsz:rs.length<1000000:=by
     have:=Nat.mul_le_mul (show k<=40 by omega) ht;omega
    have hrm:(rs.map rwD).length=rs.length:=length_map _;walk_at "r";refine⟨_,cG (j:=k) (show (ps.map D.str)[k]?=some (.str (pw ps k)) by rw [getElem?_map,iG hk];rfl) rfl,?_⟩;walk_at "r"
    refine BN (fun c=>?_) (fun c=>?_)
    .walk_at "r";refine⟨rs++[(j,k)],_,⟨fun r=>?_,by rw [length_append];show rs.length+1<=_;omega⟩,by rw [map_append];rfl⟩;rw [mem_append,mem_singleton,hr]
     constructor
     .rintro (z|rfl)
      .exact⟨z.1,z.2.imp id fun w=>⟨w.1,by omega⟩⟩
      .exact⟨⟨hk,c⟩,.inr ⟨rfl,lt_succ_self _⟩⟩
     .rintro⟨z,w|⟨w1,w2⟩⟩
      .exact .inl ⟨z,.inl w⟩
      .by_cases e:r.1=j
       .exact .inr (Prod.ext e w1)
       .exact .inl ⟨z,.inr ⟨w1,by omega⟩⟩
    .refine⟨rs,_,⟨fun r=>(hr r).trans ⟨fun z=>⟨z.1,z.2.imp id fun w=>⟨w.1,by omega⟩⟩,fun ⟨z,w⟩=>⟨z,w.imp id fun w=>⟨w.1,?_⟩⟩⟩,by omega⟩,rfl⟩
     by_cases e:r.1=j
     .have:=z.2;rw [e,w.1,c] at this;cases this
     .have:=w.2;omega
   .rintro ρ ⟨rs,v4,⟨hr,hl⟩,rfl⟩
    refine⟨rs,_,_,⟨fun r=>(hr r).trans ⟨fun z=>⟨z.1,?_⟩,fun z=>⟨z.1,?_⟩⟩,by rw [succ_mul];exact hl⟩,rfl⟩
    .rcases z.2 with w|w
     .omega
     .omega
    .have h1:=z.1.le
     by_cases e:r.2=k
     .have:0<lnP ps r.2:=by rw [e];exact hw.1
      exact .inr ⟨e,by omega⟩
     .exact .inl (by have:=z.2;omega)
  .rintro ρ ⟨rs,v3,v4,⟨hr,hl⟩,rfl⟩;walk_at "r";exact q rs (fun r=>(hr r).trans ⟨fun z=>z.1,fun z=>⟨z,z.1⟩⟩) hl
theorem nE:∀ds Q,bJ ds Q->dg dZ jm ds Q:=fun ds Q h=>by
 unfold bJ at h
 split at h
 .exact mG _ _ _ h
 .exact h.elim
def eh:PTS:=(aH (bD (bw 3) (jc 2 (cH (ax 5) (cH (ax 6) jU)))) (aH (bD (pOp cp (pSl 5) (pFz (pCB fE (ag (pFz (pOp fIx (pSl 1) (pSl 6))) ar)))) (ax 7)) (aH (dO (pOr (kc (pB (bg bQ (ag (pFz (bw 0)) (ag (pFz (pOp fIx (pSl 1) (pSl 6))) (ag (pFz (bw 5)) ar)))))) (pOr (pB (pOp fGt (pSl 5) (pSl 4))) (pB (pOp fGe (pSl 4) (pSl 7))))) (bh (pC (.bl false))) a8) (aH (gM (iD (bw 2)) (jc 2 (cH (ax 8) (cH (ax 9) jU))) (aH (bD (pOp cp (pSl 8) (pFz (pCB fE (ag (pFz (pOp fIx (pSl 1) (pSl 9))) ar)))) (ax 10)) (dO (yr (pB (pOp fLe (pSl 8) (pSl 4))) (pOr (pB (pOp fGt (pSl 10) (pSl 7))) (yr (pB (pOp oR (pSl 10) (pSl 7))) (pB (pOp fLt (pSl 9) (pSl 6)))))) (bh (pC (.bl false))) a8))) (bh (pC (.bl true)))))))
theorem mH(t:List Nat)(d:D)(es:List D)(dr:D)(m:Int)(Q:PV->Prop)(h:bK ([.str t,d,.lst es,dr,.int m]) Q):dg eh jn ([.str t,d,.lst es,dr,.int m]) Q:=by
 show eh _ [some (.dat (.str t)),some (.dat (d)),some (.dat (.lst es)),some (.dat (dr)),some (.dat (.int m)),none,none,none,none,none,none];obtain⟨ps,hd,rs,rfl,c,rfl,k,rfl,⟨ht,hp,hr,hb⟩,q⟩:=h;obtain⟨bm,⟨b1,b2⟩,b3⟩:=hb;have hle:=bm.le;have hll:=hp _ (kL bm.1);have g0:t.length<=10000/\(pw ps c.2).length<=10000:=⟨ht,by omega⟩
 have hat:(ps.map D.str)[c.2]?=some (.str (pw ps c.2)):=by rw [getElem?_map,iG bm.1];rfl
 have hfit:=bm.2;have hb2:k<c.1+(pw ps c.2).length:=b2;rcases hd with rfl|rfl
 all_goals
  walk_at "r";refine⟨_,cG (j:=c.2) hat rfl,?_⟩;walk_at "r";refine⟨_,cG (j:=c.2) hat rfl,?_⟩;walk_at "r"
  refine DM (e:=rwD) (fun pre ρ=>∃(v8 v9 v10:Option PV),ρ=[some (.dat (.str t)),_,some (.dat (.lst (rs.map rwD))),some (.dat (rwD c)),some (.dat (.int (k:Int))),some (.dat (nD c.1)),some (.dat (nD c.2)),some (.dat (.int ((c.1:Int)+((pw ps c.2).length:Int)))),v8,v9,v10]) ⟨_,_,_,rfl⟩ ?_ ?_
  .rintro pre r suf ρ rfl ⟨v8,v9,v10,rfl⟩;have hm:=hr r (mem_append_right _ (mem_cons_self ..));have hle:=hm.le;have hll:=hp _ (kL hm.1);walk_at "r";refine⟨_,cG (j:=r.2) (show (ps.map D.str)[r.2]?=some (.str (pw ps r.2)) by rw [getElem?_map,iG hm.1];rfl) rfl,?_⟩;walk_at "r"
   refine e6 (fun c1=>?_) (fun c1=>?_)
   .have hb:=b3 r hm (by omega);unfold lnP at hb;walk_at "r"
    refine e6 (fun c3=>?_) (fun c3=>?_)
    .have c3:(r.1:Int)+((pw ps r.2).length:Int)=(c.1:Int)+((pw ps c.2).length:Int):=c3;have hc2:c.2<=r.2:=by omega
     walk_at "r";exact⟨_,_,_,rfl⟩
    .exact⟨_,_,_,rfl⟩
   .exact⟨_,_,_,rfl⟩
  .rintro ρ ⟨v8,v9,v10,rfl⟩;walk_at "r";exact q
theorem nF:∀ds Q,bK ds Q->dg eh jn ds Q:=fun ds Q h=>by
 unfold bK at h
 split at h
 .exact mH _ _ _ _ _ _ h
 .exact h.elim
def fP:PTS:=(aH (dO (pOr (kc (pB (vF .tuple (pSl 0)))) (pB (pOp rh (pFz (pCB fE (ag (pSl 0) ar))) (pFz (pC (.int 2)))))) (bh (pC (.bl false))) a8) (aH (dO (pOr (kc (pB (vF .tuple (pFz (pOp fIx (pSl 0) (pFz (pC (.int 0)))))))) (pOr (kc (pB (vF .tuple (pFz (pOp fIx (pSl 0) (pFz (pC (.int 1)))))))) (pB (pOp rh (pFz (pCB fE (ag (pFz (pOp fIx (pSl 0) (pFz (pC (.int 0))))) ar))) (pFz (pCB fE (ag (pFz (pOp fIx (pSl 0) (pFz (pC (.int 1))))) ar))))))) (bh (pC (.bl false))) a8) (aH (gM (iD (pOp fIx (pSl 0) (pFz (pC (.int 0))))) (ax 1) (aH (dO (pOr (kc (pB (vF .tuple (pSl 1)))) (pOr (pB (pOp rh (pFz (pCB fE (ag (pSl 1) ar))) (pFz (pC (.int 2))))) (pOr (kc (pB (bg aB (ag (pFz (pOp fIx (pSl 1) (pFz (pC (.int 0))))) ar)))) (kc (pB (bg aB (ag (pFz (pOp fIx (pSl 1) (pFz (pC (.int 1))))) ar))))))) (bh (pC (.bl false))) a8) (dO (pOr (pB (pOp fLt (pFz (pOp fIx (pSl 1) (pFz (pC (.int 0))))) (pFz (pC (.int 0))))) (pB (pOp fLt (pFz (pOp fIx (pSl 1) (pFz (pC (.int 1))))) (pFz (pC (.int 0)))))) (bh (pC (.bl false))) a8))) (bh (pOp oR (pFz (jD [none] (iD (pOp fIx (pSl 0) (pFz (pC (.int 1))))) (ax 0) (kc (pB (bg aB (ag (pFz (bw 0)) ar)))) (bw 0))) (pFz (nS ar)))))))
theorem pK(d:D)(Q:PV->Prop)(h:cj ([d]) Q):dg fP kT ([d]) Q:=by
 show fP _ [some (.dat (d)),none];obtain⟨cs,ms,rfl,hl,h1,q⟩:=h;have hcm:(cs.map rwD).length=cs.length:=length_map _;have hmm:(ms.map nD).length=ms.length:=length_map _;walk_at "r"
 refine DM (e:=rwD) (fun pre ρ=>∃v1:Option PV,ρ=[some (.dat (.tup [.tup (cs.map rwD),.tup (ms.map nD)])),v1]) ⟨_,rfl⟩ ?_ ?_
 .rintro pre r suf ρ _ ⟨v1,rfl⟩;walk_at "r";exact⟨_,rfl⟩
 .rintro ρ ⟨v1,rfl⟩;walk_at "r"
  refine cf1 (fun m:Nat=>false) nD (fun m hm v K1 K2 k1 k2=>?_) (fun v=>?_)
  .walk_at "r";exact k2 _ rfl
  .rw [show (ms.filter fun _=>false)=[] from filter_eq_nil_iff.mpr fun _ _=>Bool.false_ne_true,map_nil];walk_at "r";rw [tG,decide_eq_true rfl];exact q
theorem qV:∀ds Q,cj ds Q->dg fP kT ds Q:=fun ds Q h=>by
 unfold cj at h
 split at h
 .exact pK _ _ h
 .exact h.elim
def ei:PTS:=(aH (dO (kc (pB (bg cj (ag (pFz (bw 3)) ar)))) (bh (pC (.bl false))) a8) (aH (bD (pC (.int 0)) (ax 4)) (aH (gM (wL (ag (pFz (pCB fE (ag (pFz (pOp fIx (pSl 3) (pFz (pC (.int 0))))) ar))) ar)) (ax 5) (aH (dO (pOr (pB (pOp fGe (pSl 4) (pFz (pCB fE (ag (pSl 0) ar))))) (pOr (pB (pOp rh (pFz (pOp fIx (pFz (pOp fIx (pSl 3) (pFz (pC (.int 1))))) (pSl 5))) (pSl 4))) (pB (pOp fGe (pFz (pOp fIx (pFz (pOp fIx (pFz (pOp fIx (pSl 3) (pFz (pC (.int 0))))) (pSl 5))) (pFz (pC (.int 1))))) (pFz (pCB fE (ag (pSl 1) ar))))))) (bh (pC (.bl false))) a8) (aH (dO (kc (pB (bg bK (ag (pFz (bw 0)) (ag (pFz (bw 1)) (ag (pFz (bw 2)) (ag (pFz (pOp fIx (pFz (pOp fIx (pSl 3) (pFz (pC (.int 0))))) (pSl 5))) (ag (pFz (bw 4)) ar)))))))) (bh (pC (.bl false))) a8) (bD (pOp cp (pFz (pOp fIx (pFz (pOp fIx (pFz (pOp fIx (pSl 3) (pFz (pC (.int 0))))) (pSl 5))) (pFz (pC (.int 0))))) (pFz (pCB fE (ag (pFz (pOp fIx (pSl 1) (pFz (pOp fIx (pFz (pOp fIx (pFz (pOp fIx (pSl 3) (pFz (pC (.int 0))))) (pSl 5))) (pFz (pC (.int 1))))))) ar)))) (ax 4))))) (bh (pOp oR (pSl 4) (pFz (pCB fE (ag (pSl 0) ar))))))))
theorem mI(t:List Nat)(d:D)(es:List D)(dt:D)(Q:PV->Prop)(h:bL ([.str t,d,.lst es,dt]) Q):dg ei jo ([.str t,d,.lst es,dt]) Q:=by
 show ei _ [some (.dat (.str t)),some (.dat (d)),some (.dat (.lst es)),some (.dat (dt)),none,none];obtain⟨ps,hd,rs,rfl,cs,ms,rfl,⟨ht,hp,hr,hch⟩,q⟩:=h;obtain⟨⟨_,hlen,hcl⟩,hcm,_⟩:=hch.all;have hcsm:(cs.map rwD).length=cs.length:=length_map _;have hmsm:(ms.map nD).length=ms.length:=length_map _;have hlm:(ps.map D.str).length=ps.length:=length_map _;have hd':=hd;obtain⟨f,f0,fn,fk⟩:=hch.chain;rcases hd with rfl|rfl
 all_goals
  walk_at "r";refine⟨cs,ms,rfl,hlen,by omega,?_⟩;walk_at "r";rw [hcsm,toNat_natCast]
  refine⟨fun k ρ=>∃v5:Option PV,ρ=[some (.dat (.str t)),_,some (.dat (.lst (rs.map rwD))),some (.dat (.tup [.tup (cs.map rwD),.tup (ms.map nD)])),some (.dat (.int (f k:Int))),v5],⟨_,by rw [f0];rfl⟩,?_,?_⟩
  .rintro k ρ _ hk rfl ⟨v5,rfl⟩;obtain⟨e1,e2,e3,e4⟩:=fk k hk;have hk2:k<ms.length:=by omega
   have bm:=e3.1;have gi:t.length<=10000/\(∀p∈ps,p.length<=60)/\(∀r∈rs,kz t ps r)/\wF t ps (f k) (cs.getD k (0,0)):=⟨ht,hp,hr,e3⟩
   have am:(ms.map nD)[k]?=some (.int (f k:Int)):=by rw [getElem?_map,<- e1,getD_eq_getElem?_getD,getElem?_eq_getElem hk2];rfl
   have ac:(cs.map rwD)[k]?=some (rwD (cs.getD k (0,0))):=by rw [getElem?_map,getD_eq_getElem?_getD,getElem?_eq_getElem hk];rfl
   generalize cs.getD k (0,0)=c at *;have hb1:=bm.1;have hle:=bm.le;have hll:=hp _ (kL bm.1);walk_at "r";refine⟨_,cG (j:=k) am rfl,?_⟩;walk_at "r";refine⟨_,cG (j:=k) ac rfl,?_⟩;walk_at "r";refine⟨_,cG (j:=k) ac rfl,?_⟩;walk_at "r";refine⟨_,cG (j:=k) ac rfl,?_⟩;walk_at "r";refine⟨_,cG (j:=k) ac rfl,?_⟩;walk_at "r";refine⟨_,cG (j:=c.2) (show (ps.map D.str)[c.2]?=some (.str (pw ps c.2)) by rw [getElem?_map,iG hb1];rfl) rfl,?_⟩
   walk_at "r";exact⟨_,by rw [show ((f (k+1):Nat):Int)=(c.1:Int)+((pw ps c.2).length:Int) by rw [e4];unfold lnP;omega]⟩
  .rintro ρ ⟨v5,rfl⟩;rw [fn];walk_at "r";rw [decide_eq_true rfl];exact q
theorem nG:∀ds Q,bL ds Q->dg ei jo ds Q:=fun ds Q h=>by
 unfold bL at h
 split at h
 .exact mI _ _ _ _ _ h
 .exact h.elim
def ig:PTS:=(aH (gM (wL (ag (pFz (pCB fE (ag (pSl 0) ar))) ar)) (ax 3) (dO (pB (pOp oR (pFz (jD [none,some 3,some 1] (iD (bw 2)) (ax 0) (yr (pB (pOp fLe (pFz (pOp fIx (pSl 0) (pFz (pC (.int 0))))) (pSl 1))) (pB (pOp fLt (pSl 1) (pFz (pOp cp (pFz (pOp fIx (pSl 0) (pFz (pC (.int 0))))) (pFz (pCB fE (ag (pFz (pOp fIx (pSl 2) (pFz (pOp fIx (pSl 0) (pFz (pC (.int 1))))))) ar)))))))) (bw 0))) (pFz (nS ar)))) (bh (bw 3)) a8)) (bh (pUn yy (pFz (pC (.int 1))))))
theorem qW(t:List Nat)(d:D)(es:List D)(Q:PV->Prop)(h:cA ([.str t,d,.lst es]) Q):dg ig mC ([.str t,d,.lst es]) Q:=by
 show ig _ [some (.dat (.str t)),some (.dat (d)),some (.dat (.lst es)),none];obtain⟨ps,hd,rs,rfl,⟨ht,hp,hr⟩,hl,q1,q2⟩:=h;have hrm:(rs.map rwD).length=rs.length:=length_map _;rcases hd with rfl|rfl
 all_goals
  walk_at "r";rw [toNat_natCast]
  refine⟨fun k ρ=>∃(v3:Option PV),(∀m,m<k->∃r,kz t ps r/\cvr ps r m)/\ρ=[some (.dat (.str t)),_,some (.dat (.lst (rs.map rwD))),v3],⟨_,fun m hm=>absurd hm (not_lt_zero _),rfl⟩,?_,?_⟩
  .rintro k ρ _ hk rfl ⟨v3,hc,rfl⟩;walk_at "r"
   refine cf1 (fun r:Nat×Nat=>decide (cvr ps r k)) rwD (fun r hr1 v K1 K2 k1 k2=>?_) (fun v=>?_)
   .have hr2:=(hr r).mp hr1;have hle:=hr2.le;walk_at "r"
    refine e6 (fun c1=>?_) (fun c1=>?_)
    .walk_at "r";refine⟨_,cG (j:=r.2) (show (ps.map D.str)[r.2]?=some (.str (pw ps r.2)) by rw [getElem?_map,iG hr2.1];rfl) rfl,?_⟩;walk_at "r"
     refine e6 (fun c2=>?_) (fun c2=>?_)
     .walk_at "r";exact k1 _ (decide_eq_true ⟨by omega,by show k<r.1+(pw ps r.2).length;omega⟩)
     .exact k2 _ (decide_eq_false fun z=>by have:=z.2;unfold lnP at this;omega)
    .exact k2 _ (decide_eq_false fun z=>by have:=z.1;omega)
   .walk_at "r";refine⟨AE _,?_⟩;rw [tG]
    refine e6 (fun c=>?_) (fun c=>?_)
    .walk_at "r";refine q1 k ⟨hk,hc,fun ⟨r,h1,h2⟩=>?_⟩;have:=map_eq_nil_iff.mp c;exact absurd (mem_filter.mpr ⟨(hr r).mpr h1,decide_eq_true h2⟩) (by rw [this];exact not_mem_nil)
    .refine⟨_,fun m hm=>?_,rfl⟩
     by_cases e:m=k
     .subst e;obtain⟨r,h1⟩:=exists_mem_of_ne_nil _ (fun z=>c (by rw [z];rfl):(rs.filter fun r=>decide (cvr ps r m))≠[]);exact⟨r,(hr r).mp (mem_filter.mp h1).1,of_decide_eq_true (mem_filter.mp h1).2⟩
     .exact hc m (by omega)
  .rintro ρ ⟨v3,hc,rfl⟩;walk_at "r";exact q2 hc
theorem ss:∀ds Q,cA ds Q->dg ig mC ds Q:=fun ds Q h=>by
 unfold cA at h
 split at h
 .exact qW _ _ _ _ h
 .exact h.elim
def cQ:PTS:=(aH (qv aX (ag (pFz (bw 0)) (ag (pFz (bw 1)) ar)) (yD xcs "GlueError" 3 (dO (pB (pOp rh (pFz (bg bq (ag (pFz (bw 3)) ar))) (pFz (pC (.str [78,111,116,67,111,118,101,114,101,100,32]))))) (bh (pC (.bl false))) a8) qu)) (aH (qv aX (ag (pFz (bw 0)) (ag (pFz (bw 1)) ar)) (yD xcs "NotCovered" 3 (bh (jC (bg aB (ag (pFz (oU xcs wO "at" (pSl 3))) ar)) (pOp oR (pFz (oU xcs wO "at" (pSl 3))) (pSl 2)))) qu)) (bh (pC (.bl false)))))
theorem jN(t:List Nat)(d:D)(m:Int)(Q:PV->Prop)(h:a9 ([.str t,d,.int m]) Q):dg cQ fJ ([.str t,d,.int m]) Q:=by
 show cQ _ [some (.dat (.str t)),some (.dat (d)),some (.dat (.int m)),none];obtain⟨ps,hd,⟨hn,ht,hp⟩,⟨q0,rfl,hb⟩,q⟩:=h;have i1:um "NotCovered" "GlueError"=true:=by decide +kernel
 have i2:um "NotCovered" "NotCovered"=true:=by decide +kernel
 have hgp:=wG hn hp;have hnb:=qI hp;walk_at "r";refine⟨_,hd,⟨hgp,ht⟩,fun z=>absurd z (by rw [length_map];omega),fun _=>⟨fun k hk=>absurd hk (hnb k),fun ps' e hp'=>(fq e) ▸ ⟨fun q1 hq=>(tI hb hq) ▸ ?_,fun cs ms hch=>absurd (rZ hch _ hb.1) hb.2.2⟩⟩⟩;walk_at "r";refine⟨_,.inr (.inr ⟨rfl,rfl⟩),?_⟩;walk_at "r";refine⟨_,hd,⟨hgp,ht⟩,fun z=>absurd z (by rw [length_map];omega),fun _=>⟨fun k hk=>absurd hk (hnb k),fun ps' e hp'=>(fq e) ▸ ⟨fun q1 hq=>(tI hb hq) ▸ ?_,fun cs ms hch=>absurd (rZ hch _ hb.1) hb.2.2⟩⟩⟩
 walk_at "r";rw [decide_eq_true rfl];exact q
theorem j6:∀ds Q,a9 ds Q->dg cQ fJ ds Q:=fun ds Q h=>by
 unfold a9 at h
 split at h
 .exact jN _ _ _ _ h
 .exact h.elim
def dH:PTS:=(aH (qv aX (ag (pFz (bw 0)) (ag (pFz (bw 1)) ar)) (yD xcs "GlueError" 3 (dO (pB (pOp rh (pFz (bg bq (ag (pFz (bw 3)) ar))) (pFz (pC (.str [78,111,80,105,101,99,101,32]))))) (bh (pC (.bl false))) a8) qu)) (aH (qv aX (ag (pFz (bw 0)) (ag (pFz (bw 1)) ar)) (yD xcs "NoPiece" 3 (bh (jC (bg aB (ag (pFz (oU xcs wO "at" (pSl 3))) ar)) (pOp oR (pFz (oU xcs wO "at" (pSl 3))) (pSl 2)))) qu)) (bh (pC (.bl false)))))
theorem lu(t:List Nat)(d:D)(m:Int)(Q:PV->Prop)(h:bA ([.str t,d,.int m]) Q):dg dH iP ([.str t,d,.int m]) Q:=by
 show dH _ [some (.dat (.str t)),some (.dat (d)),some (.dat (.int m)),none];obtain⟨ds,hd,⟨hgp,ht,hn⟩,⟨k0,rfl,hb⟩,q⟩:=h;have i1:um "NoPiece" "GlueError"=true:=by decide +kernel
 have i2:um "NoPiece" "NoPiece"=true:=by decide +kernel
 walk_at "r";refine⟨_,hd,⟨hgp,ht⟩,fun z=>absurd z (by omega),fun _=>⟨fun k hk=>(tJ hb hk) ▸ ?_,fun ps' e hp'=>absurd (e ▸ hb) (qI hp' _)⟩⟩;walk_at "r";refine⟨_,.inr (.inl ⟨rfl,rfl⟩),?_⟩;walk_at "r";refine⟨_,hd,⟨hgp,ht⟩,fun z=>absurd z (by omega),fun _=>⟨fun k hk=>(tJ hb hk) ▸ ?_,fun ps' e hp'=>absurd (e ▸ hb) (qI hp' _)⟩⟩;walk_at "r";rw [decide_eq_true rfl];exact q
theorem mJ:∀ds Q,bA ds Q->dg dH iP ds Q:=fun ds Q h=>by
 unfold bA at h
 split at h
 .exact lu _ _ _ _ h
 .exact h.elim
def dI:PTS:=(aH (qv aX (ag (pFz (bw 0)) (ag (pFz (bw 1)) ar)) (yD xcs "GlueError" 2 (dO (pB (pOp rh (pFz (bg bq (ag (pFz (bw 2)) ar))) (pFz (pC (.str [84,111,111,77,97,110,121,32]))))) (bh (pC (.bl false))) a8) qu)) (aH (qv aX (ag (pFz (bw 0)) (ag (pFz (bw 1)) ar)) (yD xcs "TooMany" 2 (bh (jC (bg aB (ag (pFz (oU xcs wO "most" (pSl 2))) ar)) (pOp oR (pFz (oU xcs wO "most" (pSl 2))) (pFz (pC (.int 40)))))) qu)) (bh (pC (.bl false)))))
theorem lv(t:List Nat)(d:D)(Q:PV->Prop)(h:bb ([.str t,d]) Q):dg dI iQ ([.str t,d]) Q:=by
 show dI _ [some (.dat (.str t)),some (.dat (d)),none];obtain⟨ds,hd,⟨hgp,ht,hn⟩,q⟩:=h;have i1:um "TooMany" "GlueError"=true:=by decide +kernel
 have i2:um "TooMany" "TooMany"=true:=by decide +kernel
 walk_at "r";refine⟨_,hd,⟨hgp,ht⟩,fun _=>?_,fun z=>absurd z (by omega)⟩;walk_at "r";refine⟨_,.inl ⟨rfl,rfl⟩,?_⟩;walk_at "r";refine⟨_,hd,⟨hgp,ht⟩,fun _=>?_,fun z=>absurd z (by omega)⟩;walk_at "r";rw [decide_eq_true rfl];exact q
theorem mK:∀ds Q,bb ds Q->dg dI iQ ds Q:=fun ds Q h=>by
 unfold bb at h
 split at h
 .exact lv _ _ _ h
 .exact h.elim
def dJ:PTS:=(aH (gM (iD (nS (ag (pFz (pC .non)) (ag (pFz (pC (.int 7))) (ag (pFz (pC (.str []))) (ag (pFz (pC (.str [97,66]))) (ag (pFz (pOp rg (pFz (pC (.str [97]))) (pFz (pC (.int 61))))) (ag (pFz (pC (.bl true))) (ag (pFz (nS (ag (pFz (pC (.str [97]))) ar))) (ag (pFz (pC (.str [97,45,98]))) ar)))))))))) (ax 4) (aH (bD (pCB uh (ag (pSl 1) ar)) (ax 5)) (aH (io (lU 5 (bw 2) (bw 4))) (aH (io (lU 5 (pOp cp (pFz (pOp cp (pSl 2) (pFz (pC (.int 1))))) (pSl 3)) (pC (.str [97,32,98])))) (dO (kc (pB (bg bA (ag (pFz (bw 0)) (ag (pFz (bw 5)) (ag (pFz (bw 2)) ar)))))) (bh (pC (.bl false))) a8))))) (bh (jC (bg bb (ag (pFz (bw 0)) (ag (pFz (jf (pFz (pOp rg (pFz (pCB uh (ag (pSl 1) ar))) (pFz (pC (.int 41))))) kJ (im (pC (.int 41))))) ar))) (bg bb (ag (pFz (bw 0)) (ag (pFz (pOp rg (pFz (nS (ag (pFz (pC .non)) ar))) (pFz (pC (.int 41))))) ar))))))
theorem lw(t:List Nat)(es:List D)(a o:Int)(Q:PV->Prop)(h:bB ([.str t,.lst es,.int a,.int o]) Q):dg dJ iR ([.str t,.lst es,.int a,.int o]) Q:=by
 show dJ _ [some (.dat (.str t)),some (.dat (.lst es)),some (.dat (.int a)),some (.dat (.int o)),none,none];obtain⟨ps,rfl,⟨h0,hn,ht,hp⟩,⟨ha0,ha1,ho0,ho1⟩,q⟩:=h;obtain⟨x,rfl⟩:∃x:Nat,a=(x:Int):=⟨a.toNat,by omega⟩
 obtain⟨y,rfl⟩:∃y:Nat,o=(y:Int):=⟨o.toNat,by omega⟩
 have hlm:(ps.map D.str).length=ps.length:=length_map _;have w61:(-1000000:Int)<=61/\(61:Int)<=1000000/\Int.toNat 61*[97].length<=1000000:=⟨by decide,by decide,by decide⟩
 have w41:(-1000000:Int)<=41/\(41:Int)<=1000000/\(ps.map D.str).length*Int.toNat 41<=1000000:=⟨by decide,by decide,by rw [hlm];show ps.length*41<=1000000;omega⟩
 have w42:(-1000000:Int)<=41/\(41:Int)<=1000000/\[D.non].length*Int.toNat 41<=1000000:=⟨by decide,by decide,by decide⟩
 walk_at "r"
 refine⟨fun k ρ=>∃v4 v5:Option PV,ρ=[some (.dat (.str t)),some (.dat (.lst (ps.map .str))),some (.dat (.int (x:Int))),some (.dat (.int (y:Int))),v4,v5],⟨_,_,rfl⟩,?_,?_⟩
 .rintro k ρ d hk ed ⟨v4,v5,rfl⟩;obtain⟨g1,g2⟩:=uu d (by rw [ed];exact lR hk);clear ed;obtain⟨g3,g4⟩:=AG (i:=(x:Int)) (j:=(x:Int)+1+(y:Int)) hn hp g1;have g5:=yc (a:=x) (o:=y) (z:=.str [97,32,98]) hp (by omega) g2;have l1:(insN (ps.map D.str) (x:Int) d).length=ps.length+1:=by rw [(dF _ _ _).length_eq,length_cons,hlm]
  have b1:0<=(x:Int)+1+(y:Int)/\(x:Int)+1+(y:Int)<2^60:=⟨by omega,by omega⟩
  have b2:(insN (ps.map D.str) (x:Int) d).length<1000000:=by omega
  have g6:x4 (insN (insN (ps.map D.str) (x:Int) d) ((x:Int)+1+(y:Int)) (.str [97,32,98]))/\t.length<=10000/\(insN (insN (ps.map D.str) (x:Int) d) ((x:Int)+1+(y:Int)) (.str [97,32,98])).length<=40:=⟨g3,ht,g4⟩
  walk_at "r";refine⟨⟨x,rfl,g5⟩,?_⟩;walk_at "r";exact⟨_,_,rfl⟩
 .rintro ρ ⟨v4,v5,rfl⟩;have r1:=dN (ps.map D.str) 41;have r2:=dN [D.non] 41;rw [hlm,show (41:Int).toNat=41 from rfl] at r1;rw [show [D.non].length=1 from rfl,show (41:Int).toNat=41 from rfl] at r2;have hc:il (iB (ps.map D.str) 41) none (some 41)=(iB (ps.map D.str) 41).take 41:=lL _ 41;have hcl:((iB (ps.map D.str) 41).take 41).length=41:=by rw [length_take];omega
  have k1:x4 ((iB (ps.map D.str) 41).take 41)/\t.length<=10000/\40<((iB (ps.map D.str) 41).take 41).length:=⟨⟨by omega,fun d hd=>(wG (by omega) hp).2 d (lD (mem_of_mem_take hd))⟩,ht,by omega⟩
  have k2:x4 (iB [D.non] 41)/\t.length<=10000/\40<(iB [D.non] 41).length:=⟨⟨by omega,fun d hd=>by rw [mem_singleton.mp (lD hd)];exact⟨rfl,by decide⟩⟩,ht,by omega⟩
  walk_at "r";rw [hc];refine⟨k1,?_⟩;walk_at "r";exact q
theorem mL:∀ds Q,bB ds Q->dg dJ iR ds Q:=fun ds Q h=>by
 unfold bB at h
 split at h
 .exact lw _ _ _ _ _ h
 .exact h.elim
def c6:PTS:=(aH (bD (bg bJ (ag (pFz (bw 0)) (ag (pFz (bw 1)) ar))) (ax 2)) (aH (bD (bg cA (ag (pFz (bw 0)) (ag (pFz (bw 1)) (ag (pFz (bw 2)) ar)))) (ax 3)) (aH (dO (pB (pOp fGe (pSl 3) (pFz (pC (.int 0))))) (bh (bg a9 (ag (pFz (bw 0)) (ag (pFz (bw 1)) (ag (pFz (bw 3)) ar))))) a8) (aH (bD (sZ aX (ag (pFz (bw 0)) (ag (pFz (bw 1)) ar))) (ax 4)) (aH (dO (kc (pB (bg bL (ag (pFz (bw 0)) (ag (pFz (bw 1)) (ag (pFz (bw 2)) (ag (pFz (bw 4)) ar))))))) (bh (pC (.bl false))) a8) (bh (jC (pOp (fIs false) (pFz (bg cv (ag (pFz (bw 0)) (ag (pFz (bw 1)) (ag (pFz (pOp fIx (pSl 4) (pFz (pC (.int 0))))) ar))))) (pFz (pC (.bl true)))) (pOp (fIs false) (pFz (bg cg (ag (pFz (bw 0)) (ag (pFz (bw 1)) (ag (pFz (pOp fIx (pSl 4) (pFz (pC (.int 1))))) ar))))) (pFz (pC (.bl true)))))))))))
theorem j7(t:List Nat)(d:D)(Q:PV->Prop)(h:aN ([.str t,d]) Q):dg c6 gu ([.str t,d]) Q:=by
 show c6 _ [some (.dat (.str t)),some (.dat (d)),none,none,none];obtain⟨ps,hd,⟨hn,ht,hp⟩,q⟩:=h;have g1:ps.length<=40/\t.length<=1000/\∀p∈ps,0<p.length/\p.length<=60:=⟨hn,ht,fun p h=>⟨(hp p h).1,(hp p h).2.1⟩⟩
 have hp60:∀p∈ps,p.length<=60:=fun p h=>(hp p h).2.1;walk_at "r";refine⟨ps,hd,g1,fun rs hrs hrl=>?_⟩;have hr5:rs.length<=40*1000:=le_trans hrl (Nat.mul_le_mul hn ht);walk_at "r"
 refine⟨ps,hd,rs,rfl,⟨ht,hp60,hrs⟩,by omega,fun q0 hb=>?_,fun hc=>?_⟩
 .have g2:ps.length<=40/\t.length<=10000/\∀p∈ps,0<p.length/\p.length<=60/\Gc p:=⟨hn,by omega,hp⟩
  walk_at "r";refine⟨ps,hd,g2,⟨q0,rfl,hb⟩,q⟩
 .walk_at "r";refine⟨_,hd,⟨wG hn hp,by omega⟩,fun z=>absurd z (by rw [length_map];omega),fun _=>⟨fun k hk=>absurd hk (qI hp k),fun ps' e hp'=>(fq e) ▸ ⟨fun q1 hq=>absurd (hc q1 hq.1) hq.2.2,fun cs ms hch=>?_⟩⟩⟩;obtain⟨⟨_,hlen,hcl⟩,hcm,hcv,hap,hlt,_,hmono⟩:=hch.all;walk_at "r";refine⟨ps,hd,rs,rfl,cs,ms,rfl,⟨by omega,hp60,fun r h=>(hrs r).mp h,hch⟩,?_⟩;walk_at "r";refine⟨ps,hd,cs,lh.tup _,⟨hn,by omega,hp60,⟨by omega,hch.rise.1⟩,hcm,hcv⟩,?_⟩
  walk_at "r";refine⟨ps,hd,ms,rfl,⟨hn,ht,hp60,hmono,hlt,hap⟩,?_⟩;walk_at "r";exact q
theorem kC:∀ds Q,aN ds Q->dg c6 gu ds Q:=fun ds Q h=>by
 unfold aN at h
 split at h
 .exact j7 _ _ _ h
 .exact h.elim
def ej:PTS:=(aH (qv aX (ag (pFz (bw 0)) (ag (pFz (sO ar)) ar)) (yD xcs "NotCovered" 1 (bh (jC (bg aB (ag (pFz (oU xcs wO "at" (pSl 1))) ar)) (pOp oR (pFz (oU xcs wO "at" (pSl 1))) (pFz (pC (.int 0)))))) qu)) (bh (pC (.bl false))))
theorem mM(t:List Nat)(Q:PV->Prop)(h:bM ([.str t]) Q):dg ej jp ([.str t]) Q:=by
 show ej _ [some (.dat (.str t)),none];obtain⟨⟨h0,ht⟩,q⟩:=h;have i2:um "NotCovered" "NotCovered"=true:=by decide +kernel
 have no:∀r:Nat×Nat,¬ kz t [] r:=fun r hr=>not_lt_zero _ hr.1;walk_at "r";refine⟨⟨⟨by decide,fun d hd=>nomatch hd⟩,ht⟩,fun z=>absurd z (by decide),fun _=>⟨fun k hk=>absurd hk.1 (not_lt_zero _),fun ps' e hp'=>?_⟩⟩;have e:ps'=[]:=(map_eq_nil_iff.mp e.symm)
 subst e
 refine⟨fun q1 hq=>?_,fun cs ms hch=>?_⟩
 .have:q1=0:=by
   cases q1 with
   | zero=>rfl
   | succ q1=>obtain⟨r,hr,_⟩:=hq.2.1 0 (zero_lt_succ _);exact absurd hr (no r)
  subst this;walk_at "r";rw [show decide (((0:Nat):Int)=0)=true from rfl];exact q
 .obtain⟨r,hr,_⟩:=rZ hch 0 h0;exact absurd hr (no r)
theorem nH:∀ds Q,bM ds Q->dg ej jp ds Q:=fun ds Q h=>by
 unfold bM at h
 split at h
 .exact mM _ _ h
 .exact h.elim
def c7:PTS:=(aH (bD (sZ aX (ag (pFz (pOp rg (pSl 0) (pFz (pC (.int 1500))))) (ag (pFz (nS (ag (pFz (bw 0)) ar))) ar))) (ax 1)) (bh (pOp oR (pSl 1) (pFz (sO (ag (pFz (pCB kK (ag (pFz (jD [none] (wL (ag (pFz (pC (.int 1500))) ar)) (ax 0) pN (sO (ag (pFz (bw 0)) (ag (pFz (pC (.int 0))) ar))))) ar))) (ag (pFz (pCB kK (ag (pFz (B3 false (ag (pFz (pC (.int 1500))) ar))) ar))) ar)))))))
theorem j8(c:Nat)(Q:PV->Prop)(h:bf ([.str [c]]) Q):dg c7 gv ([.str [c]]) Q:=by
 show c7 _ [some (.dat (.str [c])),none];obtain⟨hc,q⟩:=h;have w:(-1000000:Int)<=1500/\(1500:Int)<=1000000/\Int.toNat 1500*[c].length<=1000000:=⟨by decide,by decide,by show 1500*1<=1000000;decide⟩
 have hl:=pD c;have hg:∀p∈[[c]],0<p.length/\p.length<=60/\Gc p:=fun p hp=>by rw [mem_singleton.mp hp];exact⟨by show 0<1;decide,by show 1<=60;decide,Gc.one (.inl hc)⟩
 have er:B2 0 1500=(List.range 1500).map nD:=zW _;walk_at "r";refine⟨⟨wG (ps:=[[c]]) (by show 1<=40;decide) hg,by omega⟩,fun z=>absurd z (by show ¬ (40<1);decide),fun _=>⟨fun k hk=>absurd hk (qI hg k),fun ps' e hp'=>(fq (a:=[[c]]) e) ▸ ⟨fun q1 hq=>absurd ⟨_,yf (by have:=hq.1;omega),Nat.le_refl _,by show q1<q1+1;omega⟩ hq.2.2,fun cs ms hch=>?_⟩⟩⟩;rw [hl] at hch;obtain⟨e1,e2⟩:=yg hch;walk_at "r"
 refine cmR (fun k=>rwD (k,0)) (fun k hk v K1 k1=>?_) (fun v=>?_)
 .walk_at "r";exact k1 _
 .have e3:cs.map rwD=(List.range 1500).map (fun k=>rwD (k,0)):=by rw [e1,map_map];exact map_congr_left fun _ _=>rfl
  have S:Sh (.tup [.tup (cs.map rwD),.tup (ms.map nD)]):=yV AH AI;walk_at "r";rw [show Int.toNat 1500=1500 from rfl,er,<- e3,<- e2];refine⟨uE.of S S,?_⟩;rw [lB S];exact q
theorem kE:∀ds Q,bf ds Q->dg c7 gv ds Q:=fun ds Q h=>by
 unfold bf at h
 split at h
 .exact j8 _ _ h
 .exact h.elim
def tL:PTS:=(aH (bD (bg cw (ag (pFz (bw 0)) (ag (pFz (pC (.int 40))) ar))) (ax 1)) (aH (bD (df cq 1 (ag (pFz (pOp oR (pFz (pOp lA (pFz (df aJ 1 ar)) (pFz (pC (.int 2))))) (pFz (pC (.int 0))))) ar)) (jc 2 (cH (ax 2) (cH (ax 3) jU)))) (aH (dB (dO (pB (pOp oR (pFz (pOp lA (pFz (df aJ 1 ar)) (pFz (pC (.int 4))))) (pFz (pC (.int 0))))) (bD (jf (pFz (pOp rg (pFz (pOp cp (pSl 2) (pFz (pC (.str [97,98]))))) (pFz (pC (.int 150))))) kJ (im (pOp fIx (pFz (nS (ag (pFz (pOp cp (pFz (pC (.int 17))) (pFz (pOp lA (pFz (df aJ 1 ar)) (pFz (pC (.int 44))))))) (ag (pFz (pOp cp (pFz (pC (.int 61))) (pFz (pOp lA (pFz (df aJ 1 ar)) (pFz (pC (.int 240))))))) ar)))) (pFz (pOp lA (pFz (df aJ 1 ar)) (pFz (pC (.int 2)))))))) (ax 2)) a8)) (aH (bD (pCB uh (ag (pSl 3) ar)) (ax 4)) (aH (dO (pOr (kc (pB (bg aN (ag (pFz (bw 2)) (ag (pFz (bw 4)) ar))))) (pB (pOp rh (pSl 4) (pSl 3)))) (bh (pC (.bl false))) a8) (aH (dO (kc (pB (bg bB (ag (pFz (bw 2)) (ag (pFz (bw 3)) (ag (pFz (pOp lA (pFz (df aJ 1 ar)) (pFz (pOp cp (pFz (pCB fE (ag (pSl 3) ar))) (pFz (pC (.int 1))))))) (ag (pFz (pOp lA (pFz (df aJ 1 ar)) (pFz (pC (.int 3))))) ar))))))) (bh (pC (.bl false))) a8) (aH (dO (pOr (pB (pOp rh (pFz (sZ aX (ag (pFz (pC (.str []))) (ag (pFz (nS ar)) ar)))) (pFz (sO (ag (pFz (sO ar)) (ag (pFz (sO ar)) ar)))))) (kc (pB (bg bM (ag (pFz (pOp cp (pSl 2) (pFz (pC (.str [97]))))) ar))))) (bh (pC (.bl false))) a8) (aH (dO (yr (pB (pOp oR (pFz (pOp lA (pFz (df aJ 1 ar)) (pFz (pC (.int 8))))) (pFz (pC (.int 3))))) (kc (pB (bg bf (ag (pFz (pOp fIx (pFz (pC (.str [97,98,99,100,101,102,103,104,105,106,107,108,109,110,111,112,113,114,115,116,117,118,119,120,121,122]))) (pFz (pOp lA (pFz (df aJ 1 ar)) (pFz (pC (.int 26))))))) ar))))) (bh (pC (.bl false))) a8) (aH (bD (jf (pFz (pOp rg (pSl 3) (pFz (pC (.int 40))))) kJ (im (pC (.int 40)))) (ax 5)) (bh (jC (bg aN (ag (pFz (bw 2)) (ag (pFz (pCB kK (ag (pSl 3) ar))) ar))) (bg aN (ag (pFz (jf (pSl 2) kJ (im (pC (.int 5))))) (ag (pFz (bw 5)) ar))))))))))))))
theorem AJ(ns:List Int)(h63:ns.length<=63)(Q:PV->Prop)(q:Q (.dat (.bl true))):dg tL yW [.scr ns] Q:=by
 show tL _ [some (.dat (.scr ns)),none,none,none,none,none];have hn:ns.length<=64/\(0:Int)<=40/\(40:Int)<=2000:=⟨by omega,by decide,by decide⟩
 walk_at "r";rintro zs hz hzl;have hzl:zs.length=40:=hzl;have g0:Dk zs/\0<zs.length/\zs.length<=100000:=⟨hz,by omega,by omega⟩
 walk_at "r";rintro n1 y1 ha0 ha1 hd1 hy1;have g1:Dk y1/\20<=y1.length/\y1.length<=10000:=⟨hd1,by omega,by omega⟩
 walk_at "r";rintro t ps y2 htl htL ⟨hp0,hp7⟩ hps hd2 hy2a hy2b;have g2:Dk y2/\0<y2.length/\y2.length<=100000:=⟨hd2,by omega,by omega⟩
 have hlm:(ps.map D.str).length=ps.length:=length_map _;walk_at "r"
 refine⟨fun ρ=>∃(t:List Nat) (y:List Int),(t.length<=300/\Dk y/\y2.length<=y.length+4/\y.length<=y2.length)/\ρ=[some (.dat (.scr ns)),some (.own (y.map .int)),some (.dat (.str t)),some (.dat (.lst (ps.map .str))),none,none],?_,?_⟩
 .walk_at "r";rintro n3 y3 hb0 hb1 hd3 hy3;have g3:Dk y3/\0<y3.length/\y3.length<=100000:=⟨hd3,by omega,by omega⟩
  walk_at "r"
  refine e6 (fun c=>?_) (fun c=>?_)
  .have hal:(t++[97,98]).length=t.length+2:=by rw [length_append];rfl
   have w:(-1000000:Int)<=150/\(150:Int)<=1000000/\Int.toNat 150*(t++[97,98]).length<=1000000:=⟨by decide,by decide,by rw [hal];show 150*(t.length+2)<=1000000;omega⟩
   walk_at "r";rintro n4 y4 hc0 hc1 hd4 hy4;have g4:Dk y4/\0<y4.length/\y4.length<=100000:=⟨hd4,by omega,by omega⟩
   walk_at "r";rintro n5 y5 he0 he1 hd5 hy5;have g5:Dk y5/\0<y5.length/\y5.length<=100000:=⟨hd5,by omega,by omega⟩
   walk_at "r";rintro n6 y6 hf0 hf1 hd6 hy6;walk_at "r"
   obtain⟨m,em,hm⟩:∃m:Nat,atI ([.int (17+n4 % 44),.int (61+n5 % 240)]:List D) (n6 % 2)=some (.int (m:Int))/\m<=300:=by
    obtain⟨j,hj,hj2⟩:∃j:Nat,n6 % 2=(j:Int)/\j<2:=⟨(n6 % 2).toNat,by omega,by omega⟩
    rw [hj]
    rcases j with _|_|j
    .exact⟨(17+n4 % 44).toNat,by rw [toNat_of_nonneg (by omega)];rfl,by omega⟩
    .exact⟨(61+n5 % 240).toNat,by rw [toNat_of_nonneg (by omega)];rfl,by omega⟩
    .omega
   refine⟨_,em,?_⟩;walk_at "r";rw [lL];exact⟨_,y6,⟨by rw [length_take];omega,hd6,by omega,by omega⟩,rfl⟩
  .exact⟨t,y3,⟨by omega,hd3,by omega,by omega⟩,rfl⟩
 .rintro ρ ⟨t,y,⟨ht,hd,hy1,hy2⟩,rfl⟩;have gt:ps.length<=40/\t.length<=1000/\∀p∈ps,0<p.length/\p.length<=60/\Gc p:=⟨by omega,by omega,fun p h=>⟨(hps p h).1,by have:=(hps p h).2.1;omega,(hps p h).2.2⟩⟩
  have sh:Sh (.lst (ps.map D.str)):=(Fl.lst (n:=1) fun d hd=>by obtain⟨p,hp,rfl⟩:=mem_map.mp hd;exact Fl.str fun c hc=>by have:=(hps p hp).2.2 c hc;omega).sh (by decide);have e1:uE (.lst (ps.map D.str)) (.lst (ps.map D.str)):=uE.of sh sh;have e2:=lB sh;have g7:Dk y/\0<y.length/\y.length<=100000:=⟨hd,by omega,by omega⟩
  walk_at "r";rintro n7 y7 hg0 hg1 hd7 hy7;have g8:Dk y7/\0<y7.length/\y7.length<=100000:=⟨hd7,by omega,by omega⟩
  walk_at "r";rintro n8 y8 hh0 hh1 hd8 hy8;have g9:Dk y8/\0<y8.length/\y8.length<=100000:=⟨hd8,by omega,by omega⟩
  have m7:0<=n7 % (((ps.map D.str).length:Int)+1):=emod_nonneg n7 (by omega);have m7':n7 % (((ps.map D.str).length:Int)+1)<((ps.map D.str).length:Int)+1:=emod_lt_of_pos n7 (by omega);have gr1:0<ps.length/\ps.length<=7/\t.length<=10000/\∀p∈ps,0<p.length/\p.length<=60/\Gc p:=⟨hp0,hp7,by omega,gt.2.2⟩
  have gr2:0<=n7 % (((ps.map D.str).length:Int)+1)/\n7 % (((ps.map D.str).length:Int)+1)<=ps.length/\0<=n8 % 3/\n8 % 3<=10:=⟨m7,by omega,by omega,by omega⟩
  walk_at "r";refine⟨⟨⟨by decide,fun d hd=>nomatch hd⟩,by decide⟩,fun z=>absurd z (by decide),fun _=>⟨fun k hk=>absurd hk.1 (not_lt_zero _),fun ps' e hp'=>⟨fun q1 hq=>absurd hq.1 (not_lt_zero _),fun cs ms hch=>?_⟩⟩⟩;have hh:=hch.all.1;have hcs:cs=[]:=length_eq_zero_iff.mp (le_zero.mp hh.2.2);subst hcs;have hms:ms=[]:=length_eq_zero_iff.mp hh.2.1.symm;subst hms;have S:Sh (.tup [.tup [],.tup []]):=yV (fun d hd=>nomatch hd) (fun d hd=>nomatch hd)
  have e3:uE (.tup [.tup [],.tup []]) (.tup [.tup [],.tup []]):=uE.of S S;have e4:=lB S;have hal:(t++[97]).length=t.length+1:=by rw [length_append];rfl
  have gw:0<(t++[97]).length/\(t++[97]).length<=10000:=⟨by omega,by omega⟩
  simp only [map_nil];walk_at "r";have w40:(-1000000:Int)<=40/\(40:Int)<=1000000/\(ps.map D.str).length*Int.toNat 40<=1000000:=⟨by decide,by decide,by rw [hlm];show ps.length*40<=1000000;omega⟩
  have hm40:il (iB (ps.map D.str) 40) none (some 40)=((iB ps 40).take 40).map D.str:=by
   rw [show (some (40:Int))=some ((40:Nat):Int) from rfl,lL,map_take];congr 1;unfold iB;rw [map_flatten,map_replicate]
  have hq:∀p∈(iB ps 40).take 40,0<p.length/\p.length<=60/\Gc p:=fun p h=>gt.2.2 p (lD (mem_of_mem_take h));have ht5:(il t none (some 5)).length<=1000:=by rw [show (some (5:Int))=some ((5:Nat):Int) from rfl,lL,length_take];omega
  have gq:((iB ps 40).take 40).length<=40/\(il t none (some 5)).length<=1000/\∀p∈(iB ps 40).take 40,0<p.length/\p.length<=60/\Gc p:=⟨by rw [length_take];omega,ht5,hq⟩
  rintro n9 y9 hi0 hi1 hd9 hy9;have g10:Dk y9/\0<y9.length/\y9.length<=100000:=⟨hd9,by omega,by omega⟩
  walk_at "r"
  refine e6 (fun c=>?_) (fun c=>?_)
  .walk_at "r";rintro n10 y10 hj0 hj1 hd10 hy10;obtain⟨j,hj,hj2⟩:∃j:Nat,n10 % 26=(j:Int)/\j<26:=⟨(n10 % 26).toNat,by omega,by omega⟩
   walk_at "r";rw [hj]
   obtain⟨x,ex,hx⟩:∃x:Nat,([97,98,99,100,101,102,103,104,105,106,107,108,109,110,111,112,113,114,115,116,117,118,119,120,121,122]:List Nat)[j]?=some x/\97<=x/\x<=122:=by
    have d:∀x∈([97,98,99,100,101,102,103,104,105,106,107,108,109,110,111,112,113,114,115,116,117,118,119,120,121,122]:List Nat),97<=x/\x<=122:=by decide
    exact⟨_,getElem?_eq_getElem hj2,d _ (getElem_mem _)⟩
   refine⟨_,cG (j:=j) ex rfl,?_⟩;walk_at "r";rw [hm40];refine⟨_,lh.lst _,gq,?_⟩;walk_at "r";exact q
  .walk_at "r";rw [hm40];refine⟨_,lh.lst _,gq,?_⟩;walk_at "r";exact q
theorem CD:∀ds Q,tK ds Q->dg tL yW ds Q:=fun ds Q h=>by
 obtain⟨ns,rfl,h63,q⟩:=h;exact AJ ns h63 Q q
section
variable {P:Program}{w:World}{K:PySem.W.Frag}{mg:Str->Option Value}{base:Heap}
theorem qX:∀ds Q,b9 ds Q->ds.length=1:=fun ds Q h=>by unfold b9 at h;split at h;(first|rfl|exact h.elim);(first|rfl|exact h.elim)
theorem wK(D:cm K mg "is_row" pd)(T:Txt mg)(TX:TxX K mg):Cal P w K mg base 1 "is_row" ["thing"] (spP K b9):=by
 refine D.ok wA (fun _ _ _ _ _ _ us hl=>match us,hl with|[_],_=>rfl) (fun vs H Q E h=>?_) (fun f cdv A outer s H vs Q E hr h=>?_)
 .exact jh qX h
 .have hu:=hr.units;exact⟨_,(al (aM (ap (Dy K rfl) rfl T.b_isinstance boot_isinstance (paC (pv 0) (paC (fu (paC (dM (v:=.ty "list") rfl T.b_list boot_list rfl) (paC (dM (v:=.ty "tuple") rfl T.b_tuple boot_tuple rfl) ai))) ai))))),fnP (K:=K) (c:=b9) (ps:=j4) (N:=["thing"]) (aL (BV .list .tuple nu (ak (i:=0)))) (fun ds Q h=>le_trans (le_of_eq (qX ds Q h)) (by decide)) wI h⟩
theorem kU:∀ds Q,bu ds Q->ds.length=1:=fun ds Q h=>by unfold bu at h;split at h;(first|rfl|exact h.elim);(first|rfl|exact h.elim)
theorem qY(D:cm K mg "is_number" jG)(T:Txt mg)(TX:TxX K mg):Cal P w K mg base 1 "is_number" ["thing"] (spP K bu):=by
 refine D.ok qE (fun _ _ _ _ _ _ us hl=>match us,hl with|[_],_=>rfl) (fun vs H Q E h=>?_) (fun f cdv A outer s H vs Q E hr h=>?_)
 .exact jh kU h
 .have hu:=hr.units;exact⟨_,(al (aM (f8 (ap (nr K rfl) rfl T.b_isinstance boot_isinstance (paC (pv 0) (paC (dM (v:=.ty "int") rfl T.b_int boot_int rfl) ai))) (ii (yl (ap (nr K rfl) rfl T.b_isinstance boot_isinstance (paC (pv 0) (paC (dM (v:=.ty "bool") rfl T.b_bool boot_bool rfl) ai)))))))),fnP (K:=K) (c:=bu) (ps:=fK) (N:=["thing"]) (aL (fB (jg .int (ak (i:=0))) (yt (jg .bool (ak (i:=0)))))) (fun ds Q h=>le_trans (le_of_eq (kU ds Q h)) (by decide)) qJ h⟩
theorem jq:∀ds Q,bx ds Q->ds.length=2:=fun ds Q h=>by unfold bx at h;split at h;(first|rfl|exact h.elim);(first|rfl|exact h.elim)
theorem nI(D:cm K mg "are_numbers" gS)(T:Txt mg)(TX:TxX K mg)(C'1:Cal P w K mg base 1 "is_number" ["thing"] (spP K bu))(C'0:Cal P w K mg base 1 "is_row" ["thing"] (spP K b9)):Cal P w K mg base 2 "are_numbers" ["thing","many"] (spP K bx):=by
 refine D.ok nv (fun _ _ _ _ _ _ us hl=>match us,hl with|[_,_],_=>rfl) (fun vs H Q E h=>?_) (fun f cdv A outer s H vs Q E hr h=>?_)
 .exact jh jq h
 .have hu:=hr.units;exact⟨_,(al (aM (f8 (aF C'0 (hr.mono (by decide)) (paC (pv 0) ai)) (f8 (cS (iH K rfl hu) (ap (cC K rfl) rfl T.b_len PySem.boot_len (paC (pv 0) ai)) (pv 1) (aZ _)) (ii (ap (rC K rfl rfl) rfl T.b_all boot_all (paC (eF (wi:=(ug K (dn 0))) (g:=(eV 0)) (tts:=t7) (te:=(jx (spP K bu) [] E0 (bR (dn 0) jO))) ["item"] [none] rfl (eM K rfl (pv 0)) (fun _ _ _ _=>⟨(aS (i:=0) (by show List.Nodup (["item"]:List Str);decide +kernel) rfl (by walk_at "o")),eZ,(aF C'1 (hr.mono (by decide)) (paC (pv 0) ai))⟩) (by kernel_rfl)) ai))))))),fnP (K:=K) (c:=bx) (ps:=dX) (N:=["thing","many"]) (aL (fB (aC (c:=b9) (ae (af (au (i:=0))) ah)) (fB (aq eA (af (bv bC (ae (ak (i:=0)) ah))) (ak (i:=1))) (bv lO (ae (af (dC (ix:=[none]) rfl (eN (au (i:=0))) (fun fs hc=>(aG (i:=0) (pO hc (by decide)))) iF (aC (c:=bu) (ae (af (au (i:=0))) ah)))) ah))))) (fun ds Q h=>le_trans (le_of_eq (jq ds Q h)) (by decide)) nA h⟩
theorem oi:∀ds Q,cY ds Q->ds.length=3:=fun ds Q h=>by unfold cY at h;split at h;(first|rfl|exact h.elim);(first|rfl|exact h.elim)
theorem uA(D:sM K mg "is_text" gm [.int 0,.int 4000])(T:Txt mg)(TX:TxX K mg):CJ P w K mg base 1 "is_text" ["thing","least","most"] [.int 0,.int 4000] (spP K cY):=by
 refine D.ok ur (fun dT kV doc pm an cdv ct items us n hi hn hl=>?_) (fun vs H Q E h=>?_) (fun f cdv A outer s H vs Q E hr h=>?_)
 .obtain⟨i0,i1,rfl⟩:∃i0 i1,items=[i0,i1]:=match items,hi with|[i0,i1],_=>⟨i0,i1,rfl⟩
  have hn':n=0\/n=1\/n=2:=by (have:n<=2:=hn);omega
  rcases hn' with rfl|rfl|rfl
  .have hl2:us.length=1:=by (simp at hl;omega)
   match us,hl2 with
   | [_],_=>exact⟨_,rfl,rfl⟩
  .have hl2:us.length=2:=by (simp at hl;omega)
   match us,hl2 with
   | [_,_],_=>exact⟨_,rfl,rfl⟩
  .have hl2:us.length=3:=by (simp at hl;omega)
   match us,hl2 with
   | [_,_,_],_=>exact⟨_,rfl,rfl⟩
 .exact jh oi h
 .have hu:=hr.units;exact⟨_,(aj (bU (PW.pt (gD (cE (aW (ap (nr K rfl) rfl T.b_isinstance boot_isinstance (paC (pv 0) (paC (dM (v:=.ty "str") rfl T.b_str boot_str rfl) ai))))) (f7 (cE (sJ uD uD (pv 1) (ap (cC K rfl) rfl T.b_len PySem.boot_len (paC (pv 0) ai)) (pv 2)))))) (al (aM cJ)) aD) (al (aM (ap (rC K rfl rfl) rfl T.b_all boot_all (paC (eF (wi:=(ug K (dn 0))) (g:=(eV 0)) (tts:=t7) (te:=(sH AR AR (tC (V.str (S [97]))) (dn 0) (tC (V.str (S [122]))))) ["sign"] [none] rfl (eM K rfl (pv 0)) (fun _ _ _ _=>⟨(aS (i:=0) (by show List.Nodup (["sign"]:List Str);decide +kernel) rfl (by walk_at "o")),eZ,(sI uD uD (aU (l:=[97]) (by decide +kernel)) (pv 0) (aU (l:=[122]) (by decide +kernel)))⟩) (by kernel_rfl)) ai))))),fnP (K:=K) (c:=cY) (ps:=ja) (N:=["thing","least","most"]) (ay (b6 (gJ (cF (fA (jg .str (ak (i:=0))))) (cF (gk (ly k9 k9 (ak (i:=1)) (af (bv bC (ae (ak (i:=0)) ah))) (ak (i:=2)))))) (aL cL) aK) (aL (bv lO (ae (af (dC (ix:=[none]) rfl (eN (au (i:=0))) (fun fs hc=>(aG (i:=0) (pO hc (by decide)))) iF (ly k9 k9 (af (le_str (l:=[97]))) (ak (i:=0)) (af (le_str (l:=[122])))))) ah)))) (fun ds Q h=>le_trans (le_of_eq (oi ds Q h)) (by decide)) uw h⟩
theorem mO:∀ds Q,bE ds Q->ds.length=3:=fun ds Q h=>by unfold bE at h;split at h;(first|rfl|exact h.elim);(first|rfl|exact h.elim)
theorem su(D:cm K mg "is_whole" kl)(T:Txt mg)(TX:TxX K mg)(C'1:Cal P w K mg base 1 "is_number" ["thing"] (spP K bu)):Cal P w K mg base 2 "is_whole" ["thing","least","most"] (spP K bE):=by
 refine D.ok rW (fun _ _ _ _ _ _ us hl=>match us,hl with|[_,_,_],_=>rfl) (fun vs H Q E h=>?_) (fun f cdv A outer s H vs Q E hr h=>?_)
 .exact jh mO h
 .have hu:=hr.units;exact⟨_,(al (aM (f8 (aF C'1 (hr.mono (by decide)) (paC (pv 0) ai)) (ii (sI uD uD (pv 1) (pv 0) (pv 2)))))),fnP (K:=K) (c:=bE) (ps:=hZ) (N:=["thing","least","most"]) (aL (fB (aC (c:=bu) (ae (af (au (i:=0))) ah)) (ly k9 k9 (ak (i:=1)) (ak (i:=0)) (ak (i:=2))))) (fun ds Q h=>le_trans (le_of_eq (mO ds Q h)) (by decide)) se h⟩
theorem eC:∀ds Q,aO ds Q->ds.length=2:=fun ds Q h=>by unfold aO at h;split at h;(first|rfl|exact h.elim);(first|rfl|exact h.elim)
theorem iT(D:cm K mg "are_rising_indexes" c8)(T:Txt mg)(TX:TxX K mg)(C'0:Cal P w K mg base 1 "is_row" ["thing"] (spP K b9))(C'4:Cal P w K mg base 2 "is_whole" ["thing","least","most"] (spP K bE)):Cal P w K mg base 3 "are_rising_indexes" ["thing","many"] (spP K aO):=by
 refine D.ok iM (fun _ _ _ _ _ _ us hl=>match us,hl with|[_,_],_=>rfl) (fun vs H Q E h=>?_) (fun f cdv A outer s H vs Q E hr h=>?_)
 .exact jh eC h
 .have hu:=hr.units;exact⟨_,(aj (bU (PW.pt (gD (cE (aW (aF C'0 (hr.mono (by decide)) (paC (pv 0) ai)))) (f7 (cE (aW (ap (rC K rfl rfl) rfl T.b_all boot_all (paC (eF (wi:=(ug K (dn 0))) (g:=(eV 0)) (tts:=t7) (te:=(jx (spP K bE) [] E0 (bR (dn 0) (bR (tC (V.int 0)) (bR (tOp zQ (dn 1) (tC (V.int 1))) jO))))) ["item","many"] [none,some 1] rfl (eM K rfl (pv 0)) (fun _ _ _ _=>⟨(aS (i:=0) (by show List.Nodup (["item","many"]:List Str);decide +kernel) rfl (by walk_at "o")),eZ,(aF C'4 (hr.mono (by decide)) (paC (pv 0) (paC aw (paC (aP vJ (pv 1) aw) ai))))⟩) (by kernel_rfl)) ai))))))) (al (aM cJ)) aD) (al (aM (ap (rC K rfl rfl) rfl T.b_all boot_all (paC (eF (wi:=(xG K (bR (dn 0) (bR (tSl (BU K) (dn 0) (w4 (tC (V.int 1))) ou) jO)))) (g:=(zU K 2 (m8 (eV 0) (m8 (eV 1) AK)))) (tts:=t7) (te:=(tOp CM (dn 0) (dn 1))) ["one","other"] [none,none] rfl (rH K rfl rfl T.b_zip (paC (pv 0) (paC (eP (xt K rfl) (pv 0) (eW aw) jy) ai))) (fun _ _ _ _=>⟨(ip K rfl (n:=2) rfl (bF (aS (i:=0) (by show List.Nodup (["one","other"]:List Str);decide +kernel) rfl (by walk_at "o")) (bF (aS (i:=1) (by show List.Nodup (["one","other"]:List Str);decide +kernel) rfl (by walk_at "o")) eE))),eZ,(cS yv (pv 0) (pv 1) (aZ _))⟩) (by kernel_rfl)) ai))))),fnP (K:=K) (c:=aO) (ps:=cr) (N:=["thing","many"]) (ay (b6 (gJ (cF (fA (aC (c:=b9) (ae (af (au (i:=0))) ah)))) (cF (fA (bv lO (ae (af (dC (ix:=[none,some 1]) rfl (eN (au (i:=0))) (fun fs hc=>(aG (i:=0) (pO hc (by decide)))) iF (aC (c:=bE) (ae (af (au (i:=0))) (ae (af le_int) (ae (af (aq qi (ak (i:=1)) (af le_int))) ah)))))) ah))))) (aL cL) aK) (aL (bv lO (ae (af (dC (ix:=[none,none]) rfl (rJ (ae (af (au (i:=0))) (ae (af (eQ (ak (i:=0)) (dA le_int) gK)) ah))) (fun fs hc=>(gO (bG (aG (i:=0) (pO hc (by decide))) (bG (aG (i:=1) (pO hc (by decide))) eG)))) iF (aq qk (ak (i:=0)) (ak (i:=1))))) ah)))) (fun ds Q h=>le_trans (le_of_eq (eC ds Q h)) (by decide)) iS h⟩
theorem kW:∀ds Q,cf ds Q->ds.length=1:=fun ds Q h=>by unfold cf at h;split at h;(first|rfl|exact h.elim);(first|rfl|exact h.elim)
theorem qZ(D:cm K mg "is_gapped" jH)(T:Txt mg)(TX:TxX K mg)(C'3:CJ P w K mg base 1 "is_text" ["thing","least","most"] [.int 0,.int 4000] (spP K cY)):Cal P w K mg base 2 "is_gapped" ["thing"] (spP K cf):=by
 refine D.okT qF (fun _ _ _ _ _ _ us hl=>match us,hl with|[_],_=>rfl) (fun vs H Q E h=>?_) (fun f cdv A outer s H vs Q E hr h=>?_)
 .exact jh kW h
 .have hu:=hr.units;exact⟨_,(xS (Ar (At (ap (nr K rfl) rfl T.b_isinstance boot_isinstance (paC (pv 0) (paC (dM (v:=.ty "str") rfl T.b_str boot_str rfl) ai))) (As (xT 2 C'3 (hr.mono (by decide)) (by decide) (paT (rT K rfl (la:=[63]) (lb:=[97]) (by decide +kernel) (by decide +kernel) (pv 0)) (paC aw (paC (oH rfl T.g_MOST_SIGNS) ai)))))))),fnP (K:=K) (c:=cf) (ps:=fL) (N:=["thing"]) (aL (fB (jg .str (ak (i:=0))) (xy (ds:=[]) (by repeat (first|exact .nil|exact .cons (.int _) .nil|refine .cons (.int _) ?_)) (ae (af (DD uo (au (i:=0)) (ae (af (le_str (l:=[63]))) (ae (af (le_str (l:=[97]))) ah)))) (ae (af le_int) (ae (af (le_int (i:=60))) ah)))))) (fun ds Q h=>le_trans (le_of_eq (kW ds Q h)) (by decide)) qL h⟩
theorem oj:∀ds Q,bO ds Q->ds.length=3:=fun ds Q h=>by unfold bO at h;split at h;(first|rfl|exact h.elim);(first|rfl|exact h.elim)
theorem uB(D:cm K mg "fits_at" l9)(T:Txt mg)(TX:TxX K mg):Cal P w K mg base 1 "fits_at" ["text","gapped","place"] (spP K bO):=by
 refine D.ok kv (fun _ _ _ _ _ _ us hl=>match us,hl with|[_,_,_],_=>rfl) (fun vs H Q E h=>?_) (fun f cdv A outer s H vs Q E hr h=>?_)
 .exact jh oj h
 .have hu:=hr.units;exact⟨_,(aj (bU (cE (sJ uD uD aw (pv 2) (aP vJ (ap (cC K rfl) rfl T.b_len PySem.boot_len (paC (pv 0) ai)) (ap (cC K rfl) rfl T.b_len PySem.boot_len (paC (pv 1) ai))))) (al (aM cJ)) aD) (aj (et PassesOwn.never rfl (rH K rfl rfl T.b_zip (paC (eP (xt K rfl) (pv 0) (eW (pv 2)) (eW (aP (br K rfl) (pv 2) (ap (cC K rfl) rfl T.b_len PySem.boot_len (paC (pv 1) ai))))) (paC (pv 1) ai))) (ip K rfl (n:=2) rfl (bF (aS (i:=3) kv.nd rfl (by walk_at "o")) (bF (aS (i:=4) kv.nd rfl (by walk_at "o")) eE))) (al (bU (PW.pt (lH (ba (jX K rfl hu) (pv 4) (aU (l:=[63]) (by decide +kernel)) (aZ _)) (jw (ba (jX K rfl hu) (pv 4) (pv 3) (aZ _))))) (al (aM cJ)) aD))) (al (aM cJ)))),fnP (K:=K) (c:=bO) (ps:=jb) (N:=["text","gapped","place","sign","own"]) (ay (b6 (cF (gk (ly k9 k9 (af le_int) (ak (i:=2)) (af (aq qi (af (bv bC (ae (ak (i:=0)) ah))) (af (bv bC (ae (ak (i:=1)) ah)))))))) (aL cL) aK) (ay (eO (rJ (ae (af (eQ (ak (i:=0)) (dA (au (i:=2))) (dA (aq aV (ak (i:=2)) (af (bv bC (ae (ak (i:=1)) ah))))))) (ae (af (au (i:=1))) ah))) (gO (bG (aG (i:=3) rfl) (bG (aG (i:=4) rfl) eG))) (b6 (lM (gk (aq fF (ak (i:=4)) (af (le_str (l:=[63]))))) (gk (aq fF (ak (i:=4)) (ak (i:=3))))) (aL cL) aK)) (aL cL))) (fun ds Q h=>le_trans (le_of_eq (oj ds Q h)) (by decide)) uz h⟩
theorem ir:∀ds Q,bi ds Q->ds.length=2:=fun ds Q h=>by unfold bi at h;split at h;(first|rfl|exact h.elim);(first|rfl|exact h.elim)
theorem lx(D:cm K mg "gapped_places" fb)(T:Txt mg)(TX:TxX K mg)(C'7:Cal P w K mg base 1 "fits_at" ["text","gapped","place"] (spP K bO)):Cal P w K mg base 2 "gapped_places" ["text","gapped"] (spP K bi):=by
 refine D.ok ll (fun _ _ _ _ _ _ us hl=>match us,hl with|[_,_],_=>rfl) (fun vs H Q E h=>?_) (fun f cdv A outer s H vs Q E hr h=>?_)
 .exact jh ir h
 .have hu:=hr.units;exact⟨_,(al (aM (bY (kg K rfl) rfl T.b_tuple boot_tuple (paC (eF (wi:=(wU (bR (tCB (uf K) (bR (dn 0) jO)) jO))) (g:=(eV 0)) (tts:=(tB (jx (spP K bO) [] E0 (bR (dn 1) (bR (dn 2) (bR (dn 0) jO)))))) (te:=(dn 0)) ["place","text","gapped"] [none,some 0,some 1] rfl (dw rfl T.b_range (paC (ap (cC K rfl) rfl T.b_len PySem.boot_len (paC (pv 0) ai)) ai)) (fun _ _ _ _=>⟨(aS (i:=0) (by show List.Nodup (["place","text","gapped"]:List Str);decide +kernel) rfl (by walk_at "o")),(rn (aW (aF C'7 (hr.mono (by decide)) (paC (pv 1) (paC (pv 2) (paC (pv 0) ai)))))),(pv 0)⟩) (by kernel_rfl)) ai)))),fnP (K:=K) (c:=bi) (ps:=dh) (N:=["text","gapped"]) (aL (bv i9 (ae (af (dC (ix:=[none,some 0,some 1]) rfl (oM (ae (af (bv bC (ae (ak (i:=0)) ah))) ah)) (fun fs hc=>(aG (i:=0) (pO hc (by decide)))) (fA (aC (c:=bO) (ae (af (au (i:=1))) (ae (af (au (i:=2))) (ae (af (au (i:=0))) ah))))) (au (i:=0)))) ah))) (fun ds Q h=>le_trans (le_of_eq (ir ds Q h)) (by decide)) lq h⟩
theorem iU:∀ds Q E,bz ds Q E->ds.length=1:=fun ds Q E h=>by unfold bz at h;split at h;(first|rfl|exact h.elim);(first|rfl|exact h.elim)
theorem mP(D:cm K mg "check_gapped" fT)(T:Txt mg)(TX:TxX K mg)(C_NoPiece_init:rM P w K mg base 1 (aT K "NoPiece") "NoPiece" "at")(C_TooMany_init:rM P w K mg base 1 (aT K "TooMany") "TooMany" "most")(C'6:Cal P w K mg base 2 "is_gapped" ["thing"] (spP K cf)):uG P w K mg base 3 "check_gapped" ["things"] (spX K bz):=by
 refine D.okE fc (fun _ _ _ _ _ _ us hl=>match us,hl with|[_],_=>rfl) (fun vs H Q E h=>?_) (fun f cdv A outer s H vs Q E hr h=>?_)
 .exact Ev iU h
 .have hu:=hr.units;exact⟨_,(aj (bU (PT.nox (ba AU (ap (cC K rfl) rfl T.b_len PySem.boot_len (paC (pv 0) ai)) (oH rfl T.g_MOST_PIECES) (aZ _))) (al (oX K rfl rfl wd (rN C_TooMany_init (hr.mono (by decide)) (paC (oH rfl T.g_MOST_PIECES) ai)))) aD) (al (et PassesOwn.leaving rfl (sV K rfl rfl T.b_enumerate (paC (pv 0) ai)) (ip K rfl (n:=2) rfl (bF (aS (i:=1) fc.nd rfl (by walk_at "o")) (bF (aS (i:=2) fc.nd rfl (by walk_at "o")) eE))) (al (bU (PT.nox (cE (aW (aF C'6 (hr.mono (by decide)) (paC (pv 2) ai))))) (al (oX K rfl rfl wd (rN C_NoPiece_init (hr.mono (by decide)) (paC (pv 1) ai)))) aD))))),Ew (K:=K) (c:=bz) (ps:=dG) (N:=["things","at","thing"]) (fun _=>(iK (An (gk (aq ue (af (bv bC (ae (ak (i:=0)) ah))) (af (le_int (i:=40))))) (lY TX.all (contains_iff_mem.mp (by decide +kernel)) (ae (af (le_int (i:=40))) ah)) (LS.x aK)) (Ch (vI (ae (af (au (i:=0))) ah)) (gO (bG (aG (i:=1) rfl) (bG (aG (i:=2) rfl) eG))) (An (cF (fA (aC (c:=cf) (ae (af (au (i:=2))) ah)))) (lY TX.all (contains_iff_mem.mp (by decide +kernel)) (ae (af (au (i:=1))) ah)) (LS.x aK))))) (fun ds Q E h=>le_trans (le_of_eq (iU ds Q E h)) (by decide)) mE h⟩
theorem mQ:∀ds Q,bP ds Q->ds.length=2:=fun ds Q h=>by unfold bP at h;split at h;(first|rfl|exact h.elim);(first|rfl|exact h.elim)
theorem sv(D:cm K mg "farthest" km)(T:Txt mg)(TX:TxX K mg)(C'8:Cal P w K mg base 2 "gapped_places" ["text","gapped"] (spP K bi)):Cal P w K mg base 3 "farthest" ["text","pieces"] (spP K bP):=by
 refine D.ok dQ (fun _ _ _ _ _ _ us hl=>match us,hl with|[_,_],_=>rfl) (fun vs H Q E h=>?_) (fun f cdv A outer s H vs Q E hr h=>?_)
 .exact jh mQ h
 .have hu:=hr.units;exact⟨_,(aj (vq (wi:=(ug K (dn 0))) (g:=(eV 0)) (tts:=t7) (te:=(AN (bR (tC (V.int 0)) (bR (tC (V.int 0)) jO)))) (i:=2) ["sign"] [none] dQ.nd rfl (Or.inl rfl) rfl (eM K rfl (pv 0)) (fun _ _ _ _=>⟨(aS (i:=0) (by show List.Nodup (["sign"]:List Str);decide +kernel) rfl (by walk_at "o")),eZ,(fu (paC aw (paC aw ai)))⟩) (by kernel_rfl)) (aj (et PassesOwn.never rfl (sV K rfl rfl T.b_enumerate (paC (pv 1) ai)) (ip K rfl (n:=2) rfl (bF (aS (i:=3) dQ.nd rfl (by walk_at "o")) (bF (aS (i:=4) dQ.nd rfl (by walk_at "o")) eE))) (al (et PassesOwn.never rfl (eM K rfl (aF C'8 (hr.mono (by decide)) (paC (pv 0) (paC (pv 4) ai)))) (aS (i:=5) dQ.nd rfl (by walk_at "o")) (al (rR (ap (yP K rfl rfl hu) rfl T.b_min boot_min (paC (bH (du K rfl) (pv 2) (pv 5) (fun _ _=>rfl)) (paC (fu (paC (tQ nO (aP (br K rfl) (pv 5) (ap (cC K rfl) rfl T.b_len PySem.boot_len (paC (pv 4) ai)))) (paC (pv 3) ai))) ai))) (uL (pv 2) (pv 5) oy)))))) (aj (et PassesOwn.never rfl (uO rfl T.b_range (paC aw (paC (ap (cC K rfl) rfl T.b_len PySem.boot_len (paC (pv 0) ai)) ai))) (aS (i:=5) dQ.nd rfl (by walk_at "o")) (al (rR (ap (yP K rfl rfl hu) rfl T.b_min boot_min (paC (bH (du K rfl) (pv 2) (pv 5) (fun _ _=>rfl)) (paC (bH (du K rfl) (pv 2) (aP vJ (pv 5) aw) (fun _ _=>rfl)) ai))) (uL (pv 2) (pv 5) oy)))) (al (aM (pv 2)))))),fnP (K:=K) (c:=bP) (ps:=h7) (N:=["text","pieces","best","index","piece","place"]) (ay (aR (dC (ix:=[none]) rfl (eN (au (i:=0))) (fun fs hc=>(aG (i:=0) (pO hc (by decide)))) iF (gj (ae (af le_int) (ae (af le_int) ah)))) (aE (i:=2) rfl)) (ay (eO (vI (ae (af (au (i:=1))) ah)) (gO (bG (aG (i:=3) rfl) (bG (aG (i:=4) rfl) eG))) (eO (eN (aC (c:=bi) (ae (af (au (i:=0))) (ae (af (au (i:=4))) ah)))) (aG (i:=5) rfl) (rB (i:=2) (bv wv (ae (af (aq bI (ak (i:=2)) (ak (i:=5)))) (ae (af (gj (ae (af (ud nW (af (aq aV (ak (i:=5)) (af (bv bC (ae (ak (i:=4)) ah))))))) (ae (af (au (i:=3))) ah)))) ah))) (au (i:=5))))) (ay (eO (Dz (ae (af le_int) (ae (af (bv bC (ae (ak (i:=0)) ah))) ah))) (aG (i:=5) rfl) (rB (i:=2) (bv wv (ae (af (aq bI (ak (i:=2)) (ak (i:=5)))) (ae (af (aq bI (ak (i:=2)) (af (aq qi (ak (i:=5)) (af le_int))))) ah))) (au (i:=5)))) (aL (au (i:=2)))))) (fun ds Q h=>le_trans (le_of_eq (mQ ds Q h)) (by decide)) sg h⟩
theorem tM:∀ds Q E,aX ds Q E->ds.length=2:=fun ds Q E h=>by unfold aX at h;split at h;(first|rfl|exact h.elim);(first|rfl|exact h.elim)
theorem yi(D:cm K mg "cover" rV)(T:Txt mg)(TX:TxX K mg)(C_NotCovered_init:rM P w K mg base 1 (aT K "NotCovered") "NotCovered" "at")(C'9:uG P w K mg base 3 "check_gapped" ["things"] (spX K bz))(C'10:Cal P w K mg base 3 "farthest" ["text","pieces"] (spP K bP)):uG P w K mg base 4 "cover" ["text","pieces"] (spX K aX):=by
 refine D.okE fH (fun _ _ _ _ _ _ us hl=>match us,hl with|[_,_],_=>rfl) (fun vs H Q E h=>?_) (fun f cdv A outer s H vs Q E hr h=>?_)
 .exact Ev tM h
 .have hu:=hr.units;exact⟨_,(aj (cR (e9 C'9 (hr.mono (by decide)) Cg (paC (pv 1) ai))) (aj (PS.nox (aY (i:=2) fH.nd rfl (by walk_at "o") (aF C'10 (hr.mono (by decide)) (paC (pv 0) (paC (pv 1) ai))))) (aj (PS.nox (aY (i:=3) fH.nd rfl (by walk_at "o") (dy ai))) (aj (PS.nox (aY (i:=4) fH.nd rfl (by walk_at "o") (dy ai))) (aj (PS.nox (aY (i:=5) fH.nd rfl (by walk_at "o") aw)) (aj (sF PassesOwn.leaving (PT.nox (ba yv (pv 5) (ap (cC K rfl) rfl T.b_len PySem.boot_len (paC (pv 0) ai)) (aZ _))) (aj (PS.nox (sE (bH (du K rfl) (pv 2) (pv 5) (fun _ _=>rfl)) (ip K rfl (n:=2) rfl (bF (aS (i:=6) fH.nd rfl (by walk_at "o")) (bF (aS (i:=7) fH.nd rfl (by walk_at "o")) eE))))) (aj (bU (PT.nox (ba uD (tQ nO (pv 6)) (pv 5) (aZ _))) (al (oX K rfl rfl wd (rN C_NotCovered_init (hr.mono (by decide)) (paC (pv 5) ai)))) aD) (aj (PS.nox (cR (jS K rfl PySem.F.plainAttrs_list PySem.F.slot_list_append PySem.F.type_list_append eX (pv 3) (paC (fu (paC (aP vJ (tQ nO (pv 6)) (ap (cC K rfl) rfl T.b_len PySem.boot_len (paC (bH (du K rfl) (pv 1) (pv 7) (fun _ _=>rfl)) ai))) (paC (pv 7) ai))) ai)))) (aj (PS.nox (cR (jS K rfl PySem.F.plainAttrs_list PySem.F.slot_list_append PySem.F.type_list_append eX (pv 4) (paC (pv 5) ai)))) (al (PS.nox (aY (i:=5) fH.nd rfl (by walk_at "o") (tQ nO (pv 6)))))))))) (al (PS.nox (aM (fu (paC (bY (kg K rfl) rfl T.b_tuple boot_tuple (paC (pv 3) ai)) (paC (bY (kg K rfl) rfl T.b_tuple boot_tuple (paC (pv 4) ai)) ai)))))))))))),Ew (K:=K) (c:=aX) (ps:=lE) (N:=["text","pieces","best","chosen","marks","mark","less","index"]) (fun _=>(iK (Ao (xL (c:=bz) (ae (af (au (i:=1))) ah))) (iK (LS.x (aR (aC (c:=bP) (ae (af (au (i:=0))) (ae (af (au (i:=1))) ah))) (aE (i:=2) rfl))) (iK (LS.x (aR (dz ah) (aE (i:=3) rfl))) (iK (LS.x (aR (dz ah) (aE (i:=4) rfl))) (iK (LS.x (aR le_int (aE (i:=5) rfl))) (iK (xK (gk (aq qk (ak (i:=5)) (af (bv bC (ae (ak (i:=0)) ah))))) (iK (LS.x (aR (aq bI (ak (i:=2)) (ak (i:=5))) (vU (bG (aG (i:=6) rfl) (bG (aG (i:=7) rfl) eG))))) (iK (An (gk (aq k9 (af (ud nW (ak (i:=6)))) (ak (i:=5)))) (lY TX.all (contains_iff_mem.mp (by decide +kernel)) (ae (af (au (i:=5))) ah)) (LS.x aK)) (iK (LS.x (gL (nU (i:=3) (gj (ae (af (aq qi (af (ud nW (ak (i:=6)))) (af (bv bC (ae (af (aq bI (ak (i:=1)) (ak (i:=7)))) ah))))) (ae (af (au (i:=7))) ah)))))) (iK (LS.x (gL (nU (i:=4) (au (i:=5))))) (LS.x (aR (ud nW (ak (i:=6))) (aE (i:=5) rfl)))))))) (LS.x (aL (gj (ae (af (bv i9 (ae (ak (i:=3)) ah))) (ae (af (bv i9 (ae (ak (i:=4)) ah))) ah)))))))))))) (fun ds Q E h=>le_trans (le_of_eq (tM ds Q E h)) (by decide)) yh h⟩
theorem gy:∀ds Q,bc ds Q->ds.length=2:=fun ds Q h=>by unfold bc at h;split at h;(first|rfl|exact h.elim);(first|rfl|exact h.elim)
theorem kF(D:cm K mg "has_cover_form" eH)(T:Txt mg)(TX:TxX K mg)(C'2:Cal P w K mg base 2 "are_numbers" ["thing","many"] (spP K bx))(C'0:Cal P w K mg base 1 "is_row" ["thing"] (spP K b9))(C'4:Cal P w K mg base 2 "is_whole" ["thing","least","most"] (spP K bE)):Cal P w K mg base 3 "has_cover_form" ["pieces","chosen"] (spP K bc):=by
 refine D.ok ky (fun _ _ _ _ _ _ us hl=>match us,hl with|[_,_],_=>rfl) (fun vs H Q E h=>?_) (fun f cdv A outer s H vs Q E hr h=>?_)
 .exact jh gy h
 .have hu:=hr.units;exact⟨_,(aj (bU (cE (aW (aF C'0 (hr.mono (by decide)) (paC (pv 1) ai)))) (al (aM cJ)) aD) (al (aM (ap (rC K rfl rfl) rfl T.b_all boot_all (paC (eF (wi:=(ug K (dn 1))) (g:=(eV 0)) (tts:=t7) (te:=(wS (jx (spP K bx) [] E0 (bR (dn 0) (bR (tC (V.int 2)) jO))) (jx (spP K bE) [] E0 (bR (tOp (uF K) (dn 0) (tC (V.int 1))) (bR (tC (V.int 0)) (bR (tOp zQ (tCB (uf K) (bR (dn 1) jO)) (tC (V.int 1))) jO)))))) ["row","pieces"] [none,some 0] rfl (eM K rfl (pv 1)) (fun _ _ _ _=>⟨(aS (i:=0) (by show List.Nodup (["row","pieces"]:List Str);decide +kernel) rfl (by walk_at "o")),eZ,(f8 (aF C'2 (hr.mono (by decide)) (paC (pv 0) (paC aw ai))) (ii (aF C'4 (hr.mono (by decide)) (paC (bH (du K rfl) (pv 0) aw (fun _ _=>rfl)) (paC aw (paC (aP vJ (ap (cC K rfl) rfl T.b_len PySem.boot_len (paC (pv 1) ai)) aw) ai))))))⟩) (by kernel_rfl)) ai))))),fnP (K:=K) (c:=bc) (ps:=cZ) (N:=["pieces","chosen"]) (ay (b6 (cF (fA (aC (c:=b9) (ae (af (au (i:=1))) ah)))) (aL cL) aK) (aL (bv lO (ae (af (dC (ix:=[none,some 0]) rfl (eN (au (i:=1))) (fun fs hc=>(aG (i:=0) (pO hc (by decide)))) iF (fB (aC (c:=bx) (ae (af (au (i:=0))) (ae (af le_int) ah))) (aC (c:=bE) (ae (af (aq bI (ak (i:=0)) (af le_int))) (ae (af le_int) (ae (af (aq qi (af (bv bC (ae (ak (i:=1)) ah))) (af le_int))) ah))))))) ah)))) (fun ds Q h=>le_trans (le_of_eq (gy ds Q h)) (by decide)) kB h⟩
theorem mR:∀ds Q,cv ds Q->ds.length=3:=fun ds Q h=>by unfold cv at h;split at h;(first|rfl|exact h.elim);(first|rfl|exact h.elim)
theorem sw(D:cm K mg "is_cover" kn)(T:Txt mg)(TX:TxX K mg)(C'7:Cal P w K mg base 1 "fits_at" ["text","gapped","place"] (spP K bO))(C'12:Cal P w K mg base 3 "has_cover_form" ["pieces","chosen"] (spP K bc)):Cal P w K mg base 4 "is_cover" ["text","pieces","chosen"] (spP K cv):=by
 refine D.ok fe (fun _ _ _ _ _ _ us hl=>match us,hl with|[_,_,_],_=>rfl) (fun vs H Q E h=>?_) (fun f cdv A outer s H vs Q E hr h=>?_)
 .exact jh mR h
 .have hu:=hr.units;exact⟨_,(aj (bU (cE (aW (aF C'12 (hr.mono (by decide)) (paC (pv 1) (paC (pv 2) ai))))) (al (aM cJ)) aD) (aj (bU (cE (aW (ap (rC K rfl rfl) rfl T.b_all boot_all (paC (eF (wi:=(ug K (dn 2))) (g:=(zU K 2 (m8 (eV 0) (m8 (eV 1) AK)))) (tts:=t7) (te:=(jx (spP K bO) [] E0 (bR (dn 2) (bR (tOp (uF K) (dn 3) (dn 1)) (bR (dn 0) jO))))) ["place","index","text","pieces"] [none,none,some 0,some 1] rfl (eM K rfl (pv 2)) (fun _ _ _ _=>⟨(ip K rfl (n:=2) rfl (bF (aS (i:=0) (by show List.Nodup (["place","index","text","pieces"]:List Str);decide +kernel) rfl (by walk_at "o")) (bF (aS (i:=1) (by show List.Nodup (["place","index","text","pieces"]:List Str);decide +kernel) rfl (by walk_at "o")) eE))),eZ,(aF C'7 (hr.mono (by decide)) (paC (pv 2) (paC (bH (du K rfl) (pv 3) (pv 1) (fun _ _=>rfl)) (paC (pv 0) ai))))⟩) (by kernel_rfl)) ai)))) (al (aM cJ)) aD) (aj (aY (i:=3) fe.nd rfl (by walk_at "o") aw) (aj (et PassesOwn.never rfl (eM K rfl (ap (Az K rfl) rfl T.b_sorted boot_sorted (paC (eF (wi:=(ug K (dn 2))) (g:=(zU K 2 (m8 (eV 0) (m8 (eV 1) AK)))) (tts:=t7) (te:=(AN (bR (dn 0) (bR (tOp (xN K) (dn 0) (tCB (uf K) (bR (tOp (uF K) (dn 2) (dn 1)) jO))) jO)))) ["place","index","pieces"] [none,none,some 1] rfl (eM K rfl (pv 2)) (fun _ _ _ _=>⟨(ip K rfl (n:=2) rfl (bF (aS (i:=0) (by show List.Nodup (["place","index","pieces"]:List Str);decide +kernel) rfl (by walk_at "o")) (bF (aS (i:=1) (by show List.Nodup (["place","index","pieces"]:List Str);decide +kernel) rfl (by walk_at "o")) eE))),eZ,(fu (paC (pv 0) (paC (aP (br K rfl) (pv 0) (ap (cC K rfl) rfl T.b_len PySem.boot_len (paC (bH (du K rfl) (pv 2) (pv 1) (fun _ _=>rfl)) ai))) ai)))⟩) (by kernel_rfl)) ai))) (ip K rfl (n:=2) rfl (bF (aS (i:=4) fe.nd rfl (by walk_at "o")) (bF (aS (i:=5) fe.nd rfl (by walk_at "o")) eE))) (aj (bU (ba AU (pv 4) (pv 3) (aZ _)) (al (aM cJ)) aD) (al (aY (i:=3) fe.nd rfl (by walk_at "o") (ap (B0 rfl) rfl T.b_max boot_max (paC (pv 3) (paC (pv 5) ai))))))) (al (aM (cS (iH K rfl hu) (pv 3) (ap (cC K rfl) rfl T.b_len PySem.boot_len (paC (pv 0) ai)) (aZ _)))))))),fnP (K:=K) (c:=cv) (ps:=h8) (N:=["text","pieces","chosen","covered","place","end"]) (ay (b6 (cF (fA (aC (c:=bc) (ae (af (au (i:=1))) (ae (af (au (i:=2))) ah))))) (aL cL) aK) (ay (b6 (cF (fA (bv lO (ae (af (dC (ix:=[none,none,some 0,some 1]) rfl (eN (au (i:=2))) (fun fs hc=>(gO (bG (aG (i:=0) (pO hc (by decide))) (bG (aG (i:=1) (pO hc (by decide))) eG)))) iF (aC (c:=bO) (ae (af (au (i:=2))) (ae (af (aq bI (ak (i:=3)) (ak (i:=1)))) (ae (af (au (i:=0))) ah)))))) ah)))) (aL cL) aK) (ay (aR le_int (aE (i:=3) rfl)) (ay (eO (eN (bv xX (ae (af (dC (ix:=[none,none,some 1]) rfl (eN (au (i:=2))) (fun fs hc=>(gO (bG (aG (i:=0) (pO hc (by decide))) (bG (aG (i:=1) (pO hc (by decide))) eG)))) iF (gj (ae (af (au (i:=0))) (ae (af (aq aV (ak (i:=0)) (af (bv bC (ae (af (aq bI (ak (i:=2)) (ak (i:=1)))) ah))))) ah))))) ah))) (gO (bG (aG (i:=4) rfl) (bG (aG (i:=5) rfl) eG))) (ay (b6 (gk (aq ue (ak (i:=4)) (ak (i:=3)))) (aL cL) aK) (aR (bv zP (ae (ak (i:=3)) (ae (ak (i:=5)) ah))) (aE (i:=3) rfl)))) (aL (aq eA (ak (i:=3)) (af (bv bC (ae (ak (i:=0)) ah))))))))) (fun ds Q h=>le_trans (le_of_eq (mR ds Q h)) (by decide)) si h⟩
theorem kX:∀ds Q,cg ds Q->ds.length=3:=fun ds Q h=>by unfold cg at h;split at h;(first|rfl|exact h.elim);(first|rfl|exact h.elim)
theorem rc(D:cm K mg "are_marks" jI)(T:Txt mg)(TX:TxX K mg)(C'5:Cal P w K mg base 3 "are_rising_indexes" ["thing","many"] (spP K aO))(C'10:Cal P w K mg base 3 "farthest" ["text","pieces"] (spP K bP)):Cal P w K mg base 4 "are_marks" ["text","pieces","marks"] (spP K cg):=by
 refine D.ok kM (fun _ _ _ _ _ _ us hl=>match us,hl with|[_,_,_],_=>rfl) (fun vs H Q E h=>?_) (fun f cdv A outer s H vs Q E hr h=>?_)
 .exact jh kX h
 .have hu:=hr.units;exact⟨_,(aj (bU (cE (aW (aF C'5 (hr.mono (by decide)) (paC (pv 2) (paC (ap (cC K rfl) rfl T.b_len PySem.boot_len (paC (pv 0) ai)) ai))))) (al (aM cJ)) aD) (aj (aY (i:=3) kM.nd rfl (by walk_at "o") (aF C'10 (hr.mono (by decide)) (paC (pv 0) (paC (pv 1) ai)))) (al (aM (ap (rC K rfl rfl) rfl T.b_all boot_all (paC (eF (wi:=(xG K (bR (dn 2) (bR (tSl (BU K) (dn 2) (w4 (tC (V.int 1))) ou) jO)))) (g:=(zU K 2 (m8 (eV 0) (m8 (eV 1) AK)))) (tts:=t7) (te:=(tOp AR (tUn B8 (tOp (uF K) (tOp (uF K) (dn 2) (dn 0)) (tC (V.int 0)))) (dn 1))) ["one","other","best"] [none,none,some 3] rfl (rH K rfl rfl T.b_zip (paC (pv 2) (paC (eP (xt K rfl) (pv 2) (eW aw) jy) ai))) (fun _ _ _ _=>⟨(ip K rfl (n:=2) rfl (bF (aS (i:=0) (by show List.Nodup (["one","other","best"]:List Str);decide +kernel) rfl (by walk_at "o")) (bF (aS (i:=1) (by show List.Nodup (["one","other","best"]:List Str);decide +kernel) rfl (by walk_at "o")) eE))),eZ,(cS uD (tQ nO (bH (du K rfl) (bH (du K rfl) (pv 2) (pv 0) (fun _ _=>rfl)) aw (fun _ _=>rfl))) (pv 1) (aZ _))⟩) (by kernel_rfl)) ai)))))),fnP (K:=K) (c:=cg) (ps:=fM) (N:=["text","pieces","marks","best"]) (ay (b6 (cF (fA (aC (c:=aO) (ae (af (au (i:=2))) (ae (af (bv bC (ae (ak (i:=0)) ah))) ah))))) (aL cL) aK) (ay (aR (aC (c:=bP) (ae (af (au (i:=0))) (ae (af (au (i:=1))) ah))) (aE (i:=3) rfl)) (aL (bv lO (ae (af (dC (ix:=[none,none,some 3]) rfl (rJ (ae (af (au (i:=2))) (ae (af (eQ (ak (i:=2)) (dA le_int) gK)) ah))) (fun fs hc=>(gO (bG (aG (i:=0) (pO hc (by decide))) (bG (aG (i:=1) (pO hc (by decide))) eG)))) iF (aq k9 (af (ud nW (af (aq bI (af (aq bI (ak (i:=2)) (ak (i:=0)))) (af le_int))))) (ak (i:=1))))) ah))))) (fun ds Q h=>le_trans (le_of_eq (kX ds Q h)) (by decide)) qO h⟩
theorem mS:∀ds Q,cw ds Q->ds.length=2:=fun ds Q h=>by unfold cw at h;split at h;(first|rfl|exact h.elim);(first|rfl|exact h.elim)
theorem sx(D:cm K mg "_law_deck" ko)(T:Txt mg)(TX:TxX K mg):Cal P w K mg base 1 "_law_deck" ["_law_cells","_law_many"] (spP K cw):=by
 refine D.ok dk (fun _ _ _ _ _ _ us hl=>match us,hl with|[_,_],_=>rfl) (fun vs H Q E h=>?_) (fun f cdv A outer s H vs Q E hr h=>?_)
 .exact jh mS h
 .have hu:=hr.units;exact⟨_,(aj (aY (i:=2) dk.nd rfl (by walk_at "o") (aP (br K rfl) (bY (sQ K rfl) rfl T.b_list boot_list (paC (pv 0) ai)) (aP jT (dy (paC aw ai)) (bY zT rfl T.b_int boot_int (paC (cS (iH K rfl hu) (ap (cC K rfl) rfl T.b_len PySem.boot_len (paC (pv 0) ai)) aw (aZ _)) ai))))) (aj (vq (wi:=(ug K (dn 2))) (g:=(eV 0)) (tts:=t7) (te:=(tOp zI (dn 0) (tCB zS (bR (tOp Em (dn 0) (tOp B7 (tC (V.int 10)) (tC (V.int 18)))) jO)))) (i:=3) ["_law_cell"] [none] dk.nd rfl (Or.inl rfl) rfl (eM K rfl (pv 2)) (fun _ _ _ _=>⟨(aS (i:=0) (by show List.Nodup (["_law_cell"]:List Str);decide +kernel) rfl (by walk_at "o")),eZ,(aP jT (pv 0) (bY zT rfl T.b_int boot_int (paC (cS Cb (pv 0) (aP vK aw aw) (aZ _)) ai)))⟩) (by kernel_rfl)) (aj (aY (i:=4) dk.nd rfl (by walk_at "o") (dy ai)) (aj (et PassesOwn.never rfl (dw rfl T.b_range (paC (pv 1) ai)) (aS (i:=5) dk.nd rfl (by walk_at "o")) (aj (aY (i:=6) dk.nd rfl (by walk_at "o") (aP eS (pv 5) (ap (cC K rfl) rfl T.b_len PySem.boot_len (paC (pv 2) ai)))) (aj (aY (i:=7) dk.nd rfl (by walk_at "o") (aP (br K rfl) (aP jT (aP eS (aP (br K rfl) (aP (br K rfl) (bH (du K rfl) (pv 2) (pv 6) (fun _ _=>rfl)) (aP jT (aP jT (pv 5) (pv 5)) aw)) (aP jT aw (pv 5))) aw) (bH (du K rfl) (dy (paC aw (paC aw (paC aw (paC aw ai))))) (aP eS (pv 5) aw) (fun _ _=>rfl))) aw)) (aj (cR (jS K rfl PySem.F.plainAttrs_list PySem.F.slot_list_append PySem.F.type_list_append eX (pv 4) (paC (bH (du K rfl) (dy (paC (aP eS (aP jT (pv 7) (pv 7)) aw) (paC (aP eS (bH (du K rfl) (pv 3) (pv 6) (fun _ _=>rfl)) (aP vK aw aw)) ai))) (bY zT rfl T.b_int boot_int (paC (cS (jX K rfl hu) (bH (du K rfl) (pv 3) (pv 6) (fun _ _=>rfl)) aw (aZ _)) ai)) (fun _ _=>rfl)) ai))) (al (rR (aP Aq (bH (du K rfl) (pv 3) (pv 6) (fun _ _=>rfl)) (aP vK aw aw)) (uL (pv 3) (pv 6) oy))))))) (al (aM (rD K rfl rfl (pv 4) rfl T.b_list rfl T.b_reversed))))))),fnP (K:=K) (c:=cw) (ps:=h9) (N:=["_law_cells","_law_many","_law_own","_law_row","_law_deck_here","_law_k","_law_at","_law_one"]) (ay (aR (aq aV (af (bv oQ (ae (ak (i:=0)) ah))) (af (aq fC (af (dz (ae (af le_int) ah))) (af (bv vS (ae (af (aq eA (af (bv bC (ae (ak (i:=0)) ah))) (af le_int))) ah)))))) (aE (i:=2) rfl)) (ay (aR (dC (ix:=[none]) rfl (eN (au (i:=2))) (fun fs hc=>(aG (i:=0) (pO hc (by decide)))) iF (aq fC (ak (i:=0)) (af (bv vS (ae (af (aq vE (ak (i:=0)) (af (aq qj (af le_int) (af le_int))))) ah))))) (aE (i:=3) rfl)) (ay (aR (dz ah) (aE (i:=4) rfl)) (ay (eO (oM (ae (af (au (i:=1))) ah)) (aG (i:=5) rfl) (ay (aR (aq cP (ak (i:=5)) (af (bv bC (ae (ak (i:=2)) ah)))) (aE (i:=6) rfl)) (ay (aR (aq aV (af (aq fC (af (aq cP (af (aq aV (af (aq aV (af (aq bI (ak (i:=2)) (ak (i:=6)))) (af (aq fC (af (aq fC (ak (i:=5)) (ak (i:=5)))) (af le_int))))) (af (aq fC (af le_int) (ak (i:=5)))))) (af le_int))) (af (aq bI (af (dz (ae (af le_int) (ae (af le_int) (ae (af le_int) (ae (af le_int) ah)))))) (af (aq cP (ak (i:=5)) (af le_int))))))) (af le_int)) (aE (i:=7) rfl)) (ay (gL (nU (i:=4) (aq bI (af (dz (ae (af (aq cP (af (aq fC (ak (i:=7)) (ak (i:=7)))) (af le_int))) (ae (af (aq cP (af (aq bI (ak (i:=3)) (ak (i:=6)))) (af (aq qj (af le_int) (af le_int))))) ah)))) (af (bv vS (ae (af (aq fF (af (aq bI (ak (i:=3)) (ak (i:=6)))) (af le_int))) ah)))))) (rB (i:=3) (aq xO (af (aq bI (ak (i:=3)) (ak (i:=6)))) (af (aq qj (af le_int) (af le_int)))) (au (i:=6))))))) (aL (uj (ak (i:=4)))))))) (fun ds Q h=>le_trans (le_of_eq (mS ds Q h)) (by decide)) sj h⟩
theorem mT:∀p ds Q,aJ p ds Q->ds.length+1=1:=fun p ds Q h=>by unfold aJ at h;split at h;(first|rfl|exact h.elim);(first|rfl|exact h.elim)
theorem sy(D:cm K mg "_law_next" kq)(T:Txt mg)(TX:TxX K mg):Cal P w K mg base 1 "_law_next" ["_law_deck_here"] (spR K aJ):=by
 refine D.ok rX (fun _ _ _ _ _ _ us hl=>match us,hl with|[_],_=>rfl) (fun vs H Q E h=>?_) (fun f cdv A outer s H vs Q E hr h=>?_)
 .exact En mT h
 .have hu:=hr.units;exact⟨_,(al (aM (Bp PySem.F.plainAttrs_list PySem.F.slot_list_pop PySem.F.type_list_pop Bq (pv 0)))),fnR (K:=K) (c:=aJ) (ps:=ib) (N:=["_law_deck_here"]) (aL (BY (i:=0))) (fun p ds Q h=>le_trans (le_of_eq (mT p ds Q h)) (by decide)) sk h⟩
theorem kY:∀ds Q,aB ds Q->ds.length=1:=fun ds Q h=>by unfold aB at h;split at h;(first|rfl|exact h.elim);(first|rfl|exact h.elim)
theorem rd(D:cm K mg "_law_whole" jJ)(T:Txt mg)(TX:TxX K mg):uH P w K mg base 1 "_law_whole" ["_law_found"] (spP K aB):=by
 refine D.okN qG (fun _ _ _ _ _ _ us hl=>match us,hl with|[_],_=>rfl) (fun vs H Q E h=>?_) (fun f cdv A outer s H vs Q E hr h=>?_)
 .exact jh kY h
 .have hu:=hr.units;exact⟨_,(al (aM (f8 (ap (nr K rfl) rfl T.b_isinstance boot_isinstance (paC (pv 0) (paC (dM (v:=.ty "int") rfl T.b_int boot_int rfl) ai))) (ii (yl (ap (nr K rfl) rfl T.b_isinstance boot_isinstance (paC (pv 0) (paC (dM (v:=.ty "bool") rfl T.b_bool boot_bool rfl) ai)))))))),fnP (K:=K) (c:=aB) (ps:=fN) (N:=["_law_found"]) (aL (fB (jg .int (ak (i:=0))) (yt (jg .bool (ak (i:=0)))))) (fun ds Q h=>le_trans (le_of_eq (kY ds Q h)) (by decide)) qR h⟩
theorem mU:∀ds Q,bq ds Q->ds.length=1:=fun ds Q h=>by unfold bq at h;split at h;(first|rfl|exact h.elim);(first|rfl|exact h.elim)
theorem sA(D:cm K mg "_law_word" kr)(T:Txt mg)(TX:TxX K mg):uH P w K mg base 1 "_law_word" ["_law_error"] (spP K bq):=by
 refine D.okN bp (fun _ _ _ _ _ _ us hl=>match us,hl with|[_],_=>rfl) (fun vs H Q E h=>?_) (fun f cdv A outer s H vs Q E hr h=>?_)
 .exact jh mU h
 .have hu:=hr.units;exact⟨_,(aj (aY (i:=1) bp.nd rfl (by walk_at "o") (aU (l:=[]) (by decide +kernel))) (aj (cN (bU (aW (ap (jE K rfl) rfl T.b_isinstance boot_isinstance (paC (pv 0) (paC (di TX.m'b) ai)))) (al (aY (i:=1) bp.nd rfl (by walk_at "o") (aP (br K rfl) (pv 1) (aU (l:=[84,111,111,77,97,110,121,32]) (by decide +kernel))))) aD)) (aj (cN (bU (aW (ap (jE K rfl) rfl T.b_isinstance boot_isinstance (paC (pv 0) (paC (di TX.m'c) ai)))) (al (aY (i:=1) bp.nd rfl (by walk_at "o") (aP (br K rfl) (pv 1) (aU (l:=[78,111,80,105,101,99,101,32]) (by decide +kernel))))) aD)) (aj (cN (bU (aW (ap (jE K rfl) rfl T.b_isinstance boot_isinstance (paC (pv 0) (paC (di TX.m'd) ai)))) (al (aY (i:=1) bp.nd rfl (by walk_at "o") (aP (br K rfl) (pv 1) (aU (l:=[78,111,76,97,112,32]) (by decide +kernel))))) aD)) (aj (cN (bU (aW (ap (jE K rfl) rfl T.b_isinstance boot_isinstance (paC (pv 0) (paC (di TX.m'e) ai)))) (al (aY (i:=1) bp.nd rfl (by walk_at "o") (aP (br K rfl) (pv 1) (aU (l:=[78,111,79,114,100,101,114,32]) (by decide +kernel))))) aD)) (aj (cN (bU (aW (ap (jE K rfl) rfl T.b_isinstance boot_isinstance (paC (pv 0) (paC (di TX.m'f) ai)))) (al (aY (i:=1) bp.nd rfl (by walk_at "o") (aP (br K rfl) (pv 1) (aU (l:=[78,111,116,72,101,108,100,32]) (by decide +kernel))))) aD)) (aj (cN (bU (aW (ap (jE K rfl) rfl T.b_isinstance boot_isinstance (paC (pv 0) (paC (di TX.m'g) ai)))) (al (aY (i:=1) bp.nd rfl (by walk_at "o") (aP (br K rfl) (pv 1) (aU (l:=[78,111,84,97,98,108,101,32]) (by decide +kernel))))) aD)) (aj (cN (bU (aW (ap (jE K rfl) rfl T.b_isinstance boot_isinstance (paC (pv 0) (paC (di TX.m'h) ai)))) (al (aY (i:=1) bp.nd rfl (by walk_at "o") (aP (br K rfl) (pv 1) (aU (l:=[78,111,82,105,110,103,32]) (by decide +kernel))))) aD)) (aj (cN (bU (aW (ap (jE K rfl) rfl T.b_isinstance boot_isinstance (paC (pv 0) (paC (di TX.m'i) ai)))) (al (aY (i:=1) bp.nd rfl (by walk_at "o") (aP (br K rfl) (pv 1) (aU (l:=[84,111,111,71,114,101,97,116,32]) (by decide +kernel))))) aD)) (aj (cN (bU (aW (ap (jE K rfl) rfl T.b_isinstance boot_isinstance (paC (pv 0) (paC (di TX.m'j) ai)))) (al (aY (i:=1) bp.nd rfl (by walk_at "o") (aP (br K rfl) (pv 1) (aU (l:=[78,111,87,111,114,100,115,32]) (by decide +kernel))))) aD)) (aj (cN (bU (aW (ap (jE K rfl) rfl T.b_isinstance boot_isinstance (paC (pv 0) (paC (di TX.m'k) ai)))) (al (aY (i:=1) bp.nd rfl (by walk_at "o") (aP (br K rfl) (pv 1) (aU (l:=[78,111,116,65,112,97,114,116,32]) (by decide +kernel))))) aD)) (aj (cN (bU (aW (ap (jE K rfl) rfl T.b_isinstance boot_isinstance (paC (pv 0) (paC (di TX.m'l) ai)))) (al (aY (i:=1) bp.nd rfl (by walk_at "o") (aP (br K rfl) (pv 1) (aU (l:=[78,111,67,111,117,110,116,115,32]) (by decide +kernel))))) aD)) (aj (cN (bU (aW (ap (jE K rfl) rfl T.b_isinstance boot_isinstance (paC (pv 0) (paC (di TX.m'm) ai)))) (al (aY (i:=1) bp.nd rfl (by walk_at "o") (aP (br K rfl) (pv 1) (aU (l:=[78,111,116,67,111,118,101,114,101,100,32]) (by decide +kernel))))) aD)) (aj (cN (bU (PW.pt (gD (aW (ap (jE K rfl) rfl T.b_isinstance boot_isinstance (paC (pv 0) (paC (di TX.m'n) ai)))) (gD (aW (ap (jE K rfl) rfl T.b_isinstance boot_isinstance (paC (pv 0) (paC (di TX.m'o) ai)))) (f7 (aW (ap (jE K rfl) rfl T.b_isinstance boot_isinstance (paC (pv 0) (paC (di TX.m'p) ai)))))))) (al (aY (i:=1) bp.nd rfl (by walk_at "o") (aP (br K rfl) (pv 1) (aU (l:=[111,116,104,101,114,32]) (by decide +kernel))))) aD)) (aj (cN (bU (cE (aW (ap (DI K rfl) rfl T.b_isinstance boot_isinstance (paC (pv 0) (paC (dM (v:=.ty "ValueError") rfl T.b_ValueError PyProof.Rows.Boot.«ValueError» rfl) ai))))) (al (aY (i:=1) bp.nd rfl (by walk_at "o") (aP (br K rfl) (pv 1) (aU (l:=[110,111,110,101]) (by decide +kernel))))) aD)) (al (aM (pv 1)))))))))))))))))),fnP (K:=K) (c:=bq) (ps:=ic) (N:=["_law_error","_law_found"]) (ay (aR (le_str (l:=[])) (aE (i:=1) rfl)) (ay (cO (b6 (fA (e8 (d:="TooMany") TX.all (by first|exact Or.inr rfl|exact Or.inl (contains_iff_mem.mp (by decide +kernel))) (ak (i:=0)))) (aR (aq aV (ak (i:=1)) (af (le_str (l:=[84,111,111,77,97,110,121,32])))) (aE (i:=1) rfl)) aK)) (ay (cO (b6 (fA (e8 (d:="NoPiece") TX.all (by first|exact Or.inr rfl|exact Or.inl (contains_iff_mem.mp (by decide +kernel))) (ak (i:=0)))) (aR (aq aV (ak (i:=1)) (af (le_str (l:=[78,111,80,105,101,99,101,32])))) (aE (i:=1) rfl)) aK)) (ay (cO (b6 (fA (e8 (d:="NoLap") TX.all (by first|exact Or.inr rfl|exact Or.inl (contains_iff_mem.mp (by decide +kernel))) (ak (i:=0)))) (aR (aq aV (ak (i:=1)) (af (le_str (l:=[78,111,76,97,112,32])))) (aE (i:=1) rfl)) aK)) (ay (cO (b6 (fA (e8 (d:="NoOrder") TX.all (by first|exact Or.inr rfl|exact Or.inl (contains_iff_mem.mp (by decide +kernel))) (ak (i:=0)))) (aR (aq aV (ak (i:=1)) (af (le_str (l:=[78,111,79,114,100,101,114,32])))) (aE (i:=1) rfl)) aK)) (ay (cO (b6 (fA (e8 (d:="NotHeld") TX.all (by first|exact Or.inr rfl|exact Or.inl (contains_iff_mem.mp (by decide +kernel))) (ak (i:=0)))) (aR (aq aV (ak (i:=1)) (af (le_str (l:=[78,111,116,72,101,108,100,32])))) (aE (i:=1) rfl)) aK)) (ay (cO (b6 (fA (e8 (d:="NoTable") TX.all (by first|exact Or.inr rfl|exact Or.inl (contains_iff_mem.mp (by decide +kernel))) (ak (i:=0)))) (aR (aq aV (ak (i:=1)) (af (le_str (l:=[78,111,84,97,98,108,101,32])))) (aE (i:=1) rfl)) aK)) (ay (cO (b6 (fA (e8 (d:="NoRing") TX.all (by first|exact Or.inr rfl|exact Or.inl (contains_iff_mem.mp (by decide +kernel))) (ak (i:=0)))) (aR (aq aV (ak (i:=1)) (af (le_str (l:=[78,111,82,105,110,103,32])))) (aE (i:=1) rfl)) aK)) (ay (cO (b6 (fA (e8 (d:="TooGreat") TX.all (by first|exact Or.inr rfl|exact Or.inl (contains_iff_mem.mp (by decide +kernel))) (ak (i:=0)))) (aR (aq aV (ak (i:=1)) (af (le_str (l:=[84,111,111,71,114,101,97,116,32])))) (aE (i:=1) rfl)) aK)) (ay (cO (b6 (fA (e8 (d:="NoWords") TX.all (by first|exact Or.inr rfl|exact Or.inl (contains_iff_mem.mp (by decide +kernel))) (ak (i:=0)))) (aR (aq aV (ak (i:=1)) (af (le_str (l:=[78,111,87,111,114,100,115,32])))) (aE (i:=1) rfl)) aK)) (ay (cO (b6 (fA (e8 (d:="NotApart") TX.all (by first|exact Or.inr rfl|exact Or.inl (contains_iff_mem.mp (by decide +kernel))) (ak (i:=0)))) (aR (aq aV (ak (i:=1)) (af (le_str (l:=[78,111,116,65,112,97,114,116,32])))) (aE (i:=1) rfl)) aK)) (ay (cO (b6 (fA (e8 (d:="NoCounts") TX.all (by first|exact Or.inr rfl|exact Or.inl (contains_iff_mem.mp (by decide +kernel))) (ak (i:=0)))) (aR (aq aV (ak (i:=1)) (af (le_str (l:=[78,111,67,111,117,110,116,115,32])))) (aE (i:=1) rfl)) aK)) (ay (cO (b6 (fA (e8 (d:="NotCovered") TX.all (by first|exact Or.inr rfl|exact Or.inl (contains_iff_mem.mp (by decide +kernel))) (ak (i:=0)))) (aR (aq aV (ak (i:=1)) (af (le_str (l:=[78,111,116,67,111,118,101,114,101,100,32])))) (aE (i:=1) rfl)) aK)) (ay (cO (b6 (gJ (fA (e8 (d:="NoLine") TX.all (by first|exact Or.inr rfl|exact Or.inl (contains_iff_mem.mp (by decide +kernel))) (ak (i:=0)))) (gJ (fA (e8 (d:="NoPaper") TX.all (by first|exact Or.inr rfl|exact Or.inl (contains_iff_mem.mp (by decide +kernel))) (ak (i:=0)))) (fA (e8 (d:="NotTold") TX.all (by first|exact Or.inr rfl|exact Or.inl (contains_iff_mem.mp (by decide +kernel))) (ak (i:=0)))))) (aR (aq aV (ak (i:=1)) (af (le_str (l:=[111,116,104,101,114,32])))) (aE (i:=1) rfl)) aK)) (ay (cO (b6 (cF (fA (Cf TX.all (ak (i:=0))))) (aR (aq aV (ak (i:=1)) (af (le_str (l:=[110,111,110,101])))) (aE (i:=1) rfl)) aK)) (aL (au (i:=1)))))))))))))))))) (fun ds Q h=>le_trans (le_of_eq (mU ds Q h)) (by decide)) sm h⟩
theorem jr:∀ds Q,bj ds Q->ds.length=3:=fun ds Q h=>by unfold bj at h;split at h;(first|rfl|exact h.elim);(first|rfl|exact h.elim)
theorem nJ(D:cm K mg "_law_spelled" gU)(T:Txt mg)(TX:TxX K mg):Cal P w K mg base 1 "_law_spelled" ["_law_number","_law_letters","_law_most"] (spP K bj):=by
 refine D.ok dS (fun _ _ _ _ _ _ us hl=>match us,hl with|[_,_,_],_=>rfl) (fun vs H Q E h=>?_) (fun f cdv A outer s H vs Q E hr h=>?_)
 .exact jh jr h
 .have hu:=hr.units;exact⟨_,(aj (aY (i:=3) dS.nd rfl (by walk_at "o") (aU (l:=[]) (by decide +kernel))) (aj (sF PassesOwn.never (PW.pt (lH (ba AU (pv 0) aw (aZ _)) (jw (ba yv (ap (cC K rfl) rfl T.b_len PySem.boot_len (paC (pv 3) ai)) (pv 2) (aZ _))))) (aj (aY (i:=3) dS.nd rfl (by walk_at "o") (aP (br K rfl) (pv 3) (bH (du K rfl) (pv 1) (aP eS (pv 0) (ap (cC K rfl) rfl T.b_len PySem.boot_len (paC (pv 1) ai))) (fun _ _=>rfl)))) (al (aY (i:=0) dS.nd rfl (by walk_at "o") (aP sU (pv 0) (ap (cC K rfl) rfl T.b_len PySem.boot_len (paC (pv 1) ai))))))) (al (aM (pv 3))))),fnP (K:=K) (c:=bj) (ps:=dY) (N:=["_law_number","_law_letters","_law_most","_law_found"]) (ay (aR (le_str (l:=[])) (aE (i:=3) rfl)) (ay (xv (lM (gk (aq ue (ak (i:=0)) (af le_int))) (gk (aq qk (af (bv bC (ae (ak (i:=3)) ah))) (ak (i:=2))))) (ay (aR (aq aV (ak (i:=3)) (af (aq bI (ak (i:=1)) (af (aq cP (ak (i:=0)) (af (bv bC (ae (ak (i:=1)) ah)))))))) (aE (i:=3) rfl)) (aR (aq oK (ak (i:=0)) (af (bv bC (ae (ak (i:=1)) ah)))) (aE (i:=0) rfl)))) (aL (au (i:=3))))) (fun ds Q h=>le_trans (le_of_eq (jr ds Q h)) (by decide)) nB h⟩
theorem j9:∀ds Q,bS ds Q->ds.length=2:=fun ds Q h=>by unfold bS at h;split at h;(first|rfl|exact h.elim);(first|rfl|exact h.elim)
theorem pL(D:cm K mg "_law_gapped" iL)(T:Txt mg)(TX:TxX K mg):Cal P w K mg base 1 "_law_gapped" ["_law_piece","_law_number"] (spP K bS):=by
 refine D.ok cW (fun _ _ _ _ _ _ us hl=>match us,hl with|[_,_],_=>rfl) (fun vs H Q E h=>?_) (fun f cdv A outer s H vs Q E hr h=>?_)
 .exact jh j9 h
 .have hu:=hr.units;exact⟨_,(aj (aY (i:=2) cW.nd rfl (by walk_at "o") (aU (l:=[]) (by decide +kernel))) (aj (et PassesOwn.never rfl (eM K rfl (pv 0)) (aS (i:=3) cW.nd rfl (by walk_at "o")) (aj (cN (bU (ba (iH K rfl hu) (aP eS (pv 1) aw) aw (aZ _)) (al (aY (i:=3) cW.nd rfl (by walk_at "o") (aU (l:=[63]) (by decide +kernel)))) aD)) (aj (aY (i:=1) cW.nd rfl (by walk_at "o") (aP sU (pv 1) aw)) (al (aY (i:=2) cW.nd rfl (by walk_at "o") (aP (br K rfl) (pv 2) (pv 3))))))) (al (aM (pv 2))))),fnP (K:=K) (c:=bS) (ps:=eU) (N:=["_law_piece","_law_number","_law_found","_law_sign"]) (ay (aR (le_str (l:=[])) (aE (i:=2) rfl)) (ay (eO (eN (au (i:=0))) (aG (i:=3) rfl) (ay (cO (b6 (gk (aq eA (af (aq cP (ak (i:=1)) (af le_int))) (af le_int))) (aR (le_str (l:=[63])) (aE (i:=3) rfl)) aK)) (ay (aR (aq oK (ak (i:=1)) (af le_int)) (aE (i:=1) rfl)) (aR (aq aV (ak (i:=2)) (ak (i:=3))) (aE (i:=2) rfl))))) (aL (au (i:=2))))) (fun ds Q h=>le_trans (le_of_eq (j9 ds Q h)) (by decide)) pI h⟩
theorem kZ:∀p ds Q,cq p ds Q->ds.length+1=2:=fun p ds Q h=>by unfold cq at h;split at h;(first|rfl|exact h.elim);(first|rfl|exact h.elim)
theorem re(D:cm K mg "_law_built" jK)(T:Txt mg)(TX:TxX K mg)(C'20:Cal P w K mg base 1 "_law_gapped" ["_law_piece","_law_number"] (spP K bS))(C'16:Cal P w K mg base 1 "_law_next" ["_law_deck_here"] (spR K aJ))(C'19:Cal P w K mg base 1 "_law_spelled" ["_law_number","_law_letters","_law_most"] (spP K bj)):Cal P w K mg base 2 "_law_built" ["_law_deck_here","_law_whole_here"] (spR K cq):=by
 refine D.ok bX (fun _ _ _ _ _ _ us hl=>match us,hl with|[_,_],_=>rfl) (fun vs H Q E h=>?_) (fun f cdv A outer s H vs Q E hr h=>?_)
 .exact En kZ h
 .have hu:=hr.units;exact⟨_,(aj (aY (i:=2) bX.nd rfl (by walk_at "o") (bH (du K rfl) (dy (paC (aU (l:=[97,98]) (by decide +kernel)) (paC (aU (l:=[97,98]) (by decide +kernel)) (paC (aU (l:=[97,98,99]) (by decide +kernel)) ai)))) (aP eS (aF C'16 (hr.mono (by decide)) (paC (pv 0) ai)) aw) (fun _ _=>rfl))) (aj (aY (i:=3) bX.nd rfl (by walk_at "o") (aF C'19 (hr.mono (by decide)) (paC (aP (br K rfl) (aF C'16 (hr.mono (by decide)) (paC (pv 0) ai)) (aP vK aw aw)) (paC (pv 2) (paC aw ai))))) (aj (aY (i:=3) bX.nd rfl (by walk_at "o") (aP (br K rfl) (pv 3) (aF C'19 (hr.mono (by decide)) (paC (aP (br K rfl) (aF C'16 (hr.mono (by decide)) (paC (pv 0) ai)) (aP vK aw aw)) (paC (pv 2) (paC aw ai)))))) (aj (aY (i:=3) bX.nd rfl (by walk_at "o") (eP (xt K rfl) (pv 3) jy (eW (bH (du K rfl) (dy (paC aw (paC aw (paC aw (paC aw (paC aw (paC aw ai))))))) (aP eS (aF C'16 (hr.mono (by decide)) (paC (pv 0) ai)) aw) (fun _ _=>rfl))))) (aj (aY (i:=4) bX.nd rfl (by walk_at "o") (dy ai)) (aj (et PassesOwn.never rfl (dw rfl T.b_range (paC (aP (br K rfl) aw (aP eS (aF C'16 (hr.mono (by decide)) (paC (pv 0) ai)) aw)) ai)) (aS (i:=5) bX.nd rfl (by walk_at "o")) (aj (aY (i:=6) bX.nd rfl (by walk_at "o") (aF C'16 (hr.mono (by decide)) (paC (pv 0) ai))) (aj (aY (i:=7) bX.nd rfl (by walk_at "o") (aP eS (pv 6) (aP (br K rfl) (ap (cC K rfl) rfl T.b_len PySem.boot_len (paC (pv 3) ai)) aw))) (aj (aY (i:=8) bX.nd rfl (by walk_at "o") (eP (xt K rfl) (pv 3) (eW (pv 7)) (eW (aP (br K rfl) (aP (br K rfl) (pv 7) aw) (aP eS (aP sU (pv 6) aw) aw))))) (aj (cN (bU (ba (iH K rfl hu) (pv 7) (ap (cC K rfl) rfl T.b_len PySem.boot_len (paC (pv 3) ai)) (aZ _)) (al (aY (i:=8) bX.nd rfl (by walk_at "o") (aU (l:=[97]) (by decide +kernel)))) aD)) (al (cR (jS K rfl PySem.F.plainAttrs_list PySem.F.slot_list_append PySem.F.type_list_append eX (pv 4) (paC (aF C'20 (hr.mono (by decide)) (paC (pv 8) (paC (aP sU (pv 6) aw) ai))) ai))))))))) (aj (cN (bU (aW (pv 1)) (aj (cR (jS K rfl PySem.F.plainAttrs_list PySem.F.slot_list_append PySem.F.type_list_append eX (pv 4) (paC (bH (du K rfl) (dy (paC (aU (l:=[97,98,63]) (by decide +kernel)) (paC (aU (l:=[63]) (by decide +kernel)) (paC (aU (l:=[97,63]) (by decide +kernel)) (paC (aU (l:=[63,63]) (by decide +kernel)) ai))))) (aP eS (aF C'16 (hr.mono (by decide)) (paC (pv 0) ai)) aw) (fun _ _=>rfl)) ai))) (al (cR (jS K rfl PySem.F.plainAttrs_list PySem.F.slot_list_insert PySem.F.type_list_insert lT (pv 4) (paC (aP eS (aF C'16 (hr.mono (by decide)) (paC (pv 0) ai)) (ap (cC K rfl) rfl T.b_len PySem.boot_len (paC (pv 4) ai))) (paC (aP jT (aU (l:=[63]) (by decide +kernel)) (aP (br K rfl) aw (aP eS (aF C'16 (hr.mono (by decide)) (paC (pv 0) ai)) aw))) ai)))))) aD)) (al (aM (fu (paC (pv 3) (paC (pv 4) ai)))))))))))),fnR (K:=K) (c:=cq) (ps:=fO) (N:=["_law_deck_here","_law_whole_here","_law_letters","_law_text","_law_pieces","_law_k","_law_number","_law_at","_law_piece"]) (ay (aR (aq bI (af (dz (ae (af (le_str (l:=[97,98]))) (ae (af (le_str (l:=[97,98]))) (ae (af (le_str (l:=[97,98,99]))) ah))))) (af (aq cP (af (cb (i:=0) ah)) (af le_int)))) (aE (i:=2) rfl)) (ay (aR (aC (c:=bj) (ae (af (aq aV (af (cb (i:=0) ah)) (af (aq qj (af le_int) (af le_int))))) (ae (af (au (i:=2))) (ae (af le_int) ah)))) (aE (i:=3) rfl)) (ay (aR (aq aV (ak (i:=3)) (af (aC (c:=bj) (ae (af (aq aV (af (cb (i:=0) ah)) (af (aq qj (af le_int) (af le_int))))) (ae (af (au (i:=2))) (ae (af le_int) ah)))))) (aE (i:=3) rfl)) (ay (aR (eQ (ak (i:=3)) gK (dA (aq bI (af (dz (ae (af le_int) (ae (af le_int) (ae (af le_int) (ae (af le_int) (ae (af le_int) (ae (af le_int) ah)))))))) (af (aq cP (af (cb (i:=0) ah)) (af le_int)))))) (aE (i:=3) rfl)) (ay (aR (dz ah) (aE (i:=4) rfl)) (ay (eO (oM (ae (af (aq aV (af le_int) (af (aq cP (af (cb (i:=0) ah)) (af le_int))))) ah)) (aG (i:=5) rfl) (ay (aR (cb (i:=0) ah) (aE (i:=6) rfl)) (ay (aR (aq cP (ak (i:=6)) (af (aq aV (af (bv bC (ae (ak (i:=3)) ah))) (af le_int)))) (aE (i:=7) rfl)) (ay (aR (eQ (ak (i:=3)) (dA (au (i:=7))) (dA (aq aV (af (aq aV (ak (i:=7)) (af le_int))) (af (aq cP (af (aq oK (ak (i:=6)) (af le_int))) (af le_int)))))) (aE (i:=8) rfl)) (ay (cO (b6 (gk (aq eA (ak (i:=7)) (af (bv bC (ae (ak (i:=3)) ah))))) (aR (le_str (l:=[97])) (aE (i:=8) rfl)) aK)) (gL (nU (i:=4) (aC (c:=bS) (ae (af (au (i:=8))) (ae (af (aq oK (ak (i:=6)) (af le_int))) ah)))))))))) (ay (cO (b6 (fA (au (i:=1))) (ay (gL (nU (i:=4) (aq bI (af (dz (ae (af (le_str (l:=[97,98,63]))) (ae (af (le_str (l:=[63]))) (ae (af (le_str (l:=[97,63]))) (ae (af (le_str (l:=[63,63]))) ah)))))) (af (aq cP (af (cb (i:=0) ah)) (af le_int)))))) (gL (lV (i:=4) (aq cP (af (cb (i:=0) ah)) (af (bv bC (ae (ak (i:=4)) ah)))) (aq fC (af (le_str (l:=[63]))) (af (aq aV (af le_int) (af (aq cP (af (cb (i:=0) ah)) (af le_int))))))))) aK)) (aL (gj (ae (af (au (i:=3))) (ae (af (au (i:=4))) ah))))))))))) (fun p ds Q h=>le_trans (le_of_eq (kZ p ds Q h)) (by decide)) qT h⟩
theorem mW:∀ds Q,bQ ds Q->ds.length=3:=fun ds Q h=>by unfold bQ at h;split at h;(first|rfl|exact h.elim);(first|rfl|exact h.elim)
theorem sB(D:cm K mg "_law_fits" kt)(T:Txt mg)(TX:TxX K mg):Cal P w K mg base 1 "_law_fits" ["_law_text","_law_piece","_law_place"] (spP K bQ):=by
 refine D.ok ma (fun _ _ _ _ _ _ us hl=>match us,hl with|[_,_,_],_=>rfl) (fun vs H Q E h=>?_) (fun f cdv A outer s H vs Q E hr h=>?_)
 .exact jh mW h
 .have hu:=hr.units;exact⟨_,(aj (bU (PW.pt (gD (ba yv (pv 2) aw (aZ _)) (f7 (ba AU (aP (br K rfl) (pv 2) (ap (cC K rfl) rfl T.b_len PySem.boot_len (paC (pv 1) ai))) (ap (cC K rfl) rfl T.b_len PySem.boot_len (paC (pv 0) ai)) (aZ _))))) (al (aM cJ)) aD) (aj (et PassesOwn.never rfl (dw rfl T.b_range (paC (ap (cC K rfl) rfl T.b_len PySem.boot_len (paC (pv 1) ai)) ai)) (aS (i:=3) ma.nd rfl (by walk_at "o")) (al (bU (PW.pt (lH (ba (jX K rfl hu) (bH (du K rfl) (pv 1) (pv 3) (fun _ _=>rfl)) (aU (l:=[63]) (by decide +kernel)) (aZ _)) (jw (ba (jX K rfl hu) (bH (du K rfl) (pv 1) (pv 3) (fun _ _=>rfl)) (bH (du K rfl) (pv 0) (aP (br K rfl) (pv 2) (pv 3)) (fun _ _=>rfl)) (aZ _))))) (al (aM cJ)) aD))) (al (aM cJ)))),fnP (K:=K) (c:=bQ) (ps:=ie) (N:=["_law_text","_law_piece","_law_place","_law_k"]) (ay (b6 (gJ (gk (aq qk (ak (i:=2)) (af le_int))) (gk (aq ue (af (aq aV (ak (i:=2)) (af (bv bC (ae (ak (i:=1)) ah))))) (af (bv bC (ae (ak (i:=0)) ah)))))) (aL cL) aK) (ay (eO (oM (ae (af (bv bC (ae (ak (i:=1)) ah))) ah)) (aG (i:=3) rfl) (b6 (lM (gk (aq fF (af (aq bI (ak (i:=1)) (ak (i:=3)))) (af (le_str (l:=[63]))))) (gk (aq fF (af (aq bI (ak (i:=1)) (ak (i:=3)))) (af (aq bI (ak (i:=0)) (af (aq aV (ak (i:=2)) (ak (i:=3))))))))) (aL cL) aK)) (aL cL))) (fun ds Q h=>le_trans (le_of_eq (mW ds Q h)) (by decide)) sr h⟩
theorem js:∀ds Q,bJ ds Q->ds.length=2:=fun ds Q h=>by unfold bJ at h;split at h;(first|rfl|exact h.elim);(first|rfl|exact h.elim)
theorem nK(D:cm K mg "_law_members" gW)(T:Txt mg)(TX:TxX K mg)(C'22:Cal P w K mg base 1 "_law_fits" ["_law_text","_law_piece","_law_place"] (spP K bQ)):Cal P w K mg base 2 "_law_members" ["_law_text","_law_pieces"] (spP K bJ):=by
 refine D.ok dU (fun _ _ _ _ _ _ us hl=>match us,hl with|[_,_],_=>rfl) (fun vs H Q E h=>?_) (fun f cdv A outer s H vs Q E hr h=>?_)
 .exact jh js h
 .have hu:=hr.units;exact⟨_,(aj (aY (i:=2) dU.nd rfl (by walk_at "o") (dy ai)) (aj (et PassesOwn.never rfl (dw rfl T.b_range (paC (ap (cC K rfl) rfl T.b_len PySem.boot_len (paC (pv 1) ai)) ai)) (aS (i:=3) dU.nd rfl (by walk_at "o")) (al (et PassesOwn.never rfl (dw rfl T.b_range (paC (ap (cC K rfl) rfl T.b_len PySem.boot_len (paC (pv 0) ai)) ai)) (aS (i:=4) dU.nd rfl (by walk_at "o")) (al (bU (aW (aF C'22 (hr.mono (by decide)) (paC (pv 0) (paC (bH (du K rfl) (pv 1) (pv 3) (fun _ _=>rfl)) (paC (pv 4) ai))))) (al (cR (jS K rfl PySem.F.plainAttrs_list PySem.F.slot_list_append PySem.F.type_list_append eX (pv 2) (paC (fu (paC (pv 4) (paC (pv 3) ai))) ai)))) aD))))) (al (aM (pv 2))))),fnP (K:=K) (c:=bJ) (ps:=dZ) (N:=["_law_text","_law_pieces","_law_found","_law_index","_law_place"]) (ay (aR (dz ah) (aE (i:=2) rfl)) (ay (eO (oM (ae (af (bv bC (ae (ak (i:=1)) ah))) ah)) (aG (i:=3) rfl) (eO (oM (ae (af (bv bC (ae (ak (i:=0)) ah))) ah)) (aG (i:=4) rfl) (b6 (fA (aC (c:=bQ) (ae (af (au (i:=0))) (ae (af (aq bI (ak (i:=1)) (ak (i:=3)))) (ae (af (au (i:=4))) ah))))) (gL (nU (i:=2) (gj (ae (af (au (i:=4))) (ae (af (au (i:=3))) ah))))) aK))) (aL (au (i:=2))))) (fun ds Q h=>le_trans (le_of_eq (js ds Q h)) (by decide)) nE h⟩
theorem jt:∀ds Q,bK ds Q->ds.length=5:=fun ds Q h=>by unfold bK at h;split at h;(first|rfl|exact h.elim);(first|rfl|exact h.elim)
theorem nL(D:cm K mg "_law_is_best" gX)(T:Txt mg)(TX:TxX K mg)(C'22:Cal P w K mg base 1 "_law_fits" ["_law_text","_law_piece","_law_place"] (spP K bQ)):Cal P w K mg base 2 "_law_is_best" ["_law_text","_law_pieces","_law_members_here","_law_row","_law_mark"] (spP K bK):=by
 refine D.ok cu (fun _ _ _ _ _ _ us hl=>match us,hl with|[_,_,_,_,_],_=>rfl) (fun vs H Q E h=>?_) (fun f cdv A outer s H vs Q E hr h=>?_)
 .exact jh jt h
 .have hu:=hr.units;exact⟨_,(aj (sE (pv 3) (ip K rfl (n:=2) rfl (bF (aS (i:=5) cu.nd rfl (by walk_at "o")) (bF (aS (i:=6) cu.nd rfl (by walk_at "o")) eE)))) (aj (aY (i:=7) cu.nd rfl (by walk_at "o") (aP (br K rfl) (pv 5) (ap (cC K rfl) rfl T.b_len PySem.boot_len (paC (bH (du K rfl) (pv 1) (pv 6) (fun _ _=>rfl)) ai)))) (aj (bU (PW.pt (gD (cE (aW (aF C'22 (hr.mono (by decide)) (paC (pv 0) (paC (bH (du K rfl) (pv 1) (pv 6) (fun _ _=>rfl)) (paC (pv 5) ai)))))) (gD (ba AU (pv 5) (pv 4) (aZ _)) (f7 (ba Cb (pv 4) (pv 7) (aZ _)))))) (al (aM cJ)) aD) (aj (et PassesOwn.never rfl (eM K rfl (pv 2)) (ip K rfl (n:=2) rfl (bF (aS (i:=8) cu.nd rfl (by walk_at "o")) (bF (aS (i:=9) cu.nd rfl (by walk_at "o")) eE))) (aj (aY (i:=10) cu.nd rfl (by walk_at "o") (aP (br K rfl) (pv 8) (ap (cC K rfl) rfl T.b_len PySem.boot_len (paC (bH (du K rfl) (pv 1) (pv 9) (fun _ _=>rfl)) ai)))) (al (bU (PW.pt (lH (ba uD (pv 8) (pv 4) (aZ _)) (jw (PW.pt (gD (ba AU (pv 10) (pv 7) (aZ _)) (f7 (PW.pt (lH (ba (iH K rfl hu) (pv 10) (pv 7) (aZ _)) (jw (ba yv (pv 9) (pv 6) (aZ _))))))))))) (al (aM cJ)) aD)))) (al (aM cJ)))))),fnP (K:=K) (c:=bK) (ps:=eh) (N:=["_law_text","_law_pieces","_law_members_here","_law_row","_law_mark","_law_place","_law_index","_law_end","_law_other","_law_number","_law_there"]) (ay (aR (au (i:=3)) (vU (bG (aG (i:=5) rfl) (bG (aG (i:=6) rfl) eG)))) (ay (aR (aq aV (ak (i:=5)) (af (bv bC (ae (af (aq bI (ak (i:=1)) (ak (i:=6)))) ah)))) (aE (i:=7) rfl)) (ay (b6 (gJ (cF (fA (aC (c:=bQ) (ae (af (au (i:=0))) (ae (af (aq bI (ak (i:=1)) (ak (i:=6)))) (ae (af (au (i:=5))) ah)))))) (gJ (gk (aq ue (ak (i:=5)) (ak (i:=4)))) (gk (aq vE (ak (i:=4)) (ak (i:=7)))))) (aL cL) aK) (ay (eO (eN (au (i:=2))) (gO (bG (aG (i:=8) rfl) (bG (aG (i:=9) rfl) eG))) (ay (aR (aq aV (ak (i:=8)) (af (bv bC (ae (af (aq bI (ak (i:=1)) (ak (i:=9)))) ah)))) (aE (i:=10) rfl)) (b6 (lM (gk (aq k9 (ak (i:=8)) (ak (i:=4)))) (gJ (gk (aq ue (ak (i:=10)) (ak (i:=7)))) (lM (gk (aq eA (ak (i:=10)) (ak (i:=7)))) (gk (aq qk (ak (i:=9)) (ak (i:=6))))))) (aL cL) aK))) (aL cL))))) (fun ds Q h=>le_trans (le_of_eq (jt ds Q h)) (by decide)) nF h⟩
theorem k6:∀ds Q,cj ds Q->ds.length=1:=fun ds Q h=>by unfold cj at h;split at h;(first|rfl|exact h.elim);(first|rfl|exact h.elim)
theorem rf(D:cm K mg "_law_kinds" jL)(T:Txt mg)(TX:TxX K mg)(C'17:uH P w K mg base 1 "_law_whole" ["_law_found"] (spP K aB)):Cal P w K mg base 2 "_law_kinds" ["_law_told"] (spP K cj):=by
 refine D.ok kN (fun _ _ _ _ _ _ us hl=>match us,hl with|[_],_=>rfl) (fun vs H Q E h=>?_) (fun f cdv A outer s H vs Q E hr h=>?_)
 .exact jh k6 h
 .have hu:=hr.units;exact⟨_,(aj (bU (PW.pt (gD (cE (aW (ap (nr K rfl) rfl T.b_isinstance boot_isinstance (paC (pv 0) (paC (dM (v:=.ty "tuple") rfl T.b_tuple boot_tuple rfl) ai))))) (f7 (ba (jX K rfl hu) (ap (cC K rfl) rfl T.b_len PySem.boot_len (paC (pv 0) ai)) aw (aZ _))))) (al (aM cJ)) aD) (aj (bU (PW.pt (gD (cE (aW (ap (nr K rfl) rfl T.b_isinstance boot_isinstance (paC (bH (du K rfl) (pv 0) aw (fun _ _=>rfl)) (paC (dM (v:=.ty "tuple") rfl T.b_tuple boot_tuple rfl) ai))))) (gD (cE (aW (ap (nr K rfl) rfl T.b_isinstance boot_isinstance (paC (bH (du K rfl) (pv 0) aw (fun _ _=>rfl)) (paC (dM (v:=.ty "tuple") rfl T.b_tuple boot_tuple rfl) ai))))) (f7 (ba (jX K rfl hu) (ap (cC K rfl) rfl T.b_len PySem.boot_len (paC (bH (du K rfl) (pv 0) aw (fun _ _=>rfl)) ai)) (ap (cC K rfl) rfl T.b_len PySem.boot_len (paC (bH (du K rfl) (pv 0) aw (fun _ _=>rfl)) ai)) (aZ _)))))) (al (aM cJ)) aD) (aj (et PassesOwn.never rfl (eM K rfl (bH (du K rfl) (pv 0) aw (fun _ _=>rfl))) (aS (i:=1) kN.nd rfl (by walk_at "o")) (aj (bU (PW.pt (gD (cE (aW (ap (nr K rfl) rfl T.b_isinstance boot_isinstance (paC (pv 1) (paC (dM (v:=.ty "tuple") rfl T.b_tuple boot_tuple rfl) ai))))) (gD (ba (jX K rfl hu) (ap (cC K rfl) rfl T.b_len PySem.boot_len (paC (pv 1) ai)) aw (aZ _)) (gD (cE (aW (fS C'17 (hr.n.mono (by decide)) (paC (bH (du K rfl) (pv 1) aw (fun _ _=>rfl)) ai)))) (f7 (cE (aW (fS C'17 (hr.n.mono (by decide)) (paC (bH (du K rfl) (pv 1) aw (fun _ _=>rfl)) ai))))))))) (al (aM cJ)) aD) (al (bU (PW.pt (gD (ba yv (bH (du K rfl) (pv 1) aw (fun _ _=>rfl)) aw (aZ _)) (f7 (ba yv (bH (du K rfl) (pv 1) aw (fun _ _=>rfl)) aw (aZ _))))) (al (aM cJ)) aD)))) (al (aM (cS (iH K rfl hu) (eF (wi:=(ug K (tOp (uF K) (dn 0) (tC (V.int 1))))) (g:=(eV 0)) (tts:=(CQ (tB (jx (spP K aB) [] E0 (bR (dn 0) jO))))) (te:=(dn 0)) ["_law_one"] [none] rfl (eM K rfl (bH (du K rfl) (pv 0) aw (fun _ _=>rfl))) (fun _ _ _ _=>⟨(aS (i:=0) (by show List.Nodup (["_law_one"]:List Str);decide +kernel) rfl (by walk_at "o")),(rn (cE (aW (fS C'17 (hr.n.mono (by decide)) (paC (pv 0) ai))))),(pv 0)⟩) (by kernel_rfl)) (dy ai) (aZ _))))))),fnP (K:=K) (c:=cj) (ps:=fP) (N:=["_law_told","_law_row"]) (ay (b6 (gJ (cF (fA (jg .tuple (ak (i:=0))))) (gk (aq fF (af (bv bC (ae (ak (i:=0)) ah))) (af le_int)))) (aL cL) aK) (ay (b6 (gJ (cF (fA (jg .tuple (af (aq bI (ak (i:=0)) (af le_int)))))) (gJ (cF (fA (jg .tuple (af (aq bI (ak (i:=0)) (af le_int)))))) (gk (aq fF (af (bv bC (ae (af (aq bI (ak (i:=0)) (af le_int))) ah))) (af (bv bC (ae (af (aq bI (ak (i:=0)) (af le_int))) ah))))))) (aL cL) aK) (ay (eO (eN (aq bI (ak (i:=0)) (af le_int))) (aG (i:=1) rfl) (ay (b6 (gJ (cF (fA (jg .tuple (ak (i:=1))))) (gJ (gk (aq fF (af (bv bC (ae (ak (i:=1)) ah))) (af le_int))) (gJ (cF (fA (aC (c:=aB) (ae (af (aq bI (ak (i:=1)) (af le_int))) ah)))) (cF (fA (aC (c:=aB) (ae (af (aq bI (ak (i:=1)) (af le_int))) ah))))))) (aL cL) aK) (b6 (gJ (gk (aq qk (af (aq bI (ak (i:=1)) (af le_int))) (af le_int))) (gk (aq qk (af (aq bI (ak (i:=1)) (af le_int))) (af le_int)))) (aL cL) aK))) (aL (aq eA (af (dC (ix:=[none]) rfl (eN (aq bI (ak (i:=0)) (af le_int))) (fun fs hc=>(aG (i:=0) (pO hc (by decide)))) (cF (fA (aC (c:=aB) (ae (af (au (i:=0))) ah)))) (au (i:=0)))) (af (dz ah))))))) (fun ds Q h=>le_trans (le_of_eq (k6 ds Q h)) (by decide)) qV h⟩
theorem ju:∀ds Q,bL ds Q->ds.length=4:=fun ds Q h=>by unfold bL at h;split at h;(first|rfl|exact h.elim);(first|rfl|exact h.elim)
theorem nM(D:cm K mg "_law_is_told" gY)(T:Txt mg)(TX:TxX K mg)(C'24:Cal P w K mg base 2 "_law_is_best" ["_law_text","_law_pieces","_law_members_here","_law_row","_law_mark"] (spP K bK))(C'25:Cal P w K mg base 2 "_law_kinds" ["_law_told"] (spP K cj)):Cal P w K mg base 3 "_law_is_told" ["_law_text","_law_pieces","_law_members_here","_law_told"] (spP K bL):=by
 refine D.ok dW (fun _ _ _ _ _ _ us hl=>match us,hl with|[_,_,_,_],_=>rfl) (fun vs H Q E h=>?_) (fun f cdv A outer s H vs Q E hr h=>?_)
 .exact jh ju h
 .have hu:=hr.units;exact⟨_,(aj (bU (cE (aW (aF C'25 (hr.mono (by decide)) (paC (pv 3) ai)))) (al (aM cJ)) aD) (aj (aY (i:=4) dW.nd rfl (by walk_at "o") aw) (aj (et PassesOwn.never rfl (dw rfl T.b_range (paC (ap (cC K rfl) rfl T.b_len PySem.boot_len (paC (bH (du K rfl) (pv 3) aw (fun _ _=>rfl)) ai)) ai)) (aS (i:=5) dW.nd rfl (by walk_at "o")) (aj (bU (PW.pt (gD (ba Cb (pv 4) (ap (cC K rfl) rfl T.b_len PySem.boot_len (paC (pv 0) ai)) (aZ _)) (gD (ba (jX K rfl hu) (bH (du K rfl) (bH (du K rfl) (pv 3) aw (fun _ _=>rfl)) (pv 5) (fun _ _=>rfl)) (pv 4) (aZ _)) (f7 (ba Cb (bH (du K rfl) (bH (du K rfl) (bH (du K rfl) (pv 3) aw (fun _ _=>rfl)) (pv 5) (fun _ _=>rfl)) aw (fun _ _=>rfl)) (ap (cC K rfl) rfl T.b_len PySem.boot_len (paC (pv 1) ai)) (aZ _)))))) (al (aM cJ)) aD) (aj (bU (cE (aW (aF C'24 (hr.mono (by decide)) (paC (pv 0) (paC (pv 1) (paC (pv 2) (paC (bH (du K rfl) (bH (du K rfl) (pv 3) aw (fun _ _=>rfl)) (pv 5) (fun _ _=>rfl)) (paC (pv 4) ai)))))))) (al (aM cJ)) aD) (al (aY (i:=4) dW.nd rfl (by walk_at "o") (aP (br K rfl) (bH (du K rfl) (bH (du K rfl) (bH (du K rfl) (pv 3) aw (fun _ _=>rfl)) (pv 5) (fun _ _=>rfl)) aw (fun _ _=>rfl)) (ap (cC K rfl) rfl T.b_len PySem.boot_len (paC (bH (du K rfl) (pv 1) (bH (du K rfl) (bH (du K rfl) (bH (du K rfl) (pv 3) aw (fun _ _=>rfl)) (pv 5) (fun _ _=>rfl)) aw (fun _ _=>rfl)) (fun _ _=>rfl)) ai)))))))) (al (aM (cS (iH K rfl hu) (pv 4) (ap (cC K rfl) rfl T.b_len PySem.boot_len (paC (pv 0) ai)) (aZ _))))))),fnP (K:=K) (c:=bL) (ps:=ei) (N:=["_law_text","_law_pieces","_law_members_here","_law_told","_law_mark","_law_k"]) (ay (b6 (cF (fA (aC (c:=cj) (ae (af (au (i:=3))) ah)))) (aL cL) aK) (ay (aR le_int (aE (i:=4) rfl)) (ay (eO (oM (ae (af (bv bC (ae (af (aq bI (ak (i:=3)) (af le_int))) ah))) ah)) (aG (i:=5) rfl) (ay (b6 (gJ (gk (aq vE (ak (i:=4)) (af (bv bC (ae (ak (i:=0)) ah))))) (gJ (gk (aq fF (af (aq bI (af (aq bI (ak (i:=3)) (af le_int))) (ak (i:=5)))) (ak (i:=4)))) (gk (aq vE (af (aq bI (af (aq bI (af (aq bI (ak (i:=3)) (af le_int))) (ak (i:=5)))) (af le_int))) (af (bv bC (ae (ak (i:=1)) ah))))))) (aL cL) aK) (ay (b6 (cF (fA (aC (c:=bK) (ae (af (au (i:=0))) (ae (af (au (i:=1))) (ae (af (au (i:=2))) (ae (af (aq bI (af (aq bI (ak (i:=3)) (af le_int))) (ak (i:=5)))) (ae (af (au (i:=4))) ah)))))))) (aL cL) aK) (aR (aq aV (af (aq bI (af (aq bI (af (aq bI (ak (i:=3)) (af le_int))) (ak (i:=5)))) (af le_int))) (af (bv bC (ae (af (aq bI (ak (i:=1)) (af (aq bI (af (aq bI (af (aq bI (ak (i:=3)) (af le_int))) (ak (i:=5)))) (af le_int))))) ah)))) (aE (i:=4) rfl))))) (aL (aq eA (ak (i:=4)) (af (bv bC (ae (ak (i:=0)) ah)))))))) (fun ds Q h=>le_trans (le_of_eq (ju ds Q h)) (by decide)) nG h⟩
theorem mX:∀ds Q,cA ds Q->ds.length=3:=fun ds Q h=>by unfold cA at h;split at h;(first|rfl|exact h.elim);(first|rfl|exact h.elim)
theorem sC(D:cm K mg "_law_bare" ku)(T:Txt mg)(TX:TxX K mg):Cal P w K mg base 1 "_law_bare" ["_law_text","_law_pieces","_law_members_here"] (spP K cA):=by
 refine D.ok md (fun _ _ _ _ _ _ us hl=>match us,hl with|[_,_,_],_=>rfl) (fun vs H Q E h=>?_) (fun f cdv A outer s H vs Q E hr h=>?_)
 .exact jh mX h
 .have hu:=hr.units;exact⟨_,(aj (et PassesOwn.never rfl (dw rfl T.b_range (paC (ap (cC K rfl) rfl T.b_len PySem.boot_len (paC (pv 0) ai)) ai)) (aS (i:=3) md.nd rfl (by walk_at "o")) (al (bU (ba (iH K rfl hu) (eF (wi:=(ug K (dn 2))) (g:=(eV 0)) (tts:=(CP (uU (tOp AR (tOp (uF K) (dn 0) (tC (V.int 0))) (dn 1))) (uU (tOp CM (dn 1) (tOp (xN K) (tOp (uF K) (dn 0) (tC (V.int 0))) (tCB (uf K) (bR (tOp (uF K) (dn 2) (tOp (uF K) (dn 0) (tC (V.int 1)))) jO))))))) (te:=(dn 0)) ["_law_row","_law_at","_law_pieces"] [none,some 3,some 1] rfl (eM K rfl (pv 2)) (fun _ _ _ _=>⟨(aS (i:=0) (by show List.Nodup (["_law_row","_law_at","_law_pieces"]:List Str);decide +kernel) rfl (by walk_at "o")),(rn (PW.pt (lH (ba uD (bH (du K rfl) (pv 0) aw (fun _ _=>rfl)) (pv 1) (aZ _)) (jw (ba yv (pv 1) (aP (br K rfl) (bH (du K rfl) (pv 0) aw (fun _ _=>rfl)) (ap (cC K rfl) rfl T.b_len PySem.boot_len (paC (bH (du K rfl) (pv 2) (bH (du K rfl) (pv 0) aw (fun _ _=>rfl)) (fun _ _=>rfl)) ai))) (aZ _)))))),(pv 0)⟩) (by kernel_rfl)) (dy ai) (aZ _)) (al (aM (pv 3))) aD))) (al (aM (tQ nO aw)))),fnP (K:=K) (c:=cA) (ps:=ig) (N:=["_law_text","_law_pieces","_law_members_here","_law_at"]) (ay (eO (oM (ae (af (bv bC (ae (ak (i:=0)) ah))) ah)) (aG (i:=3) rfl) (b6 (gk (aq eA (af (dC (ix:=[none,some 3,some 1]) rfl (eN (au (i:=2))) (fun fs hc=>(aG (i:=0) (pO hc (by decide)))) (lM (gk (aq k9 (af (aq bI (ak (i:=0)) (af le_int))) (ak (i:=1)))) (gk (aq qk (ak (i:=1)) (af (aq aV (af (aq bI (ak (i:=0)) (af le_int))) (af (bv bC (ae (af (aq bI (ak (i:=2)) (af (aq bI (ak (i:=0)) (af le_int))))) ah)))))))) (au (i:=0)))) (af (dz ah)))) (aL (au (i:=3))) aK)) (aL (ud nW (af le_int)))) (fun ds Q h=>le_trans (le_of_eq (mX ds Q h)) (by decide)) ss h⟩
theorem fQ:∀ds Q,a9 ds Q->ds.length=3:=fun ds Q h=>by unfold a9 at h;split at h;(first|rfl|exact h.elim);(first|rfl|exact h.elim)
theorem ka(D:cm K mg "_law_not_covered" dP)(T:Txt mg)(TX:TxX K mg)(C'17:uH P w K mg base 1 "_law_whole" ["_law_found"] (spP K aB))(C'18:uH P w K mg base 1 "_law_word" ["_law_error"] (spP K bq))(C'11:uG P w K mg base 4 "cover" ["text","pieces"] (spX K aX)):Cal P w K mg base 5 "_law_not_covered" ["_law_text","_law_pieces","_law_at"] (spP K a9):=by
 refine D.ok dE (fun _ _ _ _ _ _ us hl=>match us,hl with|[_,_,_],_=>rfl) (fun vs H Q E h=>?_) (fun f cdv A outer s H vs Q E hr h=>?_)
 .exact jh fQ h
 .have hu:=hr.units;exact⟨_,(aj (lX rfl rfl (fun J pn E px=>aj (cR (e9 C'11 (hr.mono (by decide)) px (paC (pv 0) (paC (pv 1) ai)))) aD) (l7 3 K rfl TX.d'a TX.m'a dE.nd rfl rfl (fun _=>(al (bU (ba (jX K rfl hu) (fS C'18 ((hr.mark _).mono (by decide)) (paC (pv 3) ai)) (aU (l:=[78,111,116,67,111,118,101,114,101,100,32]) (by decide +kernel)) (aZ _)) (al (aM cJ)) aD))) lW)) (aj (lX rfl rfl (fun J pn E px=>aj (cR (e9 C'11 (hr.mono (by decide)) px (paC (pv 0) (paC (pv 1) ai)))) aD) (l7 3 K rfl TX.d'm TX.m'm dE.nd rfl rfl (fun _=>(al (aM (f8 (fS C'17 ((hr.mark _).mono (by decide)) (paC (fG K rfl (pv 3) rfl) ai)) (ii (cS (iH K rfl hu) (fG K rfl (pv 3) rfl) (pv 2) (aZ _))))))) lW)) (al (aM cJ)))),fnP (K:=K) (c:=a9) (ps:=cQ) (N:=["_law_text","_law_pieces","_law_at","_law_error"]) (ay (l0 (c:=aX) (ae (af (au (i:=0))) (ae (af (au (i:=1))) ah)) (rP (c0:="GlueError") TX.all (by first|exact Or.inr rfl|exact Or.inl (contains_iff_mem.mp (by decide +kernel))) rfl (b6 (gk (aq fF (af (aC (c:=bq) (ae (af (au (i:=3))) ah))) (af (le_str (l:=[78,111,116,67,111,118,101,114,101,100,32]))))) (aL cL) aK) lZ)) (ay (l0 (c:=aX) (ae (af (au (i:=0))) (ae (af (au (i:=1))) ah)) (rP (c0:="NotCovered") TX.all (by first|exact Or.inr rfl|exact Or.inl (contains_iff_mem.mp (by decide +kernel))) rfl (aL (fB (aC (c:=aB) (ae (af (iJ TX.all TX.at_ (ak (i:=3)))) ah)) (aq eA (af (iJ TX.all TX.at_ (ak (i:=3)))) (ak (i:=2))))) lZ)) (aL cL))) (fun ds Q h=>le_trans (le_of_eq (fQ ds Q h)) (by decide)) j6 h⟩
theorem iV:∀ds Q,bA ds Q->ds.length=3:=fun ds Q h=>by unfold bA at h;split at h;(first|rfl|exact h.elim);(first|rfl|exact h.elim)
theorem mY(D:cm K mg "_law_no_piece" fU)(T:Txt mg)(TX:TxX K mg)(C'17:uH P w K mg base 1 "_law_whole" ["_law_found"] (spP K aB))(C'18:uH P w K mg base 1 "_law_word" ["_law_error"] (spP K bq))(C'11:uG P w K mg base 4 "cover" ["text","pieces"] (spX K aX)):Cal P w K mg base 5 "_law_no_piece" ["_law_text","_law_things","_law_at"] (spP K bA):=by
 refine D.ok ff (fun _ _ _ _ _ _ us hl=>match us,hl with|[_,_,_],_=>rfl) (fun vs H Q E h=>?_) (fun f cdv A outer s H vs Q E hr h=>?_)
 .exact jh iV h
 .have hu:=hr.units;exact⟨_,(aj (lX rfl rfl (fun J pn E px=>aj (cR (e9 C'11 (hr.mono (by decide)) px (paC (pv 0) (paC (pv 1) ai)))) aD) (l7 3 K rfl TX.d'a TX.m'a ff.nd rfl rfl (fun _=>(al (bU (ba (jX K rfl hu) (fS C'18 ((hr.mark _).mono (by decide)) (paC (pv 3) ai)) (aU (l:=[78,111,80,105,101,99,101,32]) (by decide +kernel)) (aZ _)) (al (aM cJ)) aD))) lW)) (aj (lX rfl rfl (fun J pn E px=>aj (cR (e9 C'11 (hr.mono (by decide)) px (paC (pv 0) (paC (pv 1) ai)))) aD) (l7 3 K rfl TX.d'c TX.m'c ff.nd rfl rfl (fun _=>(al (aM (f8 (fS C'17 ((hr.mark _).mono (by decide)) (paC (fG K rfl (pv 3) rfl) ai)) (ii (cS (iH K rfl hu) (fG K rfl (pv 3) rfl) (pv 2) (aZ _))))))) lW)) (al (aM cJ)))),fnP (K:=K) (c:=bA) (ps:=dH) (N:=["_law_text","_law_things","_law_at","_law_error"]) (ay (l0 (c:=aX) (ae (af (au (i:=0))) (ae (af (au (i:=1))) ah)) (rP (c0:="GlueError") TX.all (by first|exact Or.inr rfl|exact Or.inl (contains_iff_mem.mp (by decide +kernel))) rfl (b6 (gk (aq fF (af (aC (c:=bq) (ae (af (au (i:=3))) ah))) (af (le_str (l:=[78,111,80,105,101,99,101,32]))))) (aL cL) aK) lZ)) (ay (l0 (c:=aX) (ae (af (au (i:=0))) (ae (af (au (i:=1))) ah)) (rP (c0:="NoPiece") TX.all (by first|exact Or.inr rfl|exact Or.inl (contains_iff_mem.mp (by decide +kernel))) rfl (aL (fB (aC (c:=aB) (ae (af (iJ TX.all TX.at_ (ak (i:=3)))) ah)) (aq eA (af (iJ TX.all TX.at_ (ak (i:=3)))) (ak (i:=2))))) lZ)) (aL cL))) (fun ds Q h=>le_trans (le_of_eq (iV ds Q h)) (by decide)) mJ h⟩
theorem iW:∀ds Q,bb ds Q->ds.length=2:=fun ds Q h=>by unfold bb at h;split at h;(first|rfl|exact h.elim);(first|rfl|exact h.elim)
theorem mZ(D:cm K mg "_law_too_many" fV)(T:Txt mg)(TX:TxX K mg)(C'17:uH P w K mg base 1 "_law_whole" ["_law_found"] (spP K aB))(C'18:uH P w K mg base 1 "_law_word" ["_law_error"] (spP K bq))(C'11:uG P w K mg base 4 "cover" ["text","pieces"] (spX K aX)):Cal P w K mg base 5 "_law_too_many" ["_law_text","_law_things"] (spP K bb):=by
 refine D.ok fg (fun _ _ _ _ _ _ us hl=>match us,hl with|[_,_],_=>rfl) (fun vs H Q E h=>?_) (fun f cdv A outer s H vs Q E hr h=>?_)
 .exact jh iW h
 .have hu:=hr.units;exact⟨_,(aj (lX rfl rfl (fun J pn E px=>aj (cR (e9 C'11 (hr.mono (by decide)) px (paC (pv 0) (paC (pv 1) ai)))) aD) (l7 2 K rfl TX.d'a TX.m'a fg.nd rfl rfl (fun _=>(al (bU (ba (jX K rfl hu) (fS C'18 ((hr.mark _).mono (by decide)) (paC (pv 2) ai)) (aU (l:=[84,111,111,77,97,110,121,32]) (by decide +kernel)) (aZ _)) (al (aM cJ)) aD))) lW)) (aj (lX rfl rfl (fun J pn E px=>aj (cR (e9 C'11 (hr.mono (by decide)) px (paC (pv 0) (paC (pv 1) ai)))) aD) (l7 2 K rfl TX.d'b TX.m'b fg.nd rfl rfl (fun _=>(al (aM (f8 (fS C'17 ((hr.mark _).mono (by decide)) (paC (fG K rfl (pv 2) rfl) ai)) (ii (cS (iH K rfl hu) (fG K rfl (pv 2) rfl) aw (aZ _))))))) lW)) (al (aM cJ)))),fnP (K:=K) (c:=bb) (ps:=dI) (N:=["_law_text","_law_things","_law_error"]) (ay (l0 (c:=aX) (ae (af (au (i:=0))) (ae (af (au (i:=1))) ah)) (rP (c0:="GlueError") TX.all (by first|exact Or.inr rfl|exact Or.inl (contains_iff_mem.mp (by decide +kernel))) rfl (b6 (gk (aq fF (af (aC (c:=bq) (ae (af (au (i:=2))) ah))) (af (le_str (l:=[84,111,111,77,97,110,121,32]))))) (aL cL) aK) lZ)) (ay (l0 (c:=aX) (ae (af (au (i:=0))) (ae (af (au (i:=1))) ah)) (rP (c0:="TooMany") TX.all (by first|exact Or.inr rfl|exact Or.inl (contains_iff_mem.mp (by decide +kernel))) rfl (aL (fB (aC (c:=aB) (ae (af (iJ TX.all TX.at_ (ak (i:=2)))) ah)) (aq eA (af (iJ TX.all TX.at_ (ak (i:=2)))) (af le_int)))) lZ)) (aL cL))) (fun ds Q h=>le_trans (le_of_eq (iW ds Q h)) (by decide)) mK h⟩
theorem iX:∀ds Q,bB ds Q->ds.length=4:=fun ds Q h=>by unfold bB at h;split at h;(first|rfl|exact h.elim);(first|rfl|exact h.elim)
theorem m5(D:cm K mg "_law_refusals" fW)(T:Txt mg)(TX:TxX K mg)(C'29:Cal P w K mg base 5 "_law_no_piece" ["_law_text","_law_things","_law_at"] (spP K bA))(C'30:Cal P w K mg base 5 "_law_too_many" ["_law_text","_law_things"] (spP K bb)):Cal P w K mg base 6 "_law_refusals" ["_law_text","_law_pieces","_law_at","_law_other"] (spP K bB):=by
 refine D.ok fh (fun _ _ _ _ _ _ us hl=>match us,hl with|[_,_,_,_],_=>rfl) (fun vs H Q E h=>?_) (fun f cdv A outer s H vs Q E hr h=>?_)
 .exact jh iX h
 .have hu:=hr.units;exact⟨_,(aj (et PassesOwn.never rfl (eM K rfl (dy (paC yk (paC aw (paC (aU (l:=[]) (by decide +kernel)) (paC (aU (l:=[97,66]) (by decide +kernel)) (paC (aP jT (aU (l:=[97]) (by decide +kernel)) aw) (paC cJ (paC (dy (paC (aU (l:=[97]) (by decide +kernel)) ai)) (paC (aU (l:=[97,45,98]) (by decide +kernel)) ai)))))))))) (aS (i:=4) fh.nd rfl (by walk_at "o")) (aj (aY (i:=5) fh.nd rfl (by walk_at "o") (bY (sQ K rfl) rfl T.b_list boot_list (paC (pv 1) ai))) (aj (cR (jS K rfl PySem.F.plainAttrs_list PySem.F.slot_list_insert PySem.F.type_list_insert lT (pv 5) (paC (pv 2) (paC (pv 4) ai)))) (aj (cR (jS K rfl PySem.F.plainAttrs_list PySem.F.slot_list_insert PySem.F.type_list_insert lT (pv 5) (paC (aP (br K rfl) (aP (br K rfl) (pv 2) aw) (pv 3)) (paC (aU (l:=[97,32,98]) (by decide +kernel)) ai)))) (al (bU (cE (aW (aF C'29 (hr.mono (by decide)) (paC (pv 0) (paC (pv 5) (paC (pv 2) ai)))))) (al (aM cJ)) aD)))))) (al (aM (f8 (aF C'30 (hr.mono (by decide)) (paC (pv 0) (paC (eP (xt K rfl) (aP jT (bY (sQ K rfl) rfl T.b_list boot_list (paC (pv 1) ai)) aw) jy (eW aw)) ai))) (ii (aF C'30 (hr.mono (by decide)) (paC (pv 0) (paC (aP jT (dy (paC yk ai)) aw) ai)))))))),fnP (K:=K) (c:=bB) (ps:=dJ) (N:=["_law_text","_law_pieces","_law_at","_law_other","_law_thing","_law_bent"]) (ay (eO (eN (dz (ae (af yq) (ae (af le_int) (ae (af (le_str (l:=[]))) (ae (af (le_str (l:=[97,66]))) (ae (af (aq fC (af (le_str (l:=[97]))) (af le_int))) (ae (af cL) (ae (af (dz (ae (af (le_str (l:=[97]))) ah))) (ae (af (le_str (l:=[97,45,98]))) ah)))))))))) (aG (i:=4) rfl) (ay (aR (bv oQ (ae (ak (i:=1)) ah)) (aE (i:=5) rfl)) (ay (gL (lV (i:=5) (au (i:=2)) (au (i:=4)))) (ay (gL (lV (i:=5) (aq aV (af (aq aV (ak (i:=2)) (af le_int))) (ak (i:=3))) (le_str (l:=[97,32,98])))) (b6 (cF (fA (aC (c:=bA) (ae (af (au (i:=0))) (ae (af (au (i:=5))) (ae (af (au (i:=2))) ah)))))) (aL cL) aK))))) (aL (fB (aC (c:=bb) (ae (af (au (i:=0))) (ae (af (eQ (af (aq fC (af (bv oQ (ae (ak (i:=1)) ah))) (af le_int))) gK (dA le_int))) ah))) (aC (c:=bb) (ae (af (au (i:=0))) (ae (af (aq fC (af (dz (ae (af yq) ah))) (af le_int))) ah)))))) (fun ds Q h=>le_trans (le_of_eq (iX ds Q h)) (by decide)) mL h⟩
theorem gA:∀ds Q,aN ds Q->ds.length=2:=fun ds Q h=>by unfold aN at h;split at h;(first|rfl|exact h.elim);(first|rfl|exact h.elim)
theorem kG(D:cm K mg "_law_told_right" eI)(T:Txt mg)(TX:TxX K mg)(C'27:Cal P w K mg base 1 "_law_bare" ["_law_text","_law_pieces","_law_members_here"] (spP K cA))(C'26:Cal P w K mg base 3 "_law_is_told" ["_law_text","_law_pieces","_law_members_here","_law_told"] (spP K bL))(C'23:Cal P w K mg base 2 "_law_members" ["_law_text","_law_pieces"] (spP K bJ))(C'28:Cal P w K mg base 5 "_law_not_covered" ["_law_text","_law_pieces","_law_at"] (spP K a9))(C'14:Cal P w K mg base 4 "are_marks" ["text","pieces","marks"] (spP K cg))(C'11:uG P w K mg base 4 "cover" ["text","pieces"] (spX K aX))(C'13:Cal P w K mg base 4 "is_cover" ["text","pieces","chosen"] (spP K cv)):Cal P w K mg base 6 "_law_told_right" ["_law_text","_law_pieces"] (spP K aN):=by
 refine D.ok cX (fun _ _ _ _ _ _ us hl=>match us,hl with|[_,_],_=>rfl) (fun vs H Q E h=>?_) (fun f cdv A outer s H vs Q E hr h=>?_)
 .exact jh gA h
 .have hu:=hr.units;exact⟨_,(aj (aY (i:=2) cX.nd rfl (by walk_at "o") (aF C'23 (hr.mono (by decide)) (paC (pv 0) (paC (pv 1) ai)))) (aj (aY (i:=3) cX.nd rfl (by walk_at "o") (aF C'27 (hr.mono (by decide)) (paC (pv 0) (paC (pv 1) (paC (pv 2) ai))))) (aj (bU (ba Cb (pv 3) aw (aZ _)) (al (aM (aF C'28 (hr.mono (by decide)) (paC (pv 0) (paC (pv 1) (paC (pv 3) ai)))))) aD) (aj (aY (i:=4) cX.nd rfl (by walk_at "o") (e9 C'11 (hr.mono (by decide)) px0 (paC (pv 0) (paC (pv 1) ai)))) (aj (bU (cE (aW (aF C'26 (hr.mono (by decide)) (paC (pv 0) (paC (pv 1) (paC (pv 2) (paC (pv 4) ai))))))) (al (aM cJ)) aD) (al (aM (f8 (cS Ef (aF C'13 (hr.mono (by decide)) (paC (pv 0) (paC (pv 1) (paC (bH (du K rfl) (pv 4) aw (fun _ _=>rfl)) ai)))) cJ (aZ _)) (ii (cS Ef (aF C'14 (hr.mono (by decide)) (paC (pv 0) (paC (pv 1) (paC (bH (du K rfl) (pv 4) aw (fun _ _=>rfl)) ai)))) cJ (aZ _))))))))))),fnP (K:=K) (c:=aN) (ps:=c6) (N:=["_law_text","_law_pieces","_law_members_here","_law_bare_here","_law_told"]) (ay (aR (aC (c:=bJ) (ae (af (au (i:=0))) (ae (af (au (i:=1))) ah))) (aE (i:=2) rfl)) (ay (aR (aC (c:=cA) (ae (af (au (i:=0))) (ae (af (au (i:=1))) (ae (af (au (i:=2))) ah)))) (aE (i:=3) rfl)) (ay (b6 (gk (aq vE (ak (i:=3)) (af le_int))) (aL (aC (c:=a9) (ae (af (au (i:=0))) (ae (af (au (i:=1))) (ae (af (au (i:=3))) ah))))) aK) (ay (aR (oZ (c:=aX) (ae (af (au (i:=0))) (ae (af (au (i:=1))) ah))) (aE (i:=4) rfl)) (ay (b6 (cF (fA (aC (c:=bL) (ae (af (au (i:=0))) (ae (af (au (i:=1))) (ae (af (au (i:=2))) (ae (af (au (i:=4))) ah))))))) (aL cL) aK) (aL (fB (aq BR (af (aC (c:=cv) (ae (af (au (i:=0))) (ae (af (au (i:=1))) (ae (af (aq bI (ak (i:=4)) (af le_int))) ah))))) (af cL)) (aq BR (af (aC (c:=cg) (ae (af (au (i:=0))) (ae (af (au (i:=1))) (ae (af (aq bI (ak (i:=4)) (af le_int))) ah))))) (af cL))))))))) (fun ds Q h=>le_trans (le_of_eq (gA ds Q h)) (by decide)) kC h⟩
theorem jv:∀ds Q,bM ds Q->ds.length=1:=fun ds Q h=>by unfold bM at h;split at h;(first|rfl|exact h.elim);(first|rfl|exact h.elim)
theorem nN(D:cm K mg "_law_without" gZ)(T:Txt mg)(TX:TxX K mg)(C'17:uH P w K mg base 1 "_law_whole" ["_law_found"] (spP K aB))(C'11:uG P w K mg base 4 "cover" ["text","pieces"] (spX K aX)):Cal P w K mg base 5 "_law_without" ["_law_text"] (spP K bM):=by
 refine D.ok jj (fun _ _ _ _ _ _ us hl=>match us,hl with|[_],_=>rfl) (fun vs H Q E h=>?_) (fun f cdv A outer s H vs Q E hr h=>?_)
 .exact jh jv h
 .have hu:=hr.units;exact⟨_,(aj (lX rfl rfl (fun J pn E px=>aj (cR (e9 C'11 (hr.mono (by decide)) px (paC (pv 0) (paC (fu ai) ai)))) aD) (l7 1 K rfl TX.d'm TX.m'm jj.nd rfl rfl (fun _=>(al (aM (f8 (fS C'17 ((hr.mark _).mono (by decide)) (paC (fG K rfl (pv 1) rfl) ai)) (ii (cS (iH K rfl hu) (fG K rfl (pv 1) rfl) aw (aZ _))))))) lW)) (al (aM cJ))),fnP (K:=K) (c:=bM) (ps:=ej) (N:=["_law_text","_law_error"]) (ay (l0 (c:=aX) (ae (af (au (i:=0))) (ae (af (gj ah)) ah)) (rP (c0:="NotCovered") TX.all (by first|exact Or.inr rfl|exact Or.inl (contains_iff_mem.mp (by decide +kernel))) rfl (aL (fB (aC (c:=aB) (ae (af (iJ TX.all TX.at_ (ak (i:=1)))) ah)) (aq eA (af (iJ TX.all TX.at_ (ak (i:=1)))) (af le_int)))) lZ)) (aL cL)) (fun ds Q h=>le_trans (le_of_eq (jv ds Q h)) (by decide)) nH h⟩
theorem gB:∀ds Q,bf ds Q->ds.length=1:=fun ds Q h=>by unfold bf at h;split at h;(first|rfl|exact h.elim);(first|rfl|exact h.elim)
theorem kH(D:cm K mg "_law_long_right" eJ)(T:Txt mg)(TX:TxX K mg)(C'11:uG P w K mg base 4 "cover" ["text","pieces"] (spX K aX)):Cal P w K mg base 5 "_law_long_right" ["_law_sign"] (spP K bf):=by
 refine D.ok gn (fun _ _ _ _ _ _ us hl=>match us,hl with|[_],_=>rfl) (fun vs H Q E h=>?_) (fun f cdv A outer s H vs Q E hr h=>?_)
 .exact jh gB h
 .have hu:=hr.units;exact⟨_,(aj (aY (i:=1) gn.nd rfl (by walk_at "o") (e9 C'11 (hr.mono (by decide)) px0 (paC (aP jT (pv 0) aw) (paC (dy (paC (pv 0) ai)) ai)))) (al (aM (cS (iH K rfl hu) (pv 1) (fu (paC (bY (kg K rfl) rfl T.b_tuple boot_tuple (paC (eF (wi:=(wU (bR (tC (V.int 1500)) jO))) (g:=(eV 0)) (tts:=t7) (te:=(AN (bR (dn 0) (bR (tC (V.int 0)) jO)))) ["_law_k"] [none] rfl (dw rfl T.b_range (paC aw ai)) (fun _ _ _ _=>⟨(aS (i:=0) (by show List.Nodup (["_law_k"]:List Str);decide +kernel) rfl (by walk_at "o")),eZ,(fu (paC (pv 0) (paC aw ai)))⟩) (by kernel_rfl)) ai)) (paC (bY (kg K rfl) rfl T.b_tuple boot_tuple (paC (bY (B6 K rfl rfl) rfl T.b_list boot_list (paC (vv rfl T.b_range (paC aw ai)) ai)) ai)) ai))) (aZ _))))),fnP (K:=K) (c:=bf) (ps:=c7) (N:=["_law_sign","_law_found"]) (ay (aR (oZ (c:=aX) (ae (af (aq fC (ak (i:=0)) (af le_int))) (ae (af (dz (ae (af (au (i:=0))) ah))) ah))) (aE (i:=1) rfl)) (aL (aq eA (ak (i:=1)) (af (gj (ae (af (bv i9 (ae (af (dC (ix:=[none]) rfl (oM (ae (af le_int) ah)) (fun fs hc=>(aG (i:=0) (pO hc (by decide)))) iF (gj (ae (af (au (i:=0))) (ae (af le_int) ah))))) ah))) (ae (af (bv i9 (ae (af (xx false (ae (af le_int) ah))) ah))) ah))))))) (fun ds Q h=>le_trans (le_of_eq (gB ds Q h)) (by decide)) kE h⟩
theorem yX:∀ds Q,tK ds Q->ds.length=1:=fun ds Q h=>by obtain⟨_,rfl,_⟩:=h;rfl
theorem CF(D:cm K mg "law" xY)(T:Txt mg)(TX:TxX K mg)(C'21:Cal P w K mg base 2 "_law_built" ["_law_deck_here","_law_whole_here"] (spR K cq))(C'15:Cal P w K mg base 1 "_law_deck" ["_law_cells","_law_many"] (spP K cw))(C'34:Cal P w K mg base 5 "_law_long_right" ["_law_sign"] (spP K bf))(C'16:Cal P w K mg base 1 "_law_next" ["_law_deck_here"] (spR K aJ))(C'31:Cal P w K mg base 6 "_law_refusals" ["_law_text","_law_pieces","_law_at","_law_other"] (spP K bB))(C'32:Cal P w K mg base 6 "_law_told_right" ["_law_text","_law_pieces"] (spP K aN))(C'33:Cal P w K mg base 5 "_law_without" ["_law_text"] (spP K bM))(C'11:uG P w K mg base 4 "cover" ["text","pieces"] (spX K aX)):Cal P w K mg base 7 "law" ["_law_script"] (spP K tK):=by
 refine D.ok me (fun _ _ _ _ _ _ us hl=>match us,hl with|[_],_=>rfl) (fun vs H Q E h=>?_) (fun f cdv A outer s H vs Q E hr h=>?_)
 .exact jh yX h
 .have hu:=hr.units;exact⟨_,(aj (aY (i:=1) me.nd rfl (by walk_at "o") (aF C'15 (hr.mono (by decide)) (paC (pv 0) (paC aw ai)))) (aj (sE (aF C'21 (hr.mono (by decide)) (paC (pv 1) (paC (cS (iH K rfl hu) (aP eS (aF C'16 (hr.mono (by decide)) (paC (pv 1) ai)) aw) aw (aZ _)) ai))) (ip K rfl (n:=2) rfl (bF (aS (i:=2) me.nd rfl (by walk_at "o")) (bF (aS (i:=3) me.nd rfl (by walk_at "o")) eE)))) (aj (cN (bU (ba (iH K rfl hu) (aP eS (aF C'16 (hr.mono (by decide)) (paC (pv 1) ai)) aw) aw (aZ _)) (al (aY (i:=2) me.nd rfl (by walk_at "o") (eP (xt K rfl) (aP jT (aP (br K rfl) (pv 2) (aU (l:=[97,98]) (by decide +kernel))) aw) jy (eW (bH (du K rfl) (dy (paC (aP (br K rfl) aw (aP eS (aF C'16 (hr.mono (by decide)) (paC (pv 1) ai)) aw)) (paC (aP (br K rfl) aw (aP eS (aF C'16 (hr.mono (by decide)) (paC (pv 1) ai)) aw)) ai))) (aP eS (aF C'16 (hr.mono (by decide)) (paC (pv 1) ai)) aw) (fun _ _=>rfl)))))) aD)) (aj (aY (i:=4) me.nd rfl (by walk_at "o") (bY (sQ K rfl) rfl T.b_list boot_list (paC (pv 3) ai))) (aj (bU (PW.pt (gD (cE (aW (aF C'32 (hr.mono (by decide)) (paC (pv 2) (paC (pv 4) ai))))) (f7 (ba (jX K rfl hu) (pv 4) (pv 3) (aZ _))))) (al (aM cJ)) aD) (aj (bU (cE (aW (aF C'31 (hr.mono (by decide)) (paC (pv 2) (paC (pv 3) (paC (aP eS (aF C'16 (hr.mono (by decide)) (paC (pv 1) ai)) (aP (br K rfl) (ap (cC K rfl) rfl T.b_len PySem.boot_len (paC (pv 3) ai)) aw)) (paC (aP eS (aF C'16 (hr.mono (by decide)) (paC (pv 1) ai)) aw) ai))))))) (al (aM cJ)) aD) (aj (bU (PW.pt (gD (ba (jX K rfl hu) (e9 C'11 (hr.mono (by decide)) px0 (paC (aU (l:=[]) (by decide +kernel)) (paC (dy ai) ai))) (fu (paC (fu ai) (paC (fu ai) ai))) (aZ _)) (f7 (cE (aW (aF C'33 (hr.mono (by decide)) (paC (aP (br K rfl) (pv 2) (aU (l:=[97]) (by decide +kernel))) ai))))))) (al (aM cJ)) aD) (aj (bU (PW.pt (lH (ba (iH K rfl hu) (aP eS (aF C'16 (hr.mono (by decide)) (paC (pv 1) ai)) aw) aw (aZ _)) (jw (cE (aW (aF C'34 (hr.mono (by decide)) (paC (bH (du K rfl) (aU (l:=[97,98,99,100,101,102,103,104,105,106,107,108,109,110,111,112,113,114,115,116,117,118,119,120,121,122]) (by decide +kernel)) (aP eS (aF C'16 (hr.mono (by decide)) (paC (pv 1) ai)) aw) (fun _ _=>rfl)) ai))))))) (al (aM cJ)) aD) (aj (aY (i:=5) me.nd rfl (by walk_at "o") (eP (xt K rfl) (aP jT (pv 3) aw) jy (eW aw))) (al (aM (f8 (aF C'32 (hr.mono (by decide)) (paC (pv 2) (paC (bY (kg K rfl) rfl T.b_tuple boot_tuple (paC (pv 3) ai)) ai))) (ii (aF C'32 (hr.mono (by decide)) (paC (eP (xt K rfl) (pv 2) jy (eW aw)) (paC (pv 5) ai)))))))))))))))),fnP (K:=K) (c:=tK) (ps:=tL) (N:=["_law_script","_law_deck_here","_law_text","_law_pieces","_law_handed","_law_most"]) (ay (aR (aC (c:=cw) (ae (af (au (i:=0))) (ae (af le_int) ah))) (aE (i:=1) rfl)) (ay (aR (cb (i:=1) (ae (af (aq eA (af (aq cP (af (cb (i:=1) ah)) (af le_int))) (af le_int))) ah)) (vU (bG (aG (i:=2) rfl) (bG (aG (i:=3) rfl) eG)))) (ay (cO (b6 (gk (aq eA (af (aq cP (af (cb (i:=1) ah)) (af le_int))) (af le_int))) (aR (eQ (af (aq fC (af (aq aV (ak (i:=2)) (af (le_str (l:=[97,98]))))) (af le_int))) gK (dA (aq bI (af (dz (ae (af (aq aV (af le_int) (af (aq cP (af (cb (i:=1) ah)) (af le_int))))) (ae (af (aq aV (af le_int) (af (aq cP (af (cb (i:=1) ah)) (af le_int))))) ah)))) (af (aq cP (af (cb (i:=1) ah)) (af le_int)))))) (aE (i:=2) rfl)) aK)) (ay (aR (bv oQ (ae (ak (i:=3)) ah)) (aE (i:=4) rfl)) (ay (b6 (gJ (cF (fA (aC (c:=aN) (ae (af (au (i:=2))) (ae (af (au (i:=4))) ah))))) (gk (aq fF (ak (i:=4)) (ak (i:=3))))) (aL cL) aK) (ay (b6 (cF (fA (aC (c:=bB) (ae (af (au (i:=2))) (ae (af (au (i:=3))) (ae (af (aq cP (af (cb (i:=1) ah)) (af (aq aV (af (bv bC (ae (ak (i:=3)) ah))) (af le_int))))) (ae (af (aq cP (af (cb (i:=1) ah)) (af le_int))) ah))))))) (aL cL) aK) (ay (b6 (gJ (gk (aq fF (af (oZ (c:=aX) (ae (af (le_str (l:=[]))) (ae (af (dz ah)) ah)))) (af (gj (ae (af (gj ah)) (ae (af (gj ah)) ah)))))) (cF (fA (aC (c:=bM) (ae (af (aq aV (ak (i:=2)) (af (le_str (l:=[97]))))) ah))))) (aL cL) aK) (ay (b6 (lM (gk (aq eA (af (aq cP (af (cb (i:=1) ah)) (af le_int))) (af le_int))) (cF (fA (aC (c:=bf) (ae (af (aq bI (af (le_str (l:=[97,98,99,100,101,102,103,104,105,106,107,108,109,110,111,112,113,114,115,116,117,118,119,120,121,122]))) (af (aq cP (af (cb (i:=1) ah)) (af le_int))))) ah))))) (aL cL) aK) (ay (aR (eQ (af (aq fC (ak (i:=3)) (af le_int))) gK (dA le_int)) (aE (i:=5) rfl)) (aL (fB (aC (c:=aN) (ae (af (au (i:=2))) (ae (af (bv i9 (ae (ak (i:=3)) ah))) ah))) (aC (c:=aN) (ae (af (eQ (ak (i:=2)) gK (dA le_int))) (ae (af (au (i:=5))) ah)))))))))))))) (fun ds Q h=>le_trans (le_of_eq (yX ds Q h)) (by decide)) CD h⟩
end
theorem CG{l:PySem.W.OpenLaw}{w:World}{K:PySem.W.Frag}{h:Heap}{mg:Str->Option Value}{fa:Addr}(X:K.In h)(G:h.Ns mainGlobals mg)(hfa:mg "law"=some (.ref fa))
  {C'a:Addr} (aC'a:PySem.W.nsIn K mainGlobals "GlueError"=some (some (.ref C'a))) {q'a:Str}{N'a:Addr}{bs'a sub'a:List Value}{sn'a:List Str}{ab'a:Bool}{col'a:Option Bool}{k0'a k1'a k2'a k3'a k5'a:Option Value} (lC'a:K.lookup C'a=some (excClassObj "GlueError" q'a C'a N'a bs'a [.type "ValueError",.type "Exception",.type "BaseException",.type "object"] true sn'a sub'a ab'a col'a none k0'a k1'a k2'a k3'a k5'a "ValueError.__new__")) (xq'a:PySem.W.excIn K C'a [.type "ValueError",.type "Exception",.type "BaseException",.type "object"] "ValueError.__new__"=true)
  {C'b:Addr} (b'b:XI K C'a "TooMany" C'b)
  (j'b:XJ K C'b "TooMany.__init__" "most" fX)
  {C'c:Addr} (b'c:XI K C'a "NoPiece" C'c)
  (j'c:XJ K C'c "NoPiece.__init__" "at" fY)
  {C'd:Addr} (b'd:XI K C'a "NoLap" C'd)
  (j'd:XJ K C'd "NoLap.__init__" "k" iN)
  {C'e:Addr} (b'e:XI K C'a "NoOrder" C'e)
  (xq'e:PySem.W.excIn K C'e [.type "ValueError",.type "Exception",.type "BaseException",.type "object"] "ValueError.__new__"=true)
  {C'f:Addr} (b'f:XI K C'a "NotHeld" C'f)
  (j'f:XJ K C'f "NotHeld.__init__" "at" fZ)
  {C'g:Addr} (b'g:XI K C'a "NoTable" C'g)
  (xq'g:PySem.W.excIn K C'g [.type "ValueError",.type "Exception",.type "BaseException",.type "object"] "ValueError.__new__"=true)
  {C'h:Addr} (b'h:XI K C'a "NoRing" C'h)
  (xq'h:PySem.W.excIn K C'h [.type "ValueError",.type "Exception",.type "BaseException",.type "object"] "ValueError.__new__"=true)
  {C'i:Addr} (b'i:XI K C'a "TooGreat" C'i)
  (j'i:XJ K C'i "TooGreat.__init__" "most" fj)
  {C'j:Addr} (b'j:XI K C'a "NoWords" C'j)
  (xq'j:PySem.W.excIn K C'j [.type "ValueError",.type "Exception",.type "BaseException",.type "object"] "ValueError.__new__"=true)
  {C'k:Addr} (b'k:XI K C'a "NotApart" C'k)
  (j'k:XJ K C'k "NotApart.__init__" "at" fm)
  {C'l:Addr} (b'l:XI K C'a "NoCounts" C'l)
  (j'l:XJ K C'l "NoCounts.__init__" "at" fo)
  {C'm:Addr} (b'm:XI K C'a "NotCovered" C'm)
  (j'm:XJ K C'm "NotCovered.__init__" "at" dR)
  {C'n:Addr} (b'n:XI K C'a "NoLine" C'n)
  (j'n:XJ K C'n "NoLine.__init__" "at" hX)
  {C'o:Addr} (b'o:XI K C'a "NoPaper" C'o)
  (xq'o:PySem.W.excIn K C'o [.type "ValueError",.type "Exception",.type "BaseException",.type "object"] "ValueError.__new__"=true)
  {C'p:Addr} (b'p:XI K C'a "NotTold" C'p)
  (xq'p:PySem.W.excIn K C'p [.type "ValueError",.type "Exception",.type "BaseException",.type "object"] "ValueError.__new__"=true)
  (d1:iw K "is_row" pd)
  (d2:iw K "is_number" jG)
  {f3:Addr}{oc3 kV3 dc3 pm3 cd3 ct3:Value}{od3 an3 dd3:Option Addr}{sl3 st3:Array (Option Value)}{dT3:Addr}{n3:Nat}{u3_0 u3_1:Tok} (a3:PySem.W.nsIn K mainGlobals "is_text"=some (some (.ref f3))) (l3:K.lookup f3=some ⟨oc3,od3,.func (PySem.W.fnOf "is_text" "is_text" (cM gm) (bV gm) (ao gm) (.ref dT3) kV3 dc3 pm3 an3 cd3 ct3),sl3⟩) (c3:PySem.W.codeIn K cd3 "is_text"=true) (k3:PySem.W.keepIn K (.ref f3)=true) (t3:K.lookup dT3=some ⟨.type "tuple",dd3,.seq [.int 0 u3_0,.int 4000 u3_1].toArray n3,st3⟩)
  (d4:iw K "fits_at" l9)
  (d5:iw K "_law_deck" ko)
  (d6:iw K "_law_next" kq)
  (d7:iw K "_law_whole" jJ)
  (d8:iw K "_law_word" kr)
  (d9:iw K "_law_spelled" gU)
  (d10:iw K "_law_gapped" iL)
  (d11:iw K "_law_fits" kt)
  (d12:iw K "_law_bare" ku)
  (d13:iw K "are_numbers" gS)
  (d14:iw K "is_whole" kl)
  (d15:iw K "is_gapped" jH)
  (d16:iw K "gapped_places" fb)
  (d17:iw K "_law_built" jK)
  (d18:iw K "_law_members" gW)
  (d19:iw K "_law_is_best" gX)
  (d20:iw K "_law_kinds" jL)
  (d21:iw K "are_rising_indexes" c8)
  (d22:iw K "check_gapped" fT)
  (d23:iw K "farthest" km)
  (d24:iw K "has_cover_form" eH)
  (d25:iw K "_law_is_told" gY)
  (d26:iw K "cover" rV)
  (d27:iw K "is_cover" kn)
  (d28:iw K "are_marks" jI)
  (d29:iw K "_law_not_covered" dP)
  (d30:iw K "_law_no_piece" fU)
  (d31:iw K "_law_too_many" fV)
  (d32:iw K "_law_without" gZ)
  (d33:iw K "_law_long_right" eJ)
  (d34:iw K "_law_refusals" fW)
  (d35:iw K "_law_told_right" eI)
  (d36:iw K "law" xY)
  (z1:PySem.W.nsIn K mainGlobals "ValueError"=some none)
  (z2:PySem.W.nsIn K mainGlobals "all"=some none)
  (z3:PySem.W.nsIn K mainGlobals "bool"=some none)
  (z4:PySem.W.nsIn K mainGlobals "enumerate"=some none)
  (z5:PySem.W.nsIn K mainGlobals "int"=some none)
  (z6:PySem.W.nsIn K mainGlobals "isinstance"=some none)
  (z7:PySem.W.nsIn K mainGlobals "len"=some none)
  (z8:PySem.W.nsIn K mainGlobals "list"=some none)
  (z9:PySem.W.nsIn K mainGlobals "max"=some none)
  (z10:PySem.W.nsIn K mainGlobals "min"=some none)
  (z11:PySem.W.nsIn K mainGlobals "range"=some none)
  (z12:PySem.W.nsIn K mainGlobals "reversed"=some none)
  (z13:PySem.W.nsIn K mainGlobals "sorted"=some none)
  (z14:PySem.W.nsIn K mainGlobals "str"=some none)
  (z15:PySem.W.nsIn K mainGlobals "tuple"=some none)
  (z16:PySem.W.nsIn K mainGlobals "zip"=some none)
  {ty1:Tok} (y1:PySem.W.nsIn K mainGlobals "MOST_PIECES"=some (some (.int 40 ty1)))
  {ty2:Tok} (y2:PySem.W.nsIn K mainGlobals "MOST_SIGNS"=some (some (.int 60 ty2))) :
  ∃fd:FuncData,(∀(s:Shared) (v:Value),BindsTo s fd ⟨[v],[]⟩ [("_law_script",v)])/\∀base:Heap,K.In base->base.Ns mainGlobals mg->pQ l.prog w K mg base CX0 7 fa fd ["_law_script"] (t0 K):=by
 have eC'a:=cD aC'a;have tl_:=Ae xq'a ⟨_,_,_,_,_,_,_,_,_,_,_,_,_,lC'a⟩;obtain⟨aC'b,⟨_,_,_,_,_,_,_,_,_,_,_,_,lC'b⟩,ga'b,gh'b,sa'b,cl'b,kc'b⟩:=b'b;have eC'b:=cD aC'b;have xc'b:XC K C'b C'a:=⟨⟨_,_,_,_,_,_,_,_,_,_,_,_,_,lC'b⟩,ga'b,gh'b,sa'b,cl'b⟩
 obtain⟨_,_,_,_,_,_,_,_,_,_,xi'b,xt'b,xl'b,xc0'b,xk'b,xn'b⟩:=j'b;obtain⟨aC'c,⟨_,_,_,_,_,_,_,_,_,_,_,_,lC'c⟩,ga'c,gh'c,sa'c,cl'c,kc'c⟩:=b'c;have eC'c:=cD aC'c;have xc'c:XC K C'c C'a:=⟨⟨_,_,_,_,_,_,_,_,_,_,_,_,_,lC'c⟩,ga'c,gh'c,sa'c,cl'c⟩
 obtain⟨_,_,_,_,_,_,_,_,_,_,xi'c,xt'c,xl'c,xc0'c,xk'c,xn'c⟩:=j'c;obtain⟨aC'd,⟨_,_,_,_,_,_,_,_,_,_,_,_,lC'd⟩,ga'd,gh'd,sa'd,cl'd,kc'd⟩:=b'd;have eC'd:=cD aC'd;have xc'd:XC K C'd C'a:=⟨⟨_,_,_,_,_,_,_,_,_,_,_,_,_,lC'd⟩,ga'd,gh'd,sa'd,cl'd⟩
 obtain⟨_,_,_,_,_,_,_,_,_,_,xi'd,xt'd,xl'd,xc0'd,xk'd,xn'd⟩:=j'd;obtain⟨aC'e,⟨_,_,_,_,_,_,_,_,_,_,_,_,lC'e⟩,ga'e,gh'e,sa'e,cl'e,kc'e⟩:=b'e;have eC'e:=cD aC'e;have xc'e:XC K C'e C'a:=⟨⟨_,_,_,_,_,_,_,_,_,_,_,_,_,lC'e⟩,ga'e,gh'e,sa'e,cl'e⟩
 obtain⟨aC'f,⟨_,_,_,_,_,_,_,_,_,_,_,_,lC'f⟩,ga'f,gh'f,sa'f,cl'f,kc'f⟩:=b'f;have eC'f:=cD aC'f;have xc'f:XC K C'f C'a:=⟨⟨_,_,_,_,_,_,_,_,_,_,_,_,_,lC'f⟩,ga'f,gh'f,sa'f,cl'f⟩
 obtain⟨_,_,_,_,_,_,_,_,_,_,xi'f,xt'f,xl'f,xc0'f,xk'f,xn'f⟩:=j'f;obtain⟨aC'g,⟨_,_,_,_,_,_,_,_,_,_,_,_,lC'g⟩,ga'g,gh'g,sa'g,cl'g,kc'g⟩:=b'g;have eC'g:=cD aC'g;have xc'g:XC K C'g C'a:=⟨⟨_,_,_,_,_,_,_,_,_,_,_,_,_,lC'g⟩,ga'g,gh'g,sa'g,cl'g⟩
 obtain⟨aC'h,⟨_,_,_,_,_,_,_,_,_,_,_,_,lC'h⟩,ga'h,gh'h,sa'h,cl'h,kc'h⟩:=b'h;have eC'h:=cD aC'h;have xc'h:XC K C'h C'a:=⟨⟨_,_,_,_,_,_,_,_,_,_,_,_,_,lC'h⟩,ga'h,gh'h,sa'h,cl'h⟩
 obtain⟨aC'i,⟨_,_,_,_,_,_,_,_,_,_,_,_,lC'i⟩,ga'i,gh'i,sa'i,cl'i,kc'i⟩:=b'i;have eC'i:=cD aC'i;have xc'i:XC K C'i C'a:=⟨⟨_,_,_,_,_,_,_,_,_,_,_,_,_,lC'i⟩,ga'i,gh'i,sa'i,cl'i⟩
 obtain⟨_,_,_,_,_,_,_,_,_,_,xi'i,xt'i,xl'i,xc0'i,xk'i,xn'i⟩:=j'i;obtain⟨aC'j,⟨_,_,_,_,_,_,_,_,_,_,_,_,lC'j⟩,ga'j,gh'j,sa'j,cl'j,kc'j⟩:=b'j;have eC'j:=cD aC'j;have xc'j:XC K C'j C'a:=⟨⟨_,_,_,_,_,_,_,_,_,_,_,_,_,lC'j⟩,ga'j,gh'j,sa'j,cl'j⟩
 obtain⟨aC'k,⟨_,_,_,_,_,_,_,_,_,_,_,_,lC'k⟩,ga'k,gh'k,sa'k,cl'k,kc'k⟩:=b'k;have eC'k:=cD aC'k;have xc'k:XC K C'k C'a:=⟨⟨_,_,_,_,_,_,_,_,_,_,_,_,_,lC'k⟩,ga'k,gh'k,sa'k,cl'k⟩
 obtain⟨_,_,_,_,_,_,_,_,_,_,xi'k,xt'k,xl'k,xc0'k,xk'k,xn'k⟩:=j'k;obtain⟨aC'l,⟨_,_,_,_,_,_,_,_,_,_,_,_,lC'l⟩,ga'l,gh'l,sa'l,cl'l,kc'l⟩:=b'l;have eC'l:=cD aC'l;have xc'l:XC K C'l C'a:=⟨⟨_,_,_,_,_,_,_,_,_,_,_,_,_,lC'l⟩,ga'l,gh'l,sa'l,cl'l⟩
 obtain⟨_,_,_,_,_,_,_,_,_,_,xi'l,xt'l,xl'l,xc0'l,xk'l,xn'l⟩:=j'l;obtain⟨aC'm,⟨_,_,_,_,_,_,_,_,_,_,_,_,lC'm⟩,ga'm,gh'm,sa'm,cl'm,kc'm⟩:=b'm;have eC'm:=cD aC'm;have xc'm:XC K C'm C'a:=⟨⟨_,_,_,_,_,_,_,_,_,_,_,_,_,lC'm⟩,ga'm,gh'm,sa'm,cl'm⟩
 obtain⟨_,_,_,_,_,_,_,_,_,_,xi'm,xt'm,xl'm,xc0'm,xk'm,xn'm⟩:=j'm;obtain⟨aC'n,⟨_,_,_,_,_,_,_,_,_,_,_,_,lC'n⟩,ga'n,gh'n,sa'n,cl'n,kc'n⟩:=b'n;have eC'n:=cD aC'n;have xc'n:XC K C'n C'a:=⟨⟨_,_,_,_,_,_,_,_,_,_,_,_,_,lC'n⟩,ga'n,gh'n,sa'n,cl'n⟩
 obtain⟨_,_,_,_,_,_,_,_,_,_,xi'n,xt'n,xl'n,xc0'n,xk'n,xn'n⟩:=j'n;obtain⟨aC'o,⟨_,_,_,_,_,_,_,_,_,_,_,_,lC'o⟩,ga'o,gh'o,sa'o,cl'o,kc'o⟩:=b'o;have eC'o:=cD aC'o;have xc'o:XC K C'o C'a:=⟨⟨_,_,_,_,_,_,_,_,_,_,_,_,_,lC'o⟩,ga'o,gh'o,sa'o,cl'o⟩
 obtain⟨aC'p,⟨_,_,_,_,_,_,_,_,_,_,_,_,lC'p⟩,ga'p,gh'p,sa'p,cl'p,kc'p⟩:=b'p;have eC'p:=cD aC'p;have xc'p:XC K C'p C'a:=⟨⟨_,_,_,_,_,_,_,_,_,_,_,_,_,lC'p⟩,ga'p,gh'p,sa'p,cl'p⟩
 have TX:TxX K mg:=⟨⟨by rw [XCl,eC'a];exact⟨_,_,_,lC'a,rfl⟩,fun c hc=>by
  simp only [xcs,mem_cons,not_mem_nil,or_false] at hc
  rcases hc with rfl|rfl|rfl|rfl|rfl|rfl|rfl|rfl|rfl|rfl|rfl|rfl|rfl|rfl|rfl
  .rw [XCl,eC'b];exact⟨_,_,_,lC'b,rfl⟩
  .rw [XCl,eC'c];exact⟨_,_,_,lC'c,rfl⟩
  .rw [XCl,eC'd];exact⟨_,_,_,lC'd,rfl⟩
  .rw [XCl,eC'e];exact⟨_,_,_,lC'e,rfl⟩
  .rw [XCl,eC'f];exact⟨_,_,_,lC'f,rfl⟩
  .rw [XCl,eC'g];exact⟨_,_,_,lC'g,rfl⟩
  .rw [XCl,eC'h];exact⟨_,_,_,lC'h,rfl⟩
  .rw [XCl,eC'i];exact⟨_,_,_,lC'i,rfl⟩
  .rw [XCl,eC'j];exact⟨_,_,_,lC'j,rfl⟩
  .rw [XCl,eC'k];exact⟨_,_,_,lC'k,rfl⟩
  .rw [XCl,eC'l];exact⟨_,_,_,lC'l,rfl⟩
  .rw [XCl,eC'm];exact⟨_,_,_,lC'm,rfl⟩
  .rw [XCl,eC'n];exact⟨_,_,_,lC'n,rfl⟩
  .rw [XCl,eC'o];exact⟨_,_,_,lC'o,rfl⟩
  .rw [XCl,eC'p];exact⟨_,_,_,lC'p,rfl⟩,fun c hc=>by
  simp only [xcs,mem_cons,not_mem_nil,or_false] at hc
  rcases hc with rfl|rfl|rfl|rfl|rfl|rfl|rfl|rfl|rfl|rfl|rfl|rfl|rfl|rfl|rfl
  .rw [eC'b,eC'a];exact xc'b
  .rw [eC'c,eC'a];exact xc'c
  .rw [eC'd,eC'a];exact xc'd
  .rw [eC'e,eC'a];exact xc'e
  .rw [eC'f,eC'a];exact xc'f
  .rw [eC'g,eC'a];exact xc'g
  .rw [eC'h,eC'a];exact xc'h
  .rw [eC'i,eC'a];exact xc'i
  .rw [eC'j,eC'a];exact xc'j
  .rw [eC'k,eC'a];exact xc'k
  .rw [eC'l,eC'a];exact xc'l
  .rw [eC'm,eC'a];exact xc'm
  .rw [eC'n,eC'a];exact xc'n
  .rw [eC'o,eC'a];exact xc'o
  .rw [eC'p,eC'a];exact xc'p⟩,fun c g hc=>by
  simp only [wO,mem_cons,not_mem_nil,or_false,Prod.mk.injEq] at hc
  rcases hc with ⟨rfl,rfl⟩|⟨rfl,rfl⟩|⟨rfl,rfl⟩|⟨rfl,rfl⟩|⟨rfl,rfl⟩|⟨rfl,rfl⟩|⟨rfl,rfl⟩|⟨rfl,rfl⟩|⟨rfl,rfl⟩
  .rw [eC'b];exact xn'b
  .rw [eC'c];exact xn'c
  .rw [eC'd];exact xn'd
  .rw [eC'f];exact xn'f
  .rw [eC'i];exact xn'i
  .rw [eC'k];exact xn'k
  .rw [eC'l];exact xn'l
  .rw [eC'm];exact xn'm
  .rw [eC'n];exact xn'n,by rw [eC'b];exact PySem.W.mg_of X G aC'b,by rw [eC'c];exact PySem.W.mg_of X G aC'c,by rw [eC'd];exact PySem.W.mg_of X G aC'd,by rw [eC'e];exact PySem.W.mg_of X G aC'e,by rw [eC'f];exact PySem.W.mg_of X G aC'f,by rw [eC'g];exact PySem.W.mg_of X G aC'g,by rw [eC'h];exact PySem.W.mg_of X G aC'h,by rw [eC'i];exact PySem.W.mg_of X G aC'i,by rw [eC'j];exact PySem.W.mg_of X G aC'j,by rw [eC'k];exact PySem.W.mg_of X G aC'k,by rw [eC'l];exact PySem.W.mg_of X G aC'l,by rw [eC'm];exact PySem.W.mg_of X G aC'm,by rw [eC'n];exact PySem.W.mg_of X G aC'n,by rw [eC'o];exact PySem.W.mg_of X G aC'o,by rw [eC'p];exact PySem.W.mg_of X G aC'p,by rw [eC'a];exact PySem.W.mg_of X G aC'a,by rw [eC'b];exact⟨_,_,_,_,_,_,_,_,_,_,_,_,_,_,_,_,_,lC'b,rfl⟩,by rw [eC'c];exact⟨_,_,_,_,_,_,_,_,_,_,_,_,_,_,_,_,_,lC'c,rfl⟩,by rw [eC'd];exact⟨_,_,_,_,_,_,_,_,_,_,_,_,_,_,_,_,_,lC'd,rfl⟩,by rw [eC'e];exact⟨_,_,_,_,_,_,_,_,_,_,_,_,_,_,_,_,_,lC'e,rfl⟩,by rw [eC'f];exact⟨_,_,_,_,_,_,_,_,_,_,_,_,_,_,_,_,_,lC'f,rfl⟩,by rw [eC'g];exact⟨_,_,_,_,_,_,_,_,_,_,_,_,_,_,_,_,_,lC'g,rfl⟩,by rw [eC'h];exact⟨_,_,_,_,_,_,_,_,_,_,_,_,_,_,_,_,_,lC'h,rfl⟩,by rw [eC'i];exact⟨_,_,_,_,_,_,_,_,_,_,_,_,_,_,_,_,_,lC'i,rfl⟩,by rw [eC'j];exact⟨_,_,_,_,_,_,_,_,_,_,_,_,_,_,_,_,_,lC'j,rfl⟩,by rw [eC'k];exact⟨_,_,_,_,_,_,_,_,_,_,_,_,_,_,_,_,_,lC'k,rfl⟩,by rw [eC'l];exact⟨_,_,_,_,_,_,_,_,_,_,_,_,_,_,_,_,_,lC'l,rfl⟩,by rw [eC'm];exact⟨_,_,_,_,_,_,_,_,_,_,_,_,_,_,_,_,_,lC'm,rfl⟩,by rw [eC'n];exact⟨_,_,_,_,_,_,_,_,_,_,_,_,_,_,_,_,_,lC'n,rfl⟩,by rw [eC'o];exact⟨_,_,_,_,_,_,_,_,_,_,_,_,_,_,_,_,_,lC'o,rfl⟩,by rw [eC'p];exact⟨_,_,_,_,_,_,_,_,_,_,_,_,_,_,_,_,_,lC'p,rfl⟩,by rw [eC'a];exact⟨_,_,_,_,_,_,_,_,_,_,_,_,_,_,_,_,_,lC'a,rfl⟩,by rw [eC'e];exact rO xq'e,by rw [eC'e];exact kc'e,by rw [eC'g];exact rO xq'g,by rw [eC'g];exact kc'g,by rw [eC'h];exact rO xq'h,by rw [eC'h];exact kc'h,by rw [eC'j];exact rO xq'j,by rw [eC'j];exact kc'j,by rw [eC'o];exact rO xq'o,by rw [eC'o];exact kc'o,by rw [eC'p];exact rO xq'p,by rw [eC'p];exact kc'p⟩
 have D'0:=bW d1 X G;have D'1:=bW d2 X G;have D'3:sM K mg "is_text" gm [.int 0,.int 4000]:=⟨⟨f3,dT3,oc3,od3,an3,dd3,kV3,dc3,pm3,cd3,ct3,sl3,st3,[.int 0 u3_0,.int 4000 u3_1],n3,l3,c3,k3,PySem.W.mg_of X G a3,t3,(.cons ⟨_,rfl⟩ (.cons ⟨_,rfl⟩ .nil))⟩⟩
 have D'7:=bW d4 X G;have D'15:=bW d5 X G;have D'16:=bW d6 X G;have D'17:=bW d7 X G;have D'18:=bW d8 X G;have D'19:=bW d9 X G;have D'20:=bW d10 X G;have D'22:=bW d11 X G;have D'27:=bW d12 X G;have D'2:=bW d13 X G;have D'4:=bW d14 X G;have D'6:=bW d15 X G;have D'8:=bW d16 X G;have D'21:=bW d17 X G
 have D'23:=bW d18 X G;have D'24:=bW d19 X G;have D'25:=bW d20 X G;have D'5:=bW d21 X G;have D'9:=bW d22 X G;have D'10:=bW d23 X G;have D'12:=bW d24 X G;have D'26:=bW d25 X G;have D'11:=bW d26 X G;have D'13:=bW d27 X G;have D'14:=bW d28 X G;have D'28:=bW d29 X G;have D'29:=bW d30 X G
 have D'30:=bW d31 X G;have D'33:=bW d32 X G;have D'34:=bW d33 X G;have D'31:=bW d34 X G;have D'32:=bW d35 X G;have D'35:=bW d36 X G;have T:Txt mg:=⟨PySem.W.mg_none_of X G z1,PySem.W.mg_none_of X G z2,PySem.W.mg_none_of X G z3,PySem.W.mg_none_of X G z4,PySem.W.mg_none_of X G z5,PySem.W.mg_none_of X G z6,PySem.W.mg_none_of X G z7,PySem.W.mg_none_of X G z8,PySem.W.mg_none_of X G z9,PySem.W.mg_none_of X G z10,PySem.W.mg_none_of X G z11,PySem.W.mg_none_of X G z12,PySem.W.mg_none_of X G z13,PySem.W.mg_none_of X G z14,PySem.W.mg_none_of X G z15,PySem.W.mg_none_of X G z16,⟨_,PySem.W.mg_of X G y1⟩,⟨_,PySem.W.mg_of X G y2⟩⟩
 refine BF (st:=xY) hfa D'35 (fun _ _ _ _ _ _ s v=>.of_eq rfl) fun base=>?_
 have C_TooMany_init:rM l.prog w K mg base 1 (aT K "TooMany") "TooMany" "most":=by
  rw [eC'b];exact gR (je (st:=fX) xl'b xc0'b xk'b) mf rfl (fun _ _ _ _ _ _ us hl=>match us,hl with|[_,_],_=>rfl) (fun cdv A outer s H E=>al (eT K rfl (pv 0) (pv 1) rfl)) ⟨xc'b,tl_,xi'b,xt'b,kc'b⟩ xn'b (PySem.W.mg_of X G aC'b)
 have C_NoPiece_init:rM l.prog w K mg base 1 (aT K "NoPiece") "NoPiece" "at":=by
  rw [eC'c];exact gR (je (st:=fY) xl'c xc0'c xk'c) mh rfl (fun _ _ _ _ _ _ us hl=>match us,hl with|[_,_],_=>rfl) (fun cdv A outer s H E=>al (eT K rfl (pv 0) (pv 1) rfl)) ⟨xc'c,tl_,xi'c,xt'c,kc'c⟩ xn'c (PySem.W.mg_of X G aC'c)
 have C_NoLap_init:rM l.prog w K mg base 1 (aT K "NoLap") "NoLap" "k":=by
  rw [eC'd];exact gR (je (st:=iN) xl'd xc0'd xk'd) pq rfl (fun _ _ _ _ _ _ us hl=>match us,hl with|[_,_],_=>rfl) (fun cdv A outer s H E=>al (eT K rfl (pv 0) (pv 1) rfl)) ⟨xc'd,tl_,xi'd,xt'd,kc'd⟩ xn'd (PySem.W.mg_of X G aC'd)
 have C_NotHeld_init:rM l.prog w K mg base 1 (aT K "NotHeld") "NotHeld" "at":=by
  rw [eC'f];exact gR (je (st:=fZ) xl'f xc0'f xk'f) mj rfl (fun _ _ _ _ _ _ us hl=>match us,hl with|[_,_],_=>rfl) (fun cdv A outer s H E=>al (eT K rfl (pv 0) (pv 1) rfl)) ⟨xc'f,tl_,xi'f,xt'f,kc'f⟩ xn'f (PySem.W.mg_of X G aC'f)
 have C_TooGreat_init:rM l.prog w K mg base 1 (aT K "TooGreat") "TooGreat" "most":=by
  rw [eC'i];exact gR (je (st:=fj) xl'i xc0'i xk'i) lm rfl (fun _ _ _ _ _ _ us hl=>match us,hl with|[_,_],_=>rfl) (fun cdv A outer s H E=>al (eT K rfl (pv 0) (pv 1) rfl)) ⟨xc'i,tl_,xi'i,xt'i,kc'i⟩ xn'i (PySem.W.mg_of X G aC'i)
 have C_NotApart_init:rM l.prog w K mg base 1 (aT K "NotApart") "NotApart" "at":=by
  rw [eC'k];exact gR (je (st:=fm) xl'k xc0'k xk'k) ln rfl (fun _ _ _ _ _ _ us hl=>match us,hl with|[_,_],_=>rfl) (fun cdv A outer s H E=>al (eT K rfl (pv 0) (pv 1) rfl)) ⟨xc'k,tl_,xi'k,xt'k,kc'k⟩ xn'k (PySem.W.mg_of X G aC'k)
 have C_NoCounts_init:rM l.prog w K mg base 1 (aT K "NoCounts") "NoCounts" "at":=by
  rw [eC'l];exact gR (je (st:=fo) xl'l xc0'l xk'l) lp rfl (fun _ _ _ _ _ _ us hl=>match us,hl with|[_,_],_=>rfl) (fun cdv A outer s H E=>al (eT K rfl (pv 0) (pv 1) rfl)) ⟨xc'l,tl_,xi'l,xt'l,kc'l⟩ xn'l (PySem.W.mg_of X G aC'l)
 have C_NotCovered_init:rM l.prog w K mg base 1 (aT K "NotCovered") "NotCovered" "at":=by
  rw [eC'm];exact gR (je (st:=dR) xl'm xc0'm xk'm) j1 rfl (fun _ _ _ _ _ _ us hl=>match us,hl with|[_,_],_=>rfl) (fun cdv A outer s H E=>al (eT K rfl (pv 0) (pv 1) rfl)) ⟨xc'm,tl_,xi'm,xt'm,kc'm⟩ xn'm (PySem.W.mg_of X G aC'm)
 have C_NoLine_init:rM l.prog w K mg base 1 (aT K "NoLine") "NoLine" "at":=by
  rw [eC'n];exact gR (je (st:=hX) xl'n xc0'n xk'n) ny rfl (fun _ _ _ _ _ _ us hl=>match us,hl with|[_,_],_=>rfl) (fun cdv A outer s H E=>al (eT K rfl (pv 0) (pv 1) rfl)) ⟨xc'n,tl_,xi'n,xt'n,kc'n⟩ xn'n (PySem.W.mg_of X G aC'n)
 have C'0:=wK (P:=l.prog) (w:=w) (base:=base) D'0 T TX;have C'1:=qY (P:=l.prog) (w:=w) (base:=base) D'1 T TX;have C'3:=uA (P:=l.prog) (w:=w) (base:=base) D'3 T TX;have C'7:=uB (P:=l.prog) (w:=w) (base:=base) D'7 T TX;have C'15:=sx (P:=l.prog) (w:=w) (base:=base) D'15 T TX;have C'16:=sy (P:=l.prog) (w:=w) (base:=base) D'16 T TX
 have C'17:=rd (P:=l.prog) (w:=w) (base:=base) D'17 T TX;have C'18:=sA (P:=l.prog) (w:=w) (base:=base) D'18 T TX;have C'19:=nJ (P:=l.prog) (w:=w) (base:=base) D'19 T TX;have C'20:=pL (P:=l.prog) (w:=w) (base:=base) D'20 T TX;have C'22:=sB (P:=l.prog) (w:=w) (base:=base) D'22 T TX;have C'27:=sC (P:=l.prog) (w:=w) (base:=base) D'27 T TX
 have C'2:=nI (P:=l.prog) (w:=w) (base:=base) D'2 T TX C'1 C'0;have C'4:=su (P:=l.prog) (w:=w) (base:=base) D'4 T TX C'1;have C'6:=qZ (P:=l.prog) (w:=w) (base:=base) D'6 T TX C'3;have C'8:=lx (P:=l.prog) (w:=w) (base:=base) D'8 T TX C'7;have C'21:=re (P:=l.prog) (w:=w) (base:=base) D'21 T TX C'20 C'16 C'19
 have C'23:=nK (P:=l.prog) (w:=w) (base:=base) D'23 T TX C'22;have C'24:=nL (P:=l.prog) (w:=w) (base:=base) D'24 T TX C'22;have C'25:=rf (P:=l.prog) (w:=w) (base:=base) D'25 T TX C'17;have C'5:=iT (P:=l.prog) (w:=w) (base:=base) D'5 T TX C'0 C'4;have C'9:=mP (P:=l.prog) (w:=w) (base:=base) D'9 T TX C_NoPiece_init C_TooMany_init C'6
 have C'10:=sv (P:=l.prog) (w:=w) (base:=base) D'10 T TX C'8;have C'12:=kF (P:=l.prog) (w:=w) (base:=base) D'12 T TX C'2 C'0 C'4;have C'26:=nM (P:=l.prog) (w:=w) (base:=base) D'26 T TX C'24 C'25;have C'11:=yi (P:=l.prog) (w:=w) (base:=base) D'11 T TX C_NotCovered_init C'9 C'10
 have C'13:=sw (P:=l.prog) (w:=w) (base:=base) D'13 T TX C'7 C'12;have C'14:=rc (P:=l.prog) (w:=w) (base:=base) D'14 T TX C'5 C'10;have C'28:=ka (P:=l.prog) (w:=w) (base:=base) D'28 T TX C'17 C'18 C'11;have C'29:=mY (P:=l.prog) (w:=w) (base:=base) D'29 T TX C'17 C'18 C'11
 have C'30:=mZ (P:=l.prog) (w:=w) (base:=base) D'30 T TX C'17 C'18 C'11;have C'33:=nN (P:=l.prog) (w:=w) (base:=base) D'33 T TX C'17 C'11;have C'34:=kH (P:=l.prog) (w:=w) (base:=base) D'34 T TX C'11;have C'31:=m5 (P:=l.prog) (w:=w) (base:=base) D'31 T TX C'29 C'30;have C'32:=kG (P:=l.prog) (w:=w) (base:=base) D'32 T TX C'27 C'26 C'23 C'28 C'14 C'11 C'13
 exact (CF (P:=l.prog) (w:=w) (base:=base) D'35 T TX C'21 C'15 C'34 C'16 C'31 C'32 C'33 C'11).imp fun _ _ _ _ h=>zN h
end K60

open PySem PySem.W PyProof.Rows
local macro_rules | `(tactic| walk_at "fn") => `(tactic| (refine' L2.Cp ?a ?l ?c ?k; (case a => k_is); (case l => k_is); (case c => k_is); (case k => k_is)))
local macro_rules | `(tactic| walk_at "xi") => `(tactic| (refine' L2.DQ ?a ?l ?g ?h ?s ?c ?k; (case a => k_is); (case l => k_is); (case g => k_is); (case h => k_is); (case s => k_is); (case c => k_is); (case k => k_is)))
local macro_rules | `(tactic| walk_at "xj") => `(tactic| (refine' L2.DR ?i ?t ?l ?c ?k ?n; (case i => k_is); (case t => k_is); (case l => k_is); (case c => k_is); (case k => k_is); (case n => k_is)))
set_option maxRecDepth 100000 in
set_option maxHeartbeats 0 in
theorem PySem.Challenge.cw_shortglue_k60_cover_holds : PySem.Challenge.rw_shortglue_k60_cover.Holds := by
  refine topHd ?_
  k_fill
  refine L2.BG (l := PySem.Challenge.rw_shortglue_k60_cover) (k := 7) (x := "_law_script") rfl rfl ⟨rfl, by decide, by decide⟩ (fun w h Y => PySem.W.kIn_of Y) ?F
  case F =>
    intro w mg fa h KX G hmg
    refine' K60.CG KX G hmg ?aC'a ?lC'a ?xq'a ?b'b ?j'b ?b'c ?j'c ?b'd ?j'd ?b'e ?xq'e ?b'f ?j'f ?b'g ?xq'g ?b'h ?xq'h ?b'i ?j'i ?b'j ?xq'j ?b'k ?j'k ?b'l ?j'l ?b'm ?j'm ?b'n ?j'n ?b'o ?xq'o ?b'p ?xq'p ?d1 ?d2 ?a3 ?l3 ?c3 ?k3 ?t3 ?d4 ?d5 ?d6 ?d7 ?d8 ?d9 ?d10 ?d11 ?d12 ?d13 ?d14 ?d15 ?d16 ?d17 ?d18 ?d19 ?d20 ?d21 ?d22 ?d23 ?d24 ?d25 ?d26 ?d27 ?d28 ?d29 ?d30 ?d31 ?d32 ?d33 ?d34 ?d35 ?d36 ?z1 ?z2 ?z3 ?z4 ?z5 ?z6 ?z7 ?z8 ?z9 ?z10 ?z11 ?z12 ?z13 ?z14 ?z15 ?z16 ?y1 ?y2
    (case aC'a => k_is)
    (case lC'a => k_is)
    (case xq'a => k_exc)
    (case b'b => walk_at "xi")
    (case j'b => walk_at "xj")
    (case b'c => walk_at "xi")
    (case j'c => walk_at "xj")
    (case b'd => walk_at "xi")
    (case j'd => walk_at "xj")
    (case b'e => walk_at "xi")
    (case xq'e => k_exc)
    (case b'f => walk_at "xi")
    (case j'f => walk_at "xj")
    (case b'g => walk_at "xi")
    (case xq'g => k_exc)
    (case b'h => walk_at "xi")
    (case xq'h => k_exc)
    (case b'i => walk_at "xi")
    (case j'i => walk_at "xj")
    (case b'j => walk_at "xi")
    (case xq'j => k_exc)
    (case b'k => walk_at "xi")
    (case j'k => walk_at "xj")
    (case b'l => walk_at "xi")
    (case j'l => walk_at "xj")
    (case b'm => walk_at "xi")
    (case j'm => walk_at "xj")
    (case b'n => walk_at "xi")
    (case j'n => walk_at "xj")
    (case b'o => walk_at "xi")
    (case xq'o => k_exc)
    (case b'p => walk_at "xi")
    (case xq'p => k_exc)
    (case d1 => walk_at "fn")
    (case d2 => walk_at "fn")
    (case a3 => k_is)
    (case l3 => k_is)
    (case c3 => k_is)
    (case k3 => k_is)
    (case t3 => k_is)
    (case d4 => walk_at "fn")
    (case d5 => walk_at "fn")
    (case d6 => walk_at "fn")
    (case d7 => walk_at "fn")
    (case d8 => walk_at "fn")
    (case d9 => walk_at "fn")
    (case d10 => walk_at "fn")
    (case d11 => walk_at "fn")
    (case d12 => walk_at "fn")
    (case d13 => walk_at "fn")
    (case d14 => walk_at "fn")
    (case d15 => walk_at "fn")
    (case d16 => walk_at "fn")
    (case d17 => walk_at "fn")
    (case d18 => walk_at "fn")
    (case d19 => walk_at "fn")
    (case d20 => walk_at "fn")
    (case d21 => walk_at "fn")
    (case d22 => walk_at "fn")
    (case d23 => walk_at "fn")
    (case d24 => walk_at "fn")
    (case d25 => walk_at "fn")
    (case d26 => walk_at "fn")
    (case d27 => walk_at "fn")
    (case d28 => walk_at "fn")
    (case d29 => walk_at "fn")
    (case d30 => walk_at "fn")
    (case d31 => walk_at "fn")
    (case d32 => walk_at "fn")
    (case d33 => walk_at "fn")
    (case d34 => walk_at "fn")
    (case d35 => walk_at "fn")
    (case d36 => walk_at "fn")
    (case z1 => k_is)
    (case z2 => k_is)
    (case z3 => k_is)
    (case z4 => k_is)
    (case z5 => k_is)
    (case z6 => k_is)
    (case z7 => k_is)
    (case z8 => k_is)
    (case z9 => k_is)
    (case z10 => k_is)
    (case z11 => k_is)
    (case z12 => k_is)
    (case z13 => k_is)
    (case z14 => k_is)
    (case z15 => k_is)
    (case z16 => k_is)
    (case y1 => k_is)
    (case y2 => k_is)
