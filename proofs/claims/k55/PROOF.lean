import PyProof.Rows.All
import Wide.All
import OpenK.AllK
import Wide.FinOn
import Lean
import PyProof.EqAt
import PyProof.EqKinds
import PyProof.TupleCall
import KE.KSortTup
import PyProof.FString
import PyProof.StrBlock
import KE.KRevSl
import PyProof.StrLawsReplace
import PyProof.StrCalls6
import PyProof.MinMaxWalk
import PyProof.WalkInts
import PyProof.NeKinds
import KE.KEqDict
import PyProof.Rows.SumAny
import KE.KMinKey
import PyProof.Rows.CallKwBuiltin
import KE.KIntText
import PySem.Challenge.RW_shortglue_k55_often_bound
set_option Elab.async false
set_option linter.all false
set_option maxRecDepth 100000
open List (all_cons all_eq_false all_eq_true all_map any_cons any_eq_false any_eq_true any_map append_assoc append_nil append_toArray cons_append cons_lt_cons_iff contains_iff_mem drop_drop drop_eq_getElem_cons drop_eq_nil_of_le drop_left drop_suffix drop_take drop_zero eq_of_mem_replicate eraseIdxIfInBounds_toArray eraseIdx_eq_take_drop_succ ext_getElem ext_getElem? extract_eq_take_drop extract_toArray filterMap_append filterMap_cons filterMap_eq_map filterMap_eq_nil_iff filterMap_map filter_cons find?_cons find?_eq_none find?_eq_some_iff_append flatMap_append flatMap_cons flatMap_nil flatten_cons flatten_nil foldl_cons forIn_cons forIn_nil getD_eq_getElem?_getD getElem?_append_left getElem?_append_right getElem?_cons_succ getElem?_eq_getElem getElem?_eq_none getElem?_inj getElem?_map getElem?_range getElem?_replicate getElem?_set_ne getElem?_set_self getElem?_take getElem?_take_of_lt getElem?_zip_eq_some getElem_cons_drop getElem_inj getElem_map getElem_mem getElem_of_mem getElem_range getElem_toArray getElem_zip isEmpty_iff length_append length_cons length_drop length_eq_zero_iff length_eraseIdx length_filter_le length_flatten length_map length_nil length_pos_iff length_pos_of_mem length_range length_replicate length_set length_singleton length_take length_zip lookup_append lookup_cons map_append map_congr_left map_cons map_drop map_fst_zip map_map map_nil map_replicate map_set map_snd_zip map_take mem_append mem_append_left mem_append_right mem_cons mem_cons_of_mem mem_cons_self mem_filter mem_filterMap mem_flatMap mem_flatten mem_iff_getElem mem_iff_getElem? mem_map mem_map_of_mem mem_of_getElem? mem_of_mem_drop mem_of_mem_take mem_or_eq_of_mem_set mem_range mem_range'_1 mem_replicate mem_singleton nil_append nil_suffix nodup_append nodup_cons nodup_nil not_mem_nil of_mem_zip pairwise_append pairwise_cons pairwise_lt_range perm_append_comm perm_append_singleton range_succ range_succ_eq_map replicate_succ replicate_zero set_comm set_cons_succ set_cons_zero size_toArray suffix_iff_eq_drop sum_append sum_cons sum_nil sum_replicate_nat tail_cons take_add_one take_append_drop take_left take_length take_nil take_of_length_le take_sublist take_succ take_succ_cons take_take take_zero zipIdx_cons zipIdx_nil)
open Nat (eq_zero_or_pos le_add_right le_antisymm le_of_ble_eq_true le_of_eq le_of_lt le_of_not_lt le_of_succ_le le_succ le_trans lt_of_lt_of_le lt_or_ge lt_succ_of_lt lt_succ_self lt_trans max_le min_eq_left min_eq_right min_le_right mul_le_mul mul_le_mul_right mul_pos mul_zero ne_of_gt ne_of_lt not_lt not_lt_zero not_succ_le_self sub_self succ_le_succ succ_mul zero_le)
open Int (add_zero ediv_nonneg ediv_one emod_lt_of_pos emod_nonneg fdiv_eq_ediv_of_nonneg fmod_eq_emod_of_nonneg le_ediv_of_mul_le mul_le_mul_of_nonneg_left mul_nonneg mul_one mul_sub natCast_add natCast_zero neg_neg pow_succ toNat_natCast toNat_of_nonneg zero_mul)
open Bool (and_eq_false_iff and_eq_false_imp and_eq_true and_eq_true_iff beq_eq_decide_eq false_eq_true not_eq_true or_eq_true)
local macro_rules | `(tactic| walk_at "o")=>`(tactic| first | exact Or.inl rfl | exact Or.inr rfl | exact Or.inr (Or.inl rfl) | exact Or.inr (Or.inr rfl))
set_option maxHeartbeats 4000000
noncomputable section
namespace L2
open PySem PySem.W
def lp(tb:String->Option Builtin)(p:Program)(w:World)(n₀:Nat)(ann:Option Value):Nat->SharedT->Thread->Option SharedT
 | 0,_,_=>none
 | n+1,s,t=>match through t with
  | true=>some s
  | false=>match stepOk n₀ ann t with
   | false=>none
   | true=>match stepT (denote tb) p w s t with
    | some (s',t')=>lp tb p w n₀ ann n s' t'
    | none=>none
theorem lq{tb:String->Option Builtin}{p:Program}{w:World}{n₀:Nat}{ann:Option Value}:∀{n:Nat}{s s':SharedT}{t:Thread},lp tb p w n₀ ann n s t=some s'->topRun tb p w n₀ ann n s.abs t=some s'.abs
 | 0,_,_,_,h=>by cases h
 | n+1,s,s',t,h=>by
  unfold lp at h;unfold topRun
  cases he:through t with
  | true=>rw [he] at h;cases h;rfl
  | false =>
   rw [he] at h
   cases hk:stepOk n₀ ann t with
   | false=>rw [hk] at h;cases h
   | true =>
    rw [hk] at h
    cases hs:stepT (denote tb) p w s t with
    | none=>rw [hs] at h;cases h
    | some r=>obtain⟨s₂,t₂⟩:=r;rw [hs] at h;rw [stepT_spec hs];exact lq h
def sV:List Obj->Nat->BT->BT
 | [],_,t=>t
 | o::r,i,t=>sV r (i+1) (t.ins i o)
def zV(P:Params):BT:=sV (boot_heap P).objs.toList 0 .nil
theorem xX:∀P,absHeap (zV P) (boot_heap P).objs.size (boot_heap P).life=boot_heap P:=fun P=>by kernel_rfl
theorem E9{p q:Program}{loose:List Str}{Xt:Shared->Bool}{α:Type}{Yf:Shared->α}{Ya:World->α}{N:Nat}{g0:Bool}{m₀:Nat}{ann:Option Value}
  (e:opening p=plainProg p.main.scope.names) (hN:Nat.ble 600 N=true) (f:∀s,fenceModules? p s=some s)
  (size:∀w:World,((boot_heap w.params).isNs mainGlobals && (Array.mk []:Array GenState).size == 0,(boot_heap w.params).objs.size,(boot_heap w.params).nsMap mainGlobals "__annotations__")=(true,m₀,ann))
  (run:∀(w:World) (os:OsState),(lp treeTable p w m₀ ann N ⟨zV w.params,m₀,(boot_heap w.params).life,Array.mk [],boot_drawn,boot_toks,os⟩ (topStub p)).map (fun sT=>((staticsOk (importedModules p.main.body) (boot_heap w.params) sT.abs.heap && namesBound p sT.abs.heap && gensDone sT.abs && laidKept (boot_heap w.params) sT.abs.heap),openSeen q loose (importedModules p.main.body) Xt g0 sT.abs,Yf sT.abs))=some (true,openGood q loose,Ya w)):LeftO p q loose Xt Yf Ya N g0:=fun w=>by
 obtain⟨⟨h,gs,d,k,os⟩,e,e'⟩:=Option.map_eq_some_iff.mp (boot_open e hN f w);obtain⟨rfl,rfl,rfl,rfl⟩:h=boot_heap w.params/\gs=Array.mk []/\d=boot_drawn/\k=boot_toks:=by simpa using e'
 obtain⟨z1,z2,z3⟩:_/\_/\_:=by simpa only [Prod.mk.injEq] using size w
 obtain⟨sT,r,l⟩:=Option.map_eq_some_iff.mp (run w os);obtain⟨l1,l2,l3⟩:_/\_/\_:=by simpa only [Prod.mk.injEq] using l
 have r:=lq r
 rw [show SharedT.abs ⟨zV w.params,m₀,(boot_heap w.params).life,Array.mk [],boot_drawn,boot_toks,os⟩=⟨boot_heap w.params,Array.mk [],boot_drawn,boot_toks,os⟩ by
  unfold SharedT.abs;dsimp only;rw [<- z2,xX]] at r
 have t:topFrom treeTable p w N ⟨boot_heap w.params,Array.mk [],boot_drawn,boot_toks,os⟩=some sT.abs:=by
  unfold topFrom;dsimp only;rw [z1,z2,z3,r];show (match staticsOk (importedModules p.main.body) (boot_heap w.params) sT.abs.heap && namesBound p sT.abs.heap && gensDone sT.abs && laidKept (boot_heap w.params) sT.abs.heap with|true=>_|false=>_)=_;rw [l1]
 unfold openEnds;rw [e];show (topFrom treeTable p w N _).map _=_;rw [t];exact congrArg some (Prod.ext l2 l3)
end L2
namespace L2
open PySem PySem.W
theorem zW{p q:Program}{loose:List Str}{Xt:Shared->Bool}{α:Type}{Yf:Shared->α}{Ya:World->α}{N:Nat}{g0:Bool}{m₀:Nat}{ann:Option Value}{l rest:List Stmt}{env:Env}{c:Code}{qp pa pb p1:Pos}{n0 nb n1 n2:Nat}{SA S1:World->OsState->SharedT}
  (e:opening p=plainProg p.main.scope.names) (hN:Nat.ble 600 N=true) (f:∀s,fenceModules? p s=some s)
  (size:∀w:World,((boot_heap w.params).isNs mainGlobals && (Array.mk []:Array GenState).size == 0,(boot_heap w.params).objs.size,(boot_heap w.params).nsMap mainGlobals "__annotations__")=(true,m₀,ann))
  (pre:∀(w:World) (os:OsState),topGo treeTable p w m₀ ann n0 ⟨boot_heap w.params,Array.mk [],boot_drawn,boot_toks,os⟩ (topStub p)=some ((SA w os).abs,⟨denote treeTable (.body (l++rest) env),c,pa,[topFrame qp]⟩))
  (blk:∀(w:World) (os:OsState),segRun treeTable p w m₀ ann 1 nb (SA w os).abs (blockOf (l++rest) env c pa [topFrame qp])=some (.next,(SA w os).abs,c,pb))
  (one:∀(w:World) (os:OsState),segRunT treeTable p w m₀ ann 1 n1 (SA w os) (piecesOf l env c pb [topFrame qp])=some (.next,S1 w os,c,p1))
  (hn:N=n0+(nb+(n1+n2)))
  (run:∀(w:World) (os:OsState),(lp treeTable p w m₀ ann n2 (S1 w os) (restOf rest env c p1 [topFrame qp])).map (fun sT=>((staticsOk (importedModules p.main.body) (boot_heap w.params) sT.abs.heap && namesBound p sT.abs.heap && gensDone sT.abs && laidKept (boot_heap w.params) sT.abs.heap),openSeen q loose (importedModules p.main.body) Xt g0 sT.abs,Yf sT.abs))=some (true,openGood q loose,Ya w)):LeftO p q loose Xt Yf Ya N g0:=fun w=>by
 obtain⟨⟨h,gs,d,k,os⟩,e,e'⟩:=Option.map_eq_some_iff.mp (boot_open e hN f w);obtain⟨rfl,rfl,rfl,rfl⟩:h=boot_heap w.params/\gs=Array.mk []/\d=boot_drawn/\k=boot_toks:=by simpa using e'
 obtain⟨z1,z2,z3⟩:_/\_/\_:=by simpa only [Prod.mk.injEq] using size w
 obtain⟨sT,r,l⟩:=Option.map_eq_some_iff.mp (run w os);obtain⟨l1,l2,l3⟩:_/\_/\_:=by simpa only [Prod.mk.injEq] using l
 have r:=go_top (pre w os) (piece_block (blk w os) (piece_app (segRun_of (one w os)) (lq r)));rw [<- hn] at r
 have t:topFrom treeTable p w N ⟨boot_heap w.params,Array.mk [],boot_drawn,boot_toks,os⟩=some sT.abs:=by
  unfold topFrom;dsimp only;rw [z1,z2,z3,r];show (match staticsOk (importedModules p.main.body) (boot_heap w.params) sT.abs.heap && namesBound p sT.abs.heap && gensDone sT.abs && laidKept (boot_heap w.params) sT.abs.heap with|true=>_|false=>_)=_;rw [l1]
 unfold openEnds;rw [e];show (topFrom treeTable p w N _).map _=_;rw [t];exact congrArg some (Prod.ext l2 l3)
def zhE(P:Params)(x:Str)(t:Nat)(v:Value):DictEntry:=⟨PyData.keyHash P x,.str x t,v⟩
def zhT(xs:List Value):Obj:=⟨.type "tuple",none,.seq xs.toArray 0,#[]⟩
def zhF(xs:List Value):Obj:=⟨.none,none,.fields xs.toArray,#[]⟩
def zhD(es:List DictEntry)(n:Nat):Obj:=⟨.type "dict",none,.dict es.toArray n,#[]⟩
def zhG(c:Str)(xs:List Value):Obj:=⟨.type c.toString,none,.fields xs.toArray,#[]⟩
def BO(xs:List Obj):List (Nat×Obj)->List Obj
 | []=>xs
 | p::r=>BO (xs.set p.1 p.2) r
def zhM(p:Program)(i j:Nat):Stmt:=match p.main.body.getD i (.Pass ⟨0,0,0,0⟩) with
 | .ClassDef _ _ _ body _ _ _ _ _ _ _=>body.getD j (.Pass ⟨0,0,0,0⟩)
 | s=>s
def zhN(k:Value)(s:Stmt)(x q:Str)(g:Addr)(m c:Value):Obj:=match s with
 | .FunctionDef _ a b _ _ _ sc _ _ _=>⟨k,none,.func { name:=x,qualname:=q,params:=a,body:=.stmts b,scope:=sc,globals:=g,closure:=[],defaults:=.none,kwdefaults:=.none,pyModule:=m,code:=c },#[]⟩
 | _=>default
def zhK(x q:Str)(t l n f e:Nat)(b:Bool)(j k r:Value)(u:Nat):Obj:=⟨.type "code",none,.fields #[.str x t,.str q (t+1),.str "/claim/cut.py" (t+2),.int l 0,.int n 0,.int 0 0,.int 0 0,.int f 0,.ref e,.bool b,.int 181 0,.ref (e+1),.none,j,k,r,.int u 0,.int l 0,.str "/claim/cut.py" (u+1)],#[]⟩
def zhQ:Value:=.str "shortglue.errors" 187
def zhU(P:Params)(x:Str)(a t l n:Nat)(es:List DictEntry)(f:List Value):List Obj:=[zhT [.ref 24],zhG "builtin_function_or_method" [.builtin "type.__prepare__",.type "type"],zhD (zhE P "__module__" (t+7) zhQ::zhE P "__qualname__" (t+9) (.str x (t+8))::zhE P "__firstlineno__" (t+11) (.int l (t+10))::es) n,zhT [],zhF f,zhK x x (t+2) l 0 0 (a+3) false .none .none .none (t+5),⟨.type "frame",none,.plain,#[some (.ref (a+5)),some (.ref 3),some (.ref (a+2)),none,some zhQ,none,some (.ref 0)]⟩,zhT []]
def zhV(P:Params)(x:Str)(a t l c:Nat)(es:List DictEntry):List Obj:=[zhD (zhE P "__module__" (t+7) zhQ::zhE P "__firstlineno__" (t+11) (.int l (t+10))::es) 2,⟨.type "type",none,.cls { name:=x,bases:=[.ref 24],mro:=[.ref c,.ref 24,.type "ValueError",.type "Exception",.type "BaseException",.type "object"],ns:=c - 1,qualname:=x,hasDict:=true,slotNames:=[],subclasses:=[],abstract:=false,collection:=none,hasDel:=false },#[some (.ref a),none,some (.str x t),some (.str x (t+8)),some (.builtin "ValueError.__new__"),some (.bool true)]⟩,zhG "super" [.ref c,.ref c,.ref c],zhG "builtin_function_or_method" [.builtin "object.__init_subclass__",.ref c]]
def zhX(P:Params)(x:Str)(a t l:Nat):List Obj:=zhU P x a t l 4 [zhE P "__static_attributes__" (t+12) (.ref (a+7))] []++zhV P x a t l (a+9) [zhE P "__static_attributes__" (t+12) (.ref (a+7)),zhE P "__doc__" (t+13) .none]
def zhY(P:Params)(p:Program)(x q f:Str)(i a t l:Nat):List Obj:=zhU P x a t l 5 [zhE P "__init__" (t+19) (.ref (a+13)),zhE P "__static_attributes__" (t+21) (.ref (a+14))] [.int (l+2:Nat) 0,.int 4 0,.ref (a+12)]++[zhF [],zhT [.str "self" (t+15),.str f (t+16)],zhT [],zhN .none (zhM p i 0) "__init__" q 0 .none .none,zhK "__init__" q (t+12) (l+2) 2 3 (a+7) true (.ref (a+9)) (.ref (a+10)) (.ref (a+11)) (t+17),zhN (.type "function") (zhM p i 0) "__init__" q 3 zhQ (.ref (a+12)),zhT [.str f (t+20)]]++zhV P x a t l (a+16) [zhE P "__init__" (t+19) (.ref (a+13)),zhE P "__static_attributes__" (t+21) (.ref (a+14)),zhE P "__doc__" (t+22) .none]
end L2
section
open PySem PySem.W PyProof.Rows L2
def zzA(P:Params):BT:=sV ((boot_heap P).objs.toList++[zhT [],
  zhF [],
  ⟨(.type "code"),none,(.fields #[(.str "<module>" 182),(.str "<module>" 183),(.str "/claim/cut.py" 184),(.int (1) 0),(.int (0) 0),(.int (0) 0),(.int (0) 0),(.int (0) 0),(.ref 11),(.bool false),(.int (181) 0),(.ref 12),.none,.none,.none,.none,(.int (185) 0),(.int (1) 0),(.str "/claim/cut.py" 186)]),#[]⟩,
  ⟨(.type "frame"),none,.plain,#[(some (.ref 13)),(some (.ref 3)),(some (.ref 3)),none,(some (.str "__main__" 164)),none,(some (.ref 0))]⟩]) 0 .nil
def zz1(P:Params):BT:=sV (BO (boot_heap P).objs.toList [(3,zhD [zhE P "__name__" 165 (.str "shortglue.kinds" 332),zhE P "__doc__" 166 .none,zhE P "__package__" 167 .none,zhE P "__loader__" 168 (.builtin "__main__.__loader__#opaque"),zhE P "__spec__" 169 .none,zhE P "__annotations__" 170 (.ref 6),zhE P "__builtins__" 171 (.ref 4),zhE P "__file__" 173 (.str "/claim/cut.py" 172),zhE P "__cached__" 174 .none,zhE P "GlueError" 206 (.ref 24),zhE P "TooMany" 231 (.ref 44),zhE P "NoPiece" 256 (.ref 63),zhE P "TooGreat" 281 (.ref 82),zhE P "NotApart" 306 (.ref 101),zhE P "NoCounts" 331 (.ref 120),zhE P "is_row" 340 (.ref 129)] 16)]++[zhT [],
  zhF [(.int (2) 0),(.int (0) 0),(.ref 20),(.int (4) 0),(.int (0) 0),(.ref 33),(.int (8) 0),(.int (0) 0),(.ref 52),(.int (12) 0),(.int (0) 0),(.ref 71),(.int (16) 0),(.int (0) 0),(.ref 90),(.int (20) 0),(.int (0) 0),(.ref 109),(.int (25) 0),(.int (0) 0),(.ref 128)],
  ⟨(.type "code"),none,(.fields #[(.str "<module>" 182),(.str "<module>" 183),(.str "/claim/cut.py" 184),(.int (1) 0),(.int (0) 0),(.int (0) 0),(.int (0) 0),(.int (0) 0),(.ref 11),(.bool false),(.int (181) 0),(.ref 12),.none,.none,.none,.none,(.int (185) 0),(.int (1) 0),(.str "/claim/cut.py" 186)]),#[]⟩,
  ⟨(.type "frame"),none,.plain,#[(some (.ref 13)),(some (.ref 3)),(some (.ref 3)),none,(some (.str "__main__" 164)),none,(some (.ref 0))]⟩,
  zhT [(.type "ValueError")],
  zhG "builtin_function_or_method" [(.builtin "type.__prepare__"),(.type "type")],
  zhD [zhE P "__module__" 196 (.str "shortglue.errors" 187),zhE P "__qualname__" 198 (.str "GlueError" 197),zhE P "__firstlineno__" 200 (.int (2) 199),zhE P "__static_attributes__" 201 (.ref 22)] 4,
  zhT [],
  zhF [],
  ⟨(.type "code"),none,(.fields #[(.str "GlueError" 191),(.str "GlueError" 192),(.str "/claim/cut.py" 193),(.int (2) 0),(.int (0) 0),(.int (0) 0),(.int (0) 0),(.int (0) 0),(.ref 18),(.bool false),(.int (181) 0),(.ref 19),.none,.none,.none,.none,(.int (194) 0),(.int (2) 0),(.str "/claim/cut.py" 195)]),#[]⟩,
  ⟨(.type "frame"),none,.plain,#[(some (.ref 20)),(some (.ref 3)),(some (.ref 17)),none,(some (.str "shortglue.errors" 187)),none,(some (.ref 0))]⟩,
  zhT [],
  zhD [zhE P "__module__" 196 (.str "shortglue.errors" 187),zhE P "__firstlineno__" 200 (.int (2) 199),zhE P "__static_attributes__" 201 (.ref 22),zhE P "__weakref__" 203 (.ref 25),zhE P "__doc__" 204 .none] 3,
  ⟨(.type "type"),none,(.cls { name:="GlueError",bases:=[(.type "ValueError")],mro:=[(.ref 24),(.type "ValueError"),(.type "Exception"),(.type "BaseException"),(.type "object")],ns:=23,qualname:="GlueError",hasDict:=true,slotNames:=[],subclasses:=[(.ref 44),(.ref 63),(.ref 82),(.ref 101),(.ref 120)],abstract:=false,collection:=none,hasDel:=false }),#[(some (.ref 15)),none,(some (.str "GlueError" 189)),(some (.str "GlueError" 197)),(some (.builtin "ValueError.__new__")),(some (.bool true))]⟩,
  ⟨(.type "getset_descriptor"),none,(.fields #[(.str "__weakref__" 202),(.ref 24),(.builtin "ExceptionGroup.__weakref__"),.none]),#[]⟩,
  zhG "super" [(.ref 24),(.ref 24),(.ref 24)],
  zhG "builtin_function_or_method" [(.builtin "object.__init_subclass__"),(.ref 24)]]++zhY P PySem.Challenge.pw_shortglue_k55_often_bound "TooMany" "TooMany.__init__" "most" 2 28 207 4++zhY P PySem.Challenge.pw_shortglue_k55_often_bound "NoPiece" "NoPiece.__init__" "at" 3 47 232 8++zhY P PySem.Challenge.pw_shortglue_k55_often_bound "TooGreat" "TooGreat.__init__" "most" 4 66 257 12++zhY P PySem.Challenge.pw_shortglue_k55_often_bound "NotApart" "NotApart.__init__" "at" 5 85 282 16++zhY P PySem.Challenge.pw_shortglue_k55_often_bound "NoCounts" "NoCounts.__init__" "at" 6 104 307 20++[zhT [],
  zhF [],
  zhT [(.str "thing" 337)],
  zhT [],
  zhN .none (zhM PySem.Challenge.pw_shortglue_k55_often_bound 8 0) "is_row" "is_row" 0 .none .none,
  ⟨(.type "code"),none,(.fields #[(.str "is_row" 334),(.str "is_row" 335),(.str "/claim/cut.py" 336),(.int (25) 0),(.int (1) 0),(.int (0) 0),(.int (0) 0),(.int (3) 0),(.ref 123),(.bool true),(.int (181) 0),(.ref 124),.none,(.ref 125),(.ref 126),(.ref 127),(.int (338) 0),(.int (25) 0),(.str "/claim/cut.py" 339)]),#[]⟩,
  zhN (.type "function") (zhM PySem.Challenge.pw_shortglue_k55_often_bound 8 0) "is_row" "is_row" 3 (.str "shortglue.kinds" 332) (.ref 128)]) 0 .nil
def zzV:Env:={ scope:=(PySem.Challenge.pw_shortglue_k55_often_bound).main.scope,locals:=mainNs,globals:=mainNs,cells:=[],code:=(.ref 13),frame:=some 14 }
abbrev zzC:Code:=.body ((behindTheImports PySem.Challenge.pw_shortglue_k55_often_bound).take 9++(behindTheImports PySem.Challenge.pw_shortglue_k55_often_bound).drop 9) zzV
abbrev BP(w:World)(os:OsState):SharedT:=⟨zzA w.params,15,(boot_heap w.params).life,Array.mk [],boot_drawn,187,os⟩
abbrev Fa(w:World)(os:OsState):SharedT:=⟨zz1 w.params,130,(boot_heap w.params).life,Array.mk [],boot_drawn,341,os⟩
theorem BQ:∀(w:World) (os:OsState),topGo treeTable PySem.Challenge.pw_shortglue_k55_often_bound w 11 (some (.ref 6)) 12 ⟨boot_heap w.params,Array.mk [],boot_drawn,boot_toks,os⟩ (topStub PySem.Challenge.pw_shortglue_k55_often_bound)=some ((BP w os).abs,⟨denote treeTable zzC,zzC,⟨0,0,0,0⟩,[topFrame ⟨0,0,0,0⟩]⟩):=by intro w os;kernel_rfl
theorem BR:∀(w:World) (os:OsState),segRun treeTable PySem.Challenge.pw_shortglue_k55_often_bound w 11 (some (.ref 6)) 1 1 (BP w os).abs (blockOf ((behindTheImports PySem.Challenge.pw_shortglue_k55_often_bound).take 9++(behindTheImports PySem.Challenge.pw_shortglue_k55_often_bound).drop 9) zzV zzC ⟨0,0,0,0⟩ [topFrame ⟨0,0,0,0⟩])=some (.next,(BP w os).abs,zzC,⟨0,0,0,0⟩):=by intro w os;kernel_rfl
theorem BS:∀(w:World) (os:OsState),segRunT treeTable PySem.Challenge.pw_shortglue_k55_often_bound w 11 (some (.ref 6)) 1 1459 (BP w os) (piecesOf ((behindTheImports PySem.Challenge.pw_shortglue_k55_often_bound).take 9) zzV zzC ⟨0,0,0,0⟩ [topFrame ⟨0,0,0,0⟩])=some (.next,Fa w os,zzC,⟨25,0,26,43⟩):=by intro w os;kernel_rfl
end
section
open PySem PySem.W PyProof.Rows
def zX:Program:=PySem.W.view PySem.Challenge.pw_shortglue_k55_often_bound [1,2,3,4,5,6,8,9,10,11,12,14,15,17,18,19,21,22,24,25,26,28,30,31,32,33,34,35,36,38,39,40,41,42,43,44,45,46,47,48,49,50,51,52,53,54,55,56,57,58,59]
local macro_rules | `(tactic| o_head $H)=>`(tactic| (refine holds_open (q:=zX) (loose:=[PySem.Str.ofString "is_text"]) (Xt:=fun s=>xlAt zX [] s && recOk (RowW.records (OpenRow.toRowW (OpenLaw.row PySem.Challenge.rw_shortglue_k55_often_bound))) s) (XP:=XL zX []) (Yf:=Hook.obs $H) (Ya:=Hook.val $H) (YP:=Hook.says $H) (N:=2994) ?hl (Hook.of $H) (Hook.keeps $H) (fun s e=>xl_of s (and_eq_true_iff.mp e).1) XL.keeps (by rfl) (by rfl) (by rfl) (fun s e=>recFacts_of (and_eq_true_iff.mp e).2) (by rfl) (by first | assumption | decide +kernel) (by decide +kernel) ⟨rfl,rfl,rfl,rfl,rfl,by decide +kernel⟩ ?hw ?hc;(case hl=>(refine L2.zW (m₀:=11) (ann:=some (.ref 6)) (SA:=BP) (S1:=Fa) (n2:=1522) (by kernel_rfl) (by rfl) (fun s=>by kernel_rfl) (fun w=>by kernel_rfl) BQ BR BS (by rfl) ?_;intro w os;kernel_rfl))))
set_option maxRecDepth 100000 in
set_option maxHeartbeats 0 in
open_top topHd for PySem.Challenge.rw_shortglue_k55_often_bound
end
-- CHANGE: your row's module here,as the last of these rows
namespace L2
open PySem PySem.Spec PyProof.Rows
abbrev Key:=Sum Int Str
def ul:Key->Value->Bool
 | .inl k,v=>Value.isInt k v
 | .inr x,v=>Value.isStrOf x v
def FA(w:World):Key->Int
 | .inl k=>hashInt k
 | .inr x=>hashStr w x
theorem cI:∀{k:Key}{v:Value},ul k v=true->(∃i t,k=Sum.inl i/\v=Value.int i t)\/(∃x t,k=Sum.inr x/\v=Value.str x t)
 | .inl i,v,h=>by
  obtain⟨t,e⟩:=Value.isInt_shape (k:=i) (v:=v) h;exact .inl ⟨i,t,rfl,e⟩
 | .inr x,v,h=>by
  obtain⟨t,e⟩:=Value.isStrOf_shape (x:=x) (v:=v) h;exact .inr ⟨x,t,rfl,e⟩
theorem vo(i:Int)(t:Tok):ul (.inl i) (.int i t)=true:=by simp [ul,Value.isInt]
theorem vp(x:Str)(t:Tok):ul (.inr x) (.str x t)=true:=by simp [ul,Value.isStrOf]
theorem BU(a b:Int):decide ((Sum.inl a:Key)=Sum.inl b)=(a == b):=by
 by_cases e:a=b
 .subst e;simp
 .have h:¬ (Sum.inl a:Key)=Sum.inl b:=fun q=>e (Sum.inl.inj q);rw [decide_eq_false h];exact (beq_eq_false_iff_ne.mpr e).symm
theorem BV(a b:Str):decide ((Sum.inr a:Key)=Sum.inr b)=decide (a=b):=by
 by_cases e:a=b
 .subst e;simp
 .have h:¬ (Sum.inr a:Key)=Sum.inr b:=fun q=>e (Sum.inr.inj q);rw [decide_eq_false h,decide_eq_false e]
theorem BW(a:Int)(b:Str):decide ((Sum.inl a:Key)=Sum.inr b)=false:=decide_eq_false (fun q=>nomatch q)
theorem BX(a:Str)(b:Int):decide ((Sum.inr a:Key)=Sum.inl b)=false:=decide_eq_false (fun q=>nomatch q)
def fC(prog:Program)(w:World):PySem.KeyKind prog w Key where
 is:=ul
 hash:=FA w
 inj:=fun v a b ha hb=>by
  rcases cI ha with ⟨i,t,rfl,rfl⟩|⟨x,t,rfl,rfl⟩
  .rcases cI hb with ⟨j,u,rfl,e⟩|⟨y,u,rfl,e⟩
   .injection e with e1 _;rw [e1]
   .exact nomatch e
  .rcases cI hb with ⟨j,u,rfl,e⟩|⟨y,u,rfl,e⟩
   .exact nomatch e
   .injection e with e1 _;rw [e1]
 byValue:=fun k v h=>by
  rcases cI h with ⟨i,t,rfl,rfl⟩|⟨x,t,rfl,rfl⟩ <;> rfl
 pyHash:=fun hv h=>by
  rcases cI hv with ⟨i,t,rfl,rfl⟩|⟨x,t,rfl,rfl⟩
  .exact wpAny_pyHash_int h
  .exact wpAny_pyHash_str h
 eqBool:=fun hu hv h=>by
  rcases cI hu with ⟨i,t,rfl,rfl⟩|⟨x,t,rfl,rfl⟩
  .rcases cI hv with ⟨j,u,rfl,rfl⟩|⟨y,u,rfl,rfl⟩
   .rw [BU] at h;exact wpAny_eqBool_int h
   .rw [BW] at h;exact SeqAt.EqAt.int_str i t y u _ _ _ _ h
  .rcases cI hv with ⟨j,u,rfl,rfl⟩|⟨y,u,rfl,rfl⟩
   .rw [BX] at h;exact SeqAt.EqAt.str_int x t j u _ _ _ _ h
   .rw [BV] at h;exact wpAny_eqBool_str h
 «strs»:=fun k x t v h=>by
  rcases cI h with ⟨i,u,rfl,e⟩|⟨y,u,rfl,e⟩
  .exact nomatch e
  .injection e with e1 _;subst e1;cases v <;> rfl
theorem rF(prog:Program)(w:World)(i:Int)(t:Tok):(fC prog w).is (.inl i) (.int i t)=true:=vo i t
theorem rG(prog:Program)(w:World)(x:Str)(t:Tok):(fC prog w).is (.inr x) (.str x t)=true:=vp x t
inductive V where
 | non|bl (b:Bool)|int (i:Int)|str (x:Str)|byt (b:Array UInt8)|flt (b:UInt64)|ref (a:Addr)|ty (n:String)
 deriving DecidableEq
def dw:V->Value->Prop
 | .non,u=>u=Value.none
 | .bl b,u=>u=Value.bool b
 | .int i,u=>∃t,u=Value.int i t
 | .str x,u=>∃t,u=Value.str x t
 | .byt b,u=>∃t,u=Value.bytes b t
 | .flt b,u=>∃t,u=Value.float b t
 | .ref a,u=>u=Value.ref a
 | .ty n,u=>u=Value.type n
abbrev cG:List V->List Value->Prop:=Paired dw
theorem cG.length{xs:List V}{us:List Value}(r:cG xs us):xs.length=us.length:=Paired.length r
theorem cG.get:∀{xs:List V}{us:List Value}{i:Nat}{x:V},cG xs us->xs[i]?=some x->∃u,us[i]?=some u/\dw x u
 | _,_,_,_,.nil,e=>by simp at e
 | _,_,0,_,.cons r _,e=>by simp at e;subst e;exact⟨_,rfl,r⟩
 | _,_,i+1,x,.cons _ t,e=>by
  obtain⟨u,h1,h2⟩:=cG.get (i:=i) (x:=x) t (by simpa using e);exact⟨u,by simpa using h1,h2⟩
theorem cG.set{x:V}{u:Value}(r:dw x u):∀{xs:List V}{us:List Value} (i:Nat),cG xs us->cG (xs.set i x) (us.set i u)
 | _,_,_,.nil=>.nil
 | _,_,0,.cons _ t=>.cons r t
 | _,_,i+1,.cons q t=>.cons q (cG.set r i t)
theorem cG.append:∀{xs ys:List V}{us ws:List Value},cG xs us->cG ys ws->cG (xs++ys) (us++ws)
 | _,_,_,_,.nil,s=>s
 | _,_,_,_,.cons r t,s=>.cons r (cG.append t s)
theorem cG.take:∀{xs:List V}{us:List Value} (n:Nat),cG xs us->cG (xs.take n) (us.take n)
 | _,_,0,_=>.nil
 | _,_,_+1,.nil=>.nil
 | _,_,n+1,.cons r t=>.cons r (cG.take n t)
theorem cG.drop:∀{xs:List V}{us:List Value} (n:Nat),cG xs us->cG (xs.drop n) (us.drop n)
 | _,_,0,r=>r
 | _,_,_+1,.nil=>.nil
 | _,_,n+1,.cons _ t=>cG.drop n t
def zY:Option V->Option Value->Prop
 | some v,some u=>dw v u
 | none,none=>True
 | _,_=>False
def KV{κ:Type}:List (κ×V)->List (κ×Value)->Prop:=Paired fun (p:κ×V) (q:κ×Value)=>p.1=q.1/\dw p.2 q.2
def kV:Key->V
 | .inl i=>.int i
 | .inr x=>.str x
inductive HO where
 | lst (xs:List V)
 | tup (xs:List V)
 | dK (kvs:List (Key×V))|dT (kvs:List (List Key×V))
 | set (S:Int->Bool) (n:Nat)
 | ins (C dx:Addr) (fs:List (Str×V))
 | own (x:Addr)
 | xd (fs:List (Str×V))
 | met (f x:Addr)
 | rng (lo hi:Int)
 | frz (o:Obj) (u:HO)
 | tbl (ps:Array Value)
 | ext (φ:Heap->Prop)
abbrev Hp:=Addr->Option HO
def upd(H:Hp)(a:Addr)(o:HO):Hp:=fun b=>if b=a then some o else H b
theorem aJ{H:Hp}{a:Addr}{o:HO}:upd H a o a=some o:=by unfold upd;rw [if_pos rfl]
theorem aE{H:Hp}{a b:Addr}{o:HO}(h:b≠a):upd H a o b=H b:=by unfold upd;rw [if_neg h]
theorem a8{H:Hp}{a b:Addr}{o:HO}(h:H a=some o)(h':H b=none):a≠b:=by
 intro e;subst e;rw [h] at h';cases h'
section
variable (P:Program) (w:World)
def cJ(H:Hp)(h:Heap)(a:Addr):HO->Prop
 | .lst xs=>xs.length<=sizeLine/\∃(its:List Value) (n:Nat),cG xs its/\h.get? a=some { cls:=.type "list",data:=.seq its.toArray n }
 | .tup xs=>xs.length<=sizeLine/\∃its:List Value,cG xs its/\IsTup h a its.toArray
 | .dK kvs=>kvs.length<=sizeLine/\(a == sysModules)=false/\∃vs,KV kvs vs/\h.DictOf (fC P w) a vs
 | .dT kvs=>kvs.length<=sizeLine/\(a == sysModules)=false/\∃xs:List (List Key×Addr×Value),
   Paired (fun (p:List Key×V) (q:List Key×Addr×Value)=>p.1=q.1/\H q.2.1=some (.tup (p.1.map kV))/\dw p.2 q.2.2) kvs xs /\
   ∃o es ep,h.get? a=some o/\o.ExactDict/\o.data=.dict es ep/\es.toList=xs.map (entryOfKey (tupleKind (fC P w)))/\(xs.map (·.1)).Nodup
 | .set S n=>h.SetOf (intKind P w) a S n
 | .ins C dx fs=>H dx=some (.own a)/\fs.length<=1000/\dx≠a/\h.get? a=some (PySem.W.instObj C dx) /\
   ∃mA,h.Ns1 dx mA/\(∀f,zY (fs.lookup f) (mA f))/\PySem.Within mA (fs.map (·.1))
 | .own _=>∃o,h.get? a=some o
 | .xd fs=>∃mA,h.Ns1 a mA/\∀f,zY (fs.lookup f) (mA f)
 | .rng lo hi=>∃t u v,h.get? a=some { cls:=.type "range",data:=.fields #[.int lo t,.int hi u,.int 1 v] }
 | .frz o u=>h.get? a=some o/\cJ H h a u
 | .tbl ps=>h.get? a=some { cls:=.none,data:=.fields ps }
 | .met f x=>h.get? a=some (PySem.W.methodObj (.ref f) (.ref x))
 | .ext φ=>φ h/\(∃o,h.get? a=some o)/\∀h1 h2:Heap,φ h1->(∀o,h1.get? a=some o->h2.get? a=some o)->φ h2
def HOk(H:Hp)(h:Heap):Prop:=∀a o,H a=some o->cJ P w H h a o
end
section
variable {P:Program}{w:World}{H H':Hp}{h h':Heap}{a:Addr}{o:HO}
theorem cJ.lt(x:cJ P w H h a o):a<h.objs.size:=by
 cases o with
 | lst xs=>obtain⟨_,_,_,_,e⟩:=x;exact Heap.lt_size e
 | tup xs=>obtain⟨_,_,_,p⟩:=x;exact p.lt
 | dK kvs=>obtain⟨_,_,_,_,o,_,_,e,_⟩:=x;exact Heap.lt_size e
 | dT kvs=>obtain⟨_,_,_,_,o,_,_,e,_⟩:=x;exact Heap.lt_size e
 | set S n=>obtain⟨o,_,_,_,e,_⟩:=x;exact Heap.lt_size e
 | ins C dx fs=>obtain⟨_,_,_,e,_⟩:=x;exact Heap.lt_size e
 | own y=>obtain⟨_,e⟩:=x;exact Heap.lt_size e
 | xd fs=>obtain⟨_,⟨_,_,_,e,_⟩,_⟩:=x;exact Heap.lt_size e
 | rng lo hi=>obtain⟨_,_,_,e⟩:=x;exact Heap.lt_size e
 | frz ob u=>obtain⟨e,_⟩:=x;exact Heap.lt_size e
 | tbl ps=>exact Heap.lt_size (show h.get? a=some _ from x)
 | met f y=>exact Heap.lt_size (show h.get? a=some _ from x)
 | ext φ=>obtain⟨_,⟨_,e⟩,_⟩:=x;exact Heap.lt_size e
theorem Paired.mapP{α β:Type}{F G:α->β->Prop}:∀{l₁:List α}{l₂:List β},Paired F l₁ l₂->(∀a b,F a b->G a b)->Paired G l₁ l₂
 | _,_,.nil,_=>.nil
 | _,_,.cons r t,f=>.cons (f _ _ r) (Paired.mapP t f)
theorem cJ.stay(x:cJ P w H h a o)(k:∀b u,(b=a\/H b=some (.own a))->h.get? b=some u->h'.get? b=some u)
  (ho:∀b,H b=some (.own a)->H' b=some (.own a)) (ht:∀b xs,H b=some (.tup xs)->H' b=some (.tup xs)):cJ P w H' h' a o:=by
 induction o with
 | lst xs=>obtain⟨z,its,n,r,e⟩:=x;exact⟨z,its,n,r,k _ _ (.inl rfl) e⟩
 | tup xs=>obtain⟨z,its,r,ob,e,c⟩:=x;exact⟨z,its,r,ob,k _ _ (.inl rfl) e,c⟩
 | dK kvs=>obtain⟨z,y,vs,r,ob,es,ep,e,c⟩:=x;exact⟨z,y,vs,r,ob,es,ep,k _ _ (.inl rfl) e,c⟩
 | dT kvs =>
  obtain⟨z,y,xs,r,ob,es,ep,e,c⟩:=x;exact⟨z,y,xs,Paired.mapP r fun p q z=>⟨z.1,ht _ _ z.2.1,z.2.2⟩,ob,es,ep,k _ _ (.inl rfl) e,c⟩
 | set S n=>obtain⟨ob,es,ep,t,e,c⟩:=x;exact⟨ob,es,ep,t,k _ _ (.inl rfl) e,c⟩
 | ins C dx fs =>
  obtain⟨d,z,ne,e,mA,⟨od,es,ep,e2,c⟩,r⟩:=x;exact⟨ho _ d,z,ne,k _ _ (.inl rfl) e,mA,⟨od,es,ep,k _ _ (.inr d) e2,c⟩,r⟩
 | own y=>obtain⟨ob,e⟩:=x;exact⟨ob,k _ _ (.inl rfl) e⟩
 | xd fs=>obtain⟨mA,⟨od,es,ep,e,c⟩,r⟩:=x;exact⟨mA,⟨od,es,ep,k _ _ (.inl rfl) e,c⟩,r⟩
 | rng lo hi=>obtain⟨t,u,v,e⟩:=x;exact⟨t,u,v,k _ _ (.inl rfl) e⟩
 | frz ob u ih=>obtain⟨e,q⟩:=x;exact⟨k _ _ (.inl rfl) e,ih q⟩
 | tbl ps =>
  have e:h.get? a=some { cls:=.none,data:=.fields ps }:=x;show h'.get? a=some { cls:=.none,data:=.fields ps };exact k a _ (.inl rfl) e
 | met f y =>
  have e:h.get? a=some (PySem.W.methodObj (.ref f) (.ref y)):=x;show h'.get? a=some (PySem.W.methodObj (.ref f) (.ref y));exact k a _ (.inl rfl) e
 | ext φ=>obtain⟨p,⟨o,e⟩,st⟩:=x;exact⟨st _ _ p fun o q=>k _ _ (.inl rfl) q,⟨o,k _ _ (.inl rfl) e⟩,st⟩
theorem HOk.lt(x:HOk P w H h)(e:H a=some o):a<h.objs.size:=(x a o e).lt
theorem HOk.fresh(x:HOk P w H h)(e:h.objs.size<=a):H a=none:=by
 cases q:H a with
 | none=>rfl
 | some u=>exact absurd (lt_of_lt_of_le (x.lt q) e) (Nat.lt_irrefl _)
theorem HOk.kept(x:HOk P w H h)(k:∀b u,h.get? b=some u->h'.get? b=some u):HOk P w H h':=fun a o e =>
 (x a o e).stay (fun b u _ q=>k b u q) (fun _ q=>q) fun _ _ q=>q
theorem HOk.laid(x:HOk P w H h)(k:∀b u,h.get? b=some u->h'.get? b=some u)(hp:h.objs.size<=a)(new:cJ P w (upd H a o) h' a o):HOk P w (upd H a o) h':=fun b u e=>by
 have hn:=x.fresh hp
 by_cases hb:b=a
 .subst hb;rw [aJ] at e;cases e;exact new
 .rw [aE hb] at e;exact (x b u e).stay (fun c v _ q=>k c v q) (fun c q=>by rw [aE (a8 q hn)];exact q) fun c xs q=>by rw [aE (a8 q hn)];exact q
end
def Rd(H:Hp)(a:Addr)(u:HO):Prop:=H a=some u\/∃o,H a=some (.frz o u)
theorem Rd.ok{P:Program}{w:World}{H:Hp}{h:Heap}{a:Addr}{u:HO}(r:Rd H a u)(x:HOk P w H h):cJ P w H h a u:=by
 rcases r with r|⟨o,r⟩
 .exact x a u r
 .obtain⟨_,q⟩:=x a _ r;exact q
def Mut:Option HO->Prop
 | some (.lst _)=>True
 | some (.dK _)=>True
 | some (.dT _)=>True
 | some (.set _ _)=>True
 | some (.ins _ _ _)=>True
 | some (.ext _)=>True
 | _=>False
section
variable {P:Program}{w:World}{H:Hp}{h h':Heap}{x e:Addr}{o':HO}
theorem HOk.write(ok:HOk P w H h)(mu:Mut (H x))(he:e=x\/H e=some (.own x))(k:∀b u,b≠e->h.get? b=some u->h'.get? b=some u)(heo:∃u,h'.get? e=some u)
  (new:cJ P w (upd H x o') h' x o'):HOk P w (upd H x o') h':=fun b u q=>by
 have nown:∀c y,H c=some (.own y)->c≠x:=fun c y r z=>by subst z;rw [r] at mu;exact mu
 have ntup:∀c xs,H c=some (.tup xs)->c≠x:=fun c xs r z=>by subst z;rw [r] at mu;exact mu
 by_cases hb:b=x
 .subst hb;rw [aJ] at q;cases q;exact new
 .rw [aE hb] at q
  by_cases hbe:b=e
  .have q':H b=some (.own x):=by
    rcases he with z|z
    .exact absurd (hbe.trans z) hb
    .rw [hbe];exact z
   rw [q] at q';cases q';obtain⟨v,hv⟩:=heo;exact⟨v,by rw [hbe];exact hv⟩
  .refine (ok b u q).stay (fun c v hc r=>k c v ?_ r) (fun c r=>by rw [aE (nown c b r)];exact r) fun c xs r=>by rw [aE (ntup c xs r)];exact r
   rcases hc with rfl|hc
   .exact hbe
   .rintro rfl
    rcases he with z|z
    .exact nown c b hc z
    .rw [hc] at z;cases z;exact hb rfl
end
structure Un (fs ex:List Addr) (H H':Hp) (h h':Heap):Prop where
 keep:∀b o,h.get? b=some o->H b=none->b∉fs->b∉ex->h'.get? b=some o
 slot:∀b o,h.get? b=some o->H b=none->b∈fs->b∉ex->∃sl,h'.get? b=some { o with slots:=sl }
 free:∀b o,h.get? b=some o->H b=none->b∉ex->H' b=none
 there:∀b o,h.get? b=some o->b∉ex->∃o',h'.get? b=some o'
 tups:∀b xs,H b=some (.tup xs)->H' b=some (.tup xs)
 frzs:∀b o u,H b=some (.frz o u)->H' b=some (.frz o u)
 tbls:∀b ps,H b=some (.tbl ps)->∃more,H' b=some (.tbl (ps++more))
section
variable {fs fs' ex ex':List Addr}{H H1 H2:Hp}{h h1 h2 h':Heap}{a x e:Addr}{o:HO}
theorem Un.any(u:Un fs ex H H1 h h1){b:Addr}{ob:Obj}(q:h.get? b=some ob)(n:H b=none)(hx:b∉ex):∃sl,h1.get? b=some { ob with slots:=sl }:=by
 by_cases hb:b∈fs
 .exact u.slot b ob q n hb hx
 .exact⟨ob.slots,u.keep b ob q n hb hx⟩
theorem Un.kept(k:∀b u,h.get? b=some u->h'.get? b=some u):Un fs ex H H h h' :=
 ⟨fun b ob q _ _ _=>k b ob q,fun b ob q _ _ _=>⟨ob.slots,k b ob q⟩,fun _ _ _ n _=>n,fun b ob q _=>⟨ob,k b ob q⟩,fun _ _ q=>q,fun _ _ _ q=>q,fun _ ps q=>⟨#[],by rw [q];simp⟩⟩
theorem Un.refl:Un fs ex H H h h:=Un.kept fun _ _ q=>q
theorem Un.laid(k:∀b u,h.get? b=some u->h'.get? b=some u)(hp:h.objs.size<=a)(hn:H a=none):Un fs ex H (upd H a o) h h' where
 keep:=fun b u q _ _ _=>k b u q
 slot:=fun b u q _ _ _=>⟨u.slots,k b u q⟩
 free:=fun b u q n _=>by rw [aE (ne_of_lt (lt_of_lt_of_le (Heap.lt_size q) hp))];exact n
 there:=fun b u q _=>⟨u,k b u q⟩
 tups:=fun b xs q=>by rw [aE (a8 q hn)];exact q
 frzs:=fun b u xs q=>by rw [aE (a8 q hn)];exact q
 tbls:=fun b ps q=>⟨#[],by rw [aE (a8 q hn),q];simp⟩
theorem Un.write(mu:Mut (H x))(he:e=x\/H e=some (.own x))(k:∀b u,b≠e->h.get? b=some u->h'.get? b=some u)(heo:∃u,h'.get? e=some u):Un fs ex H (upd H x o) h h':=by
 have hx:∀b,H b=none->b≠x:=fun b n z=>by subst z;rw [n] at mu;exact mu
 have hb:∀b,H b=none->b≠e:=fun b n z=>by
  subst z
  rcases he with r|r
  .exact hx b n r
  .rw [n] at r;cases r
 have hm:∀b u,H b=some u->¬ Mut (some u)->b≠x:=fun b u q nm z=>by subst z;rw [q] at mu;exact nm mu
 refine⟨fun b u q n _ _=>k b u (hb b n) q,fun b u q n _ _=>⟨u.slots,k b u (hb b n) q⟩,fun b u q n _=>by rw [aE (hx b n)];exact n,fun b u q _=>?_,
  fun b xs q=>by rw [aE (hm b _ q fun z=>z)];exact q,fun b u xs q=>by rw [aE (hm b _ q fun z=>z)];exact q,fun b ps q=>⟨#[],by rw [aE (hm b _ q fun z=>z),q];simp⟩⟩
 by_cases hbe:b=e
 .subst hbe;exact heo
 .exact⟨u,k b u hbe q⟩
end
def trk(h:Heap)(H:Hp):List Addr:=(List.range h.objs.size).filter fun a=>(H a).isSome
def xY(h:Heap)(H:Hp):Heap:=PySem.W.hideAll h (trk h H)
theorem vq(h:Heap)(H:Hp):(xY h H).objs.size=h.objs.size:=PySem.W.hideAll_size _ _
theorem xZ{h:Heap}{H:Hp}{b:Addr}{o:Obj}(e:h.get? b=some o)(n:H b=none):(xY h H).get? b=some o :=
 PySem.W.hideAll_get _ e fun hm=>by
  have q:(H b).isSome=true:=(mem_filter.mp hm).2;rw [n] at q;simp at q
theorem zZ{h:Heap}{H:Hp}{b:Addr}{o:Obj}(e:(xY h H).get? b=some o):h.get? b=some o/\H b=none:=by
 have e':h.get? b=some o:=PySem.W.of_hideAll (trk h H) e;refine⟨e',?_⟩
 cases q:H b with
 | none=>rfl
 | some x =>
  have hm:b∈trk h H:=mem_filter.mpr ⟨mem_range.mpr (Heap.lt_size e'),by simp [q]⟩;have z:(xY h H).get? b=none:=PySem.W.hideAll_none (trk h H) hm;rw [z] at e;cases e
structure Mod (K:PySem.W.Frag) (mg:Str->Option Value) (base:Heap):Prop where
 kin:K.In base
 glob:base.Ns mainGlobals mg
 blt:∃mb,base.Ns builtinsNs mb/\∀x:Str,x≠"__name__"->mb x=bootBuiltins x
 nolimit:base.NoLimit
structure Cx where
 prog:Program
 w:World
 K:PySem.W.Frag
 mg:Str->Option Value
 base:Heap
 A:Around
 N:List Str
 s₀:Shared
 H₀:Hp
 env:Env
 outer:List Env
 stack:List Env
 ex:List Addr
 fn:Str->Bool
 calm:Bool
 pn:List (Addr×Obj)
 xe:Value->Shared->Prop
def frs(l:List Env):List Addr:=l.filterMap (·.frame)
abbrev Cx.fs(X:Cx):List Addr:=frs X.outer
def Vis(sc:Scope)(x:Str):Prop:=sc.names.lookup x=some .local\/sc.names.lookup x=some .cell\/sc.names.lookup x=some .free
def Loc(sc:Scope)(x:Str):Prop:=sc.names.lookup x=some .local\/sc.names.lookup x=some .cell
def FB(env:Env)(h:Heap)(m:Str->Option Value)(x:Str)(u:Value):Prop :=
 (env.kindOf x=some .local/\m x=some u)\/((env.kindOf x=some .cell\/env.kindOf x=some .free)/\∃c,env.cells.lookup x=some c/\h.IsCell c (some u))
structure Cx.Ok (X:Cx):Prop where
 mod:Mod X.K X.mg X.base
 kind:X.env.scope.kind=.function
 glob:X.env.globals=mainGlobals
 blt:X.env.builtins=builtinsNs
 above:X.s₀.heap.objs.size<=X.env.locals
 inj:∀x y c,X.env.cells.lookup x=some c->X.env.cells.lookup y=some c->x=y
 has:∀x,(X.env.kindOf x=some .cell\/X.env.kindOf x=some .free)->∃c,X.env.cells.lookup x=some c
 cab:∀x c,X.fn x=true->X.env.cells.lookup x=some c->X.s₀.heap.objs.size<=c
 hd:X.calm=true->X.A.handled=none
 frames:X.A.frames=some X.stack
 stk:X.stack=X.outer\/(X.stack=X.env::X.outer/\X.env.frame=some X.env.locals)
 exf:∀b∈X.ex,b≠X.env.locals/\∀x c,X.env.cells.lookup x=some c->c≠b
 bs:∀b o,X.base.get? b=some o->X.s₀.heap.get? b=some o/\X.H₀ b=none
 bsz:X.base.objs.size<=X.s₀.heap.objs.size
 noex:∀b o,X.base.get? b=some o->b∉X.ex
 exfs:∀b∈X.ex,b∉X.fs
 funs:X.s₀.heap.FunFrames X.base X.outer
 frf:∀b∈X.fs,X.H₀ b=none
structure Inv (X:Cx) (pins:List (Addr×Obj)) (σ:List (Option V)) (H:Hp) (s:Shared):Prop where
 ok:X.Ok
 os:s.os=X.s₀.os
 bare:AllBare s.gens
 base:Un X.fs X.ex X.H₀ H X.s₀.heap s.heap
 loc:∃m,s.heap.Ns X.env.locals m/\∀(i:Nat) (x:Str) (v:V),X.N[i]?=some x->σ[i]?=some (some v)->Vis X.env.scope x->∃u,dw v u/\FB X.env s.heap m x u
 cell:∀x c,X.env.cells.lookup x=some c->∃v,s.heap.IsCell c v
 free:H X.env.locals=none
 freeC:∀x c,X.env.cells.lookup x=some c->H c=none
 pin:∀p∈X.pn++pins,s.heap.get? p.1=some p.2/\H p.1=none/\p.1≠X.env.locals/\p.1∉X.fs/\∀v,p.2.data≠.cell v
 hok:HOk X.prog X.w H s.heap
 len:σ.length=X.N.length
section
variable {X:Cx}{pins:List (Addr×Obj)}{σ:List (Option V)}{H H':Hp}{s:Shared}{h':Heap}
theorem Cx.Ok.nofr(ok:X.Ok){b:Addr}{o:Obj}(e:X.base.get? b=some o):b∉X.fs:=fun hb=>by
 have:=(ok.funs.mem hb).1;rw [e] at this;cases this
theorem Inv.bs(I:Inv X pins σ H s):∀b o,X.base.get? b=some o->s.heap.get? b=some o/\H b=none:=fun b o e =>
 ⟨I.base.keep b o (I.ok.bs b o e).1 (I.ok.bs b o e).2 (I.ok.nofr e) (I.ok.noex b o e),I.base.free b o (I.ok.bs b o e).1 (I.ok.bs b o e).2 (I.ok.noex b o e)⟩
theorem Inv.bk(I:Inv X pins σ H s):∀b o,X.base.get? b=some o->s.heap.get? b=some o:=fun b o e=>(I.bs b o e).1
theorem Inv.mod(I:Inv X pins σ H s):Mod X.K X.mg X.base:=I.ok.mod
theorem Inv.kIn(I:Inv X pins σ H s):X.K.In s.heap:=I.ok.mod.kin.keeps I.bk
theorem Inv.lt(I:Inv X pins σ H s):X.env.locals<s.heap.objs.size:=let ⟨_,hn,_⟩:=I.loc;hn.lt
theorem Inv.sz(I:Inv X pins σ H s):X.s₀.heap.objs.size<=s.heap.objs.size:=le_trans I.ok.above (le_of_lt I.lt)
theorem Inv.nofs(I:Inv X pins σ H s){a:Addr}(h:s.heap.objs.size<=a):a∉X.fs:=fun hb=>by
 obtain⟨_,o,ho,_⟩:=I.ok.funs.mem hb;exact absurd (lt_of_lt_of_le (Heap.lt_size ho) (le_trans I.sz h)) (Nat.lt_irrefl _)
theorem Inv.cne(I:Inv X pins σ H s):∀x c,X.env.cells.lookup x=some c->c≠X.env.locals:=fun x c e z=>by
 obtain⟨v,o,ho,hd⟩:=I.cell x c e;obtain⟨m,⟨o',es,ep,ho',hd',_⟩,_⟩:=I.loc;rw [z,ho'] at ho;cases ho;rw [hd'] at hd;cases hd
theorem Inv.funs(I:Inv X pins σ H s):s.heap.FunFrames X.base X.outer:=by
 have all:∀(l:List Env),(∀b∈frs l,b∈X.fs)->X.s₀.heap.FunFrames X.base l->s.heap.FunFrames X.base l:=by
  intro l
  induction l with
  | nil=>intro _ _;trivial
  | cons env r ih =>
   intro hs hl;obtain⟨hk,⟨L,o,hf,hn,ho,hd⟩,hr⟩:=hl;have hL:L∈X.fs:=hs L (by unfold frs;rw [filterMap_cons,hf];exact mem_cons_self);obtain⟨sl,e⟩:=I.base.slot L o ho (I.ok.frf L hL) hL fun z=>I.ok.exfs L z hL;exact⟨hk,⟨L,_,hf,hn,e,hd⟩,ih (fun b hb=>hs b (by unfold frs;rw [filterMap_cons,hf];exact mem_cons_of_mem _ hb)) hr⟩
 exact all X.outer (fun _ hb=>hb) I.ok.funs
theorem Inv.stack(I:Inv X pins σ H s):s.heap.FunFrames X.base X.stack:=by
 rcases I.ok.stk with e|⟨e,hf⟩
 .rw [e];exact I.funs
 .rw [e];obtain⟨m,hn,_⟩:=I.loc;refine .cons (by rw [I.ok.kind];decide) hf hn ?_ I.funs;exact Heap.get?_none_of_le (le_trans I.ok.bsz I.ok.above)
theorem Inv.stkSub(I:Inv X pins σ H s):∀b∈frs X.stack,b∈X.env.locals::X.fs:=fun b hb=>by
 rcases I.ok.stk with e|⟨e,hf⟩
 .rw [e] at hb;exact mem_cons_of_mem _ hb
 .rw [e] at hb;unfold frs at hb;rw [filterMap_cons,hf] at hb;exact hb
theorem Inv.stkFree(I:Inv X pins σ H s):∀b∈frs X.stack,H b=none:=fun b hb=>by
 rcases mem_cons.mp (I.stkSub b hb) with e|hb
 .rw [e];exact I.free
 .obtain⟨_,o,ho,_⟩:=I.ok.funs.mem hb;exact I.base.free b o ho (I.ok.frf b hb) fun z=>I.ok.exfs b z hb
theorem Inv.step{g':Array GenState}{t':Nat}{d':Drawn}{ch:List Addr}(I:Inv X pins σ H s)
  (hch:∀b∈ch,(b∈X.ex\/X.s₀.heap.objs.size<=b)/\b≠X.env.locals/\(∀x c,X.env.cells.lookup x=some c->c≠b)/\∀p∈X.pn++pins,p.1≠b)
  (keep:∀b o,b≠X.env.locals->b∉X.fs->b∉ch->s.heap.get? b=some o->H b=none->h'.get? b=some o)
  (slot:∀b o,b≠X.env.locals->b∈X.fs->b∉ch->s.heap.get? b=some o->H b=none->∃sl,h'.get? b=some { o with slots:=sl }) (free:∀b o,b∉ch->s.heap.get? b=some o->H b=none->H' b=none)
  (there:∀b o,b∉ch->s.heap.get? b=some o->∃o',h'.get? b=some o')
  (tups:∀b xs,H b=some (.tup xs)->H' b=some (.tup xs)) (frzs:∀b o u,H b=some (.frz o u)->H' b=some (.frz o u)) (tbls:∀b ps,H b=some (.tbl ps)->∃more,H' b=some (.tbl (ps++more)))
  (ns:∀m,s.heap.Ns X.env.locals m->h'.Ns X.env.locals m) (hok:HOk X.prog X.w H' h') (hg:AllBare g') :
  Inv X pins σ H' { s with heap:=h',gens:=g',drawn:=d',toks:=t' }:=by
 have neL:∀b o,X.s₀.heap.get? b=some o->b≠X.env.locals:=fun b o e=>ne_of_lt (lt_of_lt_of_le (Heap.lt_size e) I.ok.above)
 have neC:∀b o,X.s₀.heap.get? b=some o->b∉X.ex->b∉ch:=fun b o e hx hb=>by
  rcases (hch b hb).1 with z|z
  .exact hx z
  .exact absurd (lt_of_lt_of_le (Heap.lt_size e) z) (Nat.lt_irrefl _)
 have cellK:∀x c,X.env.cells.lookup x=some c->∀v,s.heap.IsCell c v->h'.IsCell c v:=fun x c e v ⟨o,ho,hd⟩=>by
  have nch:c∉ch:=fun z=>(hch c z).2.2.1 x c e rfl
  by_cases hc:c∈X.fs
  .obtain⟨sl,q⟩:=slot c o (I.cne x c e) hc nch ho (I.freeC x c e);exact⟨_,q,hd⟩
  .exact⟨o,keep c o (I.cne x c e) hc nch ho (I.freeC x c e),hd⟩
 refine⟨I.ok,I.os,hg,⟨fun b o e n hb hx=>?_,fun b o e n hb hx=>?_,fun b o e n hx=>?_,fun b o e hx=>?_,fun b xs e=>tups b xs (I.base.tups b xs e),fun b o xs e=>frzs b o xs (I.base.frzs b o xs e),fun b ps e=>?_⟩,?_,fun x c e=>?_,?_,fun x c e=>?_,fun p hp=>?_,hok,I.len⟩
 .exact keep b o (neL b o e) hb (neC b o e hx) (I.base.keep b o e n hb hx) (I.base.free b o e n hx)
 .obtain⟨sl,e1⟩:=I.base.slot b o e n hb hx;obtain⟨sl',e2⟩:=slot b _ (neL b o e) hb (neC b o e hx) e1 (I.base.free b o e n hx);exact⟨sl',e2⟩
 .obtain⟨o',e1⟩:=I.base.there b o e hx;exact free b o' (neC b o e hx) e1 (I.base.free b o e n hx)
 .obtain⟨o',e1⟩:=I.base.there b o e hx;exact there b o' (neC b o e hx) e1
 .obtain⟨m1,e1⟩:=I.base.tbls b ps e;obtain⟨m2,e2⟩:=tbls b _ e1;exact⟨m1++m2,by rw [e2,Array.append_assoc]⟩
 .obtain⟨m,hn,hl⟩:=I.loc;refine⟨m,ns m hn,fun i x v e1 e2 e3=>?_⟩;obtain⟨u,r,l⟩:=hl i x v e1 e2 e3;refine⟨u,r,?_⟩
  rcases l with l|⟨k,c,e,z⟩
  .exact .inl l
  .exact .inr ⟨k,c,e,cellK x c e _ z⟩
 .obtain⟨v,z⟩:=I.cell x c e;exact⟨v,cellK x c e v z⟩
 .obtain⟨m,⟨o,_,_,ho,_⟩,_⟩:=I.loc;exact free _ o (fun z=>(hch _ z).2.1 rfl) ho I.free
 .obtain⟨v,o,ho,hd⟩:=I.cell x c e;exact free c o (fun z=>(hch c z).2.2.1 x c e rfl) ho (I.freeC x c e)
 .obtain⟨e,n,ne,nf,d⟩:=I.pin p hp;have nch:p.1∉ch:=fun z=>(hch p.1 z).2.2.2 p hp rfl;exact⟨keep p.1 p.2 ne nf nch e n,free p.1 p.2 nch e n,ne,nf,d⟩
theorem Inv.un{t':Nat}(I:Inv X pins σ H s)(u:Un X.fs [] H H' s.heap h')(hok:HOk X.prog X.w H' h'):Inv X pins σ H' { s with heap:=h',toks:=t' }:=by
 obtain⟨m,⟨o,es,ep,ho,r⟩,_⟩:=id I.loc;obtain⟨sl,hL⟩:=u.any ho I.free (by simp)
 exact I.step (g':=s.gens) (d':=s.drawn) (ch:=[]) (fun _ z=>nomatch z) (fun b o _ hb _ e n=>u.keep b o e n hb (by simp)) (fun b o _ hb _ e n=>u.slot b o e n hb (by simp)) (fun b o _ e n=>u.free b o e n (by simp)) (fun b o _ e=>u.there b o e (by simp)) u.tups u.frzs u.tbls (fun m' hm=>by
  obtain⟨o',es',ep',ho',r'⟩:=hm;rw [ho] at ho';cases ho';exact⟨_,es',ep',hL,r'⟩) hok I.bare
theorem Inv.call{g':Array GenState}{t':Nat}{d':Drawn}{ch:List Addr}(I:Inv X pins σ H s)(u:Un (frs X.stack) ch H H' s.heap h')(hok:HOk X.prog X.w H' h')(hg:AllBare g')
  (hch:∀b∈ch,(b∈X.ex\/X.s₀.heap.objs.size<=b)/\b≠X.env.locals/\(∀x c,X.env.cells.lookup x=some c->c≠b)/\∀p∈X.pn++pins,p.1≠b) :
  Inv X pins σ H' { s with heap:=h',gens:=g',drawn:=d',toks:=t' }:=by
 obtain⟨m,⟨o,es,ep,ho,r⟩,_⟩:=id I.loc;obtain⟨sl,hL⟩:=u.any ho I.free fun z=>(hch _ z).2.1 rfl
 exact I.step (ch:=ch) hch (fun b o hL hb hc e n=>u.keep b o e n (fun z=>(mem_cons.mp (I.stkSub b z)).elim hL hb) hc) (fun b o _ _ hc e n=>u.any e n hc) (fun b o hc e n=>u.free b o e n hc) (fun b o hc e=>u.there b o e hc) u.tups u.frzs u.tbls (fun m' hm=>by
  obtain⟨o',es',ep',ho',r'⟩:=hm;rw [ho] at ho';cases ho';exact⟨_,es',ep',hL,r'⟩) hok hg
theorem Inv.turned{t':Nat}{it:Addr}(I:Inv X pins σ H s)(k:∀b o,b≠it->s.heap.get? b=some o->h'.get? b=some o)(hn:H it=none)(hL:it≠X.env.locals)
  (h1:it∈X.ex\/X.s₀.heap.objs.size<=it) (h2:∀x c,X.env.cells.lookup x=some c->c≠it) (h3:∀p∈X.pn++pins,p.1≠it):Inv X pins σ H { s with heap:=h',toks:=t' }:=by
 have nit:∀b u,H b=some u->b≠it:=fun b u e z=>by rw [z,hn] at e;cases e
 refine I.step (g':=s.gens) (d':=s.drawn) (ch:=[it]) (fun b hb=>?_) (fun b o _ _ hc e _=>k b o (fun z=>hc (by simp [z])) e) (fun b o _ _ hc e _=>⟨o.slots,k b o (fun z=>hc (by simp [z])) e⟩) (fun _ _ _ _ n=>n)
  (fun b o hc e=>⟨o,k b o (fun z=>hc (by simp [z])) e⟩) (fun _ _ e=>e) (fun _ _ _ e=>e) (fun b ps e=>⟨#[],by rw [e];simp⟩) (fun m hm=>?_) (fun b u e=>?_) I.bare
 .have e:b=it:=by simpa using hb
  subst e;exact⟨h1,hL,h2,h3⟩
 .obtain⟨o,es,ep,ho,r⟩:=hm;exact⟨o,es,ep,k _ o (Ne.symm hL) ho,r⟩
 .refine (I.hok b u e).stay (fun c v hc q=>k c v ?_ q) (fun _ q=>q) fun _ _ q=>q
  rcases hc with z|z
  .rw [z];exact nit b u e
  .exact nit c _ z
theorem Inv.tok(I:Inv X pins σ H s)(t:Nat):Inv X pins σ H { s with toks:=t }:=I.un (h':=s.heap) (t':=t) Un.refl I.hok
theorem Inv.kept{t':Nat}(I:Inv X pins σ H s)(k:∀b u,s.heap.get? b=some u->h'.get? b=some u):Inv X pins σ H { s with heap:=h',toks:=t' }:=I.un (Un.kept k) (I.hok.kept k)
theorem Inv.laid{a:Addr}{o:HO}{t':Nat}(I:Inv X pins σ H s)(k:∀b u,s.heap.get? b=some u->h'.get? b=some u)(hp:s.heap.objs.size<=a)(new:cJ X.prog X.w (upd H a o) h' a o) :
  Inv X pins σ (upd H a o) { s with heap:=h',toks:=t' }:=I.un (Un.laid k hp (I.hok.fresh hp)) (I.hok.laid k hp new)
theorem Inv.write{x e:Addr}{o:HO}{t':Nat}(I:Inv X pins σ H s)(mu:Mut (H x))(he:e=x\/H e=some (.own x))(k:∀b u,b≠e->s.heap.get? b=some u->h'.get? b=some u)(heo:∃u,h'.get? e=some u)
  (new:cJ X.prog X.w (upd H x o) h' x o):Inv X pins σ (upd H x o) { s with heap:=h',toks:=t' }:=I.un (Un.write mu he k heo) (I.hok.write mu he k heo new)
theorem Inv.pins_of{pins':List (Addr×Obj)}(I:Inv X pins σ H s)(h:∀p∈pins',s.heap.get? p.1=some p.2/\H p.1=none/\p.1≠X.env.locals/\p.1∉X.fs/\∀v,p.2.data≠.cell v):Inv X pins' σ H s :=
 ⟨I.ok,I.os,I.bare,I.base,I.loc,I.cell,I.free,I.freeC,fun p hp=>(mem_append.mp hp).elim (fun z=>I.pin p (mem_append_left _ z)) (h p),I.hok,I.len⟩
theorem sW{N:List Str}(hN:N.Nodup){i j:Nat}{x:Str}(a:N[i]?=some x)(b:N[j]?=some x):i=j:=by
 obtain⟨h1,e1⟩:=List.getElem?_eq_some_iff.mp a;obtain⟨h2,e2⟩:=List.getElem?_eq_some_iff.mp b;exact (getElem_inj hN).mp (e1.trans e2.symm)
theorem vt{M:Model}{A:Around}{E:Value->Shared->Prop}{i:Nat}{x:Str}{v:V}{u:Value}{Q:Unit->Shared->Prop}(I:Inv X pins σ H s)(hN:X.N.Nodup)(hi:X.N[i]?=some x)(hx:Loc X.env.scope x)(r:dw v u)
  (h:∀s',Inv X pins (σ.set i (some v)) H s'->(∃a,Heap.SameBut a s.heap s'.heap/\(a=X.env.locals\/X.env.cells.lookup x=some a))->Q () s') (hf:X.fn x=true\/X.env.scope.names.lookup x=some .local:=by first|exact .inl rfl|exact .inr rfl|assumption):wpAny M A (storeName X.env x u) Q E s:=by
 obtain⟨m,hn,hl⟩:=id I.loc;have hcls:(X.env.scope.kind == .class || (X.env.scope.kind == .module && X.env.locals != X.env.globals))=false:=by rw [I.ok.kind];rfl
 have hiσ:i<σ.length:=by rw [I.len];exact (List.getElem?_eq_some_iff.mp hi).1
 have cne:=I.cne
 have tracked:∀{a:Addr}{h':Heap},(∃o,s.heap.get? a=some o/\H a=none)->Heap.SameBut a s.heap h'->HOk X.prog X.w H h':=fun {a h'} ha hs b ob e=>by
  obtain⟨_,_,hfree⟩:=ha;refine (I.hok b ob e).stay (fun c w' hc q=>(hs.2 c ?_).trans q) (fun _ q=>q) fun _ _ q=>q;rintro rfl
  rcases hc with rfl|hc
  .rw [hfree] at e;cases e
  .rw [hfree] at hc;cases hc
 rcases hx with hk|hk
 .refine wpAny_storeName_local hk hn (fun h' hn' hs=>?_) hcls;obtain⟨oL,_,_,hoL,_⟩:=id hn
  refine h _ ⟨I.ok,I.os,I.bare,⟨fun b o e n hb hx=>?_,fun b o e n hb hx=>?_,I.base.free,fun b o e hx=>?_,I.base.tups,I.base.frzs,I.base.tbls⟩,⟨_,hn',fun j y v' e1 e2 e3=>?_⟩,fun y c e=>?_,I.free,I.freeC,fun p hp=>?_,tracked ⟨oL,hoL,I.free⟩ hs,by simpa using I.len⟩ ⟨_,hs,.inl rfl⟩
  .exact (hs.2 b (ne_of_lt (lt_of_lt_of_le (Heap.lt_size e) I.ok.above))).trans (I.base.keep b o e n hb hx)
  .obtain⟨sl,e1⟩:=I.base.slot b o e n hb hx;exact⟨sl,(hs.2 b (ne_of_lt (lt_of_lt_of_le (Heap.lt_size e) I.ok.above))).trans e1⟩
  .obtain⟨o',e1⟩:=I.base.there b o e hx;exact⟨o',(hs.2 b (ne_of_lt (lt_of_lt_of_le (Heap.lt_size e) I.ok.above))).trans e1⟩
  .by_cases hj:j=i
   .subst hj;rw [hi] at e1;cases e1;rw [getElem?_set_self hiσ] at e2;cases e2;exact⟨u,r,.inl ⟨hk,by simp⟩⟩
   .rw [getElem?_set_ne (Ne.symm hj)] at e2;obtain⟨u',r',q⟩:=hl j y v' e1 e2 e3;refine⟨u',r',?_⟩
    rcases q with ⟨k,e⟩|⟨k,c,e,z⟩
    .refine .inl ⟨k,?_⟩;have:y≠x:=fun e=>hj (sW hN e1 (e ▸ hi));simp [this,e]
    .exact .inr ⟨k,c,e,z.sameBut hs (cne y c e)⟩
  .obtain⟨w',z⟩:=I.cell y c e;exact⟨w',z.sameBut hs (cne y c e)⟩
  .obtain⟨e,n,ne,nf,d⟩:=I.pin p hp;exact⟨(hs.2 p.1 ne).trans e,n,ne,nf,d⟩
 .have hfn:X.fn x=true:=by
   rcases hf with z|z
   .exact z
   .rw [z] at hk;cases hk
  obtain⟨c,hc⟩:=I.ok.has x (.inl hk);obtain⟨w',z⟩:=I.cell x c hc;refine wpAny_storeName_cell I.ok.kind hk hc z (fun h' hc' hs=>?_);obtain⟨oc,hoc,hocd⟩:=id z
  refine h { s with heap:=h' } ⟨I.ok,I.os,I.bare,⟨fun b o e n hb hx=>?_,fun b o e n hb hx=>?_,I.base.free,fun b o e hx=>?_,I.base.tups,I.base.frzs,I.base.tbls⟩,⟨m,hn.sameBut hs (Ne.symm (cne x c hc)),fun j y v' e1 e2 e3=>?_⟩,fun y c' e=>?_,I.free,I.freeC,fun p hp=>?_,tracked ⟨oc,hoc,I.freeC x c hc⟩ hs,by simpa using I.len⟩ ⟨c,hs,.inr hc⟩
  .exact (hs.2 b (ne_of_lt (lt_of_lt_of_le (Heap.lt_size e) (I.ok.cab x c hfn hc)))).trans (I.base.keep b o e n hb hx)
  .obtain⟨sl,e1⟩:=I.base.slot b o e n hb hx;exact⟨sl,(hs.2 b (ne_of_lt (lt_of_lt_of_le (Heap.lt_size e) (I.ok.cab x c hfn hc)))).trans e1⟩
  .obtain⟨o',e1⟩:=I.base.there b o e hx;exact⟨o',(hs.2 b (ne_of_lt (lt_of_lt_of_le (Heap.lt_size e) (I.ok.cab x c hfn hc)))).trans e1⟩
  .by_cases hj:j=i
   .subst hj;rw [hi] at e1;cases e1;rw [getElem?_set_self hiσ] at e2;cases e2;exact⟨u,r,.inr ⟨.inl hk,c,hc,hc'⟩⟩
   .rw [getElem?_set_ne (Ne.symm hj)] at e2;obtain⟨u',r',q⟩:=hl j y v' e1 e2 e3;refine⟨u',r',?_⟩
    rcases q with q|⟨k,c',e,z'⟩
    .exact .inl q
    .refine .inr ⟨k,c',e,z'.sameBut hs ?_⟩;rintro rfl;exact hj (sW hN e1 (I.ok.inj _ _ _ e hc ▸ hi))
  .by_cases hcc:c'=c
   .subst hcc;exact⟨_,hc'⟩
   .obtain⟨w2,z2⟩:=I.cell y c' e;exact⟨w2,z2.sameBut hs hcc⟩
  .obtain⟨e,n,ne,nf,d⟩:=I.pin p hp;refine⟨(hs.2 p.1 ?_).trans e,n,ne,nf,d⟩;intro q;rw [q,hoc] at e;have q':oc=p.2:=Option.some.inj e;exact d w' (by rw [<- q'];exact hocd)
theorem lc{M:Model}{A:Around}{E:Value->Shared->Prop}{i:Nat}{x:Str}{v:V}{u:Value}{Q:Unit->Shared->Prop}(I:Inv X pins σ H s)(hN:X.N.Nodup)(hi:X.N[i]?=some x)(hx:Loc X.env.scope x)(r:dw v u)
  (h:∀s',Inv X pins (σ.set i (some v)) H s'->Q () s') (hf:X.fn x=true\/X.env.scope.names.lookup x=some .local:=by first|exact .inl rfl|exact .inr rfl|assumption):wpAny M A (storeName X.env x u) Q E s :=
 vt I hN hi hx r (fun s' I' _=>h s' I') hf
theorem Inv.call'{s':Shared}{ch:List Addr}(I:Inv X pins σ H s)(ho:s'.os=s.os)(u:Un (frs X.stack) ch H H' s.heap s'.heap)(hok:HOk X.prog X.w H' s'.heap)(hg:AllBare s'.gens)
  (hch:∀b∈ch,(b∈X.ex\/X.s₀.heap.objs.size<=b)/\b≠X.env.locals/\(∀x c,X.env.cells.lookup x=some c->c≠b)/\∀p∈X.pn++pins,p.1≠b):Inv X pins σ H' s':=by
 obtain⟨h',g',d',t',o'⟩:=s';have e:o'=s.os:=ho;subst e;exact I.call (g':=g') (t':=t') (d':=d') u hok hg hch
end
abbrev XK:=Value->Option Addr->Hp->Prop
abbrev St:=List (Option V)
abbrev VK:=V->Hp->Prop
abbrev TE:=St->Hp->VK->Prop
abbrev TT:=St->Hp->(Bool->Hp->Prop)->Prop
abbrev TA:=St->Hp->(List V->Hp->Prop)->Prop
structure zi where
 nx:St->Hp->Prop
 rt:VK
 bk:St->Hp->Prop:=fun _ _=>False
 ct:St->Hp->Prop:=fun _ _=>False
abbrev TS:=zi->St->Hp->Prop
def EP(X:Cx)(pins:List (Addr×Obj))(σ:St)(Q:VK)(u:Value)(s':Shared):Prop:=∃v H',Inv X pins σ H' s'/\dw v u/\Q v H'
def TP(X:Cx)(pins:List (Addr×Obj))(σ:St)(Q:Bool->Hp->Prop)(b:Bool)(s':Shared):Prop:=∃H',Inv X pins σ H' s'/\Q b H'
def AP(X:Cx)(pins:List (Addr×Obj))(σ:St)(Q:List V->Hp->Prop)(us:List Value)(s':Shared):Prop:=∃vs H',Inv X pins σ H' s'/\cG vs us/\Q vs H'
def SP(X:Cx)(pins:List (Addr×Obj))(D:zi)(f:Flow)(s':Shared):Prop :=
 match f with
 | .next=>∃σ' H',Inv X pins σ' H' s'/\D.nx σ' H'
 | .brk=>∃σ' H',Inv X pins σ' H' s'/\D.bk σ' H'
 | .cont=>∃σ' H',Inv X pins σ' H' s'/\D.ct σ' H'
 | .ret u=>∃v σ' H',Inv X pins σ' H' s'/\dw v u/\D.rt v H'
def PE(X:Cx)(e:Expr)(t:TE):Prop :=
 ∀(pins:List (Addr×Obj)) (s:Shared) (σ:St) (H:Hp) (Q:VK),Inv X pins σ H s->t σ H Q->wpAny (model X.prog X.w) X.A (eval e X.env) (EP X pins σ Q) X.xe s
def PT(X:Cx)(e:Expr)(t:TT):Prop :=
 ∀(pins:List (Addr×Obj)) (s:Shared) (σ:St) (H:Hp) (Q:Bool->Hp->Prop),Inv X pins σ H s->t σ H Q->wpAny (model X.prog X.w) X.A (isTrue e X.env (eval e X.env)) (TP X pins σ Q) X.xe s
def PW(X:Cx)(e:Expr)(t:TT):Prop :=
 ∀(whole:Sem Value) (pins:List (Addr×Obj)) (s:Shared) (σ:St) (H:Hp) (Q:Bool->Hp->Prop),Inv X pins σ H s->t σ H Q->wpAny (model X.prog X.w) X.A (isTrue e X.env whole) (TP X pins σ Q) X.xe s
theorem PW.pt{X:Cx}{e:Expr}{t:TT}(h:PW X e t):PT X e t:=h _
def PA(X:Cx)(es:List Expr)(t:TA):Prop :=
 ∀(pos:Pos) (pins:List (Addr×Obj)) (s:Shared) (σ:St) (H:Hp) (Q:List V->Hp->Prop),Inv X pins σ H s->t σ H Q->wpAny (model X.prog X.w) X.A (spliced (backTo pos (starEach es X.env))) (AP X pins σ Q) X.xe s
def PS(X:Cx)(st:Stmt)(t:TS):Prop :=
 ∀(pins:List (Addr×Obj)) (s:Shared) (σ:St) (H:Hp) (D:zi),Inv X pins σ H s->t D σ H->wpAny (model X.prog X.w) X.A (exec st X.env) (SP X pins D) X.xe s
def PSs(X:Cx)(st:List Stmt)(t:TS):Prop :=
 ∀(pins:List (Addr×Obj)) (s:Shared) (σ:St) (H:Hp) (D:zi),Inv X pins σ H s->t D σ H->wpAny (model X.prog X.w) X.A (execs st X.env) (SP X pins D) X.xe s
theorem thn{α:Type}{t:Sem α}{Q Q':α->Shared->Prop}{M:Model}{A:Around}{E:Value->Shared->Prop}{s:Shared}(h:wpAny M A t Q E s)(hQ:∀a s,Q a s->Q' a s):wpAny M A t Q' E s:=wpAny_mono h hQ fun _ _ x=>x
section
variable {X:Cx}
def bL(i:Nat):TE:=fun σ H Q=>∃v,σ[i]?=some (some v)/\Q v H
def tC(v:V):TE:=fun _ H Q=>Q v H
theorem BY{i:Nat}{x:Str}{pos:Pos}(hN:X.N[i]?=some x)(hv:Vis X.env.scope x)(hd:(x == ("__debug__":Str))=false:=by decide)(hcd:(x == ("__classdict__":Str))=false:=by decide):PE X (.Name x pos) (bL i):=by
 intro pins s σ H Q I h;obtain⟨v,e,h⟩:=h;obtain⟨m,hn,hl⟩:=I.loc;obtain⟨u,r,l⟩:=hl i x v hN e hv;have fin:EP X pins σ Q u s:=⟨v,H,I,r,h⟩
 rcases l with ⟨hk,hm⟩|⟨hk,c,hc,hcell⟩
 .exact wpAny_Name (wpAny_loadName_local I.ok.kind hk hn hm fin) hd
 .rcases hk with hk|hk
  .exact wpAny_Name (wpAny_loadName_cell I.ok.kind hk hc hcell fin) hd
  .exact wpAny_Name (wpAny_loadName_free I.ok.kind hk hc hcell fin hcd) hd
theorem aq{i j pos}:PE X (.Constant (.int i) j pos) (tC (.int i)):=fun _ _ _ H _ I h=>wpAny_Constant_int ⟨.int i,H,I.tok _,⟨_,rfl⟩,h⟩
theorem kO{b j pos}:PE X (.Constant (.bool b) j pos) (tC (.bl b)):=fun _ _ _ H _ I h=>Constant_bool ⟨.bl b,H,I,rfl,h⟩
theorem gW{j pos}:PE X (.Constant .none j pos) (tC .non):=fun _ _ _ H _ I h=>Constant_none ⟨.non,H,I,rfl,h⟩
theorem BZ{x j pos}:PE X (.Constant (.str x) j pos) (tC (.str x)):=fun _ _ _ H _ I h=>Calls.Constant_str ⟨.str x,H,I.tok _,⟨_,rfl⟩,h⟩
def Gl(X:Cx)(x:Str):Prop:=X.env.kindOf x=some .globalImplicit
theorem rH{E:Value->Shared->Prop}{pins:List (Addr×Obj)}{s:Shared}{σ:St}{H:Hp}{x:Str}{u:Value}{pos:Pos}{Q:Value->Shared->Prop}(I:Inv X pins σ H s)(hg:Gl X x)(hm:X.mg x=some u)(h:Q u s)
  (hd:(x == ("__debug__":Str))=false:=by decide):wpAny (model X.prog X.w) X.A (eval (.Name x pos) X.env) Q E s :=
 Calls.Name_function_global I.ok.kind hg (Calls.loadGlobal_global (by rw [I.ok.glob];exact I.mod.glob.keeps I.bk) hm h) hd
theorem kn{E:Value->Shared->Prop}{pins:List (Addr×Obj)}{s:Shared}{σ:St}{H:Hp}{x:Str}{u:Value}{pos:Pos}{Q:Value->Shared->Prop}(I:Inv X pins σ H s)(hg:Gl X x)(hm:X.mg x=none)(hv:bootBuiltins x=some u)(h:Q u s)
  (hn:x≠"__name__":=by decide) (hd:(x == ("__debug__":Str))=false:=by decide):wpAny (model X.prog X.w) X.A (eval (.Name x pos) X.env) Q E s:=by
 obtain⟨mb,h1,h2⟩:=I.mod.blt;exact Calls.Name_function_global I.ok.kind hg (Calls.loadGlobal_builtin (by rw [I.ok.glob];exact I.mod.glob.keeps I.bk) hm (by rw [I.ok.blt];exact h1.keeps I.bk) ((h2 x hn).trans hv) h) hd
theorem z0{x:Str}{v:V}{u:Value}{pos:Pos}(hg:Gl X x)(hm:X.mg x=some u)(r:dw v u)(hd:(x == ("__debug__":Str))=false:=by decide):PE X (.Name x pos) (tC v) :=
 fun _ _ _ H _ I h=>rH I hg hm ⟨v,H,I,r,h⟩ hd
theorem eV{x:Str}{v:V}{u:Value}{pos:Pos}(hg:Gl X x)(hm:X.mg x=none)(hv:bootBuiltins x=some u)(r:dw v u)(hn:x≠"__name__":=by decide)(hd:(x == ("__debug__":Str))=false:=by decide):PE X (.Name x pos) (tC v) :=
 fun _ _ _ H _ I h=>kn I hg hm hv ⟨v,H,I,r,h⟩ hn hd
variable {a b:Expr}{ta tb:TE}{pos:Pos}
def tB(t:TE):TT:=fun σ H Q=>t σ H fun x H1=>∃c,x=.bl c/\Q c H1
theorem B0{e:Expr}{t:TE}(h:PE X e t)(he:∀whole,isTrue e X.env whole=(do let v <- whole;standAt e.pos;holding [v] (truthy v)):=by intro _;rfl):PT X e (tB t):=by
 intro pins s σ H Q I hw;refine isTrue_plain (thn (h pins s σ H _ I hw) fun v s1 ⟨x,H1,I1,r1,q1⟩=>?_) (he _);obtain⟨d,rfl,q⟩:=q1;cases r1;exact wpAny_truthy_bool ⟨H1,I1,q⟩
variable {tA tB':TT}{rest:List Expr}
def Fb(t u:TT):TT:=fun σ H Q=>t σ H fun c H1=>if c=true then u σ H1 Q else Q false H1
def tOr(t u:TT):TT:=fun σ H Q=>t σ H fun c H1=>if c=true then Q true H1 else u σ H1 Q
def DQ(t:TT):TT:=fun σ H Q=>t σ H fun c H1=>Q (!c) H1
theorem rJ(ha:PT X a tA):PW X (.BoolOp .And [a] pos) tA:=by
 intro wh pins s σ H Q I h;refine isTrue_and (thn (ha pins s σ H Q I h) fun c s1 e=>?_)
 cases c with
 | true=>exact isTrue_and_nil e
 | false=>exact e
theorem jk(ha:PT X a tA):PW X (.BoolOp .Or [a] pos) tA:=by
 intro wh pins s σ H Q I h;refine isTrue_or (thn (ha pins s σ H Q I h) fun c s1 e=>?_)
 cases c with
 | false=>exact isTrue_or_nil e
 | true=>exact e
theorem vv(ha:PT X a tA)(hb:PW X (.BoolOp .And (b::rest) pos) tB'):PW X (.BoolOp .And (a::b::rest) pos) (Fb tA tB'):=by
 intro wh pins s σ H Q I h;refine isTrue_and (thn (ha pins s σ H _ I h) fun c s1 ⟨H1,I1,q1⟩=>?_)
 cases c with
 | true=>exact hb wh pins s1 σ H1 Q I1 q1
 | false=>exact⟨H1,I1,q1⟩
theorem nZ(ha:PT X a tA)(hb:PW X (.BoolOp .Or (b::rest) pos) tB'):PW X (.BoolOp .Or (a::b::rest) pos) (tOr tA tB'):=by
 intro wh pins s σ H Q I h;refine isTrue_or (thn (ha pins s σ H _ I h) fun c s1 ⟨H1,I1,q1⟩=>?_)
 cases c with
 | true=>exact⟨H1,I1,q1⟩
 | false=>exact hb wh pins s1 σ H1 Q I1 q1
theorem dW(ha:PT X a tA):PT X (.UnaryOp .Not a pos) (DQ tA):=by
 intro pins s σ H Q I h;exact isTrue_not (ha pins s σ H (fun c H1=>Q (!c) H1) I h)
def B1(ta tb:TE):TE:=fun σ H Q=>ta σ H fun x H1=>∃c,x=.bl c/\if c=true then tb σ H1 Q else Q (.bl false) H1
def B2(ta:TE):TE:=fun σ H Q=>ta σ H fun x H1=>∃c,x=.bl c/\Q (.bl (!c)) H1
theorem jl{op}{t:TE}(h:PE X a t):PE X (.BoolOp op [a] pos) t:=fun pins s σ H Q I hw=>BoolOp_one (h pins s σ H Q I hw)
theorem gI(ha:PE X a ta)(hb:PE X (.BoolOp .And (b::rest) pos) tb):PE X (.BoolOp .And (a::b::rest) pos) (B1 ta tb):=by
 intro pins s σ H Q I h;refine BoolOp_and (thn (ha pins s σ H _ I h) fun v s1 ⟨x,H1,I1,r1,q1⟩=>?_);obtain⟨c,rfl,q1⟩:=q1;cases r1;refine wpAny_truthy_bool ?_
 cases c with
 | true=>exact hb pins s1 σ H1 Q I1 q1
 | false=>exact⟨.bl false,H1,I1,rfl,q1⟩
theorem vw(ha:PE X a ta):PE X (.UnaryOp .Not a pos) (B2 ta):=by
 intro pins s σ H Q I h;refine UnaryOp_ (thn (ha pins s σ H _ I h) fun v s1 ⟨x,H1,I1,r1,q1⟩=>?_);obtain⟨c,rfl,q1⟩:=q1;cases r1;exact not_of (wpAny_truthy_bool ⟨.bl (!c),H1,I1,rfl,q1⟩)
end
def SqL(K:PySem.W.Frag)(H:Hp)(a:Addr)(xs:List V):Prop :=
 Rd H a (.lst xs) \/
  ∃(o:Obj) (its:Array Value) (n:Nat),K.lookup a=some o/\o.cls=.type "list"/\o.dict=none/\o.data=.seq its n/\its.size<=sizeLine/\cG xs its.toList
def SqT(K:PySem.W.Frag)(H:Hp)(a:Addr)(xs:List V):Prop :=
 Rd H a (.tup xs) \/
  ∃(o:Obj) (its:Array Value) (n:Nat),K.lookup a=some o/\o.cls=.type "tuple"/\o.data=.seq its n/\its.size<=sizeLine/\cG xs its.toList
def FC:Value->Option V
 | .none=>some .non
 | .bool b=>some (.bl b)
 | .int i _=>some (.int i)
 | .str x _=>some (.str x)
 | .bytes b _=>some (.byt b)
 | .float b _=>some (.flt b)
 | .ref a=>some (.ref a)
 | .type n=>some (.ty n)
 | _=>none
theorem dw.abs{x:V}{u:Value}(r:dw x u):FC u=some x:=by
 cases x with
 | non=>cases r;rfl
 | bl _=>cases r;rfl
 | int _=>obtain⟨t,rfl⟩:=r;rfl
 | str _=>obtain⟨t,rfl⟩:=r;rfl
 | byt _=>obtain⟨t,rfl⟩:=r;rfl
 | flt _=>obtain⟨t,rfl⟩:=r;rfl
 | ref _=>cases r;rfl
 | ty _=>cases r;rfl
theorem dw.inj{x y:V}{u:Value}(r:dw x u)(q:dw y u):x=y:=Option.some.inj (r.abs.symm.trans q.abs)
theorem cG.inj:∀{xs ys:List V}{us:List Value},cG xs us->cG ys us->xs=ys
 | _,_,_,.nil,.nil=>rfl
 | _,_,_,.cons r t,.cons r' t'=>by rw [r.inj r',cG.inj t t']
section
variable {X:Cx}{pins:List (Addr×Obj)}{σ:St}{H:Hp}{s:Shared}{a:Addr}{xs ys:List V}
theorem SqL.of{K:PySem.W.Frag}(h:H a=some (.lst xs)):SqL K H a xs:=.inl (.inl h)
theorem SqT.of{K:PySem.W.Frag}(h:H a=some (.tup xs)):SqT K H a xs:=.inl (.inl h)
theorem Inv.list(I:Inv X pins σ H s)(h:SqL X.K H a xs):∃its:List Value,cG xs its/\PlainL s.heap a its.toArray/\xs.length<=sizeLine:=by
 rcases h with h|⟨o,its,n,hk,hc,hd,hs,hz,r⟩
 .obtain⟨z,its,n,r,e⟩:=h.ok I.hok;exact⟨its,r,⟨_,n,e,rfl,rfl,rfl⟩,z⟩
 .refine⟨its.toList,r,⟨o,n,I.kIn a o hk,hc,hd,by simpa using hs⟩,?_⟩;have e:=r.length;simp only [Array.length_toList] at e;omega
theorem Inv.tuple(I:Inv X pins σ H s)(h:SqT X.K H a xs):∃its:List Value,cG xs its/\IsTup s.heap a its.toArray/\xs.length<=sizeLine:=by
 rcases h with h|⟨o,its,n,hk,hc,hs,hz,r⟩
 .obtain⟨z,its,r,p⟩:=h.ok I.hok;exact⟨its,r,p,z⟩
 .refine⟨its.toList,r,⟨o,I.kIn a o hk,hc,n,by simpa using hs⟩,?_⟩;have e:=r.length;simp only [Array.length_toList] at e;omega
theorem Inv.list_inj(I:Inv X pins σ H s)(h:SqL X.K H a xs)(h':SqL X.K H a ys):xs=ys:=by
 obtain⟨its,r,⟨o,n,e,_,_,d⟩,_⟩:=I.list h;obtain⟨its',r',⟨o',n',e',_,_,d'⟩,_⟩:=I.list h';rw [e] at e';cases e';rw [d] at d';injection d' with d1 _;have:its=its':=by simpa using congrArg Array.toList d1
 subst this;exact r.inj r'
theorem Inv.tuple_inj(I:Inv X pins σ H s)(h:SqT X.K H a xs)(h':SqT X.K H a ys):xs=ys:=by
 obtain⟨its,r,⟨o,e,_,n,d⟩,_⟩:=I.tuple h;obtain⟨its',r',⟨o',e',_,n',d'⟩,_⟩:=I.tuple h';rw [e] at e';cases e';rw [d] at d';injection d' with d1 _;have:its=its':=by simpa using congrArg Array.toList d1
 subst this;exact r.inj r'
end
abbrev Cx.wish(X:Cx)(E:Value->Shared->Prop):Cx:={ X with xe:=E }
abbrev Cx.nox(X:Cx):Cx:=X.wish fun _ _=>False
theorem Cx.Ok.wish{X:Cx}(ok:X.Ok)(E:Value->Shared->Prop):(X.wish E).Ok :=
 ⟨ok.mod,ok.kind,ok.glob,ok.blt,ok.above,ok.inj,ok.has,ok.cab,ok.hd,ok.frames,ok.stk,ok.exf,ok.bs,ok.bsz,ok.noex,ok.exfs,ok.funs,ok.frf⟩
theorem Cx.Ok.unwish{X:Cx}{E:Value->Shared->Prop}(ok:(X.wish E).Ok):X.Ok :=
 ⟨ok.mod,ok.kind,ok.glob,ok.blt,ok.above,ok.inj,ok.has,ok.cab,ok.hd,ok.frames,ok.stk,ok.exf,ok.bs,ok.bsz,ok.noex,ok.exfs,ok.funs,ok.frf⟩
section
variable {X:Cx}{pins:List (Addr×Obj)}{σ:St}{H:Hp}{s:Shared}{E:Value->Shared->Prop}
theorem Inv.wish(I:Inv X pins σ H s)(E:Value->Shared->Prop):Inv (X.wish E) pins σ H s:=⟨I.ok.wish E,I.os,I.bare,I.base,I.loc,I.cell,I.free,I.freeC,I.pin,I.hok,I.len⟩
theorem Inv.unwish(I:Inv (X.wish E) pins σ H s):Inv X pins σ H s:=⟨I.ok.unwish,I.os,I.bare,I.base,I.loc,I.cell,I.free,I.freeC,I.pin,I.hok,I.len⟩
theorem SP.unwish{D:zi}{f:Flow}{s':Shared}(h:SP (X.wish E) pins D f s'):SP X pins D f s':=by
 cases f with
 | next=>obtain⟨σ',H',I,q⟩:=h;exact⟨σ',H',I.unwish,q⟩
 | brk=>obtain⟨σ',H',I,q⟩:=h;exact⟨σ',H',I.unwish,q⟩
 | cont=>obtain⟨σ',H',I,q⟩:=h;exact⟨σ',H',I.unwish,q⟩
 | ret u=>obtain⟨v,σ',H',I,r,q⟩:=h;exact⟨v,σ',H',I.unwish,r,q⟩
theorem PSs.nox{st:List Stmt}{t:TS}(h:PSs X.nox st t):PSs X st t:=fun pins s σ H D I hw =>
 wpAny_mono (h pins s σ H D (I.wish _) hw) (fun _ _ q=>q.unwish) fun _ _ z=>False.elim z
end
section
variable {X:Cx}{st:Stmt}{rest:List Stmt}{t u:TS}{e:Expr}{te:TE}{pos:Pos}
def x0:TS:=fun D σ H=>D.nx σ H
def Aa(t u:TS):TS:=fun D σ H=>t { D with nx:=u D } σ H
theorem aX:PSs X [] x0:=fun _ _ σ H _ I h=>wpAny_execs_nil ⟨σ,H,I,h⟩
theorem ai(h1:PS X st t)(h2:PSs X rest u):PSs X (st::rest) (Aa t u):=by
 intro pins s σ H D I h;refine wpAny_execs_cons (thn (h1 pins s σ H { D with nx:=u D } I h) fun f s1 q=>?_)
 cases f with
 | next =>
  obtain⟨σ',H',I',q⟩:=q;exact h2 pins s1 σ' H' D I' q
 | ret v=>exact q
 | brk=>exact q
 | cont=>exact q
theorem ao(h1:PS X st t):PSs X [st] t:=by
 intro pins s σ H D I h;refine wpAny_execs_cons (thn (h1 pins s σ H D I h) fun f s1 q=>?_)
 cases f with
 | next=>exact wpAny_execs_nil q
 | ret v=>exact q
 | brk=>exact q
 | cont=>exact q
theorem Inv.quiet{pins:List (Addr×Obj)}{σ:St}{H:Hp}{s:Shared}(I:Inv X pins σ H s):interactive X.env=false:=by simp [interactive,I.ok.kind]
def B3(te:TE):TS:=fun D σ H=>te σ H fun _ H1=>D.nx σ H1
theorem iW(he:PE X e te)(hs:swapsWith e none pos.line X.env=pure false:=by rfl):PS X (.Expr e pos) (B3 te):=by
 intro pins s σ H D I h;exact wpAny_Expr_any (thn (he pins s σ H _ I h) fun v s1 ⟨x,H1,I1,r1,q1⟩=>⟨σ,H1,I1,q1⟩) I.quiet hs
def D1(te:TE):TS:=fun D σ H=>te σ H D.rt
theorem aM(he:PE X e te):PS X (.Return (some e) pos) (D1 te):=by
 intro pins s σ H D I h;exact wpAny_Return_some (thn (he pins s σ H _ I h) fun v s1 ⟨x,H1,I1,r1,q1⟩=>⟨x,σ,H1,I1,r1,q1⟩)
def D2(c:TT)(t u:TS):TS:=fun D σ H=>c σ H fun b H1=>if b=true then t D σ H1 else u D σ H1
theorem cK{c:Expr}{a b:List Stmt}{tc:TT}(hc:PT X c tc)(ha:PSs X a t)(hb:PSs X b u):PS X (.If c a b pos) (D2 tc t u):=by
 intro pins s σ H D I h;refine wpAny_If (thn (hc pins s σ H _ I h) fun d s1 ⟨H1,I1,q1⟩=>?_)
 cases d with
 | true=>exact ha pins s1 σ H1 D I1 q1
 | false=>exact hb pins s1 σ H1 D I1 q1
def zj:TS:=fun _ _ _=>False
theorem fT:PS X st zj:=fun _ _ _ _ _ _ h=>h.elim
end
abbrev TG:=V->St->Hp->(St->Hp->Prop)->Prop
abbrev TGs:=List V->St->Hp->(St->Hp->Prop)->Prop
def PG(X:Cx)(target:Expr)(t:TG):Prop :=
 ∀(pins:List (Addr×Obj)) (s:Shared) (σ:St) (H:Hp) (v:V) (u:Value) (Q:St->Hp->Prop),Inv X pins σ H s->dw v u->t v σ H Q ->
  wpAny (model X.prog X.w) X.A (assign target X.env u) (fun _ s'=>∃σ' H',Inv X pins σ' H' s'/\Q σ' H') X.xe s
def PGs(X:Cx)(ts:List Expr)(t:TGs):Prop :=
 ∀(pins:List (Addr×Obj)) (s:Shared) (σ:St) (H:Hp) (vs:List V) (us:List Value) (Q:St->Hp->Prop),Inv X pins σ H s->cG vs us->t vs σ H Q ->
  wpAny (model X.prog X.w) X.A (assignInOrder ((assignEach ts X.env).map (·.2)) us) (fun _ s'=>∃σ' H',Inv X pins σ' H' s'/\Q σ' H') X.xe s
abbrev B4:=V->V->V->Hp->(Hp->Prop)->Prop
def D3(X:Cx)(t:B4):Prop :=
 ∀(pins:List (Addr×Obj)) (s:Shared) (σ:St) (H:Hp) (o i v:V) (ov iv u:Value) (Q:Hp->Prop),Inv X pins σ H s->dw o ov->dw i iv->dw v u->t o i v H Q ->
  wpAny (model X.prog X.w) X.A (setItem ov iv u) (fun _ s'=>∃H',Inv X pins σ H' s'/\Q H') X.xe s
abbrev TIp:=V->V->Hp->VK->Prop
def PIp(X:Cx)(op:Operator)(t:TIp):Prop :=
 ∀(pins:List (Addr×Obj)) (s:Shared) (σ:St) (H:Hp) (x y:V) (v u:Value) (Q:VK),Inv X pins σ H s->dw x v->dw y u->t x y H Q ->
  wpAny (model X.prog X.w) X.A (inplaceOp op v u) (EP X pins σ Q) X.xe s
section
variable {X:Cx}{pos:Pos}
def cT(i:Nat):TG:=fun v σ H Q=>Q (σ.set i (some v)) H
theorem aF{i:Nat}{x:Str}(hN:X.N.Nodup)(hi:X.N[i]?=some x)(hx:Loc X.env.scope x)(hf:X.fn x=true\/X.env.scope.names.lookup x=some .local:=by first|exact .inl rfl|exact .inr rfl|assumption):PG X (.Name x pos) (cT i):=by
 intro pins s σ H v u Q I r h;exact wpAny_assign_Name (lc I hN hi hx r (fun s' I'=>⟨_,H,I',h⟩) hf)
def B5:TGs:=fun vs σ H Q=>vs=[]/\Q σ H
def pZ(t:TG)(u:TGs):TGs:=fun vs σ H Q=>∃v r,vs=v::r/\t v σ H fun σ' H'=>u r σ' H' Q
theorem fU:PGs X [] B5:=by
 intro pins s σ H vs us Q I r h;obtain⟨e,h⟩:=h;subst e;cases r;exact assignInOrder_nil ⟨σ,H,I,h⟩
theorem bU{e:Expr}{es:List Expr}{t:TG}{u:TGs}(h1:PG X e t)(h2:PGs X es u)
  (hs:(assignEach (e::es) X.env).map (·.2)=assign e X.env::(assignEach es X.env).map (·.2):=by rfl):PGs X (e::es) (pZ t u):=by
 intro pins s σ H vs us Q I r h;obtain⟨v,vr,e1,h⟩:=h;subst e1
 cases r with
 | cons r rr =>
  rw [hs];refine assignInOrder_cons (thn (h1 pins s σ H _ _ _ I r h) fun _ s1 ⟨σ1,H1,I1,q1⟩=>?_);exact h2 pins s1 σ1 H1 _ _ Q I1 rr q1
def FD(K:PySem.W.Frag)(n:Nat)(t:TGs):TG:=fun v σ H Q=>∃a xs,v=.ref a/\SqT K H a xs/\xs.length=n/\t xs σ H Q
theorem B6{es:List Expr}{k:Nat}{t:TGs}{n:Nat}(hc:X.calm=true)(h:PGs X es t)
  (hn:(assignEach es X.env).length=n:=by rfl) (hst:(assignEach es X.env).findIdx? (·.1)=none:=by rfl):PG X (.Tuple es k pos) (FD X.K n t):=by
 intro pins s σ H v u Q I r hw;obtain⟨a,xs,e1,hq,hl,hw⟩:=hw;subst e1;cases r;obtain⟨its,rv,ht,hz⟩:=I.tuple hq;refine assign_Tuple_tuple (I.ok.hd hc) ht (by simp [hn,<- hl,rv.length]) hst fun h' hx=>?_;have I1:Inv X pins σ H { s with heap:=h' }:=I.kept (t':=s.toks) fun b o e=>hx b o (ne_of_lt (Heap.lt_size e)) e;exact h pins _ σ H xs _ Q I1 (by simpa using rv) hw
def Fc(to ti:TE)(t:B4):TG:=fun v σ H Q=>to σ H fun o H1=>ti σ H1 fun i H2=>t o i v H2 fun H3=>Q σ H3
theorem lr{o i:Expr}{to ti:TE}{t:B4}(ho:PE X o to)(hi:PE X i ti)(hs:D3 X t)
  (ha:∀v,assign (.Subscript o i pos) X.env v=(do
   let ov <- holding [v] (eval o X.env)
   let iv <- holding [v,ov] (eval i X.env)
   standAt pos
   holding [v,ov,iv] (setItem ov iv v)
   release [v,ov,iv] []):=by intro _;rfl):PG X (.Subscript o i pos) (Fc to ti t):=by
 intro pins s σ H v u Q I r h;rw [ha];refine wpAny_bind (wpAny_holding (thn (ho pins s σ H _ I h) fun ov s1 ⟨x,H1,I1,r1,q1⟩=>?_));refine wpAny_bind (wpAny_holding (thn (hi pins s1 σ H1 _ I1 q1) fun iv s2 ⟨y,H2,I2,r2,q2⟩=>?_));refine wpAny_bind (wpAny_standAt (wpAny_bind (wpAny_holding (thn (hs pins s2 σ H2 x y v ov iv u _ I2 r1 r2 r q2) fun _ s3 ⟨H3,I3,q3⟩=>?_))));exact wpAny_release ⟨σ,H3,I3,q3⟩
def x6(te:TE)(g:TG):TS:=fun D σ H=>te σ H fun x H1=>g x σ H1 D.nx
theorem nh{tg e:Expr}{te:TE}{g:TG}(he:PE X e te)(hg:PG X tg g)(hs:swapsWithSole [tg] e pos.line X.env=pure false:=by rfl)(hw:swappedStores [tg] e X.env=pure none:=by rfl)
  (h1:(assignEach [tg] X.env).map (·.2)=[assign tg X.env]:=by rfl):PS X (.Assign [tg] e pos) (x6 te g):=by
 intro pins s σ H D I h;refine wpAny_Assign_stores (thn (he pins s σ H _ I h) fun v s1 ⟨x,H1,I1,r1,q1⟩=>?_) hs hw;rw [h1];exact thn (hg pins s1 σ H1 x v _ I1 r1 q1) fun _ s2 q=>q
theorem aN{i:Nat}{x:Str}{e:Expr}{te:TE}{pos':Pos}(hN:X.N.Nodup)(hi:X.N[i]?=some x)(hx:Loc X.env.scope x)(he:PE X e te)(hs:swapsWith e (some (.Name x pos')) pos.line X.env=pure false:=by rfl)(hf:X.fn x=true\/X.env.scope.names.lookup x=some .local:=by first|exact .inl rfl|exact .inr rfl|assumption) :
  PS X (.Assign [.Name x pos'] e pos) (x6 te (cT i)):=by
 intro pins s σ H D I h;refine wpAny_Assign_Name (thn (he pins s σ H _ I h) fun v s1 ⟨y,H1,I1,r1,q1⟩=>?_) hs;exact lc I1 hN hi hx r1 (fun s2 I2=>⟨_,H1,I2,q1⟩) hf
def Fd(i:Nat)(te:TE)(ti:TIp):TS:=fun D σ H=>∃x,σ[i]?=some (some x)/\te σ H fun y H1=>ti x y H1 fun z H2=>D.nx (σ.set i (some z)) H2
theorem B7{i:Nat}{x:Str}{e:Expr}{te:TE}{op:Operator}{ti:TIp}{pos':Pos}(hN:X.N.Nodup)(hi:X.N[i]?=some x)(hx:Loc X.env.scope x)(he:PE X e te)(ho:PIp X op ti)(hf:X.fn x=true\/X.env.scope.names.lookup x=some .local:=by first|exact .inl rfl|exact .inr rfl|assumption) :
  PS X (.AugAssign (.Name x pos') op e pos) (Fd i te ti):=by
 intro pins s σ H D I h;obtain⟨v,e1,h⟩:=h;obtain⟨m,hn,hl⟩:=I.loc;have vis:Vis X.env.scope x:=by rcases hx with k|k;exact .inl k;exact .inr (.inl k)
 obtain⟨u,r,l⟩:=hl i x v hi e1 vis;refine wpAny_AugAssign_Name ?_
 have go:wpAny (model X.prog X.w) X.A (eval e X.env) (fun w s₂=>wpAny (model X.prog X.w) X.A (inplaceOp op u w) (fun r s₃=>wpAny (model X.prog X.w) X.A (storeName X.env x r) (fun _=>SP X pins D .next) X.xe s₃) X.xe s₂) X.xe s:=by
  refine thn (he pins s σ H _ I h) fun w s1 ⟨y,H1,I1,r1,q1⟩=>?_;refine thn (ho pins s1 σ H1 v y u w _ I1 r r1 q1) fun z s2 ⟨zv,H2,I2,r2,q2⟩=>?_;exact lc I2 hN hi hx r2 (fun s3 I3=>⟨_,H2,I3,q2⟩) hf
 rcases l with ⟨hk,hm⟩|⟨hk,c,hc,hcell⟩
 .exact wpAny_loadName_local I.ok.kind hk hn hm go
 .rcases hk with hk|hk
  .exact wpAny_loadName_cell I.ok.kind hk hc hcell go
  .rcases hx with k|k
   .have:X.env.scope.names.lookup x=some .free:=hk;rw [k] at this;cases this
   .have:X.env.scope.names.lookup x=some .free:=hk;rw [k] at this;cases this
def x8(to ti te:TE)(tget:V->V->Hp->VK->Prop)(tip:TIp)(tset:B4):TS:=fun D σ H=>to σ H fun o H1=>ti σ H1 fun i H2=>tget o i H2 fun x H3=>te σ H3 fun y H4=>tip x y H4 fun z H5=>tset o i z H5 fun H6=>D.nx σ H6
def Fe(X:Cx)(t:V->V->Hp->VK->Prop):Prop :=
 ∀(pins:List (Addr×Obj)) (s:Shared) (σ:St) (H:Hp) (o i:V) (ov iv:Value) (Q:VK),Inv X pins σ H s->dw o ov->dw i iv->t o i H Q ->
  wpAny (model X.prog X.w) X.A (getItem ov iv) (EP X pins σ Q) X.xe s
theorem vx{o i e:Expr}{to ti te:TE}{tget:V->V->Hp->VK->Prop}{tip:TIp}{tset:B4}{op:Operator}{tpos:Pos}(ho:PE X o to)(hi:PE X i ti)(hg:Fe X tget)(he:PE X e te)(hp:PIp X op tip)(hs:D3 X tset)
  (ha:∀ov iv new,augStore i ov iv new=(do holding [new,ov,iv] (setItem ov iv new);release [new,ov,iv] [];pure .next):=by intros;rfl):PS X (.AugAssign (.Subscript o i tpos) op e pos) (x8 to ti te tget tip tset):=by
 intro pins s σ H D I h;refine wpAny_AugAssign_SubscriptAny (thn (ho pins s σ H _ I h) fun ov s1 ⟨x1,H1,I1,r1,q1⟩=>?_) ha;refine thn (hi pins s1 σ H1 _ I1 q1) fun iv s2 ⟨x2,H2,I2,r2,q2⟩=>?_;refine thn (hg pins s2 σ H2 x1 x2 ov iv _ I2 r1 r2 q2) fun old s3 ⟨x3,H3,I3,r3,q3⟩=>?_;refine thn (he pins s3 σ H3 _ I3 q3) fun v s4 ⟨x4,H4,I4,r4,q4⟩=>?_;refine thn (hp pins s4 σ H4 x3 x4 old v _ I4 r3 r4 q4) fun new s5 ⟨x5,H5,I5,r5,q5⟩=>?_
 exact thn (hs pins s5 σ H5 x1 x2 x5 ov iv new _ I5 r1 r2 r5 q5) fun _ s6 ⟨H6,I6,q6⟩=>⟨σ,H6,I6,q6⟩
def ipI(f:Int->Int->Int):TIp:=fun x y H Q=>∃i j,x=.int i/\y=.int j/\Q (.int (f i j)) H
theorem B8:PIp X .Add (ipI fun i j=>i+j):=by
 intro pins s σ H x y v u Q I r1 r2 h;obtain⟨i,j,e1,e2,q⟩:=h;subst e1;subst e2;obtain⟨t,rfl⟩:=r1;obtain⟨t',rfl⟩:=r2;exact iadd_int ⟨.int _,H,I.tok _,⟨_,rfl⟩,q⟩
theorem B9:PIp X .Sub (ipI fun i j=>i - j):=by
 intro pins s σ H x y v u Q I r1 r2 h;obtain⟨i,j,e1,e2,q⟩:=h;subst e1;subst e2;obtain⟨t,rfl⟩:=r1;obtain⟨t',rfl⟩:=r2;exact isub_int ⟨.int _,H,I.tok _,⟨_,rfl⟩,q⟩
end
section
variable {X:Cx}{pos:Pos}
def zk(c:TT)(tb:TS):TS:=fun D σ H=>∃W:Nat->St->Hp->Prop,(∃m,W m σ H)/\∀m σ H,W m σ H ->
 c σ H fun b H1=>if b=true then ∃N:St->Hp->Prop,(∀σ' H',N σ' H'->∃m',m'<m/\W m' σ' H')/\tb { D with nx:=N,ct:=N,bk:=D.nx } σ H1 else D.nx σ H1
theorem sX{c:Expr}{body:List Stmt}{tc:TT}{tb:TS}(hp:PassesOwn (model X.prog X.w) X.A X.env X.xe)(hc:PT X c tc)(hb:PSs X body tb):PS X (.While c body [] pos) (zk tc tb):=by
 intro pins s σ H D I h;obtain⟨W,⟨m0,w0⟩,turn⟩:=h;refine wpAny_While (codeAny_whileLoop (fun n s'=>∃σ' H',Inv X pins σ' H' s'/\W n σ' H') ?_ m0 ⟨σ,H,I,w0⟩);rintro n s1 ⟨σ1,H1,I1,w1⟩;refine wpAny_passesOwn hp (thn (hc pins s1 σ1 H1 _ I1 (turn n σ1 H1 w1)) fun b s2 ⟨H2,I2,q2⟩=>?_)
 cases b with
 | true =>
  obtain⟨N,hN,q2⟩:=q2;rw [if_pos rfl];refine wpAny_passesOwn hp (thn (hb pins s2 σ1 H2 _ I2 q2) fun f s3 q3=>?_)
  cases f with
  | next =>
   obtain⟨σ3,H3,I3,n3⟩:=q3;obtain⟨m',hm,w3⟩:=hN σ3 H3 n3;exact⟨m',hm,σ3,H3,I3,w3⟩
  | cont =>
   obtain⟨σ3,H3,I3,n3⟩:=q3;obtain⟨m',hm,w3⟩:=hN σ3 H3 n3;exact⟨m',hm,σ3,H3,I3,w3⟩
  | brk=>exact q3
  | ret v=>exact q3
 | false =>
  rw [if_neg Bool.false_ne_true];exact wpAny_execs_nil ⟨σ1,H2,I2,q2⟩
end
structure It where
 go:Nat->Hp->Prop
 yld:Nat->Hp->V->Hp->Prop
 stop:Nat->Hp->Prop
def rE(X:Cx)(pins:List (Addr×Obj))(H:Hp)(b:Addr):Prop :=
 H b=none/\b≠X.env.locals/\b∉X.fs/\(b∈X.ex\/X.s₀.heap.objs.size<=b)/\(∀x c,X.env.cells.lookup x=some c->c≠b)/\∀p∈X.pn++pins,p.1≠b
theorem Inv.fpOk{X:Cx}{pins:List (Addr×Obj)}{σ:St}{H H':Hp}{s:Shared}{b:Addr}(I:Inv X pins σ H s)(hb:s.heap.objs.size<=b)(hn:H' b=none):rE X pins H' b:=by
 refine⟨hn,ne_of_gt (lt_of_lt_of_le I.lt hb),I.nofs hb,.inr (le_trans I.sz hb),fun x c e z=>?_,fun p hp z=>?_⟩
 .obtain⟨v,q⟩:=I.cell x c e;exact absurd (lt_of_lt_of_le q.lt (by rw [z];exact hb)) (Nat.lt_irrefl _)
 .exact absurd (lt_of_lt_of_le (Heap.lt_size (I.pin p hp).1) (by rw [z];exact hb)) (Nat.lt_irrefl _)
structure zl (P:Program) (w:World) (K:PySem.W.Frag) (tg:Expr) (J:It) (fp:List Addr) (it:Addr) (tn:Nat->Heap->Prop):Prop where
 mem:it∈fp
 obj:∀i h,tn i h->∀b∈fp,∃o,h.get? b=some o/\∀v,o.data≠.cell v
 keep:∀i h h',tn i h->(∀b∈fp,∀o,h.get? b=some o->h'.get? b=some o)->tn i h'
 item:∀(X:Cx),X.prog=P->X.w=w->X.K=K->X.calm=true->∀(i:Nat) (pins:List (Addr×Obj)) (s:Shared) (σ:St) (H:Hp) (E:Value->Shared->Prop),Inv X pins σ H s->(∀b∈fp,rE X pins H b)->tn i s.heap->J.go i H ->
  wpAny (model P w) X.A (pyNext (.ref it)) (fun r s1=>∃u,r=some u /\
   wpAny (model P w) X.A (letOwnedTupleGo tg (.ref it) u) (fun _ s2=>∃x H',Inv X pins σ H' s2/\dw x u/\J.yld i H x H'/\tn (i+1) s2.heap/\∀b∈fp,H' b=none) E s1) E s
 done:∀(X:Cx),X.prog=P->X.w=w->X.K=K->X.calm=true->∀(i:Nat) (pins:List (Addr×Obj)) (s:Shared) (σ:St) (H:Hp) (E:Value->Shared->Prop),Inv X pins σ H s->(∀b∈fp,rE X pins H b)->tn i s.heap->J.stop i H ->
  wpAny (model P w) X.A (pyNext (.ref it)) (fun r s1=>r=none/\Inv X pins σ H s1) E s
 self:∀(A:Around) (i:Nat) (s:Shared) (Q:Value->Shared->Prop) (E:Value->Shared->Prop),tn i s.heap->Q (.ref it) s->wpAny (model P w) A (pyIter (.ref it)) Q E s
abbrev TI:=St->Hp->(It->Hp->Prop)->Prop
def PIE(X:Cx)(pins:List (Addr×Obj))(σ:St)(tg:Expr)(R:It->Hp->Prop)(itv:Value)(s2:Shared):Prop :=
 ∃(it:Addr) (fp:List Addr) (tn:Nat->Heap->Prop) (J:It) (H':Hp),itv=.ref it/\Inv X pins σ H' s2/\zl X.prog X.w X.K tg J fp it tn/\tn 0 s2.heap/\(∀b∈fp,rE X pins H' b)/\R J H'
def PI(X:Cx)(tg iter:Expr)(wi:TI):Prop :=
 ∀(pins:List (Addr×Obj)) (s:Shared) (σ:St) (H:Hp) (R:It->Hp->Prop),Inv X pins σ H s->wi σ H R ->
  wpAny (model X.prog X.w) X.A (eval iter X.env) (fun v s1=>wpAny (model X.prog X.w) X.A (pyIter v) (PIE X pins σ tg R) X.xe s1) X.xe s
theorem Ab{M:Model}{A:Around}{E:Value->Shared->Prop}{s:Shared}{tg:Expr}{it:Addr}{u:Value}{o:Obj}{n:String}{vs:Array Value}{Q:Unit->Shared->Prop}(ho:s.heap.get? it=some o)(hc:o.cls=.type n)(hd:o.data=.fields vs)
    (hn:["enumerate","zip","dict_itemiterator","dict_reverseitemiterator","odict_iterator","itertools.zip_longest","itertools.pairwise"].contains n=false) (hQ:Q () s):wpAny M A (letOwnedTupleGo tg (.ref it) u) Q E s:=by
  unfold letOwnedTupleGo
  cases tg <;> first
    | exact wpAny_pure hQ
    | (cases u <;> first
        | exact wpAny_pure hQ
        | (refine wpAny_bind (wpAny_load ho ?_)
           rw [hc,hd];show wpAny M A (if (["enumerate","zip","dict_itemiterator","dict_reverseitemiterator","odict_iterator","itertools.zip_longest","itertools.pairwise"].contains n && vs[0]? == some (rawInt _))=true then _ else _) Q E s;rw [if_neg (by intro h;rw [hn,Bool.false_and] at h;cases h)];exact wpAny_pure hQ))
def Itl(K:PySem.W.Frag)(a:Addr):It :=
 ⟨fun i H=>∃xs x,SqL K H a xs/\xs[i]?=some x,fun i H x H'=>H'=H/\∀xs,SqL K H a xs->xs[i]?=some x,fun i H=>∃xs,SqL K H a xs/\xs.length<=i⟩
def Itt(K:PySem.W.Frag)(a:Addr):It :=
 ⟨fun i H=>∃xs x,SqT K H a xs/\xs[i]?=some x,fun i H x H'=>H'=H/\∀xs,SqT K H a xs->xs[i]?=some x,fun i H=>∃xs,SqT K H a xs/\xs.length<=i⟩
def Itr(lo:Int)(n:Nat):It:=⟨fun i _=>i<n,fun i H x H'=>H'=H/\x=.int (lo+i),fun i _=>n<=i⟩
theorem vy{P:Program}{w:World}{K:PySem.W.Frag}{tg:Expr}(a it:Addr):zl P w K tg (Itl K a) [it] it (fun i h=>h.IsListIter it a i) where
 mem:=by simp
 obj:=fun i h st b hb=>by
  have e:b=it:=by simpa using hb
  subst e;obtain⟨o,e,c,d⟩:=st;exact⟨o,e,fun v z=>by rw [d] at z;cases z⟩
 keep:=fun i h h' st k=>st.at fun o e=>k it (by simp) o e
 item:=by
  intro X hP hw hK hc i pins s σ H E I hf st hg;subst hP hw hK;obtain⟨xs,x,hq,hx⟩:=hg;obtain⟨its,rv,p,hz⟩:=I.list hq;obtain⟨u,hu,ru⟩:=rv.get hx;obtain⟨f0,f1,f2,f3,f4,f5⟩:=hf it (by simp);refine wpAny_pyNext_list_item st p.isList (x:=u) (by simpa using hu) fun h' st' sb=>?_;have I1:Inv X pins σ H { s with heap:=h' }:=I.turned (t':=s.toks) (fun b o hb e=>(sb.2 b hb).trans e) f0 f1 f3 f4 f5;obtain⟨o,e,c,d⟩:=id st'
  exact⟨u,rfl,Ab (s:={ s with heap:=h' }) e c d (by decide) ⟨x,H,I1,ru,⟨rfl,fun ys hy=>by rw [I.list_inj hy hq];exact hx⟩,st',fun b hb=>(hf b hb).1⟩⟩
 done:=by
  intro X hP hw hK hc i pins s σ H E I hf st hg;subst hP hw hK;obtain⟨xs,hq,hx⟩:=hg;obtain⟨its,rv,p,hz⟩:=I.list hq;obtain⟨f0,f1,f2,f3,f4,f5⟩:=hf it (by simp);have hl:=rv.length;exact wpAny_pyNext_list_end (I.ok.hd hc) st p.isList (by simp;omega) fun h' eb=>⟨rfl,I.turned (t':=s.toks) (fun b o hb e=>eb b o hb e) f0 f1 f3 f4 f5⟩
 self:=fun _ _ _ _ _ st h=>wpAny_pyIter_listiter st h
theorem um{P:Program}{w:World}{K:PySem.W.Frag}{tg:Expr}(a it:Addr):zl P w K tg (Itt K a) [it] it (fun i h=>h.IsTupleIter it a i) where
 mem:=by simp
 obj:=fun i h st b hb=>by
  have e:b=it:=by simpa using hb
  subst e;obtain⟨o,e,c,d⟩:=st;exact⟨o,e,fun v z=>by rw [d] at z;cases z⟩
 keep:=fun i h h' st k=>st.at fun o e=>k it (by simp) o e
 item:=by
  intro X hP hw hK hc i pins s σ H E I hf st hg;subst hP hw hK;obtain⟨xs,x,hq,hx⟩:=hg;obtain⟨its,rv,p,hz⟩:=I.tuple hq;obtain⟨u,hu,ru⟩:=rv.get hx;obtain⟨f0,f1,f2,f3,f4,f5⟩:=hf it (by simp);refine wpAny_pyNext_tuple_item st (show s.heap.IsTuple a its.toArray from p) (x:=u) (by simpa using hu) fun h' st' sb=>?_;have I1:Inv X pins σ H { s with heap:=h' }:=I.turned (t':=s.toks) (fun b o hb e=>(sb.2 b hb).trans e) f0 f1 f3 f4 f5
  obtain⟨o,e,c,d⟩:=id st';exact⟨u,rfl,Ab (s:={ s with heap:=h' }) e c d (by decide) ⟨x,H,I1,ru,⟨rfl,fun ys hy=>by rw [I.tuple_inj hy hq];exact hx⟩,st',fun b hb=>(hf b hb).1⟩⟩
 done:=by
  intro X hP hw hK hc i pins s σ H E I hf st hg;subst hP hw hK;obtain⟨xs,hq,hx⟩:=hg;obtain⟨its,rv,p,hz⟩:=I.tuple hq;obtain⟨f0,f1,f2,f3,f4,f5⟩:=hf it (by simp);have hl:=rv.length;exact wpAny_pyNext_tuple_end (I.ok.hd hc) st (show s.heap.IsTuple a its.toArray from p) (by simp;omega) fun h' eb=>⟨rfl,I.turned (t':=s.toks) (fun b o hb e=>eb b o hb e) f0 f1 f3 f4 f5⟩
 self:=fun _ _ _ _ _ st h=>wpAny_pyIter_tupleiter st h
theorem uo{P:Program}{w:World}{K:PySem.W.Frag}{tg:Expr}(it:Addr)(lo:Int)(n:Nat):zl P w K tg (Itr lo n) [it] it (fun i h=>IsRangeIter h it (lo+(i:Nat)*1) ((n:Int) - (i:Nat)) 1) where
 mem:=by simp
 obj:=fun i h st b hb=>by
  have e:b=it:=by simpa using hb
  subst e
  exact⟨_,st,fun v z=>by
   have z':Data.fields _=Data.cell v:=z;cases z'⟩
 keep:=fun i h h' st k=>k it (by simp) _ st
 item:=by
  intro X hP hw hK hc i pins s σ H E I hf st hg;subst hP hw hK;obtain⟨f0,f1,f2,f3,f4,f5⟩:=hf it (by simp);have W:=Walks.range (prog:=X.prog) (w:=X.w) (I.ok.hd hc) it lo 1 n;refine W.item i s _ _ hg st fun v h' tk hv st' kk=>?_;obtain⟨t,rfl⟩:=hv;have I1:Inv X pins σ H { s with heap:=h',toks:=tk }:=I.turned (fun b o hb e=>kk b o (by simpa using hb) e) f0 f1 f3 f4 f5;refine⟨_,rfl,Ab (s:={ s with heap:=h',toks:=tk }) (n:="range_iterator") st' rfl rfl (by decide) ⟨.int (lo+i),H,I1,⟨t,?_⟩,⟨rfl,rfl⟩,st',fun b hb=>(hf b hb).1⟩⟩
  rw [mul_one]
 done:=by
  intro X hP hw hK hc i pins s σ H E I hf st hg;subst hP hw hK;obtain⟨f0,f1,f2,f3,f4,f5⟩:=hf it (by simp);exact wpAny_pyNext_range_end (I.ok.hd hc) st (by have:n<=i:=hg;omega) fun h' eb=>⟨rfl,I.turned (t':=s.toks) (fun b o hb e=>eb b o hb e) f0 f1 f3 f4 f5⟩
 self:=fun _ _ _ _ _ st h=>wpAny_pyIter_rangeiter st h
section
variable {X:Cx}{tg:Expr}
theorem x9{pins:List (Addr×Obj)}{σ:St}{H:Hp}{s:Shared}{R:It->Hp->Prop}{E:Value->Shared->Prop}{lo hi:Int}{t u v:Tok}{tk:Nat}(I:Inv X pins σ H s)(h1:-(2^62)<=lo)(h2:lo<2^62)(h3:-(2^62)<=hi)(h4:hi<2^62)
  (q:R (Itr lo (hi - lo).toNat) H):wpAny (model X.prog X.w) X.A (pyIter (.ref s.heap.objs.size)) (PIE X pins σ tg R) E { s with heap:=s.heap.push { cls:=.type "range",data:=.fields #[.int lo t,.int hi u,.int 1 v] },toks:=tk }:=by
 refine wpAny_pyIter_range (IsRange.new ..) (small_one h1 h2 h3 h4) ?_;have I1:Inv X pins σ H { s with heap:=s.heap.push { cls:=.type "range",data:=.fields #[.int lo t,.int hi u,.int 1 v] },toks:=tk }:=I.kept fun b o e=>Heap.get?_push_of_some _ e
 refine⟨(s.heap.push { cls:=.type "range",data:=.fields #[.int lo t,.int hi u,.int 1 v] }).objs.size,[(s.heap.push { cls:=.type "range",data:=.fields #[.int lo t,.int hi u,.int 1 v] }).objs.size],_,_,H,rfl,
  I1.kept (t':=tk) fun b o e=>Heap.get?_push_of_some _ e,uo _ lo (hi - lo).toNat,?_,fun b hb=>?_,q⟩
 .have e1:lo+((0:Nat):Int)*1=lo:=by simp
  have e2:(((hi - lo).toNat:Nat):Int) - ((0:Nat):Int)=Builtin.Range.rangeSize lo hi 1:=by rw [rangeSize_one];split <;> omega
  show IsRangeIter _ _ (lo+((0:Nat):Int)*1) ((((hi - lo).toNat:Nat):Int) - ((0:Nat):Int)) 1;rw [e1,e2];exact Heap.get?_push_size _ rfl
 .have e:b=(s.heap.push { cls:=.type "range",data:=.fields #[.int lo t,.int hi u,.int 1 v] }).objs.size:=by simpa using hb
  subst e;exact I1.fpOk (Nat.le_refl _) (I1.hok.fresh (Nat.le_refl _))
def vz(ta:TA):TI:=fun σ H R=>ta σ H fun vs H1=>∃j:Int,vs=[.int j]/\-(2^62)<=j/\j<2^62/\R (Itr 0 j.toNat) H1
theorem cw{a:Expr}{ta:TA}{p pos:Pos}(hg:Gl X "range")(hm:X.mg "range"=none)(ha:PA X [a] ta)(hs:starEach [a] X.env=[(false,eval a X.env)]:=by rfl):PI X tg (.Call (.Name "range" p) [a] [] pos) (vz ta):=by
 intro pins s σ H R I h;refine Call_ (kn I hg hm boot_range (PyProof.Rows.callWith_type1 (thn (ha pos pins s σ H _ I h) fun us s1 ⟨vs,H1,I1,r1,q1⟩=>?_) hs rfl));obtain⟨j,e,q1,q2,q⟩:=q1;subst e
 cases r1 with
 | cons r rr =>
  cases rr;obtain⟨t,rfl⟩:=r;exact call_range_1 (x9 I1 (by omega) (by omega) q1 q2 (by simpa using q))
def Ff(wi:TI)(g:TG)(tb:TS):TS:=fun D σ H=>wi σ H fun J H1=>∃W:Nat->Nat->St->Hp->Prop,(∃m,W 0 m σ H1)/\∀i m σ H,W i m σ H ->
 (J.stop i H/\D.nx σ H)\/(J.go i H/\∃N:St->Hp->Prop,(∀σ' H',N σ' H'->∃m',m'<m/\W (i+1) m' σ' H')/\∀x H',J.yld i H x H'->g x σ H' fun σ2 H2=>tb { D with nx:=N,ct:=N,bk:=D.nx } σ2 H2)
def lu(fp:List Addr)(h:Heap):List (Addr×Obj):=fp.filterMap fun b=>(h.get? b).map fun o=>(b,o)
theorem dy{fp:List Addr}{h:Heap}{b:Addr}{o:Obj}(hb:b∈fp)(e:h.get? b=some o):(b,o)∈lu fp h:=mem_filterMap.mpr ⟨b,hb,by rw [e];rfl⟩
theorem vA{fp:List Addr}{h:Heap}{p:Addr×Obj}(hp:p∈lu fp h):p.1∈fp/\h.get? p.1=some p.2:=by
 obtain⟨b,hb,e⟩:=mem_filterMap.mp hp
 cases q:h.get? b with
 | none=>rw [q] at e;cases e
 | some o =>
  rw [q] at e;have e':(b,o)=p:=Option.some.inj e;subst e';exact⟨hb,q⟩
theorem Inv.pinned{pins:List (Addr×Obj)}{σ:St}{H:Hp}{s:Shared}{fp:List Addr}(I:Inv X pins σ H s)(hf:∀b∈fp,rE X pins H b)(ho:∀b∈fp,∃o,s.heap.get? b=some o/\∀v,o.data≠.cell v):Inv X (pins++lu fp s.heap) σ H s :=
 I.pins_of fun p hp=>(mem_append.mp hp).elim (fun z=>I.pin p (mem_append_right _ z)) fun z=>by
  obtain⟨hb,e⟩:=vA z;obtain⟨f0,f1,f2,_⟩:=hf p.1 hb;obtain⟨o,e',d⟩:=ho p.1 hb;rw [e] at e';cases e';exact⟨e,f0,f1,f2,d⟩
theorem Inv.unpinned{pins pl:List (Addr×Obj)}{σ:St}{H:Hp}{s:Shared}(I:Inv X (pins++pl) σ H s):Inv X pins σ H s:=I.pins_of fun p hp=>I.pin p (mem_append_right _ (mem_append_left _ hp))
theorem dX{iter:Expr}{body:List Stmt}{wi:TI}{g:TG}{tb:TS}{pos:Pos}(hp:PassesOwn (model X.prog X.w) X.A X.env X.xe)(hc:X.calm=true)(hi:PI X tg iter wi)(hg:PG X tg g)(hb:PSs X body tb)
  (hs:∀x,foldedSetIterable iter X.env x=pure x:=by intro _;rfl):PS X (.For tg iter body [] pos) (Ff wi g tb):=by
 intro pins s σ H D I h;refine wpAny_For (thn (hi pins s σ H _ I h) fun v s1 h1=>thn h1 fun itv s2 h2=>?_) hs;obtain⟨it,fp,tn,J,H2,e,I2,T,st2,f2,W,⟨m0,w0⟩,turn⟩:=h2;subst e
 -- what stays true of the iterator's objects through the loop
 have stat:∀{H':Hp},(∀b∈fp,H' b=none)->∀b∈fp,rE X pins H' b:=fun hn b hb=>⟨hn b hb,(f2 b hb).2⟩
 refine codeAny_forLoop_any (fun n s'=>∃i σ' H',Inv X pins σ' H' s'/\tn i s'.heap/\(∀b∈fp,H' b=none)/\W i n σ' H') ?_ m0 ⟨0,σ,H2,I2,st2,fun b hb=>(f2 b hb).1,w0⟩;rintro n s3 ⟨i,σ3,H3,I3,st3,fr3,w3⟩
 rcases turn i n σ3 H3 w3 with ⟨stop,qn⟩|⟨go,N,hN,step⟩
 .refine wpAny_passesOwn hp (thn (T.done X rfl rfl rfl hc i pins s3 σ3 H3 X.xe I3 (stat fr3) st3 stop) fun r s4 ⟨hr,I4⟩=>?_);subst hr;exact wpAny_execs_nil ⟨σ3,H3,I4,qn⟩
 .refine wpAny_passesOwn hp (thn (T.item X rfl rfl rfl hc i pins s3 σ3 H3 X.xe I3 (stat fr3) st3 go) fun r s4 ⟨u,hr,h4⟩=>?_);subst hr;refine wpAny_passesOwn hp (thn h4 fun _ s5 ⟨x,H5,I5,r5,y5,st5,fr5⟩=>?_);have I5':=I5.pinned (stat fr5) (T.obj _ _ st5);refine wpAny_passesOwn hp (thn (hg _ s5 σ3 H5 x u _ I5' r5 (step x H5 y5)) fun _ s6 ⟨σ6,H6,I6,q6⟩=>?_);refine wpAny_passesOwn hp (thn (hb _ s6 σ6 H6 _ I6 q6) fun f s7 q7=>?_)
  have again:∀{σ7:St}{H7:Hp},Inv X (pins++lu fp s5.heap) σ7 H7 s7->N σ7 H7->∃m,m<n/\∃i σ' H',Inv X pins σ' H' s7/\tn i s7.heap/\(∀b∈fp,H' b=none)/\W i m σ' H':=fun {σ7 H7} I7 n7=>by
   obtain⟨m',hm,w7⟩:=hN σ7 H7 n7;refine⟨m',hm,i+1,σ7,H7,I7.unpinned,T.keep _ _ _ st5 fun b hb o e=>(I7.pin (b,o) (mem_append_right _ (mem_append_right _ (dy hb e)))).1,fun b hb=>?_,w7⟩;obtain⟨o,e,d⟩:=T.obj _ _ st5 b hb;exact (I7.pin (b,o) (mem_append_right _ (mem_append_right _ (dy hb e)))).2.1
  cases f with
  | next=>obtain⟨σ7,H7,I7,n7⟩:=q7;exact again I7 n7
  | cont=>obtain⟨σ7,H7,I7,n7⟩:=q7;exact again I7 n7
  | brk=>obtain⟨σ7,H7,I7,q7⟩:=q7;exact⟨σ7,H7,I7.unpinned,q7⟩
  | ret v=>obtain⟨x7,σ7,H7,I7,r7,q7⟩:=q7;exact⟨x7,σ7,H7,I7.unpinned,r7,q7⟩
end
abbrev R2:=V->V->Hp->VK->Prop
def OpR(X:Cx)(f:Value->Value->Sem Value)(r:R2):Prop :=
 ∀(pins:List (Addr×Obj)) (s:Shared) (σ:St) (H:Hp) (x y:V) (v u:Value) (Q:VK),Inv X pins σ H s->dw x v->dw y u->r x y H Q ->
  wpAny (model X.prog X.w) X.A (f v u) (EP X pins σ Q) X.xe s
def UnR(X:Cx)(f:Value->Sem Value)(r:V->Hp->VK->Prop):Prop :=
 ∀(pins:List (Addr×Obj)) (s:Shared) (σ:St) (H:Hp) (x:V) (v:Value) (Q:VK),Inv X pins σ H s->dw x v->r x H Q ->
  wpAny (model X.prog X.w) X.A (f v) (EP X pins σ Q) X.xe s
def cC(X:Cx)(f:Value)(r:List V->Hp->VK->Prop):Prop :=
 ∀(pins:List (Addr×Obj)) (s:Shared) (σ:St) (H:Hp) (xs:List V) (us:List Value) (Q:VK),Inv X pins σ H s->cG xs us->r xs H Q ->
  wpAny (model X.prog X.w) X.A (call f us) (EP X pins σ Q) X.xe s
def tOp(r:R2)(ta tb:TE):TE:=fun σ H Q=>ta σ H fun x H1=>tb σ H1 fun y H2=>r x y H2 Q
def tUn(r:V->Hp->VK->Prop)(ta:TE):TE:=fun σ H Q=>ta σ H fun x H1=>r x H1 Q
def rI(C:Int->Int->Prop)(g:Int->Int->V):R2:=fun x y H Q=>∃i j,x=.int i/\y=.int j/\C i j/\Q (g i j) H
def rI0(g:Int->Int->V):R2:=fun x y H Q=>∃i j,x=.int i/\y=.int j/\Q (g i j) H
def rU(g:Int->V):V->Hp->VK->Prop:=fun x H Q=>∃i,x=.int i/\Q (g i) H
section
variable {X:Cx}{a b c:Expr}{ta tb tc:TE}{pos:Pos}
theorem D4(ha:PE X a ta)(hb:PE X b tb){pins:List (Addr×Obj)}{s:Shared}{σ:St}{H:Hp}{R:V->V->Hp->Prop}(I:Inv X pins σ H s)
  (h:ta σ H fun x H1=>tb σ H1 fun y H2=>R x y H2) {Q:Value->Shared->Prop}{f:Value->Value->Sem Value}
  (hf:∀v u s2 x y H2,Inv X pins σ H2 s2->dw x v->dw y u->R x y H2->wpAny (model X.prog X.w) X.A (f v u) Q X.xe s2) :
  wpAny (model X.prog X.w) X.A (eval a X.env) (fun v s₁=>wpAny (model X.prog X.w) X.A (eval b X.env) (fun u s₂=>wpAny (model X.prog X.w) X.A (f v u) Q X.xe s₂) X.xe s₁) X.xe s:=by
 refine thn (ha pins s σ H _ I h) fun v s1 ⟨x,H1,I1,r1,q1⟩=>?_;refine thn (hb pins s1 σ H1 _ I1 q1) fun u s2 ⟨y,H2,I2,r2,q2⟩=>?_;exact hf v u s2 x y H2 I2 r1 r2 q2
theorem bo{op:Operator}{r:R2}(ho:OpR X (binaryOp op) r)(ha:PE X a ta)(hb:PE X b tb):PE X (.BinOp a op b pos) (tOp r ta tb):=by
 intro pins s σ H Q I h;exact wpAny_BinOp (D4 ha hb I h fun v u s2 x y H2 I2 rx ry q=>ho pins s2 σ H2 x y v u Q I2 rx ry q)
theorem Ac{op:UnaryOp}{r:V->Hp->VK->Prop}(ho:UnR X (unaryOp op) r)(ha:PE X a ta):PE X (.UnaryOp op a pos) (tUn r ta):=by
 intro pins s σ H Q I h;exact UnaryOp_ (thn (ha pins s σ H _ I h) fun v s1 ⟨x,H1,I1,r1,q1⟩=>ho pins s1 σ H1 x v Q I1 r1 q1)
theorem opI{f:Value->Value->Sem Value}{C:Int->Int->Prop}{g:Int->Int->Int}
  (rule:∀(i j:Int) (t u:Tok) (s:Shared) (Q:Value->Shared->Prop) (E:Value->Shared->Prop),C i j->Q (.int (g i j) s.toks) { s with toks:=s.toks+1 }->wpAny (model X.prog X.w) X.A (f (.int i t) (.int j u)) Q E s) :
  OpR X f (rI C fun i j=>.int (g i j)):=by
 intro pins s σ H x y v u Q I rx ry h;obtain⟨i,j,rfl,rfl,hc,q⟩:=h;obtain⟨t,rfl⟩:=rx;obtain⟨t',rfl⟩:=ry;exact rule i j t t' s _ _ hc ⟨.int (g i j),H,I.tok _,⟨_,rfl⟩,q⟩
theorem Fg{f:Value->Value->Sem Value}{g:Int->Int->Int}
  (rule:∀(i j:Int) (t u:Tok) (s:Shared) (Q:Value->Shared->Prop) (E:Value->Shared->Prop),Q (.int (g i j) s.toks) { s with toks:=s.toks+1 }->wpAny (model X.prog X.w) X.A (f (.int i t) (.int j u)) Q E s) :
  OpR X f (rI0 fun i j=>.int (g i j)):=by
 intro pins s σ H x y v u Q I rx ry h;obtain⟨i,j,rfl,rfl,q⟩:=h;obtain⟨t,rfl⟩:=rx;obtain⟨t',rfl⟩:=ry;exact rule i j t t' s _ _ ⟨.int (g i j),H,I.tok _,⟨_,rfl⟩,q⟩
theorem BC{f:Value->Value->Sem Value}{g:Int->Int->Bool}
  (rule:∀(i j:Int) (t u:Tok) (s:Shared) (Q:Value->Shared->Prop) (E:Value->Shared->Prop),Q (.bool (g i j)) s->wpAny (model X.prog X.w) X.A (f (.int i t) (.int j u)) Q E s) :
  OpR X f (rI0 fun i j=>.bl (g i j)):=by
 intro pins s σ H x y v u Q I rx ry h;obtain⟨i,j,rfl,rfl,q⟩:=h;obtain⟨t,rfl⟩:=rx;obtain⟨t',rfl⟩:=ry;exact rule i j t t' s _ _ ⟨.bl (g i j),H,I,rfl,q⟩
def D5(i j:Int):Prop:=0<j/\j<1073741824
def D6(i j:Int):Prop:=0<=j/\j<=1000000/\i.natAbs<2^64
def vB(i j:Int):Prop:=(-(2^64)<i/\i<2^64)\/(-(2^64)<j/\j<2^64)
theorem vB.ok{i j:Int}(h:vB i j):IntMulOk i j:=by
 rcases h with ⟨h1,h2⟩|⟨h1,h2⟩
 .exact .of_left (intBits_le_64 h1 h2)
 .exact .of_right (intBits_le_64 h1 h2)
theorem Ca:OpR X (binaryOp .Add) (rI0 fun i j=>.int (i+j)):=Fg fun _ _ _ _ _ _ _ q=>add_int q
theorem Cb:OpR X (binaryOp .Sub) (rI0 fun i j=>.int (i - j)):=Fg fun _ _ _ _ _ _ _ q=>sub_int q
theorem Cc:OpR X (binaryOp .Mult) (rI vB fun i j=>.int (i*j)):=opI fun _ _ _ _ _ _ _ hc q=>mul_int q hc.ok
theorem Ad:OpR X (binaryOp .FloorDiv) (rI D5 fun i j=>.int (i / j)):=opI fun i j _ _ _ _ _ hc q=>by
 have h1:(0:Int)<j:=hc.1;have h2:j<1073741824:=hc.2;exact floordiv_int (by omega) (by rw [fdiv_eq_ediv_of_nonneg i (by omega)];exact q) (.inl (PyProof.noPylong_small (by omega)))
theorem Cd:OpR X (binaryOp .Mod) (rI (fun _ j=>0<j) fun i j=>.int (i % j)):=opI fun i j _ _ _ _ _ hc q=>by
 have h1:(0:Int)<j:=hc;exact mod_int' (by omega) (by rw [fmod_eq_emod_of_nonneg i (by omega)];exact q)
theorem Ce:OpR X (binaryOp .Pow) (rI D6 fun i j=>.int (i^j.toNat)):=opI fun _ _ _ _ _ _ _ hc q=>pow_int_small hc.1 hc.2.1 hc.2.2 q
theorem unI{f:Value->Sem Value}{g:Int->Int}
  (rule:∀(i:Int) (t:Tok) (s:Shared) (Q:Value->Shared->Prop) (E:Value->Shared->Prop),Q (.int (g i) s.toks) { s with toks:=s.toks+1 }->wpAny (model X.prog X.w) X.A (f (.int i t)) Q E s) :
  UnR X f (rU fun i=>.int (g i)):=by
 intro pins s σ H x v Q I rx h;obtain⟨i,rfl,q⟩:=h;obtain⟨t,rfl⟩:=rx;exact rule i t s _ _ ⟨.int (g i),H,I.tok _,⟨_,rfl⟩,q⟩
theorem vC:UnR X (unaryOp .USub) (rU fun i=>.int (-i)):=unI fun _ _ _ _ _ q=>neg_int q
end
def Fh:V->V->Bool
 | .non,.non=>true|.non,.int _=>true|.int _,.non=>true|.non,.bl _=>true|.bl _,.non=>true|.non,.str _=>true|.str _,.non=>true
 | .int _,.int _=>true|.bl _,.bl _=>true|.str _,.str _=>true|.byt _,.byt _=>true
 | .int _,.str _=>true|.str _,.int _=>true|.bl _,.str _=>true|.str _,.bl _=>true
 | _,_=>false
def rEq:R2:=fun x y H Q=>Fh x y=true/\Q (.bl (decide (x=y))) H
def rNe:R2:=fun x y H Q=>Fh x y=true/\Q (.bl (!decide (x=y))) H
theorem vD{i j:Int}:decide (V.int i=V.int j)=(i == j):=by
 rw [Bool.eq_iff_iff];simp
theorem zm{i j:Bool}:decide (V.bl i=V.bl j)=(i == j):=by
 rw [Bool.eq_iff_iff];simp
theorem vE{i j:Str}:decide (V.str i=V.str j)=(i == j):=by
 rw [Bool.eq_iff_iff];simp
theorem vF{i j:Array UInt8}:decide (V.byt i=V.byt j)=(i.toList == j.toList):=by
 rw [Bool.eq_iff_iff];cases i;cases j;simp
section
variable {X:Cx}{a b c:Expr}{ta tb tc:TE}{pos:Pos}
theorem bF{pins:List (Addr×Obj)}{σ:St}{H:Hp}{s:Shared}{Q:VK}{k k':Bool}(I:Inv X pins σ H s)(q:Q (.bl k) H)(e:k=k'):EP X pins σ Q (.bool k') s:=by
 subst e;exact⟨.bl k,H,I,rfl,q⟩
theorem D7:OpR X (compareOp .Eq) rEq:=by
 intro pins s σ H x y v u Q I rx ry h;obtain⟨hs,q⟩:=h
 cases x with
 | non =>
  cases rx
  cases y with
  | non=>cases ry;exact PySem.EqNone.eq_none_none (bF I q (by simp))
  | bl j=>cases ry;exact PySem.EqNone.eq_none_bool (bF I q (by simp))
  | int j=>obtain⟨t',rfl⟩:=ry;exact PySem.EqNone.eq_none_int (bF I q (by simp))
  | str j=>obtain⟨t',rfl⟩:=ry;exact PySem.EqNone.eq_none_str (bF I q (by simp))
  | _=>exact absurd (show false=true from hs) Bool.false_ne_true
 | bl i =>
  cases rx
  cases y with
  | non=>cases ry;exact PySem.EqNone.eq_bool_none (bF I q (by simp))
  | bl j=>cases ry;exact eq_bool (bF I q zm)
  | str j=>obtain⟨t',rfl⟩:=ry;exact PySem.EqMixed.eq_bool_str (bF I q (by simp))
  | _=>exact absurd (show false=true from hs) Bool.false_ne_true
 | int i =>
  obtain⟨t,rfl⟩:=rx
  cases y with
  | non=>cases ry;exact PySem.EqNone.eq_int_none (bF I q (by simp))
  | int j=>obtain⟨t',rfl⟩:=ry;exact eq_int (bF I q vD)
  | str j=>obtain⟨t',rfl⟩:=ry;exact PySem.EqMixed.eq_int_str (bF I q (by simp))
  | _=>exact absurd (show false=true from hs) Bool.false_ne_true
 | str i =>
  obtain⟨t,rfl⟩:=rx
  cases y with
  | non=>cases ry;exact PySem.EqNone.eq_str_none (bF I q (by simp))
  | bl j=>cases ry;exact PySem.EqMixed.eq_str_bool (bF I q (by simp))
  | int j=>obtain⟨t',rfl⟩:=ry;exact PySem.EqMixed.eq_str_int (bF I q (by simp))
  | str j=>obtain⟨t',rfl⟩:=ry;exact eq_str (bF I q vE)
  | _=>exact absurd (show false=true from hs) Bool.false_ne_true
 | byt i =>
  obtain⟨t,rfl⟩:=rx
  cases y with
  | byt j=>obtain⟨t',rfl⟩:=ry;exact PySem.W.eq_bytes (bF I q vF)
  | _=>exact absurd (show false=true from hs) Bool.false_ne_true
 | _=>cases y <;> exact absurd (show false=true from hs) Bool.false_ne_true
theorem D8:OpR X (compareOp .NotEq) rNe:=by
 intro pins s σ H x y v u Q I rx ry h;obtain⟨hs,q⟩:=h
 cases x with
 | non =>
  cases rx
  cases y with
  | non=>cases ry;exact PySem.EqNone.ne_none_none (bF I q (by simp))
  | bl j=>cases ry;exact PySem.EqNone.ne_none_bool (bF I q (by simp))
  | int j=>obtain⟨t',rfl⟩:=ry;exact PySem.EqNone.ne_none_int (bF I q (by simp))
  | str j=>obtain⟨t',rfl⟩:=ry;exact PySem.EqNone.ne_none_str (bF I q (by simp))
  | _=>exact absurd (show false=true from hs) Bool.false_ne_true
 | bl i =>
  cases rx
  cases y with
  | non=>cases ry;exact PySem.EqNone.ne_bool_none (bF I q (by simp))
  | bl j=>cases ry;exact ne_bool (bF I q (congrArg not zm))
  | str j=>obtain⟨t',rfl⟩:=ry;exact PySem.EqMixed.ne_bool_str (bF I q (by simp))
  | _=>exact absurd (show false=true from hs) Bool.false_ne_true
 | int i =>
  obtain⟨t,rfl⟩:=rx
  cases y with
  | non=>cases ry;exact PySem.EqNone.ne_int_none (bF I q (by simp))
  | int j=>obtain⟨t',rfl⟩:=ry;exact ne_int (bF I q (congrArg not vD))
  | str j=>obtain⟨t',rfl⟩:=ry;exact PySem.EqMixed.ne_int_str (bF I q (by simp))
  | _=>exact absurd (show false=true from hs) Bool.false_ne_true
 | str i =>
  obtain⟨t,rfl⟩:=rx
  cases y with
  | non=>cases ry;exact PySem.EqNone.ne_str_none (bF I q (by simp))
  | bl j=>cases ry;exact PySem.EqMixed.ne_str_bool (bF I q (by simp))
  | int j=>obtain⟨t',rfl⟩:=ry;exact PySem.EqMixed.ne_str_int (bF I q (by simp))
  | str j=>obtain⟨t',rfl⟩:=ry;exact ne_str (bF I q (congrArg not vE))
  | _=>exact absurd (show false=true from hs) Bool.false_ne_true
 | byt i =>
  obtain⟨t,rfl⟩:=rx
  cases y with
  | byt j=>obtain⟨t',rfl⟩:=ry;exact PySem.W.ne_bytes (bF I q (congrArg not vF))
  | _=>exact absurd (show false=true from hs) Bool.false_ne_true
 | _=>cases y <;> exact absurd (show false=true from hs) Bool.false_ne_true
theorem D9:OpR X (compareOp .Lt) (rI0 fun i j=>.bl (decide (i<j))):=BC fun _ _ _ _ _ _ _ q=>lt_int q
theorem Ea:OpR X (compareOp .LtE) (rI0 fun i j=>.bl (decide (i<=j))):=BC fun _ _ _ _ _ _ _ q=>le_int q
theorem Eb:OpR X (compareOp .Gt) (rI0 fun i j=>.bl (decide (j<i))):=BC fun _ _ _ _ _ _ _ q=>gt_int q
theorem Ec:OpR X (compareOp .GtE) (rI0 fun i j=>.bl (decide (j<=i))):=BC fun _ _ _ _ _ _ _ q=>ge_int q
theorem vG:OpR X (compareOp .Lt) (fun x y H Q=>∃i j,x=.str i/\y=.str j/\Q (.bl (decide (i.cps.toList<j.cps.toList))) H):=by
 intro pins s σ H x y v u Q I rx ry h;obtain⟨i,j,rfl,rfl,q⟩:=h;obtain⟨t,rfl⟩:=rx;obtain⟨t',rfl⟩:=ry;exact lt_str (bF I q rfl)
theorem Cf:OpR X (compareOp .Is) (fun x y H Q=>y=.non/\Q (.bl (decide (x=.non))) H):=by
 intro pins s σ H x y v u Q I rx ry h;obtain⟨rfl,q⟩:=h;cases ry;refine is_none_gen (bF I q ?_)
 cases x <;> first
  | (cases rx;rfl)
  | (obtain ⟨t,rfl⟩:=rx;rfl)
theorem OpR.or{f:Value->Value->Sem Value}{r r':R2}(h:OpR X f r)(h':OpR X f r'):OpR X f (fun x y H Q=>r x y H Q\/r' x y H Q):=by
 intro pins s σ H x y v u Q I rx ry q
 rcases q with q|q
 .exact h pins s σ H x y v u Q I rx ry q
 .exact h' pins s σ H x y v u Q I rx ry q
theorem aV(b:Expr){op:CmpOp}(h:op≠.In:=by decide)(h2:op≠.NotIn:=by decide):behindInMarks op b=false:=by
 have e1:(op == CmpOp.In)=false:=by cases op <;> first|rfl|exact absurd rfl h
 have e2:(op == CmpOp.NotIn)=false:=by cases op <;> first|rfl|exact absurd rfl h2
 cases b <;> simp [behindInMarks,e1,e2]
theorem eh{op:CmpOp}{r:R2}(ho:OpR X (compareOp op) r)(ha:PE X a ta)(hb:PE X b tb)(hm:behindInMarks op b=false):PE X (.Compare a [op] [b] pos) (tOp r ta tb):=by
 intro pins s σ H Q I h;exact wpAny_Compare1 (D4 ha hb I h fun v u s2 x y H2 I2 rx ry q=>ho pins s2 σ H2 x y v u Q I2 rx ry q) hm
def vH(t:TE):TT:=fun σ H Q=>t σ H fun x H'=>∃k,x=.bl k/\Q k H'
theorem aS{op:CmpOp}{r:R2}(ho:OpR X (compareOp op) r)(ha:PE X a ta)(hb:PE X b tb)(hm:behindInMarks op b=false):PT X (.Compare a [op] [b] pos) (vH (tOp r ta tb)):=by
 intro pins s σ H Q I h
 refine wpAny_isTrue_Compare1 (thn (ha pins s σ H _ I h) fun v s1 ⟨x,H1,I1,r1,q1⟩=>thn (hb pins s1 σ H1 _ I1 q1) fun u s2 ⟨y,H2,I2,r2,q2⟩ =>
  thn (ho pins s2 σ H2 x y v u _ I2 r1 r2 q2) fun c s3 ⟨z,H3,I3,r3,k,e,q3⟩=>?_) hm
 subst e;cases r3;exact wpAny_truthy_bool ⟨H3,I3,q3⟩
def sY(r r':R2)(ta tb tc:TE):TE:=fun σ H Q=>ta σ H fun x H1=>tb σ H1 fun y H2=>r x y H2 fun z H3=>∃k,z=.bl k /\
 (if k=true then tc σ H3 fun w' H4=>r' y w' H4 Q else Q (.bl false) H3)
theorem sZ{op op':CmpOp}{r r':R2}(ho:OpR X (compareOp op) r)(ho':OpR X (compareOp op') r')(ha:PE X a ta)(hb:PE X b tb)(hc:PE X c tc)
  (hm:lastMarks [op,op'] [b,c]=false:=by with_unfolding_all rfl):PE X (.Compare a [op,op'] [b,c] pos) (sY r r' ta tb tc):=by
 intro pins s σ H Q I h
 refine Compare_chain (thn (ha pins s σ H _ I h) fun v s1 ⟨x,H1,I1,r1,q1⟩=>chain_link (thn (hb pins s1 σ H1 _ I1 q1) fun u s2 ⟨y,H2,I2,r2,q2⟩ =>
  thn (ho pins s2 σ H2 x y v u _ I2 r1 r2 q2) fun d s3 ⟨z,H3,I3,r3,k,e,q3⟩=>?_)) hm
 subst e;cases r3;refine wpAny_truthy_bool ?_
 cases k with
 | false=>exact ite_ff ⟨.bl false,H3,I3,rfl,q3⟩
 | true=>exact ite_tt (chain_last (thn (hc pins s3 σ H3 _ I3 q3) fun w' s4 ⟨z',H4,I4,r4,q4⟩=>ho' pins s4 σ H4 y z' u w' Q I4 r2 r4 q4))
theorem ya{op op':CmpOp}{r r':R2}(ho:OpR X (compareOp op) r)(ho':OpR X (compareOp op') r')(ha:PE X a ta)(hb:PE X b tb)(hc:PE X c tc)
  (hm:lastMarks [op,op'] [b,c]=false:=by with_unfolding_all rfl):PT X (.Compare a [op,op'] [b,c] pos) (vH (sY r r' ta tb tc)):=by
 intro pins s σ H Q I h
 refine isTrue_chain (thn (ha pins s σ H _ I h) fun v s1 ⟨x,H1,I1,r1,q1⟩=>test_link (thn (hb pins s1 σ H1 _ I1 q1) fun u s2 ⟨y,H2,I2,r2,q2⟩ =>
  thn (ho pins s2 σ H2 x y v u _ I2 r1 r2 q2) fun d s3 ⟨z,H3,I3,r3,k,e,q3⟩=>?_)) hm
 subst e;cases r3;refine wpAny_truthy_bool ?_
 cases k with
 | false =>
  obtain⟨k',e',q'⟩:=q3;cases e';exact ite_ff ⟨H3,I3,q'⟩
 | true =>
  refine ite_tt (test_last (thn (hc pins s3 σ H3 _ I3 q3) fun w' s4 ⟨z',H4,I4,r4,q4⟩=>thn (ho' pins s4 σ H4 y z' u w' _ I4 r2 r4 q4) fun d' s5 ⟨z2,H5,I5,r5,k2,e2,q5⟩=>?_));subst e2;cases r5;exact wpAny_truthy_bool ⟨H5,I5,q5⟩
theorem lv:(sizeLine:Nat)<2^63:=by rw [sizeLine_eq];decide
theorem uq:OpR X (binaryOp .Add) (fun x y H Q=>∃i j,x=.str i/\y=.str j/\i.length+j.length<=sizeLine/\Q (.str (i++j)) H):=by
 intro pins s σ H x y v u Q I rx ry h;obtain⟨i,j,rfl,rfl,hz,q⟩:=h;obtain⟨t,rfl⟩:=rx;obtain⟨t',rfl⟩:=ry;exact add_str (fun t' tk=>⟨.str (i++j),H,I.tok _,⟨_,rfl⟩,q⟩) hz
theorem jm{x:V}{us:List Value}(r:cG [x] us):∃u,us=[u]/\dw x u:=by
 cases r with
 | cons r1 r2=>cases r2;exact⟨_,rfl,r1⟩
theorem yb{x y:V}{us:List Value}(r:cG [x,y] us):∃u w',us=[u,w']/\dw x u/\dw y w':=by
 cases r with
 | cons r1 r2 =>
  cases r2 with
  | cons r3 r4=>cases r4;exact⟨_,_,rfl,r1,r3⟩
theorem yc:cC X (.builtin "abs") (fun xs H Q=>∃i,xs=[.int i]/\Q (.int (if i<0 then -i else i)) H):=by
 intro pins s σ H xs us Q I r h;obtain⟨i,rfl,q⟩:=h;obtain⟨u,rfl,t,rfl⟩:=jm r;exact call_abs_int fun u tk=>⟨.int (if i<0 then -i else i),H,I.tok _,⟨_,rfl⟩,q⟩
theorem vI(hc:X.calm=true):cC X (.builtin "max") (fun xs H Q=>∃i j,xs=[.int i,.int j]/\Q (.int (if j > i then j else i)) H):=by
 intro pins s σ H xs us Q I r h;obtain⟨i,j,rfl,q⟩:=h;obtain⟨u,w',rfl,⟨t,rfl⟩,⟨t',rfl⟩⟩:=yb r;refine max_two_ints (I.ok.hd hc) fun h' tk k=>⟨_,H,I.kept k,?_,q⟩
 by_cases hj:j > i
 .rw [if_pos hj,if_pos hj];exact⟨_,rfl⟩
 .rw [if_neg hj,if_neg hj];exact⟨_,rfl⟩
theorem vJ(hc:X.calm=true):cC X (.builtin "min") (fun xs H Q=>∃i j,xs=[.int i,.int j]/\Q (.int (if j<i then j else i)) H):=by
 intro pins s σ H xs us Q I r h;obtain⟨i,j,rfl,q⟩:=h;obtain⟨u,w',rfl,⟨t,rfl⟩,⟨t',rfl⟩⟩:=yb r;refine min_two_ints (I.ok.hd hc) fun h' tk k=>⟨_,H,I.kept k,?_,q⟩
 by_cases hj:j<i
 .rw [if_pos hj,if_pos hj];exact⟨_,rfl⟩
 .rw [if_neg hj,if_neg hj];exact⟨_,rfl⟩
end
structure BD (h:Heap) (x dx C:Addr) (mA:Str->Option Value):Prop where
 obj:h.get? x=some (PySem.W.instObj C dx)
 ns:h.Ns1 dx mA
 ne:dx≠x
theorem vK{h:Heap}{dx:Addr}{mA:Str->Option Value}(n:h.Ns1 dx mA):∃od,h.get? dx=some od/\∀name,PySem.W.lookIn name od=some (mA name):=by
 obtain⟨o,es,ep,ho,hd,hk,_,hm⟩:=n;refine⟨o,ho,fun name=>?_⟩;have e:=hm name;unfold nsFind findBy at e;rw [<- Array.find?_toList] at e;unfold PySem.W.lookIn;rw [hd];dsimp only
 split
 .rename_i y q;rw [q] at e;exact congrArg some e
 .rename_i q;rw [q] at e
  have a:es.toList.any (·.refKey)=false:=by
   rw [any_eq_false];intro y hy;obtain⟨z,t,hkey⟩:=hk y (Array.mem_toList_iff.mp hy);simp [DictEntry.refKey,hkey]
  have a':¬ es.toList.any (·.refKey)=true:=by rw [a];exact Bool.false_ne_true
  rw [if_neg a'];exact congrArg some e
theorem BD.look{h:Heap}{x dx C:Addr}{mA:Str->Option Value}(I:BD h x dx C mA):∃od,PySem.W.InstAt h x (PySem.W.instObj C dx) C (some od)/\∀name,PySem.W.lookIn name od=some (mA name) :=
 let ⟨od,ho,hl⟩:=vK I.ns
 ⟨od,⟨I.obj,rfl,rfl,ho⟩,hl⟩
section
variable {prog:Program}{w:World}{A:Around}{E:Value->Shared->Prop}{s:Shared}{K:PySem.W.Frag}{x dx C f:Addr}{mA:Str->Option Value}{name:Str}{v:Value}
theorem Ae{expr:Bool}{Q:Value->Shared->Prop}(X:K.In s.heap)(I:BD s.heap x dx C mA)(hg:PySem.W.plainGet K C name=true)(hh:PySem.W.hasDictIn K C=true)
  (ha:PySem.W.findIn K (.ref C) name=some none) (hv:mA name=some v) (hv':PySem.W.handedIn v=true) (h:Q v { s with toks:=s.toks+1 }) :
  wpAny (model prog w) A (getAttr (.ref x) name expr) Q E s:=by
 obtain⟨od,J,hl⟩:=I.look;exact PySem.W.get_value X J (PySem.W.plainGet_of hg).1 (PySem.W.findObj_own hh ha rfl (by rw [hl,hv])) hv' h
theorem Af{ns:List Str}{Q:Unit->Shared->Prop}(X:K.In s.heap)(I:BD s.heap x dx C mA)
  (hs:PySem.W.findIn K (.ref C) "__setattr__"=some (some (.builtin "object.__setattr__"))) (hp:PySem.W.plainOver K C=true) (ht:PySem.W.takerIn K C name=some none) (hh:PySem.W.hasDictIn K C=true)
  (hw:PySem.Within mA ns) (hsz:ns.length<=sizeLine)
  (h:∀h',BD h' x dx C (fun y=>if y=name then some v else mA y)->Heap.SameBut dx s.heap h'->Q () { s with heap:=h',toks:=s.toks+2 }) :
  wpAny (model prog w) A (setAttr (.ref x) name v) Q E s:=by
 obtain⟨od,J,hl⟩:=I.look;refine PySem.W.set_plain X J hs (PySem.W.osa_open (s:={ s with toks:=s.toks+1 }) (r:=none) X J hp ht fun b=>?_);obtain⟨cd,hc,hd'⟩:=PySem.W.any_some hh;have hx:s.heap.get? x=some ⟨.ref C,some dx,.plain,#[]⟩:=I.obj;refine wpAny_bind (wpAny_pure (wpAny_bind (wpAny_bind (wpAny_loadPart hx (wpAny_bind (PySem.W.Looks.here (s:={ s with toks:=s.toks+1 }) (PySem.W.looks_clsIn X hc) ?_))))))
 rw [hd'];refine wpAny_pure (a:=some dx) (wpAny_bind (wpAny_pure (wpAny_bind ?_)));refine wpAny_nsSet1 (s:={ s with toks:=s.toks+1 }) I.ns fun h' hn2 hs2=>?_;obtain⟨oD,esD,epD,hoD,hdD,hcD⟩:=hn2.count (PySem.Within.cons name v hw);refine wpAny_bind (wpAny_lookBehind hoD (by rw [hdD];exact pastItsLine_dict (le_trans hcD (by rw [length_cons];omega))) ?_);exact wpAny_pure (h _ ⟨(hs2.2 _ (Ne.symm I.ne)).trans I.obj,hn2,I.ne⟩ hs2)
theorem yd{R:Result->Shared->Prop}{vs:List Value}{kw:List (Str×Value)}(X:K.In s.heap)(hm:PySem.W.makesIn K C=true)
  (hi:PySem.W.findIn K (.ref C) "__init__"=some (some (.ref f))) (hf:PySem.W.typeIn K (.ref f)=some (.type "function"))
  (h:codeAny (model prog w) (A.under (.builtin "type.__call__" ⟨.ref C::vs,kw⟩)) (.call (.ref f) ⟨.ref (s.heap.objs.size+1)::vs,kw⟩) (PySem.W.InitBack (s.heap.objs.size+1) R)
   { s with heap:=(s.heap.push PySem.W.emptyDict).push (PySem.W.instObj C s.heap.objs.size) }) :
  codeAny (model prog w) A (.call (.ref C) ⟨vs,kw⟩) R s:=by
 obtain⟨hh,g,d,t,os⟩:=s;exact PySem.W.make_core (PySem.W.makes_of X hm) (PySem.W.looks_findIn X hi) (fun self=>PySem.W.bind_fn X self hf) (.inl rfl) h
end
def nj(f:Str)(v:V):List (Str×V)->List (Str×V)
 | []=>[(f,v)]
 | (g,x)::r=>if g=f then (g,v)::r else (g,x)::nj f v r
theorem lx(f g:Str)(v:V):∀fs:List (Str×V),(nj f v fs).lookup g=if g=f then some v else fs.lookup g
 | []=>by
  show List.lookup g [(f,v)]=_
  by_cases h:g=f
  .have hb:(g == f)=true:=beq_iff_eq.mpr h;simp only [List.lookup,hb,if_pos h]
  .have hb:(g == f)=false:=beq_eq_false_iff_ne.mpr h;simp only [List.lookup,hb,if_neg h]
 | (k,x)::r=>by
  have ih:=lx f g v r;rw [show nj f v ((k,x)::r)=(if k=f then (k,v)::r else (k,x)::nj f v r) from rfl]
  by_cases hk:k=f
  .rw [if_pos hk]
   by_cases h:g=k
   .have hb:(g == k)=true:=beq_iff_eq.mpr h;simp only [List.lookup,hb,if_pos (h.trans hk)]
   .have hb:(g == k)=false:=beq_eq_false_iff_ne.mpr h;simp only [List.lookup,hb,if_neg (fun e:g=f=>h (e.trans hk.symm))]
  .rw [if_neg hk]
   by_cases h:g=k
   .have hb:(g == k)=true:=beq_iff_eq.mpr h;simp only [List.lookup,hb,if_neg (fun e:g=f=>hk (h.symm.trans e))]
   .have hb:(g == k)=false:=beq_eq_false_iff_ne.mpr h;simp only [List.lookup,hb];exact ih
theorem ly(f:Str)(v:V):∀fs:List (Str×V),f∈(nj f v fs).map (·.1)/\∀g,g∈fs.map (·.1)->g∈(nj f v fs).map (·.1)
 | []=>⟨by simp [nj],fun g h=>by simp at h⟩
 | (k,x)::r=>by
  obtain⟨i1,i2⟩:=ly f v r;rw [show nj f v ((k,x)::r)=(if k=f then (k,v)::r else (k,x)::nj f v r) from rfl]
  by_cases hk:k=f
  .rw [if_pos hk];subst hk;exact⟨by simp,fun g h=>by simpa using h⟩
  .rw [if_neg hk]
   refine⟨?_,fun g h=>?_⟩
   .rw [map_cons];exact mem_cons_of_mem _ i1
   .rw [map_cons] at h ⊢
    rcases mem_cons.mp h with e|e
    .exact mem_cons.mpr (.inl e)
    .exact mem_cons_of_mem _ (i2 g e)
theorem lz(f:Str)(v:V):∀fs:List (Str×V),(nj f v fs).length<=fs.length+1
 | []=>by simp [nj]
 | (k,x)::r=>by
  have ih:=lz f v r;rw [show nj f v ((k,x)::r)=(if k=f then (k,v)::r else (k,x)::nj f v r) from rfl]
  by_cases hk:k=f
  .rw [if_pos hk,length_cons,length_cons];omega
  .rw [if_neg hk,length_cons,length_cons];omega
theorem zY.some_of{v:V}{o:Option Value}(r:zY (some v) o):∃u,o=some u/\dw v u:=by
 cases o with
 | none=>exact (show False from r).elim
 | some u=>exact⟨u,rfl,r⟩
theorem vL{v:V}{u:Value}(r:dw v u):PySem.W.handedIn u=true:=by
 cases v with
 | non=>cases (show u=Value.none from r);rfl
 | bl b=>cases (show u=Value.bool b from r);rfl
 | int i=>obtain⟨t,e⟩:=(show ∃t,u=Value.int i t from r);cases e;rfl
 | str x=>obtain⟨t,e⟩:=(show ∃t,u=Value.str x t from r);cases e;rfl
 | byt b=>obtain⟨t,e⟩:=(show ∃t,u=Value.bytes b t from r);cases e;rfl
 | flt b=>obtain⟨t,e⟩:=(show ∃t,u=Value.float b t from r);cases e;rfl
 | ref a=>cases (show u=Value.ref a from r);rfl
 | ty n=>cases (show u=Value.type n from r);rfl
section
variable {P:Program}{w:World}{H H':Hp}{h h':Heap}{a C dx:Addr}{fs fs':List (Str×V)}
theorem n5(hok:HOk P w H h)(e:H a=some (.ins C dx fs)):∃mA,BD h a dx C mA/\(∀f,zY (fs.lookup f) (mA f))/\PySem.Within mA (fs.map (·.1))/\fs.length<=1000/\H dx=some (.own a):=by
 obtain⟨d,z,ne,ob,mA,n,r,q⟩:=(show cJ P w H h a (.ins C dx fs) from hok a _ e)
 exact⟨mA,⟨ob,n,ne⟩,r,q,z,d⟩
end
structure Cls (K:PySem.W.Frag) (C:Addr):Prop where
 pg:PySem.W.plainGet K C Str.empty=true
 hd:PySem.W.hasDictIn K C=true
 po:PySem.W.plainOver K C=true
 sa:PySem.W.findIn K (.ref C) "__setattr__"=some (some (.builtin "object.__setattr__"))
theorem Cls.get{K:PySem.W.Frag}{C:Addr}(c:Cls K C)(f:Str):PySem.W.plainGet K C f=true:=c.pg
def gJ(K:PySem.W.Frag)(C:Addr)(f:Str):Prop:=PySem.W.findIn K (.ref C) f=some none
theorem gJ.taker{K:PySem.W.Frag}{C:Addr}{f:Str}(n:gJ K C f):PySem.W.takerIn K C f=some none:=by
 unfold PySem.W.takerIn;rw [show PySem.W.findIn K (.ref C) f=some none from n];rfl
section
variable {X:Cx}{pins:List (Addr×Obj)}{σ:St}{H:Hp}{s:Shared}{a C dx:Addr}{fs:List (Str×V)}{f:Str}{v:V}{A:Around}{E:Value->Shared->Prop}
theorem ur{b:Bool}{Q:Value->Shared->Prop}(I:Inv X pins σ H s)(e:H a=some (.ins C dx fs))(c:Cls X.K C)(n:gJ X.K C f)(l:fs.lookup f=some v)
  (h:∀u s',Inv X pins σ H s'->dw v u->Q u s'):wpAny (model X.prog X.w) A (getAttr (.ref a) f b) Q E s:=by
 obtain⟨mA,O,r,_,_,_⟩:=n5 I.hok e;obtain⟨u,hu,ru⟩:=zY.some_of (v:=v) (o:=mA f) (by rw [<- l];exact r f);exact Ae I.kIn O (c.get f) c.hd n hu (vL ru) (h u _ (I.tok _) ru)
theorem ut{y:V}{u:Value}{Q:Unit->Shared->Prop}(I:Inv X pins σ H s)(e:H a=some (.ins C dx fs))(c:Cls X.K C)(n:gJ X.K C f)(hl:fs.length<1000)(ry:dw y u)
  (h:∀s',Inv X pins σ (upd H a (.ins C dx (nj f y fs))) s'->Q () s'):wpAny (model X.prog X.w) A (setAttr (.ref a) f u) Q E s:=by
 obtain⟨mA,O,r,wi,_,ho⟩:=n5 I.hok e;have hz:(fs.map (·.1)).length<=sizeLine:=by rw [length_map,sizeLine_eq];omega
 refine Af I.kIn O c.sa c.po n.taker c.hd wi hz fun h' O' sb=>h _ ?_;have hd:∃o,h'.get? dx=some o:=let ⟨o,_,_,e',_⟩:=O'.ns;⟨o,e'⟩
 refine I.write (x:=a) (e:=dx) (by rw [e];exact True.intro) (.inr ho) (fun b q hb z=>(sb.2 b hb).trans z) hd ?_
 refine⟨by rw [aE O.ne];exact ho,?_,O.ne,O'.obj,_,O'.ns,fun g=>?_,fun g hg=>?_⟩
 .have:=lz f y fs;omega
 .show zY ((nj f y fs).lookup g) (if g=f then some u else mA g);rw [lx]
  by_cases q:g=f
  .rw [if_pos q,if_pos q];exact ry
  .rw [if_neg q,if_neg q];exact r g
 .by_cases q:g=f
  .rw [q];exact (ly f y fs).1
  .refine (ly f y fs).2 g (wi g fun z=>hg ?_);show (if g=f then some u else mA g)=none;rw [if_neg q];exact z
theorem Inv.made(I:Inv X pins σ H s):Inv X pins σ (upd (upd H s.heap.objs.size (.own (s.heap.objs.size+1))) (s.heap.objs.size+1) (.ins C s.heap.objs.size []))
  { s with heap:=(s.heap.push PySem.W.emptyDict).push (PySem.W.instObj C s.heap.objs.size) }:=by
 have e1:(s.heap.push PySem.W.emptyDict).get? s.heap.objs.size=some PySem.W.emptyDict:=Heap.get?_push_size s.heap rfl
 have e2:((s.heap.push PySem.W.emptyDict).push (PySem.W.instObj C s.heap.objs.size)).get? (s.heap.objs.size+1)=some (PySem.W.instObj C s.heap.objs.size):=by
  have:=Heap.get?_push_size (s.heap.push PySem.W.emptyDict) (o:=PySem.W.instObj C s.heap.objs.size) rfl
  rwa [Heap.size_push] at this
 have e3:(s.heap.push PySem.W.emptyDict).Ns s.heap.objs.size (fun _=>none):=⟨PySem.W.emptyDict,#[],_,e1,rfl,(fun e he=>absurd he (by simp)),fun _=>rfl⟩
 have I1:=I.laid (a:=s.heap.objs.size) (o:=.own (s.heap.objs.size+1)) (h':=s.heap.push PySem.W.emptyDict) (t':=s.toks) (fun b u q=>Heap.get?_push_of_some _ q) (Nat.le_refl _) ⟨_,e1⟩;refine I1.laid (a:=s.heap.objs.size+1) (o:=.ins C s.heap.objs.size []) (t':=s.toks) (fun b u q=>Heap.get?_push_of_some _ q) (le_of_eq (Heap.size_push _ _)) ?_;have ne:s.heap.objs.size≠s.heap.objs.size+1:=ne_of_lt (lt_succ_self _)
 refine⟨by rw [aE ne,aJ],zero_le _,ne,e2,fun _=>none,(Heap.Ns1.of_empty e3).at fun o q=>Heap.get?_push_of_some _ q,fun _=>True.intro,fun y hy=>absurd rfl hy⟩
theorem Ag{prog:Program}{w:World}{env:Env}{e:Expr}{f:Str}{pos:Pos}{s:Shared}{Q:Value->Shared->Prop}(hb:attributeBase e f env (eval e env)=eval e env)
  (h:wpAny (model prog w) A (eval e env) (fun o s₁=>wpAny (model prog w) A (getAttr o f true) Q E s₁) E s):wpAny (model prog w) A (eval (.Attribute e f pos) env) Q E s :=
 Attribute_any_ h (by rw [arm_eval_Attribute,hb])
end
def zn(K:PySem.W.Frag)(ta:TE)(f:Str):TE:=fun σ H Q=>ta σ H fun x H1=>∃a C dx fs v,x=.ref a/\H1 a=some (.ins C dx fs)/\Cls K C/\gJ K C f/\fs.lookup f=some v/\Q v H1
def Fi(K:PySem.W.Frag)(ta tv:TE)(f:Str):TS:=fun D σ H=>tv σ H fun y H1=>ta σ H1 fun x H2=>∃a C dx fs,x=.ref a/\H2 a=some (.ins C dx fs)/\Cls K C/\gJ K C f/\fs.length<1000 /\
 D.nx σ (upd H2 a (.ins C dx (nj f y fs)))
section
variable {X:Cx}{o e value:Expr}{f:Str}{pos pos' tpos:Pos}{ta tv:TE}
theorem Cg(he:PE X e ta)(hb:attributeBase e f X.env (eval e X.env)=eval e X.env):PE X (.Attribute e f pos) (zn X.K ta f):=by
 intro pins s σ H Q I h;refine Ag hb (thn (he pins s σ H _ I h) fun u s1 ⟨x,H1,I1,rx,a,C,dx,fs,v,ex,ea,c,n,l,q⟩=>?_);subst ex;obtain rfl:u=Value.ref a:=rx;exact ur I1 ea c n l fun u' s2 I2 ru=>⟨v,H1,I2,ru,q⟩
theorem tm(ha:PE X o ta)(hv:PE X value tv)(hs:swapsWith value (some (.Attribute o f pos')) pos.line X.env=pure false):PS X (.Assign [.Attribute o f pos'] value pos) (Fi X.K ta tv f):=by
 intro pins s σ H D I h;refine plainObj_wpAny_Assign_Attribute (thn (hv pins s σ H _ I h) fun u s1 ⟨y,H1,I1,ry,q⟩=>thn (ha pins s1 σ H1 _ I1 q) fun ov s2 ⟨x,H2,I2,rx,a,C,dx,fs,ex,ea,c,n,l,q2⟩=>?_) hs;subst ex;obtain rfl:ov=Value.ref a:=rx;exact ut I2 ea c n l ry fun s3 I3=>⟨σ,_,I3,q2⟩
end
section
variable {X:Cx}{pins:List (Addr×Obj)}{σ:St}{H:Hp}{s:Shared}{A:Around}{E:Value->Shared->Prop}{Q:Value->Shared->Prop}{c:Value}{b:Bool}
inductive pV (K:PySem.W.Frag) (H:Hp):V->Value->Prop where
 | non:pV K H .non (.type "NoneType")
 | bl (x:Bool):pV K H (.bl x) (.type "bool")
 | int (i:Int):pV K H (.int i) (.type "int")
 | str (x:Str):pV K H (.str x) (.type "str")
 | flt (x:UInt64):pV K H (.flt x) (.type "float")
 | lst {a:Addr}{xs:List V} (e:H a=some (.lst xs)):pV K H (.ref a) (.type "list")
 | frz {a:Addr}{o:Obj}{xs:List V} (e:H a=some (.frz o (.lst xs))):pV K H (.ref a) (.type "list")
 | tup {a:Addr}{xs:List V} (e:H a=some (.tup xs)):pV K H (.ref a) (.type "tuple")
 | dK {a:Addr}{kvs:List (Key×V)} (e:H a=some (.dK kvs)):pV K H (.ref a) (.type "dict")
 | dT {a:Addr}{kvs:List (List Key×V)} (e:H a=some (.dT kvs)):pV K H (.ref a) (.type "dict")
 | ins {a C dx:Addr}{fs:List (Str×V)} (e:H a=some (.ins C dx fs)) (cl:Cls K C) (ha:PySem.W.findIn K (.ref C) "__class__"=some (some (.builtin "object.__class__")))
   (hn:PySem.W.specialIn K (.builtin "object.__class__") "__get__"=some (some (.builtin "getset_descriptor.__get__"))) (htk:PySem.W.takesIn K (.builtin "object.__class__")=some true)
   (hm:PySem.W.mroIn K C (.type "object")=some true):pV K H (.ref a) (.ref C)
theorem vM{x:V}{u t:Value}(I:Inv X pins σ H s)(rx:dw x u)(ty:pV X.K H x t)(e:PySem.W.kitOne X.K t c=some b)(h:∀tk,Q (.bool b) { s with toks:=tk }) :
  wpAny (model X.prog X.w) A (call (.builtin "isinstance") [u,c]) Q E s:=by
 cases ty with
 | non=>cases (show u=Value.none from rx);exact PySem.W.kia_one PySem.W.kitx_none I.kIn True.intro e (fun z=>nomatch z) h
 | bl y=>cases (show u=Value.bool y from rx);exact PySem.W.kia_one PySem.W.kitx_bool I.kIn True.intro e (fun z=>nomatch z) h
 | int i=>obtain⟨t,q⟩:=(show ∃t,u=Value.int i t from rx);cases q;exact PySem.W.kia_one PySem.W.kitx_int I.kIn True.intro e (fun z=>nomatch z) h
 | str y=>obtain⟨t,q⟩:=(show ∃t,u=Value.str y t from rx);cases q;exact PySem.W.kia_one PySem.W.kitx_str I.kIn True.intro e (fun z=>nomatch z) h
 | flt y=>obtain⟨t,q⟩:=(show ∃t,u=Value.float y t from rx);cases q;exact PySem.W.kia_one PySem.W.kitx_float I.kIn True.intro e (fun z=>nomatch z) h
 | @lst a xs ea =>
  cases (show u=Value.ref a from rx);obtain⟨_,_,n,_,h1⟩:=(show cJ X.prog X.w H s.heap a (.lst xs) from I.hok a _ ea)
  exact PySem.W.kia_one PySem.W.kitx_list I.kIn ⟨_,h1,rfl⟩ e (fun z=>nomatch z) h
 | @frz a ob xs ea =>
  cases (show u=Value.ref a from rx);obtain⟨_,_,_,n,_,h1⟩:=(show cJ X.prog X.w H s.heap a (.frz ob (.lst xs)) from I.hok a _ ea)
  exact PySem.W.kia_one PySem.W.kitx_list I.kIn ⟨_,h1,rfl⟩ e (fun z=>nomatch z) h
 | @tup a xs ea =>
  cases (show u=Value.ref a from rx);obtain⟨_,_,_,p⟩:=(show cJ X.prog X.w H s.heap a (.tup xs) from I.hok a _ ea)
  obtain⟨o,h1,h2,_⟩:=p;exact PySem.W.kia_one PySem.W.kitx_tuple I.kIn ⟨o,h1,h2⟩ e (fun z=>nomatch z) h
 | @dK a kvs ea =>
  cases (show u=Value.ref a from rx);obtain⟨_,_,vs,_,p⟩:=(show cJ X.prog X.w H s.heap a (.dK kvs) from I.hok a _ ea)
  obtain⟨o,es,ep,h1,h2,_⟩:=p;exact PySem.W.kia_one PySem.W.kitx_dict I.kIn ⟨o,h1,h2.1⟩ e (fun z=>nomatch z) h
 | @dT a kvs ea =>
  cases (show u=Value.ref a from rx);obtain⟨_,_,xs,_,o,es,ep,h1,h2,_⟩:=(show cJ X.prog X.w H s.heap a (.dT kvs) from I.hok a _ ea)
  exact PySem.W.kia_one PySem.W.kitx_dict I.kIn ⟨o,h1,h2.1⟩ e (fun z=>nomatch z) h
 | @ins a C dx fs ea cl ha hn htk hm =>
  cases (show u=Value.ref a from rx);obtain⟨mA,O,_⟩:=n5 I.hok ea;obtain⟨od,J,_⟩:=O.look;exact PySem.W.kia_one (PySem.W.kitx_own (cl.get _) cl.hd ha hn htk hm) I.kIn J e (fun z=>nomatch z) h
end
structure iI (k:Nat) (A:Around):Prop where
 hd:A.handled=none
 dp:A.depth+3*k+5<recursionLimit
 un:A.units+16*k+200<cLine
theorem iI.mono{j k:Nat}{A:Around}(r:iI k A)(h:j<=k):iI j A:=⟨r.hd,by have:=r.dp;omega,by have:=r.un;omega⟩
theorem iI.deeper{k:Nat}{A:Around}(r:iI (k+1) A)(env:Env):iI k (A.deeper env) :=
 ⟨r.hd,by have:=r.dp;show A.depth+1+3*k+5<_;omega,by have:=r.un;show A.units+3+16*k+200<_;omega⟩
theorem uu{A:Around}{C:Addr}{us:List Value}{kw:List (Str×Value)}:(A.under (.builtin "type.__call__" ⟨.ref C::us,kw⟩)).depth=A.depth+1:=by
 first|rfl|simp [Around.under,Code.weight,Code.isCreation,Code.isGuard,Code.isCaller,Code.frames,Code.isFrame,guardIds]
theorem uv{A:Around}{C:Addr}{us:List Value}{kw:List (Str×Value)}:(A.under (.builtin "type.__call__" ⟨.ref C::us,kw⟩)).units=A.units+1:=by
 first|rfl|simp [Around.under,Code.cUnits,Code.frames,Code.isFrame]
theorem iI.make{k:Nat}{A:Around}(r:iI (k+1) A)(C:Addr)(us:List Value)(kw:List (Str×Value)):iI k (A.under (.builtin "type.__call__" ⟨.ref C::us,kw⟩)) :=
 ⟨r.hd,by have:=r.dp;rw [uu];omega,by have:=r.un;rw [uv];omega⟩
theorem iI.depth{k:Nat}{A:Around}(r:iI k A):A.depth<recursionLimit:=by have:=r.dp;omega
theorem iI.units{k:Nat}{A:Around}(r:iI k A):A.units+64<cLine:=by have:=r.un;omega
def fS:TA:=fun _ H Q=>Q [] H
def bg(ta:TE)(tr:TA):TA:=fun σ H Q=>ta σ H fun x H1=>tr σ H1 fun xs H2=>Q (x::xs) H2
section
variable {X:Cx}{e:Expr}{es:List Expr}{te:TE}{t:TA}{pos:Pos}
theorem ah:PA X [] fS:=fun _ _ _ _ H Q I h=>Calls.spliced_nil ⟨[],H,I,.nil,h⟩
theorem Ah(ha:PE X e te)(hr:PA X es t)(hs:starEach (e::es) X.env=(false,eval e X.env)::starEach es X.env:=by rfl):PA X (e::es) (bg te t):=by
 intro pos pins s σ H Q I h;rw [hs];show wpAny _ _ (spliced ((false,eval e X.env)::backTo pos (starEach es X.env))) _ _ s;refine Calls.spliced_cons (thn (ha pins s σ H _ I h) fun u s1 ⟨x,H1,I1,r1,q1⟩=>?_);exact thn (hr pos pins s1 σ H1 _ I1 q1) fun us s2 ⟨xs,H2,I2,r2,q2⟩=>⟨x::xs,H2,I2,.cons r1 r2,q2⟩
def Aj(t:TA):TE:=fun σ H Q=>t σ H fun xs H1=>xs.length<=sizeLine/\∀p,H1 p=none->Q (.ref p) (upd H1 p (.tup xs))
def Ed(t:TA):TE:=fun σ H Q=>t σ H fun xs H1=>xs.length<=sizeLine/\∀p,H1 p=none->Q (.ref p) (upd H1 p (.lst xs))
theorem fi{x1}(h:PA X es t):PE X (.Tuple es x1 pos) (Aj t):=by
 intro pins s σ H Q I hq;refine wpAny_Tuple_spliced (thn (h pos pins s σ H _ I hq) fun us s1 ⟨xs,H1,I1,r,z,q⟩=>⟨by rw [<- r.length];exact z,?_⟩);have hf:H1 s1.heap.objs.size=none:=I1.hok.fresh (Nat.le_refl _);refine⟨.ref s1.heap.objs.size,upd H1 s1.heap.objs.size (.tup xs),I1.laid (t':=s1.toks) (fun b u e=>Heap.get?_push_of_some _ e) (Nat.le_refl _) ?_,rfl,q _ hf⟩;exact⟨z,us,r,⟨_,Heap.get?_push_size _ rfl,rfl,_,rfl⟩⟩
theorem bR(h:PA X es t):PE X (.List es pos) (Ed t):=by
 intro pins s σ H Q I hq;refine wpAny_List_spliced (thn (h pos pins s σ H _ I hq) fun us s1 ⟨xs,H1,I1,r,z,q⟩=>⟨by rw [<- r.length];exact z,?_⟩);have hf:H1 s1.heap.objs.size=none:=I1.hok.fresh (Nat.le_refl _);refine⟨.ref s1.heap.objs.size,upd H1 s1.heap.objs.size (.lst xs),I1.laid (t':=s1.toks) (fun b u e=>Heap.get?_push_of_some _ e) (Nat.le_refl _) ?_,rfl,q _ hf⟩;exact⟨z,us,0,r,Heap.get?_push_size _ rfl⟩
end
abbrev Sp:=List V->Hp->VK->XK->Prop
abbrev CXT:=List Env->Hp->Shared->XK->Value->Shared->Prop
structure Ak (P:Program) (w:World) (K:PySem.W.Frag) (mg:Str->Option Value) (base:Heap) (A:Around) (outer:List Env) (s:Shared) (H:Hp):Prop where
 frames:A.frames=some outer
 mod:Mod K mg base
 bs:∀b o,base.get? b=some o->s.heap.get? b=some o/\H b=none
 bsz:base.objs.size<=s.heap.objs.size
 funs:s.heap.FunFrames base outer
 frf:∀b∈frs outer,H b=none
 hok:HOk P w H s.heap
 bare:AllBare s.gens
def CE(outer:List Env)(P:Program)(w:World)(H:Hp)(s:Shared)(Q:VK)(u:Value)(s':Shared):Prop :=
 ∃v H',s'.os=s.os/\AllBare s'.gens/\Un (frs outer) [] H H' s.heap s'.heap/\HOk P w H' s'.heap/\dw v u/\Q v H'
def CR(CX:CXT)(outer:List Env)(P:Program)(w:World)(H:Hp)(s:Shared)(Q:VK)(E:XK)(r:Result)(s':Shared):Prop :=
 match r with
 | .ok (.ret u)=>CE outer P w H s Q u s'
 | .ok _=>False
 | .error e=>CX outer H s E e s'
structure p4 (P:Program) (w:World) (K:PySem.W.Frag) (mg:Str->Option Value) (base:Heap) (CX:CXT) (k:Nat) (f:Addr) (fd:FuncData) (ps:List Str) (sp:Sp):Prop where
 len:∀vs H Q E,sp vs H Q E->vs.length=ps.length
 run:∀(A:Around) (outer:List Env) (s:Shared) (H:Hp) (args:Args) (us:List Value) (vs:List V) (Q:VK) (E:XK),iI k A->Ak P w K mg base A outer s H->BindsTo s fd args (ps.zip us)->cG vs us->sp vs H Q E ->
  codeAny (model P w) A (.call (.ref f) args) (CR CX outer P w H s Q E) s
theorem p4.imp{P:Program}{w:World}{K:PySem.W.Frag}{mg:Str->Option Value}{base:Heap}{CX:CXT}{k:Nat}{f:Addr}{fd:FuncData}{ps:List Str}{sp sp':Sp}(F:p4 P w K mg base CX k f fd ps sp)
  (h:∀vs H Q E,sp' vs H Q E->sp vs H Q E):p4 P w K mg base CX k f fd ps sp' :=
 ⟨fun vs H Q E q=>F.len vs H Q E (h _ _ _ _ q),fun A outer s H args us vs Q E hr he hb hv hs=>F.run A outer s H args us vs Q E hr he hb hv (h _ _ _ _ hs)⟩
theorem Ak.make{P:Program}{w:World}{K:PySem.W.Frag}{mg:Str->Option Value}{base:Heap}{A:Around}{outer:List Env}{s:Shared}{H:Hp}(e:Ak P w K mg base A outer s H)(C:Addr)(us:List Value)(kw:List (Str×Value)) :
  Ak P w K mg base (A.under (.builtin "type.__call__" ⟨.ref C::us,kw⟩)) outer s H:=⟨by first|exact e.frames|(simpa [Around.under,Code.envs,Code.isFrame,pushEnvs] using e.frames),e.mod,e.bs,e.bsz,e.funs,e.frf,e.hok,e.bare⟩
section
variable {X:Cx}{pins:List (Addr×Obj)}{σ:St}{H:Hp}{s s':Shared}
theorem Inv.env0(I:Inv X pins σ H s):Ak X.prog X.w X.K X.mg X.base X.A X.stack s H :=
 ⟨I.ok.frames,I.ok.mod,I.bs,le_trans I.ok.bsz I.sz,I.stack,I.stkFree,I.hok,I.bare⟩
theorem Inv.after{Q:VK}{u:Value}(I:Inv X pins σ H s)(h:CE X.stack X.prog X.w H s Q u s'):EP X pins σ Q u s':=by
 obtain⟨v,H',os,bare,un,hok,r,q⟩:=h;obtain⟨hh,g,d,t,os'⟩:=s';obtain rfl:os'=s.os:=os;exact⟨v,H',I.call (h':=hh) (g':=g) (d':=d) (t':=t) (ch:=[]) un hok bare (fun b z=>absurd z (by simp)),r,q⟩
end
def fc(sp:Sp)(dvs:List V)(E:XK)(t:TA):TE:=fun σ H Q=>t σ H fun vs H1=>sp (vs++dvs) H1 Q E
def ye(C:Addr)(sp:Sp)(dvs:List V)(E:XK)(t:TA):TE:=fun σ H Q=>t σ H fun vs H1=>∀x dx,H1 x=none->H1 dx=none->dx≠x ->
 sp (.ref x::(vs++dvs)) (upd (upd H1 dx (.own x)) x (.ins C dx [])) (fun v H2=>v=.non/\Q (.ref x) H2) E
def mD(K:PySem.W.Frag)(fd:FuncData)(ps:List Str)(ds:List Value):Prop :=
 ∀(s:Shared) (us:List Value),K.In s.heap->(us++ds).length=ps.length->BindsTo s fd ⟨us,[]⟩ (ps.zip (us++ds))
theorem mD.all{K:PySem.W.Frag}{fd:FuncData}{ps:List Str}(h:∀us:List Value,us.length=ps.length->bindArgs fd ⟨us,[]⟩=pure (ps.zip us)):mD K fd ps []:=fun s us _ hl=>by
 rw [append_nil] at hl ⊢;exact .of_eq (h us hl)
def p6(CX:CXT)(X:Cx)(E:XK):Prop:=∀(pins:List (Addr×Obj)) (σ:St) (H:Hp) (s:Shared) (e:Value) (s':Shared),Inv X pins σ H s->CX X.stack H s E e s'->X.xe e s'
section
variable {X:Cx}{CX:CXT}{k:Nat}{f C:Addr}{fd:FuncData}{ps:List Str}{sp:Sp}{dvs:List V}{ds:List Value}{E:XK}{x m:Str}{p pos apos:Pos}{e o:Expr}{es:List Expr}{ta:TE}{t:TA}
theorem Ch{pins:List (Addr×Obj)}{σ:St}{H:Hp}{s:Shared}{Q:VK}{us:List Value}{vs:List V}(F:p4 X.prog X.w X.K X.mg X.base CX k f fd ps sp)(hr:iI k X.A)(hb:mD X.K fd ps ds)(hd:cG dvs ds)(hx:p6 CX X E)
  (I:Inv X pins σ H s) (r:cG vs us) (h:sp (vs++dvs) H Q E):wpAny (model X.prog X.w) X.A (call (.ref f) us) (EP X pins σ Q) X.xe s:=by
 have r2:cG (vs++dvs) (us++ds):=r.append hd;have hl:(us++ds).length=ps.length:=by rw [<- r2.length];exact F.len _ _ _ _ h
 refine wpAny_call (codeAny_mono (F.run X.A X.stack s H ⟨us,[]⟩ (us++ds) (vs++dvs) Q E hr I.env0 (hb s us I.kIn hl) r2 h) fun r s' hq=>?_)
 cases r with
 | error e=>exact hx pins σ H s e s' I hq
 | ok fl =>
  cases fl with
  | ret u=>exact I.after hq
  | next=>exact False.elim hq
  | brk=>exact False.elim hq
  | cont=>exact False.elim hq
theorem vN(F:p4 X.prog X.w X.K X.mg X.base CX k f fd ps sp)(hr:iI k X.A)(hg:Gl X x)(hm:X.mg x=some (.ref f))(hk:PySem.W.keepIn X.K (.ref f)=true)(hb:mD X.K fd ps ds)(hd:cG dvs ds)(hx:p6 CX X E)
  (ha:PA X (e::es) t) (hdb:(x == ("__debug__":Str))=false:=by decide) (he:starEach (e::es) X.env=(false,eval e X.env)::starEach es X.env:=by rfl) (hpl:(backTo pos (starEach es X.env)).any (·.1)=false:=by rfl) :
  PE X (.Call (.Name x p) (e::es) [] pos) (fc sp dvs E t):=by
 intro pins s σ H Q I h;refine wpAny_Call_Name_kw (rH I hg hm ?_ hdb);refine PySem.W.callWith_K (h₀:=X.base) I.ok.mod.kin hk (thn (ha pos pins s σ H _ I h) fun us s1 ⟨vs,H1,I1,r,q⟩=>⟨I1.kIn,?_⟩) he hpl;exact Ch F hr hb hd hx I1 r q
structure Mk (K:PySem.W.Frag) (C f:Addr):Prop where
 makes:PySem.W.makesIn K C=true
 init:PySem.W.findIn K (.ref C) "__init__"=some (some (.ref f))
 fn:PySem.W.isFn K (.ref f)=true
 kp:PySem.W.keepIn K (.ref C)=true
theorem yf{pins:List (Addr×Obj)}{σ:St}{H:Hp}{s:Shared}{Q:VK}{us:List Value}{vs:List V}(M:Mk X.K C f)(F:p4 X.prog X.w X.K X.mg X.base CX k f fd ps sp)(hr:iI (k+1) X.A)(hb:mD X.K fd ps ds)(hd:cG dvs ds)
  (hx:p6 CX X E) (I:Inv X pins σ H s) (r:cG vs us)
  (h:∀x dx,H x=none->H dx=none->dx≠x->sp (.ref x::(vs++dvs)) (upd (upd H dx (.own x)) x (.ins C dx [])) (fun v H2=>v=.non/\Q (.ref x) H2) E) :
  wpAny (model X.prog X.w) X.A (call (.ref C) us) (EP X pins σ Q) X.xe s:=by
 have hq:=h (s.heap.objs.size+1) s.heap.objs.size (I.hok.fresh (le_succ _)) (I.hok.fresh (Nat.le_refl _)) (ne_of_lt (lt_succ_self _));have I2:=Inv.made (C:=C) I;have r2:cG (V.ref (s.heap.objs.size+1)::(vs++dvs)) (Value.ref (s.heap.objs.size+1)::(us++ds)):=.cons rfl (r.append hd)
 have hl:(Value.ref (s.heap.objs.size+1)::us++ds).length=ps.length:=by
  have e:=r2.length;rw [F.len _ _ _ _ hq] at e;exact e.symm
 refine wpAny_call (yd (f:=f) I.kIn M.makes M.init (beq_iff_eq.mp M.fn) (codeAny_mono (F.run _ X.stack _ _ ⟨Value.ref (s.heap.objs.size+1)::us,[]⟩ (Value.ref (s.heap.objs.size+1)::(us++ds)) _ _ E (hr.make C us [])
  (I2.env0.make C us []) (hb _ (Value.ref (s.heap.objs.size+1)::us) I2.kIn hl) r2 hq) fun r s' hq'=>?_))
 cases r with
 | error e=>exact hx pins σ _ _ e s' I2 hq'
 | ok fl =>
  cases fl with
  | ret u =>
   obtain⟨v,H',I3,rv,ev,q3⟩:=I2.after hq';subst ev;exact⟨rv,⟨V.ref (s.heap.objs.size+1),H',I3,rfl,q3⟩⟩
  | next=>exact False.elim hq'
  | brk=>exact False.elim hq'
  | cont=>exact False.elim hq'
theorem Al(M:Mk X.K C f)(F:p4 X.prog X.w X.K X.mg X.base CX k f fd ps sp)(hr:iI (k+1) X.A)(hg:Gl X x)(hm:X.mg x=some (.ref C))(hb:mD X.K fd ps ds)(hd:cG dvs ds)(hx:p6 CX X E)
  (ha:PA X (e::es) t) (hdb:(x == ("__debug__":Str))=false:=by decide) (he:starEach (e::es) X.env=(false,eval e X.env)::starEach es X.env:=by rfl) (hpl:(backTo pos (starEach es X.env)).any (·.1)=false:=by rfl) :
  PE X (.Call (.Name x p) (e::es) [] pos) (ye C sp dvs E t):=by
 intro pins s σ H Q I h;refine wpAny_Call_Name_kw (rH I hg hm ?_ hdb);refine PySem.W.callWith_K (h₀:=X.base) I.ok.mod.kin M.kp (thn (ha pos pins s σ H _ I h) fun us s1 ⟨vs,H1,I1,r,q⟩=>⟨I1.kIn,?_⟩) he hpl;exact yf M F hr hb hd hx I1 r q
end
structure aH (N P:List Str) (sc:Scope):Prop where
 kind:sc.kind=.function
 co:sc.isCoroutine=false
 gen:sc.isGenerator=false
 nd:N.Nodup
 pre:N.take P.length=P
 par:∀x∈P,sc.names.lookup x=some .local\/sc.names.lookup x=some .cell
 nofree:∀y∈sc.names,y.2≠.free
theorem p7{kindOf:Str->Option NameKind}{x:Str}:∀{binds:List (Str×Value)}{m:Str->Option Value},(∀v,(x,v)∉binds)->bindL kindOf binds m x=m x
 | [],_,_=>rfl
 | (n,v)::r,m,h=>by
  unfold bindL;rw [p7 fun w hw=>h w (mem_cons_of_mem _ hw)]
  split
  .have:x≠n:=by rintro rfl;exact h v mem_cons_self
   simp [this]
  .rfl
theorem p8{kindOf:Str->Option NameKind}{x:Str}:∀{binds:List (Str×Value)}{m:Str->Option Value},(∀v,(x,v)∉binds)->bindC kindOf binds m x=m x
 | [],_,_=>rfl
 | (n,v)::r,m,h=>by
  unfold bindC;rw [p8 fun w hw=>h w (mem_cons_of_mem _ hw)]
  split
  .rfl
  .have:x≠n:=by rintro rfl;exact h v mem_cons_self
   simp [this]
theorem p9{kindOf:Str->Option NameKind}{x:Str}{v:Value}:∀{P:List Str}{vs:List Value}{i:Nat}{m:Str->Option Value},P.Nodup->P[i]?=some x->vs[i]?=some v->kindOf x=some .local ->
  bindL kindOf (P.zip vs) m x=some v
 | [],_,_,_,_,h,_,_=>by simp at h
 | _::_,[],_,_,_,_,h,_=>by simp at h
 | p::P,w::vs,0,m,nd,h1,h2,hk=>by
  simp at h1 h2;subst h1;subst h2;show bindL kindOf ((p,w)::P.zip vs) m p=_;unfold bindL;rw [p7 fun v hv=>(nodup_cons.mp nd).1 (of_mem_zip hv).1,if_pos hk];simp
 | p::P,w::vs,i+1,m,nd,h1,h2,hk=>by
  show bindL kindOf ((p,w)::P.zip vs) m x=_;unfold bindL;exact p9 (i:=i) (nodup_cons.mp nd).2 (by simpa using h1) (by simpa using h2) hk
theorem qa{kindOf:Str->Option NameKind}{x:Str}{v:Value}:∀{P:List Str}{vs:List Value}{i:Nat}{m:Str->Option Value},P.Nodup->P[i]?=some x->vs[i]?=some v->kindOf x≠some .local ->
  bindC kindOf (P.zip vs) m x=some v
 | [],_,_,_,_,h,_,_=>by simp at h
 | _::_,[],_,_,_,_,h,_=>by simp at h
 | p::P,w::vs,0,m,nd,h1,h2,hk=>by
  simp at h1 h2;subst h1;subst h2;show bindC kindOf ((p,w)::P.zip vs) m p=_;unfold bindC;rw [p8 fun v hv=>(nodup_cons.mp nd).1 (of_mem_zip hv).1,if_neg hk];simp
 | p::P,w::vs,i+1,m,nd,h1,h2,hk=>by
  show bindC kindOf ((p,w)::P.zip vs) m x=_;unfold bindC;exact qa (i:=i) (nodup_cons.mp nd).2 (by simpa using h1) (by simpa using h2) hk
def start(N:List Str)(vs:List V):St:=vs.map some++List.replicate (N.length - vs.length) none
def yg(CX:CXT)(P:Program)(w:World)(K:PySem.W.Frag)(mg:Str->Option Value)(base:Heap)(N:List Str)(qual:Str)(scope:Scope)(f:Addr)(cd:Value)(A:Around)(outer:List Env)(s:Shared)(H:Hp)(E:XK):Cx where
 prog:=P
 w:=w
 K:=K
 mg:=mg
 base:=base
 A:=A.deeper (envOfC qual scope s.heap.objs.size f cd)
 N:=N
 s₀:=s
 H₀:=H
 env:=envOfC qual scope s.heap.objs.size f cd
 outer:=outer
 stack:=envOfC qual scope s.heap.objs.size f cd::outer
 ex:=[]
 calm:=true
 fn:=fun _=>true
 pn:=[]
 xe:=fun e s'=>wpAny (model P w) (A.deeper (envOfC qual scope s.heap.objs.size f cd)) (leaving (envOfC qual scope s.heap.objs.size f cd) e) (fun _ s''=>CX outer H s E e s'') (fun e' s''=>CX outer H s E e' s'') s'
theorem tq{sc:Scope}{n:Nat}{x:Str}(h:sc.names.lookup x=some .cell):∃c,(cellsFrom n sc.names []).lookup x=some c:=by
 have q:=PySem.W.cellsFrom_some sc.names n [] (.inl h);exact Option.isSome_iff_exists.mp q
theorem vO{CX:CXT}{P:Program}{w:World}{K:PySem.W.Frag}{mg:Str->Option Value}{base:Heap}{N ps:List Str}{qual:Str}{scope:Scope}{f:Addr}{cd:Value}{A:Around}{outer:List Env}{s s1:Shared}{H:Hp}{E:XK}{us:List Value}{vs:List V}
  (S:aH N ps scope) (hd:A.handled=none) (e0:Ak P w K mg base A outer s H) (hl:vs.length=ps.length) (r:cG vs us)
  (x:InCallC s s.heap.objs.size (bindL (envOfC qual scope s.heap.objs.size f cd).kindOf (ps.zip us) fun _=>none) (cellsFrom (s.heap.objs.size+1) scope.names []) (bindC (envOfC qual scope s.heap.objs.size f cd).kindOf (ps.zip us) fun _=>none) s1) :
  Inv (yg CX P w K mg base N qual scope f cd A outer s H E) [] (start N vs) H s1:=by
 have hpl:ps.length<=N.length:=by have:=congrArg List.length S.pre;rw [length_take] at this;omega
 obtain⟨h1,tk,rfl,hk⟩:=x.done;have noA:∀b:Addr,b∉(yg CX P w K mg base N qual scope f cd A outer s H E).ex:=fun b z=>absurd (show b∈([]:List Addr) from z) (by simp)
 refine⟨⟨e0.mod,S.kind,rfl,rfl,Nat.le_refl _,fun y z c h1 h2=>?_,fun y hy=>?_,fun y c _ h=>?_,fun _=>hd,Around.frames_deeper e0.frames,.inr ⟨rfl,rfl⟩,fun b z=>absurd z (noA b),e0.bs,e0.bsz,fun b _ _=>noA b,fun b z=>absurd z (noA b),e0.funs,e0.frf⟩,
  rfl,e0.bare,Un.kept hk,⟨_,x.toInCall.ns,fun i y v h1 h2 h3=>?_⟩,fun y c h=>⟨_,x.cell y c h⟩,e0.hok.fresh (Nat.le_refl _),fun y c h=>?_,fun p hp=>absurd (show p∈([]:List (Addr×Obj)) from hp) (by simp),e0.hok.kept hk,?_⟩
 .exact name_of_addr x.apart (PySem.mem_of_lookup h1) (PySem.mem_of_lookup h2)
 .have hy:scope.names.lookup y=some .cell\/scope.names.lookup y=some .free:=hy
  rcases hy with hy|hy
  .exact tq hy
  .exact absurd rfl (S.nofree _ (PySem.mem_of_lookup hy))
 .exact le_of_lt (x.above y c (PySem.mem_of_lookup h))
 .have hi:i<vs.length:=by
   unfold start at h2
   by_cases hi:i<vs.length
   .exact hi
   .rw [getElem?_append_right (by simpa using hi)] at h2;rw [getElem?_replicate] at h2;split at h2 <;> cases h2
  have ha:vs[i]?=some v:=by
   unfold start at h2;rw [getElem?_append_left (by simpa using hi),getElem?_map] at h2
   cases e:vs[i]? with
   | none=>rw [e] at h2;cases h2
   | some a=>rw [e] at h2;cases h2;rfl
  obtain⟨u,hu,rv⟩:=r.get ha
  have hp:ps[i]?=some y:=by
   rw [<- S.pre,getElem?_take_of_lt (by omega)];exact h1
  have ndP:ps.Nodup:=by rw [<- S.pre];exact S.nd.sublist (take_sublist _ _)
  refine⟨u,rv,?_⟩
  rcases S.par y (mem_of_getElem? hp) with k|k
  .exact .inl ⟨k,p9 ndP hp hu k⟩
  .obtain⟨c,e⟩:=tq (n:=s.heap.objs.size+1) k;refine .inr ⟨.inl k,c,e,?_⟩;have q:=x.cell y c e;rw [qa ndP hp hu (by show scope.names.lookup y≠_;rw [k];decide)] at q;exact q
 .exact e0.hok.fresh (le_of_lt (x.above y c (PySem.mem_of_lookup h)))
 .unfold start;show _=N.length;rw [length_append,length_map,length_replicate];omega
theorem Ci{CX:CXT}{P:Program}{w:World}{K:PySem.W.Frag}{mg:Str->Option Value}{base:Heap}{k:Nat}{f:Addr}{name qual:Str}{params:Arguments}{body:List Stmt}{scope:Scope}{dV kV doc pm cdv ct oc:Value}{an od:Option Addr}
  {osl:Array (Option Value)}{N ps:List Str}{sp:Sp} (lk:K.lookup f=some ⟨oc,od,.func (PySem.W.fnOf name qual params body scope dV kV doc pm an cdv ct),osl⟩) (hcd:PySem.W.codeIn K cdv qual=true) (S:aH N ps scope)
  (len:∀vs H Q E,sp vs H Q E->vs.length=ps.length)
  (hbody:∀(A:Around) (outer:List Env) (s:Shared) (H:Hp) (vs:List V) (Q:VK) (E:XK),iI k (A.deeper (envOfC qual scope s.heap.objs.size f cdv))->sp vs H Q E ->
   ∃t,PSs (yg CX P w K mg base N qual scope f cdv A outer s H E) body t/\t { nx:=fun _ H'=>Q .non H',rt:=Q } (start N vs) H) :
  p4 P w K mg base CX (k+1) f (PySem.W.fnOf name qual params body scope dV kV doc pm an cdv ct) ps sp:=by
 refine⟨len,fun A outer s H args us vs Q E hr e0 hb r hsp=>?_⟩;have hl:=len _ _ _ _ hsp;have KX:K.In s.heap:=e0.mod.kin.keeps fun b o e=>(e0.bs b o e).1;have lim:s.heap.NoLimit:=e0.mod.nolimit.keeps fun b o e=>(e0.bs b o e).1
 have hkind:∀y∈ps.zip us,scope.names.lookup y.1=some .local\/(scope.names.lookup y.1=some .cell/\((cellsFrom (s.heap.objs.size+1) scope.names []).lookup y.1).isSome=true):=fun ⟨n,v⟩ hy=>by
  rcases S.par n (of_mem_zip hy).1 with q|q
  .exact .inl q
  .exact .inr ⟨q,PySem.W.cellsFrom_some _ _ _ (.inl q)⟩
 refine codeAny_call_function hr.depth (KX _ _ lk) rfl S.co S.gen rfl (PySem.W.codeRec_of KX hcd) (hb _ _ _ _ ?_);refine wpAny_newFunctionEnv_cells S.kind hkind fun env he s1 x=>?_;subst he;refine⟨lim.keeps x.toInCall.keep,codeAny_func ?_⟩;obtain⟨t,ht,hq⟩:=hbody A outer s H vs Q E (hr.deeper _) hsp;have I:Inv (yg CX P w K mg base N qual scope f cdv A outer s H E) [] (start N vs) H s1:=vO S hr.hd e0 hl r x
 refine wpAny_mono (ht [] s1 (start N vs) H _ I hq) (fun fl s' hs=>?_) fun e s' hs=>hs
 have fin:∀{σ':St}{H':Hp}{v:V}{u:Value},Inv (yg CX P w K mg base N qual scope f cdv A outer s H E) [] σ' H' s'->dw v u->Q v H'->CE outer P w H s Q u s' :=
  fun {σ' H' v u} J rv q=>⟨v,H',J.os,J.bare,J.base,J.hok,rv,q⟩
 cases fl with
 | ret u =>
  obtain⟨v,σ',H',J,rv,q⟩:=hs;exact fin J rv q
 | next =>
  obtain⟨σ',H',J,q⟩:=hs;exact fin (v:=V.non) (u:=Value.none) J rfl q
 | brk =>
  obtain⟨_,_,_,q⟩:=hs;exact False.elim q
 | cont =>
  obtain⟨_,_,_,q⟩:=hs;exact False.elim q
section
variable {X:Cx}{x:Str}{p pos:Pos}{e:Expr}{es:List Expr}{t:TA}{id T:String}{r:List V->Hp->VK->Prop}
def tCB(r:List V->Hp->VK->Prop)(t:TA):TE:=fun σ H Q=>t σ H fun vs H1=>r vs H1 Q
theorem yh(hc:cC X (.builtin id) r)(hg:Gl X x)(hm:X.mg x=none)(hv:bootBuiltins x=some (.builtin id))(ha:PA X (e::es) t)(hn:x≠"__name__":=by decide)(hdb:(x == ("__debug__":Str))=false:=by decide)
  (he:starEach (e::es) X.env=(false,eval e X.env)::starEach es X.env:=by rfl) (hpl:(backTo pos (starEach es X.env)).any (·.1)=false:=by rfl):PE X (.Call (.Name x p) (e::es) [] pos) (tCB r t):=by
 intro pins s σ H Q I h;refine wpAny_Call_Name_kw (kn I hg hm hv ?_ hn hdb);exact PyProof.Rows.callWith_builtin1 (thn (ha pos pins s σ H _ I h) fun us s1 ⟨vs,H1,I1,r1,q1⟩=>hc pins s1 σ H1 vs us Q I1 r1 q1) he hpl
theorem vP(hc:cC X (.type T) r)(hg:Gl X x)(hm:X.mg x=none)(hv:bootBuiltins x=some (.type T))(ha:PA X (e::es) t)(hn:x≠"__name__":=by decide)(hdb:(x == ("__debug__":Str))=false:=by decide)
  (he:starEach (e::es) X.env=(false,eval e X.env)::starEach es X.env:=by rfl) (hpl:(backTo pos (starEach es X.env)).any (·.1)=false:=by rfl):PE X (.Call (.Name x p) (e::es) [] pos) (tCB r t):=by
 intro pins s σ H Q I h;refine wpAny_Call_Name_kw (kn I hg hm hv ?_ hn hdb);exact PyProof.Rows.callWith_type1 (thn (ha pos pins s σ H _ I h) fun us s1 ⟨vs,H1,I1,r1,q1⟩=>hc pins s1 σ H1 vs us Q I1 r1 q1) he hpl
end
end L2
namespace HT
open PySem PyProof.Rows
section
open PySem.SeqAt
open PySem.AutoSeq1 (wpAny_loadPart')
open PySem.MeetsSeq PySem.MeetsSeq2 PySem.MeetsSeq3
end
section
variable {prog:Program}{w:World}{A:Around}{E:Value->Shared->Prop}{s:Shared}
theorem cat_tup{t b:Addr}{vs ws:List Value}{Q:Value->Shared->Prop}(ht:IsTup s.heap t vs.toArray)(hb:IsTup s.heap b ws.toArray)(hv:vs≠[])
  (h1:ws=[]->Q (.ref t) s) (h2:ws≠[]->Q (.ref s.heap.objs.size) { s with heap:=s.heap.push { cls:=.type "tuple",data:=.seq (vs++ws).toArray } })
  (hsz:vs.length+ws.length<=sizeLine):wpAny (model prog w) A (binaryOp .Add (.ref t) (.ref b)) Q E s:=by
 obtain⟨⟨cls,dd,data,sl⟩,ho,hc,n,hd⟩:=id ht;obtain⟨⟨cls2,dd2,data2,sl2⟩,ho2,hc2,n2,hd2⟩:=id hb;simp only at hc hd hc2 hd2;subst hc hd hc2 hd2;have e:vs.toArray++ws.toArray=(vs++ws).toArray:=by simp
 by_cases hw:ws=[]
 .exact concat_meets ⟨_,ho,rfl⟩ ⟨_,ho2,rfl⟩ noFill_tuple_add seq_tuple_add PySem.F.slot_tuple_add PySem.F.entry_tuple_add (PySem.F.args_tuple_add_2 _ _)
   (tuple_addW1 t b vs.toArray ws.toArray n n2 dd dd2 sl sl2 (by simpa using hv) (by simp [hw])) ⟨ho,ho2,h1 hw⟩
 .refine concat_meets ⟨_,ho,rfl⟩ ⟨_,ho2,rfl⟩ noFill_tuple_add seq_tuple_add PySem.F.slot_tuple_add PySem.F.entry_tuple_add (PySem.F.args_tuple_add_2 _ _)
   (tuple_addW2 t b vs.toArray ws.toArray n n2 dd dd2 sl sl2 (by simpa using hv) (by simpa using hw) (by rw [size_toArray,size_toArray];exact hsz)) ⟨ho,ho2,?_⟩
  rw [e];exact h2 hw
def sIx(n d:Nat):Option Int->Nat
 | none=>d
 | some v=>if v<0 then (v+(n:Int)).toNat else min v.toNat n
theorem sIx_nat(n d k:Nat):sIx n d (some (k:Int))=min k n:=by
 show (if (k:Int)<0 then ((k:Int)+(n:Int)).toNat else min (k:Int).toNat n)=min k n;rw [if_neg (by omega),toNat_natCast]
theorem sIx_le(n d:Nat)(hd:d<=n)(o:Option Int):sIx n d o<=n:=by
 cases o with
 | none=>exact hd
 | some v =>
  show (if v<0 then (v+(n:Int)).toNat else min v.toNat n)<=n
  by_cases hv:v<0
  .rw [if_pos hv];omega
  .rw [if_neg hv];exact min_le_right _ _
theorem clip_eq(v:Int)(n d:Nat):(if v<0 then max (v+(n:Int)) 0 else min v (n:Int))=((sIx n d (some v):Nat):Int):=by
 show (if v<0 then max (v+(n:Int)) 0 else min v (n:Int))=(((if v<0 then (v+(n:Int)).toNat else min v.toNat n):Nat):Int)
 by_cases hv:v<0
 .simp only [if_pos hv];omega
 .simp only [if_neg hv];omega
theorem uw(lo hi:Option Int)(n:Nat):Builtin.Slice.sliceAdjust lo hi 1 (n:Int)=(((sIx n 0 lo:Nat):Int),((sIx n n hi:Nat):Int)):=by
 have h1:¬ ((1:Int)<0):=by omega
 unfold Builtin.Slice.sliceAdjust;simp only [h1,if_false]
 refine Prod.ext ?_ ?_
 .cases lo with
  | none=>rfl
  | some v=>exact clip_eq v n 0
 .cases hi with
  | none=>rfl
  | some v=>exact clip_eq v n n
theorem uz(i j:Nat):Builtin.Slice.slicePlaces (i:Int) (j:Int) 1=j - i:=by
 unfold Builtin.Slice.slicePlaces;have h1:(1:Int) > 0:=by omega
 simp only [h1,if_true,ediv_one];split <;> omega
theorem nk{v:Value}{o:Option Int}{Q:Option Int->Shared->Prop}(p:IsPart v o)(h:Q o s):wpAny (model prog w) A (Builtin.Slice.slicePartIndex v) Q E s:=by
 cases p with
 | none=>exact slicePart_none h
 | int i t=>exact slicePart_int h
theorem gK{sl:Addr}{vl vu:Value}{lo hi:Option Int}{n:Nat}{Q:Int×Int×Nat->Shared->Prop}(hs:s.heap.IsSliceOf sl vl vu .none)(pl:IsPart vl lo)(pu:IsPart vu hi)
  (h:Q (((sIx n 0 lo:Nat):Int),1,sIx n n hi - sIx n 0 lo) s):wpAny (model prog w) A (Builtin.Slice.sliceApplied (.ref sl) (pure (n:Int))) Q E s:=by
 obtain⟨os,hos,hcs,hds⟩:=id hs;unfold Builtin.Slice.sliceApplied Builtin.Slice.sliceFields;refine wpAny_bind (wpAny_bind (wpAny_field hos hds (x:=vl) rfl (wpAny_bind (wpAny_field hos hds (x:=vu) rfl (wpAny_bind (wpAny_field hos hds (x:=.none) rfl (wpAny_pure ?_)))))));refine wpAny_bind (slicePart_none ?_);show wpAny _ _ (if ((1:Int) == 0)=true then _ else _) _ _ s;rw [if_neg (by decide)];refine wpAny_bind (nk pl (wpAny_bind (nk pu (wpAny_bind (wpAny_pure ?_)))))
 show wpAny _ _ (match Builtin.Slice.sliceAdjust lo hi 1 (n:Int) with|(lo,hi)=>pure (lo,(1:Int),Builtin.Slice.slicePlaces lo hi 1)) _ _ s;rw [uw lo hi n];show wpAny _ _ (pure (((sIx n 0 lo:Nat):Int),(1:Int),Builtin.Slice.slicePlaces ((sIx n 0 lo:Nat):Int) ((sIx n n hi:Nat):Int) 1)) _ _ s;rw [uz];exact wpAny_pure h
theorem yi(xs:Array Value)(i k:Nat):((List.range k).filterMap fun (m:Nat)=>xs[((i:Int)+(m:Int)*1).toNat]?).toArray=((xs.toList.drop i).take k).toArray:=by
 have e:(fun (m:Nat)=>xs[((i:Int)+(m:Int)*1).toNat]?)=fun m=>xs[i+m]?:=by
  funext m;have:((i:Int)+(m:Int)*1).toNat=i+m:=by omega
  rw [this]
 rw [e];have:=pick_run xs i k;rw [filterMap_map] at this;have e2:((fun x=>xs[x]?) ∘ fun x=>i+x)=fun m=>xs[i+m]?:=rfl;rw [e2] at this;rw [this]
theorem getItem_tuple_cut{t sl:Addr}{items:Array Value}{vl vu:Value}{lo hi:Option Int}{Q:Value->Shared->Prop}(ht:IsTup s.heap t items)(hs:s.heap.IsSliceOf sl vl vu .none)(pl:IsPart vl lo)(pu:IsPart vu hi)
  (hw:¬ (sIx items.size 0 lo=0/\sIx items.size items.size hi=items.size))
  (h:Q (.ref s.heap.objs.size) { s with heap:=s.heap.push { cls:=.type "tuple",data:=.seq ((items.toList.drop (sIx items.size 0 lo)).take (sIx items.size items.size hi - sIx items.size 0 lo)).toArray } })
  (hsz:items.size<=sizeLine):wpAny (model prog w) A (getItem (.ref t) (.ref sl)) Q E s:=by
 have htake:sizeOk (.seq ((items.toList.drop (sIx items.size 0 lo)).take (sIx items.size items.size hi - sIx items.size 0 lo)).toArray):=by
  show ((items.toList.drop (sIx items.size 0 lo)).take (sIx items.size items.size hi - sIx items.size 0 lo)).toArray.size<=sizeLine;rw [size_toArray,length_take,length_drop,Array.length_toList];omega
 have hj:sIx items.size items.size hi<=items.size:=sIx_le _ _ (Nat.le_refl _) hi;obtain⟨os,hos,hcs,hds⟩:=id hs;have hTs:s.TypeIs (.ref sl) "slice":=⟨os,hos,hcs⟩
 unfold getItem
 try with_reducible refine wpAny_holding ?_
 first|refine wpAny_bind (wpAny_pure ?_)|skip
 refine wpAny_bind (wpAny_sequenceKey ht.typeIs (by decide) ?_)
 refine wpAny_bind (wpAny_callSpecial?_slot (name:=Str.ofString "__getitem__") ht.typeIs PyProof.Rows.slot_tuple_getitem
  (wpAny_call_entry PyProof.Rows.slot_tuple_getitem ht.typeIs entry_tuple_getitem ?_ (args_tuple_getitem _ _)))
 show wpAny _ _ (Builtin.Tuple.tupleItemsOf (.ref t) >>= _) _ _ s;refine wpAny_bind (tupleItemsOf_ ht ?_);refine wpAny_bind (wpAny_typeOf hTs ?_);rw [if_pos (by decide)];refine wpAny_bind (gK hs pl pu ?_)
 have hno:¬ ((((sIx items.size 0 lo:Nat):Int) == 0 && (1:Int) == 1 && (sIx items.size items.size hi - sIx items.size 0 lo) == items.size)=true):=by
  intro q;rw [and_eq_true,and_eq_true] at q;have q1:((sIx items.size 0 lo:Nat):Int)=0:=eq_of_beq q.1.1;have q2:sIx items.size items.size hi - sIx items.size 0 lo=items.size:=eq_of_beq q.2;exact hw ⟨by omega,by omega⟩
 show wpAny _ _ (if (((sIx items.size 0 lo:Nat):Int) == 0 && (1:Int) == 1 && (sIx items.size items.size hi - sIx items.size 0 lo) == items.size)=true then _ else _) _ _ s;rw [if_neg hno,yi]
 first
  | exact wpAny_bind (m:=Builtin.Tuple.tupleExact _) (wpAny_newObj_type (wpAny_pure ⟨_,rfl,wpAny_pure h⟩) htake)
  | exact wpAny_bind (m:=Builtin.Tuple.tupleExact _) (wpAny_newObj_type (wpAny_bind (wpAny_pure (wpAny_pure ⟨_,rfl,wpAny_pure h⟩))) htake)
  | exact wpAny_bind (wpAny_bind (m:=Builtin.Tuple.tupleExact _) (wpAny_newObj_type (wpAny_pure (wpAny_pure ⟨_,rfl,wpAny_pure h⟩)) htake))
  | exact wpAny_bind (wpAny_bind (m:=Builtin.Tuple.tupleExact _) (wpAny_newObj_type (wpAny_pure ⟨_,rfl,wpAny_pure h⟩) htake))
end
end HT
namespace L2
open PySem PySem.Spec PyProof.Rows
abbrev TO:=St->Hp->(Option Int->Hp->Prop)->Prop
def PO(X:Cx)(e:Option Expr)(t:TO):Prop :=
 ∀(pins:List (Addr×Obj)) (s:Shared) (σ:St) (H:Hp) (Q:Option Int->Hp->Prop),Inv X pins σ H s->t σ H Q ->
  wpAny (model X.prog X.w) X.A (evalPart e X.env) (fun u s'=>∃o H',Inv X pins σ H' s'/\IsPart u o/\Q o H') X.xe s
def vQ:TO:=fun _ H Q=>Q none H
def Cj(t:TE):TO:=fun σ H Q=>t σ H fun x H1=>∃i,x=.int i/\Q (some i) H1
theorem uA{ns:List Int}:∀{us:List Value},cG (ns.map V.int) us->IntsAre us ns:=by
 induction ns with
 | nil=>intro us r;rw [map_nil] at r;cases r;exact .nil
 | cons n ns ih =>
  intro us r;rw [map_cons] at r
  cases r with
  | cons r1 r2 =>
   obtain⟨t,e⟩:=r1;subst e;exact .cons n t (ih r2)
section
variable {X:Cx}{e:Expr}{te:TE}{lo hi:Option Expr}{tl th:TO}{pos p2:Pos}
theorem di:PO X none vQ:=by
 intro pins s σ H Q I h;rw [evalPart_none];exact wpAny_pure ⟨none,H,I,.none,h⟩
theorem cU(h:PE X e te):PO X (some e) (Cj te):=by
 intro pins s σ H Q I hw;rw [evalPart_some];refine thn (h pins s σ H _ I hw) fun u s1 ⟨x,H1,I1,r1,q1⟩=>?_;obtain⟨i,rfl,q⟩:=q1;obtain⟨t,rfl⟩:=r1;exact⟨some i,H1,I1,.int i t,q⟩
def SlR(X:Cx)(r:V->Option Int->Option Int->Hp->VK->Prop):Prop :=
 ∀(pins:List (Addr×Obj)) (s:Shared) (σ:St) (H:Hp) (x:V) (v vl vu:Value) (lo hi:Option Int) (sl:Addr) (Q:VK),Inv X pins σ H s->dw x v->s.heap.IsSliceOf sl vl vu .none->IsPart vl lo->IsPart vu hi->r x lo hi H Q ->
  ∃T id,typeLookup (.type T) "__getitem__"=pure (some (.builtin id))/\s.TypeIs v T/\wpAny (model X.prog X.w) X.A (getItem v (.ref sl)) (EP X pins σ Q) X.xe s
theorem SlR.or{r r':V->Option Int->Option Int->Hp->VK->Prop}(h:SlR X r)(h':SlR X r'):SlR X (fun x lo hi H Q=>r x lo hi H Q\/r' x lo hi H Q):=by
 intro pins s σ H x v vl vu lo hi sl Q I rx hs pl pu q
 rcases q with q|q
 .exact h pins s σ H x v vl vu lo hi sl Q I rx hs pl pu q
 .exact h' pins s σ H x v vl vu lo hi sl Q I rx hs pl pu q
def tSl(r:V->Option Int->Option Int->Hp->VK->Prop)(te:TE)(tl th:TO):TE:=fun σ H Q=>te σ H fun x H1=>tl σ H1 fun l H2=>th σ H2 fun u H3=>r x l u H3 Q
theorem b9{r:V->Option Int->Option Int->Hp->VK->Prop}(hr:SlR X r)(he:PE X e te)(hl:PO X lo tl)(hu:PO X hi th):PE X (.Subscript e (.Slice lo hi none p2) pos) (tSl r te tl th):=by
 intro pins s σ H Q I h;refine Subscript_ (thn (he pins s σ H _ I h) fun v s1 ⟨x,H1,I1,r1,q1⟩=>?_);refine wpAny_Slice (thn (hl pins s1 σ H1 _ I1 q1) fun vl s2 ⟨l,H2,I2,pl,q2⟩=>thn (hu pins s2 σ H2 _ I2 q2) fun vu s3 ⟨u,H3,I3,pu,q3⟩=>?_);rw [evalPart_none];refine wpAny_pure ?_;have I4:Inv X pins σ H3 { s3 with heap:=s3.heap.push { cls:=.type "slice",data:=.fields #[vl,vu,.none] } }:=I3.kept (t':=s3.toks) fun b ob q=>Heap.get?_push_of_some _ q
 obtain⟨T,id,hT,ht,hg⟩:=hr pins { s3 with heap:=s3.heap.push { cls:=.type "slice",data:=.fields #[vl,vu,.none] } } σ H3 x v vl vu l u s3.heap.objs.size Q I4 r1 (Heap.IsSliceOf.new ..) pl pu q3;show wpAny (model X.prog X.w) X.A (subscriptTail e (.Slice lo hi none p2) v (.ref s3.heap.objs.size)) (EP X pins σ Q) X.xe { s3 with heap:=s3.heap.push { cls:=.type "slice",data:=.fields #[vl,vu,.none] } };exact tail_any (ops:=[.ref s3.heap.objs.size,v]) ht hT hg (by with_unfolding_all rfl)
def Am(xs:List V)(lo hi:Option Int):List V:=(xs.drop (HT.sIx xs.length 0 lo)).take (HT.sIx xs.length xs.length hi - HT.sIx xs.length 0 lo)
theorem lA(xs:List V)(lo hi:Option Int):(Am xs lo hi).length<=xs.length:=by
 unfold Am;rw [length_take,length_drop];omega
def Fj(K:PySem.W.Frag):V->Option Int->Option Int->Hp->VK->Prop:=fun x lo hi H Q=>∃a xs,x=.ref a/\SqT K H a xs /\
 ¬ (HT.sIx xs.length 0 lo=0/\HT.sIx xs.length xs.length hi=xs.length)/\∀p,H p=none->Q (.ref p) (upd H p (.tup (Am xs lo hi)))
theorem Ck:SlR X (Fj X.K):=by
 intro pins s σ H x v vl vu lo hi sl Q I rx hs pl pu h;obtain⟨a,xs,rfl,hx,hw,q⟩:=h;cases rx;obtain⟨its,r,ht,hz⟩:=I.tuple hx;have hlen:its.toArray.size=xs.length:=by rw [size_toArray];exact r.length.symm
 refine⟨"tuple",_,PyProof.Rows.slot_tuple_getitem.lookup,ht.typeIs,?_⟩;refine HT.getItem_tuple_cut ht hs pl pu (by rw [hlen];exact hw) ?_ (by rw [hlen];exact hz);rw [hlen];refine⟨.ref s.heap.objs.size,_,I.laid (t':=s.toks) (o:=.tup (Am xs lo hi)) (fun b ob q=>Heap.get?_push_of_some _ q) (Nat.le_refl _) ?_,rfl,q _ (I.hok.fresh (Nat.le_refl _))⟩;exact⟨le_trans (lA xs lo hi) hz,_,(r.drop (HT.sIx xs.length 0 lo)).take (HT.sIx xs.length xs.length hi - HT.sIx xs.length 0 lo),IsTup.new _ _⟩
def Cm(K:PySem.W.Frag):R2:=fun x y H Q=>∃a b xs ys,x=.ref a/\y=.ref b/\SqT K H a xs/\SqT K H b ys/\xs≠[]/\xs.length+ys.length<=sizeLine /\
 (ys=[]->Q (.ref a) H)/\(ys≠[]->∀p,H p=none->Q (.ref p) (upd H p (.tup (xs++ys))))
theorem cG.nil_iff{xs:List V}{us:List Value}(r:cG xs us):us=[] ↔ xs=[]:=by
 cases r with
 | nil=>simp
 | cons _ _=>simp
theorem An:OpR X (binaryOp .Add) (Cm X.K):=by
 intro pins s σ H x y v u Q I rx ry h;obtain⟨a,b,xs,ys,rfl,rfl,ha,hb,hx,hz,q1,q2⟩:=h;cases rx;cases ry;obtain⟨its,r1,p1,_⟩:=I.tuple ha;obtain⟨its2,r2,p2,_⟩:=I.tuple hb;refine HT.cat_tup p1 p2 (fun z=>hx (r1.nil_iff.mp z)) (fun z=>⟨.ref a,H,I,rfl,q1 (r2.nil_iff.mp z)⟩) (fun z=>?_) (by rw [<- r1.length,<- r2.length];exact hz);refine⟨.ref s.heap.objs.size,_,I.laid (t':=s.toks) (o:=.tup (xs++ys)) (fun b ob q=>Heap.get?_push_of_some _ q) (Nat.le_refl _) ?_,rfl,q2 (fun w=>z (r2.nil_iff.mpr w)) _ (I.hok.fresh (Nat.le_refl _))⟩
 exact⟨by rw [length_append];exact hz,_,r1.append r2,IsTup.new _ _⟩
end
def ixN(n:Nat)(i:Int):Option Nat:=if 0<=i then (if i<n then some i.toNat else none) else if -(n:Int)<=i then some (i+n).toNat else none
def atI{α:Type}(xs:List α)(i:Int):Option α:=(ixN xs.length i).bind fun j=>xs[j]?
theorem rK{n:Nat}{i:Int}{j:Nat}(h:ixN n i=some j):seqIndex? i n=some j/\j<n/\-(n:Int)<=i/\i<n:=by
 unfold ixN at h
 by_cases h0:0<=i
 .rw [if_pos h0] at h
  by_cases h1:i<n
  .rw [if_pos h1] at h;have e:i.toNat=j:=Option.some.inj h;exact⟨by rw [seqIndex_of h0 h1,e],by omega,by omega,h1⟩
  .rw [if_neg h1] at h;cases h
 .rw [if_neg h0] at h
  by_cases h1:-(n:Int)<=i
  .rw [if_pos h1] at h;have e:(i+n).toNat=j:=Option.some.inj h;exact⟨by rw [seqIndex_neg (by omega) h1,e],by omega,h1,by omega⟩
  .rw [if_neg h1] at h;cases h
theorem n6{α:Type}{xs:List α}{i:Int}{v:α}(h:atI xs i=some v):∃j,seqIndex? i xs.length=some j/\xs[j]?=some v/\j<xs.length/\-(xs.length:Int)<=i/\i<xs.length:=by
 unfold atI at h
 cases e:ixN xs.length i with
 | none=>rw [e] at h;cases h
 | some j =>
  rw [e] at h;obtain⟨h1,h2,h3,h4⟩:=rK e;exact⟨j,h1,h,h2,h3,h4⟩
theorem Ao{α:Type}{xs:List α}{j:Nat}{v:α}(h:xs[j]?=some v):atI xs (j:Int)=some v:=by
 have hj:j<xs.length:=(List.getElem?_eq_some_iff.mp h).1
 have e:ixN xs.length (j:Int)=some j:=by
  unfold ixN;rw [if_pos (by omega),if_pos (by omega)];simp
 unfold atI;rw [e];exact h
def Ap(b:Expr):Prop:=∀o i,subscripted b false o i=operate [o,i] (getItem o i)
def IxR(X:Cx)(r:R2):Prop :=
 ∀(value slice:Expr) (pins:List (Addr×Obj)) (s:Shared) (σ:St) (H:Hp) (x y:V) (v u:Value) (Q:VK),Inv X pins σ H s->dw x v->dw y u->r x y H Q ->
  subscripted slice false v u=operate [v,u] (getItem v u)->wpAny (model X.prog X.w) X.A (subscriptTail value slice v u) (EP X pins σ Q) X.xe s
def MtR(X:Cx)(id:String)(r:V->List V->Hp->VK->Prop):Prop :=
 ∀(pins:List (Addr×Obj)) (s:Shared) (σ:St) (H:Hp) (x:V) (xs:List V) (v:Value) (us:List Value) (Q:VK),Inv X pins σ H s->dw x v->cG xs us->r x xs H Q ->
  wpAny (model X.prog X.w) X.A (call (.builtin id) (v::us)) (EP X pins σ Q) X.xe s
section
variable {X:Cx}{a b:Expr}{ta tb:TE}{pos:Pos}
theorem IxR.or{r r':R2}(h:IxR X r)(h':IxR X r'):IxR X (fun x y H Q=>r x y H Q\/r' x y H Q):=by
 intro value slice pins s σ H x y v u Q I rx ry q hs
 rcases q with q|q
 .exact h value slice pins s σ H x y v u Q I rx ry q hs
 .exact h' value slice pins s σ H x y v u Q I rx ry q hs
theorem bQ{r:R2}(hr:IxR X r)(ha:PE X a ta)(hb:PE X b tb)(hs:Ap b):PE X (.Subscript a b pos) (tOp r ta tb):=by
 intro pins s σ H Q I h;exact Subscript_ (D4 ha hb I h fun v u s2 x y H2 I2 rx ry q=>hr a b pins s2 σ H2 x y v u Q I2 rx ry q (hs _ _))
def BE(K:PySem.W.Frag):R2:=fun x y H Q=>∃p xs i v,x=.ref p/\y=.int i/\SqL K H p xs/\atI xs i=some v/\Q v H
def Fk(K:PySem.W.Frag):R2:=fun x y H Q=>∃p xs i v,x=.ref p/\y=.int i/\SqT K H p xs/\atI xs i=some v/\Q v H
def FE:R2:=fun x y H Q=>∃z i c,x=.str z/\y=.int i/\z.length<=sizeLine/\atI z.cps.toList i=some c/\Q (.str ⟨#[c]⟩) H
theorem Aq:IxR X (BE X.K):=by
 intro value slice pins s σ H x y v u Q I rx ry h hs;obtain⟨p,xs,i,z,rfl,rfl,hq,he,q⟩:=h;cases rx;obtain⟨t,rfl⟩:=ry;obtain⟨its,r,pl,hz⟩:=I.list hq;obtain⟨j,h1,h2,h3,h4,h5⟩:=n6 he;obtain⟨w,ew,rw'⟩:=r.get h2;have hl:=r.length;have hn:=lv;have fin:EP X pins σ Q w s:=⟨z,H,I,rw',q⟩
 by_cases h0:0<=i
 .have hj:i.toNat=j:=by
   rw [seqIndex_of h0 h5] at h1;exact Option.some.inj h1
  exact item_listR pl.isList h0 (by omega) (by rw [hj];simpa using ew) fin hs
 .have hj:(i+(its.toArray.size:Int)).toNat=j:=by
   rw [seqIndex_neg (by omega) h4] at h1;rw [size_toArray,<- hl];exact Option.some.inj h1
  exact subscriptTail_builtinR (x:=w) pl.isList.typeIs slot_list_getitem.lookup
   (wpAny_getItem_list_neg (Q:=fun r s'=>r=w/\EP X pins σ Q r s') pl.isList (by omega) (by rw [size_toArray] <;> omega) (by omega) (by rw [hj];simpa using ew) ⟨rfl,fin⟩) hs
theorem Cn:IxR X (Fk X.K):=by
 intro value slice pins s σ H x y v u Q I rx ry h hs;obtain⟨p,xs,i,z,rfl,rfl,hq,he,q⟩:=h;cases rx;obtain⟨t,rfl⟩:=ry;obtain⟨its,r,pl,hz⟩:=I.tuple hq;obtain⟨j,h1,h2,h3,h4,h5⟩:=n6 he;obtain⟨w,ew,rw'⟩:=r.get h2;have hl:=r.length;have hn:=lv;have fin:EP X pins σ Q w s:=⟨z,H,I,rw',q⟩
 exact subscriptTail_builtinR (x:=w) pl.typeIs slot_tuple_getitem.lookup
  (getItem_tuple (j:=j) (Q:=fun r s'=>r=w/\EP X pins σ Q r s') pl (by omega) (by omega) (by rw [size_toArray,<- hl];exact h1) (by simpa using ew) ⟨rfl,fin⟩) hs
theorem Co:IxR X FE:=by
 intro value slice pins s σ H x y v u Q I rx ry h hs;obtain⟨z,i,c,rfl,rfl,hz,he,q⟩:=h;obtain⟨t,rfl⟩:=rx;obtain⟨t',rfl⟩:=ry;obtain⟨j,h1,h2,h3,h4,h5⟩:=n6 he;have hl:z.cps.toList.length=z.length:=by simp [Str.length]
 rw [hl] at h1 h4 h5;have hn:=lv
 exact tail_any (typeIs_str s z t) slot_str_getitem.lookup (getItem_str (c:=c) (by
  have e1:decide (i < -(2^63:Int))=false:=decide_eq_false (by omega);have e2:decide (i >= 2^63)=false:=decide_eq_false (by omega);rw [e1,e2,Bool.or_false]) (by rw [h1];simpa using h2) ⟨.str ⟨#[c]⟩,H,I.tok _,⟨_,rfl⟩,q⟩) hs
theorem uB(its:List Value)(n j:Nat)(u:Value):Obj.mapSeq (·.setIfInBounds j u) { cls:=.type "list",data:=.seq its.toArray n }={ cls:=.type "list",data:=.seq (its.set j u).toArray n }:=by
 simp [Obj.mapSeq]
theorem Inv.lst{pins:List (Addr×Obj)}{σ:St}{H:Hp}{s:Shared}{p:Addr}{xs:List V}(I:Inv X pins σ H s)(h:H p=some (.lst xs)) :
  ∃(its:List Value) (n:Nat),cG xs its/\s.heap.get? p=some { cls:=.type "list",data:=.seq its.toArray n }/\xs.length<=sizeLine:=by
 obtain⟨z,its,n,r,e⟩:=I.hok p _ h;exact⟨its,n,r,e,z⟩
theorem Inv.lstUpd{pins:List (Addr×Obj)}{σ:St}{H:Hp}{s:Shared}{p:Addr}{xs ys:List V}{its its':List Value}{n n':Nat}{f:Obj->Obj}(I:Inv X pins σ H s)(h:H p=some (.lst xs))
  (ho:s.heap.get? p=some { cls:=.type "list",data:=.seq its.toArray n }) (hf:f { cls:=.type "list",data:=.seq its.toArray n }={ cls:=.type "list",data:=.seq its'.toArray n' }) (r:cG ys its') (hz:ys.length<=sizeLine) (t:Nat) :
  Inv X pins σ (upd H p (.lst ys)) { s with heap:=s.heap.update p f,toks:=t }:=by
 have e:(s.heap.update p f).get? p=some { cls:=.type "list",data:=.seq its'.toArray n' }:=by
  rw [Heap.get?_update_self f ho (by rw [hf] <;> rfl),hf]
 refine I.write (x:=p) (e:=p) (by rw [h];trivial) (.inl rfl) (fun b u hb q=>(Heap.get?_update_other _ _ (Ne.symm hb)).trans q) ⟨_,e⟩ ?_;exact⟨hz,its',n',r,e⟩
def vR:V->V->V->Hp->(Hp->Prop)->Prop:=fun o i v H Q=>∃p xs k j,o=.ref p/\i=.int k/\H p=some (.lst xs)/\ixN xs.length k=some j/\Q (upd H p (.lst (xs.set j v)))
theorem eC:D3 X vR:=by
 intro pins s σ H o i v ov iv u Q I ro ri rv h;obtain⟨p,xs,k,j,rfl,rfl,hp,hj,q⟩:=h;cases ro;obtain⟨t,rfl⟩:=ri;obtain⟨its,n,r,ho,hz⟩:=I.lst hp;obtain⟨h1,h2,h3,h4⟩:=rK hj;have hl:=r.length;have hn:=lv
 have I':Inv X pins σ (upd H p (.lst (xs.set j v))) { s with heap:=s.heap.update p (Obj.mapSeq (·.setIfInBounds j u)) } :=
  I.lstUpd hp ho (uB its n j u) (r.set rv j) (by rw [length_set];exact hz) s.toks
 by_cases h0:0<=k
 .have hk:k.toNat=j:=by
   rw [seqIndex_of h0 h4] at h1;exact Option.some.inj h1
  exact PySem.W.ki_setAt ho h0 (by omega) (by rw [size_toArray,<- hl];exact h4) (by rw [hk];exact⟨_,I',q⟩)
 .have hk:(k+(its.toArray.size:Int)).toNat=j:=by
   rw [seqIndex_neg (by omega) h3] at h1;rw [size_toArray,<- hl];exact Option.some.inj h1
  exact PySem.W.ki_setBack ho (by omega) (by rw [size_toArray,<- hl];exact h3) (by omega) (by rw [hk];exact⟨_,I',q⟩)
theorem qb(lo hi:Option Int)(n:Nat):(sliceBounds lo hi none n).1=((HT.sIx n 0 lo:Nat):Int)/\(sliceBounds lo hi none n).2.1=((HT.sIx n n hi:Nat):Int)/\(sliceBounds lo hi none n).2.2=1:=by
 refine⟨?_,?_,rfl⟩
 .cases lo with
  | none=>simp [sliceBounds,HT.sIx]
  | some i =>
   simp only [sliceBounds,HT.sIx,Option.getD_none,show (1:Int) > 0 by decide,if_true]
   by_cases h:i<0
   .simp only [h,if_true] <;> omega
   .simp only [h,if_false] <;> omega
 .cases hi with
  | none=>simp [sliceBounds,HT.sIx]
  | some i =>
   simp only [sliceBounds,HT.sIx,Option.getD_none,show (1:Int) > 0 by decide,if_true]
   by_cases h:i<0
   .simp only [h,if_true] <;> omega
   .simp only [h,if_false] <;> omega
theorem n8(its:List Value)(lo hi:Option Int):slicePick its.toArray lo hi none=((its.drop (HT.sIx its.length 0 lo)).take (HT.sIx its.length its.length hi - HT.sIx its.length 0 lo)).toArray:=by
 obtain⟨h1,h2,h3⟩:=qb lo hi its.toArray.size;unfold slicePick;rw [h1,h2,h3];simp only [sliceRange_one,pick_run,size_toArray] <;> rfl
def Fm(K:PySem.W.Frag):V->Option Int->Option Int->Hp->VK->Prop:=fun x lo hi H Q=>∃a xs,x=.ref a/\SqL K H a xs/\∀p,H p=none->Q (.ref p) (upd H p (.lst (Am xs lo hi)))
theorem Ar:SlR X (Fm X.K):=by
 intro pins s σ H x v vl vu lo hi sl Q I rx hs pl pu h;obtain⟨a,xs,rfl,hx,q⟩:=h;cases rx;obtain⟨its,r,ht,hz⟩:=I.list hx;have hlen:=r.length;refine⟨"list",_,slot_list_getitem.lookup,ht.isList.typeIs,?_⟩;refine wpAny_getItem_list_slice ht.isList hs pl pu .none (by simp) ?_ (by rw [size_toArray] <;> omega);rw [n8,<- hlen];refine⟨.ref s.heap.objs.size,_,I.laid (t':=s.toks) (o:=.lst (Am xs lo hi)) (fun b ob q=>Heap.get?_push_of_some _ q) (Nat.le_refl _) ?_,rfl,q _ (I.hok.fresh (Nat.le_refl _))⟩
 exact⟨le_trans (lA xs lo hi) hz,_,0,(r.drop (HT.sIx xs.length 0 lo)).take (HT.sIx xs.length xs.length hi - HT.sIx xs.length 0 lo),Heap.get?_push_size _ rfl⟩
def mE:V->Bool
 | .non=>true
 | .bl _=>true
 | .int _=>true
 | .str _=>true
 | _=>false
def eqV:V->V->Bool
 | .non,.non=>true
 | .bl a,.bl b=>a == b
 | .bl a,.int b=>(if a then 1 else 0) == b
 | .int a,.bl b=>a == (if b then 1 else 0)
 | .int a,.int b=>a == b
 | .str a,.str b=>a == b
 | _,_=>false
theorem Cp{A:Around}{s:Shared}{y x:V}{u v:Value}(ry:dw y u)(rx:dw x v)(fy:mE y=true)(fx:mE x=true):SeqAt.EqAt A s u v (eqV y x):=by
 cases y with
 | non =>
  cases ry
  cases x with
  | non=>cases rx;exact SeqAt.EqAt.same _
  | bl b=>cases rx;exact SeqAt.EqAt.none_bool b
  | int b=>obtain⟨t,rfl⟩:=rx;exact SeqAt.EqAt.none_int b t
  | str b=>obtain⟨t,rfl⟩:=rx;exact SeqAt.EqAt.none_str b t
  | _=>exact absurd (show false=true from fx) Bool.false_ne_true
 | bl a =>
  cases ry
  cases x with
  | non=>cases rx;exact SeqAt.EqAt.bool_none a
  | bl b=>cases rx;exact SeqAt.EqAt.bool_bool a b
  | int b=>obtain⟨t,rfl⟩:=rx;exact SeqAt.EqAt.bool_int a b t
  | str b=>obtain⟨t,rfl⟩:=rx;exact SeqAt.EqAt.bool_str a b t
  | _=>exact absurd (show false=true from fx) Bool.false_ne_true
 | int a =>
  obtain⟨t',rfl⟩:=ry
  cases x with
  | non=>cases rx;exact SeqAt.EqAt.int_none a t'
  | bl b=>cases rx;exact SeqAt.EqAt.int_bool a t' b
  | int b=>obtain⟨t,rfl⟩:=rx;exact SeqAt.EqAt.int_int a t' b t
  | str b=>obtain⟨t,rfl⟩:=rx;exact SeqAt.EqAt.int_str a t' b t
  | _=>exact absurd (show false=true from fx) Bool.false_ne_true
 | str a =>
  obtain⟨t',rfl⟩:=ry
  cases x with
  | non=>cases rx;exact SeqAt.EqAt.str_none a t'
  | bl b=>cases rx;exact SeqAt.EqAt.str_bool a t' b
  | int b=>obtain⟨t,rfl⟩:=rx;exact SeqAt.EqAt.str_int a t' b t
  | str b=>obtain⟨t,rfl⟩:=rx;exact SeqAt.EqAt.str_str a t' b t
  | _=>exact absurd (show false=true from fx) Bool.false_ne_true
 | _=>exact absurd (show false=true from fy) Bool.false_ne_true
def eqU(x:V)(u:Value):Bool:=match u with
 | .none=>eqV .non x
 | .bool b=>eqV (.bl b) x
 | .int i _=>eqV (.int i) x
 | .str z _=>eqV (.str z) x
 | _=>false
theorem zo{x y:V}{u:Value}(r:dw y u)(f:mE y=true):eqU x u=eqV y x:=by
 cases y with
 | non=>cases r;rfl
 | bl b=>cases r;rfl
 | int i=>obtain⟨t,rfl⟩:=r;rfl
 | str z=>obtain⟨t,rfl⟩:=r;rfl
 | _=>exact absurd (show false=true from f) Bool.false_ne_true
theorem lB{x:V}:∀{xs:List V}{us:List Value},cG xs us->xs.all mE=true->us.any (eqU x)=xs.any fun y=>eqV y x
 | _,_,.nil,_=>rfl
 | y::xs,u::us,.cons r t,f=>by
  rw [all_cons,and_eq_true] at f;rw [any_cons,any_cons,zo r f.1,lB t f.2]
theorem jn{A:Around}{s:Shared}{x:V}{v:Value}(rx:dw x v)(fx:mE x=true):∀{xs:List V}{us:List Value},cG xs us->xs.all mE=true->∀u∈us,SeqAt.EqAt A s u v (eqU x u)
 | _,_,.nil,_=>fun u hu=>by cases hu
 | y::xs,u::us,.cons r t,f=>fun u' hu=>by
  rw [all_cons,and_eq_true] at f
  rcases mem_cons.mp hu with rfl|hu
  .rw [zo r f.1];exact Cp r rx f.1 fx
  .exact jn rx fx t f.2 u' hu
def inV(x:V)(xs:List V):Bool:=xs.any fun y=>eqV y x
def rIn(K:PySem.W.Frag)(neg:Bool):R2:=fun x y H Q=>∃p xs,y=.ref p/\(SqL K H p xs\/SqT K H p xs)/\mE x=true/\xs.all mE=true/\Q (.bl (if neg then !inV x xs else inV x xs)) H
theorem vS:OpR X (compareOp .In) (rIn X.K false):=by
 intro pins s σ H x y v u Q I rx ry h;obtain⟨p,xs,rfl,hq,fx,fs,q⟩:=h;cases ry
 rcases hq with hq|hq
 .obtain⟨its,r,pl,hz⟩:=I.list hq;refine SeqAt.in_listAt (eqU x) pl.isList (fun w hw=>jn rx fx r fs w (by simpa using hw)) ⟨.bl _,H,I,rfl,?_⟩;rw [show its.toArray.any (eqU x)=its.any (eqU x) by simp,lB r fs];exact q
 .obtain⟨its,r,pl,hz⟩:=I.tuple hq;refine SeqAt.in_tupleAt (eqU x) pl (fun w hw=>jn rx fx r fs w (by simpa using hw)) ⟨.bl _,H,I,rfl,?_⟩;rw [show its.toArray.any (eqU x)=its.any (eqU x) by simp,lB r fs];exact q
theorem qc:OpR X (compareOp .NotIn) (rIn X.K true):=by
 intro pins s σ H x y v u Q I rx ry h;obtain⟨p,xs,rfl,hq,fx,fs,q⟩:=h;cases ry
 rcases hq with hq|hq
 .obtain⟨its,r,pl,hz⟩:=I.list hq;refine SeqAt.notIn_listAt (eqU x) pl.isList (fun w hw=>jn rx fx r fs w (by simpa using hw)) ⟨.bl _,H,I,rfl,?_⟩;rw [show its.toArray.any (eqU x)=its.any (eqU x) by simp,lB r fs];exact q
 .obtain⟨its,r,pl,hz⟩:=I.tuple hq;refine SeqAt.notIn_tupleAt (eqU x) pl (fun w hw=>jn rx fx r fs w (by simpa using hw)) ⟨.bl _,H,I,rfl,?_⟩;rw [show its.toArray.any (eqU x)=its.any (eqU x) by simp,lB r fs];exact q
theorem ko:cC X (.builtin "len") (fun xs H Q=>∃p ys,xs=[.ref p]/\(SqL X.K H p ys\/SqT X.K H p ys)/\Q (.int ys.length) H):=by
 intro pins s σ H xs us Q I r h;obtain⟨p,ys,rfl,hq,q⟩:=h;obtain⟨u,rfl,rx⟩:=jm r;cases rx;have hn:=lv
 rcases hq with hq|hq
 .obtain⟨its,r',pl,hz⟩:=I.list hq;have hlen:=r'.length;exact Calls.call_len_list pl.isList (by simp only [size_toArray] <;> omega) ⟨.int ys.length,H,I.tok _,⟨s.toks+1,by rw [size_toArray,hlen]⟩,q⟩
 .obtain⟨its,r',pl,hz⟩:=I.tuple hq;have hlen:=r'.length;exact len_tuple pl (by simp only [size_toArray] <;> omega) ⟨.int ys.length,H,I.tok _,⟨s.toks+1,by rw [size_toArray,hlen]⟩,q⟩
theorem qd:cC X (.builtin "len") (fun xs H Q=>∃z,xs=[.str z]/\z.length<=sizeLine/\Q (.int z.length) H):=by
 intro pins s σ H xs us Q I r h;obtain⟨z,rfl,hz,q⟩:=h;obtain⟨u,rfl,t,rfl⟩:=jm r;have hn:=lv;exact len_str (by omega) ⟨.int z.length,H,I.tok _,⟨_,rfl⟩,q⟩
theorem cC.or{f:Value}{r r':List V->Hp->VK->Prop}(h:cC X f r)(h':cC X f r'):cC X f (fun xs H Q=>r xs H Q\/r' xs H Q):=by
 intro pins s σ H xs us Q I rs q
 rcases q with q|q
 .exact h pins s σ H xs us Q I rs q
 .exact h' pins s σ H xs us Q I rs q
theorem qe:cC X (.type "list") (fun xs H Q=>∃p ys,xs=[.ref p]/\(SqL X.K H p ys\/SqT X.K H p ys)/\∀l,H l=none->Q (.ref l) (upd H l (.lst ys))):=by
 intro pins s σ H xs us Q I r h;obtain⟨p,ys,rfl,hq,q⟩:=h;obtain⟨u,rfl,rx⟩:=jm r;cases rx
 have fin:∀(its:List Value),cG ys its->ys.length<=sizeLine->∀(h':Heap) (c':Nat),(∀b o',s.heap.get? b=some o'->h'.get? b=some o') ->
   h'.get? s.heap.objs.size=some { cls:=.type "list",dict:=none,data:=.seq its.toArray c',slots:=#[] }->EP X pins σ Q (.ref s.heap.objs.size) { s with heap:=h' }:=fun its r' hz h' c' kp e =>
  ⟨.ref s.heap.objs.size,_,I.laid (t':=s.toks) kp (Nat.le_refl _) (show cJ X.prog X.w _ h' _ (.lst ys) from ⟨hz,its,c',r',e⟩),rfl,q _ (I.hok.fresh (Nat.le_refl _))⟩
 rcases hq with hq|hq
 .obtain⟨its,r',pl,hz⟩:=I.list hq;have hlen:=r'.length;obtain⟨o,ho,hc,n,hd⟩:=pl.isList;exact call_list_seq p (.inl rfl) ho hc hd (fun h' c' kp e=>fin its r' hz h' c' kp e) (by simp only [size_toArray] <;> omega)
 .obtain⟨its,r',pl,hz⟩:=I.tuple hq;have hlen:=r'.length;obtain⟨o,ho,hc,n,hd⟩:=pl;exact call_list_seq p (.inr rfl) ho hc hd (fun h' c' kp e=>fin its r' hz h' c' kp e) (by simp only [size_toArray] <;> omega)
theorem n9:cC X (.type "tuple") (fun xs H Q=>∃p ys,xs=[.ref p]/\((SqL X.K H p ys/\∀l,H l=none->Q (.ref l) (upd H l (.tup ys)))\/(SqT X.K H p ys/\Q (.ref p) H))):=by
 intro pins s σ H xs us Q I r h;obtain⟨p,ys,rfl,h⟩:=h;obtain⟨u,rfl,rx⟩:=jm r;cases rx
 rcases h with ⟨hq,q⟩|⟨hq,q⟩
 .obtain⟨its,r',pl,hz⟩:=I.list hq;have hlen:=r'.length;refine call_tuple_list pl.isList (fun h' kp=>?_) (by simp only [size_toArray] <;> omega);have I1:Inv X pins σ H { s with heap:=h' }:=I.kept (t':=s.toks) kp
  have I2:Inv X pins σ (upd H h'.objs.size (.tup ys)) { s with heap:=h'.push { cls:=.type "tuple",data:=.seq its.toArray } } :=
   I1.laid (t':=s.toks) (fun b o e=>Heap.get?_push_of_some _ e) (Nat.le_refl _) (show cJ X.prog X.w _ _ _ (.tup ys) from ⟨hz,its,r',IsTup.new _ _⟩)
  exact⟨.ref h'.objs.size,_,I2,rfl,q _ (I1.hok.fresh (Nat.le_refl _))⟩
 .obtain⟨its,r',pl,hz⟩:=I.tuple hq;exact call_tuple_same pl ⟨.ref p,H,I,rfl,q⟩
def tyV(K:PySem.W.Frag)(T:String)(x:V)(H:Hp):Prop:=match x with
 | .str _=>T="str"
 | .int _=>T="int"
 | .ref p=>(T="list"/\∃xs,SqL K H p xs)\/(T="tuple"/\∃o,K.lookup p=some o/\o.cls=.type "tuple"/\o.dict=none) \/
   (T="dict"/\((∃kvs,H p=some (.dK kvs))\/∃kvs,H p=some (.dT kvs)))\/(T="set"/\∃S n,H p=some (.set S n))
 | _=>False
theorem Cq{pins:List (Addr×Obj)}{σ:St}{H:Hp}{s:Shared}{T:String}{x:V}{v:Value}(I:Inv X pins σ H s)(r:dw x v)(ty:tyV X.K T x H) :
  s.TypeIs v T/\∀a,v=.ref a->∃ob,s.heap.get? a=some ob/\ob.dict=none:=by
 cases x with
 | str z =>
  obtain⟨t,rfl⟩:=r;cases (show T="str" from ty);exact⟨typeIs_str s z t,fun _ e=>nomatch e⟩
 | int i =>
  obtain⟨t,rfl⟩:=r;cases (show T="int" from ty);exact⟨typeIs_int s i t,fun _ e=>nomatch e⟩
 | ref p =>
  cases r
  rcases ty with ⟨rfl,xs,hq⟩|⟨rfl,o,hk,hc,hd⟩|⟨rfl,hk⟩|⟨rfl,S,n,hk⟩
  .obtain⟨its,_,pl,_⟩:=I.list hq;refine⟨pl.isList.typeIs,fun a e=>?_⟩;cases e;obtain⟨o,n,e,c,hd,_⟩:=pl;exact⟨o,e,hd⟩
  .refine⟨⟨o,I.kIn p o hk,hc⟩,fun a e=>?_⟩;cases e;exact⟨o,I.kIn _ o hk,hd⟩
  .have z:∃o,s.heap.get? p=some o/\o.ExactDict:=by
    rcases hk with ⟨kvs,hk⟩|⟨kvs,hk⟩
    .obtain⟨_,_,_,_,o,_,_,e,ex,_⟩:=I.hok p _ hk;exact⟨o,e,ex⟩
    .obtain⟨_,_,_,_,o,_,_,e,ex,_⟩:=I.hok p _ hk;exact⟨o,e,ex⟩
   obtain⟨o,e,ex⟩:=z;refine⟨⟨o,e,ex.1⟩,fun a e2=>?_⟩;cases e2;exact⟨o,e,ex.2.1⟩
  .obtain⟨o,_,_,_,e,ex,_⟩:=I.hok p _ hk;refine⟨⟨o,e,ex.1⟩,fun a e2=>?_⟩;cases e2;exact⟨o,e,ex.2.1⟩
 | _=>exact False.elim ty
def tBM(K:PySem.W.Frag)(T:String)(r:V->List V->Hp->VK->Prop)(to:TE)(t:TA):TE:=fun σ H Q=>to σ H fun x H1=>tyV K T x H1/\t σ H1 fun xs H2=>r x xs H2 Q
variable {o e:Expr}{es:List Expr}{to:TE}{t:TA}{name:Str}{apos cpos:Pos}{T id:String}{r:V->List V->Hp->VK->Prop}
theorem Ee(pa:PlainAttrs T)(slot:Slot T name id)(hty:typeOf (.builtin id)=pure (.type "method_descriptor"))(hm:MtR X id r)(ho:PE X o to)(ha:PA X (e::es) t)
  (hbase:attributeBase o name X.env (eval o X.env)=eval o X.env:=by rfl)
  (hfew:((backTo cpos (starEach (e::es) X.env)).all (fun x=>!x.1) && (backToKw cpos (keywordEach [] X.env)).all (fun x=>x.1.isSome)
   && decide ((e::es).length+([]:List Keyword).length+(if ([]:List Keyword).isEmpty then 0 else 1)<30))=true:=by rfl)
  (hline:(apos.endLine == cpos.line)=true:=by rfl) (hs:starEach (e::es) X.env=(false,eval e X.env)::starEach es X.env:=by rfl) (hplain:(backTo cpos (starEach es X.env)).any (·.1)=false:=by rfl) :
  PE X (.Call (.Attribute o name apos) (e::es) [] cpos) (tBM X.K T r to t):=by
 intro pins s σ H Q I h;refine wpAny_Call_method_late hbase hfew hline rfl (thn (ho pins s σ H _ I h) fun v s1 ⟨x,H1,I1,r1,ty,q1⟩=>?_);obtain⟨h1,h2⟩:=Cq I1 r1 ty;refine⟨T,id,pa,slot,hty,h1,h2,?_⟩;have hA:=ha cpos pins s1 σ H1 _ I1 q1;rw [hs] at hA ⊢;refine Calls.callWith_builtin (by show (false || (backTo cpos (starEach es X.env)).any (·.1))=false;rw [hplain] <;> rfl) (Calls.evalArgs_plain ?_);exact thn hA fun us s2 ⟨vs,H2,I2,r2,q2⟩=>hm pins s2 σ H2 x vs v us Q I2 r1 r2 q2
end
def MtM(X:Cx)(id:String)(r:V->List V->Hp->VK->Prop):Prop :=
 ∀(pins:List (Addr×Obj)) (s:Shared) (σ:St) (H:Hp) (x:V) (xs:List V) (v:Value) (us:List Value) (Q:VK),Inv X pins σ H s->dw x v->cG xs us->r x xs H Q ->
  wpAny (model X.prog X.w) X.A (call (.builtin id) (v::us)) (EP X pins σ Q) X.xe s
theorem cG.one:∀{x:V}{us:List Value},cG [x] us->∃u,us=[u]/\dw x u
 | _,_,.cons r .nil=>⟨_,rfl,r⟩
theorem cG.eraseIdx:∀{xs:List V}{us:List Value} (i:Nat),cG xs us->cG (xs.eraseIdx i) (us.eraseIdx i)
 | _,_,_,.nil=>.nil
 | _,_,0,.cons _ t=>t
 | _,_,i+1,.cons r t=>.cons r (cG.eraseIdx i t)
theorem cG.rep{xs:List V}{us:List Value}(h:cG xs us):∀k:Nat,cG (List.replicate k xs).flatten (List.replicate k us).flatten
 | 0=>.nil
 | k+1=>by
  rw [replicate_succ,replicate_succ,flatten_cons,flatten_cons];exact cG.append h (cG.rep h k)
theorem qf{α:Type}:∀(l:List α) (i:Nat),(l.eraseIdx i).length<=l.length
 | [],_=>Nat.le_refl _
 | _::_,0=>le_succ _
 | _::r,i+1=>succ_le_succ (qf r i)
theorem qg(its:List Value):∀(k:Nat) (acc:List Value),
  List.foldl (fun x1 x2=>x1++x2) acc.toArray (List.replicate k its.toArray)=(acc++(List.replicate k its).flatten).toArray
 | 0,acc=>by simp
 | k+1,acc=>by
  have e:acc.toArray++its.toArray=(acc++its).toArray:=by simp
  have e2:(acc++its)++(List.replicate k its).flatten=acc++(List.replicate (k+1) its).flatten:=by
   rw [replicate_succ,flatten_cons,append_assoc]
  rw [<- e2,<- qg its k (acc++its),<- e,replicate_succ,foldl_cons]
section
variable {X:Cx}{pins:List (Addr×Obj)}{σ:St}{H:Hp}{s:Shared}{l b:Addr}{xs ys zs:List V}
theorem Inv.lset{its its':List Value}{n:Nat}{f:Array Value->Array Value}{t':Nat}(I:Inv X pins σ H s)(hH:H l=some (.lst xs))
  (e:s.heap.get? l=some { cls:=.type "list",data:=.seq its.toArray n }) (hf:f its.toArray=its'.toArray) (hv:cG ys its') (hz:ys.length<=sizeLine) :
  Inv X pins σ (upd H l (.lst ys)) { s with heap:=s.heap.update l (Obj.mapSeq f),toks:=t' }:=by
 have q:=PySem.IsL.update e f;rw [hf] at q;refine I.write (x:=l) (e:=l) (by rw [hH];exact trivial) (.inl rfl) (fun b' u hb hu=>(Heap.get?_update_other s.heap (Obj.mapSeq f) (Ne.symm hb)).trans hu) ⟨_,q⟩ ?_;exact⟨hz,its',_,hv,q⟩
theorem Inv.lnew{its:List Value}{t':Nat}(I:Inv X pins σ H s)(hv:cG ys its)(hz:ys.length<=sizeLine) :
  Inv X pins σ (upd H s.heap.objs.size (.lst ys)) { s with heap:=s.heap.push { cls:=.type "list",data:=.seq its.toArray },toks:=t' } :=
 I.laid (fun _ _ q=>Heap.get?_push_of_some _ q) (Nat.le_refl _) ⟨hz,its,0,hv,Heap.get?_push_size _ rfl⟩
theorem Inv.fresh(I:Inv X pins σ H s):H s.heap.objs.size=none:=I.hok.fresh (Nat.le_refl _)
theorem Inv.lstM(I:Inv X pins σ H s)(hH:H l=some (.lst xs)):xs.length<=sizeLine/\∃(its:List Value) (n:Nat),cG xs its/\xs.length=its.length/\s.heap.get? l=some { cls:=.type "list",data:=.seq its.toArray n }:=by
 obtain⟨z,its,n,r,e⟩:=I.hok l _ hH;exact⟨z,its,n,r,r.length,e⟩
theorem tu{n:Nat}(h:n<=sizeLine):Builtin.List.listTooLong n=false:=by
 unfold Builtin.List.listTooLong;exact decide_eq_false (by omega)
end
section
variable {X:Cx}
def vT:V->List V->Hp->VK->Prop:=fun x vs H Q=>∃l xs y,x=.ref l/\vs=[y]/\H l=some (.lst xs)/\xs.length<sizeLine/\Q .non (upd H l (.lst (xs++[y])))
theorem gX:MtM X "list.append" vT:=by
 intro pins s σ H x vs v us Q I rx rv h;obtain⟨l,xs,y,rfl,rfl,hH,hz,q⟩:=h;cases rx;obtain⟨u,rfl,ru⟩:=rv.one;obtain⟨z,its,n,r,hl,e⟩:=I.lstM hH;refine call_meets F.slot_list_append ⟨_,e,rfl⟩ F.entry_list_append (F.args_list_append_2 _ _) (PySem.list_append l its.toArray n u (by rw [size_toArray];omega)) ⟨e,?_⟩;refine⟨.non,_,I.lset (its':=its++[u]) hH e (by simp) (r.append (.cons ru .nil)) ?_,rfl,q⟩;rw [length_append,length_singleton]
 omega
def vU:V->List V->Hp->VK->Prop:=fun x vs H Q=>∃l b xs zs,x=.ref l/\vs=[.ref b]/\H l=some (.lst xs)/\H b=some (.lst zs)/\xs.length+zs.length<=sizeLine/\Q .non (upd H l (.lst (xs++zs)))
theorem vV:MtM X "list.extend" vU:=by
 intro pins s σ H x vs v us Q I rx rv h;obtain⟨l,b,xs,zs,rfl,rfl,hH,hB,hz,q⟩:=h;cases rx;obtain⟨u,rfl,ru⟩:=rv.one;cases ru;obtain⟨z,its,n,r,hl,e⟩:=I.lstM hH;obtain⟨z2,its2,n2,r2,hl2,e2⟩:=I.lstM hB;have hsz:its.toArray.size+its2.toArray.size<=sizeLine:=by rw [size_toArray,size_toArray];omega
 have hlong:¬ (!its.toArray.isEmpty && Builtin.List.listTooLong (its.toArray.size+its2.toArray.size))=true:=by
  rw [tu hsz,Bool.and_false];exact Bool.false_ne_true
 refine call_meets F.slot_list_extend ⟨_,e,rfl⟩ F.entry_list_extend (F.args_list_extend_2 _ _)
  (AutoSeq1.list_extend_list_list_0 l its.toArray n b its2.toArray n2 hlong (by rw [size_toArray];omega) (by omega)) ⟨e,e2,?_⟩
 refine⟨.non,_,I.lset (its':=its++its2) hH e (by simp) (r.append r2) ?_,rfl,q⟩;rw [length_append];omega
def zp:V->List V->Hp->VK->Prop:=fun x vs H Q=>∃l xs i k y,x=.ref l/\vs=[.int i]/\H l=some (.lst xs)/\-(2^63)<=i/\i<2^63/\seqIndex? i xs.length=some k/\xs[k]?=some y/\Q y (upd H l (.lst (xs.eraseIdx k)))
theorem yj:MtM X "list.pop" zp:=by
 intro pins s σ H x vs v us Q I rx rv h;obtain⟨l,xs,i,k,y,rfl,rfl,hH,h1,h2,hk,hy,q⟩:=h;cases rx;obtain⟨u,rfl,ru⟩:=rv.one;obtain⟨t,rfl⟩:=ru;obtain⟨z,its,n,r,hl,e⟩:=I.lstM hH;obtain⟨w,hw,rw'⟩:=r.get hy
 refine call_meets F.slot_list_pop ⟨_,e,rfl⟩ F.entry_list_pop (F.args_list_pop_2 _ _)
  (MeetsSeq.list_pop_at l its.toArray n i t k w (fitsIndex_both h1 h2) (by rw [size_toArray,<- hl];exact hk) (by rw [<- Array.getElem?_toList];exact hw) (by rw [size_toArray];omega)) ⟨e,?_⟩
 refine⟨y,_,I.lset (its':=its.eraseIdx k) hH e ?_ (r.eraseIdx k) ?_,rw',q⟩
 .show its.toArray.eraseIdxIfInBounds k=(its.eraseIdx k).toArray;rw [eraseIdxIfInBounds_toArray]
 .have:=qf xs k;omega
def Fn:R2:=fun x y H Q=>∃l k xs,x=.ref l/\y=.int k/\H l=some (.lst xs)/\-(2^63)<=k/\k<2^63/\xs.length*k.toNat<=sizeLine /\
 ∀p,H p=none->Q (.ref p) (upd H p (.lst (List.replicate k.toNat xs).flatten))
theorem As{α:Type}(xs:List α)(k:Nat):(List.replicate k xs).flatten.length=k*xs.length:=by
 induction k with
 | zero=>simp
 | succ k ih=>rw [replicate_succ,flatten_cons,length_append,ih,succ_mul,Nat.add_comm]
theorem Cr:OpR X (binaryOp .Mult) Fn:=by
 intro pins s σ H x y v u Q I rx ry h;obtain⟨l,k,xs,rfl,rfl,hH,h1,h2,hz,q⟩:=h;cases rx;obtain⟨t,rfl⟩:=ry;obtain⟨z,its,n,r,hl,e⟩:=I.lstM hH;have hlen:its.toArray.size*k.toNat<=sizeLine:=by rw [size_toArray,<- hl];exact hz
 have hcap:¬ its.toArray.size*k.toNat > (2^63 - 1) / 8:=by
  have:(sizeLine:Nat)<=(2^63 - 1) / 8:=by decide
  omega
 have hfit:¬ (!Builtin.List.listFitsIndex k)=true:=by
  rw [fitsIndex_both h1 h2];exact Bool.false_ne_true
 have hlong:¬ Builtin.List.listTooLong (its.toArray.size*k.toNat)=true:=by
  rw [tu hlen];exact Bool.false_ne_true
 have hnew:List.foldl (fun x1 x2=>x1++x2) #[] (List.replicate (if its.toArray.isEmpty=true then 0 else k.toNat) its.toArray)=(List.replicate k.toNat its).flatten.toArray:=by
  have f0:∀m:Nat,List.foldl (fun x1 x2=>x1++x2) #[] (List.replicate m its.toArray)=(List.replicate m its).flatten.toArray:=fun m=>by
   have:=qg its m [];rw [nil_append] at this;exact this
  rw [f0]
  cases its with
  | nil=>simp
  | cons a r'=>rw [if_neg (by simp)]
 refine wpAny_binaryOp_repeat_ref (T:="list") (U:="int") (by decide) ⟨_,e,rfl⟩ (fun s'=>typeIs_int s' k t) noFill_list_mul F.fills_int_mul F.slot_int_rmul repeat_list F.slot_int_index.lookup
  (call_meets F.slot_int_rmul (typeIs_int s k t) F.entry_int_rmul (F.args_int_rmul_2 _ _) (int___rmul___int_list k t l its.toArray n)
   ⟨e,rfl,⟨_,e,rfl⟩,call_meets F.slot_list_mul ⟨_,e,rfl⟩ F.entry_list_mul (F.args_list_mul_2 _ _) (AutoListH.list___mul___list_int_3 l its.toArray n k t hfit hcap hlong) ⟨e,?_⟩⟩)
 rw [hnew];exact⟨.ref _,_,I.lnew (t':=s.toks) (r.rep k.toNat) (by rw [As,Nat.mul_comm];exact hz),rfl,q _ I.fresh⟩
end
end L2
namespace Att
open PySem PySem.W PySem.Calls PyProof.Rows
theorem lC{P:Params}{h:Heap}:∀(ns:List Int) (vs:List Value),WellAll P h vs (ns.map WData.int)->IntsAre vs ns:=by
 intro ns
 induction ns with
 | nil =>
  intro vs w;rw [map_nil] at w;cases w;exact .nil
 | cons n ns ih =>
  intro vs w;rw [map_cons] at w
  cases w with
  | cons a b =>
   cases a;exact .cons _ _ (ih _ b)
theorem vW{l:OpenLaw}{n:Nat}(hn:l.most=some n){P:Params}{h:Heap}{args:List WData}{vals:List Value}
  (hpre:l.row.toRowW.claim.pre args=true) (hwl:WellAll P h vals args) :
  ∃a vs ns,vals=[Value.ref a]/\args=[WData.list (ns.map WData.int)]/\h.get? a=some { cls:=.type "list",data:=.seq vs.toArray }/\IntsAre vs ns/\ns.length<=n:=by
 have hsh:WShape.hasAll [] args [.list .int]=true:=(pre_splitW hpre).1;have hc:l.pre.holds [] { args:=args }=true:=(pre_splitW hpre).2;obtain⟨d,r,rfl,h1,h2⟩:=hasAllW_cons hsh;obtain rfl:=hasAllW_nil h2;obtain⟨xs,rfl,h3⟩:=hasW_list h1;obtain⟨ns,rfl⟩:=items_int h3
 have hlen:ns.length<=n:=by
  unfold OpenLaw.pre at hc
  have h4:(WTm.not (.lt (.lit (.int (n:Int))) (.len (.arg 0)))).holds [] { args:=[.list (ns.map .int)] }=true:=by
   have h4:=(holds_andW hc).1;rw [hn] at h4;exact h4
  have h5:=condW_of h4 (w_not (w_lt w_lit (w_len_list (w_arg rfl))));rw [length_map] at h5;refine le_of_not_lt fun q=>?_;have q':(n:Int)<((ns.length:Nat):Int):=by omega
  first
   | (rw [decide_eq_true q'] at h5;exact absurd h5 (by decide))
   | (simp at h5;omega)
 cases hwl with
 | cons w1 w2 =>
  cases w2
  cases w1 with
  | list ho hall=>exact⟨_,_,ns,rfl,rfl,ho,lC ns _ hall,hlen⟩
theorem vX(l:OpenLaw)(args:List WData):l.row.toRowW.claim.post args (.bool true) args=true :=
 postW_of (r:=l.row.toRowW) (X:=(true == true))
  (show WShape.has [] (.bool true) .bool=true by first|rfl|decide|simp [WShape.has,WShape.arms,WShape.armsAll])
  (show (WTm.eq .res (.lit (.bool true))).value [] { args:=args,res:=some (.bool true),after:=args }=some (.bool (true == true)) from w_eq_bool (w_res rfl) w_lit) rfl
theorem attach_call{l:OpenLaw}{n:Nat}{q:Program}{loose:List Str}{XP:(Str->Option Value)->Heap->Prop}{YP:World->Heap->Prop}{d:DefRec}
  (hn:l.most=some n) (hdf:d.params.defaults=[])
  (call:∀(w:World) (s₀ s₁:Shared) (mg mb:Str->Option Value) (fa:Addr) (o:Obj) (pm cd doc:Value) (a:Addr) (vs:List Value) (ns:List Int),
   Ground q loose [] XP w s₀ mg mb s₁.heap->YP w s₁.heap ->
   s₁.heap.get? fa=some o->o.data=.func (docDef d.name d.params d.body d.scope pm cd doc)->s₁.heap.CodeRec cd d.name->mg d.name=some (.ref fa) ->
   s₁.heap.get? a=some { cls:=.type "list",data:=.seq vs.toArray }->IntsAre vs ns->ns.length<=n->s₁.gens=#[] ->
   codeAny (model l.prog w) callerA (.call (.ref fa) ⟨[.ref a],[]⟩) (fun r s'=>r=.ok (.ret (.bool true))/\OldK s₁.heap s'.heap/\s'.os=s₁.os/\AllBare s'.gens) s₁) :
  WalkO q loose XP YP l.row.toRowW d [] (fun f vs=>PySem.call f vs):=by
 intro w s₀ s₁ mg mb G Y fa o pm cd doc dV kV ho hd hcd hD hmg hg args vals as hpre hlay hrd hwl hlo;obtain rfl:dV=.none:=Dflts.none hD hdf;obtain rfl:kV=.none:=Dflts.noKw hD;obtain⟨a,vs,ns,rfl,rfl,hobj,hints,hlen⟩:=vW hn hpre hwl;refine enter_call (codeAny_mono (call w s₀ s₁ mg mb fa o pm cd doc a vs ns G Y ho (fd_plain hd) hcd hmg hobj hints hlen hg) fun r s' hq=>?_);obtain⟨rfl,h2,h3,h4⟩:=hq;exact⟨.inl ⟨.bool true,.bool true,[],rfl,fun _=>rfl,.bool true,vX l _,fun _=>⟨List.Pairwise.nil,fun _ hm=>(nomatch hm)⟩⟩,h2,h3,h4⟩
end Att
namespace L2
open PySem PySem.Spec PyProof.Rows
theorem qh:∀{vs:List Value}{ns:List Int},IntsAre vs ns->cG (ns.map V.int) vs
 | _,_,.nil=>.nil
 | _,_,.cons n t h=>.cons ⟨t,rfl⟩ (qh h)
def Ef(H:Hp):Prop:=∀b,H b=none\/∃o xs,H b=some (.frz o (.lst xs))
theorem yk{P:Program}{w:World}{K:PySem.W.Frag}{mg mb:Str->Option Value}{CX:CXT}{k:Nat}{fa a:Addr}{fd:FuncData}{x:Str}{sp:Sp}{s₁:Shared}{vs:List Value}{ns:List Int}
  (KX:K.In s₁.heap) (hns:s₁.heap.Ns mainGlobals mg) (hb:s₁.heap.Ns builtinsNs mb) (hbb:∀x:Str,x≠"__name__"->mb x=bootBuiltins x) (hlim:s₁.heap.NoLimit) (hg:s₁.gens=#[])
  (ha:s₁.heap.get? a=some { cls:=.type "list",data:=.seq vs.toArray }) (hi:IntsAre vs ns) (hl:ns.length<=sizeLine) (hr:iI k callerA)
  (F:∀base:Heap,K.In base->base.Ns mainGlobals mg->p4 P w K mg base CX k fa fd [x] sp) (hbind:∀(s:Shared) (u:Value),BindsTo s fd ⟨[u],[]⟩ [(x,u)])
  (hsp:∀H:Hp,Ef H->SqL K H a (ns.map V.int)->sp [.ref a] H (fun v _=>v=.bl true) fun _ _ _=>False)
  (hCX:∀H e s',CX [] H s₁ (fun _ _ _=>False) e s'->False) :
  codeAny (model P w) callerA (.call (.ref fa) ⟨[.ref a],[]⟩) (fun r s'=>r=.ok (.ret (.bool true))/\OldK s₁.heap s'.heap/\s'.os=s₁.os/\AllBare s'.gens) s₁:=by
 have rv:=qh hi;have lenV:=hi.length
 -- from an abstract heap in which nothing but the script may be tracked
 have core:∀H:Hp,Ef H->SqL K H a (ns.map V.int)->HOk P w H s₁.heap->(∀b,H b≠none->b=a)->(H a≠none->K.lookup a=none) ->
   codeAny (model P w) callerA (.call (.ref fa) ⟨[.ref a],[]⟩) (fun r s'=>r=.ok (.ret (.bool true))/\OldK s₁.heap s'.heap/\s'.os=s₁.os/\AllBare s'.gens) s₁:=by
  intro H hO hS hok hA hK;have base_of:∀{b:Addr}{o:Obj},s₁.heap.get? b=some o->H b=none->(xY s₁.heap H).get? b=some o:=fun e n=>xZ e n
  have noA:∀{b:Addr}{o:Obj}{es:Array DictEntry}{ep:Nat},s₁.heap.get? b=some o->o.data=.dict es ep->H b=none:=fun {b o es ep} e d=>by
   cases q:H b with
   | none=>rfl
   | some u =>
    have e':b=a:=hA b (by rw [q];simp);subst e';rw [ha] at e;cases e;have d':Data.seq vs.toArray _=Data.dict es ep:=d;cases d'
  have nsK:∀{b:Addr}{m:Str->Option Value},s₁.heap.Ns b m->(xY s₁.heap H).Ns b m:=fun {b m} ⟨o,es,ep,e,d,r⟩=>⟨o,es,ep,base_of e (noA e d),d,r⟩
  have hKb:K.In (xY s₁.heap H):=fun b o e=>base_of (KX b o e) (by
   cases q:H b with
   | none=>rfl
   | some u =>
    have e':b=a:=hA b (by rw [q];simp);subst e';rw [hK (by rw [q];simp)] at e;cases e)
  have hM:Mod K mg (xY s₁.heap H):=⟨hKb,nsK hns,⟨mb,nsK hb,hbb⟩,let ⟨mc,h1,h2⟩:=hlim;⟨mc,nsK h1,h2⟩⟩
  have e0:Ak P w K mg (xY s₁.heap H) callerA [] s₁ H:=⟨rfl,hM,fun b o e=>zZ e,le_of_eq (vq _ _),trivial,fun b hb=>absurd (show b∈([]:List Addr) from hb) (by simp),hok,.of_eq hg⟩
  refine codeAny_mono ((F _ hKb (nsK hns)).run callerA [] s₁ H ⟨[.ref a],[]⟩ [.ref a] [.ref a] _ _ hr e0 (hbind s₁ (.ref a)) (.cons rfl .nil) (hsp H hO hS)) fun r s' h=>?_
  cases r with
  | error e=>exact (hCX H e s' h).elim
  | ok fl =>
   cases fl with
   | next=>exact False.elim h
   | brk=>exact False.elim h
   | cont=>exact False.elim h
   | ret u =>
    obtain⟨v,H',os,bare,un,hok',r',q⟩:=h;have q':v=.bl true:=q;subst q';obtain rfl:u=Value.bool true:=r';refine⟨rfl,OldK.of_keep fun b o e=>?_,os,bare⟩
    cases q:H b with
    | none=>exact un.keep b o e q (by intro z;exact absurd (show b∈([]:List Addr) from z) (by simp)) (by simp)
    | some u =>
     rcases hO b with z|⟨ob,xs,z⟩
     .rw [q] at z;cases z
     .have z2:=un.frzs b ob _ z;obtain⟨e1,_⟩:=hok b _ z;obtain⟨e2,_⟩:=hok' b _ z2;rw [e] at e1;cases e1;exact e2
 cases hk:K.lookup a with
 | some o =>
  -- the script is one of the module's own objects
  have e:=KX a o hk;rw [ha] at e;cases e;refine core (fun _=>none) (fun _=>.inl rfl) (.inr ⟨_,vs.toArray,_,hk,rfl,rfl,rfl,by rw [size_toArray,lenV];exact hl,by simpa using rv⟩) (fun b u z=>by have z':(none:Option HO)=some u:=z;cases z') (fun b z=>absurd rfl z) fun z=>absurd rfl z
 | none =>
  refine core (fun b=>if b=a then some (.frz { cls:=.type "list",data:=.seq vs.toArray } (.lst (ns.map V.int))) else none) (fun b=>?_) (.inl (.inr ⟨{ cls:=.type "list",data:=.seq vs.toArray },if_pos rfl⟩)) (fun b u z=>?_) (fun b z=>?_) fun _=>hk
  .by_cases hb:b=a
   .exact .inr ⟨_,_,if_pos hb⟩
   .exact .inl (if_neg hb)
  .by_cases hb:b=a
   .have z':=(if_pos hb).symm.trans z;cases z';subst hb;exact⟨ha,by rw [length_map];exact hl,vs,_,rv,ha⟩
   .have z':=(if_neg hb).symm.trans z;cases z'
  .by_cases hb:b=a
   .exact hb
   .exact absurd (if_neg hb) z
theorem At{l:PySem.W.OpenLaw}{n k:Nat}{q:Program}{loose:List Str}{XP:(Str->Option Value)->Heap->Prop}{YP:World->Heap->Prop}{d:DefRec}{K:Params->PySem.W.Frag}{CX:World->CXT}{sp:World->Sp}{x:Str}
  (hn:l.most=some n) (hn2:n<=sizeLine) (hdf:d.params.defaults=[]) (hr:iI k callerA)
  (hY:∀(w:World) (h:Heap),YP w h->(K w.params).In h)
  (F:∀(w:World) (mg:Str->Option Value) (fa:Addr) (h:Heap),(K w.params).In h->h.Ns mainGlobals mg->mg d.name=some (.ref fa) ->
   ∃fd:FuncData,(∀(s:Shared) (u:Value),BindsTo s fd ⟨[u],[]⟩ [(x,u)]) /\
    ∀base:Heap,(K w.params).In base->base.Ns mainGlobals mg->p4 l.prog w (K w.params) mg base (CX w) k fa fd [x] (sp w))
  (hsp:∀(w:World) (H:Hp) (a:Addr) (ns:List Int),ns.length<=n->Ef H->SqL (K w.params) H a (ns.map V.int)->sp w [.ref a] H (fun v _=>v=.bl true) fun _ _ _=>False)
  (hCX:∀(w:World) (H:Hp) (s:Shared) (e:Value) (s':Shared),CX w [] H s (fun _ _ _=>False) e s'->False) :
  PySem.W.WalkO q loose XP YP l.row.toRowW d [] (fun f vs=>PySem.call f vs):=by
 refine Att.attach_call hn hdf fun w s₀ s₁ mg mb fa o pm cd doc a vs ns G Y ho hd hcd hmg hobj hints hlen hg=>?_;have KX:=hY w _ Y;obtain⟨fd,hb,hF⟩:=F w mg fa _ KX G.T.g hmg;exact yk KX G.T.g G.T.b G.T.builtins G.T.nolimit hg hobj hints (le_trans hlen hn2) hr hF hb (fun H hO hS=>hsp w H a ns hlen hO hS) fun H e s'=>hCX w H s₁ e s'
def Au(s:Stmt)(j:Nat):Stmt:=match s with
 | .ClassDef _ _ _ body _ _ _ _ _ _ _=>body.getD j (.Pass ⟨0,0,0,0⟩)
 | _=>.Pass ⟨0,0,0,0⟩
def dk(s:Stmt):Arguments:=match s with
 | .FunctionDef _ a _ _ _ _ _ _ _ _=>a
 | _=>{ posonlyargs:=[],args:=[],vararg:=none,kwonlyargs:=[],kw_defaults:=[],kwarg:=none,defaults:=[] }
def cD(s:Stmt):List Stmt:=match s with
 | .FunctionDef _ _ b _ _ _ _ _ _ _=>b
 | _=>[]
def ar(s:Stmt):Scope:=match s with
 | .FunctionDef _ _ _ _ _ _ sc _ _ _=>sc
 | _=>{ kind:=.function,names:=[],isGenerator:=false,isCoroutine:=false }
abbrev CX0:CXT:=fun _ _ _ _ _ _=>False
abbrev E0:XK:=fun _ _ _=>False
theorem Av{X:Cx}:p6 CX0 X E0:=fun _ _ _ _ _ _ _ h=>h.elim
structure Fun (K:PySem.W.Frag) (x qual:Str) (st:Stmt) (f:Addr) (fd:FuncData):Prop where
 ex:∃(oc:Value) (od:Option Addr) (kV doc pm:Value) (an:Option Addr) (cdv ct:Value) (osl:Array (Option Value)),
  fd=PySem.W.fnOf x qual (dk st) (cD st) (ar st) .none kV doc pm an cdv ct/\K.lookup f=some ⟨oc,od,.func fd,osl⟩/\PySem.W.codeIn K cdv qual=true
 kp:PySem.W.keepIn K (.ref f)=true
section
variable {P:Program}{w:World}{K:PySem.W.Frag}{mg:Str->Option Value}{base:Heap}
theorem Fun.ok{x qual:Str}{st:Stmt}{f:Addr}{fd:FuncData}{N ps:List Str}{k:Nat}{sp:Sp}(F:Fun K x qual st f fd)(S:aH N ps (ar st))(len:∀vs H Q E,sp vs H Q E->vs.length=ps.length)
  (hbody:∀(cdv:Value) (A:Around) (outer:List Env) (s:Shared) (H:Hp) (vs:List V) (Q:VK) (E:XK),iI k (A.deeper (envOfC qual (ar st) s.heap.objs.size f cdv))->sp vs H Q E ->
   ∃t,PSs (yg CX0 P w K mg base N qual (ar st) f cdv A outer s H E).nox (cD st) t/\t { nx:=fun _ H'=>Q .non H',rt:=Q } (start N vs) H):p4 P w K mg base CX0 (k+1) f fd ps sp:=by
 obtain⟨oc,od,kV,doc,pm,an,cdv,ct,osl,rfl,lk,hcd⟩:=F.ex;refine Ci lk hcd S len fun A outer s H vs Q E hr hsp=>?_;obtain⟨t,h,q⟩:=hbody cdv A outer s H vs Q E hr hsp;exact⟨t,h.nox,q⟩
theorem Fun.binds{x qual:Str}{st:Stmt}{f:Addr}{fd:FuncData}{ps:List Str}(F:Fun K x qual st f fd)
  (h:∀(kV doc pm:Value) (an:Option Addr) (cdv ct:Value) (us:List Value),us.length=ps.length->bindArgs (PySem.W.fnOf x qual (dk st) (cD st) (ar st) .none kV doc pm an cdv ct) ⟨us,[]⟩=pure (ps.zip us)):mD K fd ps []:=by
 obtain⟨oc,od,kV,doc,pm,an,cdv,ct,osl,rfl,lk,hcd⟩:=F.ex;exact .all (h kV doc pm an cdv ct)
theorem zq{x qual:Str}{st:Stmt}{f:Addr}{oc:Value}{od an:Option Addr}{osl:Array (Option Value)}{kV doc pm cdv ct:Value}(l:K.lookup f=some ⟨oc,od,.func (PySem.W.fnOf x qual (dk st) (cD st) (ar st) .none kV doc pm an cdv ct),osl⟩)
  (c:PySem.W.codeIn K cdv qual=true) (k:PySem.W.keepIn K (.ref f)=true):Fun K x qual st f (PySem.W.fnOf x qual (dk st) (cD st) (ar st) .none kV doc pm an cdv ct):=⟨⟨oc,od,kV,doc,pm,an,cdv,ct,osl,rfl,l,c⟩,k⟩
end
section
variable {X:Cx}
theorem pv(i:Nat){x:Str}{pos:Pos}(hN:X.N[i]?=some x:=by rfl)(hv:Vis X.env.scope x:=by first|exact Or.inl rfl|exact Or.inr (Or.inl rfl)|exact Or.inr (Or.inr rfl))(hd:(x == ("__debug__":Str))=false:=by decide)
  (hcd:(x == ("__classdict__":Str))=false:=by decide):PE X (.Name x pos) (bL i):=BY hN hv hd hcd
end
def S(l:List Nat):Str:=⟨l.toArray⟩
theorem gT(l:List Nat):(S l).length=l.length:=by simp [S,Str.length]
theorem Aw(a b:List Nat):S a++S b=S (a++b):=by
 show (⟨a.toArray++b.toArray⟩:Str)=⟨(a++b).toArray⟩
 rw [append_toArray]
theorem Cs{a b:List Nat}(h:S a=S b):a=b:=by
 have h':=congrArg (fun x:Str=>x.cps.toList) h;simpa [S] using h'
theorem FF{a b:List Nat}(h:a≠b):S a≠S b:=fun e=>h (Cs e)
theorem Ct{a b:List Nat}:V.str (S a)=V.str (S b) ↔ a=b:=⟨fun h=>Cs (V.str.inj h),fun h=>by rw [h]⟩
theorem Cu(a b:List Nat):decide (V.str (S a)=V.str (S b))=decide (a=b):=by
 by_cases h:a=b
 .rw [decide_eq_true h,decide_eq_true (Ct.mpr h)]
 .rw [decide_eq_false h,decide_eq_false (fun z=>h (Ct.mp z))]
def eR{α:Type}(xs:List α)(lo hi:Option Int):List α:=(xs.drop (HT.sIx xs.length 0 lo)).take (HT.sIx xs.length xs.length hi - HT.sIx xs.length 0 lo)
theorem bM{α:Type}(xs:List α)(lo hi:Option Int):(eR xs lo hi).length<=xs.length:=by
 unfold eR;rw [length_take,length_drop];omega
theorem vY(xs:List V)(lo hi:Option Int):Am xs lo hi=eR xs lo hi:=rfl
theorem Cv(lo hi:Option Int)(n:Nat):Builtin.Str.strSliceIndices lo hi 1 n=(List.range (HT.sIx n n hi - HT.sIx n 0 lo)).map (fun k=>HT.sIx n 0 lo+k):=by
 have key:∀(o:Option Int) (d:Nat),d<=n->(match o with|none=>(d:Int)|some i=>max 0 (min (if i<0 then i+(n:Int) else i) (n:Int)))=((HT.sIx n d o:Nat):Int):=by
  intro o d hd
  cases o with
  | none=>rfl
  | some i =>
   show max 0 (min (if i<0 then i+(n:Int) else i) (n:Int))=_;rw [<- HT.clip_eq i n d]
   by_cases h:i<0
   .rw [if_pos h,if_pos h];omega
   .rw [if_neg h,if_neg h];omega
 have k1:=key lo 0 (zero_le _);have k2:=key hi n (Nat.le_refl _);unfold Builtin.Str.strSliceIndices;simp only [show (1:Int) > 0 by decide,if_true];refine Eq.trans (congrArg (fun a=>sliceRange a _ 1) k1) (Eq.trans (congrArg (fun b=>sliceRange _ b 1) k2) ?_);unfold sliceRange;simp only [show (1:Int) > 0 by decide,if_true];generalize HT.sIx n 0 lo=a;generalize HT.sIx n n hi=b
 have ec:(if (a:Int)<(b:Int) then ((b:Int) - (a:Int)+1 - 1) / 1 else 0).toNat=b - a:=by
  split <;> omega
 rw [ec];apply map_congr_left;intro k _;omega
theorem vZ{α:Type}(l:List α)(a m:Nat):((List.range m).map (fun k=>a+k)).filterMap (fun i=>l[i]?)=(l.drop a).take m:=by
 induction m generalizing a with
 | zero=>simp
 | succ m ih =>
  rw [range_succ_eq_map,map_cons,map_map,filterMap_cons];have e:((fun k=>a+k) ∘ Nat.succ)=fun k=>(a+1)+k:=by funext k;simp;omega
  rw [e,ih (a+1)]
  cases h:l[a+0]? with
  | none =>
   have hl:l.length<=a:=by simpa using List.getElem?_eq_none_iff.mp h
   rw [drop_eq_nil_of_le hl,drop_eq_nil_of_le (by omega)];simp
  | some v =>
   have hl:a<l.length:=by simpa using (List.getElem?_eq_some_iff.mp h).1
   have hv:l[a]=v:=by simpa using (List.getElem?_eq_some_iff.mp h).2
   rw [drop_eq_getElem_cons hl,hv];rfl
theorem Ax(l:List Nat)(lo hi:Option Int):Txt.slice (S l) lo hi=S (eR l lo hi):=by
 have e1:(Builtin.Str.strSliceIndices lo hi 1 (S l).length).filterMap ((S l).cps[·]?)=eR l lo hi:=by
  rw [Cv,gT];have e:(fun i:Nat=>(S l).cps[i]?)=fun i:Nat=>l[i]?:=by funext i;simp [S]
  rw [e];exact vZ l _ _
 unfold Txt.slice
 split
 .rename_i h;have h2:(Builtin.Str.strSliceIndices lo hi 1 (S l).length).length=(S l).length:=by simpa using h
  rw [Cv,gT,length_map,length_range] at h2;have a0:=HT.sIx_le l.length 0 (zero_le _) lo;have b0:=HT.sIx_le l.length l.length (Nat.le_refl _) hi;unfold eR
  by_cases hz:l.length=0
  .have:l=[]:=length_eq_zero_iff.mp hz;subst this;simp
  .have ha:HT.sIx l.length 0 lo=0:=by omega
   have hb:HT.sIx l.length l.length hi=l.length:=by omega
   rw [ha,hb];simp
 .rw [e1];rfl
theorem gY{α:Type}(l:List α)(k:Nat):eR l none (some (k:Int))=l.take k:=by
 unfold eR;rw [HT.sIx_nat];show (l.drop 0).take (min k l.length - 0)=l.take k;rw [drop_zero,Nat.sub_zero]
 by_cases h:k<=l.length
 .rw [min_eq_left h]
 .rw [min_eq_right (by omega),take_of_length_le (Nat.le_refl _),take_of_length_le (by omega)]
theorem lD{α:Type}(l:List α)(k:Nat):eR l (some (k:Int)) none=l.drop k:=by
 unfold eR;rw [HT.sIx_nat];show (l.drop (min k l.length)).take (l.length - min k l.length)=l.drop k
 by_cases h:k<=l.length
 .rw [min_eq_left h,take_of_length_le (by rw [length_drop];exact Nat.le_refl _)]
 .rw [min_eq_right (by omega),sub_self,take_zero,drop_eq_nil_of_le (by omega)]
theorem wb{α:Type}(l:List α)(i j:Nat):eR l (some (i:Int)) (some (j:Int))=(l.drop i).take (j - i):=by
 unfold eR;rw [HT.sIx_nat,HT.sIx_nat]
 by_cases h:i<=l.length
 .rw [min_eq_left h]
  by_cases h2:j<=l.length
  .rw [min_eq_left h2]
  .rw [min_eq_right (by omega),take_of_length_le (by rw [length_drop];omega),take_of_length_le (by rw [length_drop];omega)]
 .have e:min i l.length=l.length:=min_eq_right (by omega);rw [e,drop_eq_nil_of_le (Nat.le_refl _),drop_eq_nil_of_le (by omega),take_nil,take_nil]
section
variable {X:Cx}
def Fo:V->Option Int->Option Int->Hp->VK->Prop:=fun x lo hi H Q=>∃l,x=.str (S l)/\l.length<=sizeLine/\Q (.str (S (eR l lo hi))) H
theorem Cw:SlR X Fo:=by
 intro pins s σ H x v vl vu lo hi sl Q I rx hs pl pu h;obtain⟨l,rfl,hz,q⟩:=h;obtain⟨t,rfl⟩:=rx;refine⟨"str",_,slot_str_getitem.lookup,typeIs_str s _ t,?_⟩
 obtain⟨l',hl',el⟩:∃l':Option (Int×Tok),vl=partValue l'/\l'.map (·.1)=lo:=by
  cases pl with
  | none=>exact⟨none,rfl,rfl⟩
  | int i t=>exact⟨some (i,t),rfl,rfl⟩
 obtain⟨u',hu',eu⟩:∃l':Option (Int×Tok),vu=partValue l'/\l'.map (·.1)=hi:=by
  cases pu with
  | none=>exact⟨none,rfl,rfl⟩
  | int i t=>exact⟨some (i,t),rfl,rfl⟩
 subst hl' hu';refine wpAny_getItem_str_slice (l:=l') (u:=u') (st:=none) hs rfl ?_;have hm:∀t' k,EP X pins σ Q (.str (Txt.slice (S l) lo hi) t') { s with toks:=k }:=fun t' k=>⟨.str (S (eR l lo hi)),H,I.tok _,⟨t',by rw [Ax]⟩,q⟩
 have hlen:(Txt.slice (S l) lo hi).length<=sizeLine:=le_trans (Txt.slice_le _ _ _) (by rw [gT];exact hz);subst el eu;exact post_val_or_str ⟨hlen,hm⟩
def pW{α:Type}(l:List α)(n:Int):List α:=(List.replicate n.toNat l).flatten
theorem wc(k:Nat)(l acc:List Nat):(List.replicate k l.toArray).foldl (·++·) acc.toArray=(acc++(List.replicate k l).flatten).toArray:=by
 induction k generalizing acc with
 | zero=>simp
 | succ k ih =>
  rw [replicate_succ,foldl_cons,append_toArray,ih (acc++l),replicate_succ,flatten_cons,append_assoc]
theorem Eg(l:List Nat)(n:Int):Txt.mul (S l) n=S (pW l n):=by
 unfold Txt.mul pW
 by_cases h:n<1
 .rw [if_pos h];have:n.toNat=0:=by omega
  rw [this];rfl
 .rw [if_neg h]
  split
  .rename_i h2;rw [gT] at h2;simp only [or_eq_true,beq_iff_eq] at h2
   rcases h2 with h2|h2
   .subst h2;simp [S]
   .have:l=[]:=length_eq_zero_iff.mp h2;subst this;simp [S]
  .have e:=wc n.toNat l [];show (⟨_⟩:Str)=_
   have e':(List.replicate n.toNat (S l).cps).foldl (·++·) #[]=((List.replicate n.toNat l).flatten).toArray:=by
    simpa [S] using e
   rw [e'];rfl
theorem fV{α:Type}(l:List α)(n:Int):(pW l n).length=n.toNat*l.length:=by
 unfold pW;rw [length_flatten,map_replicate,sum_replicate_nat]
theorem uC:OpR X (binaryOp .Mult) (fun x y H Q=>∃l n,x=.str (S l)/\y=.int n/\-1000000<=n/\n<=1000000/\n.toNat*l.length<=sizeLine/\Q (.str (S (pW l n))) H):=by
 intro pins s σ H x y v u Q I rx ry h;obtain⟨l,n,rfl,rfl,h1,h2,hz,q⟩:=h;obtain⟨t,rfl⟩:=rx;obtain⟨t',rfl⟩:=ry;have hs:sizeLine=16777216:=sizeLine_eq;have hz':n.toNat*l.length<=16777216:=by rw [<- hs];exact hz
 refine SB.mul ⟨?_,fun hn hc=>?_,fun hn hc=>?_⟩ fun t' k=>⟨.str (S (pW l n)),H,I.tok _,⟨t',by rw [Eg]⟩,q⟩
 .rw [decide_eq_false (by omega),decide_eq_false (by omega)];rfl
 .rw [gT];intro hgt
  have hl:l.length<=16777216:=by
   have:1*l.length<=n.toNat*l.length:=mul_le_mul_right _ (by omega);omega
  have hdiv:(2^63 - 1:Int) / 1000000<=(2^63 - 1) / n:=by
   apply le_ediv_of_mul_le (by omega);have:=mul_le_mul_of_nonneg_left h2 (show (0:Int)<=(2^63 - 1) / 1000000 by decide);have e2:((2^63 - 1:Int) / 1000000)*1000000<=2^63 - 1:=by decide
   omega
  have e3:(2^63 - 1:Int) / 1000000=9223372036854:=by decide
  omega
 .rw [gT];have:l.length*n.toNat<=16777216:=by rw [Nat.mul_comm];exact hz'
  exact decide_eq_false (by omega)
theorem wd:OpR X (compareOp .LtE) (fun x y H Q=>∃i j,x=.str i/\y=.str j/\Q (.bl (!decide (j.cps.toList<i.cps.toList))) H):=by
 intro pins s σ H x y v u Q I rx ry h;obtain⟨i,j,rfl,rfl,q⟩:=h;obtain⟨t,rfl⟩:=rx;obtain⟨t',rfl⟩:=ry;exact PySem.P.le_str ⟨.bl _,H,I,rfl,q⟩
end
def Its(xs:List V):It:=⟨fun i _=>i<xs.length,fun i H x H'=>H'=H/\xs[i]?=some x,fun i _=>xs.length=i⟩
theorem wf{M:Model}{A:Around}{E:Value->Shared->Prop}{s:Shared}{tg:Expr}{it:Addr}{u:Value}{Q:Unit->Shared->Prop}(hu:∀a,u≠.ref a)(hQ:Q () s):wpAny M A (letOwnedTupleGo tg (.ref it) u) Q E s:=by
 unfold letOwnedTupleGo
 cases tg <;> first
  | exact wpAny_pure hQ
  | (cases u <;> first
    | exact wpAny_pure hQ
    | exact absurd rfl (hu _))
theorem lE{P:Program}{w:World}{K:PySem.W.Frag}{tg:Expr}{it:Addr}{xs:List V}{n:Nat}{Pt:Nat->Value->Prop}{St:Nat->Heap->Prop}
  (W:∀A:Around,A.handled=none->Walks P w A it [it] [it] n Pt St) (hn:xs.length=n)
  (hv:∀i v,i<n->Pt i v->∃x,xs[i]?=some x/\dw x v) (hsc:∀i v,Pt i v->∀a,v≠.ref a)
  (hobj:∀i h,St i h->∃o,h.get? it=some o/\∀v,o.data≠.cell v)
  (hfr:∀i h h',St i h->(∀b∈[it],∀o,h.get? b=some o->h'.get? b=some o)->St i h')
  (hself:∀(A:Around) (i:Nat) (s:Shared) (Q:Value->Shared->Prop) (E:Value->Shared->Prop),St i s.heap->Q (.ref it) s->wpAny (model P w) A (pyIter (.ref it)) Q E s) :
  zl P w K tg (Its xs) [it] it St where
 mem:=by simp
 obj:=fun i h st b hb=>by
  have e:b=it:=by simpa using hb
  subst e;exact hobj i h st
 keep:=fun i h h' st k=>hfr i h h' st k
 item:=by
  intro X hP hw hK hc i pins s σ H E I hf st hg;subst hP hw hK;obtain⟨f0,f1,f2,f3,f4,f5⟩:=hf it (by simp);refine (W X.A (I.ok.hd hc)).item i s _ _ (by rw [<- hn];exact hg) st fun v h' tk hp st' kk=>?_;obtain⟨x,hx,rx⟩:=hv i v (by rw [<- hn];exact hg) hp;have I1:Inv X pins σ H { s with heap:=h',toks:=tk }:=I.turned (fun b o hb e=>kk b o (by simpa using hb) e) f0 f1 f3 f4 f5;exact⟨v,rfl,wf (s:={ s with heap:=h',toks:=tk }) (hsc i v hp) ⟨x,H,I1,rx,⟨rfl,hx⟩,st',fun b hb=>(hf b hb).1⟩⟩
 done:=by
  intro X hP hw hK hc i pins s σ H E I hf st hg;subst hP hw hK;obtain⟨f0,f1,f2,f3,f4,f5⟩:=hf it (by simp);have e:n=i:=hn.symm.trans hg;subst e;exact (W X.A (I.ok.hd hc)).done s _ _ st fun h' tk kk=>⟨rfl,I.turned (fun b o hb e=>kk b o (by simpa using hb) e) f0 f1 f3 f4 f5⟩
 self:=hself
section
variable {X:Cx}{tg:Expr}
def cY(l:List Nat):List V:=l.map fun c=>V.str (S [c])
theorem fK{l:List Nat}{i:Nat}{x:V}(h:(cY l)[i]?=some x):∃c,l[i]?=some c/\x=.str (S [c]):=by
 unfold cY at h;rw [getElem?_map] at h
 cases e:l[i]? with
 | none=>rw [e] at h;cases h
 | some c=>rw [e] at h;exact⟨c,rfl,(Option.some.inj h).symm⟩
theorem c8(l:List Nat):(cY l).length=l.length:=length_map _
def og(i:Int)(n:Nat):List V:=(List.range n).map fun (k:Nat)=>V.int (i - k)
theorem lF(i:Int)(n:Nat):(og i n).length=n:=by simp [og]
theorem wg{i:Int}{n k:Nat}{x:V}(h:(og i n)[k]?=some x):k<n/\x=.int (i - k):=by
 unfold og at h;rw [getElem?_map] at h
 by_cases hk:k<n
 .rw [getElem?_range hk] at h;exact⟨hk,(Option.some.inj h).symm⟩
 .rw [getElem?_eq_none (by simp;omega)] at h;cases h
def Cy(ta:TA):TI:=fun σ H R=>ta σ H fun vs H1=>∃i j:Int,vs=[.int i,.int j,.int (-1)]/\(-(2^60)<=i/\i<2^60/\-(2^60)<=j/\j<2^60)/\R (Its (og i (i - j).toNat)) H1
theorem iJ(i j:Int):Builtin.Range.rangeSize i j (-1)=(((i - j).toNat:Nat):Int):=by
 unfold Builtin.Range.rangeSize;rw [if_neg (by decide)];simp only [neg_neg,ediv_one];split <;> omega
theorem qi{a b c:Expr}{ta:TA}{p pos:Pos}(hg:Gl X "range")(hm:X.mg "range"=none)(ha:PA X [a,b,c] ta)
  (hs:starEach [a,b,c] X.env=[(false,eval a X.env),(false,eval b X.env),(false,eval c X.env)]:=by rfl) (hs2:starEach [b,c] X.env=[(false,eval b X.env),(false,eval c X.env)]:=by rfl) :
  PI X tg (.Call (.Name "range" p) [a,b,c] [] pos) (Cy ta):=by
 intro pins s σ H R I h;refine Call_ (kn I hg hm boot_range (PyProof.Rows.callWith_type1 (thn (ha pos pins s σ H _ I h) fun us s1 ⟨vs,H1,I1,r1,q1⟩=>?_) (by rw [hs,hs2]) (by rw [hs2];rfl)));obtain⟨i,j,e,⟨q1,q2,q3,q4⟩,q⟩:=q1;subst e
 cases r1 with
 | cons r rr =>
  cases rr with
  | cons r' rr =>
   cases rr with
   | cons r'' rr =>
    cases rr;obtain⟨t,rfl⟩:=r;obtain⟨t',rfl⟩:=r';obtain⟨t'',rfl⟩:=r'';refine call_range_3 (by decide) ?_ (.inl (PyProof.noPylong_small (by decide)))
    refine wpAny_pyIter_range (IsRange.new ..) ?_ ?_
    .unfold Builtin.Range.small;rw [iJ];simp only [Builtin.Range.rangeFitsLong,and_eq_true,or_eq_true,decide_eq_true_eq,beq_iff_eq,show ¬ (-1:Int) > 0 by decide,if_false];omega
    have I2:Inv X pins σ H1 { s1 with heap:=s1.heap.push { cls:=.type "range",data:=.fields #[.int i t,.int j t',.int (-1) t''] },toks:=s1.toks }:=I1.kept fun b o e=>Heap.get?_push_of_some _ e
    refine⟨_,[(s1.heap.push { cls:=.type "range",data:=.fields #[.int i t,.int j t',.int (-1) t''] }).objs.size],_,Its (og i (i - j).toNat),H1,rfl,I2.kept (t':=s1.toks) fun b o e=>Heap.get?_push_of_some _ e,
     lE (fun A hA=>Walks.range hA _ i (-1) (i - j).toNat) (lF _ _) ?_ ?_ ?_ ?_ (fun A i s Q E st q=>wpAny_pyIter_rangeiter st q),?_,fun b hb=>?_,q⟩
    .rintro k v hk ⟨t,rfl⟩
     refine⟨.int (i - k),?_,t,?_⟩
     .unfold og;rw [getElem?_map,getElem?_range hk];rfl
     .have e:i+(k:Int)*(-1)=i - k:=by omega
      rw [e]
    .rintro k v ⟨t,rfl⟩ a z;cases z
    .exact fun k h st=>⟨_,st,fun v z=>by
      have z':Data.fields _=Data.cell v:=z;cases z'⟩
    .exact fun k h h' st kk=>kk _ (by simp) _ st
    .show IsRangeIter _ _ (i+((0:Nat):Int)*(-1)) ((((i - j).toNat:Nat):Int) - ((0:Nat):Int)) (-1);rw [<- iJ];simp only [natCast_zero,zero_mul,add_zero,Int.sub_zero];exact Heap.get?_push_size _ rfl
    .have e:b=(s1.heap.push { cls:=.type "range",data:=.fields #[.int i t,.int j t',.int (-1) t''] }).objs.size:=by simpa using hb
     subst e;exact I2.fpOk (Nat.le_refl _) (I2.hok.fresh (Nat.le_refl _))
end
section
variable {X:Cx}
theorem rL:cC X (.builtin "isinstance") (fun xs H Q=>∃x n t b,xs=[x,.ty n]/\pV X.K H x t/\PySem.W.kitOne X.K t (.type n)=some b/\Q (.bl b) H):=by
 intro pins s σ H xs us Q I r h;obtain⟨x,n,t,b,rfl,ty,e,q⟩:=h;obtain⟨u,w',rfl,rx,ry⟩:=yb r;cases (show w'=Value.type n from ry);exact vM I rx ty e fun tk=>⟨.bl b,H,I.tok _,rfl,q⟩
mutual
inductive DV (K:PySem.W.Frag) (H:Hp):V->PyData->Prop
 | non:DV K H .non .none
 | bl (b:Bool):DV K H (.bl b) (.bool b)
 | int (i:Int):DV K H (.int i) (.int i)
 | str (x:Str):DV K H (.str x) (.str x)
 | lst {a:Addr}{xs:List V}{ds:List PyData}:SqL K H a xs->DVs K H xs ds->DV K H (.ref a) (.list ds)
 | tup {a:Addr}{xs:List V}{ds:List PyData}:SqT K H a xs->DVs K H xs ds->DV K H (.ref a) (.tuple ds)
inductive DVs (K:PySem.W.Frag) (H:Hp):List V->List PyData->Prop
 | nil:DVs K H [] []
 | cons {x:V}{d:PyData}{xs:List V}{ds:List PyData}:DV K H x d->DVs K H xs ds->DVs K H (x::xs) (d::ds)
end
mutual
theorem DV.reads{pins:List (Addr×Obj)}{σ:St}{H:Hp}{s:Shared}(I:Inv X pins σ H s):∀{x:V}{d:PyData}{u:Value},DV X.K H x d->dw x u->∃as,Reads s.heap u d as
 | _,_,u,.non,r=>by cases (show u=Value.none from r);exact⟨_,.none⟩
 | _,_,u,.bl b,r=>by cases (show u=Value.bool b from r);exact⟨_,.bool b⟩
 | _,_,u,.int i,r=>by obtain⟨t,e⟩:=(show ∃t,u=Value.int i t from r);subst e;exact⟨_,.int i t⟩
 | _,_,u,.str x,r=>by obtain⟨t,e⟩:=(show ∃t,u=Value.str x t from r);subst e;exact⟨_,.str x t⟩
 | _,_,u,.lst (a:=a) hq hs,r=>by
  cases (show u=Value.ref a from r);obtain⟨its,rv,pl,_⟩:=I.list hq;obtain⟨o,ho,hc,n,hd⟩:=pl.isList;obtain⟨as,ra⟩:=DVs.reads I hs rv;exact⟨_,.list ho hc hd ra⟩
 | _,_,u,.tup (a:=a) hq hs,r=>by
  cases (show u=Value.ref a from r);obtain⟨its,rv,pl,_⟩:=I.tuple hq;obtain⟨o,ho,hc,n,hd⟩:=pl;obtain⟨as,ra⟩:=DVs.reads I hs rv;exact⟨_,.tuple ho hc hd ra⟩
theorem DVs.reads{pins:List (Addr×Obj)}{σ:St}{H:Hp}{s:Shared}(I:Inv X pins σ H s):∀{xs:List V}{ds:List PyData}{us:List Value},DVs X.K H xs ds->cG xs us->∃as,ReadsAll s.heap us ds as
 | _,_,_,.nil,.nil=>⟨_,.nil⟩
 | _,_,_,.cons h hs,.cons r rs=>by
  obtain⟨as,ra⟩:=DV.reads I h r;obtain⟨bs,rb⟩:=DVs.reads I hs rs;exact⟨_,.cons ra rb⟩
end
def Eh(K:PySem.W.Frag)(neg:Bool):R2:=fun x y H Q=>∃da db,DV K H x da/\DV K H y db/\SeqAt.shaped da=true/\SeqAt.shaped db=true/\Q (.bl (if neg then !PyData.eqv da db else PyData.eqv da db)) H
theorem Cz(hu:X.A.units+64<cLine):OpR X (compareOp .Eq) (Eh X.K false):=by
 intro pins s σ H x y v u Q I rx ry h;obtain⟨da,db,ha,hb,sa,sb,q⟩:=h;obtain⟨as,ra⟩:=DV.reads I ha rx;obtain⟨bs,rb⟩:=DV.reads I hb ry;exact eq_dataH ra rb sa sb hu ⟨.bl _,H,I,rfl,q⟩
theorem CA(hu:X.A.units+64<cLine):OpR X (compareOp .NotEq) (Eh X.K true):=by
 intro pins s σ H x y v u Q I rx ry h;obtain⟨da,db,ha,hb,sa,sb,q⟩:=h;obtain⟨as,ra⟩:=DV.reads I ha rx;obtain⟨bs,rb⟩:=DV.reads I hb ry;exact ne_dataH ra rb sa sb hu ⟨.bl _,H,I,rfl,q⟩
theorem DVs.ints{K:PySem.W.Frag}{H:Hp}:∀ns:List Int,DVs K H (ns.map V.int) (ns.map PyData.int)
 | []=>.nil
 | n::ns=>.cons (.int n) (DVs.ints ns)
theorem lG:∀ns ms:List Int,PyData.eqvAll (ns.map PyData.int) (ms.map PyData.int)=decide (ns=ms)
 | [],[]=>by simp [PyData.eqvAll]
 | [],_::_=>by simp [PyData.eqvAll]
 | _::_,[]=>by simp [PyData.eqvAll]
 | a::r,b::t=>by
  simp only [map_cons,PyData.eqvAll,PyData.eqv,lG r t]
  by_cases h:a=b <;> by_cases h':r=t <;> simp [h,h']
theorem rM:MtR X "str.endswith" (fun x xs H Q=>∃a b,x=.str (S a)/\xs=[.str (S b)]/\Q (.bl (decide (b <:+ a))) H):=by
 intro pins s σ H x xs v us Q I rx rs h;obtain⟨a,b,rfl,rfl,q⟩:=h;obtain⟨t,rfl⟩:=rx;obtain⟨u,rfl,t',rfl⟩:=jm rs
 have e:Txt.endswith (S a) (S b)=decide (b <:+ a):=by
  unfold Txt.endswith Builtin.Str.subAt;rw [gT,gT]
  have e1:((S a).cps.extract (a.length - b.length) (a.length - b.length+b.length))=((a.drop (a.length - b.length)).take b.length).toArray:=by
   show a.toArray.extract _ _=_;rw [extract_toArray,extract_eq_take_drop];have e2:a.length - b.length+b.length - (a.length - b.length)=b.length:=by omega
   rw [e2]
  rw [e1]
  by_cases h:b <:+ a
  .rw [decide_eq_true h];have hl:=h.length_le;have hd:a.drop (a.length - b.length)=b:=(suffix_iff_eq_drop.mp h).symm;rw [hd];simp [S,hl]
  .rw [decide_eq_false h]
   by_cases hl:b.length<=a.length
   .have hne:¬ (a.drop (a.length - b.length)).take b.length=b:=fun z=>h (by
     rw [take_of_length_le (by rw [length_drop];omega)] at z;exact suffix_iff_eq_drop.mpr z.symm)
    simp only [and_eq_false_imp];intro _;show (((a.drop (a.length - b.length)).take b.length).toArray == b.toArray)=false;rw [beq_eq_false_iff_ne];intro z;exact hne (by simpa using congrArg Array.toList z)
   .rw [decide_eq_false (by omega)];rfl
 exact SC.endswith ⟨.bl _,H,I,rfl,by rw [e];exact q⟩
end
section
variable {X:Cx}{a b:Expr}{ta tb:TE}{pos:Pos}
theorem du{x:Str}{l:List Nat}{j:Nat}(h:x=S l):PE X (.Constant (.str x) j pos) (tC (.str (S l))):=by
 subst h;exact BZ
theorem wj:cC X (.builtin "len") (fun xs H Q=>∃l,xs=[.str (S l)]/\l.length<=sizeLine/\Q (.int l.length) H):=by
 intro pins s σ H xs us Q I r h;obtain⟨l,rfl,hz,q⟩:=h;exact qd pins s σ H _ us Q I r ⟨S l,rfl,by rw [gT];exact hz,by rw [gT];exact q⟩
def CB:R2:=fun x y H Q=>∃l i c,x=.str (S l)/\y=.int i/\l.length<=sizeLine/\atI l i=some c/\Q (.str (S [c])) H
theorem Ay:IxR X CB:=by
 intro value slice pins s σ H x y v u Q I rx ry q hs;obtain⟨l,i,c,rfl,rfl,hz,ha,q⟩:=q;exact Co value slice pins s σ H _ _ v u Q I rx ry ⟨S l,i,c,rfl,rfl,by rw [gT];exact hz,ha,q⟩ hs
theorem Az:OpR X (binaryOp .Add) (fun x y H Q=>∃i j,x=.str (S i)/\y=.str (S j)/\i.length+j.length<=sizeLine/\Q (.str (S (i++j))) H):=by
 intro pins s σ H x y v u Q I rx ry h;obtain⟨i,j,rfl,rfl,hz,q⟩:=h;exact uq pins s σ H _ _ v u Q I rx ry ⟨S i,S j,rfl,rfl,by rw [gT,gT];exact hz,by rw [Aw];exact q⟩
theorem CC:OpR X (compareOp .Eq) (fun x y H Q=>∃i j,x=.str (S i)/\y=.str (S j)/\Q (.bl (decide (i=j))) H):=by
 intro pins s σ H x y v u Q I rx ry h;obtain⟨i,j,rfl,rfl,q⟩:=h;exact D7 pins s σ H _ _ v u Q I rx ry ⟨rfl,by rw [Cu];exact q⟩
theorem CD:OpR X (compareOp .NotEq) (fun x y H Q=>∃i j,x=.str (S i)/\y=.str (S j)/\Q (.bl (!decide (i=j))) H):=by
 intro pins s σ H x y v u Q I rx ry h;obtain⟨i,j,rfl,rfl,q⟩:=h;exact D8 pins s σ H _ _ v u Q I rx ry ⟨rfl,by rw [Cu];exact q⟩
theorem CF:OpR X (compareOp .Eq) (rI0 fun i j=>.bl (decide (i=j))):=BC fun _ _ _ _ _ _ _ q=>eq_int (by rw [beq_eq_decide_eq];exact q)
theorem CG:OpR X (compareOp .NotEq) (rI0 fun i j=>.bl (!decide (i=j))):=BC fun _ _ _ _ _ _ _ q=>ne_int (by rw [bne,beq_eq_decide_eq];exact q)
theorem wl:cC X (.builtin "len") (fun xs H Q=>∃p ys,xs=[.ref p]/\SqL X.K H p ys/\Q (.int ys.length) H):=by
 intro pins s σ H xs us Q I r h;obtain⟨p,ys,e,hq,q⟩:=h;exact ko pins s σ H xs us Q I r ⟨p,ys,e,.inl hq,q⟩
theorem wm:cC X (.builtin "len") (fun xs H Q=>∃p ys,xs=[.ref p]/\SqT X.K H p ys/\Q (.int ys.length) H):=by
 intro pins s σ H xs us Q I r h;obtain⟨p,ys,e,hq,q⟩:=h;exact ko pins s σ H xs us Q I r ⟨p,ys,e,.inr hq,q⟩
end
structure Cal (P:Program) (w:World) (K:PySem.W.Frag) (mg:Str->Option Value) (base:Heap) (k:Nat) (x:Str) (ps:List Str) (sp:Sp):Prop where
 ex:∃(f:Addr) (fd:FuncData),p4 P w K mg base CX0 k f fd ps sp/\mD K fd ps []/\PySem.W.keepIn K (.ref f)=true/\mg x=some (.ref f)/\∃oc od osl,K.lookup f=some ⟨oc,od,.func fd,osl⟩
structure bY (K:PySem.W.Frag) (mg:Str->Option Value) (x:Str) (st:Stmt):Prop where
 ex:∃(f:Addr) (fd:FuncData),Fun K x x st f fd/\mg x=some (.ref f)
section
variable {P:Program}{w:World}{K:PySem.W.Frag}{mg:Str->Option Value}{base:Heap}{x:Str}{st:Stmt}{N ps:List Str}{k:Nat}{sp:Sp}
theorem bY.ok(D:bY K mg x st)(S:aH N ps (ar st))
  (hb:∀(kV doc pm:Value) (an:Option Addr) (cdv ct:Value) (us:List Value),us.length=ps.length->bindArgs (PySem.W.fnOf x x (dk st) (cD st) (ar st) .none kV doc pm an cdv ct) ⟨us,[]⟩=pure (ps.zip us))
  (len:∀vs H Q E,sp vs H Q E->vs.length=ps.length)
  (hbody:∀(f:Addr) (cdv:Value) (A:Around) (outer:List Env) (s:Shared) (H:Hp) (vs:List V) (Q:VK) (E:XK),iI k (A.deeper (envOfC x (ar st) s.heap.objs.size f cdv))->sp vs H Q E ->
   ∃t,PSs (yg CX0 P w K mg base N x (ar st) f cdv A outer s H E).nox (cD st) t/\t { nx:=fun _ H'=>Q .non H',rt:=Q } (start N vs) H):Cal P w K mg base (k+1) x ps sp:=by
 obtain⟨f,fd,F,hm⟩:=D.ex
 have lk:∃oc od osl,K.lookup f=some ⟨oc,od,.func fd,osl⟩:=by
  obtain⟨oc,od,kV,doc,pm,an,cdv,ct,osl,rfl,lk,hcd⟩:=F.ex;exact⟨oc,od,osl,lk⟩
 exact⟨f,fd,F.ok S len fun cdv A outer s H vs Q E hr h=>hbody f cdv A outer s H vs Q E hr h,F.binds hb,F.kp,hm,lk⟩
theorem bY.mk'{K:PySem.W.Frag}{h:Heap}{mg:Str->Option Value}{x:Str}{st:Stmt}{f:Addr}{oc:Value}{od an:Option Addr}{osl:Array (Option Value)}{kV doc pm cdv ct:Value}(X:K.In h)(G:h.Ns mainGlobals mg)
  (a:PySem.W.nsIn K mainGlobals x=some (some (.ref f))) (l:K.lookup f=some ⟨oc,od,.func (PySem.W.fnOf x x (dk st) (cD st) (ar st) .none kV doc pm an cdv ct),osl⟩)
  (c:PySem.W.codeIn K cdv x=true) (k:PySem.W.keepIn K (.ref f)=true):bY K mg x st:=⟨f,_,zq (st:=st) l c k,PySem.W.mg_of X G a⟩
end
section
variable {X:Cx}{k:Nat}{x:Str}{ps:List Str}{sp:Sp}{p pos:Pos}{e:Expr}{es:List Expr}{t:TA}
theorem CH(C:Cal X.prog X.w X.K X.mg X.base k x ps sp)(hr:iI k X.A)(ha:PA X (e::es) t)(hg:Gl X x:=by rfl)(hdb:(x == ("__debug__":Str))=false:=by decide)(he:starEach (e::es) X.env=(false,eval e X.env)::starEach es X.env:=by rfl)
  (hpl:(backTo pos (starEach es X.env)).any (·.1)=false:=by rfl):PE X (.Call (.Name x p) (e::es) [] pos) (fc sp [] E0 t):=by
 obtain⟨f,fd,F,hb,hk,hm,_⟩:=C.ex;exact vN F hr hg hm hk hb .nil Av ha hdb he hpl
end
def uD(K:PySem.W.Frag):Sp:=fun vs H Q _=>∃(a:Addr) (ns:List Int),vs=[.ref a]/\SqL K H a (ns.map V.int)/\ns.length<=63/\∀H',Q (.bl true) H'
theorem CI{P:Program}{w:World}{K:PySem.W.Frag}{mg:Str->Option Value}{fa:Addr}{st:Stmt}{k:Nat}{x:Str}(hfa:mg "law"=some (.ref fa))(D:bY K mg "law" st)
  (hbind:∀(kV doc pm:Value) (an:Option Addr) (cdv ct:Value) (s:Shared) (v:Value),BindsTo s (PySem.W.fnOf "law" "law" (dk st) (cD st) (ar st) .none kV doc pm an cdv ct) ⟨[v],[]⟩ [(x,v)])
  (h:∀base:Heap,Cal P w K mg base k "law" [x] (uD K)) :
  ∃fd:FuncData,(∀(s:Shared) (v:Value),BindsTo s fd ⟨[v],[]⟩ [(x,v)])/\∀base:Heap,K.In base->base.Ns mainGlobals mg->p4 P w K mg base CX0 k fa fd [x] (uD K):=by
 obtain⟨f,fd,F,hm⟩:=D.ex;have e:=hfa.symm.trans hm;cases e;obtain⟨oc,od,kV,doc,pm,an,cdv,ct,osl,rfl,lk,hcd⟩:=F.ex;refine⟨_,fun s v=>hbind kV doc pm an cdv ct s v,fun base kb nb=>?_⟩;obtain⟨f',fd',F',_,_,hm',oc',od',osl',lk'⟩:=(h base).ex;have e:=hfa.symm.trans hm';cases e;rw [lk] at lk';cases lk';exact F'
theorem CJ{l:PySem.W.OpenLaw}{q:Program}{loose:List Str}{XP:(Str->Option Value)->Heap->Prop}{YP:World->Heap->Prop}{d:DefRec}{K:Params->PySem.W.Frag}{k:Nat}{x:Str}(hn:l.most=some 63)(hdf:d.params.defaults=[])(hr:iI k callerA)
  (hY:∀(w:World) (h:Heap),YP w h->(K w.params).In h)
  (F:∀(w:World) (mg:Str->Option Value) (fa:Addr) (h:Heap),(K w.params).In h->h.Ns mainGlobals mg->mg d.name=some (.ref fa) ->
   ∃fd:FuncData,(∀(s:Shared) (u:Value),BindsTo s fd ⟨[u],[]⟩ [(x,u)])/\∀base:Heap,(K w.params).In base->base.Ns mainGlobals mg->p4 l.prog w (K w.params) mg base CX0 k fa fd [x] (uD (K w.params))) :
  PySem.W.WalkO q loose XP YP l.row.toRowW d [] (fun f vs=>PySem.call f vs) :=
 At (n:=63) (k:=k) (x:=x) (CX:=fun _=>CX0) (sp:=fun w=>uD (K w.params)) hn (by decide) hdf hr hY F (fun _ _ a ns hl _ hS=>⟨a,ns,rfl,hS,hl,fun _=>rfl⟩) fun _ _ _ _ _ z=>z
theorem AA{α β:Type}{f:α->β}{xs:List α}{i:Int}{v:α}(h:atI xs i=some v):atI (xs.map f) i=some (f v):=by
 unfold atI at h ⊢;rw [length_map]
 cases e:ixN xs.length i with
 | none=>rw [e] at h;cases h
 | some j =>
  rw [e] at h;show (xs.map f)[j]?=some (f v);have h':xs[j]?=some v:=h;rw [getElem?_map,h'];rfl
theorem fL{α:Type}{xs:List α}{i:Int}{j:Nat}{v:α}(h:xs[j]?=some v)(e:i=(j:Int)):atI xs i=some v:=by subst e;exact Ao h
theorem sz(n:Nat)(h:n<=1000000):n<=sizeLine:=by rw [sizeLine_eq];omega
theorem yl{ns:List Int}{i:Nat}{x:V}(h:(ns.map V.int)[i]?=some x):∃z,ns[i]?=some z/\x=.int z:=by
 rw [getElem?_map] at h
 cases e:ns[i]? with
 | none=>rw [e] at h;cases h
 | some z=>rw [e] at h;exact⟨z,rfl,(Option.some.inj h).symm⟩
section
variable {X:Cx}{st:Stmt}{t:TS}
def CK(t:TS):TS:=fun D σ H=>∃J:St->Hp->Prop,t { D with nx:=J } σ H/\∀σ' H',J σ' H'->D.nx σ' H'
theorem fW(h:PS X st t):PS X st (CK t):=by
 intro pins s σ H D I q;obtain⟨J,q1,q2⟩:=q;refine thn (h pins s σ H _ I q1) fun f s' r=>?_
 cases f with
 | next=>obtain⟨σ',H',I',r'⟩:=r;exact⟨σ',H',I',q2 σ' H' r'⟩
 | brk=>exact r
 | cont=>exact r
 | ret u=>exact r
end
theorem ym{α β:Type}(f:α->β)(xs:List α)(lo hi:Option Int):eR (xs.map f) lo hi=(eR xs lo hi).map f:=by
 unfold eR;rw [length_map,map_take,map_drop]
theorem yn{α:Type}(l:List α){k:Int}(h:0<=k):eR l none (some k)=l.take k.toNat:=by
 have e:k=((k.toNat:Nat):Int):=by omega
 rw [e,gY];rfl
theorem eW{x:Str}{c:Addr}:∀(names:List (Str×NameKind)) (n:Nat) (acc:List (Str×Addr)),(cellsFrom n names acc).lookup x=some c->(n<=c/\(x,NameKind.cell)∈names)\/acc.lookup x=some c
 | [],n,acc,h=>.inr h
 | (y,k)::r,n,acc,h=>by
  unfold cellsFrom at h
  split at h
  .rename_i hk;have hk':k=.cell:=by simpa using hk
   subst hk'
   rcases eW r (n+1) ((y,n)::acc) h with ⟨h1,h2⟩|h1
   .exact .inl ⟨by omega,mem_cons_of_mem _ h2⟩
   .rw [lookup_cons] at h1
    cases e:x == y with
    | true =>
     rw [e] at h1;have:n=c:=Option.some.inj h1;have ex:x=y:=by simpa using e
     subst ex;exact .inl ⟨by omega,mem_cons_self⟩
    | false=>rw [e] at h1;exact .inr h1
  .rcases eW r n acc h with ⟨h1,h2⟩|h1
   .exact .inl ⟨h1,mem_cons_of_mem _ h2⟩
   .exact .inr h1
theorem fX{x:Str}:∀(names:List (Str×NameKind)) (n:Nat) (acc:List (Str×Addr)),(x,NameKind.cell)∉names->(cellsFrom n names acc).lookup x=acc.lookup x
 | [],_,_,_=>rfl
 | (y,k)::r,n,acc,h=>by
  unfold cellsFrom
  split
  .rename_i hk;have hk':k=.cell:=by simpa using hk
   subst hk';rw [fX r (n+1) _ (fun z=>h (mem_cons_of_mem _ z)),lookup_cons]
   have:(x == y)=false:=by
    rw [beq_eq_false_iff_ne];intro e;subst e;exact h mem_cons_self
   rw [this]
  .exact fX r n acc (fun z=>h (mem_cons_of_mem _ z))
theorem fY{x y:Str}{c:Addr}:∀(names:List (Str×NameKind)) (n:Nat) (acc:List (Str×Addr)),(∀z d,acc.lookup z=some d->d<n) ->
  (cellsFrom n names acc).lookup x=some c->(cellsFrom n names acc).lookup y=some c->n<=c->x=y
 | [],n,acc,ha,h1,h2,hc=>absurd (ha x c h1) (not_lt.mpr hc)
 | (z,k)::r,n,acc,ha,h1,h2,hc=>by
  unfold cellsFrom at h1 h2
  split at h1
  .rename_i hk;rw [if_pos hk] at h2
   have ha':∀w d,((z,n)::acc).lookup w=some d->d<n+1:=fun w d e=>by
    rw [lookup_cons] at e
    cases q:w == z with
    | true=>rw [q] at e;cases e;exact lt_succ_self _
    | false=>rw [q] at e;exact lt_succ_of_lt (ha w d e)
   by_cases hcn:n+1<=c
   .exact fY r (n+1) _ ha' h1 h2 hcn
   .have e:c=n:=le_antisymm (not_lt.mp hcn) hc;subst e
    have key:∀w:Str,(cellsFrom (c+1) r ((z,c)::acc)).lookup w=some c->w=z:=fun w hw=>by
     rcases eW r (c+1) _ hw with ⟨q,_⟩|q
     .exact absurd q (not_succ_le_self _)
     .rw [lookup_cons] at q
      cases q2:w == z with
      | true=>simpa using q2
      | false=>rw [q2] at q;exact absurd (ha w c q) (Nat.lt_irrefl _)
    rw [key x h1,key y h2]
  .rename_i hk;rw [if_neg hk] at h2;exact fY r n acc ha h1 h2 hc
def iX(env:Env):List (Str×NameKind)->List (Str×Addr)->List (Str×Addr)
 | [],acc=>acc
 | (n,k)::r,acc=>if (k == .free)=true then iX env r ((n,(env.cells.lookup n).getD 0)::acc) else iX env r acc
theorem fZ{env:Env}{x:Str}{c:Addr}:∀(names:List (Str×NameKind)) (acc:List (Str×Addr)),(iX env names acc).lookup x=some c->((x,NameKind.free)∈names/\c=(env.cells.lookup x).getD 0)\/acc.lookup x=some c
 | [],acc,h=>.inr h
 | (y,k)::r,acc,h=>by
  unfold iX at h
  split at h
  .rename_i hk;have hk':k=.free:=by simpa using hk
   subst hk'
   rcases fZ r _ h with ⟨h1,h2⟩|h1
   .exact .inl ⟨mem_cons_of_mem _ h1,h2⟩
   .rw [lookup_cons] at h1
    cases e:x == y with
    | true =>
     rw [e] at h1;have ex:x=y:=by simpa using e
     subst ex;exact .inl ⟨mem_cons_self,(Option.some.inj h1).symm⟩
    | false=>rw [e] at h1;exact .inr h1
  .rcases fZ r acc h with ⟨h1,h2⟩|h1
   .exact .inl ⟨mem_cons_of_mem _ h1,h2⟩
   .exact .inr h1
theorem jo{env:Env}{x:Str}:∀(names:List (Str×NameKind)) (acc:List (Str×Addr)),((x,NameKind.free)∈names\/(acc.lookup x).isSome=true)->((iX env names acc).lookup x).isSome=true
 | [],acc,h=>h.elim (fun z=>nomatch z) id
 | (y,k)::r,acc,h=>by
  unfold iX
  split
  .rename_i hk;refine jo r _ ?_
   by_cases e:(x == y)=true
   .exact .inr (by rw [lookup_cons,e];rfl)
   .rcases h with h|h
    .rcases mem_cons.mp h with z|z
     .cases z;exact absurd (by simp) e
     .exact .inl z
    .exact .inr (by rw [lookup_cons];rw [not_eq_true] at e;rw [e];exact h)
  .rename_i hk;refine jo r acc ?_
   rcases h with h|h
   .rcases mem_cons.mp h with z|z
    .cases z;exact absurd rfl hk
    .exact .inl z
   .exact .inr h
theorem gL{scope:Scope}{env:Env}(h:∀x∈scope.names,x.2=.free->∃c,env.cells.lookup x.1=some c):closureFor scope env=pure (iX env scope.names []):=by
 unfold closureFor
 have key:∀(names:List (Str×NameKind)) (acc:List (Str×Addr)),(∀x∈names,x.2=.free->∃c,env.cells.lookup x.1=some c) ->
   (forIn names acc fun (x:Str×NameKind) (r:List (Str×Addr))=>(if (x.2 == NameKind.free)=true then do let y <- cellOf env x.1;pure (ForInStep.yield ((x.1,y)::r)) else pure (ForInStep.yield r):Sem _))=pure (iX env names acc):=by
  intro names
  induction names with
  | nil=>intro acc _;rfl
  | cons p r ih =>
   intro acc hp;obtain⟨n,k⟩:=p;rw [forIn_cons];have hr:∀x∈r,x.2=.free->∃c,env.cells.lookup x.1=some c:=fun x hx=>hp x (mem_cons_of_mem _ hx);unfold iX
   by_cases hk:(k == NameKind.free)=true
   .obtain⟨c,hc⟩:=hp (n,k) mem_cons_self (by simpa using hk);have hc':env.cells.lookup n=some c:=hc;have e1:cellOf env n=pure c:=by unfold cellOf;rw [hc']
    simp only [hk,if_true];rw [e1,hc'];simp only [pure_bind];exact ih _ hr
   .rw [if_neg hk,if_neg hk];simp only [pure_bind];exact ih _ hr
 have e:=key scope.names [] h;have e2:∀(m:Sem (List (Str×Addr))),(m >>= fun r=>pure r)=m:=fun m=>bind_pure m;rw [<- e]
 first
  | rfl
  | exact (e2 _)
def oh(scope:Scope)(C:Addr)(env:Env):Env :=
 { scope:=relabel scope env,locals:=C,globals:=env.globals,cells:=cellsFrom (C+1) scope.names (iX env scope.names []),qual:=env.qual,func:=none,code:=env.code,frame:=env.frame,builtins:=env.builtins }
def bp(X:Cx)(N':List Str)(scope:Scope)(s:Shared)(H:Hp)(fp:List Addr)(pins:List (Addr×Obj)):Cx :=
 { X with N:=N',s₀:=s,H₀:=H,env:=oh scope s.heap.objs.size X.env,outer:=X.stack,stack:=X.stack,ex:=fp,fn:=fun x=>decide ((x,NameKind.cell)∈scope.names),pn:=X.pn++pins,xe:=fun _ _=>False }
def lH(sc0:Scope)(N:List Str)(scope:Scope)(N':List Str)(ix:List (Option Nat)):Bool :=
 decide (scope.kind=.function) && scope.names.all (fun y=>(!decide (y.2=.local) || decide (scope.names.lookup y.1=some .local)) &&
  (!decide (y.2=.free) || ((decide (sc0.names.lookup y.1=some .cell) || decide (sc0.names.lookup y.1=some .free)) && !decide ((y.1,NameKind.cell)∈scope.names)))) &&
 decide (N'.length=ix.length) && (N'.zip ix).all (fun p=>match p.2 with|none=>true|some j=>decide (N[j]?=some p.1) && decide (scope.names.lookup p.1=some .free))
structure tw (env:Env) (N:List Str) (scope:Scope) (N':List Str) (ix:List (Option Nat)):Prop where
 kind:scope.kind=.function
 loc:∀y∈scope.names,y.2=.local->scope.names.lookup y.1=some .local
 free:∀y∈scope.names,y.2=.free->(env.kindOf y.1=some .cell\/env.kindOf y.1=some .free)/\(y.1,NameKind.cell)∉scope.names
 len:N'.length=ix.length
 slot:∀(i:Nat) (x:Str) (j:Nat),N'[i]?=some x->ix[i]?=some (some j)->N[j]?=some x/\scope.names.lookup x=some .free
theorem lI{env:Env}{N:List Str}{scope:Scope}{N':List Str}{ix:List (Option Nat)}(h:lH env.scope N scope N' ix=true):tw env N scope N' ix:=by
 unfold lH at h;simp only [and_eq_true,decide_eq_true_eq,all_eq_true] at h;obtain⟨⟨⟨h1,h2⟩,h3⟩,h4⟩:=h
 refine⟨h1,fun y hy e=>?_,fun y hy e=>?_,h3,fun i x j e1 e2=>?_⟩
 .have:=(h2 y hy).1;rw [e] at this;simpa using this
 .have:=(h2 y hy).2;rw [e] at this;simpa [Env.kindOf] using this
 .have hm:(x,some j)∈N'.zip ix:=by
   refine mem_of_getElem? (i:=i) ?_;rw [getElem?_zip_eq_some];exact⟨e1,e2⟩
  have:=h4 _ hm;simpa using this
def rlf(env:Env)(p:Str×NameKind):Str×NameKind:=match p with|(n,k)=>if (k == NameKind.free && env.scope.kind == .function && env.kindOf n == some .cell) then (n,.cell) else (n,k)
theorem wn(env:Env)(n:Str)(k:NameKind):∃k',rlf env (n,k)=(n,k')/\(k'=k\/(k=.free/\k'=.cell)):=by
 unfold rlf
 by_cases c:(k == NameKind.free && env.scope.kind == .function && env.kindOf n == some .cell)=true
 .refine⟨.cell,if_pos c,.inr ⟨?_,rfl⟩⟩;simp only [and_eq_true,beq_iff_eq] at c;exact c.1.1
 .exact⟨k,if_neg c,.inl rfl⟩
theorem tz{env:Env}:∀{names:List (Str×NameKind)}{x:Str},names.lookup x=some .free->(names.map (rlf env)).lookup x=some .cell\/(names.map (rlf env)).lookup x=some .free
 | [],_,h=>by simp at h
 | (n,k)::r,x,h=>by
  have ih:=@tz env r x;obtain⟨k',e,hk'⟩:=wn env n k;rw [map_cons,e]
  cases hx:x == n with
  | true =>
   simp only [lookup_cons,hx] at h ⊢;have hk:k=.free:=Option.some.inj h
   rcases hk' with z|z
   .right;rw [z,hk]
   .left;rw [z.2]
  | false =>
   simp only [lookup_cons,hx] at h ⊢;exact ih h
theorem oi{env:Env}:∀{names:List (Str×NameKind)}{x:Str}{k':NameKind},(names.map (rlf env)).lookup x=some k'->k'=.cell\/k'=.free->names.lookup x=some .cell\/names.lookup x=some .free
 | [],_,_,h,_=>by simp at h
 | (n,k)::r,x,k',h,hk'=>by
  have ih:=@oi env r x k';obtain⟨k2,e,hk2⟩:=wn env n k;rw [map_cons,e] at h
  cases hx:x == n with
  | true =>
   simp only [lookup_cons,hx] at h ⊢;have:k2=k':=Option.some.inj h;subst this
   rcases hk2 with z|z
   .rw [<- z]
    rcases hk' with q|q
    .left;rw [q]
    .right;rw [q]
   .right;rw [z.1]
  | false =>
   simp only [lookup_cons,hx] at h ⊢;exact ih h hk'
theorem qj{x:Str}{c:Addr}:∀(names:List (Str×NameKind)) (n:Nat) (acc:List (Str×Addr)),(cellsFrom n names acc).lookup x=some c->(x,c)∈cellsFrom n names []\/acc.lookup x=some c:=by
 have app:∀(names:List (Str×NameKind)) (n:Nat) (acc:List (Str×Addr)),cellsFrom n names acc=cellsFrom n names []++acc:=by
  intro names
  induction names with
  | nil=>intro n acc;rfl
  | cons p r ih =>
   intro n acc;obtain⟨y,k⟩:=p;unfold cellsFrom
   split
   .rw [ih (n+1) ((y,n)::acc),ih (n+1) [(y,n)],append_assoc];rfl
   .exact ih n acc
 intro names n acc h;rw [app] at h;rw [lookup_append] at h
 cases e:(cellsFrom n names []).lookup x with
 | some d =>
  rw [e] at h;have:d=c:=by simpa using h
  subst this;exact .inl (mem_of_lookup e)
 | none=>rw [e] at h;exact .inr (by simpa using h)
def qk(ix:List (Option Nat))(σ:St):St:=ix.map fun o=>match o with
 | none=>none
 | some j=>match σ[j]? with
  | some v=>v
  | none=>none
section
variable {X:Cx}{pins:List (Addr×Obj)}{σ:St}{H:Hp}{s:Shared}
theorem tD{N':List Str}{ix:List (Option Nat)}{scope:Scope}{fp:List Addr}(ok:tw X.env X.N scope N' ix)(I:Inv X pins σ H s)(hf:∀b∈fp,rE X pins H b)(hfl:∀b∈fp,b<s.heap.objs.size) :
  Inv (bp X N' scope s H fp pins) [] (qk ix σ) H { s with heap:=pushCells (s.heap.push { cls:=.type "dict",data:=.dict #[] }) scope.names }:=by
 have hk4:∀b o,s.heap.get? b=some o->(pushCells (s.heap.push { cls:=.type "dict",data:=.dict #[] }) scope.names).get? b=some o:=fun b o e=>pushCells_keeps _ _ b o (Heap.get?_push_of_some _ e)
 have hclo:∀x c,(iX X.env scope.names []).lookup x=some c->X.env.cells.lookup x=some c:=fun x c e=>by
  rcases fZ scope.names [] e with ⟨h1,h2⟩|h1
  .obtain⟨d,hd⟩:=I.ok.has x (ok.free _ h1 rfl).1;rw [hd] at h2 ⊢;rw [h2];rfl
  .cases h1
 have hcl:∀x c,X.env.cells.lookup x=some c->c<s.heap.objs.size:=fun x c e=>by
  obtain⟨v,q⟩:=I.cell x c e;exact q.lt
 have own:=cellsFrom_ok scope.names (s.heap.push { cls:=.type "dict",data:=.dict #[] }) (s.heap.objs.size+1) [] ⟨fun _ _ hm=>(nomatch hm),List.Pairwise.nil⟩ (by rw [Heap.size_push];exact Nat.le_refl _);rw [Heap.size_push] at own
 have cases:∀x c,(cellsFrom (s.heap.objs.size+1) scope.names (iX X.env scope.names [])).lookup x=some c ->
   ((pushCells (s.heap.push { cls:=.type "dict",data:=.dict #[] }) scope.names).IsCell c none/\s.heap.objs.size+1<=c)\/X.env.cells.lookup x=some c:=fun x c e=>by
  rcases qj _ _ _ e with h|h
  .exact .inl (own.empty x c h)
  .exact .inr (hclo x c h)
 have fs':∀b,b∈frs X.stack->b<s.heap.objs.size:=fun b hb=>by
  rcases mem_cons.mp (I.stkSub b hb) with z|z
  .rw [z];exact I.lt
  .by_cases q:b<s.heap.objs.size
   .exact q
   .exact absurd z (I.nofs (not_lt.mp q))
 have cix:(bp X N' scope s H fp pins).Ok:=by
  refine⟨I.ok.mod,ok.kind,I.ok.glob,I.ok.blt,Nat.le_refl _,fun x y c h1 h2=>?_,fun x hx=>?_,fun x c hx e=>?_,I.ok.hd,I.ok.frames,.inl rfl,fun b hb=>⟨ne_of_lt (hfl b hb),fun x c e=>?_⟩,fun b o e=>I.bs b o e,le_trans I.ok.bsz I.sz,fun b o e hb=>?_,fun b hb=>?_,I.stack,I.stkFree⟩
  .rcases cases x c h1 with ⟨_,z⟩|z
   .exact fY scope.names _ _ (fun w d e=>lt_succ_of_lt (hcl w d (hclo w d e))) h1 h2 z
   .rcases cases y c h2 with ⟨_,z2⟩|z2
    .exact absurd (hcl x c z) (not_lt.mpr (le_of_succ_le z2))
    .exact I.ok.inj x y c z z2
  .have hx':scope.names.lookup x=some .cell\/scope.names.lookup x=some .free:=by
    rcases hx with z|z
    .exact oi (env:=X.env) z (.inl rfl)
    .exact oi (env:=X.env) z (.inr rfl)
   rcases hx' with z|z
   .exact Option.isSome_iff_exists.mp (PySem.W.cellsFrom_some scope.names _ _ (.inl z))
   .exact Option.isSome_iff_exists.mp (PySem.W.cellsFrom_some scope.names _ _ (.inr (jo _ _ (.inl (mem_of_lookup z)))))
  .have hx':(x,NameKind.cell)∈scope.names:=of_decide_eq_true hx
   rcases cases x c e with ⟨_,z⟩|z
   .exact le_of_succ_le z
   .rcases qj _ _ _ e with h|h
    .exact le_of_succ_le (own.empty x c h).2
    .rcases fZ scope.names [] h with ⟨h1,_⟩|h1
     .exact absurd hx' (ok.free _ h1 rfl).2
     .cases h1
  .intro z
   rcases cases x c e with ⟨_,z2⟩|z2
   .rw [z] at z2;exact absurd (hfl b hb) (not_lt.mpr (le_of_succ_le z2))
   .exact (hf b hb).2.2.2.2.1 x c z2 z
  .rcases (hf b hb).2.2.2.1 with z|z
   .exact I.ok.noex b o e z
   .exact absurd (Heap.lt_size (I.ok.bs b o e).1) (not_lt.mpr z)
  .intro z
   rcases mem_cons.mp (I.stkSub b z) with q|q
   .exact (hf b hb).2.1 q
   .exact (hf b hb).2.2.1 q
 refine⟨cix,rfl,I.bare,Un.kept hk4,⟨fun _=>none,?_,fun i x v e1 e2 e3=>?_⟩,fun x c e=>?_,I.hok.fresh (Nat.le_refl _),fun x c e=>?_,fun p hp=>?_,I.hok.kept hk4,?_⟩
 .exact (Heap.Ns.new s.heap (.type "dict")).keeps (pushCells_keeps _ _)
 .have e2':∃j,ix[i]?=some (some j)/\σ[j]?=some (some v):=by
   unfold qk at e2;rw [getElem?_map] at e2
   cases q:ix[i]? with
   | none=>rw [q] at e2;cases e2
   | some o =>
    rw [q] at e2
    cases o with
    | none=>cases (Option.some.inj e2)
    | some j =>
     refine⟨j,rfl,?_⟩;have e2'':(match σ[j]? with|some v=>v|none=>none)=some v:=Option.some.inj e2
     cases r:σ[j]? with
     | none=>rw [r] at e2'';cases e2''
     | some w=>rw [r] at e2'';exact congrArg some e2''
  obtain⟨j,hj,hv⟩:=e2';obtain⟨hN,hfr⟩:=ok.slot i x j e1 hj;have hk:=(ok.free _ (mem_of_lookup hfr) rfl).1
  have hvis:Vis X.env.scope x:=by
   rcases hk with z|z
   .exact .inr (.inl z)
   .exact .inr (.inr z)
  obtain⟨m,hn,hl⟩:=I.loc;obtain⟨u,ru,lk⟩:=hl j x v hN hv hvis
  refine⟨u,ru,.inr ⟨?_,?_⟩⟩
  .exact tz (env:=X.env) hfr
  .rcases lk with ⟨z,_⟩|⟨_,c,hc,hcell⟩
   .rcases hk with q|q
    .rw [z] at q;cases q
    .rw [z] at q;cases q
   .refine⟨c,?_,hcell.keeps hk4⟩;show (cellsFrom (s.heap.objs.size+1) scope.names (iX X.env scope.names [])).lookup x=some c;rw [fX scope.names _ _ (ok.free _ (mem_of_lookup hfr) rfl).2];obtain⟨d,hd⟩:=Option.isSome_iff_exists.mp (jo (env:=X.env) scope.names [] (.inl (mem_of_lookup hfr)));rw [hd,<- hclo x d hd,hc]
 .rcases cases x c e with ⟨z,_⟩|z
  .exact⟨none,z⟩
  .obtain⟨v,q⟩:=I.cell x c z;exact⟨v,q.keeps hk4⟩
 .rcases cases x c e with ⟨_,z⟩|z
  .exact I.hok.fresh (le_of_succ_le z)
  .exact I.freeC x c z
 .have hp':p∈X.pn++pins:=by simpa [bp] using hp
  obtain⟨q1,q2,q3,q4,q5⟩:=I.pin p hp';refine⟨hk4 _ _ q1,q2,ne_of_lt (Heap.lt_size q1),fun z=>?_,q5⟩
  rcases mem_cons.mp (I.stkSub p.1 z) with q|q
  .exact q3 q
  .exact q4 q
 .unfold qk;rw [length_map];exact ok.len.symm
end
section
variable {M:Model}{A:Around}{E:Value->Shared->Prop}{s:Shared}
theorem eX{scope:Scope}{globals:Addr}{cl:List (Str×Addr)}{qual:Str}{func:Option Addr}{code:Value}{env:Env}{Q:Env->Shared->Prop}
  (hQ:Q { scope:=scope,locals:=s.heap.objs.size,globals:=globals,cells:=cellsFrom (s.heap.objs.size+1) scope.names cl,qual:=qual,func:=func,code:=env.code,frame:=env.frame,builtins:=env.builtins }
   { s with heap:=pushCells (s.heap.push { cls:=.type "dict",data:=.dict #[] }) scope.names }) :
  wpAny M A (newFunctionEnv scope globals cl [] qual func code (some env)) Q E s:=by
 simp only [newFunctionEnv,Option.isSome_some,if_true];refine wpAny_bind (wpAny_alloc ?_);refine wpAny_bind (wpAny_layCells _ (fun name kind cells=>by cases hkc:kind == NameKind.cell <;> simp [hkc]) _ _ _ _ ?_);rw [show ({ s with heap:=s.heap.push { cls:=.type "dict",data:=.dict #[] } }:Shared).heap.objs.size=s.heap.objs.size+1 from Heap.size_push ..];simp only [forIn_nil];exact wpAny_bind (wpAny_pure (wpAny_pure hQ))
end
section
variable {prog:Program}{w:World}{A:Around}{R:Result->Shared->Prop}{s:Shared}
theorem ql{elt target iter:Expr}{ifs:List Expr}{scope:Scope}{pos:Pos}{it acc:Value}{env:Env}(I:Nat->Shared->Prop)
  (turn:∀n s,I n s->wpAny (model prog w) A (pyNext it) (fun r s₁=>match r with
   | none=>R (.ok .next) s₁
   | some v=>wpAny (model prog w) A (letOwnedTupleGo target it v) (fun _ s₂=>wpAny (model prog w) A (assign target env v) (fun _ s₃ =>
     wpAny (model prog w) A (forIn ifs true fun c r=>if r=true then do let ok <- isTrue c env (eval c env);pure (ForInStep.yield ok) else pure (ForInStep.yield r)) (fun ok s₄ =>
      if ok=true then wpAny (model prog w) A (eval elt env) (fun x s₅ =>
       wpAny (model prog w) A (call (.builtin "list.append") [acc,x]) (fun _ s₆=>∃m,m<n/\I m s₆) (fun _ _=>False) s₅) (fun _ _=>False) s₄
      else ∃m,m<n/\I m s₄) (fun _ _=>False) s₃) (fun _ _=>False) s₂) (fun _ _=>False) s₁) (fun _ _=>False) s)
  (n:Nat) (h:I n s) :
  codeAny (model prog w) A (.compLoop (.ListComp elt [⟨target,iter,ifs,0⟩] scope pos) 0 it acc env) R s:=by
 refine codeAny_loop rfl I (fun n s hI=>?_) n h;show wpAny _ A ((compTurn (.ListComp elt [⟨target,iter,ifs,0⟩] scope pos) 0 it acc env).onRaise (fun x=>do noteFrame x env;theTreesLotGoes x)) _ _ s;refine wpAny_noted ?_;rw [compTurn_list];refine wpAny_bind (wpAny_standAt (wpAny_bind (wpAny_mono (turn n s hI) (fun r s₁ h₁=>?_) fun _ _ h'=>h'.elim)))
 cases r with
 | none=>exact wpAny_pure h₁
 | some v =>
  refine wpAny_bind (wpAny_mono h₁ (fun _ s₂ h₂=>?_) fun _ _ h'=>h'.elim);refine wpAny_bind (wpAny_mono h₂ (fun _ s₃ h₃=>wpAny_bind (wpAny_mono h₃ (fun ok s₄ h₄=>?_) fun _ _ h'=>h'.elim)) fun _ _ h'=>h'.elim)
  cases ok with
  | false=>exact wpAny_pure ⟨rfl,h₄⟩
  | true =>
   exact wpAny_bind (wpAny_bind (wpAny_mono h₄ (fun x s₅ h₅=>wpAny_bind (wpAny_mono h₅ (fun _ s₆ h₆=>wpAny_pure (wpAny_pure ⟨rfl,h₆⟩)) fun _ _ h'=>h'.elim)) fun _ _ h'=>h'.elim))
end
def PIf(X:Cx)(ifs:List Expr)(t:TT):Prop :=
 ∀(pins:List (Addr×Obj)) (s:Shared) (σ:St) (H:Hp) (Q:Bool->Hp->Prop),Inv X pins σ H s->t σ H Q ->
  wpAny (model X.prog X.w) X.A (forIn ifs true fun c r=>if r=true then do let ok <- isTrue c X.env (eval c X.env);pure (ForInStep.yield ok) else pure (ForInStep.yield r)) (TP X pins σ Q) X.xe s
def lf:TT:=fun _ H Q=>Q true H
section
variable {X:Cx}
theorem cE:PIf X [] lf:=fun _ _ _ H _ I h=>wpAny_tests_nil ⟨H,I,h⟩
theorem rN{c:Expr}{t:TT}(h:PT X c t):PIf X [c] t:=fun pins s σ H Q I q=>wpAny_tests_one (h pins s σ H Q I q)
end
def uE(ix:List (Option Nat))(wi:TI)(g:TG)(tts:TT)(te:TE):TE:=fun σ H Q=>wi σ H fun J H1=>∀D,H1 D=none->∃W:Nat->Nat->St->Hp->Prop,(∃m,W 0 m (qk ix σ) (upd H1 D (.lst [])))/\∀i m τ H2,W i m τ H2 ->
 (J.stop i H2/\Q (.ref D) H2)\/(J.go i H2/\∀x H3,J.yld i H2 x H3->g x τ H3 fun τ2 H4=>tts τ2 H4 fun ok H5=>if ok=true then te τ2 H5 fun v H6=>∃ys,H6 D=some (.lst ys)/\ys.length<sizeLine/\∃m',m'<m/\W (i+1) m' τ2 (upd H6 D (.lst (ys++[v])))
  else ∃m',m'<m/\W (i+1) m' τ2 H5)
section
variable {X:Cx}{tg iter elt:Expr}{ifs:List Expr}{scope:Scope}{N':List Str}{ix:List (Option Nat)}{wi:TI}{g:TG}{tts:TT}{te:TE}
theorem qm{use:Option (Value->Sem Unit)}{Qf:Value->Shared->Prop}{pos p':Pos}{pins:List (Addr×Obj)}{σ:St}{H:Hp}{s:Shared}{Q:VK}(hc:X.calm=true)(ok:tw X.env X.N scope N' ix)(hi:PI X tg iter wi)
  (blk:∀s H fp pn,PG (bp X N' scope s H fp pn) tg g/\PIf (bp X N' scope s H fp pn) ifs tts/\PE (bp X N' scope s H fp pn) elt te)
  (hs:∀x,foldedSetIterable iter X.env x=pure x) (I:Inv X pins σ H s) (hw:uE ix wi g tts te σ H Q)
  (fin:∀D C H' s',Inv X pins σ H' s'->Q (.ref D) H'->(∃m,s'.heap.Ns C m)->H' C=none->X.s₀.heap.objs.size<=C->C≠X.env.locals->(∀x c,X.env.cells.lookup x=some c->c≠C)->C∉X.fs->(∀p∈X.pn++pins,p.1≠C) ->
   compPost (model X.prog X.w) X.A X.xe use Qf (.ref D) C (.ok .next) s') :
  wpAny (model X.prog X.w) X.A (comprehension (.ListComp elt [⟨tg,iter,ifs,0⟩] scope pos) scope X.env p' (newList []) false (eval iter X.env) use) Qf X.xe s:=by
 have hclos:closureFor scope X.env=pure (iX X.env scope.names []):=gL fun y hy e=>I.ok.has y.1 (ok.free y hy e).1;refine wpAny_comprehension_free (use:=use) rfl hs hclos ok.kind ok.loc (thn (hi pins s σ H _ I hw) fun v s1 h1=>thn h1 fun itv s2 h2=>?_);obtain⟨it,fp,tn,J,H2,e,I2,T,st2,f2,hW⟩:=h2;subst e;obtain⟨W,⟨m0,w0⟩,turn⟩:=hW s2.heap.objs.size (I2.hok.fresh (Nat.le_refl _))
 have hfl:∀b∈fp,b<s2.heap.objs.size:=fun b hb=>by
  obtain⟨o,e,_⟩:=T.obj 0 _ st2 b hb;exact Heap.lt_size e
 refine wpAny_newObj_type ?_
 have I3:Inv X pins σ (upd H2 s2.heap.objs.size (.lst [])) { s2 with heap:=s2.heap.push { cls:=.type "list",dict:=none,data:=.seq ([]:List Value).toArray } } :=
  I2.laid (t':=s2.toks) (fun b o e=>Heap.get?_push_of_some _ e) (Nat.le_refl _) (show cJ X.prog X.w _ _ _ (.lst []) from ⟨zero_le _,[],0,.nil,Heap.get?_push_size _ rfl⟩)
 have st3:tn 0 (s2.heap.push { cls:=.type "list",dict:=none,data:=.seq ([]:List Value).toArray }):=T.keep 0 _ _ st2 fun b _ o e=>Heap.get?_push_of_some _ e;have f3:∀b∈fp,rE X pins (upd H2 s2.heap.objs.size (.lst [])) b:=fun b hb=>⟨by rw [aE (ne_of_lt (hfl b hb))];exact (f2 b hb).1,(f2 b hb).2⟩
 have hfl3:∀b∈fp,b<(s2.heap.push { cls:=.type "list",dict:=none,data:=.seq ([]:List Value).toArray }).objs.size:=fun b hb=>by rw [Heap.size_push];exact lt_succ_of_lt (hfl b hb)
 generalize hs3:({ s2 with heap:=s2.heap.push { cls:=.type "list",dict:=none,data:=.seq ([]:List Value).toArray } }:Shared)=s3 at I3 ⊢;have eh3:s3.heap=s2.heap.push { cls:=.type "list",dict:=none,data:=.seq ([]:List Value).toArray }:=by rw [<- hs3]
 rw [<- eh3] at st3 hfl3;generalize hH3:upd H2 s2.heap.objs.size (.lst [])=H3 at I3 f3 w0;generalize hD:s2.heap.objs.size=D at *;refine eX ?_;have I4:=tD ok I3 f3 hfl3;obtain⟨hg,ht,he⟩:=blk s3 H3 fp pins;have st4:tn 0 (pushCells (s3.heap.push { cls:=.type "dict",data:=.dict #[] }) scope.names):=T.keep 0 _ _ st3 fun b _ o e=>pushCells_keeps _ _ b o (Heap.get?_push_of_some _ e)
 have stat:∀{H':Hp},(∀b∈fp,H' b=none)->∀b∈fp,rE (bp X N' scope s3 H3 fp pins) [] H' b:=fun hn b hb=>by
  refine⟨hn b hb,ne_of_lt (hfl3 b hb),I4.ok.exfs b hb,.inl hb,(I4.ok.exf b hb).2,fun p hp=>?_⟩;have hp':p∈X.pn++pins:=by simpa [bp] using hp
  exact (f2 b hb).2.2.2.2.2 p hp'
 have loop:∀(s4:Shared),Inv (bp X N' scope s3 H3 fp pins) [] (qk ix σ) H3 s4->tn 0 s4.heap ->
   codeAny (model X.prog X.w) X.A (.compLoop (.ListComp elt [⟨tg,iter,ifs,0⟩] scope pos) 0 (.ref it) (.ref D) (oh scope s3.heap.objs.size X.env)) (compPost (model X.prog X.w) X.A X.xe use Qf (.ref D) s3.heap.objs.size) s4:=by
  intro s4 I4 st4;refine ql (fun n s'=>∃i τ H',Inv (bp X N' scope s3 H3 fp pins) [] τ H' s'/\tn i s'.heap/\(∀b∈fp,H' b=none)/\W i n τ H') ?_ m0 ⟨0,_,H3,I4,st4,fun b hb=>(f3 b hb).1,w0⟩;rintro n s5 ⟨i,τ,H5,I5,st5,fr5,w5⟩
  rcases turn i n τ H5 w5 with ⟨stop,qn⟩|⟨go,step⟩
  .refine thn (T.done (bp X N' scope s3 H3 fp pins) rfl rfl rfl hc i [] s5 τ H5 (fun _ _=>False) I5 (stat fr5) st5 stop) fun r s6 ⟨hr,I6⟩=>?_;subst hr;have I7:Inv X pins σ H5 s6:=I3.call' (ch:=fp) I6.os I6.base I6.hok I6.bare fun b hb=>⟨(f2 b hb).2.2.2.1,(f2 b hb).2.1,(f2 b hb).2.2.2.2.1,(f2 b hb).2.2.2.2.2⟩
   obtain⟨m6,hn6,_⟩:=I6.loc
   refine fin D s3.heap.objs.size H5 s6 I7 qn ⟨m6,hn6⟩ I6.free ?_ ?_ ?_ ?_ ?_
   .exact I3.sz
   .exact ne_of_gt I3.lt
   .intro x c e z;obtain⟨v,q⟩:=I3.cell x c e;have:=q.lt;rw [z] at this;exact Nat.lt_irrefl _ this
   .exact I3.nofs (Nat.le_refl _)
   .intro p hp z;have:=Heap.lt_size (I3.pin p hp).1;rw [z] at this;exact Nat.lt_irrefl _ this
  .refine thn (T.item (bp X N' scope s3 H3 fp pins) rfl rfl rfl hc i [] s5 τ H5 (fun _ _=>False) I5 (stat fr5) st5 go) fun r s6 ⟨u,hr,h6⟩=>?_;subst hr;refine thn h6 fun _ s7 ⟨x,H7,I7,r7,y7,st7,fr7⟩=>?_;have I7':=I7.pinned (stat fr7) (T.obj _ _ st7)
   have again:∀{s8:Shared}{τ8:St}{H8:Hp},Inv (bp X N' scope s3 H3 fp pins) ([]++lu fp s7.heap) τ8 H8 s8->(∃m',m'<n/\W (i+1) m' τ8 H8) ->
     ∃m,m<n/\∃i τ H',Inv (bp X N' scope s3 H3 fp pins) [] τ H' s8/\tn i s8.heap/\(∀b∈fp,H' b=none)/\W i m τ H':=fun {s8 τ8 H8} I8 ⟨m',hm,w8⟩=>by
    refine⟨m',hm,i+1,τ8,H8,I8.unpinned,T.keep _ _ _ st7 fun b hb o e=>(I8.pin (b,o) (mem_append_right _ (mem_append_right _ (dy hb e)))).1,fun b hb=>?_,w8⟩;obtain⟨o,e,d⟩:=T.obj _ _ st7 b hb;exact (I8.pin (b,o) (mem_append_right _ (mem_append_right _ (dy hb e)))).2.1
   refine thn (hg _ s7 τ H7 x u _ I7' r7 (step x H7 y7)) fun _ s8 ⟨τ8,H8,I8,q8⟩=>?_;refine thn (ht _ s8 τ8 H8 _ I8 q8) fun okb s9 ⟨H9,I9,q9⟩=>?_
   cases okb with
   | false =>
    rw [if_neg Bool.false_ne_true] at q9;rw [if_neg Bool.false_ne_true];exact again I9 q9
   | true =>
    rw [if_pos rfl] at q9;rw [if_pos rfl];refine thn (he _ s9 τ8 H9 _ I9 q9) fun v10 s10 ⟨x10,H10,I10,r10,q10⟩=>?_;obtain⟨ys,hD10,hz,m',hm,w10⟩:=q10;refine thn (gX (X:=bp X N' scope s3 H3 fp pins) _ s10 τ8 H10 (.ref D) [x10] (.ref D) [v10] (fun _ H'=>∃m',m'<n/\W (i+1) m' τ8 H') I10 rfl (.cons r10 .nil) ⟨D,ys,x10,rfl,rfl,hD10,hz,m',hm,w10⟩) fun _ s11 ⟨_,H11,I11,_,q11⟩=>?_;exact again I11 q11
 exact codeAny_compStart_list (loop _ I4 st4) (T.self X.A 0 _ _ _ st4 (loop _ I4 st4))
theorem cZ{pos:Pos}(N':List Str)(ix:List (Option Nat))(hc:X.calm=true)(hi:PI X tg iter wi)
  (blk:∀s H fp pn,PG (bp X N' scope s H fp pn) tg g/\PIf (bp X N' scope s H fp pn) ifs tts/\PE (bp X N' scope s H fp pn) elt te)
  (chk:lH X.env.scope X.N scope N' ix=true) (hs:∀x,foldedSetIterable iter X.env x=pure x:=by intro _;rfl) :
  PE X (.ListComp elt [⟨tg,iter,ifs,0⟩] scope pos) (uE ix wi g tts te):=by
 intro pins s σ H Q I hw;rw [eval_ListComp];refine qm (use:=none) hc (lI chk) hi blk hs I hw fun D C H' s' I' q hm hn h1 h2 h3 h4 h5=>?_;obtain⟨m,hm⟩:=hm;refine⟨m,hm,fun h' sb=>⟨.ref D,H',?_,rfl,q⟩⟩;exact I'.turned (t':=s'.toks) (fun b o hb e=>(sb.2 b hb).trans e) hn h2 (.inr h1) h3 h5
end
section
variable {X:Cx}{tg iter elt:Expr}{ifs:List Expr}{scope:Scope}{N':List Str}{ix:List (Option Nat)}{wi:TI}{g:TG}{tts:TT}{te:TE}
theorem oj{i:Nat}{x:Str}{pos pos' cpos:Pos}(N':List Str)(ix:List (Option Nat))(hN:X.N.Nodup)(hi:X.N[i]?=some x)(hx:Loc X.env.scope x)(hc:X.calm=true)(hit:PI X tg iter wi)
  (blk:∀s H fp pn,PG (bp X N' scope s H fp pn) tg g/\PIf (bp X N' scope s H fp pn) ifs tts/\PE (bp X N' scope s H fp pn) elt te)
  (chk:lH X.env.scope X.N scope N' ix=true) (hsw:swapsWith (.ListComp elt [⟨tg,iter,ifs,0⟩] scope cpos) (some (.Name x pos')) pos.line X.env=pure true:=by rfl)
  (hs:∀x,foldedSetIterable iter X.env x=pure x:=by intro _;rfl) (hf:X.fn x=true\/X.env.scope.names.lookup x=some .local:=by first|exact .inl rfl|exact .inr rfl|assumption) :
  PS X (.Assign [.Name x pos'] (.ListComp elt [⟨tg,iter,ifs,0⟩] scope cpos) pos) (x6 (uE ix wi g tts te) (cT i)):=by
 intro pins s σ H D I hw;rw [exec_Assign_Name_used _ _ _ _ hsw];refine wpAny_bind (wpAny_standAt (wpAny_bind ?_));show wpAny _ X.A (do let _ <- comprehension (.ListComp elt [⟨tg,iter,ifs,0⟩] scope cpos) scope X.env _ (newList []) false (eval iter X.env) (some (assign (.Name x pos') X.env))) _ _ s;refine wpAny_bind (thn (qm (use:=some (assign (.Name x pos') X.env)) (Qf:=fun _ s'=>SP X pins D .next s') hc (lI chk) hit blk hs I hw fun D' C H' s' I' q hm hn h1 h2 h3 h4 h5=>?_) fun _ s' q=>wpAny_pure (wpAny_pure q))
 obtain⟨m,oC,es,ep,hoC,hdC,hrC⟩:=hm
 have Ip:Inv X (pins++[(C,oC)]) σ H' s':=I'.pins_of fun p hp=>(mem_append.mp hp).elim (fun z=>I'.pin p (mem_append_right _ z)) fun z=>by
  have e:p=(C,oC):=by simpa using z
  subst e;exact⟨hoC,hn,h2,h4,fun v z=>by rw [hdC] at z;cases z⟩
 refine wpAny_assign_Name (lc (v:=.ref D') Ip hN hi hx rfl (fun s2 I2=>?_) hf);have hC2:s2.heap.get? C=some oC:=(I2.pin (C,oC) (by simp)).1;have I2':Inv X pins (σ.set i (some (.ref D'))) H' s2:=I2.pins_of fun p hp=>I2.pin p (mem_append_right _ (mem_append_left _ hp));refine⟨m,⟨oC,es,ep,hC2,hdC,hrC⟩,fun h' sb=>⟨_,H',?_,q⟩⟩;exact I2'.turned (t':=s2.toks) (fun b o hb e=>(sb.2 b hb).trans e) hn h2 (.inr h1) h3 h5
end
def zr(p:Addr)(a b c:Int):HO:=.ext fun h=>∃t u v,IsRange h p a b c t u v
def rO(a c:Int)(n:Nat):List V:=(List.range n).map fun (k:Nat)=>V.int (a+k*c)
theorem uF{a c:Int}{n:Nat}{acc:Array Value}(h:ItemsOf (fun i v=>∃t,v=.int (a+i*c) t) acc n):cG (rO a c n) acc.toList:=by
 obtain⟨hn,hi⟩:=h
 have key:∀(m:Nat) (us:List Value) (f:Nat->Int),us.length=m->(∀i u,us[i]?=some u->∃t,u=Value.int (f i) t)->cG ((List.range m).map fun k=>V.int (f k)) us:=by
  intro m
  induction m with
  | zero=>intro us f hl _;rw [length_eq_zero_iff] at hl;subst hl;exact .nil
  | succ m ih =>
   intro us f hl hu
   cases us with
   | nil=>simp at hl
   | cons u r =>
    rw [range_succ_eq_map,map_cons,map_map];refine .cons (hu 0 u rfl) (ih r (fun k=>f (k+1)) (by simpa using hl) fun i v e=>hu (i+1) v (by simpa using e))
 refine key n acc.toList (fun k=>a+k*c) (by simpa using hn) fun i u e=>?_;exact hi i u (by simpa using e)
theorem wo(a c:Int)(n:Nat):(rO a c n).length=n:=by simp [rO]
section
variable {X:Cx}
theorem yo{pins:List (Addr×Obj)}{σ:St}{H:Hp}{s:Shared}{a b c:Int}{t u v:Tok}{tk:Nat}(I:Inv X pins σ H s) :
  Inv X pins σ (upd H s.heap.objs.size (zr s.heap.objs.size a b c)) { s with heap:=s.heap.push { cls:=.type "range",data:=.fields #[.int a t,.int b u,.int c v] },toks:=tk }:=by
 refine I.laid (fun b o e=>Heap.get?_push_of_some _ e) (Nat.le_refl _) ⟨⟨t,u,v,IsRange.new ..⟩,⟨_,Heap.get?_push_size _ rfl⟩,fun h1 h2 ⟨t,u,v,z⟩ k=>⟨t,u,v,k _ z⟩⟩
theorem wq{a:Expr}{ta:TA}{p pos:Pos}(hg:Gl X "range")(hm:X.mg "range"=none)(ha:PA X [a] ta)(hs:starEach [a] X.env=[(false,eval a X.env)]:=by rfl) :
  PE X (.Call (.Name "range" p) [a] [] pos) (fun σ H Q=>ta σ H fun vs H1=>∃j:Int,vs=[.int j]/\∀p,H1 p=none->Q (.ref p) (upd H1 p (zr p 0 j 1))):=by
 intro pins s σ H Q I h;refine Call_ (kn I hg hm boot_range (PyProof.Rows.callWith_type1 (thn (ha pos pins s σ H _ I h) fun us s1 ⟨vs,H1,I1,r1,q1⟩=>?_) hs rfl));obtain⟨j,e,q⟩:=q1;subst e
 cases r1 with
 | cons r rr =>
  cases rr;obtain⟨t,rfl⟩:=r;exact call_range_1 ⟨.ref s1.heap.objs.size,_,yo I1,rfl,q _ (I1.hok.fresh (Nat.le_refl _))⟩
def Ei(K:PySem.W.Frag)(mk:List V->HO):List V->Hp->VK->Prop:=fun xs H Q=>∃p a b c n,xs=[.ref p]/\H p=some (zr p a b c)/\Builtin.Range.small a b c=true/\Builtin.Range.rangeSize a b c=((n:Nat):Int)/\n<=1000000/\∀l,H l=none->Q (.ref l) (upd H l (mk (rO a c n)))
theorem uG(hc:X.calm=true):cC X (.type "list") (Ei X.K .lst):=by
 intro pins s σ H xs us Q I r h;obtain⟨p,a,b,c,n,rfl,hp,hsm,hsz,hn,q⟩:=h;obtain⟨u,rfl,rx⟩:=jm r;cases rx;obtain⟨⟨t,u,v,hr⟩,_,_⟩:=(show cJ X.prog X.w H s.heap p (zr p a b c) from I.hok p _ hp)
 have hs:sizeLine=16777216:=sizeLine_eq;refine call_list_range (I.ok.hd hc) hr hsm hsz (by omega) fun h' tk acc c' hk e hacc=>?_;exact⟨.ref s.heap.objs.size,_,I.laid (t':=tk) hk (Nat.le_refl _) (show cJ X.prog X.w _ h' _ (.lst (rO a c n)) from ⟨by rw [wo];omega,acc.toList,c',uF hacc,by simpa using e⟩),rfl,q _ (I.hok.fresh (Nat.le_refl _))⟩
end
def fE(k:Bool)(h:Heap)(a:Addr)(its:Array Value):Prop:=∃o,h.get? a=some o/\o.cls=.type (cond k "tuple" "list")/\∃n,o.data=.seq its n
def dn(k:Bool)(h:Heap)(it a:Addr)(i:Nat):Prop:=∃o,h.get? it=some o/\o.cls=.type (cond k "tuple_iterator" "list_iterator")/\o.data=.fields #[.ref a,.int i 0]
theorem fE.mv{k:Bool}{h h':Heap}{a:Addr}{its:Array Value}(r:fE k h a its)(f:∀o,h.get? a=some o->h'.get? a=some o):fE k h' a its:=let ⟨o,e,q⟩:=r;⟨o,f o e,q⟩
theorem dn.mv{k:Bool}{h h':Heap}{it a:Addr}{i:Nat}(r:dn k h it a i)(f:∀o,h.get? it=some o->h'.get? it=some o):dn k h' it a i:=let ⟨o,e,q⟩:=r;⟨o,f o e,q⟩
section
variable {P:Program}{w:World}{A:Around}{E:Value->Shared->Prop}{s:Shared}{k:Bool}{it a:Addr}{i:Nat}{its:Array Value}
theorem qo{x:Value}{Q:Value->Shared->Prop}(W:s.heap.IsTupleIter it a i)(R:s.heap.IsTuple a its)(hx:its[i]?=some x)
  (hQ:∀h',h'.IsTupleIter it a (i+1)->Heap.SameBut it s.heap h'->Q x { s with heap:=h' }):wpAny (model P w) A (Builtin.SmallTypes.nextOf (.ref it)) Q E s:=by
 have hT:=W.typeIs;obtain⟨o,ho,c,d⟩:=W;obtain⟨ol,hol,_,nl,dl⟩:=R;unfold Builtin.SmallTypes.nextOf;refine wpAny_bind (wpAny_callSpecial?_slot (name:=Str.ofString "__next__") hT F.slot_tuple_iterator_next (wpAny_call_entry F.slot_tuple_iterator_next hT F.entry_tuple_iterator_next ?_ (F.args_tuple_iterator_next_1 _)));refine wpAny_bind (m:=field (.ref it) 0) (wpAny_field ho d (x:=.ref a) rfl ?_);have nn:¬ ((Value.ref a == Value.none)=true):=Bool.false_ne_true
 show wpAny _ _ (if (Value.ref a == Value.none)=true then _ else _) _ _ s;rw [if_neg nn];refine wpAny_bind (m:=field (.ref it) 1) (wpAny_field ho d (x:=.int i 0) rfl ?_);refine wpAny_bind (m:=seqItems? (.ref a)) (wpAny_seqItems hol dl ?_);simp only [toNat_natCast,hx];exact wpAny_bind (wpAny_setField ho d (by simp) (wpAny_pure ⟨x,rfl,wpAny_pure (hQ _ ⟨_,Heap.get?_update_self _ ho (Obj.isFreed_of_fields (Obj.data_mapFields d _)),(Obj.cls_mapFields ..).trans c,by rw [Obj.data_mapFields d];simp [rawInt]⟩ (Heap.SameBut.update ..))⟩))
theorem rP{Q:Value->Shared->Prop}(hh:A.handled=none)(W:s.heap.IsTupleIter it a i)(R:s.heap.IsTuple a its)(hx:its[i]?=none)
  (hE:∀h' e,Heap.ExtBut it s.heap h'->(∃o,h'.get? e=some o/\o.cls=.type "StopIteration")->E (.ref e) { s with heap:=h' }):wpAny (model P w) A (Builtin.SmallTypes.nextOf (.ref it)) Q E s:=by
 have hT:=W.typeIs;obtain⟨o,ho,c,d⟩:=W;obtain⟨ol,hol,_,nl,dl⟩:=R;unfold Builtin.SmallTypes.nextOf;refine wpAny_bind (wpAny_callSpecial?_slot (name:=Str.ofString "__next__") hT F.slot_tuple_iterator_next (wpAny_call_entry F.slot_tuple_iterator_next hT F.entry_tuple_iterator_next ?_ (F.args_tuple_iterator_next_1 _)));refine wpAny_bind (m:=field (.ref it) 0) (wpAny_field ho d (x:=.ref a) rfl ?_);have nn:¬ ((Value.ref a == Value.none)=true):=Bool.false_ne_true
 show wpAny _ _ (if (Value.ref a == Value.none)=true then _ else _) _ _ s;rw [if_neg nn];refine wpAny_bind (m:=field (.ref it) 1) (wpAny_field ho d (x:=.int i 0) rfl ?_);refine wpAny_bind (m:=seqItems? (.ref a)) (wpAny_seqItems hol dl ?_);simp only [toNat_natCast,hx];refine wpAny_bind (wpAny_rule (wpAny_bind (wpAny_setField ho d (by simp) (wpAny_bind (m:=newExc (.type "StopIteration") []) ?_))));simp only [newExc,newTuple]
 refine wpAny_bind (wpAny_newObj_type (wpAny_bind (m:=firstArgMember _ _) (wpAny_of_eq (a:=Value.none) (by first|rfl|(simp only [firstArgMember];rfl)) (wpAny_newObj_type ?_ (by size_fits)))) (by size_fits));simp only [raiseNew];refine wpAny_bind (wpAny_handled ?_)
 first|rw [show A.in1.handled=none from hh]|rw [hh]
 exact wpAny_bind (wpAny_pure (wpAny_throw (hE _ _ (((Heap.SameBut.update ..).extBut.push _).push _) ⟨_,Heap.get?_push_size _ rfl,rfl⟩)))
theorem fj{x:Value}{Q:Value->Shared->Prop}(W:dn k s.heap it a i)(R:fE k s.heap a its)(hx:its[i]?=some x)
  (hQ:∀h',dn k h' it a (i+1)->Heap.SameBut it s.heap h'->Q x { s with heap:=h' }):wpAny (model P w) A (Builtin.SmallTypes.nextOf (.ref it)) Q E s:=by
 cases k with
 | false=>exact wpAny_nextOf_list_item W R hx hQ
 | true=>exact qo W R hx hQ
theorem f7{Q:Value->Shared->Prop}(hh:A.handled=none)(W:dn k s.heap it a i)(R:fE k s.heap a its)(hx:its[i]?=none)
  (hE:∀h' e,Heap.ExtBut it s.heap h'->(∃o,h'.get? e=some o/\o.cls=.type "StopIteration")->E (.ref e) { s with heap:=h' }):wpAny (model P w) A (Builtin.SmallTypes.nextOf (.ref it)) Q E s:=by
 cases k with
 | false=>exact wpAny_nextOf_list_end hh W R hx hE
 | true=>exact rP hh W R hx hE
end
structure ZA (z U V i j:Addr):Prop where
 Uz:U≠z
 Vz:V≠z
 iz:i≠z
 jz:j≠z
 UV:U≠V
 Ui:U≠i
 Uj:U≠j
 Vi:V≠i
 Vj:V≠j
 ij:i≠j
section
variable {P:Program}{w:World}{A:Around}{E:Value->Shared->Prop}{s:Shared}{k l:Bool}{z U V i j a c:Addr}{n:Nat}{xs ys:Array Value}{x y u v:Value}
theorem AB{Q:Value->Shared->Prop}(D:ZA z U V i j)(az:a≠z)(cz:c≠z)(ci:c≠i)(cV:c≠V)(hz:IsZip s.heap z U V .none)(hU:IsPair s.heap U (.ref i) (.ref j))(hV:IsPair s.heap V u v)
  (W1:dn k s.heap i a n) (W2:dn l s.heap j c n) (R1:fE k s.heap a xs) (R2:fE l s.heap c ys) (hx:xs[n]?=some x) (hy:ys[n]?=some y)
  (hQ:∀h',IsZip h' z U V (rawInt s.heap.objs.size)->IsPair h' V x y->dn k h' i a (n+1)->dn l h' j c (n+1)->IsPair h' s.heap.objs.size x y->h'.objs.size=s.heap.objs.size+1 ->
   (∀b o,b≠z->b≠V->b≠i->b≠j->s.heap.get? b=some o->h'.get? b=some o)->Q (.ref s.heap.objs.size) { s with heap:=h' }) :
  wpAny (model P w) A (Builtin.«zip.__next__» ⟨[.ref z],[]⟩) (fun f s'=>∃r,f=.done (.ret r)/\Q r s') E s:=by
 refine wpAny_bind (m:=field (.ref z) 2) (wpAny_field hz rfl (x:=.bool false) rfl (wpAny_bind (m:=field (.ref z) 3) (wpAny_field hz rfl (x:=.ref U) rfl (wpAny_bind (wpAny_seqItems hU rfl ?_)))));refine wpAny_bind (m:=Builtin.SmallTypes.ownedTupleIsFree (.ref z)) ?_;unfold Builtin.SmallTypes.ownedTupleIsFree;refine wpAny_bind (wpAny_field hz rfl (x:=.none) rfl (wpAny_pure ?_));simp only [if_true];refine wpAny_bind (wpAny_rule (wpAny_bind (wpAny_field hz rfl (x:=.ref V) rfl (wpAny_bind (wpAny_setField_rec hz (by simp) fun g1 z1 b1=>wpAny_bind ?_)))))
 replace z1:IsZip g1 z U V .ellipsis:=z1
 simp only [zipIdx_cons,zipIdx_nil,forIn_cons,forIn_nil];have e1:=b1.extBut;refine wpAny_bind (wpAny_bind (wpAny_onRaise (wpAny_bind (m:=Builtin.SmallTypes.nextOf (.ref i)) (fj (W1.mv fun o e=>e1 _ o D.iz e) (R1.mv fun o e=>e1 _ o az e) hx fun g2 w1 b2=>wpAny_pure ?_))));have e2:=b2.extBut;have v2:IsPair g2 V u v:=e2 _ _ D.Vi (e1 _ _ D.Vz hV);refine wpAny_bind (wpAny_seqItems v2 rfl (wpAny_bind (wpAny_updateSeq_pair v2 fun g3 v3 b3=>wpAny_bind (wpAny_letGo (wpAny_pure ?_)))))
 replace v3:IsPair g3 V x v:=v3
 have e3:=b3.extBut;refine wpAny_bind (wpAny_bind (wpAny_onRaise (wpAny_bind (m:=Builtin.SmallTypes.nextOf (.ref j)) (fj (W2.mv fun o e=>e3 _ o D.Vj.symm (e2 _ o D.ij.symm (e1 _ o D.jz e))) (R2.mv fun o e=>e3 _ o cV (e2 _ o ci (e1 _ o cz e))) hy fun g4 w2 b4=>wpAny_pure ?_))));have e4:=b4.extBut;have v4:IsPair g4 V x v:=e4 _ _ D.Vj v3;refine wpAny_bind (wpAny_seqItems v4 rfl (wpAny_bind (wpAny_updateSeq_pair v4 fun g5 v5 b5=>wpAny_bind (wpAny_letGo (wpAny_pure (wpAny_pure ?_))))))
 replace v5:IsPair g5 V x y:=v5
 have e5:=b5.extBut;refine wpAny_bind (wpAny_seqItems v5 rfl (wpAny_bind (wpAny_newTuple ?_)));have sz:g5.objs.size=s.heap.objs.size:=by rw [b5.1,b4.1,b3.1,b2.1,b1.1]
 have z5:IsZip g5 z U V .ellipsis:=e5 _ _ D.Vz.symm (e4 _ _ D.jz.symm (e3 _ _ D.Vz.symm (e2 _ _ D.iz.symm z1)));have k5:∀b o,b≠z->b≠V->b≠i->b≠j->s.heap.get? b=some o->g5.get? b=some o:=fun b o q1 q2 q3 q4 e=>e5 _ _ q2 (e4 _ _ q4 (e3 _ _ q2 (e2 _ _ q3 (e1 _ _ q1 e))));have w15:dn k g5 i a (n+1):=w1.mv fun o e=>e5 _ o D.Vi.symm (e4 _ o D.ij (e3 _ o D.Vi.symm e));have w25:dn l g5 j c (n+1):=w2.mv fun o e=>e5 _ o D.Vj.symm e
 have zlt:z<g5.objs.size:=Heap.lt_size z5;refine wpAny_bind (m:=Builtin.SmallTypes.ownedTupleHandOut (.ref z) (.ref g5.objs.size)) ?_;unfold Builtin.SmallTypes.ownedTupleHandOut;have z6:IsZip (g5.push { cls:=.type "tuple",data:=.seq #[x,y] }) z U V .ellipsis:=Heap.get?_push_of_some _ z5;refine wpAny_bind (wpAny_setField_rec z6 (by simp) fun g7 z7 b7=>?_)
 replace z7:IsZip g7 z U V (rawInt g5.objs.size):=z7
 refine wpAny_setField_rec z7 (by simp) fun g8 z8 b8=>?_
 replace z8:IsZip g8 z U V (rawInt g5.objs.size):=z8
 have up:∀b o,b≠z->g5.get? b=some o->g8.get? b=some o:=fun b o q e=>b8.extBut _ _ q (b7.extBut _ _ q (Heap.get?_push_of_some _ e));have t8:IsPair g8 g5.objs.size x y:=b8.extBut _ _ (ne_of_gt zlt) (b7.extBut _ _ (ne_of_gt zlt) (Heap.get?_push_size _ rfl));have s8:g8.objs.size=g5.objs.size+1:=by rw [b8.1,b7.1,Heap.size_push]
 rw [sz] at z8 t8 s8;refine wpAny_pure ⟨_,rfl,?_⟩;show Q (.ref g5.objs.size) _;rw [sz];exact hQ g8 z8 (up _ _ D.Vz v5) (w15.mv fun o e=>up _ o D.iz e) (w25.mv fun o e=>up _ o D.jz e) t8 s8 fun b o q1 q2 q3 q4 e=>up b o q1 (k5 b o q1 q2 q3 q4 e)
theorem CL{Q:Fin->Shared->Prop}(hh:A.handled=none)(D:ZA z U V i j)(az:a≠z)(cz:c≠z)(ci:c≠i)(cV:c≠V)(hz:IsZip s.heap z U V .none)(hU:IsPair s.heap U (.ref i) (.ref j))(hV:IsPair s.heap V u v)
  (W1:dn k s.heap i a n) (W2:dn l s.heap j c n) (R1:fE k s.heap a xs) (R2:fE l s.heap c ys) (hend:xs[n]?=none\/ys[n]?=none)
  (hE:∀h' e,(∀b o,b≠z->b≠V->b≠i->b≠j->s.heap.get? b=some o->h'.get? b=some o)->(∃o,h'.get? e=some o/\o.cls=.type "StopIteration")->E (.ref e) { s with heap:=h' }) :
  wpAny (model P w) A (Builtin.«zip.__next__» ⟨[.ref z],[]⟩) Q E s:=by
 refine wpAny_bind (m:=field (.ref z) 2) (wpAny_field hz rfl (x:=.bool false) rfl (wpAny_bind (m:=field (.ref z) 3) (wpAny_field hz rfl (x:=.ref U) rfl (wpAny_bind (wpAny_seqItems hU rfl ?_)))));refine wpAny_bind (m:=Builtin.SmallTypes.ownedTupleIsFree (.ref z)) ?_;unfold Builtin.SmallTypes.ownedTupleIsFree;refine wpAny_bind (wpAny_field hz rfl (x:=.none) rfl (wpAny_pure ?_));simp only [if_true];refine wpAny_bind (wpAny_rule (wpAny_bind (wpAny_field hz rfl (x:=.ref V) rfl (wpAny_bind (wpAny_setField_rec hz (by simp) fun g1 z1 b1=>wpAny_bind ?_)))))
 replace z1:IsZip g1 z U V .ellipsis:=z1
 simp only [zipIdx_cons,zipIdx_nil,forIn_cons,forIn_nil];have e1:=b1.extBut
 cases hx:xs[n]? with
 | none =>
  refine wpAny_bind (wpAny_bind (wpAny_onRaise (wpAny_bind (m:=Builtin.SmallTypes.nextOf (.ref i)) (f7 hh (W1.mv fun o e=>e1 _ o D.iz e) (R1.mv fun o e=>e1 _ o az e) hx fun g2 e b2 he=>?_))));obtain⟨oe,ge,ce⟩:=he;have z2:IsZip g2 z U V .ellipsis:=b2 _ _ D.iz.symm z1;have ez:e≠z:=fun q=>by subst q;rw [z2] at ge;cases ge;simp at ce
  exact wpAny_setField_rec z2 (by simp) fun g3 _ b3=>hE g3 e (fun b o q1 _ q3 _ q=>b3.extBut _ _ q1 (b2 _ _ q3 (e1 _ _ q1 q))) ⟨oe,b3.extBut _ _ ez ge,ce⟩
 | some x =>
  have hy:ys[n]?=none:=by
   rcases hend with q|q
   .rw [hx] at q;cases q
   .exact q
  refine wpAny_bind (wpAny_bind (wpAny_onRaise (wpAny_bind (m:=Builtin.SmallTypes.nextOf (.ref i)) (fj (W1.mv fun o e=>e1 _ o D.iz e) (R1.mv fun o e=>e1 _ o az e) hx fun g2 w1 b2=>wpAny_pure ?_))));have e2:=b2.extBut;have v2:IsPair g2 V u v:=e2 _ _ D.Vi (e1 _ _ D.Vz hV);refine wpAny_bind (wpAny_seqItems v2 rfl (wpAny_bind (wpAny_updateSeq_pair v2 fun g3 v3 b3=>wpAny_bind (wpAny_letGo (wpAny_pure ?_)))))
  have e3:=b3.extBut;refine wpAny_bind (wpAny_bind (wpAny_onRaise (wpAny_bind (m:=Builtin.SmallTypes.nextOf (.ref j)) (f7 hh (W2.mv fun o e=>e3 _ o D.Vj.symm (e2 _ o D.ij.symm (e1 _ o D.jz e))) (R2.mv fun o e=>e3 _ o cV (e2 _ o ci (e1 _ o cz e))) hy fun g4 e b4 he=>?_))));obtain⟨oe,ge,ce⟩:=he;have z4:IsZip g4 z U V .ellipsis:=b4 _ _ D.jz.symm (e3 _ _ D.Vz.symm (e2 _ _ D.iz.symm z1));have ez:e≠z:=fun q=>by subst q;rw [z4] at ge;cases ge;simp at ce
  exact wpAny_setField_rec z4 (by simp) fun g5 _ b5=>hE g5 e (fun b o q1 q2 q3 q4 q=>b5.extBut _ _ q1 (b4 _ _ q4 (e3 _ _ q2 (e2 _ _ q3 (e1 _ _ q1 q))))) ⟨oe,b5.extBut _ _ ez ge,ce⟩
end
def Sq(k:Bool)(K:PySem.W.Frag)(H:Hp)(a:Addr)(xs:List V):Prop:=cond k (SqT K H a xs) (SqL K H a xs)
section
variable {X:Cx}{pins:List (Addr×Obj)}{σ:St}{H:Hp}{s:Shared}{k l:Bool}{a b c:Addr}{xs ys:List V}
theorem Inv.row(I:Inv X pins σ H s)(h:Sq k X.K H a xs):∃its:List Value,cG xs its/\fE k s.heap a its.toArray/\xs.length<=sizeLine:=by
 cases k with
 | false=>obtain⟨its,r,p,z⟩:=I.list h;exact⟨its,r,p.isList,z⟩
 | true=>obtain⟨its,r,p,z⟩:=I.tuple h;exact⟨its,r,p,z⟩
theorem Inv.row_inj(I:Inv X pins σ H s)(h:Sq k X.K H a xs)(h':Sq k X.K H a ys):xs=ys:=by
 cases k with
 | false=>exact I.list_inj h h'
 | true=>exact I.tuple_inj h h'
theorem wt{u:HO}(r:Rd H a u):∃v,H a=some v:=by
 rcases r with r|⟨o,r⟩ <;> exact⟨_,r⟩
theorem Inv.row_ne(I:Inv X pins σ H s)(h:Sq k X.K H a xs)(f:rE X pins H b):a≠b:=by
 have kk:∀o,X.K.lookup a=some o->a≠b:=fun o e z=>by
  have e1:=I.ok.mod.kin a o e
  rcases f.2.2.2.1 with q|q
  .exact I.ok.noex a o e1 (z ▸ q)
  .exact absurd (lt_of_lt_of_le (Heap.lt_size (I.ok.bs a o e1).1) (z ▸ q)) (Nat.lt_irrefl _)
 have hh:∀u,H a=some u->a≠b:=fun u e z=>by rw [z,f.1] at e;cases e
 cases k with
 | false =>
  rcases h with r|⟨o,its,n,e,_⟩
  .obtain⟨v,e⟩:=wt r;exact hh v e
  .exact kk o e
 | true =>
  rcases h with r|⟨o,its,n,e,_⟩
  .obtain⟨v,e⟩:=wt r;exact hh v e
  .exact kk o e
theorem Inv.yielded{h':Heap}{T:Addr}{zs:List V}{t':Nat}{ch:List Addr}(I:Inv X pins σ H s)(hf:∀b∈ch,rE X pins H b)(hT:s.heap.objs.size<=T)
  (kp:∀b o,b∉ch->s.heap.get? b=some o->h'.get? b=some o) (new:cJ X.prog X.w (upd H T (.tup zs)) h' T (.tup zs)):Inv X pins σ (upd H T (.tup zs)) { s with heap:=h',toks:=t' }:=by
 have hn:H T=none:=I.hok.fresh hT;have nT:∀b u,H b=some u->b≠T:=fun b u e z=>by rw [z,hn] at e;cases e
 have oT:∀b o,s.heap.get? b=some o->b≠T:=fun b o e z=>absurd (lt_of_lt_of_le (Heap.lt_size e) (z ▸ hT)) (Nat.lt_irrefl _);have nc:∀b u,H b=some u->b∉ch:=fun b u e z=>by rw [(hf b z).1] at e;cases e
 refine I.step (g':=s.gens) (d':=s.drawn) (ch:=ch) (fun b hb=>⟨(hf b hb).2.2.2.1,(hf b hb).2.1,(hf b hb).2.2.2.2.1,(hf b hb).2.2.2.2.2⟩) (fun b o _ _ hc e _=>kp b o hc e) (fun b o _ _ hc e _=>⟨o.slots,kp b o hc e⟩)
  (fun b o _ e n=>by rw [aE (oT b o e)];exact n) (fun b o hc e=>⟨o,kp b o hc e⟩) (fun b xs e=>by rw [aE (nT b _ e)];exact e) (fun b o u e=>by rw [aE (nT b _ e)];exact e)
  (fun b ps e=>⟨#[],by rw [aE (nT b _ e),e];simp⟩) (fun m hm=>?_) (fun b u e=>?_) I.bare
 .obtain⟨o,es,ep,ho,r⟩:=hm;exact⟨o,es,ep,kp _ o (fun z=>(hf _ z).2.1 rfl) ho,r⟩
 .by_cases hb:b=T
  .subst hb;rw [aJ] at e;cases e;exact new
  .rw [aE hb] at e;refine (I.hok b u e).stay (fun c v hc q=>kp c v ?_ q) (fun c q=>by rw [aE (nT c _ q)];exact q) fun c xs q=>by rw [aE (nT c _ q)];exact q
   rcases hc with z|z
   .rw [z];exact nc b u e
   .exact nc c _ z
end
def Itz(k l:Bool)(K:PySem.W.Frag)(a c:Addr):It :=
  ⟨fun i H=>∃xs ys x y,Sq k K H a xs/\Sq l K H c ys/\xs[i]?=some x/\ys[i]?=some y,
   fun i H p H'=>∃T x y,H T=none/\p=.ref T/\(∀xs,Sq k K H a xs->xs[i]?=some x)/\(∀ys,Sq l K H c ys->ys[i]?=some y)/\H'=upd H T (.tup [x,y]),
   fun i H=>∃xs ys,Sq k K H a xs/\Sq l K H c ys/\(xs.length<=i\/ys.length<=i)⟩
theorem yp{P:Program}{w:World}{K:PySem.W.Frag}{es:List Expr}{ct:Nat}{tp:Pos}{k l:Bool}{a c z U V i j:Addr}(D:ZA z U V i j) :
  zl P w K (.Tuple es ct tp) (Itz k l K a c) [z,U,V,i,j] z (fun n h=>IsZip h z U V .none/\IsPair h U (.ref i) (.ref j)/\(∃u v,IsPair h V u v)/\dn k h i a n/\dn l h j c n) where
 mem:=by simp
 obj:=fun n h st b hb=>by
  obtain⟨hz,hU,⟨u,v,hV⟩,⟨o1,g1,c1,d1⟩,⟨o2,g2,c2,d2⟩⟩:=st;simp only [mem_cons,not_mem_nil,or_false] at hb
  rcases hb with rfl|rfl|rfl|rfl|rfl
  .exact⟨_,hz,fun v q=>by cases q⟩
  .exact⟨_,hU,fun v q=>by cases q⟩
  .exact⟨_,hV,fun v q=>by cases q⟩
  .exact⟨_,g1,fun v q=>by rw [d1] at q;cases q⟩
  .exact⟨_,g2,fun v q=>by rw [d2] at q;cases q⟩
 keep:=fun n h h' st kk=>by
  obtain⟨hz,hU,⟨u,v,hV⟩,w1,w2⟩:=st;exact⟨kk z (by simp) _ hz,kk U (by simp) _ hU,⟨u,v,kk V (by simp) _ hV⟩,w1.mv fun o e=>kk i (by simp) o e,w2.mv fun o e=>kk j (by simp) o e⟩
 item:=by
  intro X hP hw hK hc n pins s σ H E I hf st hg;subst hP hw hK;obtain⟨xs,ys,x,y,q1,q2,hx,hy⟩:=hg;obtain⟨hz,hU,⟨u,v,hV⟩,w1,w2⟩:=st;obtain⟨its,rv,p,_⟩:=I.row q1;obtain⟨jts,rv',p',_⟩:=I.row q2;obtain⟨ux,hux,rx⟩:=rv.get hx;obtain⟨uy,huy,ry⟩:=rv'.get hy;have hT:s.TypeIs (.ref z) "zip":=⟨_,hz,rfl⟩
  have nz:=I.row_ne q1 (hf z (by simp));have mz:=I.row_ne q2 (hf z (by simp));have mi:=I.row_ne q2 (hf i (by simp));have mV:=I.row_ne q2 (hf V (by simp));unfold pyNext
  refine wpAny_bind (wpAny_attempt (wpAny_callSpecial?_slot (name:=Str.ofString "__next__") hT F.slot_zip_next (wpAny_call_entry F.slot_zip_next hT F.entry_zip_next
   (AB (x:=ux) (y:=uy) D nz mz mi mV hz hU hV w1 w2 p p' (by simpa using hux) (by simpa using huy) fun h' a1 a2 a3 a4 a5 a6 a7=>wpAny_pure ?_) (F.args_zip_next_1 _))))
  refine⟨_,rfl,wpAny_letOwnedTupleGo_zip a1 fun g gz gs=>?_⟩;have lt:∀{b o},s.heap.get? b=some o->s.heap.objs.size≠b:=fun e=>ne_of_gt (Heap.lt_size e)
  have kp:∀b o,b∉[z,V,i,j]->s.heap.get? b=some o->g.get? b=some o:=fun b o hb e=>by
   simp only [mem_cons,not_mem_nil,or_false,not_or] at hb;exact gs.extBut _ _ hb.1 (a7 b o hb.1 hb.2.1 hb.2.2.1 hb.2.2.2 e)
  have I2:Inv X pins σ (upd H s.heap.objs.size (.tup [x,y])) { s with heap:=g,toks:=s.toks }:=I.yielded (ch:=[z,V,i,j]) (fun b hb=>hf b (by
   simp only [mem_cons,not_mem_nil,or_false] at hb ⊢;rcases hb with q|q|q|q <;> simp [q])) (Nat.le_refl _) kp ⟨by show 2<=sizeLine;decide,[ux,uy],.cons rx (.cons ry .nil),_,gs.extBut _ _ (lt hz) a5,rfl,_,rfl⟩
  refine⟨.ref s.heap.objs.size,_,I2,rfl,⟨_,x,y,I.hok.fresh (Nat.le_refl _),rfl,fun xs' q=>by rw [I.row_inj q q1];exact hx,fun ys' q=>by rw [I.row_inj q q2];exact hy,rfl⟩,
   ⟨gz,gs.extBut _ _ D.Uz (a7 _ _ D.Uz D.UV D.Ui D.Uj hU),⟨_,_,gs.extBut _ _ D.Vz a2⟩,a3.mv fun o e=>gs.extBut _ o D.iz e,a4.mv fun o e=>gs.extBut _ o D.jz e⟩,fun b hb=>?_⟩
  rw [aE ?_]
  .exact (hf b hb).1
  .intro q;subst q;simp only [mem_cons,not_mem_nil,or_false] at hb;obtain⟨o1,g1,_⟩:=w1;obtain⟨o2,g2,_⟩:=w2
   rcases hb with q|q|q|q|q
   .exact lt hz q
   .exact lt hU q
   .exact lt hV q
   .exact lt g1 q
   .exact lt g2 q
 done:=by
  intro X hP hw hK hc n pins s σ H E I hf st hg;subst hP hw hK;obtain⟨xs,ys,q1,q2,hend⟩:=hg;obtain⟨hz,hU,⟨u,v,hV⟩,w1,w2⟩:=st;obtain⟨its,rv,p,_⟩:=I.row q1;obtain⟨jts,rv',p',_⟩:=I.row q2;have e1:=rv.length;have e2:=rv'.length;have hT:s.TypeIs (.ref z) "zip":=⟨_,hz,rfl⟩
  unfold pyNext
  refine wpAny_bind (wpAny_attempt (wpAny_callSpecial?_slot (name:=Str.ofString "__next__") hT F.slot_zip_next (wpAny_call_entry F.slot_zip_next hT F.entry_zip_next
   (CL (I.ok.hd hc) D (I.row_ne q1 (hf z (by simp))) (I.row_ne q2 (hf z (by simp))) (I.row_ne q2 (hf i (by simp))) (I.row_ne q2 (hf V (by simp))) hz hU hV w1 w2 p p' ?_ fun h' e hk he=>?_) (F.args_zip_next_1 _))))
  .rcases hend with q|q
   .exact .inl (by simp;omega)
   .exact .inr (by simp;omega)
  .obtain⟨o,ho,hcl⟩:=he;refine wpAny_bind (wpAny_isInstance (T:="StopIteration") (b:=true) ⟨o,ho,hcl⟩ isSubtype_stop (wpAny_pure ⟨rfl,?_⟩))
   exact I.step (g':=s.gens) (d':=s.drawn) (t':=s.toks) (ch:=[z,V,i,j]) (fun b hb=>by
     have q:=hf b (by
      simp only [mem_cons,not_mem_nil,or_false] at hb ⊢;rcases hb with q|q|q|q <;> simp [q])
     exact⟨q.2.2.2.1,q.2.1,q.2.2.2.2.1,q.2.2.2.2.2⟩) (fun b o _ _ hc e _=>by
     simp only [mem_cons,not_mem_nil,or_false,not_or] at hc;exact hk b o hc.1 hc.2.1 hc.2.2.1 hc.2.2.2 e) (fun b o _ _ hc e _=>⟨o.slots,by
     simp only [mem_cons,not_mem_nil,or_false,not_or] at hc;exact hk b o hc.1 hc.2.1 hc.2.2.1 hc.2.2.2 e⟩) (fun _ _ _ _ q=>q) (fun b o hc e=>⟨o,by
     simp only [mem_cons,not_mem_nil,or_false,not_or] at hc;exact hk b o hc.1 hc.2.1 hc.2.2.1 hc.2.2.2 e⟩) (fun _ _ e=>e) (fun _ _ _ e=>e) (fun b ps e=>⟨#[],by rw [e];simp⟩) (fun m hm=>by
     obtain⟨o,es,ep,ho,r⟩:=hm;exact⟨o,es,ep,hk _ o (hf z (by simp)).2.1.symm (hf V (by simp)).2.1.symm (hf i (by simp)).2.1.symm (hf j (by simp)).2.1.symm ho,r⟩) (fun b u e=>by
     have nn:∀b u,H b=some u->b≠z/\b≠V/\b≠i/\b≠j:=fun b u e=>⟨fun q=>(by rw [q,(hf z (by simp)).1] at e;cases e),fun q=>(by rw [q,(hf V (by simp)).1] at e;cases e),fun q=>(by rw [q,(hf i (by simp)).1] at e;cases e),fun q=>(by rw [q,(hf j (by simp)).1] at e;cases e)⟩
     refine (I.hok b u e).stay (fun c v hc q=>?_) (fun _ q=>q) fun _ _ q=>q
     have n4:c≠z/\c≠V/\c≠i/\c≠j:=by
      rcases hc with q|q
      .rw [q];exact nn b u e
      .exact nn c _ q
     exact hk c v n4.1 n4.2.1 n4.2.2.1 n4.2.2.2 q) I.bare
 self:=fun _ _ _ _ _ st h=>wpAny_pyIter_zip st.1 h
theorem CM(n:Nat):ZA (n+4) (n+2) (n+3) n (n+1):=by
 refine⟨?_,?_,?_,?_,?_,?_,?_,?_,?_,?_⟩ <;> (intro h;have h2:@Eq Nat _ _:=h;omega)
section
variable {P:Program}{w:World}{A:Around}{E:Value->Shared->Prop}{s:Shared}{k l:Bool}
abbrev kP(k:Bool)(a:Addr):Obj:={ cls:=.type (cond k "tuple_iterator" "list_iterator"),data:=.fields #[.ref a,.int 0 0] }
theorem fM{a:Addr}{its:Array Value}{Q:Value->Shared->Prop}(R:fE k s.heap a its)(hQ:Q (.ref s.heap.objs.size) { s with heap:=s.heap.push (kP k a) }):wpAny (model P w) A (pyIter (.ref a)) Q E s:=by
 cases k with
 | false=>exact wpAny_pyIter_list R hQ
 | true=>exact wpAny_pyIter_tuple R hQ
abbrev zg1(h:Heap)(k:Bool)(a:Addr):Heap:=h.push (kP k a)
abbrev zg2(h:Heap)(k l:Bool)(a c:Addr):Heap:=(zg1 h k a).push (kP l c)
abbrev zg3(h:Heap)(k l:Bool)(a c:Addr):Heap:=(zg2 h k l a c).push { cls:=.type "tuple",data:=.seq #[.ref h.objs.size,.ref (zg1 h k a).objs.size] }
abbrev zg4(h:Heap)(k l:Bool)(a c:Addr):Heap:=(zg3 h k l a c).push { cls:=.type "tuple",data:=.seq #[.none,.none] }
abbrev zg5(h:Heap)(k l:Bool)(a c:Addr):Heap:=(zg4 h k l a c).push { cls:=.type "zip",data:=.fields #[.none,.bool false,.bool false,.ref (zg2 h k l a c).objs.size,.ref (zg3 h k l a c).objs.size] }
theorem AC(k l:Bool)(a c:Addr)(xs ys:Array Value):Meets (Builtin.«zip.__new__» ⟨[.type "zip",.ref a,.ref c],[]⟩) (fun _ R s=>fE k s.heap a xs/\fE l s.heap c ys /\
   R (.ok (.ret (.ref (zg4 s.heap k l a c).objs.size))) { s with heap:=zg5 s.heap k l a c }) :=
 .of_wp fun prog w A R s h=>by
  obtain⟨hp,g,d,tk,os⟩:=s;obtain⟨r1,r2,h⟩:=h;have hsub:=sub_zip;have R1:fE k (Shared.heap ⟨hp,g,d,tk,os⟩) a xs:=r1;have R2:fE l (Shared.heap ⟨hp.push (kP k a),g,d,tk,os⟩) c ys:=r2.mv fun o e=>Heap.get?_push_of_some _ e
  wp_walk using fM R1,fM R2
  exact⟨_,rfl,h⟩
theorem AD{a c:Addr}{xs ys:Array Value}{Q:Value->Shared->Prop}(r1:fE k s.heap a xs)(r2:fE l s.heap c ys)
  (h:∀h',IsZip h' (s.heap.objs.size+4) (s.heap.objs.size+2) (s.heap.objs.size+3) .none->IsPair h' (s.heap.objs.size+2) (.ref s.heap.objs.size) (.ref (s.heap.objs.size+1)) ->
   IsPair h' (s.heap.objs.size+3) .none .none->dn k h' s.heap.objs.size a 0->dn l h' (s.heap.objs.size+1) c 0->(∀b o,s.heap.get? b=some o->h'.get? b=some o)->Q (.ref (s.heap.objs.size+4)) { s with heap:=h' }) :
  wpAny (model P w) A (call (.type "zip") [.ref a,.ref c]) Q E s:=by
 refine callType_new F.called_zip (by decide) (F.typeCall_zip_2 _ _) (F.newCall_zip_2 _ _) (fun obj=>F.args_object_init_3 obj _ _) F.entry_zip_new (AC k l a c xs ys) ⟨r1,r2,?_⟩;have z1:(zg1 s.heap k a).objs.size=s.heap.objs.size+1:=Heap.size_push ..;have z2:(zg2 s.heap k l a c).objs.size=s.heap.objs.size+2:=by rw [Heap.size_push,z1]
 have z3:(zg3 s.heap k l a c).objs.size=s.heap.objs.size+3:=by rw [Heap.size_push,z2]
 have z4:(zg4 s.heap k l a c).objs.size=s.heap.objs.size+4:=by rw [Heap.size_push,z3]
 have m4:∀b o,(zg4 s.heap k l a c).get? b=some o->(zg5 s.heap k l a c).get? b=some o:=fun b o e=>Heap.get?_push_of_some _ e;have m3:∀b o,(zg3 s.heap k l a c).get? b=some o->(zg5 s.heap k l a c).get? b=some o:=fun b o e=>m4 b o (Heap.get?_push_of_some _ e);have m2:∀b o,(zg2 s.heap k l a c).get? b=some o->(zg5 s.heap k l a c).get? b=some o:=fun b o e=>m3 b o (Heap.get?_push_of_some _ e);have m1:∀b o,(zg1 s.heap k a).get? b=some o->(zg5 s.heap k l a c).get? b=some o:=fun b o e=>m2 b o (Heap.get?_push_of_some _ e)
 have g5:(zg5 s.heap k l a c).get? (zg4 s.heap k l a c).objs.size=some _:=Heap.get?_push_size _ rfl;have g4:=m4 _ _ (Heap.get?_push_size (zg3 s.heap k l a c) (o:={ cls:=.type "tuple",data:=.seq #[.none,.none] }) rfl);have g3:=m3 _ _ (Heap.get?_push_size (zg2 s.heap k l a c) (o:={ cls:=.type "tuple",data:=.seq #[.ref s.heap.objs.size,.ref (zg1 s.heap k a).objs.size] }) rfl);have g2:=m2 _ _ (Heap.get?_push_size (zg1 s.heap k a) (o:=kP l c) rfl)
 have g1:=m1 _ _ (Heap.get?_push_size s.heap (o:=kP k a) rfl);show _/\_;rw [z2,z3,z4] at g5;rw [z1,z2] at g3;rw [z3] at g4;rw [z1] at g2;rw [z4];exact⟨⟨_,g5,rfl⟩,h _ g5 g3 g4 ⟨_,g1,rfl,rfl⟩ ⟨_,g2,rfl,rfl⟩ fun b o e=>m1 b o (Heap.get?_push_of_some _ e)⟩
end
def stA(a b:List Nat)(i:Nat):Bool:=decide (i+b.length<=a.length/\(a.drop i).take b.length=b)
def fnd(a b:List Nat)(lo:Nat):Int:=match (List.range' lo (a.length+1 - lo)).find? (stA a b) with|some k=>(k:Int)|none=>-1
theorem qq(s sub:Str)(hi:Nat):∀(l:List Nat) (st:Array Nat×Nat),st.fst.size=1->(forIn l st (StrLaws.occBody s sub hi 1)).run.fst=st.fst
 | [],_,_=>rfl
 | x::l,st,h=>by
  rw [forIn_cons];unfold StrLaws.occBody;rw [if_neg (fun z=>by have:=z.1.1.1;omega)];exact qq s sub hi l (st.fst,st.snd) h
theorem qt(s sub:Str)(hi:Nat)(p:Nat->Bool)(hp:∀i,p i=true ↔ (i+sub.length<=hi/\Builtin.Str.subAt s sub i=true)):∀(l:List Nat) (free:Nat),(∀i∈l,free<=i) ->
  (forIn l ((#[]:Array Nat),free) (StrLaws.occBody s sub hi 1)).run.fst=(match l.find? p with|some k=>#[k]|none=>#[])
 | [],_,_=>rfl
 | x::l,free,hf=>by
  rw [forIn_cons,find?_cons];unfold StrLaws.occBody;have hx:free<=x:=hf x (mem_cons_self ..)
  cases c:p x with
  | true =>
   have hc:=(hp x).mp c;rw [if_pos ⟨⟨⟨by simp,hx⟩,hc.1⟩,hc.2⟩];exact qq s sub hi l (#[x],x+sub.length) rfl
  | false =>
   rw [if_neg (fun z=>by
    have:=(hp x).mpr ⟨z.1.2,z.2⟩;rw [c] at this;cases this)]
   exact qt s sub hi p hp l free fun i h=>hf i (mem_cons_of_mem _ h)
theorem AE(a b:List Nat)(i:Nat):Builtin.Str.subAt (S a) (S b) i=decide ((a.drop i).take b.length=b):=by
 unfold Builtin.Str.subAt;rw [gT]
 have e1:((S a).cps.extract i (i+b.length))=((a.drop i).take b.length).toArray:=by
  show a.toArray.extract _ _=_;rw [extract_toArray,extract_eq_take_drop];congr 2;omega
 rw [e1];show (((a.drop i).take b.length).toArray == b.toArray)=_
 by_cases h:(a.drop i).take b.length=b
 .rw [decide_eq_true h,h];simp
 .rw [decide_eq_false h,beq_eq_false_iff_ne];intro z;exact h (by simpa using congrArg Array.toList z)
theorem wv(a b:List Nat)(lo:Nat):(match Builtin.Str.occurrences (S a) (S b) lo (S a).length 1 with|k::_=>(k:Int)|[]=>-1)=fnd a b lo:=by
 rw [StrLaws.occ_eq,gT,qt (S a) (S b) a.length (stA a b) (fun i=>?_) _ lo (fun i hi=>(mem_range'_1.mp hi).1)]
 .unfold fnd;cases (List.range' lo (a.length+1 - lo)).find? (stA a b) <;> rfl
 .unfold stA;rw [AE,gT];simp
section
variable {X:Cx}
theorem yq:MtR X "str.find" (fun x xs H Q=>∃a b,x=.str (S a)/\xs=[.str (S b)]/\Q (.int (fnd a b 0)) H):=by
 intro pins s σ H x xs v us Q I rx rs h;obtain⟨a,b,rfl,rfl,q⟩:=h;obtain⟨t,rfl⟩:=rx;obtain⟨u,rfl,t',rfl⟩:=jm rs;have e:Txt.find (S a) (S b)=fnd a b 0:=wv a b 0;exact SC.find ⟨.int _,H,I.tok _,⟨_,rfl⟩,by rw [e];exact q⟩
end
theorem tE{a b:List Nat}{lo:Nat}(h:fnd a b lo≠-1):∃k:Nat,fnd a b lo=(k:Int)/\lo<=k/\stA a b k=true/\∀j,lo<=j->j<k->stA a b j=false:=by
 unfold fnd at h ⊢
 cases e:(List.range' lo (a.length+1 - lo)).find? (stA a b) with
 | none=>rw [e] at h;exact absurd rfl h
 | some k =>
  obtain⟨h1,h2⟩:=find?_eq_some_iff_append.mp e;obtain⟨as,bs,hl,hn⟩:=h2;have hk:k∈List.range' lo (a.length+1 - lo):=by rw [hl];simp
  refine⟨k,rfl,(mem_range'_1.mp hk).1,h1,fun j hj1 hj2=>?_⟩;have hj:j∈List.range' lo (a.length+1 - lo):=mem_range'_1.mpr ⟨hj1,by have:=(mem_range'_1.mp hk).2;omega⟩;have hs:(List.range' lo (a.length+1 - lo)).Pairwise (·<·):=List.pairwise_lt_range';rw [hl] at hj hs
  rcases mem_append.mp hj with z|z
  .have:=hn j z;simpa using this
  .rcases mem_cons.mp z with z|z
   .omega
   .have:=(pairwise_cons.mp (pairwise_append.mp hs).2.1).1 j z;omega
theorem yr{a b:List Nat}{lo:Nat}(h:fnd a b lo=-1):∀j,lo<=j->stA a b j=false:=by
 unfold fnd at h
 cases e:(List.range' lo (a.length+1 - lo)).find? (stA a b) with
 | some k=>rw [e] at h;simp only at h;omega
 | none =>
  intro j hj
  by_cases hlt:j<a.length+1
  .have:=find?_eq_none.mp e j (mem_range'_1.mpr ⟨hj,by omega⟩);simpa using this
  .unfold stA;rw [decide_eq_false (fun z=>by have:=z.1;omega)]
section
variable {X:Cx}{tg:Expr}
def Itk(k:Bool)(K:PySem.W.Frag)(a:Addr):It:=cond k (Itt K a) (Itl K a)
def CN(K:PySem.W.Frag):R2:=fun x y H Q=>∃l b xs zs,x=.ref l/\y=.ref b/\SqL K H l xs/\SqL K H b zs/\xs.length+zs.length<=sizeLine/\∀p,H p=none->Q (.ref p) (upd H p (.lst (xs++zs)))
theorem AF:OpR X (binaryOp .Add) (CN X.K):=by
 intro pins s σ H x y v u Q I rx ry h;obtain⟨l,b,xs,zs,rfl,rfl,hH,hB,hz,q⟩:=h;cases rx;cases ry;obtain⟨its,r,pl,hl⟩:=I.list hH;obtain⟨its2,r2,pl2,hl2⟩:=I.list hB;obtain⟨⟨cls,dd,data,sl⟩,ho,hc,n,hd⟩:=pl.isList;obtain⟨⟨cls2,dd2,data2,sl2⟩,ho2,hc2,n2,hd2⟩:=pl2.isList;simp only at hc hd hc2 hd2;subst hc hd hc2 hd2;have n1:=r.length;have n2':=r2.length;have ea:its.toArray++its2.toArray=(its++its2).toArray:=by simp
 have fin:EP X pins σ Q (.ref s.heap.objs.size) { s with heap:=s.heap.push { cls:=.type "list",data:=.seq (its.toArray++its2.toArray) } }:=by
  rw [ea];exact⟨.ref _,_,I.lnew (t':=s.toks) (r.append r2) (by rw [length_append];omega),rfl,q _ I.fresh⟩
 exact concat_meets ⟨_,ho,rfl⟩ ⟨_,ho2,rfl⟩ noFill_list_add seq_list_add PySem.F.slot_list_add PySem.F.entry_list_add (PySem.F.args_list_add_2 _ _) (list_addW l b its.toArray its2.toArray n n2 dd dd2 sl sl2 (by simp;omega)) ⟨ho,ho2,fin⟩
end
def tx(l:List Nat):V:=.str (S l)
def lh(n:Nat)(d:PyData):Prop:=d.canLay0=true/\d.depth<=n
theorem lh.shaped{n:Nat}{d:PyData}(h:lh n d)(hn:n<=64):SeqAt.shaped d=true:=by
 unfold SeqAt.shaped;rw [h.1,decide_eq_true (le_trans h.2 hn)];rfl
theorem rQ{n:Nat}:∀{ds:List PyData},(∀d∈ds,lh n d)->PyData.canLayAll0 ds=true/\PyData.depthAll ds<=n
 | [],_=>⟨rfl,zero_le _⟩
 | d::ds,h=>by
  obtain⟨a,b⟩:=rQ (ds:=ds) fun x hx=>h x (mem_cons_of_mem _ hx);obtain⟨c,e⟩:=h d mem_cons_self;simp only [PyData.canLayAll0,PyData.depthAll,a,c];exact⟨rfl,max_le.mpr ⟨e,b⟩⟩
theorem lh.list{n:Nat}{ds:List PyData}(h:∀d∈ds,lh n d):lh (n+1) (.list ds):=by
 obtain⟨a,b⟩:=rQ h;exact⟨by simp only [PyData.canLay0];exact a,by simp only [PyData.depth];omega⟩
theorem lh.tuple{n:Nat}{ds:List PyData}(h:∀d∈ds,lh n d):lh (n+1) (.tuple ds):=by
 obtain⟨a,b⟩:=rQ h;exact⟨by simp only [PyData.canLay0];exact a,by simp only [PyData.depth];omega⟩
theorem lh.int(i:Int):lh 0 (.int i):=⟨by simp [PyData.canLay0],by simp [PyData.depth]⟩
def Lts(l:List Nat):Prop:=∀c∈l,97<=c/\c<=122
theorem Lts.nil:Lts []:=fun c h=>nomatch h
theorem Lts.app{a b:List Nat}(x:Lts a)(y:Lts b):Lts (a++b):=fun c h=>(mem_append.mp h).elim (x c) (y c)
theorem Lts.one{c:Nat}(h:97<=c/\c<=122):Lts [c]:=fun d hd=>by
 have:d=c:=by simpa using hd
 subst this;exact h
theorem Lts.take{a:List Nat}(x:Lts a)(n:Nat):Lts (a.take n):=fun c h=>x c (mem_of_mem_take h)
theorem Lts.drop{a:List Nat}(x:Lts a)(n:Nat):Lts (a.drop n):=fun c h=>x c (mem_of_mem_drop h)
theorem Lts.rep{a:List Nat}(x:Lts a)(n:Int):Lts (pW a n):=fun c h=>by
 unfold pW at h;obtain⟨l,h1,h2⟩:=mem_flatten.mp h;rw [eq_of_mem_replicate h1] at h2;exact x c h2
theorem lh.str{l:List Nat}(h:Lts l):lh 0 (.str (S l)):=by
 refine⟨?_,by simp [PyData.depth]⟩;simp only [PyData.canLay0,PyData.strOk,S];rw [Array.all_eq_true];intro i hi;have:=h l[i] (getElem_mem _);simp only [getElem_toArray,decide_eq_true_eq];omega
theorem qu(ns:List Int):∀d∈ns.map PyData.int,lh 0 d:=fun d hd=>by
 obtain⟨i,_,rfl⟩:=mem_map.mp hd;exact lh.int i
theorem uH{ws:List (List Nat)}(h:∀w∈ws,Lts w):∀d∈ws.map (fun w=>PyData.str (S w)),lh 0 d:=fun d hd=>by
 obtain⟨i,hi,rfl⟩:=mem_map.mp hd;exact lh.str (h i hi)
theorem yt{d:PyData}(h:SeqAt.shaped d=true):PyData.eqv d d=true:=SeqAt.eqv_refl d (SeqAt.canLay_of_shaped h)
theorem lJ(p:Nat->Prop)(h0:p 0):∀n,0<n->∃k,k<n/\p k/\∀j,j<n->p j->j<=k
 | 0,h=>absurd h (by decide)
 | 1,_=>⟨0,by decide,h0,fun j hj _=>by omega⟩
 | n+2,_=>by
  obtain⟨k,h1,h2,h3⟩:=lJ p h0 (n+1) (by omega)
  by_cases c:p (n+1)
  .exact⟨n+1,by omega,c,fun j hj _=>by omega⟩
  .refine⟨k,by omega,h2,fun j hj hp=>?_⟩
   by_cases e:j=n+1
   .subst e;exact absurd hp c
   .exact h3 j (by omega) hp
section
variable {κ:Type} [DecidableEq κ]
def wx(kvs:List (κ×V))(k:κ)(v:V):List (κ×V) :=
 if (kvs.any fun kv=>decide (kv.1=k))=true then kvs.map (fun kv=>if kv.1=k then (kv.1,v) else kv) else kvs++[(k,v)]
theorem rR(kvs:List (κ×V))(k:κ)(v:V):(wx kvs k v).length<=kvs.length+1:=by
 unfold wx
 split
 .rw [length_map];omega
 .rw [length_append,length_cons,length_nil];omega
theorem KV.any{kvs:List (κ×V)}{vs:List (κ×Value)}(r:KV kvs vs)(k:κ):(kvs.any fun kv=>decide (kv.1=k))=vs.any fun kv=>decide (kv.1=k):=by
 unfold KV at r
 induction r with
 | nil=>rfl
 | cons h t ih=>rw [any_cons,any_cons,ih,h.1]
theorem KV.repl{kvs:List (κ×V)}{vs:List (κ×Value)}(r:KV kvs vs)(k:κ){y:V}{u:Value}(ry:dw y u) :
  KV (kvs.map fun kv=>if kv.1=k then (kv.1,y) else kv) (vs.map fun kv=>if kv.1=k then (kv.1,u) else kv):=by
 unfold KV at r ⊢
 induction r with
 | nil=>exact .nil
 | @cons p q ps qs h t ih =>
  rw [map_cons,map_cons];refine .cons ?_ ih;obtain⟨h1,h2⟩:=h
  by_cases e:p.1=k
  .rw [if_pos e,if_pos (h1.symm.trans e)];exact⟨h1,ry⟩
  .rw [if_neg e,if_neg (fun z=>e (h1.trans z))];exact⟨h1,h2⟩
theorem KV.put{kvs:List (κ×V)}{vs:List (κ×Value)}(r:KV kvs vs)(k:κ){y:V}{u:Value}(ry:dw y u):KV (wx kvs k y) (stored vs k u):=by
 unfold wx stored;rw [r.any k]
 by_cases e:(vs.any fun kv=>decide (kv.1=k))=true
 .rw [if_pos e,if_pos e];exact r.repl k ry
 .rw [if_neg e,if_neg e];exact Paired.snoc r ⟨rfl,ry⟩
theorem KV.length{kvs:List (κ×V)}{vs:List (κ×Value)}(r:KV kvs vs):kvs.length=vs.length:=Paired.length r
end
theorem Ej{P:Program}{w:World}{k:Key}{u:Value}(r:dw (kV k) u):(fC P w).is k u=true:=by
 cases k with
 | inl i=>obtain⟨t,e⟩:=(show ∃t,u=Value.int i t from r);subst e;exact rF P w i t
 | inr x=>obtain⟨t,e⟩:=(show ∃t,u=Value.str x t from r);subst e;exact rG P w x t
section
variable {P:Program}{w:World}{H:Hp}{h:Heap}{a:Addr}
theorem Ek{u:HO}(ok:HOk P w H h)(e:Rd H a u):cJ P w H h a u:=e.ok ok
theorem CO{kvs:List (Key×V)}(ok:HOk P w H h)(e:Rd H a (.dK kvs)):kvs.length<=sizeLine/\(a == sysModules)=false/\∃vs,KV kvs vs/\h.DictOf (fC P w) a vs :=
 show cJ P w H h a (.dK kvs) from Ek ok e
theorem El{kvs:List (Key×V)}(ok:HOk P w H h)(e:H a=some (.dK kvs)):kvs.length<=sizeLine/\(a == sysModules)=false/\∃vs,KV kvs vs/\h.DictOf (fC P w) a vs:=CO ok (.inl e)
end
section
variable {X:Cx}{pins:List (Addr×Obj)}{σ:St}{H:Hp}{s:Shared}{a:Addr}{y v:V}{u r:Value}{o:Option V}{A:Around}{E:Value->Shared->Prop}
theorem Inv.big(I:Inv X pins σ H s):sysModules<s.heap.objs.size:=by
 have h:mainGlobals<s.heap.objs.size:=(I.mod.glob.keeps I.bk).lt;exact lt_trans (by decide) h
theorem AG{h':Heap}{t':Nat}{ob:HO}(I:Inv X pins σ H s)(mu:Mut (H a))(hs:Heap.SameBut a s.heap h')(he:∃q,h'.get? a=some q)(new:cJ X.prog X.w (upd H a ob) h' a ob) :
  Inv X pins σ (upd H a ob) { s with heap:=h',toks:=t' } :=
 I.write (x:=a) (e:=a) mu (.inl rfl) (fun b q hb z=>(hs.2 b hb).trans z) he new
theorem CP{P:Program}{w:World}{H':Hp}{h':Heap}{kvs:List (Key×V)}{vs:List (Key×Value)}(z:kvs.length<=sizeLine)(hd:(a == sysModules)=false)(rel:KV kvs vs)(dd:h'.DictOf (fC P w) a vs) :
  cJ P w H' h' a (.dK kvs):=⟨z,hd,vs,rel,dd⟩
end
section
variable {X:Cx}{pins:List (Addr×Obj)}{σ:St}{H:Hp}{s:Shared}{a:Addr}{kvs:List (Key×V)}{k:Key}{u:Value}{A:Around}{E:Value->Shared->Prop}
theorem Em{Q:Value->Shared->Prop}(I:Inv X pins σ H s)(e:Rd H a (.dK kvs))(h:∀t s',Inv X pins σ H s'->Q (.int kvs.length t) s'):wpAny (model X.prog X.w) A (call (.builtin "len") [.ref a]) Q E s:=by
 obtain⟨z,hd,vs,rel,dd⟩:=CO I.hok e;refine call_len_dict hd dd (by rw [<- rel.length];rw [sizeLine_eq] at z;omega) ?_;rw [<- rel.length];exact h _ _ (I.tok _)
end
theorem tF{P:Program}{w:World}{H:Hp}(h:Heap)(hb:sysModules<h.objs.size):cJ P w H (h.push { cls:=.type "dict",data:=.dict #[] }) h.objs.size (.dK []) :=
 ⟨zero_le _,beq_eq_false_iff_ne.mpr (Ne.symm (ne_of_lt hb)),[],.nil,Heap.DictOf.new h⟩
def zt:TE:=fun _ H Q=>∀p,H p=none->Q (.ref p) (upd H p (.dK []))
section
variable {X:Cx}{pos:Pos}
theorem tG:PE X (.Dict [] [] pos) zt:=fun pins s σ H Q I h =>
 wpAny_Dict_empty ⟨.ref s.heap.objs.size,_,I.laid (a:=s.heap.objs.size) (o:=.dK []) (t':=s.toks) (fun _ _ q=>Heap.get?_push_of_some _ q) (Nat.le_refl _) (tF s.heap I.big),rfl,h _ (I.hok.fresh (Nat.le_refl _))⟩
end
def tH:List (TE×TE)->St->Hp->(List (V×V)->Hp->Prop)->Prop
 | [],_,H,Q=>Q [] H
 | (tk,tv)::r,σ,H,Q=>tk σ H fun x H1=>tv σ H1 fun y H2=>tH r σ H2 fun ps H3=>Q ((x,y)::ps) H3
abbrev VV:List (V×V)->List (Value×Value)->Prop:=Paired fun p q=>dw p.1 q.1/\dw p.2 q.2
def PPs(X:Cx)(pos:Pos)(keys:List (Option Expr))(values:List Expr)(trs:List (TE×TE)):Prop :=
 ∀(pins:List (Addr×Obj)) (s:Shared) (σ:St) (H:Hp) (Q:List (V×V)->Hp->Prop),Inv X pins σ H s->tH trs σ H Q ->
  wpAny (model X.prog X.w) X.A (evalPairs (pairTrees keys values X.env pos)) (fun vs s'=>∃ps H',Inv X pins σ H' s'/\VV ps vs/\Q ps H') X.xe s
theorem AH{X:Cx}{pos:Pos}:PPs X pos [] [] []:=fun pins s σ H Q I h=>pairTrees_nil_walk ⟨[],H,I,.nil,h⟩
theorem tI{X:Cx}{pos:Pos}{k v:Expr}{ks:List (Option Expr)}{vs:List Expr}{tk tv:TE}{trs:List (TE×TE)}(hk:PE X k tk)(hv:PE X v tv)(hr:PPs X pos ks vs trs) :
  PPs X pos (some k::ks) (v::vs) ((tk,tv)::trs):=fun pins s σ H Q I h =>
 pairTrees_cons_walk (thn (hk pins s σ H _ I h) fun u s1 ⟨x,H1,I1,rx,q1⟩=>thn (hv pins s1 σ H1 _ I1 q1) fun w2 s2 ⟨y,H2,I2,ry,q2⟩ =>
  thn (hr pins s2 σ H2 _ I2 q2) fun ws s3 ⟨ps,H3,I3,rel,q3⟩=>⟨(x,y)::ps,H3,I3,.cons ⟨rx,ry⟩ rel,q3⟩)
def kq(kvs more:List (Key×V)):List (Key×V):=more.foldl (fun acc kv=>wx acc kv.1 kv.2) kvs
theorem KV.merge:∀{more:List (Key×V)}{rs:List (Key×Value)}{kvs:List (Key×V)}{vs:List (Key×Value)},KV more rs->KV kvs vs->KV (kq kvs more) (merged vs rs):=by
 intro more rs kvs vs r;unfold KV at r
 induction r generalizing kvs vs with
 | nil=>intro q;exact q
 | @cons p q ps qs h t ih =>
  intro r0
  have e:KV (wx kvs p.1 p.2) (stored vs q.1 q.2):=by
   have:=r0.put p.1 h.2;rw [<- h.1];exact this
  exact ih e
theorem jp:∀(more kvs:List (Key×V)),(kq kvs more).length<=kvs.length+more.length
 | [],kvs=>by show kvs.length<=kvs.length+0;omega
 | p::r,kvs=>by
  have h1:=jp r (wx kvs p.1 p.2);have h2:=rR kvs p.1 p.2;show (kq (wx kvs p.1 p.2) r).length<=_;rw [length_cons];omega
theorem nq{P:Program}{w:World}:∀{kvs:List (Key×V)}{ws:List (Value×Value)},VV (kvs.map fun kv=>(kV kv.1,kv.2)) ws->∃rs,Carries (fC P w) ws rs/\KV kvs rs
 | [],_,r=>by rw [map_nil] at r;cases r;exact⟨[],True.intro,.nil⟩
 | p::kvs,_,r=>by
  rw [map_cons] at r
  cases r with
  | @cons a b as bs h t =>
   obtain⟨rs,c,q⟩:=nq (P:=P) (w:=w) t;obtain⟨b1,b2⟩:=b;exact⟨(p.1,b2)::rs,⟨Ej h.1,rfl,c⟩,.cons ⟨rfl,h.2⟩ q⟩
def CQ(trs:List (TE×TE)):TE:=fun σ H Q=>∀p,H p=none->tH trs σ (upd H p (.dK [])) fun ps H2=>H2 p=some (.dK [])/\∃kvs:List (Key×V),ps=kvs.map (fun kv=>(kV kv.1,kv.2))/\kvs.length<=15/\Q (.ref p) (upd H2 p (.dK (kq [] kvs)))
theorem AI{X:Cx}{pos:Pos}{keys:List (Option Expr)}{values:List Expr}{trs:List (TE×TE)}(h:PPs X pos keys values trs)(hall:keys.all (·.isSome)=true)(hl:keys.length=values.length)(h0:keys≠[])
  (h15:keys.length<=15):PE X (.Dict keys values pos) (CQ trs):=by
 intro pins s σ H Q I q;have hn:=I.hok.fresh (Nat.le_refl s.heap.objs.size);have I1:=I.laid (a:=s.heap.objs.size) (o:=.dK []) (h':=s.heap.push { cls:=.type "dict",data:=.dict #[] }) (t':=s.toks) (fun _ _ q=>Heap.get?_push_of_some _ q) (Nat.le_refl _) (tF s.heap I.big);refine wpAny_Dict_walk (knd:=fC X.prog X.w) hall hl h0 h15 (thn (h pins _ σ _ _ I1 (q _ hn)) fun ws s2 ⟨ps,H2,I2,rel,e,kvs,ep,lk,q2⟩=>?_)
 subst ep;obtain⟨rs,c,rk⟩:=nq (P:=X.prog) (w:=X.w) rel;obtain⟨z,hd,vs0,r0,dd⟩:=El I2.hok e;cases r0;refine⟨rs,c,dd,fun h' dd' hs=>⟨.ref s.heap.objs.size,_,?_,rfl,q2⟩⟩
 have hz:(kq [] kvs).length<=sizeLine:=by
  have h1:=jp kvs [];rw [length_nil] at h1;rw [sizeLine_eq];omega
 have he:∃q,h'.get? s.heap.objs.size=some q:=let ⟨q,_,_,hq,_⟩:=dd';⟨q,hq⟩
 exact AG I2 (by rw [e];exact True.intro) hs he (CP hz hd (rk.merge .nil) dd')
section
variable {X:Cx}
theorem li{x:Str}{i:Int}{pos:Pos}(hg:Gl X x)(h:∃t,X.mg x=some (.int i t))(hd:(x == ("__debug__":Str))=false:=by decide):PE X (.Name x pos) (tC (.int i)):=by
 obtain⟨t,e⟩:=h;exact z0 (u:=.int i t) hg e ⟨t,rfl⟩ hd
end
structure CS (P:Program) (w:World) (K:PySem.W.Frag) (mg:Str->Option Value) (base:Heap) (k:Nat) (x:Str) (ps:List Str) (dvs:List V) (sp:Sp):Prop where
 ex:∃(f:Addr) (fd:FuncData),p4 P w K mg base CX0 k f fd ps sp/\(∀n,n<=dvs.length->∃ds,cG (dvs.drop n) ds/\mD K fd ps ds)/\PySem.W.keepIn K (.ref f)=true/\mg x=some (.ref f)
structure tJ (K:PySem.W.Frag) (mg:Str->Option Value) (x:Str) (st:Stmt) (dvs:List V):Prop where
 ex:∃(f dT:Addr) (oc:Value) (od an dd:Option Addr) (kV doc pm cdv ct:Value) (osl sl:Array (Option Value)) (items:List Value) (n:Nat),
  K.lookup f=some ⟨oc,od,.func (PySem.W.fnOf x x (dk st) (cD st) (ar st) (.ref dT) kV doc pm an cdv ct),osl⟩/\PySem.W.codeIn K cdv x=true/\PySem.W.keepIn K (.ref f)=true/\mg x=some (.ref f) /\
  K.lookup dT=some ⟨.type "tuple",dd,.seq items.toArray n,sl⟩/\cG dvs items
section
variable {P:Program}{w:World}{K:PySem.W.Frag}{mg:Str->Option Value}{base:Heap}{x:Str}{st:Stmt}{N ps:List Str}{k:Nat}{sp:Sp}{dvs:List V}
theorem tJ.ok(D:tJ K mg x st dvs)(S:aH N ps (ar st))
  (hb:∀(dT:Addr) (kV doc pm:Value) (an:Option Addr) (cdv ct:Value) (items:List Value) (us:List Value) (n:Nat),items.length=dvs.length->n<=dvs.length->(us++items.drop n).length=ps.length ->
   ∃k,bindArgs (PySem.W.fnOf x x (dk st) (cD st) (ar st) (.ref dT) kV doc pm an cdv ct) ⟨us,[]⟩=seqItems? (.ref dT) >>= k/\k (some items.toArray)=pure (ps.zip (us++items.drop n)))
  (len:∀vs H Q E,sp vs H Q E->vs.length=ps.length)
  (hbody:∀(f:Addr) (cdv:Value) (A:Around) (outer:List Env) (s:Shared) (H:Hp) (vs:List V) (Q:VK) (E:XK),iI k (A.deeper (envOfC x (ar st) s.heap.objs.size f cdv))->sp vs H Q E ->
   ∃t,PSs (yg CX0 P w K mg base N x (ar st) f cdv A outer s H E).nox (cD st) t/\t { nx:=fun _ H'=>Q .non H',rt:=Q } (start N vs) H):CS P w K mg base (k+1) x ps dvs sp:=by
 obtain⟨f,dT,oc,od,an,dd,kV,doc,pm,cdv,ct,osl,sl,items,n,lk,hcd,kp,hm,lt,rv⟩:=D.ex;have hl:=rv.length
 refine⟨f,_,Ci lk hcd S len fun A outer s H vs Q E hr hsp=>?_,fun j hj=>⟨items.drop j,rv.drop j,fun s us X hlen=>?_⟩,kp,hm⟩
 .obtain⟨t,h,q⟩:=hbody f cdv A outer s H vs Q E hr hsp;exact⟨t,h.nox,q⟩
 .obtain⟨k,h1,h2⟩:=hb dT kV doc pm an cdv ct items us j hl.symm hj hlen;exact BindsTo.of_defaults rfl (X dT _ lt) rfl h1 h2
end
section
variable {X:Cx}{k:Nat}{x:Str}{ps:List Str}{sp:Sp}{p pos:Pos}{e:Expr}{es:List Expr}{t:TA}{dvs:List V}
theorem AJ(j:Nat)(C:CS X.prog X.w X.K X.mg X.base k x ps dvs sp)(hr:iI k X.A)(hj:j<=dvs.length)(ha:PA X (e::es) t)(hg:Gl X x:=by rfl)(hdb:(x == ("__debug__":Str))=false:=by decide)(he:starEach (e::es) X.env=(false,eval e X.env)::starEach es X.env:=by rfl)
  (hpl:(backTo pos (starEach es X.env)).any (·.1)=false:=by rfl):PE X (.Call (.Name x p) (e::es) [] pos) (fc sp (dvs.drop j) E0 t):=by
 obtain⟨f,fd,F,hb,hk,hm⟩:=C.ex;obtain⟨ds,rv,hb⟩:=hb j hj;exact vN F hr hg hm hk hb rv Av ha hdb he hpl
theorem CT{pins:List (Addr×Obj)}{σ:St}{H:Hp}{s:Shared}{x:V}{u t:Value}(I:Inv X pins σ H s)(rx:dw x u)(ty:pV X.K H x t) :
  ∃Hq:Heap->Prop,PySem.W.KitX X.K u t Hq/\Hq s.heap/\u≠.builtin "__main__.__loader__#opaque":=by
 cases ty with
 | non=>cases (show u=Value.none from rx);exact⟨_,PySem.W.kitx_none,True.intro,fun z=>nomatch z⟩
 | bl y=>cases (show u=Value.bool y from rx);exact⟨_,PySem.W.kitx_bool,True.intro,fun z=>nomatch z⟩
 | int i=>obtain⟨t,q⟩:=(show ∃t,u=Value.int i t from rx);cases q;exact⟨_,PySem.W.kitx_int,True.intro,fun z=>nomatch z⟩
 | str y=>obtain⟨t,q⟩:=(show ∃t,u=Value.str y t from rx);cases q;exact⟨_,PySem.W.kitx_str,True.intro,fun z=>nomatch z⟩
 | flt y=>obtain⟨t,q⟩:=(show ∃t,u=Value.float y t from rx);cases q;exact⟨_,PySem.W.kitx_float,True.intro,fun z=>nomatch z⟩
 | @lst a xs ea =>
  cases (show u=Value.ref a from rx);obtain⟨_,_,n,_,h1⟩:=(show cJ X.prog X.w H s.heap a (.lst xs) from I.hok a _ ea)
  exact⟨_,PySem.W.kitx_list,⟨_,h1,rfl⟩,fun z=>nomatch z⟩
 | @frz a ob xs ea =>
  cases (show u=Value.ref a from rx);obtain⟨_,_,_,n,_,h1⟩:=(show cJ X.prog X.w H s.heap a (.frz ob (.lst xs)) from I.hok a _ ea)
  exact⟨_,PySem.W.kitx_list,⟨_,h1,rfl⟩,fun z=>nomatch z⟩
 | @tup a xs ea =>
  cases (show u=Value.ref a from rx);obtain⟨_,_,_,p⟩:=(show cJ X.prog X.w H s.heap a (.tup xs) from I.hok a _ ea)
  obtain⟨o,h1,h2,_⟩:=p;exact⟨_,PySem.W.kitx_tuple,⟨o,h1,h2⟩,fun z=>nomatch z⟩
 | @dK a kvs ea =>
  cases (show u=Value.ref a from rx);obtain⟨_,_,vs,_,p⟩:=(show cJ X.prog X.w H s.heap a (.dK kvs) from I.hok a _ ea)
  obtain⟨o,es,ep,h1,h2,_⟩:=p;exact⟨_,PySem.W.kitx_dict,⟨o,h1,h2.1⟩,fun z=>nomatch z⟩
 | @dT a kvs ea =>
  cases (show u=Value.ref a from rx);obtain⟨_,_,xs,_,o,es,ep,h1,h2,_⟩:=(show cJ X.prog X.w H s.heap a (.dT kvs) from I.hok a _ ea)
  exact⟨_,PySem.W.kitx_dict,⟨o,h1,h2.1⟩,fun z=>nomatch z⟩
 | @ins a C dx fs ea cl ha hn htk hm =>
  cases (show u=Value.ref a from rx);obtain⟨mA,O,_⟩:=n5 I.hok ea;obtain⟨od,J,_⟩:=O.look;exact⟨_,PySem.W.kitx_own (cl.get _) cl.hd ha hn htk hm,J,fun z=>nomatch z⟩
theorem tK:∀{ts:List String}{us:List Value},cG (ts.map V.ty) us->us=ts.map Value.type
 | [],_,.nil=>rfl
 | t::ts,_,.cons r rr=>by rw [tK rr,show _=Value.type t from r];rfl
theorem qv:cC X (.builtin "isinstance") (fun xs H Q=>∃(x:V) (p:Addr) (ts:List String) (t:Value) (b:Bool),xs=[x,.ref p]/\pV X.K H x t/\H p=some (.tup (ts.map V.ty))/\PySem.W.kitAny X.K t (ts.map Value.type)=some b/\Q (.bl b) H):=by
 intro pins s σ H xs us Q I r h;obtain⟨x,p,ts,t,b,rfl,ty,hp,e,q⟩:=h;obtain⟨u,w',rfl,rx,ry⟩:=yb r;cases (show w'=Value.ref p from ry);obtain⟨Hq,Z,hq,hx⟩:=CT I rx ty;obtain⟨its,rv,⟨⟨cls,dd,data,sl⟩,ho,hc,n,hd⟩,_⟩:=I.tuple (SqT.of hp);simp only at hc hd;subst hc hd;exact PySem.W.kia_tup Z I.kIn hq ho (by rw [tK rv];exact e) hx fun tk=>⟨.bl b,H,I.tok _,rfl,q⟩
theorem CU:OpR X (compareOp .Is) (fun x y H Q=>∃b c,x=.bl b/\y=.bl c/\Q (.bl (decide (b=c))) H):=by
 intro pins s σ H x y v u Q I rx ry h;obtain⟨b,c,rfl,rfl,q⟩:=h;cases (show v=Value.bool b from rx);cases (show u=Value.bool c from ry);cases b <;> cases c <;> exact wpAny_pure (bF I q (by first|rfl|decide))
theorem om(bs:List Bool):(List.range bs.length).all (fun i=>bs.getD i false)=bs.all id:=by
 induction bs with
 | nil=>rfl
 | cons b bs ih=>rw [length_cons,range_succ_eq_map,all_cons,all_map,all_cons,<- ih];rfl
theorem oq(bs:List Bool):(List.range bs.length).any (fun i=>bs.getD i false)=bs.any id:=by
 induction bs with
 | nil=>rfl
 | cons b bs ih=>rw [length_cons,range_succ_eq_map,any_cons,any_map,any_cons,<- ih];rfl
theorem wy{bs:List Bool}{its:List Value}(r:cG (bs.map V.bl) its){i:Nat}{v:Value}(h:its.toArray[i]?=some v):v=.bool (bs.getD i false):=by
 have h':its[i]?=some v:=by simpa using h
 have hl:=r.length;rw [length_map] at hl;have hi:i<bs.length:=by have:=(List.getElem?_eq_some_iff.mp h').1;omega
 obtain⟨u,e1,e2⟩:=r.get (i:=i) (x:=V.bl bs[i]) (by rw [getElem?_map,getElem?_eq_getElem hi];rfl);rw [h'] at e1;cases e1;rw [show v=Value.bool bs[i] from e2,getD_eq_getElem?_getD,getElem?_eq_getElem hi];rfl
theorem yu(hc:X.calm=true):cC X (.builtin "all") (fun xs H Q=>∃(p:Addr) (bs:List Bool),xs=[.ref p]/\SqL X.K H p (bs.map V.bl)/\Q (.bl (bs.all id)) H):=by
 intro pins s σ H xs us Q I r h;obtain⟨p,bs,rfl,hS,q⟩:=h;obtain⟨u,rfl,ru⟩:=jm r;cases (show u=Value.ref p from ru);obtain⟨its,rv,pl,hz⟩:=I.list hS;have hl:=rv.length;rw [length_map] at hl;have hps:p<s.heap.objs.size:=let ⟨o,ho,_⟩:=pl.isList;Heap.lt_size ho
 obtain⟨f0,f1,f2,f3,f4,f5⟩:=I.fpOk (H':=H) (Nat.le_refl s.heap.objs.size) (I.hok.fresh (Nat.le_refl _))
 refine call_all_walk (wpAny_pyIter_list pl.isList ⟨s.heap.objs.size,_,_,its.toArray.size,_,_,fun i=>bs.getD i false,rfl,Walks.list (by exact I.ok.hd hc) s.heap.objs.size p (ne_of_lt hps) its.toArray,⟨⟨_,Heap.get?_push_size _ rfl,rfl,rfl⟩,pl.isList.push _⟩,fun i v s Q E hP hQ=>?_,fun h' tk hk=>?_⟩)
 .rw [wy rv hP];exact wpAny_truthy_bool hQ
 .have I1:Inv X pins σ H { s with heap:=s.heap.push { cls:=.type "list_iterator",data:=.fields #[.ref p,.int 0 0] } }:=I.kept (t':=s.toks) fun b o e=>Heap.get?_push_of_some _ e;have I2:=I1.turned (h':=h') (t':=tk) (it:=s.heap.objs.size) (fun b o hb e=>hk b o (by simpa using hb) e) f0 f1 f3 f4 f5;refine⟨.bl (bs.all id),H,I2,?_,q⟩;show Value.bool _=Value.bool _;rw [size_toArray,<- hl,om]
theorem yv(hc:X.calm=true):cC X (.builtin "any") (fun xs H Q=>∃(p:Addr) (bs:List Bool),xs=[.ref p]/\SqL X.K H p (bs.map V.bl)/\Q (.bl (bs.any id)) H):=by
 intro pins s σ H xs us Q I r h;obtain⟨p,bs,rfl,hS,q⟩:=h;obtain⟨u,rfl,ru⟩:=jm r;cases (show u=Value.ref p from ru);obtain⟨its,rv,pl,hz⟩:=I.list hS;have hl:=rv.length;rw [length_map] at hl;have hps:p<s.heap.objs.size:=let ⟨o,ho,_⟩:=pl.isList;Heap.lt_size ho
 obtain⟨f0,f1,f2,f3,f4,f5⟩:=I.fpOk (H':=H) (Nat.le_refl s.heap.objs.size) (I.hok.fresh (Nat.le_refl _))
 refine call_any_walk (wpAny_pyIter_list pl.isList ⟨s.heap.objs.size,_,_,its.toArray.size,_,_,fun i=>bs.getD i false,rfl,Walks.list (by exact I.ok.hd hc) s.heap.objs.size p (ne_of_lt hps) its.toArray,⟨⟨_,Heap.get?_push_size _ rfl,rfl,rfl⟩,pl.isList.push _⟩,fun i v s Q E hP hQ=>?_,fun h' tk hk=>?_⟩)
 .rw [wy rv hP];exact wpAny_truthy_bool hQ
 .have I1:Inv X pins σ H { s with heap:=s.heap.push { cls:=.type "list_iterator",data:=.fields #[.ref p,.int 0 0] } }:=I.kept (t':=s.toks) fun b o e=>Heap.get?_push_of_some _ e;have I2:=I1.turned (h':=h') (t':=tk) (it:=s.heap.objs.size) (fun b o hb e=>hk b o (by simpa using hb) e) f0 f1 f3 f4 f5;refine⟨.bl (bs.any id),H,I2,?_,q⟩;show Value.bool _=Value.bool _;rw [size_toArray,<- hl,oq]
end
section
variable {X:Cx}{o e f:Expr}{apos cpos:Pos}{td ty tx:TE}
theorem wz:cC X (.builtin "len") (fun xs H Q=>∃p kvs,xs=[.ref p]/\Rd H p (.dK kvs)/\Q (.int kvs.length) H):=by
 intro pins s σ H xs us Q I r h;obtain⟨p,kvs,rfl,hd,q⟩:=h;obtain⟨u,rfl,ru⟩:=jm r;cases (show u=Value.ref p from ru);exact Em I hd fun t s' I'=>⟨.int kvs.length,H,I',⟨t,rfl⟩,q⟩
end
def dB(K:PySem.W.Frag)(x:Str):Addr:=match PySem.W.nsIn K mainGlobals x with
 | some (some (.ref C))=>C
 | _=>0
theorem yw{K:PySem.W.Frag}{x:Str}{C:Addr}(h:PySem.W.nsIn K mainGlobals x=some (some (.ref C))):dB K x=C:=by unfold dB;rw [h]
structure CV (P:Program) (w:World) (K:PySem.W.Frag) (mg:Str->Option Value) (base:Heap) (k:Nat) (C:Addr) (x:Str) (ps:List Str) (sp:Sp):Prop where
 ex:∃(f:Addr) (fd:FuncData),p4 P w K mg base CX0 k f fd ps sp/\mD K fd ps []/\Mk K C f/\mg x=some (.ref C)
structure tL (K:PySem.W.Frag) (mg:Str->Option Value) (C:Addr) (x qual:Str) (st:Stmt):Prop where
 ex:∃(f:Addr) (fd:FuncData),Fun K "__init__" qual st f fd/\Mk K C f/\mg x=some (.ref C)
section
variable {P:Program}{w:World}{K:PySem.W.Frag}{mg:Str->Option Value}{base:Heap}{x m qual:Str}{C:Addr}{st:Stmt}{N ps:List Str}{k:Nat}{sp:Sp}
theorem tL.ok(D:tL K mg C x qual st)(S:aH N ps (ar st))
  (hb:∀(kV doc pm:Value) (an:Option Addr) (cdv ct:Value) (us:List Value),us.length=ps.length->bindArgs (PySem.W.fnOf "__init__" qual (dk st) (cD st) (ar st) .none kV doc pm an cdv ct) ⟨us,[]⟩=pure (ps.zip us))
  (len:∀vs H Q E,sp vs H Q E->vs.length=ps.length)
  (hbody:∀(f:Addr) (cdv:Value) (A:Around) (outer:List Env) (s:Shared) (H:Hp) (vs:List V) (Q:VK) (E:XK),iI k (A.deeper (envOfC qual (ar st) s.heap.objs.size f cdv))->sp vs H Q E ->
   ∃t,PSs (yg CX0 P w K mg base N qual (ar st) f cdv A outer s H E).nox (cD st) t/\t { nx:=fun _ H'=>Q .non H',rt:=Q } (start N vs) H):CV P w K mg base (k+1) C x ps sp:=by
 obtain⟨f,fd,F,hm,e⟩:=D.ex;exact⟨f,fd,F.ok S len fun cdv A outer s H vs Q E hr h=>hbody f cdv A outer s H vs Q E hr h,F.binds hb,hm,e⟩
end
section
variable {X:Cx}{k:Nat}{x m:Str}{C:Addr}{ps:List Str}{sp:Sp}{p pos apos:Pos}{o e:Expr}{es:List Expr}{ta:TE}{t:TA}
theorem AK(M:CV X.prog X.w X.K X.mg X.base k C x ps sp)(hr:iI (k+1) X.A)(ha:PA X (e::es) t)(hg:Gl X x:=by rfl)(hdb:(x == ("__debug__":Str))=false:=by decide)(he:starEach (e::es) X.env=(false,eval e X.env)::starEach es X.env:=by rfl)
  (hpl:(backTo pos (starEach es X.env)).any (·.1)=false:=by rfl):PE X (.Call (.Name x p) (e::es) [] pos) (ye C sp [] E0 t):=by
 obtain⟨f,fd,F,hb,hk,hm⟩:=M.ex;exact Al hk F hr hg hm hb .nil Av ha hdb he hpl
end
theorem wA{prog:Program}{w:World}{A:Around}(k:Bool)(hh:A.handled=none)(it a:Addr)(hne:a≠it)(its:Array Value) :
  Draws prog w A it [it,a] its.size (fun i v=>its[i]?=some v) (fun i h=>dn k h it a i/\fE k h a its) where
 live:=fun _ _ st=>let ⟨o,ho,_⟩:=st.1;⟨o,ho⟩
 frame:=fun _ _ _ st hk=>⟨st.1.mv fun o e=>hk it (by simp) o e,st.2.mv fun o e=>hk a (by simp) o e⟩
 item:=fun i s Q E hi st hQ=>by
  refine fj st.1 st.2 (x:=its[i]) (by simp [hi]) fun h' hit' hs'=>?_;exact hQ _ h' s.toks (by simp [hi]) ⟨hit',st.2.mv fun o e=>hs'.extBut _ o hne e⟩ hs'
 done:=fun s Q E st hE=>f7 hh st.1 st.2 (by simp) hE
def Ite(k:Bool)(K:PySem.W.Frag)(a:Addr):It :=
  ⟨fun i H=>∃xs x,Sq k K H a xs/\xs[i]?=some x,
   fun i H p H'=>∃T x,H T=none/\p=.ref T/\(∀xs,Sq k K H a xs->xs[i]?=some x)/\H'=upd H T (.tup [.int (i:Int),x]),
   fun i H=>∃xs,Sq k K H a xs/\xs.length<=i⟩
theorem wB{P:Program}{w:World}{K:PySem.W.Frag}{es:List Expr}{ct:Nat}{tp:Pos}{k:Bool}{a e it:Addr}(hei:e≠it) :
  zl P w K (.Tuple es ct tp) (Ite k K a) [e,it] e (fun n h=>(∃old,IsEnum h e it ((n:Nat):Int) old)/\dn k h it a n) where
 mem:=by simp
 obj:=fun n h st b hb=>by
  obtain⟨⟨old,he⟩,o1,g1,c1,d1⟩:=st;simp only [mem_cons,not_mem_nil,or_false] at hb
  rcases hb with rfl|rfl
  .exact⟨_,he,fun v q=>by cases q⟩
  .exact⟨_,g1,fun v q=>by rw [d1] at q;cases q⟩
 keep:=fun n h h' st kk=>by
  obtain⟨⟨old,he⟩,w1⟩:=st;exact⟨⟨old,kk e (by simp) _ he⟩,w1.mv fun o q=>kk it (by simp) o q⟩
 item:=by
  intro X hP hw hK hc n pins s σ H E I hf st hg;subst hP hw hK;obtain⟨xs,x,q1,hx⟩:=hg;obtain⟨⟨old,he⟩,w1⟩:=st;obtain⟨its,rv,p,_⟩:=I.row q1;obtain⟨ux,hux,rx⟩:=rv.get hx;have ne:=I.row_ne q1 (hf e (by simp));have ni:=I.row_ne q1 (hf it (by simp))
  have hlt:n<its.toArray.size:=by
   have:=(List.getElem?_eq_some_iff.mp hux).1;simpa using this
  have hhd:X.A.in1.handled=none:=by exact I.ok.hd hc
  refine wpAny_pyNext_enum_itemD (wA k hhd it a ni its.toArray) he ⟨w1,p⟩ hlt hei (by simp [hei,Ne.symm ne]) fun y h' tk hP ho hst ht hsz hk=>?_
  have hy:y=ux:=by
   have h1:its[n]?=some y:=by simpa using hP
   rw [hux] at h1;exact (Option.some.inj h1).symm
  subst hy;refine⟨_,rfl,wpAny_letOwnedTupleGo_enum ho fun g ge gs=>?_⟩;have lt:∀{b o},s.heap.get? b=some o->s.heap.objs.size≠b:=fun q=>ne_of_gt (Heap.lt_size q)
  have kp:∀b o,b∉[e,it]->s.heap.get? b=some o->g.get? b=some o:=fun b o hb q=>by
   simp only [mem_cons,not_mem_nil,or_false,not_or] at hb;exact gs.extBut _ _ hb.1 (hk b o hb.1 hb.2 q)
  have I2:Inv X pins σ (upd H s.heap.objs.size (.tup [.int (n:Int),x])) { s with heap:=g,toks:=tk+1 }:=I.yielded (ch:=[e,it]) (fun b hb=>hf b hb) (Nat.le_refl _) kp
   ⟨by show 2<=sizeLine;decide,[.int (n:Int) tk,y],.cons ⟨tk,rfl⟩ (.cons rx .nil),_,gs.extBut _ _ (lt he) ht,rfl,_,rfl⟩
  refine⟨.ref s.heap.objs.size,_,I2,rfl,⟨_,x,I.hok.fresh (Nat.le_refl _),rfl,fun xs' q=>by rw [I.row_inj q q1];exact hx,rfl⟩,⟨⟨y,by simpa using ge⟩,hst.1.mv fun o q=>gs.extBut _ o (Ne.symm hei) q⟩,fun b hb=>?_⟩
  rw [aE ?_]
  .exact (hf b hb).1
  .intro q;subst q;simp only [mem_cons,not_mem_nil,or_false] at hb;obtain⟨o1,g1,_⟩:=w1
   rcases hb with q|q
   .exact lt he q
   .exact lt g1 q
 done:=by
  intro X hP hw hK hc n pins s σ H E I hf st hg;subst hP hw hK;obtain⟨xs,q1,hend⟩:=hg;obtain⟨⟨old,he⟩,w1⟩:=st;obtain⟨its,rv,p,_⟩:=I.row q1;have e1:=rv.length;have ni:=I.row_ne q1 (hf it (by simp));have hhd:X.A.in1.handled=none:=by exact I.ok.hd hc
  obtain⟨f0,f1,f2,f3,f4,f5⟩:=hf it (by simp)
  -- the walk's end is wherever the row has no item
  have hT:s.TypeIs (.ref e) "enumerate":=⟨_,he,rfl⟩
  unfold pyNext
  refine wpAny_bind (wpAny_attempt (wpAny_callSpecial?_slot (name:=Str.ofString "__next__") hT F.slot_enumerate_next
   (wpAny_call_entry F.slot_enumerate_next hT F.entry_enumerate_next ?_ (F.args_enumerate_next_1 _))))
  show wpAny _ _ (field (.ref e) 2 >>= _) _ _ _;refine wpAny_bind (wpAny_field he rfl (x:=.ref it) rfl ?_);refine wpAny_bind (f7 hhd w1 p (by simp;omega) fun h' x he' hx'=>?_);obtain⟨o,ho,hcl⟩:=hx';refine wpAny_bind (wpAny_isInstance (T:="StopIteration") (b:=true) ⟨o,ho,hcl⟩ isSubtype_stop ?_);exact wpAny_pure ⟨rfl,I.turned (t':=s.toks) (fun b o hb q=>he' b o hb q) f0 f1 f3 f4 f5⟩
 self:=fun _ _ _ _ _ st h=>let ⟨⟨_,he⟩,_⟩:=st;wpAny_pyIter_enum he h
section
variable {P:Program}{w:World}{A:Around}{E:Value->Shared->Prop}{s:Shared}{k:Bool}
theorem yx(k:Bool)(a:Addr)(xs:Array Value):Meets (Builtin.«enumerate.__new__» ⟨[.type "enumerate",.ref a],[]⟩) (fun _ R s=>fE k s.heap a xs /\
   R (.ok (.ret (.ref (s.heap.push (kP k a)).objs.size))) { s with heap:=(s.heap.push (kP k a)).push { cls:=.type "enumerate",data:=.fields #[.none,.bool false,.ref s.heap.objs.size,rawInt 0,.none,.none] } }) :=
 .of_wp fun prog w A R s h=>by
  obtain⟨hp,g,d,tk,os⟩:=s;obtain⟨r1,h⟩:=h;have hsub:=sub_enumerate;have R1:fE k (Shared.heap ⟨hp,g,d,tk,os⟩) a xs:=r1;obtain⟨⟨cls,dd,data,sl⟩,ho,hc,n,hd⟩:=id r1;simp only at hc hd;subst hc hd
  wp_walk using AutoSeq1.wpAny_loadPart' ho
  refine wpAny_stack_any fun st=>wpAny_pure ?_
  split
  .rename_i c _ _ _ _ _
   cases (c == Value.type "enumerate")
   .wp_walk using AutoSeq1.wpAny_loadPart' ho,fM R1
    exact⟨_,rfl,h⟩
   .wp_walk using AutoSeq1.wpAny_loadPart' ho,fM R1
    exact⟨_,rfl,h⟩
  .wp_walk using AutoSeq1.wpAny_loadPart' ho,fM R1
   exact⟨_,rfl,h⟩
theorem yz{a:Addr}{xs:Array Value}{Q:Value->Shared->Prop}(r1:fE k s.heap a xs)
  (h:∀h',IsEnum h' (s.heap.objs.size+1) s.heap.objs.size 0 .none->dn k h' s.heap.objs.size a 0->(∀b o,s.heap.get? b=some o->h'.get? b=some o)->Q (.ref (s.heap.objs.size+1)) { s with heap:=h' }) :
  wpAny (model P w) A (call (.type "enumerate") [.ref a]) Q E s:=by
 refine callType_new F.called_enumerate (by decide) (F.typeCall_enumerate_1 _) (F.newCall_enumerate_1 _) (fun obj=>F.args_object_init_2 obj _) F.entry_enumerate_new (yx k a xs) ⟨r1,?_⟩;have z1:(s.heap.push (kP k a)).objs.size=s.heap.objs.size+1:=Heap.size_push ..;have g2:((s.heap.push (kP k a)).push { cls:=.type "enumerate",data:=.fields #[.none,.bool false,.ref s.heap.objs.size,rawInt 0,.none,.none] }).get? (s.heap.push (kP k a)).objs.size=some _:=Heap.get?_push_size _ rfl
 have g1:=Heap.get?_push_of_some { cls:=.type "enumerate",data:=.fields #[.none,.bool false,.ref s.heap.objs.size,rawInt 0,.none,.none] } (Heap.get?_push_size s.heap (o:=kP k a) rfl);show _/\_;rw [z1] at g2 ⊢;exact⟨⟨_,g2,rfl⟩,h _ g2 ⟨_,g1,rfl,rfl⟩ fun b o q=>Heap.get?_push_of_some _ (Heap.get?_push_of_some _ q)⟩
end
section
variable {X:Cx}{es:List Expr}{ct:Nat}{tp:Pos}
def AL(K:PySem.W.Frag)(ta:TA):TI:=fun σ H R=>ta σ H fun vs H1=>∃k a,vs=[.ref a]/\(∃xs,Sq k K H1 a xs)/\R (Ite k K a) H1
theorem AM{a:Expr}{ta:TA}{p pos:Pos}(hg:Gl X "enumerate")(hm:X.mg "enumerate"=none)(ha:PA X [a] ta)(hs:starEach [a] X.env=[(false,eval a X.env)]:=by rfl) :
  PI X (.Tuple es ct tp) (.Call (.Name "enumerate" p) [a] [] pos) (AL X.K ta):=by
 intro pins s σ H R I h;refine Call_ (kn I hg hm boot_enumerate (PyProof.Rows.callWith_type1 (thn (ha pos pins s σ H _ I h) fun us s1 ⟨vs,H1,I1,r1,q1⟩=>?_) hs rfl));obtain⟨k,a,e,⟨xs,q1⟩,q⟩:=q1;subst e
 cases r1 with
 | cons r rr =>
  cases rr;cases r;obtain⟨its,rv,p,_⟩:=I1.row q1;refine yz p fun h' g1 g2 kk=>wpAny_pyIter_enum g1 ?_;have I2:Inv X pins σ H1 { s1 with heap:=h',toks:=s1.toks }:=I1.kept kk;refine⟨s1.heap.objs.size+1,[s1.heap.objs.size+1,s1.heap.objs.size],_,_,H1,rfl,I2,wB (k:=k) (a:=a) (it:=s1.heap.objs.size) (ne_of_gt (lt_succ_self _)),⟨⟨_,g1⟩,g2⟩,fun b hb=>?_,q⟩
  have hle:s1.heap.objs.size<=b:=by
   simp only [mem_cons,not_mem_nil,or_false] at hb
   rcases hb with e|e
   .rw [e];exact le_add_right _ _
   .rw [e];exact Nat.le_refl _
  exact I1.fpOk hle (I1.hok.fresh hle)
end
section
variable {X:Cx}
theorem nr(ns:List Int):∀k,k<=ns.length->preSum (fun i=>ns.getD i 0) k=(ns.take k).sum
 | 0,_=>rfl
 | k+1,h=>by
  rw [preSum,nr ns k (by omega),take_add_one,getElem?_eq_getElem (by omega),sum_append,getD_eq_getElem?_getD,getElem?_eq_getElem (by omega)];simp
theorem wC(hc:X.calm=true):cC X (.builtin "sum") (fun xs H Q=>∃(p:Addr) (ns:List Int),xs=[.ref p]/\SqL X.K H p (ns.map V.int)/\Q (.int ns.sum) H):=by
 intro pins s σ H xs us Q I r h;obtain⟨p,ns,rfl,hS,q⟩:=h;obtain⟨u,rfl,ru⟩:=jm r;cases (show u=Value.ref p from ru);obtain⟨its,rv,pl,hz⟩:=I.list hS;have hi:=uA rv;have hl:=pl.isList;obtain⟨ys,e⟩:=hi.allInts.items;have hns:ns=ys.toList.map (·.1):=by rw [<- hi.numsOf,<- nums_intItems,<- e]
 rw [e] at hl;refine sum_intListG (by exact I.ok.hd hc) hl fun h' tk t' hk=>⟨.int ns.sum,H,I.kept (t':=tk) hk,⟨t',?_⟩,q⟩
 have hlen:ys.size=ns.length:=by rw [hns,length_map,Array.length_toList]
 have hnum:numAt ys=fun i=>ns.getD i 0:=by
  funext i;rw [numAt_eq,hns]
 rw [hnum,hlen,nr ns ns.length (Nat.le_refl _),take_length]
theorem wD:∀{ws:List (List Nat)}{us:List Value},cG (ws.map tx) us->StrsAre us (ws.map S)
 | [],_,.nil=>.nil
 | w::ws,_,.cons r rr=>by
  obtain⟨t,e⟩:=r;subst e;exact .cons _ _ (wD rr)
end
section
variable {X:Cx}{es:List Expr}{ct:Nat}{tp:Pos}
def En(K:PySem.W.Frag)(ta:TA):TI:=fun σ H R=>ta σ H fun vs H1=>∃k l a c,vs=[.ref a,.ref c]/\(∃xs ys,Sq k K H1 a xs/\Sq l K H1 c ys)/\R (Itz k l K a c) H1
end
section
variable {X:Cx}{e:Expr}{ta:TE}{f:Str}{pos:Pos}
theorem dL(K:PySem.W.Frag)(eK:X.K=K)(he:PE X e ta)(hb:attributeBase e f X.env (eval e X.env)=eval e X.env):PE X (.Attribute e f pos) (zn K ta f):=eK ▸ Cg he hb
def Ep(K:PySem.W.Frag):List V->Hp->VK->Prop:=fun xs H Q=>∃p ys,xs=[.ref p]/\SqL K H p ys/\Q (.int ys.length) H
def Er(K:PySem.W.Frag):List V->Hp->VK->Prop:=fun xs H Q=>∃p ys,xs=[.ref p]/\SqT K H p ys/\Q (.int ys.length) H
def Fp(K:PySem.W.Frag):List V->Hp->VK->Prop:=fun xs H Q=>∃x n t b,xs=[x,.ty n]/\pV K H x t/\PySem.W.kitOne K t (.type n)=some b/\Q (.bl b) H
def ot(K:PySem.W.Frag):List V->Hp->VK->Prop:=fun xs H Q=>∃p ys,xs=[.ref p]/\(SqL K H p ys\/SqT K H p ys)/\∀l,H l=none->Q (.ref l) (upd H l (.lst ys))
end
section
variable {X:Cx}{o e:Expr}{es:List Expr}{to:TE}{t:TA}{name:Str}{apos cpos:Pos}{T id:String}{r:V->List V->Hp->VK->Prop}
theorem jq(K:PySem.W.Frag)(eK:X.K=K)(pa:PlainAttrs T)(slot:Slot T name id)(hty:typeOf (.builtin id)=pure (.type "method_descriptor"))(hm:MtR X id r)(ho:PE X o to)(ha:PA X (e::es) t)
  (hbase:attributeBase o name X.env (eval o X.env)=eval o X.env:=by rfl)
  (hfew:((backTo cpos (starEach (e::es) X.env)).all (fun x=>!x.1) && (backToKw cpos (keywordEach [] X.env)).all (fun x=>x.1.isSome)
   && decide ((e::es).length+([]:List Keyword).length+(if ([]:List Keyword).isEmpty then 0 else 1)<30))=true:=by rfl)
  (hline:(apos.endLine == cpos.line)=true:=by rfl) (hs:starEach (e::es) X.env=(false,eval e X.env)::starEach es X.env:=by rfl) (hplain:(backTo cpos (starEach es X.env)).any (·.1)=false:=by rfl) :
  PE X (.Call (.Attribute o name apos) (e::es) [] cpos) (tBM K T r to t):=eK ▸ Ee pa slot hty hm ho ha hbase hfew hline hs hplain
end
def ji(c:Bool)(A B:Prop):Prop:=match c with|true=>A|false=>B
theorem xV{c:Bool}{A B:Prop}(h1:c=true->A)(h2:c=false->B):ji c A B:=by
 cases c with
 | true=>exact h1 rfl
 | false=>exact h2 rfl
theorem c5{p:Prop}[Decidable p]{A B:Prop}(h1:p->A)(h2:¬ p->B):ji (decide p) A B:=xV (fun h=>h1 (of_decide_eq_true h)) (fun h=>h2 (of_decide_eq_false h))
theorem mF{p:Prop}[Decidable p]{A B:Prop}(h1:¬ p->A)(h2:p->B):ji (!decide p) A B:=xV (fun h=>h1 fun z=>by rw [decide_eq_true z] at h;cases h) (fun h=>h2 (by
 by_cases z:p
 .exact z
 .rw [decide_eq_false z] at h;cases h))
theorem Es{p:Prop}[Decidable p]{A B:Prop}(h:p)(hA:A):ji (decide p) A B:=c5 (fun _=>hA) (fun z=>absurd h z)
theorem Et{p:Prop}[Decidable p]{A B:Prop}(h:¬ p)(hB:B):ji (decide p) A B:=c5 (fun z=>absurd z h) (fun _=>hB)
theorem CW{p:Prop}[Decidable p]{A B:Prop}(h:¬ p)(hA:A):ji (!decide p) A B:=mF (fun _=>hA) (fun z=>absurd z h)
theorem CY{p:Prop}[Decidable p]{A B:Prop}(h:p)(hB:B):ji (!decide p) A B:=mF (fun z=>absurd h z) (fun _=>hB)
theorem iY{c:Bool}{A B:Prop}(h:ji c B A):ji (!c) A B:=by
 cases c <;> exact h
theorem FG{c:Bool}{A B:Prop}(h:c=true)(hA:A):ji c A B:=by subst h;exact hA
theorem FH{c:Bool}{A B:Prop}(h:c=false)(hB:B):ji c A B:=by subst h;exact hB
theorem Eu{c:Bool}{A B:Prop}(h:c=false)(hA:A):ji (!c) A B:=by subst h;exact hA
theorem AN{c:Bool}{A B:Prop}(h:c=true)(hB:B):ji (!c) A B:=by subst h;exact hB
inductive D where
 | non|bl (b:Bool)|int (i:Int)|str (l:List Nat)|ty (n:String)
 | lst (ds:List D)|tup (ds:List D)|scr (ns:List Int)|dic (ks:List Key) (ds:List D)|obj (c:Str) (ns:List Str) (ds:List D)|exc (c:Str) (ns:List Str) (ds:List D)
def XAt(x C:Addr)(dd:Option Addr)(new:Bool)(h:Heap):Prop:=∃o vs,h.get? x=some o/\o.cls=.ref C/\o.dict=dd/\o.data=.fields vs/\1<vs.size/\(new=true->vs[1]?=some .none)
def cP(A:Addr->Prop)(a:Addr):Addr->Prop:=fun b=>A b\/b=a
def BF(K:PySem.W.Frag)(O:Addr->Prop)(H:Hp)(a:Addr)(xs:List V):Prop :=
 (¬ O a/\Rd H a (.lst xs))\/∃(o:Obj) (its:Array Value) (n:Nat),K.lookup a=some o/\o.cls=.type "list"/\o.dict=none/\o.data=.seq its n/\its.size<=sizeLine/\cG xs its.toList
theorem BF.sq{K:PySem.W.Frag}{O:Addr->Prop}{H:Hp}{a:Addr}{xs:List V}(h:BF K O H a xs):SqL K H a xs:=h.elim (fun z=>.inl z.2) .inr
def aL(O:Addr->Prop)(H:Hp)(O':Addr->Prop)(H':Hp):Prop:=∀b o,¬ O b->H b=some o->¬ O' b/\H' b=some o
theorem Rd.keeps{O O':Addr->Prop}{H H':Hp}{a:Addr}{u:HO}(k:aL O H O' H')(n:¬ O a)(r:Rd H a u):¬ O' a/\Rd H' a u:=by
 rcases r with e|⟨o,e⟩
 .exact⟨(k _ _ n e).1,.inl (k _ _ n e).2⟩
 .exact⟨(k _ _ n e).1,.inr ⟨o,(k _ _ n e).2⟩⟩
theorem BF.keeps{K:PySem.W.Frag}{O O':Addr->Prop}{H H':Hp}{a:Addr}{xs:List V}(k:aL O H O' H')(h:BF K O H a xs):BF K O' H' a xs:=by
 rcases h with ⟨n,r⟩|r
 .exact .inl (r.keeps k n)
 .exact .inr r
mutual
inductive FV (K:PySem.W.Frag) (O:Addr->Prop) (H:Hp):V->D->Prop
 | non:FV K O H .non .non
 | bl (b:Bool):FV K O H (.bl b) (.bl b)
 | int (i:Int):FV K O H (.int i) (.int i)
 | str (l:List Nat):l.length<=1000000->FV K O H (.str (S l)) (.str l)
 | ty (n:String):FV K O H (.ty n) (.ty n)
 | scr {a:Addr}{ns:List Int}:BF K O H a (ns.map V.int)->FV K O H (.ref a) (.scr ns)
 | lst {a:Addr}{xs:List V}{ds:List D}:¬ O a->H a=some (.lst xs)->FVs K O H xs ds->FV K O H (.ref a) (.lst ds)
 | tup {a:Addr}{xs:List V}{ds:List D}:¬ O a->H a=some (.tup xs)->FVs K O H xs ds->FV K O H (.ref a) (.tup ds)
 | dic {a:Addr}{kvs:List (Key×V)}{ks:List Key}{ds:List D}:¬ O a->H a=some (.dK kvs)->kvs.map Prod.fst=ks->FVs K O H (kvs.map Prod.snd) ds->FV K O H (.ref a) (.dic ks ds)
 | obj {a dx:Addr}{c:Str}{fs:List (Str×V)}{ns:List Str}{ds:List D}:¬ O a->H a=some (.ins (dB K c) dx fs)->fs.map Prod.fst=ns->FVs K O H (fs.map Prod.snd) ds->FV K O H (.ref a) (.obj c ns ds)
 | exc0 {a:Addr}{c:Str}{new:Bool}:¬ O a->H a=some (.ext (XAt a (dB K c) none new))->FV K O H (.ref a) (.exc c [] [])
 | exc1 {a dx:Addr}{c:Str}{new:Bool}{fs:List (Str×V)}{ns:List Str}{ds:List D}:¬ O a->¬ O dx->H a=some (.ext (XAt a (dB K c) (some dx) new))->H dx=some (.xd fs)->fs.map Prod.fst=ns->FVs K O H (fs.map Prod.snd) ds->FV K O H (.ref a) (.exc c ns ds)
inductive FVs (K:PySem.W.Frag) (O:Addr->Prop) (H:Hp):List V->List D->Prop
 | nil:FVs K O H [] []
 | cons {x:V}{d:D}{xs:List V}{ds:List D}:FV K O H x d->FVs K O H xs ds->FVs K O H (x::xs) (d::ds)
end
section
variable {K:PySem.W.Frag}{O O':Addr->Prop}{H H':Hp}
mutual
theorem FV.keeps(k:aL O H O' H'):∀{v:V}{d:D},FV K O H v d->FV K O' H' v d
 | _,_,.non=>.non
 | _,_,.bl b=>.bl b
 | _,_,.int i=>.int i
 | _,_,.str l h=>.str l h
 | _,_,.ty n=>.ty n
 | _,_,.scr s=>.scr (s.keeps k)
 | _,_,.lst n e f=>.lst (k _ _ n e).1 (k _ _ n e).2 (FVs.keeps k f)
 | _,_,.tup n e f=>.tup (k _ _ n e).1 (k _ _ n e).2 (FVs.keeps k f)
 | _,_,.dic n e m f=>.dic (k _ _ n e).1 (k _ _ n e).2 m (FVs.keeps k f)
 | _,_,.obj n e m f=>.obj (k _ _ n e).1 (k _ _ n e).2 m (FVs.keeps k f)
 | _,_,.exc0 n e=>.exc0 (k _ _ n e).1 (k _ _ n e).2
 | _,_,.exc1 n n2 e e2 m f=>.exc1 (k _ _ n e).1 (k _ _ n2 e2).1 (k _ _ n e).2 (k _ _ n2 e2).2 m (FVs.keeps k f)
theorem FVs.keeps(k:aL O H O' H'):∀{vs:List V}{ds:List D},FVs K O H vs ds->FVs K O' H' vs ds
 | _,_,.nil=>.nil
 | _,_,.cons a b=>.cons (FV.keeps k a) (FVs.keeps k b)
end
theorem FVs.length:∀{vs:List V}{ds:List D},FVs K O H vs ds->vs.length=ds.length
 | _,_,.nil=>rfl
 | _,_,.cons _ b=>by rw [length_cons,length_cons,b.length]
theorem FVs.get:∀{vs:List V}{ds:List D}{i:Nat}{v:V},FVs K O H vs ds->vs[i]?=some v->∃d,ds[i]?=some d/\FV K O H v d
 | _,_,0,_,.cons a _,e=>by simp at e;subst e;exact⟨_,rfl,a⟩
 | _,_,i+1,v,.cons _ b,e=>by
  obtain⟨d,h1,h2⟩:=b.get (i:=i) (v:=v) (by simpa using e);exact⟨d,by simpa using h1,h2⟩
theorem FVs.getD:∀{vs:List V}{ds:List D}{i:Nat}{d:D},FVs K O H vs ds->ds[i]?=some d->∃v,vs[i]?=some v/\FV K O H v d
 | _,_,0,_,.cons a _,e=>by simp at e;subst e;exact⟨_,rfl,a⟩
 | _,_,i+1,v,.cons _ b,e=>by
  obtain⟨d,h1,h2⟩:=b.getD (i:=i) (d:=v) (by simpa using e);exact⟨d,by simpa using h1,h2⟩
theorem FVs.append:∀{vs ws:List V}{ds es:List D},FVs K O H vs ds->FVs K O H ws es->FVs K O H (vs++ws) (ds++es)
 | _,_,_,_,.nil,s=>s
 | _,_,_,_,.cons a b,s=>.cons a (b.append s)
theorem FVs.set{v:V}{d:D}(f:FV K O H v d):∀{vs:List V}{ds:List D} (i:Nat),FVs K O H vs ds->FVs K O H (vs.set i v) (ds.set i d)
 | _,_,_,.nil=>.nil
 | _,_,0,.cons _ t=>.cons f t
 | _,_,i+1,.cons q t=>.cons q (FVs.set f i t)
theorem FVs.take:∀{vs:List V}{ds:List D} (n:Nat),FVs K O H vs ds->FVs K O H (vs.take n) (ds.take n)
 | _,_,0,_=>.nil
 | _,_,_+1,.nil=>.nil
 | _,_,n+1,.cons r t=>.cons r (t.take n)
theorem FVs.drop:∀{vs:List V}{ds:List D} (n:Nat),FVs K O H vs ds->FVs K O H (vs.drop n) (ds.drop n)
 | _,_,0,r=>r
 | _,_,_+1,.nil=>.nil
 | _,_,n+1,.cons _ t=>t.drop n
theorem FVs.ints:∀{vs:List V}{ns:List Int},FVs K O H vs (ns.map D.int)->vs=ns.map V.int
 | _,[],.nil=>rfl
 | _,n::r,h=>by
  cases h with
  | cons a b=>cases a;rw [FVs.ints b];rfl
theorem FVs.of_ints:∀ns:List Int,FVs K O H (ns.map V.int) (ns.map D.int)
 | []=>.nil
 | n::r=>.cons (.int n) (FVs.of_ints r)
theorem FVs.strs:∀{vs:List V}{ws:List (List Nat)},FVs K O H vs (ws.map D.str)->vs=ws.map tx
 | _,[],.nil=>rfl
 | _,n::r,h=>by
  cases h with
  | cons a b=>cases a;rw [FVs.strs b];rfl
theorem FVs.bls:∀{vs:List V}{bs:List Bool},FVs K O H vs (bs.map D.bl)->vs=bs.map V.bl
 | _,[],.nil=>rfl
 | _,n::r,h=>by
  cases h with
  | cons a b=>cases a;rw [FVs.bls b];rfl
end
inductive PV where
 | dat (d:D)|own (ds:List D)|ins (c:Str) (ns:List Str) (ds:List D)
def PV.isOwn:PV->Bool
 | .dat _=>false
 | _=>true
def PV.d:PV->D
 | .dat d=>d
 | .own ds=>.lst ds
 | .ins c ns ds=>.obj c ns ds
abbrev PSt:=List (Option PV)
def Wr(ρ:PSt)(σ:St)(b:Addr):Prop:=∃(i:Nat) (p:PV),ρ[i]?=some (some p)/\p.isOwn=true/\σ[i]?=some (some (.ref b))
def OO(A:Addr->Prop)(ρ:PSt)(σ:St)(b:Addr):Prop:=A b\/Wr ρ σ b
def RS(K:PySem.W.Frag)(O:Addr->Prop)(H:Hp):PV->V->Prop
 | .dat d,v=>FV K O H v d
 | .own ds,v=>∃a xs,v=.ref a/\H a=some (.lst xs)/\FVs K O H xs ds
 | .ins c ns ds,v=>∃a dx fs,v=.ref a/\H a=some (.ins (dB K c) dx fs)/\fs.map Prod.fst=ns/\FVs K O H (fs.map Prod.snd) ds
structure Rel (K:PySem.W.Frag) (A:Addr->Prop) (ρ:PSt) (σ:St) (H:Hp):Prop where
 len:ρ.length=σ.length
 get:∀(i:Nat) (p:PV),ρ[i]?=some (some p)->∃v,σ[i]?=some (some v)/\RS K (OO A ρ σ) H p v
 dj:∀(i j:Nat) (p q:PV) (v:V),ρ[i]?=some (some p)->ρ[j]?=some (some q)->p.isOwn=true->q.isOwn=true->σ[i]?=some (some v)->σ[j]?=some (some v)->i=j
 dom:∀b,A b->H b≠none
 sep:∀b,A b->¬ Wr ρ σ b
structure Fr (ρ:PSt) (σ:St) (H:Hp) (ρ':PSt) (H':Hp):Prop where
 kp:∀b o,¬ Wr ρ σ b->H b=some o->H' b=some o
 dm:∀b,H b≠none->H' b≠none
 ow:∀b,Wr ρ' σ b->Wr ρ σ b
theorem Fr.refl(ρ:PSt)(σ:St)(H:Hp):Fr ρ σ H ρ H:=⟨fun _ _ _ h=>h,fun _ h=>h,fun _ h=>h⟩
theorem Fr.trans{ρ ρ1 ρ2:PSt}{σ:St}{H H1 H2:Hp}(a:Fr ρ σ H ρ1 H1)(b:Fr ρ1 σ H1 ρ2 H2):Fr ρ σ H ρ2 H2 :=
 ⟨fun c o n h=>b.kp c o (fun z=>n (a.ow c z)) (a.kp c o n h),fun c h=>b.dm c (a.dm c h),fun c h=>a.ow c (b.ow c h)⟩
theorem Fr.keeps{ρ ρ':PSt}{σ:St}{H H':Hp}{A:Addr->Prop}(f:Fr ρ σ H ρ' H'):aL (OO A ρ σ) H (OO A ρ' σ) H':=fun b o n h =>
 ⟨fun z=>z.elim (fun z=>n (.inl z)) (fun z=>n (.inr (f.ow b z))),f.kp b o (fun z=>n (.inr z)) h⟩
theorem Fr.new{ρ:PSt}{σ:St}{H:Hp}{p:Addr}{o:HO}(h:H p=none):Fr ρ σ H ρ (upd H p o) :=
 ⟨fun b u _ e=>by rw [aE (a8 e h)];exact e,fun b e=>by
  by_cases z:b=p
  .rw [z,aJ];exact nofun
  .rw [aE z];exact e,fun _ h=>h⟩
theorem aL.fresh{O:Addr->Prop}{H:Hp}{p:Addr}{o:HO}(h:H p=none):aL O H (cP O p) (upd H p o):=fun b u n e =>
 ⟨fun z=>z.elim n (fun z=>by rw [z,h] at e;cases e),by rw [aE (a8 e h)];exact e⟩
theorem aL.less{O O':Addr->Prop}{H:Hp}(h:∀b,O' b->O b):aL O H O' H:=fun b o n e=>⟨fun z=>n (h b z),e⟩
theorem RS.keeps{K:PySem.W.Frag}{O O':Addr->Prop}{H H':Hp}{p:PV}{v:V}(k:aL O H O' H')(w:p.isOwn=true->∀a,v=.ref a->H' a=H a)(h:RS K O H p v):RS K O' H' p v:=by
 cases p with
 | dat d=>exact FV.keeps k h
 | own ds =>
  obtain⟨a,xs,e,g,f⟩:=h;exact⟨a,xs,e,by rw [w rfl a e];exact g,f.keeps k⟩
 | ins c ns ds =>
  obtain⟨a,dx,fs,e,g,m,f⟩:=h;exact⟨a,dx,fs,e,by rw [w rfl a e];exact g,m,f.keeps k⟩
theorem RS.ref{K:PySem.W.Frag}{O:Addr->Prop}{H:Hp}{p:PV}{v:V}(h:RS K O H p v)(o:p.isOwn=true):∃a u,v=.ref a/\H a=some u:=by
 cases p with
 | dat d=>cases o
 | own ds=>obtain⟨a,xs,e,g,f⟩:=h;exact⟨a,_,e,g⟩
 | ins c ns ds=>obtain⟨a,dx,fs,e,g,m,f⟩:=h;exact⟨a,_,e,g⟩
theorem Rel.wr{K:PySem.W.Frag}{A:Addr->Prop}{ρ:PSt}{σ:St}{H:Hp}(R:Rel K A ρ σ H){b:Addr}(h:Wr ρ σ b):H b≠none:=by
 obtain⟨i,p,e,o,s⟩:=h;obtain⟨v,s',r⟩:=R.get i p e;rw [s] at s';cases s';obtain⟨a,u,e1,e2⟩:=r.ref o;cases e1;rw [e2];exact nofun
theorem Rel.oo{K:PySem.W.Frag}{A:Addr->Prop}{ρ:PSt}{σ:St}{H:Hp}(R:Rel K A ρ σ H){b:Addr}(h:H b=none):¬ OO A ρ σ b:=fun z=>z.elim (fun z=>R.dom b z h) (fun z=>R.wr z h)
theorem Rel.grow{K:PySem.W.Frag}{A:Addr->Prop}{ρ:PSt}{σ:St}{H:Hp}(R:Rel K A ρ σ H){p:Addr}{o:HO}(h:H p=none):Rel K A ρ σ (upd H p o):=by
 have k:aL (OO A ρ σ) H (OO A ρ σ) (upd H p o):=Fr.keeps (Fr.new h);refine⟨R.len,fun i q e=>?_,R.dj,fun b z=>(Fr.new (ρ:=ρ) (σ:=σ) h).dm b (R.dom b z),R.sep⟩;obtain⟨v,s,r⟩:=R.get i q e;refine⟨v,s,r.keeps k fun ow a ea=>?_⟩;obtain⟨a',u,e1,e2⟩:=r.ref ow;rw [ea] at e1;cases e1;rw [aE (a8 e2 h)]
theorem Rel.less{K:PySem.W.Frag}{A A':Addr->Prop}{ρ:PSt}{σ:St}{H:Hp}(R:Rel K A ρ σ H)(h:∀b,A' b->A b):Rel K A' ρ σ H:=by
 refine⟨R.len,fun i q e=>?_,R.dj,fun b z=>R.dom b (h b z),fun b z=>R.sep b (h b z)⟩;obtain⟨v,s,r⟩:=R.get i q e;exact⟨v,s,r.keeps (aL.less fun b z=>z.imp (h b) id) fun _ _ _=>rfl⟩
theorem Rel.write{K:PySem.W.Frag}{A:Addr->Prop}{ρ:PSt}{σ:St}{H:Hp}(R:Rel K A ρ σ H){i:Nat}{p q:PV}{a:Addr}{o:HO}(e:ρ[i]?=some (some p))(ow:p.isOwn=true)(ow':q.isOwn=true)(es:σ[i]?=some (some (.ref a)))
  (new:RS K (OO A ρ σ) (upd H a o) q (.ref a)):Rel K A (ρ.set i (some q)) σ (upd H a o)/\Fr ρ σ H (ρ.set i (some q)) (upd H a o):=by
 have hi:i<ρ.length:=(List.getElem?_eq_some_iff.mp e).1;have wa:Wr ρ σ a:=⟨i,p,e,ow,es⟩
 have weq:∀b,Wr (ρ.set i (some q)) σ b ↔ Wr ρ σ b:=fun b=>by
  constructor
  .rintro⟨j,r,e1,o1,s1⟩
   by_cases z:i=j
   .subst z;exact⟨i,p,e,ow,s1⟩
   .rw [getElem?_set_ne z] at e1;exact⟨j,r,e1,o1,s1⟩
  .rintro⟨j,r,e1,o1,s1⟩
   by_cases z:i=j
   .subst z;exact⟨i,q,getElem?_set_self hi,ow',s1⟩
   .exact⟨j,r,by rw [getElem?_set_ne z];exact e1,o1,s1⟩
 have oeq:OO A (ρ.set i (some q)) σ=OO A ρ σ:=funext fun b=>propext (or_congr Iff.rfl (weq b));have kp:∀b u,¬ Wr ρ σ b->H b=some u->upd H a o b=some u:=fun b u n h=>by rw [aE (fun z=>n (by rw [z];exact wa))];exact h
 have k:aL (OO A ρ σ) H (OO A ρ σ) (upd H a o):=fun b u n h=>⟨n,kp b u (fun z=>n (.inr z)) h⟩
 have dm:∀b,H b≠none->upd H a o b≠none:=fun b n=>by
  by_cases z:b=a
  .rw [z,aJ];exact nofun
  .rw [aE z];exact n
 refine⟨⟨by rw [length_set];exact R.len,fun j r e1=>?_,fun j l p1 q1 v e1 e2 o1 o2 s1 s2=>?_,fun b z=>dm b (R.dom b z),fun b z w=>R.sep b z ((weq b).mp w)⟩,⟨kp,dm,fun b w=>(weq b).mp w⟩⟩
 .rw [oeq]
  by_cases z:i=j
  .subst z;rw [getElem?_set_self hi] at e1;cases e1;exact⟨_,es,new⟩
  .rw [getElem?_set_ne z] at e1;obtain⟨v,s,rr⟩:=R.get j r e1;refine⟨v,s,rr.keeps k fun ow2 b eb=>?_⟩;rw [aE];intro zz;subst zz;rw [eb] at s;exact z (R.dj i j p r _ e e1 ow ow2 es s)
 .have ex:∀(m:Nat) (x:PV),(ρ.set i (some q))[m]?=some (some x)->x.isOwn=true->∃y:PV,ρ[m]?=some (some y)/\y.isOwn=true:=fun m x em ox=>by
   by_cases z:i=m
   .subst z;exact⟨p,e,ow⟩
   .rw [getElem?_set_ne z] at em;exact⟨x,em,ox⟩
  obtain⟨y1,h1,h2⟩:=ex j p1 e1 o1;obtain⟨y2,h3,h4⟩:=ex l q1 e2 o2;exact R.dj j l y1 y2 v h1 h3 h2 h4 s1 s2
theorem Rel.frz{K:PySem.W.Frag}{A:Addr->Prop}{ρ:PSt}{σ:St}{H:Hp}(R:Rel K A ρ σ H){i:Nat}{p:PV}(e:ρ[i]?=some (some p)) :
  Rel K A (ρ.set i (some (.dat p.d))) σ H/\Fr ρ σ H (ρ.set i (some (.dat p.d))) H:=by
 have hi:i<ρ.length:=(List.getElem?_eq_some_iff.mp e).1
 have ex:∀(m:Nat) (x:PV),(ρ.set i (some (.dat p.d)))[m]?=some (some x)->x.isOwn=true->m≠i/\ρ[m]?=some (some x):=fun m x em ox=>by
  by_cases z:i=m
  .subst z;rw [getElem?_set_self hi] at em;cases em;cases ox
  .rw [getElem?_set_ne z] at em;exact⟨fun q=>z q.symm,em⟩
 have ow:∀b,Wr (ρ.set i (some (.dat p.d))) σ b->Wr ρ σ b:=fun b ⟨j,r,e1,o1,s1⟩=>⟨j,r,(ex j r e1 o1).2,o1,s1⟩
 have k:aL (OO A ρ σ) H (OO A (ρ.set i (some (.dat p.d))) σ) H:=aL.less fun b z=>z.imp id (ow b);refine⟨⟨by rw [length_set];exact R.len,fun j r e1=>?_,fun j l p1 q1 v e1 e2 o1 o2 s1 s2=>R.dj j l p1 q1 v (ex j p1 e1 o1).2 (ex l q1 e2 o2).2 o1 o2 s1 s2,R.dom,fun b z w=>R.sep b z (ow b w)⟩,⟨fun _ _ _ h=>h,fun _ h=>h,ow⟩⟩
 by_cases z:i=j
 .subst z;rw [getElem?_set_self hi] at e1;cases e1;obtain⟨v,s,r⟩:=R.get i p e;refine⟨v,s,?_⟩
  have na:∀a,v=.ref a->p.isOwn=true->¬ OO A (ρ.set i (some (.dat p.d))) σ a:=fun a ea oo z=>by
   subst ea
   rcases z with z|⟨j,r,e1,o1,s1⟩
   .exact R.sep a z ⟨i,p,e,oo,s⟩
   .obtain⟨n1,n2⟩:=ex j r e1 o1;exact n1 (R.dj j i r p _ n2 e o1 oo s1 s)
  cases p with
  | dat d=>exact FV.keeps k r
  | own ds =>
   obtain⟨a,xs,rfl,g,f⟩:=r;exact .lst (na a rfl rfl) g (f.keeps k)
  | ins c ns ds =>
   obtain⟨a,dx,fs,rfl,g,m,f⟩:=r;exact .obj (na a rfl rfl) g m (f.keeps k)
 .rw [getElem?_set_ne z] at e1;obtain⟨v,s,r⟩:=R.get j _ e1;exact⟨v,s,r.keeps k fun _ _ _=>rfl⟩
abbrev PKt:=PV->PSt->Prop
abbrev PTE:=PSt->PKt->Prop
abbrev PTT:=PSt->(Bool->PSt->Prop)->Prop
inductive AV where
 | v (d:D)|sl (i:Nat)
abbrev PA1:=PSt->(AV->PSt->Prop)->Prop
abbrev PTA:=PSt->(List AV->PSt->Prop)->Prop
def Out(K:PySem.W.Frag)(A:Addr->Prop)(ρ:PSt)(σ:St)(H0 H:Hp):PV->V->Prop
 | .dat d,v=>Rel K A ρ σ H/\FV K (OO A ρ σ) H v d
 | .own ds,v=>∃a xs,v=.ref a/\¬ A a/\H0 a=none/\H a=some (.lst xs)/\Rel K (cP A a) ρ σ H/\FVs K (OO (cP A a) ρ σ) H xs ds
 | .ins c ns ds,v=>∃a dx fs,v=.ref a/\¬ A a/\H0 a=none/\H a=some (.ins (dB K c) dx fs)/\fs.map Prod.fst=ns/\Rel K (cP A a) ρ σ H/\FVs K (OO (cP A a) ρ σ) H (fs.map Prod.snd) ds
def LE(K:PySem.W.Frag)(te:TE)(pe:PTE):Prop:=∀(A:Addr->Prop) (ρ:PSt) (σ:St) (H:Hp) (Q:PKt) (Q':VK),Rel K A ρ σ H->pe ρ Q ->
 (∀v H' p ρ',Q p ρ'->Fr ρ σ H ρ' H'->Out K A ρ' σ H H' p v->Q' v H')->te σ H Q'
def LT(K:PySem.W.Frag)(tt:TT)(pt:PTT):Prop:=∀(A:Addr->Prop) (ρ:PSt) (σ:St) (H:Hp) (Q:Bool->PSt->Prop) (Q':Bool->Hp->Prop),Rel K A ρ σ H->pt ρ Q ->
 (∀b H' ρ',Q b ρ'->Fr ρ σ H ρ' H'->Rel K A ρ' σ H'->Q' b H')->tt σ H Q'
def AOk(K:PySem.W.Frag)(O:Addr->Prop)(σ:St)(H:Hp):AV->V->Prop
 | .v d,v=>FV K O H v d
 | .sl i,v=>σ[i]?=some (some v)
def LA1(K:PySem.W.Frag)(te:TE)(pa:PA1):Prop:=∀(A:Addr->Prop) (ρ:PSt) (σ:St) (H:Hp) (Q:AV->PSt->Prop) (Q':VK),Rel K A ρ σ H->pa ρ Q ->
 (∀v H' av ρ',Q av ρ'->Fr ρ σ H ρ' H'->Rel K A ρ' σ H'->AOk K (OO A ρ' σ) σ H' av v->Q' v H')->te σ H Q'
inductive zu (K:PySem.W.Frag) (O:Addr->Prop) (σ:St) (H:Hp):List AV->List V->Prop
 | nil:zu K O σ H [] []
 | cons {a:AV}{v:V}{as:List AV}{vs:List V}:AOk K O σ H a v->zu K O σ H as vs->zu K O σ H (a::as) (v::vs)
def LAs(K:PySem.W.Frag)(ta:TA)(pa:PTA):Prop:=∀(A:Addr->Prop) (ρ:PSt) (σ:St) (H:Hp) (Q:List AV->PSt->Prop) (Q':List V->Hp->Prop),Rel K A ρ σ H->pa ρ Q ->
 (∀vs H' as ρ',Q as ρ'->Fr ρ σ H ρ' H'->Rel K A ρ' σ H'->zu K (OO A ρ' σ) σ H' as vs->Q' vs H')->ta σ H Q'
section
variable {K:PySem.W.Frag}{A O O':Addr->Prop}{ρ ρ':PSt}{σ:St}{H H' H0:Hp}
theorem AOk.keeps{a:AV}{v:V}(k:aL O H O' H')(h:AOk K O σ H a v):AOk K O' σ H' a v:=by
 cases a with
 | v d=>exact FV.keeps k h
 | sl i=>exact h
theorem Out.frz{p:PV}{v:V}(h:Out K A ρ σ H0 H p v):Rel K A ρ σ H/\FV K (OO A ρ σ) H v p.d:=by
 cases p with
 | dat d=>exact h
 | own ds =>
  obtain⟨a,xs,rfl,na,_,e,R,f⟩:=h;refine⟨R.less fun b z=>.inl z,.lst (fun z=>?_) e (f.keeps (aL.less fun b z=>z.imp .inl id))⟩;exact z.elim na (fun z=>R.sep a (.inr rfl) z)
 | ins c ns ds =>
  obtain⟨a,dx,fs,rfl,na,_,e,m,R,f⟩:=h;refine⟨R.less fun b z=>.inl z,.obj (fun z=>?_) e m (f.keeps (aL.less fun b z=>z.imp .inl id))⟩;exact z.elim na (fun z=>R.sep a (.inr rfl) z)
theorem Out.h0{p:PV}{v:V}{H1:Hp}(h:Out K A ρ σ H0 H p v)(dm:∀b,H1 b≠none->H0 b≠none):Out K A ρ σ H1 H p v:=by
 have k:∀a,H0 a=none->H1 a=none:=fun a e=>by
  cases z:H1 a with
  | none=>rfl
  | some o=>exact absurd e (dm a (by rw [z];exact nofun))
 cases p with
 | dat d=>exact h
 | own ds=>obtain⟨a,xs,e1,na,e2,r⟩:=h;exact⟨a,xs,e1,na,k a e2,r⟩
 | ins c ns ds=>obtain⟨a,dx,fs,e1,na,e2,r⟩:=h;exact⟨a,dx,fs,e1,na,k a e2,r⟩
def Gr(H H':Hp):Prop:=∀b o,H b=some o->H' b=some o
theorem Gr.fr(g:Gr H H'):Fr ρ σ H ρ H':=⟨fun b o _ h=>g b o h,fun b h=>by
 cases e:H b with
 | none=>exact absurd e h
 | some o=>rw [g b o e];exact nofun,fun _ h=>h⟩
theorem Gr.new{p:Addr}{o:HO}(h:H p=none):Gr H (upd H p o):=fun b u e=>by rw [aE (a8 e h)];exact e
theorem Gr.refl(H:Hp):Gr H H:=fun _ _ h=>h
theorem Rel.gr(R:Rel K A ρ σ H)(g:Gr H H'):Rel K A ρ σ H':=by
 refine⟨R.len,fun i q e=>?_,R.dj,fun b z=>(g.fr (ρ:=ρ) (σ:=σ)).dm b (R.dom b z),R.sep⟩;obtain⟨v,s,r⟩:=R.get i q e;refine⟨v,s,r.keeps (g.fr (ρ:=ρ) (σ:=σ)).keeps fun ow a ea=>?_⟩;obtain⟨a',u,e1,e2⟩:=r.ref ow;rw [ea] at e1;cases e1;rw [e2];exact g _ _ e2
theorem Rel.grA(R:Rel K A ρ σ H)(g:Gr H H'){p:Addr}(h:H p=none)(h':H' p≠none):Rel K (cP A p) ρ σ H':=by
 have k:aL (OO A ρ σ) H (OO (cP A p) ρ σ) H':=fun b u n e=>by
  refine⟨fun z=>?_,g _ _ e⟩
  rcases z with (z|z)|z
  .exact n (.inl z)
  .rw [z,h] at e;cases e
  .exact n (.inr z)
 refine⟨R.len,fun i q e=>?_,R.dj,fun b z=>?_,fun b z w=>?_⟩
 .obtain⟨v,s,r⟩:=R.get i q e;refine⟨v,s,r.keeps k fun ow a ea=>?_⟩;obtain⟨a',u,e1,e2⟩:=r.ref ow;rw [ea] at e1;cases e1;rw [e2];exact g _ _ e2
 .rcases z with z|z
  .exact (g.fr (ρ:=ρ) (σ:=σ)).dm b (R.dom b z)
  .rw [z];exact h'
 .rcases z with z|z
  .exact R.sep b z w
  .exact R.wr w (by rw [z];exact h)
def rS(K:PySem.W.Frag)(O:Addr->Prop)(H0 H:Hp):PV->V->Prop
 | .dat d,v=>FV K O H v d
 | .own ds,v=>∃a xs,v=.ref a/\H0 a=none/\H a=some (.lst xs)/\FVs K (cP O a) H xs ds
 | .ins c ns ds,v=>∃a dx fs,v=.ref a/\H0 a=none/\H a=some (.ins (dB K c) dx fs)/\fs.map Prod.fst=ns/\FVs K (cP O a) H (fs.map Prod.snd) ds
theorem rS.out{p:PV}{v:V}(R:Rel K A ρ σ H)(g:Gr H H')(h:rS K (OO A ρ σ) H H' p v):Out K A ρ σ H H' p v:=by
 cases p with
 | dat d=>exact⟨R.gr g,h⟩
 | own ds =>
  obtain⟨a,xs,rfl,e0,e,f⟩:=h;refine⟨a,xs,rfl,fun z=>R.dom a z e0,e0,e,R.grA g e0 (by rw [e];exact nofun),f.keeps (aL.less fun b z=>?_)⟩
  rcases z with (z|z)|z
  .exact .inl (.inl z)
  .exact .inr z
  .exact .inl (.inr z)
 | ins c ns ds =>
  obtain⟨a,dx,fs,rfl,e0,e,m,f⟩:=h;refine⟨a,dx,fs,rfl,fun z=>R.dom a z e0,e0,e,m,R.grA g e0 (by rw [e];exact nofun),f.keeps (aL.less fun b z=>?_)⟩
  rcases z with (z|z)|z
  .exact .inl (.inl z)
  .exact .inr z
  .exact .inl (.inr z)
def FVc(K:PySem.W.Frag)(O:Addr->Prop)(H:Hp)(v:V)(d:D):Prop:=FV K O H v d\/(∃a xs ds,v=.ref a/\d=.lst ds/\H a=some (.lst xs)/\FVs K O H xs ds) \/
 ∃a dx c fs ns ds,v=.ref a/\d=.obj c ns ds/\H a=some (.ins (dB K c) dx fs)/\fs.map Prod.fst=ns/\FVs K O H (fs.map Prod.snd) ds
def cont(ρ:PSt):AV->Option D
 | .v d=>some d
 | .sl i=>match ρ[i]? with|some (some p)=>some p.d|_=>none
theorem Rel.cont{av:AV}{v:V}{d:D}(R:Rel K A ρ σ H)(h:AOk K (OO A ρ σ) σ H av v)(e:L2.cont ρ av=some d):FVc K (OO A ρ σ) H v d:=by
 cases av with
 | v d'=>cases e;exact .inl h
 | sl i =>
  have h:σ[i]?=some (some v):=h;simp only [L2.cont] at e
  split at e
  .rename_i p ep;cases e;obtain⟨v',s,r⟩:=R.get i p ep;rw [h] at s;cases s
   cases p with
   | dat d=>exact .inl r
   | own ds=>obtain⟨a,xs,e1,e2,f⟩:=r;exact .inr (.inl ⟨a,xs,ds,e1,rfl,e2,f⟩)
   | ins c ns ds=>obtain⟨a,dx,fs,e1,e2,m,f⟩:=r;exact .inr (.inr ⟨a,dx,c,fs,ns,ds,e1,rfl,e2,m,f⟩)
  .cases e
theorem FVc.lst{v:V}{ds:List D}(h:FVc K O H v (.lst ds)):∃a xs,v=.ref a/\H a=some (.lst xs)/\FVs K O H xs ds:=by
 rcases h with h|⟨a,xs,ds',e1,e2,e3,f⟩|⟨a,dx,c,fs,ns,ds',e1,e2,_⟩
 .cases h with
  | lst n s f=>exact⟨_,_,rfl,s,f⟩
 .cases e2;exact⟨a,xs,e1,e3,f⟩
 .cases e2
theorem FVc.fv{v:V}{d:D}(h:FVc K O H v d)(n:∀ds,d≠.lst ds)(n':∀c ns ds,d≠.obj c ns ds):FV K O H v d:=by
 rcases h with h|⟨a,xs,ds',e1,e2,e3,f⟩|⟨a,dx,c,fs,ns,ds',e1,e2,_⟩
 .exact h
 .exact absurd e2 (n _)
 .exact absurd e2 (n' _ _ _)
theorem FVc.tup{v:V}{ds:List D}(h:FVc K O H v (.tup ds)):∃a xs,v=.ref a/\¬ O a/\H a=some (.tup xs)/\FVs K O H xs ds:=by
 cases h.fv nofun nofun with
 | tup n s f=>exact⟨_,_,rfl,n,s,f⟩
theorem FVc.scr{v:V}{ns:List Int}(h:FVc K O H v (.scr ns)):∃a,v=.ref a/\SqL K H a (ns.map V.int):=by
 cases h.fv nofun nofun with
 | scr s=>exact⟨_,rfl,s.sq⟩
theorem FVc.int{v:V}{i:Int}(h:FVc K O H v (.int i)):v=.int i:=by cases h.fv nofun nofun;rfl
theorem FVc.bl{v:V}{i:Bool}(h:FVc K O H v (.bl i)):v=.bl i:=by cases h.fv nofun nofun;rfl
theorem FVc.str{v:V}{i:List Nat}(h:FVc K O H v (.str i)):v=.str (S i)/\i.length<=1000000:=by
 cases h.fv nofun nofun with
 | str _ z=>exact⟨rfl,z⟩
theorem FVc.non{v:V}(h:FVc K O H v .non):v=.non:=by cases h.fv nofun nofun;rfl
end
def pC(d:D):PTE:=fun ρ Q=>Q (.dat d) ρ
def ba(i:Nat):PTE:=fun ρ Q=>match ρ[i]? with
 | some (some (.dat d))=>Q (.dat d) ρ
 | some (some (.own ds))=>Q (.dat (.lst ds)) (ρ.set i (some (.dat (.lst ds))))
 | some (some (.ins c ns ds))=>Q (.dat (.obj c ns ds)) (ρ.set i (some (.dat (.obj c ns ds))))
 | _=>False
def pSl(i:Nat):PA1:=fun ρ Q=>match ρ[i]? with
 | some (some (.dat d))=>Q (.v d) ρ
 | some (some (.own _))=>Q (.sl i) ρ
 | some (some (.ins _ _ _))=>Q (.sl i) ρ
 | _=>False
def pFz(pe:PTE):PA1:=fun ρ Q=>pe ρ fun p ρ1=>Q (.v p.d) ρ1
def aj:PTA:=fun ρ Q=>Q [] ρ
def ae(pa:PA1)(pr:PTA):PTA:=fun ρ Q=>pa ρ fun a ρ1=>pr ρ1 fun as ρ2=>Q (a::as) ρ2
section
variable {K:PySem.W.Frag}{ta tb tc:TE}{pa pb pc:PA1}{pe pe':PTE}{tr:TA}{pr:PTA}
theorem DR{v:V}{d:D}(h:∀O H,FV K O H v d):LE K (tC v) (pC d):=fun A ρ σ H Q Q' R q k=>k v H (.dat d) ρ q (Fr.refl _ _ _) ⟨R,h _ _⟩
theorem le_int{i:Int}:LE K (tC (.int i)) (pC (.int i)):=DR fun _ _=>.int i
theorem kQ{i:Bool}:LE K (tC (.bl i)) (pC (.bl i)):=DR fun _ _=>.bl i
theorem gZ:LE K (tC .non) (pC .non):=DR fun _ _=>.non
theorem le_str{l:List Nat}(h:l.length<=1000000:=by decide):LE K (tC (.str (S l))) (pC (.str l)):=DR fun _ _=>.str l h
theorem ap{i:Nat}:LE K (bL i) (ba i):=by
 intro A ρ σ H Q Q' R q k;unfold ba at q
 split at q
 .rename_i d e;obtain⟨v,s,r⟩:=R.get i _ e;exact⟨v,s,k v H (.dat d) ρ q (Fr.refl _ _ _) ⟨R,r⟩⟩
 .rename_i ds e;obtain⟨R',f⟩:=R.frz e;obtain⟨v,s,r⟩:=R'.get i _ (getElem?_set_self (List.getElem?_eq_some_iff.mp e).1);exact⟨v,s,k v H (.dat (.lst ds)) _ q f ⟨R',r⟩⟩
 .rename_i c ns ds e;obtain⟨R',f⟩:=R.frz e;obtain⟨v,s,r⟩:=R'.get i _ (getElem?_set_self (List.getElem?_eq_some_iff.mp e).1);exact⟨v,s,k v H (.dat (.obj c ns ds)) _ q f ⟨R',r⟩⟩
 .exact q.elim
theorem ak{i:Nat}:LA1 K (bL i) (pSl i):=by
 intro A ρ σ H Q Q' R q k;unfold pSl at q
 split at q
 .rename_i d e;obtain⟨v,s,r⟩:=R.get i _ e;exact⟨v,s,k v H _ ρ q (Fr.refl _ _ _) R r⟩
 .rename_i e;obtain⟨v,s,r⟩:=R.get i _ e;exact⟨v,s,k v H _ ρ q (Fr.refl _ _ _) R s⟩
 .rename_i e;obtain⟨v,s,r⟩:=R.get i _ e;exact⟨v,s,k v H _ ρ q (Fr.refl _ _ _) R s⟩
 .exact q.elim
theorem af(h:LE K ta pe):LA1 K ta (pFz pe):=fun A ρ σ H Q Q' R q k=>h A ρ σ H _ Q' R q fun v H' p ρ' q f o=>k v H' _ ρ' q f o.frz.1 o.frz.2
theorem ac:LAs K fS aj:=fun A ρ σ H Q Q' R q k=>k [] H [] ρ q (Fr.refl _ _ _) R .nil
theorem aa(h:LA1 K ta pa)(hr:LAs K tr pr):LAs K (bg ta tr) (ae pa pr):=fun A ρ σ H Q Q' R q k =>
 h A ρ σ H _ _ R q fun v H1 a ρ1 q1 f1 R1 o1=>hr A ρ1 σ H1 _ _ R1 q1 fun vs H2 as ρ2 q2 f2 R2 o2=>k _ H2 _ ρ2 q2 (f1.trans f2) R2 (.cons (o1.keeps f2.keeps) o2)
def LO(K:PySem.W.Frag)(r:R2)(f:D->D->(PV->Prop)->Prop):Prop:=∀(O:Addr->Prop) (H:Hp) (x y:V) (a b:D) (Q:PV->Prop) (Q':VK),(∀b,O b->H b≠none)->FVc K O H x a->FVc K O H y b->f a b Q ->
 (∀v H' p,Q p->Gr H H'->rS K O H H' p v->Q' v H')->r x y H Q'
def op2(f:D->D->(PV->Prop)->Prop)(ρ:PSt)(x y:AV)(Q:PKt):Prop:=match cont ρ x,cont ρ y with
 | some a,some b=>f a b fun p=>Q p ρ
 | _,_=>False
def pOp(f:D->D->(PV->Prop)->Prop)(pa pb:PA1):PTE:=fun ρ Q=>pa ρ fun x ρ1=>pb ρ1 fun y ρ2=>op2 f ρ2 x y Q
theorem Rel.dom2{A:Addr->Prop}{ρ:PSt}{σ:St}{H:Hp}(R:Rel K A ρ σ H):∀b,OO A ρ σ b->H b≠none:=fun b z=>z.elim (R.dom b) R.wr
theorem ax{r:R2}{f:D->D->(PV->Prop)->Prop}(o:LO K r f)(ha:LA1 K ta pa)(hb:LA1 K tb pb):LE K (tOp r ta tb) (pOp f pa pb):=fun A ρ σ H Q Q' R q k =>
 ha A ρ σ H _ _ R q fun v H1 a ρ1 q1 f1 R1 o1=>hb A ρ1 σ H1 _ _ R1 q1 fun w H2 b ρ2 q2 f2 R2 o2=>by
  unfold op2 at q2
  split at q2
  .rename_i da db e1 e2;exact o _ H2 v w da db _ _ R2.dom2 (R2.cont (o1.keeps f2.keeps) e1) (R2.cont o2 e2) q2 fun z H3 p q3 g ov=>k z H3 p ρ2 q3 ((f1.trans f2).trans g.fr) ((ov.out R2 g).h0 fun b z=>f2.dm b (f1.dm b z))
  .exact q2.elim
def LU(K:PySem.W.Frag)(r:V->Hp->VK->Prop)(f:D->(PV->Prop)->Prop):Prop:=∀(O:Addr->Prop) (H:Hp) (x:V) (a:D) (Q:PV->Prop) (Q':VK),(∀b,O b->H b≠none)->FVc K O H x a->f a Q ->
 (∀v H' p,Q p->Gr H H'->rS K O H H' p v->Q' v H')->r x H Q'
def op1(f:D->(PV->Prop)->Prop)(ρ:PSt)(x:AV)(Q:PKt):Prop:=match cont ρ x with
 | some a=>f a fun p=>Q p ρ
 | _=>False
def pUn(f:D->(PV->Prop)->Prop)(pa:PA1):PTE:=fun ρ Q=>pa ρ fun x ρ1=>op1 f ρ1 x Q
theorem AO{r:V->Hp->VK->Prop}{f:D->(PV->Prop)->Prop}(o:LU K r f)(ha:LA1 K ta pa):LE K (tUn r ta) (pUn f pa):=fun A ρ σ H Q Q' R q k =>
 ha A ρ σ H _ _ R q fun v H1 a ρ1 q1 f1 R1 o1=>by
  unfold op1 at q1
  split at q1
  .rename_i da e1;exact o _ H1 v da _ _ R1.dom2 (R1.cont o1 e1) q1 fun z H3 p q3 g ov=>k z H3 p ρ1 q3 (f1.trans g.fr) ((ov.out R1 g).h0 fun b z=>f1.dm b z)
  .exact q1.elim
inductive BG (K:PySem.W.Frag) (O:Addr->Prop) (H:Hp):List V->List D->Prop
 | nil:BG K O H [] []
 | cons {x:V}{d:D}{xs:List V}{ds:List D}:FVc K O H x d->BG K O H xs ds->BG K O H (x::xs) (d::ds)
def conts(ρ:PSt):List AV->Option (List D)
 | []=>some []
 | a::r=>match cont ρ a,conts ρ r with
  | some d,some ds=>some (d::ds)
  | _,_=>none
theorem Rel.conts{A:Addr->Prop}{ρ:PSt}{σ:St}{H:Hp}(R:Rel K A ρ σ H):∀{as:List AV}{vs:List V}{ds:List D},zu K (OO A ρ σ) σ H as vs->L2.conts ρ as=some ds->BG K (OO A ρ σ) H vs ds
 | _,_,_,.nil,e=>by cases e;exact .nil
 | _,_,_,.cons a b,e=>by
  unfold L2.conts at e
  split at e
  .rename_i e1 e2;cases e;exact .cons (R.cont a e1) (R.conts b e2)
  .cases e
def LC(K:PySem.W.Frag)(r:List V->Hp->VK->Prop)(f:List D->(PV->Prop)->Prop):Prop:=∀(O:Addr->Prop) (H:Hp) (xs:List V) (as:List D) (Q:PV->Prop) (Q':VK),(∀b,O b->H b≠none)->BG K O H xs as->f as Q ->
 (∀v H' p,Q p->Gr H H'->rS K O H H' p v->Q' v H')->r xs H Q'
def opN(f:List D->(PV->Prop)->Prop)(ρ:PSt)(as:List AV)(Q:PKt):Prop:=match conts ρ as with
 | some ds=>f ds fun p=>Q p ρ
 | _=>False
def pCB(f:List D->(PV->Prop)->Prop)(pr:PTA):PTE:=fun ρ Q=>pr ρ fun as ρ1=>opN f ρ1 as Q
theorem aR{r:List V->Hp->VK->Prop}{f:List D->(PV->Prop)->Prop}(o:LC K r f)(ha:LAs K tr pr):LE K (tCB r tr) (pCB f pr):=fun A ρ σ H Q Q' R q k =>
 ha A ρ σ H _ _ R q fun vs H1 as ρ1 q1 f1 R1 o1=>by
  unfold opN at q1
  split at q1
  .rename_i ds e1;exact o _ H1 vs ds _ _ R1.dom2 (R1.conts o1 e1) q1 fun z H3 p q3 g ov=>k z H3 p ρ1 q3 (f1.trans g.fr) ((ov.out R1 g).h0 fun b z=>f1.dm b z)
  .exact q1.elim
def avD:List AV->Option (List D)
 | []=>some []
 | .v d::r=>match avD r with|some ds=>some (d::ds)|none=>none
 | .sl _::_=>none
theorem zu.avD{O:Addr->Prop}{σ:St}{H:Hp}:∀{as:List AV}{vs:List V}{ds:List D},zu K O σ H as vs->L2.avD as=some ds->FVs K O H vs ds
 | _,_,_,.nil,e=>by cases e;exact .nil
 | .v d::r,_,_,.cons a b,e=>by
  simp only [L2.avD] at e
  split at e
  .rename_i e1;cases e;exact .cons a (b.avD e1)
  .cases e
 | .sl i::r,_,_,.cons a b,e=>by cases e
def iZ(pr:PTA):PTE:=fun ρ Q=>pr ρ fun as ρ1=>match avD as with
 | some ds=>ds.length<=1000000/\Q (.own ds) ρ1
 | _=>False
def wE(pr:PTA):PTE:=fun ρ Q=>pr ρ fun as ρ1=>match avD as with
 | some ds=>ds.length<=1000000/\Q (.dat (.tup ds)) ρ1
 | _=>False
theorem bX(ha:LAs K tr pr):LE K (Ed tr) (iZ pr):=fun A ρ σ H Q Q' R q k =>
 ha A ρ σ H _ _ R q fun vs H1 as ρ1 q1 f1 R1 o1=>by
  split at q1
  .rename_i ds e1;have fs:=o1.avD e1;refine⟨sz _ (by rw [fs.length];exact q1.1),fun p hp=>k _ _ (.own ds) ρ1 q1.2 (f1.trans (Fr.new hp)) ?_⟩;have g:Gr H1 (upd H1 p (.lst vs)):=Gr.new hp;exact (rS.out (p:=.own ds) R1 g ⟨p,vs,rfl,hp,aJ,fs.keeps (aL.fresh hp)⟩).h0 fun b z=>f1.dm b z
  .exact q1.elim
theorem iK(ha:LAs K tr pr):LE K (Aj tr) (wE pr):=fun A ρ σ H Q Q' R q k =>
 ha A ρ σ H _ _ R q fun vs H1 as ρ1 q1 f1 R1 o1=>by
  split at q1
  .rename_i ds e1;have fs:=o1.avD e1;refine⟨sz _ (by rw [fs.length];exact q1.1),fun p hp=>k _ _ (.dat (.tup ds)) ρ1 q1.2 (f1.trans (Fr.new hp)) ⟨R1.grow hp,?_⟩⟩;exact .tup (R1.oo hp) aJ (fs.keeps (Fr.new hp).keeps)
  .exact q1.elim
def pB(pe:PTE):PTT:=fun ρ Q=>pe ρ fun p ρ1=>match p with
 | .dat (.bl b)=>Q b ρ1
 | _=>False
theorem pX(h:LE K ta pe):LT K (tB ta) (pB pe):=fun A ρ σ H Q Q' R q k=>h A ρ σ H _ _ R q fun v H1 p ρ1 q1 f1 o1=>by
 split at q1
 .rename_i b;obtain⟨R1,f⟩:=o1;cases f;exact⟨b,rfl,k b H1 ρ1 q1 f1 R1⟩
 .exact q1.elim
theorem f8(h:LE K ta pe):LT K (vH ta) (pB pe):=pX h
def DS(a b:PTT):PTT:=fun ρ Q=>a ρ fun c ρ1=>ji c (b ρ1 Q) (Q false ρ1)
def pOr(a b:PTT):PTT:=fun ρ Q=>a ρ fun c ρ1=>ji c (Q true ρ1) (b ρ1 Q)
def pY(a:PTT):PTT:=fun ρ Q=>a ρ fun c ρ1=>Q (!c) ρ1
variable {tta ttb:TT}{pta ptb:PTT}
theorem wF(ha:LT K tta pta)(hb:LT K ttb ptb):LT K (Fb tta ttb) (DS pta ptb):=fun A ρ σ H Q Q' R q k=>ha A ρ σ H _ _ R q fun c H1 ρ1 q1 f1 R1=>by
 cases c with
 | true=>exact hb A ρ1 σ H1 _ _ R1 q1 fun b H2 ρ2 q2 f2 R2=>k b H2 ρ2 q2 (f1.trans f2) R2
 | false=>exact k false H1 ρ1 q1 f1 R1
theorem ou(ha:LT K tta pta)(hb:LT K ttb ptb):LT K (tOr tta ttb) (pOr pta ptb):=fun A ρ σ H Q Q' R q k=>ha A ρ σ H _ _ R q fun c H1 ρ1 q1 f1 R1=>by
 cases c with
 | false=>exact hb A ρ1 σ H1 _ _ R1 q1 fun b H2 ρ2 q2 f2 R2=>k b H2 ρ2 q2 (f1.trans f2) R2
 | true=>exact k true H1 ρ1 q1 f1 R1
theorem dY(ha:LT K tta pta):LT K (DQ tta) (pY pta):=fun A ρ σ H Q Q' R q k=>ha A ρ σ H _ _ R q fun c H1 ρ1 q1 f1 R1=>k _ H1 ρ1 q1 f1 R1
def jW(a b:PTE):PTE:=fun ρ Q=>a ρ fun p ρ1=>match p with
 | .dat (.bl c)=>ji c (b ρ1 Q) (Q (.dat (.bl false)) ρ1)
 | _=>False
def yA(a:PTE):PTE:=fun ρ Q=>a ρ fun p ρ1=>match p with
 | .dat (.bl c)=>Q (.dat (.bl (!c))) ρ1
 | _=>False
theorem gM(ha:LE K ta pe)(hb:LE K tb pe'):LE K (B1 ta tb) (jW pe pe'):=fun A ρ σ H Q Q' R q k=>ha A ρ σ H _ _ R q fun v H1 p ρ1 q1 f1 o1=>by
 split at q1
 .rename_i c;obtain⟨R1,f⟩:=o1;cases f;refine⟨c,rfl,?_⟩
  cases c with
  | true=>exact hb A ρ1 σ H1 _ _ R1 q1 fun b H2 p2 ρ2 q2 f2 o2=>k b H2 p2 ρ2 q2 (f1.trans f2) (o2.h0 fun b z=>f1.dm b z)
  | false=>exact k _ H1 _ ρ1 q1 f1 ⟨R1,.bl false⟩
 .exact q1.elim
theorem wG(ha:LE K ta pe):LE K (B2 ta) (yA pe):=fun A ρ σ H Q Q' R q k=>ha A ρ σ H _ _ R q fun v H1 p ρ1 q1 f1 o1=>by
 split at q1
 .rename_i c;obtain⟨R1,f⟩:=o1;cases f;exact⟨c,rfl,k _ H1 _ ρ1 q1 f1 ⟨R1,.bl (!c)⟩⟩
 .exact q1.elim
end
abbrev F2:=D->D->(PV->Prop)->Prop
def fI0(g:Int->Int->D):F2
 | .int i,.int j,Q=>Q (.dat (g i j))
 | _,_,_=>False
def fI(C:Int->Int->Prop)(g:Int->Int->D):F2
 | .int i,.int j,Q=>C i j/\Q (.dat (g i j))
 | _,_,_=>False
section
variable {K:PySem.W.Frag}{X:Cx}
theorem AQ{g:Int->Int->V}{g':Int->Int->D}(h:∀i j O H,FV K O H (g i j) (g' i j)):LO K (rI0 g) (fI0 g'):=by
 intro O H x y a b Q Q' dom fx fy q k;unfold fI0 at q
 split at q
 .rename_i i j;exact⟨i,j,fx.int,fy.int,k _ H _ q (Gr.refl _) (h i j _ _)⟩
 .exact q.elim
theorem Ev{C:Int->Int->Prop}{g:Int->Int->V}{g':Int->Int->D}(h:∀i j O H,FV K O H (g i j) (g' i j)):LO K (rI C g) (fI C g'):=by
 intro O H x y a b Q Q' dom fx fy q k;unfold fI at q
 split at q
 .rename_i i j;exact⟨i,j,fx.int,fy.int,q.1,k _ H _ q.2 (Gr.refl _) (h i j _ _)⟩
 .exact q.elim
theorem f9{O:Addr->Prop}{H:Hp}{xs:List V}{ds:List D}{p:Addr}(hp:H p=none)(f:FVs K O H xs ds):rS K O H (upd H p (.lst xs)) (.own ds) (.ref p) :=
 ⟨p,xs,rfl,hp,aJ,f.keeps (aL.fresh hp)⟩
theorem lK{O:Addr->Prop}{H:Hp}{xs:List V}{ds:List D}{p:Addr}(dom:∀b,O b->H b≠none)(hp:H p=none)(f:FVs K O H xs ds):rS K O H (upd H p (.tup xs)) (.dat (.tup ds)) (.ref p) :=
 .tup (fun z=>dom p z hp) aJ (f.keeps fun b o n e=>⟨n,by rw [aE (a8 e hp)];exact e⟩)
def Ew:R2:=fun x y H Q=>∃i j,x=.str (S i)/\y=.str (S j)/\i.length+j.length<=sizeLine/\Q (.str (S (i++j))) H
def AR(K:PySem.W.Frag):R2:=fun x y H Q=>rI0 (fun i j=>.int (i+j)) x y H Q\/Ew x y H Q\/CN K x y H Q\/Cm K x y H Q
theorem Ex(K:PySem.W.Frag)(e:X.K=K):OpR X (binaryOp .Add) (AR K):=by
 subst e;exact OpR.or Ca (OpR.or Az (OpR.or AF An))
def Ey:F2
 | .int i,.int j,Q=>Q (.dat (.int (i+j)))
 | .str a,.str b,Q=>a.length+b.length<=1000000/\Q (.dat (.str (a++b)))
 | .lst a,.lst b,Q=>a.length+b.length<=1000000/\Q (.own (a++b))
 | .scr a,.lst b,Q=>a.length+b.length<=1000000/\Q (.own (a.map .int++b))
 | .tup a,.tup b,Q=>a≠[]/\a.length+b.length<=1000000/\Q (.dat (.tup (a++b)))
 | _,_,_=>False
theorem zw:LO K (AR K) Ey:=by
 intro O H x y a b Q Q' dom fx fy q k;unfold Ey at q
 split at q
 .rename_i i j;exact .inl ⟨i,j,fx.int,fy.int,k _ H _ q (Gr.refl _) (.int _)⟩
 .rename_i i j;exact .inr (.inl ⟨i,j,fx.str.1,fy.str.1,sz _ q.1,k _ H _ q.2 (Gr.refl _) (.str _ (by rw [length_append];exact q.1))⟩)
 .rename_i i j;obtain⟨a,xs,rfl,e1,f1⟩:=fx.lst;obtain⟨b,ys,rfl,e2,f2⟩:=fy.lst;exact .inr (.inr (.inl ⟨a,b,xs,ys,rfl,rfl,SqL.of e1,SqL.of e2,sz _ (by rw [f1.length,f2.length];exact q.1),fun p hp=>k _ _ _ q.2 (Gr.new hp) (f9 hp (f1.append f2))⟩))
 .rename_i i j;obtain⟨a,rfl,e1⟩:=fx.scr;obtain⟨b,ys,rfl,e2,f2⟩:=fy.lst;exact .inr (.inr (.inl ⟨a,b,_,ys,rfl,rfl,e1,SqL.of e2,sz _ (by rw [length_map,f2.length];exact q.1),fun p hp=>k _ _ _ q.2 (Gr.new hp) (f9 hp ((FVs.of_ints i).append f2))⟩))
 .rename_i i j;obtain⟨a,xs,rfl,n1,e1,f1⟩:=fx.tup;obtain⟨b,ys,rfl,n2,e2,f2⟩:=fy.tup;have l1:=f1.length;have l2:=f2.length
  refine .inr (.inr (.inr ⟨a,b,xs,ys,rfl,rfl,SqT.of e1,SqT.of e2,fun z=>q.1 ?_,sz _ (by rw [l1,l2];exact q.2.1),fun z=>?_,fun _ p hp=>k _ _ _ q.2.2 (Gr.new hp) (lK dom hp (f1.append f2))⟩))
  .exact length_eq_zero_iff.mp (by rw [<- l1,z];rfl)
  .have:j=[]:=length_eq_zero_iff.mp (by rw [<- l2,z];rfl);subst this;exact k _ H _ q.2.2 (Gr.refl _) (by rw [append_nil];exact .tup n1 e1 f1)
 .exact q.elim
theorem kr:LO K (rI0 fun i j=>.int (i - j)) (fI0 fun i j=>.int (i - j)):=AQ fun _ _ _ _=>.int _
theorem nt:LO K (rI (fun _ j=>0<j) fun i j=>.int (i % j)) (fI (fun _ j=>0<j) fun i j=>.int (i % j)):=Ev fun _ _ _ _=>.int _
theorem oz:LO K (rI D5 fun i j=>.int (i / j)) (fI (fun _ j=>0<j/\j<1073741824) fun i j=>.int (i / j)):=Ev fun _ _ _ _=>.int _
theorem CZ:LO K (rI D6 fun i j=>.int (i^j.toNat)) (fI (fun i j=>0<=j/\j<=1000000/\i.natAbs<2^64) fun i j=>.int (i^j.toNat)):=Ev fun _ _ _ _=>.int _
def Ez:R2:=fun x y H Q=>∃l n,x=.str (S l)/\y=.int n/\-1000000<=n/\n<=1000000/\n.toNat*l.length<=sizeLine/\Q (.str (S (pW l n))) H
def yB:R2:=fun x y H Q=>rI vB (fun i j=>.int (i*j)) x y H Q\/Ez x y H Q\/Fn x y H Q
theorem i3:OpR X (binaryOp .Mult) yB:=OpR.or Cc (OpR.or uC Cr)
def qw:F2
 | .int i,.int j,Q=>((-(2^64)<i/\i<2^64)\/(-(2^64)<j/\j<2^64))/\Q (.dat (.int (i*j)))
 | .str a,.int n,Q=>(-1000000<=n/\n<=1000000/\n.toNat*a.length<=1000000)/\Q (.dat (.str (pW a n)))
 | .lst a,.int n,Q=>(-1000000<=n/\n<=1000000/\a.length*n.toNat<=1000000)/\Q (.own (pW a n))
 | _,_,_=>False
theorem FVs.rep{O:Addr->Prop}{H:Hp}{xs:List V}{ds:List D}(f:FVs K O H xs ds):∀n,FVs K O H (List.replicate n xs).flatten (List.replicate n ds).flatten
 | 0=>.nil
 | n+1=>by rw [replicate_succ,replicate_succ,flatten_cons,flatten_cons];exact f.append (f.rep n)
theorem eY:LO K yB qw:=by
 intro O H x y a b Q Q' dom fx fy q k;unfold qw at q
 split at q
 .rename_i i j;exact .inl ⟨i,j,fx.int,fy.int,q.1,k _ H _ q.2 (Gr.refl _) (.int _)⟩
 .rename_i i j;exact .inr (.inl ⟨i,j,fx.str.1,fy.int,q.1.1,q.1.2.1,sz _ q.1.2.2,k _ H _ q.2 (Gr.refl _) (.str _ (by rw [fV];exact q.1.2.2))⟩)
 .rename_i i j;obtain⟨a,xs,rfl,e1,f1⟩:=fx.lst;exact .inr (.inr ⟨a,j,xs,rfl,fy.int,e1,by omega,by omega,sz _ (by rw [f1.length];exact q.1.2.2),fun p hp=>k _ _ _ q.2 (Gr.new hp) (f9 hp (f1.rep _))⟩)
 .exact q.elim
def EA:R2:=fun x y H Q=>rI0 (fun i j=>.bl (decide (i<j))) x y H Q\/∃i j,x=.str i/\y=.str j/\Q (.bl (decide (i.cps.toList<j.cps.toList))) H
def DT:R2:=fun x y H Q=>rI0 (fun i j=>.bl (decide (i<=j))) x y H Q\/∃i j,x=.str i/\y=.str j/\Q (.bl (!decide (j.cps.toList<i.cps.toList))) H
theorem EB:OpR X (compareOp .Lt) EA:=OpR.or D9 vG
theorem BH:OpR X (compareOp .LtE) DT:=OpR.or Ea wd
def fLt:F2
 | .int i,.int j,Q=>Q (.dat (.bl (decide (i<j))))
 | .str i,.str j,Q=>Q (.dat (.bl (decide (i<j))))
 | _,_,_=>False
def fLe:F2
 | .int i,.int j,Q=>Q (.dat (.bl (decide (i<=j))))
 | .str i,.str j,Q=>Q (.dat (.bl (!decide (j<i))))
 | _,_,_=>False
theorem AS:LO K EA fLt:=by
 intro O H x y a b Q Q' dom fx fy q k;unfold fLt at q
 split at q
 .rename_i i j;exact .inl ⟨i,j,fx.int,fy.int,k _ H _ q (Gr.refl _) (.bl _)⟩
 .rename_i i j;exact .inr ⟨_,_,fx.str.1,fy.str.1,k _ H _ q (Gr.refl _) (.bl _)⟩
 .exact q.elim
theorem uI:LO K DT fLe:=by
 intro O H x y a b Q Q' dom fx fy q k;unfold fLe at q
 split at q
 .rename_i i j;exact .inl ⟨i,j,fx.int,fy.int,k _ H _ q (Gr.refl _) (.bl _)⟩
 .rename_i i j;exact .inr ⟨_,_,fx.str.1,fy.str.1,k _ H _ q (Gr.refl _) (.bl _)⟩
 .exact q.elim
theorem qx:LO K (rI0 fun i j=>.bl (decide (j<i))) (fI0 fun i j=>.bl (decide (j<i))):=AQ fun _ _ _ _=>.bl _
theorem yC:LO K (rI0 fun i j=>.bl (decide (j<=i))) (fI0 fun i j=>.bl (decide (j<=i))):=AQ fun _ _ _ _=>.bl _
mutual
def D.py:D->PyData
 | .non=>.none|.bl b=>.bool b|.int i=>.int i|.str l=>.str (S l)|.ty _=>.none
 | .lst ds=>.list (D.pys ds)|.tup ds=>.tuple (D.pys ds)|.scr ns=>.list (ns.map .int)|.dic _ _=>.none|.obj _ _ _=>.none|.exc _ _ _=>.none
def D.pys:List D->List PyData
 | []=>[]
 | d::r=>d.py::D.pys r
end
mutual
def D.plain:D->Bool
 | .non=>true|.bl _=>true|.int _=>true|.str _=>true|.ty _=>false
 | .lst ds=>D.plains ds|.tup ds=>D.plains ds|.scr _=>true|.dic _ _=>false|.obj _ _ _=>false|.exc _ _ _=>false
def D.plains:List D->Bool
 | []=>true
 | d::r=>d.plain && D.plains r
end
mutual
theorem FV.dv{O:Addr->Prop}{H:Hp}:∀{v:V}{d:D},FV K O H v d->d.plain=true->DV K H v d.py
 | _,_,.non,_=>.non
 | _,_,.bl b,_=>.bl b
 | _,_,.int i,_=>.int i
 | _,_,.str l h,_=>.str (S l)
 | _,_,.ty n,p=>nomatch p
 | _,_,.scr s,_=>.lst s.sq (DVs.ints _)
 | _,_,.lst n e f,p=>.lst (SqL.of e) (FVs.dvs f p)
 | _,_,.tup n e f,p=>.tup (SqT.of e) (FVs.dvs f p)
 | _,_,.dic _ _ _ _,p=>nomatch p
 | _,_,.obj _ _ _ _,p=>nomatch p
 | _,_,.exc0 _ _,p=>nomatch p
 | _,_,.exc1 _ _ _ _ _ _,p=>nomatch p
theorem FVs.dvs{O:Addr->Prop}{H:Hp}:∀{vs:List V}{ds:List D},FVs K O H vs ds->D.plains ds=true->DVs K H vs (D.pys ds)
 | _,_,.nil,_=>.nil
 | _,_,.cons a b,p=>by
  have p:(_ && _)=true:=p;rw [and_eq_true] at p;exact .cons (FV.dv a p.1) (FVs.dvs b p.2)
end
theorem FVc.dv{O:Addr->Prop}{H:Hp}{v:V}{d:D}(h:FVc K O H v d)(p:d.plain=true):DV K H v d.py:=by
 rcases h with h|⟨a,xs,ds',rfl,rfl,e3,f⟩|⟨a,dx,c,fs,ns,ds',e1,rfl,_⟩
 .exact h.dv p
 .exact .lst (SqL.of e3) (f.dvs p)
 .cases p
def C1(K:PySem.W.Frag)(neg:Bool):R2:=fun x y H Q=>rI0 (fun i j=>.bl (if neg then !decide (i=j) else decide (i=j))) x y H Q\/(∃i j,x=.str (S i)/\y=.str (S j)/\Q (.bl (if neg then !decide (i=j) else decide (i=j))) H)\/Eh K neg x y H Q
theorem FI(K:PySem.W.Frag)(e:X.K=K)(hu:X.A.units+64<cLine):OpR X (compareOp .Eq) (C1 K false):=by
 subst e;exact OpR.or CF (OpR.or CC (Cz hu))
theorem FJ(K:PySem.W.Frag)(e:X.K=K)(hu:X.A.units+64<cLine):OpR X (compareOp .NotEq) (C1 K true):=by
 subst e;exact OpR.or CG (OpR.or CD (CA hu))
def uJ(a b:D):Prop:=a.plain=true/\b.plain=true/\SeqAt.shaped a.py=true/\SeqAt.shaped b.py=true
def deq(a b:D):Bool:=PyData.eqv a.py b.py
def fEq:F2
 | .int i,.int j,Q=>Q (.dat (.bl (decide (i=j))))
 | .str i,.str j,Q=>Q (.dat (.bl (decide (i=j))))
 | a,b,Q=>uJ a b/\Q (.dat (.bl (deq a b)))
def fNe:F2
 | .int i,.int j,Q=>Q (.dat (.bl (!decide (i=j))))
 | .str i,.str j,Q=>Q (.dat (.bl (!decide (i=j))))
 | a,b,Q=>uJ a b/\Q (.dat (.bl (!deq a b)))
theorem EC:LO K (C1 K false) fEq:=by
 intro O H x y a b Q Q' dom fx fy q k;unfold fEq at q
 split at q
 .rename_i i j;exact .inl ⟨i,j,fx.int,fy.int,k _ H _ q (Gr.refl _) (.bl _)⟩
 .rename_i i j;exact .inr (.inl ⟨i,j,fx.str.1,fy.str.1,k _ H _ q (Gr.refl _) (.bl _)⟩)
 .exact .inr (.inr ⟨_,_,fx.dv q.1.1,fy.dv q.1.2.1,q.1.2.2.1,q.1.2.2.2,k _ H _ q.2 (Gr.refl _) (.bl _)⟩)
theorem ED:LO K (C1 K true) fNe:=by
 intro O H x y a b Q Q' dom fx fy q k;unfold fNe at q
 split at q
 .rename_i i j;exact .inl ⟨i,j,fx.int,fy.int,k _ H _ q (Gr.refl _) (.bl _)⟩
 .rename_i i j;exact .inr (.inl ⟨i,j,fx.str.1,fy.str.1,k _ H _ q (Gr.refl _) (.bl _)⟩)
 .exact .inr (.inr ⟨_,_,fx.dv q.1.1,fy.dv q.1.2.1,q.1.2.2.1,q.1.2.2.2,k _ H _ q.2 (Gr.refl _) (.bl _)⟩)
def Fq(neg:Bool):R2:=fun x y H Q=>(∃b c,x=.bl b/\y=.bl c/\Q (.bl (if neg then !decide (b=c) else decide (b=c))) H)\/(y=.non/\Q (.bl (if neg then !decide (x=.non) else decide (x=.non))) H)
theorem C2:OpR X (compareOp .Is) (Fq false):=OpR.or CU Cf
def D.isNon:D->Bool
 | .non=>true
 | _=>false
theorem FVc.isNon{O:Addr->Prop}{H:Hp}{v:V}{d:D}(h:FVc K O H v d):decide (v=.non)=d.isNon:=by
 rcases h with h|⟨a,xs,ds',rfl,rfl,e3,f⟩|⟨a,dx,c,fs,ns,ds',rfl,rfl,_⟩
 .cases h <;> rfl
 .rfl
 .rfl
def fIs(neg:Bool):F2
 | .bl b,.bl c,Q=>Q (.dat (.bl (if neg then !decide (b=c) else decide (b=c))))
 | a,.non,Q=>Q (.dat (.bl (if neg then !a.isNon else a.isNon)))
 | _,_,_=>False
theorem wH{neg:Bool}:LO K (Fq neg) (fIs neg):=by
 intro O H x y a b Q Q' dom fx fy q k;unfold fIs at q
 split at q
 .rename_i b c;exact .inl ⟨b,c,fx.bl,fy.bl,k _ H _ q (Gr.refl _) (.bl _)⟩
 .exact .inr ⟨fy.non,by rw [fx.isNon];exact k _ H _ q (Gr.refl _) (.bl _)⟩
 .exact q.elim
def D.fl:D->Bool
 | .non=>true|.bl _=>true|.int _=>true|.str _=>true
 | _=>false
def eqF:D->D->Bool
 | .non,.non=>true
 | .bl a,.bl b=>a == b
 | .bl a,.int b=>(if a then 1 else 0) == b
 | .int a,.bl b=>a == (if b then 1 else 0)
 | .int a,.int b=>a == b
 | .str a,.str b=>a == b
 | _,_=>false
def inD(x:D)(xs:List D):Bool:=xs.any fun y=>eqF y x
theorem FV.fl{O:Addr->Prop}{H:Hp}{v:V}{d:D}(h:FV K O H v d)(f:d.fl=true):mE v=true:=by cases h <;> first|rfl|cases f
theorem C3(a b:List Nat):(S a == S b)=(a == b):=by
 by_cases h:a=b
 .subst h;rw [beq_self_eq_true,beq_self_eq_true]
 .rw [beq_eq_false_iff_ne.mpr h,beq_eq_false_iff_ne.mpr (FF h)]
theorem FV.eqF{O:Addr->Prop}{H:Hp}{v w:V}{d e:D}(h:FV K O H v d)(f:d.fl=true)(h':FV K O H w e)(f':e.fl=true):eqV v w=L2.eqF d e:=by
 cases h <;> first|(cases f;done)|(cases h' <;> first|(cases f';done)|rfl|exact C3 _ _)
theorem FVs.inD{O:Addr->Prop}{H:Hp}{v:V}{d:D}(h:FV K O H v d)(f:d.fl=true):∀{xs:List V}{ds:List D},FVs K O H xs ds->ds.all D.fl=true->xs.all mE=true/\inV v xs=L2.inD d ds
 | _,_,.nil,_=>⟨rfl,rfl⟩
 | _,_,.cons a b,g=>by
  rw [all_cons,and_eq_true] at g;obtain⟨i1,i2⟩:=b.inD h f g.2;refine⟨by rw [all_cons,a.fl g.1,i1];rfl,?_⟩;unfold inV L2.inD at i2 ⊢;rw [any_cons,any_cons,i2,a.eqF g.1 h f]
def fIn(neg:Bool):F2
 | a,.lst ds,Q=>(a.fl=true/\ds.all D.fl=true)/\Q (.dat (.bl (if neg then !inD a ds else inD a ds)))
 | a,.tup ds,Q=>(a.fl=true/\ds.all D.fl=true)/\Q (.dat (.bl (if neg then !inD a ds else inD a ds)))
 | _,_,_=>False
theorem FVc.fl{O:Addr->Prop}{H:Hp}{v:V}{d:D}(h:FVc K O H v d)(f:d.fl=true):FV K O H v d:=h.fv (fun _ z=>by rw [z] at f;cases f) (fun _ _ _ z=>by rw [z] at f;cases f)
theorem FK(K:PySem.W.Frag)(e:X.K=K):OpR X (compareOp .In) (rIn K false):=by subst e;exact vS
theorem AT(K:PySem.W.Frag)(e:X.K=K):OpR X (compareOp .NotIn) (rIn K true):=by subst e;exact qc
theorem C4{neg:Bool}:LO K (rIn K neg) (fIn neg):=by
 intro O H x y a b Q Q' dom fx fy q k;unfold fIn at q
 split at q
 .obtain⟨p,xs,rfl,e1,f1⟩:=fy.lst;obtain⟨g1,g2⟩:=f1.inD (fx.fl q.1.1) q.1.1 q.1.2;exact⟨p,xs,rfl,.inl (SqL.of e1),(fx.fl q.1.1).fl q.1.1,g1,by rw [g2];exact k _ H _ q.2 (Gr.refl _) (.bl _)⟩
 .obtain⟨p,xs,rfl,n1,e1,f1⟩:=fy.tup;obtain⟨g1,g2⟩:=f1.inD (fx.fl q.1.1) q.1.1 q.1.2;exact⟨p,xs,rfl,.inr (SqT.of e1),(fx.fl q.1.1).fl q.1.1,g1,by rw [g2];exact k _ H _ q.2 (Gr.refl _) (.bl _)⟩
 .exact q.elim
def uK(K:PySem.W.Frag):R2:=fun x y H Q=>BE K x y H Q\/Fk K x y H Q\/CB x y H Q
theorem eS(K:PySem.W.Frag)(e:X.K=K):IxR X (uK K):=by
 subst e;exact IxR.or Aq (IxR.or Cn Ay)
def fIx:F2
 | .lst ds,.int i,Q=>∃d,atI ds i=some d/\Q (.dat d)
 | .tup ds,.int i,Q=>∃d,atI ds i=some d/\Q (.dat d)
 | .scr ns,.int i,Q=>∃d,atI ns i=some d/\Q (.dat (.int d))
 | .str l,.int i,Q=>∃c,atI l i=some c/\Q (.dat (.str [c]))
 | _,_,_=>False
theorem FVs.atI{O:Addr->Prop}{H:Hp}{vs:List V}{ds:List D}{i:Int}{d:D}(f:FVs K O H vs ds)(h:L2.atI ds i=some d):∃v,L2.atI vs i=some v/\FV K O H v d:=by
 unfold L2.atI at h ⊢;rw [f.length]
 cases e:ixN ds.length i with
 | none=>rw [e] at h;cases h
 | some j=>rw [e] at h;exact f.getD h
theorem bS:LO K (uK K) fIx:=by
 intro O H x y a b Q Q' dom fx fy q k;unfold fIx at q
 split at q
 .obtain⟨d,hd,q⟩:=q;obtain⟨p,xs,rfl,e1,f1⟩:=fx.lst;obtain⟨v,hv,fv⟩:=f1.atI hd;exact .inl ⟨p,xs,_,v,rfl,fy.int,SqL.of e1,hv,k _ H _ q (Gr.refl _) fv⟩
 .obtain⟨d,hd,q⟩:=q;obtain⟨p,xs,rfl,n1,e1,f1⟩:=fx.tup;obtain⟨v,hv,fv⟩:=f1.atI hd;exact .inr (.inl ⟨p,xs,_,v,rfl,fy.int,SqT.of e1,hv,k _ H _ q (Gr.refl _) fv⟩)
 .obtain⟨d,hd,q⟩:=q;obtain⟨p,rfl,e1⟩:=fx.scr;exact .inl ⟨p,_,_,_,rfl,fy.int,e1,AA hd,k _ H _ q (Gr.refl _) (.int d)⟩
 .obtain⟨c,hc,q⟩:=q;exact .inr (.inr ⟨_,_,c,fx.str.1,fy.int,sz _ fx.str.2,hc,k _ H _ q (Gr.refl _) (.str _ (by show 1<=1000000;decide))⟩)
 .exact q.elim
end
end L2
namespace L2
open PySem PySem.Spec PyProof.Rows _root_.HT
section
variable {prog:Program}{w:World}{A:Around}{E:Value->Shared->Prop}{s:Shared}
theorem jX{t sl:Addr}{items:Array Value}{vl vu:Value}{lo hi:Option Int}{Q:Value->Shared->Prop}(ht:IsTup s.heap t items)(hs:s.heap.IsSliceOf sl vl vu .none)(pl:IsPart vl lo)(pu:IsPart vu hi)
  (hw:sIx items.size 0 lo=0/\sIx items.size items.size hi=items.size)
  (h:Q (.ref t) s):wpAny (model prog w) A (getItem (.ref t) (.ref sl)) Q E s:=by
 obtain⟨os,hos,hcs,hds⟩:=id hs;have hTs:s.TypeIs (.ref sl) "slice":=⟨os,hos,hcs⟩
 unfold getItem
 try with_reducible refine wpAny_holding ?_
 first|refine wpAny_bind (wpAny_pure ?_)|skip
 refine wpAny_bind (wpAny_sequenceKey ht.typeIs (by decide) ?_)
 refine wpAny_bind (wpAny_callSpecial?_slot (name:=Str.ofString "__getitem__") ht.typeIs PyProof.Rows.slot_tuple_getitem
  (wpAny_call_entry PyProof.Rows.slot_tuple_getitem ht.typeIs entry_tuple_getitem ?_ (args_tuple_getitem _ _)))
 show wpAny _ _ (Builtin.Tuple.tupleItemsOf (.ref t) >>= _) _ _ s;refine wpAny_bind (tupleItemsOf_ ht ?_);refine wpAny_bind (wpAny_typeOf hTs ?_);rw [if_pos (by decide)];refine wpAny_bind (gK hs pl pu ?_)
 have hyes:(((sIx items.size 0 lo:Nat):Int) == 0 && (1:Int) == 1 && (sIx items.size items.size hi - sIx items.size 0 lo) == items.size)=true:=by
  rw [hw.1,hw.2,Nat.sub_zero];simp
 show wpAny _ _ (if (((sIx items.size 0 lo:Nat):Int) == 0 && (1:Int) == 1 && (sIx items.size items.size hi - sIx items.size 0 lo) == items.size)=true then _ else _) _ _ s;rw [if_pos hyes];refine wpAny_bind (m:=Builtin.Tuple.tupleIsExact _) (wpAny_bind (wpAny_typeOf ht.typeIs (wpAny_pure ?_)));rw [if_pos (by decide)]
 first
  | exact wpAny_bind (m:=rule _) (wpAny_pure (wpAny_pure ⟨_,rfl,wpAny_pure h⟩))
  | exact wpAny_pure ⟨_,rfl,wpAny_pure h⟩
  | exact wpAny_bind (wpAny_rule (wpAny_pure ⟨_,rfl,wpAny_pure h⟩))
def C5(K:PySem.W.Frag):V->Option Int->Option Int->Hp->VK->Prop:=fun x lo hi H Q=>∃a xs,x=.ref a/\SqT K H a xs/\(sIx xs.length 0 lo=0/\sIx xs.length xs.length hi=xs.length)/\Q (.ref a) H
theorem AU{X:Cx}:SlR X (C5 X.K):=by
 intro pins s σ H x v vl vu lo hi sl Q I rx hs pl pu h;obtain⟨a,xs,rfl,hx,hw,q⟩:=h;cases rx;obtain⟨its,r,ht,hz⟩:=I.tuple hx;have hlen:its.toArray.size=xs.length:=by rw [size_toArray];exact r.length.symm
 refine⟨"tuple",_,PyProof.Rows.slot_tuple_getitem.lookup,ht.typeIs,?_⟩;exact jX ht hs pl pu (by rw [hlen];exact hw) ⟨.ref a,H,I,rfl,q⟩
end
end L2
namespace L2
open PySem PySem.Spec PyProof.Rows
section
variable {K:PySem.W.Frag}{X:Cx}{ta tb tc to:TE}{pa pb pc:PA1}{pe:PTE}{tr:TA}{pr:PTA}
def tM(f f':F2)(pa pb pc:PA1):PTE:=fun ρ Q=>pa ρ fun x ρ1=>pb ρ1 fun y ρ2=>op2 f ρ2 x y fun p ρ3=>match p with
 | .dat (.bl k)=>ji k (pc ρ3 fun z ρ4=>op2 f' ρ4 y z Q) (Q (.dat (.bl false)) ρ3)
 | _=>False
theorem oA{r r':R2}{f f':F2}(o:LO K r f)(o':LO K r' f')(ha:LA1 K ta pa)(hb:LA1 K tb pb)(hc:LA1 K tc pc):LE K (sY r r' ta tb tc) (tM f f' pa pb pc):=fun A ρ σ H Q Q' R q k =>
 ha A ρ σ H _ _ R q fun v H1 a ρ1 q1 f1 R1 o1=>hb A ρ1 σ H1 _ _ R1 q1 fun w H2 b ρ2 q2 f2 R2 o2=>by
  unfold op2 at q2
  split at q2
  .rename_i da db e1 e2;refine o _ H2 v w da db _ _ R2.dom2 (R2.cont (o1.keeps f2.keeps) e1) (R2.cont o2 e2) q2 fun z H3 p q3 g ov=>?_;dsimp only at q3
   split at q3
   .rename_i c;cases ov;refine⟨c,rfl,?_⟩;have R3:=R2.gr g
    cases c with
    | true =>
     refine hc A ρ2 σ H3 _ _ R3 q3 fun u H4 cc ρ4 q4 f4 R4 o4=>?_
     try unfold op2 at q4
     split at q4
     .rename_i dc dd e3 e4;have o2':AOk K (OO A ρ4 σ) σ H4 b w:=(o2.keeps (g.fr (ρ:=ρ2) (σ:=σ)).keeps).keeps f4.keeps;exact o' _ H4 w u _ _ _ _ R4.dom2 (R4.cont o2' e3) (R4.cont o4 e4) q4 fun z H5 p q5 g5 ov=>k z H5 p ρ4 q5 ((((f1.trans f2).trans g.fr).trans f4).trans g5.fr) ((ov.out R4 g5).h0 fun b z=>f4.dm b ((g.fr (ρ:=ρ2) (σ:=σ)).dm b (f2.dm b (f1.dm b z))))
     .exact q4.elim
    | false=>exact k _ H3 _ ρ2 q3 ((f1.trans f2).trans g.fr) ⟨R3,.bl false⟩
   .exact q3.elim
  .exact q2.elim
abbrev PTO:=PSt->(Option Int->PSt->Prop)->Prop
def LPo(K:PySem.W.Frag)(t:TO)(p:PTO):Prop:=∀(A:Addr->Prop) (ρ:PSt) (σ:St) (H:Hp) (Q:Option Int->PSt->Prop) (Q':Option Int->Hp->Prop),Rel K A ρ σ H->p ρ Q ->
 (∀b H' ρ',Q b ρ'->Fr ρ σ H ρ' H'->Rel K A ρ' σ H'->Q' b H')->t σ H Q'
def dZ:PTO:=fun ρ Q=>Q none ρ
def dC(pe:PTE):PTO:=fun ρ Q=>pe ρ fun p ρ1=>match p with
 | .dat (.int i)=>Q (some i) ρ1
 | _=>False
theorem cv:LPo K vQ dZ:=fun A ρ σ H Q Q' R q k=>k none H ρ q (Fr.refl _ _ _) R
theorem bV(h:LE K ta pe):LPo K (Cj ta) (dC pe):=fun A ρ σ H Q Q' R q k=>h A ρ σ H _ _ R q fun v H1 p ρ1 q1 f1 o1=>by
 split at q1
 .rename_i i;obtain⟨R1,f⟩:=o1;cases f;exact⟨i,rfl,k _ H1 ρ1 q1 f1 R1⟩
 .exact q1.elim
def EE(K:PySem.W.Frag):V->Option Int->Option Int->Hp->VK->Prop:=fun x lo hi H Q=>Fm K x lo hi H Q\/Fo x lo hi H Q\/Fj K x lo hi H Q\/C5 K x lo hi H Q
theorem qy(K:PySem.W.Frag)(e:X.K=K):SlR X (EE K):=by
 subst e;exact SlR.or Ar (SlR.or Cw (SlR.or Ck AU))
def fSl:D->Option Int->Option Int->(PV->Prop)->Prop
 | .lst ds,lo,hi,Q=>Q (.own (eR ds lo hi))
 | .scr ns,lo,hi,Q=>Q (.own ((eR ns lo hi).map .int))
 | .str l,lo,hi,Q=>Q (.dat (.str (eR l lo hi)))
 | .tup ds,lo,hi,Q=>Q (.dat (.tup (eR ds lo hi)))
 | _,_,_,_=>False
theorem FVs.cut{O:Addr->Prop}{H:Hp}{xs:List V}{ds:List D}(f:FVs K O H xs ds)(lo hi:Option Int):FVs K O H (eR xs lo hi) (eR ds lo hi):=by
 unfold eR;rw [f.length];exact (f.drop _).take _
def dJ(pa:PA1)(pl ph:PTO):PTE:=fun ρ Q=>pa ρ fun x ρ1=>pl ρ1 fun lo ρ2=>ph ρ2 fun hi ρ3=>match cont ρ3 x with
 | some d=>fSl d lo hi fun p=>Q p ρ3
 | _=>False
theorem AW{α:Type}{ds:List α}{lo hi:Option Int}{n:Nat}(h:n=ds.length)(hw:HT.sIx n 0 lo=0/\HT.sIx n n hi=n):eR ds lo hi=ds:=by
 subst h;unfold eR;rw [hw.1,hw.2,drop_zero,Nat.sub_zero,take_length]
theorem lsl{O:Addr->Prop}{H:Hp}{x:V}{d:D}{lo hi:Option Int}{Q:PV->Prop}{Q':VK}(dom:∀b,O b->H b≠none)(fx:FVc K O H x d)(q:fSl d lo hi Q)(k:∀v H' p,Q p->Gr H H'->rS K O H H' p v->Q' v H'):EE K x lo hi H Q':=by
 unfold fSl at q
 split at q
 .obtain⟨a,xs,rfl,e1,f1⟩:=fx.lst;exact .inl ⟨a,xs,rfl,SqL.of e1,fun p hp=>k _ _ _ q (Gr.new hp) (f9 hp (f1.cut _ _))⟩
 .obtain⟨a,rfl,e1⟩:=fx.scr;exact .inl ⟨a,_,rfl,e1,fun p hp=>k _ _ _ q (Gr.new hp) (f9 hp (by rw [vY,ym];exact FVs.of_ints _))⟩
 .exact .inr (.inl ⟨_,fx.str.1,sz _ fx.str.2,k _ H _ q (Gr.refl _) (.str _ (le_trans (bM _ _ _) fx.str.2))⟩)
 .obtain⟨a,xs,rfl,n1,e1,f1⟩:=fx.tup
  by_cases hw:HT.sIx xs.length 0 lo=0/\HT.sIx xs.length xs.length hi=xs.length
  .refine .inr (.inr (.inr ⟨a,xs,rfl,SqT.of e1,hw,k _ H _ q (Gr.refl _) ?_⟩));rw [AW f1.length hw];exact .tup n1 e1 f1
  .exact .inr (.inr (.inl ⟨a,xs,rfl,SqT.of e1,hw,fun p hp=>k _ _ _ q (Gr.new hp) (lK dom hp (f1.cut _ _))⟩))
 .exact q.elim
theorem cf{tl th:TO}{pl ph:PTO}(ha:LA1 K ta pa)(hl:LPo K tl pl)(hh:LPo K th ph):LE K (tSl (EE K) ta tl th) (dJ pa pl ph):=fun A ρ σ H Q Q' R q k =>
 ha A ρ σ H _ _ R q fun v H1 a ρ1 q1 f1 R1 o1=>hl A ρ1 σ H1 _ _ R1 q1 fun lo H2 ρ2 q2 f2 R2=>hh A ρ2 σ H2 _ _ R2 q2 fun hi H3 ρ3 q3 f3 R3=>by
  split at q3
  .rename_i d e1;exact lsl R3.dom2 (R3.cont (o1.keeps (f2.trans f3).keeps) e1) q3 fun z H4 p q4 g ov=>k z H4 p ρ3 q4 (((f1.trans f2).trans f3).trans g.fr) ((ov.out R3 g).h0 fun b z=>f3.dm b (f2.dm b (f1.dm b z)))
  .exact q3.elim
abbrev FN:=List D->(PV->Prop)->Prop
def rT(K:PySem.W.Frag):List V->Hp->VK->Prop:=fun xs H Q=>(∃l,xs=[.str (S l)]/\l.length<=sizeLine/\Q (.int l.length) H)\/Ep K xs H Q\/Er K xs H Q\/∃p kvs,xs=[.ref p]/\Rd H p (.dK kvs)/\Q (.int kvs.length) H
theorem bW(K:PySem.W.Frag)(e:X.K=K):cC X (.builtin "len") (rT K):=by
 subst e;exact cC.or wj (cC.or wl (cC.or wm wz))
def eE:FN
 | [.str l],Q=>Q (.dat (.int l.length))
 | [.lst l],Q=>Q (.dat (.int l.length))
 | [.tup l],Q=>Q (.dat (.int l.length))
 | [.scr l],Q=>Q (.dat (.int l.length))
 | [.dic ks _],Q=>Q (.dat (.int ks.length))
 | _,_=>False
theorem aZ:LC K (rT K) eE:=by
 intro O H xs as Q Q' dom fs q k;unfold eE at q
 split at q
 .cases fs with|cons a b=>cases b;rw [a.str.1];exact .inl ⟨_,rfl,sz _ a.str.2,k _ H _ q (Gr.refl _) (.int _)⟩
 .cases fs with
  | cons a b =>
   cases b;obtain⟨p,ys,rfl,e1,f1⟩:=a.lst;exact .inr (.inl ⟨p,ys,rfl,SqL.of e1,by rw [f1.length];exact k _ H _ q (Gr.refl _) (.int _)⟩)
 .cases fs with
  | cons a b =>
   cases b;obtain⟨p,ys,rfl,n1,e1,f1⟩:=a.tup;exact .inr (.inr (.inl ⟨p,ys,rfl,SqT.of e1,by rw [f1.length];exact k _ H _ q (Gr.refl _) (.int _)⟩))
 .cases fs with
  | cons a b =>
   cases b;obtain⟨p,rfl,e1⟩:=a.scr;exact .inr (.inl ⟨p,_,rfl,e1,by rw [length_map];exact k _ H _ q (Gr.refl _) (.int _)⟩)
 .cases fs with
  | cons a b =>
   cases b
   cases a.fv nofun nofun with
   | dic n e m f=>subst m;exact .inr (.inr (.inr ⟨_,_,rfl,.inl e,k _ H _ q (Gr.refl _) (by rw [length_map];exact .int _)⟩))
 .exact q.elim
inductive Kd where
 | int|bool|str|list|tuple|dict
def Kd.nm:Kd->String
 | .int=>"int"|.bool=>"bool"|.str=>"str"|.list=>"list"|.tuple=>"tuple"|.dict=>"dict"
def isK:Kd->D->Bool
 | .int,.int _=>true
 | .int,.bl _=>true
 | .bool,.bl _=>true
 | .str,.str _=>true
 | .list,.lst _=>true
 | .tuple,.tup _=>true
 | .dict,.dic _ _=>true
 | _,_=>false
def D.sort:D->Bool
 | .obj _ _ _=>false
 | .exc _ _ _=>false
 | .scr _=>false
 | .ty _=>false
 | _=>true
theorem FVc.ty{O:Addr->Prop}{H:Hp}{v:V}{d:D}(h:FVc K O H v d)(s:d.sort=true):∃t,pV K H v t/\∀k:Kd,PySem.W.kitOne K t (.type k.nm)=some (isK k d):=by
 rcases h with h|⟨a,xs,ds',rfl,rfl,e3,f⟩|⟨a,dx,c,fs,ns,ds',rfl,rfl,_⟩
 .cases h with
  | non=>exact⟨_,.non,fun k=>by cases k <;> rfl⟩
  | bl b=>exact⟨_,.bl b,fun k=>by cases k <;> rfl⟩
  | int i=>exact⟨_,.int i,fun k=>by cases k <;> rfl⟩
  | str l h=>exact⟨_,.str _,fun k=>by cases k <;> rfl⟩
  | ty n=>cases s
  | scr _=>cases s
  | lst n e f=>exact⟨_,.lst e,fun k=>by cases k <;> rfl⟩
  | tup n e f=>exact⟨_,.tup e,fun k=>by cases k <;> rfl⟩
  | dic n e m f=>exact⟨_,.dK e,fun k=>by cases k <;> rfl⟩
  | obj _ _ _ _=>cases s
  | exc0 _ _=>cases s
  | exc1 _ _ _ _ _ _=>cases s
 .exact⟨_,.lst e3,fun k=>by cases k <;> rfl⟩
 .cases s
theorem wI(K:PySem.W.Frag)(e:X.K=K):cC X (.builtin "isinstance") (Fp K):=by subst e;exact rL
def BI(k:Kd)(pa:PA1):PTE:=fun ρ Q=>pa ρ fun x ρ1=>match cont ρ1 x with
 | some d=>ji d.sort (Q (.dat (.bl (isK k d))) ρ1) False
 | _=>False
theorem qz(k:Kd)(ha:LA1 K ta pa):LE K (tCB (Fp K) (bg ta (bg (tC (.ty k.nm)) fS))) (BI k pa):=fun A ρ σ H Q Q' R q kk =>
 ha A ρ σ H _ _ R q fun v H1 a ρ1 q1 f1 R1 o1=>by
  split at q1
  .rename_i d e1
   cases hs:d.sort with
   | false=>rw [hs] at q1;exact q1.elim
   | true =>
    rw [hs] at q1;obtain⟨t,ty,hk⟩:=(R1.cont o1 e1).ty hs;exact⟨v,k.nm,t,isK k d,rfl,ty,hk k,kk _ H1 _ ρ1 q1 f1 ⟨R1,.bl _⟩⟩
  .exact q1.elim
def Fs(K:PySem.W.Frag):List V->Hp->VK->Prop:=fun xs H Q=>∃(x:V) (p:Addr) (ts:List String) (t:Value) (b:Bool),xs=[x,.ref p]/\pV K H x t/\H p=some (.tup (ts.map V.ty))/\PySem.W.kitAny K t (ts.map Value.type)=some b/\Q (.bl b) H
theorem AX(K:PySem.W.Frag)(e:X.K=K):cC X (.builtin "isinstance") (Fs K):=by subst e;exact qv
def DU(k l:Kd)(pa:PA1):PTE:=fun ρ Q=>pa ρ fun x ρ1=>match cont ρ1 x with
 | some d=>ji d.sort (Q (.dat (.bl (isK k d || isK l d))) ρ1) False
 | _=>False
theorem FVc.keeps{O O':Addr->Prop}{H H':Hp}{v:V}{d:D}(k:aL O H O' H')(g:Gr H H')(h:FVc K O H v d):FVc K O' H' v d:=by
 rcases h with h|⟨a,xs,ds',e1,e2,e3,f⟩|⟨a,dx,c,fs,ns,ds',e1,e2,e3,m,f⟩
 .exact .inl (h.keeps k)
 .exact .inr (.inl ⟨a,xs,ds',e1,e2,g _ _ e3,f.keeps k⟩)
 .exact .inr (.inr ⟨a,dx,c,fs,ns,ds',e1,e2,g _ _ e3,m,f.keeps k⟩)
theorem wJ(k l:Kd)(hkl:∀t b c,PySem.W.kitOne K t (.type k.nm)=some b->PySem.W.kitOne K t (.type l.nm)=some c->PySem.W.kitAny K t [.type k.nm,.type l.nm]=some (b || c))(ha:LA1 K ta pa):LE K (tCB (Fs K) (bg ta (bg (Aj (bg (tC (.ty k.nm)) (bg (tC (.ty l.nm)) fS))) fS))) (DU k l pa):=fun A ρ σ H Q Q' R q kk =>
 ha A ρ σ H _ _ R q fun v H1 a ρ1 q1 f1 R1 o1=>by
  split at q1
  .rename_i d e1
   cases hs:d.sort with
   | false=>rw [hs] at q1;exact q1.elim
   | true =>
    rw [hs] at q1;refine⟨by show 2<=sizeLine;decide,fun p hp=>?_⟩;have g:Gr H1 (upd H1 p (.tup [V.ty k.nm,V.ty l.nm])):=Gr.new hp;obtain⟨t,ty,hk⟩:=((R1.cont o1 e1).keeps (g.fr (ρ:=ρ1) (σ:=σ)).keeps g).ty hs;exact⟨v,p,[k.nm,l.nm],t,_,rfl,ty,aJ,hkl _ _ _ (hk k) (hk l),kk _ _ _ ρ1 q1 (f1.trans g.fr) ⟨R1.gr g,.bl _⟩⟩
  .exact q1.elim
end
structure C6 where
 nx:PSt->Prop
 rt:PV->PSt->Prop
 bk:PSt->Prop:=fun _=>False
 ct:PSt->Prop:=fun _=>False
abbrev PTS:=C6->PSt->Prop
structure fe (fx:List (Nat×V)) (R:Addr->Prop) (H0:Hp) (ρ:PSt) (σ:St) (H:Hp):Prop where
 kp:∀b o,¬ R b->H0 b=some o->H b=some o
 dm:∀b,H0 b≠none->H b≠none
 ow:∀b,Wr ρ σ b->R b\/H0 b=none
 fx:∀p∈fx,σ[p.1]?=some (some p.2)
section
variable {K:PySem.W.Frag}{fx:List (Nat×V)}{A R:Addr->Prop}{H0 H H':Hp}{ρ ρ':PSt}{σ:St}
theorem fe.fr(F:fe fx R H0 ρ σ H)(f:Fr ρ σ H ρ' H'):fe fx R H0 ρ' σ H' :=
 ⟨fun b o n e=>f.kp b o (fun w=>(F.ow b w).elim n (fun z=>by rw [z] at e;cases e)) (F.kp b o n e),fun b z=>f.dm b (F.dm b z),fun b w=>F.ow b (f.ow b w),F.fx⟩
theorem fe.start(hfx:∀p∈fx,σ[p.1]?=some (some p.2)):fe fx (Wr ρ σ) H ρ σ H:=⟨fun _ _ _ h=>h,fun _ h=>h,fun _ h=>.inl h,hfx⟩
theorem fe.keepsR{ρ1:PSt}{σ1:St}{H1:Hp}(F:fe fx R H1 ρ σ H)(hR:∀b,R b->OO A ρ1 σ1 b):aL (OO A ρ1 σ1) H1 (OO A ρ σ) H:=fun b o n e=>by
 refine⟨fun z=>?_,F.kp b o (fun z=>n (hR b z)) e⟩
 rcases z with z|z
 .exact n (.inl z)
 .rcases F.ow b z with z|z
  .exact n (hR b z)
  .rw [z] at e;cases e
theorem fe.keeps{ρ1:PSt}{σ1:St}{H1:Hp}(F:fe fx (Wr ρ1 σ1) H1 ρ σ H):aL (OO A ρ1 σ1) H1 (OO A ρ σ) H:=F.keepsR fun b z=>.inr z
theorem fe.trans{fx':List (Nat×V)}{ρ1:PSt}{σ1:St}{H1:Hp}(F:fe fx R H0 ρ1 σ1 H1)(G:fe fx' (Wr ρ1 σ1) H1 ρ σ H)(hfx:∀p∈fx,σ[p.1]?=some (some p.2)):fe fx R H0 ρ σ H:=by
 refine⟨fun b o n e=>G.kp b o (fun w=>(F.ow b w).elim n (fun z=>by rw [z] at e;cases e)) (F.kp b o n e),fun b z=>G.dm b (F.dm b z),fun b w=>?_,hfx⟩
 rcases G.ow b w with z|z
 .exact F.ow b z
 .refine .inr ?_
  cases e:H0 b with
  | none=>rfl
  | some o=>exact absurd z (F.dm b (by rw [e];exact nofun))
theorem Out.put{p:PV}{v:V}{i:Nat}(h:Out K A ρ σ H0 H p v):Rel K A (ρ.set i (some p)) (σ.set i (some v)) H/\∀b,Wr (ρ.set i (some p)) (σ.set i (some v)) b->Wr ρ σ b\/H0 b=none:=by
 have get:∀(j:Nat) (q:PV),(ρ.set i (some p))[j]?=some (some q)->(j=i/\q=p/\i<ρ.length)\/(j≠i/\ρ[j]?=some (some q)):=fun j q e=>by
  by_cases z:i=j
  .subst z
   by_cases hi:i<ρ.length
   .rw [getElem?_set_self hi] at e;cases e;exact .inl ⟨rfl,rfl,hi⟩
   .rw [getElem?_eq_none (by rw [length_set];omega)] at e;cases e
  .rw [getElem?_set_ne z] at e;exact .inr ⟨fun q=>z q.symm,e⟩
 cases p with
 | dat d =>
  obtain⟨R1,f⟩:=h
  have ow:∀b,Wr (ρ.set i (some (.dat d))) (σ.set i (some v)) b->Wr ρ σ b:=fun b ⟨j,r,e1,o1,s1⟩=>by
   rcases get j r e1 with ⟨_,rfl,_⟩|⟨n,e⟩
   .cases o1
   .rw [getElem?_set_ne (fun z=>n z.symm)] at s1;exact⟨j,r,e,o1,s1⟩
  have k:aL (OO A ρ σ) H (OO A (ρ.set i (some (.dat d))) (σ.set i (some v))) H:=aL.less fun b z=>z.imp id (ow b)
  refine⟨⟨by rw [length_set,length_set];exact R1.len,fun j r e1=>?_,fun j l p1 q1 v' e1 e2 o1 o2 s1 s2=>?_,R1.dom,fun b z w=>R1.sep b z (ow b w)⟩,fun b w=>.inl (ow b w)⟩
  .rcases get j r e1 with ⟨rfl,rfl,hi⟩|⟨n,e⟩
   .exact⟨v,getElem?_set_self (by rw [<- R1.len];exact hi),f.keeps k⟩
   .obtain⟨u,s,r'⟩:=R1.get j r e;exact⟨u,by rw [getElem?_set_ne (fun z=>n z.symm)];exact s,r'.keeps k fun _ _ _=>rfl⟩
  .rcases get j p1 e1 with ⟨_,rfl,_⟩|⟨n1,e1⟩
   .cases o1
   .rcases get l q1 e2 with ⟨_,rfl,_⟩|⟨n2,e2⟩
    .cases o2
    .rw [getElem?_set_ne (fun z=>n1 z.symm)] at s1;rw [getElem?_set_ne (fun z=>n2 z.symm)] at s2;exact R1.dj j l p1 q1 v' e1 e2 o1 o2 s1 s2
 | own ds =>
  obtain⟨a,xs,rfl,na,hn,e0,R1,f⟩:=h
  have ow:∀b,Wr (ρ.set i (some (.own ds))) (σ.set i (some (.ref a))) b->Wr ρ σ b\/b=a:=fun b ⟨j,r,e1,o1,s1⟩=>by
   rcases get j r e1 with ⟨rfl,rfl,hi⟩|⟨n,e⟩
   .rw [getElem?_set_self (by rw [<- R1.len];exact hi)] at s1;cases s1;exact .inr rfl
   .rw [getElem?_set_ne (fun z=>n z.symm)] at s1;exact .inl ⟨j,r,e,o1,s1⟩
  have k:aL (OO (cP A a) ρ σ) H (OO A (ρ.set i (some (.own ds))) (σ.set i (some (.ref a)))) H:=aL.less fun b z=>by
   rcases z with z|z
   .exact .inl (.inl z)
   .rcases ow b z with z|z
    .exact .inr z
    .exact .inl (.inr z)
  refine⟨⟨by rw [length_set,length_set];exact R1.len,fun j r e1=>?_,fun j l p1 q1 v' e1 e2 o1 o2 s1 s2=>?_,fun b z=>R1.dom b (.inl z),fun b z w=>?_⟩,fun b w=>(ow b w).imp id fun z=>by rw [z];exact hn⟩
  .rcases get j r e1 with ⟨rfl,rfl,hi⟩|⟨n,e⟩
   .exact⟨_,getElem?_set_self (by rw [<- R1.len];exact hi),a,xs,rfl,e0,f.keeps k⟩
   .obtain⟨u,s,r'⟩:=R1.get j r e;exact⟨u,by rw [getElem?_set_ne (fun z=>n z.symm)];exact s,r'.keeps k fun _ _ _=>rfl⟩
  .rcases get j p1 e1 with ⟨rfl,rfl,hi⟩|⟨n1,e1'⟩
   .rw [getElem?_set_self (by rw [<- R1.len];exact hi)] at s1;cases s1
    rcases get l q1 e2 with ⟨rfl,rfl,_⟩|⟨n2,e2⟩
    .rfl
    .rw [getElem?_set_ne (fun z=>n2 z.symm)] at s2;exact absurd ⟨l,q1,e2,o2,s2⟩ (R1.sep a (.inr rfl))
   .rw [getElem?_set_ne (fun z=>n1 z.symm)] at s1
    rcases get l q1 e2 with ⟨rfl,rfl,hi⟩|⟨n2,e2⟩
    .rw [getElem?_set_self (by rw [<- R1.len];exact hi)] at s2;cases s2;exact absurd ⟨j,p1,e1',o1,s1⟩ (R1.sep a (.inr rfl))
    .rw [getElem?_set_ne (fun z=>n2 z.symm)] at s2;exact R1.dj j l p1 q1 v' e1' e2 o1 o2 s1 s2
  .rcases ow b w with w|w
   .exact R1.sep b (.inl z) w
   .rw [w] at z;exact na z
 | ins c ns ds =>
  obtain⟨a,dx,fs,rfl,na,hn,e0,m,R1,f⟩:=h
  have ow:∀b,Wr (ρ.set i (some (.ins c ns ds))) (σ.set i (some (.ref a))) b->Wr ρ σ b\/b=a:=fun b ⟨j,r,e1,o1,s1⟩=>by
   rcases get j r e1 with ⟨rfl,rfl,hi⟩|⟨n,e⟩
   .rw [getElem?_set_self (by rw [<- R1.len];exact hi)] at s1;cases s1;exact .inr rfl
   .rw [getElem?_set_ne (fun z=>n z.symm)] at s1;exact .inl ⟨j,r,e,o1,s1⟩
  have k:aL (OO (cP A a) ρ σ) H (OO A (ρ.set i (some (.ins c ns ds))) (σ.set i (some (.ref a)))) H:=aL.less fun b z=>by
   rcases z with z|z
   .exact .inl (.inl z)
   .rcases ow b z with z|z
    .exact .inr z
    .exact .inl (.inr z)
  refine⟨⟨by rw [length_set,length_set];exact R1.len,fun j r e1=>?_,fun j l p1 q1 v' e1 e2 o1 o2 s1 s2=>?_,fun b z=>R1.dom b (.inl z),fun b z w=>?_⟩,fun b w=>(ow b w).imp id fun z=>by rw [z];exact hn⟩
  .rcases get j r e1 with ⟨rfl,rfl,hi⟩|⟨n,e⟩
   .exact⟨_,getElem?_set_self (by rw [<- R1.len];exact hi),a,dx,fs,rfl,e0,m,f.keeps k⟩
   .obtain⟨u,s,r'⟩:=R1.get j r e;exact⟨u,by rw [getElem?_set_ne (fun z=>n z.symm)];exact s,r'.keeps k fun _ _ _=>rfl⟩
  .rcases get j p1 e1 with ⟨rfl,rfl,hi⟩|⟨n1,e1'⟩
   .rw [getElem?_set_self (by rw [<- R1.len];exact hi)] at s1;cases s1
    rcases get l q1 e2 with ⟨rfl,rfl,_⟩|⟨n2,e2⟩
    .rfl
    .rw [getElem?_set_ne (fun z=>n2 z.symm)] at s2;exact absurd ⟨l,q1,e2,o2,s2⟩ (R1.sep a (.inr rfl))
   .rw [getElem?_set_ne (fun z=>n1 z.symm)] at s1
    rcases get l q1 e2 with ⟨rfl,rfl,hi⟩|⟨n2,e2⟩
    .rw [getElem?_set_self (by rw [<- R1.len];exact hi)] at s2;cases s2;exact absurd ⟨j,p1,e1',o1,s1⟩ (R1.sep a (.inr rfl))
    .rw [getElem?_set_ne (fun z=>n2 z.symm)] at s2;exact R1.dj j l p1 q1 v' e1' e2 o1 o2 s1 s2
  .rcases ow b w with w|w
   .exact R1.sep b (.inl z) w
   .rw [w] at z;exact na z
end
abbrev PTG:=PV->PSt->(PSt->Prop)->Prop
abbrev yD:=List D->PSt->(PSt->Prop)->Prop
def LG(K:PySem.W.Frag)(fs:List Nat)(g:TG)(pg:PTG):Prop:=∀(fx:List (Nat×V)) (A R:Addr->Prop) (H0:Hp) (ρ:PSt) (σ:St) (H:Hp) (p:PV) (v:V) (Q:PSt->Prop) (Q':St->Hp->Prop),fx.map Prod.fst=fs->fe fx R H0 ρ σ H->Out K A ρ σ H0 H p v->pg p ρ Q ->
 (∀ρ' σ' H',Q ρ'->Rel K A ρ' σ' H'->fe fx R H0 ρ' σ' H'->Q' σ' H')->g v σ H Q'
def LGs(K:PySem.W.Frag)(fs:List Nat)(g:TGs)(pg:yD):Prop:=∀(fx:List (Nat×V)) (A R:Addr->Prop) (H0:Hp) (ρ:PSt) (σ:St) (H:Hp) (ds:List D) (vs:List V) (Q:PSt->Prop) (Q':St->Hp->Prop),fx.map Prod.fst=fs->fe fx R H0 ρ σ H->Rel K A ρ σ H->FVs K (OO A ρ σ) H vs ds->pg ds ρ Q ->
 (∀ρ' σ',Q ρ'->Rel K A ρ' σ' H->fe fx R H0 ρ' σ' H->(∀b,Wr ρ' σ' b->Wr ρ σ b)->Q' σ' H)->g vs σ H Q'
def LGd(K:PySem.W.Frag)(fs:List Nat)(g:TG)(pg:PTG):Prop:=∀(fx:List (Nat×V)) (A R:Addr->Prop) (H0:Hp) (ρ:PSt) (σ:St) (H:Hp) (d:D) (v:V) (Q:PSt->Prop) (Q':St->Hp->Prop),fx.map Prod.fst=fs->fe fx R H0 ρ σ H->Rel K A ρ σ H->FV K (OO A ρ σ) H v d->pg (.dat d) ρ Q ->
 (∀ρ' σ',Q ρ'->Rel K A ρ' σ' H->fe fx R H0 ρ' σ' H->(∀b,Wr ρ' σ' b->Wr ρ σ b)->Q' σ' H)->g v σ H Q'
def au(i:Nat):PTG:=fun p ρ Q=>Q (ρ.set i (some p))
def oB:yD:=fun ds ρ Q=>match ds with|[]=>Q ρ|_=>False
def eA(g:PTG)(gs:yD):yD:=fun ds ρ Q=>match ds with|d::r=>g (.dat d) ρ fun ρ1=>gs r ρ1 Q|[]=>False
section
variable {K:PySem.W.Frag}{fs:List Nat}
theorem fe.put{fx:List (Nat×V)}{R:Addr->Prop}{H0 H:Hp}{ρ:PSt}{σ:St}{i:Nat}{p:PV}{v:V}(hf:fx.map Prod.fst=fs)(hi:fs.contains i=false)(F:fe fx R H0 ρ σ H)(ow:∀b,Wr (ρ.set i (some p)) (σ.set i (some v)) b->Wr ρ σ b\/H0 b=none):fe fx R H0 (ρ.set i (some p)) (σ.set i (some v)) H :=
 ⟨F.kp,F.dm,fun b w=>(ow b w).elim (F.ow b) .inr,fun q hq=>by
  have:q.1≠i:=fun z=>by
   have h1:i∈fs:=by rw [<- hf,<- z];exact mem_map_of_mem hq
   rw [contains_iff_mem.mpr h1] at hi;cases hi
  rw [getElem?_set_ne (fun z=>this z.symm)];exact F.fx q hq⟩
theorem aC{i:Nat}(hi:fs.contains i=false):LG K fs (cT i) (au i):=fun fx A R H0 ρ σ H p v Q Q' hf F o q k=>k _ _ _ q o.put.1 (F.put hf hi o.put.2)
theorem i4:LGs K fs B5 oB:=fun fx A R H0 ρ σ H ds vs Q Q' hf F r fv q k=>by
 unfold oB at q
 split at q
 .cases fv;exact⟨rfl,k _ _ q r F fun _ h=>h⟩
 .exact q.elim
theorem aA{i:Nat}(hi:fs.contains i=false):LGd K fs (cT i) (au i):=fun fx A R H0 ρ σ H d v Q Q' hf F r fv q k=>by
 have o:Out K A ρ σ H0 H (.dat d) v:=⟨r,fv⟩
 have ow:∀b,Wr (ρ.set i (some (.dat d))) (σ.set i (some v)) b->Wr ρ σ b:=fun b ⟨j,p,e1,o1,s1⟩=>by
  by_cases z:i=j
  .subst z
   by_cases hl:i<ρ.length
   .rw [getElem?_set_self hl] at e1;cases e1;cases o1
   .rw [getElem?_eq_none (by rw [length_set];omega)] at e1;cases e1
  .rw [getElem?_set_ne z] at e1 s1;exact⟨j,p,e1,o1,s1⟩
 exact k _ _ q o.put.1 (F.put hf hi o.put.2) ow
theorem cW{g:TG}{pg:PTG}{gs:TGs}{pgs:yD}(hg:LGd K fs g pg)(h:LGs K fs gs pgs):LGs K fs (pZ g gs) (eA pg pgs):=fun fx A R H0 ρ σ H ds vs Q Q' hf F r fv q k=>by
 unfold eA at q
 split at q
 .cases fv with
  | cons a b =>
   exact⟨_,_,rfl,hg fx A R H0 ρ σ H _ _ _ _ hf F r a q fun ρ1 σ1 q1 r1 F1 w1=>h fx A R H0 ρ1 σ1 H _ _ _ _ hf F1 r1 (b.keeps (aL.less fun b z=>z.imp id (w1 b))) q1 fun ρ2 σ2 q2 r2 F2 w2=>k ρ2 σ2 q2 r2 F2 fun b z=>w1 b (w2 b z)⟩
 .exact q.elim
end
def LS(K:PySem.W.Frag)(fs:List Nat)(ts:TS)(ps:PTS):Prop:=∀(fx:List (Nat×V)) (A R:Addr->Prop) (H0:Hp) (ρ:PSt) (σ:St) (H:Hp) (D:C6) (D':zi),fx.map Prod.fst=fs->Rel K A ρ σ H->fe fx R H0 ρ σ H->ps D ρ ->
 (∀ρ' σ' H',D.nx ρ'->Rel K A ρ' σ' H'->fe fx R H0 ρ' σ' H'->D'.nx σ' H') ->
 (∀v p ρ' σ' H',D.rt p ρ'->Out K A ρ' σ' H0 H' p v->fe fx R H0 ρ' σ' H'->D'.rt v H') ->
 (∀ρ' σ' H',D.bk ρ'->Rel K A ρ' σ' H'->fe fx R H0 ρ' σ' H'->D'.bk σ' H') ->
 (∀ρ' σ' H',D.ct ρ'->Rel K A ρ' σ' H'->fe fx R H0 ρ' σ' H'->D'.ct σ' H')->ts D' σ H
def bz:PTS:=fun D ρ=>D.nx ρ
def aG(a b:PTS):PTS:=fun D ρ=>a { D with nx:=b D } ρ
def kt(pe:PTE):PTS:=fun D ρ=>pe ρ fun _ ρ1=>D.nx ρ1
def bw(pe:PTE):PTS:=fun D ρ=>pe ρ D.rt
def gb(t:PTT)(a b:PTS):PTS:=fun D ρ=>t ρ fun c ρ1=>ji c (a D ρ1) (b D ρ1)
def g6:PTS:=fun _ _=>False
def bh(pe:PTE)(g:PTG):PTS:=fun D ρ=>pe ρ fun p ρ1=>g p ρ1 D.nx
def gN(a:PTS):PTS:=fun D ρ=>∃J:PSt->Prop,a { D with nx:=J } ρ/\∀ρ',J ρ'->D.nx ρ'
section
variable {K:PySem.W.Frag}{fs:List Nat}{ta tb:TS}{pa pb:PTS}{te:TE}{pe:PTE}{tt:TT}{pt:PTT}
theorem aY:LS K fs x0 bz:=fun fx A R H0 ρ σ H D D' hf r F q k1 k2 k3 k4=>k1 _ _ _ q r F
theorem gc:LS K fs zj g6:=fun fx A R H0 ρ σ H D D' hf r F q k1 k2 k3 k4=>q
theorem ay(ha:LS K fs ta pa)(hb:LS K fs tb pb):LS K fs (Aa ta tb) (aG pa pb):=fun fx A R H0 ρ σ H D D' hf r F q k1 k2 k3 k4 =>
 ha fx A R H0 ρ σ H _ _ hf r F q (fun ρ1 σ1 H1 q1 r1 F1=>hb fx A R H0 ρ1 σ1 H1 _ _ hf r1 F1 q1 k1 k2 k3 k4) k2 k3 k4
theorem i5(h:LE K te pe):LS K fs (B3 te) (kt pe):=fun fx A R H0 ρ σ H D D' hf r F q k1 k2 k3 k4=>h A ρ σ H _ _ r q fun v H1 p ρ1 q1 f1 o1=>k1 _ _ _ q1 o1.frz.1 (F.fr f1)
theorem aP(h:LE K te pe):LS K fs (D1 te) (bw pe):=fun fx A R H0 ρ σ H D D' hf r F q k1 k2 k3 k4=>h A ρ σ H _ _ r q fun v H1 p ρ1 q1 f1 o1=>k2 v p ρ1 σ H1 q1 (o1.h0 F.dm) (F.fr f1)
theorem cN(ht:LT K tt pt)(ha:LS K fs ta pa)(hb:LS K fs tb pb):LS K fs (D2 tt ta tb) (gb pt pa pb):=fun fx A R H0 ρ σ H D D' hf r F q k1 k2 k3 k4=>ht A ρ σ H _ _ r q fun c H1 ρ1 q1 f1 r1=>by
 cases c with
 | true=>exact ha fx A R H0 ρ1 σ H1 D D' hf r1 (F.fr f1) q1 k1 k2 k3 k4
 | false=>exact hb fx A R H0 ρ1 σ H1 D D' hf r1 (F.fr f1) q1 k1 k2 k3 k4
theorem aI{g:TG}{pg:PTG}(h:LE K te pe)(hg:LG K fs g pg):LS K fs (x6 te g) (bh pe pg):=fun fx A R H0 ρ σ H D D' hf r F q k1 k2 k3 k4=>h A ρ σ H _ _ r q fun v H1 p ρ1 q1 f1 o1 =>
 hg fx A R H0 ρ1 σ H1 p v _ _ hf (F.fr f1) (o1.h0 F.dm) q1 k1
theorem gf(h:LS K fs ta pa):LS K fs (CK ta) (gN pa):=fun fx A R H0 ρ σ H D D' hf r F q k1 k2 k3 k4=>by
 obtain⟨J,q1,q2⟩:=q;refine⟨fun σ' H'=>∃ρ',J ρ'/\Rel K A ρ' σ' H'/\fe fx R H0 ρ' σ' H',?_,fun σ' H' ⟨ρ',j,r',F'⟩=>k1 ρ' σ' H' (q2 ρ' j) r' F'⟩;exact h fx A R H0 ρ σ H _ _ hf r F q1 (fun ρ' σ' H' j r' F'=>⟨ρ',j,r',F'⟩) k2 k3 k4
end
def lj(K:PySem.W.Frag)(tl:TE):TI:=fun σ H R=>tl σ H fun x H1=>(∃k a xs,x=.ref a/\Sq k K H1 a xs/\R (Itk k K a) H1)\/∃l,x=.str (S l)/\R (Its (cY l)) H1
section
variable {X:Cx}{tg:Expr}
theorem AY{l:Expr}{tl:TE}(hl:PE X l tl):PI X tg l (lj X.K tl):=by
 intro pins s σ H R I h;refine thn (hl pins s σ H _ I h) fun v s1 ⟨x,H1,I1,r1,q1⟩=>?_
 have fin:∀b∈[s1.heap.objs.size],rE X pins H1 b:=fun b hb=>by
  have e:b=s1.heap.objs.size:=by simpa using hb
  subst e;exact I1.fpOk (Nat.le_refl _) (I1.hok.fresh (Nat.le_refl _))
 rcases q1 with ⟨k,a,xs,e,hq,q⟩|⟨l,e,q⟩
 .subst e;cases r1
  cases k with
  | false =>
   obtain⟨its,rv,p,hz⟩:=I1.list hq;refine wpAny_pyIter_list p.isList ?_;exact⟨s1.heap.objs.size,[s1.heap.objs.size],_,_,H1,rfl,I1.kept (t':=s1.toks) fun b o e=>Heap.get?_push_of_some _ e,vy a _,⟨_,Heap.get?_push_size _ rfl,rfl,rfl⟩,fin,q⟩
  | true =>
   obtain⟨its,rv,p,hz⟩:=I1.tuple hq;refine wpAny_pyIter_tuple (show s1.heap.IsTuple a its.toArray from p) ?_;exact⟨s1.heap.objs.size,[s1.heap.objs.size],_,_,H1,rfl,I1.kept (t':=s1.toks) fun b o e=>Heap.get?_push_of_some _ e,um a _,⟨_,Heap.get?_push_size _ rfl,rfl,rfl⟩,fin,q⟩
 .subst e;obtain⟨t,rfl⟩:=r1
  have hv:∀i v,i<(S l).cps.size->SignAt (S l) i v->∃x,(cY l)[i]?=some x/\dw x v:=fun i v _ ⟨c,u,hc,e⟩=>by
   subst e;have hc':l[i]?=some c:=by simpa [S] using hc
   exact⟨.str (S [c]),by unfold cY;rw [getElem?_map,hc'];rfl,u,rfl⟩
  have hsc:∀i v,SignAt (S l) i v->∀a,v≠.ref a:=fun i v ⟨c,u,hc,e⟩ a z=>by subst e;cases z
  have hn:(cY l).length=(S l).cps.size:=by rw [c8];simp [S]
  have hobj:∀ty i (h:Heap),h.IsStrIter s1.heap.objs.size ty (S l) t i->∃o,h.get? s1.heap.objs.size=some o/\∀v,o.data≠.cell v:=fun ty i h ⟨o,ho,_,hd⟩=>⟨o,ho,fun v z=>by rw [hd] at z;cases z⟩
  have hfr:∀ty i (h h':Heap),h.IsStrIter s1.heap.objs.size ty (S l) t i->(∀b∈[s1.heap.objs.size],∀o,h.get? b=some o->h'.get? b=some o)->h'.IsStrIter s1.heap.objs.size ty (S l) t i:=fun ty i h h' ⟨o,ho,r⟩ k=>⟨o,k _ (by simp) o ho,r⟩
  cases ha:(S l).cps.all (·<128)
  .refine wpAny_pyIter_wide ha ⟨s1.heap.objs.size,[s1.heap.objs.size],_,Its (cY l),H1,rfl,I1.kept (t':=s1.toks) fun b o e=>Heap.get?_push_of_some _ e,
    lE (fun A hA=>Walks.strWide hA _ (S l) t) hn hv hsc (hobj _) (hfr _) (fun A i s Q E st q=>wpAny_pyIter_striter_wide st q),⟨_,Heap.get?_push_size _ rfl,rfl,rfl⟩,fin,q⟩
  .refine wpAny_pyIter_ascii ha ⟨s1.heap.objs.size,[s1.heap.objs.size],_,Its (cY l),H1,rfl,I1.kept (t':=s1.toks) fun b o e=>Heap.get?_push_of_some _ e,
    lE (fun A hA=>Walks.strAscii hA _ (S l) t) hn hv hsc (hobj _) (hfr _) (fun A i s Q E st q=>wpAny_pyIter_striter_ascii st q),⟨_,Heap.get?_push_size _ rfl,rfl,rfl⟩,fin,q⟩
theorem dg(K:PySem.W.Frag)(e:X.K=K){l:Expr}{tl:TE}(hl:PE X l tl):PI X tg l (lj K tl):=by subst e;exact AY hl
end
abbrev PTI:=PSt->(Nat->(Nat->D)->PSt->Prop)->Prop
def Wlk(K:PySem.W.Frag)(O:Addr->Prop)(H:Hp)(J:It)(n:Nat)(it:Nat->D):Prop:=∀(O':Addr->Prop) (H':Hp),aL O H O' H'->(∀b,O' b->H' b≠none) ->
 (∀k,k<n->J.go k H'/\∀x H'',J.yld k H' x H''->Gr H' H''/\FV K O' H'' x (it k))/\J.stop n H'
def LI(K:PySem.W.Frag)(wi:TI)(pi:PTI):Prop:=∀(A:Addr->Prop) (ρ:PSt) (σ:St) (H:Hp) (Q:Nat->(Nat->D)->PSt->Prop) (Q':It->Hp->Prop),Rel K A ρ σ H->pi ρ Q ->
 (∀J H' n it ρ',Q n it ρ'->Fr ρ σ H ρ' H'->Rel K A ρ' σ H'->Wlk K (OO A ρ' σ) H' J n it->Q' J H')->wi σ H Q'
def itD(ds:List D)(k:Nat):D:=ds.getD k .non
theorem wK{ds:List D}{k:Nat}(h:k<ds.length):ds[k]?=some (itD ds k):=by unfold itD;rw [getD_eq_getElem?_getD,getElem?_eq_getElem h];rfl
theorem nv{ds:List D}{k:Nat}{d:D}(h:ds[k]?=some d):itD ds k=d:=by unfold itD;rw [getD_eq_getElem?_getD,h];rfl
def EF:D->Option (Nat×(Nat->D))
 | .lst ds=>some (ds.length,itD ds)
 | .tup ds=>some (ds.length,itD ds)
 | .scr ns=>some (ns.length,fun k=>.int (ns.getD k 0))
 | .str l=>some (l.length,fun k=>.str [l.getD k 0])
 | _=>none
def eZ(pe:PTE):PTI:=fun ρ Q=>pe ρ fun p ρ1=>match EF p.d with
 | some (n,it)=>Q n it ρ1
 | none=>False
section
variable {K:PySem.W.Frag}{te:TE}{pe:PTE}{ta:TA}{pa:PTA}
theorem FV.row{O:Addr->Prop}{H:Hp}{v:V}{d:D}{n:Nat}{it:Nat->D}(h:FV K O H v d)(e:EF d=some (n,it)) :
  (∃k a xs,v=.ref a/\xs.length=n/\(∀O' H',aL O H O' H'->Sq k K H' a xs/\∀j x,xs[j]?=some x->FV K O' H' x (it j)))\/∃l,v=.str (S l)/\l.length=n/\(∀k,it k=.str [l.getD k 0]):=by
 cases h with
 | lst nn e0 f =>
  cases e;refine .inl ⟨false,_,_,rfl,f.length,fun O' H' k=>⟨SqL.of (k _ _ nn e0).2,fun j x hx=>?_⟩⟩;obtain⟨d,hd,fd⟩:=f.get hx;rw [nv hd];exact fd.keeps k
 | tup nn e0 f =>
  cases e;refine .inl ⟨true,_,_,rfl,f.length,fun O' H' k=>⟨SqT.of (k _ _ nn e0).2,fun j x hx=>?_⟩⟩;obtain⟨d,hd,fd⟩:=f.get hx;rw [nv hd];exact fd.keeps k
 | scr s =>
  cases e;refine .inl ⟨false,_,_,rfl,length_map _,fun O' H' k=>⟨(s.keeps k).sq,fun j x hx=>?_⟩⟩;obtain⟨z,hz,rfl⟩:=yl hx;show FV K O' H' (V.int z) (D.int (List.getD _ j 0));rw [getD_eq_getElem?_getD,hz];exact .int z
 | str l hl=>cases e;exact .inr ⟨l,rfl,rfl,fun _=>rfl⟩
 | non=>cases e
 | bl b=>cases e
 | int i=>cases e
 | ty n=>cases e
 | dic _ _ _ _=>cases e
 | obj _ _ _ _=>cases e
 | exc0 _ _=>cases e
 | exc1 _ _ _ _ _ _=>cases e
theorem dh(h:LE K te pe):LI K (lj K te) (eZ pe):=fun A ρ σ H Q Q' R q k=>h A ρ σ H _ _ R q fun v H1 p ρ1 q1 f1 o1=>by
 obtain⟨R1,fv⟩:=o1.frz
 split at q1
 .rename_i n it e
  rcases fv.row e with ⟨b,a,xs,rfl,hl,hr⟩|⟨l,rfl,hl,hi⟩
  .refine .inl ⟨b,a,xs,rfl,(hr _ H1 (fun b o n h=>⟨n,h⟩)).1,k _ H1 n it ρ1 q1 f1 R1 fun O' H' kk dom=>?_⟩;obtain⟨sq,hx⟩:=hr O' H' kk
   cases b with
   | false =>
    refine⟨fun j hj=>⟨⟨xs,_,sq,getElem?_eq_getElem (by rw [hl];exact hj)⟩,fun x H'' ⟨e,y⟩=>?_⟩,⟨xs,sq,by rw [hl];exact Nat.le_refl _⟩⟩;subst e;exact⟨Gr.refl _,hx j x (y xs sq)⟩
   | true =>
    refine⟨fun j hj=>⟨⟨xs,_,sq,getElem?_eq_getElem (by rw [hl];exact hj)⟩,fun x H'' ⟨e,y⟩=>?_⟩,⟨xs,sq,by rw [hl];exact Nat.le_refl _⟩⟩;subst e;exact⟨Gr.refl _,hx j x (y xs sq)⟩
  .refine .inr ⟨l,rfl,k _ H1 n it ρ1 q1 f1 R1 fun O' H' kk dom=>?_⟩;refine⟨fun j hj=>⟨by show j<(cY l).length;rw [c8,hl];exact hj,fun x H'' ⟨e,y⟩=>?_⟩,by show (cY l).length=n;rw [c8,hl]⟩;subst e;obtain⟨c,hc,rfl⟩:=fK y;rw [hi,getD_eq_getElem?_getD,hc];exact⟨Gr.refl _,.str _ (by show 1<=1000000;decide)⟩
 .exact q1.elim
def tN(pa:PTA):PTI:=fun ρ Q=>pa ρ fun as ρ1=>match as with
 | [.v (.int j)]=>(-(2^60)<=j/\j<2^60)/\Q j.toNat (fun k=>.int (k:Int)) ρ1
 | _=>False
def EG(pa:PTA):PTI:=fun ρ Q=>pa ρ fun as ρ1=>match as with
 | [.v (.int i),.v (.int j),.v (.int (-1))]=>(-(2^60)<=i/\i<2^60/\-(2^60)<=j/\j<2^60)/\Q (i - j).toNat (fun k=>.int (i - (k:Int))) ρ1
 | _=>False
theorem EH{O:Addr->Prop}{H:Hp}{lo:Int}{n:Nat}{it:Nat->D}(h:∀k:Nat,it k=.int (lo+k)):Wlk K O H (Itr lo n) n it:=fun O' H' _ _ =>
 ⟨fun j hj=>⟨hj,fun x H'' ⟨e,y⟩=>by subst e y;rw [h];exact⟨Gr.refl _,.int _⟩⟩,Nat.le_refl _⟩
theorem EI{O:Addr->Prop}{H:Hp}{lo:Int}{n:Nat}:Wlk K O H (Its (og lo n)) n (fun k=>.int (lo - (k:Int))):=fun O' H' _ _ =>
 ⟨fun j hj=>⟨by show j<(og lo n).length;rw [lF];exact hj,fun x H'' ⟨e,y⟩=>by subst e;rw [(wg y).2];exact⟨Gr.refl _,.int _⟩⟩,lF _ _⟩
theorem jY(h:LAs K ta pa):LI K (vz ta) (tN pa):=fun A ρ σ H Q Q' R q k=>h A ρ σ H _ _ R q fun vs H1 as ρ1 q1 f1 R1 o1=>by
 split at q1
 .rename_i j
  cases o1 with
  | cons a b =>
   cases b;cases a;exact⟨j,rfl,by omega,by omega,k _ H1 _ _ ρ1 q1.2 f1 R1 (EH fun k=>by rw [Int.zero_add])⟩
 .exact q1.elim
theorem C7(h:LAs K ta pa):LI K (Cy ta) (EG pa):=fun A ρ σ H Q Q' R q k=>h A ρ σ H _ _ R q fun vs H1 as ρ1 q1 f1 R1 o1=>by
 split at q1
 .rename_i i j
  cases o1 with
  | cons a b =>
   cases b with
   | cons c d =>
    cases d with
    | cons e f =>
     cases f;cases a;cases c;cases e;exact⟨i,j,rfl,q1.1,k _ H1 _ _ ρ1 q1.2 f1 R1 EI⟩
 .exact q1.elim
def rowD:D->Option (List D)
 | .lst ds=>some ds
 | .tup ds=>some ds
 | .scr ns=>some (ns.map .int)
 | _=>none
theorem FV.rowD{O:Addr->Prop}{H:Hp}{v:V}{d:D}{ds:List D}(h:FV K O H v d)(e:L2.rowD d=some ds) :
  ∃k a xs,v=.ref a/\xs.length=ds.length/\(∀O' H',aL O H O' H'->Sq k K H' a xs/\FVs K O' H' xs ds):=by
 cases h with
 | lst nn e0 f=>cases e;exact⟨false,_,_,rfl,f.length,fun O' H' k=>⟨SqL.of (k _ _ nn e0).2,f.keeps k⟩⟩
 | tup nn e0 f=>cases e;exact⟨true,_,_,rfl,f.length,fun O' H' k=>⟨SqT.of (k _ _ nn e0).2,f.keeps k⟩⟩
 | scr s=>cases e;exact⟨false,_,_,rfl,by rw [length_map,length_map],fun O' H' k=>⟨(s.keeps k).sq,FVs.of_ints _⟩⟩
 | str l hl=>cases e
 | non=>cases e
 | bl b=>cases e
 | int i=>cases e
 | ty n=>cases e
 | dic _ _ _ _=>cases e
 | obj _ _ _ _=>cases e
 | exc0 _ _=>cases e
 | exc1 _ _ _ _ _ _=>cases e
def EJ(pa:PTA):PTI:=fun ρ Q=>pa ρ fun as ρ1=>match as with
 | [.v a,.v b]=>(match rowD a,rowD b with
  | some xs,some ys=>Q (min xs.length ys.length) (fun k=>.tup [itD xs k,itD ys k]) ρ1
  | _,_=>False)
 | _=>False
def wL(pa:PTA):PTI:=fun ρ Q=>pa ρ fun as ρ1=>match as with
 | [.v a]=>(match rowD a with
  | some xs=>Q xs.length (fun k=>.tup [.int (k:Int),itD xs k]) ρ1
  | _=>False)
 | _=>False
theorem C8(h:LAs K ta pa):LI K (En K ta) (EJ pa):=fun A ρ σ H Q Q' R q k=>h A ρ σ H _ _ R q fun vs H1 as ρ1 q1 f1 R1 o1=>by
 split at q1
 .rename_i da db
  cases o1 with
  | cons o1 o2 =>
   cases o2 with
   | cons o2 o3 =>
    cases o3
    split at q1
    .rename_i xs ys ex ey;obtain⟨b1,a1,us,rfl,l1,w1⟩:=FV.rowD (show FV K _ H1 _ da from o1) ex;obtain⟨b2,a2,ws,rfl,l2,w2⟩:=FV.rowD (show FV K _ H1 _ db from o2) ey;have t1:=w1 _ H1 (fun b o n h=>⟨n,h⟩);have t2:=w2 _ H1 (fun b o n h=>⟨n,h⟩);refine⟨b1,b2,a1,a2,rfl,⟨us,ws,t1.1,t2.1⟩,k _ H1 _ _ ρ1 q1 f1 R1 fun O' H' kk dom=>?_⟩;obtain⟨s1,g1⟩:=w1 O' H' kk;obtain⟨s2,g2⟩:=w2 O' H' kk;refine⟨fun j hj=>?_,⟨us,ws,s1,s2,by omega⟩⟩
     have h1:j<us.length:=by omega
     have h2:j<ws.length:=by omega
     refine⟨⟨us,ws,_,_,s1,s2,getElem?_eq_getElem h1,getElem?_eq_getElem h2⟩,fun x H'' ⟨T,u,w,hT,e,y1,y2,e2⟩=>?_⟩;subst e e2;obtain⟨d1,hd1,fd1⟩:=g1.get (y1 us s1);obtain⟨d2,hd2,fd2⟩:=g2.get (y2 ws s2);have e1:itD xs j=d1:=by unfold itD;rw [getD_eq_getElem?_getD,hd1];rfl
     have e2:itD ys j=d2:=by unfold itD;rw [getD_eq_getElem?_getD,hd2];rfl
     rw [e1,e2];have kk2:aL O' H' O' (upd H' T (.tup [u,w])):=fun b o n e=>⟨n,by rw [aE (a8 e hT)];exact e⟩
     exact⟨Gr.new hT,.tup (fun z=>dom T z hT) aJ (.cons (fd1.keeps kk2) (.cons (fd2.keeps kk2) .nil))⟩
    .exact q1.elim
 .exact q1.elim
theorem wM(h:LAs K ta pa):LI K (AL K ta) (wL pa):=fun A ρ σ H Q Q' R q k=>h A ρ σ H _ _ R q fun vs H1 as ρ1 q1 f1 R1 o1=>by
 split at q1
 .rename_i da
  cases o1 with
  | cons o1 o3 =>
   cases o3
   split at q1
   .rename_i xs ex;obtain⟨b1,a1,us,rfl,l1,w1⟩:=FV.rowD (show FV K _ H1 _ da from o1) ex;have t1:=w1 _ H1 (fun b o n h=>⟨n,h⟩);refine⟨b1,a1,rfl,⟨us,t1.1⟩,k _ H1 _ _ ρ1 q1 f1 R1 fun O' H' kk dom=>?_⟩;obtain⟨s1,g1⟩:=w1 O' H' kk;refine⟨fun j hj=>?_,⟨us,s1,by omega⟩⟩;have h1:j<us.length:=by omega
    refine⟨⟨us,_,s1,getElem?_eq_getElem h1⟩,fun x H'' ⟨T,u,hT,e,y1,e2⟩=>?_⟩;subst e e2;obtain⟨d1,hd1,fd1⟩:=g1.get (y1 us s1);have e1:itD xs j=d1:=by unfold itD;rw [getD_eq_getElem?_getD,hd1];rfl
    rw [e1];have kk2:aL O' H' O' (upd H' T (.tup [.int (j:Int),u])):=fun b o n e=>⟨n,by rw [aE (a8 e hT)];exact e⟩
    exact⟨Gr.new hT,.tup (fun z=>dom T z hT) aJ (.cons (.int _) (.cons (fd1.keeps kk2) .nil))⟩
   .exact q1.elim
 .exact q1.elim
end
def gU(pi:PTI)(g:PTG)(pb:PTS):PTS:=fun D ρ=>pi ρ fun n it ρ1=>∃I:Nat->PSt->Prop,I 0 ρ1/\(∀k ρ d,k<n->d=it k->I k ρ->g (.dat d) ρ fun ρ2=>pb { D with nx:=I (k+1),ct:=I (k+1),bk:=D.nx } ρ2)/\∀ρ,I n ρ->D.nx ρ
def rV(pt:PTT)(pb:PTS):PTS:=fun D ρ=>∃I:Nat->PSt->Prop,(∃m,I m ρ)/\∀m ρ,I m ρ->pt ρ fun b ρ1=>ji b (pb { D with nx:=fun ρ'=>∃m',m'<m/\I m' ρ',ct:=fun ρ'=>∃m',m'<m/\I m' ρ',bk:=D.nx } ρ1) (D.nx ρ1)
section
variable {K:PySem.W.Frag}{fs:List Nat}{wi:TI}{pi:PTI}{g:TG}{pg:PTG}{tb:TS}{pb:PTS}{tt:TT}{pt:PTT}
theorem d0(hi:LI K wi pi)(hg:LGd K fs g pg)(hb:LS K fs tb pb):LS K fs (Ff wi g tb) (gU pi pg pb):=fun fx A R H0 ρ σ H D D' hf r F q k1 k2 k3 k4=>hi A ρ σ H _ _ r q fun J H1 n it ρ1 q1 f1 r1 W=>by
 obtain⟨I,i0,turn,after⟩:=q1;have F1:=F.fr f1;refine⟨fun i m σ' H'=>i+m=n/\∃ρ',I i ρ'/\Rel K A ρ' σ' H'/\fe fx (Wr ρ1 σ) H1 ρ' σ' H',⟨n,Nat.zero_add n,ρ1,i0,r1,fe.start F1.fx⟩,fun i m σ' H' ⟨him,ρ',iv,r',F'⟩=>?_⟩;obtain⟨go,stop⟩:=W _ H' F'.keeps r'.dom2
 by_cases hk:i<n
 .obtain⟨g1,g2⟩:=go i hk;refine .inr ⟨g1,fun σ'' H''=>∃ρ'',I (i+1) ρ''/\Rel K A ρ'' σ'' H''/\fe fx (Wr ρ1 σ) H1 ρ'' σ'' H'',fun σ'' H'' z=>⟨m - 1,by omega,by omega,z⟩,fun x H'' y=>?_⟩;obtain⟨gr,fv⟩:=g2 x H'' y;refine hg fx A (Wr ρ1 σ) H1 ρ' σ' H'' _ x _ _ hf (F'.fr gr.fr) (r'.gr gr) fv (turn i ρ' _ hk rfl iv) fun ρ2 σ2 q2 r2 F2 _=>?_;refine hb fx A (Wr ρ1 σ) H1 ρ2 σ2 H'' _ _ hf r2 F2 q2 (fun ρ3 σ3 H3 q3 r3 F3=>⟨ρ3,q3,r3,F3⟩) (fun v p ρ3 σ3 H3 q3 o3 F3=>k2 v p ρ3 σ3 H3 q3 (o3.h0 F1.dm) (F1.trans F3 F3.fx)) (fun ρ3 σ3 H3 q3 r3 F3=>k1 ρ3 σ3 H3 q3 r3 (F1.trans F3 F3.fx)) (fun ρ3 σ3 H3 q3 r3 F3=>⟨ρ3,q3,r3,F3⟩)
 .have e:i=n:=by omega
  subst e;exact .inl ⟨stop,k1 ρ' σ' H' (after ρ' iv) r' (F1.trans F' F'.fx)⟩
theorem tO(ht:LT K tt pt)(hb:LS K fs tb pb):LS K fs (zk tt tb) (rV pt pb):=fun fx A R H0 ρ σ H D D' hf r F q k1 k2 k3 k4=>by
 obtain⟨I,⟨m0,i0⟩,turn⟩:=q;refine⟨fun m σ' H'=>∃ρ',I m ρ'/\Rel K A ρ' σ' H'/\fe fx R H0 ρ' σ' H',⟨m0,ρ,i0,r,F⟩,fun m σ' H' ⟨ρ',iv,r',F'⟩=>?_⟩;refine ht A ρ' σ' H' _ _ r' (turn m ρ' iv) fun b H1 ρ1 q1 f1 r1=>?_
 cases b with
 | true =>
  refine⟨fun σ'' H''=>∃ρ'' m',m'<m/\I m' ρ''/\Rel K A ρ'' σ'' H''/\fe fx R H0 ρ'' σ'' H'',fun σ'' H'' ⟨ρ'',m',h1,h2⟩=>⟨m',h1,ρ'',h2⟩,?_⟩;exact hb fx A R H0 ρ1 σ' H1 _ _ hf r1 (F'.fr f1) q1 (fun ρ3 σ3 H3 ⟨m',h1,h2⟩ r3 F3=>⟨ρ3,m',h1,h2,r3,F3⟩) k2 k1 (fun ρ3 σ3 H3 ⟨m',h1,h2⟩ r3 F3=>⟨ρ3,m',h1,h2,r3,F3⟩)
 | false=>exact k1 ρ1 σ' H1 q1 r1 (F'.fr f1)
end
def bZ(ix:List (Option Nat))(ρ:PSt):PSt:=ix.map fun o=>match o with
 | none=>none
 | some j=>match ρ[j]? with
  | some v=>v
  | none=>none
def fg:List (Option Nat)->PSt->PSt->PSt
 | some j::ix,ρ,t::τ=>fg ix (ρ.set j t) τ
 | none::ix,ρ,_::τ=>fg ix ρ τ
 | _,ρ,_=>ρ
def zx:List (Option Nat)->Bool
 | []=>true
 | none::r=>zx r
 | some j::r=>!r.contains (some j) && zx r
theorem ll:∀(ix:List (Option Nat)) (ρ τ:PSt),(fg ix ρ τ).length=ρ.length
 | [],ρ,τ=>by unfold fg;rfl
 | some j::ix,ρ,t::τ=>by show (fg ix (ρ.set j t) τ).length=_;rw [ll ix,length_set]
 | none::ix,ρ,t::τ=>by show (fg ix ρ τ).length=_;exact ll ix ρ τ
 | some j::ix,ρ,[]=>by unfold fg;rfl
 | none::ix,ρ,[]=>by unfold fg;rfl
theorem jr:∀(ix:List (Option Nat)) (ρ τ:PSt) (j:Nat),some j∉ix->(fg ix ρ τ)[j]?=ρ[j]?
 | [],ρ,τ,j,_=>by unfold fg;rfl
 | some i::ix,ρ,t::τ,j,h=>by
  show (fg ix (ρ.set i t) τ)[j]?=_;rw [jr ix _ τ j (fun z=>h (mem_cons_of_mem _ z)),getElem?_set_ne (fun z=>h (by rw [z];exact mem_cons_self ..))]
 | none::ix,ρ,t::τ,j,h=>by show (fg ix ρ τ)[j]?=_;exact jr ix ρ τ j fun z=>h (mem_cons_of_mem _ z)
 | some i::ix,ρ,[],j,_=>by unfold fg;rfl
 | none::ix,ρ,[],j,_=>by unfold fg;rfl
theorem oE:∀(ix:List (Option Nat)) (ρ τ:PSt) (j k:Nat),zx ix=true->ix[k]?=some (some j)->k<τ.length->j<ρ.length->(fg ix ρ τ)[j]?=τ[k]?
 | some i::ix,ρ,t::τ,j,k,h,e,hk,hj=>by
  have h:(!ix.contains (some i) && zx ix)=true:=h;rw [and_eq_true] at h;show (fg ix (ρ.set i t) τ)[j]?=_
  cases k with
  | zero =>
   have e:some (some i)=some (some j):=e;cases e
   have hn:some i∉ix:=fun z=>by
    have:=h.1;rw [contains_iff_mem.mpr z] at this;cases this
   rw [jr ix _ τ i hn,getElem?_set_self hj];rfl
  | succ k =>
   have e:ix[k]?=some (some j):=by simpa using e
   rw [oE ix _ τ j k h.2 e (by simpa using hk) (by rw [length_set];exact hj)];simp
 | none::ix,ρ,t::τ,j,k,h,e,hk,hj=>by
  show (fg ix ρ τ)[j]?=_
  cases k with
  | zero=>cases e
  | succ k =>
   have e:ix[k]?=some (some j):=by simpa using e
   rw [oE ix _ τ j k h e (by simpa using hk) hj];simp
 | [],ρ,τ,j,k,h,e,hk,hj=>by simp at e
 | some i::ix,ρ,[],j,k,h,e,hk,hj=>absurd hk (not_lt_zero _)
 | none::ix,ρ,[],j,k,h,e,hk,hj=>absurd hk (not_lt_zero _)
theorem lm:∀{ix:List (Option Nat)}{k l j:Nat},zx ix=true->ix[k]?=some (some j)->ix[l]?=some (some j)->k=l
 | some i::ix,k,l,j,h,e1,e2=>by
  have h:(!ix.contains (some i) && zx ix)=true:=h;rw [and_eq_true] at h
  have no:∀m,ix[m]?≠some (some i):=fun m z=>by
   have:=h.1;rw [contains_iff_mem.mpr (mem_of_getElem? z)] at this;cases this
  cases k with
  | zero =>
   have e1:some (some i)=some (some j):=e1;cases e1
   cases l with
   | zero=>rfl
   | succ l=>exact absurd (by simpa using e2) (no l)
  | succ k =>
   cases l with
   | zero =>
    have e2:some (some i)=some (some j):=e2;cases e2;exact absurd (by simpa using e1) (no k)
   | succ l=>rw [lm (k:=k) (l:=l) h.2 (by simpa using e1) (by simpa using e2)]
 | none::ix,k,l,j,h,e1,e2=>by
  cases k with
  | zero=>cases e1
  | succ k =>
   cases l with
   | zero=>cases e2
   | succ l=>rw [lm (ix:=ix) (k:=k) (l:=l) (j:=j) h (by simpa using e1) (by simpa using e2)]
 | [],k,l,j,h,e1,e2=>by simp at e1
theorem dq{ix:List (Option Nat)}{ρ:PSt}{k:Nat}{p:PV}(h:(bZ ix ρ)[k]?=some (some p)):∃j,ix[k]?=some (some j)/\ρ[j]?=some (some p):=by
 unfold bZ at h;rw [getElem?_map] at h
 cases e:ix[k]? with
 | none=>rw [e] at h;cases h
 | some o =>
  rw [e] at h
  cases o with
  | none=>cases h
  | some j =>
   refine⟨j,rfl,?_⟩;have h:some (match ρ[j]? with|some v=>v|none=>none)=some (some p):=h
   cases e2:ρ[j]? with
   | none=>rw [e2] at h;cases h
   | some v=>rw [e2] at h;exact h
theorem dr{ix:List (Option Nat)}{σ:St}{k j:Nat}{v:V}(h:ix[k]?=some (some j))(e:σ[j]?=some (some v)):(qk ix σ)[k]?=some (some v):=by
 unfold qk;rw [getElem?_map,h];show some (match σ[j]? with|some v=>v|none=>none)=some (some v);rw [e]
theorem Rel.amb{K:PySem.W.Frag}{A:Addr->Prop}{ρ:PSt}{σ:St}{H:Hp}{a:Addr}{o:HO}(R:Rel K A ρ σ H)(ha:A a):Rel K A ρ σ (upd H a o):=by
 have k:aL (OO A ρ σ) H (OO A ρ σ) (upd H a o):=fun b u n e=>⟨n,by rw [aE (fun z=>n (by rw [z];exact .inl ha))];exact e⟩
 refine⟨R.len,fun i q e=>?_,R.dj,fun b z=>?_,R.sep⟩
 .obtain⟨v,s,r⟩:=R.get i q e;refine⟨v,s,r.keeps k fun ow b eb=>?_⟩;rw [aE];intro z;subst z eb;exact R.sep b ha ⟨i,q,e,ow,s⟩
 .by_cases z':b=a
  .rw [z',aJ];exact nofun
  .rw [aE z'];exact R.dom b z
def C9(ix:List (Option Nat))(ρ:PSt):Bool:=ix.all fun o=>match o with|none=>true|some j=>(match ρ[j]? with|some (some _)=>true|_=>false)
structure mG (ix:List (Option Nat)) (ρ1:PSt) (n:Nat) (it:Nat->D) (g:PTG) (pt:PTT) (pe:PTE) (Q:PKt):Prop where
 ex:∃I:Nat->List D->PSt->Prop,I 0 [] (bZ ix ρ1) /\
  (∀k ys τ d,k<n->d=it k->I k ys τ->g (.dat d) τ fun τ2=>pt τ2 fun ok τ3=>ji ok (pe τ3 fun p τ4=>I (k+1) (ys++[p.d]) τ4) (I (k+1) ys τ3))/\∀ys τ,I n ys τ->Q (.own ys) (fg ix ρ1 τ)
def fh(ix:List (Option Nat))(pi:PTI)(g:PTG)(pt:PTT)(pe:PTE):PTE:=fun ρ Q=>pi ρ fun n it ρ1=>C9 ix ρ1=true/\n<=1000000/\mG ix ρ1 n it g pt pe Q
def jZ:PTT:=fun ρ Q=>Q true ρ
theorem dz{K:PySem.W.Frag}:LT K lf jZ:=fun A ρ σ H Q Q' R q k=>k true H ρ q (Fr.refl _ _ _) R
def wN(ix:List (Option Nat)):List Nat:=(List.range ix.length).filter fun k=>(ix.getD k none).isSome
theorem cp{K:PySem.W.Frag}{ix:List (Option Nat)}{wi:TI}{pi:PTI}{g:TG}{pg:PTG}{tts:TT}{pt:PTT}{te:TE}{pe:PTE}(hix:zx ix=true)(hi:LI K wi pi)(hg:∀fs:List Nat,(∀k∈fs,k∈wN ix)->LGd K fs g pg)(ht:LT K tts pt)(he:LE K te pe) :
  LE K (uE ix wi g tts te) (fh ix pi pg pt pe):=fun A ρ σ H Q Q' R q k=>hi A ρ σ H _ _ R q fun J H1 n it ρ1 q1 f1 R1 W D hD=>by
 obtain⟨hcap,hn,⟨I,i0,turn,after⟩⟩:=q1
 let τρ0:=bZ ix ρ1
 let τσ0:=qk ix σ
 let Ai:Addr->Prop:=fun b=>A b\/b=D\/(Wr ρ1 σ b/\¬ Wr τρ0 τσ0 b)
 let H0':=upd H1 D (.lst [])
 have wsub:∀b,Wr τρ0 τσ0 b->Wr ρ1 σ b:=fun b ⟨m,p,e,o,s⟩=>by
  obtain⟨j,h1,h2⟩:=dq e;obtain⟨v,hv,_⟩:=R1.get j p h2;have:=dr h1 hv;rw [s] at this;cases this;exact⟨j,p,h2,o,hv⟩
 have nD:¬ Wr ρ1 σ D:=fun z=>R1.wr z hD
 have oosub:∀b,OO Ai τρ0 τσ0 b->OO A ρ1 σ b\/b=D:=fun b z=>by
  rcases z with (z|z|z)|z
  .exact .inl (.inl z)
  .exact .inr z
  .exact .inl (.inr z.1)
  .exact .inl (.inr (wsub b z))
 have kD:aL (OO A ρ1 σ) H1 (OO Ai τρ0 τσ0) H0':=fun b o nn e=>by
  refine⟨fun z=>?_,?_⟩
  .rcases oosub b z with z|z
   .exact nn z
   .rw [z,hD] at e;cases e
  .rw [show H0' b=H1 b from aE (a8 e hD)];exact e
 have Ri:Rel K Ai τρ0 τσ0 H0':=by
  refine⟨by show (bZ ix ρ1).length=(qk ix σ).length;unfold bZ qk;rw [length_map,length_map],fun m p e=>?_,fun m l p q v e1 e2 o1 o2 s1 s2=>?_,fun b z=>?_,fun b z w=>?_⟩
  .obtain⟨j,h1,h2⟩:=dq e;obtain⟨v,hv,r⟩:=R1.get j p h2;refine⟨v,dr h1 hv,r.keeps kD fun ow a ea=>?_⟩;subst ea;exact aE (fun z=>nD (by rw [<- z];exact⟨j,p,h2,ow,hv⟩))
  .obtain⟨j,h1,h2⟩:=dq e1;obtain⟨j',h3,h4⟩:=dq e2;obtain⟨v1,hv1,_⟩:=R1.get j p h2;obtain⟨v2,hv2,_⟩:=R1.get j' q h4;have t1:=dr h1 hv1;have t2:=dr h3 hv2;rw [s1] at t1;rw [s2] at t2;cases t1;cases t2;have:=R1.dj j j' p q _ h2 h4 o1 o2 hv1 hv2;subst this;exact lm hix h1 h3
  .rcases z with z|z|z
   .intro e
    by_cases zz:b=D
    .exact R1.dom b z (by rw [zz];exact hD)
    .rw [show H0' b=H1 b from aE zz] at e;exact R1.dom b z e
   .rw [z];show upd H1 D _ D≠none;rw [aJ];exact nofun
   .intro e;rw [show H0' b=H1 b from aE (fun zz=>nD (by rw [<- zz];exact z.1))] at e;exact R1.wr z.1 e
  .rcases z with z|z|z
   .exact R1.sep b z (wsub b w)
   .rw [z] at w;exact nD (wsub D w)
   .exact z.2 w
 let fxi:List (Nat×V):=(wN ix).filterMap fun m=>match (τσ0[m]?) with|some (some v)=>some (m,v)|_=>none
 have hfx:∀p∈fxi,τσ0[p.1]?=some (some p.2):=fun p hp=>by
  obtain⟨m,hm,e⟩:=mem_filterMap.mp hp
  split at e
  .rename_i v ev;cases e;exact ev
  .cases e
 have hfs:∀m∈fxi.map Prod.fst,m∈wN ix:=fun m hm=>by
  obtain⟨p,hp,rfl⟩:=mem_map.mp hm;obtain⟨m',hm',e⟩:=mem_filterMap.mp hp
  split at e
  .cases e;exact hm'
  .cases e
 have hgi:=hg (fxi.map Prod.fst) hfs
 have fxget:∀(m j:Nat) (v:V),ix[m]?=some (some j)->σ[j]?=some (some v)->(m,v)∈fxi:=fun m j v h1 h2=>by
  refine mem_filterMap.mpr ⟨m,?_,?_⟩
  .unfold wN;refine mem_filter.mpr ⟨mem_range.mpr (List.getElem?_eq_some_iff.mp h1).1,?_⟩;rw [getD_eq_getElem?_getD,h1];rfl
  .show (match (qk ix σ)[m]? with|some (some v)=>some (m,v)|_=>none)=_;rw [dr h1 h2]
 let Rr:Addr->Prop:=fun b=>Wr τρ0 τσ0 b\/b=D
 have hRr:∀b,Rr b->OO Ai τρ0 τσ0 b:=fun b z=>z.elim (fun z=>.inr z) (fun z=>.inl (.inr (.inl z)));have F0:fe fxi Rr H0' τρ0 τσ0 H0':=⟨fun _ _ _ h=>h,fun _ h=>h,fun b w=>.inl (.inl w),hfx⟩
 refine⟨fun i m τ H2=>i+m=n/\∃ys τρ xs,I i ys τρ/\ys.length<=i/\Rel K Ai τρ τ H2/\fe fxi Rr H0' τρ τ H2/\H2 D=some (.lst xs)/\FVs K (OO Ai τρ τ) H2 xs ys/\∀b,Wr τρ τ b->Wr τρ0 τσ0 b,
  ⟨n,Nat.zero_add n,[],τρ0,[],i0,Nat.le_refl _,Ri,F0,aJ,.nil,fun _ h=>h⟩,fun i m τ H2 ⟨him,ys,τρ,xs,iv,hy,r2,F2,eD,fD,hw⟩=>?_⟩
 have kk:aL (OO A ρ1 σ) H1 (OO Ai τρ τ) H2:=fun b o nn e=>(F2.keepsR hRr) b o (kD b o nn e).1 (kD b o nn e).2;obtain⟨go,stop⟩:=W _ H2 kk r2.dom2
 by_cases hk:i<n
 .obtain⟨g1,g2⟩:=go i hk;refine .inr ⟨g1,fun x H3 y=>?_⟩;obtain⟨gr,fv⟩:=g2 x H3 y;have AiD:Ai D:=.inr (.inl rfl);refine hgi fxi Ai Rr H0' τρ τ H3 _ x _ _ rfl (F2.fr gr.fr) (r2.gr gr) fv (turn i ys τρ _ hk rfl iv) fun τρ2 τ2 q2 r3 F3 w3=>?_;refine ht Ai τρ2 τ2 H3 _ _ r3 q2 fun ok H5 τρ3 q3 f5 r5=>?_;have F5:=F3.fr f5;have fD5:FVs K (OO Ai τρ3 τ2) H5 xs ys:=((fD.keeps (gr.fr (ρ:=τρ) (σ:=τ)).keeps).keeps (aL.less fun b z=>z.imp id (w3 b))).keeps f5.keeps
  have eD5:H5 D=some (.lst xs):=f5.kp D _ (r3.sep D AiD) (gr D _ eD)
  cases ok with
  | true =>
   refine he Ai τρ3 τ2 H5 _ _ r5 q3 fun v H6 p τρ4 q4 f6 o6=>?_;obtain⟨r6,fv6⟩:=o6.frz;have F6:=F5.fr f6;have eD6:H6 D=some (.lst xs):=f6.kp D _ (r5.sep D AiD) eD5;have kw:aL (OO Ai τρ4 τ2) H6 (OO Ai τρ4 τ2) (upd H6 D (.lst (xs++[v]))):=fun b o nn e=>⟨nn,by rw [aE (fun z=>nn (by rw [z];exact .inl AiD))];exact e⟩
   refine⟨xs,eD6,?_,m - 1,by omega,by omega,ys++[p.d],τρ4,xs++[v],q4,by rw [length_append];show _+1<=_;omega,r6.amb AiD,⟨fun b o nn e=>?_,fun b z=>?_,F6.ow,F6.fx⟩,aJ,((fD5.keeps f6.keeps).append (.cons fv6 .nil)).keeps kw,fun b z=>hw b (w3 b (f5.ow b (f6.ow b z)))⟩
   .have:xs.length=ys.length:=fD.length;exact lt_of_lt_of_le (by omega:xs.length<1000000) (sz _ (Nat.le_refl _))
   .rw [aE (fun z=>nn (.inr z))];exact F6.kp b o nn e
   .by_cases zz:b=D
    .rw [zz,aJ];exact nofun
    .rw [aE zz];exact F6.dm b z
  | false=>exact⟨m - 1,by omega,by omega,ys,τρ3,xs,q3,by omega,r5,F5,eD5,fD5,fun b z=>hw b (w3 b (f5.ow b z))⟩
 .have e:i=n:=by omega
  subst e;refine .inl ⟨stop,?_⟩;have q':=after ys τρ iv
  have cap:∀(m j:Nat),ix[m]?=some (some j)->∃p v,ρ1[j]?=some (some p)/\σ[j]?=some (some v)/\τ[m]?=some (some v):=fun m j e=>by
   have h1:=all_eq_true.mp hcap _ (mem_of_getElem? e);have h1:(match ρ1[j]? with|some (some _)=>true|_=>false)=true:=h1
   split at h1
   .rename_i p ep;obtain⟨v,hv,_⟩:=R1.get j p ep;exact⟨p,v,ep,hv,F2.fx _ (fxget m j v e hv)⟩
   .cases h1
  have get':∀(j:Nat) (p:PV),(fg ix ρ1 τρ)[j]?=some (some p)->(∃m v,ix[m]?=some (some j)/\σ[j]?=some (some v)/\τ[m]?=some (some v)/\τρ[m]?=some (some p))\/(some j∉ix/\ρ1[j]?=some (some p)):=fun j p e=>by
   by_cases hj:some j∈ix
   .obtain⟨m,hm,em⟩:=getElem_of_mem hj;have em':ix[m]?=some (some j):=by rw [getElem?_eq_getElem hm,em]
    obtain⟨p0,v,h1,h2,h3⟩:=cap m j em';rw [oE ix ρ1 τρ j m hix em' (by rw [r2.len];exact (List.getElem?_eq_some_iff.mp h3).1) (List.getElem?_eq_some_iff.mp h1).1] at e;exact .inl ⟨m,v,em',h2,h3,e⟩
   .rw [jr ix ρ1 τρ j hj] at e;exact .inr ⟨hj,e⟩
  have nocap:∀(j:Nat) (p:PV) (b:Addr),some j∉ix->ρ1[j]?=some (some p)->p.isOwn=true->σ[j]?=some (some (.ref b))->¬ Wr τρ0 τσ0 b:=fun j p b hj e o s ⟨m,q,e1,o1,s1⟩=>by
   obtain⟨j',h1,h2⟩:=dq e1;obtain⟨v,hv,_⟩:=R1.get j' q h2;have:=dr h1 hv;rw [s1] at this;cases this;have:=R1.dj j j' p q _ e h2 o o1 s hv;subst this;exact hj (mem_of_getElem? h1)
  have w':∀b,Wr (fg ix ρ1 τρ) σ b->Wr τρ τ b\/(Wr ρ1 σ b/\¬ Wr τρ0 τσ0 b):=fun b ⟨j,p,e,o,s⟩=>by
   rcases get' j p e with ⟨m,v,h1,h2,h3,h4⟩|⟨hj,h1⟩
   .rw [s] at h2;cases h2;exact .inl ⟨m,p,h4,o,h3⟩
   .exact .inr ⟨⟨j,p,h1,o,s⟩,nocap j p b hj h1 o s⟩
  have oo':∀b,OO (cP A D) (fg ix ρ1 τρ) σ b->OO Ai τρ τ b:=fun b z=>by
   rcases z with (z|z)|z
   .exact .inl (.inl z)
   .exact .inl (.inr (.inl z))
   .rcases w' b z with z|z
    .exact .inr z
    .exact .inl (.inr (.inr z))
  have kp1:∀b o,¬ Wr τρ0 τσ0 b->b≠D->H1 b=some o->H2 b=some o:=fun b o n1 n2 e=>F2.kp b o (fun z=>z.elim n1 n2) (by rw [show H0' b=H1 b from aE n2];exact e);have k1:aL (OO A ρ1 σ) H1 (OO (cP A D) (fg ix ρ1 τρ) σ) H2:=fun b o nn e=>⟨fun z=>(kk b o nn e).1 (oo' b z),(kk b o nn e).2⟩
  have AiD:Ai D:=.inr (.inl rfl)
  have R':Rel K (cP A D) (fg ix ρ1 τρ) σ H2:=by
   refine⟨by rw [ll];exact R1.len,fun j p e=>?_,fun j l p q v e1 e2 o1 o2 s1 s2=>?_,fun b z=>?_,fun b z w=>?_⟩
   .rcases get' j p e with ⟨m,v,h1,h2,h3,h4⟩|⟨hj,h1⟩
    .obtain⟨v',hv',r⟩:=r2.get m p h4;rw [h3] at hv';cases hv';exact⟨v,h2,r.keeps (aL.less oo') fun _ _ _=>rfl⟩
    .obtain⟨v,hv,r⟩:=R1.get j p h1;refine⟨v,hv,r.keeps k1 fun ow a ea=>?_⟩;subst ea;obtain⟨a',u,e1,e2⟩:=r.ref ow;cases e1;rw [e2];exact kp1 a u (nocap j p a hj h1 ow hv) (fun z=>by rw [z,hD] at e2;cases e2) e2
   .rcases get' j p e1 with ⟨m,v1,h1,h2,h3,h4⟩|⟨hj,h1⟩
    .rw [s1] at h2;cases h2
     rcases get' l q e2 with ⟨m',v2,g1,g2,g3,g4⟩|⟨hl,g1⟩
     .rw [s2] at g2;cases g2;have:=r2.dj m m' p q _ h4 g4 o1 o2 h3 g3;subst this;rw [h1] at g1;cases g1;rfl
     .exfalso;obtain⟨v',hv',r⟩:=r2.get m p h4;rw [h3] at hv';cases hv';obtain⟨a,u,ea,_⟩:=r.ref o1;subst ea;exact nocap l q a hl g1 o2 s2 (hw a ⟨m,p,h4,o1,h3⟩)
    .rcases get' l q e2 with ⟨m',v2,g1,g2,g3,g4⟩|⟨hl,g1⟩
     .rw [s2] at g2;cases g2;exfalso;obtain⟨v',hv',r⟩:=r2.get m' q g4;rw [g3] at hv';cases hv';obtain⟨a,u,ea,_⟩:=r.ref o2;subst ea;exact nocap j p a hj h1 o1 s1 (hw a ⟨m',q,g4,o2,g3⟩)
     .exact R1.dj j l p q v h1 g1 o1 o2 s1 s2
   .rcases z with z|z
    .exact r2.dom b (.inl z)
    .rw [z,eD];exact nofun
   .rcases w' b w with w|w
    .rcases z with z|z
     .exact r2.sep b (.inl z) w
     .rw [z] at w;exact r2.sep D AiD w
    .rcases z with z|z
     .exact R1.sep b z w.1
     .rw [z] at w;exact nD w.1
  have f2:Fr ρ1 σ H1 (fg ix ρ1 τρ) H2:=by
   refine⟨fun b o nn e=>kp1 b o (fun z=>nn (wsub b z)) (fun z=>by rw [z,hD] at e;cases e) e,fun b z=>F2.dm b ?_,fun b z=>?_⟩
   .intro e
    by_cases zz:b=D
    .exact z (by rw [zz];exact hD)
    .rw [show H0' b=H1 b from aE zz] at e;exact z e
   .rcases w' b z with z|z
    .exact wsub b (hw b z)
    .exact z.1
  have hD0:H D=none:=by
   cases e:H D with
   | none=>rfl
   | some o=>exact absurd hD (f1.dm D (by rw [e];exact nofun))
  exact k _ H2 (.own ys) _ q' (f1.trans f2) ⟨D,xs,rfl,fun z=>R1.dom D z hD,hD0,eD,R',fD.keeps (aL.less oo')⟩
section
variable {K:PySem.W.Frag}{A A':Addr->Prop}{ρ:PSt}{σ:St}{H H':Hp}
theorem Rel.step(R:Rel K A ρ σ H){i:Nat}{p q:PV}{a:Addr}(e:ρ[i]?=some (some p))(ow:p.isOwn=true)(ow':q.isOwn=true)(es:σ[i]?=some (some (.ref a)))
  (kp:∀b o,b≠a->H b=some o->H' b=some o) (ha:H' a≠none) (h1:∀b,A b->A' b) (h2:∀b,A' b->A b\/H b=none) (dom':∀b,A' b->H' b≠none)
  (new:RS K (OO A' ρ σ) H' q (.ref a)):Rel K A' (ρ.set i (some q)) σ H'/\Fr ρ σ H (ρ.set i (some q)) H':=by
 have hi:i<ρ.length:=(List.getElem?_eq_some_iff.mp e).1;have wa:Wr ρ σ a:=⟨i,p,e,ow,es⟩
 have weq:∀b,Wr (ρ.set i (some q)) σ b ↔ Wr ρ σ b:=fun b=>by
  constructor
  .rintro⟨j,r,e1,o1,s1⟩
   by_cases z:i=j
   .subst z;exact⟨i,p,e,ow,s1⟩
   .rw [getElem?_set_ne z] at e1;exact⟨j,r,e1,o1,s1⟩
  .rintro⟨j,r,e1,o1,s1⟩
   by_cases z:i=j
   .subst z;exact⟨i,q,getElem?_set_self hi,ow',s1⟩
   .exact⟨j,r,by rw [getElem?_set_ne z];exact e1,o1,s1⟩
 have oeq:OO A' (ρ.set i (some q)) σ=OO A' ρ σ:=funext fun b=>propext (or_congr Iff.rfl (weq b));have kp1:∀b u,¬ Wr ρ σ b->H b=some u->H' b=some u:=fun b u n h=>kp b u (fun z=>n (by rw [z];exact wa)) h
 have k:aL (OO A ρ σ) H (OO A' ρ σ) H':=fun b u n h=>by
  refine⟨fun z=>?_,kp1 b u (fun z=>n (.inr z)) h⟩
  rcases z with z|z
  .rcases h2 b z with z|z
   .exact n (.inl z)
   .rw [z] at h;cases h
  .exact n (.inr z)
 have dm:∀b,H b≠none->H' b≠none:=fun b n=>by
  by_cases z:b=a
  .rw [z];exact ha
  .cases eb:H b with
   | none=>exact absurd eb n
   | some o=>rw [kp b o z eb];exact nofun
 refine⟨⟨by rw [length_set];exact R.len,fun j r e1=>?_,fun j l p1 q1 v e1 e2 o1 o2 s1 s2=>?_,dom',fun b z w=>?_⟩,⟨kp1,dm,fun b w=>(weq b).mp w⟩⟩
 .rw [oeq]
  by_cases z:i=j
  .subst z;rw [getElem?_set_self hi] at e1;cases e1;exact⟨_,es,new⟩
  .rw [getElem?_set_ne z] at e1;obtain⟨v,s,rr⟩:=R.get j r e1;refine⟨v,s,rr.keeps k fun ow2 b eb=>?_⟩;obtain⟨b',u,e3,e4⟩:=rr.ref ow2;rw [eb] at e3;cases e3;rw [e4];refine kp b u (fun zz=>?_) e4;subst zz;rw [eb] at s;exact z (R.dj i j p r _ e e1 ow ow2 es s)
 .have ex:∀(m:Nat) (x:PV),(ρ.set i (some q))[m]?=some (some x)->x.isOwn=true->∃y:PV,ρ[m]?=some (some y)/\y.isOwn=true:=fun m x em ox=>by
   by_cases z:i=m
   .subst z;exact⟨p,e,ow⟩
   .rw [getElem?_set_ne z] at em;exact⟨x,em,ox⟩
  obtain⟨y1,g1,g2⟩:=ex j p1 e1 o1;obtain⟨y2,g3,g4⟩:=ex l q1 e2 o2;exact R.dj j l y1 y2 v g1 g3 g2 g4 s1 s2
 .rcases h2 b z with z|z
  .exact R.sep b z ((weq b).mp w)
  .exact R.wr ((weq b).mp w) z
theorem Rel.lstw(R:Rel K A ρ σ H){i:Nat}{ds es:List D}{a:Addr}{ys:List V}(e:ρ[i]?=some (some (.own ds)))(es':σ[i]?=some (some (.ref a)))(f:FVs K (OO A ρ σ) H ys es) :
  Rel K A (ρ.set i (some (.own es))) σ (upd H a (.lst ys))/\Fr ρ σ H (ρ.set i (some (.own es))) (upd H a (.lst ys)):=by
 have wa:OO A ρ σ a:=.inr ⟨i,_,e,rfl,es'⟩;exact R.write (q:=.own es) e rfl rfl es' ⟨a,ys,rfl,aJ,f.keeps fun b u n h=>⟨n,by rw [aE (fun z=>n (by rw [z];exact wa))];exact h⟩⟩
theorem Rel.ownAt(R:Rel K A ρ σ H){i:Nat}{ds:List D}(e:ρ[i]?=some (some (.own ds))):∃a xs,σ[i]?=some (some (.ref a))/\H a=some (.lst xs)/\FVs K (OO A ρ σ) H xs ds:=by
 obtain⟨v,s,a,xs,rfl,g,f⟩:=R.get i _ e;exact⟨a,xs,s,g,f⟩
end
def Db(i:Nat)(pe:PTE):PTE:=fun ρ Q=>match ρ[i]? with
 | some (some (.own _))=>pe ρ fun p ρ1=>(match ρ1[i]? with
  | some (some (.own ds))=>ds.length<1000000/\Q (.dat .non) (ρ1.set i (some (.own (ds++[p.d]))))
  | _=>False)
 | _=>False
def ku(i:Nat)(pe pk:PTE):PTS:=fun D ρ=>pe ρ fun p ρ1=>(match ρ1[i]? with
 | some (some (.own _))=>pk ρ1 fun kp ρ2=>(match ρ2[i]?,kp with
  | some (some (.own ds)),.dat (.int k)=>∃j,ixN ds.length k=some j/\D.nx (ρ2.set i (some (.own (ds.set j p.d))))
  | _,_=>False)
 | _=>False)
section
variable {K:PySem.W.Frag}{te tk:TE}{pe pk:PTE}{fs:List Nat}
theorem wO{i:Nat}(h:LE K te pe):LE K (tBM K "list" vT (bL i) (bg te fS)) (Db i pe):=fun A ρ σ H Q Q' R q k=>by
 unfold Db at q
 split at q
 .rename_i ds0 e0;obtain⟨a0,xs0,s0,g0,f0⟩:=R.ownAt e0;refine⟨_,s0,.inl ⟨rfl,xs0,SqL.of g0⟩,h A ρ σ H _ _ R q fun v H1 p ρ1 q1 f1 o1=>?_⟩;obtain⟨R1,fv⟩:=o1.frz
  split at q1
  .rename_i ds e1;obtain⟨a,xs,s,g,f⟩:=R1.ownAt e1;rw [s0] at s;cases s;obtain⟨R2,f2⟩:=R1.lstw e1 s0 (f.append (.cons fv .nil));exact⟨a0,xs,v,rfl,rfl,g,lt_of_lt_of_le (by rw [f.length];exact q1.1) (sz _ (Nat.le_refl _)),k _ _ _ _ q1.2 (f1.trans f2) ⟨R2,.non⟩⟩
  .exact q1.elim
 .exact q.elim
theorem i6{i:Nat}(h:LE K te pe)(hk:LE K tk pk):LS K fs (x6 te (Fc (bL i) tk vR)) (ku i pe pk):=fun fx A R H0 ρ σ H D D' hf r F q k1 k2 k3 k4=>h A ρ σ H _ _ r q fun v H1 p ρ1 q1 f1 o1=>by
 obtain⟨R1,fv⟩:=o1.frz
 split at q1
 .rename_i ds0 e0;obtain⟨a0,xs0,s0,g0,f0⟩:=R1.ownAt e0;refine⟨_,s0,hk A ρ1 σ H1 _ _ R1 q1 fun w H2 kp ρ2 q2 f2 o2=>?_⟩
  split at q2
  .rename_i ds j e2;obtain⟨n,hn,q2⟩:=q2;obtain⟨R2,fw⟩:=o2;cases fw;obtain⟨a,xs,s,g,f⟩:=R2.ownAt e2;rw [s0] at s;cases s;obtain⟨R3,f3⟩:=R2.lstw e2 s0 (FVs.set (fv.keeps f2.keeps) n f);exact⟨a0,xs,j,n,rfl,rfl,g,by rw [f.length];exact hn,k1 _ _ _ q2 R3 (((F.fr f1).fr f2).fr f3)⟩
  .exact q2.elim
 .exact q1.elim
end
def spP(K:PySem.W.Frag)(c:FN):Sp:=fun vs H Q _=>∃(O:Addr->Prop) (ds:List D) (Qc:PV->Prop),(∀b,O b->H b≠none)/\FVs K O H vs ds/\c ds Qc/\∀r,Qc r->∀v H',Gr H H'->rS K O H H' r v->Q v H'
def bC(c:FN)(pr:PTA):PTE:=fun ρ Q=>pr ρ fun as ρ1=>match avD as with
 | some ds=>c ds fun r=>Q r ρ1
 | none=>False
theorem g9{N:List Str}{vs:List V}{i:Nat}{v:V}(h:vs[i]?=some v):(start N vs)[i]?=some (some v):=by
 unfold start;rw [getElem?_append_left (by rw [length_map];exact (List.getElem?_eq_some_iff.mp h).1),getElem?_map,h];rfl
def cX(n:Nat)(ps:List PV):PSt:=ps.map some++List.replicate (n - ps.length) none
theorem ee{n:Nat}{ps:List PV}{i:Nat}{p:PV}(h:(cX n ps)[i]?=some (some p)):ps[i]?=some p:=by
 unfold cX at h
 by_cases hi:i<ps.length
 .rw [getElem?_append_left (by rw [length_map];exact hi),getElem?_map] at h
  cases e:ps[i]? with
  | none=>rw [e] at h;cases h
  | some q=>rw [e] at h;cases h;rfl
 .rw [getElem?_append_right (by rw [length_map];omega)] at h;have:=mem_of_getElem? h;rw [mem_replicate] at this;cases this.2
section
variable {K:PySem.W.Frag}{tr:TA}{pr:PTA}{ts:TS}{ps:PTS}
theorem aO{c:FN}(h:LAs K tr pr):LE K (fc (spP K c) [] E0 tr) (bC c pr):=fun A ρ σ H Q Q' R q k=>h A ρ σ H _ _ R q fun vs H1 as ρ1 q1 f1 R1 o1=>by
 split at q1
 .rename_i ds e;rw [append_nil];exact⟨OO A ρ1 σ,ds,_,R1.dom2,o1.avD e,q1,fun r qr v H' g ov=>k v H' r ρ1 qr (f1.trans g.fr) ((ov.out R1 g).h0 f1.dm)⟩
 .exact q1.elim
theorem Out.outV{O:Addr->Prop}{ρ:PSt}{σ:St}{H H':Hp}{p:PV}{v:V}(h:Out K O ρ σ H H' p v):rS K O H H' p v:=by
 cases p with
 | dat d=>exact h.2.keeps (aL.less fun b z=>.inl z)
 | own ds =>
  obtain⟨a,xs,e1,na,e2,e3,R,f⟩:=h;exact⟨a,xs,e1,e2,e3,f.keeps (aL.less fun b z=>.inl z)⟩
 | ins c ns ds =>
  obtain⟨a,dx,fs,e1,na,e2,e3,m,R,f⟩:=h;exact⟨a,dx,fs,e1,e2,e3,m,f.keeps (aL.less fun b z=>.inl z)⟩
theorem fnP{c:FN}{N:List Str}(hl:LS K [] ts ps)(hn:∀ds Q,c ds Q->ds.length<=N.length)(hc:∀ds Q,c ds Q->ps { nx:=fun _=>Q (.dat .non),rt:=fun p _=>Q p } (cX N.length (ds.map .dat)))
  {vs:List V}{H:Hp}{Q:VK}{E:XK} (h:spP K c vs H Q E):ts { nx:=fun _ H'=>Q .non H',rt:=Q } (start N vs) H:=by
 obtain⟨O,ds,Qc,dom,fv,hq,k⟩:=h
 have nw:∀(ρ:PSt) (b:Addr),ρ=cX N.length (ds.map .dat)->¬ Wr ρ (start N vs) b:=fun ρ b e ⟨i,p,e1,o1,s1⟩=>by
  rw [e] at e1;have:=ee e1;rw [getElem?_map] at this
  cases e2:ds[i]? with
  | none=>rw [e2] at this;cases this
  | some d=>rw [e2] at this;cases this;cases o1
 have lenv:=fv.length;have hle:=hn ds Qc hq
 have R0:Rel K O (cX N.length (ds.map .dat)) (start N vs) H:=by
  refine⟨?_,fun i p e=>?_,fun i j p q v e1 e2 o1 o2 s1 s2=>?_,dom,fun b _ w=>nw _ b rfl w⟩
  .unfold cX start;rw [length_append,length_append,length_map,length_map,length_map,length_replicate,length_replicate,lenv]
  .have:=ee e;rw [getElem?_map] at this
   cases e2:ds[i]? with
   | none=>rw [e2] at this;cases this
   | some d =>
    rw [e2] at this;cases this;obtain⟨v,hv,f⟩:=fv.getD e2;exact⟨v,g9 hv,f.keeps (aL.less fun b z=>z.elim id fun w=>absurd w (nw _ b rfl))⟩
  .have:=ee e1;rw [getElem?_map] at this
   cases e3:ds[i]? with
   | none=>rw [e3] at this;cases this
   | some d=>rw [e3] at this;cases this;cases o1
 refine hl [] O (fun _=>False) H _ _ H _ _ rfl R0 ⟨fun _ _ _ h=>h,fun _ h=>h,fun b w=>absurd w (nw _ b rfl),fun p hp=>nomatch hp⟩ (hc ds Qc hq) (fun ρ' σ' H' q r F=>?_) (fun v p ρ' σ' H' q o F=>?_) (fun _ _ _ z=>z.elim) (fun _ _ _ z=>z.elim)
 .exact k _ q .non H' (fun b o e=>F.kp b o id e) .non
 .exact k _ q v H' (fun b o e=>F.kp b o id e) o.outV
abbrev FR:=PV->List D->(PV->PV->Prop)->Prop
def spR(K:PySem.W.Frag)(c:FR):Sp:=fun vs H Q _=>∃(A:Addr->Prop) (a:Addr) (p:PV) (ws:List V) (ds:List D) (Qc:PV->PV->Prop),vs=.ref a::ws/\p.isOwn=true/\(∀b,A b->H b≠none)/\¬ A a/\RS K (cP A a) H p (.ref a)/\FVs K (cP A a) H ws ds/\c p ds Qc /\
 ∀r p',Qc r p'->p'.isOwn=true->∀v H',(∀b o,b≠a->H b=some o->H' b=some o)->H' a≠none->RS K (cP A a) H' p' (.ref a)->rS K (cP A a) H H' r v->(∀a',v=.ref a'->r.isOwn=true->RS K (cP (cP A a) a') H' p' (.ref a))->Q v H'
def aW(c:FR)(i:Nat)(pr:PTA):PTE:=fun ρ Q=>match ρ[i]? with
 | some (some _)=>pr ρ fun as ρ1=>(match ρ1[i]?,avD as with
  | some (some p),some ds=>p.isOwn=true/\c p ds fun r p'=>Q r (ρ1.set i (some p'))
  | _,_=>False)
 | _=>False
theorem aD{c:FR}{i:Nat}(h:LAs K tr pr):LE K (fc (spR K c) [] E0 (bg (bL i) tr)) (aW c i pr):=fun A ρ σ H Q Q' R q k=>by
 unfold aW at q
 split at q
 .rename_i p0 e0;obtain⟨v0,s0,_⟩:=R.get i p0 e0;refine⟨v0,s0,h A ρ σ H _ _ R q fun vs H1 as ρ1 q1 f1 R1 o1=>?_⟩
  split at q1
  .rename_i p ds e1 ed;obtain⟨ow,q1⟩:=q1;obtain⟨v1,s1,rs⟩:=R1.get i p e1;rw [s0] at s1;cases s1;obtain⟨a,u,rfl,ea⟩:=rs.ref ow;rw [append_nil];have wa:Wr ρ1 σ a:=⟨i,p,e1,ow,s0⟩
   have oeq:cP (fun b=>(OO A ρ1 σ b)/\b≠a) a=OO A ρ1 σ:=funext fun b=>propext ⟨fun z=>z.elim (fun z=>z.1) (fun z=>by rw [z];exact .inr wa),fun z=>by
    by_cases e:b=a
    .exact .inr e
    .exact .inl ⟨z,e⟩⟩
   refine⟨fun b=>(OO A ρ1 σ b)/\b≠a,a,p,vs,ds,_,rfl,ow,fun b z=>R1.dom2 b z.1,fun z=>z.2 rfl,by rw [oeq];exact rs,by rw [oeq];exact o1.avD ed,q1,fun r p' qr ow' v H' kp ha rs' ov hx=>?_⟩;rw [oeq] at rs' ov hx
   have domA:∀b,A b->H' b≠none:=fun b z=>by
    have:b≠a:=fun e=>R1.sep b z (by rw [e];exact wa)
    cases eb:H1 b with
    | none=>exact absurd eb (R1.dom b z)
    | some o=>rw [kp b o this eb];exact nofun
   cases r with
   | dat d =>
    obtain⟨R2,f2⟩:=R1.step (A':=A) e1 ow ow' s0 kp ha (fun _ h=>h) (fun _ h=>.inl h) domA rs';exact k v H' _ _ qr (f1.trans f2) ⟨R2,FV.keeps (aL.less fun b z=>z.imp id (f2.ow b)) ov⟩
   | own es =>
    obtain⟨a',xs,rfl,n1,e2,f⟩:=ov;have hx:=hx a' rfl rfl;have na:a'≠a:=fun e=>by rw [e,ea] at n1;cases n1
    have oo2:∀b,OO (cP A a') ρ1 σ b ↔ cP (OO A ρ1 σ) a' b:=fun b=>⟨fun z=>by
     rcases z with (z|z)|z
     .exact .inl (.inl z)
     .exact .inr z
     .exact .inl (.inr z),fun z=>by
     rcases z with (z|z)|z
     .exact .inl (.inl z)
     .exact .inr z
     .exact .inl (.inr z)⟩
    have oo2':OO (cP A a') ρ1 σ=cP (OO A ρ1 σ) a':=funext fun b=>propext (oo2 b)
    obtain⟨R2,f2⟩:=R1.step (A':=cP A a') e1 ow ow' s0 kp ha (fun _ h=>.inl h) (fun b z=>z.imp id fun z=>by rw [z];exact n1) (fun b z=>z.elim (domA b) fun z=>by rw [z,e2];exact nofun) (by rw [oo2'];exact hx)
    .refine k _ H' (.own es) _ qr (f1.trans f2) ⟨a',xs,rfl,fun z=>R1.dom a' z n1,?_,e2,R2,f.keeps (aL.less fun b z=>?_)⟩
     .cases eb:H a' with
      | none=>rfl
      | some o=>exact absurd n1 (f1.dm a' (by rw [eb];exact nofun))
     .rw [<- oo2'];exact z.imp id (f2.ow b)
   | ins c ns es =>
    obtain⟨a',dx,fs,rfl,n1,e2,m,f⟩:=ov;have hx:=hx a' rfl rfl
    have oo2':OO (cP A a') ρ1 σ=cP (OO A ρ1 σ) a':=funext fun b=>propext ⟨fun z=>by
     rcases z with (z|z)|z
     .exact .inl (.inl z)
     .exact .inr z
     .exact .inl (.inr z),fun z=>by
     rcases z with (z|z)|z
     .exact .inl (.inl z)
     .exact .inr z
     .exact .inl (.inr z)⟩
    obtain⟨R2,f2⟩:=R1.step (A':=cP A a') e1 ow ow' s0 kp ha (fun _ h=>.inl h) (fun b z=>z.imp id fun z=>by rw [z];exact n1) (fun b z=>z.elim (domA b) fun z=>by rw [z,e2];exact nofun) (by rw [oo2'];exact hx)
    .refine k _ H' (.ins c ns es) _ qr (f1.trans f2) ⟨a',dx,fs,rfl,fun z=>R1.dom a' z n1,?_,e2,m,R2,f.keeps (aL.less fun b z=>?_)⟩
     .cases eb:H a' with
      | none=>rfl
      | some o=>exact absurd n1 (f1.dm a' (by rw [eb];exact nofun))
     .rw [<- oo2'];exact z.imp id (f2.ow b)
  .exact q1.elim
 .exact q.elim
def BJ(Q:PV->PV->Prop)(r:PV)(ρ:PSt):Prop:=match ρ[0]? with
 | some (some p)=>p.isOwn=true/\Q r p
 | _=>False
theorem fnR{c:FR}{N:List Str}(hl:LS K [0] ts ps)(hn:∀p ds Q,c p ds Q->ds.length+1<=N.length)(hc:∀p ds Q,p.isOwn=true->c p ds Q->ps { nx:=BJ Q (.dat .non),rt:=BJ Q } (cX N.length (p::ds.map .dat)))
  {vs:List V}{H:Hp}{Q:VK}{E:XK} (h:spR K c vs H Q E):ts { nx:=fun _ H'=>Q .non H',rt:=Q } (start N vs) H:=by
 obtain⟨A,a,p,ws,ds,Qc,rfl,ow,dom,na,rs,fv,hq,k⟩:=h;have s0:(start N (V.ref a::ws))[0]?=some (some (.ref a)):=g9 rfl;have b0:(cX N.length (p::ds.map .dat))[0]?=some (some p):=rfl
 have wr:∀b,Wr (cX N.length (p::ds.map .dat)) (start N (.ref a::ws)) b->b=a:=fun b ⟨i,q,e1,o1,s1⟩=>by
  have:=ee e1
  cases i with
  | zero=>rw [s0] at s1;cases s1;rfl
  | succ i =>
   rw [getElem?_cons_succ,getElem?_map] at this
   cases e2:ds[i]? with
   | none=>rw [e2] at this;cases this
   | some d=>rw [e2] at this;cases this;cases o1
 have wa:Wr (cX N.length (p::ds.map .dat)) (start N (.ref a::ws)) a:=⟨0,p,b0,ow,s0⟩
 have oeq:OO A (cX N.length (p::ds.map .dat)) (start N (.ref a::ws))=cP A a:=funext fun b=>propext ⟨fun z=>z.imp id (wr b),fun z=>z.imp id fun z=>by rw [z];exact wa⟩;have lenv:=fv.length;have hle:=hn p ds Qc hq
 have R0:Rel K A (cX N.length (p::ds.map .dat)) (start N (.ref a::ws)) H:=by
  refine⟨?_,fun i q e=>?_,fun i j q1 q2 v e1 e2 o1 o2 s1 s2=>?_,dom,fun b z w=>?_⟩
  .unfold cX start;simp only [length_append,length_map,length_replicate,length_cons,lenv]
  .have:=ee e;rw [oeq]
   cases i with
   | zero=>cases this;exact⟨_,s0,rs⟩
   | succ i =>
    rw [getElem?_cons_succ,getElem?_map] at this
    cases e2:ds[i]? with
    | none=>rw [e2] at this;cases this
    | some d =>
     rw [e2] at this;cases this;obtain⟨v,hv,f⟩:=fv.getD e2;exact⟨v,g9 (by rw [getElem?_cons_succ];exact hv),f⟩
  .have own0:∀(i:Nat) (q:PV),(cX N.length (p::ds.map .dat))[i]?=some (some q)->q.isOwn=true->i=0:=fun i q e o=>by
    have:=ee e
    cases i with
    | zero=>rfl
    | succ i =>
     rw [getElem?_cons_succ,getElem?_map] at this
     cases e2:ds[i]? with
     | none=>rw [e2] at this;cases this
     | some d=>rw [e2] at this;cases this;cases o
   rw [own0 i q1 e1 o1,own0 j q2 e2 o2]
  .rw [wr b w] at z;exact na z
 have fin:∀(v:V) (r:PV) (ρ':PSt) (σ':St) (H':Hp),BJ Qc r ρ'->Out K A ρ' σ' H H' r v->fe [(0,.ref a)] (fun b=>b=a) H ρ' σ' H'->Q v H':=fun v r ρ' σ' H' q o F=>by
  unfold BJ at q
  split at q
  .rename_i p' e';obtain⟨ow',q⟩:=q;have sa:=F.fx (0,.ref a) (mem_singleton.mpr rfl);have wa':Wr ρ' σ' a:=⟨0,p',e',ow',sa⟩
   have kpa:∀b o,b≠a->H b=some o->H' b=some o:=fun b o n e=>F.kp b o n e
   cases r with
   | dat d =>
    obtain⟨R1,f1⟩:=o;obtain⟨v1,s1,rs1⟩:=R1.get 0 p' e';rw [sa] at s1;cases s1;have less:∀b,cP A a b->OO A ρ' σ' b:=fun b z=>z.imp id fun z=>by rw [z];exact wa'
    exact k _ p' q ow' v H' kpa (R1.wr wa') (rs1.keeps (aL.less less) fun _ _ _=>rfl) (f1.keeps (aL.less less)) (fun _ _ z=>nomatch z)
   | own es =>
    obtain⟨a',xs,rfl,n1,n2,e3,R1,f1⟩:=o;obtain⟨v1,s1,rs1⟩:=R1.get 0 p' e';rw [sa] at s1;cases s1
    have less:∀b,cP (cP A a) a' b->OO (cP A a') ρ' σ' b:=fun b z=>by
     rcases z with (z|z)|z
     .exact .inl (.inl z)
     .exact .inr (by rw [z];exact wa')
     .exact .inl (.inr z)
    exact k _ p' q ow' _ H' kpa (R1.wr wa') (rs1.keeps (aL.less fun b z=>less b (.inl z)) fun _ _ _=>rfl) ⟨a',xs,rfl,n2,e3,f1.keeps (aL.less less)⟩ (fun a'' e _=>by cases e;exact rs1.keeps (aL.less less) fun _ _ _=>rfl)
   | ins c ns es =>
    obtain⟨a',dx,fs,rfl,n1,n2,e3,m,R1,f1⟩:=o;obtain⟨v1,s1,rs1⟩:=R1.get 0 p' e';rw [sa] at s1;cases s1
    have less:∀b,cP (cP A a) a' b->OO (cP A a') ρ' σ' b:=fun b z=>by
     rcases z with (z|z)|z
     .exact .inl (.inl z)
     .exact .inr (by rw [z];exact wa')
     .exact .inl (.inr z)
    exact k _ p' q ow' _ H' kpa (R1.wr wa') (rs1.keeps (aL.less fun b z=>less b (.inl z)) fun _ _ _=>rfl) ⟨a',dx,fs,rfl,n2,e3,m,f1.keeps (aL.less less)⟩ (fun a'' e _=>by cases e;exact rs1.keeps (aL.less less) fun _ _ _=>rfl)
  .exact q.elim
 refine hl [(0,.ref a)] A (fun b=>b=a) H _ _ H _ _ rfl R0 ⟨fun _ _ _ h=>h,fun _ h=>h,fun b w=>.inl (wr b w),fun q hq=>by rw [mem_singleton.mp hq];exact s0⟩ (hc p ds Qc ow hq) (fun ρ' σ' H' q r F=>fin .non (.dat .non) ρ' σ' H' q ⟨r,.non⟩ F) (fun v p ρ' σ' H' q o F=>fin v p ρ' σ' H' q o F) (fun _ _ _ z=>z.elim) (fun _ _ _ z=>z.elim)
end
def Ft:FN:=fun as Q=>∃ns:List Int,as=[.scr ns]/\ns.length<=63/\Q (.dat (.bl true))
theorem AZ{K:PySem.W.Frag}{vs:List V}{H:Hp}{Q:VK}{E:XK}(h:uD K vs H Q E):spP K Ft vs H Q E:=by
 obtain⟨a,ns,rfl,hS,h63,q⟩:=h
 refine⟨fun _=>False,[.scr ns],fun r=>r=.dat (.bl true),nofun,.cons (.scr ?_) .nil,⟨ns,rfl,h63,rfl⟩,fun r e v H' g o=>?_⟩
 .rcases hS with h|h
  .exact .inl ⟨id,h⟩
  .exact .inr h
 .subst e;cases o;exact q H'
section
variable {K:PySem.W.Frag}{X:Cx}
def Fu:List V->Hp->VK->Prop:=fun xs H Q=>∃i,xs=[.int i]/\Q (.int (if i<0 then -i else i)) H
def Dc:List V->Hp->VK->Prop:=fun xs H Q=>∃i j,xs=[.int i,.int j]/\Q (.int (if j<i then j else i)) H
def Dd:List V->Hp->VK->Prop:=fun xs H Q=>∃i j,xs=[.int i,.int j]/\Q (.int (if j > i then j else i)) H
theorem EK:cC X (.builtin "abs") Fu:=yc
theorem tP(hc:X.calm=true):cC X (.builtin "min") Dc:=vJ hc
theorem qA(hc:X.calm=true):cC X (.builtin "max") Dd:=vI hc
def EL:FN
 | [.int i],Q=>Q (.dat (.int (if i<0 then -i else i)))
 | _,_=>False
def uL:FN
 | [.int i,.int j],Q=>Q (.dat (.int (if j<i then j else i)))
 | _,_=>False
def rW:FN
 | [.int i,.int j],Q=>Q (.dat (.int (if j > i then j else i)))
 | _,_=>False
theorem De:LC K Fu EL:=by
 intro O H xs as Q Q' dom fs q k;unfold EL at q
 split at q
 .cases fs with|cons a b=>cases b;rw [a.int];exact⟨_,rfl,k _ H _ q (Gr.refl _) (.int _)⟩
 .exact q.elim
theorem oF:LC K Dc uL:=by
 intro O H xs as Q Q' dom fs q k;unfold uL at q
 split at q
 .cases fs with
  | cons a b=>cases b with|cons b c=>cases c;rw [a.int,b.int];exact⟨_,_,rfl,k _ H _ q (Gr.refl _) (.int _)⟩
 .exact q.elim
theorem lL:LC K Dd rW:=by
 intro O H xs as Q Q' dom fs q k;unfold rW at q
 split at q
 .cases fs with
  | cons a b=>cases b with|cons b c=>cases c;rw [a.int,b.int];exact⟨_,_,rfl,k _ H _ q (Gr.refl _) (.int _)⟩
 .exact q.elim
def Df(K:PySem.W.Frag):List V->Hp->VK->Prop:=fun xs H Q=>∃(p:Addr) (ns:List Int),xs=[.ref p]/\SqL K H p (ns.map V.int)/\Q (.int ns.sum) H
def Fv(K:PySem.W.Frag):List V->Hp->VK->Prop:=fun xs H Q=>∃(p:Addr) (bs:List Bool),xs=[.ref p]/\SqL K H p (bs.map V.bl)/\Q (.bl (bs.all id)) H
def Fw(K:PySem.W.Frag):List V->Hp->VK->Prop:=fun xs H Q=>∃(p:Addr) (bs:List Bool),xs=[.ref p]/\SqL K H p (bs.map V.bl)/\Q (.bl (bs.any id)) H
theorem zy(K:PySem.W.Frag)(e:X.K=K)(hc:X.calm=true):cC X (.builtin "sum") (Df K):=by subst e;exact wC hc
theorem wP(K:PySem.W.Frag)(e:X.K=K)(hc:X.calm=true):cC X (.builtin "all") (Fv K):=by subst e;exact yu hc
theorem EM(K:PySem.W.Frag)(e:X.K=K)(hc:X.calm=true):cC X (.builtin "any") (Fw K):=by subst e;exact yv hc
def yE:FN
 | [.lst ds],Q=>∃ns:List Int,ds=ns.map .int/\Q (.dat (.int ns.sum))
 | _,_=>False
def A0:FN
 | [.lst ds],Q=>∃bs:List Bool,ds=bs.map .bl/\Q (.dat (.bl (bs.all id)))
 | _,_=>False
def EN:FN
 | [.lst ds],Q=>∃bs:List Bool,ds=bs.map .bl/\Q (.dat (.bl (bs.any id)))
 | _,_=>False
theorem wQ:LC K (Df K) yE:=by
 intro O H xs as Q Q' dom fs q k;unfold yE at q
 split at q
 .obtain⟨ns,rfl,q⟩:=q
  cases fs with
  | cons a b =>
   cases b;obtain⟨p,ys,rfl,e1,f1⟩:=a.lst;rw [f1.ints] at e1;exact⟨p,ns,rfl,SqL.of e1,k _ H _ q (Gr.refl _) (.int _)⟩
 .exact q.elim
theorem qB:LC K (Fv K) A0:=by
 intro O H xs as Q Q' dom fs q k;unfold A0 at q
 split at q
 .obtain⟨ns,rfl,q⟩:=q
  cases fs with
  | cons a b =>
   cases b;obtain⟨p,ys,rfl,e1,f1⟩:=a.lst;rw [f1.bls] at e1;exact⟨p,ns,rfl,SqL.of e1,k _ H _ q (Gr.refl _) (.bl _)⟩
 .exact q.elim
theorem Dg:LC K (Fw K) EN:=by
 intro O H xs as Q Q' dom fs q k;unfold EN at q
 split at q
 .obtain⟨ns,rfl,q⟩:=q
  cases fs with
  | cons a b =>
   cases b;obtain⟨p,ys,rfl,e1,f1⟩:=a.lst;rw [f1.bls] at e1;exact⟨p,ns,rfl,SqL.of e1,k _ H _ q (Gr.refl _) (.bl _)⟩
 .exact q.elim
def yF(K:PySem.W.Frag):List V->Hp->VK->Prop:=fun xs H Q=>∃p ys,xs=[.ref p]/\((SqL K H p ys/\∀l,H l=none->Q (.ref l) (upd H l (.tup ys)))\/(SqT K H p ys/\Q (.ref p) H))
theorem gi(K:PySem.W.Frag)(e:X.K=K):cC X (.type "tuple") (yF K):=by subst e;exact n9
theorem tQ(K:PySem.W.Frag)(e:X.K=K):cC X (.type "list") (ot K):=by subst e;exact qe
def hC:FN
 | [.lst ds],Q=>Q (.dat (.tup ds))
 | [.tup ds],Q=>Q (.dat (.tup ds))
 | [.scr ns],Q=>Q (.dat (.tup (ns.map .int)))
 | _,_=>False
def rX:FN
 | [.lst ds],Q=>Q (.own ds)
 | [.tup ds],Q=>Q (.own ds)
 | [.scr ns],Q=>Q (.own (ns.map .int))
 | _,_=>False
theorem eF:LC K (yF K) hC:=by
 intro O H xs as Q Q' dom fs q k;unfold hC at q
 split at q
 .cases fs with
  | cons a b =>
   cases b;obtain⟨p,ys,rfl,e1,f1⟩:=a.lst;exact⟨p,ys,rfl,.inl ⟨SqL.of e1,fun l hl=>k _ _ _ q (Gr.new hl) (lK dom hl f1)⟩⟩
 .cases fs with
  | cons a b =>
   cases b;obtain⟨p,ys,rfl,n1,e1,f1⟩:=a.tup;exact⟨p,ys,rfl,.inr ⟨SqT.of e1,k _ H _ q (Gr.refl _) (.tup n1 e1 f1)⟩⟩
 .cases fs with
  | cons a b =>
   cases b;obtain⟨p,rfl,e1⟩:=a.scr;exact⟨p,_,rfl,.inl ⟨e1,fun l hl=>k _ _ _ q (Gr.new hl) (lK dom hl (FVs.of_ints _))⟩⟩
 .exact q.elim
theorem oG:LC K (ot K) rX:=by
 intro O H xs as Q Q' dom fs q k;unfold rX at q
 split at q
 .cases fs with
  | cons a b =>
   cases b;obtain⟨p,ys,rfl,e1,f1⟩:=a.lst;exact⟨p,ys,rfl,.inl (SqL.of e1),fun l hl=>k _ _ _ q (Gr.new hl) (f9 hl f1)⟩
 .cases fs with
  | cons a b =>
   cases b;obtain⟨p,ys,rfl,n1,e1,f1⟩:=a.tup;exact⟨p,ys,rfl,.inr (SqT.of e1),fun l hl=>k _ _ _ q (Gr.new hl) (f9 hl f1)⟩
 .cases fs with
  | cons a b =>
   cases b;obtain⟨p,rfl,e1⟩:=a.scr;exact⟨p,_,rfl,.inl e1,fun l hl=>k _ _ _ q (Gr.new hl) (f9 hl (FVs.of_ints _))⟩
 .exact q.elim
variable {ta:TE}{pa:PA1}{tr:TA}{pr:PTA}{pe:PTE}
def xW(i:Int)(n:Nat):List D:=(List.range n).map fun (k:Nat)=>D.int (i+(k:Int))
def mkL(tup:Bool)(ds:List D):PV:=match tup with|true=>.dat (.tup ds)|false=>.own ds
def Dh(tup:Bool)(pr:PTA):PTE:=fun ρ Q=>pr ρ fun as ρ1=>match as with
 | [.v (.int j)]=>(0<=j/\j<=1000000)/\Q (mkL tup (xW 0 j.toNat)) ρ1
 | _=>False
theorem Di{O:Addr->Prop}{H:Hp}(i:Int)(n:Nat):FVs K O H (rO i 1 n) (xW i n):=by
 have e:∀l:List Nat,FVs K O H (l.map fun (k:Nat)=>V.int (i+k*1)) (l.map fun (k:Nat)=>D.int (i+(k:Int))):=fun l=>by
  induction l with
  | nil=>exact .nil
  | cons a r ih=>exact .cons (by show FV K O H (V.int (i+(a:Int)*1)) (D.int (i+(a:Int)));rw [show i+(a:Int)*1=i+(a:Int) by omega];exact .int _) ih
 exact e _
theorem ny{i j:Int}(h:i<=j):Builtin.Range.rangeSize i j 1=(((j - i).toNat:Nat):Int):=by
 unfold Builtin.Range.rangeSize;rw [if_pos (by decide)];simp only [ediv_one];split <;> omega
theorem uM{i j:Int}(h0:-1000000<=i)(h1:i<=j)(h2:j<=1000000):Builtin.Range.small i j 1=true:=by
 unfold Builtin.Range.small;rw [ny h1];simp only [Builtin.Range.rangeFitsLong,and_eq_true,or_eq_true,decide_eq_true_eq,beq_iff_eq,show (1:Int) > 0 by decide,if_true];omega
def mkO(tup:Bool):List V->HO:=match tup with|true=>.tup|false=>.lst
theorem Dj{O:Addr->Prop}{H:Hp}{xs:List V}{ds:List D}{p:Addr}(tup:Bool)(dom:∀b,O b->H b≠none)(hp:H p=none)(f:FVs K O H xs ds):rS K O H (upd H p (mkO tup xs)) (mkL tup ds) (.ref p):=by
 cases tup with
 | true=>exact lK dom hp f
 | false=>exact f9 hp f
theorem yG(tup:Bool)(h:LAs K tr pr):LE K (tCB (Ei K (mkO tup)) (bg (fun σ H Q=>tr σ H fun vs H1=>∃j:Int,vs=[.int j]/\∀p,H1 p=none->Q (.ref p) (upd H1 p (zr p 0 j 1))) fS)) (Dh tup pr):=fun A ρ σ H Q Q' R q k=>h A ρ σ H _ _ R q fun vs H1 as ρ1 q1 f1 R1 o1=>by
 split at q1
 .rename_i j
  cases o1 with
  | cons a b =>
   cases b;cases a;refine⟨j,rfl,fun p hp=>⟨p,0,j,1,j.toNat,rfl,aJ,uM (by decide) q1.1.1 q1.1.2,by rw [ny q1.1.1,Int.sub_zero],by omega,fun l hl=>?_⟩⟩;have g:Gr H1 (upd H1 p (zr p 0 j 1)):=Gr.new hp;have R2:=R1.gr g;have g2:Gr (upd H1 p (zr p 0 j 1)) (upd (upd H1 p (zr p 0 j 1)) l (mkO tup (rO 0 1 j.toNat))):=Gr.new hl;exact k _ _ _ ρ1 q1.2 (f1.trans (g.fr.trans g2.fr)) ((rS.out R2 g2 (Dj tup R2.dom2 hl (Di 0 _))).h0 fun b z=>(g.fr (ρ:=ρ1) (σ:=σ)).dm b (f1.dm b z))
 .exact q1.elim
theorem Dk(K:PySem.W.Frag)(e:X.K=K)(hc:X.calm=true):cC X (.type "list") (Ei K (mkO false)):=by subst e;exact uG hc
abbrev FM:=List Nat->List D->(PV->Prop)->Prop
def LM(K:PySem.W.Frag)(r:V->List V->Hp->VK->Prop)(f:FM):Prop:=∀(O:Addr->Prop) (H:Hp) (l:List Nat) (xs:List V) (as:List D) (Q:PV->Prop) (Q':VK),(∀b,O b->H b≠none)->l.length<=1000000->BG K O H xs as->f l as Q ->
 (∀v H' p,Q p->Gr H H'->rS K O H H' p v->Q' v H')->r (.str (S l)) xs H Q'
def pSM(f:FM)(pe:PTE)(pr:PTA):PTE:=fun ρ Q=>pe ρ fun p ρ1=>match p with
 | .dat (.str l)=>pr ρ1 fun as ρ2=>(match conts ρ2 as with
  | some ds=>f l ds fun r=>Q r ρ2
  | none=>False)
 | _=>False
theorem yH{r:V->List V->Hp->VK->Prop}{f:FM}(o:LM K r f)(he:LE K ta pe)(hr:LAs K tr pr):LE K (tBM K "str" r ta tr) (pSM f pe pr):=fun A ρ σ H Q Q' R q k=>he A ρ σ H _ _ R q fun v H1 p ρ1 q1 f1 o1=>by
 split at q1
 .rename_i l;obtain⟨R1,fv⟩:=o1
  cases fv with
  | str _ hl =>
   refine⟨rfl,hr A ρ1 σ H1 _ _ R1 q1 fun vs H2 as ρ2 q2 f2 R2 o2=>?_⟩
   split at q2
   .rename_i ds e;exact o _ H2 l vs ds _ _ R2.dom2 hl (R2.conts o2 e) q2 fun z H3 p q3 g ov=>k z H3 p ρ2 q3 ((f1.trans f2).trans g.fr) ((ov.out R2 g).h0 fun b z=>f2.dm b (f1.dm b z))
   .exact q2.elim
 .exact q1.elim
def Dl:V->List V->Hp->VK->Prop:=fun x xs H Q=>∃a b,x=.str (S a)/\xs=[.str (S b)]/\Q (.bl (decide (b <:+ a))) H
def zA:V->List V->Hp->VK->Prop:=fun x xs H Q=>∃a b,x=.str (S a)/\xs=[.str (S b)]/\Q (.int (fnd a b 0)) H
theorem A1:MtR X "str.endswith" Dl:=rM
theorem tR:MtR X "str.find" zA:=yq
def A2:FM
 | a,[.str b],Q=>Q (.dat (.bl (decide (b <:+ a))))
 | _,_,_=>False
def tS:FM
 | a,[.str b],Q=>Q (.dat (.int (fnd a b 0)))
 | _,_,_=>False
theorem A3:LM K Dl A2:=by
 intro O H l xs as Q Q' dom hl fs q k;unfold A2 at q
 split at q
 .cases fs with|cons a b=>cases b;rw [a.str.1];exact⟨_,_,rfl,rfl,k _ H _ q (Gr.refl _) (.bl _)⟩
 .exact q.elim
theorem tT:LM K zA tS:=by
 intro O H l xs as Q Q' dom hl fs q k;unfold tS at q
 split at q
 .cases fs with|cons a b=>cases b;rw [a.str.1];exact⟨_,_,rfl,rfl,k _ H _ q (Gr.refl _) (.int _)⟩
 .exact q.elim
def iL(f:Str):List Str->Option Nat
 | []=>none
 | n::r=>if n=f then some 0 else (iL f r).map (·+1)
theorem qC{f:Str}:∀{fs:List (Str×V)}{k:Nat},iL f (fs.map Prod.fst)=some k->fs.lookup f=(fs.map Prod.snd)[k]?
 | [],k,h=>by cases h
 | (n,v)::r,k,h=>by
  unfold iL at h;rw [map_cons] at h;simp only at h;rw [lookup_cons]
  by_cases e:n=f
  .rw [if_pos e] at h;cases h;rw [show (f == n)=true by rw [e];exact beq_self_eq_true _];rfl
  .rw [if_neg e] at h;rw [show (f == n)=false from beq_eq_false_iff_ne.mpr fun z=>e z.symm]
   cases e2:iL f (r.map Prod.fst) with
   | none=>rw [e2] at h;cases h
   | some j=>rw [e2] at h;cases h;show List.lookup f r=_;rw [qC e2];simp
theorem oH{f:Str}{v:V}:∀{fs:List (Str×V)},iL f (fs.map Prod.fst)=none->nj f v fs=fs++[(f,v)]
 | [],h=>rfl
 | (n,x)::r,h=>by
  unfold iL at h;rw [map_cons] at h;simp only at h
  by_cases e:n=f
  .rw [if_pos e] at h;cases h
  .rw [if_neg e] at h
   cases e2:iL f (r.map Prod.fst) with
   | none=>unfold nj;rw [if_neg e,oH e2];rfl
   | some j=>rw [e2] at h;cases h
theorem FVc.obj{O:Addr->Prop}{H:Hp}{v:V}{c:Str}{ns:List Str}{ds:List D}(h:FVc K O H v (.obj c ns ds)):∃a dx fs,v=.ref a/\H a=some (.ins (dB K c) dx fs)/\fs.map Prod.fst=ns/\FVs K O H (fs.map Prod.snd) ds:=by
 rcases h with h|⟨a,xs,ds',e1,e2,e3,f⟩|⟨a,dx,c,fs,ns,ds',e1,e2,e3,m,f⟩
 .cases h with
  | obj n e m f=>exact⟨_,_,_,rfl,e,m,f⟩
 .cases e2
 .cases e2;exact⟨a,dx,fs,e1,e3,m,f⟩
def tU(c0:Str)(ns0:List Str)(k:Nat)(pa:PA1):PTE:=fun ρ Q=>pa ρ fun x ρ1=>match cont ρ1 x with
 | some (.obj c ns ds)=>(c=c0/\ns=ns0)/\∃d,ds[k]?=some d/\Q (.dat d) ρ1
 | _=>False
theorem fN{c0 f:Str}{ns0:List Str}{i:Nat}(hc:Cls K (dB K c0))(hn:gJ K (dB K c0) f)(hk:iL f ns0=some i)(h:LA1 K ta pa):LE K (zn K ta f) (tU c0 ns0 i pa):=fun A ρ σ H Q Q' R q k=>h A ρ σ H _ _ R q fun v H1 a ρ1 q1 f1 R1 o1=>by
 split at q1
 .rename_i c ns ds e;obtain⟨⟨rfl,rfl⟩,d,hd,q1⟩:=q1;obtain⟨a,dx,fs,rfl,e1,m,f⟩:=(R1.cont o1 e).obj;obtain⟨v,hv,fv⟩:=f.getD hd;exact⟨a,_,dx,fs,v,rfl,e1,hc,hn,by rw [qC (k:=i) (by rw [m];exact hk)];exact hv,k v H1 _ ρ1 q1 f1 ⟨R1,fv⟩⟩
 .exact q1.elim
def qD(c0:Str)(ns0:List Str)(f:Str)(i:Nat)(pe:PTE):PTS:=fun D ρ=>pe ρ fun p ρ1=>match ρ1[i]? with
 | some (some (.ins c ns ds))=>(c=c0/\ns=ns0/\ns0.length<1000)/\D.nx (ρ1.set i (some (.ins c0 (ns0++[f]) (ds++[p.d]))))
 | _=>False
theorem oI{fs':List Nat}{c0 f:Str}{ns0:List Str}{i:Nat}(hc:Cls K (dB K c0))(hn:gJ K (dB K c0) f)(hk:iL f ns0=none)(h:LE K ta pe):LS K fs' (Fi K (bL i) ta f) (qD c0 ns0 f i pe):=fun fx A R H0 ρ σ H D D' hf r F q k1 k2 k3 k4=>h A ρ σ H _ _ r q fun v H1 p ρ1 q1 f1 o1=>by
 obtain⟨R1,fv⟩:=o1.frz
 split at q1
 .rename_i c ns ds e;obtain⟨⟨rfl,rfl,hl⟩,q1⟩:=q1;obtain⟨w,s,a,dx,fs,rfl,g,m,ff⟩:=R1.get i _ e;have hk':iL f (fs.map Prod.fst)=none:=by rw [m];exact hk
  have wa:OO A ρ1 σ a:=.inr ⟨i,_,e,rfl,s⟩;have kw:∀o,aL (OO A ρ1 σ) H1 (OO A ρ1 σ) (upd H1 a o):=fun o b u n h=>⟨n,by rw [aE (fun z=>n (by rw [z];exact wa))];exact h⟩
  obtain⟨R2,f2⟩:=R1.write (o:=.ins (dB K c) dx (nj f v fs)) (q:=.ins c (ns++[f]) (ds++[p.d])) e rfl rfl s ⟨a,dx,nj f v fs,rfl,aJ,by rw [oH hk',map_append,m];rfl,by rw [oH hk',map_append];exact (ff.append (.cons fv .nil)).keeps (kw _)⟩;refine⟨_,s,a,_,dx,fs,rfl,g,hc,hn,?_,k1 _ _ _ q1 R2 ((F.fr f1).fr f2)⟩;have:fs.length=ns.length:=by rw [<- m,length_map]
  omega
 .exact q1.elim
def A4(c0:Str)(c:FR)(pr:PTA):PTE:=fun ρ Q=>pr ρ fun as ρ1=>match avD as with
 | some ds=>c (.ins c0 [] []) ds fun r p'=>(match r,p' with
  | .dat .non,.ins c1 ns es=>c1=c0/\Q (.ins c1 ns es) ρ1
  | _,_=>False)
 | none=>False
theorem wR{c0:Str}{c:FR}(h:LAs K tr pr):LE K (ye (dB K c0) (spR K c) [] E0 tr) (A4 c0 c pr):=fun A ρ σ H Q Q' R q k=>h A ρ σ H _ _ R q fun vs H1 as ρ1 q1 f1 R1 o1=>by
 split at q1
 .rename_i ds e;intro x dx hx hdx hne;rw [append_nil]
  let H2:=upd (upd H1 dx (.own x)) x (.ins (dB K c0) dx [])
  have g2:Gr H1 H2:=fun b o z=>by
   show upd (upd H1 dx (.own x)) x _ b=_;rw [aE (a8 z hx),aE (a8 z hdx)];exact z
  have nx:¬ OO A ρ1 σ x:=R1.oo hx
  have keep2:aL (OO A ρ1 σ) H1 (cP (OO A ρ1 σ) x) H2:=fun b o n z=>by
   refine⟨fun y=>?_,g2 b o z⟩
   rcases y with y|y
   .exact n y
   .rw [y,hx] at z;cases z
  refine⟨OO A ρ1 σ,x,.ins c0 [] [],vs,ds,_,rfl,rfl,fun b z=>(g2.fr (ρ:=ρ1) (σ:=σ)).dm b (R1.dom2 b z),nx,⟨x,dx,[],rfl,aJ,rfl,.nil⟩,(o1.avD e).keeps keep2,q1,fun r p' qr ow' v H' kp ha rs ov _=>?_⟩
  split at qr
  .obtain⟨rfl,qr⟩:=qr;cases ov;refine⟨rfl,?_⟩;obtain⟨a',dx',fs,ea,e2,m,f⟩:=rs;cases ea;have g:Gr H1 H':=fun b o z=>kp b o (a8 z hx) (g2 b o z)
   have hx0:H x=none:=by
    cases eb:H x with
    | none=>rfl
    | some o=>exact absurd hx (f1.dm x (by rw [eb];exact nofun))
   refine k _ H' _ ρ1 qr (f1.trans g.fr) ⟨x,dx',fs,rfl,fun z=>nx (.inl z),hx0,e2,m,R1.grA g hx (by rw [e2];exact nofun),f.keeps (aL.less fun b z=>?_)⟩
   rcases z with (z|z)|z
   .exact .inl (.inl z)
   .exact .inr z
   .exact .inl (.inr z)
  .exact qr.elim
 .exact q1.elim
end
abbrev EO:R2:=rI0 fun i j=>.int (i - j)
abbrev EQ:R2:=rI (fun _ j=>0<j) fun i j=>.int (i % j)
abbrev ER:R2:=rI D5 fun i j=>.int (i / j)
abbrev ES:R2:=rI D6 fun i j=>.int (i^j.toNat)
abbrev Fx:R2:=rI0 fun i j=>.bl (decide (j<i))
abbrev ET:R2:=rI0 fun i j=>.bl (decide (j<=i))
abbrev EU:V->Hp->VK->Prop:=rU fun i=>.int (-i)
abbrev zB:F2:=fI0 fun i j=>.int (i - j)
abbrev BK:F2:=fI (fun _ j=>0<j) fun i j=>.int (i % j)
abbrev DW:F2:=fI (fun _ j=>0<j/\j<1073741824) fun i j=>.int (i / j)
abbrev FL:F2:=fI (fun i j=>0<=j/\j<=1000000/\i.natAbs<2^64) fun i j=>.int (i^j.toNat)
abbrev fGt:F2:=fI0 fun i j=>.bl (decide (j<i))
abbrev fGe:F2:=fI0 fun i j=>.bl (decide (j<=i))
def Dm:D->(PV->Prop)->Prop
 | .int i,Q=>Q (.dat (.int (-i)))
 | _,_=>False
section
variable {K:PySem.W.Frag}{X:Cx}{ta:TE}{tr:TA}{pr:PTA}{ts:TS}{ps:PTS}
theorem qE:OpR X (binaryOp .Sub) EO:=Cb
theorem uN:OpR X (binaryOp .Mod) EQ:=Cd
theorem tV:OpR X (binaryOp .FloorDiv) ER:=Ad
theorem EV:OpR X (binaryOp .Pow) ES:=Ce
theorem zC:OpR X (compareOp .Gt) Fx:=Eb
theorem DX:OpR X (compareOp .GtE) ET:=Ec
theorem wS:LU K EU Dm:=by
 intro O H x a Q Q' dom fx q k;unfold Dm at q
 split at q
 .rename_i i;exact⟨i,fx.int,k _ H _ q (Gr.refl _) (.int _)⟩
 .exact q.elim
theorem tW{es:List Expr}{ct:Nat}{tp:Pos}(K:PySem.W.Frag)(e:X.K=K){a:Expr}{ta:TA}{p pos:Pos}(hg:Gl X "enumerate")(hm:X.mg "enumerate"=none)(ha:PA X [a] ta)(hs:starEach [a] X.env=[(false,eval a X.env)]:=by rfl) :
  PI X (.Tuple es ct tp) (.Call (.Name "enumerate" p) [a] [] pos) (AL K ta):=by subst e;exact AM hg hm ha hs
theorem kR{ix:List (Option Nat)}{fs:List Nat}{i:Nat}(h:∀k∈fs,k∈wN ix)(hi:(wN ix).contains i=false):fs.contains i=false:=by
 cases e:fs.contains i with
 | false=>rfl
 | true =>
  have:=h i (contains_iff_mem.mp e);rw [contains_iff_mem.mpr this] at hi;cases hi
theorem fF(t:Value)(b c:Bool)(h1:PySem.W.kitOne K t (.type "list")=some b)(h2:PySem.W.kitOne K t (.type "tuple")=some c):PySem.W.kitAny K t [.type "list",.type "tuple"]=some (b || c):=by
 simp only [PySem.W.kitAny,h1,h2];cases b <;> cases c <;> rfl
def zD(c:FN)(es:List D)(pr:PTA):PTE:=fun ρ Q=>pr ρ fun as ρ1=>match avD as with
 | some ds=>c (ds++es) fun r=>Q r ρ1
 | none=>False
theorem yI{c:FN}{vs0:List V}{ds:List D}(hd:∀{O:Addr->Prop}{H:Hp},FVs K O H vs0 ds)(h:LAs K tr pr):LE K (fc (spP K c) vs0 E0 tr) (zD c ds pr):=fun A ρ σ H Q Q' R q k=>h A ρ σ H _ _ R q fun vs H1 as ρ1 q1 f1 R1 o1=>by
 split at q1
 .rename_i es e;exact⟨OO A ρ1 σ,_,_,R1.dom2,(o1.avD e).append hd,q1,fun r qr v H' g ov=>k v H' r ρ1 qr (f1.trans g.fr) ((ov.out R1 g).h0 f1.dm)⟩
 .exact q1.elim
theorem kS{c:FN}{n:Nat}(hn:∀ds Q,c ds Q->ds.length=n){vs:List V}{H:Hp}{Q:VK}{E:XK}(h:spP K c vs H Q E):vs.length=n:=by
 obtain⟨O,ds,Qc,_,f,hq,_⟩:=h;rw [f.length];exact hn ds Qc hq
theorem rY{c:FR}{n:Nat}(hn:∀p ds Q,c p ds Q->ds.length+1=n){vs:List V}{H:Hp}{Q:VK}{E:XK}(h:spR K c vs H Q E):vs.length=n:=by
 obtain⟨A,a,p,ws,ds,Qc,rfl,_,_,_,_,f,hq,_⟩:=h;rw [length_cons,f.length];exact hn p ds Qc hq
abbrev eB(pp:PTS)(n:Nat)(ds:List D)(Q:PV->Prop):Prop:=pp { nx:=fun _=>Q (.dat .non),rt:=fun p _=>Q p } (cX n (ds.map .dat))
abbrev jj(pp:PTS)(n:Nat)(p:PV)(ds:List D)(Q:PV->PV->Prop):Prop:=pp { nx:=BJ Q (.dat .non),rt:=BJ Q } (cX n (p::ds.map .dat))
end
end L2
namespace L2
theorem Cal.imp{P:PySem.Program}{w:PySem.World}{K:PySem.W.Frag}{mg:PySem.Str->Option PySem.Value}{base:PySem.Heap}{k:Nat}{x:PySem.Str}{ps:List PySem.Str}{sp sp':Sp}(C:Cal P w K mg base k x ps sp)(h:∀vs H Q E,sp' vs H Q E->sp vs H Q E):Cal P w K mg base k x ps sp':=by
 obtain⟨f,fd,F,r⟩:=C.ex;exact⟨f,fd,F.imp h,r⟩
end L2
namespace L2
open PySem PySem.Spec PyProof.Rows
theorem cfm{ix:List (Option Nat)}{ρ1:PSt}{n:Nat}{it:Nat->D}{g:PTG}{pt:PTT}{pe:PTE}{Q:PKt}(T:PSt->Prop)(f:Nat->Option D)(h0:T (bZ ix ρ1))
  (hs:∀k τ d,k<n->d=it k->T τ->∀(K1:D->PSt->Prop) (K2:PSt->Prop),(∀d τ',f k=some d->T τ'->K1 d τ')->(∀τ',f k=none->T τ'->K2 τ')->g (.dat d) τ fun τ2=>pt τ2 fun ok τ3=>ji ok (pe τ3 fun p τ4=>K1 p.d τ4) (K2 τ3))
  (hq:∀τ,T τ->Q (.own ((List.range n).filterMap f)) (fg ix ρ1 τ)) :
  mG ix ρ1 n it g pt pe Q:=by
 refine⟨fun k ys τ=>ys=(List.range k).filterMap f/\T τ,⟨rfl,h0⟩,fun k ys τ dd hk ed ⟨e,t⟩=>?_,fun ys τ ⟨e,t⟩=>by rw [e];exact hq τ t⟩
 have r:(List.range (k+1)).filterMap f=(List.range k).filterMap f++(f k).toList:=by
  rw [range_succ,filterMap_append]
  cases e:f k with
  | none=>rw [show [k].filterMap f=[] by simp [e]];rfl
  | some d=>rw [show [k].filterMap f=[d] by simp [e]];rfl
 refine hs k τ dd hk ed t (fun d τ'=>(ys++[d]=(List.range (k+1)).filterMap f/\T τ')) (fun τ'=>(ys=(List.range (k+1)).filterMap f/\T τ')) (fun d τ' h t'=>⟨?_,t'⟩) (fun τ' h t'=>⟨?_,t'⟩)
 .rw [r,e,h];rfl
 .rw [r,e,h];simp
theorem tX{ix:List (Option Nat)}{ρ1:PSt}{n:Nat}{it:Nat->D}{g:PTG}{pe:PTE}{Q:PKt}(T:PSt->Prop)(f:Nat->D)(h0:T (bZ ix ρ1))
  (hs:∀k τ d,k<n->d=it k->T τ->∀K1:D->PSt->Prop,(∀τ',T τ'->K1 (f k) τ')->g (.dat d) τ fun τ2=>pe τ2 fun p τ4=>K1 p.d τ4)
  (hq:∀τ,T τ->Q (.own ((List.range n).map f)) (fg ix ρ1 τ)) :
  mG ix ρ1 n it g jZ pe Q:=by
 refine cfm T (fun k=>some (f k)) h0 (fun k τ d hk ed t K1 K2 k1 k2=>?_) fun τ t=>?_
 .exact hs k τ d hk ed t K1 fun τ' t'=>k1 _ τ' rfl t'
 .have:(List.range n).filterMap (fun k=>some (f k))=(List.range n).map f:=by rw [<- filterMap_eq_map];rfl
  rw [this];exact hq τ t
theorem jt{β:Type}(f:D->β)(ds:List D):(List.range ds.length).map (fun k=>f (itD ds k))=ds.map f:=by
 apply ext_getElem?;intro i;rw [getElem?_map,getElem?_map]
 by_cases h:i<ds.length
 .rw [getElem?_range h,wK h];rfl
 .rw [getElem?_eq_none (by rw [length_range];omega),getElem?_eq_none (by omega)];rfl
theorem rZ{β:Type}(f:Nat->β)(l:List Nat):(List.range l.length).map (fun k=>f (l.getD k 0))=l.map f:=by
 apply ext_getElem?;intro i;rw [getElem?_map,getElem?_map]
 by_cases h:i<l.length
 .rw [getElem?_range h];show some (f (l.getD i 0))=_;rw [getD_eq_getElem?_getD,getElem?_eq_getElem h];rfl
 .rw [getElem?_eq_none (by rw [length_range];omega),getElem?_eq_none (by omega)];rfl
def pw(ws:List (List Nat))(k:Nat):List Nat:=ws.getD k []
theorem gO{ws:List (List Nat)}{k:Nat}(h:k<ws.length):ws[k]?=some (pw ws k):=by unfold pw;rw [getD_eq_getElem?_getD,getElem?_eq_getElem h];rfl
theorem hX{ws:List (List Nat)}{k:Nat}(h:k<ws.length):pw ws k∈ws:=mem_of_getElem? (gO h)
theorem j1{ws:List (List Nat)}{k:Nat}(h:k<(ws.map D.str).length):itD (ws.map D.str) k=.str (pw ws k):=nv (by rw [getElem?_map,gO (by rwa [length_map] at h)];rfl)
theorem wT{ns:List Int}{k:Nat}(h:k<(ns.map D.int).length):itD (ns.map D.int) k=.int (ns.getD k 0):=nv (by
 have h:k<ns.length:=by rwa [length_map] at h
 rw [getElem?_map,getD_eq_getElem?_getD,getElem?_eq_getElem h];rfl)
theorem dD{ws:List (List Nat)}{i:Int}{k:Nat}(h:k<ws.length)(e:i=(k:Int)):atI (ws.map D.str) i=some (.str (pw ws k)):=fL (j:=k) (by rw [getElem?_map,gO h];rfl) e
def Pc(m:Nat)(w:List Nat):Prop:=0<w.length/\w.length<=m/\Lts w
def Pcs(m:Nat)(ws:List (List Nat)):Prop:=∀w∈ws,Pc m w
def ltB(c:Nat):Bool:=decide (97<=c) && decide (c<=122)
def yJ:D->Int->Int->Bool
 | .str l,a,b=>(decide (a<=(l.length:Int)) && decide ((l.length:Int)<=b)) && l.all ltB
 | _,_,_=>false
theorem oJ(l:List Nat)(a b:Int):yJ (.str l) a b=((decide (a<=(l.length:Int)) && decide ((l.length:Int)<=b)) && l.all ltB):=rfl
def EW:D->Nat
 | .str l=>l.length
 | _=>0
theorem A5{l:List Nat}:l.all ltB=true ↔ Lts l:=by
 rw [all_eq_true];unfold Lts ltB
 constructor
 .intro h c hc;have:=h c hc;rw [and_eq_true,decide_eq_true_eq,decide_eq_true_eq] at this;exact this
 .intro h c hc;rw [and_eq_true,decide_eq_true_eq,decide_eq_true_eq];exact h c hc
theorem wU{w:List Nat}:yJ (.str w) 1 60=true ↔ Pc 60 w:=by
 unfold yJ Pc;rw [and_eq_true,and_eq_true,decide_eq_true_eq,decide_eq_true_eq,A5]
 constructor
 .rintro⟨⟨h1,h2⟩,h3⟩;exact⟨by omega,by omega,h3⟩
 .rintro⟨h1,h2,h3⟩;exact⟨⟨by omega,by omega⟩,h3⟩
theorem kx(ls:List Nat):(ls.map fun c=>[c]).flatten=ls:=by
 induction ls with
 | nil=>rfl
 | cons c r ih=>rw [map_cons,flatten_cons,ih];rfl
theorem yK(ls:List Nat):ls.map (fun c=>D.str [c])=(ls.map fun c=>[c]).map D.str:=by rw [map_map];rfl
theorem r8(i j:Nat):(!decide (([j]:List Nat)<[i]))=decide (i<=j):=by
 by_cases h:i<=j
 .rw [decide_eq_true h]
  have:¬ ([j]:List Nat)<[i]:=by
   rw [cons_lt_cons_iff]
   rintro (z|⟨_,z⟩)
   .omega
   .exact absurd z (List.lt_irrefl _)
  rw [decide_eq_false this];rfl
 .rw [decide_eq_false h]
  have:([j]:List Nat)<[i]:=by
   rw [cons_lt_cons_iff];exact .inl (by omega)
  rw [decide_eq_true this];rfl
theorem wV:∀ws:List (List Nat),D.pys (ws.map .str)=ws.map fun w=>PyData.str (S w)
 | []=>rfl
 | w::r=>by rw [map_cons,map_cons,<- wV r];rfl
theorem nA:∀ws:List (List Nat),D.plains (ws.map .str)=true
 | []=>rfl
 | w::r=>by rw [map_cons];show (true && D.plains (r.map .str))=true;rw [nA r];rfl
theorem lM:∀ns:List Int,D.pys (ns.map .int)=ns.map PyData.int
 | []=>rfl
 | n::r=>by rw [map_cons,map_cons,<- lM r];rfl
theorem j2:∀ns:List Int,D.plains (ns.map .int)=true
 | []=>rfl
 | n::r=>by rw [map_cons];show (true && D.plains (r.map .int))=true;rw [j2 r];rfl
def Sh(d:D):Prop:=d.plain=true/\SeqAt.shaped d.py=true
theorem uJ.of{a b:D}(h:Sh a)(h':Sh b):uJ a b:=⟨h.1,h'.1,h.2,h'.2⟩
theorem Sh.tupS{ws:List (List Nat)}(h:∀w∈ws,Lts w):Sh (.tup (ws.map .str)):=⟨nA ws,by show SeqAt.shaped (.tuple (D.pys _))=true;rw [wV];exact (lh.tuple (uH h)).shaped (by decide)⟩
theorem Sh.lstI(ns:List Int):Sh (.lst (ns.map .int)):=⟨j2 ns,by show SeqAt.shaped (.list (D.pys _))=true;rw [lM];exact (lh.list (qu ns)).shaped (by decide)⟩
theorem Sh.tupI(ns:List Int):Sh (.tup (ns.map .int)):=⟨j2 ns,by show SeqAt.shaped (.tuple (D.pys _))=true;rw [lM];exact (lh.tuple (qu ns)).shaped (by decide)⟩
theorem oK{d:D}(h:Sh d):deq d d=true:=yt h.2
theorem oM{α:Type}(c:α)(n:Nat):pW [c] (n:Int)=List.replicate n c:=by
 unfold pW;rw [toNat_natCast]
 induction n with
 | zero=>rfl
 | succ n ih=>rw [replicate_succ,flatten_cons,ih];rfl
def mH(sep:List Nat):List (List Nat)->List Nat
 | []=>[]
 | [w]=>w
 | w::v::r=>w++sep++mH sep (v::r)
theorem wW(sep:List Nat):∀ws:List (List Nat),PySem.Str.join (S sep) (ws.map S)=S (mH sep ws)
 | []=>rfl
 | [w]=>rfl
 | w::v::r=>by
  show S w++S sep++PySem.Str.join (S sep) ((v::r).map S)=S (w++sep++mH sep (v::r));rw [wW sep (v::r),Aw,Aw]
theorem qF(sep:List Nat):∀ws:List (List Nat),(mH sep ws).length<=ws.flatten.length+ws.length*sep.length
 | []=>zero_le _
 | [w]=>by show w.length<=_;rw [flatten_cons,flatten_nil,append_nil];omega
 | w::v::r=>by
  have ih:=qF sep (v::r);show (w++sep++mH sep (v::r)).length<=_;rw [flatten_cons,length_append,length_append,length_append];rw [length_cons (as:=v::r),succ_mul];omega
section
variable {K:PySem.W.Frag}{X:Cx}
def zE(K:PySem.W.Frag):V->List V->Hp->VK->Prop:=fun x xs H Q=>∃(p:Addr) (sep:List Nat) (ws:List (List Nat)),x=.str (S sep)/\xs=[.ref p]/\SqL K H p (ws.map tx)/\ws.flatten.length+ws.length*sep.length<=1000000/\Q (.str (S (mH sep ws))) H
theorem yL(K:PySem.W.Frag)(e:X.K=K):MtR X "str.join" (zE K):=by
 subst e;intro pins s σ H x xs v us Q I rx rs h;obtain⟨p,sep,ws,rfl,rfl,hS,hz,q⟩:=h;obtain⟨t,rfl⟩:=rx;obtain⟨u,rfl,ru⟩:=jm rs;cases (show u=Value.ref p from ru);obtain⟨its,rv,pl,_⟩:=I.list hS
 refine join_list pl.isList (by simpa using wD rv) ?_ fun t' k=>?_
 .rw [map_map,gT]
  have e1:(ws.map ((fun y:Str=>y.length) ∘ S)).sum=ws.flatten.length:=by
   rw [length_flatten];exact congrArg List.sum (map_congr_left fun w _=>gT w)
  rw [e1];simp only [length_map];omega
 .refine⟨.str (S (mH sep ws)),H,I.tok _,⟨t',?_⟩,q⟩;rw [<- wW];exact congrArg (fun z=>Value.str z t') (StrLaws.glued_eq_join _ _)
def wX:FM
 | [],[.lst ds],Q=>∃ws:List (List Nat),ds=ws.map .str/\ws.flatten.length<=1000000/\Q (.dat (.str ws.flatten))
 | c::sep,[.lst ds],Q=>∃ws:List (List Nat),ds=ws.map .str/\ws.flatten.length+ws.length*(c::sep).length<=1000000/\Q (.dat (.str (mH (c::sep) ws)))
 | _,_,_=>False
theorem qG:∀ws:List (List Nat),mH [] ws=ws.flatten
 | []=>rfl
 | [w]=>by show w=w++[];rw [append_nil]
 | w::v::r=>by show w++[]++mH [] (v::r)=_;rw [qG (v::r),append_nil];rfl
theorem yM:LM K (zE K) wX:=by
 intro O H l xs as Q Q' dom hl fs q k;unfold wX at q
 split at q
 .obtain⟨ws,rfl,hw,q⟩:=q
  cases fs with
  | cons a b =>
   cases b;obtain⟨p,ys,rfl,e1,f1⟩:=a.lst;rw [f1.strs] at e1;refine⟨p,[],ws,rfl,rfl,SqL.of e1,by rw [length_nil,mul_zero];exact hw,?_⟩;rw [qG];exact k _ H _ q (Gr.refl _) (.str _ hw)
 .obtain⟨ws,rfl,hw,q⟩:=q
  cases fs with
  | cons a b =>
   cases b;obtain⟨p,ys,rfl,e1,f1⟩:=a.lst;rw [f1.strs] at e1;exact⟨p,_,ws,rfl,rfl,SqL.of e1,hw,k _ H _ q (Gr.refl _) (.str _ (le_trans (qF _ _) hw))⟩
 .exact q.elim
end
section
variable {X:Cx}{K:PySem.W.Frag}
def A6:PTE:=fun ρ Q=>Q (.dat (.dic [] [])) ρ
theorem wY:LE K zt A6:=fun A ρ σ H Q Q' R q k=>fun p hp =>
 k _ _ (.dat (.dic [] [])) ρ q (Fr.new hp) ⟨R.grow hp,.dic (R.oo hp) aJ rfl .nil⟩
def wZ(neg:Bool):R2:=fun x y H Q=>∃a b,x=.ref a/\y=.ref b/\H a=some (.dK [])/\H b=some (.dK [])/\Q (.bl (!neg)) H
theorem yN(hu:X.A.units+64<cLine):OpR X (compareOp .Eq) (wZ false):=by
 intro pins s σ H x y v u Q I rx ry ⟨a,b,e1,e2,h1,h2,q⟩;subst e1 e2;cases rx;cases ry;obtain⟨_,y1,vs,r1,p1⟩:=(show cJ X.prog X.w H s.heap a (.dK []) from I.hok a _ h1)
 obtain⟨_,y2,ws,r2,p2⟩:=(show cJ X.prog X.w H s.heap b (.dK []) from I.hok b _ h2)
 cases r1;cases r2;exact PySem.W.keq_eq (r:=true) y1 y2 p1 p2 (by omega) (fun _=>.nil) ⟨.bl true,H,I,rfl,q⟩
theorem yO(hu:X.A.units+64<cLine):OpR X (compareOp .NotEq) (wZ true):=by
 intro pins s σ H x y v u Q I rx ry ⟨a,b,e1,e2,h1,h2,q⟩;subst e1 e2;cases rx;cases ry;obtain⟨_,y1,vs,r1,p1⟩:=(show cJ X.prog X.w H s.heap a (.dK []) from I.hok a _ h1)
 obtain⟨_,y2,ws,r2,p2⟩:=(show cJ X.prog X.w H s.heap b (.dK []) from I.hok b _ h2)
 cases r1;cases r2;exact PySem.W.keq_ne (r:=true) y1 y2 p1 p2 (by omega) (fun _=>.nil) ⟨.bl false,H,I,rfl,q⟩
def w4(K:PySem.W.Frag)(neg:Bool):R2:=fun x y H Q=>C1 K neg x y H Q\/wZ neg x y H Q
theorem gj(K:PySem.W.Frag)(e:X.K=K)(hu:X.A.units+64<cLine):OpR X (compareOp .Eq) (w4 K false):=OpR.or (FI K e hu) (yN hu)
theorem oN(K:PySem.W.Frag)(e:X.K=K)(hu:X.A.units+64<cLine):OpR X (compareOp .NotEq) (w4 K true):=OpR.or (FJ K e hu) (yO hu)
def mI:F2
 | .dic [] [],.dic [] [],Q=>Q (.dat (.bl true))
 | a,b,Q=>fEq a b Q
def xa:F2
 | .dic [] [],.dic [] [],Q=>Q (.dat (.bl false))
 | a,b,Q=>fNe a b Q
theorem FVc.dic0{O:Addr->Prop}{H:Hp}{v:V}(h:FVc K O H v (.dic [] [])):∃a,v=.ref a/\H a=some (.dK []):=by
 cases h.fv nofun nofun with
 | dic n e m f =>
  rename_i a kvs
  cases kvs with
  | nil=>exact⟨a,rfl,e⟩
  | cons x r=>cases m
theorem dE:LO K (w4 K false) mI:=by
 intro O H x y a b Q Q' dom fx fy q k;unfold mI at q
 split at q
 .obtain⟨a,rfl,e1⟩:=fx.dic0;obtain⟨b,rfl,e2⟩:=fy.dic0;exact .inr ⟨a,b,rfl,rfl,e1,e2,k _ H _ q (Gr.refl _) (.bl _)⟩
 .exact .inl (EC O H x y _ _ Q Q' dom fx fy q k)
theorem ju:LO K (w4 K true) xa:=by
 intro O H x y a b Q Q' dom fx fy q k;unfold xa at q
 split at q
 .obtain⟨a,rfl,e1⟩:=fx.dic0;obtain⟨b,rfl,e2⟩:=fy.dic0;exact .inr ⟨a,b,rfl,rfl,e1,e2,k _ H _ q (Gr.refl _) (.bl _)⟩
 .exact .inl (ED O H x y _ _ Q Q' dom fx fy q k)
end
theorem xb:∀ds:List D,D.pys ds=ds.map D.py
 | []=>rfl
 | d::r=>by rw [map_cons,<- xb r];rfl
theorem nB:∀ds:List D,D.plains ds=ds.all D.plain
 | []=>rfl
 | d::r=>by rw [all_cons,<- nB r];rfl
def Fl(n:Nat)(d:D):Prop:=d.plain=true/\lh n d.py
theorem Fl.sh{n:Nat}{d:D}(h:Fl n d)(hn:n<=64):Sh d:=⟨h.1,h.2.shaped hn⟩
theorem Fl.mono{n m:Nat}{d:D}(h:Fl n d)(hn:n<=m):Fl m d:=⟨h.1,h.2.1,le_trans h.2.2 hn⟩
theorem Fl.int{n:Nat}(i:Int):Fl n (.int i):=(show Fl 0 (.int i) from ⟨rfl,lh.int i⟩).mono (zero_le _)
theorem Fl.lst{n:Nat}{ds:List D}(h:∀d∈ds,Fl n d):Fl (n+1) (.lst ds):=by
 refine⟨?_,?_⟩
 .show D.plains ds=true;rw [nB,all_eq_true];exact fun d hd=>(h d hd).1
 .show lh (n+1) (.list (D.pys ds));rw [xb];refine lh.list fun d hd=>?_;obtain⟨x,hx,rfl⟩:=mem_map.mp hd;exact (h x hx).2
theorem Fl.ints{n:Nat}(zs:List Int):∀d∈zs.map D.int,Fl n d:=fun d hd=>by
 obtain⟨i,_,rfl⟩:=mem_map.mp hd;exact Fl.int i
def dI:D->Bool
 | .int _=>true
 | _=>false
def xc:D->Bool
 | .lst _=>true
 | .tup _=>true
 | _=>false
def aB:D->List D
 | .lst ds=>ds
 | .tup ds=>ds
 | _=>[]
def toI:D->Int
 | .int i=>i
 | _=>0
def cF(d:D)(m:Int):Bool:=xc d && (decide (((aB d).length:Int)=m) && (aB d).all dI)
def Srt(d:D):Prop:=d.sort=true/\∀x∈aB d,x.sort=true
theorem sd:∀{ds:List D},ds.all dI=true->ds=(ds.map toI).map D.int
 | [],_=>rfl
 | d::r,h=>by
  rw [all_cons,and_eq_true] at h;rw [map_cons,map_cons,<- sd h.2];cases d <;> first|rfl|cases h.1
theorem dM{ds:List D}{k:Nat}(h:k<ds.length):itD ds k∈ds:=mem_of_getElem? (wK h)
abbrev SIt(h:Heap)(a:Addr)(x:Str)(t:Tok)(i:Nat):Prop:=h.IsStrIter a (strIterType x) x t i
theorem SIt.mv{h h':Heap}{a:Addr}{x:Str}{t:Tok}{i:Nat}(W:SIt h a x t i)(k:∀o,h.get? a=some o->h'.get? a=some o):SIt h' a x t i:=let ⟨o,ho,r⟩:=W;⟨o,k o ho,r⟩
section
variable {P:Program}{w:World}{A:Around}{E:Value->Shared->Prop}{s:Shared}{z U V i j:Addr}{n:Nat}{x y:Str}{t t':Tok}{cx cy:Nat}{u v:Value}
theorem hZ{Q:Value->Shared->Prop}(W:SIt s.heap i x t n)(hx:x.cps[n]?=some cx)(hQ:∀h',SIt h' i x t (n+1)->Heap.SameBut i s.heap h'->Q (.str ⟨#[cx]⟩ s.toks) { s with heap:=h',toks:=s.toks+1 }) :
  wpAny (model P w) A (Builtin.SmallTypes.nextOf (.ref i)) Q E s:=by
 unfold SIt strIterType at W hQ
 cases ha:x.cps.all (·<128)
 .simp only [ha,false_eq_true,if_false] at W hQ;exact wpAny_nextOf_wide_item W hx hQ
 .simp only [ha,if_true] at W hQ;exact wpAny_nextOf_ascii_item W hx hQ
theorem lN{Q:Value->Shared->Prop}(hh:A.handled=none)(W:SIt s.heap i x t n)(hx:x.cps[n]?=none)
  (hE:∀h' e,Heap.ExtBut i s.heap h'->(∃o,h'.get? e=some o/\o.cls=.type "StopIteration")->E (.ref e) { s with heap:=h' }) :
  wpAny (model P w) A (Builtin.SmallTypes.nextOf (.ref i)) Q E s:=by
 unfold SIt strIterType at W
 cases ha:x.cps.all (·<128)
 .simp only [ha,false_eq_true,if_false] at W;exact wpAny_nextOf_wide_end hh W hx hE
 .simp only [ha,if_true] at W;exact wpAny_nextOf_ascii_end hh W hx hE
theorem A7{Q:Value->Shared->Prop}(D:ZA z U V i j)(hz:IsZip s.heap z U V .none)(hU:IsPair s.heap U (.ref i) (.ref j))(hV:IsPair s.heap V u v)
  (W1:SIt s.heap i x t n) (W2:SIt s.heap j y t' n) (hx:x.cps[n]?=some cx) (hy:y.cps[n]?=some cy)
  (hQ:∀h',IsZip h' z U V (rawInt s.heap.objs.size)->IsPair h' V (.str ⟨#[cx]⟩ s.toks) (.str ⟨#[cy]⟩ (s.toks+1))->SIt h' i x t (n+1)->SIt h' j y t' (n+1)->IsPair h' s.heap.objs.size (.str ⟨#[cx]⟩ s.toks) (.str ⟨#[cy]⟩ (s.toks+1))->h'.objs.size=s.heap.objs.size+1 ->
   (∀b o,b≠z->b≠V->b≠i->b≠j->s.heap.get? b=some o->h'.get? b=some o)->Q (.ref s.heap.objs.size) { s with heap:=h',toks:=s.toks+1+1 }) :
  wpAny (model P w) A (Builtin.«zip.__next__» ⟨[.ref z],[]⟩) (fun f s'=>∃r,f=.done (.ret r)/\Q r s') E s:=by
 refine wpAny_bind (m:=field (.ref z) 2) (wpAny_field hz rfl (x:=.bool false) rfl (wpAny_bind (m:=field (.ref z) 3) (wpAny_field hz rfl (x:=.ref U) rfl (wpAny_bind (wpAny_seqItems hU rfl ?_)))));refine wpAny_bind (m:=Builtin.SmallTypes.ownedTupleIsFree (.ref z)) ?_;unfold Builtin.SmallTypes.ownedTupleIsFree;refine wpAny_bind (wpAny_field hz rfl (x:=.none) rfl (wpAny_pure ?_));simp only [if_true];refine wpAny_bind (wpAny_rule (wpAny_bind (wpAny_field hz rfl (x:=.ref V) rfl (wpAny_bind (wpAny_setField_rec hz (by simp) fun g1 z1 b1=>wpAny_bind ?_)))))
 replace z1:IsZip g1 z U V .ellipsis:=z1
 simp only [zipIdx_cons,zipIdx_nil,forIn_cons,forIn_nil];have e1:=b1.extBut;refine wpAny_bind (wpAny_bind (wpAny_onRaise (wpAny_bind (m:=Builtin.SmallTypes.nextOf (.ref i)) (hZ (W1.mv fun o e=>e1 _ o D.iz e) hx fun g2 w1 b2=>wpAny_pure ?_))));have e2:=b2.extBut;have v2:IsPair g2 V u v:=e2 _ _ D.Vi (e1 _ _ D.Vz hV);refine wpAny_bind (wpAny_seqItems v2 rfl (wpAny_bind (wpAny_updateSeq_pair v2 fun g3 v3 b3=>wpAny_bind (wpAny_letGo (wpAny_pure ?_)))))
 replace v3:IsPair g3 V (.str ⟨#[cx]⟩ s.toks) v:=v3
 have e3:=b3.extBut;refine wpAny_bind (wpAny_bind (wpAny_onRaise (wpAny_bind (m:=Builtin.SmallTypes.nextOf (.ref j)) (hZ (W2.mv fun o e=>e3 _ o D.Vj.symm (e2 _ o D.ij.symm (e1 _ o D.jz e))) hy fun g4 w2 b4=>wpAny_pure ?_))));have e4:=b4.extBut;have v4:IsPair g4 V (.str ⟨#[cx]⟩ s.toks) v:=e4 _ _ D.Vj v3;refine wpAny_bind (wpAny_seqItems v4 rfl (wpAny_bind (wpAny_updateSeq_pair v4 fun g5 v5 b5=>wpAny_bind (wpAny_letGo (wpAny_pure (wpAny_pure ?_))))))
 replace v5:IsPair g5 V (.str ⟨#[cx]⟩ s.toks) (.str ⟨#[cy]⟩ (s.toks+1)):=v5
 have e5:=b5.extBut;refine wpAny_bind (wpAny_seqItems v5 rfl (wpAny_bind (wpAny_newTuple ?_)));have sz:g5.objs.size=s.heap.objs.size:=by rw [b5.1,b4.1,b3.1,b2.1,b1.1]
 have z5:IsZip g5 z U V .ellipsis:=e5 _ _ D.Vz.symm (e4 _ _ D.jz.symm (e3 _ _ D.Vz.symm (e2 _ _ D.iz.symm z1)));have k5:∀b o,b≠z->b≠V->b≠i->b≠j->s.heap.get? b=some o->g5.get? b=some o:=fun b o q1 q2 q3 q4 e=>e5 _ _ q2 (e4 _ _ q4 (e3 _ _ q2 (e2 _ _ q3 (e1 _ _ q1 e))));have w15:SIt g5 i x t (n+1):=w1.mv fun o e=>e5 _ o D.Vi.symm (e4 _ o D.ij (e3 _ o D.Vi.symm e));have w25:SIt g5 j y t' (n+1):=w2.mv fun o e=>e5 _ o D.Vj.symm e
 have zlt:z<g5.objs.size:=Heap.lt_size z5;refine wpAny_bind (m:=Builtin.SmallTypes.ownedTupleHandOut (.ref z) (.ref g5.objs.size)) ?_;unfold Builtin.SmallTypes.ownedTupleHandOut;have z6:IsZip (g5.push { cls:=.type "tuple",data:=.seq #[(.str ⟨#[cx]⟩ s.toks),(.str ⟨#[cy]⟩ (s.toks+1))] }) z U V .ellipsis:=Heap.get?_push_of_some _ z5;refine wpAny_bind (wpAny_setField_rec z6 (by simp) fun g7 z7 b7=>?_)
 replace z7:IsZip g7 z U V (rawInt g5.objs.size):=z7
 refine wpAny_setField_rec z7 (by simp) fun g8 z8 b8=>?_
 replace z8:IsZip g8 z U V (rawInt g5.objs.size):=z8
 have up:∀b o,b≠z->g5.get? b=some o->g8.get? b=some o:=fun b o q e=>b8.extBut _ _ q (b7.extBut _ _ q (Heap.get?_push_of_some _ e));have t8:IsPair g8 g5.objs.size (.str ⟨#[cx]⟩ s.toks) (.str ⟨#[cy]⟩ (s.toks+1)):=b8.extBut _ _ (ne_of_gt zlt) (b7.extBut _ _ (ne_of_gt zlt) (Heap.get?_push_size _ rfl));have s8:g8.objs.size=g5.objs.size+1:=by rw [b8.1,b7.1,Heap.size_push]
 rw [sz] at z8 t8 s8;refine wpAny_pure ⟨_,rfl,?_⟩;show Q (.ref g5.objs.size) _;rw [sz];exact hQ g8 z8 (up _ _ D.Vz v5) (w15.mv fun o e=>up _ o D.iz e) (w25.mv fun o e=>up _ o D.jz e) t8 s8 fun b o q1 q2 q3 q4 e=>up b o q1 (k5 b o q1 q2 q3 q4 e)
theorem Dn{Q:Fin->Shared->Prop}(hh:A.handled=none)(D:ZA z U V i j)(hz:IsZip s.heap z U V .none)(hU:IsPair s.heap U (.ref i) (.ref j))(hV:IsPair s.heap V u v)
  (W1:SIt s.heap i x t n) (W2:SIt s.heap j y t' n) (hend:x.cps[n]?=none\/y.cps[n]?=none)
  (hE:∀h' tk e,(∀b o,b≠z->b≠V->b≠i->b≠j->s.heap.get? b=some o->h'.get? b=some o)->(∃o,h'.get? e=some o/\o.cls=.type "StopIteration")->E (.ref e) { s with heap:=h',toks:=tk }) :
  wpAny (model P w) A (Builtin.«zip.__next__» ⟨[.ref z],[]⟩) Q E s:=by
 refine wpAny_bind (m:=field (.ref z) 2) (wpAny_field hz rfl (x:=.bool false) rfl (wpAny_bind (m:=field (.ref z) 3) (wpAny_field hz rfl (x:=.ref U) rfl (wpAny_bind (wpAny_seqItems hU rfl ?_)))));refine wpAny_bind (m:=Builtin.SmallTypes.ownedTupleIsFree (.ref z)) ?_;unfold Builtin.SmallTypes.ownedTupleIsFree;refine wpAny_bind (wpAny_field hz rfl (x:=.none) rfl (wpAny_pure ?_));simp only [if_true];refine wpAny_bind (wpAny_rule (wpAny_bind (wpAny_field hz rfl (x:=.ref V) rfl (wpAny_bind (wpAny_setField_rec hz (by simp) fun g1 z1 b1=>wpAny_bind ?_)))))
 replace z1:IsZip g1 z U V .ellipsis:=z1
 simp only [zipIdx_cons,zipIdx_nil,forIn_cons,forIn_nil];have e1:=b1.extBut
 cases hx:x.cps[n]? with
 | none =>
  refine wpAny_bind (wpAny_bind (wpAny_onRaise (wpAny_bind (m:=Builtin.SmallTypes.nextOf (.ref i)) (lN hh (W1.mv fun o e=>e1 _ o D.iz e) hx fun g2 e b2 he=>?_))));obtain⟨oe,ge,ce⟩:=he;have z2:IsZip g2 z U V .ellipsis:=b2 _ _ D.iz.symm z1;have ez:e≠z:=fun q=>by subst q;rw [z2] at ge;cases ge;simp at ce
  exact wpAny_setField_rec z2 (by simp) fun g3 _ b3=>hE g3 _ e (fun b o q1 _ q3 _ q=>b3.extBut _ _ q1 (b2 _ _ q3 (e1 _ _ q1 q))) ⟨oe,b3.extBut _ _ ez ge,ce⟩
 | some cx =>
  have hy:y.cps[n]?=none:=by
   rcases hend with q|q
   .rw [hx] at q;cases q
   .exact q
  refine wpAny_bind (wpAny_bind (wpAny_onRaise (wpAny_bind (m:=Builtin.SmallTypes.nextOf (.ref i)) (hZ (W1.mv fun o e=>e1 _ o D.iz e) hx fun g2 w1 b2=>wpAny_pure ?_))));have e2:=b2.extBut;have v2:IsPair g2 V u v:=e2 _ _ D.Vi (e1 _ _ D.Vz hV);refine wpAny_bind (wpAny_seqItems v2 rfl (wpAny_bind (wpAny_updateSeq_pair v2 fun g3 v3 b3=>wpAny_bind (wpAny_letGo (wpAny_pure ?_)))));have e3:=b3.extBut;refine wpAny_bind (wpAny_bind (wpAny_onRaise (wpAny_bind (m:=Builtin.SmallTypes.nextOf (.ref j)) (lN hh (W2.mv fun o e=>e3 _ o D.Vj.symm (e2 _ o D.ij.symm (e1 _ o D.jz e))) hy fun g4 e b4 he=>?_))))
  obtain⟨oe,ge,ce⟩:=he;have z4:IsZip g4 z U V .ellipsis:=b4 _ _ D.jz.symm (e3 _ _ D.Vz.symm (e2 _ _ D.iz.symm z1));have ez:e≠z:=fun q=>by subst q;rw [z4] at ge;cases ge;simp at ce
  exact wpAny_setField_rec z4 (by simp) fun g5 _ b5=>hE g5 _ e (fun b o q1 q2 q3 q4 q=>b5.extBut _ _ q1 (b4 _ _ q4 (e3 _ _ q2 (e2 _ _ q3 (e1 _ _ q1 q))))) ⟨oe,b5.extBut _ _ ez ge,ce⟩
end
def EX(xs ys:List V):It :=
  ⟨fun i H=>∃x y,xs[i]?=some x/\ys[i]?=some y,
   fun i H p H'=>∃T x y,H T=none/\p=.ref T/\xs[i]?=some x/\ys[i]?=some y/\H'=upd H T (.tup [x,y]),
   fun i H=>xs.length<=i\/ys.length<=i⟩
theorem xf{P:Program}{w:World}{K:PySem.W.Frag}{es:List Expr}{ct:Nat}{tp:Pos}{z U V i j:Addr}{la lb:List Nat}{t t':Tok}(D:ZA z U V i j) :
  zl P w K (.Tuple es ct tp) (EX (cY la) (cY lb)) [z,U,V,i,j] z (fun n h=>IsZip h z U V .none/\IsPair h U (.ref i) (.ref j)/\(∃u v,IsPair h V u v)/\SIt h i (S la) t n/\SIt h j (S lb) t' n) where
 mem:=by simp
 obj:=fun n h st b hb=>by
  obtain⟨hz,hU,⟨u,v,hV⟩,⟨o1,g1,c1,d1⟩,⟨o2,g2,c2,d2⟩⟩:=st;simp only [mem_cons,not_mem_nil,or_false] at hb
  rcases hb with rfl|rfl|rfl|rfl|rfl
  .exact⟨_,hz,fun v q=>by cases q⟩
  .exact⟨_,hU,fun v q=>by cases q⟩
  .exact⟨_,hV,fun v q=>by cases q⟩
  .exact⟨_,g1,fun v q=>by rw [d1] at q;cases q⟩
  .exact⟨_,g2,fun v q=>by rw [d2] at q;cases q⟩
 keep:=fun n h h' st kk=>by
  obtain⟨hz,hU,⟨u,v,hV⟩,w1,w2⟩:=st;exact⟨kk z (by simp) _ hz,kk U (by simp) _ hU,⟨u,v,kk V (by simp) _ hV⟩,w1.mv fun o e=>kk i (by simp) o e,w2.mv fun o e=>kk j (by simp) o e⟩
 item:=by
  intro X hP hw hK hc n pins s σ H E I hf st hg;subst hP hw hK;obtain⟨x,y,hx,hy⟩:=hg;obtain⟨hz,hU,⟨u,v,hV⟩,w1,w2⟩:=st;obtain⟨cx,hcx,rfl⟩:=fK hx;obtain⟨cy,hcy,rfl⟩:=fK hy;have hT:s.TypeIs (.ref z) "zip":=⟨_,hz,rfl⟩
  unfold pyNext
  refine wpAny_bind (wpAny_attempt (wpAny_callSpecial?_slot (name:=Str.ofString "__next__") hT F.slot_zip_next (wpAny_call_entry F.slot_zip_next hT F.entry_zip_next
   (A7 (cx:=cx) (cy:=cy) D hz hU hV w1 w2 (by simpa [S] using hcx) (by simpa [S] using hcy) fun h' a1 a2 a3 a4 a5 a6 a7=>wpAny_pure ?_) (F.args_zip_next_1 _))))
  refine⟨_,rfl,wpAny_letOwnedTupleGo_zip a1 fun g gz gs=>?_⟩;have lt:∀{b o},s.heap.get? b=some o->s.heap.objs.size≠b:=fun e=>ne_of_gt (Heap.lt_size e)
  have kp:∀b o,b∉[z,V,i,j]->s.heap.get? b=some o->g.get? b=some o:=fun b o hb e=>by
   simp only [mem_cons,not_mem_nil,or_false,not_or] at hb;exact gs.extBut _ _ hb.1 (a7 b o hb.1 hb.2.1 hb.2.2.1 hb.2.2.2 e)
  have I2:Inv X pins σ (upd H s.heap.objs.size (.tup [.str (S [cx]),.str (S [cy])])) { s with heap:=g,toks:=s.toks+1+1 }:=I.yielded (ch:=[z,V,i,j]) (fun b hb=>hf b (by
   simp only [mem_cons,not_mem_nil,or_false] at hb ⊢;rcases hb with q|q|q|q <;> simp [q])) (Nat.le_refl _) kp ⟨by show 2<=sizeLine;decide,[.str ⟨#[cx]⟩ s.toks,.str ⟨#[cy]⟩ (s.toks+1)],.cons ⟨_,rfl⟩ (.cons ⟨_,rfl⟩ .nil),_,gs.extBut _ _ (lt hz) a5,rfl,_,rfl⟩
  refine⟨.ref s.heap.objs.size,_,I2,rfl,⟨_,_,_,I.hok.fresh (Nat.le_refl _),rfl,hx,hy,rfl⟩,
   ⟨gz,gs.extBut _ _ D.Uz (a7 _ _ D.Uz D.UV D.Ui D.Uj hU),⟨_,_,gs.extBut _ _ D.Vz a2⟩,a3.mv fun o e=>gs.extBut _ o D.iz e,a4.mv fun o e=>gs.extBut _ o D.jz e⟩,fun b hb=>?_⟩
  rw [aE ?_]
  .exact (hf b hb).1
  .intro q;subst q;simp only [mem_cons,not_mem_nil,or_false] at hb;obtain⟨o1,g1,_⟩:=w1;obtain⟨o2,g2,_⟩:=w2
   rcases hb with q|q|q|q|q
   .exact lt hz q
   .exact lt hU q
   .exact lt hV q
   .exact lt g1 q
   .exact lt g2 q
 done:=by
  intro X hP hw hK hc n pins s σ H E I hf st hg;subst hP hw hK;have hend:(cY la).length<=n\/(cY lb).length<=n:=hg;obtain⟨hz,hU,⟨u,v,hV⟩,w1,w2⟩:=st;rw [c8,c8] at hend;have hT:s.TypeIs (.ref z) "zip":=⟨_,hz,rfl⟩
  unfold pyNext
  refine wpAny_bind (wpAny_attempt (wpAny_callSpecial?_slot (name:=Str.ofString "__next__") hT F.slot_zip_next (wpAny_call_entry F.slot_zip_next hT F.entry_zip_next
   (Dn (I.ok.hd hc) D hz hU hV w1 w2 ?_ fun h' tk e hk he=>?_) (F.args_zip_next_1 _))))
  .rcases hend with q|q
   .exact .inl (by simp [S];omega)
   .exact .inr (by simp [S];omega)
  .obtain⟨o,ho,hcl⟩:=he;refine wpAny_bind (wpAny_isInstance (T:="StopIteration") (b:=true) ⟨o,ho,hcl⟩ isSubtype_stop (wpAny_pure ⟨rfl,?_⟩))
   exact I.step (g':=s.gens) (d':=s.drawn) (t':=tk) (ch:=[z,V,i,j]) (fun b hb=>by
     have q:=hf b (by
      simp only [mem_cons,not_mem_nil,or_false] at hb ⊢;rcases hb with q|q|q|q <;> simp [q])
     exact⟨q.2.2.2.1,q.2.1,q.2.2.2.2.1,q.2.2.2.2.2⟩) (fun b o _ _ hc e _=>by
     simp only [mem_cons,not_mem_nil,or_false,not_or] at hc;exact hk b o hc.1 hc.2.1 hc.2.2.1 hc.2.2.2 e) (fun b o _ _ hc e _=>⟨o.slots,by
     simp only [mem_cons,not_mem_nil,or_false,not_or] at hc;exact hk b o hc.1 hc.2.1 hc.2.2.1 hc.2.2.2 e⟩) (fun _ _ _ _ q=>q) (fun b o hc e=>⟨o,by
     simp only [mem_cons,not_mem_nil,or_false,not_or] at hc;exact hk b o hc.1 hc.2.1 hc.2.2.1 hc.2.2.2 e⟩) (fun _ _ e=>e) (fun _ _ _ e=>e) (fun b ps e=>⟨#[],by rw [e];simp⟩) (fun m hm=>by
     obtain⟨o,es,ep,ho,r⟩:=hm;exact⟨o,es,ep,hk _ o (hf z (by simp)).2.1.symm (hf V (by simp)).2.1.symm (hf i (by simp)).2.1.symm (hf j (by simp)).2.1.symm ho,r⟩) (fun b u e=>by
     have nn:∀b u,H b=some u->b≠z/\b≠V/\b≠i/\b≠j:=fun b u e=>⟨fun q=>(by rw [q,(hf z (by simp)).1] at e;cases e),fun q=>(by rw [q,(hf V (by simp)).1] at e;cases e),fun q=>(by rw [q,(hf i (by simp)).1] at e;cases e),fun q=>(by rw [q,(hf j (by simp)).1] at e;cases e)⟩
     refine (I.hok b u e).stay (fun c v hc q=>?_) (fun _ q=>q) fun _ _ q=>q
     have n4:c≠z/\c≠V/\c≠i/\c≠j:=by
      rcases hc with q|q
      .rw [q];exact nn b u e
      .exact nn c _ q
     exact hk c v n4.1 n4.2.1 n4.2.2.1 n4.2.2.2 q) I.bare
 self:=fun _ _ _ _ _ st h=>wpAny_pyIter_zip st.1 h
section
variable {P:Program}{w:World}{A:Around}{E:Value->Shared->Prop}{s:Shared}
abbrev uO(x:Str)(t:Tok):Obj:={ cls:=.type (strIterType x),data:=.fields #[.str x t,.int 0 0] }
theorem nC{x:Str}{t:Tok}{Q:Value->Shared->Prop}(hQ:Q (.ref s.heap.objs.size) { s with heap:=s.heap.push (uO x t) }):wpAny (model P w) A (pyIter (.str x t)) Q E s:=by
 unfold uO strIterType at hQ
 cases ha:x.cps.all (·<128)
 .simp only [ha,false_eq_true,if_false] at hQ;exact wpAny_pyIter_wide ha hQ
 .simp only [ha,if_true] at hQ;exact wpAny_pyIter_ascii ha hQ
abbrev yg1(h:Heap)(x:Str)(t:Tok):Heap:=h.push (uO x t)
abbrev yg2(h:Heap)(x y:Str)(t u:Tok):Heap:=(yg1 h x t).push (uO y u)
abbrev yg3(h:Heap)(x y:Str)(t u:Tok):Heap:=(yg2 h x y t u).push { cls:=.type "tuple",data:=.seq #[.ref h.objs.size,.ref (yg1 h x t).objs.size] }
abbrev yg4(h:Heap)(x y:Str)(t u:Tok):Heap:=(yg3 h x y t u).push { cls:=.type "tuple",data:=.seq #[.none,.none] }
abbrev yg5(h:Heap)(x y:Str)(t u:Tok):Heap:=(yg4 h x y t u).push { cls:=.type "zip",data:=.fields #[.none,.bool false,.bool false,.ref (yg2 h x y t u).objs.size,.ref (yg3 h x y t u).objs.size] }
theorem yP(x y:Str)(t u:Tok):Meets (Builtin.«zip.__new__» ⟨[.type "zip",.str x t,.str y u],[]⟩) (fun _ R s =>
   R (.ok (.ret (.ref (yg4 s.heap x y t u).objs.size))) { s with heap:=yg5 s.heap x y t u }) :=
 .of_wp fun prog w A R s h=>by
  obtain⟨hp,g,d,tk,os⟩:=s;have hsub:=sub_zip
  wp_walk using nC (x:=x) (t:=t),nC (x:=y) (t:=u)
  exact⟨_,rfl,h⟩
theorem yQ{x y:Str}{t u:Tok}{Q:Value->Shared->Prop}
  (h:∀h',IsZip h' (s.heap.objs.size+4) (s.heap.objs.size+2) (s.heap.objs.size+3) .none->IsPair h' (s.heap.objs.size+2) (.ref s.heap.objs.size) (.ref (s.heap.objs.size+1)) ->
   IsPair h' (s.heap.objs.size+3) .none .none->SIt h' s.heap.objs.size x t 0->SIt h' (s.heap.objs.size+1) y u 0->(∀b o,s.heap.get? b=some o->h'.get? b=some o)->Q (.ref (s.heap.objs.size+4)) { s with heap:=h' }) :
  wpAny (model P w) A (call (.type "zip") [.str x t,.str y u]) Q E s:=by
 refine callType_new F.called_zip (by decide) (F.typeCall_zip_2 _ _) (F.newCall_zip_2 _ _) (fun obj=>F.args_object_init_3 obj _ _) F.entry_zip_new (yP x y t u) ?_;have z1:(yg1 s.heap x t).objs.size=s.heap.objs.size+1:=Heap.size_push ..;have z2:(yg2 s.heap x y t u).objs.size=s.heap.objs.size+2:=by rw [Heap.size_push,z1]
 have z3:(yg3 s.heap x y t u).objs.size=s.heap.objs.size+3:=by rw [Heap.size_push,z2]
 have z4:(yg4 s.heap x y t u).objs.size=s.heap.objs.size+4:=by rw [Heap.size_push,z3]
 have m4:∀b o,(yg4 s.heap x y t u).get? b=some o->(yg5 s.heap x y t u).get? b=some o:=fun b o e=>Heap.get?_push_of_some _ e;have m3:∀b o,(yg3 s.heap x y t u).get? b=some o->(yg5 s.heap x y t u).get? b=some o:=fun b o e=>m4 b o (Heap.get?_push_of_some _ e);have m2:∀b o,(yg2 s.heap x y t u).get? b=some o->(yg5 s.heap x y t u).get? b=some o:=fun b o e=>m3 b o (Heap.get?_push_of_some _ e);have m1:∀b o,(yg1 s.heap x t).get? b=some o->(yg5 s.heap x y t u).get? b=some o:=fun b o e=>m2 b o (Heap.get?_push_of_some _ e)
 have g5:(yg5 s.heap x y t u).get? (yg4 s.heap x y t u).objs.size=some _:=Heap.get?_push_size _ rfl;have g4:=m4 _ _ (Heap.get?_push_size (yg3 s.heap x y t u) (o:={ cls:=.type "tuple",data:=.seq #[.none,.none] }) rfl);have g3:=m3 _ _ (Heap.get?_push_size (yg2 s.heap x y t u) (o:={ cls:=.type "tuple",data:=.seq #[.ref s.heap.objs.size,.ref (yg1 s.heap x t).objs.size] }) rfl);have g2:=m2 _ _ (Heap.get?_push_size (yg1 s.heap x t) (o:=uO y u) rfl)
 have g1:=m1 _ _ (Heap.get?_push_size s.heap (o:=uO x t) rfl);show _/\_;rw [z2,z3,z4] at g5;rw [z1,z2] at g3;rw [z3] at g4;rw [z1] at g2;rw [z4];exact⟨⟨_,g5,rfl⟩,h _ g5 g3 g4 ⟨_,g1,rfl,rfl⟩ ⟨_,g2,rfl,rfl⟩ fun b o e=>m1 b o (Heap.get?_push_of_some _ e)⟩
end
section
variable {X:Cx}{es:List Expr}{ct:Nat}{tp:Pos}
def A8(K:PySem.W.Frag)(ta:TA):TI:=fun σ H R=>ta σ H fun vs H1=>(∃k l a c,vs=[.ref a,.ref c]/\(∃xs ys,Sq k K H1 a xs/\Sq l K H1 c ys)/\R (Itz k l K a c) H1)\/∃la lb,vs=[.str (S la),.str (S lb)]/\R (EX (cY la) (cY lb)) H1
theorem A9(K:PySem.W.Frag)(e:X.K=K){a b:Expr}{ta:TA}{p pos:Pos}(hg:Gl X "zip")(hm:X.mg "zip"=none)(ha:PA X [a,b] ta)
  (hs:starEach [a,b] X.env=[(false,eval a X.env),(false,eval b X.env)]:=by rfl) (hs2:starEach [b] X.env=[(false,eval b X.env)]:=by rfl) :
  PI X (.Tuple es ct tp) (.Call (.Name "zip" p) [a,b] [] pos) (A8 K ta):=by
 subst e;intro pins s σ H R I h;refine Call_ (kn I hg hm boot_zip (PyProof.Rows.callWith_type1 (thn (ha pos pins s σ H _ I h) fun us s1 ⟨vs,H1,I1,r1,q1⟩=>?_) (by rw [hs,hs2]) (by rw [hs2];rfl)))
 have fin:∀b∈[s1.heap.objs.size+4,s1.heap.objs.size+2,s1.heap.objs.size+3,s1.heap.objs.size,s1.heap.objs.size+1],rE X pins H1 b:=fun b hb=>by
  have hle:s1.heap.objs.size<=b:=by
   simp only [mem_cons,not_mem_nil,or_false] at hb
   rcases hb with e|e|e|e|e
   .rw [e];exact le_add_right _ _
   .rw [e];exact le_add_right _ _
   .rw [e];exact le_add_right _ _
   .rw [e];exact Nat.le_refl _
   .rw [e];exact le_add_right _ _
  exact I1.fpOk hle (I1.hok.fresh hle)
 rcases q1 with ⟨k,l,a,c,e,⟨xs,ys,q1,q2⟩,q⟩|⟨la,lb,e,q⟩
 .subst e
  cases r1 with
  | cons r rr =>
   cases rr with
   | cons r' rr =>
    cases rr;cases r;cases r';obtain⟨its,rv,p,_⟩:=I1.row q1;obtain⟨jts,rv',p',_⟩:=I1.row q2;refine AD p p' fun h' g1 g2 g3 g4 g5 kk=>wpAny_pyIter_zip g1 ?_;have I2:Inv X pins σ H1 { s1 with heap:=h',toks:=s1.toks }:=I1.kept kk
    exact⟨s1.heap.objs.size+4,[s1.heap.objs.size+4,s1.heap.objs.size+2,s1.heap.objs.size+3,s1.heap.objs.size,s1.heap.objs.size+1],_,_,H1,rfl,I2,yp (i:=s1.heap.objs.size) (j:=s1.heap.objs.size+1)
     (CM _),⟨g1,g2,⟨_,_,g3⟩,g4,g5⟩,fin,q⟩
 .subst e
  cases r1 with
  | cons r rr =>
   cases rr with
   | cons r' rr =>
    cases rr;obtain⟨t,rfl⟩:=r;obtain⟨u,rfl⟩:=r';refine yQ fun h' g1 g2 g3 g4 g5 kk=>wpAny_pyIter_zip g1 ?_;have I2:Inv X pins σ H1 { s1 with heap:=h',toks:=s1.toks }:=I1.kept kk
    exact⟨s1.heap.objs.size+4,[s1.heap.objs.size+4,s1.heap.objs.size+2,s1.heap.objs.size+3,s1.heap.objs.size,s1.heap.objs.size+1],_,_,H1,rfl,I2,xf (i:=s1.heap.objs.size) (j:=s1.heap.objs.size+1)
     (CM _),⟨g1,g2,⟨_,_,g3⟩,g4,g5⟩,fin,q⟩
def zF(pa:PTA):PTI:=fun ρ Q=>pa ρ fun as ρ1=>match as with
 | [.v (.str x),.v (.str y)]=>Q (min x.length y.length) (fun k=>.tup [.str [x.getD k 0],.str [y.getD k 0]]) ρ1
 | [.v a,.v b]=>(match rowD a,rowD b with
  | some xs,some ys=>Q (min xs.length ys.length) (fun k=>.tup [itD xs k,itD ys k]) ρ1
  | _,_=>False)
 | _=>False
end
section
variable {K:PySem.W.Frag}{ta:TA}{pa:PTA}
theorem Do{O:Addr->Prop}{H:Hp}{x y:List Nat}:Wlk K O H (EX (cY x) (cY y)) (min x.length y.length) (fun k=>.tup [.str [x.getD k 0],.str [y.getD k 0]]):=fun O' H' kk dom=>by
 refine⟨fun j hj=>?_,?_⟩
 .have h1:j<(cY x).length:=by rw [c8];omega
  have h2:j<(cY y).length:=by rw [c8];omega
  refine⟨⟨_,_,getElem?_eq_getElem h1,getElem?_eq_getElem h2⟩,fun v H'' ⟨T,u,w,hT,e,y1,y2,e2⟩=>?_⟩;subst e e2;obtain⟨c,hc,rfl⟩:=fK y1;obtain⟨d,hd,rfl⟩:=fK y2;show Gr H' _/\FV K O' _ _ (.tup [.str [x.getD j 0],.str [y.getD j 0]]);rw [getD_eq_getElem?_getD,getD_eq_getElem?_getD,hc,hd];exact⟨Gr.new hT,.tup (fun z=>dom T z hT) aJ (.cons (.str _ (by show 1<=1000000;decide)) (.cons (.str _ (by show 1<=1000000;decide)) .nil))⟩
 .show (cY x).length<=_\/(cY y).length<=_;rw [c8,c8];omega
theorem Ba(h:LAs K ta pa):LI K (A8 K ta) (zF pa):=fun A ρ σ H Q Q' R q k=>h A ρ σ H _ _ R q fun vs H1 as ρ1 q1 f1 R1 o1=>by
 split at q1
 .rename_i x y
  cases o1 with
  | cons o1 o2 =>
   cases o2 with
   | cons o2 o3 =>
    cases o3;have f1':FV K _ H1 _ (.str x):=o1;have f2':FV K _ H1 _ (.str y):=o2;cases f1';cases f2';exact .inr ⟨x,y,rfl,k _ H1 _ _ ρ1 q1 f1 R1 Do⟩
 .rename_i da db hno;have:=C8 (K:=K) (ta:=ta) (pa:=pa) h
  cases o1 with
  | cons o1 o2 =>
   cases o2 with
   | cons o2 o3 =>
    cases o3
    split at q1
    .rename_i xs ys ex ey;obtain⟨b1,a1,us,rfl,l1,w1⟩:=FV.rowD (show FV K _ H1 _ da from o1) ex;obtain⟨b2,a2,ws,rfl,l2,w2⟩:=FV.rowD (show FV K _ H1 _ db from o2) ey;have t1:=w1 _ H1 (fun b o n h=>⟨n,h⟩);have t2:=w2 _ H1 (fun b o n h=>⟨n,h⟩);refine .inl ⟨b1,b2,a1,a2,rfl,⟨us,ws,t1.1,t2.1⟩,k _ H1 _ _ ρ1 q1 f1 R1 fun O' H' kk dom=>?_⟩;obtain⟨s1,g1⟩:=w1 O' H' kk;obtain⟨s2,g2⟩:=w2 O' H' kk;refine⟨fun j hj=>?_,⟨us,ws,s1,s2,by omega⟩⟩
     have h1:j<us.length:=by omega
     have h2:j<ws.length:=by omega
     refine⟨⟨us,ws,_,_,s1,s2,getElem?_eq_getElem h1,getElem?_eq_getElem h2⟩,fun x H'' ⟨T,u,w,hT,e,y1,y2,e2⟩=>?_⟩;subst e e2;obtain⟨d1,hd1,fd1⟩:=g1.get (y1 us s1);obtain⟨d2,hd2,fd2⟩:=g2.get (y2 ws s2);have e1:itD xs j=d1:=by unfold itD;rw [getD_eq_getElem?_getD,hd1];rfl
     have e2:itD ys j=d2:=by unfold itD;rw [getD_eq_getElem?_getD,hd2];rfl
     rw [e1,e2];have kk2:aL O' H' O' (upd H' T (.tup [u,w])):=fun b o n e=>⟨n,by rw [aE (a8 e hT)];exact e⟩
     exact⟨Gr.new hT,.tup (fun z=>dom T z hT) aJ (.cons (fd1.keeps kk2) (.cons (fd2.keeps kk2) .nil))⟩
    .exact q1.elim
 .exact q1.elim
end
section
variable {X:Cx}{K:PySem.W.Frag}{te:TE}{pe:PTE}
def xh(i:Nat)(pe:PTE):PTE:=fun ρ Q=>match ρ[i]? with
 | some (some (.own _))=>pe ρ fun p ρ1=>(match ρ1[i]?,p with
  | some (some (.own ds)),.dat (.int j)=>∃k d,(ixN ds.length j=some k/\ds.length<=1000000)/\ds[k]?=some d/\Q (.dat d) (ρ1.set i (some (.own (ds.eraseIdx k))))
  | _,_=>False)
 | _=>False
theorem FVs.eraseIdx{O:Addr->Prop}{H:Hp}:∀{xs:List V}{ds:List D} (k:Nat),FVs K O H xs ds->FVs K O H (xs.eraseIdx k) (ds.eraseIdx k)
 | _,_,_,.nil=>.nil
 | _,_,0,.cons a b=>b
 | _,_,k+1,.cons a b=>.cons a (FVs.eraseIdx k b)
theorem yR{i:Nat}(h:LE K te pe):LE K (tBM K "list" zp (bL i) (bg te fS)) (xh i pe):=fun A ρ σ H Q Q' R q k=>by
 unfold xh at q
 split at q
 .rename_i ds0 e0;obtain⟨a0,xs0,s0,g0,f0⟩:=R.ownAt e0;refine⟨_,s0,.inl ⟨rfl,xs0,SqL.of g0⟩,h A ρ σ H _ _ R q fun v H1 p ρ1 q1 f1 o1=>?_⟩;obtain⟨R1,fv⟩:=o1.frz
  split at q1
  .rename_i ds j e1;obtain⟨a,xs,s,g,f⟩:=R1.ownAt e1;rw [s0] at s;cases s;obtain⟨m,d,⟨hm,hl⟩,hd,q1⟩:=q1;obtain⟨w,hw,fw⟩:=f.getD hd;cases (show FV K _ H1 v (.int j) from fv);obtain⟨t1,t2,t3,t4⟩:=rK hm;obtain⟨R2,f2⟩:=R1.lstw (es:=ds.eraseIdx m) (ys:=xs.eraseIdx m) e1 s0 (f.eraseIdx m);have hx:xs.length=ds.length:=f.length;exact⟨a0,xs,j,m,w,rfl,rfl,g,by omega,by omega,by rw [hx];exact t1,hw,k _ _ _ _ q1 (f1.trans f2) ⟨R2,(fw.keeps f2.keeps)⟩⟩
  .exact q1.elim
 .exact q.elim
end
abbrev lc2(elt t1 i1:Expr)(f1:List Expr)(t2 i2:Expr)(f2:List Expr)(scope:Scope)(pos:Pos):Expr:=.ListComp elt [⟨t1,i1,f1,0⟩,⟨t2,i2,f2,0⟩] scope pos
def uP(e i2:Expr)(acc:Value)(env:Env):Sem Unit:=do
 let x <- eval i2 env
 standAt i2.pos
 let x <- foldedSetIterable i2 env x
 let _ <- runOwn (.compStart e 1 (<- holding [x] (pyIter x)) acc env) env
def xi(elt:Expr)(acc:Value)(env:Env):Sem Unit:=do let _ <- call (.builtin "list.append") [acc,<- eval elt env]
theorem uQ(elt t1 i1:Expr)(f1:List Expr)(t2 i2:Expr)(f2:List Expr)(scope:Scope)(pos:Pos)(it acc:Value)(env:Env) :
  compTurn (lc2 elt t1 i1 f1 t2 i2 f2 scope pos) 0 it acc env=(do
   standAt i1.pos
   match <- pyNext it with
   | none=>pure (.done .next)
   | some v =>
    letOwnedTupleGo t1 it v
    assign t1 env v
    let mut ok:=true
    for c in f1 do
     if ok then ok <- isTrue c env (eval c env)
    if ok then
     let x <- eval i2 env
     standAt i2.pos
     let x <- foldedSetIterable i2 env x
     let _ <- runOwn (.compStart (lc2 elt t1 i1 f1 t2 i2 f2 scope pos) 1 (<- holding [x] (pyIter x)) acc env) env
    again (.compLoop (lc2 elt t1 i1 f1 t2 i2 f2 scope pos) 0 it acc env)):=by rfl
theorem uR{α:Type}(e i2:Expr)(acc:Value)(env:Env)(k:Sem α):(eval i2 env >>= fun x=>standAt i2.pos >>= fun _=>foldedSetIterable i2 env x >>= fun x=>holding [x] (pyIter x) >>= fun it=>runOwn (.compStart e 1 it acc env) env >>= fun _=>k)=(uP e i2 acc env >>= fun _=>k):=by
 unfold uP;simp only [bind_assoc,pure_bind]
theorem uS(elt t1 i1:Expr)(f1:List Expr)(t2 i2:Expr)(f2:List Expr)(scope:Scope)(pos:Pos)(it acc:Value)(env:Env) :
  compTurn (lc2 elt t1 i1 f1 t2 i2 f2 scope pos) 1 it acc env=(do
   standAt i2.pos
   match <- pyNext it with
   | none=>pure (.done .next)
   | some v =>
    letOwnedTupleGo t2 it v
    assign t2 env v
    let mut ok:=true
    for c in f2 do
     if ok then ok <- isTrue c env (eval c env)
    if ok then
     (xi elt acc env)
    again (.compLoop (lc2 elt t1 i1 f1 t2 i2 f2 scope pos) 1 it acc env)):=by rfl
section
variable {prog:Program}{w:World}{A:Around}{R:Result->Shared->Prop}{s:Shared}
theorem mJ{elt t1 i1 t2 i2:Expr}{f1 f2:List Expr}{scope:Scope}{pos:Pos}{it acc:Value}{env:Env}(I:Nat->Shared->Prop)
  (turn:∀n s,I n s->wpAny (model prog w) A (pyNext it) (fun r s₁=>match r with
   | none=>R (.ok .next) s₁
   | some v=>wpAny (model prog w) A (letOwnedTupleGo t1 it v) (fun _ s₂=>wpAny (model prog w) A (assign t1 env v) (fun _ s₃ =>
     wpAny (model prog w) A (forIn f1 true fun c r=>if r=true then do let ok <- isTrue c env (eval c env);pure (ForInStep.yield ok) else pure (ForInStep.yield r)) (fun ok s₄ =>
      if ok=true then wpAny (model prog w) A (uP (lc2 elt t1 i1 f1 t2 i2 f2 scope pos) i2 acc env) (fun _ s₆=>∃m,m<n/\I m s₆) (fun _ _=>False) s₄
      else ∃m,m<n/\I m s₄) (fun _ _=>False) s₃) (fun _ _=>False) s₂) (fun _ _=>False) s₁) (fun _ _=>False) s)
  (n:Nat) (h:I n s) :
  codeAny (model prog w) A (.compLoop (lc2 elt t1 i1 f1 t2 i2 f2 scope pos) 0 it acc env) R s:=by
 refine codeAny_loop rfl I (fun n s hI=>?_) n h;show wpAny _ A ((compTurn (lc2 elt t1 i1 f1 t2 i2 f2 scope pos) 0 it acc env).onRaise (fun x=>do noteFrame x env;theTreesLotGoes x)) _ _ s;refine wpAny_noted ?_;rw [uQ];refine wpAny_bind (wpAny_standAt (wpAny_bind (wpAny_mono (turn n s hI) (fun r s₁ h₁=>?_) fun _ _ h'=>h'.elim)))
 cases r with
 | none=>exact wpAny_pure h₁
 | some v =>
  refine wpAny_bind (wpAny_mono h₁ (fun _ s₂ h₂=>?_) fun _ _ h'=>h'.elim);refine wpAny_bind (wpAny_mono h₂ (fun _ s₃ h₃=>wpAny_bind (wpAny_mono h₃ (fun ok s₄ h₄=>?_) fun _ _ h'=>h'.elim)) fun _ _ h'=>h'.elim)
  cases ok with
  | false=>exact wpAny_pure ⟨rfl,h₄⟩
  | true =>
   have e:=uR (lc2 elt t1 i1 f1 t2 i2 f2 scope pos) i2 acc env (again (.compLoop (lc2 elt t1 i1 f1 t2 i2 f2 scope pos) 0 it acc env));show wpAny _ _ (eval i2 env >>= fun x=>standAt i2.pos >>= fun _=>foldedSetIterable i2 env x >>= fun x=>holding [x] (pyIter x) >>= fun it'=>runOwn (.compStart (lc2 elt t1 i1 f1 t2 i2 f2 scope pos) 1 it' acc env) env >>= fun _=>again (.compLoop (lc2 elt t1 i1 f1 t2 i2 f2 scope pos) 0 it acc env)) _ _ _
   rw [e];exact wpAny_bind (wpAny_mono h₄ (fun _ s₆ h₆=>wpAny_pure ⟨rfl,h₆⟩) fun _ _ h'=>h'.elim)
theorem mK{elt t1 i1 t2 i2:Expr}{f1 f2:List Expr}{scope:Scope}{pos:Pos}{it acc:Value}{env:Env}(I:Nat->Shared->Prop)
  (turn:∀n s,I n s->wpAny (model prog w) A (pyNext it) (fun r s₁=>match r with
   | none=>R (.ok .next) s₁
   | some v=>wpAny (model prog w) A (letOwnedTupleGo t2 it v) (fun _ s₂=>wpAny (model prog w) A (assign t2 env v) (fun _ s₃ =>
     wpAny (model prog w) A (forIn f2 true fun c r=>if r=true then do let ok <- isTrue c env (eval c env);pure (ForInStep.yield ok) else pure (ForInStep.yield r)) (fun ok s₄ =>
      if ok=true then wpAny (model prog w) A (xi elt acc env) (fun _ s₆=>∃m,m<n/\I m s₆) (fun _ _=>False) s₄
      else ∃m,m<n/\I m s₄) (fun _ _=>False) s₃) (fun _ _=>False) s₂) (fun _ _=>False) s₁) (fun _ _=>False) s)
  (n:Nat) (h:I n s) :
  codeAny (model prog w) A (.compLoop (lc2 elt t1 i1 f1 t2 i2 f2 scope pos) 1 it acc env) R s:=by
 refine codeAny_loop rfl I (fun n s hI=>?_) n h;show wpAny _ A ((compTurn (lc2 elt t1 i1 f1 t2 i2 f2 scope pos) 1 it acc env).onRaise (fun x=>do noteFrame x env;theTreesLotGoes x)) _ _ s;refine wpAny_noted ?_;rw [uS];refine wpAny_bind (wpAny_standAt (wpAny_bind (wpAny_mono (turn n s hI) (fun r s₁ h₁=>?_) fun _ _ h'=>h'.elim)))
 cases r with
 | none=>exact wpAny_pure h₁
 | some v =>
  refine wpAny_bind (wpAny_mono h₁ (fun _ s₂ h₂=>?_) fun _ _ h'=>h'.elim);refine wpAny_bind (wpAny_mono h₂ (fun _ s₃ h₃=>wpAny_bind (wpAny_mono h₃ (fun ok s₄ h₄=>?_) fun _ _ h'=>h'.elim)) fun _ _ h'=>h'.elim)
  cases ok with
  | false=>exact wpAny_pure ⟨rfl,h₄⟩
  | true=>exact wpAny_bind (wpAny_mono h₄ (fun _ s₆ h₆=>wpAny_pure ⟨rfl,h₆⟩) fun _ _ h'=>h'.elim)
theorem jw{elt t1 i1 t2 i2:Expr}{f1 f2:List Expr}{scope:Scope}{pos:Pos}{it acc:Value}{env:Env}
  (h0:codeAny (model prog w) A (.compLoop (lc2 elt t1 i1 f1 t2 i2 f2 scope pos) 1 it acc env) R s)
  (h:wpAny (model prog w) A (pyIter it) (fun it' s'=>codeAny (model prog w) A (.compLoop (lc2 elt t1 i1 f1 t2 i2 f2 scope pos) 1 it' acc env) R s')
   (notedBy (model prog w) A env fun x s'=>R (.error x) s') s) :
  codeAny (model prog w) A (.compStart (lc2 elt t1 i1 f1 t2 i2 f2 scope pos) 1 it acc env) R s:=by
 refine codeAny_of_tree ?_;show wpAny _ _ ((compStart (lc2 elt t1 i1 f1 t2 i2 f2 scope pos) 1 it acc env).onRaise (fun x=>do noteFrame x env;standAt theWindowsPlace)) _ _ s;refine wpAny_notedAt ?_;unfold compStart;show wpAny _ _ (ask >>= _) _ _ s;refine wpAny_bind (wpAny_askSetting (wpAny_ite ?_))
 split
 .first
   | exact wpAny_bind (wpAny_pure (wpAny_pure (And.intro rfl h0)))
   | exact wpAny_pure (And.intro rfl h0)
 .first
   | exact wpAny_bind (wpAny_rule (wpAny_bind (wpAny_standAt (wpAny_bind (wpAny_mono h (fun it' s' h'=>wpAny_pure (And.intro rfl h')) fun _ _ x=>x)))))
end
abbrev TB:=St->Hp->(St->Hp->Prop)->Prop
def PB(Y:Cx)(emit:Sem Unit)(tb:TB):Prop:=∀(pins:List (Addr×Obj)) (s:Shared) (τ:St) (H:Hp) (N:St->Hp->Prop),Inv Y pins τ H s->tb τ H N ->
 wpAny (model Y.prog Y.w) Y.A emit (fun _ s'=>∃τ' H',Inv Y pins τ' H' s'/\N τ' H') (fun _ _=>False) s
def Bb(te:TE)(D:Addr):TB:=fun τ H N=>te τ H fun v H6=>∃ys,H6 D=some (.lst ys)/\ys.length<sizeLine/\N τ (upd H6 D (.lst (ys++[v])))
def Bc(wi:TI)(g:TG)(tts:TT)(tb:TB):TB:=fun τ H N=>wi τ H fun J H6=>∃W:Nat->Nat->St->Hp->Prop,(∃n,W 0 n τ H6)/\∀j n τ3 H7,W j n τ3 H7 ->
 (J.stop j H7/\N τ3 H7)\/(J.go j H7/\∀y H8,J.yld j H7 y H8->g y τ3 H8 fun τ4 H9=>tts τ4 H9 fun ok H10=>if ok=true then tb τ4 H10 (fun τ5 H11=>∃n',n'<n/\W (j+1) n' τ5 H11) else ∃n',n'<n/\W (j+1) n' τ4 H10)
def xj(ix:List (Option Nat))(wi:TI)(g:TG)(tts:TT)(tb:Addr->TB):TE:=fun σ H Q=>wi σ H fun J H1=>∀D,H1 D=none->∃W:Nat->Nat->St->Hp->Prop,(∃m,W 0 m (qk ix σ) (upd H1 D (.lst [])))/\∀i m τ H2,W i m τ H2 ->
 (J.stop i H2/\Q (.ref D) H2)\/(J.go i H2/\∀x H3,J.yld i H2 x H3->g x τ H3 fun τ2 H4=>tts τ2 H4 fun ok H5=>if ok=true then tb D τ2 H5 (fun τ6 H6=>∃m',m'<m/\W (i+1) m' τ6 H6)
  else ∃m',m'<m/\W (i+1) m' τ2 H5)
section
variable {Y:Cx}{elt t1 i1 t2 i2:Expr}{f1 f2:List Expr}{scope:Scope}{pos:Pos}{te:TE}{D:Addr}{wi:TI}{g:TG}{tts:TT}{tb:TB}
theorem Bd(hx:Y.xe=fun _ _=>False)(he:PE Y elt te):PB Y (xi elt (.ref D) Y.env) (Bb te D):=by
 intro pins s τ H N I h;have h1:=he pins s τ H _ I h;rw [hx] at h1;unfold xi;refine wpAny_bind (thn h1 fun v s1 ⟨x,H1,I1,r1,ys,hD,hz,q⟩=>?_);have h2:=gX (X:=Y) pins s1 τ H1 (.ref D) [x] (.ref D) [v] (fun _ H'=>N τ H') I1 rfl (.cons r1 .nil) ⟨D,ys,x,rfl,rfl,hD,hz,q⟩;rw [hx] at h2;exact wpAny_bind (thn h2 fun _ s2 ⟨_,H2,I2,_,q2⟩=>wpAny_pure ⟨τ,H2,I2,q2⟩)
theorem Be(hx:Y.xe=fun _ _=>False)(hc:Y.calm=true)(hi:PI Y t2 i2 wi)(hg:PG Y t2 g)(ht:PIf Y f2 tts)(hb:PB Y (xi elt (.ref D) Y.env) tb)(hs:∀x,foldedSetIterable i2 Y.env x=pure x:=by intro _;rfl) :
  PB Y (uP (lc2 elt t1 i1 f1 t2 i2 f2 scope pos) i2 (.ref D) Y.env) (Bc wi g tts tb):=by
 intro pins s τ H N I h;have h1:=hi pins s τ H _ I h;rw [hx] at h1;unfold uP;refine wpAny_bind (thn h1 fun v s1 h1=>wpAny_bind (wpAny_standAt (wpAny_bind (wpAny_of_eq (hs v) (wpAny_bind (wpAny_holding (thn h1 fun itv s2 h2=>wpAny_bind (wpAny_runOwn ?_))))))));obtain⟨it,fp,tn,J,H2,e,I2,T,st2,f2',W,⟨m0,w0⟩,turn⟩:=h2;subst e;have stat:∀{H':Hp},(∀b∈fp,H' b=none)->∀b∈fp,rE Y pins H' b:=fun hn b hb=>⟨hn b hb,(f2' b hb).2⟩
 have loop:∀s3:Shared,Inv Y pins τ H2 s3->tn 0 s3.heap->codeAny (model Y.prog Y.w) Y.A (.compLoop (lc2 elt t1 i1 f1 t2 i2 f2 scope pos) 1 (.ref it) (.ref D) Y.env)
   (fun r s'=>match r with|.ok f=>wpAny (model Y.prog Y.w) Y.A (pure ()) (fun _ s'=>∃τ' H',Inv Y pins τ' H' s'/\N τ' H') (fun _ _=>False) s'|.error e=>cameBackBy (model Y.prog Y.w) Y.A Y.env (fun _ _=>False) e s') s3:=by
  intro s3 I3 st3;refine mK (fun n s'=>∃i τ' H',Inv Y pins τ' H' s'/\tn i s'.heap/\(∀b∈fp,H' b=none)/\W i n τ' H') ?_ m0 ⟨0,τ,H2,I3,st3,fun b hb=>(f2' b hb).1,w0⟩;rintro n s5 ⟨i,τ5,H5,I5,st5,fr5,w5⟩
  rcases turn i n τ5 H5 w5 with ⟨stop,qn⟩|⟨go,step⟩
  .refine thn (T.done Y rfl rfl rfl hc i pins s5 τ5 H5 (fun _ _=>False) I5 (stat fr5) st5 stop) fun r s6 ⟨hr,I6⟩=>?_;subst hr;exact wpAny_pure ⟨τ5,H5,I6,qn⟩
  .refine thn (T.item Y rfl rfl rfl hc i pins s5 τ5 H5 (fun _ _=>False) I5 (stat fr5) st5 go) fun r s6 ⟨u,hr,h6⟩=>?_;subst hr;refine thn h6 fun _ s7 ⟨x,H7,I7,r7,y7,st7,fr7⟩=>?_;have I7':=I7.pinned (stat fr7) (T.obj _ _ st7)
   have again:∀{s8:Shared}{τ8:St}{H8:Hp},Inv Y (pins++lu fp s7.heap) τ8 H8 s8->(∃m',m'<n/\W (i+1) m' τ8 H8) ->
     ∃m,m<n/\∃i τ' H',Inv Y pins τ' H' s8/\tn i s8.heap/\(∀b∈fp,H' b=none)/\W i m τ' H':=fun {s8 τ8 H8} I8 ⟨m',hm,w8⟩=>by
    refine⟨m',hm,i+1,τ8,H8,I8.unpinned,T.keep _ _ _ st7 fun b hb o e=>(I8.pin (b,o) (mem_append_right _ (mem_append_right _ (dy hb e)))).1,fun b hb=>?_,w8⟩;obtain⟨o,e,d⟩:=T.obj _ _ st7 b hb;exact (I8.pin (b,o) (mem_append_right _ (mem_append_right _ (dy hb e)))).2.1
   have h8:=hg _ s7 τ5 H7 x u _ I7' r7 (step x H7 y7);rw [hx] at h8;refine thn h8 fun _ s8 ⟨τ8,H8,I8,q8⟩=>?_;have h9:=ht _ s8 τ8 H8 _ I8 q8;rw [hx] at h9;refine thn h9 fun okb s9 ⟨H9,I9,q9⟩=>?_
   cases okb with
   | false =>
    rw [if_neg Bool.false_ne_true] at q9;rw [if_neg Bool.false_ne_true];exact again I9 q9
   | true =>
    rw [if_pos rfl] at q9;rw [if_pos rfl];exact thn (hb _ s9 τ8 H9 _ I9 q9) fun _ s10 ⟨τ10,H10,I10,q10⟩=>again I10 q10
 exact jw (loop _ I2 st2) (T.self Y.A 0 _ _ _ st2 (loop _ I2 st2))
end
section
variable {X:Cx}{elt t1 i1 t2 i2:Expr}{f1 f2:List Expr}{scope:Scope}{N':List Str}{ix:List (Option Nat)}{wi:TI}{g:TG}{tts:TT}{tb:Addr->TB}
theorem uT{use:Option (Value->Sem Unit)}{Qf:Value->Shared->Prop}{pos p':Pos}{pins:List (Addr×Obj)}{σ:St}{H:Hp}{s:Shared}{Q:VK}(hc:X.calm=true)(ok:tw X.env X.N scope N' ix)(hi:PI X t1 i1 wi)
  (blk:∀s H fp pn D,PG (bp X N' scope s H fp pn) t1 g/\PIf (bp X N' scope s H fp pn) f1 tts/\PB (bp X N' scope s H fp pn) (uP (lc2 elt t1 i1 f1 t2 i2 f2 scope pos) i2 (.ref D) (oh scope s.heap.objs.size X.env)) (tb D))
  (hs:∀x,foldedSetIterable i1 X.env x=pure x) (I:Inv X pins σ H s) (hw:xj ix wi g tts tb σ H Q)
  (fin:∀D C H' s',Inv X pins σ H' s'->Q (.ref D) H'->(∃m,s'.heap.Ns C m)->H' C=none->X.s₀.heap.objs.size<=C->C≠X.env.locals->(∀x c,X.env.cells.lookup x=some c->c≠C)->C∉X.fs->(∀p∈X.pn++pins,p.1≠C) ->
   compPost (model X.prog X.w) X.A X.xe use Qf (.ref D) C (.ok .next) s') :
  wpAny (model X.prog X.w) X.A (comprehension (lc2 elt t1 i1 f1 t2 i2 f2 scope pos) scope X.env p' (newList []) false (eval i1 X.env) use) Qf X.xe s:=by
 have hclos:closureFor scope X.env=pure (iX X.env scope.names []):=gL fun y hy e=>I.ok.has y.1 (ok.free y hy e).1;refine wpAny_comprehension_free (use:=use) rfl hs hclos ok.kind ok.loc (thn (hi pins s σ H _ I hw) fun v s1 h1=>thn h1 fun itv s2 h2=>?_);obtain⟨it,fp,tn,J,H2,e,I2,T,st2,fq2,hW⟩:=h2;subst e;obtain⟨W,⟨m0,w0⟩,turn⟩:=hW s2.heap.objs.size (I2.hok.fresh (Nat.le_refl _))
 have hfl:∀b∈fp,b<s2.heap.objs.size:=fun b hb=>by
  obtain⟨o,e,_⟩:=T.obj 0 _ st2 b hb;exact Heap.lt_size e
 refine wpAny_newObj_type ?_
 have I3:Inv X pins σ (upd H2 s2.heap.objs.size (.lst [])) { s2 with heap:=s2.heap.push { cls:=.type "list",dict:=none,data:=.seq ([]:List Value).toArray } } :=
  I2.laid (t':=s2.toks) (fun b o e=>Heap.get?_push_of_some _ e) (Nat.le_refl _) (show cJ X.prog X.w _ _ _ (.lst []) from ⟨zero_le _,[],0,.nil,Heap.get?_push_size _ rfl⟩)
 have st3:tn 0 (s2.heap.push { cls:=.type "list",dict:=none,data:=.seq ([]:List Value).toArray }):=T.keep 0 _ _ st2 fun b _ o e=>Heap.get?_push_of_some _ e;have f3:∀b∈fp,rE X pins (upd H2 s2.heap.objs.size (.lst [])) b:=fun b hb=>⟨by rw [aE (ne_of_lt (hfl b hb))];exact (fq2 b hb).1,(fq2 b hb).2⟩
 have hfl3:∀b∈fp,b<(s2.heap.push { cls:=.type "list",dict:=none,data:=.seq ([]:List Value).toArray }).objs.size:=fun b hb=>by rw [Heap.size_push];exact lt_succ_of_lt (hfl b hb)
 generalize hs3:({ s2 with heap:=s2.heap.push { cls:=.type "list",dict:=none,data:=.seq ([]:List Value).toArray } }:Shared)=s3 at I3 ⊢;have eh3:s3.heap=s2.heap.push { cls:=.type "list",dict:=none,data:=.seq ([]:List Value).toArray }:=by rw [<- hs3]
 rw [<- eh3] at st3 hfl3;generalize hH3:upd H2 s2.heap.objs.size (.lst [])=H3 at I3 f3 w0;generalize hD:s2.heap.objs.size=D at *;refine eX ?_;have I4:=tD ok I3 f3 hfl3;obtain⟨hg,ht,he⟩:=blk s3 H3 fp pins D;have st4:tn 0 (pushCells (s3.heap.push { cls:=.type "dict",data:=.dict #[] }) scope.names):=T.keep 0 _ _ st3 fun b _ o e=>pushCells_keeps _ _ b o (Heap.get?_push_of_some _ e)
 have stat:∀{H':Hp},(∀b∈fp,H' b=none)->∀b∈fp,rE (bp X N' scope s3 H3 fp pins) [] H' b:=fun hn b hb=>by
  refine⟨hn b hb,ne_of_lt (hfl3 b hb),I4.ok.exfs b hb,.inl hb,(I4.ok.exf b hb).2,fun p hp=>?_⟩;have hp':p∈X.pn++pins:=by simpa [bp] using hp
  exact (fq2 b hb).2.2.2.2.2 p hp'
 have loop:∀(s4:Shared),Inv (bp X N' scope s3 H3 fp pins) [] (qk ix σ) H3 s4->tn 0 s4.heap ->
   codeAny (model X.prog X.w) X.A (.compLoop (lc2 elt t1 i1 f1 t2 i2 f2 scope pos) 0 (.ref it) (.ref D) (oh scope s3.heap.objs.size X.env)) (compPost (model X.prog X.w) X.A X.xe use Qf (.ref D) s3.heap.objs.size) s4:=by
  intro s4 I4 st4;refine mJ (fun n s'=>∃i τ H',Inv (bp X N' scope s3 H3 fp pins) [] τ H' s'/\tn i s'.heap/\(∀b∈fp,H' b=none)/\W i n τ H') ?_ m0 ⟨0,_,H3,I4,st4,fun b hb=>(f3 b hb).1,w0⟩;rintro n s5 ⟨i,τ,H5,I5,st5,fr5,w5⟩
  rcases turn i n τ H5 w5 with ⟨stop,qn⟩|⟨go,step⟩
  .refine thn (T.done (bp X N' scope s3 H3 fp pins) rfl rfl rfl hc i [] s5 τ H5 (fun _ _=>False) I5 (stat fr5) st5 stop) fun r s6 ⟨hr,I6⟩=>?_;subst hr;have I7:Inv X pins σ H5 s6:=I3.call' (ch:=fp) I6.os I6.base I6.hok I6.bare fun b hb=>⟨(fq2 b hb).2.2.2.1,(fq2 b hb).2.1,(fq2 b hb).2.2.2.2.1,(fq2 b hb).2.2.2.2.2⟩
   obtain⟨m6,hn6,_⟩:=I6.loc
   refine fin D s3.heap.objs.size H5 s6 I7 qn ⟨m6,hn6⟩ I6.free ?_ ?_ ?_ ?_ ?_
   .exact I3.sz
   .exact ne_of_gt I3.lt
   .intro x c e z;obtain⟨v,q⟩:=I3.cell x c e;have:=q.lt;rw [z] at this;exact Nat.lt_irrefl _ this
   .exact I3.nofs (Nat.le_refl _)
   .intro p hp z;have:=Heap.lt_size (I3.pin p hp).1;rw [z] at this;exact Nat.lt_irrefl _ this
  .refine thn (T.item (bp X N' scope s3 H3 fp pins) rfl rfl rfl hc i [] s5 τ H5 (fun _ _=>False) I5 (stat fr5) st5 go) fun r s6 ⟨u,hr,h6⟩=>?_;subst hr;refine thn h6 fun _ s7 ⟨x,H7,I7,r7,y7,st7,fr7⟩=>?_;have I7':=I7.pinned (stat fr7) (T.obj _ _ st7)
   have again:∀{s8:Shared}{τ8:St}{H8:Hp},Inv (bp X N' scope s3 H3 fp pins) ([]++lu fp s7.heap) τ8 H8 s8->(∃m',m'<n/\W (i+1) m' τ8 H8) ->
     ∃m,m<n/\∃i τ H',Inv (bp X N' scope s3 H3 fp pins) [] τ H' s8/\tn i s8.heap/\(∀b∈fp,H' b=none)/\W i m τ H':=fun {s8 τ8 H8} I8 ⟨m',hm,w8⟩=>by
    refine⟨m',hm,i+1,τ8,H8,I8.unpinned,T.keep _ _ _ st7 fun b hb o e=>(I8.pin (b,o) (mem_append_right _ (mem_append_right _ (dy hb e)))).1,fun b hb=>?_,w8⟩;obtain⟨o,e,d⟩:=T.obj _ _ st7 b hb;exact (I8.pin (b,o) (mem_append_right _ (mem_append_right _ (dy hb e)))).2.1
   refine thn (hg _ s7 τ H7 x u _ I7' r7 (step x H7 y7)) fun _ s8 ⟨τ8,H8,I8,q8⟩=>?_;refine thn (ht _ s8 τ8 H8 _ I8 q8) fun okb s9 ⟨H9,I9,q9⟩=>?_
   cases okb with
   | false =>
    rw [if_neg Bool.false_ne_true] at q9;rw [if_neg Bool.false_ne_true];exact again I9 q9
   | true =>
    rw [if_pos rfl] at q9;rw [if_pos rfl];refine thn (he _ s9 τ8 H9 _ I9 q9) fun _ s10 ⟨τ10,H10,I10,q10⟩=>?_;exact again I10 q10
 exact codeAny_compStart_list (loop _ I4 st4) (T.self X.A 0 _ _ _ st4 (loop _ I4 st4))
theorem yS{pos:Pos}{wi2:TI}{g2:TG}{tts2:TT}{te:TE}(N':List Str)(ix:List (Option Nat))(hc:X.calm=true)(hi:PI X t1 i1 wi)
  (blk:∀s H fp pn,PG (bp X N' scope s H fp pn) t1 g/\PIf (bp X N' scope s H fp pn) f1 tts/\PI (bp X N' scope s H fp pn) t2 i2 wi2/\PG (bp X N' scope s H fp pn) t2 g2/\PIf (bp X N' scope s H fp pn) f2 tts2/\PE (bp X N' scope s H fp pn) elt te)
  (chk:lH X.env.scope X.N scope N' ix=true) (hs:∀x,foldedSetIterable i1 X.env x=pure x:=by intro _;rfl) (hs2:∀(env:Env) x,foldedSetIterable i2 env x=pure x:=by intro _ _;rfl) :
  PE X (.ListComp elt [⟨t1,i1,f1,0⟩,⟨t2,i2,f2,0⟩] scope pos) (xj ix wi g tts fun D=>Bc wi2 g2 tts2 (Bb te D)):=by
 intro pins s σ H Q I hw;rw [eval_ListComp]
 refine uT (use:=none) hc (lI chk) hi (fun s H fp pn D=>?_) hs I hw fun D C H' s' I' q hm hn h1 h2 h3 h4 h5=>?_
 .obtain⟨b1,b2,b3,b4,b5,b6⟩:=blk s H fp pn;exact⟨b1,b2,Be (Y:=bp X N' scope s H fp pn) rfl hc b3 b4 b5 (Bd rfl b6) (hs2 _)⟩
 .obtain⟨m,hm⟩:=hm;refine⟨m,hm,fun h' sb=>⟨.ref D,H',?_,rfl,q⟩⟩;exact I'.turned (t':=s'.toks) (fun b o hb e=>(sb.2 b hb).trans e) hn h2 (.inr h1) h3 h5
end
theorem kpt{O O1 O2:Addr->Prop}{H H1 H2:Hp}(a:aL O H O1 H1)(b:aL O1 H1 O2 H2):aL O H O2 H2:=fun c o n e=>b c o (a c o n e).1 (a c o n e).2
structure Dp (ix:List (Option Nat)) (ρ1:PSt) (n:Nat) (it:Nat->D) (g:PTG) (pt:PTT) (pi2:PTI) (g2:PTG) (pt2:PTT) (pe:PTE) (Q:PKt):Prop where
 ex:∃I:Nat->List D->PSt->Prop,I 0 [] (bZ ix ρ1) /\
  (∀k ys τ d,k<n->d=it k->I k ys τ->g (.dat d) τ fun τ2=>pt τ2 fun ok τ3=>ji ok (pi2 τ3 fun n2 it2 τ4=>∃I2:Nat->List D->PSt->Prop,I2 0 ys τ4 /\
   (∀j zs τ d,j<n2->d=it2 j->I2 j zs τ->g2 (.dat d) τ fun τ5=>pt2 τ5 fun ok τ6=>ji ok (pe τ6 fun p τ7=>zs.length<1000000/\I2 (j+1) (zs++[p.d]) τ7) (I2 (j+1) zs τ6))/\∀zs τ,I2 n2 zs τ->I (k+1) zs τ) (I (k+1) ys τ3)) /\
  ∀ys τ,I n ys τ->Q (.own ys) (fg ix ρ1 τ)
def zG(ix:List (Option Nat))(pi:PTI)(g:PTG)(pt:PTT)(pi2:PTI)(g2:PTG)(pt2:PTT)(pe:PTE):PTE:=fun ρ Q=>pi ρ fun n it ρ1=>C9 ix ρ1=true/\Dp ix ρ1 n it g pt pi2 g2 pt2 pe Q
theorem yT{K:PySem.W.Frag}{ix:List (Option Nat)}{wi wi2:TI}{pi pi2:PTI}{g g2:TG}{pg pg2:PTG}{tts tts2:TT}{pt pt2:PTT}{te:TE}{pe:PTE}(hix:zx ix=true)(hi:LI K wi pi)(hg:∀fs:List Nat,(∀k∈fs,k∈wN ix)->LGd K fs g pg)(ht:LT K tts pt)
  (hi2:LI K wi2 pi2) (hg2:∀fs:List Nat,(∀k∈fs,k∈wN ix)->LGd K fs g2 pg2) (ht2:LT K tts2 pt2) (he:LE K te pe) :
  LE K (xj ix wi g tts fun D=>Bc wi2 g2 tts2 (Bb te D)) (zG ix pi pg pt pi2 pg2 pt2 pe):=fun A ρ σ H Q Q' R q k=>hi A ρ σ H _ _ R q fun J H1 n it ρ1 q1 f1 R1 W D hD=>by
 obtain⟨hcap,⟨I,i0,turn,after⟩⟩:=q1
 let τρ0:=bZ ix ρ1
 let τσ0:=qk ix σ
 let Ai:Addr->Prop:=fun b=>A b\/b=D\/(Wr ρ1 σ b/\¬ Wr τρ0 τσ0 b)
 let H0':=upd H1 D (.lst [])
 have wsub:∀b,Wr τρ0 τσ0 b->Wr ρ1 σ b:=fun b ⟨m,p,e,o,s⟩=>by
  obtain⟨j,h1,h2⟩:=dq e;obtain⟨v,hv,_⟩:=R1.get j p h2;have:=dr h1 hv;rw [s] at this;cases this;exact⟨j,p,h2,o,hv⟩
 have nD:¬ Wr ρ1 σ D:=fun z=>R1.wr z hD
 have oosub:∀b,OO Ai τρ0 τσ0 b->OO A ρ1 σ b\/b=D:=fun b z=>by
  rcases z with (z|z|z)|z
  .exact .inl (.inl z)
  .exact .inr z
  .exact .inl (.inr z.1)
  .exact .inl (.inr (wsub b z))
 have kD:aL (OO A ρ1 σ) H1 (OO Ai τρ0 τσ0) H0':=fun b o nn e=>by
  refine⟨fun z=>?_,?_⟩
  .rcases oosub b z with z|z
   .exact nn z
   .rw [z,hD] at e;cases e
  .rw [show H0' b=H1 b from aE (a8 e hD)];exact e
 have Ri:Rel K Ai τρ0 τσ0 H0':=by
  refine⟨by show (bZ ix ρ1).length=(qk ix σ).length;unfold bZ qk;rw [length_map,length_map],fun m p e=>?_,fun m l p q v e1 e2 o1 o2 s1 s2=>?_,fun b z=>?_,fun b z w=>?_⟩
  .obtain⟨j,h1,h2⟩:=dq e;obtain⟨v,hv,r⟩:=R1.get j p h2;refine⟨v,dr h1 hv,r.keeps kD fun ow a ea=>?_⟩;subst ea;exact aE (fun z=>nD (by rw [<- z];exact⟨j,p,h2,ow,hv⟩))
  .obtain⟨j,h1,h2⟩:=dq e1;obtain⟨j',h3,h4⟩:=dq e2;obtain⟨v1,hv1,_⟩:=R1.get j p h2;obtain⟨v2,hv2,_⟩:=R1.get j' q h4;have t1:=dr h1 hv1;have t2:=dr h3 hv2;rw [s1] at t1;rw [s2] at t2;cases t1;cases t2;have:=R1.dj j j' p q _ h2 h4 o1 o2 hv1 hv2;subst this;exact lm hix h1 h3
  .rcases z with z|z|z
   .intro e
    by_cases zz:b=D
    .exact R1.dom b z (by rw [zz];exact hD)
    .rw [show H0' b=H1 b from aE zz] at e;exact R1.dom b z e
   .rw [z];show upd H1 D _ D≠none;rw [aJ];exact nofun
   .intro e;rw [show H0' b=H1 b from aE (fun zz=>nD (by rw [<- zz];exact z.1))] at e;exact R1.wr z.1 e
  .rcases z with z|z|z
   .exact R1.sep b z (wsub b w)
   .rw [z] at w;exact nD (wsub D w)
   .exact z.2 w
 let fxi:List (Nat×V):=(wN ix).filterMap fun m=>match (τσ0[m]?) with|some (some v)=>some (m,v)|_=>none
 have hfx:∀p∈fxi,τσ0[p.1]?=some (some p.2):=fun p hp=>by
  obtain⟨m,hm,e⟩:=mem_filterMap.mp hp
  split at e
  .rename_i v ev;cases e;exact ev
  .cases e
 have hfs:∀m∈fxi.map Prod.fst,m∈wN ix:=fun m hm=>by
  obtain⟨p,hp,rfl⟩:=mem_map.mp hm;obtain⟨m',hm',e⟩:=mem_filterMap.mp hp
  split at e
  .cases e;exact hm'
  .cases e
 have hgi:=hg (fxi.map Prod.fst) hfs;have hgi2:=hg2 (fxi.map Prod.fst) hfs
 have fxget:∀(m j:Nat) (v:V),ix[m]?=some (some j)->σ[j]?=some (some v)->(m,v)∈fxi:=fun m j v h1 h2=>by
  refine mem_filterMap.mpr ⟨m,?_,?_⟩
  .unfold wN;refine mem_filter.mpr ⟨mem_range.mpr (List.getElem?_eq_some_iff.mp h1).1,?_⟩;rw [getD_eq_getElem?_getD,h1];rfl
  .show (match (qk ix σ)[m]? with|some (some v)=>some (m,v)|_=>none)=_;rw [dr h1 h2]
 let Rr:Addr->Prop:=fun b=>Wr τρ0 τσ0 b\/b=D
 have hRr:∀b,Rr b->OO Ai τρ0 τσ0 b:=fun b z=>z.elim (fun z=>.inr z) (fun z=>.inl (.inr (.inl z)));have F0:fe fxi Rr H0' τρ0 τσ0 H0':=⟨fun _ _ _ h=>h,fun _ h=>h,fun b w=>.inl (.inl w),hfx⟩
 refine⟨fun i m τ H2=>i+m=n/\∃ys τρ xs,I i ys τρ/\Rel K Ai τρ τ H2/\fe fxi Rr H0' τρ τ H2/\H2 D=some (.lst xs)/\FVs K (OO Ai τρ τ) H2 xs ys/\∀b,Wr τρ τ b->Wr τρ0 τσ0 b,
  ⟨n,Nat.zero_add n,[],τρ0,[],i0,Ri,F0,aJ,.nil,fun _ h=>h⟩,fun i m τ H2 ⟨him,ys,τρ,xs,iv,r2,F2,eD,fD,hw⟩=>?_⟩
 have kk:aL (OO A ρ1 σ) H1 (OO Ai τρ τ) H2:=fun b o nn e=>(F2.keepsR hRr) b o (kD b o nn e).1 (kD b o nn e).2;obtain⟨go,stop⟩:=W _ H2 kk r2.dom2
 by_cases hk:i<n
 .obtain⟨g1,g2⟩:=go i hk;refine .inr ⟨g1,fun x H3 y=>?_⟩;obtain⟨gr,fv⟩:=g2 x H3 y;have AiD:Ai D:=.inr (.inl rfl);refine hgi fxi Ai Rr H0' τρ τ H3 _ x _ _ rfl (F2.fr gr.fr) (r2.gr gr) fv (turn i ys τρ _ hk rfl iv) fun τρ2 τ2 q2 r3 F3 w3=>?_;refine ht Ai τρ2 τ2 H3 _ _ r3 q2 fun ok H5 τρ3 q3 f5 r5=>?_;have F5:=F3.fr f5;have fD5:FVs K (OO Ai τρ3 τ2) H5 xs ys:=((fD.keeps (gr.fr (ρ:=τρ) (σ:=τ)).keeps).keeps (aL.less fun b z=>z.imp id (w3 b))).keeps f5.keeps
  have eD5:H5 D=some (.lst xs):=f5.kp D _ (r3.sep D AiD) (gr D _ eD)
  cases ok with
  | true =>
   refine hi2 Ai τρ3 τ2 H5 _ _ r5 q3 fun J2 H6 n2 it2 τρ4 q4 f6 r6 W2=>?_;obtain⟨I2,j0,turn2,after2⟩:=q4;have F6:=F5.fr f6;have eD6:H6 D=some (.lst xs):=f6.kp D _ (r5.sep D AiD) eD5;have fD6:=fD5.keeps (f6.keeps (A:=Ai));have hw6:∀b,Wr τρ4 τ2 b->Wr τρ0 τσ0 b:=fun b z=>hw b (w3 b (f5.ow b (f6.ow b z)))
   refine⟨fun j l τ' H'=>j+l=n2/\∃zs τρ' xs',I2 j zs τρ'/\Rel K Ai τρ' τ' H'/\fe fxi Rr H0' τρ' τ' H'/\H' D=some (.lst xs')/\FVs K (OO Ai τρ' τ') H' xs' zs/\(∀b,Wr τρ' τ' b->Wr τρ0 τσ0 b)/\aL (OO Ai τρ4 τ2) H6 (OO Ai τρ' τ') H',
    ⟨n2,Nat.zero_add n2,ys,τρ4,xs,j0,r6,F6,eD6,fD6,hw6,fun b o n e=>⟨n,e⟩⟩,fun j l τ' H7 ⟨hjl,zs,τρ',xs',jv,r7,F7,eD7,fD7,hw7,kk7⟩=>?_⟩
   obtain⟨go2,stop2⟩:=W2 _ H7 kk7 r7.dom2
   by_cases hj:j<n2
   .obtain⟨g1',g2'⟩:=go2 j hj;refine .inr ⟨g1',fun y H8 yy=>?_⟩;obtain⟨gr8,fv8⟩:=g2' y H8 yy;refine hgi2 fxi Ai Rr H0' τρ' τ' H8 _ y _ _ rfl (F7.fr gr8.fr) (r7.gr gr8) fv8 (turn2 j zs τρ' _ hj rfl jv) fun τρ9 τ9 q9 r9 F9 w9=>?_;refine ht2 Ai τρ9 τ9 H8 _ _ r9 q9 fun ok2 H10 τρ10 q10 f10 r10=>?_;have F10:=F9.fr f10;have k1:=(gr8.fr (ρ:=τρ') (σ:=τ')).keeps (A:=Ai);have k2:aL (OO Ai τρ' τ') H8 (OO Ai τρ9 τ9) H8:=aL.less fun b z=>z.imp id (w9 b)
    have k3:=f10.keeps (A:=Ai);have fD10:FVs K (OO Ai τρ10 τ9) H10 xs' zs:=fD7.keeps (kpt k1 (kpt k2 k3));have eD10:H10 D=some (.lst xs'):=f10.kp D _ (r9.sep D AiD) (gr8 D _ eD7)
    cases ok2 with
    | true =>
     refine he Ai τρ10 τ9 H10 _ _ r10 q10 fun v H11 p τρ11 q11 f11 o11=>?_;obtain⟨r11,fv11⟩:=o11.frz;have F11:=F10.fr f11;have eD11:H11 D=some (.lst xs'):=f11.kp D _ (r10.sep D AiD) eD10;have kw:aL (OO Ai τρ11 τ9) H11 (OO Ai τρ11 τ9) (upd H11 D (.lst (xs'++[v]))):=fun b o nn e=>⟨nn,by rw [aE (fun z=>nn (by rw [z];exact .inl AiD))];exact e⟩
     refine⟨xs',eD11,?_,l - 1,by omega,by omega,zs++[p.d],τρ11,xs'++[v],q11.2,r11.amb AiD,⟨fun b o nn e=>?_,fun b z=>?_,F11.ow,F11.fx⟩,aJ,((fD10.keeps f11.keeps).append (.cons fv11 .nil)).keeps kw,fun b z=>hw7 b (w9 b (f10.ow b (f11.ow b z))),kpt kk7 (kpt k1 (kpt k2 (kpt k3 (kpt f11.keeps kw))))⟩
     .have:xs'.length=zs.length:=fD10.length;have:=q11.1;exact lt_of_lt_of_le (by omega:xs'.length<1000000) (sz _ (Nat.le_refl _))
     .rw [aE (fun z=>nn (.inr z))];exact F11.kp b o nn e
     .by_cases zz:b=D
      .rw [zz,aJ];exact nofun
      .rw [aE zz];exact F11.dm b z
    | false=>exact⟨l - 1,by omega,by omega,zs,τρ10,xs',q10,r10,F10,eD10,fD10,fun b z=>hw7 b (w9 b (f10.ow b z)),kpt kk7 (kpt k1 (kpt k2 k3))⟩
   .have e:j=n2:=by omega
    subst e;exact .inl ⟨stop2,m - 1,by omega,by omega,zs,τρ',xs',after2 zs τρ' jv,r7,F7,eD7,fD7,hw7⟩
  | false=>exact⟨m - 1,by omega,by omega,ys,τρ3,xs,q3,r5,F5,eD5,fD5,fun b z=>hw b (w3 b (f5.ow b z))⟩
 .have e:i=n:=by omega
  subst e;refine .inl ⟨stop,?_⟩;have q':=after ys τρ iv
  have cap:∀(m j:Nat),ix[m]?=some (some j)->∃p v,ρ1[j]?=some (some p)/\σ[j]?=some (some v)/\τ[m]?=some (some v):=fun m j e=>by
   have h1:=all_eq_true.mp hcap _ (mem_of_getElem? e);have h1:(match ρ1[j]? with|some (some _)=>true|_=>false)=true:=h1
   split at h1
   .rename_i p ep;obtain⟨v,hv,_⟩:=R1.get j p ep;exact⟨p,v,ep,hv,F2.fx _ (fxget m j v e hv)⟩
   .cases h1
  have get':∀(j:Nat) (p:PV),(fg ix ρ1 τρ)[j]?=some (some p)->(∃m v,ix[m]?=some (some j)/\σ[j]?=some (some v)/\τ[m]?=some (some v)/\τρ[m]?=some (some p))\/(some j∉ix/\ρ1[j]?=some (some p)):=fun j p e=>by
   by_cases hj:some j∈ix
   .obtain⟨m,hm,em⟩:=getElem_of_mem hj;have em':ix[m]?=some (some j):=by rw [getElem?_eq_getElem hm,em]
    obtain⟨p0,v,h1,h2,h3⟩:=cap m j em';rw [oE ix ρ1 τρ j m hix em' (by rw [r2.len];exact (List.getElem?_eq_some_iff.mp h3).1) (List.getElem?_eq_some_iff.mp h1).1] at e;exact .inl ⟨m,v,em',h2,h3,e⟩
   .rw [jr ix ρ1 τρ j hj] at e;exact .inr ⟨hj,e⟩
  have nocap:∀(j:Nat) (p:PV) (b:Addr),some j∉ix->ρ1[j]?=some (some p)->p.isOwn=true->σ[j]?=some (some (.ref b))->¬ Wr τρ0 τσ0 b:=fun j p b hj e o s ⟨m,q,e1,o1,s1⟩=>by
   obtain⟨j',h1,h2⟩:=dq e1;obtain⟨v,hv,_⟩:=R1.get j' q h2;have:=dr h1 hv;rw [s1] at this;cases this;have:=R1.dj j j' p q _ e h2 o o1 s hv;subst this;exact hj (mem_of_getElem? h1)
  have w':∀b,Wr (fg ix ρ1 τρ) σ b->Wr τρ τ b\/(Wr ρ1 σ b/\¬ Wr τρ0 τσ0 b):=fun b ⟨j,p,e,o,s⟩=>by
   rcases get' j p e with ⟨m,v,h1,h2,h3,h4⟩|⟨hj,h1⟩
   .rw [s] at h2;cases h2;exact .inl ⟨m,p,h4,o,h3⟩
   .exact .inr ⟨⟨j,p,h1,o,s⟩,nocap j p b hj h1 o s⟩
  have oo':∀b,OO (cP A D) (fg ix ρ1 τρ) σ b->OO Ai τρ τ b:=fun b z=>by
   rcases z with (z|z)|z
   .exact .inl (.inl z)
   .exact .inl (.inr (.inl z))
   .rcases w' b z with z|z
    .exact .inr z
    .exact .inl (.inr (.inr z))
  have kp1:∀b o,¬ Wr τρ0 τσ0 b->b≠D->H1 b=some o->H2 b=some o:=fun b o n1 n2 e=>F2.kp b o (fun z=>z.elim n1 n2) (by rw [show H0' b=H1 b from aE n2];exact e);have k1:aL (OO A ρ1 σ) H1 (OO (cP A D) (fg ix ρ1 τρ) σ) H2:=fun b o nn e=>⟨fun z=>(kk b o nn e).1 (oo' b z),(kk b o nn e).2⟩
  have AiD:Ai D:=.inr (.inl rfl)
  have R':Rel K (cP A D) (fg ix ρ1 τρ) σ H2:=by
   refine⟨by rw [ll];exact R1.len,fun j p e=>?_,fun j l p q v e1 e2 o1 o2 s1 s2=>?_,fun b z=>?_,fun b z w=>?_⟩
   .rcases get' j p e with ⟨m,v,h1,h2,h3,h4⟩|⟨hj,h1⟩
    .obtain⟨v',hv',r⟩:=r2.get m p h4;rw [h3] at hv';cases hv';exact⟨v,h2,r.keeps (aL.less oo') fun _ _ _=>rfl⟩
    .obtain⟨v,hv,r⟩:=R1.get j p h1;refine⟨v,hv,r.keeps k1 fun ow a ea=>?_⟩;subst ea;obtain⟨a',u,e1,e2⟩:=r.ref ow;cases e1;rw [e2];exact kp1 a u (nocap j p a hj h1 ow hv) (fun z=>by rw [z,hD] at e2;cases e2) e2
   .rcases get' j p e1 with ⟨m,v1,h1,h2,h3,h4⟩|⟨hj,h1⟩
    .rw [s1] at h2;cases h2
     rcases get' l q e2 with ⟨m',v2,g1,g2,g3,g4⟩|⟨hl,g1⟩
     .rw [s2] at g2;cases g2;have:=r2.dj m m' p q _ h4 g4 o1 o2 h3 g3;subst this;rw [h1] at g1;cases g1;rfl
     .exfalso;obtain⟨v',hv',r⟩:=r2.get m p h4;rw [h3] at hv';cases hv';obtain⟨a,u,ea,_⟩:=r.ref o1;subst ea;exact nocap l q a hl g1 o2 s2 (hw a ⟨m,p,h4,o1,h3⟩)
    .rcases get' l q e2 with ⟨m',v2,g1,g2,g3,g4⟩|⟨hl,g1⟩
     .rw [s2] at g2;cases g2;exfalso;obtain⟨v',hv',r⟩:=r2.get m' q g4;rw [g3] at hv';cases hv';obtain⟨a,u,ea,_⟩:=r.ref o2;subst ea;exact nocap j p a hj h1 o1 s1 (hw a ⟨m',q,g4,o2,g3⟩)
     .exact R1.dj j l p q v h1 g1 o1 o2 s1 s2
   .rcases z with z|z
    .exact r2.dom b (.inl z)
    .rw [z,eD];exact nofun
   .rcases w' b w with w|w
    .rcases z with z|z
     .exact r2.sep b (.inl z) w
     .rw [z] at w;exact r2.sep D AiD w
    .rcases z with z|z
     .exact R1.sep b z w.1
     .rw [z] at w;exact nD w.1
  have f2:Fr ρ1 σ H1 (fg ix ρ1 τρ) H2:=by
   refine⟨fun b o nn e=>kp1 b o (fun z=>nn (wsub b z)) (fun z=>by rw [z,hD] at e;cases e) e,fun b z=>F2.dm b ?_,fun b z=>?_⟩
   .intro e
    by_cases zz:b=D
    .exact z (by rw [zz];exact hD)
    .rw [show H0' b=H1 b from aE zz] at e;exact z e
   .rcases w' b z with z|z
    .exact wsub b (hw b z)
    .exact z.1
  have hD0:H D=none:=by
   cases e:H D with
   | none=>rfl
   | some o=>exact absurd hD (f1.dm D (by rw [e];exact nofun))
  exact k _ H2 (.own ys) _ q' (f1.trans f2) ⟨D,xs,rfl,fun z=>R1.dom D z hD,hD0,eD,R',fD.keeps (aL.less oo')⟩
section
variable {prog:Program}{w:World}{A:Around}{E:Value->Shared->Prop}{s:Shared}
theorem qH{it t:Addr}{items:Array Value}(hne:t≠it):∀(n i:Nat) (s:Shared) (Q:List Value->Shared->Prop),s.heap.IsListIter it t i->s.heap.IsList t items->i+n<=items.size ->
  (∀h',h'.IsListIter it t (i+n)->Heap.SameBut it s.heap h'->Q ((items.toList.drop i).take n) { s with heap:=h' })->wpAny (model prog w) A (draw (.ref it) n) Q E s
 | 0,i,s,Q,hit,_,_,hQ=>by
  show wpAny _ _ (pure []) Q E s;exact wpAny_pure (by simpa using hQ s.heap hit (Heap.SameBut.refl ..))
 | n+1,i,s,Q,hit,ht,hle,hQ=>by
  have hlt:i<items.size:=by omega
  show wpAny _ _ (pyNext (.ref it) >>= _) Q E s;refine wpAny_bind (wpAny_pyNext_list_item hit ht (x:=items[i]) (by simp [hlt]) fun h₁ hit₁ hs₁=>?_);refine wpAny_bind (wpAny_holding (qH hne n (i+1) _ _ hit₁ (ht.extBut hs₁.extBut hne) (by omega) fun h₂ hit₂ hs₂=>wpAny_pure ?_));have hd:items.toList.drop i=items[i]::items.toList.drop (i+1):=by simp [drop_eq_getElem_cons,hlt]
  have:=hQ h₂ (by rw [show i+(n+1)=i+1+n by omega];exact hit₂) (hs₁.trans hs₂);rw [hd,take_succ_cons] at this;exact this
theorem kT{t:Addr}{items:Array Value}{Q:List Value->Shared->Prop}(hh:A.handled=none)(ht:s.heap.IsList t items)
  (hQ:∀h',Heap.ExtBut s.heap.objs.size s.heap h'->Q items.toList { s with heap:=h' }):wpAny (model prog w) A (unpackItems (.ref t) items.size none) Q E s:=by
 have hlt:t≠s.heap.objs.size:=by obtain⟨o,ho,_⟩:=ht;exact ne_of_lt (Heap.lt_size ho)
 unfold unpackItems
 refine wpAny_bind ?_
 .unfold notIterableAtAll;refine wpAny_bind (wpAny_specialOf ht.typeIs PySem.F.slot_list_iter.lookup ?_);refine wpAny_pure ?_;simp only [false_eq_true,if_false];refine wpAny_bind (wpAny_holding (wpAny_pyIter_list ht ?_));refine wpAny_bind (wpAny_holding (qH hlt items.size 0 _ _ ⟨_,Heap.get?_push_size _ rfl,rfl,rfl⟩ (ht.push _) (by omega) fun h₁ hit₁ hs₁=>?_))
  have hall:List.take items.size (List.drop 0 items.toList)=items.toList:=by
   rw [drop_zero];exact take_of_length_le (by simp)
  rw [hall];rw [if_neg (by simp)];have ht₁:h₁.IsList t items:=(ht.push _).extBut hs₁.extBut hlt;refine wpAny_bind (wpAny_holding (wpAny_pyNext_list_end hh hit₁ ht₁ (by simp) fun h₂ he₂=>?_));simp only [Option.isSome_none,false_eq_true,if_false];refine wpAny_pure (hQ h₂ fun b o hb e=>he₂ b o hb (hs₁.extBut b o hb (Heap.get?_push_of_some _ e)))
theorem j3{env:Env}{elts:List Expr}{x1}{pos:Pos}{t:Addr}{items:Array Value}{Q:Unit->Shared->Prop}(hh:A.handled=none)(ht:s.heap.IsList t items)
  (hn:(assignEach elts env).length=items.size) (hstar:(assignEach elts env).findIdx? (·.1)=none)
  (h:∀h',Heap.ExtBut s.heap.objs.size s.heap h'->wpAny (model prog w) A (assignInOrder ((assignEach elts env).map (·.2)) items.toList) Q E { s with heap:=h' }) :
  wpAny (model prog w) A (assign (.Tuple elts x1 pos) env (.ref t)) Q E s:=by
 rw [assign_Tuple];refine wpAny_bind (wpAny_standAt ?_);unfold unpack;rw [hn,hstar];exact wpAny_bind (wpAny_holding (kT hh ht h))
end
def BL(K:PySem.W.Frag)(n:Nat)(t:TGs):TG:=fun v σ H Q=>∃b a xs,v=.ref a/\Sq b K H a xs/\xs.length=n/\t xs σ H Q
section
variable {X:Cx}
theorem jx(K:PySem.W.Frag)(eK:X.K=K){es:List Expr}{k:Nat}{t:TGs}{n:Nat}{pos:Pos}(hc:X.calm=true)(h:PGs X es t)
  (hn:(assignEach es X.env).length=n:=by rfl) (hst:(assignEach es X.env).findIdx? (·.1)=none:=by rfl):PG X (.Tuple es k pos) (BL K n t):=by
 subst eK;intro pins s σ H v u Q I r hw;obtain⟨b,a,xs,e1,hq,hl,hw⟩:=hw
 cases b with
 | true=>exact B6 hc h hn hst pins s σ H v u Q I r ⟨a,xs,e1,hq,hl,hw⟩
 | false =>
  subst e1;cases r;obtain⟨its,rv,ht,hz⟩:=I.list hq;refine j3 (I.ok.hd hc) ht.isList (by simp [hn,<- hl,rv.length]) hst fun h' hx=>?_;have I1:Inv X pins σ H { s with heap:=h' }:=I.kept (t':=s.toks) fun b o e=>hx b o (ne_of_lt (Heap.lt_size e)) e;exact h pins _ σ H xs _ Q I1 (by simpa using rv) hw
def kU(n:Nat)(gs:yD):PTG:=fun p ρ Q=>match p with|.dat (.tup ds)=>ds.length=n/\gs ds ρ Q|.dat (.lst ds)=>ds.length=n/\gs ds ρ Q|.own ds=>ds.length=n/\gs ds ρ Q|_=>False
end
section
variable {K:PySem.W.Frag}{fs:List Nat}
theorem oO{n:Nat}{gs:TGs}{pgs:yD}(h:LGs K fs gs pgs):LGd K fs (BL K n gs) (kU n pgs):=fun fx A R H0 ρ σ H d v Q Q' hf F r fv q k=>by
 unfold kU at q
 split at q
 .rename_i e;cases e
  cases fv with
  | tup nn e f=>exact⟨true,_,_,rfl,SqT.of e,by rw [f.length];exact q.1,h fx A R H0 ρ σ H _ _ Q Q' hf F r f q.2 k⟩
 .rename_i e;cases e
  cases fv with
  | lst nn e f=>exact⟨false,_,_,rfl,SqL.of e,by rw [f.length];exact q.1,h fx A R H0 ρ σ H _ _ Q Q' hf F r f q.2 k⟩
 .rename_i e;cases e
 .exact q.elim
theorem xk{n:Nat}{gs:TGs}{pgs:yD}(h:LGs K fs gs pgs):LG K fs (BL K n gs) (kU n pgs):=fun fx A R H0 ρ σ H p v Q Q' hf F o q k=>by
 unfold kU at q
 split at q
 .obtain⟨r,fv⟩:=o
  cases fv with
  | tup nn e f=>exact⟨true,_,_,rfl,SqT.of e,by rw [f.length];exact q.1,h fx A R H0 ρ σ H _ _ Q Q' hf F r f q.2 fun ρ' σ' q' r' F' _=>k ρ' σ' H q' r' F'⟩
 .obtain⟨r,fv⟩:=o
  cases fv with
  | lst nn e f=>exact⟨false,_,_,rfl,SqL.of e,by rw [f.length];exact q.1,h fx A R H0 ρ σ H _ _ Q Q' hf F r f q.2 fun ρ' σ' q' r' F' _=>k ρ' σ' H q' r' F'⟩
 .obtain⟨r,fv⟩:=o.frz
  cases fv with
  | lst nn e f=>exact⟨false,_,_,rfl,SqL.of e,by rw [f.length];exact q.1,h fx A R H0 ρ σ H _ _ Q Q' hf F r f q.2 fun ρ' σ' q' r' F' _=>k ρ' σ' H q' r' F'⟩
 .exact q.elim
end
def iG(d:D)(xs:List D):Prop:=d=.lst xs\/d=.tup xs
theorem zH{d:D}{xs:List D}{Q:PV->Prop}(h:iG d xs)(q:Q (.dat (.int xs.length))):eE [d] Q:=by
 rcases h with rfl|rfl <;> exact q
theorem kW{d:D}{xs:List D}{i:Int}{Q:PV->Prop}(h:iG d xs)(q:∃x,atI xs i=some x/\Q (.dat x)):fIx d (.int i) Q:=by
 rcases h with rfl|rfl <;> exact q
theorem zI{d:D}{xs:List D}{n:Nat}{gs:yD}{ρ:PSt}{Q:PSt->Prop}(h:iG d xs)(q:xs.length=n/\gs xs ρ Q):kU n gs (.dat d) ρ Q:=by
 rcases h with rfl|rfl <;> exact q
theorem xm{d:D}{xs:List D}{F:Nat->(Nat->D)->Prop}(h:iG d xs)(q:F xs.length (itD xs)):(match EF d with|some (n,it)=>F n it|none=>False):=by
 rcases h with rfl|rfl <;> exact q
theorem iG.lst(xs:List D):iG (.lst xs) xs:=.inl rfl
theorem iG.tup(xs:List D):iG (.tup xs) xs:=.inr rfl
theorem iG.items{d:D}{xs:List D}(h:iG d xs):aB d=xs:=by rcases h with rfl|rfl <;> rfl
def nSt:Expr->Bool
 | .Starred _ _=>false
 | _=>true
theorem i7{e:Expr}{es:List Expr}{env:Env}(h:nSt e=true):starEach (e::es) env=(false,eval e env)::starEach es env:=by
 cases e <;> first|rfl|cases h
theorem iy{env:Env}{pos:Pos}:∀{es:List Expr},es.all nSt=true->(backTo pos (starEach es env)).any (·.1)=false
 | [],_=>rfl
 | e::es,h=>by
  rw [all_cons,and_eq_true] at h;rw [i7 h.1];show (false || (backTo pos (starEach es env)).any (·.1))=false;rw [iy h.2];rfl
section
variable {X:Cx}{k:Nat}{x:Str}{ps:List Str}{sp:Sp}{e:Expr}{es:List Expr}{te:TE}{t:TA}{p pos:Pos}{dvs:List V}{C:Addr}{id T:String}{r:List V->Hp->VK->Prop}
theorem paC(ha:PE X e te)(hr:PA X es t)(hn:nSt e=true:=by rfl):PA X (e::es) (bg te t):=Ah ha hr (i7 hn)
theorem aw(C:Cal X.prog X.w X.K X.mg X.base k x ps sp)(hr:iI k X.A)(ha:PA X (e::es) t)(hg:Gl X x:=by rfl)(hdb:(x == ("__debug__":Str))=false:=by decide)(hn:nSt e=true:=by rfl)(hp:es.all nSt=true:=by rfl) :
  PE X (.Call (.Name x p) (e::es) [] pos) (fc sp [] E0 t):=CH C hr ha hg hdb (i7 hn) (iy hp)
theorem yU(j:Nat)(C:CS X.prog X.w X.K X.mg X.base k x ps dvs sp)(hr:iI k X.A)(hj:j<=dvs.length)(ha:PA X (e::es) t)(hg:Gl X x:=by rfl)(hdb:(x == ("__debug__":Str))=false:=by decide)(hn:nSt e=true:=by rfl)(hp:es.all nSt=true:=by rfl) :
  PE X (.Call (.Name x p) (e::es) [] pos) (fc sp (dvs.drop j) E0 t):=AJ j C hr hj ha hg hdb (i7 hn) (iy hp)
theorem tY(M:CV X.prog X.w X.K X.mg X.base k C x ps sp)(hr:iI (k+1) X.A)(ha:PA X (e::es) t)(hg:Gl X x:=by rfl)(hdb:(x == ("__debug__":Str))=false:=by decide)(hn:nSt e=true:=by rfl)(hp:es.all nSt=true:=by rfl) :
  PE X (.Call (.Name x p) (e::es) [] pos) (ye C sp [] E0 t):=AK M hr ha hg hdb (i7 hn) (iy hp)
theorem am(hc:cC X (.builtin id) r)(hg:Gl X x)(hm:X.mg x=none)(hv:bootBuiltins x=some (.builtin id))(ha:PA X (e::es) t)(hnn:x≠"__name__":=by decide)(hdb:(x == ("__debug__":Str))=false:=by decide)(hn:nSt e=true:=by rfl)(hp:es.all nSt=true:=by rfl) :
  PE X (.Call (.Name x p) (e::es) [] pos) (tCB r t):=yh hc hg hm hv ha hnn hdb (i7 hn) (iy hp)
theorem bx(hc:cC X (.type T) r)(hg:Gl X x)(hm:X.mg x=none)(hv:bootBuiltins x=some (.type T))(ha:PA X (e::es) t)(hnn:x≠"__name__":=by decide)(hdb:(x == ("__debug__":Str))=false:=by decide)(hn:nSt e=true:=by rfl)(hp:es.all nSt=true:=by rfl) :
  PE X (.Call (.Name x p) (e::es) [] pos) (tCB r t):=vP hc hg hm hv ha hnn hdb (i7 hn) (iy hp)
end
def plT:Expr->Bool
 | .Call _ _ _ _=>true
 | .Name _ _=>true
 | .Subscript _ _ _=>true
 | .Attribute _ _ _=>true
 | _=>false
theorem Bf{e:Expr}{env:Env}(h:plT e=true):∀whole,isTrue e env whole=(do let v <- whole;standAt e.pos;holding [v] (truthy v)):=by
 cases e <;> first|(intro _;rfl)|cases h
theorem c6{X:Cx}{e:Expr}{t:TE}(h:PE X e t)(hp:plT e=true:=by rfl):PT X e (tB t):=B0 h (Bf hp)
def iH(a b:List Nat):Bool:=decide (0<=fnd b a 0)
def dN(ps:List (List Nat))(i:Nat):Bool:=!decide (pw ps i∈ps.take i) && !(ps.filter fun o=>decide ((pw ps i).length<o.length)).any fun o=>iH (pw ps i) o
theorem lO{a b:List Nat}:iH a b=true ↔ ∃k,stA b a k=true:=by
 unfold iH
 constructor
 .intro h;have h0:fnd b a 0≠-1:=fun z=>by rw [z] at h;exact absurd (of_decide_eq_true h) (by decide)
  obtain⟨k,_,_,h1,_⟩:=tE h0;exact⟨k,h1⟩
 .rintro⟨k,hk⟩
  by_cases h0:fnd b a 0=-1
  .rw [yr h0 k (zero_le _)] at hk;cases hk
  .obtain⟨j,e,_⟩:=tE h0;rw [e];exact decide_eq_true (by omega)
theorem yV(a:List Nat):iH a a=true:=lO.mpr ⟨0,decide_eq_true ⟨by omega,by rw [drop_zero,take_length]⟩⟩
theorem xn{a b c:List Nat}(h1:iH a b=true)(h2:iH b c=true):iH a c=true:=by
 obtain⟨k1,e1⟩:=lO.mp h1;obtain⟨k2,e2⟩:=lO.mp h2;obtain⟨l1,t1⟩:=of_decide_eq_true e1;obtain⟨l2,t2⟩:=of_decide_eq_true e2;refine lO.mpr ⟨k2+k1,decide_eq_true ⟨by omega,?_⟩⟩
 have hb:b.drop k1=(c.drop (k2+k1)).take (b.length - k1):=by
  rw [<- t2,drop_take,drop_drop,t2]
 have ha:a=((c.drop (k2+k1)).take (b.length - k1)).take a.length:=by rw [<- hb,t1]
 rw [take_take,show min a.length (b.length - k1)=a.length by omega] at ha;exact ha.symm
theorem gn{ps:List (List Nat)}{i:Nat}:dN ps i=true ↔ pw ps i∉ps.take i/\∀o∈ps,(pw ps i).length<o.length->iH (pw ps i) o=false:=by
 unfold dN;rw [and_eq_true,Bool.not_eq_true',Bool.not_eq_true',decide_eq_false_iff_not,any_eq_false]
 constructor
 .rintro⟨h1,h2⟩;refine⟨h1,fun o ho hl=>?_⟩;have:=h2 o (mem_filter.mpr ⟨ho,decide_eq_true hl⟩);simpa using this
 .rintro⟨h1,h2⟩;refine⟨h1,fun o ho=>?_⟩;obtain⟨m1,m2⟩:=mem_filter.mp ho;rw [h2 o m1 (of_decide_eq_true m2)];decide
theorem xo{ps:List (List Nat)}(hw:∀w∈ps,w.length<=60):∀(m i:Nat),i<ps.length->(61 - (pw ps i).length)*(ps.length+1)+i<=m->∃j,j<ps.length/\dN ps j=true/\iH (pw ps i) (pw ps j)=true:=by
 intro m
 induction m with
 | zero =>
  intro i hi h;have hl:=hw _ (mem_of_getElem? (gO hi));have:0<(61 - (pw ps i).length)*(ps.length+1):=mul_pos (by omega) (by omega);omega
 | succ m ih =>
  intro i hi h;have hl:=hw _ (mem_of_getElem? (gO hi))
  by_cases hk:dN ps i=true
  .exact⟨i,hi,hk,yV _⟩
  .by_cases h1:pw ps i∈ps.take i
   .obtain⟨i',hi'⟩:=mem_iff_getElem?.mp h1
    have hlt:i'<i:=by
     have:=(List.getElem?_eq_some_iff.mp hi').1;rw [length_take] at this;omega
    have he:pw ps i'=pw ps i:=by
     rw [getElem?_take,if_pos hlt] at hi';have:=gO (ws:=ps) (k:=i') (by omega);rw [hi'] at this;exact (Option.some.inj this).symm
    obtain⟨j,a1,a2,a3⟩:=ih i' (by omega) (by rw [he];omega);exact⟨j,a1,a2,by rw [<- he];exact a3⟩
   .have h2:∃o∈ps,(pw ps i).length<o.length/\iH (pw ps i) o=true:=by
     apply Classical.byContradiction;intro z;refine hk (gn.mpr ⟨h1,fun o ho hlo=>?_⟩)
     cases hs:iH (pw ps i) o with
     | false=>rfl
     | true=>exact absurd ⟨o,ho,hlo,hs⟩ z
    obtain⟨o,ho,hlo,hs⟩:=h2;obtain⟨i',hi'⟩:=mem_iff_getElem?.mp ho;have hlt:i'<ps.length:=(List.getElem?_eq_some_iff.mp hi').1
    have he:pw ps i'=o:=by
     have:=gO hlt;rw [hi'] at this;exact (Option.some.inj this).symm
    have hm:(61 - o.length+1)*(ps.length+1)<=(61 - (pw ps i).length)*(ps.length+1):=mul_le_mul_right _ (by have:=hw o ho;omega);rw [Nat.add_mul,Nat.one_mul] at hm;obtain⟨j,a1,a2,a3⟩:=ih i' hlt (by rw [he];omega);rw [he] at a3;exact⟨j,a1,a2,xn hs a3⟩
def se(a b:List Nat)(k:Nat):Prop:=k<min a.length b.length/\b.take k <:+ a/\∀j,j<min a.length b.length->b.take j <:+ a->j<=k
theorem se.uniq{a b:List Nat}{j k:Nat}(x:se a b j)(y:se a b k):j=k:=le_antisymm (y.2.2 j x.1 x.2.1) (x.2.2 k y.1 y.2.1)
def eG(a b:List Nat):Nat:=open Classical in if h:∃k,se a b k then Classical.choose h else 0
theorem xp{a b:List Nat}(ha:0<a.length)(hb:0<b.length):se a b (eG a b):=by
 obtain⟨k,h1,h2,h3⟩:=lJ (fun k=>b.take k <:+ a) (by rw [take_zero];exact nil_suffix) (min a.length b.length) (by omega);have h:∃k,se a b k:=⟨k,h1,h2,h3⟩
 unfold eG;rw [dif_pos h];exact Classical.choose_spec h
theorem oP{a b:List Nat}{k:Nat}(h:se a b k):eG a b=k:=(xp (by have:=h.1;omega) (by have:=h.1;omega)).uniq h
def iM(ps:List (List Nat)):List Nat:=(List.range ps.length).filter (dN ps)
def cH(ps:List (List Nat)):List (List Nat):=(iM ps).map (pw ps)
theorem qI{ps:List (List Nat)}{i:Nat}(h:i∈iM ps):i<ps.length:=mem_range.mp (mem_filter.mp h).1
theorem uU(ps:List (List Nat)):(iM ps).length<=ps.length:=le_trans (length_filter_le ..) (by rw [length_range];omega)
theorem uV{m:Nat}{ps:List (List Nat)}(h:Pcs m ps):Pcs m (cH ps):=fun w hw=>by
 obtain⟨i,hi,rfl⟩:=mem_map.mp hw;exact h _ (hX (qI hi))
theorem uW(ps:List (List Nat)):(cH ps).length<=ps.length:=by unfold cH;rw [length_map];exact uU ps
theorem qJ(ps:List (List Nat)):(iM ps).Pairwise (·<·):=pairwise_lt_range.filter _
def Dq(ws:List (List Nat)):D:=.tup (ws.map fun w=>.tup (ws.map fun v=>.int (eG w v:Int)))
def nD(k:Nat):D:=.int (k:Int)
theorem oQ(w:List Nat):∀ws:List (List Nat),inD (.str w) (ws.map .str)=decide (w∈ws)
 | []=>by simp [inD]
 | v::r=>by
  have ih:=oQ w r;unfold inD at ih ⊢;rw [map_cons,any_cons,ih];show ((v == w) || decide (w∈r))=_
  by_cases h:v=w
  .subst h;simp
  .rw [beq_eq_false_iff_ne.mpr h,Bool.false_or]
   by_cases h2:w∈r
   .rw [decide_eq_true h2,decide_eq_true (mem_cons_of_mem _ h2)]
   .rw [decide_eq_false h2,decide_eq_false (fun z=>(mem_cons.mp z).elim (fun e=>h e.symm) h2)]
theorem xq(ws:List (List Nat)):(ws.map D.str).all D.fl=true:=by rw [all_map];exact all_eq_true.mpr fun _ _=>rfl
theorem zJ(ws:List (List Nat)):(List.range ws.length).map (pw ws)=ws:=by
 apply ext_getElem?;intro k;rw [getElem?_map]
 by_cases hk:k<ws.length
 .rw [getElem?_range hk,gO hk];rfl
 .rw [getElem?_eq_none (by rw [length_range];omega),getElem?_eq_none (by omega)];rfl
theorem yW{β:Type}(f:List Nat->Option β)(ws:List (List Nat)):(List.range ws.length).filterMap (fun k=>f (pw ws k))=ws.filterMap f:=by
 conv=>rhs;rw [<- zJ ws]
 rw [filterMap_map];rfl
theorem jy{α β:Type}(p:α->Bool)(g:α->β):∀l:List α,l.filterMap (fun a=>if p a=true then some (g a) else none)=(l.filter p).map g
 | []=>rfl
 | a::r=>by
  rw [filterMap_cons,filter_cons]
  cases h:p a with
  | true=>simp [jy p g r]
  | false=>simp [jy p g r]
theorem xr(n:Nat):(xW 0 n).length=n:=by unfold xW;rw [length_map,length_range]
theorem sf{n j:Nat}(h:j<(xW 0 n).length):itD (xW 0 n) j=.int (j:Int):=nv (by
 rw [xr] at h;unfold xW;rw [getElem?_map,getElem?_range h];show some (D.int (0+(j:Int)))=_;rw [Int.zero_add])
theorem yX(a b:List Int):deq (.lst (a.map .int)) (.lst (b.map .int))=decide (a=b):=by
 unfold deq;show PyData.eqv (.list (D.pys _)) (.list (D.pys _))=_;rw [lM,lM];simp only [PyData.eqv];exact lG a b
open PySem.Builtin PySem.Builtin.ObjectAttr
open PySem.Builtin PySem.Builtin.ObjectAttr
open PySem.Builtin PySem.Builtin.ObjectAttr
open PySem.Builtin PySem.Builtin.ObjectAttr
theorem xu(d:D):(PV.dat d).d=d:=rfl
theorem xv(ds:List D):(PV.own ds).d=.lst ds:=rfl
theorem xw(c:Str)(ns:List Str)(ds:List D):(PV.ins c ns ds).d=.obj c ns ds:=rfl
theorem Dr(ds:List D):mkL false ds=.own ds:=rfl
theorem Ds(ds:List D):mkL true ds=.dat (.tup ds):=rfl
def pkm(ρ:PSt)(j:Nat):Option PV:=match ρ[j]? with
 | some v=>v
 | none=>none
theorem tZ(v:Option PV)(r:PSt):pkm (v::r) 0=v:=rfl
theorem t0(v:Option PV)(r:PSt)(n:Nat):pkm (v::r) (n+1)=pkm r n:=rfl
theorem qK(ρ:PSt):bZ [] ρ=[]:=rfl
theorem nE(ix:List (Option Nat))(ρ:PSt):bZ (none::ix) ρ=none::bZ ix ρ:=rfl
theorem nF(j:Nat)(ix:List (Option Nat))(ρ:PSt):bZ (some j::ix) ρ=pkm ρ j::bZ ix ρ:=rfl
theorem qL(j:Nat)(ix:List (Option Nat))(ρ:PSt)(t:Option PV)(τ:PSt):fg (some j::ix) ρ (t::τ)=fg ix (ρ.set j t) τ:=rfl
theorem qM(ix:List (Option Nat))(ρ:PSt)(t:Option PV)(τ:PSt):fg (none::ix) ρ (t::τ)=fg ix ρ τ:=rfl
theorem t5(ρ τ:PSt):fg [] ρ τ=ρ:=rfl
def Dt(pe:PTE):PTE:=fun ρ Q=>pe ρ fun p ρ1=>Q (.dat p.d) ρ1
theorem t6{K:PySem.W.Frag}{ta:TE}{pe:PTE}(h:LE K ta pe):LE K ta (Dt pe):=fun A ρ σ H Q Q' R q k=>h A ρ σ H _ Q' R q fun v H' p ρ' q f o=>k v H' (.dat p.d) ρ' q f o.frz
theorem lP{α:Type}{e:α->D}{xs:List α}{k:Nat}(h:k<xs.length):itD (xs.map e) k=e xs[k]:=nv (by rw [getElem?_map,getElem?_eq_getElem h];rfl)
theorem xx{α β:Type}(f:α->β)(xs:List α)(g:Nat->β)(h:∀k (hk:k<xs.length),g k=f xs[k]):(List.range xs.length).map g=xs.map f:=by
 apply ext_getElem?;intro i;rw [getElem?_map,getElem?_map]
 by_cases hi:i<xs.length
 .rw [getElem?_range hi,getElem?_eq_getElem hi];exact congrArg some (h i hi)
 .rw [getElem?_eq_none (by rw [length_range];omega),getElem?_eq_none (by omega)];rfl
section
variable {α:Type}{e:α->D}{xs:List α}{ix:List (Option Nat)}{ρ1:PSt}{g:PTG}{pt:PTT}{pe:PTE}{Q:PKt}
theorem FO(T:PSt->Prop)(f:α->Option D)(h0:T (bZ ix ρ1))
  (hs:∀x∈xs,∀τ,T τ->∀(K1:D->PSt->Prop) (K2:PSt->Prop),(∀d τ',f x=some d->T τ'->K1 d τ')->(∀τ',f x=none->T τ'->K2 τ')->g (.dat (e x)) τ fun τ2=>pt τ2 fun ok τ3=>ji ok (pe τ3 fun p τ4=>K1 p.d τ4) (K2 τ3))
  (hq:∀τ,T τ->Q (.own (xs.filterMap f)) (fg ix ρ1 τ)):mG ix ρ1 (xs.map e).length (itD (xs.map e)) g pt pe Q:=by
 refine cfm T (fun k=>(xs[k]?).bind f) h0 (fun k τ d hk ed t K1 K2 k1 k2=>?_) fun τ t=>?_
 .rw [length_map] at hk;rw [lP hk] at ed;subst ed;have eg:(xs[k]?).bind f=f xs[k]:=by rw [getElem?_eq_getElem hk];rfl
  rw [eg] at k1 k2;exact hs _ (getElem_mem hk) τ t K1 K2 k1 k2
 .have e1:(List.range (xs.map e).length).filterMap (fun k=>(xs[k]?).bind f)=xs.filterMap f:=by
   rw [length_map];have h1:(List.range xs.length).map (fun k=>(xs[k]?).bind f)=xs.map f:=xx f xs _ fun k hk=>by rw [getElem?_eq_getElem hk];rfl
   have h2:∀l:List Nat,l.filterMap (fun k=>(xs[k]?).bind f)=(l.map fun k=>(xs[k]?).bind f).filterMap id:=fun l=>by rw [filterMap_map];rfl
   rw [h2,h1,filterMap_map];rfl
  rw [e1];exact hq τ t
theorem Du(T:PSt->Prop)(f:α->D)(h0:T (bZ ix ρ1))
  (hs:∀x∈xs,∀τ,T τ->∀K1:D->PSt->Prop,(∀τ',T τ'->K1 (f x) τ')->g (.dat (e x)) τ fun τ2=>pe τ2 fun p τ4=>K1 p.d τ4)
  (hq:∀τ,T τ->Q (.own (xs.map f)) (fg ix ρ1 τ)):mG ix ρ1 (xs.map e).length (itD (xs.map e)) g jZ pe Q:=by
 refine FO T (fun x=>some (f x)) h0 (fun x hx τ t K1 K2 k1 k2=>?_) fun τ t=>?_
 .exact hs x hx τ t K1 fun τ' t'=>k1 _ τ' rfl t'
 .rw [show xs.filterMap (fun x=>some (f x))=xs.map f by rw [<- filterMap_eq_map];rfl];exact hq τ t
theorem cm1(f:α->D)
  (hs:∀x∈xs,∀(v:Option PV) (K1:D->PSt->Prop),(∀v',K1 (f x) (v'::(bZ ix ρ1).tail))->g (.dat (e x)) (v::(bZ ix ρ1).tail) fun τ2=>pe τ2 fun p τ4=>K1 p.d τ4)
  (hq:∀v:Option PV,Q (.own (xs.map f)) (fg ix ρ1 (v::(bZ ix ρ1).tail))) (hx:bZ ix ρ1=none::(bZ ix ρ1).tail:=by rfl):mG ix ρ1 (xs.map e).length (itD (xs.map e)) g jZ pe Q:=by
 refine Du (fun τ=>∃v,τ=v::(bZ ix ρ1).tail) f ⟨none,hx⟩ ?_ ?_
 .rintro x hx τ ⟨v,rfl⟩ K1 k1;exact hs x hx v K1 fun v'=>k1 _ ⟨v',rfl⟩
 .rintro τ ⟨v,rfl⟩;exact hq v
end
theorem cfR{ix:List (Option Nat)}{ρ1:PSt}{g:PTG}{pt:PTT}{pe:PTE}{Q:PKt}{n:Nat}{it:Nat->D}(p:Nat->Bool)(f:Nat->D)
  (hs:∀k,k<n->∀(v:Option PV) (K1:D->PSt->Prop) (K2:PSt->Prop),(∀v',p k=true->K1 (f k) (v'::(bZ ix ρ1).tail))->(∀v',p k=false->K2 (v'::(bZ ix ρ1).tail))->g (.dat (it k)) (v::(bZ ix ρ1).tail) fun τ2=>pt τ2 fun ok τ3=>ji ok (pe τ3 fun p τ4=>K1 p.d τ4) (K2 τ3))
  (hq:∀v:Option PV,Q (.own (((List.range n).filter p).map f)) (fg ix ρ1 (v::(bZ ix ρ1).tail))) (hx:bZ ix ρ1=none::(bZ ix ρ1).tail:=by rfl):mG ix ρ1 n it g pt pe Q:=by
 refine cfm (fun τ=>∃v,τ=v::(bZ ix ρ1).tail) (fun k=>if p k=true then some (f k) else none) ⟨none,hx⟩ ?_ ?_
 .rintro k τ d hk rfl ⟨v,rfl⟩ K1 K2 k1 k2;exact hs k hk v K1 K2 (fun v' h=>k1 _ _ (by rw [if_pos h]) ⟨v',rfl⟩) fun v' h=>k2 _ (by rw [if_neg (by rw [h];decide)]) ⟨v',rfl⟩
 .rintro τ ⟨v,rfl⟩;rw [jy];exact hq v
section
variable {α:Type}{e:α->D}{xs:List α}{ρ1:PSt}{g:PTG}{pb:PTS}{nx bk:PSt->Prop}{rt:PV->PSt->Prop}
theorem EY(J:List α->PSt->Prop)(h0:J [] ρ1)
  (hs:∀pre x suf ρ,xs=pre++x::suf->J pre ρ->g (.dat (e x)) ρ fun ρ2=>pb { nx:=J (pre++[x]),rt:=rt,bk:=bk,ct:=J (pre++[x]) } ρ2) (hq:∀ρ,J xs ρ->nx ρ) :
  ∃I:Nat->PSt->Prop,I 0 ρ1/\(∀k ρ d,k<(xs.map e).length->d=itD (xs.map e) k->I k ρ->g (.dat d) ρ fun ρ2=>pb { nx:=I (k+1),rt:=rt,bk:=bk,ct:=I (k+1) } ρ2)/\∀ρ,I (xs.map e).length ρ->nx ρ:=by
 refine⟨fun k ρ=>J (xs.take k) ρ,by show J (xs.take 0) ρ1;rw [take_zero];exact h0,fun k ρ d hk ed hJ=>?_,fun ρ h=>hq ρ (by have h:J (xs.take (xs.map e).length) ρ:=h;rw [length_map,take_length] at h;exact h)⟩;rw [length_map] at hk;rw [lP hk] at ed;subst ed;have ht:xs.take (k+1)=xs.take k++[xs[k]]:=by rw [take_succ,getElem?_eq_getElem hk];rfl
 show g _ ρ fun ρ2=>pb { nx:=J (xs.take (k+1)),rt:=rt,bk:=bk,ct:=J (xs.take (k+1)) } ρ2;rw [ht];exact hs _ _ (xs.drop (k+1)) ρ (by rw [getElem_cons_drop,take_append_drop]) hJ
theorem FP{it:Nat->D}(J:List α->PSt->Prop)(h0:J [] ρ1)
  (hs:∀pre x suf ρ,xs=pre++x::suf->J pre ρ->g (.dat (.tup [.int (pre.length:Int),e x])) ρ fun ρ2=>pb { nx:=J (pre++[x]),rt:=rt,bk:=bk,ct:=J (pre++[x]) } ρ2) (hq:∀ρ,J xs ρ->nx ρ)
  (hit:∀k,it k=.tup [.int (k:Int),itD (xs.map e) k]:=by intro k;rfl) :
  ∃I:Nat->PSt->Prop,I 0 ρ1/\(∀k ρ d,k<(xs.map e).length->d=it k->I k ρ->g (.dat d) ρ fun ρ2=>pb { nx:=I (k+1),rt:=rt,bk:=bk,ct:=I (k+1) } ρ2)/\∀ρ,I (xs.map e).length ρ->nx ρ:=by
 refine⟨fun k ρ=>J (xs.take k) ρ,by show J (xs.take 0) ρ1;rw [take_zero];exact h0,fun k ρ d hk ed hJ=>?_,fun ρ h=>hq ρ (by have h:J (xs.take (xs.map e).length) ρ:=h;rw [length_map,take_length] at h;exact h)⟩;rw [length_map] at hk;rw [hit,lP hk] at ed;subst ed;have ht:xs.take (k+1)=xs.take k++[xs[k]]:=by rw [take_succ,getElem?_eq_getElem hk];rfl
 show g _ ρ fun ρ2=>pb { nx:=J (xs.take (k+1)),rt:=rt,bk:=bk,ct:=J (xs.take (k+1)) } ρ2;rw [ht];have hl:(xs.take k).length=k:=by rw [length_take];omega
 have:=hs (xs.take k) xs[k] (xs.drop (k+1)) ρ (by rw [getElem_cons_drop,take_append_drop]) hJ;rw [hl] at this;exact this
end
theorem xy{t w:List Nat}{k:Nat}:stA t w k=true ↔ ∃a b,t=a++w++b/\a.length=k:=by
 unfold stA;rw [decide_eq_true_eq]
 constructor
 .rintro⟨h1,h2⟩;refine⟨t.take k,t.drop (k+w.length),?_,by rw [length_take];omega⟩
  have h3:t.drop k=w++t.drop (k+w.length):=by
   conv=>lhs;rw [<- take_append_drop w.length (t.drop k),h2,drop_drop]
  rw [append_assoc,<- h3,take_append_drop]
 .rintro⟨a,b,rfl,rfl⟩;refine⟨by rw [length_append,length_append];omega,?_⟩;rw [append_assoc,drop_left,take_left]
theorem qN{a b:List Nat}:iH a b=true ↔ a <:+: b:=by
 rw [lO]
 constructor
 .rintro⟨k,hk⟩;obtain⟨u,v,e,_⟩:=xy.mp hk;exact⟨u,v,e.symm⟩
 .rintro⟨u,v,e⟩;exact⟨u.length,xy.mpr ⟨u,v,e.symm,rfl⟩⟩
theorem Bg{a b:List Nat}:iH a b=true ↔ 0<=fnd b a 0:=by unfold iH;exact decide_eq_true_iff
theorem yY{a b:List Nat}:iH a b=false ↔ fnd b a 0<0:=by
 unfold iH;rw [decide_eq_false_iff_not];omega
theorem xz{α β:Type}(f:α->β)(xs:List α)(i:Nat):(xs.map f).eraseIdx i=(xs.eraseIdx i).map f:=by
 rw [eraseIdx_eq_take_drop_succ,eraseIdx_eq_take_drop_succ,map_append,map_take,map_drop]
theorem xA{α:Type}{js:List α}{i:Nat}(h:i<js.length):(js.eraseIdx i++[js[i]]).Perm js:=by
 rw [eraseIdx_eq_take_drop_succ,append_assoc];have e:js=js.take i++(js[i]::js.drop (i+1)):=by rw [getElem_cons_drop,take_append_drop]
 conv=>rhs;rw [e]
 exact List.Perm.append_left _ (perm_append_singleton _ _)
theorem yZ{n i:Nat}(h:i<n):ixN n (i:Int)=some i:=by
 unfold ixN;rw [if_pos (by omega),if_pos (by omega),toNat_natCast]
theorem xB{a b:List Nat}(h:a <:+: b):a.length<=b.length:=h.length_le
theorem uX{ps:List (List Nat)}{a b:Nat}(ha:a<ps.length)(hb:b<ps.length)(ka:dN ps a=true)(kb:dN ps b=true)(h:a≠b):¬ pw ps a <:+: pw ps b:=fun hi=>by
 obtain⟨a1,a2⟩:=gn.mp ka;obtain⟨b1,b2⟩:=gn.mp kb
 rcases lt_or_ge (pw ps a).length (pw ps b).length with z|z
 .have:=a2 _ (hX hb) z;rw [qN.mpr hi] at this;cases this
 .have e:pw ps a=pw ps b:=hi.eq_of_length (by have:=xB hi;omega)
  have mem:∀{x y:Nat},x<y->y<ps.length->pw ps x=pw ps y->pw ps y∈ps.take y:=fun {x y} h1 h2 h3=>by
   rw [<- h3];refine mem_of_getElem? (i:=x) ?_;rw [getElem?_take,if_pos h1];exact gO (by omega)
  rcases lt_or_ge a b with z|z
  .exact b1 (mem z hb e)
  .exact a1 (mem (by omega) ha e.symm)
theorem t7{ps:List (List Nat)}{i:Nat}(h:i<(cH ps).length):∃k,(iM ps)[i]?=some k/\pw (cH ps) i=pw ps k/\k<ps.length/\dN ps k=true:=by
 have hk:i<(iM ps).length:=by unfold cH at h;rwa [length_map] at h
 have hm:=getElem_mem hk;refine⟨(iM ps)[i],getElem?_eq_getElem hk,?_,qI hm,(mem_filter.mp hm).2⟩;unfold cH pw;rw [getD_eq_getElem?_getD,getElem?_map,getElem?_eq_getElem hk];rfl
theorem nG{ps:List (List Nat)}{i j:Nat}(hi:i<(cH ps).length)(hj:j<(cH ps).length)(h:i≠j):¬ pw (cH ps) i <:+: pw (cH ps) j:=by
 obtain⟨a,a1,a2,a3,a4⟩:=t7 hi;obtain⟨b,b1,b2,b3,b4⟩:=t7 hj;rw [a2,b2];refine uX a3 b3 a4 b4 fun e=>h ?_;subst e;have nd:(iM ps).Nodup:=(qJ ps).imp fun h=>ne_of_lt h;have l1:=(List.getElem?_eq_some_iff.mp a1).1;exact (getElem?_inj l1 nd).mp (a1.trans b1.symm)
section
variable {α β:Type}{e:α->D}{e':β->D}{xs:List α}{ys:List β}{ix:List (Option Nat)}{ρ1:PSt}{g:PTG}{pt:PTT}{pe:PTE}{Q:PKt}
theorem xC{γ:Type}(f:α->β->γ)(xs:List α)(ys:List β)(h:Nat->γ)(hh:∀k (h1:k<xs.length) (h2:k<ys.length),h k=f xs[k] ys[k]):(List.range (min xs.length ys.length)).map h=(xs.zip ys).map fun p=>f p.1 p.2:=by
 apply ext_getElem?;intro i;rw [getElem?_map,getElem?_map]
 by_cases hi:i<min xs.length ys.length
 .have h1:i<xs.length:=by omega
  have h2:i<ys.length:=by omega
  rw [getElem?_range hi,getElem?_eq_getElem (by rw [length_zip];exact hi),getElem_zip];exact congrArg some (hh i h1 h2)
 .rw [getElem?_eq_none (by rw [length_range];omega),getElem?_eq_none (by rw [length_zip];omega)];rfl
theorem cmZ{it:Nat->D}{n:Nat}(f:α->β->D)
  (hs:∀a b,(a,b)∈xs.zip ys->∀(v w:Option PV) (K1:D->PSt->Prop),(∀v' w',K1 (f a b) (v'::w'::(bZ ix ρ1).tail.tail))->g (.dat (.tup [e a,e' b])) (v::w::(bZ ix ρ1).tail.tail) fun τ2=>pe τ2 fun p τ4=>K1 p.d τ4)
  (hq:∀v w:Option PV,Q (.own ((xs.zip ys).map fun p=>f p.1 p.2)) (fg ix ρ1 (v::w::(bZ ix ρ1).tail.tail))) (hx:bZ ix ρ1=none::none::(bZ ix ρ1).tail.tail:=by rfl)
  (hn:n=min (xs.map e).length (ys.map e').length:=by rfl) (hit:∀k,it k=.tup [itD (xs.map e) k,itD (ys.map e') k]:=by intro k;rfl):mG ix ρ1 n it g jZ pe Q:=by
 rw [length_map,length_map] at hn;subst hn
 by_cases h0:0<min xs.length ys.length
 .have ga:∀k,k<min xs.length ys.length->∃h1:k<xs.length,∃h2:k<ys.length,it k=.tup [e xs[k],e' ys[k]]:=fun k hk=>⟨by omega,by omega,by rw [hit,lP (by omega),lP (by omega)]⟩
  have hx0:0<xs.length:=by omega
  have hy0:0<ys.length:=by omega
  refine tX (fun τ=>∃v w,τ=v::w::(bZ ix ρ1).tail.tail) (fun k=>f (xs.getD k xs[0]) (ys.getD k ys[0])) ⟨none,none,hx⟩ ?_ ?_
  .rintro k τ d hk rfl ⟨v,w,rfl⟩ K1 k1;obtain⟨h1,h2,ek⟩:=ga k hk;rw [ek];have g1:xs.getD k xs[0]=xs[k]:=by rw [getD_eq_getElem?_getD,getElem?_eq_getElem h1];rfl
   have g2:ys.getD k ys[0]=ys[k]:=by rw [getD_eq_getElem?_getD,getElem?_eq_getElem h2];rfl
   rw [g1,g2] at k1;refine hs _ _ ?_ v w K1 fun v' w'=>k1 _ ⟨v',w',rfl⟩;refine mem_iff_getElem.mpr ⟨k,by rw [length_zip];exact hk,by rw [getElem_zip]⟩
  .rintro τ ⟨v,w,rfl⟩;rw [xC f xs ys _ fun k h1 h2=>by rw [getD_eq_getElem?_getD,getElem?_eq_getElem h1,getD_eq_getElem?_getD,getElem?_eq_getElem h2];rfl];exact hq v w
 .refine tX (fun τ=>∃v w,τ=v::w::(bZ ix ρ1).tail.tail) (fun _=>.non) ⟨none,none,hx⟩ (fun k τ d hk=>by omega) ?_;rintro τ ⟨v,w,rfl⟩;have e1:min xs.length ys.length=0:=by omega
  have e2:xs.zip ys=[]:=length_eq_zero_iff.mp (by rw [length_zip];exact e1);have:=hq v w;rw [e2] at this;rw [e1];exact this
end
theorem cm2{α:Type}{e:α->D}{xs:List α}{ix:List (Option Nat)}{ρ1:PSt}{g:PTG}{pe:PTE}{Q:PKt}(f:α->D)
  (hs:∀x∈xs,∀(v w:Option PV) (K1:D->PSt->Prop),(∀v' w',K1 (f x) (v'::w'::(bZ ix ρ1).tail.tail))->g (.dat (e x)) (v::w::(bZ ix ρ1).tail.tail) fun τ2=>pe τ2 fun p τ4=>K1 p.d τ4)
  (hq:∀v w:Option PV,Q (.own (xs.map f)) (fg ix ρ1 (v::w::(bZ ix ρ1).tail.tail))) (hx:bZ ix ρ1=none::none::(bZ ix ρ1).tail.tail:=by rfl):mG ix ρ1 (xs.map e).length (itD (xs.map e)) g jZ pe Q:=by
 refine Du (fun τ=>∃v w,τ=v::w::(bZ ix ρ1).tail.tail) f ⟨none,none,hx⟩ ?_ ?_
 .rintro x hx τ ⟨v,w,rfl⟩ K1 k1;exact hs x hx v w K1 fun v' w'=>k1 _ ⟨v',w',rfl⟩
 .rintro τ ⟨v,w,rfl⟩;exact hq v w
theorem xD(a b:List Nat):(!(Builtin.Str.occurrences (S b) (S a) 0 (S b).length 1).isEmpty)=iH a b:=by
 have e:=wv b a 0;unfold iH;rw [<- e]
 cases Builtin.Str.occurrences (S b) (S a) 0 (S b).length 1 with
 | nil=>rfl
 | cons k r=>exact (decide_eq_true (by omega:(0:Int)<=(k:Int))).symm
section
variable {X:Cx}{K:PySem.W.Frag}
def EZ(neg:Bool):R2:=fun x y H Q=>∃a b,x=.str (S a)/\y=.str (S b)/\Q (.bl (if neg then !iH a b else iH a b)) H
theorem Dv:OpR X (compareOp .In) (EZ false):=by
 intro pins s σ H x y v u Q I rx ry h;obtain⟨a,b,rfl,rfl,q⟩:=h;obtain⟨t,rfl⟩:=rx;obtain⟨t',rfl⟩:=ry;exact P.in_str ⟨.bl _,H,I,rfl,by rw [xD];exact q⟩
theorem xE:OpR X (compareOp .NotIn) (EZ true):=by
 intro pins s σ H x y v u Q I rx ry h;obtain⟨a,b,rfl,rfl,q⟩:=h;obtain⟨t,rfl⟩:=rx;obtain⟨t',rfl⟩:=ry;exact P.notIn_str ⟨.bl _,H,I,rfl,by rw [xD];exact q⟩
def E1(K:PySem.W.Frag)(neg:Bool):R2:=fun x y H Q=>rIn K neg x y H Q\/EZ neg x y H Q
theorem E2(K:PySem.W.Frag)(e:X.K=K):OpR X (compareOp .In) (E1 K false):=OpR.or (FK K e) Dv
theorem y0(K:PySem.W.Frag)(e:X.K=K):OpR X (compareOp .NotIn) (E1 K true):=OpR.or (AT K e) xE
def DY(neg:Bool):F2
 | .str a,.str b,Q=>Q (.dat (.bl (if neg then !iH a b else iH a b)))
 | a,.lst ds,Q=>(a.fl=true/\ds.all D.fl=true)/\Q (.dat (.bl (if neg then !inD a ds else inD a ds)))
 | a,.tup ds,Q=>(a.fl=true/\ds.all D.fl=true)/\Q (.dat (.bl (if neg then !inD a ds else inD a ds)))
 | _,_,_=>False
theorem zK{neg:Bool}:LO K (E1 K neg) (DY neg):=by
 intro O H x y a b Q Q' dom fx fy q k;unfold DY at q
 split at q
 .obtain⟨rfl,_⟩:=fx.str;obtain⟨rfl,_⟩:=fy.str;exact .inr ⟨_,_,rfl,rfl,k _ H _ q (Gr.refl _) (.bl _)⟩
 .exact .inl (C4 O H x y _ _ Q Q' dom fx fy q k)
 .exact .inl (C4 O H x y _ _ Q Q' dom fx fy q k)
 .exact q.elim
end
section
variable {X:Cx}{K:PySem.W.Frag}{ta te:TE}{pa:PA1}{pe:PTE}
def LPs(K:PySem.W.Frag)(trs:List (TE×TE))(ks:List Key)(pr:PTA):Prop:=∀(A:Addr->Prop) (ρ:PSt) (σ:St) (H:Hp) (Q:List AV->PSt->Prop) (Q':List (V×V)->Hp->Prop),Rel K A ρ σ H->pr ρ Q ->
 (∀vs H' as ρ',Q as ρ'->Fr ρ σ H ρ' H'->Rel K A ρ' σ H'->zu K (OO A ρ' σ) σ H' as vs->vs.length=ks.length->Q' ((ks.zip vs).map fun kv=>(kV kv.1,kv.2)) H')->tH trs σ H Q'
theorem Bh:LPs K [] [] aj:=fun A ρ σ H Q Q' R q k=>k [] H [] ρ q (Fr.refl _ _ _) R .nil rfl
theorem t9{tv:TE}{pv:PA1}{trs:List (TE×TE)}{ks:List Key}{pr:PTA}(kk:Key)(hv:LA1 K tv pv)(hr:LPs K trs ks pr):LPs K ((tC (kV kk),tv)::trs) (kk::ks) (ae pv pr):=fun A ρ σ H Q Q' R q k =>
 hv A ρ σ H _ _ R q fun v H1 a ρ1 q1 f1 R1 o1=>hr A ρ1 σ H1 _ _ R1 q1 fun vs H2 as ρ2 q2 f2 R2 o2 l2=>k (v::vs) H2 _ ρ2 q2 (f1.trans f2) R2 (.cons (o1.keeps f2.keeps) o2) (by rw [length_cons,l2];rfl)
theorem Bi{kvs:List (Key×V)}{k:Key}{v:V}(h:k∉kvs.map Prod.fst):wx kvs k v=kvs++[(k,v)]:=by
 unfold wx;rw [if_neg];intro z;obtain⟨a,m,e⟩:=any_eq_true.mp z;exact h (mem_map.mpr ⟨a,m,of_decide_eq_true e⟩)
theorem qO:∀(kvs acc:List (Key×V)),((acc++kvs).map Prod.fst).Nodup->kq acc kvs=acc++kvs
 | [],acc,_=>by show acc=_;rw [append_nil]
 | kv::r,acc,h=>by
  show kq (wx acc kv.1 kv.2) r=_
  have hn:kv.1∉acc.map Prod.fst:=fun m=>by
   rw [map_append,map_cons] at h;exact (nodup_append.mp h).2.2 _ m _ (mem_cons_self ..) rfl
  rw [Bi hn,qO r _ (by rw [append_assoc];exact h),append_assoc];rfl
def Dw(ks:List Key)(pr:PTA):PTE:=fun ρ Q=>pr ρ fun as ρ1=>match avD as with
 | some ds=>Q (.dat (.dic ks ds)) ρ1
 | none=>False
theorem Bj{trs:List (TE×TE)}{ks:List Key}{pr:PTA}(hn:ks.Nodup)(h15:ks.length<=15)(h:LPs K trs ks pr):LE K (CQ trs) (Dw ks pr):=fun A ρ σ H Q Q' R q k=>fun p hp=>by
 have R1:Rel K (cP A p) ρ σ (upd H p (.dK [])):=R.grA (Gr.new hp) hp (by rw [aJ];exact nofun);refine h (cP A p) ρ σ _ _ _ R1 q fun vs H2 as ρ2 q2 f2 R2 o2 l2=>?_
 split at q2
 .rename_i ds ed;have e2:H2 p=some (.dK []):=f2.kp p _ (R1.sep p (.inr rfl)) aJ;have fv:=o2.avD ed;have m1:(ks.zip vs).map Prod.fst=ks:=map_fst_zip (by omega);have m2:(ks.zip vs).map Prod.snd=vs:=map_snd_zip (by omega)
  have em:kq [] (ks.zip vs)=ks.zip vs:=by
   rw [qO _ _ (by rw [nil_append,m1];exact hn),nil_append]
  refine⟨e2,ks.zip vs,rfl,by rw [length_zip];omega,?_⟩;rw [em]
  have fr:Fr ρ σ H ρ2 (upd H2 p (.dK (ks.zip vs))):=⟨fun b o n e=>by
   have nb:b≠p:=a8 e hp;rw [aE nb];exact f2.kp b o n (by rw [aE nb];exact e),fun b e=>by
   by_cases z:b=p
   .rw [z,aJ];exact nofun
   .rw [aE z];exact f2.dm b (by rw [aE z];exact e),f2.ow⟩
  have np:¬ OO A ρ2 σ p:=fun z=>z.elim (fun z=>R.dom p z hp) fun z=>R2.sep p (.inr rfl) z;refine k _ _ (.dat (.dic ks ds)) ρ2 q2 fr ⟨(R2.amb (o:=.dK (ks.zip vs)) (.inr rfl)).less fun b z=>.inl z,.dic np aJ m1 ?_⟩;rw [m2];refine fv.keeps fun b o n e=>⟨fun z=>n (z.imp .inl id),?_⟩
  rw [aE fun z=>n (.inl (.inr z))];exact e
 .exact q2.elim
end
section
variable {X:Cx}{K:PySem.W.Frag}
def zL(K:PySem.W.Frag):R2:=fun x y H Q=>∃a b ys,x=.ref a/\y=.ref b/\SqT K H a []/\SqT K H b ys/\Q (.ref b) H
theorem y6:OpR X (binaryOp .Add) (zL X.K):=by
 intro pins s σ H x y v u Q I rx ry h;obtain⟨a,b,ys,rfl,rfl,ha,hb,q⟩:=h;cases rx;cases ry;obtain⟨its,r1,p1,_⟩:=I.tuple ha;obtain⟨its2,r2,p2,_⟩:=I.tuple hb;have e0:its=[]:=r1.nil_iff.mpr rfl;subst e0;obtain⟨⟨cls,dd,data,sl⟩,ho,hc,n,hd⟩:=id p1;obtain⟨⟨cls2,dd2,data2,sl2⟩,ho2,hc2,n2,hd2⟩:=id p2;simp only at hc hd hc2 hd2;subst hc hd hc2 hd2;exact concat_meets ⟨_,ho,rfl⟩ ⟨_,ho2,rfl⟩ noFill_tuple_add seq_tuple_add PySem.F.slot_tuple_add PySem.F.entry_tuple_add (PySem.F.args_tuple_add_2 _ _) (tuple_addW0 a b _ _ n n2 dd dd2 sl sl2 rfl) ⟨ho,ho2,.ref b,H,I,rfl,q⟩
def uY(K:PySem.W.Frag):R2:=fun x y H Q=>AR K x y H Q\/zL K x y H Q
theorem cO(K:PySem.W.Frag)(e:X.K=K):OpR X (binaryOp .Add) (uY K):=OpR.or (Ex K e) (by subst e;exact y6)
def dO:F2
 | .tup a,.tup b,Q=>a.length+b.length<=1000000/\Q (.dat (.tup (a++b)))
 | a,b,Q=>Ey a b Q
theorem bD:LO K (uY K) dO:=by
 intro O H x y a b Q Q' dom fx fy q k;unfold dO at q
 split at q
 .rename_i Q ds es
  cases ds with
  | cons d ds=>exact .inl (zw O H x y _ _ _ Q' dom fx fy ⟨nofun,q⟩ k)
  | nil =>
   obtain⟨p1,xs1,rfl,n1,e1,f1⟩:=fx.tup;obtain⟨p2,xs2,rfl,n2,e2,f2⟩:=fy.tup;cases f1;exact .inr ⟨p1,p2,xs2,rfl,rfl,SqT.of e1,SqT.of e2,k _ H _ q.2 (Gr.refl _) (.tup n2 e2 f2)⟩
 .exact .inl (zw O H x y _ _ _ Q' dom fx fy q k)
end
section
variable {X:Cx}
def Fy:Expr->Bool
 | .ListComp ..|.SetComp ..|.DictComp ..=>false
 | _=>true
theorem xF{o i e:Expr}{p:Pos}{l:Nat}{env:Env}(h:Fy e=true):swapsWithSole [.Subscript o i p] e l env=pure false:=by
 show swapsWith e (some (.Subscript o i p)) l env=pure false;cases e <;> first|rfl|cases h
theorem sk{o i e:Expr}{p:Pos}{env:Env}:swappedStores [.Subscript o i p] e env=pure none:=rfl
theorem i8{o i e:Expr}{p:Pos}{te:TE}{g:TG}{pos:Pos}(he:PE X e te)(hg:PG X (.Subscript o i p) g)(hn:Fy e=true:=by rfl):PS X (.Assign [.Subscript o i p] e pos) (x6 te g) :=
 nh he hg (xF hn) sk rfl
end
def fO(K:PySem.W.Frag)(x:Str)(st:Stmt):Prop:=∃(f:Addr) (oc kV dc pm cd ct:Value) (od an:Option Addr) (sl:Array (Option Value)),PySem.W.nsIn K mainGlobals x=some (some (.ref f)) /\
 K.lookup f=some ⟨oc,od,.func (PySem.W.fnOf x x (dk st) (cD st) (ar st) .none kV dc pm an cd ct),sl⟩/\PySem.W.codeIn K cd x=true/\PySem.W.keepIn K (.ref f)=true
theorem Dx{K:PySem.W.Frag}{x:Str}{st:Stmt}{f:Addr}{oc kV dc pm cd ct:Value}{od an:Option Addr}{sl:Array (Option Value)}(a:PySem.W.nsIn K mainGlobals x=some (some (.ref f)))(l:K.lookup f=some ⟨oc,od,.func (PySem.W.fnOf x x (dk st) (cD st) (ar st) .none kV dc pm an cd ct),sl⟩)
  (c:PySem.W.codeIn K cd x=true) (k:PySem.W.keepIn K (.ref f)=true):fO K x st:=⟨f,oc,kV,dc,pm,cd,ct,od,an,sl,a,l,c,k⟩
theorem bq{K:PySem.W.Frag}{h:Heap}{mg:Str->Option Value}{x:Str}{st:Stmt}(q:fO K x st)(X:K.In h)(G:h.Ns mainGlobals mg):bY K mg x st:=by
 obtain⟨f,oc,kV,dc,pm,cd,ct,od,an,sl,a,l,c,k⟩:=q;exact .mk' X G a l c k
section
open PySem.AutoSeq1 (wpAny_loadPart')
open PySem.MeetsSeq PySem.MeetsSeq2 PySem.MeetsSeq3
variable {P:Program}{w:World}{A:Around}
end
def E3(i:Nat)(pe:PTE):PTE:=fun ρ Q=>match ρ[i]? with
 | some (some (.own _))=>pe ρ fun p ρ1=>(match ρ1[i]?,p.d with
  | some (some (.own ds)),.lst es=>ds.length+es.length<=1000000/\Q (.dat .non) (ρ1.set i (some (.own (ds++es))))
  | _,_=>False)
 | _=>False
section
variable {K:PySem.W.Frag}{te:TE}{pe:PTE}
theorem Dy{i:Nat}(h:LE K te pe):LE K (tBM K "list" vU (bL i) (bg te fS)) (E3 i pe):=fun A ρ σ H Q Q' R q k=>by
 unfold E3 at q
 split at q
 .rename_i ds0 e0;obtain⟨a0,xs0,s0,g0,f0⟩:=R.ownAt e0;refine⟨_,s0,.inl ⟨rfl,xs0,SqL.of g0⟩,h A ρ σ H _ _ R q fun v H1 p ρ1 q1 f1 o1=>?_⟩;obtain⟨R1,fv⟩:=o1.frz
  split at q1
  .rename_i ds es e1 e2;rw [e2] at fv;obtain⟨a,xs,s,g,f⟩:=R1.ownAt e1;rw [s0] at s;cases s
   cases fv with
   | lst no ez fz =>
    obtain⟨R2,f2⟩:=R1.lstw e1 s0 (f.append fz);exact⟨a0,_,xs,_,rfl,rfl,g,ez,le_trans (by rw [f.length,fz.length];exact q1.1) (sz _ (Nat.le_refl _)),k _ _ _ _ q1.2 (f1.trans f2) ⟨R2,.non⟩⟩
  .exact q1.elim
 .exact q.elim
end
section
variable {X:Cx}{K:PySem.W.Frag}{te tk:TE}{pe pk:PTE}{fs:List Nat}
def nI(f:Int->Int->Int)(i:Nat)(pk pe:PTE):PTS:=fun D ρ=>match ρ[i]? with
 | some (some (.own _))=>pk ρ fun kp ρ1=>(match ρ1[i]?,kp with
  | some (some (.own ds)),.dat (.int k)=>∃j a,ixN ds.length k=some j/\ds[j]?=some (.int a)/\pe ρ1 fun p ρ2=>(match ρ2[i]?,p with
   | some (some (.own ds2)),.dat (.int b)=>ds2=ds/\D.nx (ρ2.set i (some (.own (ds.set j (.int (f a b))))))
   | _,_=>False)
  | _,_=>False)
 | _=>False
theorem qP(K:PySem.W.Frag)(e:X.K=K):Fe X (BE K):=by
 subst e;intro pins s σ H x y v u Q I rx ry h;obtain⟨p,xs,i,z,rfl,rfl,hq,he,q⟩:=h;cases rx;obtain⟨t,rfl⟩:=ry;obtain⟨its,r,pl,hz⟩:=I.list hq;obtain⟨j,h1,h2,h3,h4,h5⟩:=n6 he;obtain⟨w,ew,rw'⟩:=r.get h2;have hl:=r.length;have hn:=lv;have fin:EP X pins σ Q w s:=⟨z,H,I,rw',q⟩
 by_cases h0:0<=i
 .have hj:i.toNat=j:=by
   rw [seqIndex_of h0 h5] at h1;exact Option.some.inj h1
  exact wpAny_getItem_list pl.isList h0 (by omega) (by rw [hj];simpa using ew) fin
 .have hj:(i+(its.toArray.size:Int)).toNat=j:=by
   rw [seqIndex_neg (by omega) h4] at h1;rw [size_toArray,<- hl];exact Option.some.inj h1
  exact wpAny_getItem_list_neg pl.isList (by omega) (by rw [size_toArray] <;> omega) (by omega) (by rw [hj];simpa using ew) fin
theorem xG{f:Int->Int->Int}{i:Nat}(hk:LE K tk pk)(h:LE K te pe):LS K fs (x8 (bL i) tk te (BE K) (ipI f) vR) (nI f i pk pe):=fun fx A R H0 ρ σ H D D' hf r F q k1 k2 k3 k4=>by
 unfold nI at q
 split at q
 .rename_i ds0 e0;obtain⟨a0,xs0,s0,g0,f0⟩:=r.ownAt e0;refine⟨_,s0,hk A ρ σ H _ _ r q fun w H1 kp ρ1 q1 f1 o1=>?_⟩
  split at q1
  .rename_i ds k e1;obtain⟨j,a,hj,ha,q1⟩:=q1;obtain⟨R1,fw⟩:=o1;cases fw;obtain⟨a1,xs,s,g,fx1⟩:=R1.ownAt e1;rw [s0] at s;cases s;obtain⟨va,hva,fva⟩:=fx1.getD ha;cases fva
   refine⟨a0,xs,k,.int a,rfl,rfl,SqL.of g,?_,h A ρ1 σ H1 _ _ R1 q1 fun u H2 p ρ2 q2 f2 o2=>?_⟩
   .unfold atI;rw [fx1.length,hj];exact hva
   .split at q2
    .rename_i ds2 b e2;obtain⟨rfl,q2⟩:=q2;obtain⟨R2,fu⟩:=o2;cases fu;obtain⟨a2,xs2,s2,g2,fx2⟩:=R2.ownAt e2;rw [s0] at s2;cases s2;obtain⟨R3,f3⟩:=R2.lstw e2 s0 (FVs.set (FV.int (f a b)) j fx2);exact⟨a,b,rfl,rfl,a0,xs2,k,j,rfl,rfl,g2,by rw [fx2.length];exact hj,k1 _ _ _ q2 R3 (((F.fr f1).fr f2).fr f3)⟩
    .exact q2.elim
  .exact q1.elim
 .exact q.elim
end
section
variable {K:PySem.W.Frag}{A O O':Addr->Prop}{fx:List (Nat×V)}{R:Addr->Prop}{H0 H0' H H':Hp}{ρ ρ':PSt}{σ:St}{x:Nat}{Da:Addr}{as:List Addr}{rows:List (List D)}
def cl(x:Nat)(ρ:PSt):Option (List (List D))->PSt
 | none=>ρ
 | some rows=>ρ.set x (some (.own (rows.map D.lst)))
theorem xH(x:Nat)(ρ:PSt):cl x ρ none=ρ:=rfl
theorem xI(x:Nat)(ρ:PSt)(rows:List (List D)):cl x ρ (some rows)=ρ.set x (some (.own (rows.map D.lst))):=rfl
theorem oR{α:Type}:∀{l:List α}{i:Nat}{v:α},l[i]?=some v->l.set i v=l
 | [],_,_,e=>by simp at e
 | a::l,0,v,e=>by simp at e;rw [e];rfl
 | a::l,i+1,v,e=>by rw [set_cons_succ,oR (by simpa using e)]
theorem lQ{i j:Nat}{p:PV}(e:(ρ.set i none)[j]?=some (some p)):j≠i/\ρ[j]?=some (some p):=by
 by_cases z:i=j
 .subst z
  by_cases h:i<ρ.length
  .rw [getElem?_set_self h] at e;cases e
  .rw [getElem?_eq_none (by rw [length_set];omega)] at e;cases e
 .rw [getElem?_set_ne z] at e;exact⟨fun q=>z q.symm,e⟩
theorem xJ{v:Option V}{b:Addr}(w:Wr (ρ.set x none) (σ.set x v) b):Wr ρ σ b:=by
 obtain⟨j,p,e,o,s⟩:=w;obtain⟨n,e⟩:=lQ e;rw [getElem?_set_ne (Ne.symm n)] at s;exact⟨j,p,e,o,s⟩
theorem Rel.clr{v:Option V}(r:Rel K A ρ σ H):Rel K A (ρ.set x none) (σ.set x v) H:=by
 have k:aL (OO A ρ σ) H (OO A (ρ.set x none) (σ.set x v)) H:=aL.less fun b z=>z.imp id xJ
 refine⟨by rw [length_set,length_set];exact r.len,fun j p e=>?_,fun i j p q u e1 e2 o1 o2 s1 s2=>?_,r.dom,fun b z w=>r.sep b z (xJ w)⟩
 .obtain⟨n,e⟩:=lQ e;obtain⟨u,s,rr⟩:=r.get j p e;exact⟨u,by rw [getElem?_set_ne (Ne.symm n)];exact s,rr.keeps k fun _ _ _=>rfl⟩
 .obtain⟨n1,e1⟩:=lQ e1;obtain⟨n2,e2⟩:=lQ e2;rw [getElem?_set_ne (Ne.symm n1)] at s1;rw [getElem?_set_ne (Ne.symm n2)] at s2;exact r.dj i j p q u e1 e2 o1 o2 s1 s2
end
section
variable {K:PySem.W.Frag}{A:Addr->Prop}{fx:List (Nat×V)}{R:Addr->Prop}{H0 H:Hp}{ρ:PSt}{σ:St}
def mvd(ρ:PSt)(g r:Nat)(ds:List D):PSt:=(ρ.set r (some (.own ds))).set g none
theorem zM(ρ:PSt)(g r:Nat)(ds:List D):mvd ρ g r ds=(ρ.set r (some (.own ds))).set g none:=rfl
theorem su{g r j:Nat}{ds:List D}{p:PV}(n:r≠g)(e:(mvd ρ g r ds)[j]?=some (some p)):j≠g/\((j=r/\p=.own ds/\r<ρ.length)\/(j≠r/\ρ[j]?=some (some p))):=by
 obtain⟨n1,e⟩:=lQ e;refine⟨n1,?_⟩
 by_cases z:r=j
 .subst z
  by_cases h:r<ρ.length
  .rw [getElem?_set_self h] at e;cases e;exact .inl ⟨rfl,rfl,h⟩
  .rw [getElem?_eq_none (by rw [length_set];omega)] at e;cases e
 .rw [getElem?_set_ne z] at e;exact .inr ⟨fun q=>z q.symm,e⟩
theorem Rel.move{g r:Nat}{ds:List D}{a:Addr}(n:r≠g)(h:Rel K A ρ σ H)(e:ρ[g]?=some (some (.own ds)))(s:σ[g]?=some (some (.ref a))):Rel K A (mvd ρ g r ds) (σ.set r (some (.ref a))) H/\∀b,Wr (mvd ρ g r ds) (σ.set r (some (.ref a))) b->Wr ρ σ b:=by
 have ow:∀b,Wr (mvd ρ g r ds) (σ.set r (some (.ref a))) b->Wr ρ σ b:=fun b ⟨j,p,e1,o1,s1⟩=>by
  obtain⟨n1,z⟩:=su n e1
  rcases z with ⟨rfl,rfl,hl⟩|⟨n2,e1⟩
  .rw [getElem?_set_self (by rw [<- h.len];exact hl)] at s1;cases s1;exact⟨g,_,e,rfl,s⟩
  .rw [getElem?_set_ne (Ne.symm n2)] at s1;exact⟨j,p,e1,o1,s1⟩
 have k:aL (OO A ρ σ) H (OO A (mvd ρ g r ds) (σ.set r (some (.ref a)))) H:=aL.less fun b z=>z.imp id (ow b)
 refine⟨⟨by unfold mvd;rw [length_set,length_set,length_set];exact h.len,fun j p e1=>?_,fun i j p q u e1 e2 o1 o2 s1 s2=>?_,h.dom,fun b z w=>h.sep b z (ow b w)⟩,ow⟩
 .obtain⟨n1,z⟩:=su n e1
  rcases z with ⟨rfl,rfl,hl⟩|⟨n2,e1⟩
  .obtain⟨v,s',rr⟩:=h.get g _ e;rw [s] at s';cases s';exact⟨_,getElem?_set_self (by rw [<- h.len];exact hl),rr.keeps k fun _ _ _=>rfl⟩
  .obtain⟨v,s',rr⟩:=h.get j p e1;exact⟨v,by rw [getElem?_set_ne (Ne.symm n2)];exact s',rr.keeps k fun _ _ _=>rfl⟩
 .have bk:∀(m:Nat) (y:PV),(mvd ρ g r ds)[m]?=some (some y)->y.isOwn=true->(σ.set r (some (.ref a)))[m]?=some (some u)->∃(l:Nat) (y':PV),ρ[l]?=some (some y')/\y'.isOwn=true/\σ[l]?=some (some u)/\(l=g ↔ m=r)/\(m≠r->l=m):=fun m y em oy sm=>by
   obtain⟨n1,z⟩:=su n em
   rcases z with ⟨rfl,rfl,hl⟩|⟨n2,em⟩
   .rw [getElem?_set_self (by rw [<- h.len];exact hl)] at sm;cases sm;exact⟨g,_,e,rfl,s,⟨fun _=>rfl,fun _=>rfl⟩,fun z=>absurd rfl z⟩
   .rw [getElem?_set_ne (Ne.symm n2)] at sm;exact⟨m,y,em,oy,sm,⟨fun z=>absurd z n1,fun z=>absurd z n2⟩,fun _=>rfl⟩
  obtain⟨l1,y1,a1,b1,c1,d1,f1⟩:=bk i p e1 o1 s1;obtain⟨l2,y2,a2,b2,c2,d2,f2⟩:=bk j q e2 o2 s2;have hll:=h.dj l1 l2 y1 y2 u a1 a2 b1 b2 c1 c2
  by_cases z:i=r
  .rw [z];exact (d2.mp (by rw [<- hll];exact d1.mpr z)).symm
  .rw [<- f1 z,hll];refine f2 fun w=>z (d1.mp (by rw [hll];exact d2.mpr w))
def lR(ρ:PSt)(g r:Nat)(Q:PSt->Prop):Prop:=match ρ[r]?,ρ[g]? with
 | some (some (.own ds)),some none=>Q (mvd ρ r g ds)
 | _,_=>False
end
section
variable {K:PySem.W.Frag}{fs:List Nat}
def DZ(X:TE)(t t':TS):Prop:=∀D:zi,t D=t' { D with nx:=fun σ H=>X σ H D.rt }
theorem Bk(X:TE):DZ X (D1 X) x0:=fun _=>rfl
theorem lS{X:TE}{a b b':TS}(h:DZ X b b'):DZ X (Aa a b) (Aa a b'):=fun D=>by
 show a { D with nx:=b D }=a { D with nx:=b' { D with nx:=fun σ H=>X σ H D.rt } };rw [h D]
end
def XI(K:PySem.W.Frag)(G:Addr)(nm:String)(C:Addr):Prop:=PySem.W.nsIn K mainGlobals nm=some (some (.ref C))/\(∃(q:Str) (N:Addr) (bs sub:List Value) (sn:List Str) (ab:Bool) (col:Option Bool) (k0 k1 k2 k3 k5:Option Value),K.lookup C=some (excClassObj nm q C N bs (.ref G::[.type "ValueError",.type "Exception",.type "BaseException",.type "object"]) true sn sub ab col none k0 k1 k2 k3 k5 "ValueError.__new__")) /\
 PySem.W.findIn K (.ref C) "__getattribute__"=some (some (.builtin "BaseException.__getattribute__"))/\PySem.W.findIn K (.ref C) "__getattr__"=some none/\PySem.W.findIn K (.ref C) "__setattr__"=some (some (.builtin "object.__setattr__"))/\PySem.W.findIn K (.ref C) "__class__"=some (some (.builtin "object.__class__"))/\PySem.W.keepIn K (.ref C)=true
theorem E4{K:PySem.W.Frag}{G:Addr}{nm:String}{C:Addr}{q:Str}{N:Addr}{bs sub:List Value}{sn:List Str}{ab:Bool}{col:Option Bool}{k0 k1 k2 k3 k5:Option Value}(a:PySem.W.nsIn K mainGlobals nm=some (some (.ref C)))
  (l:K.lookup C=some (excClassObj nm q C N bs (.ref G::[.type "ValueError",.type "Exception",.type "BaseException",.type "object"]) true sn sub ab col none k0 k1 k2 k3 k5 "ValueError.__new__"))
  (g:PySem.W.findIn K (.ref C) "__getattribute__"=some (some (.builtin "BaseException.__getattribute__"))) (h:PySem.W.findIn K (.ref C) "__getattr__"=some none) (s:PySem.W.findIn K (.ref C) "__setattr__"=some (some (.builtin "object.__setattr__"))) (c:PySem.W.findIn K (.ref C) "__class__"=some (some (.builtin "object.__class__"))) (k:PySem.W.keepIn K (.ref C)=true):XI K G nm C :=
 ⟨a,⟨_,_,_,_,_,_,_,_,_,_,_,_,l⟩,g,h,s,c,k⟩
def XJ(K:PySem.W.Frag)(C:Addr)(qn at_:String)(st:Stmt):Prop:=∃(fx:Addr) (oc kV dc pm cd ct:Value) (od an:Option Addr) (sl:Array (Option Value)),PySem.W.findIn K (.ref C) "__init__"=some (some (.ref fx))/\PySem.W.typeIn K (.ref fx)=some (.type "function")/\K.lookup fx=some ⟨oc,od,.func (PySem.W.fnOf "__init__" qn (dk st) (cD st) (ar st) .none kV dc pm an cd ct),sl⟩/\PySem.W.codeIn K cd qn=true/\PySem.W.keepIn K (.ref fx)=true/\PySem.W.findIn K (.ref C) at_=some none
theorem E5{K:PySem.W.Frag}{C:Addr}{qn at_:String}{st:Stmt}{fx:Addr}{oc kV dc pm cd ct:Value}{od an:Option Addr}{sl:Array (Option Value)}(i:PySem.W.findIn K (.ref C) "__init__"=some (some (.ref fx)))(t:PySem.W.typeIn K (.ref fx)=some (.type "function"))(l:K.lookup fx=some ⟨oc,od,.func (PySem.W.fnOf "__init__" qn (dk st) (cD st) (ar st) .none kV dc pm an cd ct),sl⟩)(c:PySem.W.codeIn K cd qn=true)(k:PySem.W.keepIn K (.ref fx)=true)(n:PySem.W.findIn K (.ref C) at_=some none):XJ K C qn at_ st :=
 ⟨_,_,_,_,_,_,_,_,_,_,i,t,l,c,k,n⟩
section
variable {K:PySem.W.Frag}{fs:List Nat}
def BM(K:PySem.W.Frag)(c:FR):Sp:=fun vs H Q _=>∃(A:Addr->Prop) (a:Addr) (p:PV) (ws:List V) (ds:List D) (Qc:PV->PV->Prop),vs=.ref a::ws/\p.isOwn=true/\(∀b,A b->H b≠none)/\¬ A a/\RS K (cP A a) H p (.ref a)/\FVs K (cP A a) H ws ds/\c p ds Qc /\
 ∀ds es p',Qc (.own [.lst ds,.lst es]) p'->p'.isOwn=true->∀T w u ys xs H',(∀b o,b≠a->H b=some o->H' b=some o)->H' a≠none->H w=none->H u=none->w≠u->H' T=some (.tup [.ref w,.ref u])->H' w=some (.lst ys)->H' u=some (.lst xs)->RS K (cP (cP (cP A a) w) u) H' p' (.ref a)->FVs K (cP (cP (cP A a) w) u) H' ys ds->FVs K (cP (cP (cP A a) w) u) H' xs es->Q (.ref T) H'
def Bl(i j:Nat)(Q:PV->PV->Prop)(ρ:PSt):Prop:=match ρ[0]?,ρ[i]?,ρ[j]? with
 | some (some p),some (some (.own ds)),some (some (.own es))=>p.isOwn=true/\Q (.own [.lst ds,.lst es]) p
 | _,_,_=>False
abbrev Bm(i j:Nat)(ps:PTS)(n:Nat)(p:PV)(ds:List D)(Q:PV->PV->Prop):Prop:=ps { nx:=Bl i j Q,rt:=fun _ _=>False } (cX n (p::ds.map .dat))
theorem E6{c:FR}{n:Nat}(hn:∀p ds Q,c p ds Q->ds.length+1=n){vs:List V}{H:Hp}{Q:VK}{E:XK}(h:BM K c vs H Q E):vs.length=n:=by
 obtain⟨A,a,p,ws,ds,Qc,rfl,_,_,_,_,f,hq,_⟩:=h;rw [length_cons,f.length];exact hn p ds Qc hq
theorem FQ{c:FR}{N:List Str}{t ts:TS}{ps:PTS}(i j:Nat)(hi:i≠0)(hj:j≠0)(hij:i≠j)(hE:DZ (Aj (bg (bL i) (bg (bL j) fS))) t ts)(hl:LS K [0] ts ps)(hn:∀p ds Q,c p ds Q->ds.length+1<=N.length)(hc:∀p ds Q,p.isOwn=true->c p ds Q->Bm i j ps N.length p ds Q)
  {vs:List V}{H:Hp}{Q:VK}{E:XK} (h:BM K c vs H Q E):t { nx:=fun _ H'=>Q .non H',rt:=Q } (start N vs) H:=by
 rw [hE];show ts { nx:=fun σ H'=>Aj (bg (bL i) (bg (bL j) fS)) σ H' Q,rt:=Q } (start N vs) H;obtain⟨A,a,p,ws,ds,Qc,rfl,ow,dom,na,rs,fv,hq,k⟩:=h;have s0:(start N (V.ref a::ws))[0]?=some (some (.ref a)):=g9 rfl;have b0:(cX N.length (p::ds.map .dat))[0]?=some (some p):=rfl
 have own0:∀(i:Nat) (q:PV),(cX N.length (p::ds.map .dat))[i]?=some (some q)->q.isOwn=true->i=0:=fun i q e o=>by
  have:=ee e
  cases i with
  | zero=>rfl
  | succ i =>
   rw [getElem?_cons_succ,getElem?_map] at this
   cases e2:ds[i]? with
   | none=>rw [e2] at this;cases this
   | some d=>rw [e2] at this;cases this;cases o
 have wr:∀b,Wr (cX N.length (p::ds.map .dat)) (start N (.ref a::ws)) b->b=a:=fun b ⟨i,q,e1,o1,s1⟩=>by
  have:=own0 i q e1 o1;subst this;rw [s0] at s1;cases s1;rfl
 have wa:Wr (cX N.length (p::ds.map .dat)) (start N (.ref a::ws)) a:=⟨0,p,b0,ow,s0⟩
 have oeq:OO A (cX N.length (p::ds.map .dat)) (start N (.ref a::ws))=cP A a:=funext fun b=>propext ⟨fun z=>z.imp id (wr b),fun z=>z.imp id fun z=>by rw [z];exact wa⟩;have lenv:=fv.length;have hle:=hn p ds Qc hq
 have R0:Rel K A (cX N.length (p::ds.map .dat)) (start N (.ref a::ws)) H:=by
  refine⟨?_,fun i q e=>?_,fun i j q1 q2 v e1 e2 o1 o2 s1 s2=>?_,dom,fun b z w=>?_⟩
  .unfold cX start;simp only [length_append,length_map,length_replicate,length_cons,lenv]
  .have:=ee e;rw [oeq]
   cases i with
   | zero=>cases this;exact⟨_,s0,rs⟩
   | succ i =>
    rw [getElem?_cons_succ,getElem?_map] at this
    cases e2:ds[i]? with
    | none=>rw [e2] at this;cases this
    | some d =>
     rw [e2] at this;cases this;obtain⟨v,hv,f⟩:=fv.getD e2;exact⟨v,g9 (by rw [getElem?_cons_succ];exact hv),f⟩
  .rw [own0 i q1 e1 o1,own0 j q2 e2 o2]
  .rw [wr b w] at z;exact na z
 refine hl [(0,.ref a)] A (fun b=>b=a) H _ _ H _ _ rfl R0 ⟨fun _ _ _ h=>h,fun _ h=>h,fun b w=>.inl (wr b w),fun q hq=>by rw [mem_singleton.mp hq];exact s0⟩ (hc p ds Qc ow hq) (fun ρ' σ' H' q r F=>?_) (fun _ _ _ _ _ z=>z.elim) (fun _ _ _ z=>z.elim) (fun _ _ _ z=>z.elim);have q:Bl i j Qc ρ':=q;unfold Bl at q
 split at q
 .rename_i p' ds2 es e0 ei ej;obtain⟨ow',q⟩:=q;have sa:σ'[0]?=some (some (.ref a)):=F.fx (0,.ref a) (mem_singleton.mpr rfl);obtain⟨v0,s0',rs0⟩:=r.get 0 p' e0;rw [sa] at s0';cases s0';obtain⟨x,si,fx⟩:=r.get i _ ei;obtain⟨y,sj,fy⟩:=r.get j _ ej;obtain⟨w,ys,rfl,ew,fw⟩:=fx;obtain⟨u,xs,rfl,eu,fu⟩:=fy;have ww:Wr ρ' σ' w:=⟨i,_,ei,rfl,si⟩
  have wu:Wr ρ' σ' u:=⟨j,_,ej,rfl,sj⟩
  have wa':Wr ρ' σ' a:=⟨0,p',e0,ow',sa⟩
  have wna:w≠a:=fun z=>by
   subst z;exact hi (r.dj i 0 _ _ _ ei e0 rfl ow' si sa)
  have ua:u≠a:=fun z=>by
   subst z;exact hj (r.dj j 0 _ _ _ ej e0 rfl ow' sj sa)
  have wnu:w≠u:=fun z=>by
   subst z;exact hij (r.dj i j _ _ _ ei ej rfl rfl si sj)
  have nw:H w=none:=(F.ow w ww).resolve_left wna;have nu:H u=none:=(F.ow u wu).resolve_left ua
  have less:∀b,cP (cP (cP A a) w) u b->OO A ρ' σ' b:=fun b z=>by
   rcases z with ((z|z)|z)|z
   .exact .inl z
   .exact .inr (by rw [z];exact wa')
   .exact .inr (by rw [z];exact ww)
   .exact .inr (by rw [z];exact wu)
  refine⟨.ref w,si,.ref u,sj,by show 2<=sizeLine;decide,fun T hT=>?_⟩;have g:Gr H' (upd H' T (.tup [.ref w,.ref u])):=Gr.new hT;have kl:aL (OO A ρ' σ') H' (cP (cP (cP A a) w) u) (upd H' T (.tup [.ref w,.ref u])):=fun b o n e=>⟨fun z=>n (less b z),g b o e⟩
  have na':H' a≠none:=r.wr wa';obtain⟨oa,ea⟩:∃o,H' a=some o:=by cases z:H' a with|none=>exact absurd z na'|some o=>exact⟨o,rfl⟩
  refine k ds2 es p' q ow' T w u ys xs _ (fun b o n e=>g b o (F.kp b o n e)) (by rw [g a _ ea];exact nofun) nw nu wnu aJ (g w _ ew) (g u _ eu) (rs0.keeps kl fun _ b eb=>?_) (fw.keeps kl) (fu.keeps kl);cases eb;rw [g _ _ ea,ea]
 .exact q.elim
def y8(c:FR)(i:Nat)(pr:PTA)(x y:Nat):PTS:=fun D ρ=>match ρ[i]? with
 | some (some _)=>pr ρ fun as ρ1=>(match ρ1[i]?,avD as with
  | some (some p),some ds=>p.isOwn=true/\c p ds fun r p'=>(match r with|.own [.lst ds,.lst es]=>D.nx (((ρ1.set i (some p')).set x (some (.own ds))).set y (some (.own es)))|_=>False)
  | _,_=>False)
 | _=>False
theorem zN{c:FR}{i x y:Nat}{tr:TA}{pr:PTA}(hxy:x≠y)(hx:fs.contains x=false)(hy:fs.contains y=false)(hix:i≠x)(hiy:i≠y)(h:LAs K tr pr) :
  LS K fs (x6 (fc (BM K c) [] E0 (bg (bL i) tr)) (BL K 2 (pZ (cT x) (pZ (cT y) B5)))) (y8 c i pr x y):=fun fx A R H0 ρ σ H D D' hf Rr F q k1 k2 k3 k4=>by
 unfold y8 at q
 split at q
 .rename_i p0 e0;obtain⟨v0,s0,_⟩:=Rr.get i p0 e0;refine⟨v0,s0,h A ρ σ H _ _ Rr q fun vs H1 as ρ1 q1 f1 R1 o1=>?_⟩
  split at q1
  .rename_i p ds e1 ed;obtain⟨ow,q1⟩:=q1;obtain⟨v1,s1,rs⟩:=R1.get i p e1;rw [s0] at s1;cases s1;obtain⟨a,u0,rfl,ea⟩:=rs.ref ow;rw [append_nil];have wa:Wr ρ1 σ a:=⟨i,p,e1,ow,s0⟩
   have oeq:cP (fun b=>(OO A ρ1 σ b)/\b≠a) a=OO A ρ1 σ:=funext fun b=>propext ⟨fun z=>z.elim (fun z=>z.1) (fun z=>by rw [z];exact .inr wa),fun z=>by
    by_cases e:b=a
    .exact .inr e
    .exact .inl ⟨z,e⟩⟩
   refine⟨fun b=>(OO A ρ1 σ b)/\b≠a,a,p,vs,ds,_,rfl,ow,fun b z=>R1.dom2 b z.1,fun z=>z.2 rfl,by rw [oeq];exact rs,by rw [oeq];exact o1.avD ed,q1,fun ds2 es p' qr ow' T w u ys xs H' kp ha n0 n1 wnu eT ew eu rs' fw fu=>?_⟩;rw [oeq] at rs' fw fu;have qr:D.nx (((ρ1.set i (some p')).set x (some (.own ds2))).set y (some (.own es))):=qr
   have domA:∀b,A b->H' b≠none:=fun b z=>by
    have:b≠a:=fun e=>R1.sep b z (by rw [e];exact wa)
    cases eb:H1 b with
    | none=>exact absurd eb (R1.dom b z)
    | some o=>rw [kp b o this eb];exact nofun
   have oo2':OO (cP (cP A w) u) ρ1 σ=cP (cP (OO A ρ1 σ) w) u:=funext fun b=>propext ⟨fun z=>by
    rcases z with ((z|z)|z)|z
    .exact .inl (.inl (.inl z))
    .exact .inl (.inr z)
    .exact .inr z
    .exact .inl (.inl (.inr z)),fun z=>by
    rcases z with ((z|z)|z)|z
    .exact .inl (.inl (.inl z))
    .exact .inr z
    .exact .inl (.inl (.inr z))
    .exact .inl (.inr z)⟩
   obtain⟨R2,f2⟩:=R1.step (A':=cP (cP A w) u) e1 ow ow' s0 kp ha (fun _ h=>.inl (.inl h)) (fun b z=>by
    rcases z with (z|z)|z
    .exact .inl z
    .rw [z];exact .inr n0
    .rw [z];exact .inr n1) (fun b z=>by
    rcases z with (z|z)|z
    .exact domA b z
    .rw [z,ew];exact nofun
    .rw [z,eu];exact nofun) (by rw [oo2'];exact rs')
   have F2:=F.fr (f1.trans f2)
   have nH:∀c,H1 c=none->H0 c=none:=fun c n=>by
    cases eb:H0 c with
    | none=>rfl
    | some o=>exact absurd n (f1.dm c (F.dm c (by rw [eb];exact nofun)))
   have o2:Out K (cP A w) (ρ1.set i (some p')) σ H0 H' (.own es) (.ref u):=⟨u,xs,rfl,fun z=>z.elim (fun z=>R1.dom u z n1) fun z=>wnu z.symm,nH u n1,eu,R2,fu.keeps (aL.less fun b z=>by rw [<- oo2'];exact z.imp id (f2.ow b))⟩
   have p2:=o2.put (i:=y);have F3:=F2.put hf hy p2.2
   have lw:∀b,OO (cP A w) ((ρ1.set i (some p')).set y (some (.own es))) (σ.set y (some (.ref u))) b->cP (cP (OO A ρ1 σ) w) u b:=fun b z=>by
    rcases z with (z|z)|⟨m,r,e3,o3,s3⟩
    .exact .inl (.inl (.inl z))
    .exact .inl (.inr z)
    .by_cases z:y=m
     .subst z
      by_cases hl:y<σ.length
      .rw [getElem?_set_self hl] at s3;cases s3;exact .inr rfl
      .rw [getElem?_eq_none (by rw [length_set];omega)] at s3;cases s3
     .rw [getElem?_set_ne z] at e3 s3;exact .inl (.inl (.inr (f2.ow b ⟨m,r,e3,o3,s3⟩)))
   have o3:Out K A ((ρ1.set i (some p')).set y (some (.own es))) (σ.set y (some (.ref u))) H0 H' (.own ds2) (.ref w):=⟨w,ys,rfl,fun z=>R1.dom w z n0,nH w n0,ew,p2.1,fw.keeps (aL.less lw)⟩
   have p3:=o3.put (i:=x);have F4:=F3.put hf hx p3.2;have R4:=p3.1;rw [set_comm _ _ (Ne.symm hxy),set_comm _ _ (Ne.symm hxy)] at R4 F4;exact⟨true,T,[.ref w,.ref u],rfl,SqT.of eT,rfl,.ref w,[.ref u],rfl,.ref u,[],rfl,rfl,k1 _ _ _ qr R4 F4⟩
  .exact q1.elim
 .exact q.elim
end
section
variable {X:Cx}{K:PySem.W.Frag}
def Dz:List V->Hp->VK->Prop:=fun xs H Q=>∃(l:List Nat) (n:Int),xs=[.str (S l)]/\PySem.intText? (S l)=some n/\l.length<=640/\Q (.int n) H
theorem DA:cC X (.type "int") Dz:=by
 intro pins s σ H xs us Q I r h;obtain⟨l,n,rfl,hn,hl,q⟩:=h;obtain⟨u,rfl,rx⟩:=jm r;obtain⟨t,rfl⟩:=rx;refine PySem.W.KIN.call_text hn (by show (S l).cps.size<=640;exact hl) ?_;exact⟨.int n,H,I.tok _,⟨_,rfl⟩,q⟩
def Bn:FN
 | [.str l],Q=>∃n:Int,PySem.intText? (S l)=some n/\l.length<=640/\Q (.dat (.int n))
 | _,_=>False
theorem Bo:LC K Dz Bn:=by
 intro O H xs as Q Q' dom fs q k;unfold Bn at q
 split at q
 .obtain⟨n,hn,hl,q⟩:=q
  cases fs with
  | cons a b =>
   cases b;obtain⟨rfl,_⟩:=a.str;exact⟨_,n,rfl,hn,hl,k _ H _ q (Gr.refl _) (.int _)⟩
 .exact q.elim
end
section
variable {K:PySem.W.Frag}{fx:List (Nat×V)}{A R:Addr->Prop}{H0 H:Hp}{ρ:PSt}{σ:St}
def DB(x g t:Nat)(Q:PSt->Prop)(ρ:PSt):Prop:=match ρ[g]?,ρ[t]? with
 | some (some (.own ds)),some (some (.own es))=>Q (((ρ.set g (some (.dat (.lst ds)))).set t (some (.dat (.lst es)))).set x (some (.own [.lst ds,.lst es])))
 | _,_=>False
def DC(x r g t:Nat)(pt:PTT)(pe:PTE)(f:Int->Int->Int)(pk pc:PTE):PTS:=fun D ρ=>(∃ds,ρ[g]?=some (some (.own ds)))/\(∃es,ρ[t]?=some (some (.own es)))/\(x<ρ.length/\r<ρ.length) /\
 pt (ρ.set x none) fun b ρ1=>ji b (pe ρ1 fun v ρ2=>match v,ρ2[g]?,ρ2[t]? with
  | .dat (.int i),some (some (.own ds)),some (some (.own es))=>r<ρ2.length/\∃n,ixN 2 i=some n/\(n=0->nI f r pk pc ⟨fun ρ3=>lR ρ3 g r (DB x g t D.nx),fun _ _=>False,fun _=>False,fun _=>False⟩ (mvd ρ2 g r ds))/\(n=1->nI f r pk pc ⟨fun ρ3=>lR ρ3 t r (DB x g t D.nx),fun _ _=>False,fun _=>False,fun _=>False⟩ (mvd ρ2 t r es))
  | _,_,_=>False) (DB x g t D.nx ρ1)
theorem xK{fs:List Nat}{tk te:TE}{pk pe:PTE}{f:Int->Int->Int}(hk:LE K tk pk)(he:LE K te pe){r g:Nat}{ds:List D}{a:Addr}{Q:PSt->Prop}{D':zi}(hr:fs.contains r=false)(n:r≠g)(hf:fx.map Prod.fst=fs)(hg:(g,V.ref a)∈fx)(hrl:r<ρ.length)(h:Rel K A ρ σ H)(F:fe fx R H0 ρ σ H)(e:ρ[g]?=some (some (.own ds)))(s:σ[g]?=some (some (.ref a)))
  (q:nI f r pk pe ⟨fun ρ2=>lR ρ2 g r Q,fun _ _=>False,fun _=>False,fun _=>False⟩ (mvd ρ g r ds)) (k1:∀ρ' σ' H',Q ρ'->Rel K A ρ' σ' H'->fe fx R H0 ρ' σ' H'->D'.nx σ' H') :
  x8 (bL r) tk te (BE K) (ipI f) vR D' (σ.set r (some (.ref a))) H:=by
 obtain⟨r1,w1⟩:=h.move n e s
 have hfx:∀p∈fx,p.1≠r:=fun p hp z=>by
  have h1:r∈fs:=by rw [<- hf,<- z];exact mem_map_of_mem hp
  rw [contains_iff_mem.mpr h1] at hr;cases hr
 have F1:fe ((r,V.ref a)::fx) R H0 (mvd ρ g r ds) (σ.set r (some (.ref a))) H:=⟨F.kp,F.dm,fun b w=>F.ow b (w1 b w),fun p hp=>by
  rcases mem_cons.mp hp with rfl|hp
  .exact getElem?_set_self (by rw [<- h.len];exact hrl)
  .rw [getElem?_set_ne (Ne.symm (hfx p hp))];exact F.fx p hp⟩
 refine xG (fs:=r::fs) (i:=r) hk he ((r,V.ref a)::fx) A R H0 _ _ H _ D' (by rw [map_cons,hf]) r1 F1 q (fun ρ' σ' H' q' r' F'=>?_) (fun _ _ _ _ _ z=>(z:False).elim) (fun _ _ _ z=>(z:False).elim) (fun _ _ _ z=>(z:False).elim);have q2:lR ρ' g r Q:=q';clear q';unfold lR at q2
 split at q2
 .rename_i ds' e1 e2;have sr:=F'.fx (r,V.ref a) mem_cons_self;have sg:=F'.fx (g,V.ref a) (mem_cons_of_mem _ hg);obtain⟨r2,w2⟩:=r'.move (Ne.symm n) e1 sr;rw [oR sg] at r2 w2;exact k1 _ σ' H' q2 r2 ⟨F'.kp,F'.dm,fun b w=>F'.ow b (w2 b w),fun p hp=>F'.fx p (mem_cons_of_mem _ hp)⟩
 .exact q2.elim
theorem DD{fs:List Nat}{tt:TT}{pt:PTT}{te tk tc:TE}{pe pk pc:PTE}{f:Int->Int->Int}{tr:TS}{pr:PTS}{x r g t:Nat}(hx:fs.contains x=false)(hr:fs.contains r=false)(hg:fs.contains g=false)(ht:fs.contains t=false)(hd:[x,r,g,t].Nodup)
  (hT:LT K tt pt) (he:LE K te pe) (hk:LE K tk pk) (hc:LE K tc pc) (h:LS K fs tr pr) :
  LS K fs (Aa (x6 (Ed (bg (bL g) (bg (bL t) fS))) (cT x)) (Aa (D2 tt (Aa (x6 (tOp (uK K) (bL x) te) (cT r)) (x8 (bL r) tk tc (BE K) (ipI f) vR)) x0) tr)) (aG (gN (DC x r g t pt pe f pk pc)) pr):=fun fx A R H0 ρ σ H D D' hf rr F q k1 k2 k3 k4=>by
 obtain⟨J,q,hJ⟩:=q;obtain⟨⟨ds0,eg⟩,⟨es0,et⟩,⟨hxl,hrl⟩,q⟩:=q;simp only [nodup_cons,mem_cons,not_mem_nil,or_false,not_or,nodup_nil,and_true,not_false_eq_true] at hd;obtain⟨⟨nxr,nxg,nxt⟩,⟨nrg,nrt⟩,ngt⟩:=hd;obtain⟨ag,xg,sg,gg,_⟩:=rr.ownAt eg;obtain⟨at',xt,st,gt,_⟩:=rr.ownAt et;refine⟨.ref ag,sg,.ref at',st,sz _ (by show 2<=1000000;decide),fun d hd=>?_⟩;have nwd:¬ Wr ρ σ d:=fun w=>rr.wr w hd;have inH:∀b,H0 b≠none->b≠d:=fun b z e=>F.dm b z (by rw [e];exact hd)
 have R1:Rel K (cP A d) (ρ.set x none) (σ.set x (some (.ref d))) (upd H d (.lst [.ref ag,.ref at'])):=(rr.grA (Gr.new hd) hd (by rw [aJ];exact nofun)).clr
 have hfx:∀y,fs.contains y=false->∀p∈fx,p.1≠y:=fun y hy p hp z=>by
  have h1:y∈fs:=by rw [<- hf,<- z];exact mem_map_of_mem hp
  rw [contains_iff_mem.mpr h1] at hy;cases hy
 have xl:x<σ.length:=by rw [<- rr.len];exact hxl
 have F1:fe ((x,V.ref d)::(g,V.ref ag)::(t,V.ref at')::fx) (fun b=>Wr ρ σ b) (upd H d (.lst [.ref ag,.ref at'])) (ρ.set x none) (σ.set x (some (.ref d))) (upd H d (.lst [.ref ag,.ref at'])):=⟨fun _ _ _ e=>e,fun _ z=>z,fun b w=>.inl (xJ w),fun p hp=>by
  rcases mem_cons.mp hp with rfl|hp
  .exact getElem?_set_self xl
  .rcases mem_cons.mp hp with rfl|hp
   .rw [getElem?_set_ne nxg];exact sg
   .rcases mem_cons.mp hp with rfl|hp
    .rw [getElem?_set_ne nxt];exact st
    .rw [getElem?_set_ne (Ne.symm (hfx x hx p hp))];exact F.fx p hp⟩
 have hdk:∀ρ3 σ3 H3,fe ((x,V.ref d)::(g,V.ref ag)::(t,V.ref at')::fx) (fun b=>Wr ρ σ b) (upd H d (.lst [.ref ag,.ref at'])) ρ3 σ3 H3->H3 d=some (.lst [.ref ag,.ref at']):=fun ρ3 σ3 H3 F3=>F3.kp d _ nwd aJ
 -- the end: told again
 have fin:∀ρ3 σ3 H3,Rel K (cP A d) ρ3 σ3 H3->fe ((x,V.ref d)::(g,V.ref ag)::(t,V.ref at')::fx) (fun b=>Wr ρ σ b) (upd H d (.lst [.ref ag,.ref at'])) ρ3 σ3 H3->DB x g t J ρ3->tr D' σ3 H3:=fun ρ3 σ3 H3 r3 F3 q3=>by
  unfold DB at q3
  split at q3
  .rename_i ds es e1 e2;have s1:σ3[g]?=some (some (.ref ag)):=F3.fx (g,V.ref ag) (by simp);have s2:σ3[t]?=some (some (.ref at')):=F3.fx (t,V.ref at') (by simp);have s3:σ3[x]?=some (some (.ref d)):=F3.fx (x,V.ref d) (by simp);obtain⟨r4,f4⟩:=r3.frz e1;have e2':(ρ3.set g (some (.dat (PV.own ds).d)))[t]?=some (some (.own es)):=by rw [getElem?_set_ne ngt];exact e2
   obtain⟨r5,f5⟩:=r4.frz e2';have gl:g<ρ3.length:=(List.getElem?_eq_some_iff.mp e1).1;have tl:t<ρ3.length:=(List.getElem?_eq_some_iff.mp e2).1;obtain⟨v1,u1,w1⟩:=r5.get g (.dat (PV.own ds).d) (by rw [getElem?_set_ne (Ne.symm ngt),getElem?_set_self gl]);obtain⟨v2,u2,w2⟩:=r5.get t (.dat (PV.own es).d) (by rw [getElem?_set_self (by rw [length_set];exact tl)]);rw [s1] at u1;cases u1;rw [s2] at u2;cases u2
   have o:Out K A ((ρ3.set g (some (.dat (PV.own ds).d))).set t (some (.dat (PV.own es).d))) σ3 H0 H3 (.own [.lst ds,.lst es]) (.ref d):=by
    refine⟨d,[.ref ag,.ref at'],rfl,fun z=>rr.dom d z hd,?_,hdk _ _ _ F3,r5,.cons w1 (.cons w2 .nil)⟩
    cases z:H0 d with
    | none=>rfl
    | some o=>exact absurd rfl (inH d (by rw [z];exact nofun))
   obtain⟨r6,w6⟩:=o.put (i:=x);rw [oR s3] at r6 w6
   refine h fx A R H0 _ σ3 H3 D D' hf r6 ⟨fun b o n e=>?_,fun b z=>?_,fun b w=>?_,fun p hp=>F3.fx p (mem_cons_of_mem _ (mem_cons_of_mem _ (mem_cons_of_mem _ hp)))⟩ (hJ _ q3) k1 k2 k3 k4
   .have nb:b≠d:=inH b (by rw [e];exact nofun);exact F3.kp b o (fun w=>(F.ow b w).elim n (fun z=>by rw [z] at e;cases e)) (by rw [aE nb];exact F.kp b o n e)
   .exact F3.dm b (by rw [aE (inH b z)];exact F.dm b z)
   .rcases w6 b w with w|w
    .rcases F3.ow b (f4.ow b (f5.ow b w)) with w|w
     .exact F.ow b w
     .refine .inr ?_
      cases z:H0 b with
      | none=>rfl
      | some o =>
       have nb:b≠d:=inH b (by rw [z];exact nofun);rw [aE nb] at w;exact absurd w (F.dm b (by rw [z];exact nofun))
    .exact .inr w
  .exact q3.elim
 refine hT (cP A d) _ _ _ _ _ R1 q fun c H2 ρ1 q1 f1 r1=>?_;have F2:=F1.fr f1
 cases c with
 | false=>exact fin ρ1 _ H2 r1 F2 q1
 | true =>
  have q1:pe ρ1 _:=q1;refine⟨.ref d,getElem?_set_self xl,he (cP A d) ρ1 _ H2 _ _ r1 q1 fun v H3 p ρ2 q2 f2 o2=>?_⟩
  split at q2
  .rename_i i ds es e1 e2;obtain⟨hrl2,m,hm,q20,q21⟩:=q2;obtain⟨r2,ei⟩:=o2;cases ei;have F3:=F2.fr f2;have hdk3:=hdk _ _ _ F3
   have hm2:m=0\/m=1:=by
    unfold ixN at hm
    split at hm
    .split at hm
     .cases hm;omega
     .cases hm
    .split at hm
     .cases hm;omega
     .cases hm
   have at0:∀(v:V),[V.ref ag,V.ref at'][m]?=some v->atI [V.ref ag,V.ref at'] i=some v:=fun v hv=>by
    unfold atI;rw [show ([V.ref ag,V.ref at']:List V).length=2 from rfl,hm];exact hv
   have s1:=F3.fx (g,V.ref ag) (by simp);have s2:=F3.fx (t,V.ref at') (by simp)
   have hr':(x::g::t::fs).contains r=false:=by
    rw [<- not_eq_true,contains_iff_mem,mem_cons,mem_cons,mem_cons,not_or,not_or,not_or];exact⟨Ne.symm nxr,nrg,nrt,fun z=>by rw [contains_iff_mem.mpr z] at hr;cases hr⟩
   have hf':((x,V.ref d)::(g,V.ref ag)::(t,V.ref at')::fx).map Prod.fst=x::g::t::fs:=by rw [<- hf];rfl
   rcases hm2 with rfl|rfl
   .exact .inl ⟨d,_,i,.ref ag,rfl,rfl,SqL.of hdk3,at0 _ rfl,xK hk hc hr' nrg hf' (by simp) hrl2 r2 F3 e1 s1 (q20 rfl) fun ρ' σ' H' q' r' F'=>fin ρ' σ' H' r' F' q'⟩
   .exact .inl ⟨d,_,i,.ref at',rfl,rfl,SqL.of hdk3,at0 _ rfl,xK hk hc hr' nrt hf' (by simp) hrl2 r2 F3 e2 s2 (q21 rfl) fun ρ' σ' H' q' r' F'=>fin ρ' σ' H' r' F' q'⟩
  .exact q2.elim
end
section
open PySem.AutoSeq1 (wpAny_loadPart')
open PySem.MeetsSeq PySem.MeetsSeq2 PySem.MeetsSeq3
variable {P:Program}{w:World}{A:Around}
theorem y9{l b:Addr}{xs:Array Value}{z:Shared}{Q:Value->Shared->Prop}{E:Value->Shared->Prop}(hl:z.heap.IsList l xs)(hb:z.heap.IsList b #[])(hsz:xs.size≠0)(hu:A.units<cLine)
  (h:Q (.bool false) z):wpAny (model P w) A (compareOp .Eq (.ref l) (.ref b)) Q E z:=by
 obtain⟨⟨cls,dd,data,sl⟩,ho,hc,n,hd⟩:=id hl;obtain⟨⟨cls2,dd2,data2,sl2⟩,ho2,hc2,n2,hd2⟩:=id hb;simp only at hc hd hc2 hd2;subst hc hd hc2 hd2;refine wpAny_richCompare_same_room (op:=.Eq) ⟨_,ho,rfl⟩ ⟨_,ho2,rfl⟩ F.slot_list_eq ?_ hu;refine wpAny_call (codeAny_call_builtin F.slot_list_eq.plain F.entry_list_eq (F.slot_list_eq.check _ _ _ _ _ _ _ _ ⟨_,ho,rfl⟩ (F.args_list_eq_2 _ _) ?_));have f3:=AutoSeq1.sub_list_list
 have hne:(xs.size != (#[]:Array Value).size)=true:=by simpa using hsz
 obtain⟨hp,g,d,tk,os⟩:=z
 wp_walk using wpAny_loadPart' ho,wpAny_loadPart' ho2
 exact⟨(fun x=>nomatch x),h⟩
end
section
variable {X:Cx}{K:PySem.W.Frag}
def Fz(K:PySem.W.Frag):R2:=fun x y H Q=>w4 K false x y H Q\/∃(a b:Addr) (xs:List V),x=.ref a/\y=.ref b/\SqL K H a xs/\SqL K H b []/\xs≠[]/\Q (.bl false) H
theorem E7(K:PySem.W.Frag)(e:X.K=K)(hu:X.A.units+64<cLine):OpR X (compareOp .Eq) (Fz K):=OpR.or (gj K e hu) (by
 subst e;intro pins s σ H x y v u Q I rx ry ⟨a,b,xs,e1,e2,h1,h2,hl,q⟩;subst e1 e2;cases rx;cases ry;obtain⟨i1,r1,p1,_⟩:=I.list h1;obtain⟨i2,r2,p2,_⟩:=I.list h2;have l1:=r1.length;have l2:i2=[]:=by have:=r2.length;exact length_eq_zero_iff.mp this.symm
 subst l2;refine y9 p1.isList p2.isList (fun z=>hl ?_) (by omega) ⟨.bl false,H,I,rfl,q⟩;rw [size_toArray] at z;exact length_eq_zero_iff.mp (by omega))
def E8:F2
 | .lst (_::_),.lst [],Q=>Q (.dat (.bl false))
 | a,b,Q=>mI a b Q
theorem DE:LO K (Fz K) E8:=by
 intro O H x y a b Q Q' dom fx fy q k;unfold E8 at q
 split at q
 .obtain⟨p,xs,rfl,e1,f1⟩:=fx.lst;obtain⟨p2,ys,rfl,e2,f2⟩:=fy.lst;cases f2;exact .inr ⟨p,p2,xs,rfl,rfl,SqL.of e1,SqL.of e2,(fun z=>by rw [z] at f1;cases f1),k _ H _ q (Gr.refl _) (.bl _)⟩
 .exact .inl (dE O H _ _ _ _ Q Q' dom fx fy q k)
end
section
variable {X:Cx}{K:PySem.W.Frag}{te:TE}{pe:PTE}{fs:List Nat}
def ipM:TIp:=fun x y H Q=>∃i j,x=.int i/\y=.int j/\vB i j/\Q (.int (i*j)) H
theorem Bp:PIp X .Mult ipM:=by
 intro pins s σ H x y v u Q I r1 r2 h;obtain⟨i,j,e1,e2,hm,q⟩:=h;subst e1;subst e2;obtain⟨t,rfl⟩:=r1;obtain⟨t',rfl⟩:=r2;exact imul_int ⟨.int _,H,I.tok _,⟨_,rfl⟩,q⟩ hm.ok
def xL(i:Nat)(pe:PTE):PTS:=fun E ρ=>match ρ[i]? with
 | some (some (.dat (.int a)))=>pe ρ fun p ρ1=>(match ρ1[i]?,p with
  | some (some (.dat (.int a'))),.dat (.int b)=>(a'=a/\vB a b)/\au i (.dat (.int (a*b))) ρ1 E.nx
  | _,_=>False)
 | _=>False
theorem Bq{i:Nat}(hi:LG K fs (cT i) (au i))(h:LE K te pe):LS K fs (Fd i te ipM) (xL i pe):=fun fx A R H0 ρ σ H E E' hf r F q k1 k2 k3 k4=>by
 unfold xL at q
 split at q
 .rename_i a e;obtain⟨v0,s0,rs0⟩:=r.get i _ e;cases (show FV K _ H v0 (.int a) from rs0);refine⟨_,s0,h A ρ σ H _ _ r q fun v H1 p ρ1 q1 f1 o1=>?_⟩;obtain⟨R1,fv⟩:=o1.frz
  split at q1
  .rename_i a' b e1;obtain⟨⟨rfl,hm⟩,q1⟩:=q1;cases (show FV K _ H1 v (.int b) from fv);exact⟨_,b,rfl,rfl,hm,hi fx A R H0 ρ1 σ H1 (.dat (.int (a'*b))) _ _ _ hf (F.fr f1) ⟨R1,.int _⟩ q1 k1⟩
  .exact q1.elim
 .exact q.elim
end
end L2
namespace K55
open PySem PySem.Spec PyProof.Rows L2
def top(i:Nat):Stmt:=PySem.Challenge.pw_shortglue_k55_often_bound.main.body.getD i (.Pass ⟨0,0,0,0⟩)
abbrev fP:Stmt:=top 20
abbrev oS:Stmt:=top 8
abbrev i9:Stmt:=top 9
abbrev j4:Stmt:=top 21
abbrev gq:Stmt:=top 22
abbrev Br:Stmt:=top 14
abbrev j5:Stmt:=top 15
abbrev fG:Stmt:=top 24
abbrev e6:Stmt:=top 25
abbrev lT:Stmt:=top 26
abbrev gu:Stmt:=top 32
abbrev fH:Stmt:=top 33
abbrev j6:Stmt:=top 34
abbrev c7:Stmt:=Au (top 35) 0
abbrev gv:Stmt:=top 10
abbrev h7:Stmt:=top 11
abbrev eo:Stmt:=top 12
abbrev ja:Stmt:=top 28
abbrev gw:Stmt:=top 36
abbrev ia:Stmt:=top 38
abbrev j7:Stmt:=top 39
abbrev j8:Stmt:=top 40
abbrev lU:Stmt:=top 41
abbrev j9:Stmt:=top 42
abbrev ib:Stmt:=top 43
abbrev ic:Stmt:=top 44
abbrev jb:Stmt:=top 45
abbrev ie:Stmt:=top 46
abbrev lV:Stmt:=top 47
abbrev jc:Stmt:=top 48
abbrev fJ:Stmt:=top 49
abbrev ig:Stmt:=top 50
abbrev kc:Stmt:=top 51
abbrev lW:Stmt:=top 52
abbrev ii:Stmt:=top 53
abbrev lX:Stmt:=top 54
abbrev ik:Stmt:=top 55
abbrev jd:Stmt:=top 56
abbrev je:Stmt:=top 57
abbrev jf:Stmt:=top 58
abbrev za:Stmt:=top 59
theorem uZ:aH ["thing","least","most"] ["thing","least","most"] (ar fP):=⟨rfl,rfl,rfl,by decide +kernel,rfl,by decide +kernel,by decide +kernel⟩
theorem xM:aH ["thing"] ["thing"] (ar oS):=⟨rfl,rfl,rfl,by decide +kernel,rfl,by decide +kernel,by decide +kernel⟩
theorem qQ:aH ["thing"] ["thing"] (ar i9):=⟨rfl,rfl,rfl,by decide +kernel,rfl,by decide +kernel,by decide +kernel⟩
theorem sv:aH ["thing","least","most"] ["thing","least","most"] (ar j4):=⟨rfl,rfl,rfl,by decide +kernel,rfl,by decide +kernel,by decide +kernel⟩
theorem mL:aH ["text","piece"] ["text","piece"] (ar gq):=⟨rfl,rfl,rfl,by decide +kernel,rfl,by decide +kernel,by decide +kernel⟩
theorem zO:aH ["one","other","k"] ["one","other"] (ar Br):=⟨rfl,rfl,rfl,by decide +kernel,rfl,by decide +kernel,by decide +kernel⟩
theorem sw:aH ["words"] ["words"] (ar j5):=⟨rfl,rfl,rfl,by decide +kernel,rfl,by decide +kernel,by decide +kernel⟩
theorem e7:aH ["things","at","thing"] ["things"] (ar fG):=⟨rfl,rfl,rfl,by decide +kernel,rfl,by decide +kernel,by decide +kernel⟩
theorem kX:aH ["piece","other"] ["piece","other"] (ar e6):=⟨rfl,rfl,rfl,by decide +kernel,rfl,by decide +kernel,by decide +kernel⟩
theorem kd:aH ["pieces","at","piece","longer"] ["pieces","at"] (ar lT):=⟨rfl,rfl,rfl,by decide +kernel,rfl,by decide +kernel,by decide +kernel⟩
theorem iN:aH ["pieces","at"] ["pieces"] (ar gu):=⟨rfl,rfl,rfl,by decide +kernel,rfl,by decide +kernel,by decide +kernel⟩
theorem e8:aH ["counts","many","at","count"] ["counts","many"] (ar fH):=⟨rfl,rfl,rfl,by decide +kernel,rfl,by decide +kernel,by decide +kernel⟩
theorem e9:aH ["counts","steps","step","count"] ["counts"] (ar j6):=⟨rfl,rfl,rfl,by decide +kernel,rfl,by decide +kernel,by decide +kernel⟩
theorem oU:aH ["self","pieces","counts"] ["self","pieces","counts"] (ar c7):=⟨rfl,rfl,rfl,by decide +kernel,rfl,by decide +kernel,by decide +kernel⟩
theorem mM:aH ["thing","many"] ["thing","many"] (ar gv):=⟨rfl,rfl,rfl,by decide +kernel,rfl,by decide +kernel,by decide +kernel⟩
theorem oV:aH ["thing","many"] ["thing","many"] (ar h7):=⟨rfl,rfl,rfl,by decide +kernel,rfl,by decide +kernel,by decide +kernel⟩
theorem ke:aH ["thing","many"] ["thing","many"] (ar eo):=⟨rfl,rfl,rfl,by decide +kernel,rfl,by decide +kernel,by decide +kernel⟩
theorem il:aH ["paper","laps","pairs","gives","takes"] ["paper","laps","pairs"] (ar ja):=⟨rfl,rfl,rfl,by decide +kernel,rfl,by decide +kernel,by decide +kernel⟩
theorem dP:aH ["often","paper","numbers","gives","takes"] ["often","paper"] (ar gw):=⟨rfl,rfl,rfl,by decide +kernel,rfl,by decide +kernel,by decide +kernel⟩
theorem gy:aH ["_law_script","_law_k","_law_cell"] ["_law_script","_law_k"] (ar ia):=⟨rfl,rfl,rfl,by decide +kernel,rfl,by decide +kernel,by decide +kernel⟩
theorem lY:aH ["_law_stream_here","_law_many","_law_digit"] ["_law_stream_here","_law_many"] (ar j7):=⟨rfl,rfl,rfl,by decide +kernel,rfl,by decide +kernel,by decide +kernel⟩
theorem sx:aH ["_law_stream_here","_law_letters","_law_most"] ["_law_stream_here","_law_letters","_law_most"] (ar j8):=⟨rfl,rfl,rfl,by decide +kernel,rfl,by decide +kernel,by decide +kernel⟩
theorem nJ:aH ["_law_stream_here","_law_text","_law_most","_law_at"] ["_law_stream_here","_law_text","_law_most"] (ar lU):=⟨rfl,rfl,rfl,by decide +kernel,rfl,by decide +kernel,by decide +kernel⟩
theorem gA:aH ["_law_stream_here","_law_most","_law_letters","_law_base_here"] ["_law_stream_here","_law_most"] (ar j9):=⟨rfl,rfl,rfl,by decide +kernel,rfl,by decide +kernel,by decide +kernel⟩
theorem bH:aH ["_law_stream_here","_law_many","_law_most","_law_letters","_law_base_here","_law_found","_law_k","_law_way","_law_piece"] ["_law_stream_here","_law_many","_law_most"] (ar ib):=⟨rfl,rfl,rfl,by decide +kernel,rfl,by decide +kernel,by decide +kernel⟩
theorem jA:aH ["_law_pieces_here","_law_k","_law_other_here"] ["_law_pieces_here","_law_k"] (ar ic):=⟨rfl,rfl,rfl,by decide +kernel,rfl,by decide +kernel,by decide +kernel⟩
theorem ky:aH ["_law_stream_here","_law_many","_law_most","_law_pieces_here"] ["_law_stream_here","_law_many","_law_most"] (ar jb):=⟨rfl,rfl,rfl,by decide +kernel,rfl,by decide +kernel,by decide +kernel⟩
theorem oW:aH ["_law_stream_here","_law_many","_law_most"] ["_law_stream_here","_law_many","_law_most"] (ar ie):=⟨rfl,rfl,rfl,by decide +kernel,rfl,by decide +kernel,by decide +kernel⟩
theorem nK:aH ["_law_one","_law_other_here","_law_k"] ["_law_one","_law_other_here"] (ar lV):=⟨rfl,rfl,rfl,by decide +kernel,rfl,by decide +kernel,by decide +kernel⟩
theorem qR:aH ["_law_found"] ["_law_found"] (ar jc):=⟨rfl,rfl,rfl,by decide +kernel,rfl,by decide +kernel,by decide +kernel⟩
theorem fb:aH ["_law_stream_here","_law_row_here","_law_left","_law_found"] ["_law_stream_here","_law_row_here"] (ar fJ):=⟨rfl,rfl,rfl,by decide +kernel,rfl,by decide +kernel,by decide +kernel⟩
theorem jB:aH ["_law_stream_here","_law_one","_law_other_here","_law_many"] ["_law_stream_here","_law_one","_law_other_here","_law_many"] (ar ig):=⟨rfl,rfl,rfl,by decide +kernel,rfl,by decide +kernel,by decide +kernel⟩
theorem bT:aH ["_law_stream_here","_law_texts","_law_text","_law_one","_law_word_here","_law_way","_law_many"] ["_law_stream_here","_law_texts"] (ar kc):=⟨rfl,rfl,rfl,by decide +kernel,rfl,by decide +kernel,by decide +kernel⟩
theorem kf:aH ["_law_stream_here","_law_counts_here","_law_row_here","_law_k"] ["_law_stream_here","_law_counts_here"] (ar lW):=⟨rfl,rfl,rfl,by decide +kernel,rfl,by decide +kernel,by decide +kernel⟩
theorem oX:aH ["_law_thing","_law_many"] ["_law_thing","_law_many"] (ar ii):=⟨rfl,rfl,rfl,by decide +kernel,rfl,by decide +kernel,by decide +kernel⟩
theorem eU:aH ["_law_pieces_here","_law_counts_here","_law_paper_here","_law_found","_law_i","_law_j","_law_much"] ["_law_pieces_here","_law_counts_here","_law_paper_here"] (ar lX):=⟨rfl,rfl,rfl,by decide +kernel,rfl,by decide +kernel,by decide +kernel⟩
theorem cg:aH ["_law_stream_here","_law_pieces_here","_law_gives","_law_takes","_law_way","_law_i","_law_j","_law_much","_law_great"] ["_law_stream_here","_law_pieces_here"] (ar ik):=⟨rfl,rfl,rfl,by decide +kernel,rfl,by decide +kernel,by decide +kernel⟩
theorem bN:aH ["_law_stream_here","_law_pieces_here","_law_gives","_law_takes","_law_way","_law_rows","_law_row_here","_law_bent"] ["_law_stream_here","_law_pieces_here"] (ar jd):=⟨rfl,rfl,rfl,by decide +kernel,rfl,by decide +kernel,by decide +kernel⟩
theorem dA:aH ["_law_stream_here","_law_pieces_here","_law_gives","_law_takes","_law_things","_law_others"] ["_law_stream_here","_law_pieces_here"] (ar je):=⟨rfl,rfl,rfl,by decide +kernel,rfl,by decide +kernel,by decide +kernel⟩
theorem ef:aH ["_law_stream_here","_law_often","_law_paper_here","_law_due_here","_law_found","_law_k","_law_texts"] ["_law_stream_here","_law_often","_law_paper_here"] (ar jf):=⟨rfl,rfl,rfl,by decide +kernel,rfl,by decide +kernel,by decide +kernel⟩
theorem im:aH ["_law_script","_law_k","_law_stream_here","_law_pieces_here","_law_counts_here","_law_often","_law_j","_law_paper_here","_law_rows","_law_nothing","_law_found"] ["_law_script"] (ar za):=⟨rfl,rfl,rfl,by decide +kernel,rfl,by decide +kernel,by decide +kernel⟩
structure Txt (mg:Str->Option Value):Prop where
 b_abs:mg "abs"=none
 b_all:mg "all"=none
 b_any:mg "any"=none
 b_bool:mg "bool"=none
 b_enumerate:mg "enumerate"=none
 b_int:mg "int"=none
 b_isinstance:mg "isinstance"=none
 b_len:mg "len"=none
 b_list:mg "list"=none
 b_max:mg "max"=none
 b_min:mg "min"=none
 b_range:mg "range"=none
 b_str:mg "str"=none
 b_sum:mg "sum"=none
 b_tuple:mg "tuple"=none
 b_zip:mg "zip"=none
 g_MOST_COUNT:∃t,mg "MOST_COUNT"=some (.int 9 t)
 g_MOST_PIECES:∃t,mg "MOST_PIECES"=some (.int 40 t)
 g_MOST_PRODUCT:∃t,mg "MOST_PRODUCT"=some (.int 500 t)
 g_MOST_SIGNS:∃t,mg "MOST_SIGNS"=some (.int 60 t)
structure TxC (K:PySem.W.Frag):Prop where
 cl_Often:Cls K (dB K "Often")
 n_Often_pieces:gJ K (dB K "Often") "pieces"
 n_Often_counts:gJ K (dB K "Often") "counts"
 n_Often_laps:gJ K (dB K "Often") "laps"
 n_Often_total:gJ K (dB K "Often") "total"
local macro_rules | `(tactic| walk_at "s")=>`(tactic| first | (with_reducible omega) | (with_reducible assumption) | (with_reducible rfl) | exact le_of_ble_eq_true rfl | (simp only [length_cons,length_nil,length_append,length_map];(with_reducible omega)) | assumption | rfl | (refine ⟨?_,?_⟩ <;> first | (with_reducible omega) | (with_reducible assumption) | (with_reducible rfl) | exact le_of_ble_eq_true rfl | assumption | rfl | (refine ⟨?_,?_⟩ <;> first | (with_reducible omega) | (with_reducible assumption) | (with_reducible rfl) | exact le_of_ble_eq_true rfl | assumption | rfl | (refine ⟨?_,?_⟩ <;> first | (with_reducible omega) | (with_reducible assumption) | (with_reducible rfl) | exact le_of_ble_eq_true rfl | assumption | rfl | fail) | fail) | fail) | omega | fail)
local macro_rules | `(tactic| walk_at "r")=>`(tactic| ((try dsimp only [set_cons_zero,set_cons_succ,xu,xv,xw,Dr,Ds,qK,nE,nF,tZ,t0,tail_cons,qL,qM,t5,xH,xI,zM]);(conv=>whnf);(repeat (first | ((with_reducible refine And.intro ?_ ?_);(next=>walk_at "s");(conv=>whnf)) | ((with_reducible refine (show Exists _ from ?_));(first | (refine ⟨_,rfl,?_⟩) | (refine ⟨_,iG.lst _,?_⟩) | (refine ⟨_,iG.tup _,?_⟩));(conv=>whnf)) | ((refine (show ji _ _ _ from ?_));(first | (with_reducible refine FG (by assumption) ?_) | (with_reducible refine FH (by assumption) ?_) | (with_reducible refine Eu (by assumption) ?_) | (with_reducible refine AN (by assumption) ?_) | ((with_reducible refine Es ?_ ?_);(next=>(first | (with_reducible rfl) | (with_reducible assumption) | (with_reducible omega)))) | ((with_reducible refine Et ?_ ?_);(next=>(first | (with_reducible rfl) | (with_reducible assumption) | (with_reducible omega)))) | ((with_reducible refine CW ?_ ?_);(next=>(first | (with_reducible rfl) | (with_reducible assumption) | (with_reducible omega)))) | ((with_reducible refine CY ?_ ?_);(next=>(first | (with_reducible rfl) | (with_reducible assumption) | (with_reducible omega)))));(conv=>whnf))));(try refine (show ji _ _ _ from ?_));(try dsimp only [set_cons_zero,set_cons_succ,xu,xv,xw,Dr,Ds,qK,nE,nF,tZ,t0,tail_cons,qL,qM,t5,xH,xI,zM])))
def stv(s:Int×Int):PV:=.own [.int s.1,.int s.2]
def SOk:Int×Int->Prop
 | (a,b)=>0<=a/\0<=b/\b < 2 ^ 60
def nL:Nat:=3
def c9:FN
 | [d,.int a,.int b],Q=>d.sort=true/\EW d<=1000000/\Q (.dat (.bl (yJ d a b)))
 | _,_=>False
def qS:Nat:=1
def bG:FN
 | [d],Q=>d.sort=true/\Q (.dat (.bl (xc d)))
 | _,_=>False
def kz:Nat:=1
def bb:FN
 | [d],Q=>d.sort=true/\Q (.dat (.bl (dI d)))
 | _,_=>False
def lZ:Nat:=3
def BN(d:D)(a b:Int):Bool:=dI d && (decide (a<=toI d) && decide (toI d<=b))
def cq:FN
 | [d,.int a,.int b],Q=>d.sort=true/\Q (.dat (.bl (BN d a b)))
 | _,_=>False
def iO:Nat:=2
def bi:FN
 | [.str a,.str b],Q=>Q (.dat (.int (fnd a b 0)))
 | _,_=>False
def zP:Nat:=3
def gP:FN
 | [.str a,.str b],Q=>(0<a.length/\a.length<=10000)/\(0<b.length/\b.length<=10000)/\Q (.dat (.int (eG a b:Int)))
 | _,_=>False
def l0:Nat:=1
def cr:FN
 | [.tup ds],Q=>∃ws:List (List Nat),ds=ws.map .str/\(ws.length<=1000/\∀w∈ws,0<w.length/\w.length<=10000)/\Q (.dat (Dq ws))
 | _,_=>False
def io:Nat:=3
def bc:FN
 | [d],Q=>∃ws:List (List Nat),iG d (ws.map .str)/\(ws.length<=40/\Pcs 60 ws)/\Q (.dat .non)
 | _,_=>False
def gQ:Nat:=2
def aT:FN
 | [.str a,.str b],Q=>Q (.dat (.bl (iH a b)))
 | _,_=>False
def nM:Nat:=4
def cQ:FN
 | [.tup ds,.int i],Q=>∃ws:List (List Nat),ds=ws.map .str/\(ws.length<=1000/\∀w∈ws,w.length<=10000)/\(0<=i/\i<(ws.length:Int))/\Q (.dat (.bl (dN ws i.toNat)))
 | _,_=>False
def iP:Nat:=2
def bj:FN
 | [d],Q=>∃ws:List (List Nat),iG d (ws.map .str)/\(ws.length<=40/\Pcs 60 ws/\(∀i,i<ws.length->dN ws i=true)/\(d=.tup (ws.map .str)\/ws=[]))/\Q (.dat .non)
 | _,_=>False
def ip:Nat:=4
def bd:FN
 | [d,.int m],Q=>∃cs:List Nat,iG d (cs.map nD)/\(m=(cs.length:Int)/\cs.length<=40/\∀c∈cs,1<=c/\c<=9)/\Q (.dat .non)
 | _,_=>False
def l4:Nat:=4
def cu:FN
 | [d],Q=>∃cs:List Nat,iG d (cs.map nD)/\(cs.length<=4/\∀c∈cs,1<=c/\c<=3)/\∀(ss:List Int) (p:Int),p<=500->Q (.dat (.tup [.lst (ss.map .int),.int p]))
 | _,_=>False
def jC:Nat:=3
def Bs:List Str:=["pieces","counts","laps","total"]
def ofT(ps:List (List Nat))(cs:List Nat):Int:=((ps.zip cs).map fun p=>(p.1.length:Int)*(p.2:Int)).sum
def Bt(ps:List (List Nat))(cs:List Nat):List D:=[.tup (ps.map .str),.tup (cs.map nD),Dq ps,.int (ofT ps cs)]
def bA:FR
 | .ins "Often" [] [],[d,e],Q=>∃ps:List (List Nat),iG d (ps.map .str)/\∃cs:List Nat,iG e (cs.map nD)/\(ps.length<=4/\Pcs 60 ps/\(∀i,i<ps.length->dN ps i=true)/\(d=.tup (ps.map .str)\/ps=[])/\cs.length=ps.length/\∀c∈cs,1<=c/\c<=3)/\Q (.dat .non) (.ins "Often" Bs (Bt ps cs))
 | _,_,_=>False
def iQ:Nat:=2
def bn:FN
 | [d,.int m],Q=>Srt d/\(aB d).length<=1000000/\Q (.dat (.bl (cF d m)))
 | _,_=>False
def jD:Nat:=2
theorem DF{α:Type}(f:Int->α)(zs:List Int):(List.range zs.length).map (fun k=>f (zs.getD k 0))=zs.map f:=by
 refine ext_getElem (by rw [length_map,length_map,length_range]) fun i h1 h2=>?_;rw [length_map,length_range] at h1;rw [getElem_map,getElem_map,getElem_range,getD_eq_getElem?_getD,getElem?_eq_getElem h1];rfl
def prB(d:D)(m:Int):Bool:=cF d m && (aB d).all fun x=>decide (0<=toI x)
theorem kg{d:D}{m:Int}(c:cF d m=true):∃zs:List Int,iG d (zs.map .int)/\(zs.length:Int)=m:=by
 unfold cF at c;rw [and_eq_true,and_eq_true] at c;obtain⟨c1,c2,c3⟩:=c
 cases d with
 | lst ds=>exact⟨ds.map toI,.inl (congrArg _ (sd c3)),by rw [length_map];exact of_decide_eq_true c2⟩
 | tup ds=>exact⟨ds.map toI,.inr (congrArg _ (sd c3)),by rw [length_map];exact of_decide_eq_true c2⟩
 | _=>cases c1
theorem u7{d:D}{zs:List Int}(h:iG d (zs.map .int)):cF d zs.length=true:=by
 unfold cF;rw [h.items,length_map,decide_eq_true rfl,Bool.true_and,and_eq_true];refine⟨by rcases h with rfl|rfl <;> rfl,?_⟩;rw [all_map];exact all_eq_true.mpr fun _ _=>rfl
theorem ub{d:D}{zs:List Int}(h:iG d (zs.map .int)):prB d zs.length=zs.all fun z=>decide (0<=z):=by
 unfold prB;rw [u7 h,Bool.true_and,h.items,all_map];rfl
def br:FN
 | [d,.int m],Q=>Srt d/\(aB d).length<=1000000/\Q (.dat (.bl (prB d m)))
 | _,_=>False
def fQ:Nat:=2
def FS(d:D):Prop:=d.sort=true/\∀r∈aB d,r.sort=true/\∀x∈aB r,x.sort=true
theorem DG{d:D}(h:xc d=true):iG d (aB d):=by
 cases d with
 | lst ds=>exact .inl rfl
 | tup ds=>exact .inr rfl
 | _=>cases h
theorem getElem?_itD{ds:List D}{k:Nat}(h:k<ds.length):ds[k]?=some (itD ds k):=by
 unfold itD;rw [getD_eq_getElem?_getD,getElem?_eq_getElem h];rfl
def ppB(d:D)(m:Int):Bool:=xc d && (decide ((aB d).length=2) && (aB d).all fun r=>prB r m)
def okP(d:D):Prop:=FS d/\(aB d).length<=1000/\∀r∈aB d,(aB r).length<=1000
def aU:FN
 | [d,.int m],Q=>okP d/\Q (.dat (.bl (ppB d m)))
 | _,_=>False
def kA:Nat:=5
abbrev prT(p:Nat×Nat):D:=.tup [.int (p.1:Int),.int (p.2:Int)]
def nmb(d:D)(i:Nat):Int:=toI (itD (aB d) i)
theorem kh{d:D}{zs:List Int}(h:iG d (zs.map .int)){i:Nat}(hi:i<zs.length):nmb d i=zs.getD i 0/\atI (zs.map D.int) (i:Int)=some (.int (nmb d i)):=by
 have e:itD (zs.map D.int) i=.int (zs.getD i 0):=wT (by rw [length_map];exact hi);have e2:nmb d i=zs.getD i 0:=by unfold nmb;rw [h.items,e];rfl
 refine⟨e2,fL (j:=i) ?_ rfl⟩;rw [getElem?_itD (by rw [length_map];exact hi),e,e2]
abbrev D0(ws:List (List Nat))(w:List Nat):D:=.tup (ws.map fun v=>.int (eG w v:Int))
def kY(e:D)(ws:List (List Nat))(prs:List (Nat×Nat)):Bool:=ppB e ws.length && prs.all fun p=>decide ((eG (pw ws p.1) (pw ws p.2):Int)<=nmb (itD (aB e) 0) p.1+nmb (itD (aB e) 1) p.2)
theorem Bu{ws:List (List Nat)}{i:Nat}(h:i<ws.length):atI (ws.map (D0 ws)) (i:Int)=some (D0 ws (pw ws i)):=by
 refine fL (j:=i) ?_ rfl;rw [getElem?_map,getElem?_eq_getElem h];unfold pw;rw [getD_eq_getElem?_getD,getElem?_eq_getElem h];rfl
theorem DH{ws:List (List Nat)}{w:List Nat}{i:Nat}(h:i<ws.length):atI (ws.map fun v=>D.int (eG w v:Int)) (i:Int)=some (.int (eG w (pw ws i):Int)):=by
 refine fL (j:=i) ?_ rfl;rw [getElem?_map,getElem?_eq_getElem h];unfold pw;rw [getD_eq_getElem?_getD,getElem?_eq_getElem h];rfl
theorem Bv{e:D}{n:Nat}(h:ppB e n=true):∃(g t:D) (gs ts:List Int),iG e [g,t]/\iG g (gs.map .int)/\iG t (ts.map .int)/\gs.length=n/\ts.length=n/\itD (aB e) 0=g/\itD (aB e) 1=t:=by
 unfold ppB at h;rw [and_eq_true,and_eq_true,decide_eq_true_eq] at h;obtain⟨h1,h2,h3⟩:=h;have he:=DG h1;generalize aB e=es at h2 h3 he
 obtain⟨g,t,rfl⟩:∃g t,es=[g,t]:=by
  match es,h2 with
  | [g,t],_=>exact⟨g,t,rfl⟩
 have hg:=all_eq_true.mp h3 g (by simp);have ht:=all_eq_true.mp h3 t (by simp);have num:∀x:D,prB x n=true->∃zs:List Int,iG x (zs.map .int)/\(zs.length:Int)=(n:Int):=fun x hx=>kg (by unfold prB at hx;rw [and_eq_true] at hx;exact hx.1);obtain⟨gs,hgs,gl⟩:=num g hg;obtain⟨ts,hts,tl⟩:=num t ht;exact⟨g,t,gs,ts,he,hgs,hts,by omega,by omega,rfl,rfl⟩
def bO:FN
 | [e,.tup ls,.lst ps],Q=>∃ws:List (List Nat),ls=ws.map (D0 ws)/\∃prs:List (Nat×Nat),ps=prs.map prT/\(okP e/\ws.length<=40/\prs.length<=1600/\∀p∈prs,p.1<ws.length/\p.2<ws.length)/\Q (.dat (.bl (kY e ws prs)))
 | _,_=>False
def iR:Nat:=5
def oY(n:Nat):List (Nat×Nat):=(List.range n).flatMap fun i=>(List.range n).map fun j=>(i,j)
theorem ln{n:Nat}{p:Nat×Nat}:p∈oY n ↔ p.1<n/\p.2<n:=by
 unfold oY;rw [mem_flatMap]
 constructor
 .rintro⟨i,hi,h⟩;obtain⟨j,hj,rfl⟩:=mem_map.mp h;exact⟨mem_range.mp hi,mem_range.mp hj⟩
 .rintro⟨h1,h2⟩;exact⟨p.1,mem_range.mpr h1,mem_map.mpr ⟨p.2,mem_range.mpr h2,rfl⟩⟩
theorem oZ(n:Nat):∀L:List Nat,(L.flatMap fun i=>(List.range n).map fun j=>(i,j)).length=L.length*n
 | []=>by simp
 | i::L=>by
  rw [flatMap_cons,length_append,length_map,length_range,oZ n L,length_cons,succ_mul,Nat.add_comm]
def ctS(g t:D)(cs:List Nat)(n:Nat):List Int:=(List.range n).map fun i=>((cs.getD i 0:Nat):Int)*(nmb g i+nmb t i)
def obD(e:D)(ps:List (List Nat))(cs:List Nat):D:=if kY e ps (oY ps.length)=true then .int (ofT ps cs - (ctS (itD (aB e) 0) (itD (aB e) 1) cs ps.length).sum) else .non
def aK:FN
 | [.obj c ns fs,e],Q=>c="Often"/\ns=Bs/\∃ps:List (List Nat),∃cs:List Nat,fs=Bt ps cs/\(okP e/\ps.length<=20/\cs.length=ps.length/\∀c∈cs,c<=9)/\Q (.dat (obD e ps cs))
 | _,_=>False
def jE:Nat:=3
def bB:FN
 | [.scr ns,.int k],Q=>(0<=k/\k<=1000/\ns.length<=1000)/\∀s:Int×Int,SOk s->Q (stv s)
 | _,_=>False
def l5:Nat:=3
def al:FR
 | .own [.int c0,.int c1],[.int m],Q=>SOk (c0,c1)/\0<m/\m<=1000000/\∀(x:Int) (s:Int×Int),SOk s->0<=x->x<m->Q (.dat (.int x)) (stv s)
 | _,_,_=>False
def l6:Nat:=3
def bE:FR
 | .own [.int c0,.int c1],[.str ls,.int m],Q=>SOk (c0,c1)/\(0<ls.length/\ls.length<=26/\Lts ls)/\(0<m/\m<=10000)/\∀(w:List Nat) (s:Int×Int),SOk s->0<w.length->w.length<=m.toNat->Lts w->Q (.dat (.str w)) (stv s)
 | _,_,_=>False
def nN:Nat:=4
def de:FR
 | .own [.int c0,.int c1],[.str t,.int m],Q=>SOk (c0,c1)/\(0<t.length/\t.length<=100000/\Lts t)/\(0<m/\m<=10000)/\∀(w:List Nat) (s:Int×Int),SOk s->0<w.length->w.length<=m.toNat->Lts w->Q (.dat (.str w)) (stv s)
 | _,_,_=>False
def l7:Nat:=4
def cL:FR
 | .own [.int c0,.int c1],[.int m],Q=>SOk (c0,c1)/\(0<m/\m<=100)/\∀(ls b:List Nat) (s:Int×Int),SOk s->(0<ls.length/\ls.length<=26/\Lts ls)->(0<b.length/\b.length<=100000/\Lts b)->Q (.dat (.tup [.str ls,.str b])) (stv s)
 | _,_,_=>False
def jF:Nat:=9
theorem zb{α:Type}{xs:List α}{x:α}{n:Int}(h:x∈pW xs n):x∈xs:=by
 unfold pW at h;obtain⟨l,hl,hx⟩:=mem_flatten.mp h;rw [eq_of_mem_replicate hl] at hx;exact hx
def bI:FR
 | .own [.int c0,.int c1],[.int n,.int m],Q=>SOk (c0,c1)/\(0<=n/\n<=100/\0<m/\m<=60)/\∀(ps:List (List Nat)) (s:Int×Int),SOk s->ps.length=n.toNat->Pcs m.toNat ps->Q (.dat (.lst (ps.map .str))) (stv s)
 | _,_,_=>False
def jG:Nat:=3
def bt:FN
 | [.lst ds,.int i],Q=>∃ws:List (List Nat),ds=ws.map .str/\(ws.length<=100/\Pcs 60 ws)/\(0<=i/\i<(ws.length:Int))/\Q (.dat (.bl (!dN ws i.toNat)))
 | _,_=>False
def kB:Nat:=4
def cj:FR
 | .own [.int c0,.int c1],[.int n,.int m],Q=>SOk (c0,c1)/\(0<=n/\n<=100/\0<m/\m<=60)/\∀(ps:List (List Nat)) (s:Int×Int),SOk s->ps.length=n.toNat->Pcs m.toNat ps->Q (.own ((cH ps).map .str)) (stv s)
 | _,_,_=>False
def jH:Nat:=3
def bJ:FR
 | .own [.int c0,.int c1],[.int n,.int m],Q=>SOk (c0,c1)/\(0<=n/\n<=100/\0<m/\m<=60)/\∀(cs:List Nat) (s:Int×Int),SOk s->cs.length=n.toNat->(∀c∈cs,1<=c/\c<=m.toNat)->Q (.own (cs.map nD)) (stv s)
 | _,_,_=>False
def nO:Nat:=3
def bv:FN
 | [.str a,.str b],Q=>a.length<=10000/\(0<b.length/\b.length<=10000)/\Q (.dat (.int (eG a b:Int)))
 | _,_=>False
def kC:Nat:=1
def aQ:FN
 | [d],Q=>d.sort=true/\Q (.dat (.bl (dI d)))
 | _,_=>False
def iq:Nat:=4
theorem xN(js:List Nat):js.map nD=(js.map fun j=>((j:Nat):Int)).map D.int:=by rw [map_map];rfl
theorem xO(rs:List Nat):uJ (.lst (rs.map nD)) (.lst []):=by rw [xN];exact uJ.of (Sh.lstI _) (Sh.lstI [])
theorem Bw(rs:List Nat):deq (.lst (rs.map nD)) (.lst [])=decide (rs=[]):=by
 rw [xN,show (D.lst [])=D.lst (([]:List Int).map D.int) from rfl,yX];exact decide_eq_decide.mpr ⟨fun z=>by simpa using z,fun z=>by rw [z];rfl⟩
def bu:FR
 | .own [.int c0,.int c1],[.lst ds],Q=>∃xs:List Nat,ds=xs.map nD/\(SOk (c0,c1)/\xs.length<=1000)/\∀(js:List Nat) (s:Int×Int),js.Perm xs->SOk s->Q (.dat (.lst (js.map nD))) (stv s)
 | _,_,_=>False
def jI:Nat:=4
def bK:FR
 | .own [.int c0,.int c1],[.str a,.str b,.int m],Q=>SOk (c0,c1)/\(0<=m/\m<=10000/\a.length<=10000/\b.length<=10000)/\∀(r:Nat) (s:Int×Int),SOk s->(r:Int)<=m->Q (.dat (.int (r:Int))) (stv s)
 | _,_,_=>False
def l8:Nat:=7
def u8:List (List Nat)->Nat
 | a::b::r=>eG a b+u8 (b::r)
 | _=>0
def zc(ws:List (List Nat)):Nat:=(ws.map List.length).sum
theorem zd(ws:List (List Nat))(x:List Nat):zc (ws++[x])=zc ws+x.length:=by
 unfold zc;rw [map_append,sum_append];rfl
theorem uc:∀(pre:List (List Nat)) (a x:List Nat),u8 (pre++[a]++[x])=u8 (pre++[a])+eG a x
 | [],a,x=>by show eG a x+0=0+eG a x;omega
 | [b],a,x=>by
  show eG b a+(eG a x+0)=eG b a+0+eG a x;omega
 | b::c::pre,a,x=>by
  have:=uc (c::pre) a x;show eG b c+u8 (c::pre++[a]++[x])=eG b c+u8 (c::pre++[a])+eG a x;omega
def cM:FR
 | .own [.int c0,.int c1],[.lst ds],Q=>∃ws:List (List Nat),ds=ws.map .str/\(SOk (c0,c1)/\ws.length<=40/\Pcs 60 ws)/\∀(T:List Nat) (s:Int×Int),SOk s->T.length<=10000->zc ws<=T.length+u8 ws->Q (.dat (.str T)) (stv s)
 | _,_,_=>False
def nP:Nat:=4
def rwN(cs:List Nat)(n:Nat):List Nat:=(List.range n).flatMap fun k=>List.replicate (cs.getD k 0) k
theorem o0(cs:List Nat)(n:Nat):rwN cs (n+1)=rwN cs n++List.replicate (cs.getD n 0) n:=by
 unfold rwN;rw [range_succ,flatMap_append,flatMap_cons,flatMap_nil,append_nil]
theorem o5{cs:List Nat}(h:∀c∈cs,c<=9):∀n,(rwN cs n).length<=9*n
 | 0=>zero_le _
 | n+1=>by
  have ih:=o5 h n
  have:cs.getD n 0<=9:=by
   rw [getD_eq_getElem?_getD]
   cases e:cs[n]? with
   | none=>exact zero_le _
   | some c=>exact h c (mem_of_getElem? e)
  rw [o0,length_append,length_replicate];omega
def cR:FR
 | .own [.int c0,.int c1],[.tup ds],Q=>∃cs:List Nat,ds=cs.map nD/\(SOk (c0,c1)/\cs.length<=20/\∀c∈cs,c<=9)/\∀(js:List Nat) (s:Int×Int),js.Perm (rwN cs cs.length)->SOk s->Q (.dat (.lst (js.map nD))) (stv s)
 | _,_,_=>False
def jJ:Nat:=2
theorem o7:∀ds:List D,(true && (true && ds.all dI) && ds.all fun x=>decide (0<=toI x))=ds.all fun x=>!(!dI x || decide (toI x<0))
 | []=>rfl
 | x::ds=>by
  have ih:=o7 ds
  have e:(!(!dI x || decide (toI x<0)))=(dI x && decide (0<=toI x)):=by
   cases dI x <;> by_cases h:toI x<0 <;> simp [h] <;> omega
  rw [all_cons,all_cons,all_cons,e,<- ih];cases dI x <;> cases decide (0<=toI x) <;> simp
theorem ud(ds:List D):(ds.all fun x=>!(!dI x || decide (toI x<0)))=((List.range ds.length).filterMap (fun k=>if (!dI (itD ds k) || decide (toI (itD ds k)<0))=true then some (itD ds k) else none)).isEmpty:=by
 rw [Bool.eq_iff_iff,all_eq_true,isEmpty_iff,filterMap_eq_nil_iff]
 constructor
 .intro h k hk;have:=h _ (dM (mem_range.mp hk));rw [if_neg (by rw [Bool.not_eq_true']  at this;rw [this];decide)]
 .intro h x hx;obtain⟨k,hk,rfl⟩:=mem_iff_getElem.mp hx;have:=h k (mem_range.mpr hk);have e:itD ds k=ds[k]:=by unfold itD;rw [getD_eq_getElem?_getD,getElem?_eq_getElem hk];rfl
  rw [e] at this
  cases hc:(!dI ds[k] || decide (toI ds[k]<0)) with
  | false=>rfl
  | true=>rw [hc,if_pos rfl] at this;cases this
def bf:FN
 | [d,.int m],Q=>Srt d/\(aB d).length<=1000000/\Q (.dat (.bl (prB d m)))
 | _,_=>False
def nQ:Nat:=7
theorem nR{e:D}{S:List (List Nat)}{n a b:Nat}(ha:a<n)(hb:b<n)(h:¬ (eG (pw S a) (pw S b):Int)<=nmb (itD (aB e) 0) a+nmb (itD (aB e) 1) b):kY e S (oY n)=false:=by
 unfold kY;rw [and_eq_false_iff];exact .inr (all_eq_false.mpr ⟨(a,b),ln.mpr ⟨ha,hb⟩,by rw [decide_eq_false h];decide⟩)
theorem qT{e:D}{S:List (List Nat)}{n:Nat}(h0:ppB e S.length=true)(h:∀a b,a<n->b<n->(eG (pw S a) (pw S b):Int)<=nmb (itD (aB e) 0) a+nmb (itD (aB e) 1) b):kY e S (oY n)=true:=by
 unfold kY;rw [h0,Bool.true_and];refine all_eq_true.mpr fun p hp=>?_;obtain⟨p1,p2⟩:=ln.mp hp;exact decide_eq_true (h p.1 p.2 p1 p2)
def obS(ps:List (List Nat))(cs:List Nat)(g t:D)(n:Nat):Int:=((List.range n).map fun i=>((cs.getD i 0:Nat):Int)*(((pw ps i).length:Int) - (nmb g i+nmb t i))).sum
theorem ue(ps:List (List Nat))(cs:List Nat)(g t:D)(n:Nat):obS ps cs g t (n+1)=obS ps cs g t n+((cs.getD n 0:Nat):Int)*(((pw ps n).length:Int) - (nmb g n+nmb t n)):=by
 unfold obS;rw [range_succ,map_append,sum_append];simp only [map_cons,map_nil,sum_cons,sum_nil,add_zero]
theorem qU{ps:List (List Nat)}{cs:List Nat}(h:cs.length=ps.length):ofT ps cs=((List.range ps.length).map fun i=>((pw ps i).length:Int)*((cs.getD i 0:Nat):Int)).sum:=by
 unfold ofT;congr 1;refine ext_getElem (by rw [length_map,length_map,length_zip,length_range];omega) fun i a b=>?_;rw [length_map,length_range] at b;rw [getElem_map,getElem_map,getElem_zip,getElem_range];unfold pw;rw [getD_eq_getElem?_getD,getElem?_eq_getElem b,getD_eq_getElem?_getD,getElem?_eq_getElem (show i<cs.length by omega)];rfl
theorem zQ{ps:List (List Nat)}{cs:List Nat}{g t:D}(h:cs.length=ps.length):ofT ps cs - (ctS g t cs ps.length).sum=obS ps cs g t ps.length:=by
 rw [qU h];unfold ctS obS;generalize ps.length=n
 induction n with
 | zero=>rfl
 | succ n ih =>
  rw [range_succ,map_append,map_append,map_append,sum_append,sum_append,sum_append];simp only [map_cons,map_nil,sum_cons,sum_nil,add_zero];rw [<- ih,mul_sub,Int.mul_comm ((pw ps n).length:Int)];omega
def cS:FN
 | [.tup ds,.tup fs,e],Q=>∃ws:List (List Nat),ds=ws.map .str/\∃cs:List Nat,fs=cs.map nD/\(okP e/\ws.length<=20/\Pcs 60 ws/\cs.length=ws.length/\∀c∈cs,c<=9)/\Q (.dat (obD e ws cs))
 | _,_=>False
def jK:Nat:=9
theorem jg(gs:List Int)(a:Nat)(z:Int):(gs.map D.int).set a (.int z)=(gs.set a z).map D.int:=(map_set ..).symm
theorem ze{n:Nat}(h:n<20):PySem.intText? (S ([49]++List.replicate n 48))=some ((10:Int)^n):=by
 have:∀n:Fin 20,PySem.intText? (S ([49]++List.replicate n.val 48))=some ((10:Int)^n.val):=by decide +kernel
 exact this ⟨n,h⟩
def a9:FR
 | .own [.int c0,.int c1],[.lst ds],Q=>∃ws:List (List Nat),ds=ws.map .str/\(SOk (c0,c1)/\0<ws.length/\ws.length<=20/\Pcs 60 ws)/\∀(gs ts:List Int) (s:Int×Int),SOk s->gs.length=ws.length->ts.length=ws.length->Q (.own [.lst (gs.map .int),.lst (ts.map .int)]) (stv s)
 | _,_,_=>False
def kE:Nat:=8
def RwN(r:D):Prop:=∃zs:List Int,iG r (zs.map .int)/\zs.length<=100
def ck:FR
 | .own [.int c0,.int c1],[.lst ds],Q=>∃ws:List (List Nat),ds=ws.map .str/\(SOk (c0,c1)/\0<ws.length/\ws.length<=20/\Pcs 60 ws)/\∀(e:D) (rs:List D) (s:Int×Int),SOk s->iG e rs->rs.length<=3->(∀r∈rs,RwN r)->Q (.dat e) (stv s)
 | _,_,_=>False
def kF:Nat:=6
theorem uf{e:D}(h:e.sort=true)(hi:aB e=[]):okP e:=by
 refine⟨⟨h,fun r hr=>?_⟩,by rw [hi];exact zero_le _,fun r hr=>?_⟩ <;> (rw [hi] at hr;cases hr)
theorem ug{es:List D}(h:∀r∈es,(r.sort=true/\∀x∈aB r,x.sort=true)/\(aB r).length<=1000)(hl:es.length<=1000):okP (.lst es):=⟨⟨rfl,fun r hr=>(h r hr).1⟩,hl,fun r hr=>(h r hr).2⟩
theorem DI{zs:List Int}{j:Nat}{d:D}(hd:d.sort=true)(hl:zs.length<=1000):((D.lst ((zs.map D.int).set j d)).sort=true/\∀x∈aB (.lst ((zs.map D.int).set j d)),x.sort=true)/\(aB (.lst ((zs.map D.int).set j d))).length<=1000:=by
 refine⟨⟨rfl,fun x hx=>?_⟩,by show ((zs.map D.int).set j d).length<=1000;rw [length_set,length_map];exact hl⟩
 rcases mem_or_eq_of_mem_set hx with h|h
 .obtain⟨z,_,rfl⟩:=mem_map.mp h;rfl
 .rw [h];exact hd
theorem Bx{zs:List Int}(hl:zs.length<=1000):((D.lst (zs.map D.int)).sort=true/\∀x∈aB (.lst (zs.map D.int)),x.sort=true)/\(aB (.lst (zs.map D.int))).length<=1000 :=
 ⟨⟨rfl,fun x hx=>by obtain⟨z,_,rfl⟩:=mem_map.mp hx;rfl⟩,by show (zs.map D.int).length<=1000;rw [length_map];exact hl⟩
def odT:List D:=[.bl true,.non,.str [49],.int (-1),.tup [.int 1],.dic [] []]
theorem zf:∀d∈odT,d.sort=true:=by
 intro d hd;have:odT.all D.sort=true:=by rfl
 exact all_eq_true.mp this d hd
def cm:FR
 | .own [.int c0,.int c1],[.lst ds],Q=>∃ws:List (List Nat),ds=ws.map .str/\(SOk (c0,c1)/\0<ws.length/\ws.length<=20/\Pcs 60 ws)/\∀(e:D) (s:Int×Int),SOk s->okP e->Q (.dat e) (stv s)
 | _,_,_=>False
def kG:Nat:=7
theorem uh:∀{as bs:List Int},as.Perm bs->as.sum=bs.sum:=fun h=>by
 induction h with
 | nil=>rfl
 | cons x _ ih=>rw [sum_cons,sum_cons,ih]
 | swap x y l=>rw [sum_cons,sum_cons,sum_cons,sum_cons];omega
 | trans _ _ i1 i2=>rw [i1,i2]
theorem xP{ps:List (List Nat)}{G T:Nat->Int}(hG:∀i,i<ps.length->0<=G i/\0<=T i)(hL:∀a b,a<ps.length->b<ps.length->(eG (pw ps a) (pw ps b):Int)<=G a+T b) :
  ∀(p:Nat) (r:List Nat),(∀x∈p::r,x<ps.length)->(u8 ((p::r).map (pw ps)):Int)<=G p+(r.map fun x=>G x+T x).sum
 | p,[],hm=>by
  have:=(hG p (hm p mem_cons_self)).1;show ((0:Nat):Int)<=_+0;omega
 | p,q::r,hm=>by
  have hp:=hm p mem_cons_self;have hq:=hm q (mem_cons_of_mem _ mem_cons_self);have ih:=xP hG hL q r fun x hx=>hm x (mem_cons_of_mem _ hx);have l:=hL p q hp hq;show ((eG (pw ps p) (pw ps q)+u8 ((q::r).map (pw ps)):Nat):Int)<=G p+(G q+T q+(r.map fun x=>G x+T x).sum)
  rw [natCast_add];omega
theorem By(f:Nat->Int)(c k:Nat):((List.replicate c k).map f).sum=(c:Int)*f k:=by
 induction c with
 | zero=>rw [replicate_zero];show (0:Int)=((0:Nat):Int)*_;rw [natCast_zero,zero_mul]
 | succ c ih =>
  rw [replicate_succ,map_cons,sum_cons,ih,natCast_add,Int.add_mul];show _=_+1*f k;rw [Int.one_mul,Int.add_comm]
theorem sy(f:Nat->Int)(cs:List Nat):∀n,((rwN cs n).map f).sum=((List.range n).map fun i=>((cs.getD i 0:Nat):Int)*f i).sum
 | 0=>rfl
 | n+1=>by
  rw [o0,map_append,sum_append,sy f cs n,By,range_succ,map_append,sum_append];simp only [map_cons,map_nil,sum_cons,sum_nil,add_zero]
theorem zR{cs:List Nat}{n k:Nat}(h:k∈rwN cs n):k<n:=by
 unfold rwN at h;obtain⟨i,hi,hk⟩:=mem_flatMap.mp h;rw [(mem_replicate.mp hk).2];exact mem_range.mp hi
theorem xQ{ps:List (List Nat)}{cs js:List Nat}(hcl:cs.length=ps.length)(hp:js.Perm (rwN cs cs.length)):((zc (js.map (pw ps)):Nat):Int)=ofT ps cs:=by
 have h2:∀l:List Nat,((zc (l.map (pw ps)):Nat):Int)=(l.map fun i=>((pw ps i).length:Int)).sum:=fun l=>by
  induction l with
  | nil=>rfl
  | cons p l ih =>
   rw [map_cons,map_cons,sum_cons,<- ih];unfold zc;rw [map_cons,sum_cons,natCast_add]
 rw [h2,uh (hp.map _),sy,qU hcl,hcl];congr 1;exact map_congr_left fun i _=>Int.mul_comm _ _
theorem zg{ps:List (List Nat)}{cs:List Nat}{e:D}{js T:List Nat}(hcl:cs.length=ps.length)(hpay:kY e ps (oY ps.length)=true)(hp:js.Perm (rwN cs cs.length))
  (hT:zc (js.map (pw ps))<=T.length+u8 (js.map (pw ps))):ofT ps cs - (ctS (itD (aB e) 0) (itD (aB e) 1) cs ps.length).sum<=(T.length:Int):=by
 have h1:∀p∈js,p<ps.length:=fun p h=>by rw [<- hcl];exact zR (hp.mem_iff.mp h)
 unfold kY at hpay;rw [and_eq_true] at hpay;obtain⟨hpp,hall⟩:=hpay;obtain⟨g,t,gs,ts,he,hg,ht,gl,tl,e0,e1⟩:=Bv hpp;rw [e0,e1] at hall ⊢
 have nn:∀(x:D) (zs:List Int),iG x (zs.map .int)->x∈[g,t]->zs.length=ps.length->∀i,i<ps.length->0<=nmb x i:=fun x zs hx hm hl i hi=>by
  have hb:prB x ps.length=true:=by
   unfold ppB at hpp;rw [and_eq_true,and_eq_true] at hpp;exact all_eq_true.mp hpp.2.2 x (by rw [he.items];exact hm)
  rw [<- hl,ub hx] at hb;rw [(kh hx (by omega)).1,getD_eq_getElem?_getD,getElem?_eq_getElem (show i<zs.length by omega)];exact of_decide_eq_true (all_eq_true.mp hb _ (getElem_mem _))
 have tot:=xQ hcl hp
 have lap:(u8 (js.map (pw ps)):Int)<=(js.map fun x=>nmb g x+nmb t x).sum:=by
  cases js with
  | nil=>exact Int.le_refl _
  | cons p r =>
   have:=xP (ps:=ps) (G:=nmb g) (T:=nmb t) (fun i hi=>⟨nn g gs hg (by simp) gl i hi,nn t ts ht (by simp) tl i hi⟩) (fun a b ha hb=>of_decide_eq_true (all_eq_true.mp hall (a,b) (ln.mpr ⟨ha,hb⟩))) p r h1;have:=nn t ts ht (by simp) tl p (h1 p mem_cons_self);show _<=nmb g p+nmb t p+(r.map fun x=>nmb g x+nmb t x).sum;omega
 have mx:(js.map fun x=>nmb g x+nmb t x).sum=(ctS g t cs ps.length).sum:=by
  rw [uh (hp.map _),sy,hcl];rfl
 omega
theorem xR{e:D}{rs:List D}(he:iG e rs)(h3:rs.length<=3)(hr:∀r∈rs,RwN r):okP e:=by
 have ei:=he.items
 refine⟨⟨by rcases he with rfl|rfl <;> rfl,fun r hm=>?_⟩,by rw [ei];omega,fun r hm=>?_⟩
 .rw [ei] at hm;obtain⟨zs,h1,h2⟩:=hr r hm;refine⟨by rcases h1 with rfl|rfl <;> rfl,fun x hx=>?_⟩;rw [h1.items] at hx;obtain⟨z,_,rfl⟩:=mem_map.mp hx;rfl
 .rw [ei] at hm;obtain⟨zs,h1,h2⟩:=hr r hm;rw [h1.items,length_map];omega
theorem Bz{L:List D}(h:∀r∈L,∃zs:List Int,r=.lst (zs.map .int)):Sh (.lst L):=by
 refine (Fl.lst (n:=1) fun r hr=>?_).sh (by decide);obtain⟨zs,rfl⟩:=h r hr;exact Fl.lst (n:=0) (Fl.ints zs)
theorem xS{ps:List (List Nat)}{i:Nat}(h:i<(cH ps).length):dN (cH ps) i=true:=by
 refine gn.mpr ⟨fun hm=>?_,fun o ho hl=>?_⟩
 .obtain⟨j,hj⟩:=mem_iff_getElem?.mp hm
  have hlt:j<i:=by
   have:=(List.getElem?_eq_some_iff.mp hj).1;rw [length_take] at this;omega
  rw [getElem?_take,if_pos hlt,gO (show j<(cH ps).length by omega)] at hj;refine nG (show j<(cH ps).length by omega) h (by omega) ?_;rw [Option.some.inj hj];exact⟨[],[],by simp⟩
 .obtain⟨j,hj⟩:=mem_iff_getElem?.mp ho;have hlt:j<(cH ps).length:=(List.getElem?_eq_some_iff.mp hj).1;rw [gO hlt] at hj;have ej:=Option.some.inj hj;rw [<- ej] at hl ⊢;have ne:i≠j:=fun z=>by rw [z] at hl;omega
  have na:=nG h hlt ne
  cases e:iH (pw (cH ps) i) (pw (cH ps) j) with
  | false=>rfl
  | true=>exact absurd (qN.mp e) na
theorem zh{ps:List (List Nat)}(h0:0<ps.length)(hw:∀w∈ps,w.length<=60):0<(cH ps).length:=by
 obtain⟨j,hj,hk,_⟩:=xo hw _ 0 h0 (Nat.le_refl _);have:j∈iM ps:=mem_filter.mpr ⟨mem_range.mpr hj,hk⟩;unfold cH;rw [length_map];exact length_pos_of_mem this
theorem DJ:obD (.lst [.tup [],.lst []]) [] []=.int 0:=if_pos (by unfold kY;rfl)
theorem DK:obD (.tup [.tup [.int 0],.tup []]) [] []=.non:=if_neg (by unfold kY;exact Bool.false_ne_true)
def bP:FR
 | .own [.int c0,.int c1],[.obj c ns fs,e],Q=>c="Often"/\ns=Bs/\∃ps:List (List Nat),∃cs:List Nat,fs=Bt ps cs/\(SOk (c0,c1)/\okP e/\ps.length<=4/\Pcs 60 ps/\cs.length=ps.length/\∀c∈cs,c<=9)/\∀s:Int×Int,SOk s->Q (.dat (.bl true)) (stv s)
 | _,_,_=>False
def zS:Nat:=11
abbrev ui:FN:=Ft
def iA:PTS:=(aG (gb (pOr (pY (pB (BI .str (pSl 0)))) (pY (pB (tM fLe fLe (pSl 1) (pFz (pCB eE (ae (pSl 0) aj))) (pSl 2))))) (bw (pC (.bl false))) bz) (bw (pCB A0 (ae (pFz (fh [none] (eZ (ba 0)) (au 0) jZ (tM fLe fLe (pFz (pC (.str [97]))) (pSl 0) (pFz (pC (.str [122])))))) aj))))
theorem sA(d:D)(a b:Int)(Q:PV->Prop)(h:c9 ([d,.int a,.int b]) Q):eB iA nL ([d,.int a,.int b]) Q:=by
 show iA _ [some (.dat (d)),some (.dat (.int a)),some (.dat (.int b))];obtain⟨hd,hl,q⟩:=h
 cases d with
 | str l =>
  have hl:l.length<=1000000:=hl;walk_at "r"
  refine c5 (fun c1=>?_) (fun c1=>?_)
  .walk_at "r"
   refine mF (fun c2=>?_) (fun c2=>?_)
   .walk_at "r";rw [show yJ (.str l) a b=false by rw [oJ,decide_eq_false c2,Bool.and_false];rfl] at q;exact q
   .walk_at "r"
    refine tX (fun τ=>∃v,τ=[v]) (fun k=>.bl (ltB (l.getD k 0))) ?_ ?_ ?_
    .exact⟨_,rfl⟩
    .rintro k τ _ hk rfl ⟨v,rfl⟩ K1 k1;walk_at "r"
     refine mF (fun c=>?_) (fun c=>?_)
     .have hc:97<=l.getD k 0:=of_decide_eq_true (by rw [<- r8];rw [decide_eq_false c];rfl);walk_at "r";show K1 (.bl (!decide (([122]:List Nat)<[l.getD k 0]))) _;rw [r8];rw [show ltB (l.getD k 0)=decide (l.getD k 0<=122) by unfold ltB;rw [decide_eq_true hc];rfl] at k1;exact k1 _ ⟨_,rfl⟩
     .have hc:¬ 97<=l.getD k 0:=of_decide_eq_false (by rw [<- r8,decide_eq_true c];rfl);walk_at "r";rw [show ltB (l.getD k 0)=false by unfold ltB;rw [decide_eq_false hc];rfl] at k1;exact k1 _ ⟨_,rfl⟩
    .rintro τ ⟨v,rfl⟩;walk_at "r";refine⟨(List.range l.length).map fun k=>ltB (l.getD k 0),by rw [map_map];rfl,?_⟩
     have e:yJ (.str l) a b=(((List.range l.length).map fun k=>ltB (l.getD k 0)).all id):=by
      rw [oJ,decide_eq_true c1,decide_eq_true c2,Bool.and_self,Bool.true_and,rZ];rw [all_map];rfl
     rw [e] at q;exact q
  .walk_at "r";rw [show yJ (.str l) a b=false by rw [oJ,decide_eq_false c1,Bool.false_and];rfl] at q;exact q
 | non=>walk_at "r";exact q
 | bl b=>walk_at "r";exact q
 | int i=>walk_at "r";exact q
 | ty n=>cases hd
 | lst ds=>walk_at "r";exact q
 | tup ds=>walk_at "r";exact q
 | scr ns=>cases hd
 | dic ks ds=>walk_at "r";exact q
 | obj c ns ds=>cases hd
 | exc c ns ds=>cases hd
theorem u9:∀ds Q,c9 ds Q->eB iA nL ds Q:=fun ds Q h=>by
 unfold c9 at h
 split at h
 .exact sA _ _ _ _ h
 .exact h.elim
def jL:PTS:=(bw (DU .list .tuple (pSl 0)))
theorem vb(d:D)(Q:PV->Prop)(h:bG ([d]) Q):eB jL qS ([d]) Q:=by
 show jL _ [some (.dat (d))];obtain⟨hd,q⟩:=h;cases d <;> first|(cases hd;done)|(walk_at "r";exact q)
theorem xT:∀ds Q,bG ds Q->eB jL qS ds Q:=fun ds Q h=>by
 unfold bG at h
 split at h
 .exact vb _ _ h
 .exact h.elim
def fk:PTS:=(bw (jW (BI .int (pSl 0)) (yA (BI .bool (pSl 0)))))
theorem o8(d:D)(Q:PV->Prop)(h:bb ([d]) Q):eB fk kz ([d]) Q:=by
 show fk _ [some (.dat (d))];obtain⟨hd,q⟩:=h;cases d <;> first|(cases hd;done)|(walk_at "r";exact q)
theorem qV:∀ds Q,bb ds Q->eB fk kz ds Q:=fun ds Q h=>by
 unfold bb at h
 split at h
 .exact o8 _ _ h
 .exact h.elim
def gB:PTS:=(bw (jW (bC bb (ae (pFz (ba 0)) aj)) (tM fLe fLe (pSl 1) (pSl 0) (pSl 2))))
theorem qW(d:D)(a b:Int)(Q:PV->Prop)(h:cq ([d,.int a,.int b]) Q):eB gB lZ ([d,.int a,.int b]) Q:=by
 show gB _ [some (.dat (d)),some (.dat (.int a)),some (.dat (.int b))];obtain⟨hd,q⟩:=h
 cases d with
 | int i =>
  walk_at "r"
  refine c5 (fun c=>?_) (fun c=>?_)
  .walk_at "r";rw [show BN (.int i) a b=decide (i<=b) by unfold BN;rw [show dI (.int i)=true from rfl,show toI (.int i)=i from rfl,decide_eq_true c];rfl] at q;exact q
  .walk_at "r";rw [show BN (.int i) a b=false by unfold BN;rw [show toI (.int i)=i from rfl,decide_eq_false c,Bool.false_and,Bool.and_false]] at q;exact q
 | str l=>walk_at "r";exact q
 | non=>walk_at "r";exact q
 | bl b=>walk_at "r";exact q
 | lst ds=>walk_at "r";exact q
 | tup ds=>walk_at "r";exact q
 | ty n=>cases hd
 | scr ns=>cases hd
 | dic ks ds=>walk_at "r";exact q
 | obj c ns ds=>cases hd
 | exc c ns ds=>cases hd
theorem sB:∀ds Q,cq ds Q->eB gB lZ ds Q:=fun ds Q h=>by
 unfold cq at h
 split at h
 .exact qW _ _ _ _ h
 .exact h.elim
def dQ:PTS:=(bw (pSM tS (ba 0) (ae (pSl 1) aj)))
theorem l9(a b:List Nat)(Q:PV->Prop)(h:bi ([.str a,.str b]) Q):eB dQ iO ([.str a,.str b]) Q:=by
 show dQ _ [some (.dat (.str a)),some (.dat (.str b))];walk_at "r";exact h
theorem mN:∀ds Q,bi ds Q->eB dQ iO ds Q:=fun ds Q h=>by
 unfold bi at h
 split at h
 .exact l9 _ _ _ h
 .exact h.elim
def uj:PTS:=(aG (gU (EG (ae (pFz (pOp zB (pFz (pCB uL (ae (pFz (pCB eE (ae (pSl 0) aj))) (ae (pFz (pCB eE (ae (pSl 1) aj))) aj)))) (pFz (pC (.int 1))))) (ae (pFz (pC (.int 0))) (ae (pFz (pUn Dm (pFz (pC (.int 1))))) aj)))) (au 2) (gb (pB (pSM A2 (ba 0) (ae (pFz (dJ (pSl 1) dZ (dC (ba 2)))) aj))) (bw (ba 2)) bz)) (bw (pC (.int 0))))
theorem BA(a b:List Nat)(Q:PV->Prop)(h:gP ([.str a,.str b]) Q):eB uj zP ([.str a,.str b]) Q:=by
 show uj _ [some (.dat (.str a)),some (.dat (.str b)),none];obtain⟨⟨a0,a1⟩,⟨b0,b1⟩,q⟩:=h;have hm:(if (b.length:Int)<(a.length:Int) then (b.length:Int) else (a.length:Int))=((min a.length b.length:Nat):Int):=by split <;> omega
 walk_at "r"
 refine⟨fun i ρ=>(∃v2:Option PV,ρ=[some (.dat (.str a)),some (.dat (.str b)),v2])/\∀j,min a.length b.length - i<=j->j<min a.length b.length->¬ b.take j <:+ a,⟨⟨_,rfl⟩,fun j h1 h2=>by omega⟩,?_,?_⟩
 .rintro i ρ d hi ed ⟨⟨v2,rfl⟩,ih⟩;have hi:i<(((if (b.length:Int)<(a.length:Int) then (b.length:Int) else (a.length:Int)) - 1) - 0).toNat:=hi;have ed:d=.int (((if (b.length:Int)<(a.length:Int) then (b.length:Int) else (a.length:Int)) - 1) - (i:Int)):=ed;rw [hm] at hi ed;obtain⟨k,hk,hk2⟩:∃k:Nat,(((min a.length b.length:Nat):Int) - 1) - (i:Int)=(k:Int)/\k=min a.length b.length - 1 - i:=⟨min a.length b.length - 1 - i,by omega,rfl⟩
  rw [hk] at ed;subst ed;walk_at "r";rw [gY]
  refine c5 (fun c=>?_) (fun c=>?_)
  .walk_at "r"
   rw [show eG a b=k from oP ⟨by omega,c,fun j h1 h2=>by
    rcases lt_or_ge k j with h|h
    .exact absurd h2 (ih j (by omega) h1)
    .exact h⟩] at q
   exact q
  .refine⟨⟨_,rfl⟩,fun j h1 h2=>?_⟩
   by_cases hj:j=k
   .rw [hj];exact c
   .exact ih j (by omega) h2
 .rintro ρ ⟨⟨v2,rfl⟩,ih⟩;rw [hm] at ih;walk_at "r"
  rw [show eG a b=0 from oP ⟨by omega,by rw [take_zero];exact nil_suffix,fun j h1 h2=>by
   rcases eq_zero_or_pos j with h|h
   .omega
   .exact absurd h2 (ih j (by omega) h1)⟩] at q
  exact q
theorem DL:∀ds Q,gP ds Q->eB uj zP ds Q:=fun ds Q h=>by
 unfold gP at h
 split at h
 .exact BA _ _ _ h
 .exact h.elim
def gC:PTS:=(bw (pCB hC (ae (pFz (fh [none,some 0] (eZ (ba 0)) (au 0) jZ (pCB hC (ae (pFz (fh [none,some 0] (eZ (ba 1)) (au 0) jZ (bC gP (ae (pFz (ba 1)) (ae (pFz (ba 0)) aj))))) aj)))) aj)))
theorem qX(ds:List D)(Q:PV->Prop)(h:cr ([.tup ds]) Q):eB gC l0 ([.tup ds]) Q:=by
 show gC _ [some (.dat (.tup ds))];obtain⟨ws,rfl,⟨hn,hw⟩,q⟩:=h;have hlm:(ws.map D.str).length=ws.length:=length_map _
 have rr:∀f:List Nat->D,(List.range (ws.map D.str).length).map (fun k=>f (pw ws k))=ws.map f:=fun f=>by
  rw [hlm];apply ext_getElem?;intro k;rw [getElem?_map,getElem?_map]
  by_cases hk:k<ws.length
  .rw [getElem?_range hk,gO hk];rfl
  .rw [getElem?_eq_none (by rw [length_range];omega),getElem?_eq_none (by omega)];rfl
 walk_at "r"
 refine tX (fun τ=>∃v,τ=[v,some (.dat (.tup (ws.map .str)))]) (fun k=>.tup (ws.map fun v=>.int (eG (pw ws k) v:Int))) ?_ ?_ ?_
 .exact⟨_,rfl⟩
 .rintro k τ d hk ed ⟨v,rfl⟩ K1 k1;rw [j1 hk] at ed;subst ed;have w1:=hw _ (hX (show k<ws.length by omega));walk_at "r"
  refine tX (fun τ=>∃v,τ=[v,some (.dat (.str (pw ws k)))]) (fun j=>.int (eG (pw ws k) (pw ws j):Int)) ?_ ?_ ?_
  .exact⟨_,rfl⟩
  .rintro j τ d hj ed ⟨v,rfl⟩ K2 k2;rw [j1 hj] at ed;subst ed;have w2:=hw _ (hX (show j<ws.length by omega));walk_at "r";exact k2 _ ⟨_,rfl⟩
  .rintro τ ⟨v,rfl⟩;rw [rr (fun w=>D.int (eG (pw ws k) w:Int))];walk_at "r";exact k1 _ ⟨_,rfl⟩
 .rintro τ ⟨v,rfl⟩;rw [rr (fun w=>D.tup (ws.map fun v=>.int (eG w v:Int)))];walk_at "r";exact q
theorem sC:∀ds Q,cr ds Q->eB gC l0 ds Q:=fun ds Q h=>by
 unfold cr at h
 split at h
 .exact qX _ _ h
 .exact h.elim
def dF:PTS:=(aG (gb (pB (pOp fGt (pFz (pCB eE (ae (pSl 0) aj))) (pFz (pC (.int 40))))) g6 bz) (gU (wL (ae (pFz (ba 0)) aj)) (kU 2 (eA (au 1) (eA (au 2) oB))) (gb (pY (pB (zD c9 [] (ae (pFz (ba 2)) (ae (pFz (pC (.int 1))) (ae (pFz (pC (.int 60))) aj)))))) g6 bz)))
theorem kZ(d:D)(Q:PV->Prop)(h:bc ([d]) Q):eB dF io ([d]) Q:=by
 show dF _ [some (.dat (d)),none,none];obtain⟨ws,hd,⟨hn,hp⟩,q⟩:=h;have hlm:(ws.map D.str).length=ws.length:=length_map _
 rcases hd with rfl|rfl
 .walk_at "r"
  refine⟨fun k ρ=>∃v1 v2:Option PV,ρ=[some (.dat (.lst (ws.map .str))),v1,v2],⟨_,_,rfl⟩,?_,?_⟩
  .rintro k ρ d hk ed ⟨v1,v2,rfl⟩;have ed:d=.tup [.int k,itD (ws.map D.str) k]:=ed;rw [j1 hk] at ed;subst ed;have hw:=hp _ (hX (show k<ws.length by omega));have ht:yJ (.str (pw ws k)) 1 60=true:=wU.mpr hw;have h1:(pw ws k).length<=1000000:=by have:=hw.2.1;omega
   walk_at "r";refine AN ht ?_;exact⟨_,_,rfl⟩
  .rintro ρ ⟨v1,v2,rfl⟩;exact q
 .walk_at "r"
  refine⟨fun k ρ=>∃v1 v2:Option PV,ρ=[some (.dat (.tup (ws.map .str))),v1,v2],⟨_,_,rfl⟩,?_,?_⟩
  .rintro k ρ d hk ed ⟨v1,v2,rfl⟩;have ed:d=.tup [.int k,itD (ws.map D.str) k]:=ed;rw [j1 hk] at ed;subst ed;have hw:=hp _ (hX (show k<ws.length by omega));have ht:yJ (.str (pw ws k)) 1 60=true:=wU.mpr hw;have h1:(pw ws k).length<=1000000:=by have:=hw.2.1;omega
   walk_at "r";refine AN ht ?_;exact⟨_,_,rfl⟩
  .rintro ρ ⟨v1,v2,rfl⟩;exact q
theorem ma:∀ds Q,bc ds Q->eB dF io ds Q:=fun ds Q h=>by
 unfold bc at h
 split at h
 .exact kZ _ _ h
 .exact h.elim
def dt:PTS:=(bw (pOp fGe (pFz (bC bi (ae (pFz (ba 1)) (ae (pFz (ba 0)) aj)))) (pFz (pC (.int 0)))))
theorem ki(a b:List Nat)(Q:PV->Prop)(h:aT ([.str a,.str b]) Q):eB dt gQ ([.str a,.str b]) Q:=by
 show dt _ [some (.dat (.str a)),some (.dat (.str b))];walk_at "r";exact h
theorem k6:∀ds Q,aT ds Q->eB dt gQ ds Q:=fun ds Q h=>by
 unfold aT at h
 split at h
 .exact ki _ _ _ h
 .exact h.elim
def iB:PTS:=(aG (bh (pOp fIx (pSl 0) (pSl 1)) (au 2)) (aG (bh (fh [none,some 2] (eZ (ba 0)) (au 0) (pB (pOp fGt (pFz (pCB eE (ae (pSl 0) aj))) (pFz (pCB eE (ae (pSl 1) aj))))) (ba 0)) (au 3)) (bw (jW (pOp (DY true) (pSl 2) (pFz (dJ (pSl 0) dZ (dC (ba 1))))) (yA (pCB EN (ae (pFz (fh [none,some 2] (eZ (ba 3)) (au 0) jZ (bC aT (ae (pFz (ba 1)) (ae (pFz (ba 0)) aj))))) aj)))))))
theorem sD(ds:List D)(i:Int)(Q:PV->Prop)(h:cQ ([.tup ds,.int i]) Q):eB iB nM ([.tup ds,.int i]) Q:=by
 show iB _ [some (.dat (.tup ds)),some (.dat (.int i)),none,none];obtain⟨ws,rfl,⟨hn,hw⟩,hi,q⟩:=h;obtain⟨k,rfl⟩:∃k:Nat,i=(k:Int):=⟨i.toNat,by omega⟩
 have hk:k<ws.length:=by omega
 have hlm:(ws.map D.str).length=ws.length:=length_map _;have w1:=hw _ (hX hk);walk_at "r";refine⟨_,dD hk rfl,?_⟩;walk_at "r"
 refine cfm (fun τ=>∃v,τ=[v,some (.dat (.str (pw ws k)))]) (fun j=>if (pw ws k).length<(pw ws j).length then some (.str (pw ws j)) else none) ?_ ?_ ?_
 .exact⟨_,rfl⟩
 .rintro j τ d hj ed ⟨v,rfl⟩ K1 K2 k1 k2;rw [j1 hj] at ed;subst ed;have w2:=hw _ (hX (show j<ws.length by omega));walk_at "r"
  refine c5 (fun c=>?_) (fun c=>?_)
  .walk_at "r";exact k1 _ _ (by rw [if_pos (by omega)]) ⟨_,rfl⟩
  .exact k2 _ (by rw [if_neg (by omega)]) ⟨_,rfl⟩
 .rintro τ ⟨v,rfl⟩
  have e1:(List.range (ws.map D.str).length).filterMap (fun j=>if (pw ws k).length<(pw ws j).length then some (D.str (pw ws j)) else none)=(ws.filter fun o=>decide ((pw ws k).length<o.length)).map D.str:=by
   rw [hlm,yW (fun w=>if (pw ws k).length<w.length then some (D.str w) else none) ws,<- jy];congr 1;funext w
   by_cases h:(pw ws k).length<w.length
   .rw [if_pos h,if_pos (decide_eq_true h)]
   .rw [if_neg h,if_neg (by rw [decide_eq_false h];decide)]
  rw [e1];have hll:(ws.filter fun o=>decide ((pw ws k).length<o.length)).length<=ws.length:=length_filter_le ..;generalize hL:(ws.filter fun o=>decide ((pw ws k).length<o.length))=ls at hll ⊢;have hlm2:(ls.map D.str).length=ls.length:=length_map _;have c1:eR (ws.map D.str) none (some (k:Int))=(ws.take k).map D.str:=by rw [gY,map_take]
  have hfl:(eR (ws.map D.str) none (some (k:Int))).all D.fl=true:=by rw [c1];exact xq _
  have hin:inD (.str (pw ws k)) (eR (ws.map D.str) none (some (k:Int)))=decide (pw ws k∈ws.take k):=by rw [c1];exact oQ _ _
  have hkb:dN ws k=(!inD (.str (pw ws k)) (eR (ws.map D.str) none (some (k:Int))) && !ls.any fun o=>iH (pw ws k) o):=by
   unfold dN;rw [hin,hL]
  rw [toNat_natCast,hkb] at q;walk_at "r"
  refine iY (xV (fun c=>?_) (fun c=>?_))
  .walk_at "r";have c:inD (.str (pw ws k)) (eR (ws.map D.str) none (some (k:Int)))=true:=c;rw [c] at q;exact q
  .have c:inD (.str (pw ws k)) (eR (ws.map D.str) none (some (k:Int)))=false:=c;rw [c,Bool.not_false,Bool.true_and] at q;walk_at "r"
   refine tX (fun τ=>∃v,τ=[v,some (.dat (.str (pw ws k)))]) (fun j=>.bl (iH (pw ws k) (pw ls j))) ?_ ?_ ?_
   .exact⟨_,rfl⟩
   .rintro j τ d hj ed ⟨v,rfl⟩ K1 k1;rw [j1 hj] at ed;subst ed;walk_at "r";exact k1 _ ⟨_,rfl⟩
   .rintro τ ⟨v,rfl⟩;walk_at "r"
    refine⟨ls.map fun o=>iH (pw ws k) o,?_,?_⟩
    .rw [hlm2,map_map]
     conv=>rhs;rw [<- zJ ls,map_map]
     rfl
    .rw [show ((ls.map fun o=>iH (pw ws k) o).any id)=ls.any (fun o=>iH (pw ws k) o) by rw [any_map];rfl];walk_at "r";exact q
theorem vc:∀ds Q,cQ ds Q->eB iB nM ds Q:=fun ds Q h=>by
 unfold cQ at h
 split at h
 .exact sD _ _ _ h
 .exact h.elim
def dR:PTS:=(gU (tN (ae (pFz (pCB eE (ae (pSl 0) aj))) aj)) (au 1) (gb (pY (pB (bC cQ (ae (pFz (ba 0)) (ae (pFz (ba 1)) aj))))) g6 bz))
theorem md(d:D)(Q:PV->Prop)(h:bj ([d]) Q):eB dR iP ([d]) Q:=by
 show dR _ [some (.dat (d)),none];obtain⟨ws,hd,⟨hn,hp,hk,ht⟩,q⟩:=h;have hlm:(ws.map D.str).length=ws.length:=length_map _;walk_at "r";refine zH hd ?_;walk_at "r"
 refine⟨fun k ρ=>∃v:Option PV,ρ=[some (.dat d),v],⟨_,rfl⟩,?_,?_⟩
 .rintro k ρ _ hi rfl ⟨v,rfl⟩;have hi:k<ws.length:=by rw [hlm,toNat_natCast] at hi;exact hi
  rcases ht with rfl|rfl
  .have h1:ws.length<=1000/\∀w∈ws,w.length<=10000:=⟨by omega,fun w hw=>le_trans (hp w hw).2.1 (by decide)⟩
   have h2:0<=(k:Int)/\(k:Int)<(ws.length:Int):=⟨by omega,by omega⟩
   have h3:dN ws (k:Int).toNat=true:=hk k hi;walk_at "r";exact⟨_,rfl⟩
  .exact absurd hi (not_lt_zero _)
 .rintro ρ ⟨v,rfl⟩;walk_at "r";exact q
theorem mO:∀ds Q,bj ds Q->eB dR iP ds Q:=fun ds Q h=>by
 unfold bj at h
 split at h
 .exact md _ _ h
 .exact h.elim
def dG:PTS:=(aG (gb (pY (pB (bC bG (ae (pFz (ba 0)) aj)))) g6 bz) (aG (gU (wL (ae (pFz (dJ (pSl 0) dZ (dC (ba 1)))) aj)) (kU 2 (eA (au 2) (eA (au 3) oB))) (gb (pY (pB (bC cq (ae (pFz (ba 3)) (ae (pFz (pC (.int 1))) (ae (pFz (pC (.int 9))) aj)))))) g6 bz)) (gb (pB (pOp xa (pFz (pCB eE (ae (pSl 0) aj))) (pSl 1))) g6 bz)))
theorem k7(d:D)(m:Int)(Q:PV->Prop)(h:bd ([d,.int m]) Q):eB dG ip ([d,.int m]) Q:=by
 show dG _ [some (.dat (d)),some (.dat (.int m)),none,none];obtain⟨cs,hd,⟨rfl,hn,hc⟩,q⟩:=h;have hlm:(cs.map nD).length=cs.length:=length_map _;have ec:eR (cs.map nD) none (some (cs.length:Int))=cs.map nD:=by rw [gY];exact take_of_length_le (by omega)
 have cl:=bM (cs.map nD) none (some (cs.length:Int))
 rcases hd with rfl|rfl <;> (
  walk_at "r";rw [ec]
  refine FP (xs:=cs) (e:=nD) (fun _ ρ=>∃v2 v3:Option PV,ρ=[_,_,v2,v3]) ⟨_,_,rfl⟩ ?_ ?_
  .rintro pre x suf ρ ew ⟨v2,v3,rfl⟩;have hx:=hc x (by rw [ew];simp)
   have hw:BN (nD x) 1 9=true:=by
    show (true && (decide ((1:Int)<=(x:Int)) && decide ((x:Int)<=9)))=true;rw [decide_eq_true (by omega),decide_eq_true (by omega)];rfl
   walk_at "r";rw [hw];exact⟨_,_,rfl⟩
  .rintro ρ ⟨v2,v3,rfl⟩;walk_at "r";exact q)
theorem me:∀ds Q,bd ds Q->eB dG ip ds Q:=fun ds Q h=>by
 unfold bd at h
 split at h
 .exact k7 _ _ _ h
 .exact h.elim
def gD:PTS:=(aG (bh (iZ aj) (au 1)) (aG (bh (pC (.int 1)) (au 2)) (aG (gU (eZ (ba 0)) (au 3) (aG (kt (Db 1 (ba 2))) (xL 2 (pOp dO (pSl 3) (pFz (pC (.int 1))))))) (bw (wE (ae (pFz (ba 1)) (ae (pFz (ba 2)) aj)))))))
theorem qY(d:D)(Q:PV->Prop)(h:cu ([d]) Q):eB gD l4 ([d]) Q:=by
 show gD _ [some (.dat (d)),none,none,none];obtain⟨cs,hd,⟨hn,hc⟩,q⟩:=h;have hlm:(cs.map nD).length=cs.length:=length_map _;walk_at "r";refine xm hd ?_
 refine EY (xs:=cs) (e:=nD) (fun pre ρ=>∃(ss:List Int) (p:Int) (v:Option PV),ss.length=pre.length/\0<=p/\p<=4^pre.length/\ρ=[some (.dat d),some (.own (ss.map .int)),some (.dat (.int p)),v]) ⟨[],1,_,rfl,by decide,by decide,rfl⟩ ?_ ?_
 .rintro pre x suf ρ ew ⟨ss,p,v,hs,h0,h1,rfl⟩;have hx:=hc x (by rw [ew];simp);have hl:pre.length<4:=by have:=congrArg List.length ew;rw [length_append,length_cons] at this;omega
  have hsm:(ss.map D.int).length=ss.length:=length_map _;have hm:vB p ((x:Int)+1):=.inr ⟨by omega,by omega⟩;have h2:p*((x:Int)+1)<=p*4:=mul_le_mul_of_nonneg_left (by omega) h0;have h3:0<=p*((x:Int)+1):=mul_nonneg h0 (by omega);walk_at "r";exact⟨ss++[p],_,_,by rw [length_append,length_append,hs];rfl,h3,by rw [length_append];show _<=(4:Int)^(pre.length+1);rw [pow_succ];omega,by rw [map_append];rfl⟩
 .rintro ρ ⟨ss,p,v,hs,h0,h1,rfl⟩
  have h4:(4:Int)^cs.length<=500:=by
   rcases (show cs.length=0\/cs.length=1\/cs.length=2\/cs.length=3\/cs.length=4 by omega) with e|e|e|e|e <;> rw [e] <;> decide
  walk_at "r";exact q ss p (by omega)
theorem sE:∀ds Q,cu ds Q->eB gD l4 ds Q:=fun ds Q h=>by
 unfold cu at h
 split at h
 .exact qY _ _ h
 .exact h.elim
def eH:PTS:=(aG (kt (bC bc (ae (pFz (ba 1)) aj))) (aG (kt (bC bj (ae (pFz (ba 1)) aj))) (aG (kt (bC bd (ae (pFz (ba 2)) (ae (pFz (pCB eE (ae (pSl 1) aj))) aj)))) (aG (gb (pB (pOp fGt (pFz (pOp fIx (pFz (bC cu (ae (pFz (ba 2)) aj))) (pFz (pC (.int 1))))) (pFz (pC (.int 500))))) g6 bz) (aG (qD "Often" [] "pieces" 0 (pCB hC (ae (pSl 1) aj))) (aG (qD "Often" ["pieces"] "counts" 0 (pCB hC (ae (pSl 2) aj))) (aG (qD "Often" ["pieces","counts"] "laps" 0 (bC cr (ae (pFz (tU "Often" ["pieces","counts"] 0 (pSl 0))) aj))) (qD "Often" ["pieces","counts","laps"] "total" 0 (pCB yE (ae (pFz (fh [none,none] (zF (ae (pFz (tU "Often" ["pieces","counts","laps"] 0 (pSl 0))) (ae (pFz (tU "Often" ["pieces","counts","laps"] 1 (pSl 0))) aj))) (kU 2 (eA (au 0) (eA (au 1) oB))) jZ (pOp qw (pFz (pCB eE (ae (pSl 0) aj))) (pSl 1)))) aj))))))))))
theorem mP(d e:D)(Q:PV->PV->Prop)(h:bA (.ins "Often" [] []) ([d,e]) Q):jj eH jC (.ins "Often" [] []) ([d,e]) Q:=by
 show eH _ [some (.ins "Often" [] []),some (.dat (d)),some (.dat (e))];obtain⟨ps,hd,cs,he,⟨hn,hp,hk,ht,hcl,hc⟩,q⟩:=h;have hpm:(ps.map D.str).length=ps.length:=length_map _;have hcm:(cs.map nD).length=cs.length:=length_map _;have g1:ps.length<=40/\Pcs 60 ps:=⟨by omega,hp⟩
 have g2:ps.length<=40/\Pcs 60 ps/\(∀i,i<ps.length->dN ps i=true)/\(d=.tup (ps.map .str)\/ps=[]):=⟨by omega,hp,hk,ht⟩
 have g5:ps.length<=1000/\∀w∈ps,0<w.length/\w.length<=10000:=⟨by omega,fun w hw=>⟨(hp w hw).1,le_trans (hp w hw).2.1 (by decide)⟩⟩
 have g4:cs.length<=4/\∀c∈cs,1<=c/\c<=3:=⟨by omega,hc⟩
 walk_at "r";refine⟨ps,hd,g1,?_⟩;walk_at "r";refine⟨ps,hd,g2,?_⟩;walk_at "r";refine zH hd ?_;walk_at "r";refine⟨cs,he,⟨by omega,by omega,fun c h=>by have:=hc c h;omega⟩,?_⟩;walk_at "r";refine⟨cs,he,g4,fun ss p h5=>?_⟩;walk_at "r"
 rcases hd with rfl|rfl <;> rcases he with rfl|rfl <;> (
  walk_at "r"
  refine cmZ (xs:=ps) (ys:=cs) (e:=D.str) (e':=nD) (fun p c=>.int ((p.length:Int)*(c:Int))) ?_ ?_
  .intro p c hpc v w K1 k1;have h1:=(hp p (of_mem_zip hpc).1).2.1;have hm:vB (p.length:Int) (c:Int):=.inl ⟨by omega,by omega⟩;walk_at "r";exact k1 _ _
  intro v w;walk_at "r";refine⟨(ps.zip cs).map fun p=>(p.1.length:Int)*(p.2:Int),by rw [map_map];rfl,?_⟩;walk_at "r";exact q)
theorem o9:∀p ds Q,p.isOwn=true->bA p ds Q->jj eH jC p ds Q:=fun p ds Q _ h=>by
 unfold bA at h
 split at h
 .exact mP _ _ _ h
 .exact h.elim
def dS:PTS:=(bw (jW (bC bG (ae (pFz (ba 0)) aj)) (jW (pOp mI (pFz (pCB eE (ae (pSl 0) aj))) (pSl 1)) (pCB A0 (ae (pFz (fh [none] (eZ (ba 0)) (au 0) jZ (bC bb (ae (pFz (ba 0)) aj)))) aj)))))
theorem mf(d:D)(m:Int)(Q:PV->Prop)(h:bn ([d,.int m]) Q):eB dS iQ ([d,.int m]) Q:=by
 show dS _ [some (.dat (d)),some (.dat (.int m))];obtain⟨⟨hd,hs⟩,hl,q⟩:=h
 have body:∀ds:List D,aB d=ds->xc d=true->(ds.length:Int)=m->cF d m=(ds.map dI).all id:=fun ds e1 e2 e3=>by
  unfold cF;rw [e1,e2,decide_eq_true e3,Bool.true_and,Bool.true_and,all_map];rfl
 have no:∀ds:List D,aB d=ds->¬ (ds.length:Int)=m->cF d m=false:=fun ds e1 e3=>by
  unfold cF;rw [e1,decide_eq_false e3,Bool.false_and,Bool.and_false]
 cases d with
 | lst ds =>
  have hl:ds.length<=1000000:=hl;walk_at "r"
  refine c5 (fun c=>?_) (fun c=>?_)
  .walk_at "r"
   refine tX (fun τ=>∃v,τ=[v]) (fun k=>.bl (dI (itD ds k))) ?_ ?_ ?_
   .exact⟨_,rfl⟩
   .rintro k τ _ hk rfl ⟨v,rfl⟩ K1 k1;walk_at "r";exact⟨hs _ (dM hk),k1 _ ⟨_,rfl⟩⟩
   .rintro τ ⟨v,rfl⟩;walk_at "r";refine⟨(List.range ds.length).map fun k=>dI (itD ds k),by rw [map_map];rfl,?_⟩;rw [body ds rfl rfl c] at q;rw [jt];exact q
  .walk_at "r";rw [no ds rfl c] at q;exact q
 | tup ds =>
  have hl:ds.length<=1000000:=hl;walk_at "r"
  refine c5 (fun c=>?_) (fun c=>?_)
  .walk_at "r"
   refine tX (fun τ=>∃v,τ=[v]) (fun k=>.bl (dI (itD ds k))) ?_ ?_ ?_
   .exact⟨_,rfl⟩
   .rintro k τ _ hk rfl ⟨v,rfl⟩ K1 k1;walk_at "r";exact⟨hs _ (dM hk),k1 _ ⟨_,rfl⟩⟩
   .rintro τ ⟨v,rfl⟩;walk_at "r";refine⟨(List.range ds.length).map fun k=>dI (itD ds k),by rw [map_map];rfl,?_⟩;rw [body ds rfl rfl c] at q;rw [jt];exact q
  .walk_at "r";rw [no ds rfl c] at q;exact q
 | str l=>walk_at "r";exact q
 | non=>walk_at "r";exact q
 | bl b=>walk_at "r";exact q
 | int i=>walk_at "r";exact q
 | ty n=>cases hd
 | scr ns=>cases hd
 | dic ks ds=>walk_at "r";exact q
 | obj c ns ds=>cases hd
 | exc c ns ds=>cases hd
theorem mQ:∀ds Q,bn ds Q->eB dS iQ ds Q:=fun ds Q h=>by
 unfold bn at h
 split at h
 .exact mf _ _ _ h
 .exact h.elim
def eI:PTS:=(bw (jW (bC bn (ae (pFz (ba 0)) (ae (pFz (ba 1)) aj))) (pCB A0 (ae (pFz (fh [none] (eZ (ba 0)) (au 0) jZ (pOp fGe (pSl 0) (pFz (pC (.int 0)))))) aj))))
theorem mR(d:D)(m:Int)(Q:PV->Prop)(h:br ([d,.int m]) Q):eB eI jD ([d,.int m]) Q:=by
 show eI _ [some (.dat (d)),some (.dat (.int m))];obtain⟨hd,hl,q⟩:=h;walk_at "r"
 refine xV (fun c=>?_) (fun c=>?_)
 .have c:cF d m=true:=c;obtain⟨zs,hz,rfl⟩:=kg c;rw [ub hz] at q;have hzl:(zs.map D.int).length=zs.length:=length_map _;rw [hz.items,hzl] at hl
  rcases hz with rfl|rfl <;> (
   walk_at "r"
   refine tX (fun τ=>∃v,τ=[v]) (fun k=>.bl (decide (0<=zs.getD k 0))) ?_ ?_ ?_
   .exact⟨_,rfl⟩
   .rintro k τ d hk ed ⟨v,rfl⟩ K1 k1;rw [wT hk] at ed;subst ed;walk_at "r";exact k1 _ ⟨_,rfl⟩
   .rintro τ ⟨v,rfl⟩;walk_at "r";refine⟨(List.range (zs.map D.int).length).map fun k=>decide (0<=zs.getD k 0),by rw [map_map];rfl,?_⟩;rw [hzl,DF (fun z=>decide (0<=z)) zs,all_map];exact q)
 .have c:cF d m=false:=c;walk_at "r";rw [show prB d m=false by unfold prB;rw [c];rfl] at q;exact q
theorem pd:∀ds Q,br ds Q->eB eI jD ds Q:=fun ds Q h=>by
 unfold br at h
 split at h
 .exact mR _ _ _ h
 .exact h.elim
def df:PTS:=(bw (jW (bC bG (ae (pFz (ba 0)) aj)) (jW (pOp mI (pFz (pCB eE (ae (pSl 0) aj))) (pFz (pC (.int 2)))) (pCB A0 (ae (pFz (fh [none,some 1] (eZ (ba 0)) (au 0) jZ (bC br (ae (pFz (ba 0)) (ae (pFz (ba 1)) aj))))) aj)))))
theorem jM(d:D)(m:Int)(Q:PV->Prop)(h:aU ([d,.int m]) Q):eB df fQ ([d,.int m]) Q:=by
 show df _ [some (.dat (d)),some (.dat (.int m))];obtain⟨⟨⟨hd,hs⟩,hl,hl2⟩,q⟩:=h
 cases d with
 | lst ds =>
  have hl:ds.length<=1000:=hl;have hs:∀r∈ds,r.sort=true/\∀x∈aB r,x.sort=true:=hs;have hl2:∀r∈ds,(aB r).length<=1000:=hl2;walk_at "r"
  refine c5 (fun c=>?_) (fun c=>?_)
  .rw [show ppB (.lst ds) m=(ds.all fun r=>prB r m) by unfold ppB;rw [decide_eq_true (show (aB (.lst ds)).length=2 by show ds.length=2;omega)];rfl] at q;walk_at "r"
   refine tX (fun τ=>∃v,τ=[v,some (.dat (.int m))]) (fun k=>.bl (prB (itD ds k) m)) ?_ ?_ ?_
   .exact⟨_,rfl⟩
   .rintro k τ _ hk rfl ⟨v,rfl⟩ K1 k1;have h1:Srt (itD ds k):=hs _ (dM hk);have h2:(aB (itD ds k)).length<=1000000:=le_trans (hl2 _ (dM hk)) (by decide);walk_at "r";exact k1 _ ⟨_,rfl⟩
   .rintro τ ⟨v,rfl⟩;walk_at "r";refine⟨(List.range ds.length).map fun k=>prB (itD ds k) m,by rw [map_map];rfl,?_⟩;rw [jt (fun r=>prB r m) ds,all_map];exact q
  .rw [show ppB (.lst ds) m=false by unfold ppB;rw [decide_eq_false (show ¬ (aB (.lst ds)).length=2 by show ¬ ds.length=2;omega),Bool.false_and,Bool.and_false]] at q;walk_at "r";exact q
 | tup ds =>
  have hl:ds.length<=1000:=hl;have hs:∀r∈ds,r.sort=true/\∀x∈aB r,x.sort=true:=hs;have hl2:∀r∈ds,(aB r).length<=1000:=hl2;walk_at "r"
  refine c5 (fun c=>?_) (fun c=>?_)
  .rw [show ppB (.tup ds) m=(ds.all fun r=>prB r m) by unfold ppB;rw [decide_eq_true (show (aB (.tup ds)).length=2 by show ds.length=2;omega)];rfl] at q;walk_at "r"
   refine tX (fun τ=>∃v,τ=[v,some (.dat (.int m))]) (fun k=>.bl (prB (itD ds k) m)) ?_ ?_ ?_
   .exact⟨_,rfl⟩
   .rintro k τ _ hk rfl ⟨v,rfl⟩ K1 k1;have h1:Srt (itD ds k):=hs _ (dM hk);have h2:(aB (itD ds k)).length<=1000000:=le_trans (hl2 _ (dM hk)) (by decide);walk_at "r";exact k1 _ ⟨_,rfl⟩
   .rintro τ ⟨v,rfl⟩;walk_at "r";refine⟨(List.range ds.length).map fun k=>prB (itD ds k) m,by rw [map_map];rfl,?_⟩;rw [jt (fun r=>prB r m) ds,all_map];exact q
  .rw [show ppB (.tup ds) m=false by unfold ppB;rw [decide_eq_false (show ¬ (aB (.tup ds)).length=2 by show ¬ ds.length=2;omega),Bool.false_and,Bool.and_false]] at q;walk_at "r";exact q
 | str l=>walk_at "r";exact q
 | non=>walk_at "r";exact q
 | bl b=>walk_at "r";exact q
 | int i=>walk_at "r";exact q
 | ty n=>cases hd
 | scr ns=>cases hd
 | dic ks ds=>walk_at "r";exact q
 | obj c ns ds=>cases hd
 | exc c ns ds=>cases hd
theorem kj:∀ds Q,aU ds Q->eB df fQ ds Q:=fun ds Q h=>by
 unfold aU at h
 split at h
 .exact jM _ _ _ h
 .exact h.elim
def fm:PTS:=(aG (gb (pY (pB (bC aU (ae (pFz (ba 0)) (ae (pFz (pCB eE (ae (pSl 1) aj))) aj))))) (bw (pC (.bl false))) bz) (aG (bh (ba 0) (kU 2 (eA (au 3) (eA (au 4) oB)))) (bw (pCB A0 (ae (pFz (fh [none,none,some 3,some 4,some 1] (eZ (ba 2)) (kU 2 (eA (au 0) (eA (au 1) oB))) jZ (pOp fGe (pFz (pOp dO (pFz (pOp fIx (pSl 2) (pSl 0))) (pFz (pOp fIx (pSl 3) (pSl 1))))) (pFz (pOp fIx (pFz (pOp fIx (pSl 4) (pSl 0))) (pSl 1)))))) aj)))))
theorem pq(e:D)(ls ps:List D)(Q:PV->Prop)(h:bO ([e,.tup ls,.lst ps]) Q):eB fm kA ([e,.tup ls,.lst ps]) Q:=by
 show fm _ [some (.dat (e)),some (.dat (.tup ls)),some (.dat (.lst ps)),none,none];obtain⟨ws,rfl,prs,rfl,⟨oe,hn,hpl,hpm⟩,q⟩:=h;have hlm:(ws.map (D0 ws)).length=ws.length:=length_map _;have hpl:(prs.map prT).length<=1600:=by rw [length_map];exact hpl
 walk_at "r";rw [hlm]
 refine iY (xV (fun c=>?_) (fun c=>?_))
 .have c:ppB e ws.length=true:=c;obtain⟨g,t,gs,ts,he,hg,ht,gl,tl,e0,e1⟩:=Bv c;rw [show kY e ws prs=(prs.all fun p=>decide ((eG (pw ws p.1) (pw ws p.2):Int)<=nmb g p.1+nmb t p.2)) by unfold kY;rw [c,e0,e1];rfl] at q;walk_at "r";refine zI he ⟨rfl,?_⟩;walk_at "r"
  refine cm2 (e:=prT) (xs:=prs) (fun p=>.bl (decide ((eG (pw ws p.1) (pw ws p.2):Int)<=nmb g p.1+nmb t p.2))) (fun p hp v w K1 k1=>?_) (fun v w=>?_)
  .obtain⟨h1,h2⟩:=hpm p hp;walk_at "r";refine kW hg ⟨_,(kh hg (by omega)).2,?_⟩;walk_at "r";refine kW ht ⟨_,(kh ht (by omega)).2,?_⟩;walk_at "r";refine⟨_,Bu h1,?_⟩;walk_at "r";refine⟨_,DH h2,?_⟩;walk_at "r";exact k1 _ _
  .walk_at "r";refine⟨prs.map fun p=>decide ((eG (pw ws p.1) (pw ws p.2):Int)<=nmb g p.1+nmb t p.2),by rw [map_map];rfl,?_⟩;rw [all_map];exact q
 .rw [show kY e ws prs=false by unfold kY;rw [show ppB e ws.length=false from c];rfl] at q;walk_at "r";exact q
theorem qZ:∀ds Q,bO ds Q->eB fm kA ds Q:=fun ds Q h=>by
 unfold bO at h
 split at h
 .exact pq _ _ _ _ h
 .exact h.elim
def dU:PTS:=(aG (bh (Dh false (ae (pFz (pCB eE (ae (pFz (tU "Often" ["pieces","counts","laps","total"] 0 (pSl 0))) aj))) aj)) (au 2)) (aG (gb (pY (pB (bC bO (ae (pFz (ba 1)) (ae (pFz (tU "Often" ["pieces","counts","laps","total"] 2 (pSl 0))) (ae (pFz (zG [none,none,some 2] (eZ (ba 2)) (au 0) jZ (eZ (ba 2)) (au 1) jZ (wE (ae (pFz (ba 0)) (ae (pFz (ba 1)) aj))))) aj)))))) (bw (pC .non)) bz) (aG (bh (ba 1) (kU 2 (eA (au 3) (eA (au 4) oB)))) (bw (pOp zB (pFz (tU "Often" ["pieces","counts","laps","total"] 3 (pSl 0))) (pFz (pCB yE (ae (pFz (fh [none,some 0,some 3,some 4] (eZ (ba 2)) (au 0) jZ (pOp qw (pFz (pOp fIx (pFz (tU "Often" ["pieces","counts","laps","total"] 1 (pSl 1))) (pSl 0))) (pFz (pOp dO (pFz (pOp fIx (pSl 2) (pSl 0))) (pFz (pOp fIx (pSl 3) (pSl 0)))))))) aj))))))))
theorem mh(c:Str)(ns:List Str)(fs:List D)(e:D)(Q:PV->Prop)(h:aK ([.obj c ns fs,e]) Q):eB dU iR ([.obj c ns fs,e]) Q:=by
 show dU _ [some (.dat (.obj c ns fs)),some (.dat (e)),none,none,none];obtain⟨rfl,rfl,ps,cs,rfl,⟨oe,hn,hcl,hc⟩,q⟩:=h;unfold obD at q;have hpm:(ps.map D.str).length=ps.length:=length_map _;have hrl:(xW 0 ps.length).length=ps.length:=xr ps.length;have hal:=oZ ps.length (List.range ps.length);rw [length_range] at hal;have hnn:ps.length*ps.length<=20*20:=mul_le_mul hn hn;have gpay:okP e/\ps.length<=40/\(oY ps.length).length<=1600/\∀p∈oY ps.length,p.1<ps.length/\p.2<ps.length:=⟨oe,by omega,by unfold oY;omega,fun p hp=>ln.mp hp⟩
 walk_at "r";rw [hpm,toNat_natCast,hrl]
 refine⟨⟨fun k ys τ=>ys=((List.range k).flatMap fun i=>(List.range ps.length).map fun j=>(i,j)).map prT/\∃v w:Option PV,τ=[v,w,some (.dat (.lst (xW 0 ps.length)))],⟨rfl,_,_,rfl⟩,?_,?_⟩⟩
 .rintro k ys τ _ hk rfl ⟨rfl,v,w,rfl⟩;rw [sf (by rw [hrl];exact hk)];have hlen:=oZ ps.length (List.range k);rw [length_range] at hlen;have hkn:k*ps.length<=20*20:=mul_le_mul (by omega) hn;walk_at "r";rw [hrl]
  refine⟨fun j zs τ=>zs=((List.range k).flatMap fun i=>(List.range ps.length).map fun j=>(i,j)).map prT++((List.range j).map fun j=>(k,j)).map prT/\∃w:Option PV,τ=[some (.dat (.int (k:Int))),w,some (.dat (.lst (xW 0 ps.length)))],⟨(append_nil _).symm,w,rfl⟩,?_,?_⟩
  .rintro j zs τ _ hj rfl ⟨rfl,w,rfl⟩;rw [sf (by rw [hrl];exact hj)];walk_at "r"
   refine⟨?_,?_,_,rfl⟩
   .rw [length_append,length_map,length_map,length_map,length_range];omega
   .rw [range_succ,map_append,map_append,<- append_assoc];rfl
  .rintro zs τ ⟨rfl,w,rfl⟩;refine⟨?_,_,_,rfl⟩;rw [range_succ,flatMap_append,map_append,flatMap_cons,flatMap_nil,append_nil]
 rintro ys τ ⟨rfl,v,w,rfl⟩;have ha:((List.range ps.length).flatMap fun i=>(List.range ps.length).map fun j=>(i,j))=oY ps.length:=rfl;rw [ha];walk_at "r"
 refine iY (xV (fun c=>?_) (fun c=>?_))
 .have c:kY e ps (oY ps.length)=true:=c;rw [if_pos c] at q;obtain⟨g,t,gs,ts,he,hg,ht,gl,tl,e0,e1⟩:=Bv (show ppB e ps.length=true by unfold kY at c;rw [and_eq_true] at c;exact c.1);rw [e0,e1] at q;walk_at "r";refine zI he ⟨rfl,?_⟩
  have ca:∀i,i<ps.length->atI (cs.map nD) (i:Int)=some (.int ((cs.getD i 0:Nat):Int)):=fun i hi=>by
   refine fL (j:=i) ?_ rfl;rw [getElem?_map,getElem?_eq_getElem (show i<cs.length by omega),getD_eq_getElem?_getD,getElem?_eq_getElem (show i<cs.length by omega)];rfl
  have cb:∀i,i<ps.length->cs.getD i 0<=9:=fun i hi=>by
   rw [getD_eq_getElem?_getD,getElem?_eq_getElem (show i<cs.length by omega)];exact hc _ (getElem_mem _)
  walk_at "r";rw [hrl]
  refine tX (fun τ=>∃v:Option PV,τ=[v,some (.dat (.obj "Often" Bs (Bt ps cs))),some (.dat g),some (.dat t)]) (fun i=>.int (((cs.getD i 0:Nat):Int)*(nmb g i+nmb t i))) ⟨_,rfl⟩ ?_ ?_
  .rintro i τ d hi ed ⟨v,rfl⟩ K1 k1;rw [sf (by rw [hrl];exact hi)] at ed;subst ed;have hm:vB ((cs.getD i 0:Nat):Int) (nmb g i+nmb t i):=.inl (by have:=cb i hi;exact⟨by omega,by omega⟩);walk_at "r";refine⟨_,ca i hi,?_⟩;walk_at "r";refine kW hg ⟨_,(kh hg (by omega)).2,?_⟩;walk_at "r";refine kW ht ⟨_,(kh ht (by omega)).2,?_⟩;walk_at "r";exact k1 _ ⟨_,rfl⟩
  .rintro τ ⟨v,rfl⟩;walk_at "r";refine⟨ctS g t cs ps.length,by unfold ctS;rw [map_map];rfl,?_⟩;walk_at "r";exact q
 .rw [if_neg (by rw [show kY e ps (oY ps.length)=false from c];decide)] at q;walk_at "r";exact q
theorem mS:∀ds Q,aK ds Q->eB dU iR ds Q:=fun ds Q h=>by
 unfold aK at h
 split at h
 .exact mh _ _ _ _ _ h
 .exact h.elim
def eJ:PTS:=(aG (bh (pOp dO (pFz (pOp qw (pFz (pC (.int 5))) (pSl 1))) (pFz (pC (.int 3)))) (au 2)) (aG (gN (gb (pB (pOp fGt (pFz (pCB eE (ae (pSl 0) aj))) (pFz (pC (.int 0))))) (bh (pCB EL (ae (pFz (pOp fIx (pSl 0) (pFz (pOp BK (pSl 1) (pFz (pCB eE (ae (pSl 0) aj))))))) aj)) (au 2)) bz)) (bw (iZ (ae (pFz (ba 2)) (ae (pFz (pOp dO (pFz (pOp dO (pFz (pOp BK (pSl 2) (pFz (pC (.int 2147483629))))) (pFz (pOp qw (pFz (pC (.int 7919))) (pSl 1))))) (pFz (pC (.int 11))))) aj))))))
theorem mT(ns:List Int)(k:Int)(Q:PV->Prop)(h:bB ([.scr ns,.int k]) Q):eB eJ jE ([.scr ns,.int k]) Q:=by
 show eJ _ [some (.dat (.scr ns)),some (.dat (.int k)),none];obtain⟨⟨hk0,hk1,hn⟩,q⟩:=h;walk_at "r"
 refine⟨fun ρ=>∃c:Int,ρ=[some (.dat (.scr ns)),some (.dat (.int k)),some (.dat (.int c))]/\0<=c,?_,?_⟩
 .walk_at "r";refine c5 (fun c=>?_) (fun c=>⟨_,rfl,by omega⟩);obtain⟨n,hn1,hn2⟩:∃n:Nat,k % (ns.length:Int)=(n:Int)/\n<ns.length:=⟨(k % (ns.length:Int)).toNat,by have:=emod_nonneg k (show (ns.length:Int)≠0 by omega);omega,by have:=emod_lt_of_pos k (show 0<(ns.length:Int) by omega);have:=emod_nonneg k (show (ns.length:Int)≠0 by omega);omega⟩
  walk_at "r";rw [hn1];refine⟨ns[n],fL (getElem?_eq_getElem hn2) rfl,?_⟩;exact⟨_,rfl,by split <;> omega⟩
 .rintro ρ ⟨c,rfl,hc⟩;walk_at "r";exact q (c,c % 2147483629+7919*k+11) ⟨hc,by omega,by omega⟩
theorem px:∀ds Q,bB ds Q->eB eJ jE ds Q:=fun ds Q h=>by
 unfold bB at h
 split at h
 .exact mT _ _ _ h
 .exact h.elim
def gE:PTS:=(aG (gb (pB (pOp fGt (pFz (pOp fIx (pSl 0) (pFz (pC (.int 0))))) (pFz (pC (.int 0))))) (aG (bh (pOp BK (pFz (pOp fIx (pSl 0) (pFz (pC (.int 0))))) (pSl 1)) (au 2)) (aG (ku 0 (pOp DW (pFz (pOp fIx (pSl 0) (pFz (pC (.int 0))))) (pSl 1)) (pC (.int 0))) (bw (ba 2)))) bz) (aG (ku 0 (pOp BK (pFz (pOp dO (pFz (pOp qw (pFz (pOp fIx (pSl 0) (pFz (pC (.int 1))))) (pFz (pC (.int 48271))))) (pFz (pC (.int 12345))))) (pFz (pC (.int 2147483647)))) (pC (.int 1))) (bw (pOp BK (pFz (pOp DW (pFz (pOp BK (pFz (pOp qw (pFz (pOp fIx (pSl 0) (pFz (pC (.int 1))))) (pFz (pOp fIx (pSl 0) (pFz (pC (.int 1))))))) (pFz (pC (.int 2147483629))))) (pFz (pC (.int 7))))) (pSl 1)))))
theorem q0(c0 c1 m:Int)(Q:PV->PV->Prop)(h:al (.own [.int c0,.int c1]) ([.int m]) Q):jj gE l5 (.own [.int c0,.int c1]) ([.int m]) Q:=by
 show gE _ [some (.own [.int c0,.int c1]),some (.dat (.int m)),none];obtain⟨⟨g0,g1,g2⟩,hm,hm2,q⟩:=h;have mod:∀z:Int,0<=z % m/\z % m<m:=fun z=>⟨emod_nonneg z (by omega),emod_lt_of_pos z hm⟩
 walk_at "r"
 refine c5 (fun c=>?_) (fun c=>?_)
 .walk_at "r";exact q _ (_,_) ⟨ediv_nonneg g0 (by omega),g1,g2⟩ (mod c0).1 (mod c0).2
 .have n0:0<=(c1*48271+12345) % 2147483647:=emod_nonneg _ (by decide);have n1:(c1*48271+12345) % 2147483647<2147483647:=emod_lt_of_pos _ (by decide);walk_at "r";exact q _ (_,_) ⟨g0,n0,by omega⟩ (mod _).1 (mod _).2
theorem sF:∀p ds Q,p.isOwn=true->al p ds Q->jj gE l5 p ds Q:=fun p ds Q _ h=>by
 unfold al at h
 split at h
 .exact q0 _ _ _ _ h
 .exact h.elim
def gF:PTS:=(bw (pSM wX (pC (.str [])) (ae (pFz (fh [none,some 1,some 0] (tN (ae (pFz (pOp dO (pFz (pC (.int 1))) (pFz (aW al 0 (ae (pFz (ba 2)) aj))))) aj)) (au 0) jZ (pOp fIx (pSl 1) (pFz (aW al 2 (ae (pFz (pCB eE (ae (pSl 1) aj))) aj)))))) aj)))
theorem rc(c0 c1 m:Int)(ls:List Nat)(Q:PV->PV->Prop)(h:bE (.own [.int c0,.int c1]) ([.str ls,.int m]) Q):jj gF l6 (.own [.int c0,.int c1]) ([.str ls,.int m]) Q:=by
 show gF _ [some (.own [.int c0,.int c1]),some (.dat (.str ls)),some (.dat (.int m))];obtain⟨g,⟨h0,h26,hls⟩,⟨hm,hm2⟩,q⟩:=h;walk_at "r";intro x s hs hx0 hx1;walk_at "r"
 refine⟨fun k ys τ=>∃(v:Option PV) (s:Int×Int) (ws:List Nat),τ=[v,some (.dat (.str ls)),some (stv s)]/\SOk s/\ys=ws.map (fun c=>.str [c])/\ws.length=k/\Lts ws,⟨none,s,[],rfl,hs,rfl,rfl,Lts.nil⟩,?_,?_⟩
 .rintro k ys τ _ hk rfl ⟨v,⟨a,b⟩,ws,rfl,hs,rfl,hl,hL⟩;walk_at "r";intro z s2 hs2 hz0 hz1;obtain⟨j,rfl⟩:∃j:Nat,z=(j:Int):=⟨z.toNat,by omega⟩
  have hj:j<ls.length:=by omega
  walk_at "r";refine⟨_,fL (getElem?_eq_getElem hj) rfl,?_⟩;exact⟨_,s2,ws++[ls[j]],rfl,hs2,by rw [map_append];rfl,by rw [length_append,hl];rfl,hL.app (Lts.one (hls _ (getElem_mem hj)))⟩
 .rintro ys τ ⟨v,s2,ws,rfl,hs2,rfl,hl,hL⟩;walk_at "r"
  refine⟨ws.map fun c=>[c],yK ws,?_,?_⟩
  .rw [kx];omega
  .rw [kx];walk_at "r";exact q ws s2 hs2 (by omega) (by omega) hL
theorem sG:∀p ds Q,p.isOwn=true->bE p ds Q->jj gF l6 p ds Q:=fun p ds Q _ h=>by
 unfold bE at h
 split at h
 .exact rc _ _ _ _ _ h
 .exact h.elim
def iC:PTS:=(aG (bh (aW al 0 (ae (pFz (pCB eE (ae (pSl 1) aj))) aj)) (au 3)) (bw (dJ (pSl 1) (dC (ba 3)) (dC (pOp dO (pFz (pOp dO (pSl 3) (pFz (pC (.int 1))))) (pFz (aW al 0 (ae (pFz (ba 2)) aj))))))))
theorem sH(c0 c1 m:Int)(t:List Nat)(Q:PV->PV->Prop)(h:de (.own [.int c0,.int c1]) ([.str t,.int m]) Q):jj iC nN (.own [.int c0,.int c1]) ([.str t,.int m]) Q:=by
 show iC _ [some (.own [.int c0,.int c1]),some (.dat (.str t)),some (.dat (.int m)),none];obtain⟨g,⟨h0,h1,ht⟩,⟨hm,hm2⟩,q⟩:=h;walk_at "r";rintro x ⟨a,b⟩ hs hx0 hx1;walk_at "r";intro y s2 hs2 hy0 hy1;walk_at "r";obtain⟨i,rfl⟩:∃i:Nat,x=(i:Int):=⟨x.toNat,by omega⟩
 obtain⟨j,rfl⟩:∃j:Nat,y=(j:Int):=⟨y.toNat,by omega⟩
 show Q (.dat (.str (eR t (some (i:Int)) (some ((i:Int)+1+(j:Int)))))) _;rw [show (i:Int)+1+(j:Int)=((i+1+j:Nat):Int) by omega,wb];exact q _ s2 hs2 (by rw [length_take,length_drop];omega) (by rw [length_take,length_drop];omega) ((ht.drop _).take _)
theorem vd:∀p ds Q,p.isOwn=true->de p ds Q->jj iC nN p ds Q:=fun p ds Q _ h=>by
 unfold de at h
 split at h
 .exact sH _ _ _ _ _ h
 .exact h.elim
def gG:PTS:=(aG (bh (pOp fIx (pFz (iZ (ae (pFz (pC (.str [97,98]))) (ae (pFz (pC (.str [97,98,99]))) (ae (pFz (pC (.str [97,98,99,100,101,102,103,104,105,106,107,108,109,110,111,112,113,114,115,116,117,118,119,120,121,122]))) aj))))) (pFz (aW al 0 (ae (pFz (pC (.int 3))) aj)))) (au 2)) (aG (bh (aW bE 0 (ae (pFz (ba 2)) (ae (pFz (pOp qw (pFz (pC (.int 3))) (pSl 1))) aj))) (au 3)) (aG (gN (gb (pB (pOp mI (pFz (aW al 0 (ae (pFz (pC (.int 3))) aj))) (pFz (pC (.int 0))))) (bh (pOp qw (pFz (dJ (pSl 3) dZ (dC (pOp dO (pFz (pC (.int 1))) (pFz (aW al 0 (ae (pFz (pC (.int 3))) aj))))))) (pSl 1)) (au 3)) bz)) (bw (wE (ae (pFz (ba 2)) (ae (pFz (ba 3)) aj)))))))
theorem rd(c0 c1 m:Int)(Q:PV->PV->Prop)(h:cL (.own [.int c0,.int c1]) ([.int m]) Q):jj gG l7 (.own [.int c0,.int c1]) ([.int m]) Q:=by
 show gG _ [some (.own [.int c0,.int c1]),some (.dat (.int m)),none,none];obtain⟨g,⟨hm,hm2⟩,q⟩:=h;walk_at "r";rintro x ⟨a,b⟩ hs hx0 hx1
 obtain⟨ls,hls,hl1,hl2,hL⟩:∃ls:List Nat,atI [D.str [97,98],D.str [97,98,99],D.str [97,98,99,100,101,102,103,104,105,106,107,108,109,110,111,112,113,114,115,116,117,118,119,120,121,122]] x=some (.str ls)/\0<ls.length/\ls.length<=26/\Lts ls:=by
  have lt:∀l:List Nat,(l.all fun c=>decide (97<=c) && decide (c<=122))=true->Lts l:=fun l h c hc=>by
   have:=all_eq_true.mp h c hc;rw [and_eq_true,decide_eq_true_eq,decide_eq_true_eq] at this;exact this
  rcases (show x=0\/x=1\/x=2 by omega) with h|h|h <;> rw [h]
  all_goals exact⟨_,rfl,by decide,by decide,lt _ (by decide)⟩
 have gl:0<ls.length/\ls.length<=26/\Lts ls:=⟨hl1,hl2,hL⟩
 have g3:0<3*m/\3*m<=10000:=⟨by omega,by omega⟩
 walk_at "r";refine⟨_,hls,?_⟩;walk_at "r";rintro w ⟨a2,b2⟩ hs2 hw0 hw1 hwL;walk_at "r"
 refine⟨fun ρ=>∃(u:List Nat) (s:Int×Int),SOk s/\0<u.length/\u.length<=100000/\Lts u/\ρ=[some (stv s),some (.dat (.int m)),some (.dat (.str ls)),some (.dat (.str u))],?_,?_⟩
 .walk_at "r";rintro y ⟨a3,b3⟩ hs3 hy0 hy1;walk_at "r"
  refine c5 (fun c=>?_) (fun c=>?_)
  .walk_at "r";rintro z ⟨a4,b4⟩ hs4 hz0 hz1
   have ct:eR w none (some (1+z))=w.take (1+z).toNat:=by
    obtain⟨n,hn⟩:∃n:Nat,1+z=(n:Int):=⟨(1+z).toNat,by omega⟩
    rw [hn,gY,toNat_natCast]
   have cl1:(w.take (1+z).toNat).length<=3:=by rw [length_take];omega
   have cl0:0<(w.take (1+z).toNat).length:=by rw [length_take];omega
   have w2:(-1000000:Int)<=m/\m<=1000000/\m.toNat*(eR w none (some (1+z))).length<=1000000:=by
    refine⟨by omega,by omega,?_⟩;rw [ct];exact le_trans (mul_le_mul (show m.toNat<=100 by omega) cl1) (by decide)
   walk_at "r";rw [ct]
   refine⟨_,(a4,b4),hs4,?_,?_,(hwL.take _).rep _,rfl⟩
   .rw [fV];exact mul_pos (by omega) cl0
   .rw [fV];exact le_trans (mul_le_mul (show m.toNat<=100 by omega) cl1) (by decide)
  .exact⟨w,(a3,b3),hs3,hw0,by omega,hwL,rfl⟩
 .rintro ρ ⟨u,s,hs5,hu0,hu1,huL,rfl⟩;walk_at "r";exact q ls u s hs5 gl ⟨hu0,hu1,huL⟩
theorem sI:∀p ds Q,p.isOwn=true->cL p ds Q->jj gG l7 p ds Q:=fun p ds Q _ h=>by
 unfold cL at h
 split at h
 .exact rd _ _ _ _ h
 .exact h.elim
def eL:PTS:=(aG (bh (aW cL 0 (ae (pFz (ba 2)) aj)) (kU 2 (eA (au 3) (eA (au 4) oB)))) (aG (bh (iZ aj) (au 5)) (aG (gU (tN (ae (pFz (ba 1)) aj)) (au 6) (aG (bh (aW al 0 (ae (pFz (pC (.int 5))) aj)) (au 7)) (aG (gN (gb (pB (pOp mI (pSl 7) (pFz (pC (.int 0))))) (bh (aW bE 0 (ae (pFz (ba 3)) (ae (pFz (ba 2)) aj))) (au 8)) (gb (pB (pOp mI (pSl 7) (pFz (pC (.int 1))))) (bh (pOp qw (pFz (aW bE 0 (ae (pFz (ba 3)) (ae (pFz (pC (.int 2))) aj)))) (pSl 2)) (au 8)) (bh (aW de 0 (ae (pFz (ba 4)) (ae (pFz (ba 2)) aj))) (au 8))))) (kt (Db 5 (dJ (pSl 8) dZ (dC (ba 2)))))))) (bw (ba 5)))))
theorem mU(c0 c1 n m:Int)(Q:PV->PV->Prop)(h:bI (.own [.int c0,.int c1]) ([.int n,.int m]) Q):jj eL jF (.own [.int c0,.int c1]) ([.int n,.int m]) Q:=by
 show eL _ [some (.own [.int c0,.int c1]),some (.dat (.int n)),some (.dat (.int m)),none,none,none,none,none,none];obtain⟨g,⟨hn0,hn1,hm0,hm1⟩,q⟩:=h;obtain⟨N,rfl⟩:∃N:Nat,n=(N:Int):=⟨n.toNat,by omega⟩
 have gm:0<m/\m<=100:=⟨hm0,by omega⟩
 have gm2:0<m/\m<=10000:=⟨hm0,by omega⟩
 walk_at "r";rintro ls b ⟨a1,b1⟩ hs1 hls hb;walk_at "r";rw [toNat_natCast]
 refine⟨fun k ρ=>∃(ps:List (List Nat)) (s:Int×Int) (v6 v7 v8:Option PV),SOk s/\ps.length=k/\Pcs m.toNat ps/\ρ=[some (stv s),some (.dat (.int (N:Int))),some (.dat (.int m)),some (.dat (.str ls)),some (.dat (.str b)),some (.own (ps.map .str)),v6,v7,v8],⟨[],(a1,b1),_,_,_,hs1,rfl,(fun w hw=>nomatch hw),rfl⟩,?_,?_⟩
 .rintro k ρ _ hk rfl ⟨ps,⟨a2,b2⟩,v6,v7,v8,hs2,hpl,hps,rfl⟩;have hpm:(ps.map D.str).length=ps.length:=length_map _;walk_at "r";rintro y ⟨a3,b3⟩ hs3 hy0 hy1;walk_at "r"
  refine⟨fun ρ=>∃(p:List Nat) (s:Int×Int),SOk s/\0<p.length/\p.length<=1000/\Lts p/\ρ=[some (stv s),some (.dat (.int (N:Int))),some (.dat (.int m)),some (.dat (.str ls)),some (.dat (.str b)),some (.own (ps.map .str)),some (.dat (.int (k:Int))),some (.dat (.int y)),some (.dat (.str p))],?_,?_⟩
  .walk_at "r"
   refine c5 (fun c=>?_) (fun c=>?_)
   .walk_at "r";rintro w s5 hs5 hw0 hw1 hwL;exact⟨w,s5,hs5,hw0,by omega,hwL,rfl⟩
   .walk_at "r"
    refine c5 (fun c3=>?_) (fun c3=>?_)
    .have g2:(0:Int)<2/\(2:Int)<=10000:=⟨by decide,by decide⟩
     walk_at "r";rintro w ⟨a5,b5⟩ hs5 hw0 hw1 hwL;have hw1:w.length<=2:=hw1;have r1:m.toNat*w.length<=60*2:=mul_le_mul (by omega) hw1;have r2:0<m.toNat*w.length:=mul_pos (by omega) hw0;have gr:-1000000<=m/\m<=1000000/\m.toNat*w.length<=1000000:=⟨by omega,by omega,by omega⟩
     have rl:=fV w m;walk_at "r"
     refine⟨_,(a5,b5),hs5,?_,?_,fun c hc=>hwL c (zb hc),rfl⟩
     .omega
     .omega
    .walk_at "r";rintro w s5 hs5 hw0 hw1 hwL;exact⟨w,s5,hs5,hw0,by omega,hwL,rfl⟩
  rintro ρ ⟨p,⟨a6,b6⟩,hs6,hp0,hp1,hpL,rfl⟩;have ct:eR p none (some m)=p.take m.toNat:=yn p (by omega);walk_at "r";rw [ct];refine⟨ps++[_],(a6,b6),_,_,_,hs6,by rw [length_append,hpl];rfl,fun w hw=>?_,by rw [map_append];rfl⟩
  rcases mem_append.mp hw with h|h
  .exact hps w h
  .rw [mem_singleton.mp h];exact⟨by rw [length_take];omega,by rw [length_take];omega,hpL.take _⟩
 .rintro ρ ⟨ps,s,v6,v7,v8,hs2,hpl,hps,rfl⟩;walk_at "r";exact q ps s hs2 (by omega) hps
theorem pz:∀p ds Q,p.isOwn=true->bI p ds Q->jj eL jF p ds Q:=fun p ds Q _ h=>by
 unfold bI at h
 split at h
 .exact mU _ _ _ _ _ h
 .exact h.elim
def eM:PTS:=(aG (gU (eZ (ba 0)) (au 2) (gb (DS (pB (pOp fGt (pFz (pCB eE (ae (pSl 2) aj))) (pFz (pCB eE (ae (pFz (pOp fIx (pSl 0) (pSl 1))) aj))))) (pB (pOp fGe (pFz (pSM tS (ba 2) (ae (pFz (pOp fIx (pSl 0) (pSl 1))) aj))) (pFz (pC (.int 0)))))) (bw (pC (.bl true))) bz)) (bw (pOp (DY false) (pFz (pOp fIx (pSl 0) (pSl 1))) (pFz (dJ (pSl 0) dZ (dC (ba 1)))))))
theorem mW(ds:List D)(i:Int)(Q:PV->Prop)(h:bt ([.lst ds,.int i]) Q):eB eM jG ([.lst ds,.int i]) Q:=by
 show eM _ [some (.dat (.lst ds)),some (.dat (.int i)),none];obtain⟨ws,rfl,⟨hn,hp⟩,⟨h0,h1⟩,q⟩:=h;obtain⟨k,rfl⟩:∃k:Nat,i=(k:Int):=⟨i.toNat,by omega⟩
 rw [toNat_natCast] at q;have hk:k<ws.length:=by omega
 have w1:=(hp _ (hX hk)).2.1;have c1:eR (ws.map D.str) none (some (k:Int))=(ws.take k).map D.str:=by rw [gY,map_take]
 have hfl:(eR (ws.map D.str) none (some (k:Int))).all D.fl=true:=by rw [c1];exact xq _
 have hin:inD (.str (pw ws k)) (eR (ws.map D.str) none (some (k:Int)))=decide (pw ws k∈ws.take k):=by rw [c1];exact oQ _ _
 walk_at "r"
 refine EY (fun pre ρ=>(∃v2:Option PV,ρ=[some (.dat (.lst (ws.map .str))),some (.dat (.int (k:Int))),v2])/\∀o∈pre,(pw ws k).length<o.length->iH (pw ws k) o=false) ⟨⟨_,rfl⟩,fun o ho=>nomatch ho⟩ ?_ ?_
 .rintro pre o suf ρ ew ⟨⟨v2,rfl⟩,ih⟩;have ho:o∈ws:=by rw [ew];simp
  have w2:=(hp o ho).2.1
  have keep:((pw ws k).length<o.length->iH (pw ws k) o=false)->∀o'∈pre++[o],(pw ws k).length<o'.length->iH (pw ws k) o'=false:=fun h o' ho'=>by
   rcases mem_append.mp ho' with z|z
   .exact ih o' z
   .rw [mem_singleton.mp z];exact h
  have found:(pw ws k).length<o.length->iH (pw ws k) o=true->dN ws k=false:=fun h1 h2=>by
   cases e:dN ws k with
   | false=>rfl
   | true =>
    have:=(gn.mp e).2 o ho h1;rw [h2] at this;cases this
  walk_at "r";refine⟨_,dD hk rfl,?_⟩;walk_at "r"
  refine c5 (fun c=>?_) (fun c=>?_)
  .walk_at "r";refine⟨_,dD hk rfl,?_⟩;walk_at "r"
   refine c5 (fun c2=>?_) (fun c2=>?_)
   .walk_at "r";rw [found (by omega) (Bg.mpr (by omega))] at q;exact q
   .exact⟨⟨_,rfl⟩,keep fun _=>yY.mpr (by omega)⟩
  .exact⟨⟨_,rfl⟩,keep fun z=>by omega⟩
 .rintro ρ ⟨⟨v2,rfl⟩,ih⟩
  have hq:(!dN ws k)=decide (pw ws k∈ws.take k):=by
   by_cases e:pw ws k∈ws.take k
   .rw [decide_eq_true e]
    cases e2:dN ws k with
    | false=>rfl
    | true=>exact absurd e (gn.mp e2).1
   .rw [decide_eq_false e,gn.mpr ⟨e,ih⟩];rfl
  rw [hq] at q;walk_at "r";refine⟨_,dD hk rfl,?_⟩;walk_at "r";rw [hin];exact q
theorem pA:∀ds Q,bt ds Q->eB eM jG ds Q:=fun ds Q h=>by
 unfold bt at h
 split at h
 .exact mW _ _ _ h
 .exact h.elim
def fo:PTS:=(aG (bh (aW bI 0 (ae (pFz (ba 1)) (ae (pFz (ba 2)) aj))) (au 3)) (bw (fh [none,some 3] (tN (ae (pFz (pCB eE (ae (pSl 3) aj))) aj)) (au 0) (pY (pB (bC bt (ae (pFz (ba 1)) (ae (pFz (ba 0)) aj))))) (pOp fIx (pSl 1) (pSl 0)))))
theorem pD(c0 c1 n m:Int)(Q:PV->PV->Prop)(h:cj (.own [.int c0,.int c1]) ([.int n,.int m]) Q):jj fo kB (.own [.int c0,.int c1]) ([.int n,.int m]) Q:=by
 show fo _ [some (.own [.int c0,.int c1]),some (.dat (.int n)),some (.dat (.int m)),none];obtain⟨g,⟨hn0,hn1,hm0,hm1⟩,q⟩:=h;have gp:0<=n/\n<=100/\0<m/\m<=60:=⟨hn0,hn1,hm0,hm1⟩
 walk_at "r";rintro ps s1 hs1 hpl hpp;have hp:Pcs 60 ps:=fun w hw=>⟨(hpp w hw).1,by have:=(hpp w hw).2.1;omega,(hpp w hw).2.2⟩
 have hpm:(ps.map D.str).length=ps.length:=length_map _;have hw:ps.length<=100/\Pcs 60 ps:=⟨by omega,hp⟩
 walk_at "r";rw [hpm,toNat_natCast]
 refine cfR (fun k=>dN ps k) (fun k=>.str (pw ps k)) (fun k hk v K1 K2 k1 k2=>?_) (fun v=>?_)
 .have hk2:0<=(k:Int)/\(k:Int)<(ps.length:Int):=⟨by omega,by omega⟩
  have ek:dN ps (k:Int).toNat=dN ps k:=rfl;walk_at "r";rw [ek]
  cases hc:dN ps k with
  | true =>
   walk_at "r";refine⟨_,dD hk rfl,?_⟩;exact k1 _ hc
  | false=>exact k2 _ hc
 .have e:((List.range ps.length).filter fun k=>dN ps k).map (fun k=>D.str (pw ps k))=(cH ps).map .str:=by unfold cH iM;rw [map_map];rfl
  rw [e];walk_at "r";exact q ps s1 hs1 hpl hpp
theorem re:∀p ds Q,p.isOwn=true->cj p ds Q->jj fo kB p ds Q:=fun p ds Q _ h=>by
 unfold cj at h
 split at h
 .exact pD _ _ _ _ _ h
 .exact h.elim
def eN:PTS:=(bw (fh [none,some 0,some 2] (tN (ae (pFz (ba 1)) aj)) (au 0) jZ (pOp dO (pFz (pC (.int 1))) (pFz (aW al 1 (ae (pFz (ba 2)) aj))))))
theorem mX(c0 c1 n m:Int)(Q:PV->PV->Prop)(h:bJ (.own [.int c0,.int c1]) ([.int n,.int m]) Q):jj eN jH (.own [.int c0,.int c1]) ([.int n,.int m]) Q:=by
 show eN _ [some (.own [.int c0,.int c1]),some (.dat (.int n)),some (.dat (.int m))];obtain⟨g,⟨hn0,hn1,hm0,hm1⟩,q⟩:=h;walk_at "r"
 refine⟨fun k ys τ=>∃(v:Option PV) (s:Int×Int) (cs:List Nat),τ=[v,some (stv s),some (.dat (.int m))]/\SOk s/\cs.length=k/\(∀c∈cs,1<=c/\c<=m.toNat)/\ys=cs.map nD,⟨none,(c0,c1),[],rfl,g,rfl,(fun _ h=>nomatch h),rfl⟩,?_,?_⟩
 .rintro k ys τ d hk ed ⟨v,⟨u,w⟩,cs,rfl,hs,hl,hc,rfl⟩;walk_at "r";rintro z s2 hs2 hz0 hz1;obtain⟨i,rfl⟩:∃i:Nat,z=(i:Int):=⟨z.toNat,by omega⟩
  walk_at "r";refine⟨_,s2,cs++[1+i],rfl,hs2,by rw [length_append,hl];rfl,fun c h=>(mem_append.mp h).elim (hc c) fun h=>by rw [mem_singleton.mp h];omega,?_⟩;rw [map_append];show _=_++[D.int ((1+i:Nat):Int)]
  rw [show ((1+i:Nat):Int)=1+(i:Int) by omega]
 .rintro ys τ ⟨v,s2,cs,rfl,hs2,hl,hc,rfl⟩;walk_at "r";exact q cs s2 hs2 hl hc
theorem pE:∀p ds Q,p.isOwn=true->bJ p ds Q->jj eN jH p ds Q:=fun p ds Q _ h=>by
 unfold bJ at h
 split at h
 .exact mX _ _ _ _ _ h
 .exact h.elim
def iD:PTS:=(aG (gU (EG (ae (pFz (pOp zB (pFz (pCB uL (ae (pFz (pCB eE (ae (pSl 0) aj))) (ae (pFz (pCB eE (ae (pSl 1) aj))) aj)))) (pFz (pC (.int 1))))) (ae (pFz (pC (.int 0))) (ae (pFz (pUn Dm (pFz (pC (.int 1))))) aj)))) (au 2) (gb (pB (pOp mI (pFz (dJ (pSl 0) (dC (pOp zB (pFz (pCB eE (ae (pSl 0) aj))) (pSl 2))) dZ)) (pFz (dJ (pSl 1) dZ (dC (ba 2)))))) (bw (ba 2)) bz)) (bw (pC (.int 0))))
theorem sJ(a b:List Nat)(Q:PV->Prop)(h:bv ([.str a,.str b]) Q):eB iD nO ([.str a,.str b]) Q:=by
 show iD _ [some (.dat (.str a)),some (.dat (.str b)),none];obtain⟨a1,⟨b0,b1⟩,q⟩:=h;have hm:(if (b.length:Int)<(a.length:Int) then (b.length:Int) else (a.length:Int))=((min a.length b.length:Nat):Int):=by split <;> omega
 walk_at "r";rw [hm]
 refine⟨fun i ρ=>(∃v2:Option PV,ρ=[some (.dat (.str a)),some (.dat (.str b)),v2])/\∀j,min a.length b.length - i<=j->j<min a.length b.length->¬ b.take j <:+ a,⟨⟨_,rfl⟩,fun j h1 h2=>by omega⟩,?_,?_⟩
 .rintro i ρ d hi ed ⟨⟨v2,rfl⟩,ih⟩;obtain⟨k,hk,hk2⟩:∃k:Nat,(((min a.length b.length:Nat):Int) - 1) - (i:Int)=(k:Int)/\k=min a.length b.length - 1 - i:=⟨min a.length b.length - 1 - i,by omega,rfl⟩
  have hk0:0<k:=by omega
  rw [hk] at ed;subst ed;have cd:eR a (some ((a.length:Int) - (k:Int))) none=a.drop (a.length - k):=by rw [show (a.length:Int) - (k:Int)=((a.length - k:Nat):Int) by omega,lD]
  have ct:=gY b k;walk_at "r";rw [cd,ct]
  refine c5 (fun c=>?_) (fun c=>?_)
  .walk_at "r"
   rw [show eG a b=k from oP ⟨by omega,by rw [<- c];exact drop_suffix ..,fun j h1 h2=>by
    rcases lt_or_ge k j with h|h
    .exact absurd h2 (ih j (by omega) h1)
    .exact h⟩] at q
   exact q
  .refine⟨⟨_,rfl⟩,fun j h1 h2=>?_⟩
   by_cases hj:j=k
   .subst hj;intro z;refine c ?_;obtain⟨t,ht⟩:=z;have hl:=congrArg List.length ht;rw [length_append,length_take] at hl;rw [<- ht,show (t++b.take j).length - j=t.length by rw [length_append,length_take];omega,drop_left]
   .exact ih j (by omega) h2
 .rintro ρ ⟨⟨v2,rfl⟩,ih⟩;walk_at "r"
  by_cases a0:0<a.length
  .rw [show eG a b=0 from oP ⟨by omega,by rw [take_zero];exact nil_suffix,fun j h1 h2=>by
    rcases lt_or_ge 0 j with h|h
    .exact absurd h2 (ih j (by omega) h1)
    .exact h⟩] at q
   exact q
  .rw [show eG a b=0 by
    unfold eG;rw [dif_neg];rintro⟨k,hk⟩;have:=hk.1;omega] at q
   exact q
theorem ve:∀ds Q,bv ds Q->eB iD nO ds Q:=fun ds Q h=>by
 unfold bv at h
 split at h
 .exact sJ _ _ _ h
 .exact h.elim
def fq:PTS:=(bw (jW (BI .int (pSl 0)) (yA (BI .bool (pSl 0)))))
theorem pF(d:D)(Q:PV->Prop)(h:aQ ([d]) Q):eB fq kC ([d]) Q:=by
 show fq _ [some (.dat (d))];obtain⟨hd,q⟩:=h;cases d <;> first|(cases hd;done)|(walk_at "r";exact q)
theorem rf:∀ds Q,aQ ds Q->eB fq kC ds Q:=fun ds Q h=>by
 unfold aQ at h
 split at h
 .exact pF _ _ h
 .exact h.elim
def dH:PTS:=(aG (bh (pCB rX (ae (pSl 1) aj)) (au 2)) (aG (bh (iZ aj) (au 3)) (aG (rV (pB (pOp xa (pSl 2) (pFz (iZ aj)))) (kt (Db 3 (xh 2 (aW al 0 (ae (pFz (pCB eE (ae (pSl 2) aj))) aj)))))) (bw (Dt (ba 3))))))
theorem k8(c0 c1:Int)(ds:List D)(Q:PV->PV->Prop)(h:bu (.own [.int c0,.int c1]) ([.lst ds]) Q):jj dH iq (.own [.int c0,.int c1]) ([.lst ds]) Q:=by
 show dH _ [some (.own [.int c0,.int c1]),some (.dat (.lst ds)),none,none];obtain⟨xs,rfl,⟨g,hn⟩,q⟩:=h;have hxm:(xs.map nD).length=xs.length:=length_map _;walk_at "r";refine⟨fun k ρ=>∃(rs js:List Nat) (s:Int×Int) (v1:Option PV),(js++rs).Perm xs/\SOk s/\k=rs.length/\ρ=[some (stv s),v1,some (.own (rs.map nD)),some (.own (js.map nD))],⟨xs.length,xs,[],(c0,c1),_,List.Perm.refl _,g,rfl,rfl⟩,?_⟩;rintro k ρ ⟨rs,js,⟨a,b⟩,v1,hp,hs,rfl,rfl⟩
 have hpl:=hp.length_eq;rw [length_append] at hpl;have e1:=xO rs;have e2:=Bw rs;walk_at "r";rw [e2]
 refine mF (fun c=>?_) (fun c=>?_)
 .have hrl:0<rs.length:=length_pos_iff.mpr c;have hrm:(rs.map nD).length=rs.length:=length_map _;have hjm:(js.map nD).length=js.length:=length_map _;walk_at "r";rintro z s2 hs2 hz0 hz1;obtain⟨i,rfl⟩:∃i:Nat,z=(i:Int):=⟨z.toNat,by omega⟩
  have hir:i<rs.length:=by omega
  walk_at "r";refine⟨i,nD rs[i],⟨by rw [hrm];exact yZ hir,by omega⟩,by rw [getElem?_map,getElem?_eq_getElem hir];rfl,by show (js.map nD).length<_;omega,rs.length - 1,by omega,rs.eraseIdx i,js++[rs[i]],s2,v1,?_,hs2,by rw [length_eraseIdx,if_pos hir],by rw [map_append,xz];rfl⟩;rw [append_assoc];exact ((perm_append_comm.trans (xA hir)).append_left js).trans hp
 .have c:rs=[]:=c;subst c;rw [append_nil] at hp;walk_at "r";exact q js (a,b) hp hs
theorem mj:∀p ds Q,p.isOwn=true->bu p ds Q->jj dH iq p ds Q:=fun p ds Q _ h=>by
 unfold bu at h
 split at h
 .exact k8 _ _ _ _ h
 .exact h.elim
def eO:PTS:=(aG (rV (pB (pOp fGt (pSl 3) (pFz (pC (.int 0))))) (aG (gb (DS (pB (pOp mI (pFz (dJ (pSl 1) (dC (pOp zB (pFz (pCB eE (ae (pSl 1) aj))) (pSl 3))) dZ)) (pFz (dJ (pSl 2) dZ (dC (ba 3)))))) (pB (pOp mI (pFz (aW al 0 (ae (pFz (pC (.int 2))) aj))) (pFz (pC (.int 0)))))) (bw (ba 3)) bz) (bh (pOp zB (pSl 3) (pFz (pC (.int 1)))) (au 3)))) (bw (pC (.int 0))))
theorem mY(c0 c1 m:Int)(a b:List Nat)(Q:PV->PV->Prop)(h:bK (.own [.int c0,.int c1]) ([.str a,.str b,.int m]) Q):jj eO jI (.own [.int c0,.int c1]) ([.str a,.str b,.int m]) Q:=by
 show eO _ [some (.own [.int c0,.int c1]),some (.dat (.str a)),some (.dat (.str b)),some (.dat (.int m))];obtain⟨g,⟨h0,h1,ha,hb⟩,q⟩:=h;walk_at "r";refine⟨fun k ρ=>∃s:Int×Int,SOk s/\(k:Int)<=m/\ρ=[some (stv s),some (.dat (.str a)),some (.dat (.str b)),some (.dat (.int (k:Int)))],⟨m.toNat,(c0,c1),g,by omega,by rw [toNat_of_nonneg h0];rfl⟩,?_⟩;rintro k ρ ⟨⟨u,v⟩,hs,hk,rfl⟩;have cl1:=bM a (some ((a.length:Int) - (k:Int))) none
 have cl2:=bM b none (some (k:Int));walk_at "r"
 refine c5 (fun c=>?_) (fun c=>?_)
 .walk_at "r"
  refine c5 (fun c2=>?_) (fun c2=>?_)
  .walk_at "r";rintro z s2 hs2 hz0 hz1;walk_at "r"
   refine c5 (fun c3=>?_) (fun c3=>?_)
   .walk_at "r";exact q k s2 hs2 hk
   .walk_at "r";refine⟨k - 1,by omega,s2,hs2,by omega,?_⟩;rw [show (k:Int) - 1=((k - 1:Nat):Int) by omega]
  .walk_at "r";refine⟨k - 1,by omega,(u,v),hs,by omega,?_⟩;rw [show (k:Int) - 1=((k - 1:Nat):Int) by omega]
 .walk_at "r";exact q 0 (u,v) hs (by omega)
theorem pG:∀p ds Q,p.isOwn=true->bK p ds Q->jj eO jI p ds Q:=fun p ds Q _ h=>by
 unfold bK at h
 split at h
 .exact mY _ _ _ _ _ _ h
 .exact h.elim
def gH:PTS:=(aG (bh (dJ (pFz (pC (.str [112,113]))) dZ (dC (pOp DW (pFz (aW al 0 (ae (pFz (pC (.int 3))) aj))) (pFz (pC (.int 2)))))) (au 2)) (aG (bh (pC (.str [])) (au 3)) (aG (gU (eZ (ba 1)) (au 4) (aG (bh (aW al 0 (ae (pFz (pC (.int 4))) aj)) (au 5)) (aG (bh (pC (.int 0)) (au 6)) (aG (gN (gb (DS (pB (pOp xa (pSl 3) (pFz (pC (.str []))))) (pB (pOp fGt (pSl 5) (pFz (pC (.int 0)))))) (bh (bC bv (ae (pFz (ba 3)) (ae (pFz (ba 4)) aj))) (au 6)) bz)) (aG (gN (gb (pB (pOp mI (pSl 5) (pFz (pC (.int 1))))) (bh (aW bK 0 (ae (pFz (ba 3)) (ae (pFz (ba 4)) (ae (pFz (ba 6)) aj)))) (au 6)) bz)) (aG (gN (gb (pB (pOp mI (pSl 5) (pFz (pC (.int 0))))) (bh (pOp dO (pSl 2) (pFz (dJ (pFz (pC (.str [98,97]))) dZ (dC (aW al 0 (ae (pFz (pC (.int 3))) aj)))))) (au 2)) bz)) (aG (bh (pOp dO (pSl 2) (pFz (dJ (pSl 4) (dC (ba 6)) dZ))) (au 2)) (bh (ba 4) (au 3))))))))) (bw (pOp dO (pSl 2) (pFz (dJ (pFz (pC (.str [113,112]))) dZ (dC (pOp DW (pFz (aW al 0 (ae (pFz (pC (.int 3))) aj))) (pFz (pC (.int 2))))))))))))
theorem rg(c0 c1:Int)(ds:List D)(Q:PV->PV->Prop)(h:cM (.own [.int c0,.int c1]) ([.lst ds]) Q):jj gH l8 (.own [.int c0,.int c1]) ([.lst ds]) Q:=by
 show gH _ [some (.own [.int c0,.int c1]),some (.dat (.lst ds)),none,none,none,none,none];obtain⟨ws,rfl,⟨g,hn,hp⟩,q⟩:=h;have hwm:(ws.map D.str).length=ws.length:=length_map _;walk_at "r";rintro z s1 hs1 hz0 hz1;have cl:=bM [112,113] none (some (z / 2));have c2:(eR [112,113] none (some (z / 2))).length<=2:=cl;walk_at "r"
 refine EY (xs:=ws) (e:=D.str) (fun pre ρ=>∃(s:Int×Int) (T one:List Nat) (v4 v5 v6:Option PV),SOk s/\T.length<=2+62*pre.length/\zc pre<=T.length+u8 pre/\(pre=[]/\one=[]\/∃p,pre=p++[one])/\ρ=[some (stv s),some (.dat (.lst (ws.map .str))),some (.dat (.str T)),some (.dat (.str one)),v4,v5,v6]) ⟨s1,_,[],_,_,_,hs1,by omega,zero_le _,.inl ⟨rfl,rfl⟩,rfl⟩ ?_ ?_
 .rintro pre x suf ρ ew ⟨⟨u,v⟩,T,one,v4,v5,v6,hs,hT,ht,ho,rfl⟩;have hx:=hp x (by rw [ew];simp);have hx2:=hx.2.1
  have hone:one.length<=60:=by
   rcases ho with ⟨_,e⟩|⟨p,e⟩
   .rw [e];exact zero_le _
   .exact (hp one (by rw [ew,e];simp)).2.1
  have hpl:pre.length<40:=by
   have:=congrArg List.length ew;rw [length_append,length_cons] at this;omega
  obtain⟨L,hL0,hL1,hL2,hL3⟩:∃L:Nat,(one=[]->L=0)/\(one≠[]->L=eG one x)/\u8 (pre++[x])=u8 pre+L/\L<=60:=by
   rcases ho with ⟨e1,e2⟩|⟨p,e⟩
   .exact⟨0,fun _=>rfl,fun z=>absurd e2 z,by rw [e1];rfl,zero_le _⟩
   .have h1:=(hp one (by rw [ew,e];simp)).1
    refine⟨eG one x,fun z=>?_,fun _=>rfl,by rw [e];exact uc p one x,?_⟩
    .rw [z] at h1;exact absurd h1 (Nat.lt_irrefl _)
    .have:=(xp h1 hx.1).1;omega
  have gx:one.length<=10000/\(0<x.length/\x.length<=10000):=⟨by omega,hx.1,by omega⟩
  walk_at "r";rintro w ⟨u2,v2⟩ hs2 hw0 hw1;walk_at "r"
  refine⟨fun ρ=>∃k:Nat,k<=L/\ρ=[some (stv (u2,v2)),some (.dat (.lst (ws.map .str))),some (.dat (.str T)),some (.dat (.str one)),some (.dat (.str x)),some (.dat (.int w)),some (.dat (.int (k:Int)))],?_,?_⟩
  .walk_at "r"
   refine mF (fun c=>?_) (fun c=>?_)
   .walk_at "r"
    refine c5 (fun c2=>?_) (fun c2=>?_)
    .walk_at "r";exact⟨eG one x,by rw [hL1 c];exact Nat.le_refl _,rfl⟩
    .exact⟨0,zero_le _,rfl⟩
   .exact⟨0,zero_le _,rfl⟩
  rintro ρ ⟨k,hk,rfl⟩;walk_at "r"
  refine⟨fun ρ=>∃(k:Nat) (s:Int×Int),SOk s/\k<=L/\ρ=[some (stv s),some (.dat (.lst (ws.map .str))),some (.dat (.str T)),some (.dat (.str one)),some (.dat (.str x)),some (.dat (.int w)),some (.dat (.int (k:Int)))],?_,?_⟩
  .have g2:0<=(k:Int)/\(k:Int)<=10000/\one.length<=10000/\x.length<=10000:=⟨by omega,by omega,by omega,by omega⟩
   walk_at "r"
   refine c5 (fun c=>?_) (fun c=>?_)
   .walk_at "r";rintro r s3 hs3 hr;exact⟨r,s3,hs3,by omega,rfl⟩
   .exact⟨k,(u2,v2),hs2,hk,rfl⟩
  rintro ρ ⟨k,⟨u3,v3⟩,hs3,hk,rfl⟩;walk_at "r"
  refine⟨fun ρ=>∃(F:List Nat) (s:Int×Int),SOk s/\T.length<=F.length/\F.length<=T.length+2/\ρ=[some (stv s),some (.dat (.lst (ws.map .str))),some (.dat (.str F)),some (.dat (.str one)),some (.dat (.str x)),some (.dat (.int w)),some (.dat (.int (k:Int)))],?_,?_⟩
  .walk_at "r"
   refine c5 (fun c=>?_) (fun c=>?_)
   .walk_at "r";rintro y s4 hs4 hy0 hy1;have cl4:(eR [98,97] none (some y)).length<=2:=bM [98,97] none (some y);walk_at "r";exact⟨_,s4,hs4,by rw [length_append];omega,by rw [length_append];omega,rfl⟩
   .exact⟨T,(u3,v3),hs3,Nat.le_refl _,by omega,rfl⟩
  rintro ρ ⟨F,⟨u4,v4⟩,hs4,hF1,hF2,rfl⟩;have ec:eR x (some (k:Int)) none=x.drop k:=lD x k;have el:=bM x (some (k:Int)) none;walk_at "r";rw [ec]
  refine⟨(u4,v4),F++x.drop k,x,_,_,_,hs4,?_,?_,.inr ⟨pre,rfl⟩,rfl⟩
  .rw [length_append,length_append,length_drop];show _<=2+62*(pre.length+1);omega
  .rw [zd,hL2,length_append,length_drop];omega
 .rintro ρ ⟨⟨u,v⟩,T,one,v4,v5,v6,hs,hT,ht,ho,rfl⟩;walk_at "r";rintro y s2 hs2 hy0 hy1;have cl3:(eR [113,112] none (some (y / 2))).length<=2:=bM [113,112] none (some (y / 2));walk_at "r";exact q _ s2 hs2 (by rw [length_append];omega) (by rw [length_append];omega)
theorem sK:∀p ds Q,p.isOwn=true->cM p ds Q->jj gH l8 p ds Q:=fun p ds Q _ h=>by
 unfold cM at h
 split at h
 .exact rg _ _ _ _ h
 .exact h.elim
def iE:PTS:=(aG (bh (iZ aj) (au 2)) (aG (gU (tN (ae (pFz (pCB eE (ae (pSl 1) aj))) aj)) (au 3) (kt (E3 2 (pOp qw (pFz (iZ (ae (pFz (ba 3)) aj))) (pFz (pOp fIx (pSl 1) (pSl 3))))))) (bw (Dt (aW bu 0 (ae (pFz (ba 2)) aj))))))
theorem sL(c0 c1:Int)(ds:List D)(Q:PV->PV->Prop)(h:cR (.own [.int c0,.int c1]) ([.tup ds]) Q):jj iE nP (.own [.int c0,.int c1]) ([.tup ds]) Q:=by
 show iE _ [some (.own [.int c0,.int c1]),some (.dat (.tup ds)),none,none];obtain⟨cs,rfl,⟨g,hn,hc⟩,q⟩:=h;have hcm:(cs.map nD).length=cs.length:=length_map _;walk_at "r"
 refine⟨fun k ρ=>∃v3:Option PV,ρ=[some (.own [.int c0,.int c1]),some (.dat (.tup (cs.map nD))),some (.own ((rwN cs k).map nD)),v3],⟨_,rfl⟩,?_,?_⟩
 .rintro k ρ _ hk rfl ⟨v3,rfl⟩;have hk:k<cs.length:=by rw [hcm,toNat_natCast] at hk;exact hk
  have ca:atI (cs.map nD) (k:Int)=some (.int ((cs.getD k 0:Nat):Int)):=fL (j:=k) (by rw [getElem?_map,getElem?_eq_getElem hk,getD_eq_getElem?_getD,getElem?_eq_getElem hk];rfl) rfl;have cb:cs.getD k 0<=9:=by rw [getD_eq_getElem?_getD,getElem?_eq_getElem hk];exact hc _ (getElem_mem _)
  have er:pW [D.int (k:Int)] ((cs.getD k 0:Nat):Int)=(List.replicate (cs.getD k 0) k).map nD:=by rw [oM,map_replicate];rfl
  have gm:(-1000000:Int)<=((cs.getD k 0:Nat):Int)/\((cs.getD k 0:Nat):Int)<=1000000/\[D.int (k:Int)].length*(((cs.getD k 0:Nat):Int)).toNat<=1000000:=⟨by omega,by omega,by show 1*_<=_;omega⟩
  have hl:=o5 hc k;walk_at "r";refine⟨_,ca,?_⟩;walk_at "r";rw [er];walk_at "r";rw [o0,map_append];exact⟨by rw [length_map,length_map,length_replicate];omega,_,rfl⟩
 .rintro ρ ⟨v3,rfl⟩;rw [hcm,toNat_natCast];have hl:=o5 hc cs.length;have gs:SOk (c0,c1)/\(rwN cs cs.length).length<=1000:=⟨g,by omega⟩
  walk_at "r";intro js s hj hs;walk_at "r";exact q js s hj hs
theorem vf:∀p ds Q,p.isOwn=true->cR p ds Q->jj iE nP p ds Q:=fun p ds Q _ h=>by
 unfold cR at h
 split at h
 .exact sL _ _ _ _ h
 .exact h.elim
def eP:PTS:=(aG (gb (pOr (pY (pB (DU .list .tuple (pSl 0)))) (pB (pOp xa (pFz (pCB eE (ae (pSl 0) aj))) (pSl 1)))) (bw (pC (.bl false))) bz) (bw (pOp E8 (pFz (fh [none] (eZ (ba 0)) (au 0) (pOr (pY (pB (bC aQ (ae (pFz (ba 0)) aj)))) (pB (pOp fLt (pSl 0) (pFz (pC (.int 0)))))) (ba 0))) (pFz (iZ aj)))))
theorem mZ(d:D)(m:Int)(Q:PV->Prop)(h:bf ([d,.int m]) Q):eB eP jJ ([d,.int m]) Q:=by
 show eP _ [some (.dat (d)),some (.dat (.int m))];obtain⟨hd,hl,q⟩:=h;have hds:=hd.1
 cases d with
 | lst ds =>
  have hl:ds.length<=1000000:=hl;have hs:∀x∈ds,x.sort=true:=hd.2;walk_at "r"
  refine mF (fun c=>?_) (fun c=>?_)
  .rw [show prB (.lst ds) m=false by unfold prB cF;rw [decide_eq_false (show ¬ ((aB (.lst ds)).length:Int)=m from c),Bool.false_and,Bool.and_false,Bool.false_and]] at q;walk_at "r";exact q
  .have hpr:prB (.lst ds) m=ds.all fun x=>!(!dI x || decide (toI x<0)):=by
    unfold prB cF;rw [decide_eq_true (show ((aB (.lst ds)).length:Int)=m from c)];exact o7 ds
   rw [hpr] at q;walk_at "r"
   refine cfm (fun τ=>∃v:Option PV,τ=[v]) (fun k=>if (!dI (itD ds k) || decide (toI (itD ds k)<0))=true then some (itD ds k) else none) ⟨_,rfl⟩ ?_ ?_
   .rintro k τ d hk rfl ⟨v,rfl⟩ K1 K2 k1 k2;have hx:=hs _ (dM hk);generalize itD ds k=x at hx k1 k2 ⊢;walk_at "r"
    cases hn:dI x with
    | false =>
     rw [hn] at k1;walk_at "r";exact k1 _ _ rfl ⟨_,rfl⟩
    | true =>
     obtain⟨z,rfl⟩:∃z,x=.int z:=by cases x <;> first|exact⟨_,rfl⟩|cases hn
     walk_at "r"
     refine c5 (fun c2=>?_) (fun c2=>?_)
     .walk_at "r";exact k1 _ _ (if_pos (by show (false || decide (z<0))=true;rw [decide_eq_true c2];rfl)) ⟨_,rfl⟩
     .exact k2 _ (if_neg (by show ¬ (false || decide (z<0))=true;rw [decide_eq_false c2];decide)) ⟨_,rfl⟩
   .rintro τ ⟨v,rfl⟩;have key:=ud ds
    cases hL:(List.range ds.length).filterMap (fun k=>if (!dI (itD ds k) || decide (toI (itD ds k)<0))=true then some (itD ds k) else none) with
    | nil =>
     rw [hL] at key;rw [key] at q;have eq0:uJ (.lst []) (.lst []):=uJ.of (Sh.lstI []) (Sh.lstI []);walk_at "r";exact q
    | cons a r =>
     rw [hL] at key;rw [key] at q;walk_at "r";exact q
 | tup ds =>
  have hl:ds.length<=1000000:=hl;have hs:∀x∈ds,x.sort=true:=hd.2;walk_at "r"
  refine mF (fun c=>?_) (fun c=>?_)
  .rw [show prB (.tup ds) m=false by unfold prB cF;rw [decide_eq_false (show ¬ ((aB (.tup ds)).length:Int)=m from c),Bool.false_and,Bool.and_false,Bool.false_and]] at q;walk_at "r";exact q
  .have hpr:prB (.tup ds) m=ds.all fun x=>!(!dI x || decide (toI x<0)):=by
    unfold prB cF;rw [decide_eq_true (show ((aB (.tup ds)).length:Int)=m from c)];exact o7 ds
   rw [hpr] at q;walk_at "r"
   refine cfm (fun τ=>∃v:Option PV,τ=[v]) (fun k=>if (!dI (itD ds k) || decide (toI (itD ds k)<0))=true then some (itD ds k) else none) ⟨_,rfl⟩ ?_ ?_
   .rintro k τ d hk rfl ⟨v,rfl⟩ K1 K2 k1 k2;have hx:=hs _ (dM hk);generalize itD ds k=x at hx k1 k2 ⊢;walk_at "r"
    cases hn:dI x with
    | false =>
     rw [hn] at k1;walk_at "r";exact k1 _ _ rfl ⟨_,rfl⟩
    | true =>
     obtain⟨z,rfl⟩:∃z,x=.int z:=by cases x <;> first|exact⟨_,rfl⟩|cases hn
     walk_at "r"
     refine c5 (fun c2=>?_) (fun c2=>?_)
     .walk_at "r";exact k1 _ _ (if_pos (by show (false || decide (z<0))=true;rw [decide_eq_true c2];rfl)) ⟨_,rfl⟩
     .exact k2 _ (if_neg (by show ¬ (false || decide (z<0))=true;rw [decide_eq_false c2];decide)) ⟨_,rfl⟩
   .rintro τ ⟨v,rfl⟩;have key:=ud ds
    cases hL:(List.range ds.length).filterMap (fun k=>if (!dI (itD ds k) || decide (toI (itD ds k)<0))=true then some (itD ds k) else none) with
    | nil =>
     rw [hL] at key;rw [key] at q;have eq0:uJ (.lst []) (.lst []):=uJ.of (Sh.lstI []) (Sh.lstI []);walk_at "r";exact q
    | cons a r =>
     rw [hL] at key;rw [key] at q;walk_at "r";exact q
 | str l=>walk_at "r";exact q
 | non=>walk_at "r";exact q
 | bl b=>walk_at "r";exact q
 | int i=>walk_at "r";exact q
 | ty n=>cases hds
 | scr ns=>cases hds
 | dic ks ds=>walk_at "r";exact q
 | obj c ns ds=>cases hds
 | exc c ns ds=>cases hds
theorem pH:∀ds Q,bf ds Q->eB eP jJ ds Q:=fun ds Q h=>by
 unfold bf at h
 split at h
 .exact mZ _ _ _ h
 .exact h.elim
def iF:PTS:=(aG (gb (pOr (pY (pB (DU .list .tuple (pSl 2)))) (pB (pOp xa (pFz (pCB eE (ae (pSl 2) aj))) (pFz (pC (.int 2)))))) (bw (pC .non)) bz) (aG (gb (pOr (pY (pB (bC bf (ae (pFz (pOp fIx (pSl 2) (pFz (pC (.int 0))))) (ae (pFz (pCB eE (ae (pSl 0) aj))) aj))))) (pY (pB (bC bf (ae (pFz (pOp fIx (pSl 2) (pFz (pC (.int 1))))) (ae (pFz (pCB eE (ae (pSl 0) aj))) aj)))))) (bw (pC .non)) bz) (aG (bh (pC (.int 0)) (au 3)) (aG (gU (tN (ae (pFz (pCB eE (ae (pSl 0) aj))) aj)) (au 4) (aG (gU (tN (ae (pFz (pCB eE (ae (pSl 0) aj))) aj)) (au 5) (gb (pB (pOp fLt (pFz (pOp dO (pFz (pOp fIx (pFz (pOp fIx (pSl 2) (pFz (pC (.int 0))))) (pSl 4))) (pFz (pOp fIx (pFz (pOp fIx (pSl 2) (pFz (pC (.int 1))))) (pSl 5))))) (pFz (bC bv (ae (pFz (pOp fIx (pSl 0) (pSl 4))) (ae (pFz (pOp fIx (pSl 0) (pSl 5))) aj)))))) (bw (pC .non)) bz)) (aG (bh (pOp dO (pFz (pOp fIx (pFz (pOp fIx (pSl 2) (pFz (pC (.int 0))))) (pSl 4))) (pFz (pOp fIx (pFz (pOp fIx (pSl 2) (pFz (pC (.int 1))))) (pSl 4)))) (au 6)) (bh (pOp dO (pSl 3) (pFz (pOp qw (pFz (pOp fIx (pSl 1) (pSl 4))) (pFz (pOp zB (pFz (pCB eE (ae (pFz (pOp fIx (pSl 0) (pSl 4))) aj))) (pSl 6)))))) (au 3))))) (bw (ba 3))))))
theorem sM(ds fs:List D)(e:D)(Q:PV->Prop)(h:cS ([.tup ds,.tup fs,e]) Q):eB iF nQ ([.tup ds,.tup fs,e]) Q:=by
 show iF _ [some (.dat (.tup ds)),some (.dat (.tup fs)),some (.dat (e)),none,none,none,none];obtain⟨ws,rfl,cs,rfl,⟨oe,hn,hp,hcl,hc⟩,q⟩:=h;obtain⟨⟨hds,hrs⟩,hl,hl2⟩:=oe;unfold obD at q;have hsm:(ws.map D.str).length=ws.length:=length_map _
 have no:ppB e ws.length=false->Q (.dat .non):=fun z=>by
  rw [if_neg (by unfold kY;rw [z,Bool.false_and];decide)] at q;exact q
 have gS:∀i,i<ws.length->(pw ws i).length<=10000/\(0<(pw ws i).length/\(pw ws i).length<=10000):=fun i hi=>by
  have:=hp _ (hX hi);have h2:=this.2.1;exact⟨by omega,this.1,by omega⟩
 have cA:∀i,i<ws.length->atI (cs.map nD) (i:Int)=some (.int ((cs.getD i 0:Nat):Int)):=fun i hi=>by
  refine fL (j:=i) ?_ rfl;rw [getElem?_map,getElem?_eq_getElem (show i<cs.length by omega),getD_eq_getElem?_getD,getElem?_eq_getElem (show i<cs.length by omega)];rfl
 have cB:∀i,i<ws.length->cs.getD i 0<=9:=fun i hi=>by
  rw [getD_eq_getElem?_getD,getElem?_eq_getElem (show i<cs.length by omega)];exact hc _ (getElem_mem _)
 cases e with
 | lst es =>
  have hl:es.length<=1000:=hl;walk_at "r"
  refine mF (fun c=>?_) (fun c=>?_)
  .walk_at "r";refine no ?_;unfold ppB;rw [decide_eq_false (show ¬ (aB (.lst es)).length=2 from fun z=>c (by show (es.length:Int)=2;have z:es.length=2:=z;omega)),Bool.false_and,Bool.and_false]
  obtain⟨g,t,rfl⟩:∃g t,es=[g,t]:=by
   have c:es.length=2:=by have c:(es.length:Int)=2:=c;omega
   match es,c with
   | [g,t],_=>exact⟨g,t,rfl⟩
  have sg1:Srt g:=hrs g (by simp [aB]);have sg2:(aB g).length<=1000000:=le_trans (hl2 g (by simp [aB])) (by decide);have st1:Srt t:=hrs t (by simp [aB]);have st2:(aB t).length<=1000000:=le_trans (hl2 t (by simp [aB])) (by decide)
  have pe:ppB (.lst [g,t]) ws.length=(prB g ws.length && prB t ws.length):=by
   show (true && (true && (prB g _ && (prB t _ && true))))=_;simp
  walk_at "r";rw [hsm];refine iY (xV (fun c1=>?_) (fun c1=>?_))
  rotate_left
  .walk_at "r";exact no (by rw [pe,show prB g ws.length=false from c1];rfl)
  walk_at "r";rw [hsm];refine iY (xV (fun c2=>?_) (fun c2=>?_))
  rotate_left
  .walk_at "r";exact no (by rw [pe,show prB t ws.length=false from c2,Bool.and_false])
  have hpp:ppB (.lst [g,t]) ws.length=true:=by rw [pe,show prB g ws.length=true from c1,show prB t ws.length=true from c2];rfl
  obtain⟨gs,hg,gl⟩:=kg (show cF g ws.length=true by have c1:prB g ws.length=true:=c1;unfold prB at c1;rw [and_eq_true] at c1;exact c1.1);obtain⟨ts,ht,tl⟩:=kg (show cF t ws.length=true by have c2:prB t ws.length=true:=c2;unfold prB at c2;rw [and_eq_true] at c2;exact c2.1);have q:Q (.dat (if kY (.lst [g,t]) ws (oY ws.length)=true then .int (ofT ws cs - (ctS g t cs ws.length).sum) else .non)):=q;have pf:∀{a b:Nat},a<ws.length->b<ws.length->¬ (eG (pw ws a) (pw ws b):Int)<=nmb g a+nmb t b->kY (.lst [g,t]) ws (oY ws.length)=false:=fun h1 h2 h3=>nR h1 h2 h3
  have pt:(∀a b,a<ws.length->b<ws.length->(eG (pw ws a) (pw ws b):Int)<=nmb g a+nmb t b)->kY (.lst [g,t]) ws (oY ws.length)=true:=fun h=>qT hpp h;walk_at "r"
  refine⟨fun a ρ=>(∃v4 v5 v6:Option PV,ρ=[some (.dat (.tup (ws.map .str))),some (.dat (.tup (cs.map nD))),some (.dat (.lst [g,t])),some (.dat (.int (obS ws cs g t a))),v4,v5,v6])/\∀a' b,a'<a->b<ws.length->(eG (pw ws a') (pw ws b):Int)<=nmb g a'+nmb t b,⟨⟨_,_,_,rfl⟩,fun a' b h=>absurd h (not_lt_zero _)⟩,?_,?_⟩
  .rintro a ρ _ ha rfl ⟨⟨v4,v5,v6,rfl⟩,ih⟩;have ha:a<ws.length:=by rw [hsm,toNat_natCast] at ha;exact ha
   walk_at "r"
   refine⟨fun b ρ=>(∃v5:Option PV,ρ=[some (.dat (.tup (ws.map .str))),some (.dat (.tup (cs.map nD))),some (.dat (.lst [g,t])),some (.dat (.int (obS ws cs g t a))),some (.dat (.int (a:Int))),v5,v6])/\∀b',b'<b->(eG (pw ws a) (pw ws b'):Int)<=nmb g a+nmb t b',⟨⟨_,rfl⟩,fun b' h=>absurd h (not_lt_zero _)⟩,?_,?_⟩
   .rintro b ρ _ hb rfl ⟨⟨v5,rfl⟩,jh⟩;have hb:b<ws.length:=by rw [hsm,toNat_natCast] at hb;exact hb
    have g1:=(gS a ha).1;have g2:=(gS b hb).2;walk_at "r";refine kW hg ⟨_,(kh hg (by omega)).2,?_⟩;walk_at "r";refine kW ht ⟨_,(kh ht (by omega)).2,?_⟩;walk_at "r";refine⟨_,dD ha rfl,?_⟩;walk_at "r";refine⟨_,dD hb rfl,?_⟩;walk_at "r"
    refine c5 (fun c4=>?_) (fun c4=>?_)
    .walk_at "r";rw [if_neg (by rw [pf ha hb (by omega)];decide)] at q;exact q
    .refine⟨⟨_,rfl⟩,fun b' h1=>?_⟩
     by_cases e:b'=b
     .rw [e];omega
     .exact jh b' (by omega)
   .rintro ρ ⟨⟨v5,rfl⟩,jh⟩;rw [hsm,toNat_natCast] at jh;have cb:=cB a ha;have hm:vB ((cs.getD a 0:Nat):Int) (((pw ws a).length:Int) - (nmb g a+nmb t a)):=.inl ⟨by omega,by omega⟩;have g1:=(gS a ha).1;have os:=ue ws cs g t a;walk_at "r";refine kW hg ⟨_,(kh hg (by omega)).2,?_⟩;walk_at "r";refine kW ht ⟨_,(kh ht (by omega)).2,?_⟩;walk_at "r";refine⟨_,cA a ha,?_⟩;walk_at "r";refine⟨_,dD ha rfl,?_⟩;walk_at "r"
    rw [os];refine⟨⟨_,_,_,rfl⟩,fun a' b h1 h2=>?_⟩
    by_cases e:a'=a
    .rw [e];exact jh b h2
    .exact ih a' b (by omega) h2
  rintro ρ ⟨⟨v4,v5,v6,rfl⟩,ih⟩;rw [hsm,toNat_natCast] at ih ⊢;rw [if_pos (pt fun a b h1 h2=>ih a b h1 h2),zQ hcl] at q;walk_at "r";exact q
 | tup es =>
  have hl:es.length<=1000:=hl;walk_at "r"
  refine mF (fun c=>?_) (fun c=>?_)
  .walk_at "r";refine no ?_;unfold ppB;rw [decide_eq_false (show ¬ (aB (.tup es)).length=2 from fun z=>c (by show (es.length:Int)=2;have z:es.length=2:=z;omega)),Bool.false_and,Bool.and_false]
  obtain⟨g,t,rfl⟩:∃g t,es=[g,t]:=by
   have c:es.length=2:=by have c:(es.length:Int)=2:=c;omega
   match es,c with
   | [g,t],_=>exact⟨g,t,rfl⟩
  have sg1:Srt g:=hrs g (by simp [aB]);have sg2:(aB g).length<=1000000:=le_trans (hl2 g (by simp [aB])) (by decide);have st1:Srt t:=hrs t (by simp [aB]);have st2:(aB t).length<=1000000:=le_trans (hl2 t (by simp [aB])) (by decide)
  have pe:ppB (.tup [g,t]) ws.length=(prB g ws.length && prB t ws.length):=by
   show (true && (true && (prB g _ && (prB t _ && true))))=_;simp
  walk_at "r";rw [hsm];refine iY (xV (fun c1=>?_) (fun c1=>?_))
  rotate_left
  .walk_at "r";exact no (by rw [pe,show prB g ws.length=false from c1];rfl)
  walk_at "r";rw [hsm];refine iY (xV (fun c2=>?_) (fun c2=>?_))
  rotate_left
  .walk_at "r";exact no (by rw [pe,show prB t ws.length=false from c2,Bool.and_false])
  have hpp:ppB (.tup [g,t]) ws.length=true:=by rw [pe,show prB g ws.length=true from c1,show prB t ws.length=true from c2];rfl
  obtain⟨gs,hg,gl⟩:=kg (show cF g ws.length=true by have c1:prB g ws.length=true:=c1;unfold prB at c1;rw [and_eq_true] at c1;exact c1.1);obtain⟨ts,ht,tl⟩:=kg (show cF t ws.length=true by have c2:prB t ws.length=true:=c2;unfold prB at c2;rw [and_eq_true] at c2;exact c2.1);have q:Q (.dat (if kY (.tup [g,t]) ws (oY ws.length)=true then .int (ofT ws cs - (ctS g t cs ws.length).sum) else .non)):=q;have pf:∀{a b:Nat},a<ws.length->b<ws.length->¬ (eG (pw ws a) (pw ws b):Int)<=nmb g a+nmb t b->kY (.tup [g,t]) ws (oY ws.length)=false:=fun h1 h2 h3=>nR h1 h2 h3
  have pt:(∀a b,a<ws.length->b<ws.length->(eG (pw ws a) (pw ws b):Int)<=nmb g a+nmb t b)->kY (.tup [g,t]) ws (oY ws.length)=true:=fun h=>qT hpp h;walk_at "r"
  refine⟨fun a ρ=>(∃v4 v5 v6:Option PV,ρ=[some (.dat (.tup (ws.map .str))),some (.dat (.tup (cs.map nD))),some (.dat (.tup [g,t])),some (.dat (.int (obS ws cs g t a))),v4,v5,v6])/\∀a' b,a'<a->b<ws.length->(eG (pw ws a') (pw ws b):Int)<=nmb g a'+nmb t b,⟨⟨_,_,_,rfl⟩,fun a' b h=>absurd h (not_lt_zero _)⟩,?_,?_⟩
  .rintro a ρ _ ha rfl ⟨⟨v4,v5,v6,rfl⟩,ih⟩;have ha:a<ws.length:=by rw [hsm,toNat_natCast] at ha;exact ha
   walk_at "r"
   refine⟨fun b ρ=>(∃v5:Option PV,ρ=[some (.dat (.tup (ws.map .str))),some (.dat (.tup (cs.map nD))),some (.dat (.tup [g,t])),some (.dat (.int (obS ws cs g t a))),some (.dat (.int (a:Int))),v5,v6])/\∀b',b'<b->(eG (pw ws a) (pw ws b'):Int)<=nmb g a+nmb t b',⟨⟨_,rfl⟩,fun b' h=>absurd h (not_lt_zero _)⟩,?_,?_⟩
   .rintro b ρ _ hb rfl ⟨⟨v5,rfl⟩,jh⟩;have hb:b<ws.length:=by rw [hsm,toNat_natCast] at hb;exact hb
    have g1:=(gS a ha).1;have g2:=(gS b hb).2;walk_at "r";refine kW hg ⟨_,(kh hg (by omega)).2,?_⟩;walk_at "r";refine kW ht ⟨_,(kh ht (by omega)).2,?_⟩;walk_at "r";refine⟨_,dD ha rfl,?_⟩;walk_at "r";refine⟨_,dD hb rfl,?_⟩;walk_at "r"
    refine c5 (fun c4=>?_) (fun c4=>?_)
    .walk_at "r";rw [if_neg (by rw [pf ha hb (by omega)];decide)] at q;exact q
    .refine⟨⟨_,rfl⟩,fun b' h1=>?_⟩
     by_cases e:b'=b
     .rw [e];omega
     .exact jh b' (by omega)
   .rintro ρ ⟨⟨v5,rfl⟩,jh⟩;rw [hsm,toNat_natCast] at jh;have cb:=cB a ha;have hm:vB ((cs.getD a 0:Nat):Int) (((pw ws a).length:Int) - (nmb g a+nmb t a)):=.inl ⟨by omega,by omega⟩;have g1:=(gS a ha).1;have os:=ue ws cs g t a;walk_at "r";refine kW hg ⟨_,(kh hg (by omega)).2,?_⟩;walk_at "r";refine kW ht ⟨_,(kh ht (by omega)).2,?_⟩;walk_at "r";refine⟨_,cA a ha,?_⟩;walk_at "r";refine⟨_,dD ha rfl,?_⟩;walk_at "r"
    rw [os];refine⟨⟨_,_,_,rfl⟩,fun a' b h1 h2=>?_⟩
    by_cases e:a'=a
    .rw [e];exact jh b h2
    .exact ih a' b (by omega) h2
  rintro ρ ⟨⟨v4,v5,v6,rfl⟩,ih⟩;rw [hsm,toNat_natCast] at ih ⊢;rw [if_pos (pt fun a b h1 h2=>ih a b h1 h2),zQ hcl] at q;walk_at "r";exact q
 | str l=>walk_at "r";exact no rfl
 | non=>walk_at "r";exact no rfl
 | bl b=>walk_at "r";exact no rfl
 | int i=>walk_at "r";exact no rfl
 | ty n=>cases hds
 | scr ns=>cases hds
 | dic ks ds=>walk_at "r";exact no rfl
 | obj c ns ds=>cases hds
 | exc c ns ds=>cases hds
theorem vg:∀ds Q,cS ds Q->eB iF nQ ds Q:=fun ds Q h=>by
 unfold cS at h
 split at h
 .exact sM _ _ _ _ h
 .exact h.elim
def eQ:PTS:=(aG (bh (pOp qw (pFz (iZ (ae (pFz (pC (.int 0))) aj))) (pFz (pCB eE (ae (pSl 1) aj)))) (au 2)) (aG (bh (pOp qw (pFz (iZ (ae (pFz (pC (.int 0))) aj))) (pFz (pCB eE (ae (pSl 1) aj)))) (au 3)) (aG (bh (aW al 0 (ae (pFz (pC (.int 3))) aj)) (au 4)) (aG (gU (tN (ae (pFz (pCB eE (ae (pSl 1) aj))) aj)) (au 5) (gU (tN (ae (pFz (pCB eE (ae (pSl 1) aj))) aj)) (au 6) (aG (bh (bC bv (ae (pFz (pOp fIx (pSl 1) (pSl 5))) (ae (pFz (pOp fIx (pSl 1) (pSl 6))) aj))) (au 7)) (gb (pB (pOp mI (pSl 4) (pFz (pC (.int 0))))) (ku 2 (pCB rW (ae (pFz (pOp fIx (pSl 2) (pSl 5))) (ae (pSl 7) aj))) (ba 5)) (gb (pB (pOp mI (pSl 4) (pFz (pC (.int 1))))) (ku 3 (pCB rW (ae (pFz (pOp fIx (pSl 3) (pSl 6))) (ae (pSl 7) aj))) (ba 6)) (aG (ku 2 (pCB rW (ae (pFz (pOp fIx (pSl 2) (pSl 5))) (ae (pFz (pOp zB (pSl 7) (pFz (pC (.int 1))))) aj))) (ba 5)) (ku 3 (pCB rW (ae (pFz (pOp fIx (pSl 3) (pSl 6))) (ae (pFz (pCB uL (ae (pSl 7) (ae (pFz (pC (.int 1))) aj)))) aj))) (ba 6)))))))) (aG (gN (gb (pB (pOp mI (pFz (aW al 0 (ae (pFz (pC (.int 3))) aj))) (pFz (pC (.int 0))))) (aG (bh (pCB Bn (ae (pFz (pOp dO (pFz (pC (.str [49]))) (pFz (pOp qw (pFz (pC (.str [48]))) (pFz (aW al 0 (ae (pFz (pC (.int 20))) aj))))))) aj)) (au 8)) (nI (fun i j=>i+j) 2 (aW al 0 (ae (pFz (pCB eE (ae (pSl 2) aj))) aj)) (pOp dO (pFz (pC (.int 1))) (pFz (pOp qw (pFz (aW al 0 (ae (pFz (pC (.int 3))) aj))) (pSl 8)))))) bz)) bz)))))
theorem m5(c0 c1:Int)(ds:List D)(Q:PV->PV->Prop)(h:a9 (.own [.int c0,.int c1]) ([.lst ds]) Q):Bm 2 3 eQ jK (.own [.int c0,.int c1]) ([.lst ds]) Q:=by
 show eQ _ [some (.own [.int c0,.int c1]),some (.dat (.lst ds)),none,none,none,none,none,none,none];obtain⟨ws,rfl,⟨g,h0,hn,hp⟩,q⟩:=h;have hsm:(ws.map D.str).length=ws.length:=length_map _;have gm:(-1000000:Int)<=((ws.map D.str).length:Int)/\((ws.map D.str).length:Int)<=1000000/\[D.int 0].length*(((ws.map D.str).length:Int)).toNat<=1000000:=⟨by omega,by omega,by show 1*_<=_;omega⟩
 have er:pW [D.int 0] ((ws.map D.str).length:Int)=(List.replicate ws.length (0:Int)).map D.int:=by rw [hsm,oM,map_replicate]
 walk_at "r";rw [er];walk_at "r";rintro w s1 hs1 hw0 hw1
 have ga:∀i,i<ws.length->(pw ws i).length<=10000/\(0<(pw ws i).length/\(pw ws i).length<=10000):=fun i hi=>by
  have:=hp _ (hX hi);have h2:=this.2.1;exact⟨by omega,this.1,by omega⟩
 walk_at "r"
 refine⟨fun k ρ=>∃(gs ts:List Int) (v5 v6 v7 v8:Option PV),gs.length=ws.length/\ts.length=ws.length/\ρ=[some (stv s1),some (.dat (.lst (ws.map .str))),some (.own (gs.map .int)),some (.own (ts.map .int)),some (.dat (.int w)),v5,v6,v7,v8],⟨_,_,_,_,_,_,by rw [length_replicate],by rw [length_replicate],rfl⟩,?_,?_⟩
 .rintro a ρ _ ha rfl ⟨gs,ts,v5,v6,v7,v8,lg,lt,rfl⟩;have ha:a<ws.length:=by rw [hsm,toNat_natCast] at ha;exact ha
  walk_at "r"
  refine⟨fun k ρ=>∃(gs ts:List Int) (v6 v7 v8:Option PV),gs.length=ws.length/\ts.length=ws.length/\ρ=[some (stv s1),some (.dat (.lst (ws.map .str))),some (.own (gs.map .int)),some (.own (ts.map .int)),some (.dat (.int w)),some (.dat (.int (a:Int))),v6,v7,v8],⟨_,_,_,_,_,lg,lt,rfl⟩,?_,?_⟩
  .rintro b ρ _ hb rfl ⟨gs,ts,v6,v7,v8,lg,lt,rfl⟩;have hb:b<ws.length:=by rw [hsm,toNat_natCast] at hb;exact hb
   have g1:=(ga a ha).1;have g2:=(ga b hb).2;have atg:atI (gs.map D.int) (a:Int)=some (.int (gs.getD a 0)):=fL (j:=a) (by rw [getElem?_map,getElem?_eq_getElem (show a<gs.length by omega),getD_eq_getElem?_getD,getElem?_eq_getElem (show a<gs.length by omega)];rfl) rfl;have att:atI (ts.map D.int) (b:Int)=some (.int (ts.getD b 0)):=fL (j:=b) (by rw [getElem?_map,getElem?_eq_getElem (show b<ts.length by omega),getD_eq_getElem?_getD,getElem?_eq_getElem (show b<ts.length by omega)];rfl) rfl
   walk_at "r";refine⟨_,dD ha rfl,?_⟩;walk_at "r";refine⟨_,dD hb rfl,?_⟩;walk_at "r"
   refine c5 (fun c=>?_) (fun c=>?_)
   .walk_at "r";refine⟨_,atg,?_⟩;walk_at "r";refine⟨a,by rw [length_map];exact yZ (by omega),?_⟩;rw [jg];exact⟨_,_,_,_,_,by rw [length_set];exact lg,lt,rfl⟩
   .walk_at "r"
    refine c5 (fun c2=>?_) (fun c2=>?_)
    .walk_at "r";refine⟨_,att,?_⟩;walk_at "r";refine⟨b,by rw [length_map];exact yZ (by omega),?_⟩;rw [jg];exact⟨_,_,_,_,_,lg,by rw [length_set];exact lt,rfl⟩
    .walk_at "r";refine⟨_,atg,?_⟩;walk_at "r";refine⟨a,by rw [length_map];exact yZ (by omega),?_⟩;rw [jg];walk_at "r";refine⟨_,att,?_⟩;walk_at "r";refine⟨b,by rw [length_map];exact yZ (by omega),?_⟩;rw [jg];exact⟨_,_,_,_,_,by rw [length_set];exact lg,by rw [length_set];exact lt,rfl⟩
  .rintro ρ ⟨gs,ts,v6,v7,v8,lg,lt,rfl⟩;exact⟨_,_,_,_,_,_,lg,lt,rfl⟩
 .rintro ρ ⟨gs,ts,v5,v6,v7,v8,lg,lt,rfl⟩;walk_at "r"
  refine⟨fun ρ=>∃(gs:List Int) (s:Int×Int) (v8:Option PV),SOk s/\gs.length=ws.length/\ρ=[some (stv s),some (.dat (.lst (ws.map .str))),some (.own (gs.map .int)),some (.own (ts.map .int)),some (.dat (.int w)),v5,v6,v7,v8],?_,?_⟩
  .walk_at "r";rintro x ⟨u2,v2⟩ hs2 hx0 hx1;walk_at "r"
   refine c5 (fun c=>?_) (fun c=>?_)
   .walk_at "r";rintro y ⟨u3,v3⟩ hs3 hy0 hy1;obtain⟨n,rfl⟩:∃n:Nat,y=(n:Int):=⟨y.toNat,by omega⟩
    have hn20:n<20:=by omega
    have er2:pW [48] (n:Int)=List.replicate n 48:=by rw [oM]
    walk_at "r";rw [er2];have ht:=ze hn20;have hl2:([49]++List.replicate n 48).length<=640:=by rw [length_append,length_replicate];show 1+n<=_;omega
    have hl3:[49].length+(List.replicate n 48).length<=1000000:=by rw [length_replicate];show 1+n<=_;omega
    have hgm:(gs.map D.int).length=gs.length:=length_map _;walk_at "r";refine⟨_,ht,hl2,?_⟩;walk_at "r";rintro z ⟨u4,v4⟩ hs4 hz0 hz1;obtain⟨i,rfl⟩:∃i:Nat,z=(i:Int):=⟨z.toNat,by omega⟩
    have hi:i<gs.length:=by omega
    refine⟨i,gs[i],by rw [hgm];exact yZ hi,by rw [getElem?_map,getElem?_eq_getElem hi];rfl,?_⟩;walk_at "r";rintro y5 ⟨u5,v5⟩ hs5 hy50 hy51;walk_at "r";rw [jg];exact⟨_,(u5,v5),_,hs5,by rw [length_set];exact lg,rfl⟩
   .exact⟨gs,(u2,v2),_,hs2,lg,rfl⟩
  rintro ρ ⟨gs,s,v8,hs,lg,rfl⟩;exact⟨rfl,q gs ts s hs lg lt⟩
theorem pI:∀p ds Q,p.isOwn=true->a9 p ds Q->Bm 2 3 eQ jK p ds Q:=fun p ds Q _ h=>by
 unfold a9 at h
 split at h
 .exact m5 _ _ _ _ h
 .exact h.elim
def ft:PTS:=(aG (y8 a9 0 (ae (pFz (ba 1)) aj) 2 3) (aG (bh (aW al 0 (ae (pFz (pC (.int 6))) aj)) (au 4)) (aG (gN (DC 5 6 2 3 (pB (pOp mI (pSl 4) (pFz (pC (.int 0))))) (aW al 0 (ae (pFz (pC (.int 2))) aj)) (fun i j=>i - j) (aW al 0 (ae (pFz (pCB eE (ae (pSl 6) aj))) aj)) (pC (.int 1)))) (aG (gN (gb (pB (pOp mI (pSl 4) (pFz (pC (.int 1))))) (bh (fh [none,some 0,some 2] (eZ (wE (ae (pFz (pC (.int 0))) (ae (pFz (pC (.int 1))) aj)))) (au 0) jZ (fh [none,some 1] (eZ (ba 2)) (au 0) jZ (aW al 1 (ae (pFz (pC (.int 6))) aj)))) (au 5)) bz)) (aG (gN (gb (pB (pOp mI (pSl 4) (pFz (pC (.int 2))))) (aG (bh (iZ (ae (pFz (dJ (pSl 5) dZ (dC (pC (.int 1))))) (ae (pFz (pOp dO (pSl 5) (pFz (iZ (ae (pFz (ba 3)) aj))))) aj))) (au 7)) (aG (bh (pOp dO (pSl 7) (pFz (iZ (ae (pFz (iZ (ae (pFz (dJ (pSl 2) (dC (pC (.int 1))) dZ)) (ae (pFz (ba 3)) aj)))) (ae (pFz (iZ (ae (pFz (ba 2)) (ae (pFz (pOp dO (pSl 3) (pFz (iZ (ae (pFz (pC (.int 0))) aj))))) aj)))) aj))))) (au 7)) (bh (pOp fIx (pSl 7) (pFz (aW al 0 (ae (pFz (pC (.int 4))) aj)))) (au 5)))) bz)) (aG (gb (pB (pOp mI (pFz (aW al 0 (ae (pFz (pC (.int 2))) aj))) (pFz (pC (.int 1))))) (bw (Dt (fh [none] (eZ (ba 5)) (au 0) jZ (pCB hC (ae (pSl 0) aj))))) bz) (bw (Dt (pCB hC (ae (pSl 5) aj))))))))))
theorem pJ(c0 c1:Int)(ds:List D)(Q:PV->PV->Prop)(h:ck (.own [.int c0,.int c1]) ([.lst ds]) Q):jj ft kE (.own [.int c0,.int c1]) ([.lst ds]) Q:=by
 show ft _ [some (.own [.int c0,.int c1]),some (.dat (.lst ds)),none,none,none,none,none,none];obtain⟨ws,rfl,⟨g,h0,hn,hp⟩,q⟩:=h;have g0:SOk (c0,c1)/\0<ws.length/\ws.length<=20/\Pcs 60 ws:=⟨g,h0,hn,hp⟩
 walk_at "r";rintro gs ts ⟨u1,v1⟩ hs1 lg lt;walk_at "r";rintro w ⟨u2,v2⟩ hs2 hw0 hw1;walk_at "r"
 refine⟨fun ρ=>∃(gs ts:List Int) (s:Int×Int),SOk s/\gs.length=ws.length/\ts.length=ws.length/\ρ=[some (stv s),some (.dat (.lst (ws.map .str))),some (.dat (.lst (gs.map .int))),some (.dat (.lst (ts.map .int))),some (.dat (.int w)),some (.own [.lst (gs.map .int),.lst (ts.map .int)]),none,none],?_,?_⟩
 .refine⟨⟨_,rfl⟩,⟨_,rfl⟩,⟨by show 5<8;decide,by show 6<8;decide⟩,?_⟩;walk_at "r"
  refine c5 (fun c=>?_) (fun c=>?_)
  .walk_at "r";rintro x ⟨u3,v3⟩ hs3 hx0 hx1;have hgm:(gs.map D.int).length=gs.length:=length_map _;have htm:(ts.map D.int).length=ts.length:=length_map _;refine⟨by show 6<8;decide,?_⟩
   rcases (show x=0\/x=1 by omega) with rfl|rfl
   .refine⟨0,rfl,fun _=>?_,fun z=>nomatch z⟩;walk_at "r";rintro z ⟨u4,v4⟩ hs4 hz0 hz1;obtain⟨i,rfl⟩:∃i:Nat,z=(i:Int):=⟨z.toNat,by omega⟩
    have hi:i<gs.length:=by omega
    refine⟨i,gs[i],by rw [hgm];exact yZ hi,by rw [getElem?_map,getElem?_eq_getElem hi];rfl,?_⟩;walk_at "r";rw [jg];exact⟨_,ts,(u4,v4),hs4,by rw [length_set];exact lg,lt,rfl⟩
   .refine⟨1,rfl,fun z=>(nomatch z),fun _=>?_⟩;walk_at "r";rintro z ⟨u4,v4⟩ hs4 hz0 hz1;obtain⟨i,rfl⟩:∃i:Nat,z=(i:Int):=⟨z.toNat,by omega⟩
    have hi:i<ts.length:=by omega
    refine⟨i,ts[i],by rw [htm];exact yZ hi,by rw [getElem?_map,getElem?_eq_getElem hi];rfl,?_⟩;walk_at "r";rw [jg];exact⟨gs,_,(u4,v4),hs4,lg,by rw [length_set];exact lt,rfl⟩
  .exact⟨gs,ts,(u2,v2),hs2,lg,lt,rfl⟩
 rintro ρ ⟨gs,ts,⟨u3,v3⟩,hs3,lg,lt,rfl⟩;have hgm:(gs.map D.int).length=gs.length:=length_map _;have htm:(ts.map D.int).length=ts.length:=length_map _;have okg:RwN (.lst (gs.map .int)):=⟨gs,.inl rfl,by omega⟩
 have okt:RwN (.lst (ts.map .int)):=⟨ts,.inl rfl,by omega⟩
 walk_at "r"
 refine⟨fun ρ=>∃(rs:List D) (s:Int×Int),SOk s/\rs.length<=2/\(∀r∈rs,RwN r)/\ρ=[some (stv s),some (.dat (.lst (ws.map .str))),some (.dat (.lst (gs.map .int))),some (.dat (.lst (ts.map .int))),some (.dat (.int w)),some (.own rs),none,none],?_,?_⟩
 .walk_at "r"
  refine c5 (fun c=>?_) (fun c=>?_)
  .walk_at "r"
   refine⟨fun k ys τ=>∃(v:Option PV) (s:Int×Int) (zss:List (List Int)),τ=[v,some (stv s),some (.dat (.lst (gs.map .int)))]/\SOk s/\ys=zss.map (fun zs=>.lst (zs.map .int))/\zss.length=k/\∀zs∈zss,zs.length=gs.length,⟨none,(u3,v3),[],rfl,hs3,rfl,rfl,fun _ h=>nomatch h⟩,?_,?_⟩
   .rintro k ys τ d hk ed ⟨v,⟨u4,v4⟩,zss,rfl,hs4,rfl,hl,hz⟩;walk_at "r"
    refine⟨fun j ys τ=>∃(v:Option PV) (s:Int×Int) (zs:List Int),τ=[v,some (stv s)]/\SOk s/\ys=zs.map .int/\zs.length=j,⟨none,(u4,v4),[],rfl,hs4,rfl,rfl⟩,?_,?_⟩
    .rintro j ys τ d hj ed ⟨v,⟨u5,v5⟩,zs,rfl,hs5,rfl,hl5⟩;walk_at "r";rintro z s6 hs6 hz0 hz1;exact⟨_,s6,zs++[z],rfl,hs6,by rw [map_append];rfl,by rw [length_append,hl5];rfl⟩
    .rintro ys τ ⟨v,s5,zs,rfl,hs5,rfl,hl5⟩;walk_at "r";refine⟨_,s5,zss++[zs],rfl,hs5,by rw [map_append];rfl,by rw [length_append,hl];rfl,fun y hy=>?_⟩
     rcases mem_append.mp hy with h|h
     .exact hz y h
     .rw [mem_singleton.mp h,hl5,hgm]
   .rintro ys τ ⟨v,s4,zss,rfl,hs4,rfl,hl,hz⟩;walk_at "r";refine⟨_,s4,hs4,by rw [length_map,hl];exact Nat.le_refl _,fun r hr=>?_,rfl⟩;obtain⟨zs,hzs,rfl⟩:=mem_map.mp hr;exact⟨zs,.inl rfl,by rw [hz zs hzs];omega⟩
  .exact⟨_,(u3,v3),hs3,by show 2<=2;decide,fun r hr=>by
    rcases mem_cons.mp hr with rfl|hr
    .exact okg
    .rw [mem_singleton.mp hr];exact okt,rfl⟩
 rintro ρ ⟨rs,⟨u4,v4⟩,hs4,hr2,hrs,rfl⟩;walk_at "r"
 refine⟨fun ρ=>∃(rs:List D) (s:Int×Int) (p:PV) (v7:Option PV),SOk s/\rs.length<=3/\(∀r∈rs,RwN r)/\(p=.own rs\/p=.dat (.lst rs))/\ρ=[some (stv s),some (.dat (.lst (ws.map .str))),some (.dat (.lst (gs.map .int))),some (.dat (.lst (ts.map .int))),some (.dat (.int w)),some p,none,v7],?_,?_⟩
 .walk_at "r"
  refine c5 (fun c=>?_) (fun c=>?_)
  .walk_at "r";rintro y ⟨u5,v5⟩ hs5 hy0 hy1;have e1:eR rs none (some 1)=rs.take 1:=gY rs 1;have e2:eR (gs.map D.int) (some 1) none=(gs.drop 1).map D.int:=by rw [map_drop];exact lD _ 1
   have e3:gs.map D.int=gs.map D.int:=rfl;rw [e1,e2]
   have two:∀a b:D,RwN a->RwN b->∀r∈[a,b],RwN r:=fun a b ha hb r hr=>by
    rcases mem_cons.mp hr with rfl|hr
    .exact ha
    .rw [mem_singleton.mp hr];exact hb
   rcases (show y=0\/y=1\/y=2\/y=3 by omega) with rfl|rfl|rfl|rfl <;> walk_at "r"
   .exact⟨rs.take 1,(u5,v5),_,_,hs5,by rw [length_take];omega,fun r hr=>hrs r (mem_of_mem_take hr),.inr rfl,rfl⟩
   .exact⟨rs++[.lst (ts.map .int)],(u5,v5),_,_,hs5,by rw [length_append];show _+1<=_;omega,fun r hr=>(mem_append.mp hr).elim (hrs r) fun h=>by rw [mem_singleton.mp h];exact okt,.inr rfl,rfl⟩
   .exact⟨[.lst ((gs.drop 1).map .int),.lst (ts.map .int)],(u5,v5),_,_,hs5,by show 2<=3;decide,two _ _ ⟨gs.drop 1,.inl rfl,by rw [length_drop];omega⟩ okt,.inr rfl,rfl⟩
   .exact⟨[.lst (gs.map .int),.lst (ts.map .int++[.int 0])],(u5,v5),_,_,hs5,by show 2<=3;decide,two _ _ okg ⟨ts++[0],.inl (by rw [map_append];rfl),by rw [length_append];show _+1<=_;omega⟩,.inr rfl,rfl⟩
  .exact⟨rs,(u4,v4),.own rs,_,hs4,by omega,hrs,.inl rfl,rfl⟩
 rintro ρ ⟨rs,⟨u5,v5⟩,p,v7,hs5,hr3,hrs,hp',rfl⟩;walk_at "r";rintro y ⟨u6,v6⟩ hs6 hy0 hy1;have tup:∀r∈rs,∃ds,iG r ds:=fun r hr=>let ⟨zs,h,_⟩:=hrs r hr;⟨_,h⟩
 walk_at "r"
 refine c5 (fun c=>?_) (fun c=>?_)
 .rcases hp' with rfl|rfl <;> (
   walk_at "r"
   refine tX (fun τ=>∃v,τ=[v]) (fun k=>.tup (aB (itD rs k))) ⟨_,rfl⟩ ?_ ?_
   .rintro k τ d hk rfl ⟨v,rfl⟩ K1 k1;have hm:=dM hk;obtain⟨ds,hd⟩:=tup _ hm;have ei:=hd.items;generalize itD rs k=r at hd ei k1 ⊢;rcases hd with rfl|rfl <;> (walk_at "r";exact k1 _ ⟨_,rfl⟩)
   .rintro τ ⟨v,rfl⟩;walk_at "r";refine q _ ((List.range rs.length).map fun k=>.tup (aB (itD rs k))) (u6,v6) hs6 (.inl rfl) (by rw [length_map,length_range];exact hr3) fun r hr=>?_;obtain⟨k,hk,rfl⟩:=mem_map.mp hr;obtain⟨zs,h1,h2⟩:=hrs _ (dM (mem_range.mp hk));exact⟨zs,by rw [h1.items];exact .inr rfl,h2⟩)
 .rcases hp' with rfl|rfl <;> (
   walk_at "r";exact q _ rs (u6,v6) hs6 (.inr rfl) hr3 hrs)
theorem rh:∀p ds Q,p.isOwn=true->ck p ds Q->jj ft kE p ds Q:=fun p ds Q _ h=>by
 unfold ck at h
 split at h
 .exact pJ _ _ _ _ h
 .exact h.elim
def fA:PTS:=(aG (y8 a9 0 (ae (pFz (ba 1)) aj) 2 3) (aG (bh (iZ (ae (pFz (pC (.bl true))) (ae (pFz (pC .non)) (ae (pFz (pC (.str [49]))) (ae (pFz (pUn Dm (pFz (pC (.int 1))))) (ae (pFz (wE (ae (pFz (pC (.int 1))) aj))) (ae (pFz A6) aj))))))) (au 4)) (aG (ku 2 (pOp fIx (pSl 4) (pFz (aW al 0 (ae (pFz (pCB eE (ae (pSl 4) aj))) aj)))) (aW al 0 (ae (pFz (pCB eE (ae (pSl 2) aj))) aj))) (aG (bh (iZ (ae (pFz (pC .non)) (ae (pFz (pC (.bl true))) (ae (pFz (pC (.int 0))) (ae (pFz (pOp FL (pFz (pC (.int 10))) (pFz (pC (.int 40))))) (ae (pFz (pC (.str [97,98]))) (ae (pFz A6) (ae (pFz (wE aj)) (ae (pFz (iZ (ae (pFz (iZ aj)) (ae (pFz (iZ aj)) (ae (pFz (iZ aj)) aj))))) aj))))))))) (au 5)) (aG (bh (pOp dO (pSl 5) (pFz (iZ (ae (pFz (iZ (ae (pFz (ba 2)) (ae (pFz (ba 3)) aj)))) (ae (pFz (iZ (ae (pFz (ba 3)) (ae (pFz (ba 2)) aj)))) (ae (pFz (Dw [(Sum.inl 0),(Sum.inl 1)] (ae (pFz (ba 2)) (ae (pFz (ba 3)) aj)))) aj)))))) (au 5)) (bw (pOp fIx (pSl 5) (pFz (aW al 0 (ae (pFz (pCB eE (ae (pSl 5) aj))) aj))))))))))
theorem pK(c0 c1:Int)(ds:List D)(Q:PV->PV->Prop)(h:cm (.own [.int c0,.int c1]) ([.lst ds]) Q):jj fA kF (.own [.int c0,.int c1]) ([.lst ds]) Q:=by
 show fA _ [some (.own [.int c0,.int c1]),some (.dat (.lst ds)),none,none,none,none];obtain⟨ws,rfl,⟨g,h0,hn,hp⟩,q⟩:=h;have g0:SOk (c0,c1)/\0<ws.length/\ws.length<=20/\Pcs 60 ws:=⟨g,h0,hn,hp⟩
 walk_at "r";rintro gs ts ⟨u1,v1⟩ hs1 lg lt;have hgm:(gs.map D.int).length=gs.length:=length_map _;have htm:(ts.map D.int).length=ts.length:=length_map _;walk_at "r";rintro x ⟨u2,v2⟩ hs2 hx0 hx1;obtain⟨j,rfl⟩:∃j:Nat,x=(j:Int):=⟨x.toNat,by omega⟩
 have hj:j<odT.length:=by have:(j:Int)<6:=hx1;show j<6;omega
 have hat:atI odT (j:Int)=some odT[j]:=fL (j:=j) (getElem?_eq_getElem hj) rfl;have hds:=zf _ (getElem_mem hj);walk_at "r";refine⟨_,hat,?_⟩;generalize odT[j]=d at hds ⊢;walk_at "r";rintro z ⟨u3,v3⟩ hs3 hz0 hz1;obtain⟨i,rfl⟩:∃i:Nat,z=(i:Int):=⟨z.toNat,by omega⟩
 have hi:i<gs.length:=by omega
 refine⟨i,by rw [hgm];exact yZ hi,?_⟩;have o1:=DI (zs:=gs) (j:=i) hds (by omega);have o2:=Bx (zs:=ts) (by omega);generalize (gs.map D.int).set i d=G at o1 ⊢;walk_at "r"
 have hall:∀e∈[D.non,D.bl true,D.int 0,D.int (10^Int.toNat 40),D.str [97,98],D.dic [] [],D.tup [],D.lst [D.lst [],D.lst [],D.lst []]]++[D.lst [D.lst G,D.lst (List.map D.int ts)],D.lst [D.lst (List.map D.int ts),D.lst G],D.dic [Sum.inl 0,Sum.inl 1] [D.lst G,D.lst (List.map D.int ts)]],okP e:=fun e he=>by
  have two:∀a b:D,((a.sort=true/\∀x∈aB a,x.sort=true)/\(aB a).length<=1000)->((b.sort=true/\∀x∈aB b,x.sort=true)/\(aB b).length<=1000)->okP (.lst [a,b]):=fun a b ha hb=>ug (fun r hr=>by
   rcases mem_cons.mp hr with rfl|hr
   .exact ha
   .rw [mem_singleton.mp hr];exact hb) (by show 2<=1000;decide)
  simp only [cons_append,nil_append,mem_cons,not_mem_nil,or_false] at he;rcases he with rfl|rfl|rfl|rfl|rfl|rfl|rfl|rfl|rfl|rfl|rfl
  iterate 7 exact uf rfl rfl
  .refine ug (fun r hr=>?_) (by show 3<=1000;decide);simp only [mem_cons,not_mem_nil,or_false] at hr;rcases hr with rfl|rfl|rfl <;> exact⟨⟨rfl,fun x hx=>nomatch hx⟩,zero_le _⟩
  .exact two _ _ o1 o2
  .exact two _ _ o2 o1
  .exact uf rfl rfl
 generalize [D.non,D.bl true,D.int 0,D.int (10^Int.toNat 40),D.str [97,98],D.dic [] [],D.tup [],D.lst [D.lst [],D.lst [],D.lst []]]++[D.lst [D.lst G,D.lst (List.map D.int ts)],D.lst [D.lst (List.map D.int ts),D.lst G],D.dic [Sum.inl 0,Sum.inl 1] [D.lst G,D.lst (List.map D.int ts)]]=L at hall ⊢;rintro y s4 hs4 hy0 hy1;obtain⟨k,rfl⟩:∃k:Nat,y=(k:Int):=⟨y.toNat,by omega⟩
 have hk:k<L.length:=by omega
 walk_at "r";refine⟨_,fL (j:=k) (getElem?_eq_getElem hk) rfl,?_⟩;walk_at "r";exact q _ s4 hs4 (hall _ (getElem_mem hk))
theorem rj:∀p ds Q,p.isOwn=true->cm p ds Q->jj fA kF p ds Q:=fun p ds Q _ h=>by
 unfold cm at h
 split at h
 .exact pK _ _ _ _ h
 .exact h.elim
def fB:PTS:=(aG (bh (bC cS (ae (pFz (tU "Often" ["pieces","counts","laps","total"] 0 (pSl 1))) (ae (pFz (tU "Often" ["pieces","counts","laps","total"] 1 (pSl 1))) (ae (pFz (ba 2)) aj)))) (au 3)) (aG (bh (bC aK (ae (pFz (ba 1)) (ae (pFz (ba 2)) aj))) (au 4)) (aG (gb (pOr (pB (pOp (fIs false) (pSl 3) (pFz (pC .non)))) (pB (pOp (fIs false) (pSl 4) (pFz (pC .non))))) (bw (jW (pOp (fIs false) (pSl 3) (pFz (pC .non))) (pOp (fIs false) (pSl 4) (pFz (pC .non))))) bz) (aG (gb (pOr (pY (pB (bC aQ (ae (pFz (ba 4)) aj)))) (pB (pOp xa (pSl 4) (pSl 3)))) (bw (pC (.bl false))) bz) (aG (gU (tN (ae (pFz (pC (.int 2))) aj)) (au 5) (aG (bh (fh [none,some 1] (eZ (aW cR 0 (ae (pFz (tU "Often" ["pieces","counts","laps","total"] 1 (pSl 1))) aj))) (au 0) jZ (pOp fIx (pFz (tU "Often" ["pieces","counts","laps","total"] 0 (pSl 1))) (pSl 0))) (au 6)) (gb (pB (pOp fLt (pFz (pCB eE (ae (pFz (aW cM 0 (ae (pFz (ba 6)) aj))) aj))) (pSl 4))) (bw (pC (.bl false))) bz))) (bw (pC (.bl true))))))))
theorem pL(c0 c1:Int)(c:Str)(ns:List Str)(fs:List D)(e:D)(Q:PV->PV->Prop)(h:bP (.own [.int c0,.int c1]) ([.obj c ns fs,e]) Q):jj fB kG (.own [.int c0,.int c1]) ([.obj c ns fs,e]) Q:=by
 show fB _ [some (.own [.int c0,.int c1]),some (.dat (.obj c ns fs)),some (.dat (e)),none,none,none,none];obtain⟨rfl,rfl,ps,cs,rfl,⟨g,oe,hn,hp,hcl,hc⟩,q⟩:=h;have gd:okP e/\ps.length<=20/\Pcs 60 ps/\cs.length=ps.length/\∀c∈cs,c<=9:=⟨oe,by omega,hp,hcl,hc⟩
 have gt:okP e/\ps.length<=20/\cs.length=ps.length/\∀c∈cs,c<=9:=⟨oe,by omega,hcl,hc⟩
 have hpm:(ps.map D.str).length=ps.length:=length_map _;walk_at "r";refine⟨ps,cs,rfl,gt,?_⟩
 by_cases hb:kY e ps (oY ps.length)=true
 .have et:obD e ps cs=.int (ofT ps cs - (ctS (itD (aB e) 0) (itD (aB e) 1) cs ps.length).sum):=if_pos hb;rw [et];generalize hz:ofT ps cs - (ctS (itD (aB e) 0) (itD (aB e) 1) cs ps.length).sum=z;walk_at "r"
  refine⟨fun k ρ=>∃(s:Int×Int) (v5 v6:Option PV),SOk s/\ρ=[some (stv s),some (.dat (.obj "Often" Bs (Bt ps cs))),some (.dat e),some (.dat (.int z)),some (.dat (.int z)),v5,v6],⟨(c0,c1),_,_,g,rfl⟩,?_,?_⟩
  .rintro k ρ _ hk rfl ⟨⟨u,v⟩,v5,v6,hs,rfl⟩;have gr:SOk (u,v)/\cs.length<=20/\∀c∈cs,c<=9:=⟨hs,by omega,hc⟩
   walk_at "r";rintro js ⟨u2,v2⟩ hjp hs2;have hj1:∀p∈js,p<ps.length:=fun p h=>by rw [<- hcl];exact zR (hjp.mem_iff.mp h)
   have hjl:js.length<=36:=by have:=hjp.length_eq;have:=o5 hc cs.length;omega
   have hjm:(js.map nD).length=js.length:=length_map _;walk_at "r"
   refine cm1 (xs:=js) (e:=nD) (fun k=>.str (pw ps k)) (fun i hi v K1 k1=>?_) (fun v=>?_)
   .walk_at "r";refine⟨_,dD (hj1 _ hi) rfl,?_⟩;exact k1 _
   have ew:js.map (fun k=>D.str (pw ps k))=(js.map (pw ps)).map .str:=by rw [map_map];rfl
   rw [ew]
   have gl:SOk (u2,v2)/\(js.map (pw ps)).length<=40/\Pcs 60 (js.map (pw ps)):=⟨hs2,by rw [length_map];omega,fun w hw=>by
    obtain⟨p,hp',rfl⟩:=mem_map.mp hw;have:=hj1 p hp';refine hp _ ?_;show ps.getD p []∈_;rw [getD_eq_getElem?_getD,getElem?_eq_getElem this];exact getElem_mem _⟩
   walk_at "r";rintro T s3 hs3 hTl hT;have hb:=zg hcl hb hjp hT;rw [hz] at hb;walk_at "r";exact⟨s3,_,_,hs3,rfl⟩
  .rintro ρ ⟨s,v5,v6,hs,rfl⟩;walk_at "r";exact q s hs
 .have et:obD e ps cs=.non:=if_neg hb;rw [et];walk_at "r";exact q (c0,c1) g
theorem rm:∀p ds Q,p.isOwn=true->bP p ds Q->jj fB kG p ds Q:=fun p ds Q _ h=>by
 unfold bP at h
 split at h
 .exact pL _ _ _ _ _ _ _ h
 .exact h.elim
def uk:PTS:=(aG (gU (tN (ae (pFz (pCB rW (ae (pFz (pC (.int 2))) (ae (pFz (pCB uL (ae (pFz (pC (.int 3))) (ae (pFz (pCB eE (ae (pSl 0) aj))) aj)))) aj)))) aj)) (au 1) (aG (bh (bC bB (ae (pFz (ba 0)) (ae (pFz (ba 1)) aj))) (au 2)) (aG (bh (aW cj 2 (ae (pFz (pOp dO (pFz (pC (.int 1))) (pFz (aW al 2 (ae (pFz (pC (.int 4))) aj))))) (ae (pFz (pC (.int 8))) aj))) (au 3)) (aG (bh (aW bJ 2 (ae (pFz (pCB eE (ae (pSl 3) aj))) (ae (pFz (pC (.int 3))) aj))) (au 4)) (aG (bh (A4 "Often" bA (ae (pFz (pCB hC (ae (pSl 3) aj))) (ae (pFz (pCB rX (ae (pSl 4) aj))) aj))) (au 5)) (aG (gb (pOr (pB (pOp xa (pFz (tU "Often" ["pieces","counts","laps","total"] 0 (pSl 5))) (pFz (pCB hC (ae (pSl 3) aj))))) (pB (pOp xa (pFz (tU "Often" ["pieces","counts","laps","total"] 1 (pSl 5))) (pFz (pCB hC (ae (pSl 4) aj)))))) (bw (pC (.bl false))) bz) (gU (tN (ae (pFz (pC (.int 4))) aj)) (au 6) (aG (bh (aW ck 2 (ae (pFz (ba 3)) aj)) (au 7)) (aG (bh (fh [none] (eZ (ba 7)) (au 0) jZ (pCB rX (ae (pSl 0) aj))) (au 8)) (aG (gb (pOr (pY (pB (aW bP 2 (ae (pFz (ba 5)) (ae (pFz (ba 7)) aj))))) (pB (pOp xa (pFz (fh [none] (eZ (ba 7)) (au 0) jZ (pCB rX (ae (pSl 0) aj)))) (pSl 8)))) (bw (pC (.bl false))) bz) (gb (pY (pB (aW bP 2 (ae (pFz (ba 5)) (ae (pFz (aW cm 2 (ae (pFz (ba 3)) aj))) aj))))) (bw (pC (.bl false))) bz))))))))))) (aG (bh (A4 "Often" bA (ae (pFz (iZ aj)) (ae (pFz (iZ aj)) aj))) (au 9)) (aG (bh (bC aK (ae (pFz (ba 9)) (ae (pFz (iZ (ae (pFz (wE aj)) (ae (pFz (iZ aj)) aj)))) aj))) (au 10)) (bw (jW (bC aQ (ae (pFz (ba 10)) aj)) (jW (pOp mI (pSl 10) (pFz (pC (.int 0)))) (pOp (fIs false) (pFz (bC aK (ae (pFz (ba 9)) (ae (pFz (wE (ae (pFz (wE (ae (pFz (pC (.int 0))) aj))) (ae (pFz (wE aj)) aj)))) aj)))) (pFz (pC .non)))))))))
theorem BB(ns:List Int)(h63:ns.length<=63)(Q:PV->Prop)(q:Q (.dat (.bl true))):eB uk zS [.scr ns] Q:=by
 show uk _ [some (.dat (.scr ns)),none,none,none,none,none,none,none,none,none,none]
 have hmax:(if (if (ns.length:Int)<3 then (ns.length:Int) else 3) > 2 then if (ns.length:Int)<3 then (ns.length:Int) else 3 else 2).toNat<=3:=by
  split
  .split <;> omega
  .omega
 walk_at "r"
 refine⟨fun k ρ=>∃v1 v2 v3 v4 v5 v6 v7 v8 v9 v10:Option PV,ρ=[some (.dat (.scr ns)),v1,v2,v3,v4,v5,v6,v7,v8,v9,v10],⟨_,_,_,_,_,_,_,_,_,_,rfl⟩,?_,?_⟩
 .rintro k ρ _ hk rfl ⟨v1,v2,v3,v4,v5,v6,v7,v8,v9,v10,rfl⟩;have hk3:k<3:=lt_of_lt_of_le hk hmax;clear hk hmax;walk_at "r";rintro⟨a,b⟩ g;walk_at "r";rintro y ⟨a,b⟩ g hy0 hy1;have hy2:0<=1+y/\1+y<=100/\(0:Int)<8/\(8:Int)<=60:=⟨by omega,by omega,by decide,by decide⟩
  walk_at "r";rintro ps ⟨a,b⟩ g hpl hpp;have hpl:ps.length=(1+y).toNat:=hpl;have hp:Pcs 60 ps:=fun w hw=>⟨(hpp w hw).1,by have h:=(hpp w hw).2.1;have h:w.length<=8:=h;omega,(hpp w hw).2.2⟩
  have w0:=zh (ps:=ps) (by omega) fun w hw=>(hp w hw).2.1;have wk:=fun i (h:i<(cH ps).length)=>xS h;have wp:=uV hp;have w5:(cH ps).length<=4:=by have:=uW ps;omega
  generalize cH ps=ws at w0 wk wp w5;clear hpl hpp hy2 hy0 hy1 hp;have hlm:(ws.map D.str).length=ws.length:=length_map _;have hc2:0<=((ws.map D.str).length:Int)/\((ws.map D.str).length:Int)<=100/\(0:Int)<3/\(3:Int)<=60:=⟨by omega,by omega,by decide,by decide⟩
  walk_at "r";rintro cs ⟨a,b⟩ g hcl hcc;have hcl:cs.length=ws.length:=by rw [hcl,hlm,toNat_natCast]
  have hcc:∀c∈cs,1<=c/\c<=3:=hcc;have hc9:∀c∈cs,c<=9:=fun c h=>by have:=hcc c h;omega
  have hcm:(cs.map nD).length=cs.length:=length_map _;have sh1:Sh (.tup (ws.map D.str)):=Sh.tupS fun w hw=>(wp w hw).2.2;have en:cs.map nD=(cs.map fun c:Nat=>(c:Int)).map .int:=by rw [map_map];rfl
  have sh2:Sh (.tup (cs.map nD)):=en ▸ Sh.tupI _;have eq1:=uJ.of sh1 sh1;have eq2:=uJ.of sh2 sh2;have dq1:=oK sh1;have dq2:=oK sh2;have gk:ws.length<=4/\Pcs 60 ws/\(∀i,i<ws.length->dN ws i=true)/\(D.tup (ws.map D.str)=D.tup (ws.map D.str)\/ws=[])/\cs.length=ws.length/\∀c∈cs,1<=c/\c<=3:=⟨w5,wp,wk,.inl rfl,hcl,hcc⟩
  walk_at "r";rw [dq1];walk_at "r";rw [dq2];walk_at "r"
  refine⟨fun j ρ=>∃(s:Int×Int) (p3 p5:PV) (v6 v7 v8:Option PV),SOk s/\((p3=.own (ws.map .str)/\p5=.ins "Often" Bs (Bt ws cs))\/(p3=.dat (.lst (ws.map .str))/\p5=.dat (.obj "Often" Bs (Bt ws cs))))/\ρ=[some (.dat (.scr ns)),some (.dat (.int (k:Int))),some (stv s),some p3,some (.own (cs.map nD)),some p5,v6,v7,v8,v9,v10],⟨(a,b),_,_,_,_,_,g,.inl ⟨rfl,rfl⟩,rfl⟩,?_,?_⟩
  .rintro j ρ _ hj rfl ⟨⟨a,b⟩,p3,p5,v6,v7,v8,g,hpp,rfl⟩;have gp:SOk (a,b)/\0<ws.length/\ws.length<=20/\Pcs 60 ws:=⟨g,w0,by omega,wp⟩
   rcases hpp with ⟨rfl,rfl⟩|⟨rfl,rfl⟩ <;> (
    walk_at "r";rintro e rs ⟨a,b⟩ g he hr3 hrs;have oe:=xR he hr3 hrs;have gh:SOk (a,b)/\okP e/\ws.length<=4/\Pcs 60 ws/\cs.length=ws.length/\∀c∈cs,c<=9:=⟨g,oe,w5,wp,hcl,hc9⟩
    have shL:Sh (.lst ((List.range rs.length).map fun k=>D.lst (aB (itD rs k)))):=Bz fun r hr=>by
     obtain⟨k,hk,rfl⟩:=mem_map.mp hr;obtain⟨zs,h1,h2⟩:=hrs _ (dM (mem_range.mp hk));exact⟨zs,by rw [h1.items]⟩
    have eqL:=uJ.of shL shL;have dqL:=oK shL;have tup:∀r∈rs,∃ds,iG r ds:=fun r hr=>let ⟨zs,h,_⟩:=hrs r hr;⟨_,h⟩
    have cmp:∀(ρ1:PSt) (Q1:PKt),(∀v:Option PV,Q1 (.own ((List.range rs.length).map fun k=>D.lst (aB (itD rs k)))) (fg [none] ρ1 [v]))->mG [none] ρ1 rs.length (itD rs) (au 0) jZ (pCB rX (ae (pSl 0) aj)) Q1:=fun ρ1 Q1 hq=>by
     refine tX (fun τ=>∃v,τ=[v]) (fun k=>.lst (aB (itD rs k))) ⟨_,rfl⟩ ?_ ?_
     .rintro k τ d hk rfl ⟨v,rfl⟩ K1 k1;have hm:=dM hk;obtain⟨ds,hd⟩:=tup _ hm;generalize itD rs k=r at hd k1 ⊢;rcases hd with rfl|rfl <;> (walk_at "r";exact k1 _ ⟨_,rfl⟩)
     .rintro τ ⟨v,rfl⟩;exact hq v
    walk_at "r";refine xm he ⟨rfl,by omega,cmp _ _ fun v=>?_⟩;walk_at "r";refine⟨ws,cs,rfl,gh,?_⟩;rintro⟨a,b⟩ g;walk_at "r";refine xm he ⟨rfl,by omega,cmp _ _ fun v=>?_⟩;walk_at "r";rw [dqL];have gp:SOk (a,b)/\0<ws.length/\ws.length<=20/\Pcs 60 ws:=⟨g,w0,by omega,wp⟩
    walk_at "r";rintro e2 ⟨a,b⟩ g oe2;have gh2:SOk (a,b)/\okP e2/\ws.length<=4/\Pcs 60 ws/\cs.length=ws.length/\∀c∈cs,c<=9:=⟨g,oe2,w5,wp,hcl,hc9⟩
    walk_at "r";refine⟨ws,cs,rfl,gh2,?_⟩;rintro s3 g3;walk_at "r";exact⟨s3,_,_,_,_,_,g3,.inr ⟨rfl,rfl⟩,rfl⟩)
  .rintro ρ ⟨s,p3,p5,v6,v7,v8,g,hpp,rfl⟩;exact⟨_,_,_,_,_,_,_,_,_,_,rfl⟩
 .rintro ρ ⟨v1,v2,v3,v4,v5,v6,v7,v8,v9,v10,rfl⟩
  have o1:okP (.lst [.tup [],.lst []])/\([]:List (List Nat)).length<=20/\([]:List Nat).length=([]:List (List Nat)).length/\∀c∈([]:List Nat),c<=9:=⟨xR (rs:=[.tup [],.lst []]) (.inl rfl) (by show 2<=3;decide) (fun r hr=>by
   simp only [mem_cons,not_mem_nil,or_false] at hr
   rcases hr with rfl|rfl
   .exact⟨[],.inr rfl,by decide⟩
   .exact⟨[],.inl rfl,by decide⟩),zero_le _,rfl,fun _ h=>nomatch h⟩
  have o2:okP (.tup [.tup [.int 0],.tup []])/\([]:List (List Nat)).length<=20/\([]:List Nat).length=([]:List (List Nat)).length/\∀c∈([]:List Nat),c<=9:=⟨xR (rs:=[.tup [.int 0],.tup []]) (.inr rfl) (by show 2<=3;decide) (fun r hr=>by
   simp only [mem_cons,not_mem_nil,or_false] at hr
   rcases hr with rfl|rfl
   .exact⟨[0],.inr rfl,by decide⟩
   .exact⟨[],.inr rfl,by decide⟩),zero_le _,rfl,fun _ h=>nomatch h⟩
  walk_at "r";refine⟨[],.inl rfl,[],.inl rfl,⟨zero_le _,(fun _ h=>nomatch h),(fun i h=>absurd h (not_lt_zero _)),.inr rfl,rfl,(fun _ h=>nomatch h)⟩,?_⟩;walk_at "r";refine⟨[],[],rfl,o1,?_⟩;rw [DJ];walk_at "r";refine⟨[],[],rfl,o2,?_⟩;rw [DK];exact q
theorem DM:∀ds Q,ui ds Q->eB uk zS ds Q:=fun ds Q h=>by
 obtain⟨ns,rfl,h63,q⟩:=h;exact BB ns h63 Q q
section
variable {P:Program}{w:World}{K:PySem.W.Frag}{mg:Str->Option Value}{base:Heap}
theorem nS:∀ds Q,c9 ds Q->ds.length=3:=fun ds Q h=>by unfold c9 at h;split at h;(first|rfl|exact h.elim);(first|rfl|exact h.elim)
theorem vh(D:tJ K mg "is_text" fP [.int 0,.int 4000])(T:Txt mg)(TC:TxC K):CS P w K mg base 1 "is_text" ["thing","least","most"] [.int 0,.int 4000] (spP K c9):=by
 refine D.ok uZ (fun dT kV doc pm an cdv ct items us n hi hn hl=>?_) (fun vs H Q E h=>?_) (fun f cdv A outer s H vs Q E hr h=>?_)
 .obtain⟨i0,i1,rfl⟩:∃i0 i1,items=[i0,i1]:=match items,hi with|[i0,i1],_=>⟨i0,i1,rfl⟩
  have hn':n=0\/n=1\/n=2:=by (have:n<=2:=hn);omega
  rcases hn' with rfl|rfl|rfl
  .have hl2:us.length=1:=by (simp at hl;omega)
   match us,hl2 with
   | [_],_=>exact⟨_,rfl,rfl⟩
  .have hl2:us.length=2:=by (simp at hl;omega)
   match us,hl2 with
   | [_,_],_=>exact⟨_,rfl,rfl⟩
  .have hl2:us.length=3:=by (simp at hl;omega)
   match us,hl2 with
   | [_,_,_],_=>exact⟨_,rfl,rfl⟩
 .exact kS nS h
 .have hu:=hr.units;exact⟨_,(ai (cK (PW.pt (nZ (dW (c6 (am (wI K rfl) rfl T.b_isinstance boot_isinstance (paC (pv 0) (paC (eV (v:=.ty "str") rfl T.b_str boot_str rfl) ah))))) (jk (dW (ya BH BH (pv 1) (am (bW K rfl) rfl T.b_len PySem.boot_len (paC (pv 0) ah)) (pv 2)))))) (ao (aM kO)) aX) (ao (aM (am (wP K rfl rfl) rfl T.b_all boot_all (paC (cZ (wi:=(lj K (bL 0))) (g:=(cT 0)) (tts:=lf) (te:=(sY DT DT (tC (V.str (S [97]))) (bL 0) (tC (V.str (S [122]))))) ["sign"] [none] rfl (dg K rfl (pv 0)) (fun _ _ _ _=>⟨(aF (i:=0) (by show List.Nodup (["sign"]:List Str);decide +kernel) rfl (by walk_at "o")),cE,(sZ BH BH (du (l:=[97]) (by decide +kernel)) (pv 0) (du (l:=[122]) (by decide +kernel)))⟩) (by kernel_rfl)) ah))))),fnP (K:=K) (c:=c9) (ps:=iA) (N:=["thing","least","most"]) (ay (cN (ou (dY (pX (qz .str (ak (i:=0))))) (dY (f8 (oA uI uI (ak (i:=1)) (af (aR aZ (aa (ak (i:=0)) ac))) (ak (i:=2)))))) (aP kQ) aY) (aP (aR qB (aa (af (cp (ix:=[none]) rfl (dh (ap (i:=0))) (fun fs hc=>(aA (i:=0) (kR hc (by decide)))) dz (oA uI uI (af (le_str (l:=[97]))) (ak (i:=0)) (af (le_str (l:=[122])))))) ac)))) (fun ds Q h=>le_trans (le_of_eq (nS ds Q h)) (by decide)) u9 h⟩
theorem rn:∀ds Q,bG ds Q->ds.length=1:=fun ds Q h=>by unfold bG at h;split at h;(first|rfl|exact h.elim);(first|rfl|exact h.elim)
theorem xU(D:bY K mg "is_row" oS)(T:Txt mg)(TC:TxC K):Cal P w K mg base 1 "is_row" ["thing"] (spP K bG):=by
 refine D.ok xM (fun _ _ _ _ _ _ us hl=>match us,hl with|[_],_=>rfl) (fun vs H Q E h=>?_) (fun f cdv A outer s H vs Q E hr h=>?_)
 .exact kS rn h
 .have hu:=hr.units;exact⟨_,(ao (aM (am (AX K rfl) rfl T.b_isinstance boot_isinstance (paC (pv 0) (paC (fi (paC (eV (v:=.ty "list") rfl T.b_list boot_list rfl) (paC (eV (v:=.ty "tuple") rfl T.b_tuple boot_tuple rfl) ah))) ah))))),fnP (K:=K) (c:=bG) (ps:=jL) (N:=["thing"]) (aP (wJ .list .tuple fF (ak (i:=0)))) (fun ds Q h=>le_trans (le_of_eq (rn ds Q h)) (by decide)) xT h⟩
theorem kH:∀ds Q,bb ds Q->ds.length=1:=fun ds Q h=>by unfold bb at h;split at h;(first|rfl|exact h.elim);(first|rfl|exact h.elim)
theorem rp(D:bY K mg "is_number" i9)(T:Txt mg)(TC:TxC K):Cal P w K mg base 1 "is_number" ["thing"] (spP K bb):=by
 refine D.ok qQ (fun _ _ _ _ _ _ us hl=>match us,hl with|[_],_=>rfl) (fun vs H Q E h=>?_) (fun f cdv A outer s H vs Q E hr h=>?_)
 .exact kS kH h
 .have hu:=hr.units;exact⟨_,(ao (aM (gI (am (wI K rfl) rfl T.b_isinstance boot_isinstance (paC (pv 0) (paC (eV (v:=.ty "int") rfl T.b_int boot_int rfl) ah))) (jl (vw (am (wI K rfl) rfl T.b_isinstance boot_isinstance (paC (pv 0) (paC (eV (v:=.ty "bool") rfl T.b_bool boot_bool rfl) ah)))))))),fnP (K:=K) (c:=bb) (ps:=fk) (N:=["thing"]) (aP (gM (qz .int (ak (i:=0))) (wG (qz .bool (ak (i:=0)))))) (fun ds Q h=>le_trans (le_of_eq (kH ds Q h)) (by decide)) qV h⟩
theorem ml:∀ds Q,cq ds Q->ds.length=3:=fun ds Q h=>by unfold cq at h;split at h;(first|rfl|exact h.elim);(first|rfl|exact h.elim)
theorem sN(D:bY K mg "is_whole" j4)(T:Txt mg)(TC:TxC K)(C'2:Cal P w K mg base 1 "is_number" ["thing"] (spP K bb)):Cal P w K mg base 2 "is_whole" ["thing","least","most"] (spP K cq):=by
 refine D.ok sv (fun _ _ _ _ _ _ us hl=>match us,hl with|[_,_,_],_=>rfl) (fun vs H Q E h=>?_) (fun f cdv A outer s H vs Q E hr h=>?_)
 .exact kS ml h
 .have hu:=hr.units;exact⟨_,(ao (aM (gI (aw C'2 (hr.mono (by decide)) (paC (pv 0) ah)) (jl (sZ BH BH (pv 1) (pv 0) (pv 2)))))),fnP (K:=K) (c:=cq) (ps:=gB) (N:=["thing","least","most"]) (aP (gM (aO (c:=bb) (aa (af (ap (i:=0))) ac)) (oA uI uI (ak (i:=1)) (ak (i:=0)) (ak (i:=2))))) (fun ds Q h=>le_trans (le_of_eq (ml ds Q h)) (by decide)) sB h⟩
theorem iS:∀ds Q,bi ds Q->ds.length=2:=fun ds Q h=>by unfold bi at h;split at h;(first|rfl|exact h.elim);(first|rfl|exact h.elim)
theorem m7(D:bY K mg "first_place" gq)(T:Txt mg)(TC:TxC K):Cal P w K mg base 1 "first_place" ["text","piece"] (spP K bi):=by
 refine D.ok mL (fun _ _ _ _ _ _ us hl=>match us,hl with|[_,_],_=>rfl) (fun vs H Q E h=>?_) (fun f cdv A outer s H vs Q E hr h=>?_)
 .exact kS iS h
 .have hu:=hr.units;exact⟨_,(ao (aM (jq K rfl PySem.F.plainAttrs_str PySem.F.slot_str_find PySem.F.type_str_find tR (pv 0) (paC (pv 1) ah)))),fnP (K:=K) (c:=bi) (ps:=dQ) (N:=["text","piece"]) (aP (yH tT (ap (i:=0)) (aa (ak (i:=1)) ac))) (fun ds Q h=>le_trans (le_of_eq (iS ds Q h)) (by decide)) mN h⟩
theorem zT:∀ds Q,gP ds Q->ds.length=2:=fun ds Q h=>by unfold gP at h;split at h;(first|rfl|exact h.elim);(first|rfl|exact h.elim)
theorem DN(D:bY K mg "lap" Br)(T:Txt mg)(TC:TxC K):Cal P w K mg base 1 "lap" ["one","other"] (spP K gP):=by
 refine D.ok zO (fun _ _ _ _ _ _ us hl=>match us,hl with|[_,_],_=>rfl) (fun vs H Q E h=>?_) (fun f cdv A outer s H vs Q E hr h=>?_)
 .exact kS zT h
 .have hu:=hr.units;exact⟨_,(ai (dX PassesOwn.never rfl (qi rfl T.b_range (paC (bo qE (am (tP rfl) rfl T.b_min boot_min (paC (am (bW K rfl) rfl T.b_len PySem.boot_len (paC (pv 0) ah)) (paC (am (bW K rfl) rfl T.b_len PySem.boot_len (paC (pv 1) ah)) ah))) aq) (paC aq (paC (Ac vC aq) ah)))) (aF (i:=2) zO.nd rfl (by walk_at "o")) (ao (cK (c6 (jq K rfl PySem.F.plainAttrs_str PySem.F.slot_str_endswith PySem.F.type_str_endswith A1 (pv 0) (paC (b9 (qy K rfl) (pv 1) di (cU (pv 2))) ah))) (ao (aM (pv 2))) aX))) (ao (aM aq))),fnP (K:=K) (c:=gP) (ps:=uj) (N:=["one","other","k"]) (ay (d0 (C7 (aa (af (ax kr (af (aR oF (aa (af (aR aZ (aa (ak (i:=0)) ac))) (aa (af (aR aZ (aa (ak (i:=1)) ac))) ac)))) (af le_int))) (aa (af le_int) (aa (af (AO wS (af le_int))) ac)))) (aA (i:=2) rfl) (cN (pX (yH A3 (ap (i:=0)) (aa (af (cf (ak (i:=1)) cv (bV (ap (i:=2))))) ac))) (aP (ap (i:=2))) aY)) (aP le_int)) (fun ds Q h=>le_trans (le_of_eq (zT ds Q h)) (by decide)) DL h⟩
theorem mm:∀ds Q,cr ds Q->ds.length=1:=fun ds Q h=>by unfold cr at h;split at h;(first|rfl|exact h.elim);(first|rfl|exact h.elim)
theorem sO(D:bY K mg "all_laps" j5)(T:Txt mg)(TC:TxC K)(C'5:Cal P w K mg base 1 "lap" ["one","other"] (spP K gP)):Cal P w K mg base 2 "all_laps" ["words"] (spP K cr):=by
 refine D.ok sw (fun _ _ _ _ _ _ us hl=>match us,hl with|[_],_=>rfl) (fun vs H Q E h=>?_) (fun f cdv A outer s H vs Q E hr h=>?_)
 .exact kS mm h
 .have hu:=hr.units;exact⟨_,(ao (aM (bx (gi K rfl) rfl T.b_tuple boot_tuple (paC (cZ (wi:=(lj K (bL 0))) (g:=(cT 0)) (tts:=lf) (te:=(tCB (yF K) (bg (uE [none,some 0] (lj K (bL 1)) (cT 0) lf (fc (spP K gP) [] E0 (bg (bL 1) (bg (bL 0) fS)))) fS))) ["one","words"] [none,some 0] rfl (dg K rfl (pv 0)) (fun _ _ _ _=>⟨(aF (i:=0) (by show List.Nodup (["one","words"]:List Str);decide +kernel) rfl (by walk_at "o")),cE,(bx (gi K rfl) rfl T.b_tuple boot_tuple (paC (cZ (wi:=(lj K (bL 1))) (g:=(cT 0)) (tts:=lf) (te:=(fc (spP K gP) [] E0 (bg (bL 1) (bg (bL 0) fS)))) ["other","one"] [none,some 0] rfl (dg K rfl (pv 1)) (fun _ _ _ _=>⟨(aF (i:=0) (by show List.Nodup (["other","one"]:List Str);decide +kernel) rfl (by walk_at "o")),cE,(aw C'5 (hr.mono (by decide)) (paC (pv 1) (paC (pv 0) ah)))⟩) (by kernel_rfl)) ah))⟩) (by kernel_rfl)) ah)))),fnP (K:=K) (c:=cr) (ps:=gC) (N:=["words"]) (aP (aR eF (aa (af (cp (ix:=[none,some 0]) rfl (dh (ap (i:=0))) (fun fs hc=>(aA (i:=0) (kR hc (by decide)))) dz (aR eF (aa (af (cp (ix:=[none,some 0]) rfl (dh (ap (i:=1))) (fun fs hc=>(aA (i:=0) (kR hc (by decide)))) dz (aO (c:=gP) (aa (af (ap (i:=1))) (aa (af (ap (i:=0))) ac))))) ac)))) ac))) (fun ds Q h=>le_trans (le_of_eq (mm ds Q h)) (by decide)) sC h⟩
theorem ir:∀ds Q,bc ds Q->ds.length=1:=fun ds Q h=>by unfold bc at h;split at h;(first|rfl|exact h.elim);(first|rfl|exact h.elim)
theorem mn(D:bY K mg "check_pieces" fG)(T:Txt mg)(TC:TxC K)(C'0:CS P w K mg base 1 "is_text" ["thing","least","most"] [.int 0,.int 4000] (spP K c9)):Cal P w K mg base 2 "check_pieces" ["things"] (spP K bc):=by
 refine D.ok e7 (fun _ _ _ _ _ _ us hl=>match us,hl with|[_],_=>rfl) (fun vs H Q E h=>?_) (fun f cdv A outer s H vs Q E hr h=>?_)
 .exact kS ir h
 .have hu:=hr.units;exact⟨_,(ai (cK (aS zC (am (bW K rfl) rfl T.b_len PySem.boot_len (paC (pv 0) ah)) (li rfl T.g_MOST_PIECES) (aV _)) (ao fT) aX) (ao (dX PassesOwn.never rfl (tW K rfl rfl T.b_enumerate (paC (pv 0) ah)) (jx K rfl (n:=2) rfl (bU (aF (i:=1) e7.nd rfl (by walk_at "o")) (bU (aF (i:=2) e7.nd rfl (by walk_at "o")) fU))) (ao (cK (dW (c6 (yU 2 C'0 (hr.mono (by decide)) (by decide) (paC (pv 2) (paC aq (paC (li rfl T.g_MOST_SIGNS) ah)))))) (ao fT) aX))))),fnP (K:=K) (c:=bc) (ps:=dF) (N:=["things","at","thing"]) (ay (cN (f8 (ax qx (af (aR aZ (aa (ak (i:=0)) ac))) (af (le_int (i:=40))))) gc aY) (d0 (wM (aa (af (ap (i:=0))) ac)) (oO (cW (aA (i:=1) rfl) (cW (aA (i:=2) rfl) i4))) (cN (dY (pX (yI (ds:=[]) (by repeat (first|exact .nil|exact .cons (.int _) .nil|refine .cons (.int _) ?_)) (aa (af (ap (i:=2))) (aa (af le_int) (aa (af (le_int (i:=60))) ac)))))) gc aY))) (fun ds Q h=>le_trans (le_of_eq (ir ds Q h)) (by decide)) ma h⟩
theorem gR:∀ds Q,aT ds Q->ds.length=2:=fun ds Q h=>by unfold aT at h;split at h;(first|rfl|exact h.elim);(first|rfl|exact h.elim)
theorem k9(D:bY K mg "stands_within" e6)(T:Txt mg)(TC:TxC K)(C'4:Cal P w K mg base 1 "first_place" ["text","piece"] (spP K bi)):Cal P w K mg base 2 "stands_within" ["piece","other"] (spP K aT):=by
 refine D.ok kX (fun _ _ _ _ _ _ us hl=>match us,hl with|[_,_],_=>rfl) (fun vs H Q E h=>?_) (fun f cdv A outer s H vs Q E hr h=>?_)
 .exact kS gR h
 .have hu:=hr.units;exact⟨_,(ao (aM (eh DX (aw C'4 (hr.mono (by decide)) (paC (pv 1) (paC (pv 0) ah))) aq (aV _)))),fnP (K:=K) (c:=aT) (ps:=dt) (N:=["piece","other"]) (aP (ax yC (af (aO (c:=bi) (aa (af (ap (i:=1))) (aa (af (ap (i:=0))) ac)))) (af le_int))) (fun ds Q h=>le_trans (le_of_eq (gR ds Q h)) (by decide)) k6 h⟩
theorem nU:∀ds Q,cQ ds Q->ds.length=2:=fun ds Q h=>by unfold cQ at h;split at h;(first|rfl|exact h.elim);(first|rfl|exact h.elim)
theorem vi(D:bY K mg "is_kept" lT)(T:Txt mg)(TC:TxC K)(C'8:Cal P w K mg base 2 "stands_within" ["piece","other"] (spP K aT)):Cal P w K mg base 3 "is_kept" ["pieces","at"] (spP K cQ):=by
 refine D.ok kd (fun _ _ _ _ _ _ us hl=>match us,hl with|[_,_],_=>rfl) (fun vs H Q E h=>?_) (fun f cdv A outer s H vs Q E hr h=>?_)
 .exact kS nU h
 .have hu:=hr.units;exact⟨_,(ai (aN (i:=2) kd.nd rfl (by walk_at "o") (bQ (eS K rfl) (pv 0) (pv 1) (fun _ _=>rfl))) (ai (oj (wi:=(lj K (bL 0))) (g:=(cT 0)) (tts:=(vH (tOp Fx (tCB (rT K) (bg (bL 0) fS)) (tCB (rT K) (bg (bL 1) fS))))) (te:=(bL 0)) (i:=3) ["other","piece"] [none,some 2] kd.nd rfl (Or.inl rfl) rfl (dg K rfl (pv 0)) (fun _ _ _ _=>⟨(aF (i:=0) (by show List.Nodup (["other","piece"]:List Str);decide +kernel) rfl (by walk_at "o")),(rN (aS zC (am (bW K rfl) rfl T.b_len PySem.boot_len (paC (pv 0) ah)) (am (bW K rfl) rfl T.b_len PySem.boot_len (paC (pv 1) ah)) (aV _))),(pv 0)⟩) (by kernel_rfl)) (ao (aM (gI (eh (y0 K rfl) (pv 2) (b9 (qy K rfl) (pv 0) di (cU (pv 1))) (by with_unfolding_all rfl)) (jl (vw (am (EM K rfl rfl) rfl T.b_any boot_any (paC (cZ (wi:=(lj K (bL 3))) (g:=(cT 0)) (tts:=lf) (te:=(fc (spP K aT) [] E0 (bg (bL 1) (bg (bL 0) fS)))) ["other","piece"] [none,some 2] rfl (dg K rfl (pv 3)) (fun _ _ _ _=>⟨(aF (i:=0) (by show List.Nodup (["other","piece"]:List Str);decide +kernel) rfl (by walk_at "o")),cE,(aw C'8 (hr.mono (by decide)) (paC (pv 1) (paC (pv 0) ah)))⟩) (by kernel_rfl)) ah))))))))),fnP (K:=K) (c:=cQ) (ps:=iB) (N:=["pieces","at","piece","longer"]) (ay (aI (ax bS (ak (i:=0)) (ak (i:=1))) (aC (i:=2) rfl)) (ay (aI (cp (ix:=[none,some 2]) rfl (dh (ap (i:=0))) (fun fs hc=>(aA (i:=0) (kR hc (by decide)))) (f8 (ax qx (af (aR aZ (aa (ak (i:=0)) ac))) (af (aR aZ (aa (ak (i:=1)) ac))))) (ap (i:=0))) (aC (i:=3) rfl)) (aP (gM (ax zK (ak (i:=2)) (af (cf (ak (i:=0)) cv (bV (ap (i:=1)))))) (wG (aR Dg (aa (af (cp (ix:=[none,some 2]) rfl (dh (ap (i:=3))) (fun fs hc=>(aA (i:=0) (kR hc (by decide)))) dz (aO (c:=aT) (aa (af (ap (i:=1))) (aa (af (ap (i:=0))) ac))))) ac))))))) (fun ds Q h=>le_trans (le_of_eq (nU ds Q h)) (by decide)) vc h⟩
theorem iT:∀ds Q,bj ds Q->ds.length=1:=fun ds Q h=>by unfold bj at h;split at h;(first|rfl|exact h.elim);(first|rfl|exact h.elim)
theorem m8(D:bY K mg "check_apart" gu)(T:Txt mg)(TC:TxC K)(C'9:Cal P w K mg base 3 "is_kept" ["pieces","at"] (spP K cQ)):Cal P w K mg base 4 "check_apart" ["pieces"] (spP K bj):=by
 refine D.ok iN (fun _ _ _ _ _ _ us hl=>match us,hl with|[_],_=>rfl) (fun vs H Q E h=>?_) (fun f cdv A outer s H vs Q E hr h=>?_)
 .exact kS iT h
 .have hu:=hr.units;exact⟨_,(ao (dX PassesOwn.never rfl (cw rfl T.b_range (paC (am (bW K rfl) rfl T.b_len PySem.boot_len (paC (pv 0) ah)) ah)) (aF (i:=1) iN.nd rfl (by walk_at "o")) (ao (cK (dW (c6 (aw C'9 (hr.mono (by decide)) (paC (pv 0) (paC (pv 1) ah))))) (ao fT) aX)))),fnP (K:=K) (c:=bj) (ps:=dR) (N:=["pieces","at"]) (d0 (jY (aa (af (aR aZ (aa (ak (i:=0)) ac))) ac)) (aA (i:=1) rfl) (cN (dY (pX (aO (c:=cQ) (aa (af (ap (i:=0))) (aa (af (ap (i:=1))) ac))))) gc aY)) (fun ds Q h=>le_trans (le_of_eq (iT ds Q h)) (by decide)) mO h⟩
theorem iu:∀ds Q,bd ds Q->ds.length=2:=fun ds Q h=>by unfold bd at h;split at h;(first|rfl|exact h.elim);(first|rfl|exact h.elim)
theorem mo(D:bY K mg "check_counts" fH)(T:Txt mg)(TC:TxC K)(C'1:Cal P w K mg base 1 "is_row" ["thing"] (spP K bG))(C'3:Cal P w K mg base 2 "is_whole" ["thing","least","most"] (spP K cq)):Cal P w K mg base 3 "check_counts" ["counts","many"] (spP K bd):=by
 refine D.ok e8 (fun _ _ _ _ _ _ us hl=>match us,hl with|[_,_],_=>rfl) (fun vs H Q E h=>?_) (fun f cdv A outer s H vs Q E hr h=>?_)
 .exact kS iu h
 .have hu:=hr.units;exact⟨_,(ai (cK (dW (c6 (aw C'1 (hr.mono (by decide)) (paC (pv 0) ah)))) (ao fT) aX) (ai (dX PassesOwn.never rfl (tW K rfl rfl T.b_enumerate (paC (b9 (qy K rfl) (pv 0) di (cU (pv 1))) ah)) (jx K rfl (n:=2) rfl (bU (aF (i:=2) e8.nd rfl (by walk_at "o")) (bU (aF (i:=3) e8.nd rfl (by walk_at "o")) fU))) (ao (cK (dW (c6 (aw C'3 (hr.mono (by decide)) (paC (pv 3) (paC aq (paC (li rfl T.g_MOST_COUNT) ah)))))) (ao fT) aX))) (ao (cK (aS (oN K rfl hu) (am (bW K rfl) rfl T.b_len PySem.boot_len (paC (pv 0) ah)) (pv 1) (aV _)) (ao fT) aX)))),fnP (K:=K) (c:=bd) (ps:=dG) (N:=["counts","many","at","count"]) (ay (cN (dY (pX (aO (c:=bG) (aa (af (ap (i:=0))) ac)))) gc aY) (ay (d0 (wM (aa (af (cf (ak (i:=0)) cv (bV (ap (i:=1))))) ac)) (oO (cW (aA (i:=2) rfl) (cW (aA (i:=3) rfl) i4))) (cN (dY (pX (aO (c:=cq) (aa (af (ap (i:=3))) (aa (af le_int) (aa (af (le_int (i:=9))) ac)))))) gc aY)) (cN (f8 (ax ju (af (aR aZ (aa (ak (i:=0)) ac))) (ak (i:=1)))) gc aY))) (fun ds Q h=>le_trans (le_of_eq (iu ds Q h)) (by decide)) me h⟩
theorem mq:∀ds Q,cu ds Q->ds.length=1:=fun ds Q h=>by unfold cu at h;split at h;(first|rfl|exact h.elim);(first|rfl|exact h.elim)
theorem sP(D:bY K mg "steps_of" j6)(T:Txt mg)(TC:TxC K):Cal P w K mg base 1 "steps_of" ["counts"] (spP K cu):=by
 refine D.ok e9 (fun _ _ _ _ _ _ us hl=>match us,hl with|[_],_=>rfl) (fun vs H Q E h=>?_) (fun f cdv A outer s H vs Q E hr h=>?_)
 .exact kS mq h
 .have hu:=hr.units;exact⟨_,(ai (aN (i:=1) e9.nd rfl (by walk_at "o") (bR ah)) (ai (aN (i:=2) e9.nd rfl (by walk_at "o") aq) (ai (dX PassesOwn.never rfl (dg K rfl (pv 0)) (aF (i:=3) e9.nd rfl (by walk_at "o")) (ai (iW (jq K rfl PySem.F.plainAttrs_list PySem.F.slot_list_append PySem.F.type_list_append gX (pv 1) (paC (pv 2) ah))) (ao (B7 (i:=2) e9.nd rfl (by walk_at "o") (bo (cO K rfl) (pv 3) aq) Bp)))) (ao (aM (fi (paC (pv 1) (paC (pv 2) ah)))))))),fnP (K:=K) (c:=cu) (ps:=gD) (N:=["counts","steps","step","count"]) (ay (aI (bX ac) (aC (i:=1) rfl)) (ay (aI le_int (aC (i:=2) rfl)) (ay (d0 (dh (ap (i:=0))) (aA (i:=3) rfl) (ay (i5 (wO (i:=1) (ap (i:=2)))) (Bq (i:=2) (aC (i:=2) rfl) (ax bD (ak (i:=3)) (af le_int))))) (aP (iK (aa (af (ap (i:=1))) (aa (af (ap (i:=2))) ac))))))) (fun ds Q h=>le_trans (le_of_eq (mq ds Q h)) (by decide)) sE h⟩
theorem jN:∀p ds Q,bA p ds Q->ds.length+1=3:=fun p ds Q h=>by unfold bA at h;split at h;(first|rfl|exact h.elim);(first|rfl|exact h.elim)
theorem pM(D:tL K mg (dB K "Often") "Often" "Often.__init__" c7)(T:Txt mg)(TC:TxC K)(C'6:Cal P w K mg base 2 "all_laps" ["words"] (spP K cr))(C'10:Cal P w K mg base 4 "check_apart" ["pieces"] (spP K bj))(C'11:Cal P w K mg base 3 "check_counts" ["counts","many"] (spP K bd))(C'7:Cal P w K mg base 2 "check_pieces" ["things"] (spP K bc))(C'12:Cal P w K mg base 1 "steps_of" ["counts"] (spP K cu)):CV P w K mg base 5 (dB K "Often") "Often" ["self","pieces","counts"] (spR K bA):=by
 refine D.ok oU (fun _ _ _ _ _ _ us hl=>match us,hl with|[_,_,_],_=>rfl) (fun vs H Q E h=>?_) (fun f cdv A outer s H vs Q E hr h=>?_)
 .exact rY jN h
 .have hu:=hr.units;exact⟨_,(ai (iW (aw C'7 (hr.mono (by decide)) (paC (pv 1) ah))) (ai (iW (aw C'10 (hr.mono (by decide)) (paC (pv 1) ah))) (ai (iW (aw C'11 (hr.mono (by decide)) (paC (pv 2) (paC (am (bW K rfl) rfl T.b_len PySem.boot_len (paC (pv 1) ah)) ah)))) (ai (cK (aS zC (bQ (eS K rfl) (aw C'12 (hr.mono (by decide)) (paC (pv 2) ah)) aq (fun _ _=>rfl)) (li rfl T.g_MOST_PRODUCT) (aV _)) (ao fT) aX) (ai (tm (pv 0) (bx (gi K rfl) rfl T.b_tuple boot_tuple (paC (pv 1) ah)) rfl) (ai (tm (pv 0) (bx (gi K rfl) rfl T.b_tuple boot_tuple (paC (pv 2) ah)) rfl) (ai (tm (pv 0) (aw C'6 (hr.mono (by decide)) (paC (dL K rfl (pv 0) rfl) ah)) rfl) (ao (tm (pv 0) (am (zy K rfl rfl) rfl T.b_sum boot_sum (paC (cZ (wi:=(A8 K (bg (zn K (bL 0) "pieces") (bg (zn K (bL 0) "counts") fS)))) (g:=(BL K 2 (pZ (cT 0) (pZ (cT 1) B5)))) (tts:=lf) (te:=(tOp yB (tCB (rT K) (bg (bL 0) fS)) (bL 1))) ["piece","count"] [none,none] rfl (A9 K rfl rfl T.b_zip (paC (dL K rfl (pv 0) rfl) (paC (dL K rfl (pv 0) rfl) ah))) (fun _ _ _ _=>⟨(jx K rfl (n:=2) rfl (bU (aF (i:=0) (by show List.Nodup (["piece","count"]:List Str);decide +kernel) rfl (by walk_at "o")) (bU (aF (i:=1) (by show List.Nodup (["piece","count"]:List Str);decide +kernel) rfl (by walk_at "o")) fU))),cE,(bo i3 (am (bW K rfl) rfl T.b_len PySem.boot_len (paC (pv 0) ah)) (pv 1))⟩) (by kernel_rfl)) ah)) rfl))))))))),fnR (K:=K) (c:=bA) (ps:=eH) (N:=["self","pieces","counts"]) (ay (i5 (aO (c:=bc) (aa (af (ap (i:=1))) ac))) (ay (i5 (aO (c:=bj) (aa (af (ap (i:=1))) ac))) (ay (i5 (aO (c:=bd) (aa (af (ap (i:=2))) (aa (af (aR aZ (aa (ak (i:=1)) ac))) ac)))) (ay (cN (f8 (ax qx (af (ax bS (af (aO (c:=cu) (aa (af (ap (i:=2))) ac))) (af le_int))) (af (le_int (i:=500))))) gc aY) (ay (oI (c0:="Often") (ns0:=[]) (i:=0) TC.cl_Often TC.n_Often_pieces (by decide +kernel) (aR eF (aa (ak (i:=1)) ac))) (ay (oI (c0:="Often") (ns0:=["pieces"]) (i:=0) TC.cl_Often TC.n_Often_counts (by decide +kernel) (aR eF (aa (ak (i:=2)) ac))) (ay (oI (c0:="Often") (ns0:=["pieces","counts"]) (i:=0) TC.cl_Often TC.n_Often_laps (by decide +kernel) (aO (c:=cr) (aa (af (fN (ns0:=["pieces","counts"]) TC.cl_Often TC.n_Often_pieces (i:=0) (by decide +kernel) (ak (i:=0)))) ac))) (oI (c0:="Often") (ns0:=["pieces","counts","laps"]) (i:=0) TC.cl_Often TC.n_Often_total (by decide +kernel) (aR wQ (aa (af (cp (ix:=[none,none]) rfl (Ba (aa (af (fN (ns0:=["pieces","counts","laps"]) TC.cl_Often TC.n_Often_pieces (i:=0) (by decide +kernel) (ak (i:=0)))) (aa (af (fN (ns0:=["pieces","counts","laps"]) TC.cl_Often TC.n_Often_counts (i:=1) (by decide +kernel) (ak (i:=0)))) ac))) (fun fs hc=>(oO (cW (aA (i:=0) (kR hc (by decide))) (cW (aA (i:=1) (kR hc (by decide))) i4)))) dz (ax eY (af (aR aZ (aa (ak (i:=0)) ac))) (ak (i:=1))))) ac)))))))))) (fun p ds Q h=>le_trans (le_of_eq (jN p ds Q h)) (by decide)) o9 h⟩
theorem iU:∀ds Q,bn ds Q->ds.length=2:=fun ds Q h=>by unfold bn at h;split at h;(first|rfl|exact h.elim);(first|rfl|exact h.elim)
theorem m9(D:bY K mg "are_numbers" gv)(T:Txt mg)(TC:TxC K)(C'2:Cal P w K mg base 1 "is_number" ["thing"] (spP K bb))(C'1:Cal P w K mg base 1 "is_row" ["thing"] (spP K bG)):Cal P w K mg base 2 "are_numbers" ["thing","many"] (spP K bn):=by
 refine D.ok mM (fun _ _ _ _ _ _ us hl=>match us,hl with|[_,_],_=>rfl) (fun vs H Q E h=>?_) (fun f cdv A outer s H vs Q E hr h=>?_)
 .exact kS iU h
 .have hu:=hr.units;exact⟨_,(ao (aM (gI (aw C'1 (hr.mono (by decide)) (paC (pv 0) ah)) (gI (eh (gj K rfl hu) (am (bW K rfl) rfl T.b_len PySem.boot_len (paC (pv 0) ah)) (pv 1) (aV _)) (jl (am (wP K rfl rfl) rfl T.b_all boot_all (paC (cZ (wi:=(lj K (bL 0))) (g:=(cT 0)) (tts:=lf) (te:=(fc (spP K bb) [] E0 (bg (bL 0) fS))) ["item"] [none] rfl (dg K rfl (pv 0)) (fun _ _ _ _=>⟨(aF (i:=0) (by show List.Nodup (["item"]:List Str);decide +kernel) rfl (by walk_at "o")),cE,(aw C'2 (hr.mono (by decide)) (paC (pv 0) ah))⟩) (by kernel_rfl)) ah))))))),fnP (K:=K) (c:=bn) (ps:=dS) (N:=["thing","many"]) (aP (gM (aO (c:=bG) (aa (af (ap (i:=0))) ac)) (gM (ax dE (af (aR aZ (aa (ak (i:=0)) ac))) (ak (i:=1))) (aR qB (aa (af (cp (ix:=[none]) rfl (dh (ap (i:=0))) (fun fs hc=>(aA (i:=0) (kR hc (by decide)))) dz (aO (c:=bb) (aa (af (ap (i:=0))) ac)))) ac))))) (fun ds Q h=>le_trans (le_of_eq (iU ds Q h)) (by decide)) mQ h⟩
theorem jO:∀ds Q,br ds Q->ds.length=2:=fun ds Q h=>by unfold br at h;split at h;(first|rfl|exact h.elim);(first|rfl|exact h.elim)
theorem pN(D:bY K mg "are_prices" h7)(T:Txt mg)(TC:TxC K)(C'14:Cal P w K mg base 2 "are_numbers" ["thing","many"] (spP K bn)):Cal P w K mg base 3 "are_prices" ["thing","many"] (spP K br):=by
 refine D.ok oV (fun _ _ _ _ _ _ us hl=>match us,hl with|[_,_],_=>rfl) (fun vs H Q E h=>?_) (fun f cdv A outer s H vs Q E hr h=>?_)
 .exact kS jO h
 .have hu:=hr.units;exact⟨_,(ao (aM (gI (aw C'14 (hr.mono (by decide)) (paC (pv 0) (paC (pv 1) ah))) (jl (am (wP K rfl rfl) rfl T.b_all boot_all (paC (cZ (wi:=(lj K (bL 0))) (g:=(cT 0)) (tts:=lf) (te:=(tOp ET (bL 0) (tC (V.int 0)))) ["price"] [none] rfl (dg K rfl (pv 0)) (fun _ _ _ _=>⟨(aF (i:=0) (by show List.Nodup (["price"]:List Str);decide +kernel) rfl (by walk_at "o")),cE,(eh DX (pv 0) aq (aV _))⟩) (by kernel_rfl)) ah)))))),fnP (K:=K) (c:=br) (ps:=eI) (N:=["thing","many"]) (aP (gM (aO (c:=bn) (aa (af (ap (i:=0))) (aa (af (ap (i:=1))) ac))) (aR qB (aa (af (cp (ix:=[none]) rfl (dh (ap (i:=0))) (fun fs hc=>(aA (i:=0) (kR hc (by decide)))) dz (ax yC (ak (i:=0)) (af le_int)))) ac)))) (fun ds Q h=>le_trans (le_of_eq (jO ds Q h)) (by decide)) pd h⟩
theorem fR:∀ds Q,aU ds Q->ds.length=2:=fun ds Q h=>by unfold aU at h;split at h;(first|rfl|exact h.elim);(first|rfl|exact h.elim)
theorem km(D:bY K mg "is_price_paper" eo)(T:Txt mg)(TC:TxC K)(C'15:Cal P w K mg base 3 "are_prices" ["thing","many"] (spP K br))(C'1:Cal P w K mg base 1 "is_row" ["thing"] (spP K bG)):Cal P w K mg base 4 "is_price_paper" ["thing","many"] (spP K aU):=by
 refine D.ok ke (fun _ _ _ _ _ _ us hl=>match us,hl with|[_,_],_=>rfl) (fun vs H Q E h=>?_) (fun f cdv A outer s H vs Q E hr h=>?_)
 .exact kS fR h
 .have hu:=hr.units;exact⟨_,(ao (aM (gI (aw C'1 (hr.mono (by decide)) (paC (pv 0) ah)) (gI (eh (gj K rfl hu) (am (bW K rfl) rfl T.b_len PySem.boot_len (paC (pv 0) ah)) aq (aV _)) (jl (am (wP K rfl rfl) rfl T.b_all boot_all (paC (cZ (wi:=(lj K (bL 0))) (g:=(cT 0)) (tts:=lf) (te:=(fc (spP K br) [] E0 (bg (bL 0) (bg (bL 1) fS)))) ["row","many"] [none,some 1] rfl (dg K rfl (pv 0)) (fun _ _ _ _=>⟨(aF (i:=0) (by show List.Nodup (["row","many"]:List Str);decide +kernel) rfl (by walk_at "o")),cE,(aw C'15 (hr.mono (by decide)) (paC (pv 0) (paC (pv 1) ah)))⟩) (by kernel_rfl)) ah))))))),fnP (K:=K) (c:=aU) (ps:=df) (N:=["thing","many"]) (aP (gM (aO (c:=bG) (aa (af (ap (i:=0))) ac)) (gM (ax dE (af (aR aZ (aa (ak (i:=0)) ac))) (af le_int)) (aR qB (aa (af (cp (ix:=[none,some 1]) rfl (dh (ap (i:=0))) (fun fs hc=>(aA (i:=0) (kR hc (by decide)))) dz (aO (c:=br) (aa (af (ap (i:=0))) (aa (af (ap (i:=1))) ac))))) ac))))) (fun ds Q h=>le_trans (le_of_eq (fR ds Q h)) (by decide)) kj h⟩
theorem kI:∀ds Q,bO ds Q->ds.length=3:=fun ds Q h=>by unfold bO at h;split at h;(first|rfl|exact h.elim);(first|rfl|exact h.elim)
theorem rq(D:bY K mg "pays_laps" ja)(T:Txt mg)(TC:TxC K)(C'16:Cal P w K mg base 4 "is_price_paper" ["thing","many"] (spP K aU)):Cal P w K mg base 5 "pays_laps" ["paper","laps","pairs"] (spP K bO):=by
 refine D.ok il (fun _ _ _ _ _ _ us hl=>match us,hl with|[_,_,_],_=>rfl) (fun vs H Q E h=>?_) (fun f cdv A outer s H vs Q E hr h=>?_)
 .exact kS kI h
 .have hu:=hr.units;exact⟨_,(ai (cK (dW (c6 (aw C'16 (hr.mono (by decide)) (paC (pv 0) (paC (am (bW K rfl) rfl T.b_len PySem.boot_len (paC (pv 1) ah)) ah))))) (ao (aM kO)) aX) (ai (nh (pv 0) (jx K rfl (n:=2) rfl (bU (aF (i:=3) il.nd rfl (by walk_at "o")) (bU (aF (i:=4) il.nd rfl (by walk_at "o")) fU)))) (ao (aM (am (wP K rfl rfl) rfl T.b_all boot_all (paC (cZ (wi:=(lj K (bL 2))) (g:=(BL K 2 (pZ (cT 0) (pZ (cT 1) B5)))) (tts:=lf) (te:=(tOp ET (tOp (uY K) (tOp (uK K) (bL 2) (bL 0)) (tOp (uK K) (bL 3) (bL 1))) (tOp (uK K) (tOp (uK K) (bL 4) (bL 0)) (bL 1)))) ["i","j","gives","takes","laps"] [none,none,some 3,some 4,some 1] rfl (dg K rfl (pv 2)) (fun _ _ _ _=>⟨(jx K rfl (n:=2) rfl (bU (aF (i:=0) (by show List.Nodup (["i","j","gives","takes","laps"]:List Str);decide +kernel) rfl (by walk_at "o")) (bU (aF (i:=1) (by show List.Nodup (["i","j","gives","takes","laps"]:List Str);decide +kernel) rfl (by walk_at "o")) fU))),cE,(eh DX (bo (cO K rfl) (bQ (eS K rfl) (pv 2) (pv 0) (fun _ _=>rfl)) (bQ (eS K rfl) (pv 3) (pv 1) (fun _ _=>rfl))) (bQ (eS K rfl) (bQ (eS K rfl) (pv 4) (pv 0) (fun _ _=>rfl)) (pv 1) (fun _ _=>rfl)) (aV _))⟩) (by kernel_rfl)) ah)))))),fnP (K:=K) (c:=bO) (ps:=fm) (N:=["paper","laps","pairs","gives","takes"]) (ay (cN (dY (pX (aO (c:=aU) (aa (af (ap (i:=0))) (aa (af (aR aZ (aa (ak (i:=1)) ac))) ac))))) (aP kQ) aY) (ay (aI (ap (i:=0)) (xk (cW (aA (i:=3) rfl) (cW (aA (i:=4) rfl) i4)))) (aP (aR qB (aa (af (cp (ix:=[none,none,some 3,some 4,some 1]) rfl (dh (ap (i:=2))) (fun fs hc=>(oO (cW (aA (i:=0) (kR hc (by decide))) (cW (aA (i:=1) (kR hc (by decide))) i4)))) dz (ax yC (af (ax bD (af (ax bS (ak (i:=2)) (ak (i:=0)))) (af (ax bS (ak (i:=3)) (ak (i:=1)))))) (af (ax bS (af (ax bS (ak (i:=4)) (ak (i:=0)))) (ak (i:=1))))))) ac))))) (fun ds Q h=>le_trans (le_of_eq (kI ds Q h)) (by decide)) qZ h⟩
theorem iV:∀ds Q,aK ds Q->ds.length=2:=fun ds Q h=>by unfold aK at h;split at h;(first|rfl|exact h.elim);(first|rfl|exact h.elim)
theorem ng(D:bY K mg "often_bound" gw)(T:Txt mg)(TC:TxC K)(C'17:Cal P w K mg base 5 "pays_laps" ["paper","laps","pairs"] (spP K bO)):Cal P w K mg base 6 "often_bound" ["often","paper"] (spP K aK):=by
 refine D.ok dP (fun _ _ _ _ _ _ us hl=>match us,hl with|[_,_],_=>rfl) (fun vs H Q E h=>?_) (fun f cdv A outer s H vs Q E hr h=>?_)
 .exact kS iV h
 .have hu:=hr.units;exact⟨_,(ai (aN (i:=2) dP.nd rfl (by walk_at "o") (bx (Dk K rfl rfl) rfl T.b_list boot_list (paC (wq rfl T.b_range (paC (am (bW K rfl) rfl T.b_len PySem.boot_len (paC (dL K rfl (pv 0) rfl) ah)) ah)) ah))) (ai (cK (dW (c6 (aw C'17 (hr.mono (by decide)) (paC (pv 1) (paC (dL K rfl (pv 0) rfl) (paC (yS (wi:=(lj K (bL 2))) (g:=(cT 0)) (tts:=lf) (wi2:=(lj K (bL 2))) (g2:=(cT 1)) (tts2:=lf) (te:=(Aj (bg (bL 0) (bg (bL 1) fS)))) ["i","j","numbers"] [none,none,some 2] rfl (dg K rfl (pv 2)) (fun _ _ _ _=>⟨(aF (i:=0) (by show List.Nodup (["i","j","numbers"]:List Str);decide +kernel) rfl (by walk_at "o")),cE,(dg K rfl (pv 2)),(aF (i:=1) (by show List.Nodup (["i","j","numbers"]:List Str);decide +kernel) rfl (by walk_at "o")),cE,(fi (paC (pv 0) (paC (pv 1) ah)))⟩) (by kernel_rfl)) ah)))))) (ao (aM gW)) aX) (ai (nh (pv 1) (jx K rfl (n:=2) rfl (bU (aF (i:=3) dP.nd rfl (by walk_at "o")) (bU (aF (i:=4) dP.nd rfl (by walk_at "o")) fU)))) (ao (aM (bo qE (dL K rfl (pv 0) rfl) (am (zy K rfl rfl) rfl T.b_sum boot_sum (paC (cZ (wi:=(lj K (bL 2))) (g:=(cT 0)) (tts:=lf) (te:=(tOp yB (tOp (uK K) (zn K (bL 1) "counts") (bL 0)) (tOp (uY K) (tOp (uK K) (bL 2) (bL 0)) (tOp (uK K) (bL 3) (bL 0))))) ["i","often","gives","takes"] [none,some 0,some 3,some 4] rfl (dg K rfl (pv 2)) (fun _ _ _ _=>⟨(aF (i:=0) (by show List.Nodup (["i","often","gives","takes"]:List Str);decide +kernel) rfl (by walk_at "o")),cE,(bo i3 (bQ (eS K rfl) (dL K rfl (pv 1) rfl) (pv 0) (fun _ _=>rfl)) (bo (cO K rfl) (bQ (eS K rfl) (pv 2) (pv 0) (fun _ _=>rfl)) (bQ (eS K rfl) (pv 3) (pv 0) (fun _ _=>rfl))))⟩) (by kernel_rfl)) ah)))))))),fnP (K:=K) (c:=aK) (ps:=dU) (N:=["often","paper","numbers","gives","takes"]) (ay (aI (yG false (aa (af (aR aZ (aa (af (fN (ns0:=["pieces","counts","laps","total"]) TC.cl_Often TC.n_Often_pieces (i:=0) (by decide +kernel) (ak (i:=0)))) ac))) ac)) (aC (i:=2) rfl)) (ay (cN (dY (pX (aO (c:=bO) (aa (af (ap (i:=1))) (aa (af (fN (ns0:=["pieces","counts","laps","total"]) TC.cl_Often TC.n_Often_laps (i:=2) (by decide +kernel) (ak (i:=0)))) (aa (af (yT (ix:=[none,none,some 2]) rfl (dh (ap (i:=2))) (fun fs hc=>(aA (i:=0) (kR hc (by decide)))) dz (dh (ap (i:=2))) (fun fs hc=>(aA (i:=1) (kR hc (by decide)))) dz (iK (aa (af (ap (i:=0))) (aa (af (ap (i:=1))) ac))))) ac)))))) (aP gZ) aY) (ay (aI (ap (i:=1)) (xk (cW (aA (i:=3) rfl) (cW (aA (i:=4) rfl) i4)))) (aP (ax kr (af (fN (ns0:=["pieces","counts","laps","total"]) TC.cl_Often TC.n_Often_total (i:=3) (by decide +kernel) (ak (i:=0)))) (af (aR wQ (aa (af (cp (ix:=[none,some 0,some 3,some 4]) rfl (dh (ap (i:=2))) (fun fs hc=>(aA (i:=0) (kR hc (by decide)))) dz (ax eY (af (ax bS (af (fN (ns0:=["pieces","counts","laps","total"]) TC.cl_Often TC.n_Often_counts (i:=1) (by decide +kernel) (ak (i:=1)))) (ak (i:=0)))) (af (ax bD (af (ax bS (ak (i:=2)) (ak (i:=0)))) (af (ax bS (ak (i:=3)) (ak (i:=0))))))))) ac)))))))) (fun ds Q h=>le_trans (le_of_eq (iV ds Q h)) (by decide)) mS h⟩
theorem jP:∀ds Q,bB ds Q->ds.length=2:=fun ds Q h=>by unfold bB at h;split at h;(first|rfl|exact h.elim);(first|rfl|exact h.elim)
theorem pO(D:bY K mg "_law_stream" ia)(T:Txt mg)(TC:TxC K):Cal P w K mg base 1 "_law_stream" ["_law_script","_law_k"] (spP K bB):=by
 refine D.ok gy (fun _ _ _ _ _ _ us hl=>match us,hl with|[_,_],_=>rfl) (fun vs H Q E h=>?_) (fun f cdv A outer s H vs Q E hr h=>?_)
 .exact kS jP h
 .have hu:=hr.units;exact⟨_,(ai (aN (i:=2) gy.nd rfl (by walk_at "o") (bo (cO K rfl) (bo i3 aq (pv 1)) aq)) (ai (fW (cK (aS zC (am (bW K rfl) rfl T.b_len PySem.boot_len (paC (pv 0) ah)) aq (aV _)) (ao (aN (i:=2) gy.nd rfl (by walk_at "o") (am EK rfl T.b_abs boot_abs (paC (bQ (eS K rfl) (pv 0) (bo uN (pv 1) (am (bW K rfl) rfl T.b_len PySem.boot_len (paC (pv 0) ah))) (fun _ _=>rfl)) ah)))) aX)) (ao (aM (bR (paC (pv 2) (paC (bo (cO K rfl) (bo (cO K rfl) (bo uN (pv 2) aq) (bo i3 aq (pv 1))) aq) ah))))))),fnP (K:=K) (c:=bB) (ps:=eJ) (N:=["_law_script","_law_k","_law_cell"]) (ay (aI (ax bD (af (ax eY (af le_int) (ak (i:=1)))) (af le_int)) (aC (i:=2) rfl)) (ay (gf (cN (f8 (ax qx (af (aR aZ (aa (ak (i:=0)) ac))) (af le_int))) (aI (aR De (aa (af (ax bS (ak (i:=0)) (af (ax nt (ak (i:=1)) (af (aR aZ (aa (ak (i:=0)) ac))))))) ac)) (aC (i:=2) rfl)) aY)) (aP (bX (aa (af (ap (i:=2))) (aa (af (ax bD (af (ax bD (af (ax nt (ak (i:=2)) (af le_int))) (af (ax eY (af le_int) (ak (i:=1)))))) (af le_int))) ac)))))) (fun ds Q h=>le_trans (le_of_eq (jP ds Q h)) (by decide)) px h⟩
theorem mr:∀p ds Q,al p ds Q->ds.length+1=2:=fun p ds Q h=>by unfold al at h;split at h;(first|rfl|exact h.elim);(first|rfl|exact h.elim)
theorem sQ(D:bY K mg "_law_next" j7)(T:Txt mg)(TC:TxC K):Cal P w K mg base 1 "_law_next" ["_law_stream_here","_law_many"] (spR K al):=by
 refine D.ok lY (fun _ _ _ _ _ _ us hl=>match us,hl with|[_,_],_=>rfl) (fun vs H Q E h=>?_) (fun f cdv A outer s H vs Q E hr h=>?_)
 .exact rY mr h
 .have hu:=hr.units;exact⟨_,(ai (cK (aS zC (bQ (eS K rfl) (pv 0) aq (fun _ _=>rfl)) aq (aV _)) (ai (aN (i:=2) lY.nd rfl (by walk_at "o") (bo uN (bQ (eS K rfl) (pv 0) aq (fun _ _=>rfl)) (pv 1))) (ai (i8 (bo tV (bQ (eS K rfl) (pv 0) aq (fun _ _=>rfl)) (pv 1)) (lr (pv 0) aq eC)) (ao (aM (pv 2))))) aX) (ai (i8 (bo uN (bo (cO K rfl) (bo i3 (bQ (eS K rfl) (pv 0) aq (fun _ _=>rfl)) aq) aq) aq) (lr (pv 0) aq eC)) (ao (aM (bo uN (bo tV (bo uN (bo i3 (bQ (eS K rfl) (pv 0) aq (fun _ _=>rfl)) (bQ (eS K rfl) (pv 0) aq (fun _ _=>rfl))) aq) aq) (pv 1)))))),fnR (K:=K) (c:=al) (ps:=gE) (N:=["_law_stream_here","_law_many","_law_digit"]) (ay (cN (f8 (ax qx (af (ax bS (ak (i:=0)) (af le_int))) (af le_int))) (ay (aI (ax nt (af (ax bS (ak (i:=0)) (af le_int))) (ak (i:=1))) (aC (i:=2) rfl)) (ay (i6 (i:=0) (ax oz (af (ax bS (ak (i:=0)) (af le_int))) (ak (i:=1))) le_int) (aP (ap (i:=2))))) aY) (ay (i6 (i:=0) (ax nt (af (ax bD (af (ax eY (af (ax bS (ak (i:=0)) (af le_int))) (af le_int))) (af le_int))) (af le_int)) le_int) (aP (ax nt (af (ax oz (af (ax nt (af (ax eY (af (ax bS (ak (i:=0)) (af le_int))) (af (ax bS (ak (i:=0)) (af le_int))))) (af le_int))) (af le_int))) (ak (i:=1)))))) (fun p ds Q h=>le_trans (le_of_eq (mr p ds Q h)) (by decide)) sF h⟩
theorem mw:∀p ds Q,bE p ds Q->ds.length+1=3:=fun p ds Q h=>by unfold bE at h;split at h;(first|rfl|exact h.elim);(first|rfl|exact h.elim)
theorem sR(D:bY K mg "_law_word" j8)(T:Txt mg)(TC:TxC K)(C'20:Cal P w K mg base 1 "_law_next" ["_law_stream_here","_law_many"] (spR K al)):Cal P w K mg base 2 "_law_word" ["_law_stream_here","_law_letters","_law_most"] (spR K bE):=by
 refine D.ok sx (fun _ _ _ _ _ _ us hl=>match us,hl with|[_,_,_],_=>rfl) (fun vs H Q E h=>?_) (fun f cdv A outer s H vs Q E hr h=>?_)
 .exact rY mw h
 .have hu:=hr.units;exact⟨_,(ao (aM (jq K rfl PySem.F.plainAttrs_str PySem.F.slot_str_join PySem.F.type_str_join (yL K rfl) (du (l:=[]) (by decide +kernel)) (paC (cZ (wi:=(vz (bg (tOp (uY K) (tC (V.int 1)) (fc (spR K al) [] E0 (bg (bL 0) (bg (bL 2) fS)))) fS))) (g:=(cT 0)) (tts:=lf) (te:=(tOp (uK K) (bL 1) (fc (spR K al) [] E0 (bg (bL 2) (bg (tCB (rT K) (bg (bL 1) fS)) fS))))) ["_law_k","_law_letters","_law_stream_here"] [none,some 1,some 0] rfl (cw rfl T.b_range (paC (bo (cO K rfl) aq (aw C'20 (hr.mono (by decide)) (paC (pv 0) (paC (pv 2) ah)))) ah)) (fun _ _ _ _=>⟨(aF (i:=0) (by show List.Nodup (["_law_k","_law_letters","_law_stream_here"]:List Str);decide +kernel) rfl (by walk_at "o")),cE,(bQ (eS K rfl) (pv 1) (aw C'20 (hr.mono (by decide)) (paC (pv 2) (paC (am (bW K rfl) rfl T.b_len PySem.boot_len (paC (pv 1) ah)) ah))) (fun _ _=>rfl))⟩) (by kernel_rfl)) ah)))),fnR (K:=K) (c:=bE) (ps:=gF) (N:=["_law_stream_here","_law_letters","_law_most"]) (aP (yH yM (le_str (l:=[])) (aa (af (cp (ix:=[none,some 1,some 0]) rfl (jY (aa (af (ax bD (af le_int) (af (aD (i:=0) (aa (af (ap (i:=2))) ac))))) ac)) (fun fs hc=>(aA (i:=0) (kR hc (by decide)))) dz (ax bS (ak (i:=1)) (af (aD (i:=2) (aa (af (aR aZ (aa (ak (i:=1)) ac))) ac)))))) ac))) (fun p ds Q h=>le_trans (le_of_eq (mw p ds Q h)) (by decide)) sG h⟩
theorem nV:∀p ds Q,de p ds Q->ds.length+1=3:=fun p ds Q h=>by unfold de at h;split at h;(first|rfl|exact h.elim);(first|rfl|exact h.elim)
theorem vj(D:bY K mg "_law_cut" lU)(T:Txt mg)(TC:TxC K)(C'20:Cal P w K mg base 1 "_law_next" ["_law_stream_here","_law_many"] (spR K al)):Cal P w K mg base 2 "_law_cut" ["_law_stream_here","_law_text","_law_most"] (spR K de):=by
 refine D.ok nJ (fun _ _ _ _ _ _ us hl=>match us,hl with|[_,_,_],_=>rfl) (fun vs H Q E h=>?_) (fun f cdv A outer s H vs Q E hr h=>?_)
 .exact rY nV h
 .have hu:=hr.units;exact⟨_,(ai (aN (i:=3) nJ.nd rfl (by walk_at "o") (aw C'20 (hr.mono (by decide)) (paC (pv 0) (paC (am (bW K rfl) rfl T.b_len PySem.boot_len (paC (pv 1) ah)) ah)))) (ao (aM (b9 (qy K rfl) (pv 1) (cU (pv 3)) (cU (bo (cO K rfl) (bo (cO K rfl) (pv 3) aq) (aw C'20 (hr.mono (by decide)) (paC (pv 0) (paC (pv 2) ah))))))))),fnR (K:=K) (c:=de) (ps:=iC) (N:=["_law_stream_here","_law_text","_law_most","_law_at"]) (ay (aI (aD (i:=0) (aa (af (aR aZ (aa (ak (i:=1)) ac))) ac)) (aC (i:=3) rfl)) (aP (cf (ak (i:=1)) (bV (ap (i:=3))) (bV (ax bD (af (ax bD (ak (i:=3)) (af le_int))) (af (aD (i:=0) (aa (af (ap (i:=2))) ac)))))))) (fun p ds Q h=>le_trans (le_of_eq (nV p ds Q h)) (by decide)) vd h⟩
theorem my:∀p ds Q,cL p ds Q->ds.length+1=2:=fun p ds Q h=>by unfold cL at h;split at h;(first|rfl|exact h.elim);(first|rfl|exact h.elim)
theorem sS(D:bY K mg "_law_base" j9)(T:Txt mg)(TC:TxC K)(C'20:Cal P w K mg base 1 "_law_next" ["_law_stream_here","_law_many"] (spR K al))(C'21:Cal P w K mg base 2 "_law_word" ["_law_stream_here","_law_letters","_law_most"] (spR K bE)):Cal P w K mg base 3 "_law_base" ["_law_stream_here","_law_most"] (spR K cL):=by
 refine D.ok gA (fun _ _ _ _ _ _ us hl=>match us,hl with|[_,_],_=>rfl) (fun vs H Q E h=>?_) (fun f cdv A outer s H vs Q E hr h=>?_)
 .exact rY my h
 .have hu:=hr.units;exact⟨_,(ai (aN (i:=2) gA.nd rfl (by walk_at "o") (bQ (eS K rfl) (bR (paC (du (l:=[97,98]) (by decide +kernel)) (paC (du (l:=[97,98,99]) (by decide +kernel)) (paC (du (l:=[97,98,99,100,101,102,103,104,105,106,107,108,109,110,111,112,113,114,115,116,117,118,119,120,121,122]) (by decide +kernel)) ah)))) (aw C'20 (hr.mono (by decide)) (paC (pv 0) (paC aq ah))) (fun _ _=>rfl))) (ai (aN (i:=3) gA.nd rfl (by walk_at "o") (aw C'21 (hr.mono (by decide)) (paC (pv 0) (paC (pv 2) (paC (bo i3 aq (pv 1)) ah))))) (ai (fW (cK (aS (gj K rfl hu) (aw C'20 (hr.mono (by decide)) (paC (pv 0) (paC aq ah))) aq (aV _)) (ao (aN (i:=3) gA.nd rfl (by walk_at "o") (bo i3 (b9 (qy K rfl) (pv 3) di (cU (bo (cO K rfl) aq (aw C'20 (hr.mono (by decide)) (paC (pv 0) (paC aq ah)))))) (pv 1)))) aX)) (ao (aM (fi (paC (pv 2) (paC (pv 3) ah)))))))),fnR (K:=K) (c:=cL) (ps:=gG) (N:=["_law_stream_here","_law_most","_law_letters","_law_base_here"]) (ay (aI (ax bS (af (bX (aa (af (le_str (l:=[97,98]))) (aa (af (le_str (l:=[97,98,99]))) (aa (af (le_str (l:=[97,98,99,100,101,102,103,104,105,106,107,108,109,110,111,112,113,114,115,116,117,118,119,120,121,122]))) ac))))) (af (aD (i:=0) (aa (af le_int) ac)))) (aC (i:=2) rfl)) (ay (aI (aD (i:=0) (aa (af (ap (i:=2))) (aa (af (ax eY (af le_int) (ak (i:=1)))) ac))) (aC (i:=3) rfl)) (ay (gf (cN (f8 (ax dE (af (aD (i:=0) (aa (af le_int) ac))) (af le_int))) (aI (ax eY (af (cf (ak (i:=3)) cv (bV (ax bD (af le_int) (af (aD (i:=0) (aa (af le_int) ac))))))) (ak (i:=1))) (aC (i:=3) rfl)) aY)) (aP (iK (aa (af (ap (i:=2))) (aa (af (ap (i:=3))) ac))))))) (fun p ds Q h=>le_trans (le_of_eq (my p ds Q h)) (by decide)) sI h⟩
theorem jQ:∀p ds Q,bI p ds Q->ds.length+1=3:=fun p ds Q h=>by unfold bI at h;split at h;(first|rfl|exact h.elim);(first|rfl|exact h.elim)
theorem pP(D:bY K mg "_law_pieces" ib)(T:Txt mg)(TC:TxC K)(C'23:Cal P w K mg base 3 "_law_base" ["_law_stream_here","_law_most"] (spR K cL))(C'22:Cal P w K mg base 2 "_law_cut" ["_law_stream_here","_law_text","_law_most"] (spR K de))(C'20:Cal P w K mg base 1 "_law_next" ["_law_stream_here","_law_many"] (spR K al))(C'21:Cal P w K mg base 2 "_law_word" ["_law_stream_here","_law_letters","_law_most"] (spR K bE)):Cal P w K mg base 4 "_law_pieces" ["_law_stream_here","_law_many","_law_most"] (spR K bI):=by
 refine D.ok bH (fun _ _ _ _ _ _ us hl=>match us,hl with|[_,_,_],_=>rfl) (fun vs H Q E h=>?_) (fun f cdv A outer s H vs Q E hr h=>?_)
 .exact rY jQ h
 .have hu:=hr.units;exact⟨_,(ai (nh (aw C'23 (hr.mono (by decide)) (paC (pv 0) (paC (pv 2) ah))) (jx K rfl (n:=2) rfl (bU (aF (i:=3) bH.nd rfl (by walk_at "o")) (bU (aF (i:=4) bH.nd rfl (by walk_at "o")) fU)))) (ai (aN (i:=5) bH.nd rfl (by walk_at "o") (bR ah)) (ai (dX PassesOwn.never rfl (cw rfl T.b_range (paC (pv 1) ah)) (aF (i:=6) bH.nd rfl (by walk_at "o")) (ai (aN (i:=7) bH.nd rfl (by walk_at "o") (aw C'20 (hr.mono (by decide)) (paC (pv 0) (paC aq ah)))) (ai (fW (cK (aS (gj K rfl hu) (pv 7) aq (aV _)) (ao (aN (i:=8) bH.nd rfl (by walk_at "o") (aw C'21 (hr.mono (by decide)) (paC (pv 0) (paC (pv 3) (paC (pv 2) ah)))))) (ao (cK (aS (gj K rfl hu) (pv 7) aq (aV _)) (ao (aN (i:=8) bH.nd rfl (by walk_at "o") (bo i3 (aw C'21 (hr.mono (by decide)) (paC (pv 0) (paC (pv 3) (paC aq ah)))) (pv 2)))) (ao (aN (i:=8) bH.nd rfl (by walk_at "o") (aw C'22 (hr.mono (by decide)) (paC (pv 0) (paC (pv 4) (paC (pv 2) ah)))))))))) (ao (iW (jq K rfl PySem.F.plainAttrs_list PySem.F.slot_list_append PySem.F.type_list_append gX (pv 5) (paC (b9 (qy K rfl) (pv 8) di (cU (pv 2))) ah))))))) (ao (aM (pv 5)))))),fnR (K:=K) (c:=bI) (ps:=eL) (N:=["_law_stream_here","_law_many","_law_most","_law_letters","_law_base_here","_law_found","_law_k","_law_way","_law_piece"]) (ay (aI (aD (i:=0) (aa (af (ap (i:=2))) ac)) (xk (cW (aA (i:=3) rfl) (cW (aA (i:=4) rfl) i4)))) (ay (aI (bX ac) (aC (i:=5) rfl)) (ay (d0 (jY (aa (af (ap (i:=1))) ac)) (aA (i:=6) rfl) (ay (aI (aD (i:=0) (aa (af le_int) ac)) (aC (i:=7) rfl)) (ay (gf (cN (f8 (ax dE (ak (i:=7)) (af le_int))) (aI (aD (i:=0) (aa (af (ap (i:=3))) (aa (af (ap (i:=2))) ac))) (aC (i:=8) rfl)) (cN (f8 (ax dE (ak (i:=7)) (af le_int))) (aI (ax eY (af (aD (i:=0) (aa (af (ap (i:=3))) (aa (af le_int) ac)))) (ak (i:=2))) (aC (i:=8) rfl)) (aI (aD (i:=0) (aa (af (ap (i:=4))) (aa (af (ap (i:=2))) ac))) (aC (i:=8) rfl))))) (i5 (wO (i:=5) (cf (ak (i:=8)) cv (bV (ap (i:=2))))))))) (aP (ap (i:=5)))))) (fun p ds Q h=>le_trans (le_of_eq (jQ p ds Q h)) (by decide)) pz h⟩
theorem jR:∀ds Q,bt ds Q->ds.length=2:=fun ds Q h=>by unfold bt at h;split at h;(first|rfl|exact h.elim);(first|rfl|exact h.elim)
theorem pQ(D:bY K mg "_law_within" ic)(T:Txt mg)(TC:TxC K):Cal P w K mg base 1 "_law_within" ["_law_pieces_here","_law_k"] (spP K bt):=by
 refine D.ok jA (fun _ _ _ _ _ _ us hl=>match us,hl with|[_,_],_=>rfl) (fun vs H Q E h=>?_) (fun f cdv A outer s H vs Q E hr h=>?_)
 .exact kS jR h
 .have hu:=hr.units;exact⟨_,(ai (dX PassesOwn.never rfl (dg K rfl (pv 0)) (aF (i:=2) jA.nd rfl (by walk_at "o")) (ao (cK (PW.pt (vv (aS zC (am (bW K rfl) rfl T.b_len PySem.boot_len (paC (pv 2) ah)) (am (bW K rfl) rfl T.b_len PySem.boot_len (paC (bQ (eS K rfl) (pv 0) (pv 1) (fun _ _=>rfl)) ah)) (aV _)) (rJ (aS DX (jq K rfl PySem.F.plainAttrs_str PySem.F.slot_str_find PySem.F.type_str_find tR (pv 2) (paC (bQ (eS K rfl) (pv 0) (pv 1) (fun _ _=>rfl)) ah)) aq (aV _))))) (ao (aM kO)) aX))) (ao (aM (eh (E2 K rfl) (bQ (eS K rfl) (pv 0) (pv 1) (fun _ _=>rfl)) (b9 (qy K rfl) (pv 0) di (cU (pv 1))) (by with_unfolding_all rfl))))),fnP (K:=K) (c:=bt) (ps:=eM) (N:=["_law_pieces_here","_law_k","_law_other_here"]) (ay (d0 (dh (ap (i:=0))) (aA (i:=2) rfl) (cN (wF (f8 (ax qx (af (aR aZ (aa (ak (i:=2)) ac))) (af (aR aZ (aa (af (ax bS (ak (i:=0)) (ak (i:=1)))) ac))))) (f8 (ax yC (af (yH tT (ap (i:=2)) (aa (af (ax bS (ak (i:=0)) (ak (i:=1)))) ac))) (af le_int)))) (aP kQ) aY)) (aP (ax zK (af (ax bS (ak (i:=0)) (ak (i:=1)))) (af (cf (ak (i:=0)) cv (bV (ap (i:=1)))))))) (fun ds Q h=>le_trans (le_of_eq (jR ds Q h)) (by decide)) pA h⟩
theorem kJ:∀p ds Q,cj p ds Q->ds.length+1=3:=fun p ds Q h=>by unfold cj at h;split at h;(first|rfl|exact h.elim);(first|rfl|exact h.elim)
theorem rz(D:bY K mg "_law_apart" jb)(T:Txt mg)(TC:TxC K)(C'24:Cal P w K mg base 4 "_law_pieces" ["_law_stream_here","_law_many","_law_most"] (spR K bI))(C'25:Cal P w K mg base 1 "_law_within" ["_law_pieces_here","_law_k"] (spP K bt)):Cal P w K mg base 5 "_law_apart" ["_law_stream_here","_law_many","_law_most"] (spR K cj):=by
 refine D.ok ky (fun _ _ _ _ _ _ us hl=>match us,hl with|[_,_,_],_=>rfl) (fun vs H Q E h=>?_) (fun f cdv A outer s H vs Q E hr h=>?_)
 .exact rY kJ h
 .have hu:=hr.units;exact⟨_,(ai (aN (i:=3) ky.nd rfl (by walk_at "o") (aw C'24 (hr.mono (by decide)) (paC (pv 0) (paC (pv 1) (paC (pv 2) ah))))) (ao (aM (cZ (wi:=(vz (bg (tCB (rT K) (bg (bL 3) fS)) fS))) (g:=(cT 0)) (tts:=(DQ (tB (fc (spP K bt) [] E0 (bg (bL 1) (bg (bL 0) fS)))))) (te:=(tOp (uK K) (bL 1) (bL 0))) ["_law_k","_law_pieces_here"] [none,some 3] rfl (cw rfl T.b_range (paC (am (bW K rfl) rfl T.b_len PySem.boot_len (paC (pv 3) ah)) ah)) (fun _ _ _ _=>⟨(aF (i:=0) (by show List.Nodup (["_law_k","_law_pieces_here"]:List Str);decide +kernel) rfl (by walk_at "o")),(rN (dW (c6 (aw C'25 (hr.mono (by decide)) (paC (pv 1) (paC (pv 0) ah)))))),(bQ (eS K rfl) (pv 1) (pv 0) (fun _ _=>rfl))⟩) (by kernel_rfl))))),fnR (K:=K) (c:=cj) (ps:=fo) (N:=["_law_stream_here","_law_many","_law_most","_law_pieces_here"]) (ay (aI (aD (i:=0) (aa (af (ap (i:=1))) (aa (af (ap (i:=2))) ac))) (aC (i:=3) rfl)) (aP (cp (ix:=[none,some 3]) rfl (jY (aa (af (aR aZ (aa (ak (i:=3)) ac))) ac)) (fun fs hc=>(aA (i:=0) (kR hc (by decide)))) (dY (pX (aO (c:=bt) (aa (af (ap (i:=1))) (aa (af (ap (i:=0))) ac))))) (ax bS (ak (i:=1)) (ak (i:=0)))))) (fun p ds Q h=>le_trans (le_of_eq (kJ p ds Q h)) (by decide)) re h⟩
theorem jS:∀p ds Q,bJ p ds Q->ds.length+1=3:=fun p ds Q h=>by unfold bJ at h;split at h;(first|rfl|exact h.elim);(first|rfl|exact h.elim)
theorem pR(D:bY K mg "_law_counts" ie)(T:Txt mg)(TC:TxC K)(C'20:Cal P w K mg base 1 "_law_next" ["_law_stream_here","_law_many"] (spR K al)):Cal P w K mg base 2 "_law_counts" ["_law_stream_here","_law_many","_law_most"] (spR K bJ):=by
 refine D.ok oW (fun _ _ _ _ _ _ us hl=>match us,hl with|[_,_,_],_=>rfl) (fun vs H Q E h=>?_) (fun f cdv A outer s H vs Q E hr h=>?_)
 .exact rY jS h
 .have hu:=hr.units;exact⟨_,(ao (aM (cZ (wi:=(vz (bg (bL 1) fS))) (g:=(cT 0)) (tts:=lf) (te:=(tOp (uY K) (tC (V.int 1)) (fc (spR K al) [] E0 (bg (bL 1) (bg (bL 2) fS))))) ["_law_k","_law_stream_here","_law_most"] [none,some 0,some 2] rfl (cw rfl T.b_range (paC (pv 1) ah)) (fun _ _ _ _=>⟨(aF (i:=0) (by show List.Nodup (["_law_k","_law_stream_here","_law_most"]:List Str);decide +kernel) rfl (by walk_at "o")),cE,(bo (cO K rfl) aq (aw C'20 (hr.mono (by decide)) (paC (pv 1) (paC (pv 2) ah))))⟩) (by kernel_rfl)))),fnR (K:=K) (c:=bJ) (ps:=eN) (N:=["_law_stream_here","_law_many","_law_most"]) (aP (cp (ix:=[none,some 0,some 2]) rfl (jY (aa (af (ap (i:=1))) ac)) (fun fs hc=>(aA (i:=0) (kR hc (by decide)))) dz (ax bD (af le_int) (af (aD (i:=1) (aa (af (ap (i:=2))) ac)))))) (fun p ds Q h=>le_trans (le_of_eq (jS p ds Q h)) (by decide)) pE h⟩
theorem nW:∀ds Q,bv ds Q->ds.length=2:=fun ds Q h=>by unfold bv at h;split at h;(first|rfl|exact h.elim);(first|rfl|exact h.elim)
theorem vk(D:bY K mg "_law_lap" lV)(T:Txt mg)(TC:TxC K):Cal P w K mg base 1 "_law_lap" ["_law_one","_law_other_here"] (spP K bv):=by
 refine D.ok nK (fun _ _ _ _ _ _ us hl=>match us,hl with|[_,_],_=>rfl) (fun vs H Q E h=>?_) (fun f cdv A outer s H vs Q E hr h=>?_)
 .exact kS nW h
 .have hu:=hr.units;exact⟨_,(ai (dX PassesOwn.never rfl (qi rfl T.b_range (paC (bo qE (am (tP rfl) rfl T.b_min boot_min (paC (am (bW K rfl) rfl T.b_len PySem.boot_len (paC (pv 0) ah)) (paC (am (bW K rfl) rfl T.b_len PySem.boot_len (paC (pv 1) ah)) ah))) aq) (paC aq (paC (Ac vC aq) ah)))) (aF (i:=2) nK.nd rfl (by walk_at "o")) (ao (cK (aS (gj K rfl hu) (b9 (qy K rfl) (pv 0) (cU (bo qE (am (bW K rfl) rfl T.b_len PySem.boot_len (paC (pv 0) ah)) (pv 2))) di) (b9 (qy K rfl) (pv 1) di (cU (pv 2))) (aV _)) (ao (aM (pv 2))) aX))) (ao (aM aq))),fnP (K:=K) (c:=bv) (ps:=iD) (N:=["_law_one","_law_other_here","_law_k"]) (ay (d0 (C7 (aa (af (ax kr (af (aR oF (aa (af (aR aZ (aa (ak (i:=0)) ac))) (aa (af (aR aZ (aa (ak (i:=1)) ac))) ac)))) (af le_int))) (aa (af le_int) (aa (af (AO wS (af le_int))) ac)))) (aA (i:=2) rfl) (cN (f8 (ax dE (af (cf (ak (i:=0)) (bV (ax kr (af (aR aZ (aa (ak (i:=0)) ac))) (ak (i:=2)))) cv)) (af (cf (ak (i:=1)) cv (bV (ap (i:=2))))))) (aP (ap (i:=2))) aY)) (aP le_int)) (fun ds Q h=>le_trans (le_of_eq (nW ds Q h)) (by decide)) ve h⟩
theorem kK:∀ds Q,aQ ds Q->ds.length=1:=fun ds Q h=>by unfold aQ at h;split at h;(first|rfl|exact h.elim);(first|rfl|exact h.elim)
theorem rA(D:bY K mg "_law_whole" jc)(T:Txt mg)(TC:TxC K):Cal P w K mg base 1 "_law_whole" ["_law_found"] (spP K aQ):=by
 refine D.ok qR (fun _ _ _ _ _ _ us hl=>match us,hl with|[_],_=>rfl) (fun vs H Q E h=>?_) (fun f cdv A outer s H vs Q E hr h=>?_)
 .exact kS kK h
 .have hu:=hr.units;exact⟨_,(ao (aM (gI (am (wI K rfl) rfl T.b_isinstance boot_isinstance (paC (pv 0) (paC (eV (v:=.ty "int") rfl T.b_int boot_int rfl) ah))) (jl (vw (am (wI K rfl) rfl T.b_isinstance boot_isinstance (paC (pv 0) (paC (eV (v:=.ty "bool") rfl T.b_bool boot_bool rfl) ah)))))))),fnP (K:=K) (c:=aQ) (ps:=fq) (N:=["_law_found"]) (aP (gM (qz .int (ak (i:=0))) (wG (qz .bool (ak (i:=0)))))) (fun ds Q h=>le_trans (le_of_eq (kK ds Q h)) (by decide)) rf h⟩
theorem iw:∀p ds Q,bu p ds Q->ds.length+1=2:=fun p ds Q h=>by unfold bu at h;split at h;(first|rfl|exact h.elim);(first|rfl|exact h.elim)
theorem mB(D:bY K mg "_law_shuffled" fJ)(T:Txt mg)(TC:TxC K)(C'20:Cal P w K mg base 1 "_law_next" ["_law_stream_here","_law_many"] (spR K al)):Cal P w K mg base 2 "_law_shuffled" ["_law_stream_here","_law_row_here"] (spR K bu):=by
 refine D.ok fb (fun _ _ _ _ _ _ us hl=>match us,hl with|[_,_],_=>rfl) (fun vs H Q E h=>?_) (fun f cdv A outer s H vs Q E hr h=>?_)
 .exact rY iw h
 .have hu:=hr.units;exact⟨_,(ai (aN (i:=2) fb.nd rfl (by walk_at "o") (bx (tQ K rfl) rfl T.b_list boot_list (paC (pv 1) ah))) (ai (aN (i:=3) fb.nd rfl (by walk_at "o") (bR ah)) (ai (sX PassesOwn.never (aS (oN K rfl hu) (pv 2) (bR ah) (aV _)) (ao (iW (jq K rfl PySem.F.plainAttrs_list PySem.F.slot_list_append PySem.F.type_list_append gX (pv 3) (paC (jq K rfl PySem.F.plainAttrs_list PySem.F.slot_list_pop PySem.F.type_list_pop yj (pv 2) (paC (aw C'20 (hr.mono (by decide)) (paC (pv 0) (paC (am (bW K rfl) rfl T.b_len PySem.boot_len (paC (pv 2) ah)) ah))) ah)) ah))))) (ao (aM (pv 3)))))),fnR (K:=K) (c:=bu) (ps:=dH) (N:=["_law_stream_here","_law_row_here","_law_left","_law_found"]) (ay (aI (aR oG (aa (ak (i:=1)) ac)) (aC (i:=2) rfl)) (ay (aI (bX ac) (aC (i:=3) rfl)) (ay (tO (f8 (ax ju (ak (i:=2)) (af (bX ac)))) (i5 (wO (i:=3) (yR (i:=2) (aD (i:=0) (aa (af (aR aZ (aa (ak (i:=2)) ac))) ac)))))) (aP (t6 (ap (i:=3))))))) (fun p ds Q h=>le_trans (le_of_eq (iw p ds Q h)) (by decide)) mj h⟩
theorem jT:∀p ds Q,bK p ds Q->ds.length+1=4:=fun p ds Q h=>by unfold bK at h;split at h;(first|rfl|exact h.elim);(first|rfl|exact h.elim)
theorem pS(D:bY K mg "_law_lesser" ig)(T:Txt mg)(TC:TxC K)(C'20:Cal P w K mg base 1 "_law_next" ["_law_stream_here","_law_many"] (spR K al)):Cal P w K mg base 2 "_law_lesser" ["_law_stream_here","_law_one","_law_other_here","_law_many"] (spR K bK):=by
 refine D.ok jB (fun _ _ _ _ _ _ us hl=>match us,hl with|[_,_,_,_],_=>rfl) (fun vs H Q E h=>?_) (fun f cdv A outer s H vs Q E hr h=>?_)
 .exact rY jT h
 .have hu:=hr.units;exact⟨_,(ai (sX PassesOwn.never (aS zC (pv 3) aq (aV _)) (ai (cK (PW.pt (vv (aS (gj K rfl hu) (b9 (qy K rfl) (pv 1) (cU (bo qE (am (bW K rfl) rfl T.b_len PySem.boot_len (paC (pv 1) ah)) (pv 3))) di) (b9 (qy K rfl) (pv 2) di (cU (pv 3))) (aV _)) (rJ (aS (gj K rfl hu) (aw C'20 (hr.mono (by decide)) (paC (pv 0) (paC aq ah))) aq (aV _))))) (ao (aM (pv 3))) aX) (ao (aN (i:=3) jB.nd rfl (by walk_at "o") (bo qE (pv 3) aq))))) (ao (aM aq))),fnR (K:=K) (c:=bK) (ps:=eO) (N:=["_law_stream_here","_law_one","_law_other_here","_law_many"]) (ay (tO (f8 (ax qx (ak (i:=3)) (af le_int))) (ay (cN (wF (f8 (ax dE (af (cf (ak (i:=1)) (bV (ax kr (af (aR aZ (aa (ak (i:=1)) ac))) (ak (i:=3)))) cv)) (af (cf (ak (i:=2)) cv (bV (ap (i:=3))))))) (f8 (ax dE (af (aD (i:=0) (aa (af le_int) ac))) (af le_int)))) (aP (ap (i:=3))) aY) (aI (ax kr (ak (i:=3)) (af le_int)) (aC (i:=3) rfl)))) (aP le_int)) (fun p ds Q h=>le_trans (le_of_eq (jT p ds Q h)) (by decide)) pG h⟩
theorem mC:∀p ds Q,cM p ds Q->ds.length+1=2:=fun p ds Q h=>by unfold cM at h;split at h;(first|rfl|exact h.elim);(first|rfl|exact h.elim)
theorem sU(D:bY K mg "_law_laid" kc)(T:Txt mg)(TC:TxC K)(C'28:Cal P w K mg base 1 "_law_lap" ["_law_one","_law_other_here"] (spP K bv))(C'31:Cal P w K mg base 2 "_law_lesser" ["_law_stream_here","_law_one","_law_other_here","_law_many"] (spR K bK))(C'20:Cal P w K mg base 1 "_law_next" ["_law_stream_here","_law_many"] (spR K al)):Cal P w K mg base 3 "_law_laid" ["_law_stream_here","_law_texts"] (spR K cM):=by
 refine D.ok bT (fun _ _ _ _ _ _ us hl=>match us,hl with|[_,_],_=>rfl) (fun vs H Q E h=>?_) (fun f cdv A outer s H vs Q E hr h=>?_)
 .exact rY mC h
 .have hu:=hr.units;exact⟨_,(ai (aN (i:=2) bT.nd rfl (by walk_at "o") (b9 (qy K rfl) (du (l:=[112,113]) (by decide +kernel)) di (cU (bo tV (aw C'20 (hr.mono (by decide)) (paC (pv 0) (paC aq ah))) aq)))) (ai (aN (i:=3) bT.nd rfl (by walk_at "o") (du (l:=[]) (by decide +kernel))) (ai (dX PassesOwn.never rfl (dg K rfl (pv 1)) (aF (i:=4) bT.nd rfl (by walk_at "o")) (ai (aN (i:=5) bT.nd rfl (by walk_at "o") (aw C'20 (hr.mono (by decide)) (paC (pv 0) (paC aq ah)))) (ai (aN (i:=6) bT.nd rfl (by walk_at "o") aq) (ai (fW (cK (PW.pt (vv (aS (oN K rfl hu) (pv 3) (du (l:=[]) (by decide +kernel)) (aV _)) (rJ (aS zC (pv 5) aq (aV _))))) (ao (aN (i:=6) bT.nd rfl (by walk_at "o") (aw C'28 (hr.mono (by decide)) (paC (pv 3) (paC (pv 4) ah))))) aX)) (ai (fW (cK (aS (gj K rfl hu) (pv 5) aq (aV _)) (ao (aN (i:=6) bT.nd rfl (by walk_at "o") (aw C'31 (hr.mono (by decide)) (paC (pv 0) (paC (pv 3) (paC (pv 4) (paC (pv 6) ah))))))) aX)) (ai (fW (cK (aS (gj K rfl hu) (pv 5) aq (aV _)) (ao (aN (i:=2) bT.nd rfl (by walk_at "o") (bo (cO K rfl) (pv 2) (b9 (qy K rfl) (du (l:=[98,97]) (by decide +kernel)) di (cU (aw C'20 (hr.mono (by decide)) (paC (pv 0) (paC aq ah)))))))) aX)) (ai (aN (i:=2) bT.nd rfl (by walk_at "o") (bo (cO K rfl) (pv 2) (b9 (qy K rfl) (pv 4) (cU (pv 6)) di))) (ao (aN (i:=3) bT.nd rfl (by walk_at "o") (pv 4)))))))))) (ao (aM (bo (cO K rfl) (pv 2) (b9 (qy K rfl) (du (l:=[113,112]) (by decide +kernel)) di (cU (bo tV (aw C'20 (hr.mono (by decide)) (paC (pv 0) (paC aq ah))) aq))))))))),fnR (K:=K) (c:=cM) (ps:=gH) (N:=["_law_stream_here","_law_texts","_law_text","_law_one","_law_word_here","_law_way","_law_many"]) (ay (aI (cf (af (le_str (l:=[112,113]))) cv (bV (ax oz (af (aD (i:=0) (aa (af le_int) ac))) (af le_int)))) (aC (i:=2) rfl)) (ay (aI (le_str (l:=[])) (aC (i:=3) rfl)) (ay (d0 (dh (ap (i:=1))) (aA (i:=4) rfl) (ay (aI (aD (i:=0) (aa (af le_int) ac)) (aC (i:=5) rfl)) (ay (aI le_int (aC (i:=6) rfl)) (ay (gf (cN (wF (f8 (ax ju (ak (i:=3)) (af (le_str (l:=[]))))) (f8 (ax qx (ak (i:=5)) (af le_int)))) (aI (aO (c:=bv) (aa (af (ap (i:=3))) (aa (af (ap (i:=4))) ac))) (aC (i:=6) rfl)) aY)) (ay (gf (cN (f8 (ax dE (ak (i:=5)) (af le_int))) (aI (aD (i:=0) (aa (af (ap (i:=3))) (aa (af (ap (i:=4))) (aa (af (ap (i:=6))) ac)))) (aC (i:=6) rfl)) aY)) (ay (gf (cN (f8 (ax dE (ak (i:=5)) (af le_int))) (aI (ax bD (ak (i:=2)) (af (cf (af (le_str (l:=[98,97]))) cv (bV (aD (i:=0) (aa (af le_int) ac)))))) (aC (i:=2) rfl)) aY)) (ay (aI (ax bD (ak (i:=2)) (af (cf (ak (i:=4)) (bV (ap (i:=6))) cv))) (aC (i:=2) rfl)) (aI (ap (i:=4)) (aC (i:=3) rfl))))))))) (aP (ax bD (ak (i:=2)) (af (cf (af (le_str (l:=[113,112]))) cv (bV (ax oz (af (aD (i:=0) (aa (af le_int) ac))) (af le_int)))))))))) (fun p ds Q h=>le_trans (le_of_eq (mC p ds Q h)) (by decide)) sK h⟩
theorem nX:∀p ds Q,cR p ds Q->ds.length+1=2:=fun p ds Q h=>by unfold cR at h;split at h;(first|rfl|exact h.elim);(first|rfl|exact h.elim)
theorem vm(D:bY K mg "_law_row" lW)(T:Txt mg)(TC:TxC K)(C'30:Cal P w K mg base 2 "_law_shuffled" ["_law_stream_here","_law_row_here"] (spR K bu)):Cal P w K mg base 3 "_law_row" ["_law_stream_here","_law_counts_here"] (spR K cR):=by
 refine D.ok kf (fun _ _ _ _ _ _ us hl=>match us,hl with|[_,_],_=>rfl) (fun vs H Q E h=>?_) (fun f cdv A outer s H vs Q E hr h=>?_)
 .exact rY nX h
 .have hu:=hr.units;exact⟨_,(ai (aN (i:=2) kf.nd rfl (by walk_at "o") (bR ah)) (ai (dX PassesOwn.never rfl (cw rfl T.b_range (paC (am (bW K rfl) rfl T.b_len PySem.boot_len (paC (pv 1) ah)) ah)) (aF (i:=3) kf.nd rfl (by walk_at "o")) (ao (iW (jq K rfl PySem.F.plainAttrs_list PySem.F.slot_list_extend PySem.F.type_list_extend vV (pv 2) (paC (bo i3 (bR (paC (pv 3) ah)) (bQ (eS K rfl) (pv 1) (pv 3) (fun _ _=>rfl))) ah))))) (ao (aM (aw C'30 (hr.mono (by decide)) (paC (pv 0) (paC (pv 2) ah))))))),fnR (K:=K) (c:=cR) (ps:=iE) (N:=["_law_stream_here","_law_counts_here","_law_row_here","_law_k"]) (ay (aI (bX ac) (aC (i:=2) rfl)) (ay (d0 (jY (aa (af (aR aZ (aa (ak (i:=1)) ac))) ac)) (aA (i:=3) rfl) (i5 (Dy (i:=2) (ax eY (af (bX (aa (af (ap (i:=3))) ac))) (af (ax bS (ak (i:=1)) (ak (i:=3)))))))) (aP (t6 (aD (i:=0) (aa (af (ap (i:=2))) ac)))))) (fun p ds Q h=>le_trans (le_of_eq (nX p ds Q h)) (by decide)) vf h⟩
theorem jU:∀ds Q,bf ds Q->ds.length=2:=fun ds Q h=>by unfold bf at h;split at h;(first|rfl|exact h.elim);(first|rfl|exact h.elim)
theorem pT(D:bY K mg "_law_is_row" ii)(T:Txt mg)(TC:TxC K)(C'29:Cal P w K mg base 1 "_law_whole" ["_law_found"] (spP K aQ)):Cal P w K mg base 2 "_law_is_row" ["_law_thing","_law_many"] (spP K bf):=by
 refine D.ok oX (fun _ _ _ _ _ _ us hl=>match us,hl with|[_,_],_=>rfl) (fun vs H Q E h=>?_) (fun f cdv A outer s H vs Q E hr h=>?_)
 .exact kS jU h
 .have hu:=hr.units;exact⟨_,(ai (cK (PW.pt (nZ (dW (c6 (am (AX K rfl) rfl T.b_isinstance boot_isinstance (paC (pv 0) (paC (fi (paC (eV (v:=.ty "list") rfl T.b_list boot_list rfl) (paC (eV (v:=.ty "tuple") rfl T.b_tuple boot_tuple rfl) ah))) ah))))) (jk (aS (oN K rfl hu) (am (bW K rfl) rfl T.b_len PySem.boot_len (paC (pv 0) ah)) (pv 1) (aV _))))) (ao (aM kO)) aX) (ao (aM (eh (E7 K rfl hu) (cZ (wi:=(lj K (bL 0))) (g:=(cT 0)) (tts:=(tOr (DQ (tB (fc (spP K aQ) [] E0 (bg (bL 0) fS)))) (vH (tOp EA (bL 0) (tC (V.int 0)))))) (te:=(bL 0)) ["_law_part"] [none] rfl (dg K rfl (pv 0)) (fun _ _ _ _=>⟨(aF (i:=0) (by show List.Nodup (["_law_part"]:List Str);decide +kernel) rfl (by walk_at "o")),(rN (PW.pt (nZ (dW (c6 (aw C'29 (hr.mono (by decide)) (paC (pv 0) ah)))) (jk (aS EB (pv 0) aq (aV _)))))),(pv 0)⟩) (by kernel_rfl)) (bR ah) (aV _))))),fnP (K:=K) (c:=bf) (ps:=eP) (N:=["_law_thing","_law_many"]) (ay (cN (ou (dY (pX (wJ .list .tuple fF (ak (i:=0))))) (f8 (ax ju (af (aR aZ (aa (ak (i:=0)) ac))) (ak (i:=1))))) (aP kQ) aY) (aP (ax DE (af (cp (ix:=[none]) rfl (dh (ap (i:=0))) (fun fs hc=>(aA (i:=0) (kR hc (by decide)))) (ou (dY (pX (aO (c:=aQ) (aa (af (ap (i:=0))) ac)))) (f8 (ax AS (ak (i:=0)) (af le_int)))) (ap (i:=0)))) (af (bX ac))))) (fun ds Q h=>le_trans (le_of_eq (jU ds Q h)) (by decide)) pH h⟩
theorem nY:∀ds Q,cS ds Q->ds.length=3:=fun ds Q h=>by unfold cS at h;split at h;(first|rfl|exact h.elim);(first|rfl|exact h.elim)
theorem vn(D:bY K mg "_law_due" lX)(T:Txt mg)(TC:TxC K)(C'34:Cal P w K mg base 2 "_law_is_row" ["_law_thing","_law_many"] (spP K bf))(C'28:Cal P w K mg base 1 "_law_lap" ["_law_one","_law_other_here"] (spP K bv)):Cal P w K mg base 3 "_law_due" ["_law_pieces_here","_law_counts_here","_law_paper_here"] (spP K cS):=by
 refine D.ok eU (fun _ _ _ _ _ _ us hl=>match us,hl with|[_,_,_],_=>rfl) (fun vs H Q E h=>?_) (fun f cdv A outer s H vs Q E hr h=>?_)
 .exact kS nY h
 .have hu:=hr.units;exact⟨_,(ai (cK (PW.pt (nZ (dW (c6 (am (AX K rfl) rfl T.b_isinstance boot_isinstance (paC (pv 2) (paC (fi (paC (eV (v:=.ty "list") rfl T.b_list boot_list rfl) (paC (eV (v:=.ty "tuple") rfl T.b_tuple boot_tuple rfl) ah))) ah))))) (jk (aS (oN K rfl hu) (am (bW K rfl) rfl T.b_len PySem.boot_len (paC (pv 2) ah)) aq (aV _))))) (ao (aM gW)) aX) (ai (cK (PW.pt (nZ (dW (c6 (aw C'34 (hr.mono (by decide)) (paC (bQ (eS K rfl) (pv 2) aq (fun _ _=>rfl)) (paC (am (bW K rfl) rfl T.b_len PySem.boot_len (paC (pv 0) ah)) ah))))) (jk (dW (c6 (aw C'34 (hr.mono (by decide)) (paC (bQ (eS K rfl) (pv 2) aq (fun _ _=>rfl)) (paC (am (bW K rfl) rfl T.b_len PySem.boot_len (paC (pv 0) ah)) ah)))))))) (ao (aM gW)) aX) (ai (aN (i:=3) eU.nd rfl (by walk_at "o") aq) (ai (dX PassesOwn.never rfl (cw rfl T.b_range (paC (am (bW K rfl) rfl T.b_len PySem.boot_len (paC (pv 0) ah)) ah)) (aF (i:=4) eU.nd rfl (by walk_at "o")) (ai (dX PassesOwn.never rfl (cw rfl T.b_range (paC (am (bW K rfl) rfl T.b_len PySem.boot_len (paC (pv 0) ah)) ah)) (aF (i:=5) eU.nd rfl (by walk_at "o")) (ao (cK (aS EB (bo (cO K rfl) (bQ (eS K rfl) (bQ (eS K rfl) (pv 2) aq (fun _ _=>rfl)) (pv 4) (fun _ _=>rfl)) (bQ (eS K rfl) (bQ (eS K rfl) (pv 2) aq (fun _ _=>rfl)) (pv 5) (fun _ _=>rfl))) (aw C'28 (hr.mono (by decide)) (paC (bQ (eS K rfl) (pv 0) (pv 4) (fun _ _=>rfl)) (paC (bQ (eS K rfl) (pv 0) (pv 5) (fun _ _=>rfl)) ah))) (aV _)) (ao (aM gW)) aX))) (ai (aN (i:=6) eU.nd rfl (by walk_at "o") (bo (cO K rfl) (bQ (eS K rfl) (bQ (eS K rfl) (pv 2) aq (fun _ _=>rfl)) (pv 4) (fun _ _=>rfl)) (bQ (eS K rfl) (bQ (eS K rfl) (pv 2) aq (fun _ _=>rfl)) (pv 4) (fun _ _=>rfl)))) (ao (aN (i:=3) eU.nd rfl (by walk_at "o") (bo (cO K rfl) (pv 3) (bo i3 (bQ (eS K rfl) (pv 1) (pv 4) (fun _ _=>rfl)) (bo qE (am (bW K rfl) rfl T.b_len PySem.boot_len (paC (bQ (eS K rfl) (pv 0) (pv 4) (fun _ _=>rfl)) ah)) (pv 6))))))))) (ao (aM (pv 3))))))),fnP (K:=K) (c:=cS) (ps:=iF) (N:=["_law_pieces_here","_law_counts_here","_law_paper_here","_law_found","_law_i","_law_j","_law_much"]) (ay (cN (ou (dY (pX (wJ .list .tuple fF (ak (i:=2))))) (f8 (ax ju (af (aR aZ (aa (ak (i:=2)) ac))) (af le_int)))) (aP gZ) aY) (ay (cN (ou (dY (pX (aO (c:=bf) (aa (af (ax bS (ak (i:=2)) (af le_int))) (aa (af (aR aZ (aa (ak (i:=0)) ac))) ac))))) (dY (pX (aO (c:=bf) (aa (af (ax bS (ak (i:=2)) (af le_int))) (aa (af (aR aZ (aa (ak (i:=0)) ac))) ac)))))) (aP gZ) aY) (ay (aI le_int (aC (i:=3) rfl)) (ay (d0 (jY (aa (af (aR aZ (aa (ak (i:=0)) ac))) ac)) (aA (i:=4) rfl) (ay (d0 (jY (aa (af (aR aZ (aa (ak (i:=0)) ac))) ac)) (aA (i:=5) rfl) (cN (f8 (ax AS (af (ax bD (af (ax bS (af (ax bS (ak (i:=2)) (af le_int))) (ak (i:=4)))) (af (ax bS (af (ax bS (ak (i:=2)) (af le_int))) (ak (i:=5)))))) (af (aO (c:=bv) (aa (af (ax bS (ak (i:=0)) (ak (i:=4)))) (aa (af (ax bS (ak (i:=0)) (ak (i:=5)))) ac)))))) (aP gZ) aY)) (ay (aI (ax bD (af (ax bS (af (ax bS (ak (i:=2)) (af le_int))) (ak (i:=4)))) (af (ax bS (af (ax bS (ak (i:=2)) (af le_int))) (ak (i:=4))))) (aC (i:=6) rfl)) (aI (ax bD (ak (i:=3)) (af (ax eY (af (ax bS (ak (i:=1)) (ak (i:=4)))) (af (ax kr (af (aR aZ (aa (af (ax bS (ak (i:=0)) (ak (i:=4)))) ac))) (ak (i:=6))))))) (aC (i:=3) rfl))))) (aP (ap (i:=3))))))) (fun ds Q h=>le_trans (le_of_eq (nY ds Q h)) (by decide)) vg h⟩
theorem jV:∀p ds Q,a9 p ds Q->ds.length+1=2:=fun p ds Q h=>by unfold a9 at h;split at h;(first|rfl|exact h.elim);(first|rfl|exact h.elim)
theorem pU(D:bY K mg "_law_prices" ik)(T:Txt mg)(TC:TxC K)(C'28:Cal P w K mg base 1 "_law_lap" ["_law_one","_law_other_here"] (spP K bv))(C'20:Cal P w K mg base 1 "_law_next" ["_law_stream_here","_law_many"] (spR K al)):Cal P w K mg base 2 "_law_prices" ["_law_stream_here","_law_pieces_here"] (BM K a9):=by
 refine D.ok cg (fun _ _ _ _ _ _ us hl=>match us,hl with|[_,_],_=>rfl) (fun vs H Q E h=>?_) (fun f cdv A outer s H vs Q E hr h=>?_)
 .exact E6 jV h
 .have hu:=hr.units;exact⟨_,(ai (aN (i:=2) cg.nd rfl (by walk_at "o") (bo i3 (bR (paC aq ah)) (am (bW K rfl) rfl T.b_len PySem.boot_len (paC (pv 1) ah)))) (ai (aN (i:=3) cg.nd rfl (by walk_at "o") (bo i3 (bR (paC aq ah)) (am (bW K rfl) rfl T.b_len PySem.boot_len (paC (pv 1) ah)))) (ai (aN (i:=4) cg.nd rfl (by walk_at "o") (aw C'20 (hr.mono (by decide)) (paC (pv 0) (paC aq ah)))) (ai (dX PassesOwn.never rfl (cw rfl T.b_range (paC (am (bW K rfl) rfl T.b_len PySem.boot_len (paC (pv 1) ah)) ah)) (aF (i:=5) cg.nd rfl (by walk_at "o")) (ao (dX PassesOwn.never rfl (cw rfl T.b_range (paC (am (bW K rfl) rfl T.b_len PySem.boot_len (paC (pv 1) ah)) ah)) (aF (i:=6) cg.nd rfl (by walk_at "o")) (ai (aN (i:=7) cg.nd rfl (by walk_at "o") (aw C'28 (hr.mono (by decide)) (paC (bQ (eS K rfl) (pv 1) (pv 5) (fun _ _=>rfl)) (paC (bQ (eS K rfl) (pv 1) (pv 6) (fun _ _=>rfl)) ah)))) (ao (cK (aS (gj K rfl hu) (pv 4) aq (aV _)) (ao (i8 (am (qA rfl) rfl T.b_max boot_max (paC (bQ (eS K rfl) (pv 2) (pv 5) (fun _ _=>rfl)) (paC (pv 7) ah))) (lr (pv 2) (pv 5) eC))) (ao (cK (aS (gj K rfl hu) (pv 4) aq (aV _)) (ao (i8 (am (qA rfl) rfl T.b_max boot_max (paC (bQ (eS K rfl) (pv 3) (pv 6) (fun _ _=>rfl)) (paC (pv 7) ah))) (lr (pv 3) (pv 6) eC))) (ai (i8 (am (qA rfl) rfl T.b_max boot_max (paC (bQ (eS K rfl) (pv 2) (pv 5) (fun _ _=>rfl)) (paC (bo qE (pv 7) aq) ah))) (lr (pv 2) (pv 5) eC)) (ao (i8 (am (qA rfl) rfl T.b_max boot_max (paC (bQ (eS K rfl) (pv 3) (pv 6) (fun _ _=>rfl)) (paC (am (tP rfl) rfl T.b_min boot_min (paC (pv 7) (paC aq ah))) ah))) (lr (pv 3) (pv 6) eC)))))))))))) (ai (fW (cK (aS (gj K rfl hu) (aw C'20 (hr.mono (by decide)) (paC (pv 0) (paC aq ah))) aq (aV _)) (ai (aN (i:=8) cg.nd rfl (by walk_at "o") (bx DA rfl T.b_int boot_int (paC (bo (cO K rfl) (du (l:=[49]) (by decide +kernel)) (bo i3 (du (l:=[48]) (by decide +kernel)) (aw C'20 (hr.mono (by decide)) (paC (pv 0) (paC aq ah))))) ah))) (ao (vx (pv 2) (aw C'20 (hr.mono (by decide)) (paC (pv 0) (paC (am (bW K rfl) rfl T.b_len PySem.boot_len (paC (pv 2) ah)) ah))) (qP K rfl) (bo (cO K rfl) aq (bo i3 (aw C'20 (hr.mono (by decide)) (paC (pv 0) (paC aq ah))) (pv 8))) B8 eC))) aX)) (ao (aM (fi (paC (pv 2) (paC (pv 3) ah)))))))))),FQ (K:=K) (c:=a9) (ps:=eQ) (N:=["_law_stream_here","_law_pieces_here","_law_gives","_law_takes","_law_way","_law_i","_law_j","_law_much","_law_great"]) 2 3 (by decide) (by decide) (by decide) (lS (lS (lS (lS (lS (Bk _)))))) (ay (aI (ax eY (af (bX (aa (af le_int) ac))) (af (aR aZ (aa (ak (i:=1)) ac)))) (aC (i:=2) rfl)) (ay (aI (ax eY (af (bX (aa (af le_int) ac))) (af (aR aZ (aa (ak (i:=1)) ac)))) (aC (i:=3) rfl)) (ay (aI (aD (i:=0) (aa (af le_int) ac)) (aC (i:=4) rfl)) (ay (d0 (jY (aa (af (aR aZ (aa (ak (i:=1)) ac))) ac)) (aA (i:=5) rfl) (d0 (jY (aa (af (aR aZ (aa (ak (i:=1)) ac))) ac)) (aA (i:=6) rfl) (ay (aI (aO (c:=bv) (aa (af (ax bS (ak (i:=1)) (ak (i:=5)))) (aa (af (ax bS (ak (i:=1)) (ak (i:=6)))) ac))) (aC (i:=7) rfl)) (cN (f8 (ax dE (ak (i:=4)) (af le_int))) (i6 (i:=2) (aR lL (aa (af (ax bS (ak (i:=2)) (ak (i:=5)))) (aa (ak (i:=7)) ac))) (ap (i:=5))) (cN (f8 (ax dE (ak (i:=4)) (af le_int))) (i6 (i:=3) (aR lL (aa (af (ax bS (ak (i:=3)) (ak (i:=6)))) (aa (ak (i:=7)) ac))) (ap (i:=6))) (ay (i6 (i:=2) (aR lL (aa (af (ax bS (ak (i:=2)) (ak (i:=5)))) (aa (af (ax kr (ak (i:=7)) (af le_int))) ac))) (ap (i:=5))) (i6 (i:=3) (aR lL (aa (af (ax bS (ak (i:=3)) (ak (i:=6)))) (aa (af (aR oF (aa (ak (i:=7)) (aa (af le_int) ac)))) ac))) (ap (i:=6))))))))) (ay (gf (cN (f8 (ax dE (af (aD (i:=0) (aa (af le_int) ac))) (af le_int))) (ay (aI (aR Bo (aa (af (ax bD (af (le_str (l:=[49]))) (af (ax eY (af (le_str (l:=[48]))) (af (aD (i:=0) (aa (af le_int) ac))))))) ac)) (aC (i:=8) rfl)) (xG (f:=(fun i j=>i+j)) (i:=2) (aD (i:=0) (aa (af (aR aZ (aa (ak (i:=2)) ac))) ac)) (ax bD (af le_int) (af (ax eY (af (aD (i:=0) (aa (af le_int) ac))) (ak (i:=8))))))) aY)) aY))))) (fun p ds Q h=>le_trans (le_of_eq (jV p ds Q h)) (by decide)) pI h⟩
theorem kL:∀p ds Q,ck p ds Q->ds.length+1=2:=fun p ds Q h=>by unfold ck at h;split at h;(first|rfl|exact h.elim);(first|rfl|exact h.elim)
theorem rB(D:bY K mg "_law_paper" jd)(T:Txt mg)(TC:TxC K)(C'20:Cal P w K mg base 1 "_law_next" ["_law_stream_here","_law_many"] (spR K al))(C'36:Cal P w K mg base 2 "_law_prices" ["_law_stream_here","_law_pieces_here"] (BM K a9)):Cal P w K mg base 3 "_law_paper" ["_law_stream_here","_law_pieces_here"] (spR K ck):=by
 refine D.ok bN (fun _ _ _ _ _ _ us hl=>match us,hl with|[_,_],_=>rfl) (fun vs H Q E h=>?_) (fun f cdv A outer s H vs Q E hr h=>?_)
 .exact rY kL h
 .have hu:=hr.units;exact⟨_,(ai (nh (aw C'36 (hr.mono (by decide)) (paC (pv 0) (paC (pv 1) ah))) (jx K rfl (n:=2) rfl (bU (aF (i:=2) bN.nd rfl (by walk_at "o")) (bU (aF (i:=3) bN.nd rfl (by walk_at "o")) fU)))) (ai (aN (i:=4) bN.nd rfl (by walk_at "o") (aw C'20 (hr.mono (by decide)) (paC (pv 0) (paC aq ah)))) (ai (aN (i:=5) bN.nd rfl (by walk_at "o") (bR (paC (pv 2) (paC (pv 3) ah)))) (ai (cK (aS (gj K rfl hu) (pv 4) aq (aV _)) (ai (aN (i:=6) bN.nd rfl (by walk_at "o") (bQ (eS K rfl) (pv 5) (aw C'20 (hr.mono (by decide)) (paC (pv 0) (paC aq ah))) (fun _ _=>rfl))) (ao (vx (pv 6) (aw C'20 (hr.mono (by decide)) (paC (pv 0) (paC (am (bW K rfl) rfl T.b_len PySem.boot_len (paC (pv 6) ah)) ah))) (qP K rfl) aq B9 eC))) aX) (ai (fW (cK (aS (gj K rfl hu) (pv 4) aq (aV _)) (ao (oj (wi:=(lj K (Aj (bg (tC (V.int 0)) (bg (tC (V.int 1)) fS))))) (g:=(cT 0)) (tts:=lf) (te:=(uE [none,some 1] (lj K (bL 2)) (cT 0) lf (fc (spR K al) [] E0 (bg (bL 1) (bg (tC (V.int 6)) fS))))) (i:=5) ["_law_j","_law_stream_here","_law_gives"] [none,some 0,some 2] bN.nd rfl (Or.inl rfl) rfl (dg K rfl (fi (paC aq (paC aq ah)))) (fun _ _ _ _=>⟨(aF (i:=0) (by show List.Nodup (["_law_j","_law_stream_here","_law_gives"]:List Str);decide +kernel) rfl (by walk_at "o")),cE,(cZ (wi:=(lj K (bL 2))) (g:=(cT 0)) (tts:=lf) (te:=(fc (spR K al) [] E0 (bg (bL 1) (bg (tC (V.int 6)) fS)))) ["_law_k","_law_stream_here"] [none,some 1] rfl (dg K rfl (pv 2)) (fun _ _ _ _=>⟨(aF (i:=0) (by show List.Nodup (["_law_k","_law_stream_here"]:List Str);decide +kernel) rfl (by walk_at "o")),cE,(aw C'20 (hr.mono (by decide)) (paC (pv 1) (paC aq ah)))⟩) (by kernel_rfl))⟩) (by kernel_rfl))) aX)) (ai (fW (cK (aS (gj K rfl hu) (pv 4) aq (aV _)) (ai (aN (i:=7) bN.nd rfl (by walk_at "o") (bR (paC (b9 (qy K rfl) (pv 5) di (cU aq)) (paC (bo (cO K rfl) (pv 5) (bR (paC (pv 3) ah))) ah)))) (ai (aN (i:=7) bN.nd rfl (by walk_at "o") (bo (cO K rfl) (pv 7) (bR (paC (bR (paC (b9 (qy K rfl) (pv 2) (cU aq) di) (paC (pv 3) ah))) (paC (bR (paC (pv 2) (paC (bo (cO K rfl) (pv 3) (bR (paC aq ah))) ah))) ah))))) (ao (aN (i:=5) bN.nd rfl (by walk_at "o") (bQ (eS K rfl) (pv 7) (aw C'20 (hr.mono (by decide)) (paC (pv 0) (paC aq ah))) (fun _ _=>rfl)))))) aX)) (ai (cK (aS (gj K rfl hu) (aw C'20 (hr.mono (by decide)) (paC (pv 0) (paC aq ah))) aq (aV _)) (ao (aM (cZ (wi:=(lj K (bL 5))) (g:=(cT 0)) (tts:=lf) (te:=(tCB (yF K) (bg (bL 0) fS))) ["_law_row_here"] [none] rfl (dg K rfl (pv 5)) (fun _ _ _ _=>⟨(aF (i:=0) (by show List.Nodup (["_law_row_here"]:List Str);decide +kernel) rfl (by walk_at "o")),cE,(bx (gi K rfl) rfl T.b_tuple boot_tuple (paC (pv 0) ah))⟩) (by kernel_rfl)))) aX) (ao (aM (bx (gi K rfl) rfl T.b_tuple boot_tuple (paC (pv 5) ah))))))))))),fnR (K:=K) (c:=ck) (ps:=ft) (N:=["_law_stream_here","_law_pieces_here","_law_gives","_law_takes","_law_way","_law_rows","_law_row_here","_law_bent"]) (ay (zN (c:=a9) (i:=0) (x:=2) (y:=3) (by decide) rfl rfl (by decide) (by decide) (aa (af (ap (i:=1))) ac)) (ay (aI (aD (i:=0) (aa (af le_int) ac)) (aC (i:=4) rfl)) (DD (x:=5) (r:=6) (g:=2) (t:=3) rfl rfl rfl rfl (by decide) (f8 (ax dE (ak (i:=4)) (af le_int))) (aD (i:=0) (aa (af le_int) ac)) (aD (i:=0) (aa (af (aR aZ (aa (ak (i:=6)) ac))) ac)) le_int (ay (gf (cN (f8 (ax dE (ak (i:=4)) (af le_int))) (aI (cp (ix:=[none,some 0,some 2]) rfl (dh (iK (aa (af le_int) (aa (af le_int) ac)))) (fun fs hc=>(aA (i:=0) (kR hc (by decide)))) dz (cp (ix:=[none,some 1]) rfl (dh (ap (i:=2))) (fun fs hc=>(aA (i:=0) (kR hc (by decide)))) dz (aD (i:=1) (aa (af le_int) ac)))) (aC (i:=5) rfl)) aY)) (ay (gf (cN (f8 (ax dE (ak (i:=4)) (af le_int))) (ay (aI (bX (aa (af (cf (ak (i:=5)) cv (bV le_int))) (aa (af (ax bD (ak (i:=5)) (af (bX (aa (af (ap (i:=3))) ac))))) ac))) (aC (i:=7) rfl)) (ay (aI (ax bD (ak (i:=7)) (af (bX (aa (af (bX (aa (af (cf (ak (i:=2)) (bV le_int) cv)) (aa (af (ap (i:=3))) ac)))) (aa (af (bX (aa (af (ap (i:=2))) (aa (af (ax bD (ak (i:=3)) (af (bX (aa (af le_int) ac))))) ac)))) ac))))) (aC (i:=7) rfl)) (aI (ax bS (ak (i:=7)) (af (aD (i:=0) (aa (af le_int) ac)))) (aC (i:=5) rfl)))) aY)) (ay (cN (f8 (ax dE (af (aD (i:=0) (aa (af le_int) ac))) (af le_int))) (aP (t6 (cp (ix:=[none]) rfl (dh (ap (i:=5))) (fun fs hc=>(aA (i:=0) (kR hc (by decide)))) dz (aR eF (aa (ak (i:=0)) ac))))) aY) (aP (t6 (aR eF (aa (ak (i:=5)) ac)))))))))) (fun p ds Q h=>le_trans (le_of_eq (kL p ds Q h)) (by decide)) rh h⟩
theorem kM:∀p ds Q,cm p ds Q->ds.length+1=2:=fun p ds Q h=>by unfold cm at h;split at h;(first|rfl|exact h.elim);(first|rfl|exact h.elim)
theorem rC(D:bY K mg "_law_other" je)(T:Txt mg)(TC:TxC K)(C'20:Cal P w K mg base 1 "_law_next" ["_law_stream_here","_law_many"] (spR K al))(C'36:Cal P w K mg base 2 "_law_prices" ["_law_stream_here","_law_pieces_here"] (BM K a9)):Cal P w K mg base 3 "_law_other" ["_law_stream_here","_law_pieces_here"] (spR K cm):=by
 refine D.ok dA (fun _ _ _ _ _ _ us hl=>match us,hl with|[_,_],_=>rfl) (fun vs H Q E h=>?_) (fun f cdv A outer s H vs Q E hr h=>?_)
 .exact rY kM h
 .have hu:=hr.units;exact⟨_,(@ai _ _ _ _ _ (@nh _ _ _ _ _ _ (@aw _ _ _ _ _ _ _ _ _ _ C'36 (hr.mono (by decide)) (@paC _ _ _ _ _ (@pv _ 0 _ _ rfl (by walk_at "o") (by decide) (by decide)) (@paC _ _ _ _ _ (@pv _ 1 _ _ rfl (by walk_at "o") (by decide) (by decide)) ah rfl) rfl) rfl (by decide) rfl rfl) (@jx _ K rfl _ _ _ 2 _ rfl (@bU _ _ _ _ _ (@aF _ _ 2 _ dA.nd rfl (by walk_at "o") (by first|exact .inl rfl|exact .inr rfl|assumption)) (@bU _ _ _ _ _ (@aF _ _ 3 _ dA.nd rfl (by walk_at "o") (by first|exact .inl rfl|exact .inr rfl|assumption)) fU rfl) rfl) rfl rfl) rfl rfl rfl) (@ai _ _ _ _ _ (@aN _ _ 4 _ _ _ _ dA.nd rfl (by walk_at "o") (@bR _ _ _ _ (@paC _ _ _ _ _ kO (@paC _ _ _ _ _ gW (@paC _ _ _ _ _ (@du _ _ _ [49] _ (by decide +kernel)) (@paC _ _ _ _ _ (@Ac _ _ _ _ _ _ vC aq) (@paC _ _ _ _ _ (@fi _ _ _ _ _ (@paC _ _ _ _ _ aq ah rfl)) (@paC _ _ _ _ _ tG ah rfl) rfl) rfl) rfl) rfl) rfl)) rfl (by first|exact .inl rfl|exact .inr rfl|assumption)) (@ai _ _ _ _ _ (@i8 _ _ _ _ _ _ _ _ (@bQ _ _ _ _ _ _ _ (eS K rfl) (@pv _ 4 _ _ rfl (by walk_at "o") (by decide) (by decide)) (@aw _ _ _ _ _ _ _ _ _ _ C'20 (hr.mono (by decide)) (@paC _ _ _ _ _ (@pv _ 0 _ _ rfl (by walk_at "o") (by decide) (by decide)) (@paC _ _ _ _ _ (@am _ _ _ _ _ _ _ _ _ (bW K rfl) rfl T.b_len PySem.boot_len (@paC _ _ _ _ _ (@pv _ 4 _ _ rfl (by walk_at "o") (by decide) (by decide)) ah rfl) (by decide) (by decide) rfl rfl) ah rfl) rfl) rfl (by decide) rfl rfl) (fun _ _=>rfl)) (@lr _ _ _ _ _ _ _ (@pv _ 2 _ _ rfl (by walk_at "o") (by decide) (by decide)) (@aw _ _ _ _ _ _ _ _ _ _ C'20 (hr.mono (by decide)) (@paC _ _ _ _ _ (@pv _ 0 _ _ rfl (by walk_at "o") (by decide) (by decide)) (@paC _ _ _ _ _ (@am _ _ _ _ _ _ _ _ _ (bW K rfl) rfl T.b_len PySem.boot_len (@paC _ _ _ _ _ (@pv _ 2 _ _ rfl (by walk_at "o") (by decide) (by decide)) ah rfl) (by decide) (by decide) rfl rfl) ah rfl) rfl) rfl (by decide) rfl rfl) eC (fun _=>rfl)) rfl) (@ai _ _ _ _ _ (@aN _ _ 5 _ _ _ _ dA.nd rfl (by walk_at "o") (@bR _ _ _ _ (@paC _ _ _ _ _ gW (@paC _ _ _ _ _ kO (@paC _ _ _ _ _ aq (@paC _ _ _ _ _ (@bo _ _ _ _ _ _ _ _ EV aq aq) (@paC _ _ _ _ _ (@du _ _ _ ([97,98]) _ (by decide +kernel)) (@paC _ _ _ _ _ tG (@paC _ _ _ _ _ (@fi _ _ _ _ _ ah) (@paC _ _ _ _ _ (@bR _ _ _ _ (@paC _ _ _ _ _ (@bR _ _ _ _ ah) (@paC _ _ _ _ _ (@bR _ _ _ _ ah) (@paC _ _ _ _ _ (@bR _ _ _ _ ah) ah rfl) rfl) rfl)) ah rfl) rfl) rfl) rfl) rfl) rfl) rfl) rfl)) rfl (by first|exact .inl rfl|exact .inr rfl|assumption)) (@ai _ _ _ _ _ (@aN _ _ 5 _ _ _ _ dA.nd rfl (by walk_at "o") (@bo _ _ _ _ _ _ _ _ (cO K rfl) (@pv _ 5 _ _ rfl (by walk_at "o") (by decide) (by decide)) (@bR _ _ _ _ (@paC _ _ _ _ _ (@bR _ _ _ _ (@paC _ _ _ _ _ (@pv _ 2 _ _ rfl (by walk_at "o") (by decide) (by decide)) (@paC _ _ _ _ _ (@pv _ 3 _ _ rfl (by walk_at "o") (by decide) (by decide)) ah rfl) rfl)) (@paC _ _ _ _ _ (@bR _ _ _ _ (@paC _ _ _ _ _ (@pv _ 3 _ _ rfl (by walk_at "o") (by decide) (by decide)) (@paC _ _ _ _ _ (@pv _ 2 _ _ rfl (by walk_at "o") (by decide) (by decide)) ah rfl) rfl)) (@paC _ _ _ _ _ (@AI _ _ _ _ _ (@tI _ _ _ _ _ _ (tC (kV (Sum.inl 0))) _ _ aq (@pv _ 2 _ _ rfl (by walk_at "o") (by decide) (by decide)) (@tI _ _ _ _ _ _ (tC (kV (Sum.inl 1))) _ _ aq (@pv _ 3 _ _ rfl (by walk_at "o") (by decide) (by decide)) AH)) rfl rfl (by intro z;cases z) (by decide)) ah rfl) rfl) rfl))) rfl (by first|exact .inl rfl|exact .inr rfl|assumption)) (@ao _ _ _ (@aM _ _ _ _ (@bQ _ _ _ _ _ _ _ (eS K rfl) (@pv _ 5 _ _ rfl (by walk_at "o") (by decide) (by decide)) (@aw _ _ _ _ _ _ _ _ _ _ C'20 (hr.mono (by decide)) (@paC _ _ _ _ _ (@pv _ 0 _ _ rfl (by walk_at "o") (by decide) (by decide)) (@paC _ _ _ _ _ (@am _ _ _ _ _ _ _ _ _ (bW K rfl) rfl T.b_len PySem.boot_len (@paC _ _ _ _ _ (@pv _ 5 _ _ rfl (by walk_at "o") (by decide) (by decide)) ah rfl) (by decide) (by decide) rfl rfl) ah rfl) rfl) rfl (by decide) rfl rfl) (fun _ _=>rfl))))))))),fnR (K:=K) (c:=cm) (ps:=fA) (N:=["_law_stream_here","_law_pieces_here","_law_gives","_law_takes","_law_things","_law_others"]) (ay (zN (c:=a9) (i:=0) (x:=2) (y:=3) (by decide) rfl rfl (by decide) (by decide) (aa (af (ap (i:=1))) ac)) (ay (aI (bX (aa (af kQ) (aa (af gZ) (aa (af (le_str (l:=[49]))) (aa (af (AO wS (af le_int))) (aa (af (iK (aa (af le_int) ac))) (aa (af wY) ac))))))) (aC (i:=4) rfl)) (ay (i6 (i:=2) (ax bS (ak (i:=4)) (af (aD (i:=0) (aa (af (aR aZ (aa (ak (i:=4)) ac))) ac)))) (aD (i:=0) (aa (af (aR aZ (aa (ak (i:=2)) ac))) ac))) (ay (aI (bX (aa (af gZ) (aa (af kQ) (aa (af le_int) (aa (af (ax CZ (af le_int) (af le_int))) (aa (af (le_str (l:=[97,98]))) (aa (af wY) (aa (af (iK ac)) (aa (af (bX (aa (af (bX ac)) (aa (af (bX ac)) (aa (af (bX ac)) ac))))) ac))))))))) (aC (i:=5) rfl)) (ay (aI (ax bD (ak (i:=5)) (af (bX (aa (af (bX (aa (af (ap (i:=2))) (aa (af (ap (i:=3))) ac)))) (aa (af (bX (aa (af (ap (i:=3))) (aa (af (ap (i:=2))) ac)))) (aa (af (Bj (by first|exact List.nodup_singleton _|decide) (by decide) (t9 (Sum.inl 0) (af (ap (i:=2))) (t9 (Sum.inl 1) (af (ap (i:=3))) Bh)))) ac)))))) (aC (i:=5) rfl)) (aP (ax bS (ak (i:=5)) (af (aD (i:=0) (aa (af (aR aZ (aa (ak (i:=5)) ac))) ac)))))))))) (fun p ds Q h=>le_trans (le_of_eq (kM p ds Q h)) (by decide)) rj h⟩
theorem kN:∀p ds Q,bP p ds Q->ds.length+1=3:=fun p ds Q h=>by unfold bP at h;split at h;(first|rfl|exact h.elim);(first|rfl|exact h.elim)
theorem rD(D:bY K mg "_law_holds" jf)(T:Txt mg)(TC:TxC K)(C'35:Cal P w K mg base 3 "_law_due" ["_law_pieces_here","_law_counts_here","_law_paper_here"] (spP K cS))(C'32:Cal P w K mg base 3 "_law_laid" ["_law_stream_here","_law_texts"] (spR K cM))(C'33:Cal P w K mg base 3 "_law_row" ["_law_stream_here","_law_counts_here"] (spR K cR))(C'29:Cal P w K mg base 1 "_law_whole" ["_law_found"] (spP K aQ))(C'18:Cal P w K mg base 6 "often_bound" ["often","paper"] (spP K aK)):Cal P w K mg base 7 "_law_holds" ["_law_stream_here","_law_often","_law_paper_here"] (spR K bP):=by
 refine D.ok ef (fun _ _ _ _ _ _ us hl=>match us,hl with|[_,_,_],_=>rfl) (fun vs H Q E h=>?_) (fun f cdv A outer s H vs Q E hr h=>?_)
 .exact rY kN h
 .have hu:=hr.units;exact⟨_,(ai (aN (i:=3) ef.nd rfl (by walk_at "o") (aw C'35 (hr.mono (by decide)) (paC (dL K rfl (pv 1) rfl) (paC (dL K rfl (pv 1) rfl) (paC (pv 2) ah))))) (ai (aN (i:=4) ef.nd rfl (by walk_at "o") (aw C'18 (hr.mono (by decide)) (paC (pv 1) (paC (pv 2) ah)))) (ai (cK (PW.pt (nZ (aS C2 (pv 3) gW (aV _)) (jk (aS C2 (pv 4) gW (aV _))))) (ao (aM (gI (eh C2 (pv 3) gW (aV _)) (jl (eh C2 (pv 4) gW (aV _)))))) aX) (ai (cK (PW.pt (nZ (dW (c6 (aw C'29 (hr.mono (by decide)) (paC (pv 4) ah)))) (jk (aS (oN K rfl hu) (pv 4) (pv 3) (aV _))))) (ao (aM kO)) aX) (ai (dX PassesOwn.never rfl (cw rfl T.b_range (paC aq ah)) (aF (i:=5) ef.nd rfl (by walk_at "o")) (ai (oj (wi:=(lj K (fc (spR K cR) [] E0 (bg (bL 0) (bg (zn K (bL 1) "counts") fS))))) (g:=(cT 0)) (tts:=lf) (te:=(tOp (uK K) (zn K (bL 1) "pieces") (bL 0))) (i:=6) ["_law_one","_law_often"] [none,some 1] ef.nd rfl (Or.inl rfl) rfl (dg K rfl (aw C'33 (hr.mono (by decide)) (paC (pv 0) (paC (dL K rfl (pv 1) rfl) ah)))) (fun _ _ _ _=>⟨(aF (i:=0) (by show List.Nodup (["_law_one","_law_often"]:List Str);decide +kernel) rfl (by walk_at "o")),cE,(bQ (eS K rfl) (dL K rfl (pv 1) rfl) (pv 0) (fun _ _=>rfl))⟩) (by kernel_rfl)) (ao (cK (aS EB (am (bW K rfl) rfl T.b_len PySem.boot_len (paC (aw C'32 (hr.mono (by decide)) (paC (pv 0) (paC (pv 6) ah))) ah)) (pv 4) (aV _)) (ao (aM kO)) aX)))) (ao (aM kO))))))),fnR (K:=K) (c:=bP) (ps:=fB) (N:=["_law_stream_here","_law_often","_law_paper_here","_law_due_here","_law_found","_law_k","_law_texts"]) (ay (aI (aO (c:=cS) (aa (af (fN (ns0:=["pieces","counts","laps","total"]) TC.cl_Often TC.n_Often_pieces (i:=0) (by decide +kernel) (ak (i:=1)))) (aa (af (fN (ns0:=["pieces","counts","laps","total"]) TC.cl_Often TC.n_Often_counts (i:=1) (by decide +kernel) (ak (i:=1)))) (aa (af (ap (i:=2))) ac)))) (aC (i:=3) rfl)) (ay (aI (aO (c:=aK) (aa (af (ap (i:=1))) (aa (af (ap (i:=2))) ac))) (aC (i:=4) rfl)) (ay (cN (ou (f8 (ax wH (ak (i:=3)) (af gZ))) (f8 (ax wH (ak (i:=4)) (af gZ)))) (aP (gM (ax wH (ak (i:=3)) (af gZ)) (ax wH (ak (i:=4)) (af gZ)))) aY) (ay (cN (ou (dY (pX (aO (c:=aQ) (aa (af (ap (i:=4))) ac)))) (f8 (ax ju (ak (i:=4)) (ak (i:=3))))) (aP kQ) aY) (ay (d0 (jY (aa (af le_int) ac)) (aA (i:=5) rfl) (ay (aI (cp (ix:=[none,some 1]) rfl (dh (aD (i:=0) (aa (af (fN (ns0:=["pieces","counts","laps","total"]) TC.cl_Often TC.n_Often_counts (i:=1) (by decide +kernel) (ak (i:=1)))) ac))) (fun fs hc=>(aA (i:=0) (kR hc (by decide)))) dz (ax bS (af (fN (ns0:=["pieces","counts","laps","total"]) TC.cl_Often TC.n_Often_pieces (i:=0) (by decide +kernel) (ak (i:=1)))) (ak (i:=0)))) (aC (i:=6) rfl)) (cN (f8 (ax AS (af (aR aZ (aa (af (aD (i:=0) (aa (af (ap (i:=6))) ac))) ac))) (ak (i:=4)))) (aP kQ) aY))) (aP kQ)))))) (fun p ds Q h=>le_trans (le_of_eq (kN p ds Q h)) (by decide)) rm h⟩
theorem zU:∀ds Q,ui ds Q->ds.length=1:=fun ds Q h=>by obtain⟨_,rfl,_⟩:=h;rfl
theorem DO(D:bY K mg "law" za)(T:Txt mg)(TC:TxC K)(C'13:CV P w K mg base 5 (dB K "Often") "Often" ["self","pieces","counts"] (spR K bA))(C'26:Cal P w K mg base 5 "_law_apart" ["_law_stream_here","_law_many","_law_most"] (spR K cj))(C'27:Cal P w K mg base 2 "_law_counts" ["_law_stream_here","_law_many","_law_most"] (spR K bJ))(C'39:Cal P w K mg base 7 "_law_holds" ["_law_stream_here","_law_often","_law_paper_here"] (spR K bP))(C'20:Cal P w K mg base 1 "_law_next" ["_law_stream_here","_law_many"] (spR K al))(C'38:Cal P w K mg base 3 "_law_other" ["_law_stream_here","_law_pieces_here"] (spR K cm))(C'37:Cal P w K mg base 3 "_law_paper" ["_law_stream_here","_law_pieces_here"] (spR K ck))(C'19:Cal P w K mg base 1 "_law_stream" ["_law_script","_law_k"] (spP K bB))(C'29:Cal P w K mg base 1 "_law_whole" ["_law_found"] (spP K aQ))(C'18:Cal P w K mg base 6 "often_bound" ["often","paper"] (spP K aK)):Cal P w K mg base 8 "law" ["_law_script"] (spP K ui):=by
 refine D.ok im (fun _ _ _ _ _ _ us hl=>match us,hl with|[_],_=>rfl) (fun vs H Q E h=>?_) (fun f cdv A outer s H vs Q E hr h=>?_)
 .exact kS zU h
 .have hu:=hr.units;exact⟨_,(ai (dX PassesOwn.never rfl (cw rfl T.b_range (paC (am (qA rfl) rfl T.b_max boot_max (paC aq (paC (am (tP rfl) rfl T.b_min boot_min (paC aq (paC (am (bW K rfl) rfl T.b_len PySem.boot_len (paC (pv 0) ah)) ah))) ah))) ah)) (aF (i:=1) im.nd rfl (by walk_at "o")) (ai (aN (i:=2) im.nd rfl (by walk_at "o") (aw C'19 (hr.mono (by decide)) (paC (pv 0) (paC (pv 1) ah)))) (ai (aN (i:=3) im.nd rfl (by walk_at "o") (aw C'26 (hr.mono (by decide)) (paC (pv 2) (paC (bo (cO K rfl) aq (aw C'20 (hr.mono (by decide)) (paC (pv 2) (paC aq ah)))) (paC aq ah))))) (ai (aN (i:=4) im.nd rfl (by walk_at "o") (aw C'27 (hr.mono (by decide)) (paC (pv 2) (paC (am (bW K rfl) rfl T.b_len PySem.boot_len (paC (pv 3) ah)) (paC aq ah))))) (ai (aN (i:=5) im.nd rfl (by walk_at "o") (tY C'13 (hr.mono (by decide)) (paC (bx (gi K rfl) rfl T.b_tuple boot_tuple (paC (pv 3) ah)) (paC (bx (tQ K rfl) rfl T.b_list boot_list (paC (pv 4) ah)) ah)))) (ai (cK (PW.pt (nZ (aS (oN K rfl hu) (dL K rfl (pv 5) rfl) (bx (gi K rfl) rfl T.b_tuple boot_tuple (paC (pv 3) ah)) (aV _)) (jk (aS (oN K rfl hu) (dL K rfl (pv 5) rfl) (bx (gi K rfl) rfl T.b_tuple boot_tuple (paC (pv 4) ah)) (aV _))))) (ao (aM kO)) aX) (ao (dX PassesOwn.never rfl (cw rfl T.b_range (paC aq ah)) (aF (i:=6) im.nd rfl (by walk_at "o")) (ai (aN (i:=7) im.nd rfl (by walk_at "o") (aw C'37 (hr.mono (by decide)) (paC (pv 2) (paC (pv 3) ah)))) (ai (oj (wi:=(lj K (bL 7))) (g:=(cT 0)) (tts:=lf) (te:=(tCB (ot K) (bg (bL 0) fS))) (i:=8) ["_law_row_here"] [none] im.nd rfl (Or.inl rfl) rfl (dg K rfl (pv 7)) (fun _ _ _ _=>⟨(aF (i:=0) (by show List.Nodup (["_law_row_here"]:List Str);decide +kernel) rfl (by walk_at "o")),cE,(bx (tQ K rfl) rfl T.b_list boot_list (paC (pv 0) ah))⟩) (by kernel_rfl)) (ai (cK (PW.pt (nZ (dW (c6 (aw C'39 (hr.mono (by decide)) (paC (pv 2) (paC (pv 5) (paC (pv 7) ah)))))) (jk (aS (oN K rfl hu) (cZ (wi:=(lj K (bL 7))) (g:=(cT 0)) (tts:=lf) (te:=(tCB (ot K) (bg (bL 0) fS))) ["_law_row_here"] [none] rfl (dg K rfl (pv 7)) (fun _ _ _ _=>⟨(aF (i:=0) (by show List.Nodup (["_law_row_here"]:List Str);decide +kernel) rfl (by walk_at "o")),cE,(bx (tQ K rfl) rfl T.b_list boot_list (paC (pv 0) ah))⟩) (by kernel_rfl)) (pv 8) (aV _))))) (ao (aM kO)) aX) (ao (cK (dW (c6 (aw C'39 (hr.mono (by decide)) (paC (pv 2) (paC (pv 5) (paC (aw C'38 (hr.mono (by decide)) (paC (pv 2) (paC (pv 3) ah))) ah)))))) (ao (aM kO)) aX))))))))))))) (ai (aN (i:=9) im.nd rfl (by walk_at "o") (tY C'13 (hr.mono (by decide)) (paC (bR ah) (paC (bR ah) ah)))) (ai (aN (i:=10) im.nd rfl (by walk_at "o") (aw C'18 (hr.mono (by decide)) (paC (pv 9) (paC (bR (paC (fi ah) (paC (bR ah) ah))) ah)))) (ao (aM (gI (aw C'29 (hr.mono (by decide)) (paC (pv 10) ah)) (gI (eh (gj K rfl hu) (pv 10) aq (aV _)) (jl (eh C2 (aw C'18 (hr.mono (by decide)) (paC (pv 9) (paC (fi (paC (fi (paC aq ah)) (paC (fi ah) ah))) ah))) gW (aV _)))))))))),fnP (K:=K) (c:=ui) (ps:=uk) (N:=["_law_script","_law_k","_law_stream_here","_law_pieces_here","_law_counts_here","_law_often","_law_j","_law_paper_here","_law_rows","_law_nothing","_law_found"]) (ay (d0 (jY (aa (af (aR lL (aa (af le_int) (aa (af (aR oF (aa (af le_int) (aa (af (aR aZ (aa (ak (i:=0)) ac))) ac)))) ac)))) ac)) (aA (i:=1) rfl) (ay (aI (aO (c:=bB) (aa (af (ap (i:=0))) (aa (af (ap (i:=1))) ac))) (aC (i:=2) rfl)) (ay (aI (aD (i:=2) (aa (af (ax bD (af le_int) (af (aD (i:=2) (aa (af le_int) ac))))) (aa (af le_int) ac))) (aC (i:=3) rfl)) (ay (aI (aD (i:=2) (aa (af (aR aZ (aa (ak (i:=3)) ac))) (aa (af le_int) ac))) (aC (i:=4) rfl)) (ay (aI (wR (aa (af (aR eF (aa (ak (i:=3)) ac))) (aa (af (aR oG (aa (ak (i:=4)) ac))) ac))) (aC (i:=5) rfl)) (ay (cN (ou (f8 (ax ju (af (fN (ns0:=["pieces","counts","laps","total"]) TC.cl_Often TC.n_Often_pieces (i:=0) (by decide +kernel) (ak (i:=5)))) (af (aR eF (aa (ak (i:=3)) ac))))) (f8 (ax ju (af (fN (ns0:=["pieces","counts","laps","total"]) TC.cl_Often TC.n_Often_counts (i:=1) (by decide +kernel) (ak (i:=5)))) (af (aR eF (aa (ak (i:=4)) ac)))))) (aP kQ) aY) (d0 (jY (aa (af le_int) ac)) (aA (i:=6) rfl) (ay (aI (aD (i:=2) (aa (af (ap (i:=3))) ac)) (aC (i:=7) rfl)) (ay (aI (cp (ix:=[none]) rfl (dh (ap (i:=7))) (fun fs hc=>(aA (i:=0) (kR hc (by decide)))) dz (aR oG (aa (ak (i:=0)) ac))) (aC (i:=8) rfl)) (ay (cN (ou (dY (pX (aD (i:=2) (aa (af (ap (i:=5))) (aa (af (ap (i:=7))) ac))))) (f8 (ax ju (af (cp (ix:=[none]) rfl (dh (ap (i:=7))) (fun fs hc=>(aA (i:=0) (kR hc (by decide)))) dz (aR oG (aa (ak (i:=0)) ac)))) (ak (i:=8))))) (aP kQ) aY) (cN (dY (pX (aD (i:=2) (aa (af (ap (i:=5))) (aa (af (aD (i:=2) (aa (af (ap (i:=3))) ac))) ac))))) (aP kQ) aY))))))))))) (ay (aI (wR (aa (af (bX ac)) (aa (af (bX ac)) ac))) (aC (i:=9) rfl)) (ay (aI (aO (c:=aK) (aa (af (ap (i:=9))) (aa (af (bX (aa (af (iK ac)) (aa (af (bX ac)) ac)))) ac))) (aC (i:=10) rfl)) (aP (gM (aO (c:=aQ) (aa (af (ap (i:=10))) ac)) (gM (ax dE (ak (i:=10)) (af le_int)) (ax wH (af (aO (c:=aK) (aa (af (ap (i:=9))) (aa (af (iK (aa (af (iK (aa (af le_int) ac))) (aa (af (iK ac)) ac)))) ac)))) (af gZ)))))))) (fun ds Q h=>le_trans (le_of_eq (zU ds Q h)) (by decide)) DM h⟩
end
theorem DP{l:PySem.W.OpenLaw}{w:World}{K:PySem.W.Frag}{h:Heap}{mg:Str->Option Value}{fa:Addr}(X:K.In h)(G:h.Ns mainGlobals mg)(hfa:mg "law"=some (.ref fa))
  {C_Often:Addr} (aC_Often:PySem.W.nsIn K mainGlobals "Often"=some (some (.ref C_Often))) (pg_Often:PySem.W.plainGet K C_Often Str.empty=true) (hd_Often:PySem.W.hasDictIn K C_Often=true) (po_Often:PySem.W.plainOver K C_Often=true) (sa_Often:PySem.W.findIn K (.ref C_Often) "__setattr__"=some (some (.builtin "object.__setattr__"))) (mk_Often:PySem.W.makesIn K C_Often=true) (kc_Often:PySem.W.keepIn K (.ref C_Often)=true)
  (n_Often_pieces:PySem.W.findIn K (.ref C_Often) "pieces"=some none)
  (n_Often_counts:PySem.W.findIn K (.ref C_Often) "counts"=some none)
  (n_Often_laps:PySem.W.findIn K (.ref C_Often) "laps"=some none)
  (n_Often_total:PySem.W.findIn K (.ref C_Often) "total"=some none)
  {f1:Addr}{oc1 kV1 dc1 pm1 cd1 ct1:Value}{od1 an1 dd1:Option Addr}{sl1 st1:Array (Option Value)}{dT1:Addr}{n1:Nat}{u1_0 u1_1:Tok} (a1:PySem.W.nsIn K mainGlobals "is_text"=some (some (.ref f1))) (l1:K.lookup f1=some ⟨oc1,od1,.func (PySem.W.fnOf "is_text" "is_text" (dk fP) (cD fP) (ar fP) (.ref dT1) kV1 dc1 pm1 an1 cd1 ct1),sl1⟩) (c1:PySem.W.codeIn K cd1 "is_text"=true) (k1:PySem.W.keepIn K (.ref f1)=true) (t1:K.lookup dT1=some ⟨.type "tuple",dd1,.seq [.int 0 u1_0,.int 4000 u1_1].toArray n1,st1⟩)
  (d2:fO K "is_row" oS)
  (d3:fO K "is_number" i9)
  (d4:fO K "first_place" gq)
  (d5:fO K "lap" Br)
  (d6:fO K "steps_of" j6)
  (d7:fO K "_law_stream" ia)
  (d8:fO K "_law_next" j7)
  (d9:fO K "_law_within" ic)
  (d10:fO K "_law_lap" lV)
  (d11:fO K "_law_whole" jc)
  (d12:fO K "is_whole" j4)
  (d13:fO K "all_laps" j5)
  (d14:fO K "check_pieces" fG)
  (d15:fO K "stands_within" e6)
  (d16:fO K "are_numbers" gv)
  (d17:fO K "_law_word" j8)
  (d18:fO K "_law_cut" lU)
  (d19:fO K "_law_counts" ie)
  (d20:fO K "_law_shuffled" fJ)
  (d21:fO K "_law_lesser" ig)
  (d22:fO K "_law_is_row" ii)
  (d23:fO K "_law_prices" ik)
  (d24:fO K "is_kept" lT)
  (d25:fO K "check_counts" fH)
  (d26:fO K "are_prices" h7)
  (d27:fO K "_law_base" j9)
  (d28:fO K "_law_laid" kc)
  (d29:fO K "_law_row" lW)
  (d30:fO K "_law_due" lX)
  (d31:fO K "_law_paper" jd)
  (d32:fO K "_law_other" je)
  (d33:fO K "check_apart" gu)
  (d34:fO K "is_price_paper" eo)
  (d35:fO K "_law_pieces" ib)
  {f36:Addr}{oc36 kV36 dc36 pm36 cd36 ct36:Value}{od36 an36:Option Addr}{sl36:Array (Option Value)} (a36:PySem.W.findIn K (.ref C_Often) "__init__"=some (some (.ref f36))) (i36:PySem.W.isFn K (.ref f36)=true) (l36:K.lookup f36=some ⟨oc36,od36,.func (PySem.W.fnOf "__init__" "Often.__init__" (dk c7) (cD c7) (ar c7) .none kV36 dc36 pm36 an36 cd36 ct36),sl36⟩) (c36:PySem.W.codeIn K cd36 "Often.__init__"=true) (k36:PySem.W.keepIn K (.ref f36)=true)
  (d37:fO K "pays_laps" ja)
  (d38:fO K "_law_apart" jb)
  (d39:fO K "often_bound" gw)
  (d40:fO K "_law_holds" jf)
  (d41:fO K "law" za)
  (z1:PySem.W.nsIn K mainGlobals "abs"=some none)
  (z2:PySem.W.nsIn K mainGlobals "all"=some none)
  (z3:PySem.W.nsIn K mainGlobals "any"=some none)
  (z4:PySem.W.nsIn K mainGlobals "bool"=some none)
  (z5:PySem.W.nsIn K mainGlobals "enumerate"=some none)
  (z6:PySem.W.nsIn K mainGlobals "int"=some none)
  (z7:PySem.W.nsIn K mainGlobals "isinstance"=some none)
  (z8:PySem.W.nsIn K mainGlobals "len"=some none)
  (z9:PySem.W.nsIn K mainGlobals "list"=some none)
  (z10:PySem.W.nsIn K mainGlobals "max"=some none)
  (z11:PySem.W.nsIn K mainGlobals "min"=some none)
  (z12:PySem.W.nsIn K mainGlobals "range"=some none)
  (z13:PySem.W.nsIn K mainGlobals "str"=some none)
  (z14:PySem.W.nsIn K mainGlobals "sum"=some none)
  (z15:PySem.W.nsIn K mainGlobals "tuple"=some none)
  (z16:PySem.W.nsIn K mainGlobals "zip"=some none)
  {ty1:Tok} (y1:PySem.W.nsIn K mainGlobals "MOST_COUNT"=some (some (.int 9 ty1)))
  {ty2:Tok} (y2:PySem.W.nsIn K mainGlobals "MOST_PIECES"=some (some (.int 40 ty2)))
  {ty3:Tok} (y3:PySem.W.nsIn K mainGlobals "MOST_PRODUCT"=some (some (.int 500 ty3)))
  {ty4:Tok} (y4:PySem.W.nsIn K mainGlobals "MOST_SIGNS"=some (some (.int 60 ty4))) :
  ∃fd:FuncData,(∀(s:Shared) (v:Value),BindsTo s fd ⟨[v],[]⟩ [("_law_script",v)])/\∀base:Heap,K.In base->base.Ns mainGlobals mg->p4 l.prog w K mg base CX0 8 fa fd ["_law_script"] (uD K):=by
 have eC_Often:=yw aC_Often;have TC:TxC K:=⟨by rw [eC_Often];exact⟨pg_Often,hd_Often,po_Often,sa_Often⟩,by show PySem.W.findIn K (.ref (dB K "Often")) "pieces"=some none;rw [eC_Often];exact n_Often_pieces,by show PySem.W.findIn K (.ref (dB K "Often")) "counts"=some none;rw [eC_Often];exact n_Often_counts,by show PySem.W.findIn K (.ref (dB K "Often")) "laps"=some none;rw [eC_Often];exact n_Often_laps,by show PySem.W.findIn K (.ref (dB K "Often")) "total"=some none;rw [eC_Often];exact n_Often_total⟩
 have D'0:tJ K mg "is_text" fP [.int 0,.int 4000]:=⟨⟨f1,dT1,oc1,od1,an1,dd1,kV1,dc1,pm1,cd1,ct1,sl1,st1,[.int 0 u1_0,.int 4000 u1_1],n1,l1,c1,k1,PySem.W.mg_of X G a1,t1,(.cons ⟨_,rfl⟩ (.cons ⟨_,rfl⟩ .nil))⟩⟩
 have D'1:=bq d2 X G;have D'2:=bq d3 X G;have D'4:=bq d4 X G;have D'5:=bq d5 X G;have D'12:=bq d6 X G;have D'19:=bq d7 X G;have D'20:=bq d8 X G;have D'25:=bq d9 X G;have D'28:=bq d10 X G;have D'29:=bq d11 X G;have D'3:=bq d12 X G;have D'6:=bq d13 X G;have D'7:=bq d14 X G;have D'8:=bq d15 X G;have D'14:=bq d16 X G
 have D'21:=bq d17 X G;have D'22:=bq d18 X G;have D'27:=bq d19 X G;have D'30:=bq d20 X G;have D'31:=bq d21 X G;have D'34:=bq d22 X G;have D'36:=bq d23 X G;have D'9:=bq d24 X G;have D'11:=bq d25 X G;have D'15:=bq d26 X G;have D'23:=bq d27 X G;have D'32:=bq d28 X G;have D'33:=bq d29 X G;have D'35:=bq d30 X G
 have D'37:=bq d31 X G;have D'38:=bq d32 X G;have D'10:=bq d33 X G;have D'16:=bq d34 X G;have D'24:=bq d35 X G;have D'13:tL K mg (dB K "Often") "Often" "Often.__init__" c7:=by rw [eC_Often];exact⟨⟨f36,_,zq (st:=c7) l36 c36 k36,⟨mk_Often,a36,i36,kc_Often⟩,PySem.W.mg_of X G aC_Often⟩⟩
 have D'17:=bq d37 X G;have D'26:=bq d38 X G;have D'18:=bq d39 X G;have D'39:=bq d40 X G;have D'40:=bq d41 X G;have T:Txt mg:=⟨PySem.W.mg_none_of X G z1,PySem.W.mg_none_of X G z2,PySem.W.mg_none_of X G z3,PySem.W.mg_none_of X G z4,PySem.W.mg_none_of X G z5,PySem.W.mg_none_of X G z6,PySem.W.mg_none_of X G z7,PySem.W.mg_none_of X G z8,PySem.W.mg_none_of X G z9,PySem.W.mg_none_of X G z10,PySem.W.mg_none_of X G z11,PySem.W.mg_none_of X G z12,PySem.W.mg_none_of X G z13,PySem.W.mg_none_of X G z14,PySem.W.mg_none_of X G z15,PySem.W.mg_none_of X G z16,⟨_,PySem.W.mg_of X G y1⟩,⟨_,PySem.W.mg_of X G y2⟩,⟨_,PySem.W.mg_of X G y3⟩,⟨_,PySem.W.mg_of X G y4⟩⟩
 refine CI (st:=za) hfa D'40 (fun _ _ _ _ _ _ s v=>.of_eq rfl) fun base=>?_;have C'0:=vh (P:=l.prog) (w:=w) (base:=base) D'0 T TC;have C'1:=xU (P:=l.prog) (w:=w) (base:=base) D'1 T TC;have C'2:=rp (P:=l.prog) (w:=w) (base:=base) D'2 T TC;have C'4:=m7 (P:=l.prog) (w:=w) (base:=base) D'4 T TC;have C'5:=DN (P:=l.prog) (w:=w) (base:=base) D'5 T TC
 have C'12:=sP (P:=l.prog) (w:=w) (base:=base) D'12 T TC;have C'19:=pO (P:=l.prog) (w:=w) (base:=base) D'19 T TC;have C'20:=sQ (P:=l.prog) (w:=w) (base:=base) D'20 T TC;have C'25:=pQ (P:=l.prog) (w:=w) (base:=base) D'25 T TC;have C'28:=vk (P:=l.prog) (w:=w) (base:=base) D'28 T TC;have C'29:=rA (P:=l.prog) (w:=w) (base:=base) D'29 T TC
 have C'3:=sN (P:=l.prog) (w:=w) (base:=base) D'3 T TC C'2;have C'6:=sO (P:=l.prog) (w:=w) (base:=base) D'6 T TC C'5;have C'7:=mn (P:=l.prog) (w:=w) (base:=base) D'7 T TC C'0;have C'8:=k9 (P:=l.prog) (w:=w) (base:=base) D'8 T TC C'4;have C'14:=m9 (P:=l.prog) (w:=w) (base:=base) D'14 T TC C'2 C'1
 have C'21:=sR (P:=l.prog) (w:=w) (base:=base) D'21 T TC C'20;have C'22:=vj (P:=l.prog) (w:=w) (base:=base) D'22 T TC C'20;have C'27:=pR (P:=l.prog) (w:=w) (base:=base) D'27 T TC C'20;have C'30:=mB (P:=l.prog) (w:=w) (base:=base) D'30 T TC C'20;have C'31:=pS (P:=l.prog) (w:=w) (base:=base) D'31 T TC C'20
 have C'34:=pT (P:=l.prog) (w:=w) (base:=base) D'34 T TC C'29;have C'36:=pU (P:=l.prog) (w:=w) (base:=base) D'36 T TC C'28 C'20;have C'9:=vi (P:=l.prog) (w:=w) (base:=base) D'9 T TC C'8;have C'11:=mo (P:=l.prog) (w:=w) (base:=base) D'11 T TC C'1 C'3;have C'15:=pN (P:=l.prog) (w:=w) (base:=base) D'15 T TC C'14
 have C'23:=sS (P:=l.prog) (w:=w) (base:=base) D'23 T TC C'20 C'21;have C'32:=sU (P:=l.prog) (w:=w) (base:=base) D'32 T TC C'28 C'31 C'20;have C'33:=vm (P:=l.prog) (w:=w) (base:=base) D'33 T TC C'30;have C'35:=vn (P:=l.prog) (w:=w) (base:=base) D'35 T TC C'34 C'28;have C'37:=rB (P:=l.prog) (w:=w) (base:=base) D'37 T TC C'20 C'36
 have C'38:=rC (P:=l.prog) (w:=w) (base:=base) D'38 T TC C'20 C'36;have C'10:=m8 (P:=l.prog) (w:=w) (base:=base) D'10 T TC C'9;have C'16:=km (P:=l.prog) (w:=w) (base:=base) D'16 T TC C'15 C'1;have C'24:=pP (P:=l.prog) (w:=w) (base:=base) D'24 T TC C'23 C'22 C'20 C'21;have C'13:=pM (P:=l.prog) (w:=w) (base:=base) D'13 T TC C'6 C'10 C'11 C'7 C'12
 have C'17:=rq (P:=l.prog) (w:=w) (base:=base) D'17 T TC C'16;have C'26:=rz (P:=l.prog) (w:=w) (base:=base) D'26 T TC C'24 C'25;have C'18:=ng (P:=l.prog) (w:=w) (base:=base) D'18 T TC C'17;have C'39:=rD (P:=l.prog) (w:=w) (base:=base) D'39 T TC C'35 C'32 C'33 C'29 C'18;exact (DO (P:=l.prog) (w:=w) (base:=base) D'40 T TC C'13 C'26 C'27 C'39 C'20 C'38 C'37 C'19 C'29 C'18).imp fun _ _ _ _ h=>AZ h
end K55

open PySem PySem.W PyProof.Rows
local macro_rules | `(tactic| walk_at "fn") => `(tactic| (refine' L2.Dx ?a ?l ?c ?k; (case a => k_is); (case l => k_is); (case c => k_is); (case k => k_is)))
local macro_rules | `(tactic| walk_at "xi") => `(tactic| (refine' L2.E4 ?a ?l ?g ?h ?s ?c ?k; (case a => k_is); (case l => k_is); (case g => k_is); (case h => k_is); (case s => k_is); (case c => k_is); (case k => k_is)))
local macro_rules | `(tactic| walk_at "xj") => `(tactic| (refine' L2.E5 ?i ?t ?l ?c ?k ?n; (case i => k_is); (case t => k_is); (case l => k_is); (case c => k_is); (case k => k_is); (case n => k_is)))
set_option maxRecDepth 100000 in
set_option maxHeartbeats 0 in
theorem PySem.Challenge.cw_shortglue_k55_often_bound_holds : PySem.Challenge.rw_shortglue_k55_often_bound.Holds := by
  refine topHd ?_
  k_fill
  refine L2.CJ (l := PySem.Challenge.rw_shortglue_k55_often_bound) (k := 8) (x := "_law_script") rfl rfl ⟨rfl, by decide, by decide⟩ (fun w h Y => PySem.W.kIn_of Y) ?F
  case F =>
    intro w mg fa h KX G hmg
    refine' K55.DP KX G hmg ?aC_Often ?pg_Often ?hd_Often ?po_Often ?sa_Often ?mk_Often ?kc_Often ?n_Often_pieces ?n_Often_counts ?n_Often_laps ?n_Often_total ?a1 ?l1 ?c1 ?k1 ?t1 ?d2 ?d3 ?d4 ?d5 ?d6 ?d7 ?d8 ?d9 ?d10 ?d11 ?d12 ?d13 ?d14 ?d15 ?d16 ?d17 ?d18 ?d19 ?d20 ?d21 ?d22 ?d23 ?d24 ?d25 ?d26 ?d27 ?d28 ?d29 ?d30 ?d31 ?d32 ?d33 ?d34 ?d35 ?a36 ?i36 ?l36 ?c36 ?k36 ?d37 ?d38 ?d39 ?d40 ?d41 ?z1 ?z2 ?z3 ?z4 ?z5 ?z6 ?z7 ?z8 ?z9 ?z10 ?z11 ?z12 ?z13 ?z14 ?z15 ?z16 ?y1 ?y2 ?y3 ?y4
    (case aC_Often => k_is)
    (case pg_Often => k_is)
    (case hd_Often => k_is)
    (case po_Often => k_is)
    (case sa_Often => k_is)
    (case mk_Often => k_is)
    (case kc_Often => k_is)
    (case n_Often_pieces => k_is)
    (case n_Often_counts => k_is)
    (case n_Often_laps => k_is)
    (case n_Often_total => k_is)
    (case a1 => k_is)
    (case l1 => k_is)
    (case c1 => k_is)
    (case k1 => k_is)
    (case t1 => k_is)
    (case d2 => walk_at "fn")
    (case d3 => walk_at "fn")
    (case d4 => walk_at "fn")
    (case d5 => walk_at "fn")
    (case d6 => walk_at "fn")
    (case d7 => walk_at "fn")
    (case d8 => walk_at "fn")
    (case d9 => walk_at "fn")
    (case d10 => walk_at "fn")
    (case d11 => walk_at "fn")
    (case d12 => walk_at "fn")
    (case d13 => walk_at "fn")
    (case d14 => walk_at "fn")
    (case d15 => walk_at "fn")
    (case d16 => walk_at "fn")
    (case d17 => walk_at "fn")
    (case d18 => walk_at "fn")
    (case d19 => walk_at "fn")
    (case d20 => walk_at "fn")
    (case d21 => walk_at "fn")
    (case d22 => walk_at "fn")
    (case d23 => walk_at "fn")
    (case d24 => walk_at "fn")
    (case d25 => walk_at "fn")
    (case d26 => walk_at "fn")
    (case d27 => walk_at "fn")
    (case d28 => walk_at "fn")
    (case d29 => walk_at "fn")
    (case d30 => walk_at "fn")
    (case d31 => walk_at "fn")
    (case d32 => walk_at "fn")
    (case d33 => walk_at "fn")
    (case d34 => walk_at "fn")
    (case d35 => walk_at "fn")
    (case a36 => k_is)
    (case i36 => k_is)
    (case l36 => k_is)
    (case c36 => k_is)
    (case k36 => k_is)
    (case d37 => walk_at "fn")
    (case d38 => walk_at "fn")
    (case d39 => walk_at "fn")
    (case d40 => walk_at "fn")
    (case d41 => walk_at "fn")
    (case z1 => k_is)
    (case z2 => k_is)
    (case z3 => k_is)
    (case z4 => k_is)
    (case z5 => k_is)
    (case z6 => k_is)
    (case z7 => k_is)
    (case z8 => k_is)
    (case z9 => k_is)
    (case z10 => k_is)
    (case z11 => k_is)
    (case z12 => k_is)
    (case z13 => k_is)
    (case z14 => k_is)
    (case z15 => k_is)
    (case z16 => k_is)
    (case y1 => k_is)
    (case y2 => k_is)
    (case y3 => k_is)
    (case y4 => k_is)
