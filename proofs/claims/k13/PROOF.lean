import PyProof.Rows.All
import Wide.All
import OpenK.AllK
import Wide.FinOn
import Lean
import PyProof.EqAt
import PyProof.EqKinds
import PyProof.TupleCall
import PySem.Challenge.RW_shortglue_k13_left_paper
set_option Elab.async false
set_option linter.all false
set_option maxRecDepth 100000
-- CHANGE: your row's module here, as the last of these rows
namespace L2
open PySem PySem.Spec PyProof.Rows
abbrev Key := Sum Int Str
def keyIs : Key → Value → Bool
  | .inl k, v => Value.isInt k v
  | .inr x, v => Value.isStrOf x v
def keyH (w : World) : Key → Int
  | .inl k => hashInt k
  | .inr x => hashStr w x
theorem keyIs_shape : ∀ {k : Key} {v : Value}, keyIs k v = true → (∃ i t, k = Sum.inl i ∧ v = Value.int i t) ∨ (∃ x t, k = Sum.inr x ∧ v = Value.str x t)
  | .inl i, v, h => by
    obtain ⟨t, e⟩ := Value.isInt_shape (k := i) (v := v) h
    exact .inl ⟨i, t, rfl, e⟩
  | .inr x, v, h => by
    obtain ⟨t, e⟩ := Value.isStrOf_shape (x := x) (v := v) h
    exact .inr ⟨x, t, rfl, e⟩
theorem key_ll (a b : Int) : decide ((Sum.inl a : Key) = Sum.inl b) = (a == b) := by
  by_cases e : a = b
  · subst e; simp
  · have h : ¬ (Sum.inl a : Key) = Sum.inl b := fun q => e (Sum.inl.inj q)
    rw [decide_eq_false h]
    exact (beq_eq_false_iff_ne.mpr e).symm
theorem key_rr (a b : Str) : decide ((Sum.inr a : Key) = Sum.inr b) = decide (a = b) := by
  by_cases e : a = b
  · subst e; simp
  · have h : ¬ (Sum.inr a : Key) = Sum.inr b := fun q => e (Sum.inr.inj q)
    rw [decide_eq_false h, decide_eq_false e]
theorem key_lr (a : Int) (b : Str) : decide ((Sum.inl a : Key) = Sum.inr b) = false := decide_eq_false (fun q => nomatch q)
theorem key_rl (a : Str) (b : Int) : decide ((Sum.inr a : Key) = Sum.inl b) = false := decide_eq_false (fun q => nomatch q)
def mixKind (prog : Program) (w : World) : PySem.KeyKind prog w Key where
  is := keyIs
  hash := keyH w
  inj := fun v a b ha hb => by
    rcases keyIs_shape ha with ⟨i, t, rfl, rfl⟩ | ⟨x, t, rfl, rfl⟩
    · rcases keyIs_shape hb with ⟨j, u, rfl, e⟩ | ⟨y, u, rfl, e⟩
      · injection e with e1 _; rw [e1]
      · exact nomatch e
    · rcases keyIs_shape hb with ⟨j, u, rfl, e⟩ | ⟨y, u, rfl, e⟩
      · exact nomatch e
      · injection e with e1 _; rw [e1]
  byValue := fun k v h => by
    rcases keyIs_shape h with ⟨i, t, rfl, rfl⟩ | ⟨x, t, rfl, rfl⟩ <;> rfl
  pyHash := fun hv h => by
    rcases keyIs_shape hv with ⟨i, t, rfl, rfl⟩ | ⟨x, t, rfl, rfl⟩
    · exact wpAny_pyHash_int h
    · exact wpAny_pyHash_str h
  eqBool := fun hu hv h => by
    rcases keyIs_shape hu with ⟨i, t, rfl, rfl⟩ | ⟨x, t, rfl, rfl⟩
    · rcases keyIs_shape hv with ⟨j, u, rfl, rfl⟩ | ⟨y, u, rfl, rfl⟩
      · rw [key_ll] at h; exact wpAny_eqBool_int h
      · rw [key_lr] at h; exact SeqAt.EqAt.int_str i t y u _ _ _ _ h
    · rcases keyIs_shape hv with ⟨j, u, rfl, rfl⟩ | ⟨y, u, rfl, rfl⟩
      · rw [key_rl] at h; exact SeqAt.EqAt.str_int x t j u _ _ _ _ h
      · rw [key_rr] at h; exact wpAny_eqBool_str h
  «strs» := fun k x t v h => by
    rcases keyIs_shape h with ⟨i, u, rfl, e⟩ | ⟨y, u, rfl, e⟩
    · exact nomatch e
    · injection e with e1 _
      subst e1
      cases v <;> rfl
end L2
namespace L2
open PySem PySem.Spec PyProof.Rows
inductive V where
  | non | bl (b : Bool) | int (i : Int) | str (x : Str) | byt (b : Array UInt8) | flt (b : UInt64) | ref (a : Addr) | ty (n : String)
  deriving DecidableEq
def RelV : V → Value → Prop
  | .non, u => u = Value.none
  | .bl b, u => u = Value.bool b
  | .int i, u => ∃ t, u = Value.int i t
  | .str x, u => ∃ t, u = Value.str x t
  | .byt b, u => ∃ t, u = Value.bytes b t
  | .flt b, u => ∃ t, u = Value.float b t
  | .ref a, u => u = Value.ref a
  | .ty n, u => u = Value.type n
abbrev Vals : List V → List Value → Prop := Paired RelV
theorem Vals.length {xs : List V} {us : List Value} (r : Vals xs us) : xs.length = us.length := Paired.length r
theorem Vals.get : ∀ {xs : List V} {us : List Value} {i : Nat} {x : V}, Vals xs us → xs[i]? = some x → ∃ u, us[i]? = some u ∧ RelV x u
  | _, _, _, _, .nil, e => by simp at e
  | _, _, 0, _, .cons r _, e => by simp at e; subst e; exact ⟨_, rfl, r⟩
  | _, _, i + 1, x, .cons _ t, e => by
    obtain ⟨u, h1, h2⟩ := Vals.get (i := i) (x := x) t (by simpa using e)
    exact ⟨u, by simpa using h1, h2⟩
theorem Vals.set {x : V} {u : Value} (r : RelV x u) : ∀ {xs : List V} {us : List Value} (i : Nat), Vals xs us → Vals (xs.set i x) (us.set i u)
  | _, _, _, .nil => .nil
  | _, _, 0, .cons _ t => .cons r t
  | _, _, i + 1, .cons q t => .cons q (Vals.set r i t)
theorem Vals.append : ∀ {xs ys : List V} {us ws : List Value}, Vals xs us → Vals ys ws → Vals (xs ++ ys) (us ++ ws)
  | _, _, _, _, .nil, s => s
  | _, _, _, _, .cons r t, s => .cons r (Vals.append t s)
theorem Vals.take : ∀ {xs : List V} {us : List Value} (n : Nat), Vals xs us → Vals (xs.take n) (us.take n)
  | _, _, 0, _ => .nil
  | _, _, _ + 1, .nil => .nil
  | _, _, n + 1, .cons r t => .cons r (Vals.take n t)
theorem Vals.drop : ∀ {xs : List V} {us : List Value} (n : Nat), Vals xs us → Vals (xs.drop n) (us.drop n)
  | _, _, 0, r => r
  | _, _, _ + 1, .nil => .nil
  | _, _, n + 1, .cons _ t => Vals.drop n t
def RelO : Option V → Option Value → Prop
  | some v, some u => RelV v u
  | none, none => True
  | _, _ => False
def KV {κ : Type} : List (κ × V) → List (κ × Value) → Prop := Paired fun (p : κ × V) (q : κ × Value) => p.1 = q.1 ∧ RelV p.2 q.2
def kV : Key → V
  | .inl i => .int i
  | .inr x => .str x
inductive HO where
  /-- a list -/
  | lst (xs : List V)
  /-- a tuple (never changes) -/
  | tup (xs : List V)
  /-- a dict whose keys are ints and texts; one whose keys are tuples of ints and texts (the empty one is both) -/
  | dK (kvs : List (Key × V)) | dT (kvs : List (List Key × V))
  /-- a set of ints: its members, its size -/
  | set (S : Int → Bool) (n : Nat)
  /-- an instance of the class at C, its dict at dx, its attributes -/
  | ins (C dx : Addr) (fs : List (Str × V))
  /-- the dict of the instance at x -/
  | own (x : Addr)
  /-- the dict of an exception -/
  | xd (fs : List (Str × V))
  /-- a bound method, f of x -/
  | met (f x : Addr)
  /-- a range object lo, lo + 1, .. below hi -/
  | rng (lo hi : Int)
  /-- a thing that is known to the object (the script; a dict while a loop walks it): read, never written while it is so -/
  | frz (o : Obj) (u : HO)
  /-- a code object's table -/
  | tbl (ps : Array Value)
  /-- any other thing, by what is true of its one object (a def of one's own: SetO a S n := HO.ext fun h => ..) -/
  | ext (φ : Heap → Prop)
abbrev Hp := Addr → Option HO
def upd (H : Hp) (a : Addr) (o : HO) : Hp := fun b => if b = a then some o else H b
theorem upd_same {H : Hp} {a : Addr} {o : HO} : upd H a o a = some o := by unfold upd; rw [if_pos rfl]
theorem upd_ne {H : Hp} {a b : Addr} {o : HO} (h : b ≠ a) : upd H a o b = H b := by unfold upd; rw [if_neg h]
theorem ne_of_none {H : Hp} {a b : Addr} {o : HO} (h : H a = some o) (h' : H b = none) : a ≠ b := by
  intro e; subst e; rw [h] at h'; cases h'
section
variable (P : Program) (w : World)
def ObjOk (H : Hp) (h : Heap) (a : Addr) : HO → Prop
  | .lst xs => xs.length ≤ sizeLine ∧ ∃ (its : List Value) (n : Nat), Vals xs its ∧ h.get? a = some { cls := .type "list", data := .seq its.toArray n }
  | .tup xs => xs.length ≤ sizeLine ∧ ∃ its : List Value, Vals xs its ∧ IsTup h a its.toArray
  | .dK kvs => kvs.length ≤ sizeLine ∧ (a == sysModules) = false ∧ ∃ vs, KV kvs vs ∧ h.DictOf (mixKind P w) a vs
  | .dT kvs => kvs.length ≤ sizeLine ∧ (a == sysModules) = false ∧ ∃ xs : List (List Key × Addr × Value),
      Paired (fun (p : List Key × V) (q : List Key × Addr × Value) => p.1 = q.1 ∧ H q.2.1 = some (.tup (p.1.map kV)) ∧ RelV p.2 q.2.2) kvs xs ∧
      ∃ o es ep, h.get? a = some o ∧ o.ExactDict ∧ o.data = .dict es ep ∧ es.toList = xs.map (entryOfKey (tupleKind (mixKind P w))) ∧ (xs.map (·.1)).Nodup
  | .set S n => h.SetOf (intKind P w) a S n
  | .ins C dx fs => H dx = some (.own a) ∧ fs.length ≤ 1000 ∧ dx ≠ a ∧ h.get? a = some (PySem.W.instObj C dx) ∧
      ∃ mA, h.Ns1 dx mA ∧ (∀ f, RelO (fs.lookup f) (mA f)) ∧ PySem.Within mA (fs.map (·.1))
  | .own _ => ∃ o, h.get? a = some o
  | .xd fs => ∃ mA, h.Ns1 a mA ∧ ∀ f, RelO (fs.lookup f) (mA f)
  | .rng lo hi => ∃ t u v, h.get? a = some { cls := .type "range", data := .fields #[.int lo t, .int hi u, .int 1 v] }
  | .frz o u => h.get? a = some o ∧ ObjOk H h a u
  | .tbl ps => h.get? a = some { cls := .none, data := .fields ps }
  | .met f x => h.get? a = some (PySem.W.methodObj (.ref f) (.ref x))
  | .ext φ => φ h ∧ (∃ o, h.get? a = some o) ∧ ∀ h1 h2 : Heap, φ h1 → (∀ o, h1.get? a = some o → h2.get? a = some o) → φ h2
def HOk (H : Hp) (h : Heap) : Prop := ∀ a o, H a = some o → ObjOk P w H h a o
end
section
variable {P : Program} {w : World} {H H' : Hp} {h h' : Heap} {a : Addr} {o : HO}
theorem ObjOk.lt (x : ObjOk P w H h a o) : a < h.objs.size := by
  cases o with
  | lst xs => obtain ⟨_, _, _, _, e⟩ := x; exact Heap.lt_size e
  | tup xs => obtain ⟨_, _, _, p⟩ := x; exact p.lt
  | dK kvs => obtain ⟨_, _, _, _, o, _, _, e, _⟩ := x; exact Heap.lt_size e
  | dT kvs => obtain ⟨_, _, _, _, o, _, _, e, _⟩ := x; exact Heap.lt_size e
  | set S n => obtain ⟨o, _, _, _, e, _⟩ := x; exact Heap.lt_size e
  | ins C dx fs => obtain ⟨_, _, _, e, _⟩ := x; exact Heap.lt_size e
  | own y => obtain ⟨_, e⟩ := x; exact Heap.lt_size e
  | xd fs => obtain ⟨_, ⟨_, _, _, e, _⟩, _⟩ := x; exact Heap.lt_size e
  | rng lo hi => obtain ⟨_, _, _, e⟩ := x; exact Heap.lt_size e
  | frz ob u => obtain ⟨e, _⟩ := x; exact Heap.lt_size e
  | tbl ps => exact Heap.lt_size (show h.get? a = some _ from x)
  | met f y => exact Heap.lt_size (show h.get? a = some _ from x)
  | ext φ => obtain ⟨_, ⟨_, e⟩, _⟩ := x; exact Heap.lt_size e
theorem Paired.mapP {α β : Type} {F G : α → β → Prop} : ∀ {l₁ : List α} {l₂ : List β}, Paired F l₁ l₂ → (∀ a b, F a b → G a b) → Paired G l₁ l₂
  | _, _, .nil, _ => .nil
  | _, _, .cons r t, f => .cons (f _ _ r) (Paired.mapP t f)
theorem ObjOk.stay (x : ObjOk P w H h a o) (k : ∀ b u, (b = a ∨ H b = some (.own a)) → h.get? b = some u → h'.get? b = some u)
    (ho : ∀ b, H b = some (.own a) → H' b = some (.own a)) (ht : ∀ b xs, H b = some (.tup xs) → H' b = some (.tup xs)) : ObjOk P w H' h' a o := by
  induction o with
  | lst xs => obtain ⟨z, its, n, r, e⟩ := x; exact ⟨z, its, n, r, k _ _ (.inl rfl) e⟩
  | tup xs => obtain ⟨z, its, r, ob, e, c⟩ := x; exact ⟨z, its, r, ob, k _ _ (.inl rfl) e, c⟩
  | dK kvs => obtain ⟨z, y, vs, r, ob, es, ep, e, c⟩ := x; exact ⟨z, y, vs, r, ob, es, ep, k _ _ (.inl rfl) e, c⟩
  | dT kvs =>
    obtain ⟨z, y, xs, r, ob, es, ep, e, c⟩ := x
    exact ⟨z, y, xs, Paired.mapP r fun p q z => ⟨z.1, ht _ _ z.2.1, z.2.2⟩, ob, es, ep, k _ _ (.inl rfl) e, c⟩
  | set S n => obtain ⟨ob, es, ep, t, e, c⟩ := x; exact ⟨ob, es, ep, t, k _ _ (.inl rfl) e, c⟩
  | ins C dx fs =>
    obtain ⟨d, z, ne, e, mA, ⟨od, es, ep, e2, c⟩, r⟩ := x
    exact ⟨ho _ d, z, ne, k _ _ (.inl rfl) e, mA, ⟨od, es, ep, k _ _ (.inr d) e2, c⟩, r⟩
  | own y => obtain ⟨ob, e⟩ := x; exact ⟨ob, k _ _ (.inl rfl) e⟩
  | xd fs => obtain ⟨mA, ⟨od, es, ep, e, c⟩, r⟩ := x; exact ⟨mA, ⟨od, es, ep, k _ _ (.inl rfl) e, c⟩, r⟩
  | rng lo hi => obtain ⟨t, u, v, e⟩ := x; exact ⟨t, u, v, k _ _ (.inl rfl) e⟩
  | frz ob u ih => obtain ⟨e, q⟩ := x; exact ⟨k _ _ (.inl rfl) e, ih q⟩
  | tbl ps =>
    have e : h.get? a = some { cls := .none, data := .fields ps } := x
    show h'.get? a = some { cls := .none, data := .fields ps }
    exact k a _ (.inl rfl) e
  | met f y =>
    have e : h.get? a = some (PySem.W.methodObj (.ref f) (.ref y)) := x
    show h'.get? a = some (PySem.W.methodObj (.ref f) (.ref y))
    exact k a _ (.inl rfl) e
  | ext φ => obtain ⟨p, ⟨o, e⟩, st⟩ := x; exact ⟨st _ _ p fun o q => k _ _ (.inl rfl) q, ⟨o, k _ _ (.inl rfl) e⟩, st⟩
theorem HOk.lt (x : HOk P w H h) (e : H a = some o) : a < h.objs.size := (x a o e).lt
theorem HOk.fresh (x : HOk P w H h) (e : h.objs.size ≤ a) : H a = none := by
  cases q : H a with
  | none => rfl
  | some u => exact absurd (Nat.lt_of_lt_of_le (x.lt q) e) (Nat.lt_irrefl _)
theorem HOk.kept (x : HOk P w H h) (k : ∀ b u, h.get? b = some u → h'.get? b = some u) : HOk P w H h' := fun a o e =>
  (x a o e).stay (fun b u _ q => k b u q) (fun _ q => q) fun _ _ q => q
theorem HOk.laid (x : HOk P w H h) (k : ∀ b u, h.get? b = some u → h'.get? b = some u) (hp : h.objs.size ≤ a) (new : ObjOk P w (upd H a o) h' a o) : HOk P w (upd H a o) h' := fun b u e => by
  have hn := x.fresh hp
  by_cases hb : b = a
  · subst hb; rw [upd_same] at e; cases e; exact new
  · rw [upd_ne hb] at e
    exact (x b u e).stay (fun c v _ q => k c v q) (fun c q => by rw [upd_ne (ne_of_none q hn)]; exact q) fun c xs q => by rw [upd_ne (ne_of_none q hn)]; exact q
end
def Rd (H : Hp) (a : Addr) (u : HO) : Prop := H a = some u ∨ ∃ o, H a = some (.frz o u)
theorem Rd.ok {P : Program} {w : World} {H : Hp} {h : Heap} {a : Addr} {u : HO} (r : Rd H a u) (x : HOk P w H h) : ObjOk P w H h a u := by
  rcases r with r | ⟨o, r⟩
  · exact x a u r
  · obtain ⟨_, q⟩ := x a _ r
    exact q
def Mut : Option HO → Prop
  | some (.lst _) => True
  | some (.dK _) => True
  | some (.dT _) => True
  | some (.set _ _) => True
  | some (.ins _ _ _) => True
  | some (.ext _) => True
  | _ => False
section
variable {P : Program} {w : World} {H : Hp} {h h' : Heap} {x e : Addr} {o' : HO}
theorem HOk.write (ok : HOk P w H h) (mu : Mut (H x)) (he : e = x ∨ H e = some (.own x)) (k : ∀ b u, b ≠ e → h.get? b = some u → h'.get? b = some u) (heo : ∃ u, h'.get? e = some u)
    (new : ObjOk P w (upd H x o') h' x o') : HOk P w (upd H x o') h' := fun b u q => by
  have nown : ∀ c y, H c = some (.own y) → c ≠ x := fun c y r z => by subst z; rw [r] at mu; exact mu
  have ntup : ∀ c xs, H c = some (.tup xs) → c ≠ x := fun c xs r z => by subst z; rw [r] at mu; exact mu
  by_cases hb : b = x
  · subst hb; rw [upd_same] at q; cases q; exact new
  · rw [upd_ne hb] at q
    by_cases hbe : b = e
    · have q' : H b = some (.own x) := by
        rcases he with z | z
        · exact absurd (hbe.trans z) hb
        · rw [hbe]; exact z
      rw [q] at q'; cases q'
      obtain ⟨v, hv⟩ := heo
      exact ⟨v, by rw [hbe]; exact hv⟩
    · refine (ok b u q).stay (fun c v hc r => k c v ?_ r) (fun c r => by rw [upd_ne (nown c b r)]; exact r) fun c xs r => by rw [upd_ne (ntup c xs r)]; exact r
      rcases hc with rfl | hc
      · exact hbe
      · rintro rfl
        rcases he with z | z
        · exact nown c b hc z
        · rw [hc] at z; cases z; exact hb rfl
end
structure Un (fs ex : List Addr) (H H' : Hp) (h h' : Heap) : Prop where
  keep : ∀ b o, h.get? b = some o → H b = none → b ∉ fs → b ∉ ex → h'.get? b = some o
  slot : ∀ b o, h.get? b = some o → H b = none → b ∈ fs → b ∉ ex → ∃ sl, h'.get? b = some { o with slots := sl }
  free : ∀ b o, h.get? b = some o → H b = none → b ∉ ex → H' b = none
  there : ∀ b o, h.get? b = some o → b ∉ ex → ∃ o', h'.get? b = some o'
  tups : ∀ b xs, H b = some (.tup xs) → H' b = some (.tup xs)
  frzs : ∀ b o u, H b = some (.frz o u) → H' b = some (.frz o u)
  tbls : ∀ b ps, H b = some (.tbl ps) → ∃ more, H' b = some (.tbl (ps ++ more))
section
variable {fs fs' ex ex' : List Addr} {H H1 H2 : Hp} {h h1 h2 h' : Heap} {a x e : Addr} {o : HO}
theorem Un.any (u : Un fs ex H H1 h h1) {b : Addr} {ob : Obj} (q : h.get? b = some ob) (n : H b = none) (hx : b ∉ ex) : ∃ sl, h1.get? b = some { ob with slots := sl } := by
  by_cases hb : b ∈ fs
  · exact u.slot b ob q n hb hx
  · exact ⟨ob.slots, u.keep b ob q n hb hx⟩
theorem Un.kept (k : ∀ b u, h.get? b = some u → h'.get? b = some u) : Un fs ex H H h h' :=
  ⟨fun b ob q _ _ _ => k b ob q, fun b ob q _ _ _ => ⟨ob.slots, k b ob q⟩, fun _ _ _ n _ => n, fun b ob q _ => ⟨ob, k b ob q⟩, fun _ _ q => q, fun _ _ _ q => q, fun _ ps q => ⟨#[], by rw [q]; simp⟩⟩
theorem Un.refl : Un fs ex H H h h := Un.kept fun _ _ q => q
theorem Un.laid (k : ∀ b u, h.get? b = some u → h'.get? b = some u) (hp : h.objs.size ≤ a) (hn : H a = none) : Un fs ex H (upd H a o) h h' where
  keep := fun b u q _ _ _ => k b u q
  slot := fun b u q _ _ _ => ⟨u.slots, k b u q⟩
  free := fun b u q n _ => by rw [upd_ne (Nat.ne_of_lt (Nat.lt_of_lt_of_le (Heap.lt_size q) hp))]; exact n
  there := fun b u q _ => ⟨u, k b u q⟩
  tups := fun b xs q => by rw [upd_ne (ne_of_none q hn)]; exact q
  frzs := fun b u xs q => by rw [upd_ne (ne_of_none q hn)]; exact q
  tbls := fun b ps q => ⟨#[], by rw [upd_ne (ne_of_none q hn), q]; simp⟩
theorem Un.write (mu : Mut (H x)) (he : e = x ∨ H e = some (.own x)) (k : ∀ b u, b ≠ e → h.get? b = some u → h'.get? b = some u) (heo : ∃ u, h'.get? e = some u) : Un fs ex H (upd H x o) h h' := by
  have hx : ∀ b, H b = none → b ≠ x := fun b n z => by subst z; rw [n] at mu; exact mu
  have hb : ∀ b, H b = none → b ≠ e := fun b n z => by
    subst z
    rcases he with r | r
    · exact hx b n r
    · rw [n] at r; cases r
  have hm : ∀ b u, H b = some u → ¬ Mut (some u) → b ≠ x := fun b u q nm z => by subst z; rw [q] at mu; exact nm mu
  refine ⟨fun b u q n _ _ => k b u (hb b n) q, fun b u q n _ _ => ⟨u.slots, k b u (hb b n) q⟩, fun b u q n _ => by rw [upd_ne (hx b n)]; exact n, fun b u q _ => ?_,
    fun b xs q => by rw [upd_ne (hm b _ q fun z => z)]; exact q, fun b u xs q => by rw [upd_ne (hm b _ q fun z => z)]; exact q, fun b ps q => ⟨#[], by rw [upd_ne (hm b _ q fun z => z), q]; simp⟩⟩
  by_cases hbe : b = e
  · subst hbe; exact heo
  · exact ⟨u, k b u hbe q⟩
end
def trk (h : Heap) (H : Hp) : List Addr := (List.range h.objs.size).filter fun a => (H a).isSome
def hidT (h : Heap) (H : Hp) : Heap := PySem.W.hideAll h (trk h H)
theorem hidT_size (h : Heap) (H : Hp) : (hidT h H).objs.size = h.objs.size := PySem.W.hideAll_size _ _
theorem hidT_get {h : Heap} {H : Hp} {b : Addr} {o : Obj} (e : h.get? b = some o) (n : H b = none) : (hidT h H).get? b = some o :=
  PySem.W.hideAll_get _ e fun hm => by
    have q : (H b).isSome = true := (List.mem_filter.mp hm).2
    rw [n] at q; simp at q
theorem of_hidT {h : Heap} {H : Hp} {b : Addr} {o : Obj} (e : (hidT h H).get? b = some o) : h.get? b = some o ∧ H b = none := by
  have e' : h.get? b = some o := PySem.W.of_hideAll (trk h H) e
  refine ⟨e', ?_⟩
  cases q : H b with
  | none => rfl
  | some x =>
    have hm : b ∈ trk h H := List.mem_filter.mpr ⟨List.mem_range.mpr (Heap.lt_size e'), by simp [q]⟩
    have z : (hidT h H).get? b = none := PySem.W.hideAll_none (trk h H) hm
    rw [z] at e; cases e
end L2
namespace L2
open PySem PySem.Spec PyProof.Rows
structure Mod (K : PySem.W.Frag) (mg : Str → Option Value) (base : Heap) : Prop where
  kin : K.In base
  glob : base.Ns mainGlobals mg
  blt : ∃ mb, base.Ns builtinsNs mb ∧ ∀ x : Str, x ≠ "__name__" → mb x = bootBuiltins x
  nolimit : base.NoLimit
structure Cx where
  prog : Program
  w : World
  K : PySem.W.Frag
  mg : Str → Option Value
  base : Heap
  A : Around
  N : List Str
  s₀ : Shared
  H₀ : Hp
  env : Env
  outer : List Env
  stack : List Env
  ex : List Addr
  fn : Str → Bool
  calm : Bool
  pn : List (Addr × Obj)
  xe : Value → Shared → Prop
def frs (l : List Env) : List Addr := l.filterMap (·.frame)
abbrev Cx.fs (X : Cx) : List Addr := frs X.outer
def Vis (sc : Scope) (x : Str) : Prop := sc.names.lookup x = some .local ∨ sc.names.lookup x = some .cell ∨ sc.names.lookup x = some .free
def Loc (sc : Scope) (x : Str) : Prop := sc.names.lookup x = some .local ∨ sc.names.lookup x = some .cell
def Look (env : Env) (h : Heap) (m : Str → Option Value) (x : Str) (u : Value) : Prop :=
  (env.kindOf x = some .local ∧ m x = some u) ∨ ((env.kindOf x = some .cell ∨ env.kindOf x = some .free) ∧ ∃ c, env.cells.lookup x = some c ∧ h.IsCell c (some u))
structure Cx.Ok (X : Cx) : Prop where
  mod : Mod X.K X.mg X.base
  kind : X.env.scope.kind = .function
  glob : X.env.globals = mainGlobals
  blt : X.env.builtins = builtinsNs
  above : X.s₀.heap.objs.size ≤ X.env.locals
  inj : ∀ x y c, X.env.cells.lookup x = some c → X.env.cells.lookup y = some c → x = y
  has : ∀ x, (X.env.kindOf x = some .cell ∨ X.env.kindOf x = some .free) → ∃ c, X.env.cells.lookup x = some c
  cab : ∀ x c, X.fn x = true → X.env.cells.lookup x = some c → X.s₀.heap.objs.size ≤ c
  hd : X.calm = true → X.A.handled = none
  frames : X.A.frames = some X.stack
  stk : X.stack = X.outer ∨ (X.stack = X.env :: X.outer ∧ X.env.frame = some X.env.locals)
  exf : ∀ b ∈ X.ex, b ≠ X.env.locals ∧ ∀ x c, X.env.cells.lookup x = some c → c ≠ b
  bs : ∀ b o, X.base.get? b = some o → X.s₀.heap.get? b = some o ∧ X.H₀ b = none
  bsz : X.base.objs.size ≤ X.s₀.heap.objs.size
  noex : ∀ b o, X.base.get? b = some o → b ∉ X.ex
  exfs : ∀ b ∈ X.ex, b ∉ X.fs
  funs : X.s₀.heap.FunFrames X.base X.outer
  frf : ∀ b ∈ X.fs, X.H₀ b = none
structure Inv (X : Cx) (pins : List (Addr × Obj)) (σ : List (Option V)) (H : Hp) (s : Shared) : Prop where
  ok : X.Ok
  os : s.os = X.s₀.os
  bare : AllBare s.gens
  base : Un X.fs X.ex X.H₀ H X.s₀.heap s.heap
  loc : ∃ m, s.heap.Ns X.env.locals m ∧ ∀ (i : Nat) (x : Str) (v : V), X.N[i]? = some x → σ[i]? = some (some v) → Vis X.env.scope x → ∃ u, RelV v u ∧ Look X.env s.heap m x u
  cell : ∀ x c, X.env.cells.lookup x = some c → ∃ v, s.heap.IsCell c v
  free : H X.env.locals = none
  freeC : ∀ x c, X.env.cells.lookup x = some c → H c = none
  pin : ∀ p ∈ X.pn ++ pins, s.heap.get? p.1 = some p.2 ∧ H p.1 = none ∧ p.1 ≠ X.env.locals ∧ p.1 ∉ X.fs ∧ ∀ v, p.2.data ≠ .cell v
  hok : HOk X.prog X.w H s.heap
  len : σ.length = X.N.length
section
variable {X : Cx} {pins : List (Addr × Obj)} {σ : List (Option V)} {H H' : Hp} {s : Shared} {h' : Heap}
theorem Cx.Ok.nofr (ok : X.Ok) {b : Addr} {o : Obj} (e : X.base.get? b = some o) : b ∉ X.fs := fun hb => by
  have := (ok.funs.mem hb).1
  rw [e] at this; cases this
theorem Inv.bs (I : Inv X pins σ H s) : ∀ b o, X.base.get? b = some o → s.heap.get? b = some o ∧ H b = none := fun b o e =>
  ⟨I.base.keep b o (I.ok.bs b o e).1 (I.ok.bs b o e).2 (I.ok.nofr e) (I.ok.noex b o e), I.base.free b o (I.ok.bs b o e).1 (I.ok.bs b o e).2 (I.ok.noex b o e)⟩
theorem Inv.bk (I : Inv X pins σ H s) : ∀ b o, X.base.get? b = some o → s.heap.get? b = some o := fun b o e => (I.bs b o e).1
theorem Inv.mod (I : Inv X pins σ H s) : Mod X.K X.mg X.base := I.ok.mod
theorem Inv.kIn (I : Inv X pins σ H s) : X.K.In s.heap := I.ok.mod.kin.keeps I.bk
theorem Inv.lt (I : Inv X pins σ H s) : X.env.locals < s.heap.objs.size := let ⟨_, hn, _⟩ := I.loc; hn.lt
theorem Inv.sz (I : Inv X pins σ H s) : X.s₀.heap.objs.size ≤ s.heap.objs.size := Nat.le_trans I.ok.above (Nat.le_of_lt I.lt)
theorem Inv.nofs (I : Inv X pins σ H s) {a : Addr} (h : s.heap.objs.size ≤ a) : a ∉ X.fs := fun hb => by
  obtain ⟨_, o, ho, _⟩ := I.ok.funs.mem hb
  exact absurd (Nat.lt_of_lt_of_le (Heap.lt_size ho) (Nat.le_trans I.sz h)) (Nat.lt_irrefl _)
theorem Inv.cne (I : Inv X pins σ H s) : ∀ x c, X.env.cells.lookup x = some c → c ≠ X.env.locals := fun x c e z => by
  obtain ⟨v, o, ho, hd⟩ := I.cell x c e
  obtain ⟨m, ⟨o', es, ep, ho', hd', _⟩, _⟩ := I.loc
  rw [z, ho'] at ho; cases ho; rw [hd'] at hd; cases hd
theorem Inv.funs (I : Inv X pins σ H s) : s.heap.FunFrames X.base X.outer := by
  have all : ∀ (l : List Env), (∀ b ∈ frs l, b ∈ X.fs) → X.s₀.heap.FunFrames X.base l → s.heap.FunFrames X.base l := by
    intro l
    induction l with
    | nil => intro _ _; trivial
    | cons env r ih =>
      intro hs hl
      obtain ⟨hk, ⟨L, o, hf, hn, ho, hd⟩, hr⟩ := hl
      have hL : L ∈ X.fs := hs L (by unfold frs; rw [List.filterMap_cons, hf]; exact List.mem_cons_self)
      obtain ⟨sl, e⟩ := I.base.slot L o ho (I.ok.frf L hL) hL fun z => I.ok.exfs L z hL
      exact ⟨hk, ⟨L, _, hf, hn, e, hd⟩, ih (fun b hb => hs b (by unfold frs; rw [List.filterMap_cons, hf]; exact List.mem_cons_of_mem _ hb)) hr⟩
  exact all X.outer (fun _ hb => hb) I.ok.funs
theorem Inv.stack (I : Inv X pins σ H s) : s.heap.FunFrames X.base X.stack := by
  rcases I.ok.stk with e | ⟨e, hf⟩
  · rw [e]; exact I.funs
  · rw [e]
    obtain ⟨m, hn, _⟩ := I.loc
    refine .cons (by rw [I.ok.kind]; decide) hf hn ?_ I.funs
    exact Heap.get?_none_of_le (Nat.le_trans I.ok.bsz I.ok.above)
theorem Inv.stkSub (I : Inv X pins σ H s) : ∀ b ∈ frs X.stack, b ∈ X.env.locals :: X.fs := fun b hb => by
  rcases I.ok.stk with e | ⟨e, hf⟩
  · rw [e] at hb; exact List.mem_cons_of_mem _ hb
  · rw [e] at hb
    unfold frs at hb
    rw [List.filterMap_cons, hf] at hb
    exact hb
theorem Inv.stkFree (I : Inv X pins σ H s) : ∀ b ∈ frs X.stack, H b = none := fun b hb => by
  rcases List.mem_cons.mp (I.stkSub b hb) with e | hb
  · rw [e]; exact I.free
  · obtain ⟨_, o, ho, _⟩ := I.ok.funs.mem hb
    exact I.base.free b o ho (I.ok.frf b hb) fun z => I.ok.exfs b z hb
theorem Inv.step {g' : Array GenState} {t' : Nat} {d' : Drawn} {ch : List Addr} (I : Inv X pins σ H s)
    (hch : ∀ b ∈ ch, (b ∈ X.ex ∨ X.s₀.heap.objs.size ≤ b) ∧ b ≠ X.env.locals ∧ (∀ x c, X.env.cells.lookup x = some c → c ≠ b) ∧ ∀ p ∈ X.pn ++ pins, p.1 ≠ b)
    (keep : ∀ b o, b ≠ X.env.locals → b ∉ X.fs → b ∉ ch → s.heap.get? b = some o → H b = none → h'.get? b = some o)
    (slot : ∀ b o, b ≠ X.env.locals → b ∈ X.fs → b ∉ ch → s.heap.get? b = some o → H b = none → ∃ sl, h'.get? b = some { o with slots := sl }) (free : ∀ b o, b ∉ ch → s.heap.get? b = some o → H b = none → H' b = none)
    (there : ∀ b o, b ∉ ch → s.heap.get? b = some o → ∃ o', h'.get? b = some o')
    (tups : ∀ b xs, H b = some (.tup xs) → H' b = some (.tup xs)) (frzs : ∀ b o u, H b = some (.frz o u) → H' b = some (.frz o u)) (tbls : ∀ b ps, H b = some (.tbl ps) → ∃ more, H' b = some (.tbl (ps ++ more)))
    (ns : ∀ m, s.heap.Ns X.env.locals m → h'.Ns X.env.locals m) (hok : HOk X.prog X.w H' h') (hg : AllBare g') :
    Inv X pins σ H' { s with heap := h', gens := g', drawn := d', toks := t' } := by
  have neL : ∀ b o, X.s₀.heap.get? b = some o → b ≠ X.env.locals := fun b o e => Nat.ne_of_lt (Nat.lt_of_lt_of_le (Heap.lt_size e) I.ok.above)
  have neC : ∀ b o, X.s₀.heap.get? b = some o → b ∉ X.ex → b ∉ ch := fun b o e hx hb => by
    rcases (hch b hb).1 with z | z
    · exact hx z
    · exact absurd (Nat.lt_of_lt_of_le (Heap.lt_size e) z) (Nat.lt_irrefl _)
  have cellK : ∀ x c, X.env.cells.lookup x = some c → ∀ v, s.heap.IsCell c v → h'.IsCell c v := fun x c e v ⟨o, ho, hd⟩ => by
    have nch : c ∉ ch := fun z => (hch c z).2.2.1 x c e rfl
    by_cases hc : c ∈ X.fs
    · obtain ⟨sl, q⟩ := slot c o (I.cne x c e) hc nch ho (I.freeC x c e)
      exact ⟨_, q, hd⟩
    · exact ⟨o, keep c o (I.cne x c e) hc nch ho (I.freeC x c e), hd⟩
  refine ⟨I.ok, I.os, hg, ⟨fun b o e n hb hx => ?_, fun b o e n hb hx => ?_, fun b o e n hx => ?_, fun b o e hx => ?_, fun b xs e => tups b xs (I.base.tups b xs e), fun b o xs e => frzs b o xs (I.base.frzs b o xs e), fun b ps e => ?_⟩, ?_, fun x c e => ?_, ?_, fun x c e => ?_, fun p hp => ?_, hok, I.len⟩
  · exact keep b o (neL b o e) hb (neC b o e hx) (I.base.keep b o e n hb hx) (I.base.free b o e n hx)
  · obtain ⟨sl, e1⟩ := I.base.slot b o e n hb hx
    obtain ⟨sl', e2⟩ := slot b _ (neL b o e) hb (neC b o e hx) e1 (I.base.free b o e n hx)
    exact ⟨sl', e2⟩
  · obtain ⟨o', e1⟩ := I.base.there b o e hx
    exact free b o' (neC b o e hx) e1 (I.base.free b o e n hx)
  · obtain ⟨o', e1⟩ := I.base.there b o e hx
    exact there b o' (neC b o e hx) e1
  · obtain ⟨m1, e1⟩ := I.base.tbls b ps e
    obtain ⟨m2, e2⟩ := tbls b _ e1
    exact ⟨m1 ++ m2, by rw [e2, Array.append_assoc]⟩
  · obtain ⟨m, hn, hl⟩ := I.loc
    refine ⟨m, ns m hn, fun i x v e1 e2 e3 => ?_⟩
    obtain ⟨u, r, l⟩ := hl i x v e1 e2 e3
    refine ⟨u, r, ?_⟩
    rcases l with l | ⟨k, c, e, z⟩
    · exact .inl l
    · exact .inr ⟨k, c, e, cellK x c e _ z⟩
  · obtain ⟨v, z⟩ := I.cell x c e
    exact ⟨v, cellK x c e v z⟩
  · obtain ⟨m, ⟨o, _, _, ho, _⟩, _⟩ := I.loc
    exact free _ o (fun z => (hch _ z).2.1 rfl) ho I.free
  · obtain ⟨v, o, ho, hd⟩ := I.cell x c e
    exact free c o (fun z => (hch c z).2.2.1 x c e rfl) ho (I.freeC x c e)
  · obtain ⟨e, n, ne, nf, d⟩ := I.pin p hp
    have nch : p.1 ∉ ch := fun z => (hch p.1 z).2.2.2 p hp rfl
    exact ⟨keep p.1 p.2 ne nf nch e n, free p.1 p.2 nch e n, ne, nf, d⟩
theorem Inv.un {t' : Nat} (I : Inv X pins σ H s) (u : Un X.fs [] H H' s.heap h') (hok : HOk X.prog X.w H' h') : Inv X pins σ H' { s with heap := h', toks := t' } := by
  obtain ⟨m, ⟨o, es, ep, ho, r⟩, _⟩ := id I.loc
  obtain ⟨sl, hL⟩ := u.any ho I.free (by simp)
  exact I.step (g' := s.gens) (d' := s.drawn) (ch := []) (fun _ z => nomatch z) (fun b o _ hb _ e n => u.keep b o e n hb (by simp)) (fun b o _ hb _ e n => u.slot b o e n hb (by simp)) (fun b o _ e n => u.free b o e n (by simp)) (fun b o _ e => u.there b o e (by simp)) u.tups u.frzs u.tbls (fun m' hm => by
    obtain ⟨o', es', ep', ho', r'⟩ := hm
    rw [ho] at ho'; cases ho'
    exact ⟨_, es', ep', hL, r'⟩) hok I.bare
theorem Inv.call {g' : Array GenState} {t' : Nat} {d' : Drawn} {ch : List Addr} (I : Inv X pins σ H s) (u : Un (frs X.stack) ch H H' s.heap h') (hok : HOk X.prog X.w H' h') (hg : AllBare g')
    (hch : ∀ b ∈ ch, (b ∈ X.ex ∨ X.s₀.heap.objs.size ≤ b) ∧ b ≠ X.env.locals ∧ (∀ x c, X.env.cells.lookup x = some c → c ≠ b) ∧ ∀ p ∈ X.pn ++ pins, p.1 ≠ b) :
    Inv X pins σ H' { s with heap := h', gens := g', drawn := d', toks := t' } := by
  obtain ⟨m, ⟨o, es, ep, ho, r⟩, _⟩ := id I.loc
  obtain ⟨sl, hL⟩ := u.any ho I.free fun z => (hch _ z).2.1 rfl
  exact I.step (ch := ch) hch (fun b o hL hb hc e n => u.keep b o e n (fun z => (List.mem_cons.mp (I.stkSub b z)).elim hL hb) hc) (fun b o _ _ hc e n => u.any e n hc) (fun b o hc e n => u.free b o e n hc) (fun b o hc e => u.there b o e hc) u.tups u.frzs u.tbls (fun m' hm => by
    obtain ⟨o', es', ep', ho', r'⟩ := hm
    rw [ho] at ho'; cases ho'
    exact ⟨_, es', ep', hL, r'⟩) hok hg
theorem Inv.turned {t' : Nat} {it : Addr} (I : Inv X pins σ H s) (k : ∀ b o, b ≠ it → s.heap.get? b = some o → h'.get? b = some o) (hn : H it = none) (hL : it ≠ X.env.locals)
    (h1 : it ∈ X.ex ∨ X.s₀.heap.objs.size ≤ it) (h2 : ∀ x c, X.env.cells.lookup x = some c → c ≠ it) (h3 : ∀ p ∈ X.pn ++ pins, p.1 ≠ it) : Inv X pins σ H { s with heap := h', toks := t' } := by
  have nit : ∀ b u, H b = some u → b ≠ it := fun b u e z => by rw [z, hn] at e; cases e
  refine I.step (g' := s.gens) (d' := s.drawn) (ch := [it]) (fun b hb => ?_) (fun b o _ _ hc e _ => k b o (fun z => hc (by simp [z])) e) (fun b o _ _ hc e _ => ⟨o.slots, k b o (fun z => hc (by simp [z])) e⟩) (fun _ _ _ _ n => n)
    (fun b o hc e => ⟨o, k b o (fun z => hc (by simp [z])) e⟩) (fun _ _ e => e) (fun _ _ _ e => e) (fun b ps e => ⟨#[], by rw [e]; simp⟩) (fun m hm => ?_) (fun b u e => ?_) I.bare
  · have e : b = it := by simpa using hb
    subst e
    exact ⟨h1, hL, h2, h3⟩
  · obtain ⟨o, es, ep, ho, r⟩ := hm
    exact ⟨o, es, ep, k _ o (Ne.symm hL) ho, r⟩
  · refine (I.hok b u e).stay (fun c v hc q => k c v ?_ q) (fun _ q => q) fun _ _ q => q
    rcases hc with z | z
    · rw [z]; exact nit b u e
    · exact nit c _ z
theorem Inv.tok (I : Inv X pins σ H s) (t : Nat) : Inv X pins σ H { s with toks := t } := I.un (h' := s.heap) (t' := t) Un.refl I.hok
theorem Inv.kept {t' : Nat} (I : Inv X pins σ H s) (k : ∀ b u, s.heap.get? b = some u → h'.get? b = some u) : Inv X pins σ H { s with heap := h', toks := t' } := I.un (Un.kept k) (I.hok.kept k)
theorem Inv.laid {a : Addr} {o : HO} {t' : Nat} (I : Inv X pins σ H s) (k : ∀ b u, s.heap.get? b = some u → h'.get? b = some u) (hp : s.heap.objs.size ≤ a) (new : ObjOk X.prog X.w (upd H a o) h' a o) :
    Inv X pins σ (upd H a o) { s with heap := h', toks := t' } := I.un (Un.laid k hp (I.hok.fresh hp)) (I.hok.laid k hp new)
theorem Inv.write {x e : Addr} {o : HO} {t' : Nat} (I : Inv X pins σ H s) (mu : Mut (H x)) (he : e = x ∨ H e = some (.own x)) (k : ∀ b u, b ≠ e → s.heap.get? b = some u → h'.get? b = some u) (heo : ∃ u, h'.get? e = some u)
    (new : ObjOk X.prog X.w (upd H x o) h' x o) : Inv X pins σ (upd H x o) { s with heap := h', toks := t' } := I.un (Un.write mu he k heo) (I.hok.write mu he k heo new)
theorem Inv.pins_of {pins' : List (Addr × Obj)} (I : Inv X pins σ H s) (h : ∀ p ∈ pins', s.heap.get? p.1 = some p.2 ∧ H p.1 = none ∧ p.1 ≠ X.env.locals ∧ p.1 ∉ X.fs ∧ ∀ v, p.2.data ≠ .cell v) : Inv X pins' σ H s :=
  ⟨I.ok, I.os, I.bare, I.base, I.loc, I.cell, I.free, I.freeC, fun p hp => (List.mem_append.mp hp).elim (fun z => I.pin p (List.mem_append_left _ z)) (h p), I.hok, I.len⟩
theorem nodup_ix {N : List Str} (hN : N.Nodup) {i j : Nat} {x : Str} (a : N[i]? = some x) (b : N[j]? = some x) : i = j := by
  obtain ⟨h1, e1⟩ := List.getElem?_eq_some_iff.mp a
  obtain ⟨h2, e2⟩ := List.getElem?_eq_some_iff.mp b
  exact (List.getElem_inj hN).mp (e1.trans e2.symm)
theorem store_ok2 {M : Model} {A : Around} {E : Value → Shared → Prop} {i : Nat} {x : Str} {v : V} {u : Value} {Q : Unit → Shared → Prop} (I : Inv X pins σ H s) (hN : X.N.Nodup) (hi : X.N[i]? = some x) (hx : Loc X.env.scope x) (r : RelV v u)
    (h : ∀ s', Inv X pins (σ.set i (some v)) H s' → (∃ a, Heap.SameBut a s.heap s'.heap ∧ (a = X.env.locals ∨ X.env.cells.lookup x = some a)) → Q () s') (hf : X.fn x = true ∨ X.env.scope.names.lookup x = some .local := by first | exact .inl rfl | exact .inr rfl | assumption) : wpAny M A (storeName X.env x u) Q E s := by
  obtain ⟨m, hn, hl⟩ := id I.loc
  have hcls : (X.env.scope.kind == .class || (X.env.scope.kind == .module && X.env.locals != X.env.globals)) = false := by rw [I.ok.kind]; rfl
  have hiσ : i < σ.length := by rw [I.len]; exact (List.getElem?_eq_some_iff.mp hi).1
  have cne := I.cne
  have tracked : ∀ {a : Addr} {h' : Heap}, (∃ o, s.heap.get? a = some o ∧ H a = none) → Heap.SameBut a s.heap h' → HOk X.prog X.w H h' := fun {a h'} ha hs b ob e => by
    obtain ⟨_, _, hfree⟩ := ha
    refine (I.hok b ob e).stay (fun c w' hc q => (hs.2 c ?_).trans q) (fun _ q => q) fun _ _ q => q
    rintro rfl
    rcases hc with rfl | hc
    · rw [hfree] at e; cases e
    · rw [hfree] at hc; cases hc
  rcases hx with hk | hk
  · refine wpAny_storeName_local hk hn (fun h' hn' hs => ?_) hcls
    obtain ⟨oL, _, _, hoL, _⟩ := id hn
    refine h _ ⟨I.ok, I.os, I.bare, ⟨fun b o e n hb hx => ?_, fun b o e n hb hx => ?_, I.base.free, fun b o e hx => ?_, I.base.tups, I.base.frzs, I.base.tbls⟩, ⟨_, hn', fun j y v' e1 e2 e3 => ?_⟩, fun y c e => ?_, I.free, I.freeC, fun p hp => ?_, tracked ⟨oL, hoL, I.free⟩ hs, by simpa using I.len⟩ ⟨_, hs, .inl rfl⟩
    · exact (hs.2 b (Nat.ne_of_lt (Nat.lt_of_lt_of_le (Heap.lt_size e) I.ok.above))).trans (I.base.keep b o e n hb hx)
    · obtain ⟨sl, e1⟩ := I.base.slot b o e n hb hx
      exact ⟨sl, (hs.2 b (Nat.ne_of_lt (Nat.lt_of_lt_of_le (Heap.lt_size e) I.ok.above))).trans e1⟩
    · obtain ⟨o', e1⟩ := I.base.there b o e hx
      exact ⟨o', (hs.2 b (Nat.ne_of_lt (Nat.lt_of_lt_of_le (Heap.lt_size e) I.ok.above))).trans e1⟩
    · by_cases hj : j = i
      · subst hj
        rw [hi] at e1; cases e1
        rw [List.getElem?_set_self hiσ] at e2
        cases e2
        exact ⟨u, r, .inl ⟨hk, by simp⟩⟩
      · rw [List.getElem?_set_ne (Ne.symm hj)] at e2
        obtain ⟨u', r', q⟩ := hl j y v' e1 e2 e3
        refine ⟨u', r', ?_⟩
        rcases q with ⟨k, e⟩ | ⟨k, c, e, z⟩
        · refine .inl ⟨k, ?_⟩
          have : y ≠ x := fun e => hj (nodup_ix hN e1 (e ▸ hi))
          simp [this, e]
        · exact .inr ⟨k, c, e, z.sameBut hs (cne y c e)⟩
    · obtain ⟨w', z⟩ := I.cell y c e
      exact ⟨w', z.sameBut hs (cne y c e)⟩
    · obtain ⟨e, n, ne, nf, d⟩ := I.pin p hp
      exact ⟨(hs.2 p.1 ne).trans e, n, ne, nf, d⟩
  · have hfn : X.fn x = true := by
      rcases hf with z | z
      · exact z
      · rw [z] at hk; cases hk
    obtain ⟨c, hc⟩ := I.ok.has x (.inl hk)
    obtain ⟨w', z⟩ := I.cell x c hc
    refine wpAny_storeName_cell I.ok.kind hk hc z (fun h' hc' hs => ?_)
    obtain ⟨oc, hoc, hocd⟩ := id z
    refine h { s with heap := h' } ⟨I.ok, I.os, I.bare, ⟨fun b o e n hb hx => ?_, fun b o e n hb hx => ?_, I.base.free, fun b o e hx => ?_, I.base.tups, I.base.frzs, I.base.tbls⟩, ⟨m, hn.sameBut hs (Ne.symm (cne x c hc)), fun j y v' e1 e2 e3 => ?_⟩, fun y c' e => ?_, I.free, I.freeC, fun p hp => ?_, tracked ⟨oc, hoc, I.freeC x c hc⟩ hs, by simpa using I.len⟩ ⟨c, hs, .inr hc⟩
    · exact (hs.2 b (Nat.ne_of_lt (Nat.lt_of_lt_of_le (Heap.lt_size e) (I.ok.cab x c hfn hc)))).trans (I.base.keep b o e n hb hx)
    · obtain ⟨sl, e1⟩ := I.base.slot b o e n hb hx
      exact ⟨sl, (hs.2 b (Nat.ne_of_lt (Nat.lt_of_lt_of_le (Heap.lt_size e) (I.ok.cab x c hfn hc)))).trans e1⟩
    · obtain ⟨o', e1⟩ := I.base.there b o e hx
      exact ⟨o', (hs.2 b (Nat.ne_of_lt (Nat.lt_of_lt_of_le (Heap.lt_size e) (I.ok.cab x c hfn hc)))).trans e1⟩
    · by_cases hj : j = i
      · subst hj
        rw [hi] at e1; cases e1
        rw [List.getElem?_set_self hiσ] at e2
        cases e2
        exact ⟨u, r, .inr ⟨.inl hk, c, hc, hc'⟩⟩
      · rw [List.getElem?_set_ne (Ne.symm hj)] at e2
        obtain ⟨u', r', q⟩ := hl j y v' e1 e2 e3
        refine ⟨u', r', ?_⟩
        rcases q with q | ⟨k, c', e, z'⟩
        · exact .inl q
        · refine .inr ⟨k, c', e, z'.sameBut hs ?_⟩
          rintro rfl
          exact hj (nodup_ix hN e1 (I.ok.inj _ _ _ e hc ▸ hi))
    · by_cases hcc : c' = c
      · subst hcc; exact ⟨_, hc'⟩
      · obtain ⟨w2, z2⟩ := I.cell y c' e
        exact ⟨w2, z2.sameBut hs hcc⟩
    · obtain ⟨e, n, ne, nf, d⟩ := I.pin p hp
      refine ⟨(hs.2 p.1 ?_).trans e, n, ne, nf, d⟩
      intro q
      rw [q, hoc] at e
      have q' : oc = p.2 := Option.some.inj e
      exact d w' (by rw [← q']; exact hocd)
theorem store_ok {M : Model} {A : Around} {E : Value → Shared → Prop} {i : Nat} {x : Str} {v : V} {u : Value} {Q : Unit → Shared → Prop} (I : Inv X pins σ H s) (hN : X.N.Nodup) (hi : X.N[i]? = some x) (hx : Loc X.env.scope x) (r : RelV v u)
    (h : ∀ s', Inv X pins (σ.set i (some v)) H s' → Q () s') (hf : X.fn x = true ∨ X.env.scope.names.lookup x = some .local := by first | exact .inl rfl | exact .inr rfl | assumption) : wpAny M A (storeName X.env x u) Q E s :=
  store_ok2 I hN hi hx r (fun s' I' _ => h s' I') hf
theorem Inv.call' {s' : Shared} {ch : List Addr} (I : Inv X pins σ H s) (ho : s'.os = s.os) (u : Un (frs X.stack) ch H H' s.heap s'.heap) (hok : HOk X.prog X.w H' s'.heap) (hg : AllBare s'.gens)
    (hch : ∀ b ∈ ch, (b ∈ X.ex ∨ X.s₀.heap.objs.size ≤ b) ∧ b ≠ X.env.locals ∧ (∀ x c, X.env.cells.lookup x = some c → c ≠ b) ∧ ∀ p ∈ X.pn ++ pins, p.1 ≠ b) : Inv X pins σ H' s' := by
  obtain ⟨h', g', d', t', o'⟩ := s'
  have e : o' = s.os := ho
  subst e
  exact I.call (g' := g') (t' := t') (d' := d') u hok hg hch
end
abbrev XK := Value → Option Addr → Hp → Prop
abbrev St := List (Option V)
abbrev VK := V → Hp → Prop
abbrev TE := St → Hp → VK → Prop
abbrev TT := St → Hp → (Bool → Hp → Prop) → Prop
abbrev TA := St → Hp → (List V → Hp → Prop) → Prop
structure Ends where
  nx : St → Hp → Prop
  rt : VK
  bk : St → Hp → Prop := fun _ _ => False
  ct : St → Hp → Prop := fun _ _ => False
abbrev TS := Ends → St → Hp → Prop
def EP (X : Cx) (pins : List (Addr × Obj)) (σ : St) (Q : VK) (u : Value) (s' : Shared) : Prop := ∃ v H', Inv X pins σ H' s' ∧ RelV v u ∧ Q v H'
def TP (X : Cx) (pins : List (Addr × Obj)) (σ : St) (Q : Bool → Hp → Prop) (b : Bool) (s' : Shared) : Prop := ∃ H', Inv X pins σ H' s' ∧ Q b H'
def AP (X : Cx) (pins : List (Addr × Obj)) (σ : St) (Q : List V → Hp → Prop) (us : List Value) (s' : Shared) : Prop := ∃ vs H', Inv X pins σ H' s' ∧ Vals vs us ∧ Q vs H'
def SP (X : Cx) (pins : List (Addr × Obj)) (D : Ends) (f : Flow) (s' : Shared) : Prop :=
  match f with
  | .next => ∃ σ' H', Inv X pins σ' H' s' ∧ D.nx σ' H'
  | .brk => ∃ σ' H', Inv X pins σ' H' s' ∧ D.bk σ' H'
  | .cont => ∃ σ' H', Inv X pins σ' H' s' ∧ D.ct σ' H'
  | .ret u => ∃ v σ' H', Inv X pins σ' H' s' ∧ RelV v u ∧ D.rt v H'
def PE (X : Cx) (e : Expr) (t : TE) : Prop :=
  ∀ (pins : List (Addr × Obj)) (s : Shared) (σ : St) (H : Hp) (Q : VK), Inv X pins σ H s → t σ H Q → wpAny (model X.prog X.w) X.A (eval e X.env) (EP X pins σ Q) X.xe s
def PT (X : Cx) (e : Expr) (t : TT) : Prop :=
  ∀ (pins : List (Addr × Obj)) (s : Shared) (σ : St) (H : Hp) (Q : Bool → Hp → Prop), Inv X pins σ H s → t σ H Q → wpAny (model X.prog X.w) X.A (isTrue e X.env (eval e X.env)) (TP X pins σ Q) X.xe s
def PW (X : Cx) (e : Expr) (t : TT) : Prop :=
  ∀ (whole : Sem Value) (pins : List (Addr × Obj)) (s : Shared) (σ : St) (H : Hp) (Q : Bool → Hp → Prop), Inv X pins σ H s → t σ H Q → wpAny (model X.prog X.w) X.A (isTrue e X.env whole) (TP X pins σ Q) X.xe s
theorem PW.pt {X : Cx} {e : Expr} {t : TT} (h : PW X e t) : PT X e t := h _
def PA (X : Cx) (es : List Expr) (t : TA) : Prop :=
  ∀ (pos : Pos) (pins : List (Addr × Obj)) (s : Shared) (σ : St) (H : Hp) (Q : List V → Hp → Prop), Inv X pins σ H s → t σ H Q → wpAny (model X.prog X.w) X.A (spliced (backTo pos (starEach es X.env))) (AP X pins σ Q) X.xe s
def PS (X : Cx) (st : Stmt) (t : TS) : Prop :=
  ∀ (pins : List (Addr × Obj)) (s : Shared) (σ : St) (H : Hp) (D : Ends), Inv X pins σ H s → t D σ H → wpAny (model X.prog X.w) X.A (exec st X.env) (SP X pins D) X.xe s
def PSs (X : Cx) (st : List Stmt) (t : TS) : Prop :=
  ∀ (pins : List (Addr × Obj)) (s : Shared) (σ : St) (H : Hp) (D : Ends), Inv X pins σ H s → t D σ H → wpAny (model X.prog X.w) X.A (execs st X.env) (SP X pins D) X.xe s
theorem thn {α : Type} {t : Sem α} {Q Q' : α → Shared → Prop} {M : Model} {A : Around} {E : Value → Shared → Prop} {s : Shared} (h : wpAny M A t Q E s) (hQ : ∀ a s, Q a s → Q' a s) : wpAny M A t Q' E s := wpAny_mono h hQ fun _ _ x => x
end L2
namespace L2
open PySem PySem.Spec PyProof.Rows
section
variable {X : Cx}
def tVar (i : Nat) : TE := fun σ H Q => ∃ v, σ[i]? = some (some v) ∧ Q v H
def tC (v : V) : TE := fun _ H Q => Q v H
theorem pe_var {i : Nat} {x : Str} {pos : Pos} (hN : X.N[i]? = some x) (hv : Vis X.env.scope x) (hd : (x == ("__debug__" : Str)) = false := by decide) (hcd : (x == ("__classdict__" : Str)) = false := by decide) : PE X (.Name x pos) (tVar i) := by
  intro pins s σ H Q I h
  obtain ⟨v, e, h⟩ := h
  obtain ⟨m, hn, hl⟩ := I.loc
  obtain ⟨u, r, l⟩ := hl i x v hN e hv
  have fin : EP X pins σ Q u s := ⟨v, H, I, r, h⟩
  rcases l with ⟨hk, hm⟩ | ⟨hk, c, hc, hcell⟩
  · exact wpAny_Name (wpAny_loadName_local I.ok.kind hk hn hm fin) hd
  · rcases hk with hk | hk
    · exact wpAny_Name (wpAny_loadName_cell I.ok.kind hk hc hcell fin) hd
    · exact wpAny_Name (wpAny_loadName_free I.ok.kind hk hc hcell fin hcd) hd
theorem pe_int {i j pos} : PE X (.Constant (.int i) j pos) (tC (.int i)) := fun _ _ _ H _ I h => wpAny_Constant_int ⟨.int i, H, I.tok _, ⟨_, rfl⟩, h⟩
theorem pe_bl {b j pos} : PE X (.Constant (.bool b) j pos) (tC (.bl b)) := fun _ _ _ H _ I h => Constant_bool ⟨.bl b, H, I, rfl, h⟩
theorem pe_non {j pos} : PE X (.Constant .none j pos) (tC .non) := fun _ _ _ H _ I h => Constant_none ⟨.non, H, I, rfl, h⟩
theorem pe_str {x j pos} : PE X (.Constant (.str x) j pos) (tC (.str x)) := fun _ _ _ H _ I h => Calls.Constant_str ⟨.str x, H, I.tok _, ⟨_, rfl⟩, h⟩
def Gl (X : Cx) (x : Str) : Prop := X.env.kindOf x = some .globalImplicit
theorem ld_glob {E : Value → Shared → Prop} {pins : List (Addr × Obj)} {s : Shared} {σ : St} {H : Hp} {x : Str} {u : Value} {pos : Pos} {Q : Value → Shared → Prop} (I : Inv X pins σ H s) (hg : Gl X x) (hm : X.mg x = some u) (h : Q u s)
    (hd : (x == ("__debug__" : Str)) = false := by decide) : wpAny (model X.prog X.w) X.A (eval (.Name x pos) X.env) Q E s :=
  Calls.Name_function_global I.ok.kind hg (Calls.loadGlobal_global (by rw [I.ok.glob]; exact I.mod.glob.keeps I.bk) hm h) hd
theorem ld_blt {E : Value → Shared → Prop} {pins : List (Addr × Obj)} {s : Shared} {σ : St} {H : Hp} {x : Str} {u : Value} {pos : Pos} {Q : Value → Shared → Prop} (I : Inv X pins σ H s) (hg : Gl X x) (hm : X.mg x = none) (hv : bootBuiltins x = some u) (h : Q u s)
    (hn : x ≠ "__name__" := by decide) (hd : (x == ("__debug__" : Str)) = false := by decide) : wpAny (model X.prog X.w) X.A (eval (.Name x pos) X.env) Q E s := by
  obtain ⟨mb, h1, h2⟩ := I.mod.blt
  exact Calls.Name_function_global I.ok.kind hg (Calls.loadGlobal_builtin (by rw [I.ok.glob]; exact I.mod.glob.keeps I.bk) hm (by rw [I.ok.blt]; exact h1.keeps I.bk) ((h2 x hn).trans hv) h) hd
theorem pe_bltn {x : Str} {v : V} {u : Value} {pos : Pos} (hg : Gl X x) (hm : X.mg x = none) (hv : bootBuiltins x = some u) (r : RelV v u) (hn : x ≠ "__name__" := by decide) (hd : (x == ("__debug__" : Str)) = false := by decide) : PE X (.Name x pos) (tC v) :=
  fun _ _ _ H _ I h => ld_blt I hg hm hv ⟨v, H, I, r, h⟩ hn hd
variable {a b : Expr} {ta tb : TE} {pos : Pos}
def tB (t : TE) : TT := fun σ H Q => t σ H fun x H1 => ∃ c, x = .bl c ∧ Q c H1
theorem pt_val {e : Expr} {t : TE} (h : PE X e t) (he : ∀ whole, isTrue e X.env whole = (do let v ← whole; standAt e.pos; holding [v] (truthy v)) := by intro _; rfl) : PT X e (tB t) := by
  intro pins s σ H Q I hw
  refine isTrue_plain (thn (h pins s σ H _ I hw) fun v s1 ⟨x, H1, I1, r1, q1⟩ => ?_) (he _)
  obtain ⟨d, rfl, q⟩ := q1
  cases r1
  exact wpAny_truthy_bool ⟨H1, I1, q⟩
variable {tA tB' : TT} {rest : List Expr}
def tAnd (t u : TT) : TT := fun σ H Q => t σ H fun c H1 => if c = true then u σ H1 Q else Q false H1
def tOr (t u : TT) : TT := fun σ H Q => t σ H fun c H1 => if c = true then Q true H1 else u σ H1 Q
def tNot (t : TT) : TT := fun σ H Q => t σ H fun c H1 => Q (!c) H1
theorem pw_and1 (ha : PT X a tA) : PW X (.BoolOp .And [a] pos) tA := by
  intro wh pins s σ H Q I h
  refine isTrue_and (thn (ha pins s σ H Q I h) fun c s1 e => ?_)
  cases c with
  | true => exact isTrue_and_nil e
  | false => exact e
theorem pw_or1 (ha : PT X a tA) : PW X (.BoolOp .Or [a] pos) tA := by
  intro wh pins s σ H Q I h
  refine isTrue_or (thn (ha pins s σ H Q I h) fun c s1 e => ?_)
  cases c with
  | false => exact isTrue_or_nil e
  | true => exact e
theorem pw_and (ha : PT X a tA) (hb : PW X (.BoolOp .And (b :: rest) pos) tB') : PW X (.BoolOp .And (a :: b :: rest) pos) (tAnd tA tB') := by
  intro wh pins s σ H Q I h
  refine isTrue_and (thn (ha pins s σ H _ I h) fun c s1 ⟨H1, I1, q1⟩ => ?_)
  cases c with
  | true => exact hb wh pins s1 σ H1 Q I1 q1
  | false => exact ⟨H1, I1, q1⟩
theorem pw_or (ha : PT X a tA) (hb : PW X (.BoolOp .Or (b :: rest) pos) tB') : PW X (.BoolOp .Or (a :: b :: rest) pos) (tOr tA tB') := by
  intro wh pins s σ H Q I h
  refine isTrue_or (thn (ha pins s σ H _ I h) fun c s1 ⟨H1, I1, q1⟩ => ?_)
  cases c with
  | true => exact ⟨H1, I1, q1⟩
  | false => exact hb wh pins s1 σ H1 Q I1 q1
theorem pt_not (ha : PT X a tA) : PT X (.UnaryOp .Not a pos) (tNot tA) := by
  intro pins s σ H Q I h
  exact isTrue_not (ha pins s σ H (fun c H1 => Q (!c) H1) I h)
def tAndV (ta tb : TE) : TE := fun σ H Q => ta σ H fun x H1 => ∃ c, x = .bl c ∧ if c = true then tb σ H1 Q else Q (.bl false) H1
def tNotV (ta : TE) : TE := fun σ H Q => ta σ H fun x H1 => ∃ c, x = .bl c ∧ Q (.bl (!c)) H1
theorem pe_one {op} {t : TE} (h : PE X a t) : PE X (.BoolOp op [a] pos) t := fun pins s σ H Q I hw => BoolOp_one (h pins s σ H Q I hw)
theorem pe_and (ha : PE X a ta) (hb : PE X (.BoolOp .And (b :: rest) pos) tb) : PE X (.BoolOp .And (a :: b :: rest) pos) (tAndV ta tb) := by
  intro pins s σ H Q I h
  refine BoolOp_and (thn (ha pins s σ H _ I h) fun v s1 ⟨x, H1, I1, r1, q1⟩ => ?_)
  obtain ⟨c, rfl, q1⟩ := q1
  cases r1
  refine wpAny_truthy_bool ?_
  cases c with
  | true => exact hb pins s1 σ H1 Q I1 q1
  | false => exact ⟨.bl false, H1, I1, rfl, q1⟩
theorem pe_not (ha : PE X a ta) : PE X (.UnaryOp .Not a pos) (tNotV ta) := by
  intro pins s σ H Q I h
  refine UnaryOp_ (thn (ha pins s σ H _ I h) fun v s1 ⟨x, H1, I1, r1, q1⟩ => ?_)
  obtain ⟨c, rfl, q1⟩ := q1
  cases r1
  exact not_of (wpAny_truthy_bool ⟨.bl (!c), H1, I1, rfl, q1⟩)
end
end L2
namespace L2
open PySem PySem.Spec PyProof.Rows
def SqL (K : PySem.W.Frag) (H : Hp) (a : Addr) (xs : List V) : Prop :=
  Rd H a (.lst xs) ∨
    ∃ (o : Obj) (its : Array Value) (n : Nat), K.lookup a = some o ∧ o.cls = .type "list" ∧ o.dict = none ∧ o.data = .seq its n ∧ its.size ≤ sizeLine ∧ Vals xs its.toList
def SqT (K : PySem.W.Frag) (H : Hp) (a : Addr) (xs : List V) : Prop :=
  Rd H a (.tup xs) ∨
    ∃ (o : Obj) (its : Array Value) (n : Nat), K.lookup a = some o ∧ o.cls = .type "tuple" ∧ o.data = .seq its n ∧ its.size ≤ sizeLine ∧ Vals xs its.toList
def absV : Value → Option V
  | .none => some .non
  | .bool b => some (.bl b)
  | .int i _ => some (.int i)
  | .str x _ => some (.str x)
  | .bytes b _ => some (.byt b)
  | .float b _ => some (.flt b)
  | .ref a => some (.ref a)
  | .type n => some (.ty n)
  | _ => none
theorem RelV.abs {x : V} {u : Value} (r : RelV x u) : absV u = some x := by
  cases x with
  | non => cases r; rfl
  | bl _ => cases r; rfl
  | int _ => obtain ⟨t, rfl⟩ := r; rfl
  | str _ => obtain ⟨t, rfl⟩ := r; rfl
  | byt _ => obtain ⟨t, rfl⟩ := r; rfl
  | flt _ => obtain ⟨t, rfl⟩ := r; rfl
  | ref _ => cases r; rfl
  | ty _ => cases r; rfl
theorem RelV.inj {x y : V} {u : Value} (r : RelV x u) (q : RelV y u) : x = y := Option.some.inj (r.abs.symm.trans q.abs)
theorem Vals.inj : ∀ {xs ys : List V} {us : List Value}, Vals xs us → Vals ys us → xs = ys
  | _, _, _, .nil, .nil => rfl
  | _, _, _, .cons r t, .cons r' t' => by rw [r.inj r', Vals.inj t t']
section
variable {X : Cx} {pins : List (Addr × Obj)} {σ : St} {H : Hp} {s : Shared} {a : Addr} {xs ys : List V}
theorem SqL.of {K : PySem.W.Frag} (h : H a = some (.lst xs)) : SqL K H a xs := .inl (.inl h)
theorem SqT.of {K : PySem.W.Frag} (h : H a = some (.tup xs)) : SqT K H a xs := .inl (.inl h)
theorem Inv.list (I : Inv X pins σ H s) (h : SqL X.K H a xs) : ∃ its : List Value, Vals xs its ∧ PlainL s.heap a its.toArray ∧ xs.length ≤ sizeLine := by
  rcases h with h | ⟨o, its, n, hk, hc, hd, hs, hz, r⟩
  · obtain ⟨z, its, n, r, e⟩ := h.ok I.hok
    exact ⟨its, r, ⟨_, n, e, rfl, rfl, rfl⟩, z⟩
  · refine ⟨its.toList, r, ⟨o, n, I.kIn a o hk, hc, hd, by simpa using hs⟩, ?_⟩
    have e := r.length
    simp only [Array.length_toList] at e
    omega
theorem Inv.tuple (I : Inv X pins σ H s) (h : SqT X.K H a xs) : ∃ its : List Value, Vals xs its ∧ IsTup s.heap a its.toArray ∧ xs.length ≤ sizeLine := by
  rcases h with h | ⟨o, its, n, hk, hc, hs, hz, r⟩
  · obtain ⟨z, its, r, p⟩ := h.ok I.hok
    exact ⟨its, r, p, z⟩
  · refine ⟨its.toList, r, ⟨o, I.kIn a o hk, hc, n, by simpa using hs⟩, ?_⟩
    have e := r.length
    simp only [Array.length_toList] at e
    omega
theorem Inv.list_inj (I : Inv X pins σ H s) (h : SqL X.K H a xs) (h' : SqL X.K H a ys) : xs = ys := by
  obtain ⟨its, r, ⟨o, n, e, _, _, d⟩, _⟩ := I.list h
  obtain ⟨its', r', ⟨o', n', e', _, _, d'⟩, _⟩ := I.list h'
  rw [e] at e'; cases e'
  rw [d] at d'
  injection d' with d1 _
  have : its = its' := by simpa using congrArg Array.toList d1
  subst this
  exact r.inj r'
theorem Inv.tuple_inj (I : Inv X pins σ H s) (h : SqT X.K H a xs) (h' : SqT X.K H a ys) : xs = ys := by
  obtain ⟨its, r, ⟨o, e, _, n, d⟩, _⟩ := I.tuple h
  obtain ⟨its', r', ⟨o', e', _, n', d'⟩, _⟩ := I.tuple h'
  rw [e] at e'; cases e'
  rw [d] at d'
  injection d' with d1 _
  have : its = its' := by simpa using congrArg Array.toList d1
  subst this
  exact r.inj r'
end
abbrev Cx.wish (X : Cx) (E : Value → Shared → Prop) : Cx := { X with xe := E }
abbrev Cx.nox (X : Cx) : Cx := X.wish fun _ _ => False
theorem Cx.Ok.wish {X : Cx} (ok : X.Ok) (E : Value → Shared → Prop) : (X.wish E).Ok :=
  ⟨ok.mod, ok.kind, ok.glob, ok.blt, ok.above, ok.inj, ok.has, ok.cab, ok.hd, ok.frames, ok.stk, ok.exf, ok.bs, ok.bsz, ok.noex, ok.exfs, ok.funs, ok.frf⟩
theorem Cx.Ok.unwish {X : Cx} {E : Value → Shared → Prop} (ok : (X.wish E).Ok) : X.Ok :=
  ⟨ok.mod, ok.kind, ok.glob, ok.blt, ok.above, ok.inj, ok.has, ok.cab, ok.hd, ok.frames, ok.stk, ok.exf, ok.bs, ok.bsz, ok.noex, ok.exfs, ok.funs, ok.frf⟩
section
variable {X : Cx} {pins : List (Addr × Obj)} {σ : St} {H : Hp} {s : Shared} {E : Value → Shared → Prop}
theorem Inv.wish (I : Inv X pins σ H s) (E : Value → Shared → Prop) : Inv (X.wish E) pins σ H s := ⟨I.ok.wish E, I.os, I.bare, I.base, I.loc, I.cell, I.free, I.freeC, I.pin, I.hok, I.len⟩
theorem Inv.unwish (I : Inv (X.wish E) pins σ H s) : Inv X pins σ H s := ⟨I.ok.unwish, I.os, I.bare, I.base, I.loc, I.cell, I.free, I.freeC, I.pin, I.hok, I.len⟩
theorem SP.unwish {D : Ends} {f : Flow} {s' : Shared} (h : SP (X.wish E) pins D f s') : SP X pins D f s' := by
  cases f with
  | next => obtain ⟨σ', H', I, q⟩ := h; exact ⟨σ', H', I.unwish, q⟩
  | brk => obtain ⟨σ', H', I, q⟩ := h; exact ⟨σ', H', I.unwish, q⟩
  | cont => obtain ⟨σ', H', I, q⟩ := h; exact ⟨σ', H', I.unwish, q⟩
  | ret u => obtain ⟨v, σ', H', I, r, q⟩ := h; exact ⟨v, σ', H', I.unwish, r, q⟩
theorem PSs.nox {st : List Stmt} {t : TS} (h : PSs X.nox st t) : PSs X st t := fun pins s σ H D I hw =>
  wpAny_mono (h pins s σ H D (I.wish _) hw) (fun _ _ q => q.unwish) fun _ _ z => False.elim z
end
section
variable {X : Cx} {st : Stmt} {rest : List Stmt} {t u : TS} {e : Expr} {te : TE} {pos : Pos}
def tNext : TS := fun D σ H => D.nx σ H
def tSeq (t u : TS) : TS := fun D σ H => t { D with nx := u D } σ H
theorem pss_nil : PSs X [] tNext := fun _ _ σ H _ I h => wpAny_execs_nil ⟨σ, H, I, h⟩
theorem pss_cons (h1 : PS X st t) (h2 : PSs X rest u) : PSs X (st :: rest) (tSeq t u) := by
  intro pins s σ H D I h
  refine wpAny_execs_cons (thn (h1 pins s σ H { D with nx := u D } I h) fun f s1 q => ?_)
  cases f with
  | next =>
    obtain ⟨σ', H', I', q⟩ := q
    exact h2 pins s1 σ' H' D I' q
  | ret v => exact q
  | brk => exact q
  | cont => exact q
theorem pss_one (h1 : PS X st t) : PSs X [st] t := by
  intro pins s σ H D I h
  refine wpAny_execs_cons (thn (h1 pins s σ H D I h) fun f s1 q => ?_)
  cases f with
  | next => exact wpAny_execs_nil q
  | ret v => exact q
  | brk => exact q
  | cont => exact q
theorem Inv.quiet {pins : List (Addr × Obj)} {σ : St} {H : Hp} {s : Shared} (I : Inv X pins σ H s) : interactive X.env = false := by simp [interactive, I.ok.kind]
def tDrop (te : TE) : TS := fun D σ H => te σ H fun _ H1 => D.nx σ H1
theorem ps_expr (he : PE X e te) (hs : swapsWith e none pos.line X.env = pure false := by rfl) : PS X (.Expr e pos) (tDrop te) := by
  intro pins s σ H D I h
  exact wpAny_Expr_any (thn (he pins s σ H _ I h) fun v s1 ⟨x, H1, I1, r1, q1⟩ => ⟨σ, H1, I1, q1⟩) I.quiet hs
def tRet (te : TE) : TS := fun D σ H => te σ H D.rt
theorem ps_ret (he : PE X e te) : PS X (.Return (some e) pos) (tRet te) := by
  intro pins s σ H D I h
  exact wpAny_Return_some (thn (he pins s σ H _ I h) fun v s1 ⟨x, H1, I1, r1, q1⟩ => ⟨x, σ, H1, I1, r1, q1⟩)
def tIfS (c : TT) (t u : TS) : TS := fun D σ H => c σ H fun b H1 => if b = true then t D σ H1 else u D σ H1
theorem ps_if {c : Expr} {a b : List Stmt} {tc : TT} (hc : PT X c tc) (ha : PSs X a t) (hb : PSs X b u) : PS X (.If c a b pos) (tIfS tc t u) := by
  intro pins s σ H D I h
  refine wpAny_If (thn (hc pins s σ H _ I h) fun d s1 ⟨H1, I1, q1⟩ => ?_)
  cases d with
  | true => exact ha pins s1 σ H1 D I1 q1
  | false => exact hb pins s1 σ H1 D I1 q1
end
abbrev TG := V → St → Hp → (St → Hp → Prop) → Prop
abbrev TGs := List V → St → Hp → (St → Hp → Prop) → Prop
def PG (X : Cx) (target : Expr) (t : TG) : Prop :=
  ∀ (pins : List (Addr × Obj)) (s : Shared) (σ : St) (H : Hp) (v : V) (u : Value) (Q : St → Hp → Prop), Inv X pins σ H s → RelV v u → t v σ H Q →
    wpAny (model X.prog X.w) X.A (assign target X.env u) (fun _ s' => ∃ σ' H', Inv X pins σ' H' s' ∧ Q σ' H') X.xe s
def PGs (X : Cx) (ts : List Expr) (t : TGs) : Prop :=
  ∀ (pins : List (Addr × Obj)) (s : Shared) (σ : St) (H : Hp) (vs : List V) (us : List Value) (Q : St → Hp → Prop), Inv X pins σ H s → Vals vs us → t vs σ H Q →
    wpAny (model X.prog X.w) X.A (assignInOrder ((assignEach ts X.env).map (·.2)) us) (fun _ s' => ∃ σ' H', Inv X pins σ' H' s' ∧ Q σ' H') X.xe s
abbrev TSet := V → V → V → Hp → (Hp → Prop) → Prop
def PSet (X : Cx) (t : TSet) : Prop :=
  ∀ (pins : List (Addr × Obj)) (s : Shared) (σ : St) (H : Hp) (o i v : V) (ov iv u : Value) (Q : Hp → Prop), Inv X pins σ H s → RelV o ov → RelV i iv → RelV v u → t o i v H Q →
    wpAny (model X.prog X.w) X.A (setItem ov iv u) (fun _ s' => ∃ H', Inv X pins σ H' s' ∧ Q H') X.xe s
section
variable {X : Cx} {pos : Pos}
def gName (i : Nat) : TG := fun v σ H Q => Q (σ.set i (some v)) H
theorem pg_name {i : Nat} {x : Str} (hN : X.N.Nodup) (hi : X.N[i]? = some x) (hx : Loc X.env.scope x) (hf : X.fn x = true ∨ X.env.scope.names.lookup x = some .local := by first | exact .inl rfl | exact .inr rfl | assumption) : PG X (.Name x pos) (gName i) := by
  intro pins s σ H v u Q I r h
  exact wpAny_assign_Name (store_ok I hN hi hx r (fun s' I' => ⟨_, H, I', h⟩) hf)
def gNil : TGs := fun vs σ H Q => vs = [] ∧ Q σ H
def gCons (t : TG) (u : TGs) : TGs := fun vs σ H Q => ∃ v r, vs = v :: r ∧ t v σ H fun σ' H' => u r σ' H' Q
theorem pgs_nil : PGs X [] gNil := by
  intro pins s σ H vs us Q I r h
  obtain ⟨e, h⟩ := h
  subst e
  cases r
  exact assignInOrder_nil ⟨σ, H, I, h⟩
theorem pgs_cons {e : Expr} {es : List Expr} {t : TG} {u : TGs} (h1 : PG X e t) (h2 : PGs X es u)
    (hs : (assignEach (e :: es) X.env).map (·.2) = assign e X.env :: (assignEach es X.env).map (·.2) := by rfl) : PGs X (e :: es) (gCons t u) := by
  intro pins s σ H vs us Q I r h
  obtain ⟨v, vr, e1, h⟩ := h
  subst e1
  cases r with
  | cons r rr =>
    rw [hs]
    refine assignInOrder_cons (thn (h1 pins s σ H _ _ _ I r h) fun _ s1 ⟨σ1, H1, I1, q1⟩ => ?_)
    exact h2 pins s1 σ1 H1 _ _ Q I1 rr q1
def gTup (K : PySem.W.Frag) (n : Nat) (t : TGs) : TG := fun v σ H Q => ∃ a xs, v = .ref a ∧ SqT K H a xs ∧ xs.length = n ∧ t xs σ H Q
theorem pg_tup {es : List Expr} {k : Nat} {t : TGs} {n : Nat} (hc : X.calm = true) (h : PGs X es t)
    (hn : (assignEach es X.env).length = n := by rfl) (hst : (assignEach es X.env).findIdx? (·.1) = none := by rfl) : PG X (.Tuple es k pos) (gTup X.K n t) := by
  intro pins s σ H v u Q I r hw
  obtain ⟨a, xs, e1, hq, hl, hw⟩ := hw
  subst e1
  cases r
  obtain ⟨its, rv, ht, hz⟩ := I.tuple hq
  refine assign_Tuple_tuple (I.ok.hd hc) ht (by simp [hn, ← hl, rv.length]) hst fun h' hx => ?_
  have I1 : Inv X pins σ H { s with heap := h' } := I.kept (t' := s.toks) fun b o e => hx b o (Nat.ne_of_lt (Heap.lt_size e)) e
  exact h pins _ σ H xs _ Q I1 (by simpa using rv) hw
def gSub (to ti : TE) (t : TSet) : TG := fun v σ H Q => to σ H fun o H1 => ti σ H1 fun i H2 => t o i v H2 fun H3 => Q σ H3
theorem pg_sub {o i : Expr} {to ti : TE} {t : TSet} (ho : PE X o to) (hi : PE X i ti) (hs : PSet X t)
    (ha : ∀ v, assign (.Subscript o i pos) X.env v = (do
      let ov ← holding [v] (eval o X.env)
      let iv ← holding [v, ov] (eval i X.env)
      standAt pos
      holding [v, ov, iv] (setItem ov iv v)
      release [v, ov, iv] []) := by intro _; rfl) : PG X (.Subscript o i pos) (gSub to ti t) := by
  intro pins s σ H v u Q I r h
  rw [ha]
  refine wpAny_bind (wpAny_holding (thn (ho pins s σ H _ I h) fun ov s1 ⟨x, H1, I1, r1, q1⟩ => ?_))
  refine wpAny_bind (wpAny_holding (thn (hi pins s1 σ H1 _ I1 q1) fun iv s2 ⟨y, H2, I2, r2, q2⟩ => ?_))
  refine wpAny_bind (wpAny_standAt (wpAny_bind (wpAny_holding (thn (hs pins s2 σ H2 x y v ov iv u _ I2 r1 r2 r q2) fun _ s3 ⟨H3, I3, q3⟩ => ?_))))
  exact wpAny_release ⟨σ, H3, I3, q3⟩
def tAsg (te : TE) (g : TG) : TS := fun D σ H => te σ H fun x H1 => g x σ H1 D.nx
theorem ps_asg {tg e : Expr} {te : TE} {g : TG} (he : PE X e te) (hg : PG X tg g) (hs : swapsWithSole [tg] e pos.line X.env = pure false := by rfl) (hw : swappedStores [tg] e X.env = pure none := by rfl)
    (h1 : (assignEach [tg] X.env).map (·.2) = [assign tg X.env] := by rfl) : PS X (.Assign [tg] e pos) (tAsg te g) := by
  intro pins s σ H D I h
  refine wpAny_Assign_stores (thn (he pins s σ H _ I h) fun v s1 ⟨x, H1, I1, r1, q1⟩ => ?_) hs hw
  rw [h1]
  exact thn (hg pins s1 σ H1 x v _ I1 r1 q1) fun _ s2 q => q
theorem ps_set {i : Nat} {x : Str} {e : Expr} {te : TE} {pos' : Pos} (hN : X.N.Nodup) (hi : X.N[i]? = some x) (hx : Loc X.env.scope x) (he : PE X e te) (hs : swapsWith e (some (.Name x pos')) pos.line X.env = pure false := by rfl) (hf : X.fn x = true ∨ X.env.scope.names.lookup x = some .local := by first | exact .inl rfl | exact .inr rfl | assumption) :
    PS X (.Assign [.Name x pos'] e pos) (tAsg te (gName i)) := by
  intro pins s σ H D I h
  refine wpAny_Assign_Name (thn (he pins s σ H _ I h) fun v s1 ⟨y, H1, I1, r1, q1⟩ => ?_) hs
  exact store_ok I1 hN hi hx r1 (fun s2 I2 => ⟨_, H1, I2, q1⟩) hf
end
section
variable {X : Cx} {pos : Pos}
end
structure It where
  go : Nat → Hp → Prop
  yld : Nat → Hp → V → Hp → Prop
  stop : Nat → Hp → Prop
def FpOk (X : Cx) (pins : List (Addr × Obj)) (H : Hp) (b : Addr) : Prop :=
  H b = none ∧ b ≠ X.env.locals ∧ b ∉ X.fs ∧ (b ∈ X.ex ∨ X.s₀.heap.objs.size ≤ b) ∧ (∀ x c, X.env.cells.lookup x = some c → c ≠ b) ∧ ∀ p ∈ X.pn ++ pins, p.1 ≠ b
theorem Inv.fpOk {X : Cx} {pins : List (Addr × Obj)} {σ : St} {H H' : Hp} {s : Shared} {b : Addr} (I : Inv X pins σ H s) (hb : s.heap.objs.size ≤ b) (hn : H' b = none) : FpOk X pins H' b := by
  refine ⟨hn, Nat.ne_of_gt (Nat.lt_of_lt_of_le I.lt hb), I.nofs hb, .inr (Nat.le_trans I.sz hb), fun x c e z => ?_, fun p hp z => ?_⟩
  · obtain ⟨v, q⟩ := I.cell x c e
    exact absurd (Nat.lt_of_lt_of_le q.lt (by rw [z]; exact hb)) (Nat.lt_irrefl _)
  · exact absurd (Nat.lt_of_lt_of_le (Heap.lt_size (I.pin p hp).1) (by rw [z]; exact hb)) (Nat.lt_irrefl _)
structure Turn (P : Program) (w : World) (K : PySem.W.Frag) (tg : Expr) (J : It) (fp : List Addr) (it : Addr) (tn : Nat → Heap → Prop) : Prop where
  mem : it ∈ fp
  obj : ∀ i h, tn i h → ∀ b ∈ fp, ∃ o, h.get? b = some o ∧ ∀ v, o.data ≠ .cell v
  keep : ∀ i h h', tn i h → (∀ b ∈ fp, ∀ o, h.get? b = some o → h'.get? b = some o) → tn i h'
  item : ∀ (X : Cx), X.prog = P → X.w = w → X.K = K → X.calm = true → ∀ (i : Nat) (pins : List (Addr × Obj)) (s : Shared) (σ : St) (H : Hp) (E : Value → Shared → Prop), Inv X pins σ H s → (∀ b ∈ fp, FpOk X pins H b) → tn i s.heap → J.go i H →
    wpAny (model P w) X.A (pyNext (.ref it)) (fun r s1 => ∃ u, r = some u ∧
      wpAny (model P w) X.A (letOwnedTupleGo tg (.ref it) u) (fun _ s2 => ∃ x H', Inv X pins σ H' s2 ∧ RelV x u ∧ J.yld i H x H' ∧ tn (i + 1) s2.heap ∧ ∀ b ∈ fp, H' b = none) E s1) E s
  done : ∀ (X : Cx), X.prog = P → X.w = w → X.K = K → X.calm = true → ∀ (i : Nat) (pins : List (Addr × Obj)) (s : Shared) (σ : St) (H : Hp) (E : Value → Shared → Prop), Inv X pins σ H s → (∀ b ∈ fp, FpOk X pins H b) → tn i s.heap → J.stop i H →
    wpAny (model P w) X.A (pyNext (.ref it)) (fun r s1 => r = none ∧ Inv X pins σ H s1) E s
  self : ∀ (A : Around) (i : Nat) (s : Shared) (Q : Value → Shared → Prop) (E : Value → Shared → Prop), tn i s.heap → Q (.ref it) s → wpAny (model P w) A (pyIter (.ref it)) Q E s
abbrev TI := St → Hp → (It → Hp → Prop) → Prop
def PIE (X : Cx) (pins : List (Addr × Obj)) (σ : St) (tg : Expr) (R : It → Hp → Prop) (itv : Value) (s2 : Shared) : Prop :=
  ∃ (it : Addr) (fp : List Addr) (tn : Nat → Heap → Prop) (J : It) (H' : Hp), itv = .ref it ∧ Inv X pins σ H' s2 ∧ Turn X.prog X.w X.K tg J fp it tn ∧ tn 0 s2.heap ∧ (∀ b ∈ fp, FpOk X pins H' b) ∧ R J H'
def PI (X : Cx) (tg iter : Expr) (wi : TI) : Prop :=
  ∀ (pins : List (Addr × Obj)) (s : Shared) (σ : St) (H : Hp) (R : It → Hp → Prop), Inv X pins σ H s → wi σ H R →
    wpAny (model X.prog X.w) X.A (eval iter X.env) (fun v s1 => wpAny (model X.prog X.w) X.A (pyIter v) (PIE X pins σ tg R) X.xe s1) X.xe s
theorem go_of {M : Model} {A : Around} {E : Value → Shared → Prop} {s : Shared} {tg : Expr} {it : Addr} {u : Value} {o : Obj} {n : String} {vs : Array Value} {Q : Unit → Shared → Prop} (ho : s.heap.get? it = some o) (hc : o.cls = .type n) (hd : o.data = .fields vs)
    (hn : ["enumerate", "zip", "dict_itemiterator", "dict_reverseitemiterator", "odict_iterator", "itertools.zip_longest", "itertools.pairwise"].contains n = false) (hQ : Q () s) : wpAny M A (letOwnedTupleGo tg (.ref it) u) Q E s := by
  unfold letOwnedTupleGo
  cases tg <;> first
    | exact wpAny_pure hQ
    | (cases u <;> first
        | exact wpAny_pure hQ
        | (refine wpAny_bind (wpAny_load ho ?_)
           rw [hc, hd]
           show wpAny M A (if (["enumerate", "zip", "dict_itemiterator", "dict_reverseitemiterator", "odict_iterator", "itertools.zip_longest", "itertools.pairwise"].contains n && vs[0]? == some (rawInt _)) = true then _ else _) Q E s
           rw [if_neg (by intro h; rw [hn, Bool.false_and] at h; cases h)]
           exact wpAny_pure hQ))
def Itl (K : PySem.W.Frag) (a : Addr) : It :=
  ⟨fun i H => ∃ xs x, SqL K H a xs ∧ xs[i]? = some x, fun i H x H' => H' = H ∧ ∀ xs, SqL K H a xs → xs[i]? = some x, fun i H => ∃ xs, SqL K H a xs ∧ xs.length ≤ i⟩
def Itt (K : PySem.W.Frag) (a : Addr) : It :=
  ⟨fun i H => ∃ xs x, SqT K H a xs ∧ xs[i]? = some x, fun i H x H' => H' = H ∧ ∀ xs, SqT K H a xs → xs[i]? = some x, fun i H => ∃ xs, SqT K H a xs ∧ xs.length ≤ i⟩
def Itr (lo : Int) (n : Nat) : It := ⟨fun i _ => i < n, fun i H x H' => H' = H ∧ x = .int (lo + i), fun i _ => n ≤ i⟩
theorem turn_list {P : Program} {w : World} {K : PySem.W.Frag} {tg : Expr} (a it : Addr) : Turn P w K tg (Itl K a) [it] it (fun i h => h.IsListIter it a i) where
  mem := by simp
  obj := fun i h st b hb => by
    have e : b = it := by simpa using hb
    subst e
    obtain ⟨o, e, c, d⟩ := st
    exact ⟨o, e, fun v z => by rw [d] at z; cases z⟩
  keep := fun i h h' st k => st.at fun o e => k it (by simp) o e
  item := by
    intro X hP hw hK hc i pins s σ H E I hf st hg
    subst hP hw hK
    obtain ⟨xs, x, hq, hx⟩ := hg
    obtain ⟨its, rv, p, hz⟩ := I.list hq
    obtain ⟨u, hu, ru⟩ := rv.get hx
    obtain ⟨f0, f1, f2, f3, f4, f5⟩ := hf it (by simp)
    refine wpAny_pyNext_list_item st p.isList (x := u) (by simpa using hu) fun h' st' sb => ?_
    have I1 : Inv X pins σ H { s with heap := h' } := I.turned (t' := s.toks) (fun b o hb e => (sb.2 b hb).trans e) f0 f1 f3 f4 f5
    obtain ⟨o, e, c, d⟩ := id st'
    exact ⟨u, rfl, go_of (s := { s with heap := h' }) e c d (by decide) ⟨x, H, I1, ru, ⟨rfl, fun ys hy => by rw [I.list_inj hy hq]; exact hx⟩, st', fun b hb => (hf b hb).1⟩⟩
  done := by
    intro X hP hw hK hc i pins s σ H E I hf st hg
    subst hP hw hK
    obtain ⟨xs, hq, hx⟩ := hg
    obtain ⟨its, rv, p, hz⟩ := I.list hq
    obtain ⟨f0, f1, f2, f3, f4, f5⟩ := hf it (by simp)
    have hl := rv.length
    exact wpAny_pyNext_list_end (I.ok.hd hc) st p.isList (by simp; omega) fun h' eb => ⟨rfl, I.turned (t' := s.toks) (fun b o hb e => eb b o hb e) f0 f1 f3 f4 f5⟩
  self := fun _ _ _ _ _ st h => wpAny_pyIter_listiter st h
theorem turn_tuple {P : Program} {w : World} {K : PySem.W.Frag} {tg : Expr} (a it : Addr) : Turn P w K tg (Itt K a) [it] it (fun i h => h.IsTupleIter it a i) where
  mem := by simp
  obj := fun i h st b hb => by
    have e : b = it := by simpa using hb
    subst e
    obtain ⟨o, e, c, d⟩ := st
    exact ⟨o, e, fun v z => by rw [d] at z; cases z⟩
  keep := fun i h h' st k => st.at fun o e => k it (by simp) o e
  item := by
    intro X hP hw hK hc i pins s σ H E I hf st hg
    subst hP hw hK
    obtain ⟨xs, x, hq, hx⟩ := hg
    obtain ⟨its, rv, p, hz⟩ := I.tuple hq
    obtain ⟨u, hu, ru⟩ := rv.get hx
    obtain ⟨f0, f1, f2, f3, f4, f5⟩ := hf it (by simp)
    refine wpAny_pyNext_tuple_item st (show s.heap.IsTuple a its.toArray from p) (x := u) (by simpa using hu) fun h' st' sb => ?_
    have I1 : Inv X pins σ H { s with heap := h' } := I.turned (t' := s.toks) (fun b o hb e => (sb.2 b hb).trans e) f0 f1 f3 f4 f5
    obtain ⟨o, e, c, d⟩ := id st'
    exact ⟨u, rfl, go_of (s := { s with heap := h' }) e c d (by decide) ⟨x, H, I1, ru, ⟨rfl, fun ys hy => by rw [I.tuple_inj hy hq]; exact hx⟩, st', fun b hb => (hf b hb).1⟩⟩
  done := by
    intro X hP hw hK hc i pins s σ H E I hf st hg
    subst hP hw hK
    obtain ⟨xs, hq, hx⟩ := hg
    obtain ⟨its, rv, p, hz⟩ := I.tuple hq
    obtain ⟨f0, f1, f2, f3, f4, f5⟩ := hf it (by simp)
    have hl := rv.length
    exact wpAny_pyNext_tuple_end (I.ok.hd hc) st (show s.heap.IsTuple a its.toArray from p) (by simp; omega) fun h' eb => ⟨rfl, I.turned (t' := s.toks) (fun b o hb e => eb b o hb e) f0 f1 f3 f4 f5⟩
  self := fun _ _ _ _ _ st h => wpAny_pyIter_tupleiter st h
theorem turn_range {P : Program} {w : World} {K : PySem.W.Frag} {tg : Expr} (it : Addr) (lo : Int) (n : Nat) : Turn P w K tg (Itr lo n) [it] it (fun i h => IsRangeIter h it (lo + (i : Nat) * 1) ((n : Int) - (i : Nat)) 1) where
  mem := by simp
  obj := fun i h st b hb => by
    have e : b = it := by simpa using hb
    subst e
    exact ⟨_, st, fun v z => by
      have z' : Data.fields _ = Data.cell v := z
      cases z'⟩
  keep := fun i h h' st k => k it (by simp) _ st
  item := by
    intro X hP hw hK hc i pins s σ H E I hf st hg
    subst hP hw hK
    obtain ⟨f0, f1, f2, f3, f4, f5⟩ := hf it (by simp)
    have W := Walks.range (prog := X.prog) (w := X.w) (I.ok.hd hc) it lo 1 n
    refine W.item i s _ _ hg st fun v h' tk hv st' kk => ?_
    obtain ⟨t, rfl⟩ := hv
    have I1 : Inv X pins σ H { s with heap := h', toks := tk } := I.turned (fun b o hb e => kk b o (by simpa using hb) e) f0 f1 f3 f4 f5
    refine ⟨_, rfl, go_of (s := { s with heap := h', toks := tk }) (n := "range_iterator") st' rfl rfl (by decide) ⟨.int (lo + i), H, I1, ⟨t, ?_⟩, ⟨rfl, rfl⟩, st', fun b hb => (hf b hb).1⟩⟩
    rw [Int.mul_one]
  done := by
    intro X hP hw hK hc i pins s σ H E I hf st hg
    subst hP hw hK
    obtain ⟨f0, f1, f2, f3, f4, f5⟩ := hf it (by simp)
    exact wpAny_pyNext_range_end (I.ok.hd hc) st (by have : n ≤ i := hg; omega) fun h' eb => ⟨rfl, I.turned (t' := s.toks) (fun b o hb e => eb b o hb e) f0 f1 f3 f4 f5⟩
  self := fun _ _ _ _ _ st h => wpAny_pyIter_rangeiter st h
end L2
namespace L2
open PySem PySem.Spec PyProof.Rows
section
variable {X : Cx} {tg : Expr}
theorem range_it {pins : List (Addr × Obj)} {σ : St} {H : Hp} {s : Shared} {R : It → Hp → Prop} {E : Value → Shared → Prop} {lo hi : Int} {t u v : Tok} {tk : Nat} (I : Inv X pins σ H s) (h1 : -(2 ^ 62) ≤ lo) (h2 : lo < 2 ^ 62) (h3 : -(2 ^ 62) ≤ hi) (h4 : hi < 2 ^ 62)
    (q : R (Itr lo (hi - lo).toNat) H) : wpAny (model X.prog X.w) X.A (pyIter (.ref s.heap.objs.size)) (PIE X pins σ tg R) E { s with heap := s.heap.push { cls := .type "range", data := .fields #[.int lo t, .int hi u, .int 1 v] }, toks := tk } := by
  refine wpAny_pyIter_range (IsRange.new ..) (small_one h1 h2 h3 h4) ?_
  have I1 : Inv X pins σ H { s with heap := s.heap.push { cls := .type "range", data := .fields #[.int lo t, .int hi u, .int 1 v] }, toks := tk } := I.kept fun b o e => Heap.get?_push_of_some _ e
  refine ⟨(s.heap.push { cls := .type "range", data := .fields #[.int lo t, .int hi u, .int 1 v] }).objs.size, [(s.heap.push { cls := .type "range", data := .fields #[.int lo t, .int hi u, .int 1 v] }).objs.size], _, _, H, rfl,
    I1.kept (t' := tk) fun b o e => Heap.get?_push_of_some _ e, turn_range _ lo (hi - lo).toNat, ?_, fun b hb => ?_, q⟩
  · have e1 : lo + ((0 : Nat) : Int) * 1 = lo := by simp
    have e2 : (((hi - lo).toNat : Nat) : Int) - ((0 : Nat) : Int) = Builtin.Range.rangeSize lo hi 1 := by rw [rangeSize_one]; split <;> omega
    show IsRangeIter _ _ (lo + ((0 : Nat) : Int) * 1) ((((hi - lo).toNat : Nat) : Int) - ((0 : Nat) : Int)) 1
    rw [e1, e2]
    exact Heap.get?_push_size _ rfl
  · have e : b = (s.heap.push { cls := .type "range", data := .fields #[.int lo t, .int hi u, .int 1 v] }).objs.size := by simpa using hb
    subst e
    exact I1.fpOk (Nat.le_refl _) (I1.hok.fresh (Nat.le_refl _))
def iRng1 (ta : TA) : TI := fun σ H R => ta σ H fun vs H1 => ∃ j : Int, vs = [.int j] ∧ -(2 ^ 62) ≤ j ∧ j < 2 ^ 62 ∧ R (Itr 0 j.toNat) H1
theorem pi_range1 {a : Expr} {ta : TA} {p pos : Pos} (hg : Gl X "range") (hm : X.mg "range" = none) (ha : PA X [a] ta) (hs : starEach [a] X.env = [(false, eval a X.env)] := by rfl) : PI X tg (.Call (.Name "range" p) [a] [] pos) (iRng1 ta) := by
  intro pins s σ H R I h
  refine Call_ (ld_blt I hg hm boot_range (PyProof.Rows.callWith_type1 (thn (ha pos pins s σ H _ I h) fun us s1 ⟨vs, H1, I1, r1, q1⟩ => ?_) hs rfl))
  obtain ⟨j, e, q1, q2, q⟩ := q1
  subst e
  cases r1 with
  | cons r rr =>
    cases rr
    obtain ⟨t, rfl⟩ := r
    exact call_range_1 (range_it I1 (by omega) (by omega) q1 q2 (by simpa using q))
def tFor (wi : TI) (g : TG) (tb : TS) : TS := fun D σ H => wi σ H fun J H1 => ∃ W : Nat → Nat → St → Hp → Prop, (∃ m, W 0 m σ H1) ∧ ∀ i m σ H, W i m σ H →
  (J.stop i H ∧ D.nx σ H) ∨ (J.go i H ∧ ∃ N : St → Hp → Prop, (∀ σ' H', N σ' H' → ∃ m', m' < m ∧ W (i + 1) m' σ' H') ∧ ∀ x H', J.yld i H x H' → g x σ H' fun σ2 H2 => tb { D with nx := N, ct := N, bk := D.nx } σ2 H2)
def pinsAt (fp : List Addr) (h : Heap) : List (Addr × Obj) := fp.filterMap fun b => (h.get? b).map fun o => (b, o)
theorem mem_pinsAt {fp : List Addr} {h : Heap} {b : Addr} {o : Obj} (hb : b ∈ fp) (e : h.get? b = some o) : (b, o) ∈ pinsAt fp h := List.mem_filterMap.mpr ⟨b, hb, by rw [e]; rfl⟩
theorem of_pinsAt {fp : List Addr} {h : Heap} {p : Addr × Obj} (hp : p ∈ pinsAt fp h) : p.1 ∈ fp ∧ h.get? p.1 = some p.2 := by
  obtain ⟨b, hb, e⟩ := List.mem_filterMap.mp hp
  cases q : h.get? b with
  | none => rw [q] at e; cases e
  | some o =>
    rw [q] at e
    have e' : (b, o) = p := Option.some.inj e
    subst e'
    exact ⟨hb, q⟩
theorem Inv.pinned {pins : List (Addr × Obj)} {σ : St} {H : Hp} {s : Shared} {fp : List Addr} (I : Inv X pins σ H s) (hf : ∀ b ∈ fp, FpOk X pins H b) (ho : ∀ b ∈ fp, ∃ o, s.heap.get? b = some o ∧ ∀ v, o.data ≠ .cell v) : Inv X (pins ++ pinsAt fp s.heap) σ H s :=
  I.pins_of fun p hp => (List.mem_append.mp hp).elim (fun z => I.pin p (List.mem_append_right _ z)) fun z => by
    obtain ⟨hb, e⟩ := of_pinsAt z
    obtain ⟨f0, f1, f2, _⟩ := hf p.1 hb
    obtain ⟨o, e', d⟩ := ho p.1 hb
    rw [e] at e'; cases e'
    exact ⟨e, f0, f1, f2, d⟩
theorem Inv.unpinned {pins pl : List (Addr × Obj)} {σ : St} {H : Hp} {s : Shared} (I : Inv X (pins ++ pl) σ H s) : Inv X pins σ H s := I.pins_of fun p hp => I.pin p (List.mem_append_right _ (List.mem_append_left _ hp))
theorem ps_for {iter : Expr} {body : List Stmt} {wi : TI} {g : TG} {tb : TS} {pos : Pos} (hp : PassesOwn (model X.prog X.w) X.A X.env X.xe) (hc : X.calm = true) (hi : PI X tg iter wi) (hg : PG X tg g) (hb : PSs X body tb)
    (hs : ∀ x, foldedSetIterable iter X.env x = pure x := by intro _; rfl) : PS X (.For tg iter body [] pos) (tFor wi g tb) := by
  intro pins s σ H D I h
  refine wpAny_For (thn (hi pins s σ H _ I h) fun v s1 h1 => thn h1 fun itv s2 h2 => ?_) hs
  obtain ⟨it, fp, tn, J, H2, e, I2, T, st2, f2, W, ⟨m0, w0⟩, turn⟩ := h2
  subst e
  -- what stays true of the iterator's objects through the loop
  have stat : ∀ {H' : Hp}, (∀ b ∈ fp, H' b = none) → ∀ b ∈ fp, FpOk X pins H' b := fun hn b hb => ⟨hn b hb, (f2 b hb).2⟩
  refine codeAny_forLoop_any (fun n s' => ∃ i σ' H', Inv X pins σ' H' s' ∧ tn i s'.heap ∧ (∀ b ∈ fp, H' b = none) ∧ W i n σ' H') ?_ m0 ⟨0, σ, H2, I2, st2, fun b hb => (f2 b hb).1, w0⟩
  rintro n s3 ⟨i, σ3, H3, I3, st3, fr3, w3⟩
  rcases turn i n σ3 H3 w3 with ⟨stop, qn⟩ | ⟨go, N, hN, step⟩
  · refine wpAny_passesOwn hp (thn (T.done X rfl rfl rfl hc i pins s3 σ3 H3 X.xe I3 (stat fr3) st3 stop) fun r s4 ⟨hr, I4⟩ => ?_)
    subst hr
    exact wpAny_execs_nil ⟨σ3, H3, I4, qn⟩
  · refine wpAny_passesOwn hp (thn (T.item X rfl rfl rfl hc i pins s3 σ3 H3 X.xe I3 (stat fr3) st3 go) fun r s4 ⟨u, hr, h4⟩ => ?_)
    subst hr
    refine wpAny_passesOwn hp (thn h4 fun _ s5 ⟨x, H5, I5, r5, y5, st5, fr5⟩ => ?_)
    have I5' := I5.pinned (stat fr5) (T.obj _ _ st5)
    refine wpAny_passesOwn hp (thn (hg _ s5 σ3 H5 x u _ I5' r5 (step x H5 y5)) fun _ s6 ⟨σ6, H6, I6, q6⟩ => ?_)
    refine wpAny_passesOwn hp (thn (hb _ s6 σ6 H6 _ I6 q6) fun f s7 q7 => ?_)
    have again : ∀ {σ7 : St} {H7 : Hp}, Inv X (pins ++ pinsAt fp s5.heap) σ7 H7 s7 → N σ7 H7 → ∃ m, m < n ∧ ∃ i σ' H', Inv X pins σ' H' s7 ∧ tn i s7.heap ∧ (∀ b ∈ fp, H' b = none) ∧ W i m σ' H' := fun {σ7 H7} I7 n7 => by
      obtain ⟨m', hm, w7⟩ := hN σ7 H7 n7
      refine ⟨m', hm, i + 1, σ7, H7, I7.unpinned, T.keep _ _ _ st5 fun b hb o e => (I7.pin (b, o) (List.mem_append_right _ (List.mem_append_right _ (mem_pinsAt hb e)))).1, fun b hb => ?_, w7⟩
      obtain ⟨o, e, d⟩ := T.obj _ _ st5 b hb
      exact (I7.pin (b, o) (List.mem_append_right _ (List.mem_append_right _ (mem_pinsAt hb e)))).2.1
    cases f with
    | next => obtain ⟨σ7, H7, I7, n7⟩ := q7; exact again I7 n7
    | cont => obtain ⟨σ7, H7, I7, n7⟩ := q7; exact again I7 n7
    | brk => obtain ⟨σ7, H7, I7, q7⟩ := q7; exact ⟨σ7, H7, I7.unpinned, q7⟩
    | ret v => obtain ⟨x7, σ7, H7, I7, r7, q7⟩ := q7; exact ⟨x7, σ7, H7, I7.unpinned, r7, q7⟩
end
end L2
namespace L2
open PySem PySem.Spec PyProof.Rows
abbrev R2 := V → V → Hp → VK → Prop
def OpR (X : Cx) (f : Value → Value → Sem Value) (r : R2) : Prop :=
  ∀ (pins : List (Addr × Obj)) (s : Shared) (σ : St) (H : Hp) (x y : V) (v u : Value) (Q : VK), Inv X pins σ H s → RelV x v → RelV y u → r x y H Q →
    wpAny (model X.prog X.w) X.A (f v u) (EP X pins σ Q) X.xe s
def UnR (X : Cx) (f : Value → Sem Value) (r : V → Hp → VK → Prop) : Prop :=
  ∀ (pins : List (Addr × Obj)) (s : Shared) (σ : St) (H : Hp) (x : V) (v : Value) (Q : VK), Inv X pins σ H s → RelV x v → r x H Q →
    wpAny (model X.prog X.w) X.A (f v) (EP X pins σ Q) X.xe s
def CallR (X : Cx) (f : Value) (r : List V → Hp → VK → Prop) : Prop :=
  ∀ (pins : List (Addr × Obj)) (s : Shared) (σ : St) (H : Hp) (xs : List V) (us : List Value) (Q : VK), Inv X pins σ H s → Vals xs us → r xs H Q →
    wpAny (model X.prog X.w) X.A (call f us) (EP X pins σ Q) X.xe s
def tOp (r : R2) (ta tb : TE) : TE := fun σ H Q => ta σ H fun x H1 => tb σ H1 fun y H2 => r x y H2 Q
def tUn (r : V → Hp → VK → Prop) (ta : TE) : TE := fun σ H Q => ta σ H fun x H1 => r x H1 Q
def rI (C : Int → Int → Prop) (g : Int → Int → V) : R2 := fun x y H Q => ∃ i j, x = .int i ∧ y = .int j ∧ C i j ∧ Q (g i j) H
def rI0 (g : Int → Int → V) : R2 := fun x y H Q => ∃ i j, x = .int i ∧ y = .int j ∧ Q (g i j) H
def rU (g : Int → V) : V → Hp → VK → Prop := fun x H Q => ∃ i, x = .int i ∧ Q (g i) H
section
variable {X : Cx} {a b c : Expr} {ta tb tc : TE} {pos : Pos}
theorem binT (ha : PE X a ta) (hb : PE X b tb) {pins : List (Addr × Obj)} {s : Shared} {σ : St} {H : Hp} {R : V → V → Hp → Prop} (I : Inv X pins σ H s)
    (h : ta σ H fun x H1 => tb σ H1 fun y H2 => R x y H2) {Q : Value → Shared → Prop} {f : Value → Value → Sem Value}
    (hf : ∀ v u s2 x y H2, Inv X pins σ H2 s2 → RelV x v → RelV y u → R x y H2 → wpAny (model X.prog X.w) X.A (f v u) Q X.xe s2) :
    wpAny (model X.prog X.w) X.A (eval a X.env) (fun v s₁ => wpAny (model X.prog X.w) X.A (eval b X.env) (fun u s₂ => wpAny (model X.prog X.w) X.A (f v u) Q X.xe s₂) X.xe s₁) X.xe s := by
  refine thn (ha pins s σ H _ I h) fun v s1 ⟨x, H1, I1, r1, q1⟩ => ?_
  refine thn (hb pins s1 σ H1 _ I1 q1) fun u s2 ⟨y, H2, I2, r2, q2⟩ => ?_
  exact hf v u s2 x y H2 I2 r1 r2 q2
theorem pe_op {op : Operator} {r : R2} (ho : OpR X (binaryOp op) r) (ha : PE X a ta) (hb : PE X b tb) : PE X (.BinOp a op b pos) (tOp r ta tb) := by
  intro pins s σ H Q I h
  exact wpAny_BinOp (binT ha hb I h fun v u s2 x y H2 I2 rx ry q => ho pins s2 σ H2 x y v u Q I2 rx ry q)
theorem pe_un {op : UnaryOp} {r : V → Hp → VK → Prop} (ho : UnR X (unaryOp op) r) (ha : PE X a ta) : PE X (.UnaryOp op a pos) (tUn r ta) := by
  intro pins s σ H Q I h
  exact UnaryOp_ (thn (ha pins s σ H _ I h) fun v s1 ⟨x, H1, I1, r1, q1⟩ => ho pins s1 σ H1 x v Q I1 r1 q1)
theorem opI {f : Value → Value → Sem Value} {C : Int → Int → Prop} {g : Int → Int → Int}
    (rule : ∀ (i j : Int) (t u : Tok) (s : Shared) (Q : Value → Shared → Prop) (E : Value → Shared → Prop), C i j → Q (.int (g i j) s.toks) { s with toks := s.toks + 1 } → wpAny (model X.prog X.w) X.A (f (.int i t) (.int j u)) Q E s) :
    OpR X f (rI C fun i j => .int (g i j)) := by
  intro pins s σ H x y v u Q I rx ry h
  obtain ⟨i, j, rfl, rfl, hc, q⟩ := h
  obtain ⟨t, rfl⟩ := rx
  obtain ⟨t', rfl⟩ := ry
  exact rule i j t t' s _ _ hc ⟨.int (g i j), H, I.tok _, ⟨_, rfl⟩, q⟩
theorem opI0 {f : Value → Value → Sem Value} {g : Int → Int → Int}
    (rule : ∀ (i j : Int) (t u : Tok) (s : Shared) (Q : Value → Shared → Prop) (E : Value → Shared → Prop), Q (.int (g i j) s.toks) { s with toks := s.toks + 1 } → wpAny (model X.prog X.w) X.A (f (.int i t) (.int j u)) Q E s) :
    OpR X f (rI0 fun i j => .int (g i j)) := by
  intro pins s σ H x y v u Q I rx ry h
  obtain ⟨i, j, rfl, rfl, q⟩ := h
  obtain ⟨t, rfl⟩ := rx
  obtain ⟨t', rfl⟩ := ry
  exact rule i j t t' s _ _ ⟨.int (g i j), H, I.tok _, ⟨_, rfl⟩, q⟩
theorem opB0 {f : Value → Value → Sem Value} {g : Int → Int → Bool}
    (rule : ∀ (i j : Int) (t u : Tok) (s : Shared) (Q : Value → Shared → Prop) (E : Value → Shared → Prop), Q (.bool (g i j)) s → wpAny (model X.prog X.w) X.A (f (.int i t) (.int j u)) Q E s) :
    OpR X f (rI0 fun i j => .bl (g i j)) := by
  intro pins s σ H x y v u Q I rx ry h
  obtain ⟨i, j, rfl, rfl, q⟩ := h
  obtain ⟨t, rfl⟩ := rx
  obtain ⟨t', rfl⟩ := ry
  exact rule i j t t' s _ _ ⟨.bl (g i j), H, I, rfl, q⟩
def CDiv (i j : Int) : Prop := 0 < j ∧ j < 1073741824
def CMul (i j : Int) : Prop := (-(2 ^ 64) < i ∧ i < 2 ^ 64) ∨ (-(2 ^ 64) < j ∧ j < 2 ^ 64)
theorem CMul.ok {i j : Int} (h : CMul i j) : IntMulOk i j := by
  rcases h with ⟨h1, h2⟩ | ⟨h1, h2⟩
  · exact .of_left (intBits_le_64 h1 h2)
  · exact .of_right (intBits_le_64 h1 h2)
theorem op_add : OpR X (binaryOp .Add) (rI0 fun i j => .int (i + j)) := opI0 fun _ _ _ _ _ _ _ q => add_int q
theorem op_sub : OpR X (binaryOp .Sub) (rI0 fun i j => .int (i - j)) := opI0 fun _ _ _ _ _ _ _ q => sub_int q
theorem op_mul : OpR X (binaryOp .Mult) (rI CMul fun i j => .int (i * j)) := opI fun _ _ _ _ _ _ _ hc q => mul_int q hc.ok
theorem op_fdiv : OpR X (binaryOp .FloorDiv) (rI CDiv fun i j => .int (i / j)) := opI fun i j _ _ _ _ _ hc q => by
  have h1 : (0 : Int) < j := hc.1
  have h2 : j < 1073741824 := hc.2
  exact floordiv_int (by omega) (by rw [Int.fdiv_eq_ediv_of_nonneg i (by omega)]; exact q) (.inl (PyProof.noPylong_small (by omega)))
theorem op_mod : OpR X (binaryOp .Mod) (rI (fun _ j => 0 < j) fun i j => .int (i % j)) := opI fun i j _ _ _ _ _ hc q => by
  have h1 : (0 : Int) < j := hc
  exact mod_int' (by omega) (by rw [Int.fmod_eq_emod_of_nonneg i (by omega)]; exact q)
theorem unI {f : Value → Sem Value} {g : Int → Int}
    (rule : ∀ (i : Int) (t : Tok) (s : Shared) (Q : Value → Shared → Prop) (E : Value → Shared → Prop), Q (.int (g i) s.toks) { s with toks := s.toks + 1 } → wpAny (model X.prog X.w) X.A (f (.int i t)) Q E s) :
    UnR X f (rU fun i => .int (g i)) := by
  intro pins s σ H x v Q I rx h
  obtain ⟨i, rfl, q⟩ := h
  obtain ⟨t, rfl⟩ := rx
  exact rule i t s _ _ ⟨.int (g i), H, I.tok _, ⟨_, rfl⟩, q⟩
theorem un_neg : UnR X (unaryOp .USub) (rU fun i => .int (-i)) := unI fun _ _ _ _ _ q => neg_int q
end
def scal : V → V → Bool
  | .non, .non => true | .non, .int _ => true | .int _, .non => true | .non, .bl _ => true | .bl _, .non => true | .non, .str _ => true | .str _, .non => true
  | .int _, .int _ => true | .bl _, .bl _ => true | .str _, .str _ => true | .byt _, .byt _ => true
  | .int _, .str _ => true | .str _, .int _ => true | .bl _, .str _ => true | .str _, .bl _ => true
  | _, _ => false
def rEq : R2 := fun x y H Q => scal x y = true ∧ Q (.bl (decide (x = y))) H
def rNe : R2 := fun x y H Q => scal x y = true ∧ Q (.bl (!decide (x = y))) H
theorem dec_int {i j : Int} : decide (V.int i = V.int j) = (i == j) := by
  rw [Bool.eq_iff_iff]
  simp
theorem dec_bl {i j : Bool} : decide (V.bl i = V.bl j) = (i == j) := by
  rw [Bool.eq_iff_iff]
  simp
theorem dec_str {i j : Str} : decide (V.str i = V.str j) = (i == j) := by
  rw [Bool.eq_iff_iff]
  simp
theorem dec_byt {i j : Array UInt8} : decide (V.byt i = V.byt j) = (i.toList == j.toList) := by
  rw [Bool.eq_iff_iff]
  cases i
  cases j
  simp
section
variable {X : Cx} {a b c : Expr} {ta tb tc : TE} {pos : Pos}
theorem fin_bl {pins : List (Addr × Obj)} {σ : St} {H : Hp} {s : Shared} {Q : VK} {k k' : Bool} (I : Inv X pins σ H s) (q : Q (.bl k) H) (e : k = k') : EP X pins σ Q (.bool k') s := by
  subst e
  exact ⟨.bl k, H, I, rfl, q⟩
theorem op_eq : OpR X (compareOp .Eq) rEq := by
  intro pins s σ H x y v u Q I rx ry h
  obtain ⟨hs, q⟩ := h
  cases x with
  | non =>
    cases rx
    cases y with
    | non => cases ry; exact PySem.EqNone.eq_none_none (fin_bl I q (by simp))
    | bl j => cases ry; exact PySem.EqNone.eq_none_bool (fin_bl I q (by simp))
    | int j => obtain ⟨t', rfl⟩ := ry; exact PySem.EqNone.eq_none_int (fin_bl I q (by simp))
    | str j => obtain ⟨t', rfl⟩ := ry; exact PySem.EqNone.eq_none_str (fin_bl I q (by simp))
    | _ => exact absurd (show false = true from hs) Bool.false_ne_true
  | bl i =>
    cases rx
    cases y with
    | non => cases ry; exact PySem.EqNone.eq_bool_none (fin_bl I q (by simp))
    | bl j => cases ry; exact eq_bool (fin_bl I q dec_bl)
    | str j => obtain ⟨t', rfl⟩ := ry; exact PySem.EqMixed.eq_bool_str (fin_bl I q (by simp))
    | _ => exact absurd (show false = true from hs) Bool.false_ne_true
  | int i =>
    obtain ⟨t, rfl⟩ := rx
    cases y with
    | non => cases ry; exact PySem.EqNone.eq_int_none (fin_bl I q (by simp))
    | int j => obtain ⟨t', rfl⟩ := ry; exact eq_int (fin_bl I q dec_int)
    | str j => obtain ⟨t', rfl⟩ := ry; exact PySem.EqMixed.eq_int_str (fin_bl I q (by simp))
    | _ => exact absurd (show false = true from hs) Bool.false_ne_true
  | str i =>
    obtain ⟨t, rfl⟩ := rx
    cases y with
    | non => cases ry; exact PySem.EqNone.eq_str_none (fin_bl I q (by simp))
    | bl j => cases ry; exact PySem.EqMixed.eq_str_bool (fin_bl I q (by simp))
    | int j => obtain ⟨t', rfl⟩ := ry; exact PySem.EqMixed.eq_str_int (fin_bl I q (by simp))
    | str j => obtain ⟨t', rfl⟩ := ry; exact eq_str (fin_bl I q dec_str)
    | _ => exact absurd (show false = true from hs) Bool.false_ne_true
  | byt i =>
    obtain ⟨t, rfl⟩ := rx
    cases y with
    | byt j => obtain ⟨t', rfl⟩ := ry; exact PySem.W.eq_bytes (fin_bl I q dec_byt)
    | _ => exact absurd (show false = true from hs) Bool.false_ne_true
  | _ => cases y <;> exact absurd (show false = true from hs) Bool.false_ne_true
theorem op_ne : OpR X (compareOp .NotEq) rNe := by
  intro pins s σ H x y v u Q I rx ry h
  obtain ⟨hs, q⟩ := h
  cases x with
  | non =>
    cases rx
    cases y with
    | non => cases ry; exact PySem.EqNone.ne_none_none (fin_bl I q (by simp))
    | bl j => cases ry; exact PySem.EqNone.ne_none_bool (fin_bl I q (by simp))
    | int j => obtain ⟨t', rfl⟩ := ry; exact PySem.EqNone.ne_none_int (fin_bl I q (by simp))
    | str j => obtain ⟨t', rfl⟩ := ry; exact PySem.EqNone.ne_none_str (fin_bl I q (by simp))
    | _ => exact absurd (show false = true from hs) Bool.false_ne_true
  | bl i =>
    cases rx
    cases y with
    | non => cases ry; exact PySem.EqNone.ne_bool_none (fin_bl I q (by simp))
    | bl j => cases ry; exact ne_bool (fin_bl I q (congrArg not dec_bl))
    | str j => obtain ⟨t', rfl⟩ := ry; exact PySem.EqMixed.ne_bool_str (fin_bl I q (by simp))
    | _ => exact absurd (show false = true from hs) Bool.false_ne_true
  | int i =>
    obtain ⟨t, rfl⟩ := rx
    cases y with
    | non => cases ry; exact PySem.EqNone.ne_int_none (fin_bl I q (by simp))
    | int j => obtain ⟨t', rfl⟩ := ry; exact ne_int (fin_bl I q (congrArg not dec_int))
    | str j => obtain ⟨t', rfl⟩ := ry; exact PySem.EqMixed.ne_int_str (fin_bl I q (by simp))
    | _ => exact absurd (show false = true from hs) Bool.false_ne_true
  | str i =>
    obtain ⟨t, rfl⟩ := rx
    cases y with
    | non => cases ry; exact PySem.EqNone.ne_str_none (fin_bl I q (by simp))
    | bl j => cases ry; exact PySem.EqMixed.ne_str_bool (fin_bl I q (by simp))
    | int j => obtain ⟨t', rfl⟩ := ry; exact PySem.EqMixed.ne_str_int (fin_bl I q (by simp))
    | str j => obtain ⟨t', rfl⟩ := ry; exact ne_str (fin_bl I q (congrArg not dec_str))
    | _ => exact absurd (show false = true from hs) Bool.false_ne_true
  | byt i =>
    obtain ⟨t, rfl⟩ := rx
    cases y with
    | byt j => obtain ⟨t', rfl⟩ := ry; exact PySem.W.ne_bytes (fin_bl I q (congrArg not dec_byt))
    | _ => exact absurd (show false = true from hs) Bool.false_ne_true
  | _ => cases y <;> exact absurd (show false = true from hs) Bool.false_ne_true
theorem op_lt : OpR X (compareOp .Lt) (rI0 fun i j => .bl (decide (i < j))) := opB0 fun _ _ _ _ _ _ _ q => lt_int q
theorem op_le : OpR X (compareOp .LtE) (rI0 fun i j => .bl (decide (i ≤ j))) := opB0 fun _ _ _ _ _ _ _ q => le_int q
theorem op_gt : OpR X (compareOp .Gt) (rI0 fun i j => .bl (decide (j < i))) := opB0 fun _ _ _ _ _ _ _ q => gt_int q
theorem op_ge : OpR X (compareOp .GtE) (rI0 fun i j => .bl (decide (j ≤ i))) := opB0 fun _ _ _ _ _ _ _ q => ge_int q
theorem op_lt_str : OpR X (compareOp .Lt) (fun x y H Q => ∃ i j, x = .str i ∧ y = .str j ∧ Q (.bl (decide (i.cps.toList < j.cps.toList))) H) := by
  intro pins s σ H x y v u Q I rx ry h
  obtain ⟨i, j, rfl, rfl, q⟩ := h
  obtain ⟨t, rfl⟩ := rx
  obtain ⟨t', rfl⟩ := ry
  exact lt_str (fin_bl I q rfl)
theorem OpR.or {f : Value → Value → Sem Value} {r r' : R2} (h : OpR X f r) (h' : OpR X f r') : OpR X f (fun x y H Q => r x y H Q ∨ r' x y H Q) := by
  intro pins s σ H x y v u Q I rx ry q
  rcases q with q | q
  · exact h pins s σ H x y v u Q I rx ry q
  · exact h' pins s σ H x y v u Q I rx ry q
theorem nomark (b : Expr) {op : CmpOp} (h : op ≠ .In := by decide) (h2 : op ≠ .NotIn := by decide) : behindInMarks op b = false := by
  have e1 : (op == CmpOp.In) = false := by cases op <;> first | rfl | exact absurd rfl h
  have e2 : (op == CmpOp.NotIn) = false := by cases op <;> first | rfl | exact absurd rfl h2
  cases b <;> simp [behindInMarks, e1, e2]
theorem pe_cmpR {op : CmpOp} {r : R2} (ho : OpR X (compareOp op) r) (ha : PE X a ta) (hb : PE X b tb) (hm : behindInMarks op b = false) : PE X (.Compare a [op] [b] pos) (tOp r ta tb) := by
  intro pins s σ H Q I h
  exact wpAny_Compare1 (binT ha hb I h fun v u s2 x y H2 I2 rx ry q => ho pins s2 σ H2 x y v u Q I2 rx ry q) hm
def tTest (t : TE) : TT := fun σ H Q => t σ H fun x H' => ∃ k, x = .bl k ∧ Q k H'
theorem pt_cmpR {op : CmpOp} {r : R2} (ho : OpR X (compareOp op) r) (ha : PE X a ta) (hb : PE X b tb) (hm : behindInMarks op b = false) : PT X (.Compare a [op] [b] pos) (tTest (tOp r ta tb)) := by
  intro pins s σ H Q I h
  refine wpAny_isTrue_Compare1 (thn (ha pins s σ H _ I h) fun v s1 ⟨x, H1, I1, r1, q1⟩ => thn (hb pins s1 σ H1 _ I1 q1) fun u s2 ⟨y, H2, I2, r2, q2⟩ =>
    thn (ho pins s2 σ H2 x y v u _ I2 r1 r2 q2) fun c s3 ⟨z, H3, I3, r3, k, e, q3⟩ => ?_) hm
  subst e
  cases r3
  exact wpAny_truthy_bool ⟨H3, I3, q3⟩
def tChain (r r' : R2) (ta tb tc : TE) : TE := fun σ H Q => ta σ H fun x H1 => tb σ H1 fun y H2 => r x y H2 fun z H3 => ∃ k, z = .bl k ∧
  (if k = true then tc σ H3 fun w' H4 => r' y w' H4 Q else Q (.bl false) H3)
theorem pe_chain {op op' : CmpOp} {r r' : R2} (ho : OpR X (compareOp op) r) (ho' : OpR X (compareOp op') r') (ha : PE X a ta) (hb : PE X b tb) (hc : PE X c tc)
    (hm : lastMarks [op, op'] [b, c] = false := by with_unfolding_all rfl) : PE X (.Compare a [op, op'] [b, c] pos) (tChain r r' ta tb tc) := by
  intro pins s σ H Q I h
  refine Compare_chain (thn (ha pins s σ H _ I h) fun v s1 ⟨x, H1, I1, r1, q1⟩ => chain_link (thn (hb pins s1 σ H1 _ I1 q1) fun u s2 ⟨y, H2, I2, r2, q2⟩ =>
    thn (ho pins s2 σ H2 x y v u _ I2 r1 r2 q2) fun d s3 ⟨z, H3, I3, r3, k, e, q3⟩ => ?_)) hm
  subst e
  cases r3
  refine wpAny_truthy_bool ?_
  cases k with
  | false => exact ite_ff ⟨.bl false, H3, I3, rfl, q3⟩
  | true => exact ite_tt (chain_last (thn (hc pins s3 σ H3 _ I3 q3) fun w' s4 ⟨z', H4, I4, r4, q4⟩ => ho' pins s4 σ H4 y z' u w' Q I4 r2 r4 q4))
theorem pt_chain {op op' : CmpOp} {r r' : R2} (ho : OpR X (compareOp op) r) (ho' : OpR X (compareOp op') r') (ha : PE X a ta) (hb : PE X b tb) (hc : PE X c tc)
    (hm : lastMarks [op, op'] [b, c] = false := by with_unfolding_all rfl) : PT X (.Compare a [op, op'] [b, c] pos) (tTest (tChain r r' ta tb tc)) := by
  intro pins s σ H Q I h
  refine isTrue_chain (thn (ha pins s σ H _ I h) fun v s1 ⟨x, H1, I1, r1, q1⟩ => test_link (thn (hb pins s1 σ H1 _ I1 q1) fun u s2 ⟨y, H2, I2, r2, q2⟩ =>
    thn (ho pins s2 σ H2 x y v u _ I2 r1 r2 q2) fun d s3 ⟨z, H3, I3, r3, k, e, q3⟩ => ?_)) hm
  subst e
  cases r3
  refine wpAny_truthy_bool ?_
  cases k with
  | false =>
    obtain ⟨k', e', q'⟩ := q3
    cases e'
    exact ite_ff ⟨H3, I3, q'⟩
  | true =>
    refine ite_tt (test_last (thn (hc pins s3 σ H3 _ I3 q3) fun w' s4 ⟨z', H4, I4, r4, q4⟩ => thn (ho' pins s4 σ H4 y z' u w' _ I4 r2 r4 q4) fun d' s5 ⟨z2, H5, I5, r5, k2, e2, q5⟩ => ?_))
    subst e2
    cases r5
    exact wpAny_truthy_bool ⟨H5, I5, q5⟩
theorem line63 : (sizeLine : Nat) < 2 ^ 63 := by rw [sizeLine_eq]; decide
theorem op_add_str : OpR X (binaryOp .Add) (fun x y H Q => ∃ i j, x = .str i ∧ y = .str j ∧ i.length + j.length ≤ sizeLine ∧ Q (.str (i ++ j)) H) := by
  intro pins s σ H x y v u Q I rx ry h
  obtain ⟨i, j, rfl, rfl, hz, q⟩ := h
  obtain ⟨t, rfl⟩ := rx
  obtain ⟨t', rfl⟩ := ry
  exact add_str (fun t' tk => ⟨.str (i ++ j), H, I.tok _, ⟨_, rfl⟩, q⟩) hz
theorem vals1 {x : V} {us : List Value} (r : Vals [x] us) : ∃ u, us = [u] ∧ RelV x u := by
  cases r with
  | cons r1 r2 => cases r2; exact ⟨_, rfl, r1⟩
theorem vals2 {x y : V} {us : List Value} (r : Vals [x, y] us) : ∃ u w', us = [u, w'] ∧ RelV x u ∧ RelV y w' := by
  cases r with
  | cons r1 r2 =>
    cases r2 with
    | cons r3 r4 => cases r4; exact ⟨_, _, rfl, r1, r3⟩
theorem call_abs : CallR X (.builtin "abs") (fun xs H Q => ∃ i, xs = [.int i] ∧ Q (.int (if i < 0 then -i else i)) H) := by
  intro pins s σ H xs us Q I r h
  obtain ⟨i, rfl, q⟩ := h
  obtain ⟨u, rfl, t, rfl⟩ := vals1 r
  exact call_abs_int fun u tk => ⟨.int (if i < 0 then -i else i), H, I.tok _, ⟨_, rfl⟩, q⟩
theorem call_max2 (hc : X.calm = true) : CallR X (.builtin "max") (fun xs H Q => ∃ i j, xs = [.int i, .int j] ∧ Q (.int (if j > i then j else i)) H) := by
  intro pins s σ H xs us Q I r h
  obtain ⟨i, j, rfl, q⟩ := h
  obtain ⟨u, w', rfl, ⟨t, rfl⟩, ⟨t', rfl⟩⟩ := vals2 r
  refine max_two_ints (I.ok.hd hc) fun h' tk k => ⟨_, H, I.kept k, ?_, q⟩
  by_cases hj : j > i
  · rw [if_pos hj, if_pos hj]; exact ⟨_, rfl⟩
  · rw [if_neg hj, if_neg hj]; exact ⟨_, rfl⟩
theorem call_min2 (hc : X.calm = true) : CallR X (.builtin "min") (fun xs H Q => ∃ i j, xs = [.int i, .int j] ∧ Q (.int (if j < i then j else i)) H) := by
  intro pins s σ H xs us Q I r h
  obtain ⟨i, j, rfl, q⟩ := h
  obtain ⟨u, w', rfl, ⟨t, rfl⟩, ⟨t', rfl⟩⟩ := vals2 r
  refine min_two_ints (I.ok.hd hc) fun h' tk k => ⟨_, H, I.kept k, ?_, q⟩
  by_cases hj : j < i
  · rw [if_pos hj, if_pos hj]; exact ⟨_, rfl⟩
  · rw [if_neg hj, if_neg hj]; exact ⟨_, rfl⟩
end
end L2
namespace L2
open PySem PySem.Spec PyProof.Rows
structure ObjM (h : Heap) (x dx C : Addr) (mA : Str → Option Value) : Prop where
  obj : h.get? x = some (PySem.W.instObj C dx)
  ns : h.Ns1 dx mA
  ne : dx ≠ x
theorem lookIn_ns {h : Heap} {dx : Addr} {mA : Str → Option Value} (n : h.Ns1 dx mA) : ∃ od, h.get? dx = some od ∧ ∀ name, PySem.W.lookIn name od = some (mA name) := by
  obtain ⟨o, es, ep, ho, hd, hk, _, hm⟩ := n
  refine ⟨o, ho, fun name => ?_⟩
  have e := hm name
  unfold nsFind findBy at e
  rw [← Array.find?_toList] at e
  unfold PySem.W.lookIn
  rw [hd]
  dsimp only
  split
  · rename_i y q
    rw [q] at e
    exact congrArg some e
  · rename_i q
    rw [q] at e
    have a : es.toList.any (·.refKey) = false := by
      rw [List.any_eq_false]
      intro y hy
      obtain ⟨z, t, hkey⟩ := hk y (Array.mem_toList_iff.mp hy)
      simp [DictEntry.refKey, hkey]
    have a' : ¬ es.toList.any (·.refKey) = true := by rw [a]; exact Bool.false_ne_true
    rw [if_neg a']
    exact congrArg some e
theorem ObjM.look {h : Heap} {x dx C : Addr} {mA : Str → Option Value} (I : ObjM h x dx C mA) : ∃ od, PySem.W.InstAt h x (PySem.W.instObj C dx) C (some od) ∧ ∀ name, PySem.W.lookIn name od = some (mA name) :=
  let ⟨od, ho, hl⟩ := lookIn_ns I.ns
  ⟨od, ⟨I.obj, rfl, rfl, ho⟩, hl⟩
section
variable {prog : Program} {w : World} {A : Around} {E : Value → Shared → Prop} {s : Shared} {K : PySem.W.Frag} {x dx C f : Addr} {mA : Str → Option Value} {name : Str} {v : Value}
end
section
variable {P : Program} {w : World} {H H' : Hp} {h h' : Heap} {a C dx : Addr} {fs fs' : List (Str × V)}
theorem ins_get (hok : HOk P w H h) (e : H a = some (.ins C dx fs)) : ∃ mA, ObjM h a dx C mA ∧ (∀ f, RelO (fs.lookup f) (mA f)) ∧ PySem.Within mA (fs.map (·.1)) ∧ fs.length ≤ 1000 ∧ H dx = some (.own a) := by
  obtain ⟨d, z, ne, ob, mA, n, r, q⟩ := (show ObjOk P w H h a (.ins C dx fs) from hok a _ e)
  exact ⟨mA, ⟨ob, n, ne⟩, r, q, z, d⟩
end
structure Cls (K : PySem.W.Frag) (C : Addr) : Prop where
  pg : PySem.W.plainGet K C Str.empty = true
  hd : PySem.W.hasDictIn K C = true
  po : PySem.W.plainOver K C = true
  sa : PySem.W.findIn K (.ref C) "__setattr__" = some (some (.builtin "object.__setattr__"))
theorem Cls.get {K : PySem.W.Frag} {C : Addr} (c : Cls K C) (f : Str) : PySem.W.plainGet K C f = true := c.pg
section
variable {X : Cx} {pins : List (Addr × Obj)} {σ : St} {H : Hp} {s : Shared} {a C dx : Addr} {fs : List (Str × V)} {f : Str} {v : V} {A : Around} {E : Value → Shared → Prop}
end
section
variable {X : Cx} {o e value : Expr} {f : Str} {pos pos' tpos : Pos} {ta tv : TE}
end
section
variable {X : Cx} {pins : List (Addr × Obj)} {σ : St} {H : Hp} {s : Shared} {A : Around} {E : Value → Shared → Prop} {Q : Value → Shared → Prop} {c : Value} {b : Bool}
inductive TyOf (K : PySem.W.Frag) (H : Hp) : V → Value → Prop where
  | non : TyOf K H .non (.type "NoneType")
  | bl (x : Bool) : TyOf K H (.bl x) (.type "bool")
  | int (i : Int) : TyOf K H (.int i) (.type "int")
  | str (x : Str) : TyOf K H (.str x) (.type "str")
  | flt (x : UInt64) : TyOf K H (.flt x) (.type "float")
  | lst {a : Addr} {xs : List V} (e : H a = some (.lst xs)) : TyOf K H (.ref a) (.type "list")
  | frz {a : Addr} {o : Obj} {xs : List V} (e : H a = some (.frz o (.lst xs))) : TyOf K H (.ref a) (.type "list")
  | tup {a : Addr} {xs : List V} (e : H a = some (.tup xs)) : TyOf K H (.ref a) (.type "tuple")
  | dK {a : Addr} {kvs : List (Key × V)} (e : H a = some (.dK kvs)) : TyOf K H (.ref a) (.type "dict")
  | dT {a : Addr} {kvs : List (List Key × V)} (e : H a = some (.dT kvs)) : TyOf K H (.ref a) (.type "dict")
  | ins {a C dx : Addr} {fs : List (Str × V)} (e : H a = some (.ins C dx fs)) (cl : Cls K C) (ha : PySem.W.findIn K (.ref C) "__class__" = some (some (.builtin "object.__class__")))
      (hn : PySem.W.specialIn K (.builtin "object.__class__") "__get__" = some (some (.builtin "getset_descriptor.__get__"))) (htk : PySem.W.takesIn K (.builtin "object.__class__") = some true)
      (hm : PySem.W.mroIn K C (.type "object") = some true) : TyOf K H (.ref a) (.ref C)
theorem isinst_ok {x : V} {u t : Value} (I : Inv X pins σ H s) (rx : RelV x u) (ty : TyOf X.K H x t) (e : PySem.W.kitOne X.K t c = some b) (h : ∀ tk, Q (.bool b) { s with toks := tk }) :
    wpAny (model X.prog X.w) A (call (.builtin "isinstance") [u, c]) Q E s := by
  cases ty with
  | non => cases (show u = Value.none from rx); exact PySem.W.kia_one PySem.W.kitx_none I.kIn True.intro e (fun z => nomatch z) h
  | bl y => cases (show u = Value.bool y from rx); exact PySem.W.kia_one PySem.W.kitx_bool I.kIn True.intro e (fun z => nomatch z) h
  | int i => obtain ⟨t, q⟩ := (show ∃ t, u = Value.int i t from rx); cases q; exact PySem.W.kia_one PySem.W.kitx_int I.kIn True.intro e (fun z => nomatch z) h
  | str y => obtain ⟨t, q⟩ := (show ∃ t, u = Value.str y t from rx); cases q; exact PySem.W.kia_one PySem.W.kitx_str I.kIn True.intro e (fun z => nomatch z) h
  | flt y => obtain ⟨t, q⟩ := (show ∃ t, u = Value.float y t from rx); cases q; exact PySem.W.kia_one PySem.W.kitx_float I.kIn True.intro e (fun z => nomatch z) h
  | @lst a xs ea =>
    cases (show u = Value.ref a from rx)
    obtain ⟨_, _, n, _, h1⟩ := (show ObjOk X.prog X.w H s.heap a (.lst xs) from I.hok a _ ea)
    exact PySem.W.kia_one PySem.W.kitx_list I.kIn ⟨_, h1, rfl⟩ e (fun z => nomatch z) h
  | @frz a ob xs ea =>
    cases (show u = Value.ref a from rx)
    obtain ⟨_, _, _, n, _, h1⟩ := (show ObjOk X.prog X.w H s.heap a (.frz ob (.lst xs)) from I.hok a _ ea)
    exact PySem.W.kia_one PySem.W.kitx_list I.kIn ⟨_, h1, rfl⟩ e (fun z => nomatch z) h
  | @tup a xs ea =>
    cases (show u = Value.ref a from rx)
    obtain ⟨_, _, _, p⟩ := (show ObjOk X.prog X.w H s.heap a (.tup xs) from I.hok a _ ea)
    obtain ⟨o, h1, h2, _⟩ := p
    exact PySem.W.kia_one PySem.W.kitx_tuple I.kIn ⟨o, h1, h2⟩ e (fun z => nomatch z) h
  | @dK a kvs ea =>
    cases (show u = Value.ref a from rx)
    obtain ⟨_, _, vs, _, p⟩ := (show ObjOk X.prog X.w H s.heap a (.dK kvs) from I.hok a _ ea)
    obtain ⟨o, es, ep, h1, h2, _⟩ := p
    exact PySem.W.kia_one PySem.W.kitx_dict I.kIn ⟨o, h1, h2.1⟩ e (fun z => nomatch z) h
  | @dT a kvs ea =>
    cases (show u = Value.ref a from rx)
    obtain ⟨_, _, xs, _, o, es, ep, h1, h2, _⟩ := (show ObjOk X.prog X.w H s.heap a (.dT kvs) from I.hok a _ ea)
    exact PySem.W.kia_one PySem.W.kitx_dict I.kIn ⟨o, h1, h2.1⟩ e (fun z => nomatch z) h
  | @ins a C dx fs ea cl ha hn htk hm =>
    cases (show u = Value.ref a from rx)
    obtain ⟨mA, O, _⟩ := ins_get I.hok ea
    obtain ⟨od, J, _⟩ := O.look
    exact PySem.W.kia_one (PySem.W.kitx_own (cl.get _) cl.hd ha hn htk hm) I.kIn J e (fun z => nomatch z) h
end
end L2
namespace L2
open PySem PySem.Spec PyProof.Rows
structure Room (k : Nat) (A : Around) : Prop where
  hd : A.handled = none
  dp : A.depth + 3 * k + 5 < recursionLimit
  un : A.units + 16 * k + 200 < cLine
theorem Room.mono {j k : Nat} {A : Around} (r : Room k A) (h : j ≤ k) : Room j A := ⟨r.hd, by have := r.dp; omega, by have := r.un; omega⟩
theorem Room.deeper {k : Nat} {A : Around} (r : Room (k + 1) A) (env : Env) : Room k (A.deeper env) :=
  ⟨r.hd, by have := r.dp; show A.depth + 1 + 3 * k + 5 < _; omega, by have := r.un; show A.units + 3 + 16 * k + 200 < _; omega⟩
theorem Room.depth {k : Nat} {A : Around} (r : Room k A) : A.depth < recursionLimit := by have := r.dp; omega
theorem Room.units {k : Nat} {A : Around} (r : Room k A) : A.units + 64 < cLine := by have := r.un; omega
def tNil : TA := fun _ H Q => Q [] H
def tCons (ta : TE) (tr : TA) : TA := fun σ H Q => ta σ H fun x H1 => tr σ H1 fun xs H2 => Q (x :: xs) H2
section
variable {X : Cx} {e : Expr} {es : List Expr} {te : TE} {t : TA} {pos : Pos}
theorem pa_nil : PA X [] tNil := fun _ _ _ _ H Q I h => Calls.spliced_nil ⟨[], H, I, .nil, h⟩
theorem pa_cons (ha : PE X e te) (hr : PA X es t) (hs : starEach (e :: es) X.env = (false, eval e X.env) :: starEach es X.env := by rfl) : PA X (e :: es) (tCons te t) := by
  intro pos pins s σ H Q I h
  rw [hs]
  show wpAny _ _ (spliced ((false, eval e X.env) :: backTo pos (starEach es X.env))) _ _ s
  refine Calls.spliced_cons (thn (ha pins s σ H _ I h) fun u s1 ⟨x, H1, I1, r1, q1⟩ => ?_)
  exact thn (hr pos pins s1 σ H1 _ I1 q1) fun us s2 ⟨xs, H2, I2, r2, q2⟩ => ⟨x :: xs, H2, I2, .cons r1 r2, q2⟩
def tTup (t : TA) : TE := fun σ H Q => t σ H fun xs H1 => xs.length ≤ sizeLine ∧ ∀ p, H1 p = none → Q (.ref p) (upd H1 p (.tup xs))
def tLst (t : TA) : TE := fun σ H Q => t σ H fun xs H1 => xs.length ≤ sizeLine ∧ ∀ p, H1 p = none → Q (.ref p) (upd H1 p (.lst xs))
theorem pe_tup {x1} (h : PA X es t) : PE X (.Tuple es x1 pos) (tTup t) := by
  intro pins s σ H Q I hq
  refine wpAny_Tuple_spliced (thn (h pos pins s σ H _ I hq) fun us s1 ⟨xs, H1, I1, r, z, q⟩ => ⟨by rw [← r.length]; exact z, ?_⟩)
  have hf : H1 s1.heap.objs.size = none := I1.hok.fresh (Nat.le_refl _)
  refine ⟨.ref s1.heap.objs.size, upd H1 s1.heap.objs.size (.tup xs), I1.laid (t' := s1.toks) (fun b u e => Heap.get?_push_of_some _ e) (Nat.le_refl _) ?_, rfl, q _ hf⟩
  exact ⟨z, us, r, ⟨_, Heap.get?_push_size _ rfl, rfl, _, rfl⟩⟩
theorem pe_lst (h : PA X es t) : PE X (.List es pos) (tLst t) := by
  intro pins s σ H Q I hq
  refine wpAny_List_spliced (thn (h pos pins s σ H _ I hq) fun us s1 ⟨xs, H1, I1, r, z, q⟩ => ⟨by rw [← r.length]; exact z, ?_⟩)
  have hf : H1 s1.heap.objs.size = none := I1.hok.fresh (Nat.le_refl _)
  refine ⟨.ref s1.heap.objs.size, upd H1 s1.heap.objs.size (.lst xs), I1.laid (t' := s1.toks) (fun b u e => Heap.get?_push_of_some _ e) (Nat.le_refl _) ?_, rfl, q _ hf⟩
  exact ⟨z, us, 0, r, Heap.get?_push_size _ rfl⟩
end
abbrev Sp := List V → Hp → VK → XK → Prop
abbrev CXT := List Env → Hp → Shared → XK → Value → Shared → Prop
structure Env0 (P : Program) (w : World) (K : PySem.W.Frag) (mg : Str → Option Value) (base : Heap) (A : Around) (outer : List Env) (s : Shared) (H : Hp) : Prop where
  frames : A.frames = some outer
  mod : Mod K mg base
  bs : ∀ b o, base.get? b = some o → s.heap.get? b = some o ∧ H b = none
  bsz : base.objs.size ≤ s.heap.objs.size
  funs : s.heap.FunFrames base outer
  frf : ∀ b ∈ frs outer, H b = none
  hok : HOk P w H s.heap
  bare : AllBare s.gens
def CE (outer : List Env) (P : Program) (w : World) (H : Hp) (s : Shared) (Q : VK) (u : Value) (s' : Shared) : Prop :=
  ∃ v H', s'.os = s.os ∧ AllBare s'.gens ∧ Un (frs outer) [] H H' s.heap s'.heap ∧ HOk P w H' s'.heap ∧ RelV v u ∧ Q v H'
def CR (CX : CXT) (outer : List Env) (P : Program) (w : World) (H : Hp) (s : Shared) (Q : VK) (E : XK) (r : Result) (s' : Shared) : Prop :=
  match r with
  | .ok (.ret u) => CE outer P w H s Q u s'
  | .ok _ => False
  | .error e => CX outer H s E e s'
structure FnOk (P : Program) (w : World) (K : PySem.W.Frag) (mg : Str → Option Value) (base : Heap) (CX : CXT) (k : Nat) (f : Addr) (fd : FuncData) (ps : List Str) (sp : Sp) : Prop where
  len : ∀ vs H Q E, sp vs H Q E → vs.length = ps.length
  run : ∀ (A : Around) (outer : List Env) (s : Shared) (H : Hp) (args : Args) (us : List Value) (vs : List V) (Q : VK) (E : XK), Room k A → Env0 P w K mg base A outer s H → BindsTo s fd args (ps.zip us) → Vals vs us → sp vs H Q E →
    codeAny (model P w) A (.call (.ref f) args) (CR CX outer P w H s Q E) s
theorem FnOk.imp {P : Program} {w : World} {K : PySem.W.Frag} {mg : Str → Option Value} {base : Heap} {CX : CXT} {k : Nat} {f : Addr} {fd : FuncData} {ps : List Str} {sp sp' : Sp} (F : FnOk P w K mg base CX k f fd ps sp)
    (h : ∀ vs H Q E, sp' vs H Q E → sp vs H Q E) : FnOk P w K mg base CX k f fd ps sp' :=
  ⟨fun vs H Q E q => F.len vs H Q E (h _ _ _ _ q), fun A outer s H args us vs Q E hr he hb hv hs => F.run A outer s H args us vs Q E hr he hb hv (h _ _ _ _ hs)⟩
section
variable {X : Cx} {pins : List (Addr × Obj)} {σ : St} {H : Hp} {s s' : Shared}
theorem Inv.env0 (I : Inv X pins σ H s) : Env0 X.prog X.w X.K X.mg X.base X.A X.stack s H :=
  ⟨I.ok.frames, I.ok.mod, I.bs, Nat.le_trans I.ok.bsz I.sz, I.stack, I.stkFree, I.hok, I.bare⟩
theorem Inv.after {Q : VK} {u : Value} (I : Inv X pins σ H s) (h : CE X.stack X.prog X.w H s Q u s') : EP X pins σ Q u s' := by
  obtain ⟨v, H', os, bare, un, hok, r, q⟩ := h
  obtain ⟨hh, g, d, t, os'⟩ := s'
  obtain rfl : os' = s.os := os
  exact ⟨v, H', I.call (h' := hh) (g' := g) (d' := d) (t' := t) (ch := []) un hok bare (fun b z => absurd z (by simp)), r, q⟩
end
def tCall (sp : Sp) (dvs : List V) (E : XK) (t : TA) : TE := fun σ H Q => t σ H fun vs H1 => sp (vs ++ dvs) H1 Q E
def Binds (K : PySem.W.Frag) (fd : FuncData) (ps : List Str) (ds : List Value) : Prop :=
  ∀ (s : Shared) (us : List Value), K.In s.heap → (us ++ ds).length = ps.length → BindsTo s fd ⟨us, []⟩ (ps.zip (us ++ ds))
theorem Binds.all {K : PySem.W.Frag} {fd : FuncData} {ps : List Str} (h : ∀ us : List Value, us.length = ps.length → bindArgs fd ⟨us, []⟩ = pure (ps.zip us)) : Binds K fd ps [] := fun s us _ hl => by
  rw [List.append_nil] at hl ⊢
  exact .of_eq (h us hl)
def Passes (CX : CXT) (X : Cx) (E : XK) : Prop := ∀ (pins : List (Addr × Obj)) (σ : St) (H : Hp) (s : Shared) (e : Value) (s' : Shared), Inv X pins σ H s → CX X.stack H s E e s' → X.xe e s'
section
variable {X : Cx} {CX : CXT} {k : Nat} {f C : Addr} {fd : FuncData} {ps : List Str} {sp : Sp} {dvs : List V} {ds : List Value} {E : XK} {x m : Str} {p pos apos : Pos} {e o : Expr} {es : List Expr} {ta : TE} {t : TA}
theorem run_fn {pins : List (Addr × Obj)} {σ : St} {H : Hp} {s : Shared} {Q : VK} {us : List Value} {vs : List V} (F : FnOk X.prog X.w X.K X.mg X.base CX k f fd ps sp) (hr : Room k X.A) (hb : Binds X.K fd ps ds) (hd : Vals dvs ds) (hx : Passes CX X E)
    (I : Inv X pins σ H s) (r : Vals vs us) (h : sp (vs ++ dvs) H Q E) : wpAny (model X.prog X.w) X.A (call (.ref f) us) (EP X pins σ Q) X.xe s := by
  have r2 : Vals (vs ++ dvs) (us ++ ds) := r.append hd
  have hl : (us ++ ds).length = ps.length := by rw [← r2.length]; exact F.len _ _ _ _ h
  refine wpAny_call (codeAny_mono (F.run X.A X.stack s H ⟨us, []⟩ (us ++ ds) (vs ++ dvs) Q E hr I.env0 (hb s us I.kIn hl) r2 h) fun r s' hq => ?_)
  cases r with
  | error e => exact hx pins σ H s e s' I hq
  | ok fl =>
    cases fl with
    | ret u => exact I.after hq
    | next => exact False.elim hq
    | brk => exact False.elim hq
    | cont => exact False.elim hq
theorem pe_call (F : FnOk X.prog X.w X.K X.mg X.base CX k f fd ps sp) (hr : Room k X.A) (hg : Gl X x) (hm : X.mg x = some (.ref f)) (hk : PySem.W.keepIn X.K (.ref f) = true) (hb : Binds X.K fd ps ds) (hd : Vals dvs ds) (hx : Passes CX X E)
    (ha : PA X (e :: es) t) (hdb : (x == ("__debug__" : Str)) = false := by decide) (he : starEach (e :: es) X.env = (false, eval e X.env) :: starEach es X.env := by rfl) (hpl : (backTo pos (starEach es X.env)).any (·.1) = false := by rfl) :
    PE X (.Call (.Name x p) (e :: es) [] pos) (tCall sp dvs E t) := by
  intro pins s σ H Q I h
  refine wpAny_Call_Name_kw (ld_glob I hg hm ?_ hdb)
  refine PySem.W.callWith_K (h₀ := X.base) I.ok.mod.kin hk (thn (ha pos pins s σ H _ I h) fun us s1 ⟨vs, H1, I1, r, q⟩ => ⟨I1.kIn, ?_⟩) he hpl
  exact run_fn F hr hb hd hx I1 r q
end
section
variable {X : Cx} {CX : CXT} {k : Nat} {f C : Addr} {fd : FuncData} {ps ks : List Str} {sp : Sp} {E : XK} {x m : Str} {p pos apos kpos : Pos} {e o : Expr} {es : List Expr} {kws : List Keyword} {te ta : TE} {t tk : TA} {nm : Option Str}
variable {g : List Value → List Value → List Value} {gV : List V → List V → List V}
end
structure FnScope (N P : List Str) (sc : Scope) : Prop where
  kind : sc.kind = .function
  co : sc.isCoroutine = false
  gen : sc.isGenerator = false
  nd : N.Nodup
  pre : N.take P.length = P
  par : ∀ x ∈ P, sc.names.lookup x = some .local ∨ sc.names.lookup x = some .cell
  nofree : ∀ y ∈ sc.names, y.2 ≠ .free
theorem bindL_out {kindOf : Str → Option NameKind} {x : Str} : ∀ {binds : List (Str × Value)} {m : Str → Option Value}, (∀ v, (x, v) ∉ binds) → bindL kindOf binds m x = m x
  | [], _, _ => rfl
  | (n, v) :: r, m, h => by
    unfold bindL
    rw [bindL_out fun w hw => h w (List.mem_cons_of_mem _ hw)]
    split
    · have : x ≠ n := by rintro rfl; exact h v List.mem_cons_self
      simp [this]
    · rfl
theorem bindC_out {kindOf : Str → Option NameKind} {x : Str} : ∀ {binds : List (Str × Value)} {m : Str → Option Value}, (∀ v, (x, v) ∉ binds) → bindC kindOf binds m x = m x
  | [], _, _ => rfl
  | (n, v) :: r, m, h => by
    unfold bindC
    rw [bindC_out fun w hw => h w (List.mem_cons_of_mem _ hw)]
    split
    · rfl
    · have : x ≠ n := by rintro rfl; exact h v List.mem_cons_self
      simp [this]
theorem bindL_get {kindOf : Str → Option NameKind} {x : Str} {v : Value} : ∀ {P : List Str} {vs : List Value} {i : Nat} {m : Str → Option Value}, P.Nodup → P[i]? = some x → vs[i]? = some v → kindOf x = some .local →
    bindL kindOf (P.zip vs) m x = some v
  | [], _, _, _, _, h, _, _ => by simp at h
  | _ :: _, [], _, _, _, _, h, _ => by simp at h
  | p :: P, w :: vs, 0, m, nd, h1, h2, hk => by
    simp at h1 h2; subst h1; subst h2
    show bindL kindOf ((p, w) :: P.zip vs) m p = _
    unfold bindL
    rw [bindL_out fun v hv => (List.nodup_cons.mp nd).1 (List.of_mem_zip hv).1, if_pos hk]
    simp
  | p :: P, w :: vs, i + 1, m, nd, h1, h2, hk => by
    show bindL kindOf ((p, w) :: P.zip vs) m x = _
    unfold bindL
    exact bindL_get (i := i) (List.nodup_cons.mp nd).2 (by simpa using h1) (by simpa using h2) hk
theorem bindC_get {kindOf : Str → Option NameKind} {x : Str} {v : Value} : ∀ {P : List Str} {vs : List Value} {i : Nat} {m : Str → Option Value}, P.Nodup → P[i]? = some x → vs[i]? = some v → kindOf x ≠ some .local →
    bindC kindOf (P.zip vs) m x = some v
  | [], _, _, _, _, h, _, _ => by simp at h
  | _ :: _, [], _, _, _, _, h, _ => by simp at h
  | p :: P, w :: vs, 0, m, nd, h1, h2, hk => by
    simp at h1 h2; subst h1; subst h2
    show bindC kindOf ((p, w) :: P.zip vs) m p = _
    unfold bindC
    rw [bindC_out fun v hv => (List.nodup_cons.mp nd).1 (List.of_mem_zip hv).1, if_neg hk]
    simp
  | p :: P, w :: vs, i + 1, m, nd, h1, h2, hk => by
    show bindC kindOf ((p, w) :: P.zip vs) m x = _
    unfold bindC
    exact bindC_get (i := i) (List.nodup_cons.mp nd).2 (by simpa using h1) (by simpa using h2) hk
def start (N : List Str) (vs : List V) : St := vs.map some ++ List.replicate (N.length - vs.length) none
def cxOf (CX : CXT) (P : Program) (w : World) (K : PySem.W.Frag) (mg : Str → Option Value) (base : Heap) (N : List Str) (qual : Str) (scope : Scope) (f : Addr) (cd : Value) (A : Around) (outer : List Env) (s : Shared) (H : Hp) (E : XK) : Cx where
  prog := P
  w := w
  K := K
  mg := mg
  base := base
  A := A.deeper (envOfC qual scope s.heap.objs.size f cd)
  N := N
  s₀ := s
  H₀ := H
  env := envOfC qual scope s.heap.objs.size f cd
  outer := outer
  stack := envOfC qual scope s.heap.objs.size f cd :: outer
  ex := []
  calm := true
  fn := fun _ => true
  pn := []
  xe := fun e s' => wpAny (model P w) (A.deeper (envOfC qual scope s.heap.objs.size f cd)) (leaving (envOfC qual scope s.heap.objs.size f cd) e) (fun _ s'' => CX outer H s E e s'') (fun e' s'' => CX outer H s E e' s'') s'
theorem cell_has {sc : Scope} {n : Nat} {x : Str} (h : sc.names.lookup x = some .cell) : ∃ c, (cellsFrom n sc.names []).lookup x = some c := by
  have q := PySem.W.cellsFrom_some sc.names n [] (.inl h)
  exact Option.isSome_iff_exists.mp q
theorem inv_start {CX : CXT} {P : Program} {w : World} {K : PySem.W.Frag} {mg : Str → Option Value} {base : Heap} {N ps : List Str} {qual : Str} {scope : Scope} {f : Addr} {cd : Value} {A : Around} {outer : List Env} {s s1 : Shared} {H : Hp} {E : XK} {us : List Value} {vs : List V}
    (S : FnScope N ps scope) (hd : A.handled = none) (e0 : Env0 P w K mg base A outer s H) (hl : vs.length = ps.length) (r : Vals vs us)
    (x : InCallC s s.heap.objs.size (bindL (envOfC qual scope s.heap.objs.size f cd).kindOf (ps.zip us) fun _ => none) (cellsFrom (s.heap.objs.size + 1) scope.names []) (bindC (envOfC qual scope s.heap.objs.size f cd).kindOf (ps.zip us) fun _ => none) s1) :
    Inv (cxOf CX P w K mg base N qual scope f cd A outer s H E) [] (start N vs) H s1 := by
  have hpl : ps.length ≤ N.length := by have := congrArg List.length S.pre; rw [List.length_take] at this; omega
  obtain ⟨h1, tk, rfl, hk⟩ := x.done
  have noA : ∀ b : Addr, b ∉ (cxOf CX P w K mg base N qual scope f cd A outer s H E).ex := fun b z => absurd (show b ∈ ([] : List Addr) from z) (by simp)
  refine ⟨⟨e0.mod, S.kind, rfl, rfl, Nat.le_refl _, fun y z c h1 h2 => ?_, fun y hy => ?_, fun y c _ h => ?_, fun _ => hd, Around.frames_deeper e0.frames, .inr ⟨rfl, rfl⟩, fun b z => absurd z (noA b), e0.bs, e0.bsz, fun b _ _ => noA b, fun b z => absurd z (noA b), e0.funs, e0.frf⟩,
    rfl, e0.bare, Un.kept hk, ⟨_, x.toInCall.ns, fun i y v h1 h2 h3 => ?_⟩, fun y c h => ⟨_, x.cell y c h⟩, e0.hok.fresh (Nat.le_refl _), fun y c h => ?_, fun p hp => absurd (show p ∈ ([] : List (Addr × Obj)) from hp) (by simp), e0.hok.kept hk, ?_⟩
  · exact name_of_addr x.apart (PySem.mem_of_lookup h1) (PySem.mem_of_lookup h2)
  · have hy : scope.names.lookup y = some .cell ∨ scope.names.lookup y = some .free := hy
    rcases hy with hy | hy
    · exact cell_has hy
    · exact absurd rfl (S.nofree _ (PySem.mem_of_lookup hy))
  · exact Nat.le_of_lt (x.above y c (PySem.mem_of_lookup h))
  · have hi : i < vs.length := by
      unfold start at h2
      by_cases hi : i < vs.length
      · exact hi
      · rw [List.getElem?_append_right (by simpa using hi)] at h2
        rw [List.getElem?_replicate] at h2
        split at h2 <;> cases h2
    have ha : vs[i]? = some v := by
      unfold start at h2
      rw [List.getElem?_append_left (by simpa using hi), List.getElem?_map] at h2
      cases e : vs[i]? with
      | none => rw [e] at h2; cases h2
      | some a => rw [e] at h2; cases h2; rfl
    obtain ⟨u, hu, rv⟩ := r.get ha
    have hp : ps[i]? = some y := by
      rw [← S.pre, List.getElem?_take_of_lt (by omega)]; exact h1
    have ndP : ps.Nodup := by rw [← S.pre]; exact S.nd.sublist (List.take_sublist _ _)
    refine ⟨u, rv, ?_⟩
    rcases S.par y (List.mem_of_getElem? hp) with k | k
    · exact .inl ⟨k, bindL_get ndP hp hu k⟩
    · obtain ⟨c, e⟩ := cell_has (n := s.heap.objs.size + 1) k
      refine .inr ⟨.inl k, c, e, ?_⟩
      have q := x.cell y c e
      rw [bindC_get ndP hp hu (by show scope.names.lookup y ≠ _; rw [k]; decide)] at q
      exact q
  · exact e0.hok.fresh (Nat.le_of_lt (x.above y c (PySem.mem_of_lookup h)))
  · unfold start
    show _ = N.length
    rw [List.length_append, List.length_map, List.length_replicate]
    omega
theorem fn_of {CX : CXT} {P : Program} {w : World} {K : PySem.W.Frag} {mg : Str → Option Value} {base : Heap} {k : Nat} {f : Addr} {name qual : Str} {params : Arguments} {body : List Stmt} {scope : Scope} {dV kV doc pm cdv ct oc : Value} {an od : Option Addr}
    {osl : Array (Option Value)} {N ps : List Str} {sp : Sp} (lk : K.lookup f = some ⟨oc, od, .func (PySem.W.fnOf name qual params body scope dV kV doc pm an cdv ct), osl⟩) (hcd : PySem.W.codeIn K cdv qual = true) (S : FnScope N ps scope)
    (len : ∀ vs H Q E, sp vs H Q E → vs.length = ps.length)
    (hbody : ∀ (A : Around) (outer : List Env) (s : Shared) (H : Hp) (vs : List V) (Q : VK) (E : XK), Room k (A.deeper (envOfC qual scope s.heap.objs.size f cdv)) → sp vs H Q E →
      ∃ t, PSs (cxOf CX P w K mg base N qual scope f cdv A outer s H E) body t ∧ t { nx := fun _ H' => Q .non H', rt := Q } (start N vs) H) :
    FnOk P w K mg base CX (k + 1) f (PySem.W.fnOf name qual params body scope dV kV doc pm an cdv ct) ps sp := by
  refine ⟨len, fun A outer s H args us vs Q E hr e0 hb r hsp => ?_⟩
  have hl := len _ _ _ _ hsp
  have KX : K.In s.heap := e0.mod.kin.keeps fun b o e => (e0.bs b o e).1
  have lim : s.heap.NoLimit := e0.mod.nolimit.keeps fun b o e => (e0.bs b o e).1
  have hkind : ∀ y ∈ ps.zip us, scope.names.lookup y.1 = some .local ∨ (scope.names.lookup y.1 = some .cell ∧ ((cellsFrom (s.heap.objs.size + 1) scope.names []).lookup y.1).isSome = true) := fun ⟨n, v⟩ hy => by
    rcases S.par n (List.of_mem_zip hy).1 with q | q
    · exact .inl q
    · exact .inr ⟨q, PySem.W.cellsFrom_some _ _ _ (.inl q)⟩
  refine codeAny_call_function hr.depth (KX _ _ lk) rfl S.co S.gen rfl (PySem.W.codeRec_of KX hcd) (hb _ _ _ _ ?_)
  refine wpAny_newFunctionEnv_cells S.kind hkind fun env he s1 x => ?_
  subst he
  refine ⟨lim.keeps x.toInCall.keep, codeAny_func ?_⟩
  obtain ⟨t, ht, hq⟩ := hbody A outer s H vs Q E (hr.deeper _) hsp
  have I : Inv (cxOf CX P w K mg base N qual scope f cdv A outer s H E) [] (start N vs) H s1 := inv_start S hr.hd e0 hl r x
  refine wpAny_mono (ht [] s1 (start N vs) H _ I hq) (fun fl s' hs => ?_) fun e s' hs => hs
  have fin : ∀ {σ' : St} {H' : Hp} {v : V} {u : Value}, Inv (cxOf CX P w K mg base N qual scope f cdv A outer s H E) [] σ' H' s' → RelV v u → Q v H' → CE outer P w H s Q u s' :=
    fun {σ' H' v u} J rv q => ⟨v, H', J.os, J.bare, J.base, J.hok, rv, q⟩
  cases fl with
  | ret u =>
    obtain ⟨v, σ', H', J, rv, q⟩ := hs
    exact fin J rv q
  | next =>
    obtain ⟨σ', H', J, q⟩ := hs
    exact fin (v := V.non) (u := Value.none) J rfl q
  | brk =>
    obtain ⟨_, _, _, q⟩ := hs
    exact False.elim q
  | cont =>
    obtain ⟨_, _, _, q⟩ := hs
    exact False.elim q
end L2
namespace L2
open PySem PySem.Spec PyProof.Rows
section
variable {X : Cx} {x : Str} {p pos : Pos} {e : Expr} {es : List Expr} {t : TA} {id T : String} {r : List V → Hp → VK → Prop}
def tCB (r : List V → Hp → VK → Prop) (t : TA) : TE := fun σ H Q => t σ H fun vs H1 => r vs H1 Q
theorem pe_callB (hc : CallR X (.builtin id) r) (hg : Gl X x) (hm : X.mg x = none) (hv : bootBuiltins x = some (.builtin id)) (ha : PA X (e :: es) t) (hn : x ≠ "__name__" := by decide) (hdb : (x == ("__debug__" : Str)) = false := by decide)
    (he : starEach (e :: es) X.env = (false, eval e X.env) :: starEach es X.env := by rfl) (hpl : (backTo pos (starEach es X.env)).any (·.1) = false := by rfl) : PE X (.Call (.Name x p) (e :: es) [] pos) (tCB r t) := by
  intro pins s σ H Q I h
  refine wpAny_Call_Name_kw (ld_blt I hg hm hv ?_ hn hdb)
  exact PyProof.Rows.callWith_builtin1 (thn (ha pos pins s σ H _ I h) fun us s1 ⟨vs, H1, I1, r1, q1⟩ => hc pins s1 σ H1 vs us Q I1 r1 q1) he hpl
theorem pe_callTy (hc : CallR X (.type T) r) (hg : Gl X x) (hm : X.mg x = none) (hv : bootBuiltins x = some (.type T)) (ha : PA X (e :: es) t) (hn : x ≠ "__name__" := by decide) (hdb : (x == ("__debug__" : Str)) = false := by decide)
    (he : starEach (e :: es) X.env = (false, eval e X.env) :: starEach es X.env := by rfl) (hpl : (backTo pos (starEach es X.env)).any (·.1) = false := by rfl) : PE X (.Call (.Name x p) (e :: es) [] pos) (tCB r t) := by
  intro pins s σ H Q I h
  refine wpAny_Call_Name_kw (ld_blt I hg hm hv ?_ hn hdb)
  exact PyProof.Rows.callWith_type1 (thn (ha pos pins s σ H _ I h) fun us s1 ⟨vs, H1, I1, r1, q1⟩ => hc pins s1 σ H1 vs us Q I1 r1 q1) he hpl
end
end L2
namespace HT
open PySem PyProof.Rows
section
open PySem.SeqAt
open PySem.AutoSeq1 (wpAny_loadPart')
open PySem.MeetsSeq PySem.MeetsSeq2 PySem.MeetsSeq3
end
section
variable {prog : Program} {w : World} {A : Around} {E : Value → Shared → Prop} {s : Shared}
theorem cat_tup {t b : Addr} {vs ws : List Value} {Q : Value → Shared → Prop} (ht : IsTup s.heap t vs.toArray) (hb : IsTup s.heap b ws.toArray) (hv : vs ≠ [])
    (h1 : ws = [] → Q (.ref t) s) (h2 : ws ≠ [] → Q (.ref s.heap.objs.size) { s with heap := s.heap.push { cls := .type "tuple", data := .seq (vs ++ ws).toArray } })
    (hsz : vs.length + ws.length ≤ sizeLine) : wpAny (model prog w) A (binaryOp .Add (.ref t) (.ref b)) Q E s := by
  obtain ⟨⟨cls, dd, data, sl⟩, ho, hc, n, hd⟩ := id ht
  obtain ⟨⟨cls2, dd2, data2, sl2⟩, ho2, hc2, n2, hd2⟩ := id hb
  simp only at hc hd hc2 hd2
  subst hc hd hc2 hd2
  have e : vs.toArray ++ ws.toArray = (vs ++ ws).toArray := by simp
  by_cases hw : ws = []
  · exact concat_meets ⟨_, ho, rfl⟩ ⟨_, ho2, rfl⟩ noFill_tuple_add seq_tuple_add PySem.F.slot_tuple_add PySem.F.entry_tuple_add (PySem.F.args_tuple_add_2 _ _)
      (tuple_addW1 t b vs.toArray ws.toArray n n2 dd dd2 sl sl2 (by simpa using hv) (by simp [hw])) ⟨ho, ho2, h1 hw⟩
  · refine concat_meets ⟨_, ho, rfl⟩ ⟨_, ho2, rfl⟩ noFill_tuple_add seq_tuple_add PySem.F.slot_tuple_add PySem.F.entry_tuple_add (PySem.F.args_tuple_add_2 _ _)
      (tuple_addW2 t b vs.toArray ws.toArray n n2 dd dd2 sl sl2 (by simpa using hv) (by simpa using hw) (by rw [List.size_toArray, List.size_toArray]; exact hsz)) ⟨ho, ho2, ?_⟩
    rw [e]
    exact h2 hw
def sIx (n d : Nat) : Option Int → Nat
  | none => d
  | some v => if v < 0 then (v + (n : Int)).toNat else min v.toNat n
theorem sIx_nat (n d k : Nat) : sIx n d (some (k : Int)) = min k n := by
  show (if (k : Int) < 0 then ((k : Int) + (n : Int)).toNat else min (k : Int).toNat n) = min k n
  rw [if_neg (by omega), Int.toNat_natCast]
theorem sIx_le (n d : Nat) (hd : d ≤ n) (o : Option Int) : sIx n d o ≤ n := by
  cases o with
  | none => exact hd
  | some v =>
    show (if v < 0 then (v + (n : Int)).toNat else min v.toNat n) ≤ n
    by_cases hv : v < 0
    · rw [if_pos hv]; omega
    · rw [if_neg hv]; exact Nat.min_le_right _ _
theorem clip_eq (v : Int) (n d : Nat) : (if v < 0 then max (v + (n : Int)) 0 else min v (n : Int)) = ((sIx n d (some v) : Nat) : Int) := by
  show (if v < 0 then max (v + (n : Int)) 0 else min v (n : Int)) = (((if v < 0 then (v + (n : Int)).toNat else min v.toNat n) : Nat) : Int)
  by_cases hv : v < 0
  · simp only [if_pos hv]; omega
  · simp only [if_neg hv]; omega
theorem adjust_gen (lo hi : Option Int) (n : Nat) : Builtin.Slice.sliceAdjust lo hi 1 (n : Int) = (((sIx n 0 lo : Nat) : Int), ((sIx n n hi : Nat) : Int)) := by
  have h1 : ¬ ((1 : Int) < 0) := by omega
  unfold Builtin.Slice.sliceAdjust
  simp only [h1, if_false]
  refine Prod.ext ?_ ?_
  · cases lo with
    | none => rfl
    | some v => exact clip_eq v n 0
  · cases hi with
    | none => rfl
    | some v => exact clip_eq v n n
theorem places_gen (i j : Nat) : Builtin.Slice.slicePlaces (i : Int) (j : Int) 1 = j - i := by
  unfold Builtin.Slice.slicePlaces
  have h1 : (1 : Int) > 0 := by omega
  simp only [h1, if_true, Int.ediv_one]
  split <;> omega
theorem slicePart_ {v : Value} {o : Option Int} {Q : Option Int → Shared → Prop} (p : IsPart v o) (h : Q o s) : wpAny (model prog w) A (Builtin.Slice.slicePartIndex v) Q E s := by
  cases p with
  | none => exact slicePart_none h
  | int i t => exact slicePart_int h
theorem sliceApplied_gen {sl : Addr} {vl vu : Value} {lo hi : Option Int} {n : Nat} {Q : Int × Int × Nat → Shared → Prop} (hs : s.heap.IsSliceOf sl vl vu .none) (pl : IsPart vl lo) (pu : IsPart vu hi)
    (h : Q (((sIx n 0 lo : Nat) : Int), 1, sIx n n hi - sIx n 0 lo) s) : wpAny (model prog w) A (Builtin.Slice.sliceApplied (.ref sl) (pure (n : Int))) Q E s := by
  obtain ⟨os, hos, hcs, hds⟩ := id hs
  unfold Builtin.Slice.sliceApplied Builtin.Slice.sliceFields
  refine wpAny_bind (wpAny_bind (wpAny_field hos hds (x := vl) rfl (wpAny_bind (wpAny_field hos hds (x := vu) rfl (wpAny_bind (wpAny_field hos hds (x := .none) rfl (wpAny_pure ?_)))))))
  refine wpAny_bind (slicePart_none ?_)
  show wpAny _ _ (if ((1 : Int) == 0) = true then _ else _) _ _ s
  rw [if_neg (by decide)]
  refine wpAny_bind (slicePart_ pl (wpAny_bind (slicePart_ pu (wpAny_bind (wpAny_pure ?_)))))
  show wpAny _ _ (match Builtin.Slice.sliceAdjust lo hi 1 (n : Int) with | (lo, hi) => pure (lo, (1 : Int), Builtin.Slice.slicePlaces lo hi 1)) _ _ s
  rw [adjust_gen lo hi n]
  show wpAny _ _ (pure (((sIx n 0 lo : Nat) : Int), (1 : Int), Builtin.Slice.slicePlaces ((sIx n 0 lo : Nat) : Int) ((sIx n n hi : Nat) : Int) 1)) _ _ s
  rw [places_gen]
  exact wpAny_pure h
theorem pick_gen (xs : Array Value) (i k : Nat) : ((List.range k).filterMap fun (m : Nat) => xs[((i : Int) + (m : Int) * 1).toNat]?).toArray = ((xs.toList.drop i).take k).toArray := by
  have e : (fun (m : Nat) => xs[((i : Int) + (m : Int) * 1).toNat]?) = fun m => xs[i + m]? := by
    funext m
    have : ((i : Int) + (m : Int) * 1).toNat = i + m := by omega
    rw [this]
  rw [e]
  have := pick_run xs i k
  rw [List.filterMap_map] at this
  have e2 : ((fun x => xs[x]?) ∘ fun x => i + x) = fun m => xs[i + m]? := rfl
  rw [e2] at this
  rw [this]
theorem getItem_tuple_cut {t sl : Addr} {items : Array Value} {vl vu : Value} {lo hi : Option Int} {Q : Value → Shared → Prop} (ht : IsTup s.heap t items) (hs : s.heap.IsSliceOf sl vl vu .none) (pl : IsPart vl lo) (pu : IsPart vu hi)
    (hw : ¬ (sIx items.size 0 lo = 0 ∧ sIx items.size items.size hi = items.size))
    (h : Q (.ref s.heap.objs.size) { s with heap := s.heap.push { cls := .type "tuple", data := .seq ((items.toList.drop (sIx items.size 0 lo)).take (sIx items.size items.size hi - sIx items.size 0 lo)).toArray } })
    (hsz : items.size ≤ sizeLine) : wpAny (model prog w) A (getItem (.ref t) (.ref sl)) Q E s := by
  have htake : sizeOk (.seq ((items.toList.drop (sIx items.size 0 lo)).take (sIx items.size items.size hi - sIx items.size 0 lo)).toArray) := by
    show ((items.toList.drop (sIx items.size 0 lo)).take (sIx items.size items.size hi - sIx items.size 0 lo)).toArray.size ≤ sizeLine
    rw [List.size_toArray, List.length_take, List.length_drop, Array.length_toList]
    omega
  have hj : sIx items.size items.size hi ≤ items.size := sIx_le _ _ (Nat.le_refl _) hi
  obtain ⟨os, hos, hcs, hds⟩ := id hs
  have hTs : s.TypeIs (.ref sl) "slice" := ⟨os, hos, hcs⟩
  unfold getItem
  try with_reducible refine wpAny_holding ?_
  first | refine wpAny_bind (wpAny_pure ?_) | skip
  refine wpAny_bind (wpAny_sequenceKey ht.typeIs (by decide) ?_)
  refine wpAny_bind (wpAny_callSpecial?_slot (name := Str.ofString "__getitem__") ht.typeIs PyProof.Rows.slot_tuple_getitem
    (wpAny_call_entry PyProof.Rows.slot_tuple_getitem ht.typeIs entry_tuple_getitem ?_ (args_tuple_getitem _ _)))
  show wpAny _ _ (Builtin.Tuple.tupleItemsOf (.ref t) >>= _) _ _ s
  refine wpAny_bind (tupleItemsOf_ ht ?_)
  refine wpAny_bind (wpAny_typeOf hTs ?_)
  rw [if_pos (by decide)]
  refine wpAny_bind (sliceApplied_gen hs pl pu ?_)
  have hno : ¬ ((((sIx items.size 0 lo : Nat) : Int) == 0 && (1 : Int) == 1 && (sIx items.size items.size hi - sIx items.size 0 lo) == items.size) = true) := by
    intro q
    rw [Bool.and_eq_true, Bool.and_eq_true] at q
    have q1 : ((sIx items.size 0 lo : Nat) : Int) = 0 := eq_of_beq q.1.1
    have q2 : sIx items.size items.size hi - sIx items.size 0 lo = items.size := eq_of_beq q.2
    exact hw ⟨by omega, by omega⟩
  show wpAny _ _ (if (((sIx items.size 0 lo : Nat) : Int) == 0 && (1 : Int) == 1 && (sIx items.size items.size hi - sIx items.size 0 lo) == items.size) = true then _ else _) _ _ s
  rw [if_neg hno, pick_gen]
  first
    | exact wpAny_bind (m := Builtin.Tuple.tupleExact _) (wpAny_newObj_type (wpAny_pure ⟨_, rfl, wpAny_pure h⟩) htake)
    | exact wpAny_bind (m := Builtin.Tuple.tupleExact _) (wpAny_newObj_type (wpAny_bind (wpAny_pure (wpAny_pure ⟨_, rfl, wpAny_pure h⟩))) htake)
    | exact wpAny_bind (wpAny_bind (m := Builtin.Tuple.tupleExact _) (wpAny_newObj_type (wpAny_pure (wpAny_pure ⟨_, rfl, wpAny_pure h⟩)) htake))
    | exact wpAny_bind (wpAny_bind (m := Builtin.Tuple.tupleExact _) (wpAny_newObj_type (wpAny_pure ⟨_, rfl, wpAny_pure h⟩) htake))
end
end HT
namespace L2
open PySem PySem.Spec PyProof.Rows
abbrev TO := St → Hp → (Option Int → Hp → Prop) → Prop
def PO (X : Cx) (e : Option Expr) (t : TO) : Prop :=
  ∀ (pins : List (Addr × Obj)) (s : Shared) (σ : St) (H : Hp) (Q : Option Int → Hp → Prop), Inv X pins σ H s → t σ H Q →
    wpAny (model X.prog X.w) X.A (evalPart e X.env) (fun u s' => ∃ o H', Inv X pins σ H' s' ∧ IsPart u o ∧ Q o H') X.xe s
def tNoPart : TO := fun _ H Q => Q none H
def tPart (t : TE) : TO := fun σ H Q => t σ H fun x H1 => ∃ i, x = .int i ∧ Q (some i) H1
theorem intsAre_of {ns : List Int} : ∀ {us : List Value}, Vals (ns.map V.int) us → IntsAre us ns := by
  induction ns with
  | nil => intro us r; rw [List.map_nil] at r; cases r; exact .nil
  | cons n ns ih =>
    intro us r
    rw [List.map_cons] at r
    cases r with
    | cons r1 r2 =>
      obtain ⟨t, e⟩ := r1
      subst e
      exact .cons n t (ih r2)
section
variable {X : Cx} {e : Expr} {te : TE} {lo hi : Option Expr} {tl th : TO} {pos p2 : Pos}
theorem po_none : PO X none tNoPart := by
  intro pins s σ H Q I h
  rw [evalPart_none]
  exact wpAny_pure ⟨none, H, I, .none, h⟩
theorem po_some (h : PE X e te) : PO X (some e) (tPart te) := by
  intro pins s σ H Q I hw
  rw [evalPart_some]
  refine thn (h pins s σ H _ I hw) fun u s1 ⟨x, H1, I1, r1, q1⟩ => ?_
  obtain ⟨i, rfl, q⟩ := q1
  obtain ⟨t, rfl⟩ := r1
  exact ⟨some i, H1, I1, .int i t, q⟩
def SlR (X : Cx) (r : V → Option Int → Option Int → Hp → VK → Prop) : Prop :=
  ∀ (pins : List (Addr × Obj)) (s : Shared) (σ : St) (H : Hp) (x : V) (v vl vu : Value) (lo hi : Option Int) (sl : Addr) (Q : VK), Inv X pins σ H s → RelV x v → s.heap.IsSliceOf sl vl vu .none → IsPart vl lo → IsPart vu hi → r x lo hi H Q →
    ∃ T id, typeLookup (.type T) "__getitem__" = pure (some (.builtin id)) ∧ s.TypeIs v T ∧ wpAny (model X.prog X.w) X.A (getItem v (.ref sl)) (EP X pins σ Q) X.xe s
theorem SlR.or {r r' : V → Option Int → Option Int → Hp → VK → Prop} (h : SlR X r) (h' : SlR X r') : SlR X (fun x lo hi H Q => r x lo hi H Q ∨ r' x lo hi H Q) := by
  intro pins s σ H x v vl vu lo hi sl Q I rx hs pl pu q
  rcases q with q | q
  · exact h pins s σ H x v vl vu lo hi sl Q I rx hs pl pu q
  · exact h' pins s σ H x v vl vu lo hi sl Q I rx hs pl pu q
def tSl (r : V → Option Int → Option Int → Hp → VK → Prop) (te : TE) (tl th : TO) : TE := fun σ H Q => te σ H fun x H1 => tl σ H1 fun l H2 => th σ H2 fun u H3 => r x l u H3 Q
theorem pe_slice {r : V → Option Int → Option Int → Hp → VK → Prop} (hr : SlR X r) (he : PE X e te) (hl : PO X lo tl) (hu : PO X hi th) : PE X (.Subscript e (.Slice lo hi none p2) pos) (tSl r te tl th) := by
  intro pins s σ H Q I h
  refine Subscript_ (thn (he pins s σ H _ I h) fun v s1 ⟨x, H1, I1, r1, q1⟩ => ?_)
  refine wpAny_Slice (thn (hl pins s1 σ H1 _ I1 q1) fun vl s2 ⟨l, H2, I2, pl, q2⟩ => thn (hu pins s2 σ H2 _ I2 q2) fun vu s3 ⟨u, H3, I3, pu, q3⟩ => ?_)
  rw [evalPart_none]
  refine wpAny_pure ?_
  have I4 : Inv X pins σ H3 { s3 with heap := s3.heap.push { cls := .type "slice", data := .fields #[vl, vu, .none] } } := I3.kept (t' := s3.toks) fun b ob q => Heap.get?_push_of_some _ q
  obtain ⟨T, id, hT, ht, hg⟩ := hr pins { s3 with heap := s3.heap.push { cls := .type "slice", data := .fields #[vl, vu, .none] } } σ H3 x v vl vu l u s3.heap.objs.size Q I4 r1 (Heap.IsSliceOf.new ..) pl pu q3
  show wpAny (model X.prog X.w) X.A (subscriptTail e (.Slice lo hi none p2) v (.ref s3.heap.objs.size)) (EP X pins σ Q) X.xe { s3 with heap := s3.heap.push { cls := .type "slice", data := .fields #[vl, vu, .none] } }
  exact tail_any (ops := [.ref s3.heap.objs.size, v]) ht hT hg (by with_unfolding_all rfl)
def cutV (xs : List V) (lo hi : Option Int) : List V := (xs.drop (HT.sIx xs.length 0 lo)).take (HT.sIx xs.length xs.length hi - HT.sIx xs.length 0 lo)
theorem cutV_length (xs : List V) (lo hi : Option Int) : (cutV xs lo hi).length ≤ xs.length := by
  unfold cutV
  rw [List.length_take, List.length_drop]
  omega
def rSlT (K : PySem.W.Frag) : V → Option Int → Option Int → Hp → VK → Prop := fun x lo hi H Q => ∃ a xs, x = .ref a ∧ SqT K H a xs ∧
  ¬ (HT.sIx xs.length 0 lo = 0 ∧ HT.sIx xs.length xs.length hi = xs.length) ∧ ∀ p, H p = none → Q (.ref p) (upd H p (.tup (cutV xs lo hi)))
theorem sl_tup : SlR X (rSlT X.K) := by
  intro pins s σ H x v vl vu lo hi sl Q I rx hs pl pu h
  obtain ⟨a, xs, rfl, hx, hw, q⟩ := h
  cases rx
  obtain ⟨its, r, ht, hz⟩ := I.tuple hx
  have hlen : its.toArray.size = xs.length := by rw [List.size_toArray]; exact r.length.symm
  refine ⟨"tuple", _, PyProof.Rows.slot_tuple_getitem.lookup, ht.typeIs, ?_⟩
  refine HT.getItem_tuple_cut ht hs pl pu (by rw [hlen]; exact hw) ?_ (by rw [hlen]; exact hz)
  rw [hlen]
  refine ⟨.ref s.heap.objs.size, _, I.laid (t' := s.toks) (o := .tup (cutV xs lo hi)) (fun b ob q => Heap.get?_push_of_some _ q) (Nat.le_refl _) ?_, rfl, q _ (I.hok.fresh (Nat.le_refl _))⟩
  exact ⟨Nat.le_trans (cutV_length xs lo hi) hz, _, (r.drop (HT.sIx xs.length 0 lo)).take (HT.sIx xs.length xs.length hi - HT.sIx xs.length 0 lo), IsTup.new _ _⟩
def rCatT (K : PySem.W.Frag) : R2 := fun x y H Q => ∃ a b xs ys, x = .ref a ∧ y = .ref b ∧ SqT K H a xs ∧ SqT K H b ys ∧ xs ≠ [] ∧ xs.length + ys.length ≤ sizeLine ∧
  (ys = [] → Q (.ref a) H) ∧ (ys ≠ [] → ∀ p, H p = none → Q (.ref p) (upd H p (.tup (xs ++ ys))))
theorem Vals.nil_iff {xs : List V} {us : List Value} (r : Vals xs us) : us = [] ↔ xs = [] := by
  cases r with
  | nil => simp
  | cons _ _ => simp
theorem op_catT : OpR X (binaryOp .Add) (rCatT X.K) := by
  intro pins s σ H x y v u Q I rx ry h
  obtain ⟨a, b, xs, ys, rfl, rfl, ha, hb, hx, hz, q1, q2⟩ := h
  cases rx
  cases ry
  obtain ⟨its, r1, p1, _⟩ := I.tuple ha
  obtain ⟨its2, r2, p2, _⟩ := I.tuple hb
  refine HT.cat_tup p1 p2 (fun z => hx (r1.nil_iff.mp z)) (fun z => ⟨.ref a, H, I, rfl, q1 (r2.nil_iff.mp z)⟩) (fun z => ?_) (by rw [← r1.length, ← r2.length]; exact hz)
  refine ⟨.ref s.heap.objs.size, _, I.laid (t' := s.toks) (o := .tup (xs ++ ys)) (fun b ob q => Heap.get?_push_of_some _ q) (Nat.le_refl _) ?_, rfl, q2 (fun w => z (r2.nil_iff.mpr w)) _ (I.hok.fresh (Nat.le_refl _))⟩
  exact ⟨by rw [List.length_append]; exact hz, _, r1.append r2, IsTup.new _ _⟩
end
end L2
namespace L2
open PySem PySem.Spec PyProof.Rows
def ixN (n : Nat) (i : Int) : Option Nat := if 0 ≤ i then (if i < n then some i.toNat else none) else if -(n : Int) ≤ i then some (i + n).toNat else none
def atI {α : Type} (xs : List α) (i : Int) : Option α := (ixN xs.length i).bind fun j => xs[j]?
theorem ixN_seq {n : Nat} {i : Int} {j : Nat} (h : ixN n i = some j) : seqIndex? i n = some j ∧ j < n ∧ -(n : Int) ≤ i ∧ i < n := by
  unfold ixN at h
  by_cases h0 : 0 ≤ i
  · rw [if_pos h0] at h
    by_cases h1 : i < n
    · rw [if_pos h1] at h
      have e : i.toNat = j := Option.some.inj h
      exact ⟨by rw [seqIndex_of h0 h1, e], by omega, by omega, h1⟩
    · rw [if_neg h1] at h; cases h
  · rw [if_neg h0] at h
    by_cases h1 : -(n : Int) ≤ i
    · rw [if_pos h1] at h
      have e : (i + n).toNat = j := Option.some.inj h
      exact ⟨by rw [seqIndex_neg (by omega) h1, e], by omega, h1, by omega⟩
    · rw [if_neg h1] at h; cases h
theorem atI_get {α : Type} {xs : List α} {i : Int} {v : α} (h : atI xs i = some v) : ∃ j, seqIndex? i xs.length = some j ∧ xs[j]? = some v ∧ j < xs.length ∧ -(xs.length : Int) ≤ i ∧ i < xs.length := by
  unfold atI at h
  cases e : ixN xs.length i with
  | none => rw [e] at h; cases h
  | some j =>
    rw [e] at h
    obtain ⟨h1, h2, h3, h4⟩ := ixN_seq e
    exact ⟨j, h1, h, h2, h3, h4⟩
theorem atI_nat {α : Type} {xs : List α} {j : Nat} {v : α} (h : xs[j]? = some v) : atI xs (j : Int) = some v := by
  have hj : j < xs.length := (List.getElem?_eq_some_iff.mp h).1
  have e : ixN xs.length (j : Int) = some j := by
    unfold ixN
    rw [if_pos (by omega), if_pos (by omega)]; simp
  unfold atI; rw [e]; exact h
def PlainIx (b : Expr) : Prop := ∀ o i, subscripted b false o i = operate [o, i] (getItem o i)
def IxR (X : Cx) (r : R2) : Prop :=
  ∀ (value slice : Expr) (pins : List (Addr × Obj)) (s : Shared) (σ : St) (H : Hp) (x y : V) (v u : Value) (Q : VK), Inv X pins σ H s → RelV x v → RelV y u → r x y H Q →
    subscripted slice false v u = operate [v, u] (getItem v u) → wpAny (model X.prog X.w) X.A (subscriptTail value slice v u) (EP X pins σ Q) X.xe s
def MtR (X : Cx) (id : String) (r : V → List V → Hp → VK → Prop) : Prop :=
  ∀ (pins : List (Addr × Obj)) (s : Shared) (σ : St) (H : Hp) (x : V) (xs : List V) (v : Value) (us : List Value) (Q : VK), Inv X pins σ H s → RelV x v → Vals xs us → r x xs H Q →
    wpAny (model X.prog X.w) X.A (call (.builtin id) (v :: us)) (EP X pins σ Q) X.xe s
section
variable {X : Cx} {a b : Expr} {ta tb : TE} {pos : Pos}
theorem IxR.or {r r' : R2} (h : IxR X r) (h' : IxR X r') : IxR X (fun x y H Q => r x y H Q ∨ r' x y H Q) := by
  intro value slice pins s σ H x y v u Q I rx ry q hs
  rcases q with q | q
  · exact h value slice pins s σ H x y v u Q I rx ry q hs
  · exact h' value slice pins s σ H x y v u Q I rx ry q hs
theorem pe_ix {r : R2} (hr : IxR X r) (ha : PE X a ta) (hb : PE X b tb) (hs : PlainIx b) : PE X (.Subscript a b pos) (tOp r ta tb) := by
  intro pins s σ H Q I h
  exact Subscript_ (binT ha hb I h fun v u s2 x y H2 I2 rx ry q => hr a b pins s2 σ H2 x y v u Q I2 rx ry q (hs _ _))
def rIxL (K : PySem.W.Frag) : R2 := fun x y H Q => ∃ p xs i v, x = .ref p ∧ y = .int i ∧ SqL K H p xs ∧ atI xs i = some v ∧ Q v H
def rIxT (K : PySem.W.Frag) : R2 := fun x y H Q => ∃ p xs i v, x = .ref p ∧ y = .int i ∧ SqT K H p xs ∧ atI xs i = some v ∧ Q v H
def rIxS : R2 := fun x y H Q => ∃ z i c, x = .str z ∧ y = .int i ∧ z.length ≤ sizeLine ∧ atI z.cps.toList i = some c ∧ Q (.str ⟨#[c]⟩) H
theorem ix_list : IxR X (rIxL X.K) := by
  intro value slice pins s σ H x y v u Q I rx ry h hs
  obtain ⟨p, xs, i, z, rfl, rfl, hq, he, q⟩ := h
  cases rx
  obtain ⟨t, rfl⟩ := ry
  obtain ⟨its, r, pl, hz⟩ := I.list hq
  obtain ⟨j, h1, h2, h3, h4, h5⟩ := atI_get he
  obtain ⟨w, ew, rw'⟩ := r.get h2
  have hl := r.length
  have hn := line63
  have fin : EP X pins σ Q w s := ⟨z, H, I, rw', q⟩
  by_cases h0 : 0 ≤ i
  · have hj : i.toNat = j := by
      rw [seqIndex_of h0 h5] at h1
      exact Option.some.inj h1
    exact item_listR pl.isList h0 (by omega) (by rw [hj]; simpa using ew) fin hs
  · have hj : (i + (its.toArray.size : Int)).toNat = j := by
      rw [seqIndex_neg (by omega) h4] at h1
      rw [List.size_toArray, ← hl]
      exact Option.some.inj h1
    exact subscriptTail_builtinR (x := w) pl.isList.typeIs slot_list_getitem.lookup
      (wpAny_getItem_list_neg (Q := fun r s' => r = w ∧ EP X pins σ Q r s') pl.isList (by omega) (by rw [List.size_toArray] <;> omega) (by omega) (by rw [hj]; simpa using ew) ⟨rfl, fin⟩) hs
theorem ix_tup : IxR X (rIxT X.K) := by
  intro value slice pins s σ H x y v u Q I rx ry h hs
  obtain ⟨p, xs, i, z, rfl, rfl, hq, he, q⟩ := h
  cases rx
  obtain ⟨t, rfl⟩ := ry
  obtain ⟨its, r, pl, hz⟩ := I.tuple hq
  obtain ⟨j, h1, h2, h3, h4, h5⟩ := atI_get he
  obtain ⟨w, ew, rw'⟩ := r.get h2
  have hl := r.length
  have hn := line63
  have fin : EP X pins σ Q w s := ⟨z, H, I, rw', q⟩
  exact subscriptTail_builtinR (x := w) pl.typeIs slot_tuple_getitem.lookup
    (getItem_tuple (j := j) (Q := fun r s' => r = w ∧ EP X pins σ Q r s') pl (by omega) (by omega) (by rw [List.size_toArray, ← hl]; exact h1) (by simpa using ew) ⟨rfl, fin⟩) hs
theorem ix_str : IxR X rIxS := by
  intro value slice pins s σ H x y v u Q I rx ry h hs
  obtain ⟨z, i, c, rfl, rfl, hz, he, q⟩ := h
  obtain ⟨t, rfl⟩ := rx
  obtain ⟨t', rfl⟩ := ry
  obtain ⟨j, h1, h2, h3, h4, h5⟩ := atI_get he
  have hl : z.cps.toList.length = z.length := by simp [Str.length]
  rw [hl] at h1 h4 h5
  have hn := line63
  exact tail_any (typeIs_str s z t) slot_str_getitem.lookup (getItem_str (c := c) (by
    have e1 : decide (i < -(2 ^ 63 : Int)) = false := decide_eq_false (by omega)
    have e2 : decide (i ≥ 2 ^ 63) = false := decide_eq_false (by omega)
    rw [e1, e2, Bool.or_false]) (by rw [h1]; simpa using h2) ⟨.str ⟨#[c]⟩, H, I.tok _, ⟨_, rfl⟩, q⟩) hs
theorem mapSeq_set (its : List Value) (n j : Nat) (u : Value) : Obj.mapSeq (·.setIfInBounds j u) { cls := .type "list", data := .seq its.toArray n } = { cls := .type "list", data := .seq (its.set j u).toArray n } := by
  simp [Obj.mapSeq]
theorem Inv.lst {pins : List (Addr × Obj)} {σ : St} {H : Hp} {s : Shared} {p : Addr} {xs : List V} (I : Inv X pins σ H s) (h : H p = some (.lst xs)) :
    ∃ (its : List Value) (n : Nat), Vals xs its ∧ s.heap.get? p = some { cls := .type "list", data := .seq its.toArray n } ∧ xs.length ≤ sizeLine := by
  obtain ⟨z, its, n, r, e⟩ := I.hok p _ h
  exact ⟨its, n, r, e, z⟩
theorem Inv.lstUpd {pins : List (Addr × Obj)} {σ : St} {H : Hp} {s : Shared} {p : Addr} {xs ys : List V} {its its' : List Value} {n n' : Nat} {f : Obj → Obj} (I : Inv X pins σ H s) (h : H p = some (.lst xs))
    (ho : s.heap.get? p = some { cls := .type "list", data := .seq its.toArray n }) (hf : f { cls := .type "list", data := .seq its.toArray n } = { cls := .type "list", data := .seq its'.toArray n' }) (r : Vals ys its') (hz : ys.length ≤ sizeLine) (t : Nat) :
    Inv X pins σ (upd H p (.lst ys)) { s with heap := s.heap.update p f, toks := t } := by
  have e : (s.heap.update p f).get? p = some { cls := .type "list", data := .seq its'.toArray n' } := by
    rw [Heap.get?_update_self f ho (by rw [hf] <;> rfl), hf]
  refine I.write (x := p) (e := p) (by rw [h]; trivial) (.inl rfl) (fun b u hb q => (Heap.get?_update_other _ _ (Ne.symm hb)).trans q) ⟨_, e⟩ ?_
  exact ⟨hz, its', n', r, e⟩
def rSetL : V → V → V → Hp → (Hp → Prop) → Prop := fun o i v H Q => ∃ p xs k j, o = .ref p ∧ i = .int k ∧ H p = some (.lst xs) ∧ ixN xs.length k = some j ∧ Q (upd H p (.lst (xs.set j v)))
theorem set_list : PSet X rSetL := by
  intro pins s σ H o i v ov iv u Q I ro ri rv h
  obtain ⟨p, xs, k, j, rfl, rfl, hp, hj, q⟩ := h
  cases ro
  obtain ⟨t, rfl⟩ := ri
  obtain ⟨its, n, r, ho, hz⟩ := I.lst hp
  obtain ⟨h1, h2, h3, h4⟩ := ixN_seq hj
  have hl := r.length
  have hn := line63
  have I' : Inv X pins σ (upd H p (.lst (xs.set j v))) { s with heap := s.heap.update p (Obj.mapSeq (·.setIfInBounds j u)) } :=
    I.lstUpd hp ho (mapSeq_set its n j u) (r.set rv j) (by rw [List.length_set]; exact hz) s.toks
  by_cases h0 : 0 ≤ k
  · have hk : k.toNat = j := by
      rw [seqIndex_of h0 h4] at h1
      exact Option.some.inj h1
    exact PySem.W.ki_setAt ho h0 (by omega) (by rw [List.size_toArray, ← hl]; exact h4) (by rw [hk]; exact ⟨_, I', q⟩)
  · have hk : (k + (its.toArray.size : Int)).toNat = j := by
      rw [seqIndex_neg (by omega) h3] at h1
      rw [List.size_toArray, ← hl]
      exact Option.some.inj h1
    exact PySem.W.ki_setBack ho (by omega) (by rw [List.size_toArray, ← hl]; exact h3) (by omega) (by rw [hk]; exact ⟨_, I', q⟩)
theorem slice_bounds (lo hi : Option Int) (n : Nat) : (sliceBounds lo hi none n).1 = ((HT.sIx n 0 lo : Nat) : Int) ∧ (sliceBounds lo hi none n).2.1 = ((HT.sIx n n hi : Nat) : Int) ∧ (sliceBounds lo hi none n).2.2 = 1 := by
  refine ⟨?_, ?_, rfl⟩
  · cases lo with
    | none => simp [sliceBounds, HT.sIx]
    | some i =>
      simp only [sliceBounds, HT.sIx, Option.getD_none, show (1 : Int) > 0 by decide, if_true]
      by_cases h : i < 0
      · simp only [h, if_true] <;> omega
      · simp only [h, if_false] <;> omega
  · cases hi with
    | none => simp [sliceBounds, HT.sIx]
    | some i =>
      simp only [sliceBounds, HT.sIx, Option.getD_none, show (1 : Int) > 0 by decide, if_true]
      by_cases h : i < 0
      · simp only [h, if_true] <;> omega
      · simp only [h, if_false] <;> omega
theorem slicePick_cut (its : List Value) (lo hi : Option Int) : slicePick its.toArray lo hi none = ((its.drop (HT.sIx its.length 0 lo)).take (HT.sIx its.length its.length hi - HT.sIx its.length 0 lo)).toArray := by
  obtain ⟨h1, h2, h3⟩ := slice_bounds lo hi its.toArray.size
  unfold slicePick
  rw [h1, h2, h3]
  simp only [sliceRange_one, pick_run, List.size_toArray] <;> rfl
def rSlL (K : PySem.W.Frag) : V → Option Int → Option Int → Hp → VK → Prop := fun x lo hi H Q => ∃ a xs, x = .ref a ∧ SqL K H a xs ∧ ∀ p, H p = none → Q (.ref p) (upd H p (.lst (cutV xs lo hi)))
theorem sl_list : SlR X (rSlL X.K) := by
  intro pins s σ H x v vl vu lo hi sl Q I rx hs pl pu h
  obtain ⟨a, xs, rfl, hx, q⟩ := h
  cases rx
  obtain ⟨its, r, ht, hz⟩ := I.list hx
  have hlen := r.length
  refine ⟨"list", _, slot_list_getitem.lookup, ht.isList.typeIs, ?_⟩
  refine wpAny_getItem_list_slice ht.isList hs pl pu .none (by simp) ?_ (by rw [List.size_toArray] <;> omega)
  rw [slicePick_cut, ← hlen]
  refine ⟨.ref s.heap.objs.size, _, I.laid (t' := s.toks) (o := .lst (cutV xs lo hi)) (fun b ob q => Heap.get?_push_of_some _ q) (Nat.le_refl _) ?_, rfl, q _ (I.hok.fresh (Nat.le_refl _))⟩
  exact ⟨Nat.le_trans (cutV_length xs lo hi) hz, _, 0, (r.drop (HT.sIx xs.length 0 lo)).take (HT.sIx xs.length xs.length hi - HT.sIx xs.length 0 lo), Heap.get?_push_size _ rfl⟩
def flatV : V → Bool
  | .non => true
  | .bl _ => true
  | .int _ => true
  | .str _ => true
  | _ => false
def eqV : V → V → Bool
  | .non, .non => true
  | .bl a, .bl b => a == b
  | .bl a, .int b => (if a then 1 else 0) == b
  | .int a, .bl b => a == (if b then 1 else 0)
  | .int a, .int b => a == b
  | .str a, .str b => a == b
  | _, _ => false
theorem eqAt_V {A : Around} {s : Shared} {y x : V} {u v : Value} (ry : RelV y u) (rx : RelV x v) (fy : flatV y = true) (fx : flatV x = true) : SeqAt.EqAt A s u v (eqV y x) := by
  cases y with
  | non =>
    cases ry
    cases x with
    | non => cases rx; exact SeqAt.EqAt.same _
    | bl b => cases rx; exact SeqAt.EqAt.none_bool b
    | int b => obtain ⟨t, rfl⟩ := rx; exact SeqAt.EqAt.none_int b t
    | str b => obtain ⟨t, rfl⟩ := rx; exact SeqAt.EqAt.none_str b t
    | _ => exact absurd (show false = true from fx) Bool.false_ne_true
  | bl a =>
    cases ry
    cases x with
    | non => cases rx; exact SeqAt.EqAt.bool_none a
    | bl b => cases rx; exact SeqAt.EqAt.bool_bool a b
    | int b => obtain ⟨t, rfl⟩ := rx; exact SeqAt.EqAt.bool_int a b t
    | str b => obtain ⟨t, rfl⟩ := rx; exact SeqAt.EqAt.bool_str a b t
    | _ => exact absurd (show false = true from fx) Bool.false_ne_true
  | int a =>
    obtain ⟨t', rfl⟩ := ry
    cases x with
    | non => cases rx; exact SeqAt.EqAt.int_none a t'
    | bl b => cases rx; exact SeqAt.EqAt.int_bool a t' b
    | int b => obtain ⟨t, rfl⟩ := rx; exact SeqAt.EqAt.int_int a t' b t
    | str b => obtain ⟨t, rfl⟩ := rx; exact SeqAt.EqAt.int_str a t' b t
    | _ => exact absurd (show false = true from fx) Bool.false_ne_true
  | str a =>
    obtain ⟨t', rfl⟩ := ry
    cases x with
    | non => cases rx; exact SeqAt.EqAt.str_none a t'
    | bl b => cases rx; exact SeqAt.EqAt.str_bool a t' b
    | int b => obtain ⟨t, rfl⟩ := rx; exact SeqAt.EqAt.str_int a t' b t
    | str b => obtain ⟨t, rfl⟩ := rx; exact SeqAt.EqAt.str_str a t' b t
    | _ => exact absurd (show false = true from fx) Bool.false_ne_true
  | _ => exact absurd (show false = true from fy) Bool.false_ne_true
def eqU (x : V) (u : Value) : Bool := match u with
  | .none => eqV .non x
  | .bool b => eqV (.bl b) x
  | .int i _ => eqV (.int i) x
  | .str z _ => eqV (.str z) x
  | _ => false
theorem eqU_of {x y : V} {u : Value} (r : RelV y u) (f : flatV y = true) : eqU x u = eqV y x := by
  cases y with
  | non => cases r; rfl
  | bl b => cases r; rfl
  | int i => obtain ⟨t, rfl⟩ := r; rfl
  | str z => obtain ⟨t, rfl⟩ := r; rfl
  | _ => exact absurd (show false = true from f) Bool.false_ne_true
theorem any_eqU {x : V} : ∀ {xs : List V} {us : List Value}, Vals xs us → xs.all flatV = true → us.any (eqU x) = xs.any fun y => eqV y x
  | _, _, .nil, _ => rfl
  | y :: xs, u :: us, .cons r t, f => by
    rw [List.all_cons, Bool.and_eq_true] at f
    rw [List.any_cons, List.any_cons, eqU_of r f.1, any_eqU t f.2]
theorem mem_eqAt {A : Around} {s : Shared} {x : V} {v : Value} (rx : RelV x v) (fx : flatV x = true) : ∀ {xs : List V} {us : List Value}, Vals xs us → xs.all flatV = true → ∀ u ∈ us, SeqAt.EqAt A s u v (eqU x u)
  | _, _, .nil, _ => fun u hu => by cases hu
  | y :: xs, u :: us, .cons r t, f => fun u' hu => by
    rw [List.all_cons, Bool.and_eq_true] at f
    rcases List.mem_cons.mp hu with rfl | hu
    · rw [eqU_of r f.1]; exact eqAt_V r rx f.1 fx
    · exact mem_eqAt rx fx t f.2 u' hu
def inV (x : V) (xs : List V) : Bool := xs.any fun y => eqV y x
def rIn (K : PySem.W.Frag) (neg : Bool) : R2 := fun x y H Q => ∃ p xs, y = .ref p ∧ (SqL K H p xs ∨ SqT K H p xs) ∧ flatV x = true ∧ xs.all flatV = true ∧ Q (.bl (if neg then !inV x xs else inV x xs)) H
theorem op_notIn_seq : OpR X (compareOp .NotIn) (rIn X.K true) := by
  intro pins s σ H x y v u Q I rx ry h
  obtain ⟨p, xs, rfl, hq, fx, fs, q⟩ := h
  cases ry
  rcases hq with hq | hq
  · obtain ⟨its, r, pl, hz⟩ := I.list hq
    refine SeqAt.notIn_listAt (eqU x) pl.isList (fun w hw => mem_eqAt rx fx r fs w (by simpa using hw)) ⟨.bl _, H, I, rfl, ?_⟩
    rw [show its.toArray.any (eqU x) = its.any (eqU x) by simp, any_eqU r fs]
    exact q
  · obtain ⟨its, r, pl, hz⟩ := I.tuple hq
    refine SeqAt.notIn_tupleAt (eqU x) pl (fun w hw => mem_eqAt rx fx r fs w (by simpa using hw)) ⟨.bl _, H, I, rfl, ?_⟩
    rw [show its.toArray.any (eqU x) = its.any (eqU x) by simp, any_eqU r fs]
    exact q
theorem call_len_seq : CallR X (.builtin "len") (fun xs H Q => ∃ p ys, xs = [.ref p] ∧ (SqL X.K H p ys ∨ SqT X.K H p ys) ∧ Q (.int ys.length) H) := by
  intro pins s σ H xs us Q I r h
  obtain ⟨p, ys, rfl, hq, q⟩ := h
  obtain ⟨u, rfl, rx⟩ := vals1 r
  cases rx
  have hn := line63
  rcases hq with hq | hq
  · obtain ⟨its, r', pl, hz⟩ := I.list hq
    have hlen := r'.length
    exact Calls.call_len_list pl.isList (by simp only [List.size_toArray] <;> omega) ⟨.int ys.length, H, I.tok _, ⟨s.toks + 1, by rw [List.size_toArray, hlen]⟩, q⟩
  · obtain ⟨its, r', pl, hz⟩ := I.tuple hq
    have hlen := r'.length
    exact len_tuple pl (by simp only [List.size_toArray] <;> omega) ⟨.int ys.length, H, I.tok _, ⟨s.toks + 1, by rw [List.size_toArray, hlen]⟩, q⟩
theorem call_len_str : CallR X (.builtin "len") (fun xs H Q => ∃ z, xs = [.str z] ∧ z.length ≤ sizeLine ∧ Q (.int z.length) H) := by
  intro pins s σ H xs us Q I r h
  obtain ⟨z, rfl, hz, q⟩ := h
  obtain ⟨u, rfl, t, rfl⟩ := vals1 r
  have hn := line63
  exact len_str (by omega) ⟨.int z.length, H, I.tok _, ⟨_, rfl⟩, q⟩
theorem CallR.or {f : Value} {r r' : List V → Hp → VK → Prop} (h : CallR X f r) (h' : CallR X f r') : CallR X f (fun xs H Q => r xs H Q ∨ r' xs H Q) := by
  intro pins s σ H xs us Q I rs q
  rcases q with q | q
  · exact h pins s σ H xs us Q I rs q
  · exact h' pins s σ H xs us Q I rs q
theorem call_list_of : CallR X (.type "list") (fun xs H Q => ∃ p ys, xs = [.ref p] ∧ (SqL X.K H p ys ∨ SqT X.K H p ys) ∧ ∀ l, H l = none → Q (.ref l) (upd H l (.lst ys))) := by
  intro pins s σ H xs us Q I r h
  obtain ⟨p, ys, rfl, hq, q⟩ := h
  obtain ⟨u, rfl, rx⟩ := vals1 r
  cases rx
  have fin : ∀ (its : List Value), Vals ys its → ys.length ≤ sizeLine → ∀ (h' : Heap) (c' : Nat), (∀ b o', s.heap.get? b = some o' → h'.get? b = some o') →
      h'.get? s.heap.objs.size = some { cls := .type "list", dict := none, data := .seq its.toArray c', slots := #[] } → EP X pins σ Q (.ref s.heap.objs.size) { s with heap := h' } := fun its r' hz h' c' kp e =>
    ⟨.ref s.heap.objs.size, _, I.laid (t' := s.toks) kp (Nat.le_refl _) (show ObjOk X.prog X.w _ h' _ (.lst ys) from ⟨hz, its, c', r', e⟩), rfl, q _ (I.hok.fresh (Nat.le_refl _))⟩
  rcases hq with hq | hq
  · obtain ⟨its, r', pl, hz⟩ := I.list hq
    have hlen := r'.length
    obtain ⟨o, ho, hc, n, hd⟩ := pl.isList
    exact call_list_seq p (.inl rfl) ho hc hd (fun h' c' kp e => fin its r' hz h' c' kp e) (by simp only [List.size_toArray] <;> omega)
  · obtain ⟨its, r', pl, hz⟩ := I.tuple hq
    have hlen := r'.length
    obtain ⟨o, ho, hc, n, hd⟩ := pl
    exact call_list_seq p (.inr rfl) ho hc hd (fun h' c' kp e => fin its r' hz h' c' kp e) (by simp only [List.size_toArray] <;> omega)
theorem call_tuple_of : CallR X (.type "tuple") (fun xs H Q => ∃ p ys, xs = [.ref p] ∧ ((SqL X.K H p ys ∧ ∀ l, H l = none → Q (.ref l) (upd H l (.tup ys))) ∨ (SqT X.K H p ys ∧ Q (.ref p) H))) := by
  intro pins s σ H xs us Q I r h
  obtain ⟨p, ys, rfl, h⟩ := h
  obtain ⟨u, rfl, rx⟩ := vals1 r
  cases rx
  rcases h with ⟨hq, q⟩ | ⟨hq, q⟩
  · obtain ⟨its, r', pl, hz⟩ := I.list hq
    have hlen := r'.length
    refine call_tuple_list pl.isList (fun h' kp => ?_) (by simp only [List.size_toArray] <;> omega)
    have I1 : Inv X pins σ H { s with heap := h' } := I.kept (t' := s.toks) kp
    have I2 : Inv X pins σ (upd H h'.objs.size (.tup ys)) { s with heap := h'.push { cls := .type "tuple", data := .seq its.toArray } } :=
      I1.laid (t' := s.toks) (fun b o e => Heap.get?_push_of_some _ e) (Nat.le_refl _) (show ObjOk X.prog X.w _ _ _ (.tup ys) from ⟨hz, its, r', IsTup.new _ _⟩)
    exact ⟨.ref h'.objs.size, _, I2, rfl, q _ (I1.hok.fresh (Nat.le_refl _))⟩
  · obtain ⟨its, r', pl, hz⟩ := I.tuple hq
    exact call_tuple_same pl ⟨.ref p, H, I, rfl, q⟩
def tyV (K : PySem.W.Frag) (T : String) (x : V) (H : Hp) : Prop := match x with
  | .str _ => T = "str"
  | .int _ => T = "int"
  | .ref p => (T = "list" ∧ ∃ xs, SqL K H p xs) ∨ (T = "tuple" ∧ ∃ o, K.lookup p = some o ∧ o.cls = .type "tuple" ∧ o.dict = none) ∨
      (T = "dict" ∧ ((∃ kvs, H p = some (.dK kvs)) ∨ ∃ kvs, H p = some (.dT kvs))) ∨ (T = "set" ∧ ∃ S n, H p = some (.set S n))
  | _ => False
theorem tyV_is {pins : List (Addr × Obj)} {σ : St} {H : Hp} {s : Shared} {T : String} {x : V} {v : Value} (I : Inv X pins σ H s) (r : RelV x v) (ty : tyV X.K T x H) :
    s.TypeIs v T ∧ ∀ a, v = .ref a → ∃ ob, s.heap.get? a = some ob ∧ ob.dict = none := by
  cases x with
  | str z =>
    obtain ⟨t, rfl⟩ := r
    cases (show T = "str" from ty)
    exact ⟨typeIs_str s z t, fun _ e => nomatch e⟩
  | int i =>
    obtain ⟨t, rfl⟩ := r
    cases (show T = "int" from ty)
    exact ⟨typeIs_int s i t, fun _ e => nomatch e⟩
  | ref p =>
    cases r
    rcases ty with ⟨rfl, xs, hq⟩ | ⟨rfl, o, hk, hc, hd⟩ | ⟨rfl, hk⟩ | ⟨rfl, S, n, hk⟩
    · obtain ⟨its, _, pl, _⟩ := I.list hq
      refine ⟨pl.isList.typeIs, fun a e => ?_⟩
      cases e
      obtain ⟨o, n, e, c, hd, _⟩ := pl
      exact ⟨o, e, hd⟩
    · refine ⟨⟨o, I.kIn p o hk, hc⟩, fun a e => ?_⟩
      cases e
      exact ⟨o, I.kIn _ o hk, hd⟩
    · have z : ∃ o, s.heap.get? p = some o ∧ o.ExactDict := by
        rcases hk with ⟨kvs, hk⟩ | ⟨kvs, hk⟩
        · obtain ⟨_, _, _, _, o, _, _, e, ex, _⟩ := I.hok p _ hk
          exact ⟨o, e, ex⟩
        · obtain ⟨_, _, _, _, o, _, _, e, ex, _⟩ := I.hok p _ hk
          exact ⟨o, e, ex⟩
      obtain ⟨o, e, ex⟩ := z
      refine ⟨⟨o, e, ex.1⟩, fun a e2 => ?_⟩
      cases e2
      exact ⟨o, e, ex.2.1⟩
    · obtain ⟨o, _, _, _, e, ex, _⟩ := I.hok p _ hk
      refine ⟨⟨o, e, ex.1⟩, fun a e2 => ?_⟩
      cases e2
      exact ⟨o, e, ex.2.1⟩
  | _ => exact False.elim ty
def tBM (K : PySem.W.Frag) (T : String) (r : V → List V → Hp → VK → Prop) (to : TE) (t : TA) : TE := fun σ H Q => to σ H fun x H1 => tyV K T x H1 ∧ t σ H1 fun xs H2 => r x xs H2 Q
variable {o e : Expr} {es : List Expr} {to : TE} {t : TA} {name : Str} {apos cpos : Pos} {T id : String} {r : V → List V → Hp → VK → Prop}
theorem pe_bm (pa : PlainAttrs T) (slot : Slot T name id) (hty : typeOf (.builtin id) = pure (.type "method_descriptor")) (hm : MtR X id r) (ho : PE X o to) (ha : PA X (e :: es) t)
    (hbase : attributeBase o name X.env (eval o X.env) = eval o X.env := by rfl)
    (hfew : ((backTo cpos (starEach (e :: es) X.env)).all (fun x => !x.1) && (backToKw cpos (keywordEach [] X.env)).all (fun x => x.1.isSome)
      && decide ((e :: es).length + ([] : List Keyword).length + (if ([] : List Keyword).isEmpty then 0 else 1) < 30)) = true := by rfl)
    (hline : (apos.endLine == cpos.line) = true := by rfl) (hs : starEach (e :: es) X.env = (false, eval e X.env) :: starEach es X.env := by rfl) (hplain : (backTo cpos (starEach es X.env)).any (·.1) = false := by rfl) :
    PE X (.Call (.Attribute o name apos) (e :: es) [] cpos) (tBM X.K T r to t) := by
  intro pins s σ H Q I h
  refine wpAny_Call_method_late hbase hfew hline rfl (thn (ho pins s σ H _ I h) fun v s1 ⟨x, H1, I1, r1, ty, q1⟩ => ?_)
  obtain ⟨h1, h2⟩ := tyV_is I1 r1 ty
  refine ⟨T, id, pa, slot, hty, h1, h2, ?_⟩
  have hA := ha cpos pins s1 σ H1 _ I1 q1
  rw [hs] at hA ⊢
  refine Calls.callWith_builtin (by show (false || (backTo cpos (starEach es X.env)).any (·.1)) = false; rw [hplain] <;> rfl) (Calls.evalArgs_plain ?_)
  exact thn hA fun us s2 ⟨vs, H2, I2, r2, q2⟩ => hm pins s2 σ H2 x vs v us Q I2 r1 r2 q2
end
end L2
namespace L2
open PySem PySem.Spec PyProof.Rows
def MtM (X : Cx) (id : String) (r : V → List V → Hp → VK → Prop) : Prop :=
  ∀ (pins : List (Addr × Obj)) (s : Shared) (σ : St) (H : Hp) (x : V) (xs : List V) (v : Value) (us : List Value) (Q : VK), Inv X pins σ H s → RelV x v → Vals xs us → r x xs H Q →
    wpAny (model X.prog X.w) X.A (call (.builtin id) (v :: us)) (EP X pins σ Q) X.xe s
theorem Vals.one : ∀ {x : V} {us : List Value}, Vals [x] us → ∃ u, us = [u] ∧ RelV x u
  | _, _, .cons r .nil => ⟨_, rfl, r⟩
theorem Vals.rep {xs : List V} {us : List Value} (h : Vals xs us) : ∀ k : Nat, Vals (List.replicate k xs).flatten (List.replicate k us).flatten
  | 0 => .nil
  | k + 1 => by
    rw [List.replicate_succ, List.replicate_succ, List.flatten_cons, List.flatten_cons]
    exact Vals.append h (Vals.rep h k)
theorem foldl_rep (its : List Value) : ∀ (k : Nat) (acc : List Value),
    List.foldl (fun x1 x2 => x1 ++ x2) acc.toArray (List.replicate k its.toArray) = (acc ++ (List.replicate k its).flatten).toArray
  | 0, acc => by simp
  | k + 1, acc => by
    have e : acc.toArray ++ its.toArray = (acc ++ its).toArray := by simp
    have e2 : (acc ++ its) ++ (List.replicate k its).flatten = acc ++ (List.replicate (k + 1) its).flatten := by
      rw [List.replicate_succ, List.flatten_cons, List.append_assoc]
    rw [← e2, ← foldl_rep its k (acc ++ its), ← e, List.replicate_succ, List.foldl_cons]
section
variable {X : Cx} {pins : List (Addr × Obj)} {σ : St} {H : Hp} {s : Shared} {l b : Addr} {xs ys zs : List V}
theorem Inv.lset {its its' : List Value} {n : Nat} {f : Array Value → Array Value} {t' : Nat} (I : Inv X pins σ H s) (hH : H l = some (.lst xs))
    (e : s.heap.get? l = some { cls := .type "list", data := .seq its.toArray n }) (hf : f its.toArray = its'.toArray) (hv : Vals ys its') (hz : ys.length ≤ sizeLine) :
    Inv X pins σ (upd H l (.lst ys)) { s with heap := s.heap.update l (Obj.mapSeq f), toks := t' } := by
  have q := PySem.IsL.update e f
  rw [hf] at q
  refine I.write (x := l) (e := l) (by rw [hH]; exact trivial) (.inl rfl) (fun b' u hb hu => (Heap.get?_update_other s.heap (Obj.mapSeq f) (Ne.symm hb)).trans hu) ⟨_, q⟩ ?_
  exact ⟨hz, its', _, hv, q⟩
theorem Inv.lnew {its : List Value} {t' : Nat} (I : Inv X pins σ H s) (hv : Vals ys its) (hz : ys.length ≤ sizeLine) :
    Inv X pins σ (upd H s.heap.objs.size (.lst ys)) { s with heap := s.heap.push { cls := .type "list", data := .seq its.toArray }, toks := t' } :=
  I.laid (fun _ _ q => Heap.get?_push_of_some _ q) (Nat.le_refl _) ⟨hz, its, 0, hv, Heap.get?_push_size _ rfl⟩
theorem Inv.fresh (I : Inv X pins σ H s) : H s.heap.objs.size = none := I.hok.fresh (Nat.le_refl _)
theorem Inv.lstM (I : Inv X pins σ H s) (hH : H l = some (.lst xs)) : xs.length ≤ sizeLine ∧ ∃ (its : List Value) (n : Nat), Vals xs its ∧ xs.length = its.length ∧ s.heap.get? l = some { cls := .type "list", data := .seq its.toArray n } := by
  obtain ⟨z, its, n, r, e⟩ := I.hok l _ hH
  exact ⟨z, its, n, r, r.length, e⟩
theorem notLongL {n : Nat} (h : n ≤ sizeLine) : Builtin.List.listTooLong n = false := by
  unfold Builtin.List.listTooLong
  exact decide_eq_false (by omega)
end
section
variable {X : Cx}
def rAppend : V → List V → Hp → VK → Prop := fun x vs H Q => ∃ l xs y, x = .ref l ∧ vs = [y] ∧ H l = some (.lst xs) ∧ xs.length < sizeLine ∧ Q .non (upd H l (.lst (xs ++ [y])))
theorem mt_append : MtM X "list.append" rAppend := by
  intro pins s σ H x vs v us Q I rx rv h
  obtain ⟨l, xs, y, rfl, rfl, hH, hz, q⟩ := h
  cases rx
  obtain ⟨u, rfl, ru⟩ := rv.one
  obtain ⟨z, its, n, r, hl, e⟩ := I.lstM hH
  refine call_meets F.slot_list_append ⟨_, e, rfl⟩ F.entry_list_append (F.args_list_append_2 _ _) (PySem.list_append l its.toArray n u (by rw [List.size_toArray]; omega)) ⟨e, ?_⟩
  refine ⟨.non, _, I.lset (its' := its ++ [u]) hH e (by simp) (r.append (.cons ru .nil)) ?_, rfl, q⟩
  rw [List.length_append, List.length_singleton]
  omega
def rRep : R2 := fun x y H Q => ∃ l k xs, x = .ref l ∧ y = .int k ∧ H l = some (.lst xs) ∧ -(2 ^ 63) ≤ k ∧ k < 2 ^ 63 ∧ xs.length * k.toNat ≤ sizeLine ∧
  ∀ p, H p = none → Q (.ref p) (upd H p (.lst (List.replicate k.toNat xs).flatten))
theorem len_rep {α : Type} (xs : List α) (k : Nat) : (List.replicate k xs).flatten.length = k * xs.length := by
  induction k with
  | zero => simp
  | succ k ih => rw [List.replicate_succ, List.flatten_cons, List.length_append, ih, Nat.succ_mul, Nat.add_comm]
theorem op_rep : OpR X (binaryOp .Mult) rRep := by
  intro pins s σ H x y v u Q I rx ry h
  obtain ⟨l, k, xs, rfl, rfl, hH, h1, h2, hz, q⟩ := h
  cases rx
  obtain ⟨t, rfl⟩ := ry
  obtain ⟨z, its, n, r, hl, e⟩ := I.lstM hH
  have hlen : its.toArray.size * k.toNat ≤ sizeLine := by rw [List.size_toArray, ← hl]; exact hz
  have hcap : ¬ its.toArray.size * k.toNat > (2 ^ 63 - 1) / 8 := by
    have : (sizeLine : Nat) ≤ (2 ^ 63 - 1) / 8 := by decide
    omega
  have hfit : ¬ (!Builtin.List.listFitsIndex k) = true := by
    rw [fitsIndex_both h1 h2]
    exact Bool.false_ne_true
  have hlong : ¬ Builtin.List.listTooLong (its.toArray.size * k.toNat) = true := by
    rw [notLongL hlen]
    exact Bool.false_ne_true
  have hnew : List.foldl (fun x1 x2 => x1 ++ x2) #[] (List.replicate (if its.toArray.isEmpty = true then 0 else k.toNat) its.toArray) = (List.replicate k.toNat its).flatten.toArray := by
    have f0 : ∀ m : Nat, List.foldl (fun x1 x2 => x1 ++ x2) #[] (List.replicate m its.toArray) = (List.replicate m its).flatten.toArray := fun m => by
      have := foldl_rep its m []
      rw [List.nil_append] at this
      exact this
    rw [f0]
    cases its with
    | nil => simp
    | cons a r' => rw [if_neg (by simp)]
  refine wpAny_binaryOp_repeat_ref (T := "list") (U := "int") (by decide) ⟨_, e, rfl⟩ (fun s' => typeIs_int s' k t) noFill_list_mul F.fills_int_mul F.slot_int_rmul repeat_list F.slot_int_index.lookup
    (call_meets F.slot_int_rmul (typeIs_int s k t) F.entry_int_rmul (F.args_int_rmul_2 _ _) (int___rmul___int_list k t l its.toArray n)
      ⟨e, rfl, ⟨_, e, rfl⟩, call_meets F.slot_list_mul ⟨_, e, rfl⟩ F.entry_list_mul (F.args_list_mul_2 _ _) (AutoListH.list___mul___list_int_3 l its.toArray n k t hfit hcap hlong) ⟨e, ?_⟩⟩)
  rw [hnew]
  exact ⟨.ref _, _, I.lnew (t' := s.toks) (r.rep k.toNat) (by rw [len_rep, Nat.mul_comm]; exact hz), rfl, q _ I.fresh⟩
end
section
variable {prog : Program} {w : World} {A : Around} {E : Value → Shared → Prop} {s : Shared}
end
section
variable {X : Cx}
end
end L2
namespace Att
open PySem PySem.W PySem.Calls PyProof.Rows
theorem ints_of_wellAll {P : Params} {h : Heap} : ∀ (ns : List Int) (vs : List Value), WellAll P h vs (ns.map WData.int) → IntsAre vs ns := by
  intro ns
  induction ns with
  | nil =>
    intro vs w
    rw [List.map_nil] at w
    cases w
    exact .nil
  | cons n ns ih =>
    intro vs w
    rw [List.map_cons] at w
    cases w with
    | cons a b =>
      cases a
      exact .cons _ _ (ih _ b)
theorem script_of {l : OpenLaw} {n : Nat} (hn : l.most = some n) {P : Params} {h : Heap} {args : List WData} {vals : List Value}
    (hpre : l.row.toRowW.claim.pre args = true) (hwl : WellAll P h vals args) :
    ∃ a vs ns, vals = [Value.ref a] ∧ args = [WData.list (ns.map WData.int)] ∧ h.get? a = some { cls := .type "list", data := .seq vs.toArray } ∧ IntsAre vs ns ∧ ns.length ≤ n := by
  have hsh : WShape.hasAll [] args [.list .int] = true := (pre_splitW hpre).1
  have hc : l.pre.holds [] { args := args } = true := (pre_splitW hpre).2
  obtain ⟨d, r, rfl, h1, h2⟩ := hasAllW_cons hsh
  obtain rfl := hasAllW_nil h2
  obtain ⟨xs, rfl, h3⟩ := hasW_list h1
  obtain ⟨ns, rfl⟩ := items_int h3
  have hlen : ns.length ≤ n := by
    unfold OpenLaw.pre at hc
    have h4 : (WTm.not (.lt (.lit (.int (n : Int))) (.len (.arg 0)))).holds [] { args := [.list (ns.map .int)] } = true := by
      have h4 := (holds_andW hc).1
      rw [hn] at h4
      exact h4
    have h5 := condW_of h4 (w_not (w_lt w_lit (w_len_list (w_arg rfl))))
    rw [List.length_map] at h5
    refine Nat.le_of_not_lt fun q => ?_
    have q' : (n : Int) < ((ns.length : Nat) : Int) := by omega
    first
      | (rw [decide_eq_true q'] at h5; exact absurd h5 (by decide))
      | (simp at h5; omega)
  cases hwl with
  | cons w1 w2 =>
    cases w2
    cases w1 with
    | list ho hall => exact ⟨_, _, ns, rfl, rfl, ho, ints_of_wellAll ns _ hall, hlen⟩
theorem post_true (l : OpenLaw) (args : List WData) : l.row.toRowW.claim.post args (.bool true) args = true :=
  postW_of (r := l.row.toRowW) (X := (true == true))
    (show WShape.has [] (.bool true) .bool = true by first | rfl | decide | simp [WShape.has, WShape.arms, WShape.armsAll])
    (show (WTm.eq .res (.lit (.bool true))).value [] { args := args, res := some (.bool true), after := args } = some (.bool (true == true)) from w_eq_bool (w_res rfl) w_lit) rfl
theorem attach_call {l : OpenLaw} {n : Nat} {q : Program} {loose : List Str} {XP : (Str → Option Value) → Heap → Prop} {YP : World → Heap → Prop} {d : DefRec}
    (hn : l.most = some n) (hdf : d.params.defaults = [])
    (call : ∀ (w : World) (s₀ s₁ : Shared) (mg mb : Str → Option Value) (fa : Addr) (o : Obj) (pm cd doc : Value) (a : Addr) (vs : List Value) (ns : List Int),
      Ground q loose [] XP w s₀ mg mb s₁.heap → YP w s₁.heap →
      s₁.heap.get? fa = some o → o.data = .func (docDef d.name d.params d.body d.scope pm cd doc) → s₁.heap.CodeRec cd d.name → mg d.name = some (.ref fa) →
      s₁.heap.get? a = some { cls := .type "list", data := .seq vs.toArray } → IntsAre vs ns → ns.length ≤ n → s₁.gens = #[] →
      codeAny (model l.prog w) callerA (.call (.ref fa) ⟨[.ref a], []⟩) (fun r s' => r = .ok (.ret (.bool true)) ∧ OldK s₁.heap s'.heap ∧ s'.os = s₁.os ∧ AllBare s'.gens) s₁) :
    WalkO q loose XP YP l.row.toRowW d [] (fun f vs => PySem.call f vs) := by
  intro w s₀ s₁ mg mb G Y fa o pm cd doc dV kV ho hd hcd hD hmg hg args vals as hpre hlay hrd hwl hlo
  obtain rfl : dV = .none := Dflts.none hD hdf
  obtain rfl : kV = .none := Dflts.noKw hD
  obtain ⟨a, vs, ns, rfl, rfl, hobj, hints, hlen⟩ := script_of hn hpre hwl
  refine enter_call (codeAny_mono (call w s₀ s₁ mg mb fa o pm cd doc a vs ns G Y ho (fd_plain hd) hcd hmg hobj hints hlen hg) fun r s' hq => ?_)
  obtain ⟨rfl, h2, h3, h4⟩ := hq
  exact ⟨.inl ⟨.bool true, .bool true, [], rfl, fun _ => rfl, .bool true, post_true l _, fun _ => ⟨List.Pairwise.nil, fun _ hm => (nomatch hm)⟩⟩, h2, h3, h4⟩
section
variable {prog : Program} {w : World} {A : Around} {E : Value → Shared → Prop} {s : Shared} {K : Frag}
end
end Att
namespace L2
open PySem PySem.Spec PyProof.Rows
theorem vals_ints : ∀ {vs : List Value} {ns : List Int}, IntsAre vs ns → Vals (ns.map V.int) vs
  | _, _, .nil => .nil
  | _, _, .cons n t h => .cons ⟨t, rfl⟩ (vals_ints h)
def Only (H : Hp) : Prop := ∀ b, H b = none ∨ ∃ o xs, H b = some (.frz o (.lst xs))
theorem law_call {P : Program} {w : World} {K : PySem.W.Frag} {mg mb : Str → Option Value} {CX : CXT} {k : Nat} {fa a : Addr} {fd : FuncData} {x : Str} {sp : Sp} {s₁ : Shared} {vs : List Value} {ns : List Int}
    (KX : K.In s₁.heap) (hns : s₁.heap.Ns mainGlobals mg) (hb : s₁.heap.Ns builtinsNs mb) (hbb : ∀ x : Str, x ≠ "__name__" → mb x = bootBuiltins x) (hlim : s₁.heap.NoLimit) (hg : s₁.gens = #[])
    (ha : s₁.heap.get? a = some { cls := .type "list", data := .seq vs.toArray }) (hi : IntsAre vs ns) (hl : ns.length ≤ sizeLine) (hr : Room k callerA)
    (F : ∀ base : Heap, K.In base → base.Ns mainGlobals mg → FnOk P w K mg base CX k fa fd [x] sp) (hbind : ∀ (s : Shared) (u : Value), BindsTo s fd ⟨[u], []⟩ [(x, u)])
    (hsp : ∀ H : Hp, Only H → SqL K H a (ns.map V.int) → sp [.ref a] H (fun v _ => v = .bl true) fun _ _ _ => False)
    (hCX : ∀ H e s', CX [] H s₁ (fun _ _ _ => False) e s' → False) :
    codeAny (model P w) callerA (.call (.ref fa) ⟨[.ref a], []⟩) (fun r s' => r = .ok (.ret (.bool true)) ∧ OldK s₁.heap s'.heap ∧ s'.os = s₁.os ∧ AllBare s'.gens) s₁ := by
  have rv := vals_ints hi
  have lenV := hi.length
  -- from an abstract heap in which nothing but the script may be tracked
  have core : ∀ H : Hp, Only H → SqL K H a (ns.map V.int) → HOk P w H s₁.heap → (∀ b, H b ≠ none → b = a) → (H a ≠ none → K.lookup a = none) →
      codeAny (model P w) callerA (.call (.ref fa) ⟨[.ref a], []⟩) (fun r s' => r = .ok (.ret (.bool true)) ∧ OldK s₁.heap s'.heap ∧ s'.os = s₁.os ∧ AllBare s'.gens) s₁ := by
    intro H hO hS hok hA hK
    have base_of : ∀ {b : Addr} {o : Obj}, s₁.heap.get? b = some o → H b = none → (hidT s₁.heap H).get? b = some o := fun e n => hidT_get e n
    have noA : ∀ {b : Addr} {o : Obj} {es : Array DictEntry} {ep : Nat}, s₁.heap.get? b = some o → o.data = .dict es ep → H b = none := fun {b o es ep} e d => by
      cases q : H b with
      | none => rfl
      | some u =>
        have e' : b = a := hA b (by rw [q]; simp)
        subst e'
        rw [ha] at e; cases e
        have d' : Data.seq vs.toArray _ = Data.dict es ep := d
        cases d'
    have nsK : ∀ {b : Addr} {m : Str → Option Value}, s₁.heap.Ns b m → (hidT s₁.heap H).Ns b m := fun {b m} ⟨o, es, ep, e, d, r⟩ => ⟨o, es, ep, base_of e (noA e d), d, r⟩
    have hKb : K.In (hidT s₁.heap H) := fun b o e => base_of (KX b o e) (by
      cases q : H b with
      | none => rfl
      | some u =>
        have e' : b = a := hA b (by rw [q]; simp)
        subst e'
        rw [hK (by rw [q]; simp)] at e; cases e)
    have hM : Mod K mg (hidT s₁.heap H) := ⟨hKb, nsK hns, ⟨mb, nsK hb, hbb⟩, let ⟨mc, h1, h2⟩ := hlim; ⟨mc, nsK h1, h2⟩⟩
    have e0 : Env0 P w K mg (hidT s₁.heap H) callerA [] s₁ H := ⟨rfl, hM, fun b o e => of_hidT e, Nat.le_of_eq (hidT_size _ _), trivial, fun b hb => absurd (show b ∈ ([] : List Addr) from hb) (by simp), hok, .of_eq hg⟩
    refine codeAny_mono ((F _ hKb (nsK hns)).run callerA [] s₁ H ⟨[.ref a], []⟩ [.ref a] [.ref a] _ _ hr e0 (hbind s₁ (.ref a)) (.cons rfl .nil) (hsp H hO hS)) fun r s' h => ?_
    cases r with
    | error e => exact (hCX H e s' h).elim
    | ok fl =>
      cases fl with
      | next => exact False.elim h
      | brk => exact False.elim h
      | cont => exact False.elim h
      | ret u =>
        obtain ⟨v, H', os, bare, un, hok', r', q⟩ := h
        have q' : v = .bl true := q
        subst q'
        obtain rfl : u = Value.bool true := r'
        refine ⟨rfl, OldK.of_keep fun b o e => ?_, os, bare⟩
        cases q : H b with
        | none => exact un.keep b o e q (by intro z; exact absurd (show b ∈ ([] : List Addr) from z) (by simp)) (by simp)
        | some u =>
          rcases hO b with z | ⟨ob, xs, z⟩
          · rw [q] at z; cases z
          · have z2 := un.frzs b ob _ z
            obtain ⟨e1, _⟩ := hok b _ z
            obtain ⟨e2, _⟩ := hok' b _ z2
            rw [e] at e1; cases e1
            exact e2
  cases hk : K.lookup a with
  | some o =>
    -- the script is one of the module's own objects
    have e := KX a o hk
    rw [ha] at e
    cases e
    refine core (fun _ => none) (fun _ => .inl rfl) (.inr ⟨_, vs.toArray, _, hk, rfl, rfl, rfl, by rw [List.size_toArray, lenV]; exact hl, by simpa using rv⟩) (fun b u z => by have z' : (none : Option HO) = some u := z; cases z') (fun b z => absurd rfl z) fun z => absurd rfl z
  | none =>
    refine core (fun b => if b = a then some (.frz { cls := .type "list", data := .seq vs.toArray } (.lst (ns.map V.int))) else none) (fun b => ?_) (.inl (.inr ⟨{ cls := .type "list", data := .seq vs.toArray }, if_pos rfl⟩)) (fun b u z => ?_) (fun b z => ?_) fun _ => hk
    · by_cases hb : b = a
      · exact .inr ⟨_, _, if_pos hb⟩
      · exact .inl (if_neg hb)
    · by_cases hb : b = a
      · have z' := (if_pos hb).symm.trans z
        cases z'
        subst hb
        exact ⟨ha, by rw [List.length_map]; exact hl, vs, _, rv, ha⟩
      · have z' := (if_neg hb).symm.trans z
        cases z'
    · by_cases hb : b = a
      · exact hb
      · exact absurd (if_neg hb) z
end L2
namespace L2
open PySem PySem.Spec PyProof.Rows
theorem walk_of {l : PySem.W.OpenLaw} {n k : Nat} {q : Program} {loose : List Str} {XP : (Str → Option Value) → Heap → Prop} {YP : World → Heap → Prop} {d : DefRec} {K : Params → PySem.W.Frag} {CX : World → CXT} {sp : World → Sp} {x : Str}
    (hn : l.most = some n) (hn2 : n ≤ sizeLine) (hdf : d.params.defaults = []) (hr : Room k callerA)
    (hY : ∀ (w : World) (h : Heap), YP w h → (K w.params).In h)
    (F : ∀ (w : World) (mg : Str → Option Value) (fa : Addr) (h : Heap), (K w.params).In h → h.Ns mainGlobals mg → mg d.name = some (.ref fa) →
      ∃ fd : FuncData, (∀ (s : Shared) (u : Value), BindsTo s fd ⟨[u], []⟩ [(x, u)]) ∧
        ∀ base : Heap, (K w.params).In base → base.Ns mainGlobals mg → FnOk l.prog w (K w.params) mg base (CX w) k fa fd [x] (sp w))
    (hsp : ∀ (w : World) (H : Hp) (a : Addr) (ns : List Int), ns.length ≤ n → Only H → SqL (K w.params) H a (ns.map V.int) → sp w [.ref a] H (fun v _ => v = .bl true) fun _ _ _ => False)
    (hCX : ∀ (w : World) (H : Hp) (s : Shared) (e : Value) (s' : Shared), CX w [] H s (fun _ _ _ => False) e s' → False) :
    PySem.W.WalkO q loose XP YP l.row.toRowW d [] (fun f vs => PySem.call f vs) := by
  refine Att.attach_call hn hdf fun w s₀ s₁ mg mb fa o pm cd doc a vs ns G Y ho hd hcd hmg hobj hints hlen hg => ?_
  have KX := hY w _ Y
  obtain ⟨fd, hb, hF⟩ := F w mg fa _ KX G.T.g hmg
  exact law_call KX G.T.g G.T.b G.T.builtins G.T.nolimit hg hobj hints (Nat.le_trans hlen hn2) hr hF hb (fun H hO hS => hsp w H a ns hlen hO hS) fun H e s' => hCX w H s₁ e s'
end L2
namespace L2
open PySem PySem.Spec PyProof.Rows
def defArgs (s : Stmt) : Arguments := match s with
  | .FunctionDef _ a _ _ _ _ _ _ _ _ => a
  | _ => { posonlyargs := [], args := [], vararg := none, kwonlyargs := [], kw_defaults := [], kwarg := none, defaults := [] }
def defBody (s : Stmt) : List Stmt := match s with
  | .FunctionDef _ _ b _ _ _ _ _ _ _ => b
  | _ => []
def defScope (s : Stmt) : Scope := match s with
  | .FunctionDef _ _ _ _ _ _ sc _ _ _ => sc
  | _ => { kind := .function, names := [], isGenerator := false, isCoroutine := false }
abbrev CX0 : CXT := fun _ _ _ _ _ _ => False
abbrev E0 : XK := fun _ _ _ => False
theorem pass0 {X : Cx} : Passes CX0 X E0 := fun _ _ _ _ _ _ _ h => h.elim
structure Fun (K : PySem.W.Frag) (x qual : Str) (st : Stmt) (f : Addr) (fd : FuncData) : Prop where
  ex : ∃ (oc : Value) (od : Option Addr) (kV doc pm : Value) (an : Option Addr) (cdv ct : Value) (osl : Array (Option Value)),
    fd = PySem.W.fnOf x qual (defArgs st) (defBody st) (defScope st) .none kV doc pm an cdv ct ∧ K.lookup f = some ⟨oc, od, .func fd, osl⟩ ∧ PySem.W.codeIn K cdv qual = true
  kp : PySem.W.keepIn K (.ref f) = true
section
variable {P : Program} {w : World} {K : PySem.W.Frag} {mg : Str → Option Value} {base : Heap}
theorem Fun.ok {x qual : Str} {st : Stmt} {f : Addr} {fd : FuncData} {N ps : List Str} {k : Nat} {sp : Sp} (F : Fun K x qual st f fd) (S : FnScope N ps (defScope st)) (len : ∀ vs H Q E, sp vs H Q E → vs.length = ps.length)
    (hbody : ∀ (cdv : Value) (A : Around) (outer : List Env) (s : Shared) (H : Hp) (vs : List V) (Q : VK) (E : XK), Room k (A.deeper (envOfC qual (defScope st) s.heap.objs.size f cdv)) → sp vs H Q E →
      ∃ t, PSs (cxOf CX0 P w K mg base N qual (defScope st) f cdv A outer s H E).nox (defBody st) t ∧ t { nx := fun _ H' => Q .non H', rt := Q } (start N vs) H) : FnOk P w K mg base CX0 (k + 1) f fd ps sp := by
  obtain ⟨oc, od, kV, doc, pm, an, cdv, ct, osl, rfl, lk, hcd⟩ := F.ex
  refine fn_of lk hcd S len fun A outer s H vs Q E hr hsp => ?_
  obtain ⟨t, h, q⟩ := hbody cdv A outer s H vs Q E hr hsp
  exact ⟨t, h.nox, q⟩
theorem Fun.binds {x qual : Str} {st : Stmt} {f : Addr} {fd : FuncData} {ps : List Str} (F : Fun K x qual st f fd)
    (h : ∀ (kV doc pm : Value) (an : Option Addr) (cdv ct : Value) (us : List Value), us.length = ps.length → bindArgs (PySem.W.fnOf x qual (defArgs st) (defBody st) (defScope st) .none kV doc pm an cdv ct) ⟨us, []⟩ = pure (ps.zip us)) : Binds K fd ps [] := by
  obtain ⟨oc, od, kV, doc, pm, an, cdv, ct, osl, rfl, lk, hcd⟩ := F.ex
  exact .all (h kV doc pm an cdv ct)
theorem fun_mk {x qual : Str} {st : Stmt} {f : Addr} {oc : Value} {od an : Option Addr} {osl : Array (Option Value)} {kV doc pm cdv ct : Value} (l : K.lookup f = some ⟨oc, od, .func (PySem.W.fnOf x qual (defArgs st) (defBody st) (defScope st) .none kV doc pm an cdv ct), osl⟩)
    (c : PySem.W.codeIn K cdv qual = true) (k : PySem.W.keepIn K (.ref f) = true) : Fun K x qual st f (PySem.W.fnOf x qual (defArgs st) (defBody st) (defScope st) .none kV doc pm an cdv ct) := ⟨⟨oc, od, kV, doc, pm, an, cdv, ct, osl, rfl, l, c⟩, k⟩
end
section
variable {X : Cx}
theorem pv (i : Nat) {x : Str} {pos : Pos} (hN : X.N[i]? = some x := by rfl) (hv : Vis X.env.scope x := by first | exact Or.inl rfl | exact Or.inr (Or.inl rfl) | exact Or.inr (Or.inr rfl)) (hd : (x == ("__debug__" : Str)) = false := by decide)
    (hcd : (x == ("__classdict__" : Str)) = false := by decide) : PE X (.Name x pos) (tVar i) := pe_var hN hv hd hcd
end
end L2
namespace L2
open PySem PySem.Spec PyProof.Rows
def S (l : List Nat) : Str := ⟨l.toArray⟩
theorem S_len (l : List Nat) : (S l).length = l.length := by simp [S, Str.length]
theorem S_app (a b : List Nat) : S a ++ S b = S (a ++ b) := by
  show (⟨a.toArray ++ b.toArray⟩ : Str) = ⟨(a ++ b).toArray⟩
  rw [List.append_toArray]
theorem S_inj {a b : List Nat} (h : S a = S b) : a = b := by
  have h' := congrArg (fun x : Str => x.cps.toList) h
  simpa [S] using h'
theorem S_ne {a b : List Nat} (h : a ≠ b) : S a ≠ S b := fun e => h (S_inj e)
theorem S_iff {a b : List Nat} : V.str (S a) = V.str (S b) ↔ a = b := ⟨fun h => S_inj (V.str.inj h), fun h => by rw [h]⟩
theorem S_dec (a b : List Nat) : decide (V.str (S a) = V.str (S b)) = decide (a = b) := by
  by_cases h : a = b
  · rw [decide_eq_true h, decide_eq_true (S_iff.mpr h)]
  · rw [decide_eq_false h, decide_eq_false (fun z => h (S_iff.mp z))]
def cutN {α : Type} (xs : List α) (lo hi : Option Int) : List α := (xs.drop (HT.sIx xs.length 0 lo)).take (HT.sIx xs.length xs.length hi - HT.sIx xs.length 0 lo)
theorem cutN_length_le {α : Type} (xs : List α) (lo hi : Option Int) : (cutN xs lo hi).length ≤ xs.length := by
  unfold cutN
  rw [List.length_take, List.length_drop]
  omega
theorem cutV_cutN (xs : List V) (lo hi : Option Int) : cutV xs lo hi = cutN xs lo hi := rfl
theorem strIx (lo hi : Option Int) (n : Nat) : Builtin.Str.strSliceIndices lo hi 1 n = (List.range (HT.sIx n n hi - HT.sIx n 0 lo)).map (fun k => HT.sIx n 0 lo + k) := by
  have key : ∀ (o : Option Int) (d : Nat), d ≤ n → (match o with | none => (d : Int) | some i => max 0 (min (if i < 0 then i + (n : Int) else i) (n : Int))) = ((HT.sIx n d o : Nat) : Int) := by
    intro o d hd
    cases o with
    | none => rfl
    | some i =>
      show max 0 (min (if i < 0 then i + (n : Int) else i) (n : Int)) = _
      rw [← HT.clip_eq i n d]
      by_cases h : i < 0
      · rw [if_pos h, if_pos h]; omega
      · rw [if_neg h, if_neg h]; omega
  have k1 := key lo 0 (Nat.zero_le _)
  have k2 := key hi n (Nat.le_refl _)
  unfold Builtin.Str.strSliceIndices
  simp only [show (1 : Int) > 0 by decide, if_true]
  refine Eq.trans (congrArg (fun a => sliceRange a _ 1) k1) (Eq.trans (congrArg (fun b => sliceRange _ b 1) k2) ?_)
  unfold sliceRange
  simp only [show (1 : Int) > 0 by decide, if_true]
  generalize HT.sIx n 0 lo = a
  generalize HT.sIx n n hi = b
  have ec : (if (a : Int) < (b : Int) then ((b : Int) - (a : Int) + 1 - 1) / 1 else 0).toNat = b - a := by
    split <;> omega
  rw [ec]
  apply List.map_congr_left
  intro k _
  omega
theorem pick_drop {α : Type} (l : List α) (a m : Nat) : ((List.range m).map (fun k => a + k)).filterMap (fun i => l[i]?) = (l.drop a).take m := by
  induction m generalizing a with
  | zero => simp
  | succ m ih =>
    rw [List.range_succ_eq_map, List.map_cons, List.map_map, List.filterMap_cons]
    have e : ((fun k => a + k) ∘ Nat.succ) = fun k => (a + 1) + k := by funext k; simp; omega
    rw [e, ih (a + 1)]
    cases h : l[a + 0]? with
    | none =>
      have hl : l.length ≤ a := by simpa using List.getElem?_eq_none_iff.mp h
      rw [List.drop_eq_nil_of_le hl, List.drop_eq_nil_of_le (by omega)]; simp
    | some v =>
      have hl : a < l.length := by simpa using (List.getElem?_eq_some_iff.mp h).1
      have hv : l[a] = v := by simpa using (List.getElem?_eq_some_iff.mp h).2
      rw [List.drop_eq_getElem_cons hl, hv]; rfl
theorem slice_S (l : List Nat) (lo hi : Option Int) : Txt.slice (S l) lo hi = S (cutN l lo hi) := by
  have e1 : (Builtin.Str.strSliceIndices lo hi 1 (S l).length).filterMap ((S l).cps[·]?) = cutN l lo hi := by
    rw [strIx, S_len]
    have e : (fun i : Nat => (S l).cps[i]?) = fun i : Nat => l[i]? := by funext i; simp [S]
    rw [e]
    exact pick_drop l _ _
  unfold Txt.slice
  split
  · rename_i h
    have h2 : (Builtin.Str.strSliceIndices lo hi 1 (S l).length).length = (S l).length := by simpa using h
    rw [strIx, S_len, List.length_map, List.length_range] at h2
    have a0 := HT.sIx_le l.length 0 (Nat.zero_le _) lo
    have b0 := HT.sIx_le l.length l.length (Nat.le_refl _) hi
    unfold cutN
    by_cases hz : l.length = 0
    · have : l = [] := List.length_eq_zero_iff.mp hz
      subst this; simp
    · have ha : HT.sIx l.length 0 lo = 0 := by omega
      have hb : HT.sIx l.length l.length hi = l.length := by omega
      rw [ha, hb]
      simp
  · rw [e1]; rfl
theorem cutN_to {α : Type} (l : List α) (k : Nat) : cutN l none (some (k : Int)) = l.take k := by
  unfold cutN
  rw [HT.sIx_nat]
  show (l.drop 0).take (min k l.length - 0) = l.take k
  rw [List.drop_zero, Nat.sub_zero]
  by_cases h : k ≤ l.length
  · rw [Nat.min_eq_left h]
  · rw [Nat.min_eq_right (by omega), List.take_of_length_le (Nat.le_refl _), List.take_of_length_le (by omega)]
theorem cutN_from {α : Type} (l : List α) (k : Nat) : cutN l (some (k : Int)) none = l.drop k := by
  unfold cutN
  rw [HT.sIx_nat]
  show (l.drop (min k l.length)).take (l.length - min k l.length) = l.drop k
  by_cases h : k ≤ l.length
  · rw [Nat.min_eq_left h, List.take_of_length_le (by rw [List.length_drop]; exact Nat.le_refl _)]
  · rw [Nat.min_eq_right (by omega), Nat.sub_self, List.take_zero, List.drop_eq_nil_of_le (by omega)]
theorem cutN_both {α : Type} (l : List α) (i j : Nat) : cutN l (some (i : Int)) (some (j : Int)) = (l.drop i).take (j - i) := by
  unfold cutN
  rw [HT.sIx_nat, HT.sIx_nat]
  by_cases h : i ≤ l.length
  · rw [Nat.min_eq_left h]
    by_cases h2 : j ≤ l.length
    · rw [Nat.min_eq_left h2]
    · rw [Nat.min_eq_right (by omega), List.take_of_length_le (by rw [List.length_drop]; omega), List.take_of_length_le (by rw [List.length_drop]; omega)]
  · have e : min i l.length = l.length := Nat.min_eq_right (by omega)
    rw [e, List.drop_eq_nil_of_le (Nat.le_refl _), List.drop_eq_nil_of_le (by omega), List.take_nil, List.take_nil]
section
variable {X : Cx}
def rSlS : V → Option Int → Option Int → Hp → VK → Prop := fun x lo hi H Q => ∃ l, x = .str (S l) ∧ l.length ≤ sizeLine ∧ Q (.str (S (cutN l lo hi))) H
theorem sl_str : SlR X rSlS := by
  intro pins s σ H x v vl vu lo hi sl Q I rx hs pl pu h
  obtain ⟨l, rfl, hz, q⟩ := h
  obtain ⟨t, rfl⟩ := rx
  refine ⟨"str", _, slot_str_getitem.lookup, typeIs_str s _ t, ?_⟩
  obtain ⟨l', hl', el⟩ : ∃ l' : Option (Int × Tok), vl = partValue l' ∧ l'.map (·.1) = lo := by
    cases pl with
    | none => exact ⟨none, rfl, rfl⟩
    | int i t => exact ⟨some (i, t), rfl, rfl⟩
  obtain ⟨u', hu', eu⟩ : ∃ l' : Option (Int × Tok), vu = partValue l' ∧ l'.map (·.1) = hi := by
    cases pu with
    | none => exact ⟨none, rfl, rfl⟩
    | int i t => exact ⟨some (i, t), rfl, rfl⟩
  subst hl' hu'
  refine wpAny_getItem_str_slice (l := l') (u := u') (st := none) hs rfl ?_
  have hm : ∀ t' k, EP X pins σ Q (.str (Txt.slice (S l) lo hi) t') { s with toks := k } := fun t' k => ⟨.str (S (cutN l lo hi)), H, I.tok _, ⟨t', by rw [slice_S]⟩, q⟩
  have hlen : (Txt.slice (S l) lo hi).length ≤ sizeLine := Nat.le_trans (Txt.slice_le _ _ _) (by rw [S_len]; exact hz)
  subst el eu
  exact post_val_or_str ⟨hlen, hm⟩
def repN {α : Type} (l : List α) (n : Int) : List α := (List.replicate n.toNat l).flatten
theorem foldl_app (k : Nat) (l acc : List Nat) : (List.replicate k l.toArray).foldl (· ++ ·) acc.toArray = (acc ++ (List.replicate k l).flatten).toArray := by
  induction k generalizing acc with
  | zero => simp
  | succ k ih =>
    rw [List.replicate_succ, List.foldl_cons, List.append_toArray, ih (acc ++ l), List.replicate_succ, List.flatten_cons, List.append_assoc]
theorem mul_S (l : List Nat) (n : Int) : Txt.mul (S l) n = S (repN l n) := by
  unfold Txt.mul repN
  by_cases h : n < 1
  · rw [if_pos h]
    have : n.toNat = 0 := by omega
    rw [this]; rfl
  · rw [if_neg h]
    split
    · rename_i h2
      rw [S_len] at h2
      simp only [Bool.or_eq_true, beq_iff_eq] at h2
      rcases h2 with h2 | h2
      · subst h2; simp [S]
      · have : l = [] := List.length_eq_zero_iff.mp h2
        subst this; simp [S]
    · have e := foldl_app n.toNat l []
      show (⟨_⟩ : Str) = _
      have e' : (List.replicate n.toNat (S l).cps).foldl (· ++ ·) #[] = ((List.replicate n.toNat l).flatten).toArray := by
        simpa [S] using e
      rw [e']; rfl
theorem repN_length {α : Type} (l : List α) (n : Int) : (repN l n).length = n.toNat * l.length := by
  unfold repN
  rw [List.length_flatten, List.map_replicate, List.sum_replicate_nat]
theorem op_rep_str : OpR X (binaryOp .Mult) (fun x y H Q => ∃ l n, x = .str (S l) ∧ y = .int n ∧ -1000000 ≤ n ∧ n ≤ 1000000 ∧ n.toNat * l.length ≤ sizeLine ∧ Q (.str (S (repN l n))) H) := by
  intro pins s σ H x y v u Q I rx ry h
  obtain ⟨l, n, rfl, rfl, h1, h2, hz, q⟩ := h
  obtain ⟨t, rfl⟩ := rx
  obtain ⟨t', rfl⟩ := ry
  have hs : sizeLine = 16777216 := sizeLine_eq
  have hz' : n.toNat * l.length ≤ 16777216 := by rw [← hs]; exact hz
  refine SB.mul ⟨?_, fun hn hc => ?_, fun hn hc => ?_⟩ fun t' k => ⟨.str (S (repN l n)), H, I.tok _, ⟨t', by rw [mul_S]⟩, q⟩
  · rw [decide_eq_false (by omega), decide_eq_false (by omega)]; rfl
  · rw [S_len]
    intro hgt
    have hl : l.length ≤ 16777216 := by
      have : 1 * l.length ≤ n.toNat * l.length := Nat.mul_le_mul_right _ (by omega)
      omega
    have hdiv : (2 ^ 63 - 1 : Int) / 1000000 ≤ (2 ^ 63 - 1) / n := by
      apply Int.le_ediv_of_mul_le (by omega)
      have := Int.mul_le_mul_of_nonneg_left h2 (show (0 : Int) ≤ (2 ^ 63 - 1) / 1000000 by decide)
      have e2 : ((2 ^ 63 - 1 : Int) / 1000000) * 1000000 ≤ 2 ^ 63 - 1 := by decide
      omega
    have e3 : (2 ^ 63 - 1 : Int) / 1000000 = 9223372036854 := by decide
    omega
  · rw [S_len]
    have : l.length * n.toNat ≤ 16777216 := by rw [Nat.mul_comm]; exact hz'
    exact decide_eq_false (by omega)
theorem op_le_str : OpR X (compareOp .LtE) (fun x y H Q => ∃ i j, x = .str i ∧ y = .str j ∧ Q (.bl (!decide (j.cps.toList < i.cps.toList))) H) := by
  intro pins s σ H x y v u Q I rx ry h
  obtain ⟨i, j, rfl, rfl, q⟩ := h
  obtain ⟨t, rfl⟩ := rx
  obtain ⟨t', rfl⟩ := ry
  exact PySem.P.le_str ⟨.bl _, H, I, rfl, q⟩
end
end L2
namespace L2
open PySem PySem.Spec PyProof.Rows
def Its (xs : List V) : It := ⟨fun i _ => i < xs.length, fun i H x H' => H' = H ∧ xs[i]? = some x, fun i _ => xs.length = i⟩
theorem go_scalar {M : Model} {A : Around} {E : Value → Shared → Prop} {s : Shared} {tg : Expr} {it : Addr} {u : Value} {Q : Unit → Shared → Prop} (hu : ∀ a, u ≠ .ref a) (hQ : Q () s) : wpAny M A (letOwnedTupleGo tg (.ref it) u) Q E s := by
  unfold letOwnedTupleGo
  cases tg <;> first
    | exact wpAny_pure hQ
    | (cases u <;> first
        | exact wpAny_pure hQ
        | exact absurd rfl (hu _))
theorem turn_walk {P : Program} {w : World} {K : PySem.W.Frag} {tg : Expr} {it : Addr} {xs : List V} {n : Nat} {Pt : Nat → Value → Prop} {St : Nat → Heap → Prop}
    (W : ∀ A : Around, A.handled = none → Walks P w A it [it] [it] n Pt St) (hn : xs.length = n)
    (hv : ∀ i v, i < n → Pt i v → ∃ x, xs[i]? = some x ∧ RelV x v) (hsc : ∀ i v, Pt i v → ∀ a, v ≠ .ref a)
    (hobj : ∀ i h, St i h → ∃ o, h.get? it = some o ∧ ∀ v, o.data ≠ .cell v)
    (hfr : ∀ i h h', St i h → (∀ b ∈ [it], ∀ o, h.get? b = some o → h'.get? b = some o) → St i h')
    (hself : ∀ (A : Around) (i : Nat) (s : Shared) (Q : Value → Shared → Prop) (E : Value → Shared → Prop), St i s.heap → Q (.ref it) s → wpAny (model P w) A (pyIter (.ref it)) Q E s) :
    Turn P w K tg (Its xs) [it] it St where
  mem := by simp
  obj := fun i h st b hb => by
    have e : b = it := by simpa using hb
    subst e
    exact hobj i h st
  keep := fun i h h' st k => hfr i h h' st k
  item := by
    intro X hP hw hK hc i pins s σ H E I hf st hg
    subst hP hw hK
    obtain ⟨f0, f1, f2, f3, f4, f5⟩ := hf it (by simp)
    refine (W X.A (I.ok.hd hc)).item i s _ _ (by rw [← hn]; exact hg) st fun v h' tk hp st' kk => ?_
    obtain ⟨x, hx, rx⟩ := hv i v (by rw [← hn]; exact hg) hp
    have I1 : Inv X pins σ H { s with heap := h', toks := tk } := I.turned (fun b o hb e => kk b o (by simpa using hb) e) f0 f1 f3 f4 f5
    exact ⟨v, rfl, go_scalar (s := { s with heap := h', toks := tk }) (hsc i v hp) ⟨x, H, I1, rx, ⟨rfl, hx⟩, st', fun b hb => (hf b hb).1⟩⟩
  done := by
    intro X hP hw hK hc i pins s σ H E I hf st hg
    subst hP hw hK
    obtain ⟨f0, f1, f2, f3, f4, f5⟩ := hf it (by simp)
    have e : n = i := hn.symm.trans hg
    subst e
    exact (W X.A (I.ok.hd hc)).done s _ _ st fun h' tk kk => ⟨rfl, I.turned (fun b o hb e => kk b o (by simpa using hb) e) f0 f1 f3 f4 f5⟩
  self := hself
section
variable {X : Cx} {tg : Expr}
def signs1 (l : List Nat) : List V := l.map fun c => V.str (S [c])
theorem signs1_get {l : List Nat} {i : Nat} {x : V} (h : (signs1 l)[i]? = some x) : ∃ c, l[i]? = some c ∧ x = .str (S [c]) := by
  unfold signs1 at h
  rw [List.getElem?_map] at h
  cases e : l[i]? with
  | none => rw [e] at h; cases h
  | some c => rw [e] at h; exact ⟨c, rfl, (Option.some.inj h).symm⟩
theorem signs1_len (l : List Nat) : (signs1 l).length = l.length := List.length_map _
end
end L2
namespace L2
open PySem PySem.Spec PyProof.Rows
section
variable {X : Cx}
theorem call_isinst : CallR X (.builtin "isinstance") (fun xs H Q => ∃ x n t b, xs = [x, .ty n] ∧ TyOf X.K H x t ∧ PySem.W.kitOne X.K t (.type n) = some b ∧ Q (.bl b) H) := by
  intro pins s σ H xs us Q I r h
  obtain ⟨x, n, t, b, rfl, ty, e, q⟩ := h
  obtain ⟨u, w', rfl, rx, ry⟩ := vals2 r
  cases (show w' = Value.type n from ry)
  exact isinst_ok I rx ty e fun tk => ⟨.bl b, H, I.tok _, rfl, q⟩
mutual
inductive DV (K : PySem.W.Frag) (H : Hp) : V → PyData → Prop
  | non : DV K H .non .none
  | bl (b : Bool) : DV K H (.bl b) (.bool b)
  | int (i : Int) : DV K H (.int i) (.int i)
  | str (x : Str) : DV K H (.str x) (.str x)
  | lst {a : Addr} {xs : List V} {ds : List PyData} : SqL K H a xs → DVs K H xs ds → DV K H (.ref a) (.list ds)
  | tup {a : Addr} {xs : List V} {ds : List PyData} : SqT K H a xs → DVs K H xs ds → DV K H (.ref a) (.tuple ds)
inductive DVs (K : PySem.W.Frag) (H : Hp) : List V → List PyData → Prop
  | nil : DVs K H [] []
  | cons {x : V} {d : PyData} {xs : List V} {ds : List PyData} : DV K H x d → DVs K H xs ds → DVs K H (x :: xs) (d :: ds)
end
mutual
theorem DV.reads {pins : List (Addr × Obj)} {σ : St} {H : Hp} {s : Shared} (I : Inv X pins σ H s) : ∀ {x : V} {d : PyData} {u : Value}, DV X.K H x d → RelV x u → ∃ as, Reads s.heap u d as
  | _, _, u, .non, r => by cases (show u = Value.none from r); exact ⟨_, .none⟩
  | _, _, u, .bl b, r => by cases (show u = Value.bool b from r); exact ⟨_, .bool b⟩
  | _, _, u, .int i, r => by obtain ⟨t, e⟩ := (show ∃ t, u = Value.int i t from r); subst e; exact ⟨_, .int i t⟩
  | _, _, u, .str x, r => by obtain ⟨t, e⟩ := (show ∃ t, u = Value.str x t from r); subst e; exact ⟨_, .str x t⟩
  | _, _, u, .lst (a := a) hq hs, r => by
    cases (show u = Value.ref a from r)
    obtain ⟨its, rv, pl, _⟩ := I.list hq
    obtain ⟨o, ho, hc, n, hd⟩ := pl.isList
    obtain ⟨as, ra⟩ := DVs.reads I hs rv
    exact ⟨_, .list ho hc hd ra⟩
  | _, _, u, .tup (a := a) hq hs, r => by
    cases (show u = Value.ref a from r)
    obtain ⟨its, rv, pl, _⟩ := I.tuple hq
    obtain ⟨o, ho, hc, n, hd⟩ := pl
    obtain ⟨as, ra⟩ := DVs.reads I hs rv
    exact ⟨_, .tuple ho hc hd ra⟩
theorem DVs.reads {pins : List (Addr × Obj)} {σ : St} {H : Hp} {s : Shared} (I : Inv X pins σ H s) : ∀ {xs : List V} {ds : List PyData} {us : List Value}, DVs X.K H xs ds → Vals xs us → ∃ as, ReadsAll s.heap us ds as
  | _, _, _, .nil, .nil => ⟨_, .nil⟩
  | _, _, _, .cons h hs, .cons r rs => by
    obtain ⟨as, ra⟩ := DV.reads I h r
    obtain ⟨bs, rb⟩ := DVs.reads I hs rs
    exact ⟨_, .cons ra rb⟩
end
def rEqD (K : PySem.W.Frag) (neg : Bool) : R2 := fun x y H Q => ∃ da db, DV K H x da ∧ DV K H y db ∧ SeqAt.shaped da = true ∧ SeqAt.shaped db = true ∧ Q (.bl (if neg then !PyData.eqv da db else PyData.eqv da db)) H
theorem op_eqD (hu : X.A.units + 64 < cLine) : OpR X (compareOp .Eq) (rEqD X.K false) := by
  intro pins s σ H x y v u Q I rx ry h
  obtain ⟨da, db, ha, hb, sa, sb, q⟩ := h
  obtain ⟨as, ra⟩ := DV.reads I ha rx
  obtain ⟨bs, rb⟩ := DV.reads I hb ry
  exact eq_dataH ra rb sa sb hu ⟨.bl _, H, I, rfl, q⟩
theorem op_neD (hu : X.A.units + 64 < cLine) : OpR X (compareOp .NotEq) (rEqD X.K true) := by
  intro pins s σ H x y v u Q I rx ry h
  obtain ⟨da, db, ha, hb, sa, sb, q⟩ := h
  obtain ⟨as, ra⟩ := DV.reads I ha rx
  obtain ⟨bs, rb⟩ := DV.reads I hb ry
  exact ne_dataH ra rb sa sb hu ⟨.bl _, H, I, rfl, q⟩
theorem DVs.ints {K : PySem.W.Frag} {H : Hp} : ∀ ns : List Int, DVs K H (ns.map V.int) (ns.map PyData.int)
  | [] => .nil
  | n :: ns => .cons (.int n) (DVs.ints ns)
theorem eqvAll_ints : ∀ ns ms : List Int, PyData.eqvAll (ns.map PyData.int) (ms.map PyData.int) = decide (ns = ms)
  | [], [] => by simp [PyData.eqvAll]
  | [], _ :: _ => by simp [PyData.eqvAll]
  | _ :: _, [] => by simp [PyData.eqvAll]
  | a :: r, b :: t => by
    simp only [List.map_cons, PyData.eqvAll, PyData.eqv, eqvAll_ints r t]
    by_cases h : a = b <;> by_cases h' : r = t <;> simp [h, h']
end
end L2
namespace L2
open PySem PySem.Spec PyProof.Rows
section
variable {X : Cx} {a b : Expr} {ta tb : TE} {pos : Pos}
theorem pe_strS {x : Str} {l : List Nat} {j : Nat} (h : x = S l) : PE X (.Constant (.str x) j pos) (tC (.str (S l))) := by
  subst h
  exact pe_str
theorem call_lenS : CallR X (.builtin "len") (fun xs H Q => ∃ l, xs = [.str (S l)] ∧ l.length ≤ sizeLine ∧ Q (.int l.length) H) := by
  intro pins s σ H xs us Q I r h
  obtain ⟨l, rfl, hz, q⟩ := h
  exact call_len_str pins s σ H _ us Q I r ⟨S l, rfl, by rw [S_len]; exact hz, by rw [S_len]; exact q⟩
def rIxS' : R2 := fun x y H Q => ∃ l i c, x = .str (S l) ∧ y = .int i ∧ l.length ≤ sizeLine ∧ atI l i = some c ∧ Q (.str (S [c])) H
theorem ix_strS : IxR X rIxS' := by
  intro value slice pins s σ H x y v u Q I rx ry q hs
  obtain ⟨l, i, c, rfl, rfl, hz, ha, q⟩ := q
  exact ix_str value slice pins s σ H _ _ v u Q I rx ry ⟨S l, i, c, rfl, rfl, by rw [S_len]; exact hz, ha, q⟩ hs
theorem op_addS : OpR X (binaryOp .Add) (fun x y H Q => ∃ i j, x = .str (S i) ∧ y = .str (S j) ∧ i.length + j.length ≤ sizeLine ∧ Q (.str (S (i ++ j))) H) := by
  intro pins s σ H x y v u Q I rx ry h
  obtain ⟨i, j, rfl, rfl, hz, q⟩ := h
  exact op_add_str pins s σ H _ _ v u Q I rx ry ⟨S i, S j, rfl, rfl, by rw [S_len, S_len]; exact hz, by rw [S_app]; exact q⟩
theorem op_eqS : OpR X (compareOp .Eq) (fun x y H Q => ∃ i j, x = .str (S i) ∧ y = .str (S j) ∧ Q (.bl (decide (i = j))) H) := by
  intro pins s σ H x y v u Q I rx ry h
  obtain ⟨i, j, rfl, rfl, q⟩ := h
  exact op_eq pins s σ H _ _ v u Q I rx ry ⟨rfl, by rw [S_dec]; exact q⟩
theorem op_neS : OpR X (compareOp .NotEq) (fun x y H Q => ∃ i j, x = .str (S i) ∧ y = .str (S j) ∧ Q (.bl (!decide (i = j))) H) := by
  intro pins s σ H x y v u Q I rx ry h
  obtain ⟨i, j, rfl, rfl, q⟩ := h
  exact op_ne pins s σ H _ _ v u Q I rx ry ⟨rfl, by rw [S_dec]; exact q⟩
theorem op_eqI : OpR X (compareOp .Eq) (rI0 fun i j => .bl (decide (i = j))) := opB0 fun _ _ _ _ _ _ _ q => eq_int (by rw [Bool.beq_eq_decide_eq]; exact q)
theorem op_neI : OpR X (compareOp .NotEq) (rI0 fun i j => .bl (!decide (i = j))) := opB0 fun _ _ _ _ _ _ _ q => ne_int (by rw [bne, Bool.beq_eq_decide_eq]; exact q)
theorem call_lenL : CallR X (.builtin "len") (fun xs H Q => ∃ p ys, xs = [.ref p] ∧ SqL X.K H p ys ∧ Q (.int ys.length) H) := by
  intro pins s σ H xs us Q I r h
  obtain ⟨p, ys, e, hq, q⟩ := h
  exact call_len_seq pins s σ H xs us Q I r ⟨p, ys, e, .inl hq, q⟩
theorem call_lenT : CallR X (.builtin "len") (fun xs H Q => ∃ p ys, xs = [.ref p] ∧ SqT X.K H p ys ∧ Q (.int ys.length) H) := by
  intro pins s σ H xs us Q I r h
  obtain ⟨p, ys, e, hq, q⟩ := h
  exact call_len_seq pins s σ H xs us Q I r ⟨p, ys, e, .inr hq, q⟩
end
structure Cal (P : Program) (w : World) (K : PySem.W.Frag) (mg : Str → Option Value) (base : Heap) (k : Nat) (x : Str) (ps : List Str) (sp : Sp) : Prop where
  ex : ∃ (f : Addr) (fd : FuncData), FnOk P w K mg base CX0 k f fd ps sp ∧ Binds K fd ps [] ∧ PySem.W.keepIn K (.ref f) = true ∧ mg x = some (.ref f) ∧ ∃ oc od osl, K.lookup f = some ⟨oc, od, .func fd, osl⟩
structure DefAt (K : PySem.W.Frag) (mg : Str → Option Value) (x : Str) (st : Stmt) : Prop where
  ex : ∃ (f : Addr) (fd : FuncData), Fun K x x st f fd ∧ mg x = some (.ref f)
section
variable {P : Program} {w : World} {K : PySem.W.Frag} {mg : Str → Option Value} {base : Heap} {x : Str} {st : Stmt} {N ps : List Str} {k : Nat} {sp : Sp}
theorem DefAt.ok (D : DefAt K mg x st) (S : FnScope N ps (defScope st))
    (hb : ∀ (kV doc pm : Value) (an : Option Addr) (cdv ct : Value) (us : List Value), us.length = ps.length → bindArgs (PySem.W.fnOf x x (defArgs st) (defBody st) (defScope st) .none kV doc pm an cdv ct) ⟨us, []⟩ = pure (ps.zip us))
    (len : ∀ vs H Q E, sp vs H Q E → vs.length = ps.length)
    (hbody : ∀ (f : Addr) (cdv : Value) (A : Around) (outer : List Env) (s : Shared) (H : Hp) (vs : List V) (Q : VK) (E : XK), Room k (A.deeper (envOfC x (defScope st) s.heap.objs.size f cdv)) → sp vs H Q E →
      ∃ t, PSs (cxOf CX0 P w K mg base N x (defScope st) f cdv A outer s H E).nox (defBody st) t ∧ t { nx := fun _ H' => Q .non H', rt := Q } (start N vs) H) : Cal P w K mg base (k + 1) x ps sp := by
  obtain ⟨f, fd, F, hm⟩ := D.ex
  have lk : ∃ oc od osl, K.lookup f = some ⟨oc, od, .func fd, osl⟩ := by
    obtain ⟨oc, od, kV, doc, pm, an, cdv, ct, osl, rfl, lk, hcd⟩ := F.ex
    exact ⟨oc, od, osl, lk⟩
  exact ⟨f, fd, F.ok S len fun cdv A outer s H vs Q E hr h => hbody f cdv A outer s H vs Q E hr h, F.binds hb, F.kp, hm, lk⟩
theorem DefAt.mk' {K : PySem.W.Frag} {h : Heap} {mg : Str → Option Value} {x : Str} {st : Stmt} {f : Addr} {oc : Value} {od an : Option Addr} {osl : Array (Option Value)} {kV doc pm cdv ct : Value} (X : K.In h) (G : h.Ns mainGlobals mg)
    (a : PySem.W.nsIn K mainGlobals x = some (some (.ref f))) (l : K.lookup f = some ⟨oc, od, .func (PySem.W.fnOf x x (defArgs st) (defBody st) (defScope st) .none kV doc pm an cdv ct), osl⟩)
    (c : PySem.W.codeIn K cdv x = true) (k : PySem.W.keepIn K (.ref f) = true) : DefAt K mg x st := ⟨f, _, fun_mk (st := st) l c k, PySem.W.mg_of X G a⟩
end
section
variable {X : Cx} {k : Nat} {x : Str} {ps : List Str} {sp : Sp} {p pos : Pos} {e : Expr} {es : List Expr} {t : TA}
theorem pe_cal (C : Cal X.prog X.w X.K X.mg X.base k x ps sp) (hr : Room k X.A) (ha : PA X (e :: es) t) (hg : Gl X x := by rfl) (hdb : (x == ("__debug__" : Str)) = false := by decide) (he : starEach (e :: es) X.env = (false, eval e X.env) :: starEach es X.env := by rfl)
    (hpl : (backTo pos (starEach es X.env)).any (·.1) = false := by rfl) : PE X (.Call (.Name x p) (e :: es) [] pos) (tCall sp [] E0 t) := by
  obtain ⟨f, fd, F, hb, hk, hm, _⟩ := C.ex
  exact pe_call F hr hg hm hk hb .nil pass0 ha hdb he hpl
end
def spLaw (K : PySem.W.Frag) : Sp := fun vs H Q _ => ∃ (a : Addr) (ns : List Int), vs = [.ref a] ∧ SqL K H a (ns.map V.int) ∧ ns.length ≤ 63 ∧ ∀ H', Q (.bl true) H'
theorem law_at {P : Program} {w : World} {K : PySem.W.Frag} {mg : Str → Option Value} {fa : Addr} {st : Stmt} {k : Nat} {x : Str} (hfa : mg "law" = some (.ref fa)) (D : DefAt K mg "law" st)
    (hbind : ∀ (kV doc pm : Value) (an : Option Addr) (cdv ct : Value) (s : Shared) (v : Value), BindsTo s (PySem.W.fnOf "law" "law" (defArgs st) (defBody st) (defScope st) .none kV doc pm an cdv ct) ⟨[v], []⟩ [(x, v)])
    (h : ∀ base : Heap, Cal P w K mg base k "law" [x] (spLaw K)) :
    ∃ fd : FuncData, (∀ (s : Shared) (v : Value), BindsTo s fd ⟨[v], []⟩ [(x, v)]) ∧ ∀ base : Heap, K.In base → base.Ns mainGlobals mg → FnOk P w K mg base CX0 k fa fd [x] (spLaw K) := by
  obtain ⟨f, fd, F, hm⟩ := D.ex
  have e := hfa.symm.trans hm
  cases e
  obtain ⟨oc, od, kV, doc, pm, an, cdv, ct, osl, rfl, lk, hcd⟩ := F.ex
  refine ⟨_, fun s v => hbind kV doc pm an cdv ct s v, fun base kb nb => ?_⟩
  obtain ⟨f', fd', F', _, _, hm', oc', od', osl', lk'⟩ := (h base).ex
  have e := hfa.symm.trans hm'
  cases e
  rw [lk] at lk'
  cases lk'
  exact F'
theorem walk63 {l : PySem.W.OpenLaw} {q : Program} {loose : List Str} {XP : (Str → Option Value) → Heap → Prop} {YP : World → Heap → Prop} {d : DefRec} {K : Params → PySem.W.Frag} {k : Nat} {x : Str} (hn : l.most = some 63) (hdf : d.params.defaults = []) (hr : Room k callerA)
    (hY : ∀ (w : World) (h : Heap), YP w h → (K w.params).In h)
    (F : ∀ (w : World) (mg : Str → Option Value) (fa : Addr) (h : Heap), (K w.params).In h → h.Ns mainGlobals mg → mg d.name = some (.ref fa) →
      ∃ fd : FuncData, (∀ (s : Shared) (u : Value), BindsTo s fd ⟨[u], []⟩ [(x, u)]) ∧ ∀ base : Heap, (K w.params).In base → base.Ns mainGlobals mg → FnOk l.prog w (K w.params) mg base CX0 k fa fd [x] (spLaw (K w.params))) :
    PySem.W.WalkO q loose XP YP l.row.toRowW d [] (fun f vs => PySem.call f vs) :=
  walk_of (n := 63) (k := k) (x := x) (CX := fun _ => CX0) (sp := fun w => spLaw (K w.params)) hn (by decide) hdf hr hY F (fun _ _ a ns hl _ hS => ⟨a, ns, rfl, hS, hl, fun _ => rfl⟩) fun _ _ _ _ _ z => z
end L2
namespace L2
open PySem PySem.Spec PyProof.Rows
theorem atI_map {α β : Type} {f : α → β} {xs : List α} {i : Int} {v : α} (h : atI xs i = some v) : atI (xs.map f) i = some (f v) := by
  unfold atI at h ⊢
  rw [List.length_map]
  cases e : ixN xs.length i with
  | none => rw [e] at h; cases h
  | some j =>
    rw [e] at h
    show (xs.map f)[j]? = some (f v)
    have h' : xs[j]? = some v := h
    rw [List.getElem?_map, h']; rfl
theorem atI_of {α : Type} {xs : List α} {i : Int} {j : Nat} {v : α} (h : xs[j]? = some v) (e : i = (j : Int)) : atI xs i = some v := by subst e; exact atI_nat h
theorem sz (n : Nat) (h : n ≤ 1000000) : n ≤ sizeLine := by rw [sizeLine_eq]; omega
theorem ints_get {ns : List Int} {i : Nat} {x : V} (h : (ns.map V.int)[i]? = some x) : ∃ z, ns[i]? = some z ∧ x = .int z := by
  rw [List.getElem?_map] at h
  cases e : ns[i]? with
  | none => rw [e] at h; cases h
  | some z => rw [e] at h; exact ⟨z, rfl, (Option.some.inj h).symm⟩
end L2
namespace L2
open PySem PySem.Spec PyProof.Rows
section
variable {X : Cx} {st : Stmt} {t : TS}
def tJoin (t : TS) : TS := fun D σ H => ∃ J : St → Hp → Prop, t { D with nx := J } σ H ∧ ∀ σ' H', J σ' H' → D.nx σ' H'
theorem ps_join (h : PS X st t) : PS X st (tJoin t) := by
  intro pins s σ H D I q
  obtain ⟨J, q1, q2⟩ := q
  refine thn (h pins s σ H _ I q1) fun f s' r => ?_
  cases f with
  | next => obtain ⟨σ', H', I', r'⟩ := r; exact ⟨σ', H', I', q2 σ' H' r'⟩
  | brk => exact r
  | cont => exact r
  | ret u => exact r
end
theorem cutN_map {α β : Type} (f : α → β) (xs : List α) (lo hi : Option Int) : cutN (xs.map f) lo hi = (cutN xs lo hi).map f := by
  unfold cutN
  rw [List.length_map, List.map_take, List.map_drop]
theorem cutN_toI {α : Type} (l : List α) {k : Int} (h : 0 ≤ k) : cutN l none (some k) = l.take k.toNat := by
  have e : k = ((k.toNat : Nat) : Int) := by omega
  rw [e, cutN_to]; rfl
end L2
namespace L2
open PySem PySem.Spec PyProof.Rows
section
variable {prog : Program} {w : World} {A : Around} {E : Value → Shared → Prop} {s : Shared} {r : Addr} {a b c : Int} {t u v : Tok} {n : Nat}
end
end L2
namespace L2
open PySem PySem.Spec PyProof.Rows
theorem cellsFrom_cases {x : Str} {c : Addr} : ∀ (names : List (Str × NameKind)) (n : Nat) (acc : List (Str × Addr)), (cellsFrom n names acc).lookup x = some c → (n ≤ c ∧ (x, NameKind.cell) ∈ names) ∨ acc.lookup x = some c
  | [], n, acc, h => .inr h
  | (y, k) :: r, n, acc, h => by
    unfold cellsFrom at h
    split at h
    · rename_i hk
      have hk' : k = .cell := by simpa using hk
      subst hk'
      rcases cellsFrom_cases r (n + 1) ((y, n) :: acc) h with ⟨h1, h2⟩ | h1
      · exact .inl ⟨by omega, List.mem_cons_of_mem _ h2⟩
      · rw [List.lookup_cons] at h1
        cases e : x == y with
        | true =>
          rw [e] at h1
          have : n = c := Option.some.inj h1
          have ex : x = y := by simpa using e
          subst ex
          exact .inl ⟨by omega, List.mem_cons_self⟩
        | false => rw [e] at h1; exact .inr h1
    · rcases cellsFrom_cases r n acc h with ⟨h1, h2⟩ | h1
      · exact .inl ⟨h1, List.mem_cons_of_mem _ h2⟩
      · exact .inr h1
theorem cellsFrom_acc {x : Str} : ∀ (names : List (Str × NameKind)) (n : Nat) (acc : List (Str × Addr)), (x, NameKind.cell) ∉ names → (cellsFrom n names acc).lookup x = acc.lookup x
  | [], _, _, _ => rfl
  | (y, k) :: r, n, acc, h => by
    unfold cellsFrom
    split
    · rename_i hk
      have hk' : k = .cell := by simpa using hk
      subst hk'
      rw [cellsFrom_acc r (n + 1) _ (fun z => h (List.mem_cons_of_mem _ z)), List.lookup_cons]
      have : (x == y) = false := by
        rw [beq_eq_false_iff_ne]
        intro e; subst e; exact h List.mem_cons_self
      rw [this]
    · exact cellsFrom_acc r n acc (fun z => h (List.mem_cons_of_mem _ z))
theorem cellsFrom_inj {x y : Str} {c : Addr} : ∀ (names : List (Str × NameKind)) (n : Nat) (acc : List (Str × Addr)), (∀ z d, acc.lookup z = some d → d < n) →
    (cellsFrom n names acc).lookup x = some c → (cellsFrom n names acc).lookup y = some c → n ≤ c → x = y
  | [], n, acc, ha, h1, h2, hc => absurd (ha x c h1) (Nat.not_lt.mpr hc)
  | (z, k) :: r, n, acc, ha, h1, h2, hc => by
    unfold cellsFrom at h1 h2
    split at h1
    · rename_i hk
      rw [if_pos hk] at h2
      have ha' : ∀ w d, ((z, n) :: acc).lookup w = some d → d < n + 1 := fun w d e => by
        rw [List.lookup_cons] at e
        cases q : w == z with
        | true => rw [q] at e; cases e; exact Nat.lt_succ_self _
        | false => rw [q] at e; exact Nat.lt_succ_of_lt (ha w d e)
      by_cases hcn : n + 1 ≤ c
      · exact cellsFrom_inj r (n + 1) _ ha' h1 h2 hcn
      · have e : c = n := Nat.le_antisymm (Nat.not_lt.mp hcn) hc
        subst e
        have key : ∀ w : Str, (cellsFrom (c + 1) r ((z, c) :: acc)).lookup w = some c → w = z := fun w hw => by
          rcases cellsFrom_cases r (c + 1) _ hw with ⟨q, _⟩ | q
          · exact absurd q (Nat.not_succ_le_self _)
          · rw [List.lookup_cons] at q
            cases q2 : w == z with
            | true => simpa using q2
            | false => rw [q2] at q; exact absurd (ha w c q) (Nat.lt_irrefl _)
        rw [key x h1, key y h2]
    · rename_i hk
      rw [if_neg hk] at h2
      exact cellsFrom_inj r n acc ha h1 h2 hc
def closL (env : Env) : List (Str × NameKind) → List (Str × Addr) → List (Str × Addr)
  | [], acc => acc
  | (n, k) :: r, acc => if (k == .free) = true then closL env r ((n, (env.cells.lookup n).getD 0) :: acc) else closL env r acc
theorem closL_cases {env : Env} {x : Str} {c : Addr} : ∀ (names : List (Str × NameKind)) (acc : List (Str × Addr)), (closL env names acc).lookup x = some c → ((x, NameKind.free) ∈ names ∧ c = (env.cells.lookup x).getD 0) ∨ acc.lookup x = some c
  | [], acc, h => .inr h
  | (y, k) :: r, acc, h => by
    unfold closL at h
    split at h
    · rename_i hk
      have hk' : k = .free := by simpa using hk
      subst hk'
      rcases closL_cases r _ h with ⟨h1, h2⟩ | h1
      · exact .inl ⟨List.mem_cons_of_mem _ h1, h2⟩
      · rw [List.lookup_cons] at h1
        cases e : x == y with
        | true =>
          rw [e] at h1
          have ex : x = y := by simpa using e
          subst ex
          exact .inl ⟨List.mem_cons_self, (Option.some.inj h1).symm⟩
        | false => rw [e] at h1; exact .inr h1
    · rcases closL_cases r acc h with ⟨h1, h2⟩ | h1
      · exact .inl ⟨List.mem_cons_of_mem _ h1, h2⟩
      · exact .inr h1
theorem closL_has {env : Env} {x : Str} : ∀ (names : List (Str × NameKind)) (acc : List (Str × Addr)), ((x, NameKind.free) ∈ names ∨ (acc.lookup x).isSome = true) → ((closL env names acc).lookup x).isSome = true
  | [], acc, h => h.elim (fun z => nomatch z) id
  | (y, k) :: r, acc, h => by
    unfold closL
    split
    · rename_i hk
      refine closL_has r _ ?_
      by_cases e : (x == y) = true
      · exact .inr (by rw [List.lookup_cons, e]; rfl)
      · rcases h with h | h
        · rcases List.mem_cons.mp h with z | z
          · cases z; exact absurd (by simp) e
          · exact .inl z
        · exact .inr (by rw [List.lookup_cons]; rw [Bool.not_eq_true] at e; rw [e]; exact h)
    · rename_i hk
      refine closL_has r acc ?_
      rcases h with h | h
      · rcases List.mem_cons.mp h with z | z
        · cases z; exact absurd rfl hk
        · exact .inl z
      · exact .inr h
theorem closureFor_closL {scope : Scope} {env : Env} (h : ∀ x ∈ scope.names, x.2 = .free → ∃ c, env.cells.lookup x.1 = some c) : closureFor scope env = pure (closL env scope.names []) := by
  unfold closureFor
  have key : ∀ (names : List (Str × NameKind)) (acc : List (Str × Addr)), (∀ x ∈ names, x.2 = .free → ∃ c, env.cells.lookup x.1 = some c) →
      (forIn names acc fun (x : Str × NameKind) (r : List (Str × Addr)) => (if (x.2 == NameKind.free) = true then do let y ← cellOf env x.1; pure (ForInStep.yield ((x.1, y) :: r)) else pure (ForInStep.yield r) : Sem _)) = pure (closL env names acc) := by
    intro names
    induction names with
    | nil => intro acc _; rfl
    | cons p r ih =>
      intro acc hp
      obtain ⟨n, k⟩ := p
      rw [List.forIn_cons]
      have hr : ∀ x ∈ r, x.2 = .free → ∃ c, env.cells.lookup x.1 = some c := fun x hx => hp x (List.mem_cons_of_mem _ hx)
      unfold closL
      by_cases hk : (k == NameKind.free) = true
      · obtain ⟨c, hc⟩ := hp (n, k) List.mem_cons_self (by simpa using hk)
        have hc' : env.cells.lookup n = some c := hc
        have e1 : cellOf env n = pure c := by unfold cellOf; rw [hc']
        simp only [hk, if_true]
        rw [e1, hc']
        simp only [pure_bind]
        exact ih _ hr
      · rw [if_neg hk, if_neg hk]
        simp only [pure_bind]
        exact ih _ hr
  have e := key scope.names [] h
  have e2 : ∀ (m : Sem (List (Str × Addr))), (m >>= fun r => pure r) = m := fun m => bind_pure m
  rw [← e]
  first
    | rfl
    | exact (e2 _)
end L2
namespace L2
open PySem PySem.Spec PyProof.Rows
def compEnv (scope : Scope) (C : Addr) (env : Env) : Env :=
  { scope := relabel scope env, locals := C, globals := env.globals, cells := cellsFrom (C + 1) scope.names (closL env scope.names []), qual := env.qual, func := none, code := env.code, frame := env.frame, builtins := env.builtins }
def compCx (X : Cx) (N' : List Str) (scope : Scope) (s : Shared) (H : Hp) (fp : List Addr) (pins : List (Addr × Obj)) : Cx :=
  { X with N := N', s₀ := s, H₀ := H, env := compEnv scope s.heap.objs.size X.env, outer := X.stack, stack := X.stack, ex := fp, fn := fun x => decide ((x, NameKind.cell) ∈ scope.names), pn := X.pn ++ pins, xe := fun _ _ => False }
def compChk (sc0 : Scope) (N : List Str) (scope : Scope) (N' : List Str) (ix : List (Option Nat)) : Bool :=
  decide (scope.kind = .function) && scope.names.all (fun y => (!decide (y.2 = .local) || decide (scope.names.lookup y.1 = some .local)) &&
    (!decide (y.2 = .free) || ((decide (sc0.names.lookup y.1 = some .cell) || decide (sc0.names.lookup y.1 = some .free)) && !decide ((y.1, NameKind.cell) ∈ scope.names)))) &&
  decide (N'.length = ix.length) && (N'.zip ix).all (fun p => match p.2 with | none => true | some j => decide (N[j]? = some p.1) && decide (scope.names.lookup p.1 = some .free))
structure CompOk (env : Env) (N : List Str) (scope : Scope) (N' : List Str) (ix : List (Option Nat)) : Prop where
  kind : scope.kind = .function
  loc : ∀ y ∈ scope.names, y.2 = .local → scope.names.lookup y.1 = some .local
  free : ∀ y ∈ scope.names, y.2 = .free → (env.kindOf y.1 = some .cell ∨ env.kindOf y.1 = some .free) ∧ (y.1, NameKind.cell) ∉ scope.names
  len : N'.length = ix.length
  slot : ∀ (i : Nat) (x : Str) (j : Nat), N'[i]? = some x → ix[i]? = some (some j) → N[j]? = some x ∧ scope.names.lookup x = some .free
theorem compOk_of {env : Env} {N : List Str} {scope : Scope} {N' : List Str} {ix : List (Option Nat)} (h : compChk env.scope N scope N' ix = true) : CompOk env N scope N' ix := by
  unfold compChk at h
  simp only [Bool.and_eq_true, decide_eq_true_eq, List.all_eq_true] at h
  obtain ⟨⟨⟨h1, h2⟩, h3⟩, h4⟩ := h
  refine ⟨h1, fun y hy e => ?_, fun y hy e => ?_, h3, fun i x j e1 e2 => ?_⟩
  · have := (h2 y hy).1
    rw [e] at this
    simpa using this
  · have := (h2 y hy).2
    rw [e] at this
    simpa [Env.kindOf] using this
  · have hm : (x, some j) ∈ N'.zip ix := by
      refine List.mem_of_getElem? (i := i) ?_
      rw [List.getElem?_zip_eq_some]
      exact ⟨e1, e2⟩
    have := h4 _ hm
    simpa using this
def rlf (env : Env) (p : Str × NameKind) : Str × NameKind := match p with | (n, k) => if (k == NameKind.free && env.scope.kind == .function && env.kindOf n == some .cell) then (n, .cell) else (n, k)
theorem rlf_fst (env : Env) (n : Str) (k : NameKind) : ∃ k', rlf env (n, k) = (n, k') ∧ (k' = k ∨ (k = .free ∧ k' = .cell)) := by
  unfold rlf
  by_cases c : (k == NameKind.free && env.scope.kind == .function && env.kindOf n == some .cell) = true
  · refine ⟨.cell, if_pos c, .inr ⟨?_, rfl⟩⟩
    simp only [Bool.and_eq_true, beq_iff_eq] at c
    exact c.1.1
  · exact ⟨k, if_neg c, .inl rfl⟩
theorem rlf_free {env : Env} : ∀ {names : List (Str × NameKind)} {x : Str}, names.lookup x = some .free → (names.map (rlf env)).lookup x = some .cell ∨ (names.map (rlf env)).lookup x = some .free
  | [], _, h => by simp at h
  | (n, k) :: r, x, h => by
    have ih := @rlf_free env r x
    obtain ⟨k', e, hk'⟩ := rlf_fst env n k
    rw [List.map_cons, e]
    cases hx : x == n with
    | true =>
      simp only [List.lookup_cons, hx] at h ⊢
      have hk : k = .free := Option.some.inj h
      rcases hk' with z | z
      · right; rw [z, hk]
      · left; rw [z.2]
    | false =>
      simp only [List.lookup_cons, hx] at h ⊢
      exact ih h
theorem rlf_back {env : Env} : ∀ {names : List (Str × NameKind)} {x : Str} {k' : NameKind}, (names.map (rlf env)).lookup x = some k' → k' = .cell ∨ k' = .free → names.lookup x = some .cell ∨ names.lookup x = some .free
  | [], _, _, h, _ => by simp at h
  | (n, k) :: r, x, k', h, hk' => by
    have ih := @rlf_back env r x k'
    obtain ⟨k2, e, hk2⟩ := rlf_fst env n k
    rw [List.map_cons, e] at h
    cases hx : x == n with
    | true =>
      simp only [List.lookup_cons, hx] at h ⊢
      have : k2 = k' := Option.some.inj h
      subst this
      rcases hk2 with z | z
      · rw [← z]
        rcases hk' with q | q
        · left; rw [q]
        · right; rw [q]
      · right; rw [z.1]
    | false =>
      simp only [List.lookup_cons, hx] at h ⊢
      exact ih h hk'
theorem cells_own {x : Str} {c : Addr} : ∀ (names : List (Str × NameKind)) (n : Nat) (acc : List (Str × Addr)), (cellsFrom n names acc).lookup x = some c → (x, c) ∈ cellsFrom n names [] ∨ acc.lookup x = some c := by
  have app : ∀ (names : List (Str × NameKind)) (n : Nat) (acc : List (Str × Addr)), cellsFrom n names acc = cellsFrom n names [] ++ acc := by
    intro names
    induction names with
    | nil => intro n acc; rfl
    | cons p r ih =>
      intro n acc
      obtain ⟨y, k⟩ := p
      unfold cellsFrom
      split
      · rw [ih (n + 1) ((y, n) :: acc), ih (n + 1) [(y, n)], List.append_assoc]; rfl
      · exact ih n acc
  intro names n acc h
  rw [app] at h
  rw [List.lookup_append] at h
  cases e : (cellsFrom n names []).lookup x with
  | some d =>
    rw [e] at h
    have : d = c := by simpa using h
    subst this
    exact .inl (mem_of_lookup e)
  | none => rw [e] at h; exact .inr (by simpa using h)
def sub0 (ix : List (Option Nat)) (σ : St) : St := ix.map fun o => match o with
  | none => none
  | some j => match σ[j]? with
    | some v => v
    | none => none
section
variable {X : Cx} {pins : List (Addr × Obj)} {σ : St} {H : Hp} {s : Shared}
theorem comp_inv {N' : List Str} {ix : List (Option Nat)} {scope : Scope} {fp : List Addr} (ok : CompOk X.env X.N scope N' ix) (I : Inv X pins σ H s) (hf : ∀ b ∈ fp, FpOk X pins H b) (hfl : ∀ b ∈ fp, b < s.heap.objs.size) :
    Inv (compCx X N' scope s H fp pins) [] (sub0 ix σ) H { s with heap := pushCells (s.heap.push { cls := .type "dict", data := .dict #[] }) scope.names } := by
  have hk4 : ∀ b o, s.heap.get? b = some o → (pushCells (s.heap.push { cls := .type "dict", data := .dict #[] }) scope.names).get? b = some o := fun b o e => pushCells_keeps _ _ b o (Heap.get?_push_of_some _ e)
  have hclo : ∀ x c, (closL X.env scope.names []).lookup x = some c → X.env.cells.lookup x = some c := fun x c e => by
    rcases closL_cases scope.names [] e with ⟨h1, h2⟩ | h1
    · obtain ⟨d, hd⟩ := I.ok.has x (ok.free _ h1 rfl).1
      rw [hd] at h2 ⊢
      rw [h2]; rfl
    · cases h1
  have hcl : ∀ x c, X.env.cells.lookup x = some c → c < s.heap.objs.size := fun x c e => by
    obtain ⟨v, q⟩ := I.cell x c e
    exact q.lt
  have own := cellsFrom_ok scope.names (s.heap.push { cls := .type "dict", data := .dict #[] }) (s.heap.objs.size + 1) [] ⟨fun _ _ hm => (nomatch hm), List.Pairwise.nil⟩ (by rw [Heap.size_push]; exact Nat.le_refl _)
  rw [Heap.size_push] at own
  have cases : ∀ x c, (cellsFrom (s.heap.objs.size + 1) scope.names (closL X.env scope.names [])).lookup x = some c →
      ((pushCells (s.heap.push { cls := .type "dict", data := .dict #[] }) scope.names).IsCell c none ∧ s.heap.objs.size + 1 ≤ c) ∨ X.env.cells.lookup x = some c := fun x c e => by
    rcases cells_own _ _ _ e with h | h
    · exact .inl (own.empty x c h)
    · exact .inr (hclo x c h)
  have fs' : ∀ b, b ∈ frs X.stack → b < s.heap.objs.size := fun b hb => by
    rcases List.mem_cons.mp (I.stkSub b hb) with z | z
    · rw [z]; exact I.lt
    · by_cases q : b < s.heap.objs.size
      · exact q
      · exact absurd z (I.nofs (Nat.not_lt.mp q))
  have cix : (compCx X N' scope s H fp pins).Ok := by
    refine ⟨I.ok.mod, ok.kind, I.ok.glob, I.ok.blt, Nat.le_refl _, fun x y c h1 h2 => ?_, fun x hx => ?_, fun x c hx e => ?_, I.ok.hd, I.ok.frames, .inl rfl, fun b hb => ⟨Nat.ne_of_lt (hfl b hb), fun x c e => ?_⟩, fun b o e => I.bs b o e, Nat.le_trans I.ok.bsz I.sz, fun b o e hb => ?_, fun b hb => ?_, I.stack, I.stkFree⟩
    · rcases cases x c h1 with ⟨_, z⟩ | z
      · exact cellsFrom_inj scope.names _ _ (fun w d e => Nat.lt_succ_of_lt (hcl w d (hclo w d e))) h1 h2 z
      · rcases cases y c h2 with ⟨_, z2⟩ | z2
        · exact absurd (hcl x c z) (Nat.not_lt.mpr (Nat.le_of_succ_le z2))
        · exact I.ok.inj x y c z z2
    · have hx' : scope.names.lookup x = some .cell ∨ scope.names.lookup x = some .free := by
        rcases hx with z | z
        · exact rlf_back (env := X.env) z (.inl rfl)
        · exact rlf_back (env := X.env) z (.inr rfl)
      rcases hx' with z | z
      · exact Option.isSome_iff_exists.mp (PySem.W.cellsFrom_some scope.names _ _ (.inl z))
      · exact Option.isSome_iff_exists.mp (PySem.W.cellsFrom_some scope.names _ _ (.inr (closL_has _ _ (.inl (mem_of_lookup z)))))
    · have hx' : (x, NameKind.cell) ∈ scope.names := of_decide_eq_true hx
      rcases cases x c e with ⟨_, z⟩ | z
      · exact Nat.le_of_succ_le z
      · rcases cells_own _ _ _ e with h | h
        · exact Nat.le_of_succ_le (own.empty x c h).2
        · rcases closL_cases scope.names [] h with ⟨h1, _⟩ | h1
          · exact absurd hx' (ok.free _ h1 rfl).2
          · cases h1
    · intro z
      rcases cases x c e with ⟨_, z2⟩ | z2
      · rw [z] at z2; exact absurd (hfl b hb) (Nat.not_lt.mpr (Nat.le_of_succ_le z2))
      · exact (hf b hb).2.2.2.2.1 x c z2 z
    · rcases (hf b hb).2.2.2.1 with z | z
      · exact I.ok.noex b o e z
      · exact absurd (Heap.lt_size (I.ok.bs b o e).1) (Nat.not_lt.mpr z)
    · intro z
      rcases List.mem_cons.mp (I.stkSub b z) with q | q
      · exact (hf b hb).2.1 q
      · exact (hf b hb).2.2.1 q
  refine ⟨cix, rfl, I.bare, Un.kept hk4, ⟨fun _ => none, ?_, fun i x v e1 e2 e3 => ?_⟩, fun x c e => ?_, I.hok.fresh (Nat.le_refl _), fun x c e => ?_, fun p hp => ?_, I.hok.kept hk4, ?_⟩
  · exact (Heap.Ns.new s.heap (.type "dict")).keeps (pushCells_keeps _ _)
  · have e2' : ∃ j, ix[i]? = some (some j) ∧ σ[j]? = some (some v) := by
      unfold sub0 at e2
      rw [List.getElem?_map] at e2
      cases q : ix[i]? with
      | none => rw [q] at e2; cases e2
      | some o =>
        rw [q] at e2
        cases o with
        | none => cases (Option.some.inj e2)
        | some j =>
          refine ⟨j, rfl, ?_⟩
          have e2'' : (match σ[j]? with | some v => v | none => none) = some v := Option.some.inj e2
          cases r : σ[j]? with
          | none => rw [r] at e2''; cases e2''
          | some w => rw [r] at e2''; exact congrArg some e2''
    obtain ⟨j, hj, hv⟩ := e2'
    obtain ⟨hN, hfr⟩ := ok.slot i x j e1 hj
    have hk := (ok.free _ (mem_of_lookup hfr) rfl).1
    have hvis : Vis X.env.scope x := by
      rcases hk with z | z
      · exact .inr (.inl z)
      · exact .inr (.inr z)
    obtain ⟨m, hn, hl⟩ := I.loc
    obtain ⟨u, ru, lk⟩ := hl j x v hN hv hvis
    refine ⟨u, ru, .inr ⟨?_, ?_⟩⟩
    · exact rlf_free (env := X.env) hfr
    · rcases lk with ⟨z, _⟩ | ⟨_, c, hc, hcell⟩
      · rcases hk with q | q
        · rw [z] at q; cases q
        · rw [z] at q; cases q
      · refine ⟨c, ?_, hcell.keeps hk4⟩
        show (cellsFrom (s.heap.objs.size + 1) scope.names (closL X.env scope.names [])).lookup x = some c
        rw [cellsFrom_acc scope.names _ _ (ok.free _ (mem_of_lookup hfr) rfl).2]
        obtain ⟨d, hd⟩ := Option.isSome_iff_exists.mp (closL_has (env := X.env) scope.names [] (.inl (mem_of_lookup hfr)))
        rw [hd, ← hclo x d hd, hc]
  · rcases cases x c e with ⟨z, _⟩ | z
    · exact ⟨none, z⟩
    · obtain ⟨v, q⟩ := I.cell x c z
      exact ⟨v, q.keeps hk4⟩
  · rcases cases x c e with ⟨_, z⟩ | z
    · exact I.hok.fresh (Nat.le_of_succ_le z)
    · exact I.freeC x c z
  · have hp' : p ∈ X.pn ++ pins := by simpa [compCx] using hp
    obtain ⟨q1, q2, q3, q4, q5⟩ := I.pin p hp'
    refine ⟨hk4 _ _ q1, q2, Nat.ne_of_lt (Heap.lt_size q1), fun z => ?_, q5⟩
    rcases List.mem_cons.mp (I.stkSub p.1 z) with q | q
    · exact q3 q
    · exact q4 q
  · unfold sub0
    rw [List.length_map]
    exact ok.len.symm
end
end L2
namespace L2
open PySem PySem.Spec PyProof.Rows
section
variable {M : Model} {A : Around} {E : Value → Shared → Prop} {s : Shared}
theorem newFunctionEnv_comp {scope : Scope} {globals : Addr} {cl : List (Str × Addr)} {qual : Str} {func : Option Addr} {code : Value} {env : Env} {Q : Env → Shared → Prop}
    (hQ : Q { scope := scope, locals := s.heap.objs.size, globals := globals, cells := cellsFrom (s.heap.objs.size + 1) scope.names cl, qual := qual, func := func, code := env.code, frame := env.frame, builtins := env.builtins }
      { s with heap := pushCells (s.heap.push { cls := .type "dict", data := .dict #[] }) scope.names }) :
    wpAny M A (newFunctionEnv scope globals cl [] qual func code (some env)) Q E s := by
  simp only [newFunctionEnv, Option.isSome_some, if_true]
  refine wpAny_bind (wpAny_alloc ?_)
  refine wpAny_bind (wpAny_layCells _ (fun name kind cells => by cases hkc : kind == NameKind.cell <;> simp [hkc]) _ _ _ _ ?_)
  rw [show ({ s with heap := s.heap.push { cls := .type "dict", data := .dict #[] } } : Shared).heap.objs.size = s.heap.objs.size + 1 from Heap.size_push ..]
  simp only [List.forIn_nil]
  exact wpAny_bind (wpAny_pure (wpAny_pure hQ))
end
section
variable {prog : Program} {w : World} {A : Around} {R : Result → Shared → Prop} {s : Shared}
theorem codeAny_comp {elt target iter : Expr} {ifs : List Expr} {scope : Scope} {pos : Pos} {it acc : Value} {env : Env} (I : Nat → Shared → Prop)
    (turn : ∀ n s, I n s → wpAny (model prog w) A (pyNext it) (fun r s₁ => match r with
      | none => R (.ok .next) s₁
      | some v => wpAny (model prog w) A (letOwnedTupleGo target it v) (fun _ s₂ => wpAny (model prog w) A (assign target env v) (fun _ s₃ =>
          wpAny (model prog w) A (forIn ifs true fun c r => if r = true then do let ok ← isTrue c env (eval c env); pure (ForInStep.yield ok) else pure (ForInStep.yield r)) (fun ok s₄ =>
            if ok = true then wpAny (model prog w) A (eval elt env) (fun x s₅ =>
              wpAny (model prog w) A (call (.builtin "list.append") [acc, x]) (fun _ s₆ => ∃ m, m < n ∧ I m s₆) (fun _ _ => False) s₅) (fun _ _ => False) s₄
            else ∃ m, m < n ∧ I m s₄) (fun _ _ => False) s₃) (fun _ _ => False) s₂) (fun _ _ => False) s₁) (fun _ _ => False) s)
    (n : Nat) (h : I n s) :
    codeAny (model prog w) A (.compLoop (.ListComp elt [⟨target, iter, ifs, 0⟩] scope pos) 0 it acc env) R s := by
  refine codeAny_loop rfl I (fun n s hI => ?_) n h
  show wpAny _ A ((compTurn (.ListComp elt [⟨target, iter, ifs, 0⟩] scope pos) 0 it acc env).onRaise (fun x => do noteFrame x env; theTreesLotGoes x)) _ _ s
  refine wpAny_noted ?_
  rw [compTurn_list]
  refine wpAny_bind (wpAny_standAt (wpAny_bind (wpAny_mono (turn n s hI) (fun r s₁ h₁ => ?_) fun _ _ h' => h'.elim)))
  cases r with
  | none => exact wpAny_pure h₁
  | some v =>
    refine wpAny_bind (wpAny_mono h₁ (fun _ s₂ h₂ => ?_) fun _ _ h' => h'.elim)
    refine wpAny_bind (wpAny_mono h₂ (fun _ s₃ h₃ => wpAny_bind (wpAny_mono h₃ (fun ok s₄ h₄ => ?_) fun _ _ h' => h'.elim)) fun _ _ h' => h'.elim)
    cases ok with
    | false => exact wpAny_pure ⟨rfl, h₄⟩
    | true =>
      exact wpAny_bind (wpAny_bind (wpAny_mono h₄ (fun x s₅ h₅ => wpAny_bind (wpAny_mono h₅ (fun _ s₆ h₆ => wpAny_pure (wpAny_pure ⟨rfl, h₆⟩)) fun _ _ h' => h'.elim)) fun _ _ h' => h'.elim))
end
def PIf (X : Cx) (ifs : List Expr) (t : TT) : Prop :=
  ∀ (pins : List (Addr × Obj)) (s : Shared) (σ : St) (H : Hp) (Q : Bool → Hp → Prop), Inv X pins σ H s → t σ H Q →
    wpAny (model X.prog X.w) X.A (forIn ifs true fun c r => if r = true then do let ok ← isTrue c X.env (eval c X.env); pure (ForInStep.yield ok) else pure (ForInStep.yield r)) (TP X pins σ Q) X.xe s
def tYes : TT := fun _ H Q => Q true H
section
variable {X : Cx}
theorem pif_nil : PIf X [] tYes := fun _ _ _ H _ I h => wpAny_tests_nil ⟨H, I, h⟩
theorem pif_one {c : Expr} {t : TT} (h : PT X c t) : PIf X [c] t := fun pins s σ H Q I q => wpAny_tests_one (h pins s σ H Q I q)
end
def tComp (ix : List (Option Nat)) (wi : TI) (g : TG) (tts : TT) (te : TE) : TE := fun σ H Q => wi σ H fun J H1 => ∀ D, H1 D = none → ∃ W : Nat → Nat → St → Hp → Prop, (∃ m, W 0 m (sub0 ix σ) (upd H1 D (.lst []))) ∧ ∀ i m τ H2, W i m τ H2 →
  (J.stop i H2 ∧ Q (.ref D) H2) ∨ (J.go i H2 ∧ ∀ x H3, J.yld i H2 x H3 → g x τ H3 fun τ2 H4 => tts τ2 H4 fun ok H5 => if ok = true then te τ2 H5 fun v H6 => ∃ ys, H6 D = some (.lst ys) ∧ ys.length < sizeLine ∧ ∃ m', m' < m ∧ W (i + 1) m' τ2 (upd H6 D (.lst (ys ++ [v])))
    else ∃ m', m' < m ∧ W (i + 1) m' τ2 H5)
section
variable {X : Cx} {tg iter elt : Expr} {ifs : List Expr} {scope : Scope} {N' : List Str} {ix : List (Option Nat)} {wi : TI} {g : TG} {tts : TT} {te : TE}
theorem comp_core {use : Option (Value → Sem Unit)} {Qf : Value → Shared → Prop} {pos p' : Pos} {pins : List (Addr × Obj)} {σ : St} {H : Hp} {s : Shared} {Q : VK} (hc : X.calm = true) (ok : CompOk X.env X.N scope N' ix) (hi : PI X tg iter wi)
    (blk : ∀ s H fp pn, PG (compCx X N' scope s H fp pn) tg g ∧ PIf (compCx X N' scope s H fp pn) ifs tts ∧ PE (compCx X N' scope s H fp pn) elt te)
    (hs : ∀ x, foldedSetIterable iter X.env x = pure x) (I : Inv X pins σ H s) (hw : tComp ix wi g tts te σ H Q)
    (fin : ∀ D C H' s', Inv X pins σ H' s' → Q (.ref D) H' → (∃ m, s'.heap.Ns C m) → H' C = none → X.s₀.heap.objs.size ≤ C → C ≠ X.env.locals → (∀ x c, X.env.cells.lookup x = some c → c ≠ C) → C ∉ X.fs → (∀ p ∈ X.pn ++ pins, p.1 ≠ C) →
      compPost (model X.prog X.w) X.A X.xe use Qf (.ref D) C (.ok .next) s') :
    wpAny (model X.prog X.w) X.A (comprehension (.ListComp elt [⟨tg, iter, ifs, 0⟩] scope pos) scope X.env p' (newList []) false (eval iter X.env) use) Qf X.xe s := by
  have hclos : closureFor scope X.env = pure (closL X.env scope.names []) := closureFor_closL fun y hy e => I.ok.has y.1 (ok.free y hy e).1
  refine wpAny_comprehension_free (use := use) rfl hs hclos ok.kind ok.loc (thn (hi pins s σ H _ I hw) fun v s1 h1 => thn h1 fun itv s2 h2 => ?_)
  obtain ⟨it, fp, tn, J, H2, e, I2, T, st2, f2, hW⟩ := h2
  subst e
  obtain ⟨W, ⟨m0, w0⟩, turn⟩ := hW s2.heap.objs.size (I2.hok.fresh (Nat.le_refl _))
  have hfl : ∀ b ∈ fp, b < s2.heap.objs.size := fun b hb => by
    obtain ⟨o, e, _⟩ := T.obj 0 _ st2 b hb
    exact Heap.lt_size e
  refine wpAny_newObj_type ?_
  have I3 : Inv X pins σ (upd H2 s2.heap.objs.size (.lst [])) { s2 with heap := s2.heap.push { cls := .type "list", dict := none, data := .seq ([] : List Value).toArray } } :=
    I2.laid (t' := s2.toks) (fun b o e => Heap.get?_push_of_some _ e) (Nat.le_refl _) (show ObjOk X.prog X.w _ _ _ (.lst []) from ⟨Nat.zero_le _, [], 0, .nil, Heap.get?_push_size _ rfl⟩)
  have st3 : tn 0 (s2.heap.push { cls := .type "list", dict := none, data := .seq ([] : List Value).toArray }) := T.keep 0 _ _ st2 fun b _ o e => Heap.get?_push_of_some _ e
  have f3 : ∀ b ∈ fp, FpOk X pins (upd H2 s2.heap.objs.size (.lst [])) b := fun b hb => ⟨by rw [upd_ne (Nat.ne_of_lt (hfl b hb))]; exact (f2 b hb).1, (f2 b hb).2⟩
  have hfl3 : ∀ b ∈ fp, b < (s2.heap.push { cls := .type "list", dict := none, data := .seq ([] : List Value).toArray }).objs.size := fun b hb => by rw [Heap.size_push]; exact Nat.lt_succ_of_lt (hfl b hb)
  generalize hs3 : ({ s2 with heap := s2.heap.push { cls := .type "list", dict := none, data := .seq ([] : List Value).toArray } } : Shared) = s3 at I3 ⊢
  have eh3 : s3.heap = s2.heap.push { cls := .type "list", dict := none, data := .seq ([] : List Value).toArray } := by rw [← hs3]
  rw [← eh3] at st3 hfl3
  generalize hH3 : upd H2 s2.heap.objs.size (.lst []) = H3 at I3 f3 w0
  generalize hD : s2.heap.objs.size = D at *
  refine newFunctionEnv_comp ?_
  have I4 := comp_inv ok I3 f3 hfl3
  obtain ⟨hg, ht, he⟩ := blk s3 H3 fp pins
  have st4 : tn 0 (pushCells (s3.heap.push { cls := .type "dict", data := .dict #[] }) scope.names) := T.keep 0 _ _ st3 fun b _ o e => pushCells_keeps _ _ b o (Heap.get?_push_of_some _ e)
  have stat : ∀ {H' : Hp}, (∀ b ∈ fp, H' b = none) → ∀ b ∈ fp, FpOk (compCx X N' scope s3 H3 fp pins) [] H' b := fun hn b hb => by
    refine ⟨hn b hb, Nat.ne_of_lt (hfl3 b hb), I4.ok.exfs b hb, .inl hb, (I4.ok.exf b hb).2, fun p hp => ?_⟩
    have hp' : p ∈ X.pn ++ pins := by simpa [compCx] using hp
    exact (f2 b hb).2.2.2.2.2 p hp'
  have loop : ∀ (s4 : Shared), Inv (compCx X N' scope s3 H3 fp pins) [] (sub0 ix σ) H3 s4 → tn 0 s4.heap →
      codeAny (model X.prog X.w) X.A (.compLoop (.ListComp elt [⟨tg, iter, ifs, 0⟩] scope pos) 0 (.ref it) (.ref D) (compEnv scope s3.heap.objs.size X.env)) (compPost (model X.prog X.w) X.A X.xe use Qf (.ref D) s3.heap.objs.size) s4 := by
    intro s4 I4 st4
    refine codeAny_comp (fun n s' => ∃ i τ H', Inv (compCx X N' scope s3 H3 fp pins) [] τ H' s' ∧ tn i s'.heap ∧ (∀ b ∈ fp, H' b = none) ∧ W i n τ H') ?_ m0 ⟨0, _, H3, I4, st4, fun b hb => (f3 b hb).1, w0⟩
    rintro n s5 ⟨i, τ, H5, I5, st5, fr5, w5⟩
    rcases turn i n τ H5 w5 with ⟨stop, qn⟩ | ⟨go, step⟩
    · refine thn (T.done (compCx X N' scope s3 H3 fp pins) rfl rfl rfl hc i [] s5 τ H5 (fun _ _ => False) I5 (stat fr5) st5 stop) fun r s6 ⟨hr, I6⟩ => ?_
      subst hr
      have I7 : Inv X pins σ H5 s6 := I3.call' (ch := fp) I6.os I6.base I6.hok I6.bare fun b hb => ⟨(f2 b hb).2.2.2.1, (f2 b hb).2.1, (f2 b hb).2.2.2.2.1, (f2 b hb).2.2.2.2.2⟩
      obtain ⟨m6, hn6, _⟩ := I6.loc
      refine fin D s3.heap.objs.size H5 s6 I7 qn ⟨m6, hn6⟩ I6.free ?_ ?_ ?_ ?_ ?_
      · exact I3.sz
      · exact Nat.ne_of_gt I3.lt
      · intro x c e z
        obtain ⟨v, q⟩ := I3.cell x c e
        have := q.lt
        rw [z] at this
        exact Nat.lt_irrefl _ this
      · exact I3.nofs (Nat.le_refl _)
      · intro p hp z
        have := Heap.lt_size (I3.pin p hp).1
        rw [z] at this
        exact Nat.lt_irrefl _ this
    · refine thn (T.item (compCx X N' scope s3 H3 fp pins) rfl rfl rfl hc i [] s5 τ H5 (fun _ _ => False) I5 (stat fr5) st5 go) fun r s6 ⟨u, hr, h6⟩ => ?_
      subst hr
      refine thn h6 fun _ s7 ⟨x, H7, I7, r7, y7, st7, fr7⟩ => ?_
      have I7' := I7.pinned (stat fr7) (T.obj _ _ st7)
      have again : ∀ {s8 : Shared} {τ8 : St} {H8 : Hp}, Inv (compCx X N' scope s3 H3 fp pins) ([] ++ pinsAt fp s7.heap) τ8 H8 s8 → (∃ m', m' < n ∧ W (i + 1) m' τ8 H8) →
          ∃ m, m < n ∧ ∃ i τ H', Inv (compCx X N' scope s3 H3 fp pins) [] τ H' s8 ∧ tn i s8.heap ∧ (∀ b ∈ fp, H' b = none) ∧ W i m τ H' := fun {s8 τ8 H8} I8 ⟨m', hm, w8⟩ => by
        refine ⟨m', hm, i + 1, τ8, H8, I8.unpinned, T.keep _ _ _ st7 fun b hb o e => (I8.pin (b, o) (List.mem_append_right _ (List.mem_append_right _ (mem_pinsAt hb e)))).1, fun b hb => ?_, w8⟩
        obtain ⟨o, e, d⟩ := T.obj _ _ st7 b hb
        exact (I8.pin (b, o) (List.mem_append_right _ (List.mem_append_right _ (mem_pinsAt hb e)))).2.1
      refine thn (hg _ s7 τ H7 x u _ I7' r7 (step x H7 y7)) fun _ s8 ⟨τ8, H8, I8, q8⟩ => ?_
      refine thn (ht _ s8 τ8 H8 _ I8 q8) fun okb s9 ⟨H9, I9, q9⟩ => ?_
      cases okb with
      | false =>
        rw [if_neg Bool.false_ne_true] at q9
        rw [if_neg Bool.false_ne_true]
        exact again I9 q9
      | true =>
        rw [if_pos rfl] at q9
        rw [if_pos rfl]
        refine thn (he _ s9 τ8 H9 _ I9 q9) fun v10 s10 ⟨x10, H10, I10, r10, q10⟩ => ?_
        obtain ⟨ys, hD10, hz, m', hm, w10⟩ := q10
        refine thn (mt_append (X := compCx X N' scope s3 H3 fp pins) _ s10 τ8 H10 (.ref D) [x10] (.ref D) [v10] (fun _ H' => ∃ m', m' < n ∧ W (i + 1) m' τ8 H') I10 rfl (.cons r10 .nil) ⟨D, ys, x10, rfl, rfl, hD10, hz, m', hm, w10⟩) fun _ s11 ⟨_, H11, I11, _, q11⟩ => ?_
        exact again I11 q11
  exact codeAny_compStart_list (loop _ I4 st4) (T.self X.A 0 _ _ _ st4 (loop _ I4 st4))
theorem pe_comp {pos : Pos} (N' : List Str) (ix : List (Option Nat)) (hc : X.calm = true) (hi : PI X tg iter wi)
    (blk : ∀ s H fp pn, PG (compCx X N' scope s H fp pn) tg g ∧ PIf (compCx X N' scope s H fp pn) ifs tts ∧ PE (compCx X N' scope s H fp pn) elt te)
    (chk : compChk X.env.scope X.N scope N' ix = true) (hs : ∀ x, foldedSetIterable iter X.env x = pure x := by intro _; rfl) :
    PE X (.ListComp elt [⟨tg, iter, ifs, 0⟩] scope pos) (tComp ix wi g tts te) := by
  intro pins s σ H Q I hw
  rw [eval_ListComp]
  refine comp_core (use := none) hc (compOk_of chk) hi blk hs I hw fun D C H' s' I' q hm hn h1 h2 h3 h4 h5 => ?_
  obtain ⟨m, hm⟩ := hm
  refine ⟨m, hm, fun h' sb => ⟨.ref D, H', ?_, rfl, q⟩⟩
  exact I'.turned (t' := s'.toks) (fun b o hb e => (sb.2 b hb).trans e) hn h2 (.inr h1) h3 h5
end
end L2
namespace L2
open PySem PySem.Spec PyProof.Rows
section
variable {X : Cx} {tg iter elt : Expr} {ifs : List Expr} {scope : Scope} {N' : List Str} {ix : List (Option Nat)} {wi : TI} {g : TG} {tts : TT} {te : TE}
theorem ps_setC {i : Nat} {x : Str} {pos pos' cpos : Pos} (N' : List Str) (ix : List (Option Nat)) (hN : X.N.Nodup) (hi : X.N[i]? = some x) (hx : Loc X.env.scope x) (hc : X.calm = true) (hit : PI X tg iter wi)
    (blk : ∀ s H fp pn, PG (compCx X N' scope s H fp pn) tg g ∧ PIf (compCx X N' scope s H fp pn) ifs tts ∧ PE (compCx X N' scope s H fp pn) elt te)
    (chk : compChk X.env.scope X.N scope N' ix = true) (hsw : swapsWith (.ListComp elt [⟨tg, iter, ifs, 0⟩] scope cpos) (some (.Name x pos')) pos.line X.env = pure true := by rfl)
    (hs : ∀ x, foldedSetIterable iter X.env x = pure x := by intro _; rfl) (hf : X.fn x = true ∨ X.env.scope.names.lookup x = some .local := by first | exact .inl rfl | exact .inr rfl | assumption) :
    PS X (.Assign [.Name x pos'] (.ListComp elt [⟨tg, iter, ifs, 0⟩] scope cpos) pos) (tAsg (tComp ix wi g tts te) (gName i)) := by
  intro pins s σ H D I hw
  rw [exec_Assign_Name_used _ _ _ _ hsw]
  refine wpAny_bind (wpAny_standAt (wpAny_bind ?_))
  show wpAny _ X.A (do let _ ← comprehension (.ListComp elt [⟨tg, iter, ifs, 0⟩] scope cpos) scope X.env _ (newList []) false (eval iter X.env) (some (assign (.Name x pos') X.env))) _ _ s
  refine wpAny_bind (thn (comp_core (use := some (assign (.Name x pos') X.env)) (Qf := fun _ s' => SP X pins D .next s') hc (compOk_of chk) hit blk hs I hw fun D' C H' s' I' q hm hn h1 h2 h3 h4 h5 => ?_) fun _ s' q => wpAny_pure (wpAny_pure q))
  obtain ⟨m, oC, es, ep, hoC, hdC, hrC⟩ := hm
  have Ip : Inv X (pins ++ [(C, oC)]) σ H' s' := I'.pins_of fun p hp => (List.mem_append.mp hp).elim (fun z => I'.pin p (List.mem_append_right _ z)) fun z => by
    have e : p = (C, oC) := by simpa using z
    subst e
    exact ⟨hoC, hn, h2, h4, fun v z => by rw [hdC] at z; cases z⟩
  refine wpAny_assign_Name (store_ok (v := .ref D') Ip hN hi hx rfl (fun s2 I2 => ?_) hf)
  have hC2 : s2.heap.get? C = some oC := (I2.pin (C, oC) (by simp)).1
  have I2' : Inv X pins (σ.set i (some (.ref D'))) H' s2 := I2.pins_of fun p hp => I2.pin p (List.mem_append_right _ (List.mem_append_left _ hp))
  refine ⟨m, ⟨oC, es, ep, hC2, hdC, hrC⟩, fun h' sb => ⟨_, H', ?_, q⟩⟩
  exact I2'.turned (t' := s2.toks) (fun b o hb e => (sb.2 b hb).trans e) hn h2 (.inr h1) h3 h5
end
end L2
namespace L2
open PySem PySem.Spec PyProof.Rows
def RngO (p : Addr) (a b c : Int) : HO := .ext fun h => ∃ t u v, IsRange h p a b c t u v
def rints (a c : Int) (n : Nat) : List V := (List.range n).map fun (k : Nat) => V.int (a + k * c)
theorem rints_vals {a c : Int} {n : Nat} {acc : Array Value} (h : ItemsOf (fun i v => ∃ t, v = .int (a + i * c) t) acc n) : Vals (rints a c n) acc.toList := by
  obtain ⟨hn, hi⟩ := h
  have key : ∀ (m : Nat) (us : List Value) (f : Nat → Int), us.length = m → (∀ i u, us[i]? = some u → ∃ t, u = Value.int (f i) t) → Vals ((List.range m).map fun k => V.int (f k)) us := by
    intro m
    induction m with
    | zero => intro us f hl _; rw [List.length_eq_zero_iff] at hl; subst hl; exact .nil
    | succ m ih =>
      intro us f hl hu
      cases us with
      | nil => simp at hl
      | cons u r =>
        rw [List.range_succ_eq_map, List.map_cons, List.map_map]
        refine .cons (hu 0 u rfl) (ih r (fun k => f (k + 1)) (by simpa using hl) fun i v e => hu (i + 1) v (by simpa using e))
  refine key n acc.toList (fun k => a + k * c) (by simpa using hn) fun i u e => ?_
  exact hi i u (by simpa using e)
theorem rints_len (a c : Int) (n : Nat) : (rints a c n).length = n := by simp [rints]
section
variable {X : Cx}
theorem rng_laid {pins : List (Addr × Obj)} {σ : St} {H : Hp} {s : Shared} {a b c : Int} {t u v : Tok} {tk : Nat} (I : Inv X pins σ H s) :
    Inv X pins σ (upd H s.heap.objs.size (RngO s.heap.objs.size a b c)) { s with heap := s.heap.push { cls := .type "range", data := .fields #[.int a t, .int b u, .int c v] }, toks := tk } := by
  refine I.laid (fun b o e => Heap.get?_push_of_some _ e) (Nat.le_refl _) ⟨⟨t, u, v, IsRange.new ..⟩, ⟨_, Heap.get?_push_size _ rfl⟩, fun h1 h2 ⟨t, u, v, z⟩ k => ⟨t, u, v, k _ z⟩⟩
theorem pe_range1 {a : Expr} {ta : TA} {p pos : Pos} (hg : Gl X "range") (hm : X.mg "range" = none) (ha : PA X [a] ta) (hs : starEach [a] X.env = [(false, eval a X.env)] := by rfl) :
    PE X (.Call (.Name "range" p) [a] [] pos) (fun σ H Q => ta σ H fun vs H1 => ∃ j : Int, vs = [.int j] ∧ ∀ p, H1 p = none → Q (.ref p) (upd H1 p (RngO p 0 j 1))) := by
  intro pins s σ H Q I h
  refine Call_ (ld_blt I hg hm boot_range (PyProof.Rows.callWith_type1 (thn (ha pos pins s σ H _ I h) fun us s1 ⟨vs, H1, I1, r1, q1⟩ => ?_) hs rfl))
  obtain ⟨j, e, q⟩ := q1
  subst e
  cases r1 with
  | cons r rr =>
    cases rr
    obtain ⟨t, rfl⟩ := r
    exact call_range_1 ⟨.ref s1.heap.objs.size, _, rng_laid I1, rfl, q _ (I1.hok.fresh (Nat.le_refl _))⟩
def rRng (K : PySem.W.Frag) (mk : List V → HO) : List V → Hp → VK → Prop := fun xs H Q => ∃ p a b c n, xs = [.ref p] ∧ H p = some (RngO p a b c) ∧ Builtin.Range.small a b c = true ∧ Builtin.Range.rangeSize a b c = ((n : Nat) : Int) ∧ n ≤ 1000000 ∧ ∀ l, H l = none → Q (.ref l) (upd H l (mk (rints a c n)))
theorem call_listR (hc : X.calm = true) : CallR X (.type "list") (rRng X.K .lst) := by
  intro pins s σ H xs us Q I r h
  obtain ⟨p, a, b, c, n, rfl, hp, hsm, hsz, hn, q⟩ := h
  obtain ⟨u, rfl, rx⟩ := vals1 r
  cases rx
  obtain ⟨⟨t, u, v, hr⟩, _, _⟩ := (show ObjOk X.prog X.w H s.heap p (RngO p a b c) from I.hok p _ hp)
  have hs : sizeLine = 16777216 := sizeLine_eq
  refine call_list_range (I.ok.hd hc) hr hsm hsz (by omega) fun h' tk acc c' hk e hacc => ?_
  exact ⟨.ref s.heap.objs.size, _, I.laid (t' := tk) hk (Nat.le_refl _) (show ObjOk X.prog X.w _ h' _ (.lst (rints a c n)) from ⟨by rw [rints_len]; omega, acc.toList, c', rints_vals hacc, by simpa using e⟩), rfl, q _ (I.hok.fresh (Nat.le_refl _))⟩
end
end L2
namespace L2
open PySem PySem.Spec PyProof.Rows
section
variable {prog : Program} {w : World} {A : Around} {E : Value → Shared → Prop} {s : Shared} {I l : Addr} {items : Array Value}
end
section
variable {X : Cx} {e : Expr} {te : TE} {p p1 p2 pos : Pos}
end
end L2
namespace L2
open PySem PySem.Spec PyProof.Rows
def RowIs (k : Bool) (h : Heap) (a : Addr) (its : Array Value) : Prop := ∃ o, h.get? a = some o ∧ o.cls = .type (cond k "tuple" "list") ∧ ∃ n, o.data = .seq its n
def WalkIs (k : Bool) (h : Heap) (it a : Addr) (i : Nat) : Prop := ∃ o, h.get? it = some o ∧ o.cls = .type (cond k "tuple_iterator" "list_iterator") ∧ o.data = .fields #[.ref a, .int i 0]
theorem RowIs.mv {k : Bool} {h h' : Heap} {a : Addr} {its : Array Value} (r : RowIs k h a its) (f : ∀ o, h.get? a = some o → h'.get? a = some o) : RowIs k h' a its := let ⟨o, e, q⟩ := r; ⟨o, f o e, q⟩
theorem WalkIs.mv {k : Bool} {h h' : Heap} {it a : Addr} {i : Nat} (r : WalkIs k h it a i) (f : ∀ o, h.get? it = some o → h'.get? it = some o) : WalkIs k h' it a i := let ⟨o, e, q⟩ := r; ⟨o, f o e, q⟩
section
variable {P : Program} {w : World} {A : Around} {E : Value → Shared → Prop} {s : Shared} {k : Bool} {it a : Addr} {i : Nat} {its : Array Value}
theorem tupNext_item {x : Value} {Q : Value → Shared → Prop} (W : s.heap.IsTupleIter it a i) (R : s.heap.IsTuple a its) (hx : its[i]? = some x)
    (hQ : ∀ h', h'.IsTupleIter it a (i + 1) → Heap.SameBut it s.heap h' → Q x { s with heap := h' }) : wpAny (model P w) A (Builtin.SmallTypes.nextOf (.ref it)) Q E s := by
  have hT := W.typeIs
  obtain ⟨o, ho, c, d⟩ := W
  obtain ⟨ol, hol, _, nl, dl⟩ := R
  unfold Builtin.SmallTypes.nextOf
  refine wpAny_bind (wpAny_callSpecial?_slot (name := Str.ofString "__next__") hT F.slot_tuple_iterator_next (wpAny_call_entry F.slot_tuple_iterator_next hT F.entry_tuple_iterator_next ?_ (F.args_tuple_iterator_next_1 _)))
  refine wpAny_bind (m := field (.ref it) 0) (wpAny_field ho d (x := .ref a) rfl ?_)
  have nn : ¬ ((Value.ref a == Value.none) = true) := Bool.false_ne_true
  show wpAny _ _ (if (Value.ref a == Value.none) = true then _ else _) _ _ s
  rw [if_neg nn]
  refine wpAny_bind (m := field (.ref it) 1) (wpAny_field ho d (x := .int i 0) rfl ?_)
  refine wpAny_bind (m := seqItems? (.ref a)) (wpAny_seqItems hol dl ?_)
  simp only [Int.toNat_natCast, hx]
  exact wpAny_bind (wpAny_setField ho d (by simp) (wpAny_pure ⟨x, rfl, wpAny_pure (hQ _ ⟨_, Heap.get?_update_self _ ho (Obj.isFreed_of_fields (Obj.data_mapFields d _)), (Obj.cls_mapFields ..).trans c, by rw [Obj.data_mapFields d]; simp [rawInt]⟩ (Heap.SameBut.update ..))⟩))
theorem tupNext_end {Q : Value → Shared → Prop} (hh : A.handled = none) (W : s.heap.IsTupleIter it a i) (R : s.heap.IsTuple a its) (hx : its[i]? = none)
    (hE : ∀ h' e, Heap.ExtBut it s.heap h' → (∃ o, h'.get? e = some o ∧ o.cls = .type "StopIteration") → E (.ref e) { s with heap := h' }) : wpAny (model P w) A (Builtin.SmallTypes.nextOf (.ref it)) Q E s := by
  have hT := W.typeIs
  obtain ⟨o, ho, c, d⟩ := W
  obtain ⟨ol, hol, _, nl, dl⟩ := R
  unfold Builtin.SmallTypes.nextOf
  refine wpAny_bind (wpAny_callSpecial?_slot (name := Str.ofString "__next__") hT F.slot_tuple_iterator_next (wpAny_call_entry F.slot_tuple_iterator_next hT F.entry_tuple_iterator_next ?_ (F.args_tuple_iterator_next_1 _)))
  refine wpAny_bind (m := field (.ref it) 0) (wpAny_field ho d (x := .ref a) rfl ?_)
  have nn : ¬ ((Value.ref a == Value.none) = true) := Bool.false_ne_true
  show wpAny _ _ (if (Value.ref a == Value.none) = true then _ else _) _ _ s
  rw [if_neg nn]
  refine wpAny_bind (m := field (.ref it) 1) (wpAny_field ho d (x := .int i 0) rfl ?_)
  refine wpAny_bind (m := seqItems? (.ref a)) (wpAny_seqItems hol dl ?_)
  simp only [Int.toNat_natCast, hx]
  refine wpAny_bind (wpAny_rule (wpAny_bind (wpAny_setField ho d (by simp) (wpAny_bind (m := newExc (.type "StopIteration") []) ?_))))
  simp only [newExc, newTuple]
  refine wpAny_bind (wpAny_newObj_type (wpAny_bind (m := firstArgMember _ _) (wpAny_of_eq (a := Value.none) (by first | rfl | (simp only [firstArgMember]; rfl)) (wpAny_newObj_type ?_ (by size_fits)))) (by size_fits))
  simp only [raiseNew]
  refine wpAny_bind (wpAny_handled ?_)
  first | rw [show A.in1.handled = none from hh] | rw [hh]
  exact wpAny_bind (wpAny_pure (wpAny_throw (hE _ _ (((Heap.SameBut.update ..).extBut.push _).push _) ⟨_, Heap.get?_push_size _ rfl, rfl⟩)))
theorem rowNext_item {x : Value} {Q : Value → Shared → Prop} (W : WalkIs k s.heap it a i) (R : RowIs k s.heap a its) (hx : its[i]? = some x)
    (hQ : ∀ h', WalkIs k h' it a (i + 1) → Heap.SameBut it s.heap h' → Q x { s with heap := h' }) : wpAny (model P w) A (Builtin.SmallTypes.nextOf (.ref it)) Q E s := by
  cases k with
  | false => exact wpAny_nextOf_list_item W R hx hQ
  | true => exact tupNext_item W R hx hQ
theorem rowNext_end {Q : Value → Shared → Prop} (hh : A.handled = none) (W : WalkIs k s.heap it a i) (R : RowIs k s.heap a its) (hx : its[i]? = none)
    (hE : ∀ h' e, Heap.ExtBut it s.heap h' → (∃ o, h'.get? e = some o ∧ o.cls = .type "StopIteration") → E (.ref e) { s with heap := h' }) : wpAny (model P w) A (Builtin.SmallTypes.nextOf (.ref it)) Q E s := by
  cases k with
  | false => exact wpAny_nextOf_list_end hh W R hx hE
  | true => exact tupNext_end hh W R hx hE
end
end L2
namespace L2
open PySem PySem.Spec PyProof.Rows
structure ZA (z U V i j : Addr) : Prop where
  Uz : U ≠ z
  Vz : V ≠ z
  iz : i ≠ z
  jz : j ≠ z
  UV : U ≠ V
  Ui : U ≠ i
  Uj : U ≠ j
  Vi : V ≠ i
  Vj : V ≠ j
  ij : i ≠ j
section
variable {P : Program} {w : World} {A : Around} {E : Value → Shared → Prop} {s : Shared} {k l : Bool} {z U V i j a c : Addr} {n : Nat} {xs ys : Array Value} {x y u v : Value}
theorem zp_item {Q : Value → Shared → Prop} (D : ZA z U V i j) (az : a ≠ z) (cz : c ≠ z) (ci : c ≠ i) (cV : c ≠ V) (hz : IsZip s.heap z U V .none) (hU : IsPair s.heap U (.ref i) (.ref j)) (hV : IsPair s.heap V u v)
    (W1 : WalkIs k s.heap i a n) (W2 : WalkIs l s.heap j c n) (R1 : RowIs k s.heap a xs) (R2 : RowIs l s.heap c ys) (hx : xs[n]? = some x) (hy : ys[n]? = some y)
    (hQ : ∀ h', IsZip h' z U V (rawInt s.heap.objs.size) → IsPair h' V x y → WalkIs k h' i a (n + 1) → WalkIs l h' j c (n + 1) → IsPair h' s.heap.objs.size x y → h'.objs.size = s.heap.objs.size + 1 →
      (∀ b o, b ≠ z → b ≠ V → b ≠ i → b ≠ j → s.heap.get? b = some o → h'.get? b = some o) → Q (.ref s.heap.objs.size) { s with heap := h' }) :
    wpAny (model P w) A (Builtin.«zip.__next__» ⟨[.ref z], []⟩) (fun f s' => ∃ r, f = .done (.ret r) ∧ Q r s') E s := by
  refine wpAny_bind (m := field (.ref z) 2) (wpAny_field hz rfl (x := .bool false) rfl (wpAny_bind (m := field (.ref z) 3) (wpAny_field hz rfl (x := .ref U) rfl (wpAny_bind (wpAny_seqItems hU rfl ?_)))))
  refine wpAny_bind (m := Builtin.SmallTypes.ownedTupleIsFree (.ref z)) ?_
  unfold Builtin.SmallTypes.ownedTupleIsFree
  refine wpAny_bind (wpAny_field hz rfl (x := .none) rfl (wpAny_pure ?_))
  simp only [if_true]
  refine wpAny_bind (wpAny_rule (wpAny_bind (wpAny_field hz rfl (x := .ref V) rfl (wpAny_bind (wpAny_setField_rec hz (by simp) fun g1 z1 b1 => wpAny_bind ?_)))))
  replace z1 : IsZip g1 z U V .ellipsis := z1
  simp only [List.zipIdx_cons, List.zipIdx_nil, List.forIn_cons, List.forIn_nil]
  have e1 := b1.extBut
  refine wpAny_bind (wpAny_bind (wpAny_onRaise (wpAny_bind (m := Builtin.SmallTypes.nextOf (.ref i)) (rowNext_item (W1.mv fun o e => e1 _ o D.iz e) (R1.mv fun o e => e1 _ o az e) hx fun g2 w1 b2 => wpAny_pure ?_))))
  have e2 := b2.extBut
  have v2 : IsPair g2 V u v := e2 _ _ D.Vi (e1 _ _ D.Vz hV)
  refine wpAny_bind (wpAny_seqItems v2 rfl (wpAny_bind (wpAny_updateSeq_pair v2 fun g3 v3 b3 => wpAny_bind (wpAny_letGo (wpAny_pure ?_)))))
  replace v3 : IsPair g3 V x v := v3
  have e3 := b3.extBut
  refine wpAny_bind (wpAny_bind (wpAny_onRaise (wpAny_bind (m := Builtin.SmallTypes.nextOf (.ref j)) (rowNext_item (W2.mv fun o e => e3 _ o D.Vj.symm (e2 _ o D.ij.symm (e1 _ o D.jz e))) (R2.mv fun o e => e3 _ o cV (e2 _ o ci (e1 _ o cz e))) hy fun g4 w2 b4 => wpAny_pure ?_))))
  have e4 := b4.extBut
  have v4 : IsPair g4 V x v := e4 _ _ D.Vj v3
  refine wpAny_bind (wpAny_seqItems v4 rfl (wpAny_bind (wpAny_updateSeq_pair v4 fun g5 v5 b5 => wpAny_bind (wpAny_letGo (wpAny_pure (wpAny_pure ?_))))))
  replace v5 : IsPair g5 V x y := v5
  have e5 := b5.extBut
  refine wpAny_bind (wpAny_seqItems v5 rfl (wpAny_bind (wpAny_newTuple ?_)))
  have sz : g5.objs.size = s.heap.objs.size := by rw [b5.1, b4.1, b3.1, b2.1, b1.1]
  have z5 : IsZip g5 z U V .ellipsis := e5 _ _ D.Vz.symm (e4 _ _ D.jz.symm (e3 _ _ D.Vz.symm (e2 _ _ D.iz.symm z1)))
  have k5 : ∀ b o, b ≠ z → b ≠ V → b ≠ i → b ≠ j → s.heap.get? b = some o → g5.get? b = some o := fun b o q1 q2 q3 q4 e => e5 _ _ q2 (e4 _ _ q4 (e3 _ _ q2 (e2 _ _ q3 (e1 _ _ q1 e))))
  have w15 : WalkIs k g5 i a (n + 1) := w1.mv fun o e => e5 _ o D.Vi.symm (e4 _ o D.ij (e3 _ o D.Vi.symm e))
  have w25 : WalkIs l g5 j c (n + 1) := w2.mv fun o e => e5 _ o D.Vj.symm e
  have zlt : z < g5.objs.size := Heap.lt_size z5
  refine wpAny_bind (m := Builtin.SmallTypes.ownedTupleHandOut (.ref z) (.ref g5.objs.size)) ?_
  unfold Builtin.SmallTypes.ownedTupleHandOut
  have z6 : IsZip (g5.push { cls := .type "tuple", data := .seq #[x, y] }) z U V .ellipsis := Heap.get?_push_of_some _ z5
  refine wpAny_bind (wpAny_setField_rec z6 (by simp) fun g7 z7 b7 => ?_)
  replace z7 : IsZip g7 z U V (rawInt g5.objs.size) := z7
  refine wpAny_setField_rec z7 (by simp) fun g8 z8 b8 => ?_
  replace z8 : IsZip g8 z U V (rawInt g5.objs.size) := z8
  have up : ∀ b o, b ≠ z → g5.get? b = some o → g8.get? b = some o := fun b o q e => b8.extBut _ _ q (b7.extBut _ _ q (Heap.get?_push_of_some _ e))
  have t8 : IsPair g8 g5.objs.size x y := b8.extBut _ _ (Nat.ne_of_gt zlt) (b7.extBut _ _ (Nat.ne_of_gt zlt) (Heap.get?_push_size _ rfl))
  have s8 : g8.objs.size = g5.objs.size + 1 := by rw [b8.1, b7.1, Heap.size_push]
  rw [sz] at z8 t8 s8
  refine wpAny_pure ⟨_, rfl, ?_⟩
  show Q (.ref g5.objs.size) _
  rw [sz]
  exact hQ g8 z8 (up _ _ D.Vz v5) (w15.mv fun o e => up _ o D.iz e) (w25.mv fun o e => up _ o D.jz e) t8 s8 fun b o q1 q2 q3 q4 e => up b o q1 (k5 b o q1 q2 q3 q4 e)
theorem zp_end {Q : Fin → Shared → Prop} (hh : A.handled = none) (D : ZA z U V i j) (az : a ≠ z) (cz : c ≠ z) (ci : c ≠ i) (cV : c ≠ V) (hz : IsZip s.heap z U V .none) (hU : IsPair s.heap U (.ref i) (.ref j)) (hV : IsPair s.heap V u v)
    (W1 : WalkIs k s.heap i a n) (W2 : WalkIs l s.heap j c n) (R1 : RowIs k s.heap a xs) (R2 : RowIs l s.heap c ys) (hend : xs[n]? = none ∨ ys[n]? = none)
    (hE : ∀ h' e, (∀ b o, b ≠ z → b ≠ V → b ≠ i → b ≠ j → s.heap.get? b = some o → h'.get? b = some o) → (∃ o, h'.get? e = some o ∧ o.cls = .type "StopIteration") → E (.ref e) { s with heap := h' }) :
    wpAny (model P w) A (Builtin.«zip.__next__» ⟨[.ref z], []⟩) Q E s := by
  refine wpAny_bind (m := field (.ref z) 2) (wpAny_field hz rfl (x := .bool false) rfl (wpAny_bind (m := field (.ref z) 3) (wpAny_field hz rfl (x := .ref U) rfl (wpAny_bind (wpAny_seqItems hU rfl ?_)))))
  refine wpAny_bind (m := Builtin.SmallTypes.ownedTupleIsFree (.ref z)) ?_
  unfold Builtin.SmallTypes.ownedTupleIsFree
  refine wpAny_bind (wpAny_field hz rfl (x := .none) rfl (wpAny_pure ?_))
  simp only [if_true]
  refine wpAny_bind (wpAny_rule (wpAny_bind (wpAny_field hz rfl (x := .ref V) rfl (wpAny_bind (wpAny_setField_rec hz (by simp) fun g1 z1 b1 => wpAny_bind ?_)))))
  replace z1 : IsZip g1 z U V .ellipsis := z1
  simp only [List.zipIdx_cons, List.zipIdx_nil, List.forIn_cons, List.forIn_nil]
  have e1 := b1.extBut
  cases hx : xs[n]? with
  | none =>
    refine wpAny_bind (wpAny_bind (wpAny_onRaise (wpAny_bind (m := Builtin.SmallTypes.nextOf (.ref i)) (rowNext_end hh (W1.mv fun o e => e1 _ o D.iz e) (R1.mv fun o e => e1 _ o az e) hx fun g2 e b2 he => ?_))))
    obtain ⟨oe, ge, ce⟩ := he
    have z2 : IsZip g2 z U V .ellipsis := b2 _ _ D.iz.symm z1
    have ez : e ≠ z := fun q => by subst q; rw [z2] at ge; cases ge; simp at ce
    exact wpAny_setField_rec z2 (by simp) fun g3 _ b3 => hE g3 e (fun b o q1 _ q3 _ q => b3.extBut _ _ q1 (b2 _ _ q3 (e1 _ _ q1 q))) ⟨oe, b3.extBut _ _ ez ge, ce⟩
  | some x =>
    have hy : ys[n]? = none := by
      rcases hend with q | q
      · rw [hx] at q; cases q
      · exact q
    refine wpAny_bind (wpAny_bind (wpAny_onRaise (wpAny_bind (m := Builtin.SmallTypes.nextOf (.ref i)) (rowNext_item (W1.mv fun o e => e1 _ o D.iz e) (R1.mv fun o e => e1 _ o az e) hx fun g2 w1 b2 => wpAny_pure ?_))))
    have e2 := b2.extBut
    have v2 : IsPair g2 V u v := e2 _ _ D.Vi (e1 _ _ D.Vz hV)
    refine wpAny_bind (wpAny_seqItems v2 rfl (wpAny_bind (wpAny_updateSeq_pair v2 fun g3 v3 b3 => wpAny_bind (wpAny_letGo (wpAny_pure ?_)))))
    have e3 := b3.extBut
    refine wpAny_bind (wpAny_bind (wpAny_onRaise (wpAny_bind (m := Builtin.SmallTypes.nextOf (.ref j)) (rowNext_end hh (W2.mv fun o e => e3 _ o D.Vj.symm (e2 _ o D.ij.symm (e1 _ o D.jz e))) (R2.mv fun o e => e3 _ o cV (e2 _ o ci (e1 _ o cz e))) hy fun g4 e b4 he => ?_))))
    obtain ⟨oe, ge, ce⟩ := he
    have z4 : IsZip g4 z U V .ellipsis := b4 _ _ D.jz.symm (e3 _ _ D.Vz.symm (e2 _ _ D.iz.symm z1))
    have ez : e ≠ z := fun q => by subst q; rw [z4] at ge; cases ge; simp at ce
    exact wpAny_setField_rec z4 (by simp) fun g5 _ b5 => hE g5 e (fun b o q1 q2 q3 q4 q => b5.extBut _ _ q1 (b4 _ _ q4 (e3 _ _ q2 (e2 _ _ q3 (e1 _ _ q1 q))))) ⟨oe, b5.extBut _ _ ez ge, ce⟩
end
end L2
namespace L2
open PySem PySem.Spec PyProof.Rows
def Sq (k : Bool) (K : PySem.W.Frag) (H : Hp) (a : Addr) (xs : List V) : Prop := cond k (SqT K H a xs) (SqL K H a xs)
section
variable {X : Cx} {pins : List (Addr × Obj)} {σ : St} {H : Hp} {s : Shared} {k l : Bool} {a b c : Addr} {xs ys : List V}
theorem Inv.row (I : Inv X pins σ H s) (h : Sq k X.K H a xs) : ∃ its : List Value, Vals xs its ∧ RowIs k s.heap a its.toArray ∧ xs.length ≤ sizeLine := by
  cases k with
  | false => obtain ⟨its, r, p, z⟩ := I.list h; exact ⟨its, r, p.isList, z⟩
  | true => obtain ⟨its, r, p, z⟩ := I.tuple h; exact ⟨its, r, p, z⟩
theorem Inv.row_inj (I : Inv X pins σ H s) (h : Sq k X.K H a xs) (h' : Sq k X.K H a ys) : xs = ys := by
  cases k with
  | false => exact I.list_inj h h'
  | true => exact I.tuple_inj h h'
theorem rd_some {u : HO} (r : Rd H a u) : ∃ v, H a = some v := by
  rcases r with r | ⟨o, r⟩ <;> exact ⟨_, r⟩
theorem Inv.row_ne (I : Inv X pins σ H s) (h : Sq k X.K H a xs) (f : FpOk X pins H b) : a ≠ b := by
  have kk : ∀ o, X.K.lookup a = some o → a ≠ b := fun o e z => by
    have e1 := I.ok.mod.kin a o e
    rcases f.2.2.2.1 with q | q
    · exact I.ok.noex a o e1 (z ▸ q)
    · exact absurd (Nat.lt_of_lt_of_le (Heap.lt_size (I.ok.bs a o e1).1) (z ▸ q)) (Nat.lt_irrefl _)
  have hh : ∀ u, H a = some u → a ≠ b := fun u e z => by rw [z, f.1] at e; cases e
  cases k with
  | false =>
    rcases h with r | ⟨o, its, n, e, _⟩
    · obtain ⟨v, e⟩ := rd_some r; exact hh v e
    · exact kk o e
  | true =>
    rcases h with r | ⟨o, its, n, e, _⟩
    · obtain ⟨v, e⟩ := rd_some r; exact hh v e
    · exact kk o e
theorem Inv.yielded {h' : Heap} {T : Addr} {zs : List V} {t' : Nat} {ch : List Addr} (I : Inv X pins σ H s) (hf : ∀ b ∈ ch, FpOk X pins H b) (hT : s.heap.objs.size ≤ T)
    (kp : ∀ b o, b ∉ ch → s.heap.get? b = some o → h'.get? b = some o) (new : ObjOk X.prog X.w (upd H T (.tup zs)) h' T (.tup zs)) : Inv X pins σ (upd H T (.tup zs)) { s with heap := h', toks := t' } := by
  have hn : H T = none := I.hok.fresh hT
  have nT : ∀ b u, H b = some u → b ≠ T := fun b u e z => by rw [z, hn] at e; cases e
  have oT : ∀ b o, s.heap.get? b = some o → b ≠ T := fun b o e z => absurd (Nat.lt_of_lt_of_le (Heap.lt_size e) (z ▸ hT)) (Nat.lt_irrefl _)
  have nc : ∀ b u, H b = some u → b ∉ ch := fun b u e z => by rw [(hf b z).1] at e; cases e
  refine I.step (g' := s.gens) (d' := s.drawn) (ch := ch) (fun b hb => ⟨(hf b hb).2.2.2.1, (hf b hb).2.1, (hf b hb).2.2.2.2.1, (hf b hb).2.2.2.2.2⟩) (fun b o _ _ hc e _ => kp b o hc e) (fun b o _ _ hc e _ => ⟨o.slots, kp b o hc e⟩)
    (fun b o _ e n => by rw [upd_ne (oT b o e)]; exact n) (fun b o hc e => ⟨o, kp b o hc e⟩) (fun b xs e => by rw [upd_ne (nT b _ e)]; exact e) (fun b o u e => by rw [upd_ne (nT b _ e)]; exact e)
    (fun b ps e => ⟨#[], by rw [upd_ne (nT b _ e), e]; simp⟩) (fun m hm => ?_) (fun b u e => ?_) I.bare
  · obtain ⟨o, es, ep, ho, r⟩ := hm
    exact ⟨o, es, ep, kp _ o (fun z => (hf _ z).2.1 rfl) ho, r⟩
  · by_cases hb : b = T
    · subst hb; rw [upd_same] at e; cases e; exact new
    · rw [upd_ne hb] at e
      refine (I.hok b u e).stay (fun c v hc q => kp c v ?_ q) (fun c q => by rw [upd_ne (nT c _ q)]; exact q) fun c xs q => by rw [upd_ne (nT c _ q)]; exact q
      rcases hc with z | z
      · rw [z]; exact nc b u e
      · exact nc c _ z
end
def Itz (k l : Bool) (K : PySem.W.Frag) (a c : Addr) : It :=
  ⟨fun i H => ∃ xs ys x y, Sq k K H a xs ∧ Sq l K H c ys ∧ xs[i]? = some x ∧ ys[i]? = some y,
   fun i H p H' => ∃ T x y, H T = none ∧ p = .ref T ∧ (∀ xs, Sq k K H a xs → xs[i]? = some x) ∧ (∀ ys, Sq l K H c ys → ys[i]? = some y) ∧ H' = upd H T (.tup [x, y]),
   fun i H => ∃ xs ys, Sq k K H a xs ∧ Sq l K H c ys ∧ (xs.length ≤ i ∨ ys.length ≤ i)⟩
theorem turn_zip {P : Program} {w : World} {K : PySem.W.Frag} {es : List Expr} {ct : Nat} {tp : Pos} {k l : Bool} {a c z U V i j : Addr} (D : ZA z U V i j) :
    Turn P w K (.Tuple es ct tp) (Itz k l K a c) [z, U, V, i, j] z (fun n h => IsZip h z U V .none ∧ IsPair h U (.ref i) (.ref j) ∧ (∃ u v, IsPair h V u v) ∧ WalkIs k h i a n ∧ WalkIs l h j c n) where
  mem := by simp
  obj := fun n h st b hb => by
    obtain ⟨hz, hU, ⟨u, v, hV⟩, ⟨o1, g1, c1, d1⟩, ⟨o2, g2, c2, d2⟩⟩ := st
    simp only [List.mem_cons, List.not_mem_nil, or_false] at hb
    rcases hb with rfl | rfl | rfl | rfl | rfl
    · exact ⟨_, hz, fun v q => by cases q⟩
    · exact ⟨_, hU, fun v q => by cases q⟩
    · exact ⟨_, hV, fun v q => by cases q⟩
    · exact ⟨_, g1, fun v q => by rw [d1] at q; cases q⟩
    · exact ⟨_, g2, fun v q => by rw [d2] at q; cases q⟩
  keep := fun n h h' st kk => by
    obtain ⟨hz, hU, ⟨u, v, hV⟩, w1, w2⟩ := st
    exact ⟨kk z (by simp) _ hz, kk U (by simp) _ hU, ⟨u, v, kk V (by simp) _ hV⟩, w1.mv fun o e => kk i (by simp) o e, w2.mv fun o e => kk j (by simp) o e⟩
  item := by
    intro X hP hw hK hc n pins s σ H E I hf st hg
    subst hP hw hK
    obtain ⟨xs, ys, x, y, q1, q2, hx, hy⟩ := hg
    obtain ⟨hz, hU, ⟨u, v, hV⟩, w1, w2⟩ := st
    obtain ⟨its, rv, p, _⟩ := I.row q1
    obtain ⟨jts, rv', p', _⟩ := I.row q2
    obtain ⟨ux, hux, rx⟩ := rv.get hx
    obtain ⟨uy, huy, ry⟩ := rv'.get hy
    have hT : s.TypeIs (.ref z) "zip" := ⟨_, hz, rfl⟩
    have nz := I.row_ne q1 (hf z (by simp))
    have mz := I.row_ne q2 (hf z (by simp))
    have mi := I.row_ne q2 (hf i (by simp))
    have mV := I.row_ne q2 (hf V (by simp))
    unfold pyNext
    refine wpAny_bind (wpAny_attempt (wpAny_callSpecial?_slot (name := Str.ofString "__next__") hT F.slot_zip_next (wpAny_call_entry F.slot_zip_next hT F.entry_zip_next
      (zp_item (x := ux) (y := uy) D nz mz mi mV hz hU hV w1 w2 p p' (by simpa using hux) (by simpa using huy) fun h' a1 a2 a3 a4 a5 a6 a7 => wpAny_pure ?_) (F.args_zip_next_1 _))))
    refine ⟨_, rfl, wpAny_letOwnedTupleGo_zip a1 fun g gz gs => ?_⟩
    have lt : ∀ {b o}, s.heap.get? b = some o → s.heap.objs.size ≠ b := fun e => Nat.ne_of_gt (Heap.lt_size e)
    have kp : ∀ b o, b ∉ [z, V, i, j] → s.heap.get? b = some o → g.get? b = some o := fun b o hb e => by
      simp only [List.mem_cons, List.not_mem_nil, or_false, not_or] at hb
      exact gs.extBut _ _ hb.1 (a7 b o hb.1 hb.2.1 hb.2.2.1 hb.2.2.2 e)
    have I2 : Inv X pins σ (upd H s.heap.objs.size (.tup [x, y])) { s with heap := g, toks := s.toks } := I.yielded (ch := [z, V, i, j]) (fun b hb => hf b (by
      simp only [List.mem_cons, List.not_mem_nil, or_false] at hb ⊢
      rcases hb with q | q | q | q <;> simp [q])) (Nat.le_refl _) kp ⟨by show 2 ≤ sizeLine; decide, [ux, uy], .cons rx (.cons ry .nil), _, gs.extBut _ _ (lt hz) a5, rfl, _, rfl⟩
    refine ⟨.ref s.heap.objs.size, _, I2, rfl, ⟨_, x, y, I.hok.fresh (Nat.le_refl _), rfl, fun xs' q => by rw [I.row_inj q q1]; exact hx, fun ys' q => by rw [I.row_inj q q2]; exact hy, rfl⟩,
      ⟨gz, gs.extBut _ _ D.Uz (a7 _ _ D.Uz D.UV D.Ui D.Uj hU), ⟨_, _, gs.extBut _ _ D.Vz a2⟩, a3.mv fun o e => gs.extBut _ o D.iz e, a4.mv fun o e => gs.extBut _ o D.jz e⟩, fun b hb => ?_⟩
    rw [upd_ne ?_]
    · exact (hf b hb).1
    · intro q
      subst q
      simp only [List.mem_cons, List.not_mem_nil, or_false] at hb
      obtain ⟨o1, g1, _⟩ := w1
      obtain ⟨o2, g2, _⟩ := w2
      rcases hb with q | q | q | q | q
      · exact lt hz q
      · exact lt hU q
      · exact lt hV q
      · exact lt g1 q
      · exact lt g2 q
  done := by
    intro X hP hw hK hc n pins s σ H E I hf st hg
    subst hP hw hK
    obtain ⟨xs, ys, q1, q2, hend⟩ := hg
    obtain ⟨hz, hU, ⟨u, v, hV⟩, w1, w2⟩ := st
    obtain ⟨its, rv, p, _⟩ := I.row q1
    obtain ⟨jts, rv', p', _⟩ := I.row q2
    have e1 := rv.length
    have e2 := rv'.length
    have hT : s.TypeIs (.ref z) "zip" := ⟨_, hz, rfl⟩
    unfold pyNext
    refine wpAny_bind (wpAny_attempt (wpAny_callSpecial?_slot (name := Str.ofString "__next__") hT F.slot_zip_next (wpAny_call_entry F.slot_zip_next hT F.entry_zip_next
      (zp_end (I.ok.hd hc) D (I.row_ne q1 (hf z (by simp))) (I.row_ne q2 (hf z (by simp))) (I.row_ne q2 (hf i (by simp))) (I.row_ne q2 (hf V (by simp))) hz hU hV w1 w2 p p' ?_ fun h' e hk he => ?_) (F.args_zip_next_1 _))))
    · rcases hend with q | q
      · exact .inl (by simp; omega)
      · exact .inr (by simp; omega)
    · obtain ⟨o, ho, hcl⟩ := he
      refine wpAny_bind (wpAny_isInstance (T := "StopIteration") (b := true) ⟨o, ho, hcl⟩ isSubtype_stop (wpAny_pure ⟨rfl, ?_⟩))
      exact I.step (g' := s.gens) (d' := s.drawn) (t' := s.toks) (ch := [z, V, i, j]) (fun b hb => by
          have q := hf b (by
            simp only [List.mem_cons, List.not_mem_nil, or_false] at hb ⊢
            rcases hb with q | q | q | q <;> simp [q])
          exact ⟨q.2.2.2.1, q.2.1, q.2.2.2.2.1, q.2.2.2.2.2⟩) (fun b o _ _ hc e _ => by
          simp only [List.mem_cons, List.not_mem_nil, or_false, not_or] at hc
          exact hk b o hc.1 hc.2.1 hc.2.2.1 hc.2.2.2 e) (fun b o _ _ hc e _ => ⟨o.slots, by
          simp only [List.mem_cons, List.not_mem_nil, or_false, not_or] at hc
          exact hk b o hc.1 hc.2.1 hc.2.2.1 hc.2.2.2 e⟩) (fun _ _ _ _ q => q) (fun b o hc e => ⟨o, by
          simp only [List.mem_cons, List.not_mem_nil, or_false, not_or] at hc
          exact hk b o hc.1 hc.2.1 hc.2.2.1 hc.2.2.2 e⟩) (fun _ _ e => e) (fun _ _ _ e => e) (fun b ps e => ⟨#[], by rw [e]; simp⟩) (fun m hm => by
          obtain ⟨o, es, ep, ho, r⟩ := hm
          exact ⟨o, es, ep, hk _ o (hf z (by simp)).2.1.symm (hf V (by simp)).2.1.symm (hf i (by simp)).2.1.symm (hf j (by simp)).2.1.symm ho, r⟩) (fun b u e => by
          have nn : ∀ b u, H b = some u → b ≠ z ∧ b ≠ V ∧ b ≠ i ∧ b ≠ j := fun b u e => ⟨fun q => (by rw [q, (hf z (by simp)).1] at e; cases e), fun q => (by rw [q, (hf V (by simp)).1] at e; cases e), fun q => (by rw [q, (hf i (by simp)).1] at e; cases e), fun q => (by rw [q, (hf j (by simp)).1] at e; cases e)⟩
          refine (I.hok b u e).stay (fun c v hc q => ?_) (fun _ q => q) fun _ _ q => q
          have n4 : c ≠ z ∧ c ≠ V ∧ c ≠ i ∧ c ≠ j := by
            rcases hc with q | q
            · rw [q]; exact nn b u e
            · exact nn c _ q
          exact hk c v n4.1 n4.2.1 n4.2.2.1 n4.2.2.2 q) I.bare
  self := fun _ _ _ _ _ st h => wpAny_pyIter_zip st.1 h
theorem za_of (n : Nat) : ZA (n + 4) (n + 2) (n + 3) n (n + 1) := by
  refine ⟨?_, ?_, ?_, ?_, ?_, ?_, ?_, ?_, ?_, ?_⟩ <;> (intro h; have h2 : @Eq Nat _ _ := h; omega)
section
variable {P : Program} {w : World} {A : Around} {E : Value → Shared → Prop} {s : Shared} {k l : Bool}
abbrev rowIt (k : Bool) (a : Addr) : Obj := { cls := .type (cond k "tuple_iterator" "list_iterator"), data := .fields #[.ref a, .int 0 0] }
theorem pyIter_row {a : Addr} {its : Array Value} {Q : Value → Shared → Prop} (R : RowIs k s.heap a its) (hQ : Q (.ref s.heap.objs.size) { s with heap := s.heap.push (rowIt k a) }) : wpAny (model P w) A (pyIter (.ref a)) Q E s := by
  cases k with
  | false => exact wpAny_pyIter_list R hQ
  | true => exact wpAny_pyIter_tuple R hQ
abbrev zg1 (h : Heap) (k : Bool) (a : Addr) : Heap := h.push (rowIt k a)
abbrev zg2 (h : Heap) (k l : Bool) (a c : Addr) : Heap := (zg1 h k a).push (rowIt l c)
abbrev zg3 (h : Heap) (k l : Bool) (a c : Addr) : Heap := (zg2 h k l a c).push { cls := .type "tuple", data := .seq #[.ref h.objs.size, .ref (zg1 h k a).objs.size] }
abbrev zg4 (h : Heap) (k l : Bool) (a c : Addr) : Heap := (zg3 h k l a c).push { cls := .type "tuple", data := .seq #[.none, .none] }
abbrev zg5 (h : Heap) (k l : Bool) (a c : Addr) : Heap := (zg4 h k l a c).push { cls := .type "zip", data := .fields #[.none, .bool false, .bool false, .ref (zg2 h k l a c).objs.size, .ref (zg3 h k l a c).objs.size] }
theorem zipMade (k l : Bool) (a c : Addr) (xs ys : Array Value) : Meets (Builtin.«zip.__new__» ⟨[.type "zip", .ref a, .ref c], []⟩) (fun _ R s => RowIs k s.heap a xs ∧ RowIs l s.heap c ys ∧
      R (.ok (.ret (.ref (zg4 s.heap k l a c).objs.size))) { s with heap := zg5 s.heap k l a c }) :=
  .of_wp fun prog w A R s h => by
    obtain ⟨hp, g, d, tk, os⟩ := s
    obtain ⟨r1, r2, h⟩ := h
    have hsub := sub_zip
    have R1 : RowIs k (Shared.heap ⟨hp, g, d, tk, os⟩) a xs := r1
    have R2 : RowIs l (Shared.heap ⟨hp.push (rowIt k a), g, d, tk, os⟩) c ys := r2.mv fun o e => Heap.get?_push_of_some _ e
    wp_walk using pyIter_row R1, pyIter_row R2
    exact ⟨_, rfl, h⟩
theorem zipCall {a c : Addr} {xs ys : Array Value} {Q : Value → Shared → Prop} (r1 : RowIs k s.heap a xs) (r2 : RowIs l s.heap c ys)
    (h : ∀ h', IsZip h' (s.heap.objs.size + 4) (s.heap.objs.size + 2) (s.heap.objs.size + 3) .none → IsPair h' (s.heap.objs.size + 2) (.ref s.heap.objs.size) (.ref (s.heap.objs.size + 1)) →
      IsPair h' (s.heap.objs.size + 3) .none .none → WalkIs k h' s.heap.objs.size a 0 → WalkIs l h' (s.heap.objs.size + 1) c 0 → (∀ b o, s.heap.get? b = some o → h'.get? b = some o) → Q (.ref (s.heap.objs.size + 4)) { s with heap := h' }) :
    wpAny (model P w) A (call (.type "zip") [.ref a, .ref c]) Q E s := by
  refine callType_new F.called_zip (by decide) (F.typeCall_zip_2 _ _) (F.newCall_zip_2 _ _) (fun obj => F.args_object_init_3 obj _ _) F.entry_zip_new (zipMade k l a c xs ys) ⟨r1, r2, ?_⟩
  have z1 : (zg1 s.heap k a).objs.size = s.heap.objs.size + 1 := Heap.size_push ..
  have z2 : (zg2 s.heap k l a c).objs.size = s.heap.objs.size + 2 := by rw [Heap.size_push, z1]
  have z3 : (zg3 s.heap k l a c).objs.size = s.heap.objs.size + 3 := by rw [Heap.size_push, z2]
  have z4 : (zg4 s.heap k l a c).objs.size = s.heap.objs.size + 4 := by rw [Heap.size_push, z3]
  have m4 : ∀ b o, (zg4 s.heap k l a c).get? b = some o → (zg5 s.heap k l a c).get? b = some o := fun b o e => Heap.get?_push_of_some _ e
  have m3 : ∀ b o, (zg3 s.heap k l a c).get? b = some o → (zg5 s.heap k l a c).get? b = some o := fun b o e => m4 b o (Heap.get?_push_of_some _ e)
  have m2 : ∀ b o, (zg2 s.heap k l a c).get? b = some o → (zg5 s.heap k l a c).get? b = some o := fun b o e => m3 b o (Heap.get?_push_of_some _ e)
  have m1 : ∀ b o, (zg1 s.heap k a).get? b = some o → (zg5 s.heap k l a c).get? b = some o := fun b o e => m2 b o (Heap.get?_push_of_some _ e)
  have g5 : (zg5 s.heap k l a c).get? (zg4 s.heap k l a c).objs.size = some _ := Heap.get?_push_size _ rfl
  have g4 := m4 _ _ (Heap.get?_push_size (zg3 s.heap k l a c) (o := { cls := .type "tuple", data := .seq #[.none, .none] }) rfl)
  have g3 := m3 _ _ (Heap.get?_push_size (zg2 s.heap k l a c) (o := { cls := .type "tuple", data := .seq #[.ref s.heap.objs.size, .ref (zg1 s.heap k a).objs.size] }) rfl)
  have g2 := m2 _ _ (Heap.get?_push_size (zg1 s.heap k a) (o := rowIt l c) rfl)
  have g1 := m1 _ _ (Heap.get?_push_size s.heap (o := rowIt k a) rfl)
  show _ ∧ _
  rw [z2, z3, z4] at g5
  rw [z1, z2] at g3
  rw [z3] at g4
  rw [z1] at g2
  rw [z4]
  exact ⟨⟨_, g5, rfl⟩, h _ g5 g3 g4 ⟨_, g1, rfl, rfl⟩ ⟨_, g2, rfl, rfl⟩ fun b o e => m1 b o (Heap.get?_push_of_some _ e)⟩
end
section
variable {X : Cx} {es : List Expr} {ct : Nat} {tp : Pos}
end
end L2
namespace L2
open PySem PySem.Spec PyProof.Rows
def stA (a b : List Nat) (i : Nat) : Bool := decide (i + b.length ≤ a.length ∧ (a.drop i).take b.length = b)
def fnd (a b : List Nat) (lo : Nat) : Int := match (List.range' lo (a.length + 1 - lo)).find? (stA a b) with | some k => (k : Int) | none => -1
theorem occ_stays (s sub : Str) (hi : Nat) : ∀ (l : List Nat) (st : Array Nat × Nat), st.fst.size = 1 → (forIn l st (StrLaws.occBody s sub hi 1)).run.fst = st.fst
  | [], _, _ => rfl
  | x :: l, st, h => by
    rw [List.forIn_cons]
    unfold StrLaws.occBody
    rw [if_neg (fun z => by have := z.1.1.1; omega)]
    exact occ_stays s sub hi l (st.fst, st.snd) h
theorem occ_first (s sub : Str) (hi : Nat) (p : Nat → Bool) (hp : ∀ i, p i = true ↔ (i + sub.length ≤ hi ∧ Builtin.Str.subAt s sub i = true)) : ∀ (l : List Nat) (free : Nat), (∀ i ∈ l, free ≤ i) →
    (forIn l ((#[] : Array Nat), free) (StrLaws.occBody s sub hi 1)).run.fst = (match l.find? p with | some k => #[k] | none => #[])
  | [], _, _ => rfl
  | x :: l, free, hf => by
    rw [List.forIn_cons, List.find?_cons]
    unfold StrLaws.occBody
    have hx : free ≤ x := hf x (List.mem_cons_self ..)
    cases c : p x with
    | true =>
      have hc := (hp x).mp c
      rw [if_pos ⟨⟨⟨by simp, hx⟩, hc.1⟩, hc.2⟩]
      exact occ_stays s sub hi l (#[x], x + sub.length) rfl
    | false =>
      rw [if_neg (fun z => by
        have := (hp x).mpr ⟨z.1.2, z.2⟩
        rw [c] at this; cases this)]
      exact occ_first s sub hi p hp l free fun i h => hf i (List.mem_cons_of_mem _ h)
theorem subAt_S (a b : List Nat) (i : Nat) : Builtin.Str.subAt (S a) (S b) i = decide ((a.drop i).take b.length = b) := by
  unfold Builtin.Str.subAt
  rw [S_len]
  have e1 : ((S a).cps.extract i (i + b.length)) = ((a.drop i).take b.length).toArray := by
    show a.toArray.extract _ _ = _
    rw [List.extract_toArray, List.extract_eq_take_drop]
    congr 2
    omega
  rw [e1]
  show (((a.drop i).take b.length).toArray == b.toArray) = _
  by_cases h : (a.drop i).take b.length = b
  · rw [decide_eq_true h, h]; simp
  · rw [decide_eq_false h, beq_eq_false_iff_ne]
    intro z
    exact h (by simpa using congrArg Array.toList z)
theorem fnd_occ (a b : List Nat) (lo : Nat) : (match Builtin.Str.occurrences (S a) (S b) lo (S a).length 1 with | k :: _ => (k : Int) | [] => -1) = fnd a b lo := by
  rw [StrLaws.occ_eq, S_len, occ_first (S a) (S b) a.length (stA a b) (fun i => ?_) _ lo (fun i hi => (List.mem_range'_1.mp hi).1)]
  · unfold fnd
    cases (List.range' lo (a.length + 1 - lo)).find? (stA a b) <;> rfl
  · unfold stA
    rw [subAt_S, S_len]
    simp
section
variable {X : Cx}
theorem mt_find1 : MtR X "str.find" (fun x xs H Q => ∃ a b, x = .str (S a) ∧ xs = [.str (S b)] ∧ Q (.int (fnd a b 0)) H) := by
  intro pins s σ H x xs v us Q I rx rs h
  obtain ⟨a, b, rfl, rfl, q⟩ := h
  obtain ⟨t, rfl⟩ := rx
  obtain ⟨u, rfl, t', rfl⟩ := vals1 rs
  have e : Txt.find (S a) (S b) = fnd a b 0 := fnd_occ a b 0
  exact SC.find ⟨.int _, H, I.tok _, ⟨_, rfl⟩, by rw [e]; exact q⟩
end
theorem fnd_some {a b : List Nat} {lo : Nat} (h : fnd a b lo ≠ -1) : ∃ k : Nat, fnd a b lo = (k : Int) ∧ lo ≤ k ∧ stA a b k = true ∧ ∀ j, lo ≤ j → j < k → stA a b j = false := by
  unfold fnd at h ⊢
  cases e : (List.range' lo (a.length + 1 - lo)).find? (stA a b) with
  | none => rw [e] at h; exact absurd rfl h
  | some k =>
    obtain ⟨h1, h2⟩ := List.find?_eq_some_iff_append.mp e
    obtain ⟨as, bs, hl, hn⟩ := h2
    have hk : k ∈ List.range' lo (a.length + 1 - lo) := by rw [hl]; simp
    refine ⟨k, rfl, (List.mem_range'_1.mp hk).1, h1, fun j hj1 hj2 => ?_⟩
    have hj : j ∈ List.range' lo (a.length + 1 - lo) := List.mem_range'_1.mpr ⟨hj1, by have := (List.mem_range'_1.mp hk).2; omega⟩
    have hs : (List.range' lo (a.length + 1 - lo)).Pairwise (· < ·) := List.pairwise_lt_range'
    rw [hl] at hj hs
    rcases List.mem_append.mp hj with z | z
    · have := hn j z
      simpa using this
    · rcases List.mem_cons.mp z with z | z
      · omega
      · have := (List.pairwise_cons.mp (List.pairwise_append.mp hs).2.1).1 j z
        omega
theorem fnd_none {a b : List Nat} {lo : Nat} (h : fnd a b lo = -1) : ∀ j, lo ≤ j → stA a b j = false := by
  unfold fnd at h
  cases e : (List.range' lo (a.length + 1 - lo)).find? (stA a b) with
  | some k => rw [e] at h; simp only at h; omega
  | none =>
    intro j hj
    by_cases hlt : j < a.length + 1
    · have := List.find?_eq_none.mp e j (List.mem_range'_1.mpr ⟨hj, by omega⟩)
      simpa using this
    · unfold stA
      rw [decide_eq_false (fun z => by have := z.1; omega)]
end L2
namespace L2
open PySem PySem.Spec PyProof.Rows
section
variable {prog : Program} {w : World} {A : Around} {E : Value → Shared → Prop} {s : Shared}
end
section
variable {X : Cx} {tg : Expr}
def Itk (k : Bool) (K : PySem.W.Frag) (a : Addr) : It := cond k (Itt K a) (Itl K a)
def rCatL (K : PySem.W.Frag) : R2 := fun x y H Q => ∃ l b xs zs, x = .ref l ∧ y = .ref b ∧ SqL K H l xs ∧ SqL K H b zs ∧ xs.length + zs.length ≤ sizeLine ∧ ∀ p, H p = none → Q (.ref p) (upd H p (.lst (xs ++ zs)))
theorem op_catL : OpR X (binaryOp .Add) (rCatL X.K) := by
  intro pins s σ H x y v u Q I rx ry h
  obtain ⟨l, b, xs, zs, rfl, rfl, hH, hB, hz, q⟩ := h
  cases rx
  cases ry
  obtain ⟨its, r, pl, hl⟩ := I.list hH
  obtain ⟨its2, r2, pl2, hl2⟩ := I.list hB
  obtain ⟨⟨cls, dd, data, sl⟩, ho, hc, n, hd⟩ := pl.isList
  obtain ⟨⟨cls2, dd2, data2, sl2⟩, ho2, hc2, n2, hd2⟩ := pl2.isList
  simp only at hc hd hc2 hd2
  subst hc hd hc2 hd2
  have n1 := r.length
  have n2' := r2.length
  have ea : its.toArray ++ its2.toArray = (its ++ its2).toArray := by simp
  have fin : EP X pins σ Q (.ref s.heap.objs.size) { s with heap := s.heap.push { cls := .type "list", data := .seq (its.toArray ++ its2.toArray) } } := by
    rw [ea]
    exact ⟨.ref _, _, I.lnew (t' := s.toks) (r.append r2) (by rw [List.length_append]; omega), rfl, q _ I.fresh⟩
  exact concat_meets ⟨_, ho, rfl⟩ ⟨_, ho2, rfl⟩ noFill_list_add seq_list_add PySem.F.slot_list_add PySem.F.entry_list_add (PySem.F.args_list_add_2 _ _) (list_addW l b its.toArray its2.toArray n n2 dd dd2 sl sl2 (by simp; omega)) ⟨ho, ho2, fin⟩
end
end L2
namespace L2
open PySem PySem.Spec PyProof.Rows
def tx (l : List Nat) : V := .str (S l)
def Flat (n : Nat) (d : PyData) : Prop := d.canLay0 = true ∧ d.depth ≤ n
theorem Flat.shaped {n : Nat} {d : PyData} (h : Flat n d) (hn : n ≤ 64) : SeqAt.shaped d = true := by
  unfold SeqAt.shaped
  rw [h.1, decide_eq_true (Nat.le_trans h.2 hn)]; rfl
theorem flatAll {n : Nat} : ∀ {ds : List PyData}, (∀ d ∈ ds, Flat n d) → PyData.canLayAll0 ds = true ∧ PyData.depthAll ds ≤ n
  | [], _ => ⟨rfl, Nat.zero_le _⟩
  | d :: ds, h => by
    obtain ⟨a, b⟩ := flatAll (ds := ds) fun x hx => h x (List.mem_cons_of_mem _ hx)
    obtain ⟨c, e⟩ := h d List.mem_cons_self
    simp only [PyData.canLayAll0, PyData.depthAll, a, c]
    exact ⟨rfl, Nat.max_le.mpr ⟨e, b⟩⟩
theorem Flat.list {n : Nat} {ds : List PyData} (h : ∀ d ∈ ds, Flat n d) : Flat (n + 1) (.list ds) := by
  obtain ⟨a, b⟩ := flatAll h
  exact ⟨by simp only [PyData.canLay0]; exact a, by simp only [PyData.depth]; omega⟩
theorem Flat.int (i : Int) : Flat 0 (.int i) := ⟨by simp [PyData.canLay0], by simp [PyData.depth]⟩
def Lts (l : List Nat) : Prop := ∀ c ∈ l, 97 ≤ c ∧ c ≤ 122
theorem Lts.nil : Lts [] := fun c h => nomatch h
theorem Lts.app {a b : List Nat} (x : Lts a) (y : Lts b) : Lts (a ++ b) := fun c h => (List.mem_append.mp h).elim (x c) (y c)
theorem Lts.one {c : Nat} (h : 97 ≤ c ∧ c ≤ 122) : Lts [c] := fun d hd => by
  have : d = c := by simpa using hd
  subst this; exact h
theorem Lts.take {a : List Nat} (x : Lts a) (n : Nat) : Lts (a.take n) := fun c h => x c (List.mem_of_mem_take h)
theorem Lts.drop {a : List Nat} (x : Lts a) (n : Nat) : Lts (a.drop n) := fun c h => x c (List.mem_of_mem_drop h)
theorem Lts.cut {a : List Nat} (x : Lts a) (lo hi : Option Int) : Lts (cutN a lo hi) := (x.drop _).take _
theorem Lts.rep {a : List Nat} (x : Lts a) (n : Int) : Lts (repN a n) := fun c h => by
  unfold repN at h
  obtain ⟨l, h1, h2⟩ := List.mem_flatten.mp h
  rw [List.eq_of_mem_replicate h1] at h2
  exact x c h2
theorem Flat.str {l : List Nat} (h : Lts l) : Flat 0 (.str (S l)) := by
  refine ⟨?_, by simp [PyData.depth]⟩
  simp only [PyData.canLay0, PyData.strOk, S]
  rw [Array.all_eq_true]
  intro i hi
  have := h l[i] (List.getElem_mem _)
  simp only [List.getElem_toArray, decide_eq_true_eq]
  omega
theorem flat_ints (ns : List Int) : ∀ d ∈ ns.map PyData.int, Flat 0 d := fun d hd => by
  obtain ⟨i, _, rfl⟩ := List.mem_map.mp hd
  exact Flat.int i
theorem flat_texts {ws : List (List Nat)} (h : ∀ w ∈ ws, Lts w) : ∀ d ∈ ws.map (fun w => PyData.str (S w)), Flat 0 d := fun d hd => by
  obtain ⟨i, hi, rfl⟩ := List.mem_map.mp hd
  exact Flat.str (h i hi)
theorem shaped_texts {ws : List (List Nat)} (h : ∀ w ∈ ws, Lts w) : SeqAt.shaped (.list (ws.map fun w => PyData.str (S w))) = true := (Flat.list (flat_texts h)).shaped (by decide)
theorem eqv_same {d : PyData} (h : SeqAt.shaped d = true) : PyData.eqv d d = true := SeqAt.eqv_refl d (SeqAt.canLay_of_shaped h)
end L2
namespace L2
open PySem PySem.Spec PyProof.Rows
section
variable {κ : Type} [DecidableEq κ]
theorem KV.length {kvs : List (κ × V)} {vs : List (κ × Value)} (r : KV kvs vs) : kvs.length = vs.length := Paired.length r
end
section
variable {P : Program} {w : World} {H : Hp} {h : Heap} {a : Addr}
theorem rd_of {u : HO} (ok : HOk P w H h) (e : Rd H a u) : ObjOk P w H h a u := e.ok ok
theorem dk_rd {kvs : List (Key × V)} (ok : HOk P w H h) (e : Rd H a (.dK kvs)) : kvs.length ≤ sizeLine ∧ (a == sysModules) = false ∧ ∃ vs, KV kvs vs ∧ h.DictOf (mixKind P w) a vs :=
  show ObjOk P w H h a (.dK kvs) from rd_of ok e
end
section
variable {X : Cx} {pins : List (Addr × Obj)} {σ : St} {H : Hp} {s : Shared} {a : Addr} {y v : V} {u r : Value} {o : Option V} {A : Around} {E : Value → Shared → Prop}
theorem Inv.big (I : Inv X pins σ H s) : sysModules < s.heap.objs.size := by
  have h : mainGlobals < s.heap.objs.size := (I.mod.glob.keeps I.bk).lt
  exact Nat.lt_trans (by decide) h
end
section
variable {X : Cx} {pins : List (Addr × Obj)} {σ : St} {H : Hp} {s : Shared} {a : Addr} {kvs : List (Key × V)} {k : Key} {u : Value} {A : Around} {E : Value → Shared → Prop}
theorem d_len {Q : Value → Shared → Prop} (I : Inv X pins σ H s) (e : Rd H a (.dK kvs)) (h : ∀ t s', Inv X pins σ H s' → Q (.int kvs.length t) s') : wpAny (model X.prog X.w) A (call (.builtin "len") [.ref a]) Q E s := by
  obtain ⟨z, hd, vs, rel, dd⟩ := dk_rd I.hok e
  refine call_len_dict hd dd (by rw [← rel.length]; rw [sizeLine_eq] at z; omega) ?_
  rw [← rel.length]
  exact h _ _ (I.tok _)
end
section
variable {X : Cx} {o i e value : Expr} {pos pos' tpos : Pos} {td ty tv : TE}
end
theorem dk_empty {P : Program} {w : World} {H : Hp} (h : Heap) (hb : sysModules < h.objs.size) : ObjOk P w H (h.push { cls := .type "dict", data := .dict #[] }) h.objs.size (.dK []) :=
  ⟨Nat.zero_le _, beq_eq_false_iff_ne.mpr (Ne.symm (Nat.ne_of_lt hb)), [], .nil, Heap.DictOf.new h⟩
def tDNewK : TE := fun _ H Q => ∀ p, H p = none → Q (.ref p) (upd H p (.dK []))
section
variable {X : Cx} {pos : Pos}
theorem pe_dnewK : PE X (.Dict [] [] pos) tDNewK := fun pins s σ H Q I h =>
  wpAny_Dict_empty ⟨.ref s.heap.objs.size, _, I.laid (a := s.heap.objs.size) (o := .dK []) (t' := s.toks) (fun _ _ q => Heap.get?_push_of_some _ q) (Nat.le_refl _) (dk_empty s.heap I.big), rfl, h _ (I.hok.fresh (Nat.le_refl _))⟩
end
section
variable {X : Cx} {pins : List (Addr × Obj)} {σ : St} {H : Hp} {s : Shared} {a : Addr} {y d : V} {u r : Value} {o : Option V} {A : Around} {E : Value → Shared → Prop}
end
section
variable {X : Cx} {o e f : Expr} {apos cpos : Pos} {td ty tx : TE}
end
section
variable {X : Cx} {pins : List (Addr × Obj)} {σ : St} {H : Hp} {s : Shared} {a : Addr} {kvs : List (Key × V)} {A : Around} {E : Value → Shared → Prop}
end
section
variable {X : Cx} {pins : List (Addr × Obj)} {σ : St} {H : Hp} {s : Shared} {a : Addr} {y : V} {u : Value} {A : Around} {E : Value → Shared → Prop}
end
end L2
namespace L2
open PySem PySem.Spec PyProof.Rows
section
variable {X : Cx}
end
section
variable {P : Program} {w : World} {K : PySem.W.Frag} {mg : Str → Option Value} {base : Heap} {x : Str} {st : Stmt} {N ps : List Str} {k : Nat} {sp : Sp} {dvs : List V}
end
section
variable {X : Cx} {k : Nat} {x : Str} {ps : List Str} {sp : Sp} {p pos : Pos} {e : Expr} {es : List Expr} {t : TA} {dvs : List V}
theorem kit_at {pins : List (Addr × Obj)} {σ : St} {H : Hp} {s : Shared} {x : V} {u t : Value} (I : Inv X pins σ H s) (rx : RelV x u) (ty : TyOf X.K H x t) :
    ∃ Hq : Heap → Prop, PySem.W.KitX X.K u t Hq ∧ Hq s.heap ∧ u ≠ .builtin "__main__.__loader__#opaque" := by
  cases ty with
  | non => cases (show u = Value.none from rx); exact ⟨_, PySem.W.kitx_none, True.intro, fun z => nomatch z⟩
  | bl y => cases (show u = Value.bool y from rx); exact ⟨_, PySem.W.kitx_bool, True.intro, fun z => nomatch z⟩
  | int i => obtain ⟨t, q⟩ := (show ∃ t, u = Value.int i t from rx); cases q; exact ⟨_, PySem.W.kitx_int, True.intro, fun z => nomatch z⟩
  | str y => obtain ⟨t, q⟩ := (show ∃ t, u = Value.str y t from rx); cases q; exact ⟨_, PySem.W.kitx_str, True.intro, fun z => nomatch z⟩
  | flt y => obtain ⟨t, q⟩ := (show ∃ t, u = Value.float y t from rx); cases q; exact ⟨_, PySem.W.kitx_float, True.intro, fun z => nomatch z⟩
  | @lst a xs ea =>
    cases (show u = Value.ref a from rx)
    obtain ⟨_, _, n, _, h1⟩ := (show ObjOk X.prog X.w H s.heap a (.lst xs) from I.hok a _ ea)
    exact ⟨_, PySem.W.kitx_list, ⟨_, h1, rfl⟩, fun z => nomatch z⟩
  | @frz a ob xs ea =>
    cases (show u = Value.ref a from rx)
    obtain ⟨_, _, _, n, _, h1⟩ := (show ObjOk X.prog X.w H s.heap a (.frz ob (.lst xs)) from I.hok a _ ea)
    exact ⟨_, PySem.W.kitx_list, ⟨_, h1, rfl⟩, fun z => nomatch z⟩
  | @tup a xs ea =>
    cases (show u = Value.ref a from rx)
    obtain ⟨_, _, _, p⟩ := (show ObjOk X.prog X.w H s.heap a (.tup xs) from I.hok a _ ea)
    obtain ⟨o, h1, h2, _⟩ := p
    exact ⟨_, PySem.W.kitx_tuple, ⟨o, h1, h2⟩, fun z => nomatch z⟩
  | @dK a kvs ea =>
    cases (show u = Value.ref a from rx)
    obtain ⟨_, _, vs, _, p⟩ := (show ObjOk X.prog X.w H s.heap a (.dK kvs) from I.hok a _ ea)
    obtain ⟨o, es, ep, h1, h2, _⟩ := p
    exact ⟨_, PySem.W.kitx_dict, ⟨o, h1, h2.1⟩, fun z => nomatch z⟩
  | @dT a kvs ea =>
    cases (show u = Value.ref a from rx)
    obtain ⟨_, _, xs, _, o, es, ep, h1, h2, _⟩ := (show ObjOk X.prog X.w H s.heap a (.dT kvs) from I.hok a _ ea)
    exact ⟨_, PySem.W.kitx_dict, ⟨o, h1, h2.1⟩, fun z => nomatch z⟩
  | @ins a C dx fs ea cl ha hn htk hm =>
    cases (show u = Value.ref a from rx)
    obtain ⟨mA, O, _⟩ := ins_get I.hok ea
    obtain ⟨od, J, _⟩ := O.look
    exact ⟨_, PySem.W.kitx_own (cl.get _) cl.hd ha hn htk hm, J, fun z => nomatch z⟩
theorem vals_tys : ∀ {ts : List String} {us : List Value}, Vals (ts.map V.ty) us → us = ts.map Value.type
  | [], _, .nil => rfl
  | t :: ts, _, .cons r rr => by rw [vals_tys rr, show _ = Value.type t from r]; rfl
theorem call_isinstT : CallR X (.builtin "isinstance") (fun xs H Q => ∃ (x : V) (p : Addr) (ts : List String) (t : Value) (b : Bool), xs = [x, .ref p] ∧ TyOf X.K H x t ∧ H p = some (.tup (ts.map V.ty)) ∧ PySem.W.kitAny X.K t (ts.map Value.type) = some b ∧ Q (.bl b) H) := by
  intro pins s σ H xs us Q I r h
  obtain ⟨x, p, ts, t, b, rfl, ty, hp, e, q⟩ := h
  obtain ⟨u, w', rfl, rx, ry⟩ := vals2 r
  cases (show w' = Value.ref p from ry)
  obtain ⟨Hq, Z, hq, hx⟩ := kit_at I rx ty
  obtain ⟨its, rv, ⟨⟨cls, dd, data, sl⟩, ho, hc, n, hd⟩, _⟩ := I.tuple (SqT.of hp)
  simp only at hc hd
  subst hc hd
  exact PySem.W.kia_tup Z I.kIn hq ho (by rw [vals_tys rv]; exact e) hx fun tk => ⟨.bl b, H, I.tok _, rfl, q⟩
theorem range_all_get (bs : List Bool) : (List.range bs.length).all (fun i => bs.getD i false) = bs.all id := by
  induction bs with
  | nil => rfl
  | cons b bs ih => rw [List.length_cons, List.range_succ_eq_map, List.all_cons, List.all_map, List.all_cons, ← ih]; rfl
theorem range_any_get (bs : List Bool) : (List.range bs.length).any (fun i => bs.getD i false) = bs.any id := by
  induction bs with
  | nil => rfl
  | cons b bs ih => rw [List.length_cons, List.range_succ_eq_map, List.any_cons, List.any_map, List.any_cons, ← ih]; rfl
theorem bls_get {bs : List Bool} {its : List Value} (r : Vals (bs.map V.bl) its) {i : Nat} {v : Value} (h : its.toArray[i]? = some v) : v = .bool (bs.getD i false) := by
  have h' : its[i]? = some v := by simpa using h
  have hl := r.length
  rw [List.length_map] at hl
  have hi : i < bs.length := by have := (List.getElem?_eq_some_iff.mp h').1; omega
  obtain ⟨u, e1, e2⟩ := r.get (i := i) (x := V.bl bs[i]) (by rw [List.getElem?_map, List.getElem?_eq_getElem hi]; rfl)
  rw [h'] at e1
  cases e1
  rw [show v = Value.bool bs[i] from e2, List.getD_eq_getElem?_getD, List.getElem?_eq_getElem hi]; rfl
theorem call_all (hc : X.calm = true) : CallR X (.builtin "all") (fun xs H Q => ∃ (p : Addr) (bs : List Bool), xs = [.ref p] ∧ SqL X.K H p (bs.map V.bl) ∧ Q (.bl (bs.all id)) H) := by
  intro pins s σ H xs us Q I r h
  obtain ⟨p, bs, rfl, hS, q⟩ := h
  obtain ⟨u, rfl, ru⟩ := vals1 r
  cases (show u = Value.ref p from ru)
  obtain ⟨its, rv, pl, hz⟩ := I.list hS
  have hl := rv.length
  rw [List.length_map] at hl
  have hps : p < s.heap.objs.size := let ⟨o, ho, _⟩ := pl.isList; Heap.lt_size ho
  obtain ⟨f0, f1, f2, f3, f4, f5⟩ := I.fpOk (H' := H) (Nat.le_refl s.heap.objs.size) (I.hok.fresh (Nat.le_refl _))
  refine call_all_walk (wpAny_pyIter_list pl.isList ⟨s.heap.objs.size, _, _, its.toArray.size, _, _, fun i => bs.getD i false, rfl, Walks.list (by exact I.ok.hd hc) s.heap.objs.size p (Nat.ne_of_lt hps) its.toArray, ⟨⟨_, Heap.get?_push_size _ rfl, rfl, rfl⟩, pl.isList.push _⟩, fun i v s Q E hP hQ => ?_, fun h' tk hk => ?_⟩)
  · rw [bls_get rv hP]; exact wpAny_truthy_bool hQ
  · have I1 : Inv X pins σ H { s with heap := s.heap.push { cls := .type "list_iterator", data := .fields #[.ref p, .int 0 0] } } := I.kept (t' := s.toks) fun b o e => Heap.get?_push_of_some _ e
    have I2 := I1.turned (h' := h') (t' := tk) (it := s.heap.objs.size) (fun b o hb e => hk b o (by simpa using hb) e) f0 f1 f3 f4 f5
    refine ⟨.bl (bs.all id), H, I2, ?_, q⟩
    show Value.bool _ = Value.bool _
    rw [List.size_toArray, ← hl, range_all_get]
theorem call_any (hc : X.calm = true) : CallR X (.builtin "any") (fun xs H Q => ∃ (p : Addr) (bs : List Bool), xs = [.ref p] ∧ SqL X.K H p (bs.map V.bl) ∧ Q (.bl (bs.any id)) H) := by
  intro pins s σ H xs us Q I r h
  obtain ⟨p, bs, rfl, hS, q⟩ := h
  obtain ⟨u, rfl, ru⟩ := vals1 r
  cases (show u = Value.ref p from ru)
  obtain ⟨its, rv, pl, hz⟩ := I.list hS
  have hl := rv.length
  rw [List.length_map] at hl
  have hps : p < s.heap.objs.size := let ⟨o, ho, _⟩ := pl.isList; Heap.lt_size ho
  obtain ⟨f0, f1, f2, f3, f4, f5⟩ := I.fpOk (H' := H) (Nat.le_refl s.heap.objs.size) (I.hok.fresh (Nat.le_refl _))
  refine call_any_walk (wpAny_pyIter_list pl.isList ⟨s.heap.objs.size, _, _, its.toArray.size, _, _, fun i => bs.getD i false, rfl, Walks.list (by exact I.ok.hd hc) s.heap.objs.size p (Nat.ne_of_lt hps) its.toArray, ⟨⟨_, Heap.get?_push_size _ rfl, rfl, rfl⟩, pl.isList.push _⟩, fun i v s Q E hP hQ => ?_, fun h' tk hk => ?_⟩)
  · rw [bls_get rv hP]; exact wpAny_truthy_bool hQ
  · have I1 : Inv X pins σ H { s with heap := s.heap.push { cls := .type "list_iterator", data := .fields #[.ref p, .int 0 0] } } := I.kept (t' := s.toks) fun b o e => Heap.get?_push_of_some _ e
    have I2 := I1.turned (h' := h') (t' := tk) (it := s.heap.objs.size) (fun b o hb e => hk b o (by simpa using hb) e) f0 f1 f3 f4 f5
    refine ⟨.bl (bs.any id), H, I2, ?_, q⟩
    show Value.bool _ = Value.bool _
    rw [List.size_toArray, ← hl, range_any_get]
end
end L2
namespace L2
open PySem PySem.Spec PyProof.Rows
end L2
namespace L2
open PySem PySem.Spec PyProof.Rows
end L2
namespace L2
open PySem PySem.Spec PyProof.Rows
section
variable {X : Cx} {p : Pos}
end
end L2
namespace L2
open PySem PySem.Spec PyProof.Rows
section
variable {X : Cx} {pins : List (Addr × Obj)} {σ : L2.St} {H : Hp} {s : Shared} {a : Addr} {kvs : List (Key × V)} {k : Key} {d : V} {u r : Value} {A : Around} {E : Value → Shared → Prop}
end
section
variable {X : Cx} {o e f : Expr} {apos cpos : Pos} {td ty tx : TE}
theorem call_lenD : CallR X (.builtin "len") (fun xs H Q => ∃ p kvs, xs = [.ref p] ∧ Rd H p (.dK kvs) ∧ Q (.int kvs.length) H) := by
  intro pins s σ H xs us Q I r h
  obtain ⟨p, kvs, rfl, hd, q⟩ := h
  obtain ⟨u, rfl, ru⟩ := vals1 r
  cases (show u = Value.ref p from ru)
  exact d_len I hd fun t s' I' => ⟨.int kvs.length, H, I', ⟨t, rfl⟩, q⟩
end
def clsOf (K : PySem.W.Frag) (x : Str) : Addr := match PySem.W.nsIn K mainGlobals x with
  | some (some (.ref C)) => C
  | _ => 0
section
variable {P : Program} {w : World} {K : PySem.W.Frag} {mg : Str → Option Value} {base : Heap} {x m qual : Str} {C : Addr} {st : Stmt} {N ps : List Str} {k : Nat} {sp : Sp}
end
section
variable {X : Cx} {k : Nat} {x m : Str} {C : Addr} {ps : List Str} {sp : Sp} {p pos apos : Pos} {o e : Expr} {es : List Expr} {ta : TE} {t : TA}
end
end L2
namespace L2
open PySem PySem.Spec PyProof.Rows
section
variable {P : Program} {w : World} {A : Around} {E : Value → Shared → Prop} {s : Shared} {k : Bool}
end
section
variable {X : Cx} {es : List Expr} {ct : Nat} {tp : Pos}
end
end L2
namespace L2
open PySem PySem.Spec PyProof.Rows
section
variable {X : Cx}
theorem strs_of : ∀ {ws : List (List Nat)} {us : List Value}, Vals (ws.map tx) us → StrsAre us (ws.map S)
  | [], _, .nil => .nil
  | w :: ws, _, .cons r rr => by
    obtain ⟨t, e⟩ := r
    subst e
    exact .cons _ _ (strs_of rr)
end
end L2
namespace L2
open PySem PySem.Spec PyProof.Rows
section
variable {X : Cx} {es : List Expr} {ct : Nat} {tp : Pos}
def iZipW (K : PySem.W.Frag) (ta : TA) : TI := fun σ H R => ta σ H fun vs H1 => ∃ k l a c, vs = [.ref a, .ref c] ∧ (∃ xs ys, Sq k K H1 a xs ∧ Sq l K H1 c ys) ∧ R (Itz k l K a c) H1
end
end L2
namespace L2
open PySem PySem.Spec PyProof.Rows
section
variable {X : Cx} {e : Expr} {ta : TE} {f : Str} {pos : Pos}
def rLenL (K : PySem.W.Frag) : List V → Hp → VK → Prop := fun xs H Q => ∃ p ys, xs = [.ref p] ∧ SqL K H p ys ∧ Q (.int ys.length) H
def rLenT (K : PySem.W.Frag) : List V → Hp → VK → Prop := fun xs H Q => ∃ p ys, xs = [.ref p] ∧ SqT K H p ys ∧ Q (.int ys.length) H
def rIsI (K : PySem.W.Frag) : List V → Hp → VK → Prop := fun xs H Q => ∃ x n t b, xs = [x, .ty n] ∧ TyOf K H x t ∧ PySem.W.kitOne K t (.type n) = some b ∧ Q (.bl b) H
def rListOf (K : PySem.W.Frag) : List V → Hp → VK → Prop := fun xs H Q => ∃ p ys, xs = [.ref p] ∧ (SqL K H p ys ∨ SqT K H p ys) ∧ ∀ l, H l = none → Q (.ref l) (upd H l (.lst ys))
end
end L2
namespace L2
open PySem PySem.Spec PyProof.Rows
section
variable {X : Cx} {o e : Expr} {es : List Expr} {to : TE} {t : TA} {name : Str} {apos cpos : Pos} {T id : String} {r : V → List V → Hp → VK → Prop}
theorem pe_bmK (K : PySem.W.Frag) (eK : X.K = K) (pa : PlainAttrs T) (slot : Slot T name id) (hty : typeOf (.builtin id) = pure (.type "method_descriptor")) (hm : MtR X id r) (ho : PE X o to) (ha : PA X (e :: es) t)
    (hbase : attributeBase o name X.env (eval o X.env) = eval o X.env := by rfl)
    (hfew : ((backTo cpos (starEach (e :: es) X.env)).all (fun x => !x.1) && (backToKw cpos (keywordEach [] X.env)).all (fun x => x.1.isSome)
      && decide ((e :: es).length + ([] : List Keyword).length + (if ([] : List Keyword).isEmpty then 0 else 1) < 30)) = true := by rfl)
    (hline : (apos.endLine == cpos.line) = true := by rfl) (hs : starEach (e :: es) X.env = (false, eval e X.env) :: starEach es X.env := by rfl) (hplain : (backTo cpos (starEach es X.env)).any (·.1) = false := by rfl) :
    PE X (.Call (.Attribute o name apos) (e :: es) [] cpos) (tBM K T r to t) := eK ▸ pe_bm pa slot hty hm ho ha hbase hfew hline hs hplain
theorem pg_tupK (K : PySem.W.Frag) (eK : X.K = K) {es : List Expr} {k : Nat} {t : TGs} {n : Nat} {pos : Pos} (hc : X.calm = true) (h : PGs X es t)
    (hn : (assignEach es X.env).length = n := by rfl) (hst : (assignEach es X.env).findIdx? (·.1) = none := by rfl) : PG X (.Tuple es k pos) (gTup K n t) := eK ▸ pg_tup hc h hn hst
end
end L2
namespace L2
open PySem PySem.Spec PyProof.Rows
def PIte (c : Bool) (A B : Prop) : Prop := match c with | true => A | false => B
theorem pite {c : Bool} {A B : Prop} (h1 : c = true → A) (h2 : c = false → B) : PIte c A B := by
 cases c with
 | true => exact h1 rfl
 | false => exact h2 rfl
theorem piteD {p : Prop} [Decidable p] {A B : Prop} (h1 : p → A) (h2 : ¬ p → B) : PIte (decide p) A B := pite (fun h => h1 (of_decide_eq_true h)) (fun h => h2 (of_decide_eq_false h))
theorem piteN {p : Prop} [Decidable p] {A B : Prop} (h1 : ¬ p → A) (h2 : p → B) : PIte (!decide p) A B := pite (fun h => h1 fun z => by rw [decide_eq_true z] at h; cases h) (fun h => h2 (by
 by_cases z : p
 ·exact z
 ·rw [decide_eq_false z] at h; cases h))
theorem piteNot {c : Bool} {A B : Prop} (h : PIte c B A) : PIte (!c) A B := by
 cases c <;> exact h
theorem pitT {c : Bool} {A B : Prop} (h : c = true) (hA : A) : PIte c A B := by subst h; exact hA
theorem pitNT {c : Bool} {A B : Prop} (h : c = false) (hA : A) : PIte (!c) A B := by subst h; exact hA
theorem pitNF {c : Bool} {A B : Prop} (h : c = true) (hB : B) : PIte (!c) A B := by subst h; exact hB
inductive D where
 | non | bl (b : Bool) | int (i : Int) | str (l : List Nat) | ty (n : String)
 | lst (ds : List D) | tup (ds : List D) | scr (ns : List Int) | dic (ks : List Key) (ds : List D) | obj (c : Str) (ns : List Str) (ds : List D) | exc (c : Str) (ns : List Str) (ds : List D)
def XAt (x C : Addr) (dd : Option Addr) (h : Heap) : Prop := ∃ o vs, h.get? x = some o ∧ o.cls = .ref C ∧ o.dict = dd ∧ o.data = .fields vs
def plus (A : Addr → Prop) (a : Addr) : Addr → Prop := fun b => A b ∨ b = a
def SqLo (K : PySem.W.Frag) (O : Addr → Prop) (H : Hp) (a : Addr) (xs : List V) : Prop :=
 (¬ O a ∧ Rd H a (.lst xs)) ∨ ∃ (o : Obj) (its : Array Value) (n : Nat), K.lookup a = some o ∧ o.cls = .type "list" ∧ o.dict = none ∧ o.data = .seq its n ∧ its.size ≤ sizeLine ∧ Vals xs its.toList
theorem SqLo.sq {K : PySem.W.Frag} {O : Addr → Prop} {H : Hp} {a : Addr} {xs : List V} (h : SqLo K O H a xs) : SqL K H a xs := h.elim (fun z => .inl z.2) .inr
def Keeps (O : Addr → Prop) (H : Hp) (O' : Addr → Prop) (H' : Hp) : Prop := ∀ b o, ¬ O b → H b = some o → ¬ O' b ∧ H' b = some o
theorem Rd.keeps {O O' : Addr → Prop} {H H' : Hp} {a : Addr} {u : HO} (k : Keeps O H O' H') (n : ¬ O a) (r : Rd H a u) : ¬ O' a ∧ Rd H' a u := by
 rcases r with e | ⟨o, e⟩
 ·exact ⟨(k _ _ n e).1, .inl (k _ _ n e).2⟩
 ·exact ⟨(k _ _ n e).1, .inr ⟨o, (k _ _ n e).2⟩⟩
theorem SqLo.keeps {K : PySem.W.Frag} {O O' : Addr → Prop} {H H' : Hp} {a : Addr} {xs : List V} (k : Keeps O H O' H') (h : SqLo K O H a xs) : SqLo K O' H' a xs := by
 rcases h with ⟨n, r⟩ | r
 ·exact .inl (r.keeps k n)
 ·exact .inr r
mutual
inductive FV (K : PySem.W.Frag) (O : Addr → Prop) (H : Hp) : V → D → Prop
 | non : FV K O H .non .non
 | bl (b : Bool) : FV K O H (.bl b) (.bl b)
 | int (i : Int) : FV K O H (.int i) (.int i)
 | str (l : List Nat) : l.length ≤ 1000000 → FV K O H (.str (S l)) (.str l)
 | ty (n : String) : FV K O H (.ty n) (.ty n)
 | scr {a : Addr} {ns : List Int} : SqLo K O H a (ns.map V.int) → FV K O H (.ref a) (.scr ns)
 | lst {a : Addr} {xs : List V} {ds : List D} : ¬ O a → H a = some (.lst xs) → FVs K O H xs ds → FV K O H (.ref a) (.lst ds)
 | tup {a : Addr} {xs : List V} {ds : List D} : ¬ O a → H a = some (.tup xs) → FVs K O H xs ds → FV K O H (.ref a) (.tup ds)
 | dic {a : Addr} {kvs : List (Key × V)} {ks : List Key} {ds : List D} : ¬ O a → H a = some (.dK kvs) → kvs.map Prod.fst = ks → FVs K O H (kvs.map Prod.snd) ds → FV K O H (.ref a) (.dic ks ds)
 | obj {a dx : Addr} {c : Str} {fs : List (Str × V)} {ns : List Str} {ds : List D} : ¬ O a → H a = some (.ins (clsOf K c) dx fs) → fs.map Prod.fst = ns → FVs K O H (fs.map Prod.snd) ds → FV K O H (.ref a) (.obj c ns ds)
 | exc0 {a : Addr} {c : Str} : ¬ O a → H a = some (.ext (XAt a (clsOf K c) none)) → FV K O H (.ref a) (.exc c [] [])
 | exc1 {a dx : Addr} {c : Str} {fs : List (Str × V)} {ns : List Str} {ds : List D} : ¬ O a → ¬ O dx → H a = some (.ext (XAt a (clsOf K c) (some dx))) → H dx = some (.xd fs) → fs.map Prod.fst = ns → FVs K O H (fs.map Prod.snd) ds → FV K O H (.ref a) (.exc c ns ds)
inductive FVs (K : PySem.W.Frag) (O : Addr → Prop) (H : Hp) : List V → List D → Prop
 | nil : FVs K O H [] []
 | cons {x : V} {d : D} {xs : List V} {ds : List D} : FV K O H x d → FVs K O H xs ds → FVs K O H (x :: xs) (d :: ds)
end
section
variable {K : PySem.W.Frag} {O O' : Addr → Prop} {H H' : Hp}
mutual
theorem FV.keeps (k : Keeps O H O' H') : ∀ {v : V} {d : D}, FV K O H v d → FV K O' H' v d
 | _, _, .non => .non
 | _, _, .bl b => .bl b
 | _, _, .int i => .int i
 | _, _, .str l h => .str l h
 | _, _, .ty n => .ty n
 | _, _, .scr s => .scr (s.keeps k)
 | _, _, .lst n e f => .lst (k _ _ n e).1 (k _ _ n e).2 (FVs.keeps k f)
 | _, _, .tup n e f => .tup (k _ _ n e).1 (k _ _ n e).2 (FVs.keeps k f)
 | _, _, .dic n e m f => .dic (k _ _ n e).1 (k _ _ n e).2 m (FVs.keeps k f)
 | _, _, .obj n e m f => .obj (k _ _ n e).1 (k _ _ n e).2 m (FVs.keeps k f)
 | _, _, .exc0 n e => .exc0 (k _ _ n e).1 (k _ _ n e).2
 | _, _, .exc1 n n2 e e2 m f => .exc1 (k _ _ n e).1 (k _ _ n2 e2).1 (k _ _ n e).2 (k _ _ n2 e2).2 m (FVs.keeps k f)
theorem FVs.keeps (k : Keeps O H O' H') : ∀ {vs : List V} {ds : List D}, FVs K O H vs ds → FVs K O' H' vs ds
 | _, _, .nil => .nil
 | _, _, .cons a b => .cons (FV.keeps k a) (FVs.keeps k b)
end
theorem FVs.length : ∀ {vs : List V} {ds : List D}, FVs K O H vs ds → vs.length = ds.length
 | _, _, .nil => rfl
 | _, _, .cons _ b => by rw [List.length_cons, List.length_cons, b.length]
theorem FVs.get : ∀ {vs : List V} {ds : List D} {i : Nat} {v : V}, FVs K O H vs ds → vs[i]? = some v → ∃ d, ds[i]? = some d ∧ FV K O H v d
 | _, _, 0, _, .cons a _, e => by simp at e; subst e; exact ⟨_, rfl, a⟩
 | _, _, i + 1, v, .cons _ b, e => by
  obtain ⟨d, h1, h2⟩ := b.get (i := i) (v := v) (by simpa using e)
  exact ⟨d, by simpa using h1, h2⟩
theorem FVs.getD : ∀ {vs : List V} {ds : List D} {i : Nat} {d : D}, FVs K O H vs ds → ds[i]? = some d → ∃ v, vs[i]? = some v ∧ FV K O H v d
 | _, _, 0, _, .cons a _, e => by simp at e; subst e; exact ⟨_, rfl, a⟩
 | _, _, i + 1, v, .cons _ b, e => by
  obtain ⟨d, h1, h2⟩ := b.getD (i := i) (d := v) (by simpa using e)
  exact ⟨d, by simpa using h1, h2⟩
theorem FVs.append : ∀ {vs ws : List V} {ds es : List D}, FVs K O H vs ds → FVs K O H ws es → FVs K O H (vs ++ ws) (ds ++ es)
 | _, _, _, _, .nil, s => s
 | _, _, _, _, .cons a b, s => .cons a (b.append s)
theorem FVs.set {v : V} {d : D} (f : FV K O H v d) : ∀ {vs : List V} {ds : List D} (i : Nat), FVs K O H vs ds → FVs K O H (vs.set i v) (ds.set i d)
 | _, _, _, .nil => .nil
 | _, _, 0, .cons _ t => .cons f t
 | _, _, i + 1, .cons q t => .cons q (FVs.set f i t)
theorem FVs.take : ∀ {vs : List V} {ds : List D} (n : Nat), FVs K O H vs ds → FVs K O H (vs.take n) (ds.take n)
 | _, _, 0, _ => .nil
 | _, _, _ + 1, .nil => .nil
 | _, _, n + 1, .cons r t => .cons r (t.take n)
theorem FVs.drop : ∀ {vs : List V} {ds : List D} (n : Nat), FVs K O H vs ds → FVs K O H (vs.drop n) (ds.drop n)
 | _, _, 0, r => r
 | _, _, _ + 1, .nil => .nil
 | _, _, n + 1, .cons _ t => t.drop n
theorem FVs.ints : ∀ {vs : List V} {ns : List Int}, FVs K O H vs (ns.map D.int) → vs = ns.map V.int
 | _, [], .nil => rfl
 | _, n :: r, h => by
  cases h with
  | cons a b => cases a; rw [FVs.ints b]; rfl
theorem FVs.of_ints : ∀ ns : List Int, FVs K O H (ns.map V.int) (ns.map D.int)
 | [] => .nil
 | n :: r => .cons (.int n) (FVs.of_ints r)
theorem FVs.strs : ∀ {vs : List V} {ws : List (List Nat)}, FVs K O H vs (ws.map D.str) → vs = ws.map tx
 | _, [], .nil => rfl
 | _, n :: r, h => by
  cases h with
  | cons a b => cases a; rw [FVs.strs b]; rfl
theorem FVs.bls : ∀ {vs : List V} {bs : List Bool}, FVs K O H vs (bs.map D.bl) → vs = bs.map V.bl
 | _, [], .nil => rfl
 | _, n :: r, h => by
  cases h with
  | cons a b => cases a; rw [FVs.bls b]; rfl
end
inductive PV where
 | dat (d : D) | own (ds : List D) | ins (c : Str) (ns : List Str) (ds : List D)
def PV.isOwn : PV → Bool
 | .dat _ => false
 | _ => true
def PV.d : PV → D
 | .dat d => d
 | .own ds => .lst ds
 | .ins c ns ds => .obj c ns ds
abbrev PSt := List (Option PV)
def Wr (ρ : PSt) (σ : St) (b : Addr) : Prop := ∃ (i : Nat) (p : PV), ρ[i]? = some (some p) ∧ p.isOwn = true ∧ σ[i]? = some (some (.ref b))
def OO (A : Addr → Prop) (ρ : PSt) (σ : St) (b : Addr) : Prop := A b ∨ Wr ρ σ b
def RS (K : PySem.W.Frag) (O : Addr → Prop) (H : Hp) : PV → V → Prop
 | .dat d, v => FV K O H v d
 | .own ds, v => ∃ a xs, v = .ref a ∧ H a = some (.lst xs) ∧ FVs K O H xs ds
 | .ins c ns ds, v => ∃ a dx fs, v = .ref a ∧ H a = some (.ins (clsOf K c) dx fs) ∧ fs.map Prod.fst = ns ∧ FVs K O H (fs.map Prod.snd) ds
structure Rel (K : PySem.W.Frag) (A : Addr → Prop) (ρ : PSt) (σ : St) (H : Hp) : Prop where
 len : ρ.length = σ.length
 get : ∀ (i : Nat) (p : PV), ρ[i]? = some (some p) → ∃ v, σ[i]? = some (some v) ∧ RS K (OO A ρ σ) H p v
 dj : ∀ (i j : Nat) (p q : PV) (v : V), ρ[i]? = some (some p) → ρ[j]? = some (some q) → p.isOwn = true → q.isOwn = true → σ[i]? = some (some v) → σ[j]? = some (some v) → i = j
 dom : ∀ b, A b → H b ≠ none
 sep : ∀ b, A b → ¬ Wr ρ σ b
structure Fr (ρ : PSt) (σ : St) (H : Hp) (ρ' : PSt) (H' : Hp) : Prop where
 kp : ∀ b o, ¬ Wr ρ σ b → H b = some o → H' b = some o
 dm : ∀ b, H b ≠ none → H' b ≠ none
 ow : ∀ b, Wr ρ' σ b → Wr ρ σ b
theorem Fr.refl (ρ : PSt) (σ : St) (H : Hp) : Fr ρ σ H ρ H := ⟨fun _ _ _ h => h, fun _ h => h, fun _ h => h⟩
theorem Fr.trans {ρ ρ1 ρ2 : PSt} {σ : St} {H H1 H2 : Hp} (a : Fr ρ σ H ρ1 H1) (b : Fr ρ1 σ H1 ρ2 H2) : Fr ρ σ H ρ2 H2 :=
 ⟨fun c o n h => b.kp c o (fun z => n (a.ow c z)) (a.kp c o n h), fun c h => b.dm c (a.dm c h), fun c h => a.ow c (b.ow c h)⟩
theorem Fr.keeps {ρ ρ' : PSt} {σ : St} {H H' : Hp} {A : Addr → Prop} (f : Fr ρ σ H ρ' H') : Keeps (OO A ρ σ) H (OO A ρ' σ) H' := fun b o n h =>
 ⟨fun z => z.elim (fun z => n (.inl z)) (fun z => n (.inr (f.ow b z))), f.kp b o (fun z => n (.inr z)) h⟩
theorem Fr.new {ρ : PSt} {σ : St} {H : Hp} {p : Addr} {o : HO} (h : H p = none) : Fr ρ σ H ρ (upd H p o) :=
 ⟨fun b u _ e => by rw [upd_ne (ne_of_none e h)]; exact e, fun b e => by
  by_cases z : b = p
  ·rw [z, upd_same]; exact nofun
  ·rw [upd_ne z]; exact e, fun _ h => h⟩
theorem Keeps.fresh {O : Addr → Prop} {H : Hp} {p : Addr} {o : HO} (h : H p = none) : Keeps O H (plus O p) (upd H p o) := fun b u n e =>
 ⟨fun z => z.elim n (fun z => by rw [z, h] at e; cases e), by rw [upd_ne (ne_of_none e h)]; exact e⟩
theorem Keeps.less {O O' : Addr → Prop} {H : Hp} (h : ∀ b, O' b → O b) : Keeps O H O' H := fun b o n e => ⟨fun z => n (h b z), e⟩
theorem RS.keeps {K : PySem.W.Frag} {O O' : Addr → Prop} {H H' : Hp} {p : PV} {v : V} (k : Keeps O H O' H') (w : p.isOwn = true → ∀ a, v = .ref a → H' a = H a) (h : RS K O H p v) : RS K O' H' p v := by
 cases p with
 | dat d => exact FV.keeps k h
 | own ds =>
  obtain ⟨a, xs, e, g, f⟩ := h
  exact ⟨a, xs, e, by rw [w rfl a e]; exact g, f.keeps k⟩
 | ins c ns ds =>
  obtain ⟨a, dx, fs, e, g, m, f⟩ := h
  exact ⟨a, dx, fs, e, by rw [w rfl a e]; exact g, m, f.keeps k⟩
theorem RS.ref {K : PySem.W.Frag} {O : Addr → Prop} {H : Hp} {p : PV} {v : V} (h : RS K O H p v) (o : p.isOwn = true) : ∃ a u, v = .ref a ∧ H a = some u := by
 cases p with
 | dat d => cases o
 | own ds => obtain ⟨a, xs, e, g, f⟩ := h; exact ⟨a, _, e, g⟩
 | ins c ns ds => obtain ⟨a, dx, fs, e, g, m, f⟩ := h; exact ⟨a, _, e, g⟩
theorem Rel.wr {K : PySem.W.Frag} {A : Addr → Prop} {ρ : PSt} {σ : St} {H : Hp} (R : Rel K A ρ σ H) {b : Addr} (h : Wr ρ σ b) : H b ≠ none := by
 obtain ⟨i, p, e, o, s⟩ := h
 obtain ⟨v, s', r⟩ := R.get i p e
 rw [s] at s'; cases s'
 obtain ⟨a, u, e1, e2⟩ := r.ref o
 cases e1
 rw [e2]; exact nofun
theorem Rel.oo {K : PySem.W.Frag} {A : Addr → Prop} {ρ : PSt} {σ : St} {H : Hp} (R : Rel K A ρ σ H) {b : Addr} (h : H b = none) : ¬ OO A ρ σ b := fun z => z.elim (fun z => R.dom b z h) (fun z => R.wr z h)
theorem Rel.grow {K : PySem.W.Frag} {A : Addr → Prop} {ρ : PSt} {σ : St} {H : Hp} (R : Rel K A ρ σ H) {p : Addr} {o : HO} (h : H p = none) : Rel K A ρ σ (upd H p o) := by
 have k : Keeps (OO A ρ σ) H (OO A ρ σ) (upd H p o) := Fr.keeps (Fr.new h)
 refine ⟨R.len, fun i q e => ?_, R.dj, fun b z => (Fr.new (ρ := ρ) (σ := σ) h).dm b (R.dom b z), R.sep⟩
 obtain ⟨v, s, r⟩ := R.get i q e
 refine ⟨v, s, r.keeps k fun ow a ea => ?_⟩
 obtain ⟨a', u, e1, e2⟩ := r.ref ow
 rw [ea] at e1; cases e1
 rw [upd_ne (ne_of_none e2 h)]
theorem Rel.less {K : PySem.W.Frag} {A A' : Addr → Prop} {ρ : PSt} {σ : St} {H : Hp} (R : Rel K A ρ σ H) (h : ∀ b, A' b → A b) : Rel K A' ρ σ H := by
 refine ⟨R.len, fun i q e => ?_, R.dj, fun b z => R.dom b (h b z), fun b z => R.sep b (h b z)⟩
 obtain ⟨v, s, r⟩ := R.get i q e
 exact ⟨v, s, r.keeps (Keeps.less fun b z => z.imp (h b) id) fun _ _ _ => rfl⟩
theorem Rel.write {K : PySem.W.Frag} {A : Addr → Prop} {ρ : PSt} {σ : St} {H : Hp} (R : Rel K A ρ σ H) {i : Nat} {p q : PV} {a : Addr} {o : HO} (e : ρ[i]? = some (some p)) (ow : p.isOwn = true) (ow' : q.isOwn = true) (es : σ[i]? = some (some (.ref a)))
  (new : RS K (OO A ρ σ) (upd H a o) q (.ref a)) : Rel K A (ρ.set i (some q)) σ (upd H a o) ∧ Fr ρ σ H (ρ.set i (some q)) (upd H a o) := by
 have hi : i < ρ.length := (List.getElem?_eq_some_iff.mp e).1
 have wa : Wr ρ σ a := ⟨i, p, e, ow, es⟩
 have weq : ∀ b, Wr (ρ.set i (some q)) σ b ↔ Wr ρ σ b := fun b => by
  constructor
  ·rintro ⟨j, r, e1, o1, s1⟩
   by_cases z : i = j
   ·subst z; exact ⟨i, p, e, ow, s1⟩
   ·rw [List.getElem?_set_ne z] at e1; exact ⟨j, r, e1, o1, s1⟩
  ·rintro ⟨j, r, e1, o1, s1⟩
   by_cases z : i = j
   ·subst z; exact ⟨i, q, List.getElem?_set_self hi, ow', s1⟩
   ·exact ⟨j, r, by rw [List.getElem?_set_ne z]; exact e1, o1, s1⟩
 have oeq : OO A (ρ.set i (some q)) σ = OO A ρ σ := funext fun b => propext (or_congr Iff.rfl (weq b))
 have kp : ∀ b u, ¬ Wr ρ σ b → H b = some u → upd H a o b = some u := fun b u n h => by rw [upd_ne (fun z => n (by rw [z]; exact wa))]; exact h
 have k : Keeps (OO A ρ σ) H (OO A ρ σ) (upd H a o) := fun b u n h => ⟨n, kp b u (fun z => n (.inr z)) h⟩
 have dm : ∀ b, H b ≠ none → upd H a o b ≠ none := fun b n => by
  by_cases z : b = a
  ·rw [z, upd_same]; exact nofun
  ·rw [upd_ne z]; exact n
 refine ⟨⟨by rw [List.length_set]; exact R.len, fun j r e1 => ?_, fun j l p1 q1 v e1 e2 o1 o2 s1 s2 => ?_, fun b z => dm b (R.dom b z), fun b z w => R.sep b z ((weq b).mp w)⟩, ⟨kp, dm, fun b w => (weq b).mp w⟩⟩
 ·rw [oeq]
  by_cases z : i = j
  ·subst z
   rw [List.getElem?_set_self hi] at e1
   cases e1
   exact ⟨_, es, new⟩
  ·rw [List.getElem?_set_ne z] at e1
   obtain ⟨v, s, rr⟩ := R.get j r e1
   refine ⟨v, s, rr.keeps k fun ow2 b eb => ?_⟩
   rw [upd_ne]
   intro zz
   subst zz
   rw [eb] at s
   exact z (R.dj i j p r _ e e1 ow ow2 es s)
 ·have ex : ∀ (m : Nat) (x : PV), (ρ.set i (some q))[m]? = some (some x) → x.isOwn = true → ∃ y : PV, ρ[m]? = some (some y) ∧ y.isOwn = true := fun m x em ox => by
   by_cases z : i = m
   ·subst z; exact ⟨p, e, ow⟩
   ·rw [List.getElem?_set_ne z] at em; exact ⟨x, em, ox⟩
  obtain ⟨y1, h1, h2⟩ := ex j p1 e1 o1
  obtain ⟨y2, h3, h4⟩ := ex l q1 e2 o2
  exact R.dj j l y1 y2 v h1 h3 h2 h4 s1 s2
theorem Rel.frz {K : PySem.W.Frag} {A : Addr → Prop} {ρ : PSt} {σ : St} {H : Hp} (R : Rel K A ρ σ H) {i : Nat} {p : PV} (e : ρ[i]? = some (some p)) :
  Rel K A (ρ.set i (some (.dat p.d))) σ H ∧ Fr ρ σ H (ρ.set i (some (.dat p.d))) H := by
 have hi : i < ρ.length := (List.getElem?_eq_some_iff.mp e).1
 have ex : ∀ (m : Nat) (x : PV), (ρ.set i (some (.dat p.d)))[m]? = some (some x) → x.isOwn = true → m ≠ i ∧ ρ[m]? = some (some x) := fun m x em ox => by
  by_cases z : i = m
  ·subst z; rw [List.getElem?_set_self hi] at em; cases em; cases ox
  ·rw [List.getElem?_set_ne z] at em; exact ⟨fun q => z q.symm, em⟩
 have ow : ∀ b, Wr (ρ.set i (some (.dat p.d))) σ b → Wr ρ σ b := fun b ⟨j, r, e1, o1, s1⟩ => ⟨j, r, (ex j r e1 o1).2, o1, s1⟩
 have k : Keeps (OO A ρ σ) H (OO A (ρ.set i (some (.dat p.d))) σ) H := Keeps.less fun b z => z.imp id (ow b)
 refine ⟨⟨by rw [List.length_set]; exact R.len, fun j r e1 => ?_, fun j l p1 q1 v e1 e2 o1 o2 s1 s2 => R.dj j l p1 q1 v (ex j p1 e1 o1).2 (ex l q1 e2 o2).2 o1 o2 s1 s2, R.dom, fun b z w => R.sep b z (ow b w)⟩, ⟨fun _ _ _ h => h, fun _ h => h, ow⟩⟩
 by_cases z : i = j
 ·subst z
  rw [List.getElem?_set_self hi] at e1
  cases e1
  obtain ⟨v, s, r⟩ := R.get i p e
  refine ⟨v, s, ?_⟩
  have na : ∀ a, v = .ref a → p.isOwn = true → ¬ OO A (ρ.set i (some (.dat p.d))) σ a := fun a ea oo z => by
   subst ea
   rcases z with z | ⟨j, r, e1, o1, s1⟩
   ·exact R.sep a z ⟨i, p, e, oo, s⟩
   ·obtain ⟨n1, n2⟩ := ex j r e1 o1
    exact n1 (R.dj j i r p _ n2 e o1 oo s1 s)
  cases p with
  | dat d => exact FV.keeps k r
  | own ds =>
   obtain ⟨a, xs, rfl, g, f⟩ := r
   exact .lst (na a rfl rfl) g (f.keeps k)
  | ins c ns ds =>
   obtain ⟨a, dx, fs, rfl, g, m, f⟩ := r
   exact .obj (na a rfl rfl) g m (f.keeps k)
 ·rw [List.getElem?_set_ne z] at e1
  obtain ⟨v, s, r⟩ := R.get j _ e1
  exact ⟨v, s, r.keeps k fun _ _ _ => rfl⟩
end L2
namespace L2
open PySem PySem.Spec PyProof.Rows
abbrev PKt := PV → PSt → Prop
abbrev PTE := PSt → PKt → Prop
abbrev PTT := PSt → (Bool → PSt → Prop) → Prop
inductive AV where
 | v (d : D) | sl (i : Nat)
abbrev PA1 := PSt → (AV → PSt → Prop) → Prop
abbrev PTA := PSt → (List AV → PSt → Prop) → Prop
def Out (K : PySem.W.Frag) (A : Addr → Prop) (ρ : PSt) (σ : St) (H0 H : Hp) : PV → V → Prop
 | .dat d, v => Rel K A ρ σ H ∧ FV K (OO A ρ σ) H v d
 | .own ds, v => ∃ a xs, v = .ref a ∧ ¬ A a ∧ H0 a = none ∧ H a = some (.lst xs) ∧ Rel K (plus A a) ρ σ H ∧ FVs K (OO (plus A a) ρ σ) H xs ds
 | .ins c ns ds, v => ∃ a dx fs, v = .ref a ∧ ¬ A a ∧ H0 a = none ∧ H a = some (.ins (clsOf K c) dx fs) ∧ fs.map Prod.fst = ns ∧ Rel K (plus A a) ρ σ H ∧ FVs K (OO (plus A a) ρ σ) H (fs.map Prod.snd) ds
def LE (K : PySem.W.Frag) (te : TE) (pe : PTE) : Prop := ∀ (A : Addr → Prop) (ρ : PSt) (σ : St) (H : Hp) (Q : PKt) (Q' : VK), Rel K A ρ σ H → pe ρ Q →
 (∀ v H' p ρ', Q p ρ' → Fr ρ σ H ρ' H' → Out K A ρ' σ H H' p v → Q' v H') → te σ H Q'
def LT (K : PySem.W.Frag) (tt : TT) (pt : PTT) : Prop := ∀ (A : Addr → Prop) (ρ : PSt) (σ : St) (H : Hp) (Q : Bool → PSt → Prop) (Q' : Bool → Hp → Prop), Rel K A ρ σ H → pt ρ Q →
 (∀ b H' ρ', Q b ρ' → Fr ρ σ H ρ' H' → Rel K A ρ' σ H' → Q' b H') → tt σ H Q'
def AOk (K : PySem.W.Frag) (O : Addr → Prop) (σ : St) (H : Hp) : AV → V → Prop
 | .v d, v => FV K O H v d
 | .sl i, v => σ[i]? = some (some v)
def LA1 (K : PySem.W.Frag) (te : TE) (pa : PA1) : Prop := ∀ (A : Addr → Prop) (ρ : PSt) (σ : St) (H : Hp) (Q : AV → PSt → Prop) (Q' : VK), Rel K A ρ σ H → pa ρ Q →
 (∀ v H' av ρ', Q av ρ' → Fr ρ σ H ρ' H' → Rel K A ρ' σ H' → AOk K (OO A ρ' σ) σ H' av v → Q' v H') → te σ H Q'
inductive AOks (K : PySem.W.Frag) (O : Addr → Prop) (σ : St) (H : Hp) : List AV → List V → Prop
 | nil : AOks K O σ H [] []
 | cons {a : AV} {v : V} {as : List AV} {vs : List V} : AOk K O σ H a v → AOks K O σ H as vs → AOks K O σ H (a :: as) (v :: vs)
def LAs (K : PySem.W.Frag) (ta : TA) (pa : PTA) : Prop := ∀ (A : Addr → Prop) (ρ : PSt) (σ : St) (H : Hp) (Q : List AV → PSt → Prop) (Q' : List V → Hp → Prop), Rel K A ρ σ H → pa ρ Q →
 (∀ vs H' as ρ', Q as ρ' → Fr ρ σ H ρ' H' → Rel K A ρ' σ H' → AOks K (OO A ρ' σ) σ H' as vs → Q' vs H') → ta σ H Q'
section
variable {K : PySem.W.Frag} {A O O' : Addr → Prop} {ρ ρ' : PSt} {σ : St} {H H' H0 : Hp}
theorem AOk.keeps {a : AV} {v : V} (k : Keeps O H O' H') (h : AOk K O σ H a v) : AOk K O' σ H' a v := by
 cases a with
 | v d => exact FV.keeps k h
 | sl i => exact h
theorem Out.frz {p : PV} {v : V} (h : Out K A ρ σ H0 H p v) : Rel K A ρ σ H ∧ FV K (OO A ρ σ) H v p.d := by
 cases p with
 | dat d => exact h
 | own ds =>
  obtain ⟨a, xs, rfl, na, _, e, R, f⟩ := h
  refine ⟨R.less fun b z => .inl z, .lst (fun z => ?_) e (f.keeps (Keeps.less fun b z => z.imp .inl id))⟩
  exact z.elim na (fun z => R.sep a (.inr rfl) z)
 | ins c ns ds =>
  obtain ⟨a, dx, fs, rfl, na, _, e, m, R, f⟩ := h
  refine ⟨R.less fun b z => .inl z, .obj (fun z => ?_) e m (f.keeps (Keeps.less fun b z => z.imp .inl id))⟩
  exact z.elim na (fun z => R.sep a (.inr rfl) z)
theorem Out.h0 {p : PV} {v : V} {H1 : Hp} (h : Out K A ρ σ H0 H p v) (dm : ∀ b, H1 b ≠ none → H0 b ≠ none) : Out K A ρ σ H1 H p v := by
 have k : ∀ a, H0 a = none → H1 a = none := fun a e => by
  cases z : H1 a with
  | none => rfl
  | some o => exact absurd e (dm a (by rw [z]; exact nofun))
 cases p with
 | dat d => exact h
 | own ds => obtain ⟨a, xs, e1, na, e2, r⟩ := h; exact ⟨a, xs, e1, na, k a e2, r⟩
 | ins c ns ds => obtain ⟨a, dx, fs, e1, na, e2, r⟩ := h; exact ⟨a, dx, fs, e1, na, k a e2, r⟩
def Gr (H H' : Hp) : Prop := ∀ b o, H b = some o → H' b = some o
theorem Gr.fr (g : Gr H H') : Fr ρ σ H ρ H' := ⟨fun b o _ h => g b o h, fun b h => by
 cases e : H b with
 | none => exact absurd e h
 | some o => rw [g b o e]; exact nofun, fun _ h => h⟩
theorem Gr.new {p : Addr} {o : HO} (h : H p = none) : Gr H (upd H p o) := fun b u e => by rw [upd_ne (ne_of_none e h)]; exact e
theorem Gr.refl (H : Hp) : Gr H H := fun _ _ h => h
theorem Rel.gr (R : Rel K A ρ σ H) (g : Gr H H') : Rel K A ρ σ H' := by
 refine ⟨R.len, fun i q e => ?_, R.dj, fun b z => (g.fr (ρ := ρ) (σ := σ)).dm b (R.dom b z), R.sep⟩
 obtain ⟨v, s, r⟩ := R.get i q e
 refine ⟨v, s, r.keeps (g.fr (ρ := ρ) (σ := σ)).keeps fun ow a ea => ?_⟩
 obtain ⟨a', u, e1, e2⟩ := r.ref ow
 rw [ea] at e1; cases e1
 rw [e2]; exact g _ _ e2
theorem Rel.grA (R : Rel K A ρ σ H) (g : Gr H H') {p : Addr} (h : H p = none) (h' : H' p ≠ none) : Rel K (plus A p) ρ σ H' := by
 have k : Keeps (OO A ρ σ) H (OO (plus A p) ρ σ) H' := fun b u n e => by
  refine ⟨fun z => ?_, g _ _ e⟩
  rcases z with (z | z) | z
  ·exact n (.inl z)
  ·rw [z, h] at e; cases e
  ·exact n (.inr z)
 refine ⟨R.len, fun i q e => ?_, R.dj, fun b z => ?_, fun b z w => ?_⟩
 ·obtain ⟨v, s, r⟩ := R.get i q e
  refine ⟨v, s, r.keeps k fun ow a ea => ?_⟩
  obtain ⟨a', u, e1, e2⟩ := r.ref ow
  rw [ea] at e1; cases e1
  rw [e2]; exact g _ _ e2
 ·rcases z with z | z
  ·exact (g.fr (ρ := ρ) (σ := σ)).dm b (R.dom b z)
  ·rw [z]; exact h'
 ·rcases z with z | z
  ·exact R.sep b z w
  ·exact R.wr w (by rw [z]; exact h)
def OutV (K : PySem.W.Frag) (O : Addr → Prop) (H0 H : Hp) : PV → V → Prop
 | .dat d, v => FV K O H v d
 | .own ds, v => ∃ a xs, v = .ref a ∧ H0 a = none ∧ H a = some (.lst xs) ∧ FVs K (plus O a) H xs ds
 | .ins c ns ds, v => ∃ a dx fs, v = .ref a ∧ H0 a = none ∧ H a = some (.ins (clsOf K c) dx fs) ∧ fs.map Prod.fst = ns ∧ FVs K (plus O a) H (fs.map Prod.snd) ds
theorem OutV.out {p : PV} {v : V} (R : Rel K A ρ σ H) (g : Gr H H') (h : OutV K (OO A ρ σ) H H' p v) : Out K A ρ σ H H' p v := by
 cases p with
 | dat d => exact ⟨R.gr g, h⟩
 | own ds =>
  obtain ⟨a, xs, rfl, e0, e, f⟩ := h
  refine ⟨a, xs, rfl, fun z => R.dom a z e0, e0, e, R.grA g e0 (by rw [e]; exact nofun), f.keeps (Keeps.less fun b z => ?_)⟩
  rcases z with (z | z) | z
  ·exact .inl (.inl z)
  ·exact .inr z
  ·exact .inl (.inr z)
 | ins c ns ds =>
  obtain ⟨a, dx, fs, rfl, e0, e, m, f⟩ := h
  refine ⟨a, dx, fs, rfl, fun z => R.dom a z e0, e0, e, m, R.grA g e0 (by rw [e]; exact nofun), f.keeps (Keeps.less fun b z => ?_)⟩
  rcases z with (z | z) | z
  ·exact .inl (.inl z)
  ·exact .inr z
  ·exact .inl (.inr z)
def FVc (K : PySem.W.Frag) (O : Addr → Prop) (H : Hp) (v : V) (d : D) : Prop := FV K O H v d ∨ (∃ a xs ds, v = .ref a ∧ d = .lst ds ∧ H a = some (.lst xs) ∧ FVs K O H xs ds) ∨
 ∃ a dx c fs ns ds, v = .ref a ∧ d = .obj c ns ds ∧ H a = some (.ins (clsOf K c) dx fs) ∧ fs.map Prod.fst = ns ∧ FVs K O H (fs.map Prod.snd) ds
def cont (ρ : PSt) : AV → Option D
 | .v d => some d
 | .sl i => match ρ[i]? with | some (some p) => some p.d | _ => none
theorem Rel.cont {av : AV} {v : V} {d : D} (R : Rel K A ρ σ H) (h : AOk K (OO A ρ σ) σ H av v) (e : L2.cont ρ av = some d) : FVc K (OO A ρ σ) H v d := by
 cases av with
 | v d' => cases e; exact .inl h
 | sl i =>
  have h : σ[i]? = some (some v) := h
  simp only [L2.cont] at e
  split at e
  ·rename_i p ep
   cases e
   obtain ⟨v', s, r⟩ := R.get i p ep
   rw [h] at s; cases s
   cases p with
   | dat d => exact .inl r
   | own ds => obtain ⟨a, xs, e1, e2, f⟩ := r; exact .inr (.inl ⟨a, xs, ds, e1, rfl, e2, f⟩)
   | ins c ns ds => obtain ⟨a, dx, fs, e1, e2, m, f⟩ := r; exact .inr (.inr ⟨a, dx, c, fs, ns, ds, e1, rfl, e2, m, f⟩)
  ·cases e
theorem FVc.lst {v : V} {ds : List D} (h : FVc K O H v (.lst ds)) : ∃ a xs, v = .ref a ∧ H a = some (.lst xs) ∧ FVs K O H xs ds := by
 rcases h with h | ⟨a, xs, ds', e1, e2, e3, f⟩ | ⟨a, dx, c, fs, ns, ds', e1, e2, _⟩
 ·cases h with
  | lst n s f => exact ⟨_, _, rfl, s, f⟩
 ·cases e2; exact ⟨a, xs, e1, e3, f⟩
 ·cases e2
theorem FVc.fv {v : V} {d : D} (h : FVc K O H v d) (n : ∀ ds, d ≠ .lst ds) (n' : ∀ c ns ds, d ≠ .obj c ns ds) : FV K O H v d := by
 rcases h with h | ⟨a, xs, ds', e1, e2, e3, f⟩ | ⟨a, dx, c, fs, ns, ds', e1, e2, _⟩
 ·exact h
 ·exact absurd e2 (n _)
 ·exact absurd e2 (n' _ _ _)
theorem FVc.tup {v : V} {ds : List D} (h : FVc K O H v (.tup ds)) : ∃ a xs, v = .ref a ∧ ¬ O a ∧ H a = some (.tup xs) ∧ FVs K O H xs ds := by
 cases h.fv nofun nofun with
 | tup n s f => exact ⟨_, _, rfl, n, s, f⟩
theorem FVc.scr {v : V} {ns : List Int} (h : FVc K O H v (.scr ns)) : ∃ a, v = .ref a ∧ SqL K H a (ns.map V.int) := by
 cases h.fv nofun nofun with
 | scr s => exact ⟨_, rfl, s.sq⟩
theorem FVc.int {v : V} {i : Int} (h : FVc K O H v (.int i)) : v = .int i := by cases h.fv nofun nofun; rfl
theorem FVc.str {v : V} {i : List Nat} (h : FVc K O H v (.str i)) : v = .str (S i) ∧ i.length ≤ 1000000 := by
 cases h.fv nofun nofun with
 | str _ z => exact ⟨rfl, z⟩
end
def pC (d : D) : PTE := fun ρ Q => Q (.dat d) ρ
def pVar (i : Nat) : PTE := fun ρ Q => match ρ[i]? with
 | some (some (.dat d)) => Q (.dat d) ρ
 | some (some (.own ds)) => Q (.dat (.lst ds)) (ρ.set i (some (.dat (.lst ds))))
 | some (some (.ins c ns ds)) => Q (.dat (.obj c ns ds)) (ρ.set i (some (.dat (.obj c ns ds))))
 | _ => False
def pSl (i : Nat) : PA1 := fun ρ Q => match ρ[i]? with
 | some (some (.dat d)) => Q (.v d) ρ
 | some (some (.own _)) => Q (.sl i) ρ
 | some (some (.ins _ _ _)) => Q (.sl i) ρ
 | _ => False
def pFz (pe : PTE) : PA1 := fun ρ Q => pe ρ fun p ρ1 => Q (.v p.d) ρ1
def paNil : PTA := fun ρ Q => Q [] ρ
def paCons (pa : PA1) (pr : PTA) : PTA := fun ρ Q => pa ρ fun a ρ1 => pr ρ1 fun as ρ2 => Q (a :: as) ρ2
section
variable {K : PySem.W.Frag} {ta tb tc : TE} {pa pb pc : PA1} {pe pe' : PTE} {tr : TA} {pr : PTA}
theorem le_C {v : V} {d : D} (h : ∀ O H, FV K O H v d) : LE K (tC v) (pC d) := fun A ρ σ H Q Q' R q k => k v H (.dat d) ρ q (Fr.refl _ _ _) ⟨R, h _ _⟩
theorem le_int {i : Int} : LE K (tC (.int i)) (pC (.int i)) := le_C fun _ _ => .int i
theorem le_bl {i : Bool} : LE K (tC (.bl i)) (pC (.bl i)) := le_C fun _ _ => .bl i
theorem le_non : LE K (tC .non) (pC .non) := le_C fun _ _ => .non
theorem le_str {l : List Nat} (h : l.length ≤ 1000000 := by decide) : LE K (tC (.str (S l))) (pC (.str l)) := le_C fun _ _ => .str l h
theorem le_var {i : Nat} : LE K (tVar i) (pVar i) := by
 intro A ρ σ H Q Q' R q k
 unfold pVar at q
 split at q
 ·rename_i d e
  obtain ⟨v, s, r⟩ := R.get i _ e
  exact ⟨v, s, k v H (.dat d) ρ q (Fr.refl _ _ _) ⟨R, r⟩⟩
 ·rename_i ds e
  obtain ⟨R', f⟩ := R.frz e
  obtain ⟨v, s, r⟩ := R'.get i _ (List.getElem?_set_self (List.getElem?_eq_some_iff.mp e).1)
  exact ⟨v, s, k v H (.dat (.lst ds)) _ q f ⟨R', r⟩⟩
 ·rename_i c ns ds e
  obtain ⟨R', f⟩ := R.frz e
  obtain ⟨v, s, r⟩ := R'.get i _ (List.getElem?_set_self (List.getElem?_eq_some_iff.mp e).1)
  exact ⟨v, s, k v H (.dat (.obj c ns ds)) _ q f ⟨R', r⟩⟩
 ·exact q.elim
theorem la_sl {i : Nat} : LA1 K (tVar i) (pSl i) := by
 intro A ρ σ H Q Q' R q k
 unfold pSl at q
 split at q
 ·rename_i d e
  obtain ⟨v, s, r⟩ := R.get i _ e
  exact ⟨v, s, k v H _ ρ q (Fr.refl _ _ _) R r⟩
 ·rename_i e
  obtain ⟨v, s, r⟩ := R.get i _ e
  exact ⟨v, s, k v H _ ρ q (Fr.refl _ _ _) R s⟩
 ·rename_i e
  obtain ⟨v, s, r⟩ := R.get i _ e
  exact ⟨v, s, k v H _ ρ q (Fr.refl _ _ _) R s⟩
 ·exact q.elim
theorem la_fz (h : LE K ta pe) : LA1 K ta (pFz pe) := fun A ρ σ H Q Q' R q k => h A ρ σ H _ Q' R q fun v H' p ρ' q f o => k v H' _ ρ' q f o.frz.1 o.frz.2
theorem las_nil : LAs K tNil paNil := fun A ρ σ H Q Q' R q k => k [] H [] ρ q (Fr.refl _ _ _) R .nil
theorem las_cons (h : LA1 K ta pa) (hr : LAs K tr pr) : LAs K (tCons ta tr) (paCons pa pr) := fun A ρ σ H Q Q' R q k =>
 h A ρ σ H _ _ R q fun v H1 a ρ1 q1 f1 R1 o1 => hr A ρ1 σ H1 _ _ R1 q1 fun vs H2 as ρ2 q2 f2 R2 o2 => k _ H2 _ ρ2 q2 (f1.trans f2) R2 (.cons (o1.keeps f2.keeps) o2)
def LO (K : PySem.W.Frag) (r : R2) (f : D → D → (PV → Prop) → Prop) : Prop := ∀ (O : Addr → Prop) (H : Hp) (x y : V) (a b : D) (Q : PV → Prop) (Q' : VK), (∀ b, O b → H b ≠ none) → FVc K O H x a → FVc K O H y b → f a b Q →
 (∀ v H' p, Q p → Gr H H' → OutV K O H H' p v → Q' v H') → r x y H Q'
def op2 (f : D → D → (PV → Prop) → Prop) (ρ : PSt) (x y : AV) (Q : PKt) : Prop := match cont ρ x, cont ρ y with
 | some a, some b => f a b fun p => Q p ρ
 | _, _ => False
def pOp (f : D → D → (PV → Prop) → Prop) (pa pb : PA1) : PTE := fun ρ Q => pa ρ fun x ρ1 => pb ρ1 fun y ρ2 => op2 f ρ2 x y Q
theorem Rel.dom2 {A : Addr → Prop} {ρ : PSt} {σ : St} {H : Hp} (R : Rel K A ρ σ H) : ∀ b, OO A ρ σ b → H b ≠ none := fun b z => z.elim (R.dom b) R.wr
theorem le_op {r : R2} {f : D → D → (PV → Prop) → Prop} (o : LO K r f) (ha : LA1 K ta pa) (hb : LA1 K tb pb) : LE K (tOp r ta tb) (pOp f pa pb) := fun A ρ σ H Q Q' R q k =>
 ha A ρ σ H _ _ R q fun v H1 a ρ1 q1 f1 R1 o1 => hb A ρ1 σ H1 _ _ R1 q1 fun w H2 b ρ2 q2 f2 R2 o2 => by
  unfold op2 at q2
  split at q2
  ·rename_i da db e1 e2
   exact o _ H2 v w da db _ _ R2.dom2 (R2.cont (o1.keeps f2.keeps) e1) (R2.cont o2 e2) q2 fun z H3 p q3 g ov => k z H3 p ρ2 q3 ((f1.trans f2).trans g.fr) ((ov.out R2 g).h0 fun b z => f2.dm b (f1.dm b z))
  ·exact q2.elim
def LU (K : PySem.W.Frag) (r : V → Hp → VK → Prop) (f : D → (PV → Prop) → Prop) : Prop := ∀ (O : Addr → Prop) (H : Hp) (x : V) (a : D) (Q : PV → Prop) (Q' : VK), (∀ b, O b → H b ≠ none) → FVc K O H x a → f a Q →
 (∀ v H' p, Q p → Gr H H' → OutV K O H H' p v → Q' v H') → r x H Q'
def op1 (f : D → (PV → Prop) → Prop) (ρ : PSt) (x : AV) (Q : PKt) : Prop := match cont ρ x with
 | some a => f a fun p => Q p ρ
 | _ => False
def pUn (f : D → (PV → Prop) → Prop) (pa : PA1) : PTE := fun ρ Q => pa ρ fun x ρ1 => op1 f ρ1 x Q
theorem le_un {r : V → Hp → VK → Prop} {f : D → (PV → Prop) → Prop} (o : LU K r f) (ha : LA1 K ta pa) : LE K (tUn r ta) (pUn f pa) := fun A ρ σ H Q Q' R q k =>
 ha A ρ σ H _ _ R q fun v H1 a ρ1 q1 f1 R1 o1 => by
  unfold op1 at q1
  split at q1
  ·rename_i da e1
   exact o _ H1 v da _ _ R1.dom2 (R1.cont o1 e1) q1 fun z H3 p q3 g ov => k z H3 p ρ1 q3 (f1.trans g.fr) ((ov.out R1 g).h0 fun b z => f1.dm b z)
  ·exact q1.elim
inductive FVcs (K : PySem.W.Frag) (O : Addr → Prop) (H : Hp) : List V → List D → Prop
 | nil : FVcs K O H [] []
 | cons {x : V} {d : D} {xs : List V} {ds : List D} : FVc K O H x d → FVcs K O H xs ds → FVcs K O H (x :: xs) (d :: ds)
def conts (ρ : PSt) : List AV → Option (List D)
 | [] => some []
 | a :: r => match cont ρ a, conts ρ r with
  | some d, some ds => some (d :: ds)
  | _, _ => none
theorem Rel.conts {A : Addr → Prop} {ρ : PSt} {σ : St} {H : Hp} (R : Rel K A ρ σ H) : ∀ {as : List AV} {vs : List V} {ds : List D}, AOks K (OO A ρ σ) σ H as vs → L2.conts ρ as = some ds → FVcs K (OO A ρ σ) H vs ds
 | _, _, _, .nil, e => by cases e; exact .nil
 | _, _, _, .cons a b, e => by
  unfold L2.conts at e
  split at e
  ·rename_i e1 e2
   cases e
   exact .cons (R.cont a e1) (R.conts b e2)
  ·cases e
def LC (K : PySem.W.Frag) (r : List V → Hp → VK → Prop) (f : List D → (PV → Prop) → Prop) : Prop := ∀ (O : Addr → Prop) (H : Hp) (xs : List V) (as : List D) (Q : PV → Prop) (Q' : VK), (∀ b, O b → H b ≠ none) → FVcs K O H xs as → f as Q →
 (∀ v H' p, Q p → Gr H H' → OutV K O H H' p v → Q' v H') → r xs H Q'
def opN (f : List D → (PV → Prop) → Prop) (ρ : PSt) (as : List AV) (Q : PKt) : Prop := match conts ρ as with
 | some ds => f ds fun p => Q p ρ
 | _ => False
def pCB (f : List D → (PV → Prop) → Prop) (pr : PTA) : PTE := fun ρ Q => pr ρ fun as ρ1 => opN f ρ1 as Q
theorem le_cb {r : List V → Hp → VK → Prop} {f : List D → (PV → Prop) → Prop} (o : LC K r f) (ha : LAs K tr pr) : LE K (tCB r tr) (pCB f pr) := fun A ρ σ H Q Q' R q k =>
 ha A ρ σ H _ _ R q fun vs H1 as ρ1 q1 f1 R1 o1 => by
  unfold opN at q1
  split at q1
  ·rename_i ds e1
   exact o _ H1 vs ds _ _ R1.dom2 (R1.conts o1 e1) q1 fun z H3 p q3 g ov => k z H3 p ρ1 q3 (f1.trans g.fr) ((ov.out R1 g).h0 fun b z => f1.dm b z)
  ·exact q1.elim
def avD : List AV → Option (List D)
 | [] => some []
 | .v d :: r => match avD r with | some ds => some (d :: ds) | none => none
 | .sl _ :: _ => none
theorem AOks.avD {O : Addr → Prop} {σ : St} {H : Hp} : ∀ {as : List AV} {vs : List V} {ds : List D}, AOks K O σ H as vs → L2.avD as = some ds → FVs K O H vs ds
 | _, _, _, .nil, e => by cases e; exact .nil
 | .v d :: r, _, _, .cons a b, e => by
  simp only [L2.avD] at e
  split at e
  ·rename_i e1; cases e; exact .cons a (b.avD e1)
  ·cases e
 | .sl i :: r, _, _, .cons a b, e => by cases e
def pLst (pr : PTA) : PTE := fun ρ Q => pr ρ fun as ρ1 => match avD as with
 | some ds => ds.length ≤ 1000000 ∧ Q (.own ds) ρ1
 | _ => False
theorem le_lst (ha : LAs K tr pr) : LE K (tLst tr) (pLst pr) := fun A ρ σ H Q Q' R q k =>
 ha A ρ σ H _ _ R q fun vs H1 as ρ1 q1 f1 R1 o1 => by
  split at q1
  ·rename_i ds e1
   have fs := o1.avD e1
   refine ⟨sz _ (by rw [fs.length]; exact q1.1), fun p hp => k _ _ (.own ds) ρ1 q1.2 (f1.trans (Fr.new hp)) ?_⟩
   have g : Gr H1 (upd H1 p (.lst vs)) := Gr.new hp
   exact (OutV.out (p := .own ds) R1 g ⟨p, vs, rfl, hp, upd_same, fs.keeps (Keeps.fresh hp)⟩).h0 fun b z => f1.dm b z
  ·exact q1.elim
def pB (pe : PTE) : PTT := fun ρ Q => pe ρ fun p ρ1 => match p with
 | .dat (.bl b) => Q b ρ1
 | _ => False
theorem lt_B (h : LE K ta pe) : LT K (tB ta) (pB pe) := fun A ρ σ H Q Q' R q k => h A ρ σ H _ _ R q fun v H1 p ρ1 q1 f1 o1 => by
 split at q1
 ·rename_i b
  obtain ⟨R1, f⟩ := o1
  cases f
  exact ⟨b, rfl, k b H1 ρ1 q1 f1 R1⟩
 ·exact q1.elim
theorem lt_T (h : LE K ta pe) : LT K (tTest ta) (pB pe) := lt_B h
def pAnd (a b : PTT) : PTT := fun ρ Q => a ρ fun c ρ1 => PIte c (b ρ1 Q) (Q false ρ1)
def pOr (a b : PTT) : PTT := fun ρ Q => a ρ fun c ρ1 => PIte c (Q true ρ1) (b ρ1 Q)
def pNot (a : PTT) : PTT := fun ρ Q => a ρ fun c ρ1 => Q (!c) ρ1
variable {tta ttb : TT} {pta ptb : PTT}
theorem lt_and (ha : LT K tta pta) (hb : LT K ttb ptb) : LT K (tAnd tta ttb) (pAnd pta ptb) := fun A ρ σ H Q Q' R q k => ha A ρ σ H _ _ R q fun c H1 ρ1 q1 f1 R1 => by
 cases c with
 | true => exact hb A ρ1 σ H1 _ _ R1 q1 fun b H2 ρ2 q2 f2 R2 => k b H2 ρ2 q2 (f1.trans f2) R2
 | false => exact k false H1 ρ1 q1 f1 R1
theorem lt_or (ha : LT K tta pta) (hb : LT K ttb ptb) : LT K (tOr tta ttb) (pOr pta ptb) := fun A ρ σ H Q Q' R q k => ha A ρ σ H _ _ R q fun c H1 ρ1 q1 f1 R1 => by
 cases c with
 | false => exact hb A ρ1 σ H1 _ _ R1 q1 fun b H2 ρ2 q2 f2 R2 => k b H2 ρ2 q2 (f1.trans f2) R2
 | true => exact k true H1 ρ1 q1 f1 R1
theorem lt_not (ha : LT K tta pta) : LT K (tNot tta) (pNot pta) := fun A ρ σ H Q Q' R q k => ha A ρ σ H _ _ R q fun c H1 ρ1 q1 f1 R1 => k _ H1 ρ1 q1 f1 R1
def pAndV (a b : PTE) : PTE := fun ρ Q => a ρ fun p ρ1 => match p with
 | .dat (.bl c) => PIte c (b ρ1 Q) (Q (.dat (.bl false)) ρ1)
 | _ => False
def pNotV (a : PTE) : PTE := fun ρ Q => a ρ fun p ρ1 => match p with
 | .dat (.bl c) => Q (.dat (.bl (!c))) ρ1
 | _ => False
theorem le_and (ha : LE K ta pe) (hb : LE K tb pe') : LE K (tAndV ta tb) (pAndV pe pe') := fun A ρ σ H Q Q' R q k => ha A ρ σ H _ _ R q fun v H1 p ρ1 q1 f1 o1 => by
 split at q1
 ·rename_i c
  obtain ⟨R1, f⟩ := o1
  cases f
  refine ⟨c, rfl, ?_⟩
  cases c with
  | true => exact hb A ρ1 σ H1 _ _ R1 q1 fun b H2 p2 ρ2 q2 f2 o2 => k b H2 p2 ρ2 q2 (f1.trans f2) (o2.h0 fun b z => f1.dm b z)
  | false => exact k _ H1 _ ρ1 q1 f1 ⟨R1, .bl false⟩
 ·exact q1.elim
theorem le_not (ha : LE K ta pe) : LE K (tNotV ta) (pNotV pe) := fun A ρ σ H Q Q' R q k => ha A ρ σ H _ _ R q fun v H1 p ρ1 q1 f1 o1 => by
 split at q1
 ·rename_i c
  obtain ⟨R1, f⟩ := o1
  cases f
  exact ⟨c, rfl, k _ H1 _ ρ1 q1 f1 ⟨R1, .bl (!c)⟩⟩
 ·exact q1.elim
end
end L2
namespace L2
open PySem PySem.Spec PyProof.Rows
abbrev F2 := D → D → (PV → Prop) → Prop
def fI0 (g : Int → Int → D) : F2
 | .int i, .int j, Q => Q (.dat (g i j))
 | _, _, _ => False
def fI (C : Int → Int → Prop) (g : Int → Int → D) : F2
 | .int i, .int j, Q => C i j ∧ Q (.dat (g i j))
 | _, _, _ => False
section
variable {K : PySem.W.Frag} {X : Cx}
theorem lo_I0 {g : Int → Int → V} {g' : Int → Int → D} (h : ∀ i j O H, FV K O H (g i j) (g' i j)) : LO K (rI0 g) (fI0 g') := by
 intro O H x y a b Q Q' dom fx fy q k
 unfold fI0 at q
 split at q
 ·rename_i i j; exact ⟨i, j, fx.int, fy.int, k _ H _ q (Gr.refl _) (h i j _ _)⟩
 ·exact q.elim
theorem lo_I {C : Int → Int → Prop} {g : Int → Int → V} {g' : Int → Int → D} (h : ∀ i j O H, FV K O H (g i j) (g' i j)) : LO K (rI C g) (fI C g') := by
 intro O H x y a b Q Q' dom fx fy q k
 unfold fI at q
 split at q
 ·rename_i i j; exact ⟨i, j, fx.int, fy.int, q.1, k _ H _ q.2 (Gr.refl _) (h i j _ _)⟩
 ·exact q.elim
theorem out_lst {O : Addr → Prop} {H : Hp} {xs : List V} {ds : List D} {p : Addr} (hp : H p = none) (f : FVs K O H xs ds) : OutV K O H (upd H p (.lst xs)) (.own ds) (.ref p) :=
 ⟨p, xs, rfl, hp, upd_same, f.keeps (Keeps.fresh hp)⟩
theorem out_tup {O : Addr → Prop} {H : Hp} {xs : List V} {ds : List D} {p : Addr} (dom : ∀ b, O b → H b ≠ none) (hp : H p = none) (f : FVs K O H xs ds) : OutV K O H (upd H p (.tup xs)) (.dat (.tup ds)) (.ref p) :=
 .tup (fun z => dom p z hp) upd_same (f.keeps fun b o n e => ⟨n, by rw [upd_ne (ne_of_none e hp)]; exact e⟩)
def rAddS : R2 := fun x y H Q => ∃ i j, x = .str (S i) ∧ y = .str (S j) ∧ i.length + j.length ≤ sizeLine ∧ Q (.str (S (i ++ j))) H
def rAddU (K : PySem.W.Frag) : R2 := fun x y H Q => rI0 (fun i j => .int (i + j)) x y H Q ∨ rAddS x y H Q ∨ rCatL K x y H Q ∨ rCatT K x y H Q
theorem u_add (K : PySem.W.Frag) (e : X.K = K) : OpR X (binaryOp .Add) (rAddU K) := by
 subst e
 exact OpR.or op_add (OpR.or op_addS (OpR.or op_catL op_catT))
def fAdd : F2
 | .int i, .int j, Q => Q (.dat (.int (i + j)))
 | .str a, .str b, Q => a.length + b.length ≤ 1000000 ∧ Q (.dat (.str (a ++ b)))
 | .lst a, .lst b, Q => a.length + b.length ≤ 1000000 ∧ Q (.own (a ++ b))
 | .scr a, .lst b, Q => a.length + b.length ≤ 1000000 ∧ Q (.own (a.map .int ++ b))
 | .tup a, .tup b, Q => a ≠ [] ∧ a.length + b.length ≤ 1000000 ∧ Q (.dat (.tup (a ++ b)))
 | _, _, _ => False
theorem lo_add : LO K (rAddU K) fAdd := by
 intro O H x y a b Q Q' dom fx fy q k
 unfold fAdd at q
 split at q
 ·rename_i i j; exact .inl ⟨i, j, fx.int, fy.int, k _ H _ q (Gr.refl _) (.int _)⟩
 ·rename_i i j; exact .inr (.inl ⟨i, j, fx.str.1, fy.str.1, sz _ q.1, k _ H _ q.2 (Gr.refl _) (.str _ (by rw [List.length_append]; exact q.1))⟩)
 ·rename_i i j
  obtain ⟨a, xs, rfl, e1, f1⟩ := fx.lst
  obtain ⟨b, ys, rfl, e2, f2⟩ := fy.lst
  exact .inr (.inr (.inl ⟨a, b, xs, ys, rfl, rfl, SqL.of e1, SqL.of e2, sz _ (by rw [f1.length, f2.length]; exact q.1), fun p hp => k _ _ _ q.2 (Gr.new hp) (out_lst hp (f1.append f2))⟩))
 ·rename_i i j
  obtain ⟨a, rfl, e1⟩ := fx.scr
  obtain ⟨b, ys, rfl, e2, f2⟩ := fy.lst
  exact .inr (.inr (.inl ⟨a, b, _, ys, rfl, rfl, e1, SqL.of e2, sz _ (by rw [List.length_map, f2.length]; exact q.1), fun p hp => k _ _ _ q.2 (Gr.new hp) (out_lst hp ((FVs.of_ints i).append f2))⟩))
 ·rename_i i j
  obtain ⟨a, xs, rfl, n1, e1, f1⟩ := fx.tup
  obtain ⟨b, ys, rfl, n2, e2, f2⟩ := fy.tup
  have l1 := f1.length
  have l2 := f2.length
  refine .inr (.inr (.inr ⟨a, b, xs, ys, rfl, rfl, SqT.of e1, SqT.of e2, fun z => q.1 ?_, sz _ (by rw [l1, l2]; exact q.2.1), fun z => ?_, fun _ p hp => k _ _ _ q.2.2 (Gr.new hp) (out_tup dom hp (f1.append f2))⟩))
  ·exact List.length_eq_zero_iff.mp (by rw [← l1, z]; rfl)
  ·have : j = [] := List.length_eq_zero_iff.mp (by rw [← l2, z]; rfl)
   subst this
   exact k _ H _ q.2.2 (Gr.refl _) (by rw [List.append_nil]; exact .tup n1 e1 f1)
 ·exact q.elim
theorem lo_sub : LO K (rI0 fun i j => .int (i - j)) (fI0 fun i j => .int (i - j)) := lo_I0 fun _ _ _ _ => .int _
theorem lo_mod : LO K (rI (fun _ j => 0 < j) fun i j => .int (i % j)) (fI (fun _ j => 0 < j) fun i j => .int (i % j)) := lo_I fun _ _ _ _ => .int _
theorem lo_fdiv : LO K (rI CDiv fun i j => .int (i / j)) (fI (fun _ j => 0 < j ∧ j < 1073741824) fun i j => .int (i / j)) := lo_I fun _ _ _ _ => .int _
def rRepS : R2 := fun x y H Q => ∃ l n, x = .str (S l) ∧ y = .int n ∧ -1000000 ≤ n ∧ n ≤ 1000000 ∧ n.toNat * l.length ≤ sizeLine ∧ Q (.str (S (repN l n))) H
def rMulU : R2 := fun x y H Q => rI CMul (fun i j => .int (i * j)) x y H Q ∨ rRepS x y H Q ∨ rRep x y H Q
theorem u_mul : OpR X (binaryOp .Mult) rMulU := OpR.or op_mul (OpR.or op_rep_str op_rep)
def fMul : F2
 | .int i, .int j, Q => ((-(2 ^ 64) < i ∧ i < 2 ^ 64) ∨ (-(2 ^ 64) < j ∧ j < 2 ^ 64)) ∧ Q (.dat (.int (i * j)))
 | .str a, .int n, Q => (-1000000 ≤ n ∧ n ≤ 1000000 ∧ n.toNat * a.length ≤ 1000000) ∧ Q (.dat (.str (repN a n)))
 | .lst a, .int n, Q => (-1000000 ≤ n ∧ n ≤ 1000000 ∧ a.length * n.toNat ≤ 1000000) ∧ Q (.own (repN a n))
 | _, _, _ => False
theorem FVs.rep {O : Addr → Prop} {H : Hp} {xs : List V} {ds : List D} (f : FVs K O H xs ds) : ∀ n, FVs K O H (List.replicate n xs).flatten (List.replicate n ds).flatten
 | 0 => .nil
 | n + 1 => by rw [List.replicate_succ, List.replicate_succ, List.flatten_cons, List.flatten_cons]; exact f.append (f.rep n)
theorem lo_mul : LO K rMulU fMul := by
 intro O H x y a b Q Q' dom fx fy q k
 unfold fMul at q
 split at q
 ·rename_i i j; exact .inl ⟨i, j, fx.int, fy.int, q.1, k _ H _ q.2 (Gr.refl _) (.int _)⟩
 ·rename_i i j; exact .inr (.inl ⟨i, j, fx.str.1, fy.int, q.1.1, q.1.2.1, sz _ q.1.2.2, k _ H _ q.2 (Gr.refl _) (.str _ (by rw [repN_length]; exact q.1.2.2))⟩)
 ·rename_i i j
  obtain ⟨a, xs, rfl, e1, f1⟩ := fx.lst
  exact .inr (.inr ⟨a, j, xs, rfl, fy.int, e1, by omega, by omega, sz _ (by rw [f1.length]; exact q.1.2.2), fun p hp => k _ _ _ q.2 (Gr.new hp) (out_lst hp (f1.rep _))⟩)
 ·exact q.elim
def rLtU : R2 := fun x y H Q => rI0 (fun i j => .bl (decide (i < j))) x y H Q ∨ ∃ i j, x = .str i ∧ y = .str j ∧ Q (.bl (decide (i.cps.toList < j.cps.toList))) H
def rLeU : R2 := fun x y H Q => rI0 (fun i j => .bl (decide (i ≤ j))) x y H Q ∨ ∃ i j, x = .str i ∧ y = .str j ∧ Q (.bl (!decide (j.cps.toList < i.cps.toList))) H
theorem u_lt : OpR X (compareOp .Lt) rLtU := OpR.or op_lt op_lt_str
theorem u_le : OpR X (compareOp .LtE) rLeU := OpR.or op_le op_le_str
def fLt : F2
 | .int i, .int j, Q => Q (.dat (.bl (decide (i < j))))
 | .str i, .str j, Q => Q (.dat (.bl (decide (i < j))))
 | _, _, _ => False
def fLe : F2
 | .int i, .int j, Q => Q (.dat (.bl (decide (i ≤ j))))
 | .str i, .str j, Q => Q (.dat (.bl (!decide (j < i))))
 | _, _, _ => False
theorem lo_lt : LO K rLtU fLt := by
 intro O H x y a b Q Q' dom fx fy q k
 unfold fLt at q
 split at q
 ·rename_i i j; exact .inl ⟨i, j, fx.int, fy.int, k _ H _ q (Gr.refl _) (.bl _)⟩
 ·rename_i i j; exact .inr ⟨_, _, fx.str.1, fy.str.1, k _ H _ q (Gr.refl _) (.bl _)⟩
 ·exact q.elim
theorem lo_le : LO K rLeU fLe := by
 intro O H x y a b Q Q' dom fx fy q k
 unfold fLe at q
 split at q
 ·rename_i i j; exact .inl ⟨i, j, fx.int, fy.int, k _ H _ q (Gr.refl _) (.bl _)⟩
 ·rename_i i j; exact .inr ⟨_, _, fx.str.1, fy.str.1, k _ H _ q (Gr.refl _) (.bl _)⟩
 ·exact q.elim
theorem lo_gt : LO K (rI0 fun i j => .bl (decide (j < i))) (fI0 fun i j => .bl (decide (j < i))) := lo_I0 fun _ _ _ _ => .bl _
theorem lo_ge : LO K (rI0 fun i j => .bl (decide (j ≤ i))) (fI0 fun i j => .bl (decide (j ≤ i))) := lo_I0 fun _ _ _ _ => .bl _
mutual
def D.py : D → PyData
 | .non => .none | .bl b => .bool b | .int i => .int i | .str l => .str (S l) | .ty _ => .none
 | .lst ds => .list (D.pys ds) | .tup ds => .tuple (D.pys ds) | .scr ns => .list (ns.map .int) | .dic _ _ => .none | .obj _ _ _ => .none | .exc _ _ _ => .none
def D.pys : List D → List PyData
 | [] => []
 | d :: r => d.py :: D.pys r
end
mutual
def D.plain : D → Bool
 | .non => true | .bl _ => true | .int _ => true | .str _ => true | .ty _ => false
 | .lst ds => D.plains ds | .tup ds => D.plains ds | .scr _ => true | .dic _ _ => false | .obj _ _ _ => false | .exc _ _ _ => false
def D.plains : List D → Bool
 | [] => true
 | d :: r => d.plain && D.plains r
end
mutual
theorem FV.dv {O : Addr → Prop} {H : Hp} : ∀ {v : V} {d : D}, FV K O H v d → d.plain = true → DV K H v d.py
 | _, _, .non, _ => .non
 | _, _, .bl b, _ => .bl b
 | _, _, .int i, _ => .int i
 | _, _, .str l h, _ => .str (S l)
 | _, _, .ty n, p => nomatch p
 | _, _, .scr s, _ => .lst s.sq (DVs.ints _)
 | _, _, .lst n e f, p => .lst (SqL.of e) (FVs.dvs f p)
 | _, _, .tup n e f, p => .tup (SqT.of e) (FVs.dvs f p)
 | _, _, .dic _ _ _ _, p => nomatch p
 | _, _, .obj _ _ _ _, p => nomatch p
 | _, _, .exc0 _ _, p => nomatch p
 | _, _, .exc1 _ _ _ _ _ _, p => nomatch p
theorem FVs.dvs {O : Addr → Prop} {H : Hp} : ∀ {vs : List V} {ds : List D}, FVs K O H vs ds → D.plains ds = true → DVs K H vs (D.pys ds)
 | _, _, .nil, _ => .nil
 | _, _, .cons a b, p => by
  have p : (_ && _) = true := p
  rw [Bool.and_eq_true] at p
  exact .cons (FV.dv a p.1) (FVs.dvs b p.2)
end
theorem FVc.dv {O : Addr → Prop} {H : Hp} {v : V} {d : D} (h : FVc K O H v d) (p : d.plain = true) : DV K H v d.py := by
 rcases h with h | ⟨a, xs, ds', rfl, rfl, e3, f⟩ | ⟨a, dx, c, fs, ns, ds', e1, rfl, _⟩
 ·exact h.dv p
 ·exact .lst (SqL.of e3) (f.dvs p)
 ·cases p
def rEqU (K : PySem.W.Frag) (neg : Bool) : R2 := fun x y H Q => rI0 (fun i j => .bl (if neg then !decide (i = j) else decide (i = j))) x y H Q ∨ (∃ i j, x = .str (S i) ∧ y = .str (S j) ∧ Q (.bl (if neg then !decide (i = j) else decide (i = j))) H) ∨ rEqD K neg x y H Q
theorem u_eq (K : PySem.W.Frag) (e : X.K = K) (hu : X.A.units + 64 < cLine) : OpR X (compareOp .Eq) (rEqU K false) := by
 subst e
 exact OpR.or op_eqI (OpR.or op_eqS (op_eqD hu))
theorem u_ne (K : PySem.W.Frag) (e : X.K = K) (hu : X.A.units + 64 < cLine) : OpR X (compareOp .NotEq) (rEqU K true) := by
 subst e
 exact OpR.or op_neI (OpR.or op_neS (op_neD hu))
def EqOk (a b : D) : Prop := a.plain = true ∧ b.plain = true ∧ SeqAt.shaped a.py = true ∧ SeqAt.shaped b.py = true
def deq (a b : D) : Bool := PyData.eqv a.py b.py
def fEq : F2
 | .int i, .int j, Q => Q (.dat (.bl (decide (i = j))))
 | .str i, .str j, Q => Q (.dat (.bl (decide (i = j))))
 | a, b, Q => EqOk a b ∧ Q (.dat (.bl (deq a b)))
def fNe : F2
 | .int i, .int j, Q => Q (.dat (.bl (!decide (i = j))))
 | .str i, .str j, Q => Q (.dat (.bl (!decide (i = j))))
 | a, b, Q => EqOk a b ∧ Q (.dat (.bl (!deq a b)))
theorem lo_eq : LO K (rEqU K false) fEq := by
 intro O H x y a b Q Q' dom fx fy q k
 unfold fEq at q
 split at q
 ·rename_i i j; exact .inl ⟨i, j, fx.int, fy.int, k _ H _ q (Gr.refl _) (.bl _)⟩
 ·rename_i i j; exact .inr (.inl ⟨i, j, fx.str.1, fy.str.1, k _ H _ q (Gr.refl _) (.bl _)⟩)
 ·exact .inr (.inr ⟨_, _, fx.dv q.1.1, fy.dv q.1.2.1, q.1.2.2.1, q.1.2.2.2, k _ H _ q.2 (Gr.refl _) (.bl _)⟩)
theorem lo_ne : LO K (rEqU K true) fNe := by
 intro O H x y a b Q Q' dom fx fy q k
 unfold fNe at q
 split at q
 ·rename_i i j; exact .inl ⟨i, j, fx.int, fy.int, k _ H _ q (Gr.refl _) (.bl _)⟩
 ·rename_i i j; exact .inr (.inl ⟨i, j, fx.str.1, fy.str.1, k _ H _ q (Gr.refl _) (.bl _)⟩)
 ·exact .inr (.inr ⟨_, _, fx.dv q.1.1, fy.dv q.1.2.1, q.1.2.2.1, q.1.2.2.2, k _ H _ q.2 (Gr.refl _) (.bl _)⟩)
def D.fl : D → Bool
 | .non => true | .bl _ => true | .int _ => true | .str _ => true
 | _ => false
def eqF : D → D → Bool
 | .non, .non => true
 | .bl a, .bl b => a == b
 | .bl a, .int b => (if a then 1 else 0) == b
 | .int a, .bl b => a == (if b then 1 else 0)
 | .int a, .int b => a == b
 | .str a, .str b => a == b
 | _, _ => false
def inD (x : D) (xs : List D) : Bool := xs.any fun y => eqF y x
theorem FV.fl {O : Addr → Prop} {H : Hp} {v : V} {d : D} (h : FV K O H v d) (f : d.fl = true) : flatV v = true := by cases h <;> first | rfl | cases f
theorem eqS_eq (a b : List Nat) : (S a == S b) = (a == b) := by
 by_cases h : a = b
 ·subst h; rw [beq_self_eq_true, beq_self_eq_true]
 ·rw [beq_eq_false_iff_ne.mpr h, beq_eq_false_iff_ne.mpr (S_ne h)]
theorem FV.eqF {O : Addr → Prop} {H : Hp} {v w : V} {d e : D} (h : FV K O H v d) (f : d.fl = true) (h' : FV K O H w e) (f' : e.fl = true) : eqV v w = L2.eqF d e := by
 cases h <;> first | (cases f; done) | (cases h' <;> first | (cases f'; done) | rfl | exact eqS_eq _ _)
theorem FVs.inD {O : Addr → Prop} {H : Hp} {v : V} {d : D} (h : FV K O H v d) (f : d.fl = true) : ∀ {xs : List V} {ds : List D}, FVs K O H xs ds → ds.all D.fl = true → xs.all flatV = true ∧ inV v xs = L2.inD d ds
 | _, _, .nil, _ => ⟨rfl, rfl⟩
 | _, _, .cons a b, g => by
  rw [List.all_cons, Bool.and_eq_true] at g
  obtain ⟨i1, i2⟩ := b.inD h f g.2
  refine ⟨by rw [List.all_cons, a.fl g.1, i1]; rfl, ?_⟩
  unfold inV L2.inD at i2 ⊢
  rw [List.any_cons, List.any_cons, i2, a.eqF g.1 h f]
def fIn (neg : Bool) : F2
 | a, .lst ds, Q => (a.fl = true ∧ ds.all D.fl = true) ∧ Q (.dat (.bl (if neg then !inD a ds else inD a ds)))
 | a, .tup ds, Q => (a.fl = true ∧ ds.all D.fl = true) ∧ Q (.dat (.bl (if neg then !inD a ds else inD a ds)))
 | _, _, _ => False
theorem FVc.fl {O : Addr → Prop} {H : Hp} {v : V} {d : D} (h : FVc K O H v d) (f : d.fl = true) : FV K O H v d := h.fv (fun _ z => by rw [z] at f; cases f) (fun _ _ _ z => by rw [z] at f; cases f)
theorem u_notin (K : PySem.W.Frag) (e : X.K = K) : OpR X (compareOp .NotIn) (rIn K true) := by subst e; exact op_notIn_seq
theorem lo_in {neg : Bool} : LO K (rIn K neg) (fIn neg) := by
 intro O H x y a b Q Q' dom fx fy q k
 unfold fIn at q
 split at q
 ·obtain ⟨p, xs, rfl, e1, f1⟩ := fy.lst
  obtain ⟨g1, g2⟩ := f1.inD (fx.fl q.1.1) q.1.1 q.1.2
  exact ⟨p, xs, rfl, .inl (SqL.of e1), (fx.fl q.1.1).fl q.1.1, g1, by rw [g2]; exact k _ H _ q.2 (Gr.refl _) (.bl _)⟩
 ·obtain ⟨p, xs, rfl, n1, e1, f1⟩ := fy.tup
  obtain ⟨g1, g2⟩ := f1.inD (fx.fl q.1.1) q.1.1 q.1.2
  exact ⟨p, xs, rfl, .inr (SqT.of e1), (fx.fl q.1.1).fl q.1.1, g1, by rw [g2]; exact k _ H _ q.2 (Gr.refl _) (.bl _)⟩
 ·exact q.elim
def rIxU (K : PySem.W.Frag) : R2 := fun x y H Q => rIxL K x y H Q ∨ rIxT K x y H Q ∨ rIxS' x y H Q
theorem u_ix (K : PySem.W.Frag) (e : X.K = K) : IxR X (rIxU K) := by
 subst e
 exact IxR.or ix_list (IxR.or ix_tup ix_strS)
def fIx : F2
 | .lst ds, .int i, Q => ∃ d, atI ds i = some d ∧ Q (.dat d)
 | .tup ds, .int i, Q => ∃ d, atI ds i = some d ∧ Q (.dat d)
 | .scr ns, .int i, Q => ∃ d, atI ns i = some d ∧ Q (.dat (.int d))
 | .str l, .int i, Q => ∃ c, atI l i = some c ∧ Q (.dat (.str [c]))
 | _, _, _ => False
theorem FVs.atI {O : Addr → Prop} {H : Hp} {vs : List V} {ds : List D} {i : Int} {d : D} (f : FVs K O H vs ds) (h : L2.atI ds i = some d) : ∃ v, L2.atI vs i = some v ∧ FV K O H v d := by
 unfold L2.atI at h ⊢
 rw [f.length]
 cases e : ixN ds.length i with
 | none => rw [e] at h; cases h
 | some j => rw [e] at h; exact f.getD h
theorem lo_ix : LO K (rIxU K) fIx := by
 intro O H x y a b Q Q' dom fx fy q k
 unfold fIx at q
 split at q
 ·obtain ⟨d, hd, q⟩ := q
  obtain ⟨p, xs, rfl, e1, f1⟩ := fx.lst
  obtain ⟨v, hv, fv⟩ := f1.atI hd
  exact .inl ⟨p, xs, _, v, rfl, fy.int, SqL.of e1, hv, k _ H _ q (Gr.refl _) fv⟩
 ·obtain ⟨d, hd, q⟩ := q
  obtain ⟨p, xs, rfl, n1, e1, f1⟩ := fx.tup
  obtain ⟨v, hv, fv⟩ := f1.atI hd
  exact .inr (.inl ⟨p, xs, _, v, rfl, fy.int, SqT.of e1, hv, k _ H _ q (Gr.refl _) fv⟩)
 ·obtain ⟨d, hd, q⟩ := q
  obtain ⟨p, rfl, e1⟩ := fx.scr
  exact .inl ⟨p, _, _, _, rfl, fy.int, e1, atI_map hd, k _ H _ q (Gr.refl _) (.int d)⟩
 ·obtain ⟨c, hc, q⟩ := q
  exact .inr (.inr ⟨_, _, c, fx.str.1, fy.int, sz _ fx.str.2, hc, k _ H _ q (Gr.refl _) (.str _ (by show 1 ≤ 1000000; decide))⟩)
 ·exact q.elim
end
end L2
namespace L2
open PySem PySem.Spec PyProof.Rows _root_.HT
section
variable {prog : Program} {w : World} {A : Around} {E : Value → Shared → Prop} {s : Shared}
theorem getItem_tuple_all {t sl : Addr} {items : Array Value} {vl vu : Value} {lo hi : Option Int} {Q : Value → Shared → Prop} (ht : IsTup s.heap t items) (hs : s.heap.IsSliceOf sl vl vu .none) (pl : IsPart vl lo) (pu : IsPart vu hi)
  (hw : sIx items.size 0 lo = 0 ∧ sIx items.size items.size hi = items.size)
  (h : Q (.ref t) s) : wpAny (model prog w) A (getItem (.ref t) (.ref sl)) Q E s := by
 obtain ⟨os, hos, hcs, hds⟩ := id hs
 have hTs : s.TypeIs (.ref sl) "slice" := ⟨os, hos, hcs⟩
 unfold getItem
 try with_reducible refine wpAny_holding ?_
 first | refine wpAny_bind (wpAny_pure ?_) | skip
 refine wpAny_bind (wpAny_sequenceKey ht.typeIs (by decide) ?_)
 refine wpAny_bind (wpAny_callSpecial?_slot (name := Str.ofString "__getitem__") ht.typeIs PyProof.Rows.slot_tuple_getitem
  (wpAny_call_entry PyProof.Rows.slot_tuple_getitem ht.typeIs entry_tuple_getitem ?_ (args_tuple_getitem _ _)))
 show wpAny _ _ (Builtin.Tuple.tupleItemsOf (.ref t) >>= _) _ _ s
 refine wpAny_bind (tupleItemsOf_ ht ?_)
 refine wpAny_bind (wpAny_typeOf hTs ?_)
 rw [if_pos (by decide)]
 refine wpAny_bind (sliceApplied_gen hs pl pu ?_)
 have hyes : (((sIx items.size 0 lo : Nat) : Int) == 0 && (1 : Int) == 1 && (sIx items.size items.size hi - sIx items.size 0 lo) == items.size) = true := by
  rw [hw.1, hw.2, Nat.sub_zero]; simp
 show wpAny _ _ (if (((sIx items.size 0 lo : Nat) : Int) == 0 && (1 : Int) == 1 && (sIx items.size items.size hi - sIx items.size 0 lo) == items.size) = true then _ else _) _ _ s
 rw [if_pos hyes]
 refine wpAny_bind (m := Builtin.Tuple.tupleIsExact _) (wpAny_bind (wpAny_typeOf ht.typeIs (wpAny_pure ?_)))
 rw [if_pos (by decide)]
 first
  | exact wpAny_bind (m := rule _) (wpAny_pure (wpAny_pure ⟨_, rfl, wpAny_pure h⟩))
  | exact wpAny_pure ⟨_, rfl, wpAny_pure h⟩
  | exact wpAny_bind (wpAny_rule (wpAny_pure ⟨_, rfl, wpAny_pure h⟩))
def rSlTW (K : PySem.W.Frag) : V → Option Int → Option Int → Hp → VK → Prop := fun x lo hi H Q => ∃ a xs, x = .ref a ∧ SqT K H a xs ∧ (sIx xs.length 0 lo = 0 ∧ sIx xs.length xs.length hi = xs.length) ∧ Q (.ref a) H
theorem sl_tupW {X : Cx} : SlR X (rSlTW X.K) := by
 intro pins s σ H x v vl vu lo hi sl Q I rx hs pl pu h
 obtain ⟨a, xs, rfl, hx, hw, q⟩ := h
 cases rx
 obtain ⟨its, r, ht, hz⟩ := I.tuple hx
 have hlen : its.toArray.size = xs.length := by rw [List.size_toArray]; exact r.length.symm
 refine ⟨"tuple", _, PyProof.Rows.slot_tuple_getitem.lookup, ht.typeIs, ?_⟩
 exact getItem_tuple_all ht hs pl pu (by rw [hlen]; exact hw) ⟨.ref a, H, I, rfl, q⟩
end
end L2
namespace L2
open PySem PySem.Spec PyProof.Rows
section
variable {K : PySem.W.Frag} {X : Cx} {ta tb tc to : TE} {pa pb pc : PA1} {pe : PTE} {tr : TA} {pr : PTA}
def pChain (f f' : F2) (pa pb pc : PA1) : PTE := fun ρ Q => pa ρ fun x ρ1 => pb ρ1 fun y ρ2 => op2 f ρ2 x y fun p ρ3 => match p with
 | .dat (.bl k) => PIte k (pc ρ3 fun z ρ4 => op2 f' ρ4 y z Q) (Q (.dat (.bl false)) ρ3)
 | _ => False
theorem le_chain {r r' : R2} {f f' : F2} (o : LO K r f) (o' : LO K r' f') (ha : LA1 K ta pa) (hb : LA1 K tb pb) (hc : LA1 K tc pc) : LE K (tChain r r' ta tb tc) (pChain f f' pa pb pc) := fun A ρ σ H Q Q' R q k =>
 ha A ρ σ H _ _ R q fun v H1 a ρ1 q1 f1 R1 o1 => hb A ρ1 σ H1 _ _ R1 q1 fun w H2 b ρ2 q2 f2 R2 o2 => by
  unfold op2 at q2
  split at q2
  ·rename_i da db e1 e2
   refine o _ H2 v w da db _ _ R2.dom2 (R2.cont (o1.keeps f2.keeps) e1) (R2.cont o2 e2) q2 fun z H3 p q3 g ov => ?_
   dsimp only at q3
   split at q3
   ·rename_i c
    cases ov
    refine ⟨c, rfl, ?_⟩
    have R3 := R2.gr g
    cases c with
    | true =>
     refine hc A ρ2 σ H3 _ _ R3 q3 fun u H4 cc ρ4 q4 f4 R4 o4 => ?_
     try unfold op2 at q4
     split at q4
     ·rename_i dc dd e3 e4
      have o2' : AOk K (OO A ρ4 σ) σ H4 b w := (o2.keeps (g.fr (ρ := ρ2) (σ := σ)).keeps).keeps f4.keeps
      exact o' _ H4 w u _ _ _ _ R4.dom2 (R4.cont o2' e3) (R4.cont o4 e4) q4 fun z H5 p q5 g5 ov => k z H5 p ρ4 q5 ((((f1.trans f2).trans g.fr).trans f4).trans g5.fr) ((ov.out R4 g5).h0 fun b z => f4.dm b ((g.fr (ρ := ρ2) (σ := σ)).dm b (f2.dm b (f1.dm b z))))
     ·exact q4.elim
    | false => exact k _ H3 _ ρ2 q3 ((f1.trans f2).trans g.fr) ⟨R3, .bl false⟩
   ·exact q3.elim
  ·exact q2.elim
abbrev PTO := PSt → (Option Int → PSt → Prop) → Prop
def LPo (K : PySem.W.Frag) (t : TO) (p : PTO) : Prop := ∀ (A : Addr → Prop) (ρ : PSt) (σ : St) (H : Hp) (Q : Option Int → PSt → Prop) (Q' : Option Int → Hp → Prop), Rel K A ρ σ H → p ρ Q →
 (∀ b H' ρ', Q b ρ' → Fr ρ σ H ρ' H' → Rel K A ρ' σ H' → Q' b H') → t σ H Q'
def poNone : PTO := fun ρ Q => Q none ρ
def poSome (pe : PTE) : PTO := fun ρ Q => pe ρ fun p ρ1 => match p with
 | .dat (.int i) => Q (some i) ρ1
 | _ => False
theorem lpo_none : LPo K tNoPart poNone := fun A ρ σ H Q Q' R q k => k none H ρ q (Fr.refl _ _ _) R
theorem lpo_some (h : LE K ta pe) : LPo K (tPart ta) (poSome pe) := fun A ρ σ H Q Q' R q k => h A ρ σ H _ _ R q fun v H1 p ρ1 q1 f1 o1 => by
 split at q1
 ·rename_i i
  obtain ⟨R1, f⟩ := o1
  cases f
  exact ⟨i, rfl, k _ H1 ρ1 q1 f1 R1⟩
 ·exact q1.elim
def rSlU (K : PySem.W.Frag) : V → Option Int → Option Int → Hp → VK → Prop := fun x lo hi H Q => rSlL K x lo hi H Q ∨ rSlS x lo hi H Q ∨ rSlT K x lo hi H Q ∨ rSlTW K x lo hi H Q
theorem u_sl (K : PySem.W.Frag) (e : X.K = K) : SlR X (rSlU K) := by
 subst e
 exact SlR.or sl_list (SlR.or sl_str (SlR.or sl_tup sl_tupW))
def fSl : D → Option Int → Option Int → (PV → Prop) → Prop
 | .lst ds, lo, hi, Q => Q (.own (cutN ds lo hi))
 | .scr ns, lo, hi, Q => Q (.own ((cutN ns lo hi).map .int))
 | .str l, lo, hi, Q => Q (.dat (.str (cutN l lo hi)))
 | .tup ds, lo, hi, Q => Q (.dat (.tup (cutN ds lo hi)))
 | _, _, _, _ => False
theorem FVs.cut {O : Addr → Prop} {H : Hp} {xs : List V} {ds : List D} (f : FVs K O H xs ds) (lo hi : Option Int) : FVs K O H (cutN xs lo hi) (cutN ds lo hi) := by
 unfold cutN
 rw [f.length]
 exact (f.drop _).take _
def pSlice (pa : PA1) (pl ph : PTO) : PTE := fun ρ Q => pa ρ fun x ρ1 => pl ρ1 fun lo ρ2 => ph ρ2 fun hi ρ3 => match cont ρ3 x with
 | some d => fSl d lo hi fun p => Q p ρ3
 | _ => False
theorem cut_all {α : Type} {ds : List α} {lo hi : Option Int} {n : Nat} (h : n = ds.length) (hw : HT.sIx n 0 lo = 0 ∧ HT.sIx n n hi = n) : cutN ds lo hi = ds := by
 subst h
 unfold cutN
 rw [hw.1, hw.2, List.drop_zero, Nat.sub_zero, List.take_length]
theorem lsl {O : Addr → Prop} {H : Hp} {x : V} {d : D} {lo hi : Option Int} {Q : PV → Prop} {Q' : VK} (dom : ∀ b, O b → H b ≠ none) (fx : FVc K O H x d) (q : fSl d lo hi Q) (k : ∀ v H' p, Q p → Gr H H' → OutV K O H H' p v → Q' v H') : rSlU K x lo hi H Q' := by
 unfold fSl at q
 split at q
 ·obtain ⟨a, xs, rfl, e1, f1⟩ := fx.lst
  exact .inl ⟨a, xs, rfl, SqL.of e1, fun p hp => k _ _ _ q (Gr.new hp) (out_lst hp (f1.cut _ _))⟩
 ·obtain ⟨a, rfl, e1⟩ := fx.scr
  exact .inl ⟨a, _, rfl, e1, fun p hp => k _ _ _ q (Gr.new hp) (out_lst hp (by rw [cutV_cutN, cutN_map]; exact FVs.of_ints _))⟩
 ·exact .inr (.inl ⟨_, fx.str.1, sz _ fx.str.2, k _ H _ q (Gr.refl _) (.str _ (Nat.le_trans (cutN_length_le _ _ _) fx.str.2))⟩)
 ·obtain ⟨a, xs, rfl, n1, e1, f1⟩ := fx.tup
  by_cases hw : HT.sIx xs.length 0 lo = 0 ∧ HT.sIx xs.length xs.length hi = xs.length
  ·refine .inr (.inr (.inr ⟨a, xs, rfl, SqT.of e1, hw, k _ H _ q (Gr.refl _) ?_⟩))
   rw [cut_all f1.length hw]
   exact .tup n1 e1 f1
  ·exact .inr (.inr (.inl ⟨a, xs, rfl, SqT.of e1, hw, fun p hp => k _ _ _ q (Gr.new hp) (out_tup dom hp (f1.cut _ _))⟩))
 ·exact q.elim
theorem le_slice {tl th : TO} {pl ph : PTO} (ha : LA1 K ta pa) (hl : LPo K tl pl) (hh : LPo K th ph) : LE K (tSl (rSlU K) ta tl th) (pSlice pa pl ph) := fun A ρ σ H Q Q' R q k =>
 ha A ρ σ H _ _ R q fun v H1 a ρ1 q1 f1 R1 o1 => hl A ρ1 σ H1 _ _ R1 q1 fun lo H2 ρ2 q2 f2 R2 => hh A ρ2 σ H2 _ _ R2 q2 fun hi H3 ρ3 q3 f3 R3 => by
  split at q3
  ·rename_i d e1
   exact lsl R3.dom2 (R3.cont (o1.keeps (f2.trans f3).keeps) e1) q3 fun z H4 p q4 g ov => k z H4 p ρ3 q4 (((f1.trans f2).trans f3).trans g.fr) ((ov.out R3 g).h0 fun b z => f3.dm b (f2.dm b (f1.dm b z)))
  ·exact q3.elim
abbrev FN := List D → (PV → Prop) → Prop
def rLenU (K : PySem.W.Frag) : List V → Hp → VK → Prop := fun xs H Q => (∃ l, xs = [.str (S l)] ∧ l.length ≤ sizeLine ∧ Q (.int l.length) H) ∨ rLenL K xs H Q ∨ rLenT K xs H Q ∨ ∃ p kvs, xs = [.ref p] ∧ Rd H p (.dK kvs) ∧ Q (.int kvs.length) H
theorem u_len (K : PySem.W.Frag) (e : X.K = K) : CallR X (.builtin "len") (rLenU K) := by
 subst e
 exact CallR.or call_lenS (CallR.or call_lenL (CallR.or call_lenT call_lenD))
def fLen : FN
 | [.str l], Q => Q (.dat (.int l.length))
 | [.lst l], Q => Q (.dat (.int l.length))
 | [.tup l], Q => Q (.dat (.int l.length))
 | [.scr l], Q => Q (.dat (.int l.length))
 | [.dic ks _], Q => Q (.dat (.int ks.length))
 | _, _ => False
theorem lc_len : LC K (rLenU K) fLen := by
 intro O H xs as Q Q' dom fs q k
 unfold fLen at q
 split at q
 ·cases fs with | cons a b => cases b; rw [a.str.1]; exact .inl ⟨_, rfl, sz _ a.str.2, k _ H _ q (Gr.refl _) (.int _)⟩
 ·cases fs with
  | cons a b =>
   cases b
   obtain ⟨p, ys, rfl, e1, f1⟩ := a.lst
   exact .inr (.inl ⟨p, ys, rfl, SqL.of e1, by rw [f1.length]; exact k _ H _ q (Gr.refl _) (.int _)⟩)
 ·cases fs with
  | cons a b =>
   cases b
   obtain ⟨p, ys, rfl, n1, e1, f1⟩ := a.tup
   exact .inr (.inr (.inl ⟨p, ys, rfl, SqT.of e1, by rw [f1.length]; exact k _ H _ q (Gr.refl _) (.int _)⟩))
 ·cases fs with
  | cons a b =>
   cases b
   obtain ⟨p, rfl, e1⟩ := a.scr
   exact .inr (.inl ⟨p, _, rfl, e1, by rw [List.length_map]; exact k _ H _ q (Gr.refl _) (.int _)⟩)
 ·cases fs with
  | cons a b =>
   cases b
   cases a.fv nofun nofun with
   | dic n e m f => subst m; exact .inr (.inr (.inr ⟨_, _, rfl, .inl e, k _ H _ q (Gr.refl _) (by rw [List.length_map]; exact .int _)⟩))
 ·exact q.elim
inductive Kd where
 | int | bool | str | list | tuple | dict
def Kd.nm : Kd → String
 | .int => "int" | .bool => "bool" | .str => "str" | .list => "list" | .tuple => "tuple" | .dict => "dict"
def isK : Kd → D → Bool
 | .int, .int _ => true
 | .int, .bl _ => true
 | .bool, .bl _ => true
 | .str, .str _ => true
 | .list, .lst _ => true
 | .tuple, .tup _ => true
 | .dict, .dic _ _ => true
 | _, _ => false
def D.sort : D → Bool
 | .obj _ _ _ => false
 | .exc _ _ _ => false
 | .scr _ => false
 | .ty _ => false
 | _ => true
theorem FVc.ty {O : Addr → Prop} {H : Hp} {v : V} {d : D} (h : FVc K O H v d) (s : d.sort = true) : ∃ t, TyOf K H v t ∧ ∀ k : Kd, PySem.W.kitOne K t (.type k.nm) = some (isK k d) := by
 rcases h with h | ⟨a, xs, ds', rfl, rfl, e3, f⟩ | ⟨a, dx, c, fs, ns, ds', rfl, rfl, _⟩
 ·cases h with
  | non => exact ⟨_, .non, fun k => by cases k <;> rfl⟩
  | bl b => exact ⟨_, .bl b, fun k => by cases k <;> rfl⟩
  | int i => exact ⟨_, .int i, fun k => by cases k <;> rfl⟩
  | str l h => exact ⟨_, .str _, fun k => by cases k <;> rfl⟩
  | ty n => cases s
  | scr _ => cases s
  | lst n e f => exact ⟨_, .lst e, fun k => by cases k <;> rfl⟩
  | tup n e f => exact ⟨_, .tup e, fun k => by cases k <;> rfl⟩
  | dic n e m f => exact ⟨_, .dK e, fun k => by cases k <;> rfl⟩
  | obj _ _ _ _ => cases s
  | exc0 _ _ => cases s
  | exc1 _ _ _ _ _ _ => cases s
 ·exact ⟨_, .lst e3, fun k => by cases k <;> rfl⟩
 ·cases s
theorem u_isI (K : PySem.W.Frag) (e : X.K = K) : CallR X (.builtin "isinstance") (rIsI K) := by subst e; exact call_isinst
def pIsI (k : Kd) (pa : PA1) : PTE := fun ρ Q => pa ρ fun x ρ1 => match cont ρ1 x with
 | some d => PIte d.sort (Q (.dat (.bl (isK k d))) ρ1) False
 | _ => False
theorem le_isI (k : Kd) (ha : LA1 K ta pa) : LE K (tCB (rIsI K) (tCons ta (tCons (tC (.ty k.nm)) tNil))) (pIsI k pa) := fun A ρ σ H Q Q' R q kk =>
 ha A ρ σ H _ _ R q fun v H1 a ρ1 q1 f1 R1 o1 => by
  split at q1
  ·rename_i d e1
   cases hs : d.sort with
   | false => rw [hs] at q1; exact q1.elim
   | true =>
    rw [hs] at q1
    obtain ⟨t, ty, hk⟩ := (R1.cont o1 e1).ty hs
    exact ⟨v, k.nm, t, isK k d, rfl, ty, hk k, kk _ H1 _ ρ1 q1 f1 ⟨R1, .bl _⟩⟩
  ·exact q1.elim
def rIsT (K : PySem.W.Frag) : List V → Hp → VK → Prop := fun xs H Q => ∃ (x : V) (p : Addr) (ts : List String) (t : Value) (b : Bool), xs = [x, .ref p] ∧ TyOf K H x t ∧ H p = some (.tup (ts.map V.ty)) ∧ PySem.W.kitAny K t (ts.map Value.type) = some b ∧ Q (.bl b) H
theorem u_isT (K : PySem.W.Frag) (e : X.K = K) : CallR X (.builtin "isinstance") (rIsT K) := by subst e; exact call_isinstT
def pIsT (k l : Kd) (pa : PA1) : PTE := fun ρ Q => pa ρ fun x ρ1 => match cont ρ1 x with
 | some d => PIte d.sort (Q (.dat (.bl (isK k d || isK l d))) ρ1) False
 | _ => False
theorem FVc.keeps {O O' : Addr → Prop} {H H' : Hp} {v : V} {d : D} (k : Keeps O H O' H') (g : Gr H H') (h : FVc K O H v d) : FVc K O' H' v d := by
 rcases h with h | ⟨a, xs, ds', e1, e2, e3, f⟩ | ⟨a, dx, c, fs, ns, ds', e1, e2, e3, m, f⟩
 ·exact .inl (h.keeps k)
 ·exact .inr (.inl ⟨a, xs, ds', e1, e2, g _ _ e3, f.keeps k⟩)
 ·exact .inr (.inr ⟨a, dx, c, fs, ns, ds', e1, e2, g _ _ e3, m, f.keeps k⟩)
theorem le_isT (k l : Kd) (hkl : ∀ t b c, PySem.W.kitOne K t (.type k.nm) = some b → PySem.W.kitOne K t (.type l.nm) = some c → PySem.W.kitAny K t [.type k.nm, .type l.nm] = some (b || c)) (ha : LA1 K ta pa) : LE K (tCB (rIsT K) (tCons ta (tCons (tTup (tCons (tC (.ty k.nm)) (tCons (tC (.ty l.nm)) tNil))) tNil))) (pIsT k l pa) := fun A ρ σ H Q Q' R q kk =>
 ha A ρ σ H _ _ R q fun v H1 a ρ1 q1 f1 R1 o1 => by
  split at q1
  ·rename_i d e1
   cases hs : d.sort with
   | false => rw [hs] at q1; exact q1.elim
   | true =>
    rw [hs] at q1
    refine ⟨by show 2 ≤ sizeLine; decide, fun p hp => ?_⟩
    have g : Gr H1 (upd H1 p (.tup [V.ty k.nm, V.ty l.nm])) := Gr.new hp
    obtain ⟨t, ty, hk⟩ := ((R1.cont o1 e1).keeps (g.fr (ρ := ρ1) (σ := σ)).keeps g).ty hs
    exact ⟨v, p, [k.nm, l.nm], t, _, rfl, ty, upd_same, hkl _ _ _ (hk k) (hk l), kk _ _ _ ρ1 q1 (f1.trans g.fr) ⟨R1.gr g, .bl _⟩⟩
  ·exact q1.elim
end
end L2
namespace L2
open PySem PySem.Spec PyProof.Rows
structure PEnds where
 nx : PSt → Prop
 rt : PV → PSt → Prop
 bk : PSt → Prop := fun _ => False
 ct : PSt → Prop := fun _ => False
abbrev PTS := PEnds → PSt → Prop
structure RelF (fx : List (Nat × V)) (R : Addr → Prop) (H0 : Hp) (ρ : PSt) (σ : St) (H : Hp) : Prop where
 kp : ∀ b o, ¬ R b → H0 b = some o → H b = some o
 dm : ∀ b, H0 b ≠ none → H b ≠ none
 ow : ∀ b, Wr ρ σ b → R b ∨ H0 b = none
 fx : ∀ p ∈ fx, σ[p.1]? = some (some p.2)
section
variable {K : PySem.W.Frag} {fx : List (Nat × V)} {A R : Addr → Prop} {H0 H H' : Hp} {ρ ρ' : PSt} {σ : St}
theorem RelF.fr (F : RelF fx R H0 ρ σ H) (f : Fr ρ σ H ρ' H') : RelF fx R H0 ρ' σ H' :=
 ⟨fun b o n e => f.kp b o (fun w => (F.ow b w).elim n (fun z => by rw [z] at e; cases e)) (F.kp b o n e), fun b z => f.dm b (F.dm b z), fun b w => F.ow b (f.ow b w), F.fx⟩
theorem RelF.start (hfx : ∀ p ∈ fx, σ[p.1]? = some (some p.2)) : RelF fx (Wr ρ σ) H ρ σ H := ⟨fun _ _ _ h => h, fun _ h => h, fun _ h => .inl h, hfx⟩
theorem RelF.keepsR {ρ1 : PSt} {σ1 : St} {H1 : Hp} (F : RelF fx R H1 ρ σ H) (hR : ∀ b, R b → OO A ρ1 σ1 b) : Keeps (OO A ρ1 σ1) H1 (OO A ρ σ) H := fun b o n e => by
 refine ⟨fun z => ?_, F.kp b o (fun z => n (hR b z)) e⟩
 rcases z with z | z
 ·exact n (.inl z)
 ·rcases F.ow b z with z | z
  ·exact n (hR b z)
  ·rw [z] at e; cases e
theorem RelF.keeps {ρ1 : PSt} {σ1 : St} {H1 : Hp} (F : RelF fx (Wr ρ1 σ1) H1 ρ σ H) : Keeps (OO A ρ1 σ1) H1 (OO A ρ σ) H := F.keepsR fun b z => .inr z
theorem RelF.trans {fx' : List (Nat × V)} {ρ1 : PSt} {σ1 : St} {H1 : Hp} (F : RelF fx R H0 ρ1 σ1 H1) (G : RelF fx' (Wr ρ1 σ1) H1 ρ σ H) (hfx : ∀ p ∈ fx, σ[p.1]? = some (some p.2)) : RelF fx R H0 ρ σ H := by
 refine ⟨fun b o n e => G.kp b o (fun w => (F.ow b w).elim n (fun z => by rw [z] at e; cases e)) (F.kp b o n e), fun b z => G.dm b (F.dm b z), fun b w => ?_, hfx⟩
 rcases G.ow b w with z | z
 ·exact F.ow b z
 ·refine .inr ?_
  cases e : H0 b with
  | none => rfl
  | some o => exact absurd z (F.dm b (by rw [e]; exact nofun))
theorem Out.put {p : PV} {v : V} {i : Nat} (h : Out K A ρ σ H0 H p v) : Rel K A (ρ.set i (some p)) (σ.set i (some v)) H ∧ ∀ b, Wr (ρ.set i (some p)) (σ.set i (some v)) b → Wr ρ σ b ∨ H0 b = none := by
 have get : ∀ (j : Nat) (q : PV), (ρ.set i (some p))[j]? = some (some q) → (j = i ∧ q = p ∧ i < ρ.length) ∨ (j ≠ i ∧ ρ[j]? = some (some q)) := fun j q e => by
  by_cases z : i = j
  ·subst z
   by_cases hi : i < ρ.length
   ·rw [List.getElem?_set_self hi] at e; cases e; exact .inl ⟨rfl, rfl, hi⟩
   ·rw [List.getElem?_eq_none (by rw [List.length_set]; omega)] at e; cases e
  ·rw [List.getElem?_set_ne z] at e; exact .inr ⟨fun q => z q.symm, e⟩
 cases p with
 | dat d =>
  obtain ⟨R1, f⟩ := h
  have ow : ∀ b, Wr (ρ.set i (some (.dat d))) (σ.set i (some v)) b → Wr ρ σ b := fun b ⟨j, r, e1, o1, s1⟩ => by
   rcases get j r e1 with ⟨_, rfl, _⟩ | ⟨n, e⟩
   ·cases o1
   ·rw [List.getElem?_set_ne (fun z => n z.symm)] at s1; exact ⟨j, r, e, o1, s1⟩
  have k : Keeps (OO A ρ σ) H (OO A (ρ.set i (some (.dat d))) (σ.set i (some v))) H := Keeps.less fun b z => z.imp id (ow b)
  refine ⟨⟨by rw [List.length_set, List.length_set]; exact R1.len, fun j r e1 => ?_, fun j l p1 q1 v' e1 e2 o1 o2 s1 s2 => ?_, R1.dom, fun b z w => R1.sep b z (ow b w)⟩, fun b w => .inl (ow b w)⟩
  ·rcases get j r e1 with ⟨rfl, rfl, hi⟩ | ⟨n, e⟩
   ·exact ⟨v, List.getElem?_set_self (by rw [← R1.len]; exact hi), f.keeps k⟩
   ·obtain ⟨u, s, r'⟩ := R1.get j r e
    exact ⟨u, by rw [List.getElem?_set_ne (fun z => n z.symm)]; exact s, r'.keeps k fun _ _ _ => rfl⟩
  ·rcases get j p1 e1 with ⟨_, rfl, _⟩ | ⟨n1, e1⟩
   ·cases o1
   ·rcases get l q1 e2 with ⟨_, rfl, _⟩ | ⟨n2, e2⟩
    ·cases o2
    ·rw [List.getElem?_set_ne (fun z => n1 z.symm)] at s1
     rw [List.getElem?_set_ne (fun z => n2 z.symm)] at s2
     exact R1.dj j l p1 q1 v' e1 e2 o1 o2 s1 s2
 | own ds =>
  obtain ⟨a, xs, rfl, na, hn, e0, R1, f⟩ := h
  have ow : ∀ b, Wr (ρ.set i (some (.own ds))) (σ.set i (some (.ref a))) b → Wr ρ σ b ∨ b = a := fun b ⟨j, r, e1, o1, s1⟩ => by
   rcases get j r e1 with ⟨rfl, rfl, hi⟩ | ⟨n, e⟩
   ·rw [List.getElem?_set_self (by rw [← R1.len]; exact hi)] at s1; cases s1; exact .inr rfl
   ·rw [List.getElem?_set_ne (fun z => n z.symm)] at s1; exact .inl ⟨j, r, e, o1, s1⟩
  have k : Keeps (OO (plus A a) ρ σ) H (OO A (ρ.set i (some (.own ds))) (σ.set i (some (.ref a)))) H := Keeps.less fun b z => by
   rcases z with z | z
   ·exact .inl (.inl z)
   ·rcases ow b z with z | z
    ·exact .inr z
    ·exact .inl (.inr z)
  refine ⟨⟨by rw [List.length_set, List.length_set]; exact R1.len, fun j r e1 => ?_, fun j l p1 q1 v' e1 e2 o1 o2 s1 s2 => ?_, fun b z => R1.dom b (.inl z), fun b z w => ?_⟩, fun b w => (ow b w).imp id fun z => by rw [z]; exact hn⟩
  ·rcases get j r e1 with ⟨rfl, rfl, hi⟩ | ⟨n, e⟩
   ·exact ⟨_, List.getElem?_set_self (by rw [← R1.len]; exact hi), a, xs, rfl, e0, f.keeps k⟩
   ·obtain ⟨u, s, r'⟩ := R1.get j r e
    exact ⟨u, by rw [List.getElem?_set_ne (fun z => n z.symm)]; exact s, r'.keeps k fun _ _ _ => rfl⟩
  ·rcases get j p1 e1 with ⟨rfl, rfl, hi⟩ | ⟨n1, e1'⟩
   ·rw [List.getElem?_set_self (by rw [← R1.len]; exact hi)] at s1; cases s1
    rcases get l q1 e2 with ⟨rfl, rfl, _⟩ | ⟨n2, e2⟩
    ·rfl
    ·rw [List.getElem?_set_ne (fun z => n2 z.symm)] at s2
     exact absurd ⟨l, q1, e2, o2, s2⟩ (R1.sep a (.inr rfl))
   ·rw [List.getElem?_set_ne (fun z => n1 z.symm)] at s1
    rcases get l q1 e2 with ⟨rfl, rfl, hi⟩ | ⟨n2, e2⟩
    ·rw [List.getElem?_set_self (by rw [← R1.len]; exact hi)] at s2; cases s2
     exact absurd ⟨j, p1, e1', o1, s1⟩ (R1.sep a (.inr rfl))
    ·rw [List.getElem?_set_ne (fun z => n2 z.symm)] at s2
     exact R1.dj j l p1 q1 v' e1' e2 o1 o2 s1 s2
  ·rcases ow b w with w | w
   ·exact R1.sep b (.inl z) w
   ·rw [w] at z; exact na z
 | ins c ns ds =>
  obtain ⟨a, dx, fs, rfl, na, hn, e0, m, R1, f⟩ := h
  have ow : ∀ b, Wr (ρ.set i (some (.ins c ns ds))) (σ.set i (some (.ref a))) b → Wr ρ σ b ∨ b = a := fun b ⟨j, r, e1, o1, s1⟩ => by
   rcases get j r e1 with ⟨rfl, rfl, hi⟩ | ⟨n, e⟩
   ·rw [List.getElem?_set_self (by rw [← R1.len]; exact hi)] at s1; cases s1; exact .inr rfl
   ·rw [List.getElem?_set_ne (fun z => n z.symm)] at s1; exact .inl ⟨j, r, e, o1, s1⟩
  have k : Keeps (OO (plus A a) ρ σ) H (OO A (ρ.set i (some (.ins c ns ds))) (σ.set i (some (.ref a)))) H := Keeps.less fun b z => by
   rcases z with z | z
   ·exact .inl (.inl z)
   ·rcases ow b z with z | z
    ·exact .inr z
    ·exact .inl (.inr z)
  refine ⟨⟨by rw [List.length_set, List.length_set]; exact R1.len, fun j r e1 => ?_, fun j l p1 q1 v' e1 e2 o1 o2 s1 s2 => ?_, fun b z => R1.dom b (.inl z), fun b z w => ?_⟩, fun b w => (ow b w).imp id fun z => by rw [z]; exact hn⟩
  ·rcases get j r e1 with ⟨rfl, rfl, hi⟩ | ⟨n, e⟩
   ·exact ⟨_, List.getElem?_set_self (by rw [← R1.len]; exact hi), a, dx, fs, rfl, e0, m, f.keeps k⟩
   ·obtain ⟨u, s, r'⟩ := R1.get j r e
    exact ⟨u, by rw [List.getElem?_set_ne (fun z => n z.symm)]; exact s, r'.keeps k fun _ _ _ => rfl⟩
  ·rcases get j p1 e1 with ⟨rfl, rfl, hi⟩ | ⟨n1, e1'⟩
   ·rw [List.getElem?_set_self (by rw [← R1.len]; exact hi)] at s1; cases s1
    rcases get l q1 e2 with ⟨rfl, rfl, _⟩ | ⟨n2, e2⟩
    ·rfl
    ·rw [List.getElem?_set_ne (fun z => n2 z.symm)] at s2
     exact absurd ⟨l, q1, e2, o2, s2⟩ (R1.sep a (.inr rfl))
   ·rw [List.getElem?_set_ne (fun z => n1 z.symm)] at s1
    rcases get l q1 e2 with ⟨rfl, rfl, hi⟩ | ⟨n2, e2⟩
    ·rw [List.getElem?_set_self (by rw [← R1.len]; exact hi)] at s2; cases s2
     exact absurd ⟨j, p1, e1', o1, s1⟩ (R1.sep a (.inr rfl))
    ·rw [List.getElem?_set_ne (fun z => n2 z.symm)] at s2
     exact R1.dj j l p1 q1 v' e1' e2 o1 o2 s1 s2
  ·rcases ow b w with w | w
   ·exact R1.sep b (.inl z) w
   ·rw [w] at z; exact na z
end
abbrev PTG := PV → PSt → (PSt → Prop) → Prop
abbrev PTGs := List D → PSt → (PSt → Prop) → Prop
def LG (K : PySem.W.Frag) (fs : List Nat) (g : TG) (pg : PTG) : Prop := ∀ (fx : List (Nat × V)) (A R : Addr → Prop) (H0 : Hp) (ρ : PSt) (σ : St) (H : Hp) (p : PV) (v : V) (Q : PSt → Prop) (Q' : St → Hp → Prop), fx.map Prod.fst = fs → RelF fx R H0 ρ σ H → Out K A ρ σ H0 H p v → pg p ρ Q →
 (∀ ρ' σ' H', Q ρ' → Rel K A ρ' σ' H' → RelF fx R H0 ρ' σ' H' → Q' σ' H') → g v σ H Q'
def LGs (K : PySem.W.Frag) (fs : List Nat) (g : TGs) (pg : PTGs) : Prop := ∀ (fx : List (Nat × V)) (A R : Addr → Prop) (H0 : Hp) (ρ : PSt) (σ : St) (H : Hp) (ds : List D) (vs : List V) (Q : PSt → Prop) (Q' : St → Hp → Prop), fx.map Prod.fst = fs → RelF fx R H0 ρ σ H → Rel K A ρ σ H → FVs K (OO A ρ σ) H vs ds → pg ds ρ Q →
 (∀ ρ' σ', Q ρ' → Rel K A ρ' σ' H → RelF fx R H0 ρ' σ' H → (∀ b, Wr ρ' σ' b → Wr ρ σ b) → Q' σ' H) → g vs σ H Q'
def LGd (K : PySem.W.Frag) (fs : List Nat) (g : TG) (pg : PTG) : Prop := ∀ (fx : List (Nat × V)) (A R : Addr → Prop) (H0 : Hp) (ρ : PSt) (σ : St) (H : Hp) (d : D) (v : V) (Q : PSt → Prop) (Q' : St → Hp → Prop), fx.map Prod.fst = fs → RelF fx R H0 ρ σ H → Rel K A ρ σ H → FV K (OO A ρ σ) H v d → pg (.dat d) ρ Q →
 (∀ ρ' σ', Q ρ' → Rel K A ρ' σ' H → RelF fx R H0 ρ' σ' H → (∀ b, Wr ρ' σ' b → Wr ρ σ b) → Q' σ' H) → g v σ H Q'
def pgName (i : Nat) : PTG := fun p ρ Q => Q (ρ.set i (some p))
def pgNil : PTGs := fun ds ρ Q => match ds with | [] => Q ρ | _ => False
def pgCons (g : PTG) (gs : PTGs) : PTGs := fun ds ρ Q => match ds with | d :: r => g (.dat d) ρ fun ρ1 => gs r ρ1 Q | [] => False
section
variable {K : PySem.W.Frag} {fs : List Nat}
theorem RelF.put {fx : List (Nat × V)} {R : Addr → Prop} {H0 H : Hp} {ρ : PSt} {σ : St} {i : Nat} {p : PV} {v : V} (hf : fx.map Prod.fst = fs) (hi : fs.contains i = false) (F : RelF fx R H0 ρ σ H) (ow : ∀ b, Wr (ρ.set i (some p)) (σ.set i (some v)) b → Wr ρ σ b ∨ H0 b = none) : RelF fx R H0 (ρ.set i (some p)) (σ.set i (some v)) H :=
 ⟨F.kp, F.dm, fun b w => (ow b w).elim (F.ow b) .inr, fun q hq => by
  have : q.1 ≠ i := fun z => by
   have h1 : i ∈ fs := by rw [← hf, ← z]; exact List.mem_map_of_mem hq
   rw [List.contains_iff_mem.mpr h1] at hi; cases hi
  rw [List.getElem?_set_ne (fun z => this z.symm)]; exact F.fx q hq⟩
theorem lg_name {i : Nat} (hi : fs.contains i = false) : LG K fs (gName i) (pgName i) := fun fx A R H0 ρ σ H p v Q Q' hf F o q k => k _ _ _ q o.put.1 (F.put hf hi o.put.2)
theorem lgs_nil : LGs K fs gNil pgNil := fun fx A R H0 ρ σ H ds vs Q Q' hf F r fv q k => by
 unfold pgNil at q
 split at q
 ·cases fv; exact ⟨rfl, k _ _ q r F fun _ h => h⟩
 ·exact q.elim
theorem lgd_name {i : Nat} (hi : fs.contains i = false) : LGd K fs (gName i) (pgName i) := fun fx A R H0 ρ σ H d v Q Q' hf F r fv q k => by
 have o : Out K A ρ σ H0 H (.dat d) v := ⟨r, fv⟩
 have ow : ∀ b, Wr (ρ.set i (some (.dat d))) (σ.set i (some v)) b → Wr ρ σ b := fun b ⟨j, p, e1, o1, s1⟩ => by
  by_cases z : i = j
  ·subst z
   by_cases hl : i < ρ.length
   ·rw [List.getElem?_set_self hl] at e1; cases e1; cases o1
   ·rw [List.getElem?_eq_none (by rw [List.length_set]; omega)] at e1; cases e1
  ·rw [List.getElem?_set_ne z] at e1 s1; exact ⟨j, p, e1, o1, s1⟩
 exact k _ _ q o.put.1 (F.put hf hi o.put.2) ow
theorem lgs_cons {g : TG} {pg : PTG} {gs : TGs} {pgs : PTGs} (hg : LGd K fs g pg) (h : LGs K fs gs pgs) : LGs K fs (gCons g gs) (pgCons pg pgs) := fun fx A R H0 ρ σ H ds vs Q Q' hf F r fv q k => by
 unfold pgCons at q
 split at q
 ·cases fv with
  | cons a b =>
   exact ⟨_, _, rfl, hg fx A R H0 ρ σ H _ _ _ _ hf F r a q fun ρ1 σ1 q1 r1 F1 w1 => h fx A R H0 ρ1 σ1 H _ _ _ _ hf F1 r1 (b.keeps (Keeps.less fun b z => z.imp id (w1 b))) q1 fun ρ2 σ2 q2 r2 F2 w2 => k ρ2 σ2 q2 r2 F2 fun b z => w1 b (w2 b z)⟩
 ·exact q.elim
end
def LS (K : PySem.W.Frag) (fs : List Nat) (ts : TS) (ps : PTS) : Prop := ∀ (fx : List (Nat × V)) (A R : Addr → Prop) (H0 : Hp) (ρ : PSt) (σ : St) (H : Hp) (D : PEnds) (D' : Ends), fx.map Prod.fst = fs → Rel K A ρ σ H → RelF fx R H0 ρ σ H → ps D ρ →
 (∀ ρ' σ' H', D.nx ρ' → Rel K A ρ' σ' H' → RelF fx R H0 ρ' σ' H' → D'.nx σ' H') →
 (∀ v p ρ' σ' H', D.rt p ρ' → Out K A ρ' σ' H0 H' p v → RelF fx R H0 ρ' σ' H' → D'.rt v H') →
 (∀ ρ' σ' H', D.bk ρ' → Rel K A ρ' σ' H' → RelF fx R H0 ρ' σ' H' → D'.bk σ' H') →
 (∀ ρ' σ' H', D.ct ρ' → Rel K A ρ' σ' H' → RelF fx R H0 ρ' σ' H' → D'.ct σ' H') → ts D' σ H
def psNext : PTS := fun D ρ => D.nx ρ
def psSeq (a b : PTS) : PTS := fun D ρ => a { D with nx := b D } ρ
def psDrop (pe : PTE) : PTS := fun D ρ => pe ρ fun _ ρ1 => D.nx ρ1
def psRet (pe : PTE) : PTS := fun D ρ => pe ρ D.rt
def psIf (t : PTT) (a b : PTS) : PTS := fun D ρ => t ρ fun c ρ1 => PIte c (a D ρ1) (b D ρ1)
def psAsg (pe : PTE) (g : PTG) : PTS := fun D ρ => pe ρ fun p ρ1 => g p ρ1 D.nx
def psJoin (a : PTS) : PTS := fun D ρ => ∃ J : PSt → Prop, a { D with nx := J } ρ ∧ ∀ ρ', J ρ' → D.nx ρ'
section
variable {K : PySem.W.Frag} {fs : List Nat} {ta tb : TS} {pa pb : PTS} {te : TE} {pe : PTE} {tt : TT} {pt : PTT}
theorem ls_next : LS K fs tNext psNext := fun fx A R H0 ρ σ H D D' hf r F q k1 k2 k3 k4 => k1 _ _ _ q r F
theorem ls_seq (ha : LS K fs ta pa) (hb : LS K fs tb pb) : LS K fs (tSeq ta tb) (psSeq pa pb) := fun fx A R H0 ρ σ H D D' hf r F q k1 k2 k3 k4 =>
 ha fx A R H0 ρ σ H _ _ hf r F q (fun ρ1 σ1 H1 q1 r1 F1 => hb fx A R H0 ρ1 σ1 H1 _ _ hf r1 F1 q1 k1 k2 k3 k4) k2 k3 k4
theorem ls_drop (h : LE K te pe) : LS K fs (tDrop te) (psDrop pe) := fun fx A R H0 ρ σ H D D' hf r F q k1 k2 k3 k4 => h A ρ σ H _ _ r q fun v H1 p ρ1 q1 f1 o1 => k1 _ _ _ q1 o1.frz.1 (F.fr f1)
theorem ls_ret (h : LE K te pe) : LS K fs (tRet te) (psRet pe) := fun fx A R H0 ρ σ H D D' hf r F q k1 k2 k3 k4 => h A ρ σ H _ _ r q fun v H1 p ρ1 q1 f1 o1 => k2 v p ρ1 σ H1 q1 (o1.h0 F.dm) (F.fr f1)
theorem ls_if (ht : LT K tt pt) (ha : LS K fs ta pa) (hb : LS K fs tb pb) : LS K fs (tIfS tt ta tb) (psIf pt pa pb) := fun fx A R H0 ρ σ H D D' hf r F q k1 k2 k3 k4 => ht A ρ σ H _ _ r q fun c H1 ρ1 q1 f1 r1 => by
 cases c with
 | true => exact ha fx A R H0 ρ1 σ H1 D D' hf r1 (F.fr f1) q1 k1 k2 k3 k4
 | false => exact hb fx A R H0 ρ1 σ H1 D D' hf r1 (F.fr f1) q1 k1 k2 k3 k4
theorem ls_asg {g : TG} {pg : PTG} (h : LE K te pe) (hg : LG K fs g pg) : LS K fs (tAsg te g) (psAsg pe pg) := fun fx A R H0 ρ σ H D D' hf r F q k1 k2 k3 k4 => h A ρ σ H _ _ r q fun v H1 p ρ1 q1 f1 o1 =>
 hg fx A R H0 ρ1 σ H1 p v _ _ hf (F.fr f1) (o1.h0 F.dm) q1 k1
theorem ls_join (h : LS K fs ta pa) : LS K fs (tJoin ta) (psJoin pa) := fun fx A R H0 ρ σ H D D' hf r F q k1 k2 k3 k4 => by
 obtain ⟨J, q1, q2⟩ := q
 refine ⟨fun σ' H' => ∃ ρ', J ρ' ∧ Rel K A ρ' σ' H' ∧ RelF fx R H0 ρ' σ' H', ?_, fun σ' H' ⟨ρ', j, r', F'⟩ => k1 ρ' σ' H' (q2 ρ' j) r' F'⟩
 exact h fx A R H0 ρ σ H _ _ hf r F q1 (fun ρ' σ' H' j r' F' => ⟨ρ', j, r', F'⟩) k2 k3 k4
end
end L2
namespace L2
open PySem PySem.Spec PyProof.Rows
def iAny (K : PySem.W.Frag) (tl : TE) : TI := fun σ H R => tl σ H fun x H1 => (∃ k a xs, x = .ref a ∧ Sq k K H1 a xs ∧ R (Itk k K a) H1) ∨ ∃ l, x = .str (S l) ∧ R (Its (signs1 l)) H1
section
variable {X : Cx} {tg : Expr}
theorem pi_any0 {l : Expr} {tl : TE} (hl : PE X l tl) : PI X tg l (iAny X.K tl) := by
 intro pins s σ H R I h
 refine thn (hl pins s σ H _ I h) fun v s1 ⟨x, H1, I1, r1, q1⟩ => ?_
 have fin : ∀ b ∈ [s1.heap.objs.size], FpOk X pins H1 b := fun b hb => by
  have e : b = s1.heap.objs.size := by simpa using hb
  subst e
  exact I1.fpOk (Nat.le_refl _) (I1.hok.fresh (Nat.le_refl _))
 rcases q1 with ⟨k, a, xs, e, hq, q⟩ | ⟨l, e, q⟩
 ·subst e
  cases r1
  cases k with
  | false =>
   obtain ⟨its, rv, p, hz⟩ := I1.list hq
   refine wpAny_pyIter_list p.isList ?_
   exact ⟨s1.heap.objs.size, [s1.heap.objs.size], _, _, H1, rfl, I1.kept (t' := s1.toks) fun b o e => Heap.get?_push_of_some _ e, turn_list a _, ⟨_, Heap.get?_push_size _ rfl, rfl, rfl⟩, fin, q⟩
  | true =>
   obtain ⟨its, rv, p, hz⟩ := I1.tuple hq
   refine wpAny_pyIter_tuple (show s1.heap.IsTuple a its.toArray from p) ?_
   exact ⟨s1.heap.objs.size, [s1.heap.objs.size], _, _, H1, rfl, I1.kept (t' := s1.toks) fun b o e => Heap.get?_push_of_some _ e, turn_tuple a _, ⟨_, Heap.get?_push_size _ rfl, rfl, rfl⟩, fin, q⟩
 ·subst e
  obtain ⟨t, rfl⟩ := r1
  have hv : ∀ i v, i < (S l).cps.size → SignAt (S l) i v → ∃ x, (signs1 l)[i]? = some x ∧ RelV x v := fun i v _ ⟨c, u, hc, e⟩ => by
   subst e
   have hc' : l[i]? = some c := by simpa [S] using hc
   exact ⟨.str (S [c]), by unfold signs1; rw [List.getElem?_map, hc']; rfl, u, rfl⟩
  have hsc : ∀ i v, SignAt (S l) i v → ∀ a, v ≠ .ref a := fun i v ⟨c, u, hc, e⟩ a z => by subst e; cases z
  have hn : (signs1 l).length = (S l).cps.size := by rw [signs1_len]; simp [S]
  have hobj : ∀ ty i (h : Heap), h.IsStrIter s1.heap.objs.size ty (S l) t i → ∃ o, h.get? s1.heap.objs.size = some o ∧ ∀ v, o.data ≠ .cell v := fun ty i h ⟨o, ho, _, hd⟩ => ⟨o, ho, fun v z => by rw [hd] at z; cases z⟩
  have hfr : ∀ ty i (h h' : Heap), h.IsStrIter s1.heap.objs.size ty (S l) t i → (∀ b ∈ [s1.heap.objs.size], ∀ o, h.get? b = some o → h'.get? b = some o) → h'.IsStrIter s1.heap.objs.size ty (S l) t i := fun ty i h h' ⟨o, ho, r⟩ k => ⟨o, k _ (by simp) o ho, r⟩
  cases ha : (S l).cps.all (· < 128)
  ·refine wpAny_pyIter_wide ha ⟨s1.heap.objs.size, [s1.heap.objs.size], _, Its (signs1 l), H1, rfl, I1.kept (t' := s1.toks) fun b o e => Heap.get?_push_of_some _ e,
    turn_walk (fun A hA => Walks.strWide hA _ (S l) t) hn hv hsc (hobj _) (hfr _) (fun A i s Q E st q => wpAny_pyIter_striter_wide st q), ⟨_, Heap.get?_push_size _ rfl, rfl, rfl⟩, fin, q⟩
  ·refine wpAny_pyIter_ascii ha ⟨s1.heap.objs.size, [s1.heap.objs.size], _, Its (signs1 l), H1, rfl, I1.kept (t' := s1.toks) fun b o e => Heap.get?_push_of_some _ e,
    turn_walk (fun A hA => Walks.strAscii hA _ (S l) t) hn hv hsc (hobj _) (hfr _) (fun A i s Q E st q => wpAny_pyIter_striter_ascii st q), ⟨_, Heap.get?_push_size _ rfl, rfl, rfl⟩, fin, q⟩
theorem pi_any (K : PySem.W.Frag) (e : X.K = K) {l : Expr} {tl : TE} (hl : PE X l tl) : PI X tg l (iAny K tl) := by subst e; exact pi_any0 hl
end
abbrev PTI := PSt → (Nat → (Nat → D) → PSt → Prop) → Prop
def Wlk (K : PySem.W.Frag) (O : Addr → Prop) (H : Hp) (J : It) (n : Nat) (it : Nat → D) : Prop := ∀ (O' : Addr → Prop) (H' : Hp), Keeps O H O' H' → (∀ b, O' b → H' b ≠ none) →
 (∀ k, k < n → J.go k H' ∧ ∀ x H'', J.yld k H' x H'' → Gr H' H'' ∧ FV K O' H'' x (it k)) ∧ J.stop n H'
def LI (K : PySem.W.Frag) (wi : TI) (pi : PTI) : Prop := ∀ (A : Addr → Prop) (ρ : PSt) (σ : St) (H : Hp) (Q : Nat → (Nat → D) → PSt → Prop) (Q' : It → Hp → Prop), Rel K A ρ σ H → pi ρ Q →
 (∀ J H' n it ρ', Q n it ρ' → Fr ρ σ H ρ' H' → Rel K A ρ' σ H' → Wlk K (OO A ρ' σ) H' J n it → Q' J H') → wi σ H Q'
def itD (ds : List D) (k : Nat) : D := ds.getD k .non
theorem itD_get {ds : List D} {k : Nat} (h : k < ds.length) : ds[k]? = some (itD ds k) := by unfold itD; rw [List.getD_eq_getElem?_getD, List.getElem?_eq_getElem h]; rfl
theorem itD_of {ds : List D} {k : Nat} {d : D} (h : ds[k]? = some d) : itD ds k = d := by unfold itD; rw [List.getD_eq_getElem?_getD, h]; rfl
def srcD : D → Option (Nat × (Nat → D))
 | .lst ds => some (ds.length, itD ds)
 | .tup ds => some (ds.length, itD ds)
 | .scr ns => some (ns.length, fun k => .int (ns.getD k 0))
 | .str l => some (l.length, fun k => .str [l.getD k 0])
 | _ => none
def piAny (pe : PTE) : PTI := fun ρ Q => pe ρ fun p ρ1 => match srcD p.d with
 | some (n, it) => Q n it ρ1
 | none => False
section
variable {K : PySem.W.Frag} {te : TE} {pe : PTE} {ta : TA} {pa : PTA}
theorem FV.row {O : Addr → Prop} {H : Hp} {v : V} {d : D} {n : Nat} {it : Nat → D} (h : FV K O H v d) (e : srcD d = some (n, it)) :
  (∃ k a xs, v = .ref a ∧ xs.length = n ∧ (∀ O' H', Keeps O H O' H' → Sq k K H' a xs ∧ ∀ j x, xs[j]? = some x → FV K O' H' x (it j))) ∨ ∃ l, v = .str (S l) ∧ l.length = n ∧ (∀ k, it k = .str [l.getD k 0]) := by
 cases h with
 | lst nn e0 f =>
  cases e
  refine .inl ⟨false, _, _, rfl, f.length, fun O' H' k => ⟨SqL.of (k _ _ nn e0).2, fun j x hx => ?_⟩⟩
  obtain ⟨d, hd, fd⟩ := f.get hx
  rw [itD_of hd]; exact fd.keeps k
 | tup nn e0 f =>
  cases e
  refine .inl ⟨true, _, _, rfl, f.length, fun O' H' k => ⟨SqT.of (k _ _ nn e0).2, fun j x hx => ?_⟩⟩
  obtain ⟨d, hd, fd⟩ := f.get hx
  rw [itD_of hd]; exact fd.keeps k
 | scr s =>
  cases e
  refine .inl ⟨false, _, _, rfl, List.length_map _, fun O' H' k => ⟨(s.keeps k).sq, fun j x hx => ?_⟩⟩
  obtain ⟨z, hz, rfl⟩ := ints_get hx
  show FV K O' H' (V.int z) (D.int (List.getD _ j 0))
  rw [List.getD_eq_getElem?_getD, hz]; exact .int z
 | str l hl => cases e; exact .inr ⟨l, rfl, rfl, fun _ => rfl⟩
 | non => cases e
 | bl b => cases e
 | int i => cases e
 | ty n => cases e
 | dic _ _ _ _ => cases e
 | obj _ _ _ _ => cases e
 | exc0 _ _ => cases e
 | exc1 _ _ _ _ _ _ => cases e
theorem li_any (h : LE K te pe) : LI K (iAny K te) (piAny pe) := fun A ρ σ H Q Q' R q k => h A ρ σ H _ _ R q fun v H1 p ρ1 q1 f1 o1 => by
 obtain ⟨R1, fv⟩ := o1.frz
 split at q1
 ·rename_i n it e
  rcases fv.row e with ⟨b, a, xs, rfl, hl, hr⟩ | ⟨l, rfl, hl, hi⟩
  ·refine .inl ⟨b, a, xs, rfl, (hr _ H1 (fun b o n h => ⟨n, h⟩)).1, k _ H1 n it ρ1 q1 f1 R1 fun O' H' kk dom => ?_⟩
   obtain ⟨sq, hx⟩ := hr O' H' kk
   cases b with
   | false =>
    refine ⟨fun j hj => ⟨⟨xs, _, sq, List.getElem?_eq_getElem (by rw [hl]; exact hj)⟩, fun x H'' ⟨e, y⟩ => ?_⟩, ⟨xs, sq, by rw [hl]; exact Nat.le_refl _⟩⟩
    subst e; exact ⟨Gr.refl _, hx j x (y xs sq)⟩
   | true =>
    refine ⟨fun j hj => ⟨⟨xs, _, sq, List.getElem?_eq_getElem (by rw [hl]; exact hj)⟩, fun x H'' ⟨e, y⟩ => ?_⟩, ⟨xs, sq, by rw [hl]; exact Nat.le_refl _⟩⟩
    subst e; exact ⟨Gr.refl _, hx j x (y xs sq)⟩
  ·refine .inr ⟨l, rfl, k _ H1 n it ρ1 q1 f1 R1 fun O' H' kk dom => ?_⟩
   refine ⟨fun j hj => ⟨by show j < (signs1 l).length; rw [signs1_len, hl]; exact hj, fun x H'' ⟨e, y⟩ => ?_⟩, by show (signs1 l).length = n; rw [signs1_len, hl]⟩
   subst e
   obtain ⟨c, hc, rfl⟩ := signs1_get y
   rw [hi, List.getD_eq_getElem?_getD, hc]
   exact ⟨Gr.refl _, .str _ (by show 1 ≤ 1000000; decide)⟩
 ·exact q1.elim
def piR1 (pa : PTA) : PTI := fun ρ Q => pa ρ fun as ρ1 => match as with
 | [.v (.int j)] => (-(2 ^ 60) ≤ j ∧ j < 2 ^ 60) ∧ Q j.toNat (fun k => .int (k : Int)) ρ1
 | _ => False
theorem wlk_r {O : Addr → Prop} {H : Hp} {lo : Int} {n : Nat} {it : Nat → D} (h : ∀ k : Nat, it k = .int (lo + k)) : Wlk K O H (Itr lo n) n it := fun O' H' _ _ =>
 ⟨fun j hj => ⟨hj, fun x H'' ⟨e, y⟩ => by subst e y; rw [h]; exact ⟨Gr.refl _, .int _⟩⟩, Nat.le_refl _⟩
theorem li_r1 (h : LAs K ta pa) : LI K (iRng1 ta) (piR1 pa) := fun A ρ σ H Q Q' R q k => h A ρ σ H _ _ R q fun vs H1 as ρ1 q1 f1 R1 o1 => by
 split at q1
 ·rename_i j
  cases o1 with
  | cons a b =>
   cases b
   cases a
   exact ⟨j, rfl, by omega, by omega, k _ H1 _ _ ρ1 q1.2 f1 R1 (wlk_r fun k => by rw [Int.zero_add])⟩
 ·exact q1.elim
def rowD : D → Option (List D)
 | .lst ds => some ds
 | .tup ds => some ds
 | .scr ns => some (ns.map .int)
 | _ => none
theorem FV.rowD {O : Addr → Prop} {H : Hp} {v : V} {d : D} {ds : List D} (h : FV K O H v d) (e : L2.rowD d = some ds) :
  ∃ k a xs, v = .ref a ∧ xs.length = ds.length ∧ (∀ O' H', Keeps O H O' H' → Sq k K H' a xs ∧ FVs K O' H' xs ds) := by
 cases h with
 | lst nn e0 f => cases e; exact ⟨false, _, _, rfl, f.length, fun O' H' k => ⟨SqL.of (k _ _ nn e0).2, f.keeps k⟩⟩
 | tup nn e0 f => cases e; exact ⟨true, _, _, rfl, f.length, fun O' H' k => ⟨SqT.of (k _ _ nn e0).2, f.keeps k⟩⟩
 | scr s => cases e; exact ⟨false, _, _, rfl, by rw [List.length_map, List.length_map], fun O' H' k => ⟨(s.keeps k).sq, FVs.of_ints _⟩⟩
 | str l hl => cases e
 | non => cases e
 | bl b => cases e
 | int i => cases e
 | ty n => cases e
 | dic _ _ _ _ => cases e
 | obj _ _ _ _ => cases e
 | exc0 _ _ => cases e
 | exc1 _ _ _ _ _ _ => cases e
def piZip (pa : PTA) : PTI := fun ρ Q => pa ρ fun as ρ1 => match as with
 | [.v a, .v b] => (match rowD a, rowD b with
  | some xs, some ys => Q (min xs.length ys.length) (fun k => .tup [itD xs k, itD ys k]) ρ1
  | _, _ => False)
 | _ => False
theorem li_zip (h : LAs K ta pa) : LI K (iZipW K ta) (piZip pa) := fun A ρ σ H Q Q' R q k => h A ρ σ H _ _ R q fun vs H1 as ρ1 q1 f1 R1 o1 => by
 split at q1
 ·rename_i da db
  cases o1 with
  | cons o1 o2 =>
   cases o2 with
   | cons o2 o3 =>
    cases o3
    split at q1
    ·rename_i xs ys ex ey
     obtain ⟨b1, a1, us, rfl, l1, w1⟩ := FV.rowD (show FV K _ H1 _ da from o1) ex
     obtain ⟨b2, a2, ws, rfl, l2, w2⟩ := FV.rowD (show FV K _ H1 _ db from o2) ey
     have t1 := w1 _ H1 (fun b o n h => ⟨n, h⟩)
     have t2 := w2 _ H1 (fun b o n h => ⟨n, h⟩)
     refine ⟨b1, b2, a1, a2, rfl, ⟨us, ws, t1.1, t2.1⟩, k _ H1 _ _ ρ1 q1 f1 R1 fun O' H' kk dom => ?_⟩
     obtain ⟨s1, g1⟩ := w1 O' H' kk
     obtain ⟨s2, g2⟩ := w2 O' H' kk
     refine ⟨fun j hj => ?_, ⟨us, ws, s1, s2, by omega⟩⟩
     have h1 : j < us.length := by omega
     have h2 : j < ws.length := by omega
     refine ⟨⟨us, ws, _, _, s1, s2, List.getElem?_eq_getElem h1, List.getElem?_eq_getElem h2⟩, fun x H'' ⟨T, u, w, hT, e, y1, y2, e2⟩ => ?_⟩
     subst e e2
     obtain ⟨d1, hd1, fd1⟩ := g1.get (y1 us s1)
     obtain ⟨d2, hd2, fd2⟩ := g2.get (y2 ws s2)
     have e1 : itD xs j = d1 := by unfold itD; rw [List.getD_eq_getElem?_getD, hd1]; rfl
     have e2 : itD ys j = d2 := by unfold itD; rw [List.getD_eq_getElem?_getD, hd2]; rfl
     rw [e1, e2]
     have kk2 : Keeps O' H' O' (upd H' T (.tup [u, w])) := fun b o n e => ⟨n, by rw [upd_ne (ne_of_none e hT)]; exact e⟩
     exact ⟨Gr.new hT, .tup (fun z => dom T z hT) upd_same (.cons (fd1.keeps kk2) (.cons (fd2.keeps kk2) .nil))⟩
    ·exact q1.elim
 ·exact q1.elim
end
def psFor (pi : PTI) (g : PTG) (pb : PTS) : PTS := fun D ρ => pi ρ fun n it ρ1 => ∃ I : Nat → PSt → Prop, I 0 ρ1 ∧ (∀ k ρ d, k < n → d = it k → I k ρ → g (.dat d) ρ fun ρ2 => pb { D with nx := I (k + 1), ct := I (k + 1), bk := D.nx } ρ2) ∧ ∀ ρ, I n ρ → D.nx ρ
section
variable {K : PySem.W.Frag} {fs : List Nat} {wi : TI} {pi : PTI} {g : TG} {pg : PTG} {tb : TS} {pb : PTS} {tt : TT} {pt : PTT}
theorem ls_for (hi : LI K wi pi) (hg : LGd K fs g pg) (hb : LS K fs tb pb) : LS K fs (tFor wi g tb) (psFor pi pg pb) := fun fx A R H0 ρ σ H D D' hf r F q k1 k2 k3 k4 => hi A ρ σ H _ _ r q fun J H1 n it ρ1 q1 f1 r1 W => by
 obtain ⟨I, i0, turn, after⟩ := q1
 have F1 := F.fr f1
 refine ⟨fun i m σ' H' => i + m = n ∧ ∃ ρ', I i ρ' ∧ Rel K A ρ' σ' H' ∧ RelF fx (Wr ρ1 σ) H1 ρ' σ' H', ⟨n, Nat.zero_add n, ρ1, i0, r1, RelF.start F1.fx⟩, fun i m σ' H' ⟨him, ρ', iv, r', F'⟩ => ?_⟩
 obtain ⟨go, stop⟩ := W _ H' F'.keeps r'.dom2
 by_cases hk : i < n
 ·obtain ⟨g1, g2⟩ := go i hk
  refine .inr ⟨g1, fun σ'' H'' => ∃ ρ'', I (i + 1) ρ'' ∧ Rel K A ρ'' σ'' H'' ∧ RelF fx (Wr ρ1 σ) H1 ρ'' σ'' H'', fun σ'' H'' z => ⟨m - 1, by omega, by omega, z⟩, fun x H'' y => ?_⟩
  obtain ⟨gr, fv⟩ := g2 x H'' y
  refine hg fx A (Wr ρ1 σ) H1 ρ' σ' H'' _ x _ _ hf (F'.fr gr.fr) (r'.gr gr) fv (turn i ρ' _ hk rfl iv) fun ρ2 σ2 q2 r2 F2 _ => ?_
  refine hb fx A (Wr ρ1 σ) H1 ρ2 σ2 H'' _ _ hf r2 F2 q2 (fun ρ3 σ3 H3 q3 r3 F3 => ⟨ρ3, q3, r3, F3⟩) (fun v p ρ3 σ3 H3 q3 o3 F3 => k2 v p ρ3 σ3 H3 q3 (o3.h0 F1.dm) (F1.trans F3 F3.fx)) (fun ρ3 σ3 H3 q3 r3 F3 => k1 ρ3 σ3 H3 q3 r3 (F1.trans F3 F3.fx)) (fun ρ3 σ3 H3 q3 r3 F3 => ⟨ρ3, q3, r3, F3⟩)
 ·have e : i = n := by omega
  subst e
  exact .inl ⟨stop, k1 ρ' σ' H' (after ρ' iv) r' (F1.trans F' F'.fx)⟩
end
end L2
namespace L2
open PySem PySem.Spec PyProof.Rows
def sub0P (ix : List (Option Nat)) (ρ : PSt) : PSt := ix.map fun o => match o with
 | none => none
 | some j => match ρ[j]? with
  | some v => v
  | none => none
def back : List (Option Nat) → PSt → PSt → PSt
 | some j :: ix, ρ, t :: τ => back ix (ρ.set j t) τ
 | none :: ix, ρ, _ :: τ => back ix ρ τ
 | _, ρ, _ => ρ
def ixOk : List (Option Nat) → Bool
 | [] => true
 | none :: r => ixOk r
 | some j :: r => !r.contains (some j) && ixOk r
theorem back_len : ∀ (ix : List (Option Nat)) (ρ τ : PSt), (back ix ρ τ).length = ρ.length
 | [], ρ, τ => by unfold back; rfl
 | some j :: ix, ρ, t :: τ => by show (back ix (ρ.set j t) τ).length = _; rw [back_len ix, List.length_set]
 | none :: ix, ρ, t :: τ => by show (back ix ρ τ).length = _; exact back_len ix ρ τ
 | some j :: ix, ρ, [] => by unfold back; rfl
 | none :: ix, ρ, [] => by unfold back; rfl
theorem back_out : ∀ (ix : List (Option Nat)) (ρ τ : PSt) (j : Nat), some j ∉ ix → (back ix ρ τ)[j]? = ρ[j]?
 | [], ρ, τ, j, _ => by unfold back; rfl
 | some i :: ix, ρ, t :: τ, j, h => by
  show (back ix (ρ.set i t) τ)[j]? = _
  rw [back_out ix _ τ j (fun z => h (List.mem_cons_of_mem _ z)), List.getElem?_set_ne (fun z => h (by rw [z]; exact List.mem_cons_self ..))]
 | none :: ix, ρ, t :: τ, j, h => by show (back ix ρ τ)[j]? = _; exact back_out ix ρ τ j fun z => h (List.mem_cons_of_mem _ z)
 | some i :: ix, ρ, [], j, _ => by unfold back; rfl
 | none :: ix, ρ, [], j, _ => by unfold back; rfl
theorem back_in : ∀ (ix : List (Option Nat)) (ρ τ : PSt) (j k : Nat), ixOk ix = true → ix[k]? = some (some j) → k < τ.length → j < ρ.length → (back ix ρ τ)[j]? = τ[k]?
 | some i :: ix, ρ, t :: τ, j, k, h, e, hk, hj => by
  have h : (!ix.contains (some i) && ixOk ix) = true := h
  rw [Bool.and_eq_true] at h
  show (back ix (ρ.set i t) τ)[j]? = _
  cases k with
  | zero =>
   have e : some (some i) = some (some j) := e
   cases e
   have hn : some i ∉ ix := fun z => by
    have := h.1
    rw [List.contains_iff_mem.mpr z] at this; cases this
   rw [back_out ix _ τ i hn, List.getElem?_set_self hj]; rfl
  | succ k =>
   have e : ix[k]? = some (some j) := by simpa using e
   rw [back_in ix _ τ j k h.2 e (by simpa using hk) (by rw [List.length_set]; exact hj)]; simp
 | none :: ix, ρ, t :: τ, j, k, h, e, hk, hj => by
  show (back ix ρ τ)[j]? = _
  cases k with
  | zero => cases e
  | succ k =>
   have e : ix[k]? = some (some j) := by simpa using e
   rw [back_in ix _ τ j k h e (by simpa using hk) hj]; simp
 | [], ρ, τ, j, k, h, e, hk, hj => by simp at e
 | some i :: ix, ρ, [], j, k, h, e, hk, hj => absurd hk (Nat.not_lt_zero _)
 | none :: ix, ρ, [], j, k, h, e, hk, hj => absurd hk (Nat.not_lt_zero _)
theorem ixOk_inj : ∀ {ix : List (Option Nat)} {k l j : Nat}, ixOk ix = true → ix[k]? = some (some j) → ix[l]? = some (some j) → k = l
 | some i :: ix, k, l, j, h, e1, e2 => by
  have h : (!ix.contains (some i) && ixOk ix) = true := h
  rw [Bool.and_eq_true] at h
  have no : ∀ m, ix[m]? ≠ some (some i) := fun m z => by
   have := h.1
   rw [List.contains_iff_mem.mpr (List.mem_of_getElem? z)] at this; cases this
  cases k with
  | zero =>
   have e1 : some (some i) = some (some j) := e1
   cases e1
   cases l with
   | zero => rfl
   | succ l => exact absurd (by simpa using e2) (no l)
  | succ k =>
   cases l with
   | zero =>
    have e2 : some (some i) = some (some j) := e2
    cases e2
    exact absurd (by simpa using e1) (no k)
   | succ l => rw [ixOk_inj (k := k) (l := l) h.2 (by simpa using e1) (by simpa using e2)]
 | none :: ix, k, l, j, h, e1, e2 => by
  cases k with
  | zero => cases e1
  | succ k =>
   cases l with
   | zero => cases e2
   | succ l => rw [ixOk_inj (ix := ix) (k := k) (l := l) (j := j) h (by simpa using e1) (by simpa using e2)]
 | [], k, l, j, h, e1, e2 => by simp at e1
theorem sub0P_get {ix : List (Option Nat)} {ρ : PSt} {k : Nat} {p : PV} (h : (sub0P ix ρ)[k]? = some (some p)) : ∃ j, ix[k]? = some (some j) ∧ ρ[j]? = some (some p) := by
 unfold sub0P at h
 rw [List.getElem?_map] at h
 cases e : ix[k]? with
 | none => rw [e] at h; cases h
 | some o =>
  rw [e] at h
  cases o with
  | none => cases h
  | some j =>
   refine ⟨j, rfl, ?_⟩
   have h : some (match ρ[j]? with | some v => v | none => none) = some (some p) := h
   cases e2 : ρ[j]? with
   | none => rw [e2] at h; cases h
   | some v => rw [e2] at h; exact h
theorem sub0_get {ix : List (Option Nat)} {σ : St} {k j : Nat} {v : V} (h : ix[k]? = some (some j)) (e : σ[j]? = some (some v)) : (sub0 ix σ)[k]? = some (some v) := by
 unfold sub0
 rw [List.getElem?_map, h]
 show some (match σ[j]? with | some v => v | none => none) = some (some v)
 rw [e]
theorem Rel.amb {K : PySem.W.Frag} {A : Addr → Prop} {ρ : PSt} {σ : St} {H : Hp} {a : Addr} {o : HO} (R : Rel K A ρ σ H) (ha : A a) : Rel K A ρ σ (upd H a o) := by
 have k : Keeps (OO A ρ σ) H (OO A ρ σ) (upd H a o) := fun b u n e => ⟨n, by rw [upd_ne (fun z => n (by rw [z]; exact .inl ha))]; exact e⟩
 refine ⟨R.len, fun i q e => ?_, R.dj, fun b z => ?_, R.sep⟩
 ·obtain ⟨v, s, r⟩ := R.get i q e
  refine ⟨v, s, r.keeps k fun ow b eb => ?_⟩
  rw [upd_ne]
  intro z
  subst z eb
  exact R.sep b ha ⟨i, q, e, ow, s⟩
 ·by_cases z' : b = a
  ·rw [z', upd_same]; exact nofun
  ·rw [upd_ne z']; exact R.dom b z
def capOk (ix : List (Option Nat)) (ρ : PSt) : Bool := ix.all fun o => match o with | none => true | some j => (match ρ[j]? with | some (some _) => true | _ => false)
structure CompG (ix : List (Option Nat)) (ρ1 : PSt) (n : Nat) (it : Nat → D) (g : PTG) (pt : PTT) (pe : PTE) (Q : PKt) : Prop where
 ex : ∃ I : Nat → List D → PSt → Prop, I 0 [] (sub0P ix ρ1) ∧
  (∀ k ys τ d, k < n → d = it k → I k ys τ → g (.dat d) τ fun τ2 => pt τ2 fun ok τ3 => PIte ok (pe τ3 fun p τ4 => I (k + 1) (ys ++ [p.d]) τ4) (I (k + 1) ys τ3)) ∧ ∀ ys τ, I n ys τ → Q (.own ys) (back ix ρ1 τ)
def pComp (ix : List (Option Nat)) (pi : PTI) (g : PTG) (pt : PTT) (pe : PTE) : PTE := fun ρ Q => pi ρ fun n it ρ1 => capOk ix ρ1 = true ∧ n ≤ 1000000 ∧ CompG ix ρ1 n it g pt pe Q
def pYes : PTT := fun ρ Q => Q true ρ
theorem lt_yes {K : PySem.W.Frag} : LT K tYes pYes := fun A ρ σ H Q Q' R q k => k true H ρ q (Fr.refl _ _ _) R
def capt (ix : List (Option Nat)) : List Nat := (List.range ix.length).filter fun k => (ix.getD k none).isSome
theorem le_comp {K : PySem.W.Frag} {ix : List (Option Nat)} {wi : TI} {pi : PTI} {g : TG} {pg : PTG} {tts : TT} {pt : PTT} {te : TE} {pe : PTE} (hix : ixOk ix = true) (hi : LI K wi pi) (hg : ∀ fs : List Nat, (∀ k ∈ fs, k ∈ capt ix) → LGd K fs g pg) (ht : LT K tts pt) (he : LE K te pe) :
  LE K (tComp ix wi g tts te) (pComp ix pi pg pt pe) := fun A ρ σ H Q Q' R q k => hi A ρ σ H _ _ R q fun J H1 n it ρ1 q1 f1 R1 W D hD => by
 obtain ⟨hcap, hn, ⟨I, i0, turn, after⟩⟩ := q1
 let τρ0 := sub0P ix ρ1
 let τσ0 := sub0 ix σ
 let Ai : Addr → Prop := fun b => A b ∨ b = D ∨ (Wr ρ1 σ b ∧ ¬ Wr τρ0 τσ0 b)
 let H0' := upd H1 D (.lst [])
 have wsub : ∀ b, Wr τρ0 τσ0 b → Wr ρ1 σ b := fun b ⟨m, p, e, o, s⟩ => by
  obtain ⟨j, h1, h2⟩ := sub0P_get e
  obtain ⟨v, hv, _⟩ := R1.get j p h2
  have := sub0_get h1 hv
  rw [s] at this
  cases this
  exact ⟨j, p, h2, o, hv⟩
 have nD : ¬ Wr ρ1 σ D := fun z => R1.wr z hD
 have oosub : ∀ b, OO Ai τρ0 τσ0 b → OO A ρ1 σ b ∨ b = D := fun b z => by
  rcases z with (z | z | z) | z
  ·exact .inl (.inl z)
  ·exact .inr z
  ·exact .inl (.inr z.1)
  ·exact .inl (.inr (wsub b z))
 have kD : Keeps (OO A ρ1 σ) H1 (OO Ai τρ0 τσ0) H0' := fun b o nn e => by
  refine ⟨fun z => ?_, ?_⟩
  ·rcases oosub b z with z | z
   ·exact nn z
   ·rw [z, hD] at e; cases e
  ·rw [show H0' b = H1 b from upd_ne (ne_of_none e hD)]; exact e
 have Ri : Rel K Ai τρ0 τσ0 H0' := by
  refine ⟨by show (sub0P ix ρ1).length = (sub0 ix σ).length; unfold sub0P sub0; rw [List.length_map, List.length_map], fun m p e => ?_, fun m l p q v e1 e2 o1 o2 s1 s2 => ?_, fun b z => ?_, fun b z w => ?_⟩
  ·obtain ⟨j, h1, h2⟩ := sub0P_get e
   obtain ⟨v, hv, r⟩ := R1.get j p h2
   refine ⟨v, sub0_get h1 hv, r.keeps kD fun ow a ea => ?_⟩
   subst ea
   exact upd_ne (fun z => nD (by rw [← z]; exact ⟨j, p, h2, ow, hv⟩))
  ·obtain ⟨j, h1, h2⟩ := sub0P_get e1
   obtain ⟨j', h3, h4⟩ := sub0P_get e2
   obtain ⟨v1, hv1, _⟩ := R1.get j p h2
   obtain ⟨v2, hv2, _⟩ := R1.get j' q h4
   have t1 := sub0_get h1 hv1
   have t2 := sub0_get h3 hv2
   rw [s1] at t1
   rw [s2] at t2
   cases t1
   cases t2
   have := R1.dj j j' p q _ h2 h4 o1 o2 hv1 hv2
   subst this
   exact ixOk_inj hix h1 h3
  ·rcases z with z | z | z
   ·intro e
    by_cases zz : b = D
    ·exact R1.dom b z (by rw [zz]; exact hD)
    ·rw [show H0' b = H1 b from upd_ne zz] at e; exact R1.dom b z e
   ·rw [z]; show upd H1 D _ D ≠ none; rw [upd_same]; exact nofun
   ·intro e
    rw [show H0' b = H1 b from upd_ne (fun zz => nD (by rw [← zz]; exact z.1))] at e; exact R1.wr z.1 e
  ·rcases z with z | z | z
   ·exact R1.sep b z (wsub b w)
   ·rw [z] at w; exact nD (wsub D w)
   ·exact z.2 w
 let fxi : List (Nat × V) := (capt ix).filterMap fun m => match (τσ0[m]?) with | some (some v) => some (m, v) | _ => none
 have hfx : ∀ p ∈ fxi, τσ0[p.1]? = some (some p.2) := fun p hp => by
  obtain ⟨m, hm, e⟩ := List.mem_filterMap.mp hp
  split at e
  ·rename_i v ev; cases e; exact ev
  ·cases e
 have hfs : ∀ m ∈ fxi.map Prod.fst, m ∈ capt ix := fun m hm => by
  obtain ⟨p, hp, rfl⟩ := List.mem_map.mp hm
  obtain ⟨m', hm', e⟩ := List.mem_filterMap.mp hp
  split at e
  ·cases e; exact hm'
  ·cases e
 have hgi := hg (fxi.map Prod.fst) hfs
 have fxget : ∀ (m j : Nat) (v : V), ix[m]? = some (some j) → σ[j]? = some (some v) → (m, v) ∈ fxi := fun m j v h1 h2 => by
  refine List.mem_filterMap.mpr ⟨m, ?_, ?_⟩
  ·unfold capt
   refine List.mem_filter.mpr ⟨List.mem_range.mpr (List.getElem?_eq_some_iff.mp h1).1, ?_⟩
   rw [List.getD_eq_getElem?_getD, h1]; rfl
  ·show (match (sub0 ix σ)[m]? with | some (some v) => some (m, v) | _ => none) = _
   rw [sub0_get h1 h2]
 let Rr : Addr → Prop := fun b => Wr τρ0 τσ0 b ∨ b = D
 have hRr : ∀ b, Rr b → OO Ai τρ0 τσ0 b := fun b z => z.elim (fun z => .inr z) (fun z => .inl (.inr (.inl z)))
 have F0 : RelF fxi Rr H0' τρ0 τσ0 H0' := ⟨fun _ _ _ h => h, fun _ h => h, fun b w => .inl (.inl w), hfx⟩
 refine ⟨fun i m τ H2 => i + m = n ∧ ∃ ys τρ xs, I i ys τρ ∧ ys.length ≤ i ∧ Rel K Ai τρ τ H2 ∧ RelF fxi Rr H0' τρ τ H2 ∧ H2 D = some (.lst xs) ∧ FVs K (OO Ai τρ τ) H2 xs ys ∧ ∀ b, Wr τρ τ b → Wr τρ0 τσ0 b,
  ⟨n, Nat.zero_add n, [], τρ0, [], i0, Nat.le_refl _, Ri, F0, upd_same, .nil, fun _ h => h⟩, fun i m τ H2 ⟨him, ys, τρ, xs, iv, hy, r2, F2, eD, fD, hw⟩ => ?_⟩
 have kk : Keeps (OO A ρ1 σ) H1 (OO Ai τρ τ) H2 := fun b o nn e => (F2.keepsR hRr) b o (kD b o nn e).1 (kD b o nn e).2
 obtain ⟨go, stop⟩ := W _ H2 kk r2.dom2
 by_cases hk : i < n
 ·obtain ⟨g1, g2⟩ := go i hk
  refine .inr ⟨g1, fun x H3 y => ?_⟩
  obtain ⟨gr, fv⟩ := g2 x H3 y
  have AiD : Ai D := .inr (.inl rfl)
  refine hgi fxi Ai Rr H0' τρ τ H3 _ x _ _ rfl (F2.fr gr.fr) (r2.gr gr) fv (turn i ys τρ _ hk rfl iv) fun τρ2 τ2 q2 r3 F3 w3 => ?_
  refine ht Ai τρ2 τ2 H3 _ _ r3 q2 fun ok H5 τρ3 q3 f5 r5 => ?_
  have F5 := F3.fr f5
  have fD5 : FVs K (OO Ai τρ3 τ2) H5 xs ys := ((fD.keeps (gr.fr (ρ := τρ) (σ := τ)).keeps).keeps (Keeps.less fun b z => z.imp id (w3 b))).keeps f5.keeps
  have eD5 : H5 D = some (.lst xs) := f5.kp D _ (r3.sep D AiD) (gr D _ eD)
  cases ok with
  | true =>
   refine he Ai τρ3 τ2 H5 _ _ r5 q3 fun v H6 p τρ4 q4 f6 o6 => ?_
   obtain ⟨r6, fv6⟩ := o6.frz
   have F6 := F5.fr f6
   have eD6 : H6 D = some (.lst xs) := f6.kp D _ (r5.sep D AiD) eD5
   have kw : Keeps (OO Ai τρ4 τ2) H6 (OO Ai τρ4 τ2) (upd H6 D (.lst (xs ++ [v]))) := fun b o nn e => ⟨nn, by rw [upd_ne (fun z => nn (by rw [z]; exact .inl AiD))]; exact e⟩
   refine ⟨xs, eD6, ?_, m - 1, by omega, by omega, ys ++ [p.d], τρ4, xs ++ [v], q4, by rw [List.length_append]; show _ + 1 ≤ _; omega, r6.amb AiD, ⟨fun b o nn e => ?_, fun b z => ?_, F6.ow, F6.fx⟩, upd_same, ((fD5.keeps f6.keeps).append (.cons fv6 .nil)).keeps kw, fun b z => hw b (w3 b (f5.ow b (f6.ow b z)))⟩
   ·have : xs.length = ys.length := fD.length
    exact Nat.lt_of_lt_of_le (by omega : xs.length < 1000000) (sz _ (Nat.le_refl _))
   ·rw [upd_ne (fun z => nn (.inr z))]; exact F6.kp b o nn e
   ·by_cases zz : b = D
    ·rw [zz, upd_same]; exact nofun
    ·rw [upd_ne zz]; exact F6.dm b z
  | false => exact ⟨m - 1, by omega, by omega, ys, τρ3, xs, q3, by omega, r5, F5, eD5, fD5, fun b z => hw b (w3 b (f5.ow b z))⟩
 ·have e : i = n := by omega
  subst e
  refine .inl ⟨stop, ?_⟩
  have q' := after ys τρ iv
  have cap : ∀ (m j : Nat), ix[m]? = some (some j) → ∃ p v, ρ1[j]? = some (some p) ∧ σ[j]? = some (some v) ∧ τ[m]? = some (some v) := fun m j e => by
   have h1 := List.all_eq_true.mp hcap _ (List.mem_of_getElem? e)
   have h1 : (match ρ1[j]? with | some (some _) => true | _ => false) = true := h1
   split at h1
   ·rename_i p ep
    obtain ⟨v, hv, _⟩ := R1.get j p ep
    exact ⟨p, v, ep, hv, F2.fx _ (fxget m j v e hv)⟩
   ·cases h1
  have get' : ∀ (j : Nat) (p : PV), (back ix ρ1 τρ)[j]? = some (some p) → (∃ m v, ix[m]? = some (some j) ∧ σ[j]? = some (some v) ∧ τ[m]? = some (some v) ∧ τρ[m]? = some (some p)) ∨ (some j ∉ ix ∧ ρ1[j]? = some (some p)) := fun j p e => by
   by_cases hj : some j ∈ ix
   ·obtain ⟨m, hm, em⟩ := List.getElem_of_mem hj
    have em' : ix[m]? = some (some j) := by rw [List.getElem?_eq_getElem hm, em]
    obtain ⟨p0, v, h1, h2, h3⟩ := cap m j em'
    rw [back_in ix ρ1 τρ j m hix em' (by rw [r2.len]; exact (List.getElem?_eq_some_iff.mp h3).1) (List.getElem?_eq_some_iff.mp h1).1] at e
    exact .inl ⟨m, v, em', h2, h3, e⟩
   ·rw [back_out ix ρ1 τρ j hj] at e
    exact .inr ⟨hj, e⟩
  have nocap : ∀ (j : Nat) (p : PV) (b : Addr), some j ∉ ix → ρ1[j]? = some (some p) → p.isOwn = true → σ[j]? = some (some (.ref b)) → ¬ Wr τρ0 τσ0 b := fun j p b hj e o s ⟨m, q, e1, o1, s1⟩ => by
   obtain ⟨j', h1, h2⟩ := sub0P_get e1
   obtain ⟨v, hv, _⟩ := R1.get j' q h2
   have := sub0_get h1 hv
   rw [s1] at this
   cases this
   have := R1.dj j j' p q _ e h2 o o1 s hv
   subst this
   exact hj (List.mem_of_getElem? h1)
  have w' : ∀ b, Wr (back ix ρ1 τρ) σ b → Wr τρ τ b ∨ (Wr ρ1 σ b ∧ ¬ Wr τρ0 τσ0 b) := fun b ⟨j, p, e, o, s⟩ => by
   rcases get' j p e with ⟨m, v, h1, h2, h3, h4⟩ | ⟨hj, h1⟩
   ·rw [s] at h2; cases h2; exact .inl ⟨m, p, h4, o, h3⟩
   ·exact .inr ⟨⟨j, p, h1, o, s⟩, nocap j p b hj h1 o s⟩
  have oo' : ∀ b, OO (plus A D) (back ix ρ1 τρ) σ b → OO Ai τρ τ b := fun b z => by
   rcases z with (z | z) | z
   ·exact .inl (.inl z)
   ·exact .inl (.inr (.inl z))
   ·rcases w' b z with z | z
    ·exact .inr z
    ·exact .inl (.inr (.inr z))
  have kp1 : ∀ b o, ¬ Wr τρ0 τσ0 b → b ≠ D → H1 b = some o → H2 b = some o := fun b o n1 n2 e => F2.kp b o (fun z => z.elim n1 n2) (by rw [show H0' b = H1 b from upd_ne n2]; exact e)
  have k1 : Keeps (OO A ρ1 σ) H1 (OO (plus A D) (back ix ρ1 τρ) σ) H2 := fun b o nn e => ⟨fun z => (kk b o nn e).1 (oo' b z), (kk b o nn e).2⟩
  have AiD : Ai D := .inr (.inl rfl)
  have R' : Rel K (plus A D) (back ix ρ1 τρ) σ H2 := by
   refine ⟨by rw [back_len]; exact R1.len, fun j p e => ?_, fun j l p q v e1 e2 o1 o2 s1 s2 => ?_, fun b z => ?_, fun b z w => ?_⟩
   ·rcases get' j p e with ⟨m, v, h1, h2, h3, h4⟩ | ⟨hj, h1⟩
    ·obtain ⟨v', hv', r⟩ := r2.get m p h4
     rw [h3] at hv'; cases hv'
     exact ⟨v, h2, r.keeps (Keeps.less oo') fun _ _ _ => rfl⟩
    ·obtain ⟨v, hv, r⟩ := R1.get j p h1
     refine ⟨v, hv, r.keeps k1 fun ow a ea => ?_⟩
     subst ea
     obtain ⟨a', u, e1, e2⟩ := r.ref ow
     cases e1
     rw [e2]
     exact kp1 a u (nocap j p a hj h1 ow hv) (fun z => by rw [z, hD] at e2; cases e2) e2
   ·rcases get' j p e1 with ⟨m, v1, h1, h2, h3, h4⟩ | ⟨hj, h1⟩
    ·rw [s1] at h2; cases h2
     rcases get' l q e2 with ⟨m', v2, g1, g2, g3, g4⟩ | ⟨hl, g1⟩
     ·rw [s2] at g2; cases g2
      have := r2.dj m m' p q _ h4 g4 o1 o2 h3 g3
      subst this
      rw [h1] at g1; cases g1; rfl
     ·exfalso
      obtain ⟨v', hv', r⟩ := r2.get m p h4
      rw [h3] at hv'; cases hv'
      obtain ⟨a, u, ea, _⟩ := r.ref o1
      subst ea
      exact nocap l q a hl g1 o2 s2 (hw a ⟨m, p, h4, o1, h3⟩)
    ·rcases get' l q e2 with ⟨m', v2, g1, g2, g3, g4⟩ | ⟨hl, g1⟩
     ·rw [s2] at g2; cases g2
      exfalso
      obtain ⟨v', hv', r⟩ := r2.get m' q g4
      rw [g3] at hv'; cases hv'
      obtain ⟨a, u, ea, _⟩ := r.ref o2
      subst ea
      exact nocap j p a hj h1 o1 s1 (hw a ⟨m', q, g4, o2, g3⟩)
     ·exact R1.dj j l p q v h1 g1 o1 o2 s1 s2
   ·rcases z with z | z
    ·exact r2.dom b (.inl z)
    ·rw [z, eD]; exact nofun
   ·rcases w' b w with w | w
    ·rcases z with z | z
     ·exact r2.sep b (.inl z) w
     ·rw [z] at w; exact r2.sep D AiD w
    ·rcases z with z | z
     ·exact R1.sep b z w.1
     ·rw [z] at w; exact nD w.1
  have f2 : Fr ρ1 σ H1 (back ix ρ1 τρ) H2 := by
   refine ⟨fun b o nn e => kp1 b o (fun z => nn (wsub b z)) (fun z => by rw [z, hD] at e; cases e) e, fun b z => F2.dm b ?_, fun b z => ?_⟩
   ·intro e
    by_cases zz : b = D
    ·exact z (by rw [zz]; exact hD)
    ·rw [show H0' b = H1 b from upd_ne zz] at e; exact z e
   ·rcases w' b z with z | z
    ·exact wsub b (hw b z)
    ·exact z.1
  have hD0 : H D = none := by
   cases e : H D with
   | none => rfl
   | some o => exact absurd hD (f1.dm D (by rw [e]; exact nofun))
  exact k _ H2 (.own ys) _ q' (f1.trans f2) ⟨D, xs, rfl, fun z => R1.dom D z hD, hD0, eD, R', fD.keeps (Keeps.less oo')⟩
end L2
namespace L2
open PySem PySem.Spec PyProof.Rows
section
variable {K : PySem.W.Frag} {A A' : Addr → Prop} {ρ : PSt} {σ : St} {H H' : Hp}
theorem Rel.step (R : Rel K A ρ σ H) {i : Nat} {p q : PV} {a : Addr} (e : ρ[i]? = some (some p)) (ow : p.isOwn = true) (ow' : q.isOwn = true) (es : σ[i]? = some (some (.ref a)))
  (kp : ∀ b o, b ≠ a → H b = some o → H' b = some o) (ha : H' a ≠ none) (h1 : ∀ b, A b → A' b) (h2 : ∀ b, A' b → A b ∨ H b = none) (dom' : ∀ b, A' b → H' b ≠ none)
  (new : RS K (OO A' ρ σ) H' q (.ref a)) : Rel K A' (ρ.set i (some q)) σ H' ∧ Fr ρ σ H (ρ.set i (some q)) H' := by
 have hi : i < ρ.length := (List.getElem?_eq_some_iff.mp e).1
 have wa : Wr ρ σ a := ⟨i, p, e, ow, es⟩
 have weq : ∀ b, Wr (ρ.set i (some q)) σ b ↔ Wr ρ σ b := fun b => by
  constructor
  ·rintro ⟨j, r, e1, o1, s1⟩
   by_cases z : i = j
   ·subst z; exact ⟨i, p, e, ow, s1⟩
   ·rw [List.getElem?_set_ne z] at e1; exact ⟨j, r, e1, o1, s1⟩
  ·rintro ⟨j, r, e1, o1, s1⟩
   by_cases z : i = j
   ·subst z; exact ⟨i, q, List.getElem?_set_self hi, ow', s1⟩
   ·exact ⟨j, r, by rw [List.getElem?_set_ne z]; exact e1, o1, s1⟩
 have oeq : OO A' (ρ.set i (some q)) σ = OO A' ρ σ := funext fun b => propext (or_congr Iff.rfl (weq b))
 have kp1 : ∀ b u, ¬ Wr ρ σ b → H b = some u → H' b = some u := fun b u n h => kp b u (fun z => n (by rw [z]; exact wa)) h
 have k : Keeps (OO A ρ σ) H (OO A' ρ σ) H' := fun b u n h => by
  refine ⟨fun z => ?_, kp1 b u (fun z => n (.inr z)) h⟩
  rcases z with z | z
  ·rcases h2 b z with z | z
   ·exact n (.inl z)
   ·rw [z] at h; cases h
  ·exact n (.inr z)
 have dm : ∀ b, H b ≠ none → H' b ≠ none := fun b n => by
  by_cases z : b = a
  ·rw [z]; exact ha
  ·cases eb : H b with
   | none => exact absurd eb n
   | some o => rw [kp b o z eb]; exact nofun
 refine ⟨⟨by rw [List.length_set]; exact R.len, fun j r e1 => ?_, fun j l p1 q1 v e1 e2 o1 o2 s1 s2 => ?_, dom', fun b z w => ?_⟩, ⟨kp1, dm, fun b w => (weq b).mp w⟩⟩
 ·rw [oeq]
  by_cases z : i = j
  ·subst z
   rw [List.getElem?_set_self hi] at e1
   cases e1
   exact ⟨_, es, new⟩
  ·rw [List.getElem?_set_ne z] at e1
   obtain ⟨v, s, rr⟩ := R.get j r e1
   refine ⟨v, s, rr.keeps k fun ow2 b eb => ?_⟩
   obtain ⟨b', u, e3, e4⟩ := rr.ref ow2
   rw [eb] at e3; cases e3
   rw [e4]
   refine kp b u (fun zz => ?_) e4
   subst zz
   rw [eb] at s
   exact z (R.dj i j p r _ e e1 ow ow2 es s)
 ·have ex : ∀ (m : Nat) (x : PV), (ρ.set i (some q))[m]? = some (some x) → x.isOwn = true → ∃ y : PV, ρ[m]? = some (some y) ∧ y.isOwn = true := fun m x em ox => by
   by_cases z : i = m
   ·subst z; exact ⟨p, e, ow⟩
   ·rw [List.getElem?_set_ne z] at em; exact ⟨x, em, ox⟩
  obtain ⟨y1, g1, g2⟩ := ex j p1 e1 o1
  obtain ⟨y2, g3, g4⟩ := ex l q1 e2 o2
  exact R.dj j l y1 y2 v g1 g3 g2 g4 s1 s2
 ·rcases h2 b z with z | z
  ·exact R.sep b z ((weq b).mp w)
  ·exact R.wr ((weq b).mp w) z
theorem Rel.lstw (R : Rel K A ρ σ H) {i : Nat} {ds es : List D} {a : Addr} {ys : List V} (e : ρ[i]? = some (some (.own ds))) (es' : σ[i]? = some (some (.ref a))) (f : FVs K (OO A ρ σ) H ys es) :
  Rel K A (ρ.set i (some (.own es))) σ (upd H a (.lst ys)) ∧ Fr ρ σ H (ρ.set i (some (.own es))) (upd H a (.lst ys)) := by
 have wa : OO A ρ σ a := .inr ⟨i, _, e, rfl, es'⟩
 exact R.write (q := .own es) e rfl rfl es' ⟨a, ys, rfl, upd_same, f.keeps fun b u n h => ⟨n, by rw [upd_ne (fun z => n (by rw [z]; exact wa))]; exact h⟩⟩
theorem Rel.ownAt (R : Rel K A ρ σ H) {i : Nat} {ds : List D} (e : ρ[i]? = some (some (.own ds))) : ∃ a xs, σ[i]? = some (some (.ref a)) ∧ H a = some (.lst xs) ∧ FVs K (OO A ρ σ) H xs ds := by
 obtain ⟨v, s, a, xs, rfl, g, f⟩ := R.get i _ e
 exact ⟨a, xs, s, g, f⟩
end
def pApp (i : Nat) (pe : PTE) : PTE := fun ρ Q => match ρ[i]? with
 | some (some (.own _)) => pe ρ fun p ρ1 => (match ρ1[i]? with
  | some (some (.own ds)) => ds.length < 1000000 ∧ Q (.dat .non) (ρ1.set i (some (.own (ds ++ [p.d]))))
  | _ => False)
 | _ => False
def psSetI (i : Nat) (pe pk : PTE) : PTS := fun D ρ => pe ρ fun p ρ1 => (match ρ1[i]? with
 | some (some (.own _)) => pk ρ1 fun kp ρ2 => (match ρ2[i]?, kp with
  | some (some (.own ds)), .dat (.int k) => ∃ j, ixN ds.length k = some j ∧ D.nx (ρ2.set i (some (.own (ds.set j p.d))))
  | _, _ => False)
 | _ => False)
section
variable {K : PySem.W.Frag} {te tk : TE} {pe pk : PTE} {fs : List Nat}
theorem le_app {i : Nat} (h : LE K te pe) : LE K (tBM K "list" rAppend (tVar i) (tCons te tNil)) (pApp i pe) := fun A ρ σ H Q Q' R q k => by
 unfold pApp at q
 split at q
 ·rename_i ds0 e0
  obtain ⟨a0, xs0, s0, g0, f0⟩ := R.ownAt e0
  refine ⟨_, s0, .inl ⟨rfl, xs0, SqL.of g0⟩, h A ρ σ H _ _ R q fun v H1 p ρ1 q1 f1 o1 => ?_⟩
  obtain ⟨R1, fv⟩ := o1.frz
  split at q1
  ·rename_i ds e1
   obtain ⟨a, xs, s, g, f⟩ := R1.ownAt e1
   rw [s0] at s; cases s
   obtain ⟨R2, f2⟩ := R1.lstw e1 s0 (f.append (.cons fv .nil))
   exact ⟨a0, xs, v, rfl, rfl, g, Nat.lt_of_lt_of_le (by rw [f.length]; exact q1.1) (sz _ (Nat.le_refl _)), k _ _ _ _ q1.2 (f1.trans f2) ⟨R2, .non⟩⟩
  ·exact q1.elim
 ·exact q.elim
theorem ls_setI {i : Nat} (h : LE K te pe) (hk : LE K tk pk) : LS K fs (tAsg te (gSub (tVar i) tk rSetL)) (psSetI i pe pk) := fun fx A R H0 ρ σ H D D' hf r F q k1 k2 k3 k4 => h A ρ σ H _ _ r q fun v H1 p ρ1 q1 f1 o1 => by
 obtain ⟨R1, fv⟩ := o1.frz
 split at q1
 ·rename_i ds0 e0
  obtain ⟨a0, xs0, s0, g0, f0⟩ := R1.ownAt e0
  refine ⟨_, s0, hk A ρ1 σ H1 _ _ R1 q1 fun w H2 kp ρ2 q2 f2 o2 => ?_⟩
  split at q2
  ·rename_i ds j e2
   obtain ⟨n, hn, q2⟩ := q2
   obtain ⟨R2, fw⟩ := o2
   cases fw
   obtain ⟨a, xs, s, g, f⟩ := R2.ownAt e2
   rw [s0] at s; cases s
   obtain ⟨R3, f3⟩ := R2.lstw e2 s0 (FVs.set (fv.keeps f2.keeps) n f)
   exact ⟨a0, xs, j, n, rfl, rfl, g, by rw [f.length]; exact hn, k1 _ _ _ q2 R3 (((F.fr f1).fr f2).fr f3)⟩
  ·exact q2.elim
 ·exact q1.elim
end
def spP (K : PySem.W.Frag) (c : FN) : Sp := fun vs H Q _ => ∃ (O : Addr → Prop) (ds : List D) (Qc : PV → Prop), (∀ b, O b → H b ≠ none) ∧ FVs K O H vs ds ∧ c ds Qc ∧ ∀ r, Qc r → ∀ v H', Gr H H' → OutV K O H H' r v → Q v H'
def pCallP (c : FN) (pr : PTA) : PTE := fun ρ Q => pr ρ fun as ρ1 => match avD as with
 | some ds => c ds fun r => Q r ρ1
 | none => False
theorem start_get {N : List Str} {vs : List V} {i : Nat} {v : V} (h : vs[i]? = some v) : (start N vs)[i]? = some (some v) := by
 unfold start
 rw [List.getElem?_append_left (by rw [List.length_map]; exact (List.getElem?_eq_some_iff.mp h).1), List.getElem?_map, h]; rfl
def begin_ (n : Nat) (ps : List PV) : PSt := ps.map some ++ List.replicate (n - ps.length) none
theorem begin_get {n : Nat} {ps : List PV} {i : Nat} {p : PV} (h : (begin_ n ps)[i]? = some (some p)) : ps[i]? = some p := by
 unfold begin_ at h
 by_cases hi : i < ps.length
 ·rw [List.getElem?_append_left (by rw [List.length_map]; exact hi), List.getElem?_map] at h
  cases e : ps[i]? with
  | none => rw [e] at h; cases h
  | some q => rw [e] at h; cases h; rfl
 ·rw [List.getElem?_append_right (by rw [List.length_map]; omega)] at h
  have := List.mem_of_getElem? h
  rw [List.mem_replicate] at this
  cases this.2
section
variable {K : PySem.W.Frag} {tr : TA} {pr : PTA} {ts : TS} {ps : PTS}
theorem le_callP {c : FN} (h : LAs K tr pr) : LE K (tCall (spP K c) [] E0 tr) (pCallP c pr) := fun A ρ σ H Q Q' R q k => h A ρ σ H _ _ R q fun vs H1 as ρ1 q1 f1 R1 o1 => by
 split at q1
 ·rename_i ds e
  rw [List.append_nil]
  exact ⟨OO A ρ1 σ, ds, _, R1.dom2, o1.avD e, q1, fun r qr v H' g ov => k v H' r ρ1 qr (f1.trans g.fr) ((ov.out R1 g).h0 f1.dm)⟩
 ·exact q1.elim
theorem Out.outV {O : Addr → Prop} {ρ : PSt} {σ : St} {H H' : Hp} {p : PV} {v : V} (h : Out K O ρ σ H H' p v) : OutV K O H H' p v := by
 cases p with
 | dat d => exact h.2.keeps (Keeps.less fun b z => .inl z)
 | own ds =>
  obtain ⟨a, xs, e1, na, e2, e3, R, f⟩ := h
  exact ⟨a, xs, e1, e2, e3, f.keeps (Keeps.less fun b z => .inl z)⟩
 | ins c ns ds =>
  obtain ⟨a, dx, fs, e1, na, e2, e3, m, R, f⟩ := h
  exact ⟨a, dx, fs, e1, e2, e3, m, f.keeps (Keeps.less fun b z => .inl z)⟩
theorem fnP {c : FN} {N : List Str} (hl : LS K [] ts ps) (hn : ∀ ds Q, c ds Q → ds.length ≤ N.length) (hc : ∀ ds Q, c ds Q → ps { nx := fun _ => Q (.dat .non), rt := fun p _ => Q p } (begin_ N.length (ds.map .dat)))
  {vs : List V} {H : Hp} {Q : VK} {E : XK} (h : spP K c vs H Q E) : ts { nx := fun _ H' => Q .non H', rt := Q } (start N vs) H := by
 obtain ⟨O, ds, Qc, dom, fv, hq, k⟩ := h
 have nw : ∀ (ρ : PSt) (b : Addr), ρ = begin_ N.length (ds.map .dat) → ¬ Wr ρ (start N vs) b := fun ρ b e ⟨i, p, e1, o1, s1⟩ => by
  rw [e] at e1
  have := begin_get e1
  rw [List.getElem?_map] at this
  cases e2 : ds[i]? with
  | none => rw [e2] at this; cases this
  | some d => rw [e2] at this; cases this; cases o1
 have lenv := fv.length
 have hle := hn ds Qc hq
 have R0 : Rel K O (begin_ N.length (ds.map .dat)) (start N vs) H := by
  refine ⟨?_, fun i p e => ?_, fun i j p q v e1 e2 o1 o2 s1 s2 => ?_, dom, fun b _ w => nw _ b rfl w⟩
  ·unfold begin_ start
   rw [List.length_append, List.length_append, List.length_map, List.length_map, List.length_map, List.length_replicate, List.length_replicate, lenv]
  ·have := begin_get e
   rw [List.getElem?_map] at this
   cases e2 : ds[i]? with
   | none => rw [e2] at this; cases this
   | some d =>
    rw [e2] at this; cases this
    obtain ⟨v, hv, f⟩ := fv.getD e2
    exact ⟨v, start_get hv, f.keeps (Keeps.less fun b z => z.elim id fun w => absurd w (nw _ b rfl))⟩
  ·have := begin_get e1
   rw [List.getElem?_map] at this
   cases e3 : ds[i]? with
   | none => rw [e3] at this; cases this
   | some d => rw [e3] at this; cases this; cases o1
 refine hl [] O (fun _ => False) H _ _ H _ _ rfl R0 ⟨fun _ _ _ h => h, fun _ h => h, fun b w => absurd w (nw _ b rfl), fun p hp => nomatch hp⟩ (hc ds Qc hq) (fun ρ' σ' H' q r F => ?_) (fun v p ρ' σ' H' q o F => ?_) (fun _ _ _ z => z.elim) (fun _ _ _ z => z.elim)
 ·exact k _ q .non H' (fun b o e => F.kp b o id e) .non
 ·exact k _ q v H' (fun b o e => F.kp b o id e) o.outV
abbrev FR := PV → List D → (PV → PV → Prop) → Prop
def spR (K : PySem.W.Frag) (c : FR) : Sp := fun vs H Q _ => ∃ (A : Addr → Prop) (a : Addr) (p : PV) (ws : List V) (ds : List D) (Qc : PV → PV → Prop), vs = .ref a :: ws ∧ p.isOwn = true ∧ (∀ b, A b → H b ≠ none) ∧ ¬ A a ∧ RS K (plus A a) H p (.ref a) ∧ FVs K (plus A a) H ws ds ∧ c p ds Qc ∧
 ∀ r p', Qc r p' → p'.isOwn = true → ∀ v H', (∀ b o, b ≠ a → H b = some o → H' b = some o) → H' a ≠ none → RS K (plus A a) H' p' (.ref a) → OutV K (plus A a) H H' r v → (∀ a', v = .ref a' → r.isOwn = true → RS K (plus (plus A a) a') H' p' (.ref a)) → Q v H'
def pCallR (c : FR) (i : Nat) (pr : PTA) : PTE := fun ρ Q => match ρ[i]? with
 | some (some _) => pr ρ fun as ρ1 => (match ρ1[i]?, avD as with
  | some (some p), some ds => p.isOwn = true ∧ c p ds fun r p' => Q r (ρ1.set i (some p'))
  | _, _ => False)
 | _ => False
theorem le_callR {c : FR} {i : Nat} (h : LAs K tr pr) : LE K (tCall (spR K c) [] E0 (tCons (tVar i) tr)) (pCallR c i pr) := fun A ρ σ H Q Q' R q k => by
 unfold pCallR at q
 split at q
 ·rename_i p0 e0
  obtain ⟨v0, s0, _⟩ := R.get i p0 e0
  refine ⟨v0, s0, h A ρ σ H _ _ R q fun vs H1 as ρ1 q1 f1 R1 o1 => ?_⟩
  split at q1
  ·rename_i p ds e1 ed
   obtain ⟨ow, q1⟩ := q1
   obtain ⟨v1, s1, rs⟩ := R1.get i p e1
   rw [s0] at s1; cases s1
   obtain ⟨a, u, rfl, ea⟩ := rs.ref ow
   rw [List.append_nil]
   have wa : Wr ρ1 σ a := ⟨i, p, e1, ow, s0⟩
   have oeq : plus (fun b => (OO A ρ1 σ b) ∧ b ≠ a) a = OO A ρ1 σ := funext fun b => propext ⟨fun z => z.elim (fun z => z.1) (fun z => by rw [z]; exact .inr wa), fun z => by
    by_cases e : b = a
    ·exact .inr e
    ·exact .inl ⟨z, e⟩⟩
   refine ⟨fun b => (OO A ρ1 σ b) ∧ b ≠ a, a, p, vs, ds, _, rfl, ow, fun b z => R1.dom2 b z.1, fun z => z.2 rfl, by rw [oeq]; exact rs, by rw [oeq]; exact o1.avD ed, q1, fun r p' qr ow' v H' kp ha rs' ov hx => ?_⟩
   rw [oeq] at rs' ov hx
   have domA : ∀ b, A b → H' b ≠ none := fun b z => by
    have : b ≠ a := fun e => R1.sep b z (by rw [e]; exact wa)
    cases eb : H1 b with
    | none => exact absurd eb (R1.dom b z)
    | some o => rw [kp b o this eb]; exact nofun
   cases r with
   | dat d =>
    obtain ⟨R2, f2⟩ := R1.step (A' := A) e1 ow ow' s0 kp ha (fun _ h => h) (fun _ h => .inl h) domA rs'
    exact k v H' _ _ qr (f1.trans f2) ⟨R2, FV.keeps (Keeps.less fun b z => z.imp id (f2.ow b)) ov⟩
   | own es =>
    obtain ⟨a', xs, rfl, n1, e2, f⟩ := ov
    have hx := hx a' rfl rfl
    have na : a' ≠ a := fun e => by rw [e, ea] at n1; cases n1
    have oo2 : ∀ b, OO (plus A a') ρ1 σ b ↔ plus (OO A ρ1 σ) a' b := fun b => ⟨fun z => by
     rcases z with (z | z) | z
     ·exact .inl (.inl z)
     ·exact .inr z
     ·exact .inl (.inr z), fun z => by
     rcases z with (z | z) | z
     ·exact .inl (.inl z)
     ·exact .inr z
     ·exact .inl (.inr z)⟩
    have oo2' : OO (plus A a') ρ1 σ = plus (OO A ρ1 σ) a' := funext fun b => propext (oo2 b)
    obtain ⟨R2, f2⟩ := R1.step (A' := plus A a') e1 ow ow' s0 kp ha (fun _ h => .inl h) (fun b z => z.imp id fun z => by rw [z]; exact n1) (fun b z => z.elim (domA b) fun z => by rw [z, e2]; exact nofun) (by rw [oo2']; exact hx)
    ·refine k _ H' (.own es) _ qr (f1.trans f2) ⟨a', xs, rfl, fun z => R1.dom a' z n1, ?_, e2, R2, f.keeps (Keeps.less fun b z => ?_)⟩
     ·cases eb : H a' with
      | none => rfl
      | some o => exact absurd n1 (f1.dm a' (by rw [eb]; exact nofun))
     ·rw [← oo2']; exact z.imp id (f2.ow b)
   | ins c ns es =>
    obtain ⟨a', dx, fs, rfl, n1, e2, m, f⟩ := ov
    have hx := hx a' rfl rfl
    have oo2' : OO (plus A a') ρ1 σ = plus (OO A ρ1 σ) a' := funext fun b => propext ⟨fun z => by
     rcases z with (z | z) | z
     ·exact .inl (.inl z)
     ·exact .inr z
     ·exact .inl (.inr z), fun z => by
     rcases z with (z | z) | z
     ·exact .inl (.inl z)
     ·exact .inr z
     ·exact .inl (.inr z)⟩
    obtain ⟨R2, f2⟩ := R1.step (A' := plus A a') e1 ow ow' s0 kp ha (fun _ h => .inl h) (fun b z => z.imp id fun z => by rw [z]; exact n1) (fun b z => z.elim (domA b) fun z => by rw [z, e2]; exact nofun) (by rw [oo2']; exact hx)
    ·refine k _ H' (.ins c ns es) _ qr (f1.trans f2) ⟨a', dx, fs, rfl, fun z => R1.dom a' z n1, ?_, e2, m, R2, f.keeps (Keeps.less fun b z => ?_)⟩
     ·cases eb : H a' with
      | none => rfl
      | some o => exact absurd n1 (f1.dm a' (by rw [eb]; exact nofun))
     ·rw [← oo2']; exact z.imp id (f2.ow b)
  ·exact q1.elim
 ·exact q.elim
def endR (Q : PV → PV → Prop) (r : PV) (ρ : PSt) : Prop := match ρ[0]? with
 | some (some p) => p.isOwn = true ∧ Q r p
 | _ => False
theorem fnR {c : FR} {N : List Str} (hl : LS K [0] ts ps) (hn : ∀ p ds Q, c p ds Q → ds.length + 1 ≤ N.length) (hc : ∀ p ds Q, p.isOwn = true → c p ds Q → ps { nx := endR Q (.dat .non), rt := endR Q } (begin_ N.length (p :: ds.map .dat)))
  {vs : List V} {H : Hp} {Q : VK} {E : XK} (h : spR K c vs H Q E) : ts { nx := fun _ H' => Q .non H', rt := Q } (start N vs) H := by
 obtain ⟨A, a, p, ws, ds, Qc, rfl, ow, dom, na, rs, fv, hq, k⟩ := h
 have s0 : (start N (V.ref a :: ws))[0]? = some (some (.ref a)) := start_get rfl
 have b0 : (begin_ N.length (p :: ds.map .dat))[0]? = some (some p) := rfl
 have wr : ∀ b, Wr (begin_ N.length (p :: ds.map .dat)) (start N (.ref a :: ws)) b → b = a := fun b ⟨i, q, e1, o1, s1⟩ => by
  have := begin_get e1
  cases i with
  | zero => rw [s0] at s1; cases s1; rfl
  | succ i =>
   rw [List.getElem?_cons_succ, List.getElem?_map] at this
   cases e2 : ds[i]? with
   | none => rw [e2] at this; cases this
   | some d => rw [e2] at this; cases this; cases o1
 have wa : Wr (begin_ N.length (p :: ds.map .dat)) (start N (.ref a :: ws)) a := ⟨0, p, b0, ow, s0⟩
 have oeq : OO A (begin_ N.length (p :: ds.map .dat)) (start N (.ref a :: ws)) = plus A a := funext fun b => propext ⟨fun z => z.imp id (wr b), fun z => z.imp id fun z => by rw [z]; exact wa⟩
 have lenv := fv.length
 have hle := hn p ds Qc hq
 have R0 : Rel K A (begin_ N.length (p :: ds.map .dat)) (start N (.ref a :: ws)) H := by
  refine ⟨?_, fun i q e => ?_, fun i j q1 q2 v e1 e2 o1 o2 s1 s2 => ?_, dom, fun b z w => ?_⟩
  ·unfold begin_ start
   simp only [List.length_append, List.length_map, List.length_replicate, List.length_cons, lenv]
  ·have := begin_get e
   rw [oeq]
   cases i with
   | zero => cases this; exact ⟨_, s0, rs⟩
   | succ i =>
    rw [List.getElem?_cons_succ, List.getElem?_map] at this
    cases e2 : ds[i]? with
    | none => rw [e2] at this; cases this
    | some d =>
     rw [e2] at this; cases this
     obtain ⟨v, hv, f⟩ := fv.getD e2
     exact ⟨v, start_get (by rw [List.getElem?_cons_succ]; exact hv), f⟩
  ·have own0 : ∀ (i : Nat) (q : PV), (begin_ N.length (p :: ds.map .dat))[i]? = some (some q) → q.isOwn = true → i = 0 := fun i q e o => by
    have := begin_get e
    cases i with
    | zero => rfl
    | succ i =>
     rw [List.getElem?_cons_succ, List.getElem?_map] at this
     cases e2 : ds[i]? with
     | none => rw [e2] at this; cases this
     | some d => rw [e2] at this; cases this; cases o
   rw [own0 i q1 e1 o1, own0 j q2 e2 o2]
  ·rw [wr b w] at z; exact na z
 have fin : ∀ (v : V) (r : PV) (ρ' : PSt) (σ' : St) (H' : Hp), endR Qc r ρ' → Out K A ρ' σ' H H' r v → RelF [(0, .ref a)] (fun b => b = a) H ρ' σ' H' → Q v H' := fun v r ρ' σ' H' q o F => by
  unfold endR at q
  split at q
  ·rename_i p' e'
   obtain ⟨ow', q⟩ := q
   have sa := F.fx (0, .ref a) (List.mem_singleton.mpr rfl)
   have wa' : Wr ρ' σ' a := ⟨0, p', e', ow', sa⟩
   have kpa : ∀ b o, b ≠ a → H b = some o → H' b = some o := fun b o n e => F.kp b o n e
   cases r with
   | dat d =>
    obtain ⟨R1, f1⟩ := o
    obtain ⟨v1, s1, rs1⟩ := R1.get 0 p' e'
    rw [sa] at s1; cases s1
    have less : ∀ b, plus A a b → OO A ρ' σ' b := fun b z => z.imp id fun z => by rw [z]; exact wa'
    exact k _ p' q ow' v H' kpa (R1.wr wa') (rs1.keeps (Keeps.less less) fun _ _ _ => rfl) (f1.keeps (Keeps.less less)) (fun _ _ z => nomatch z)
   | own es =>
    obtain ⟨a', xs, rfl, n1, n2, e3, R1, f1⟩ := o
    obtain ⟨v1, s1, rs1⟩ := R1.get 0 p' e'
    rw [sa] at s1; cases s1
    have less : ∀ b, plus (plus A a) a' b → OO (plus A a') ρ' σ' b := fun b z => by
     rcases z with (z | z) | z
     ·exact .inl (.inl z)
     ·exact .inr (by rw [z]; exact wa')
     ·exact .inl (.inr z)
    exact k _ p' q ow' _ H' kpa (R1.wr wa') (rs1.keeps (Keeps.less fun b z => less b (.inl z)) fun _ _ _ => rfl) ⟨a', xs, rfl, n2, e3, f1.keeps (Keeps.less less)⟩ (fun a'' e _ => by cases e; exact rs1.keeps (Keeps.less less) fun _ _ _ => rfl)
   | ins c ns es =>
    obtain ⟨a', dx, fs, rfl, n1, n2, e3, m, R1, f1⟩ := o
    obtain ⟨v1, s1, rs1⟩ := R1.get 0 p' e'
    rw [sa] at s1; cases s1
    have less : ∀ b, plus (plus A a) a' b → OO (plus A a') ρ' σ' b := fun b z => by
     rcases z with (z | z) | z
     ·exact .inl (.inl z)
     ·exact .inr (by rw [z]; exact wa')
     ·exact .inl (.inr z)
    exact k _ p' q ow' _ H' kpa (R1.wr wa') (rs1.keeps (Keeps.less fun b z => less b (.inl z)) fun _ _ _ => rfl) ⟨a', dx, fs, rfl, n2, e3, m, f1.keeps (Keeps.less less)⟩ (fun a'' e _ => by cases e; exact rs1.keeps (Keeps.less less) fun _ _ _ => rfl)
  ·exact q.elim
 refine hl [(0, .ref a)] A (fun b => b = a) H _ _ H _ _ rfl R0 ⟨fun _ _ _ h => h, fun _ h => h, fun b w => .inl (wr b w), fun q hq => by rw [List.mem_singleton.mp hq]; exact s0⟩ (hc p ds Qc ow hq) (fun ρ' σ' H' q r F => fin .non (.dat .non) ρ' σ' H' q ⟨r, .non⟩ F) (fun v p ρ' σ' H' q o F => fin v p ρ' σ' H' q o F) (fun _ _ _ z => z.elim) (fun _ _ _ z => z.elim)
end
def cLaw : FN := fun as Q => ∃ ns : List Int, as = [.scr ns] ∧ ns.length ≤ 63 ∧ Q (.dat (.bl true))
theorem spLaw_P {K : PySem.W.Frag} {vs : List V} {H : Hp} {Q : VK} {E : XK} (h : spLaw K vs H Q E) : spP K cLaw vs H Q E := by
 obtain ⟨a, ns, rfl, hS, h63, q⟩ := h
 refine ⟨fun _ => False, [.scr ns], fun r => r = .dat (.bl true), nofun, .cons (.scr ?_) .nil, ⟨ns, rfl, h63, rfl⟩, fun r e v H' g o => ?_⟩
 ·rcases hS with h | h
  ·exact .inl ⟨id, h⟩
  ·exact .inr h
 ·subst e
  cases o
  exact q H'
end L2
namespace L2
open PySem PySem.Spec PyProof.Rows
section
variable {K : PySem.W.Frag} {X : Cx}
def rAbs : List V → Hp → VK → Prop := fun xs H Q => ∃ i, xs = [.int i] ∧ Q (.int (if i < 0 then -i else i)) H
def rMin2 : List V → Hp → VK → Prop := fun xs H Q => ∃ i j, xs = [.int i, .int j] ∧ Q (.int (if j < i then j else i)) H
def rMax2 : List V → Hp → VK → Prop := fun xs H Q => ∃ i j, xs = [.int i, .int j] ∧ Q (.int (if j > i then j else i)) H
theorem u_abs : CallR X (.builtin "abs") rAbs := call_abs
theorem u_min2 (hc : X.calm = true) : CallR X (.builtin "min") rMin2 := call_min2 hc
theorem u_max2 (hc : X.calm = true) : CallR X (.builtin "max") rMax2 := call_max2 hc
def fAbs : FN
 | [.int i], Q => Q (.dat (.int (if i < 0 then -i else i)))
 | _, _ => False
def fMin2 : FN
 | [.int i, .int j], Q => Q (.dat (.int (if j < i then j else i)))
 | _, _ => False
def fMax2 : FN
 | [.int i, .int j], Q => Q (.dat (.int (if j > i then j else i)))
 | _, _ => False
theorem lc_abs : LC K rAbs fAbs := by
 intro O H xs as Q Q' dom fs q k
 unfold fAbs at q
 split at q
 ·cases fs with | cons a b => cases b; rw [a.int]; exact ⟨_, rfl, k _ H _ q (Gr.refl _) (.int _)⟩
 ·exact q.elim
theorem lc_min2 : LC K rMin2 fMin2 := by
 intro O H xs as Q Q' dom fs q k
 unfold fMin2 at q
 split at q
 ·cases fs with
  | cons a b => cases b with | cons b c => cases c; rw [a.int, b.int]; exact ⟨_, _, rfl, k _ H _ q (Gr.refl _) (.int _)⟩
 ·exact q.elim
theorem lc_max2 : LC K rMax2 fMax2 := by
 intro O H xs as Q Q' dom fs q k
 unfold fMax2 at q
 split at q
 ·cases fs with
  | cons a b => cases b with | cons b c => cases c; rw [a.int, b.int]; exact ⟨_, _, rfl, k _ H _ q (Gr.refl _) (.int _)⟩
 ·exact q.elim
def rAll (K : PySem.W.Frag) : List V → Hp → VK → Prop := fun xs H Q => ∃ (p : Addr) (bs : List Bool), xs = [.ref p] ∧ SqL K H p (bs.map V.bl) ∧ Q (.bl (bs.all id)) H
def rAny (K : PySem.W.Frag) : List V → Hp → VK → Prop := fun xs H Q => ∃ (p : Addr) (bs : List Bool), xs = [.ref p] ∧ SqL K H p (bs.map V.bl) ∧ Q (.bl (bs.any id)) H
theorem u_all (K : PySem.W.Frag) (e : X.K = K) (hc : X.calm = true) : CallR X (.builtin "all") (rAll K) := by subst e; exact call_all hc
theorem u_any (K : PySem.W.Frag) (e : X.K = K) (hc : X.calm = true) : CallR X (.builtin "any") (rAny K) := by subst e; exact call_any hc
def fAll : FN
 | [.lst ds], Q => ∃ bs : List Bool, ds = bs.map .bl ∧ Q (.dat (.bl (bs.all id)))
 | _, _ => False
def fAny : FN
 | [.lst ds], Q => ∃ bs : List Bool, ds = bs.map .bl ∧ Q (.dat (.bl (bs.any id)))
 | _, _ => False
theorem lc_all : LC K (rAll K) fAll := by
 intro O H xs as Q Q' dom fs q k
 unfold fAll at q
 split at q
 ·obtain ⟨ns, rfl, q⟩ := q
  cases fs with
  | cons a b =>
   cases b
   obtain ⟨p, ys, rfl, e1, f1⟩ := a.lst
   rw [f1.bls] at e1
   exact ⟨p, ns, rfl, SqL.of e1, k _ H _ q (Gr.refl _) (.bl _)⟩
 ·exact q.elim
theorem lc_any : LC K (rAny K) fAny := by
 intro O H xs as Q Q' dom fs q k
 unfold fAny at q
 split at q
 ·obtain ⟨ns, rfl, q⟩ := q
  cases fs with
  | cons a b =>
   cases b
   obtain ⟨p, ys, rfl, e1, f1⟩ := a.lst
   rw [f1.bls] at e1
   exact ⟨p, ns, rfl, SqL.of e1, k _ H _ q (Gr.refl _) (.bl _)⟩
 ·exact q.elim
def rTupU (K : PySem.W.Frag) : List V → Hp → VK → Prop := fun xs H Q => ∃ p ys, xs = [.ref p] ∧ ((SqL K H p ys ∧ ∀ l, H l = none → Q (.ref l) (upd H l (.tup ys))) ∨ (SqT K H p ys ∧ Q (.ref p) H))
theorem u_tuple (K : PySem.W.Frag) (e : X.K = K) : CallR X (.type "tuple") (rTupU K) := by subst e; exact call_tuple_of
theorem u_list (K : PySem.W.Frag) (e : X.K = K) : CallR X (.type "list") (rListOf K) := by subst e; exact call_list_of
def fTuple : FN
 | [.lst ds], Q => Q (.dat (.tup ds))
 | [.tup ds], Q => Q (.dat (.tup ds))
 | [.scr ns], Q => Q (.dat (.tup (ns.map .int)))
 | _, _ => False
def fList : FN
 | [.lst ds], Q => Q (.own ds)
 | [.tup ds], Q => Q (.own ds)
 | [.scr ns], Q => Q (.own (ns.map .int))
 | _, _ => False
theorem lc_tuple : LC K (rTupU K) fTuple := by
 intro O H xs as Q Q' dom fs q k
 unfold fTuple at q
 split at q
 ·cases fs with
  | cons a b =>
   cases b
   obtain ⟨p, ys, rfl, e1, f1⟩ := a.lst
   exact ⟨p, ys, rfl, .inl ⟨SqL.of e1, fun l hl => k _ _ _ q (Gr.new hl) (out_tup dom hl f1)⟩⟩
 ·cases fs with
  | cons a b =>
   cases b
   obtain ⟨p, ys, rfl, n1, e1, f1⟩ := a.tup
   exact ⟨p, ys, rfl, .inr ⟨SqT.of e1, k _ H _ q (Gr.refl _) (.tup n1 e1 f1)⟩⟩
 ·cases fs with
  | cons a b =>
   cases b
   obtain ⟨p, rfl, e1⟩ := a.scr
   exact ⟨p, _, rfl, .inl ⟨e1, fun l hl => k _ _ _ q (Gr.new hl) (out_tup dom hl (FVs.of_ints _))⟩⟩
 ·exact q.elim
theorem lc_list : LC K (rListOf K) fList := by
 intro O H xs as Q Q' dom fs q k
 unfold fList at q
 split at q
 ·cases fs with
  | cons a b =>
   cases b
   obtain ⟨p, ys, rfl, e1, f1⟩ := a.lst
   exact ⟨p, ys, rfl, .inl (SqL.of e1), fun l hl => k _ _ _ q (Gr.new hl) (out_lst hl f1)⟩
 ·cases fs with
  | cons a b =>
   cases b
   obtain ⟨p, ys, rfl, n1, e1, f1⟩ := a.tup
   exact ⟨p, ys, rfl, .inr (SqT.of e1), fun l hl => k _ _ _ q (Gr.new hl) (out_lst hl f1)⟩
 ·cases fs with
  | cons a b =>
   cases b
   obtain ⟨p, rfl, e1⟩ := a.scr
   exact ⟨p, _, rfl, .inl e1, fun l hl => k _ _ _ q (Gr.new hl) (out_lst hl (FVs.of_ints _))⟩
 ·exact q.elim
variable {ta : TE} {pa : PA1} {tr : TA} {pr : PTA} {pe : PTE}
def rngD (i : Int) (n : Nat) : List D := (List.range n).map fun (k : Nat) => D.int (i + (k : Int))
def mkL (tup : Bool) (ds : List D) : PV := match tup with | true => .dat (.tup ds) | false => .own ds
def pRngL (tup : Bool) (pr : PTA) : PTE := fun ρ Q => pr ρ fun as ρ1 => match as with
 | [.v (.int j)] => (0 ≤ j ∧ j ≤ 1000000) ∧ Q (mkL tup (rngD 0 j.toNat)) ρ1
 | _ => False
theorem rngFVs {O : Addr → Prop} {H : Hp} (i : Int) (n : Nat) : FVs K O H (rints i 1 n) (rngD i n) := by
 have e : ∀ l : List Nat, FVs K O H (l.map fun (k : Nat) => V.int (i + k * 1)) (l.map fun (k : Nat) => D.int (i + (k : Int))) := fun l => by
  induction l with
  | nil => exact .nil
  | cons a r ih => exact .cons (by show FV K O H (V.int (i + (a : Int) * 1)) (D.int (i + (a : Int))); rw [show i + (a : Int) * 1 = i + (a : Int) by omega]; exact .int _) ih
 exact e _
theorem rangeSize2 {i j : Int} (h : i ≤ j) : Builtin.Range.rangeSize i j 1 = (((j - i).toNat : Nat) : Int) := by
 unfold Builtin.Range.rangeSize
 rw [if_pos (by decide)]
 simp only [Int.ediv_one]
 split <;> omega
theorem rng_small2 {i j : Int} (h0 : -1000000 ≤ i) (h1 : i ≤ j) (h2 : j ≤ 1000000) : Builtin.Range.small i j 1 = true := by
 unfold Builtin.Range.small
 rw [rangeSize2 h1]
 simp only [Builtin.Range.rangeFitsLong, Bool.and_eq_true, Bool.or_eq_true, decide_eq_true_eq, beq_iff_eq, show (1 : Int) > 0 by decide, if_true]
 omega
def mkO (tup : Bool) : List V → HO := match tup with | true => .tup | false => .lst
theorem out_mk {O : Addr → Prop} {H : Hp} {xs : List V} {ds : List D} {p : Addr} (tup : Bool) (dom : ∀ b, O b → H b ≠ none) (hp : H p = none) (f : FVs K O H xs ds) : OutV K O H (upd H p (mkO tup xs)) (mkL tup ds) (.ref p) := by
 cases tup with
 | true => exact out_tup dom hp f
 | false => exact out_lst hp f
theorem le_rngL1 (tup : Bool) (h : LAs K tr pr) : LE K (tCB (rRng K (mkO tup)) (tCons (fun σ H Q => tr σ H fun vs H1 => ∃ j : Int, vs = [.int j] ∧ ∀ p, H1 p = none → Q (.ref p) (upd H1 p (RngO p 0 j 1))) tNil)) (pRngL tup pr) := fun A ρ σ H Q Q' R q k => h A ρ σ H _ _ R q fun vs H1 as ρ1 q1 f1 R1 o1 => by
 split at q1
 ·rename_i j
  cases o1 with
  | cons a b =>
   cases b
   cases a
   refine ⟨j, rfl, fun p hp => ⟨p, 0, j, 1, j.toNat, rfl, upd_same, rng_small2 (by decide) q1.1.1 q1.1.2, by rw [rangeSize2 q1.1.1, Int.sub_zero], by omega, fun l hl => ?_⟩⟩
   have g : Gr H1 (upd H1 p (RngO p 0 j 1)) := Gr.new hp
   have R2 := R1.gr g
   have g2 : Gr (upd H1 p (RngO p 0 j 1)) (upd (upd H1 p (RngO p 0 j 1)) l (mkO tup (rints 0 1 j.toNat))) := Gr.new hl
   exact k _ _ _ ρ1 q1.2 (f1.trans (g.fr.trans g2.fr)) ((OutV.out R2 g2 (out_mk tup R2.dom2 hl (rngFVs 0 _))).h0 fun b z => (g.fr (ρ := ρ1) (σ := σ)).dm b (f1.dm b z))
 ·exact q1.elim
theorem u_rngL (K : PySem.W.Frag) (e : X.K = K) (hc : X.calm = true) : CallR X (.type "list") (rRng K (mkO false)) := by subst e; exact call_listR hc
abbrev FM := List Nat → List D → (PV → Prop) → Prop
def LM (K : PySem.W.Frag) (r : V → List V → Hp → VK → Prop) (f : FM) : Prop := ∀ (O : Addr → Prop) (H : Hp) (l : List Nat) (xs : List V) (as : List D) (Q : PV → Prop) (Q' : VK), (∀ b, O b → H b ≠ none) → l.length ≤ 1000000 → FVcs K O H xs as → f l as Q →
 (∀ v H' p, Q p → Gr H H' → OutV K O H H' p v → Q' v H') → r (.str (S l)) xs H Q'
def pSM (f : FM) (pe : PTE) (pr : PTA) : PTE := fun ρ Q => pe ρ fun p ρ1 => match p with
 | .dat (.str l) => pr ρ1 fun as ρ2 => (match conts ρ2 as with
  | some ds => f l ds fun r => Q r ρ2
  | none => False)
 | _ => False
theorem le_sm {r : V → List V → Hp → VK → Prop} {f : FM} (o : LM K r f) (he : LE K ta pe) (hr : LAs K tr pr) : LE K (tBM K "str" r ta tr) (pSM f pe pr) := fun A ρ σ H Q Q' R q k => he A ρ σ H _ _ R q fun v H1 p ρ1 q1 f1 o1 => by
 split at q1
 ·rename_i l
  obtain ⟨R1, fv⟩ := o1
  cases fv with
  | str _ hl =>
   refine ⟨rfl, hr A ρ1 σ H1 _ _ R1 q1 fun vs H2 as ρ2 q2 f2 R2 o2 => ?_⟩
   split at q2
   ·rename_i ds e
    exact o _ H2 l vs ds _ _ R2.dom2 hl (R2.conts o2 e) q2 fun z H3 p q3 g ov => k z H3 p ρ2 q3 ((f1.trans f2).trans g.fr) ((ov.out R2 g).h0 fun b z => f2.dm b (f1.dm b z))
   ·exact q2.elim
 ·exact q1.elim
def rFind1 : V → List V → Hp → VK → Prop := fun x xs H Q => ∃ a b, x = .str (S a) ∧ xs = [.str (S b)] ∧ Q (.int (fnd a b 0)) H
theorem um_find1 : MtR X "str.find" rFind1 := mt_find1
def fFind1 : FM
 | a, [.str b], Q => Q (.dat (.int (fnd a b 0)))
 | _, _, _ => False
theorem lm_find1 : LM K rFind1 fFind1 := by
 intro O H l xs as Q Q' dom hl fs q k
 unfold fFind1 at q
 split at q
 ·cases fs with | cons a b => cases b; rw [a.str.1]; exact ⟨_, _, rfl, rfl, k _ H _ q (Gr.refl _) (.int _)⟩
 ·exact q.elim
end
end L2
namespace L2
open PySem PySem.Spec PyProof.Rows
abbrev rSubU : R2 := rI0 fun i j => .int (i - j)
abbrev rModU : R2 := rI (fun _ j => 0 < j) fun i j => .int (i % j)
abbrev rDivU : R2 := rI CDiv fun i j => .int (i / j)
abbrev rGtU : R2 := rI0 fun i j => .bl (decide (j < i))
abbrev rGeU : R2 := rI0 fun i j => .bl (decide (j ≤ i))
abbrev rNegU : V → Hp → VK → Prop := rU fun i => .int (-i)
abbrev fSub : F2 := fI0 fun i j => .int (i - j)
abbrev fMod : F2 := fI (fun _ j => 0 < j) fun i j => .int (i % j)
abbrev fDiv : F2 := fI (fun _ j => 0 < j ∧ j < 1073741824) fun i j => .int (i / j)
abbrev fGt : F2 := fI0 fun i j => .bl (decide (j < i))
abbrev fGe : F2 := fI0 fun i j => .bl (decide (j ≤ i))
def fNeg : D → (PV → Prop) → Prop
 | .int i, Q => Q (.dat (.int (-i)))
 | _, _ => False
section
variable {K : PySem.W.Frag} {X : Cx} {ta : TE} {tr : TA} {pr : PTA} {ts : TS} {ps : PTS}
theorem u_sub : OpR X (binaryOp .Sub) rSubU := op_sub
theorem u_mod : OpR X (binaryOp .Mod) rModU := op_mod
theorem u_fdiv : OpR X (binaryOp .FloorDiv) rDivU := op_fdiv
theorem u_gt : OpR X (compareOp .Gt) rGtU := op_gt
theorem u_ge : OpR X (compareOp .GtE) rGeU := op_ge
theorem lu_neg : LU K rNegU fNeg := by
 intro O H x a Q Q' dom fx q k
 unfold fNeg at q
 split at q
 ·rename_i i; exact ⟨i, fx.int, k _ H _ q (Gr.refl _) (.int _)⟩
 ·exact q.elim
theorem ncap {ix : List (Option Nat)} {fs : List Nat} {i : Nat} (h : ∀ k ∈ fs, k ∈ capt ix) (hi : (capt ix).contains i = false) : fs.contains i = false := by
 cases e : fs.contains i with
 | false => rfl
 | true =>
  have := h i (List.contains_iff_mem.mp e)
  rw [List.contains_iff_mem.mpr this] at hi; cases hi
theorem isT_list_tuple (t : Value) (b c : Bool) (h1 : PySem.W.kitOne K t (.type "list") = some b) (h2 : PySem.W.kitOne K t (.type "tuple") = some c) : PySem.W.kitAny K t [.type "list", .type "tuple"] = some (b || c) := by
 simp only [PySem.W.kitAny, h1, h2]
 cases b <;> cases c <;> rfl
theorem lenP {c : FN} {n : Nat} (hn : ∀ ds Q, c ds Q → ds.length = n) {vs : List V} {H : Hp} {Q : VK} {E : XK} (h : spP K c vs H Q E) : vs.length = n := by
 obtain ⟨O, ds, Qc, _, f, hq, _⟩ := h
 rw [f.length]; exact hn ds Qc hq
theorem lenR {c : FR} {n : Nat} (hn : ∀ p ds Q, c p ds Q → ds.length + 1 = n) {vs : List V} {H : Hp} {Q : VK} {E : XK} (h : spR K c vs H Q E) : vs.length = n := by
 obtain ⟨A, a, p, ws, ds, Qc, rfl, _, _, _, _, f, hq, _⟩ := h
 rw [List.length_cons, f.length]; exact hn p ds Qc hq
abbrev RunP (pp : PTS) (n : Nat) (ds : List D) (Q : PV → Prop) : Prop := pp { nx := fun _ => Q (.dat .non), rt := fun p _ => Q p } (begin_ n (ds.map .dat))
abbrev RunR (pp : PTS) (n : Nat) (p : PV) (ds : List D) (Q : PV → PV → Prop) : Prop := pp { nx := endR Q (.dat .non), rt := endR Q } (begin_ n (p :: ds.map .dat))
end
end L2
namespace L2
theorem Cal.imp {P : PySem.Program} {w : PySem.World} {K : PySem.W.Frag} {mg : PySem.Str → Option PySem.Value} {base : PySem.Heap} {k : Nat} {x : PySem.Str} {ps : List PySem.Str} {sp sp' : Sp} (C : Cal P w K mg base k x ps sp) (h : ∀ vs H Q E, sp' vs H Q E → sp vs H Q E) : Cal P w K mg base k x ps sp' := by
 obtain ⟨f, fd, F, r⟩ := C.ex
 exact ⟨f, fd, F.imp h, r⟩
end L2
namespace L2
open PySem PySem.Spec PyProof.Rows
section
variable {K : PySem.W.Frag} {X : Cx}
end
end L2
namespace L2
open PySem PySem.Spec PyProof.Rows
theorem cfm {ix : List (Option Nat)} {ρ1 : PSt} {n : Nat} {it : Nat → D} {g : PTG} {pt : PTT} {pe : PTE} {Q : PKt} (T : PSt → Prop) (f : Nat → Option D) (h0 : T (sub0P ix ρ1))
  (hs : ∀ k τ d, k < n → d = it k → T τ → ∀ (K1 : D → PSt → Prop) (K2 : PSt → Prop), (∀ d τ', f k = some d → T τ' → K1 d τ') → (∀ τ', f k = none → T τ' → K2 τ') → g (.dat d) τ fun τ2 => pt τ2 fun ok τ3 => PIte ok (pe τ3 fun p τ4 => K1 p.d τ4) (K2 τ3))
  (hq : ∀ τ, T τ → Q (.own ((List.range n).filterMap f)) (back ix ρ1 τ)) :
  CompG ix ρ1 n it g pt pe Q := by
 refine ⟨fun k ys τ => ys = (List.range k).filterMap f ∧ T τ, ⟨rfl, h0⟩, fun k ys τ dd hk ed ⟨e, t⟩ => ?_, fun ys τ ⟨e, t⟩ => by rw [e]; exact hq τ t⟩
 have r : (List.range (k + 1)).filterMap f = (List.range k).filterMap f ++ (f k).toList := by
  rw [List.range_succ, List.filterMap_append]
  cases e : f k with
  | none => rw [show [k].filterMap f = [] by simp [e]]; rfl
  | some d => rw [show [k].filterMap f = [d] by simp [e]]; rfl
 refine hs k τ dd hk ed t (fun d τ' => (ys ++ [d] = (List.range (k + 1)).filterMap f ∧ T τ')) (fun τ' => (ys = (List.range (k + 1)).filterMap f ∧ T τ')) (fun d τ' h t' => ⟨?_, t'⟩) (fun τ' h t' => ⟨?_, t'⟩)
 ·rw [r, e, h]; rfl
 ·rw [r, e, h]; simp
theorem cmap {ix : List (Option Nat)} {ρ1 : PSt} {n : Nat} {it : Nat → D} {g : PTG} {pe : PTE} {Q : PKt} (T : PSt → Prop) (f : Nat → D) (h0 : T (sub0P ix ρ1))
  (hs : ∀ k τ d, k < n → d = it k → T τ → ∀ K1 : D → PSt → Prop, (∀ τ', T τ' → K1 (f k) τ') → g (.dat d) τ fun τ2 => pe τ2 fun p τ4 => K1 p.d τ4)
  (hq : ∀ τ, T τ → Q (.own ((List.range n).map f)) (back ix ρ1 τ)) :
  CompG ix ρ1 n it g pYes pe Q := by
 refine cfm T (fun k => some (f k)) h0 (fun k τ d hk ed t K1 K2 k1 k2 => ?_) fun τ t => ?_
 ·exact hs k τ d hk ed t K1 fun τ' t' => k1 _ τ' rfl t'
 ·have : (List.range n).filterMap (fun k => some (f k)) = (List.range n).map f := by rw [← List.filterMap_eq_map]; rfl
  rw [this]; exact hq τ t
theorem range_itD {β : Type} (f : D → β) (ds : List D) : (List.range ds.length).map (fun k => f (itD ds k)) = ds.map f := by
 apply List.ext_getElem?
 intro i
 rw [List.getElem?_map, List.getElem?_map]
 by_cases h : i < ds.length
 ·rw [List.getElem?_range h, itD_get h]; rfl
 ·rw [List.getElem?_eq_none (by rw [List.length_range]; omega), List.getElem?_eq_none (by omega)]; rfl
def pw (ws : List (List Nat)) (k : Nat) : List Nat := ws.getD k []
theorem pw_get {ws : List (List Nat)} {k : Nat} (h : k < ws.length) : ws[k]? = some (pw ws k) := by unfold pw; rw [List.getD_eq_getElem?_getD, List.getElem?_eq_getElem h]; rfl
theorem pw_mem {ws : List (List Nat)} {k : Nat} (h : k < ws.length) : pw ws k ∈ ws := List.mem_of_getElem? (pw_get h)
theorem itD_str {ws : List (List Nat)} {k : Nat} (h : k < (ws.map D.str).length) : itD (ws.map D.str) k = .str (pw ws k) := itD_of (by rw [List.getElem?_map, pw_get (by rwa [List.length_map] at h)]; rfl)
theorem itD_int {ns : List Int} {k : Nat} (h : k < (ns.map D.int).length) : itD (ns.map D.int) k = .int (ns.getD k 0) := itD_of (by
 have h : k < ns.length := by rwa [List.length_map] at h
 rw [List.getElem?_map, List.getD_eq_getElem?_getD, List.getElem?_eq_getElem h]; rfl)
theorem atI_str {ws : List (List Nat)} {i : Int} {k : Nat} (h : k < ws.length) (e : i = (k : Int)) : atI (ws.map D.str) i = some (.str (pw ws k)) := atI_of (j := k) (by rw [List.getElem?_map, pw_get h]; rfl) e
theorem pw_take {ws : List (List Nat)} {k : Nat} (h : k < ws.length) : ws.take (k + 1) = ws.take k ++ [pw ws k] := by
 rw [List.take_succ, pw_get h]; rfl
def Pc (m : Nat) (w : List Nat) : Prop := 0 < w.length ∧ w.length ≤ m ∧ Lts w
def Pcs (m : Nat) (ws : List (List Nat)) : Prop := ∀ w ∈ ws, Pc m w
theorem Pcs.app {m : Nat} {ws : List (List Nat)} {w : List Nat} (h : Pcs m ws) (h' : Pc m w) : Pcs m (ws ++ [w]) := fun v hv => by
 rcases List.mem_append.mp hv with z | z
 ·exact h v z
 ·rw [List.mem_singleton.mp z]; exact h'
def ltB (c : Nat) : Bool := decide (97 ≤ c) && decide (c ≤ 122)
theorem all_ltB {l : List Nat} : l.all ltB = true ↔ Lts l := by
 rw [List.all_eq_true]
 unfold Lts ltB
 constructor
 ·intro h c hc
  have := h c hc
  rw [Bool.and_eq_true, decide_eq_true_eq, decide_eq_true_eq] at this
  exact this
 ·intro h c hc
  rw [Bool.and_eq_true, decide_eq_true_eq, decide_eq_true_eq]
  exact h c hc
theorem ones_flatten (ls : List Nat) : (ls.map fun c => [c]).flatten = ls := by
 induction ls with
 | nil => rfl
 | cons c r ih => rw [List.map_cons, List.flatten_cons, ih]; rfl
theorem ones_str (ls : List Nat) : ls.map (fun c => D.str [c]) = (ls.map fun c => [c]).map D.str := by rw [List.map_map]; rfl
theorem pys_str : ∀ ws : List (List Nat), D.pys (ws.map .str) = ws.map fun w => PyData.str (S w)
 | [] => rfl
 | w :: r => by rw [List.map_cons, List.map_cons, ← pys_str r]; rfl
theorem plains_str : ∀ ws : List (List Nat), D.plains (ws.map .str) = true
 | [] => rfl
 | w :: r => by rw [List.map_cons]; show (true && D.plains (r.map .str)) = true; rw [plains_str r]; rfl
theorem pys_int : ∀ ns : List Int, D.pys (ns.map .int) = ns.map PyData.int
 | [] => rfl
 | n :: r => by rw [List.map_cons, List.map_cons, ← pys_int r]; rfl
theorem plains_int : ∀ ns : List Int, D.plains (ns.map .int) = true
 | [] => rfl
 | n :: r => by rw [List.map_cons]; show (true && D.plains (r.map .int)) = true; rw [plains_int r]; rfl
def Sh (d : D) : Prop := d.plain = true ∧ SeqAt.shaped d.py = true
theorem EqOk.of {a b : D} (h : Sh a) (h' : Sh b) : EqOk a b := ⟨h.1, h'.1, h.2, h'.2⟩
theorem Sh.lstS {ws : List (List Nat)} (h : ∀ w ∈ ws, Lts w) : Sh (.lst (ws.map .str)) := ⟨plains_str ws, by show SeqAt.shaped (.list (D.pys _)) = true; rw [pys_str]; exact shaped_texts h⟩
theorem Sh.lstI (ns : List Int) : Sh (.lst (ns.map .int)) := ⟨plains_int ns, by show SeqAt.shaped (.list (D.pys _)) = true; rw [pys_int]; exact (Flat.list (flat_ints ns)).shaped (by decide)⟩
theorem deq_self {d : D} (h : Sh d) : deq d d = true := eqv_same h.2
theorem Pcs.lts {m : Nat} {ws : List (List Nat)} (h : Pcs m ws) : ∀ w ∈ ws, Lts w := fun w hw => (h w hw).2.2
end L2
namespace L2
open PySem PySem.Spec PyProof.Rows
def joinW (sep : List Nat) : List (List Nat) → List Nat
 | [] => []
 | [w] => w
 | w :: v :: r => w ++ sep ++ joinW sep (v :: r)
theorem join_SW (sep : List Nat) : ∀ ws : List (List Nat), PySem.Str.join (S sep) (ws.map S) = S (joinW sep ws)
 | [] => rfl
 | [w] => rfl
 | w :: v :: r => by
  show S w ++ S sep ++ PySem.Str.join (S sep) ((v :: r).map S) = S (w ++ sep ++ joinW sep (v :: r))
  rw [join_SW sep (v :: r), S_app, S_app]
theorem joinW_len (sep : List Nat) : ∀ ws : List (List Nat), (joinW sep ws).length ≤ ws.flatten.length + ws.length * sep.length
 | [] => Nat.zero_le _
 | [w] => by show w.length ≤ _; rw [List.flatten_cons, List.flatten_nil, List.append_nil]; omega
 | w :: v :: r => by
  have ih := joinW_len sep (v :: r)
  show (w ++ sep ++ joinW sep (v :: r)).length ≤ _
  rw [List.flatten_cons, List.length_append, List.length_append, List.length_append]
  rw [List.length_cons (as := v :: r), Nat.succ_mul]
  omega
section
variable {K : PySem.W.Frag} {X : Cx}
def rJoinS (K : PySem.W.Frag) : V → List V → Hp → VK → Prop := fun x xs H Q => ∃ (p : Addr) (sep : List Nat) (ws : List (List Nat)), x = .str (S sep) ∧ xs = [.ref p] ∧ SqL K H p (ws.map tx) ∧ ws.flatten.length + ws.length * sep.length ≤ 1000000 ∧ Q (.str (S (joinW sep ws))) H
theorem um_joinS (K : PySem.W.Frag) (e : X.K = K) : MtR X "str.join" (rJoinS K) := by
 subst e
 intro pins s σ H x xs v us Q I rx rs h
 obtain ⟨p, sep, ws, rfl, rfl, hS, hz, q⟩ := h
 obtain ⟨t, rfl⟩ := rx
 obtain ⟨u, rfl, ru⟩ := vals1 rs
 cases (show u = Value.ref p from ru)
 obtain ⟨its, rv, pl, _⟩ := I.list hS
 refine join_list pl.isList (by simpa using strs_of rv) ?_ fun t' k => ?_
 ·rw [List.map_map, S_len]
  have e1 : (ws.map ((fun y : Str => y.length) ∘ S)).sum = ws.flatten.length := by
   rw [List.length_flatten]
   exact congrArg List.sum (List.map_congr_left fun w _ => S_len w)
  rw [e1]
  simp only [List.length_map]
  omega
 ·refine ⟨.str (S (joinW sep ws)), H, I.tok _, ⟨t', ?_⟩, q⟩
  rw [← join_SW]
  exact congrArg (fun z => Value.str z t') (StrLaws.glued_eq_join _ _)
def fJoinS : FM
 | [], [.lst ds], Q => ∃ ws : List (List Nat), ds = ws.map .str ∧ ws.flatten.length ≤ 1000000 ∧ Q (.dat (.str ws.flatten))
 | c :: sep, [.lst ds], Q => ∃ ws : List (List Nat), ds = ws.map .str ∧ ws.flatten.length + ws.length * (c :: sep).length ≤ 1000000 ∧ Q (.dat (.str (joinW (c :: sep) ws)))
 | _, _, _ => False
theorem joinW_nil : ∀ ws : List (List Nat), joinW [] ws = ws.flatten
 | [] => rfl
 | [w] => by show w = w ++ []; rw [List.append_nil]
 | w :: v :: r => by show w ++ [] ++ joinW [] (v :: r) = _; rw [joinW_nil (v :: r), List.append_nil]; rfl
theorem lm_joinS : LM K (rJoinS K) fJoinS := by
 intro O H l xs as Q Q' dom hl fs q k
 unfold fJoinS at q
 split at q
 ·obtain ⟨ws, rfl, hw, q⟩ := q
  cases fs with
  | cons a b =>
   cases b
   obtain ⟨p, ys, rfl, e1, f1⟩ := a.lst
   rw [f1.strs] at e1
   refine ⟨p, [], ws, rfl, rfl, SqL.of e1, by rw [List.length_nil, Nat.mul_zero]; exact hw, ?_⟩
   rw [joinW_nil]
   exact k _ H _ q (Gr.refl _) (.str _ hw)
 ·obtain ⟨ws, rfl, hw, q⟩ := q
  cases fs with
  | cons a b =>
   cases b
   obtain ⟨p, ys, rfl, e1, f1⟩ := a.lst
   rw [f1.strs] at e1
   exact ⟨p, _, ws, rfl, rfl, SqL.of e1, hw, k _ H _ q (Gr.refl _) (.str _ (Nat.le_trans (joinW_len _ _) hw))⟩
 ·exact q.elim
end
end L2
namespace L2
open PySem PySem.Spec PyProof.Rows
section
variable {X : Cx} {K : PySem.W.Frag}
def pDic0 : PTE := fun ρ Q => Q (.dat (.dic [] [])) ρ
theorem le_dic0 : LE K tDNewK pDic0 := fun A ρ σ H Q Q' R q k => fun p hp =>
 k _ _ (.dat (.dic [] [])) ρ q (Fr.new hp) ⟨R.grow hp, .dic (R.oo hp) upd_same rfl .nil⟩
def rEqDic (neg : Bool) : R2 := fun x y H Q => ∃ a b, x = .ref a ∧ y = .ref b ∧ H a = some (.dK []) ∧ H b = some (.dK []) ∧ Q (.bl (!neg)) H
theorem op_eqDic (hu : X.A.units + 64 < cLine) : OpR X (compareOp .Eq) (rEqDic false) := by
 intro pins s σ H x y v u Q I rx ry ⟨a, b, e1, e2, h1, h2, q⟩
 subst e1 e2
 cases rx
 cases ry
 obtain ⟨_, y1, vs, r1, p1⟩ := (show ObjOk X.prog X.w H s.heap a (.dK []) from I.hok a _ h1)
 obtain ⟨_, y2, ws, r2, p2⟩ := (show ObjOk X.prog X.w H s.heap b (.dK []) from I.hok b _ h2)
 cases r1
 cases r2
 exact PySem.W.keq_eq (r := true) y1 y2 p1 p2 (by omega) (fun _ => .nil) ⟨.bl true, H, I, rfl, q⟩
theorem op_neDic (hu : X.A.units + 64 < cLine) : OpR X (compareOp .NotEq) (rEqDic true) := by
 intro pins s σ H x y v u Q I rx ry ⟨a, b, e1, e2, h1, h2, q⟩
 subst e1 e2
 cases rx
 cases ry
 obtain ⟨_, y1, vs, r1, p1⟩ := (show ObjOk X.prog X.w H s.heap a (.dK []) from I.hok a _ h1)
 obtain ⟨_, y2, ws, r2, p2⟩ := (show ObjOk X.prog X.w H s.heap b (.dK []) from I.hok b _ h2)
 cases r1
 cases r2
 exact PySem.W.keq_ne (r := true) y1 y2 p1 p2 (by omega) (fun _ => .nil) ⟨.bl false, H, I, rfl, q⟩
def rEqU2 (K : PySem.W.Frag) (neg : Bool) : R2 := fun x y H Q => rEqU K neg x y H Q ∨ rEqDic neg x y H Q
theorem u_eq2 (K : PySem.W.Frag) (e : X.K = K) (hu : X.A.units + 64 < cLine) : OpR X (compareOp .Eq) (rEqU2 K false) := OpR.or (u_eq K e hu) (op_eqDic hu)
theorem u_ne2 (K : PySem.W.Frag) (e : X.K = K) (hu : X.A.units + 64 < cLine) : OpR X (compareOp .NotEq) (rEqU2 K true) := OpR.or (u_ne K e hu) (op_neDic hu)
def fEq2 : F2
 | .dic [] [], .dic [] [], Q => Q (.dat (.bl true))
 | a, b, Q => fEq a b Q
def fNe2 : F2
 | .dic [] [], .dic [] [], Q => Q (.dat (.bl false))
 | a, b, Q => fNe a b Q
theorem FVc.dic0 {O : Addr → Prop} {H : Hp} {v : V} (h : FVc K O H v (.dic [] [])) : ∃ a, v = .ref a ∧ H a = some (.dK []) := by
 cases h.fv nofun nofun with
 | dic n e m f =>
  rename_i a kvs
  cases kvs with
  | nil => exact ⟨a, rfl, e⟩
  | cons x r => cases m
theorem lo_eq2 : LO K (rEqU2 K false) fEq2 := by
 intro O H x y a b Q Q' dom fx fy q k
 unfold fEq2 at q
 split at q
 ·obtain ⟨a, rfl, e1⟩ := fx.dic0
  obtain ⟨b, rfl, e2⟩ := fy.dic0
  exact .inr ⟨a, b, rfl, rfl, e1, e2, k _ H _ q (Gr.refl _) (.bl _)⟩
 ·exact .inl (lo_eq O H x y _ _ Q Q' dom fx fy q k)
theorem lo_ne2 : LO K (rEqU2 K true) fNe2 := by
 intro O H x y a b Q Q' dom fx fy q k
 unfold fNe2 at q
 split at q
 ·obtain ⟨a, rfl, e1⟩ := fx.dic0
  obtain ⟨b, rfl, e2⟩ := fy.dic0
  exact .inr ⟨a, b, rfl, rfl, e1, e2, k _ H _ q (Gr.refl _) (.bl _)⟩
 ·exact .inl (lo_ne O H x y _ _ Q Q' dom fx fy q k)
end
end L2
namespace L2
open PySem PySem.Spec PyProof.Rows
theorem pys_map : ∀ ds : List D, D.pys ds = ds.map D.py
 | [] => rfl
 | d :: r => by rw [List.map_cons, ← pys_map r]; rfl
theorem plains_all : ∀ ds : List D, D.plains ds = ds.all D.plain
 | [] => rfl
 | d :: r => by rw [List.all_cons, ← plains_all r]; rfl
def Fl (n : Nat) (d : D) : Prop := d.plain = true ∧ Flat n d.py
theorem Fl.sh {n : Nat} {d : D} (h : Fl n d) (hn : n ≤ 64) : Sh d := ⟨h.1, h.2.shaped hn⟩
theorem Fl.mono {n m : Nat} {d : D} (h : Fl n d) (hn : n ≤ m) : Fl m d := ⟨h.1, h.2.1, Nat.le_trans h.2.2 hn⟩
theorem Fl.int {n : Nat} (i : Int) : Fl n (.int i) := (show Fl 0 (.int i) from ⟨rfl, Flat.int i⟩).mono (Nat.zero_le _)
theorem Fl.bl {n : Nat} (b : Bool) : Fl n (.bl b) := ⟨rfl, by simp [D.py, PyData.canLay0], by simp [D.py, PyData.depth]⟩
theorem Fl.lst {n : Nat} {ds : List D} (h : ∀ d ∈ ds, Fl n d) : Fl (n + 1) (.lst ds) := by
 refine ⟨?_, ?_⟩
 ·show D.plains ds = true
  rw [plains_all, List.all_eq_true]; exact fun d hd => (h d hd).1
 ·show Flat (n + 1) (.list (D.pys ds))
  rw [pys_map]
  refine Flat.list fun d hd => ?_
  obtain ⟨x, hx, rfl⟩ := List.mem_map.mp hd
  exact (h x hx).2
theorem Fl.ints {n : Nat} (zs : List Int) : ∀ d ∈ zs.map D.int, Fl n d := fun d hd => by
 obtain ⟨i, _, rfl⟩ := List.mem_map.mp hd
 exact Fl.int i
def isNum : D → Bool
 | .int _ => true
 | _ => false
def isRow : D → Bool
 | .lst _ => true
 | .tup _ => true
 | _ => false
def itemsD : D → List D
 | .lst ds => ds
 | .tup ds => ds
 | _ => []
def toI : D → Int
 | .int i => i
 | _ => 0
def areNums (d : D) (m : Int) : Bool := isRow d && (decide (((itemsD d).length : Int) = m) && (itemsD d).all isNum)
def Srt (d : D) : Prop := d.sort = true ∧ ∀ x ∈ itemsD d, x.sort = true
theorem nums_of : ∀ {ds : List D}, ds.all isNum = true → ds = (ds.map toI).map D.int
 | [], _ => rfl
 | d :: r, h => by
  rw [List.all_cons, Bool.and_eq_true] at h
  rw [List.map_cons, List.map_cons, ← nums_of h.2]
  cases d <;> first | rfl | cases h.1
theorem itD_mem {ds : List D} {k : Nat} (h : k < ds.length) : itD ds k ∈ ds := List.mem_of_getElem? (itD_get h)
end L2
namespace L2
open PySem PySem.Spec PyProof.Rows
section
variable {K : PySem.W.Frag} {te : TE} {pe : PTE} {tr : TA} {pr : PTA}
def pCallRF (c : FR) (pe : PTE) (pr : PTA) : PTE := fun ρ Q => pe ρ fun p ρ1 => match p with
 | .own es => pr ρ1 fun as ρ2 => (match avD as with
  | some ds => c (.own es) ds fun r _ => Q (.dat r.d) ρ2
  | none => False)
 | _ => False
theorem le_callRF {c : FR} (h1 : LE K te pe) (h2 : LAs K tr pr) : LE K (tCall (spR K c) [] E0 (tCons te tr)) (pCallRF c pe pr) := fun A ρ σ H Q Q' R q k => h1 A ρ σ H _ _ R q fun v H1 p ρ1 q1 f1 o1 => by
 cases p with
 | dat d => exact q1.elim
 | ins c ns ds => exact q1.elim
 | own es =>
  obtain ⟨a, xs, rfl, na, n0, e, R1, fv⟩ := o1
  refine h2 (plus A a) ρ1 σ H1 _ _ R1 q1 fun vs H2 as ρ2 q2 f2 R2 o2 => ?_
  split at q2
  ·rename_i ds ed
   have e2 : H2 a = some (.lst xs) := f2.kp a _ (R1.sep a (.inr rfl)) e
   have fv2 := fv.keeps (f2.keeps (A := plus A a))
   have nw : ¬ Wr ρ2 σ a := R2.sep a (.inr rfl)
   have oeq : plus (OO A ρ2 σ) a = OO (plus A a) ρ2 σ := funext fun b => propext ⟨fun z => by
    rcases z with (z | z) | z
    ·exact .inl (.inl z)
    ·exact .inr z
    ·exact .inl (.inr z), fun z => by
    rcases z with (z | z) | z
    ·exact .inl (.inl z)
    ·exact .inr z
    ·exact .inl (.inr z)⟩
   rw [List.append_nil]
   refine ⟨OO A ρ2 σ, a, .own es, vs, ds, _, rfl, rfl, fun b z => R2.dom2 b (z.imp .inl id), fun z => z.elim na nw, by rw [oeq]; exact ⟨a, xs, rfl, e2, fv2⟩, by rw [oeq]; exact o2.avD ed, q2, fun r p' qr ow' v H' kp ha rs' ov hx => ?_⟩
   rw [oeq] at ov
   have fvr : FV K (OO (plus A a) ρ2 σ) H' v r.d := by
    cases r with
    | dat d => exact ov
    | own es =>
     obtain ⟨w, ys, rfl, ew0, ew, f⟩ := ov
     exact .lst (fun z => R2.dom2 w z ew0) ew (f.keeps (Keeps.less fun b z => .inl z))
    | ins c ns es =>
     obtain ⟨w, dx, fs, rfl, ew0, ew, m, f⟩ := ov
     exact .obj (fun z => R2.dom2 w z ew0) ew m (f.keeps (Keeps.less fun b z => .inl z))
   have kk : Keeps (OO (plus A a) ρ2 σ) H2 (OO A ρ2 σ) H' := fun b o n hb => ⟨fun z => n (z.imp .inl id), kp b o (fun z => n (.inl (.inr z))) hb⟩
   have kl : Keeps (OO (plus A a) ρ2 σ) H' (OO A ρ2 σ) H' := Keeps.less fun b z => z.imp .inl id
   have ne : ∀ b, Wr ρ2 σ b → b ≠ a := fun b z e => nw (by rw [← e]; exact z)
   have R3 : Rel K A ρ2 σ H' := by
    refine ⟨R2.len, fun i p e => ?_, R2.dj, fun b z => ?_, fun b z => R2.sep b (.inl z)⟩
    ·obtain ⟨v, s, rs⟩ := R2.get i p e
     refine ⟨v, s, ?_⟩
     cases p with
     | dat d => exact FV.keeps kk rs
     | own es =>
      obtain ⟨w, ys, rfl, ew, f⟩ := rs
      exact ⟨w, ys, rfl, kp w _ (ne w ⟨i, _, e, rfl, s⟩) ew, f.keeps kk⟩
     | ins c ns es =>
      obtain ⟨w, dx, fs, rfl, ew, m, f⟩ := rs
      exact ⟨w, dx, fs, rfl, kp w _ (ne w ⟨i, _, e, rfl, s⟩) ew, m, f.keeps kk⟩
    ·cases eb : H2 b with
     | none => exact absurd eb (R2.dom b (.inl z))
     | some o => rw [kp b o (fun y => na (by rw [← y]; exact z)) eb]; exact nofun
   have f12 := f1.trans f2
   refine k v H' (.dat r.d) ρ2 qr ⟨fun b o n hb => ?_, fun b hb => ?_, f12.ow⟩ ⟨R3, FV.keeps kl fvr⟩
   ·exact kp b o (ne_of_none hb n0) (f12.kp b o n hb)
   ·cases eb : H2 b with
    | none => exact absurd eb (f12.dm b hb)
    | some o => rw [kp b o (fun y => hb (by rw [y]; exact n0)) eb]; exact nofun
  ·exact q2.elim
end
end L2
namespace L2
open PySem PySem.Spec PyProof.Rows
abbrev SIt (h : Heap) (a : Addr) (x : Str) (t : Tok) (i : Nat) : Prop := h.IsStrIter a (strIterType x) x t i
theorem SIt.mv {h h' : Heap} {a : Addr} {x : Str} {t : Tok} {i : Nat} (W : SIt h a x t i) (k : ∀ o, h.get? a = some o → h'.get? a = some o) : SIt h' a x t i := let ⟨o, ho, r⟩ := W; ⟨o, k o ho, r⟩
section
variable {P : Program} {w : World} {A : Around} {E : Value → Shared → Prop} {s : Shared} {z U V i j : Addr} {n : Nat} {x y : Str} {t t' : Tok} {cx cy : Nat} {u v : Value}
theorem txtNext_item {Q : Value → Shared → Prop} (W : SIt s.heap i x t n) (hx : x.cps[n]? = some cx) (hQ : ∀ h', SIt h' i x t (n + 1) → Heap.SameBut i s.heap h' → Q (.str ⟨#[cx]⟩ s.toks) { s with heap := h', toks := s.toks + 1 }) :
    wpAny (model P w) A (Builtin.SmallTypes.nextOf (.ref i)) Q E s := by
  unfold SIt strIterType at W hQ
  cases ha : x.cps.all (· < 128)
  · simp only [ha, Bool.false_eq_true, if_false] at W hQ
    exact wpAny_nextOf_wide_item W hx hQ
  · simp only [ha, if_true] at W hQ
    exact wpAny_nextOf_ascii_item W hx hQ
theorem txtNext_end {Q : Value → Shared → Prop} (hh : A.handled = none) (W : SIt s.heap i x t n) (hx : x.cps[n]? = none)
    (hE : ∀ h' e, Heap.ExtBut i s.heap h' → (∃ o, h'.get? e = some o ∧ o.cls = .type "StopIteration") → E (.ref e) { s with heap := h' }) :
    wpAny (model P w) A (Builtin.SmallTypes.nextOf (.ref i)) Q E s := by
  unfold SIt strIterType at W
  cases ha : x.cps.all (· < 128)
  · simp only [ha, Bool.false_eq_true, if_false] at W
    exact wpAny_nextOf_wide_end hh W hx hE
  · simp only [ha, if_true] at W
    exact wpAny_nextOf_ascii_end hh W hx hE
theorem zt_item {Q : Value → Shared → Prop} (D : ZA z U V i j) (hz : IsZip s.heap z U V .none) (hU : IsPair s.heap U (.ref i) (.ref j)) (hV : IsPair s.heap V u v)
    (W1 : SIt s.heap i x t n) (W2 : SIt s.heap j y t' n) (hx : x.cps[n]? = some cx) (hy : y.cps[n]? = some cy)
    (hQ : ∀ h', IsZip h' z U V (rawInt s.heap.objs.size) → IsPair h' V (.str ⟨#[cx]⟩ s.toks) (.str ⟨#[cy]⟩ (s.toks + 1)) → SIt h' i x t (n + 1) → SIt h' j y t' (n + 1) → IsPair h' s.heap.objs.size (.str ⟨#[cx]⟩ s.toks) (.str ⟨#[cy]⟩ (s.toks + 1)) → h'.objs.size = s.heap.objs.size + 1 →
      (∀ b o, b ≠ z → b ≠ V → b ≠ i → b ≠ j → s.heap.get? b = some o → h'.get? b = some o) → Q (.ref s.heap.objs.size) { s with heap := h', toks := s.toks + 1 + 1 }) :
    wpAny (model P w) A (Builtin.«zip.__next__» ⟨[.ref z], []⟩) (fun f s' => ∃ r, f = .done (.ret r) ∧ Q r s') E s := by
  refine wpAny_bind (m := field (.ref z) 2) (wpAny_field hz rfl (x := .bool false) rfl (wpAny_bind (m := field (.ref z) 3) (wpAny_field hz rfl (x := .ref U) rfl (wpAny_bind (wpAny_seqItems hU rfl ?_)))))
  refine wpAny_bind (m := Builtin.SmallTypes.ownedTupleIsFree (.ref z)) ?_
  unfold Builtin.SmallTypes.ownedTupleIsFree
  refine wpAny_bind (wpAny_field hz rfl (x := .none) rfl (wpAny_pure ?_))
  simp only [if_true]
  refine wpAny_bind (wpAny_rule (wpAny_bind (wpAny_field hz rfl (x := .ref V) rfl (wpAny_bind (wpAny_setField_rec hz (by simp) fun g1 z1 b1 => wpAny_bind ?_)))))
  replace z1 : IsZip g1 z U V .ellipsis := z1
  simp only [List.zipIdx_cons, List.zipIdx_nil, List.forIn_cons, List.forIn_nil]
  have e1 := b1.extBut
  refine wpAny_bind (wpAny_bind (wpAny_onRaise (wpAny_bind (m := Builtin.SmallTypes.nextOf (.ref i)) (txtNext_item (W1.mv fun o e => e1 _ o D.iz e) hx fun g2 w1 b2 => wpAny_pure ?_))))
  have e2 := b2.extBut
  have v2 : IsPair g2 V u v := e2 _ _ D.Vi (e1 _ _ D.Vz hV)
  refine wpAny_bind (wpAny_seqItems v2 rfl (wpAny_bind (wpAny_updateSeq_pair v2 fun g3 v3 b3 => wpAny_bind (wpAny_letGo (wpAny_pure ?_)))))
  replace v3 : IsPair g3 V (.str ⟨#[cx]⟩ s.toks) v := v3
  have e3 := b3.extBut
  refine wpAny_bind (wpAny_bind (wpAny_onRaise (wpAny_bind (m := Builtin.SmallTypes.nextOf (.ref j)) (txtNext_item (W2.mv fun o e => e3 _ o D.Vj.symm (e2 _ o D.ij.symm (e1 _ o D.jz e))) hy fun g4 w2 b4 => wpAny_pure ?_))))
  have e4 := b4.extBut
  have v4 : IsPair g4 V (.str ⟨#[cx]⟩ s.toks) v := e4 _ _ D.Vj v3
  refine wpAny_bind (wpAny_seqItems v4 rfl (wpAny_bind (wpAny_updateSeq_pair v4 fun g5 v5 b5 => wpAny_bind (wpAny_letGo (wpAny_pure (wpAny_pure ?_))))))
  replace v5 : IsPair g5 V (.str ⟨#[cx]⟩ s.toks) (.str ⟨#[cy]⟩ (s.toks + 1)) := v5
  have e5 := b5.extBut
  refine wpAny_bind (wpAny_seqItems v5 rfl (wpAny_bind (wpAny_newTuple ?_)))
  have sz : g5.objs.size = s.heap.objs.size := by rw [b5.1, b4.1, b3.1, b2.1, b1.1]
  have z5 : IsZip g5 z U V .ellipsis := e5 _ _ D.Vz.symm (e4 _ _ D.jz.symm (e3 _ _ D.Vz.symm (e2 _ _ D.iz.symm z1)))
  have k5 : ∀ b o, b ≠ z → b ≠ V → b ≠ i → b ≠ j → s.heap.get? b = some o → g5.get? b = some o := fun b o q1 q2 q3 q4 e => e5 _ _ q2 (e4 _ _ q4 (e3 _ _ q2 (e2 _ _ q3 (e1 _ _ q1 e))))
  have w15 : SIt g5 i x t (n + 1) := w1.mv fun o e => e5 _ o D.Vi.symm (e4 _ o D.ij (e3 _ o D.Vi.symm e))
  have w25 : SIt g5 j y t' (n + 1) := w2.mv fun o e => e5 _ o D.Vj.symm e
  have zlt : z < g5.objs.size := Heap.lt_size z5
  refine wpAny_bind (m := Builtin.SmallTypes.ownedTupleHandOut (.ref z) (.ref g5.objs.size)) ?_
  unfold Builtin.SmallTypes.ownedTupleHandOut
  have z6 : IsZip (g5.push { cls := .type "tuple", data := .seq #[(.str ⟨#[cx]⟩ s.toks), (.str ⟨#[cy]⟩ (s.toks + 1))] }) z U V .ellipsis := Heap.get?_push_of_some _ z5
  refine wpAny_bind (wpAny_setField_rec z6 (by simp) fun g7 z7 b7 => ?_)
  replace z7 : IsZip g7 z U V (rawInt g5.objs.size) := z7
  refine wpAny_setField_rec z7 (by simp) fun g8 z8 b8 => ?_
  replace z8 : IsZip g8 z U V (rawInt g5.objs.size) := z8
  have up : ∀ b o, b ≠ z → g5.get? b = some o → g8.get? b = some o := fun b o q e => b8.extBut _ _ q (b7.extBut _ _ q (Heap.get?_push_of_some _ e))
  have t8 : IsPair g8 g5.objs.size (.str ⟨#[cx]⟩ s.toks) (.str ⟨#[cy]⟩ (s.toks + 1)) := b8.extBut _ _ (Nat.ne_of_gt zlt) (b7.extBut _ _ (Nat.ne_of_gt zlt) (Heap.get?_push_size _ rfl))
  have s8 : g8.objs.size = g5.objs.size + 1 := by rw [b8.1, b7.1, Heap.size_push]
  rw [sz] at z8 t8 s8
  refine wpAny_pure ⟨_, rfl, ?_⟩
  show Q (.ref g5.objs.size) _
  rw [sz]
  exact hQ g8 z8 (up _ _ D.Vz v5) (w15.mv fun o e => up _ o D.iz e) (w25.mv fun o e => up _ o D.jz e) t8 s8 fun b o q1 q2 q3 q4 e => up b o q1 (k5 b o q1 q2 q3 q4 e)
theorem zt_end {Q : Fin → Shared → Prop} (hh : A.handled = none) (D : ZA z U V i j) (hz : IsZip s.heap z U V .none) (hU : IsPair s.heap U (.ref i) (.ref j)) (hV : IsPair s.heap V u v)
    (W1 : SIt s.heap i x t n) (W2 : SIt s.heap j y t' n) (hend : x.cps[n]? = none ∨ y.cps[n]? = none)
    (hE : ∀ h' tk e, (∀ b o, b ≠ z → b ≠ V → b ≠ i → b ≠ j → s.heap.get? b = some o → h'.get? b = some o) → (∃ o, h'.get? e = some o ∧ o.cls = .type "StopIteration") → E (.ref e) { s with heap := h', toks := tk }) :
    wpAny (model P w) A (Builtin.«zip.__next__» ⟨[.ref z], []⟩) Q E s := by
  refine wpAny_bind (m := field (.ref z) 2) (wpAny_field hz rfl (x := .bool false) rfl (wpAny_bind (m := field (.ref z) 3) (wpAny_field hz rfl (x := .ref U) rfl (wpAny_bind (wpAny_seqItems hU rfl ?_)))))
  refine wpAny_bind (m := Builtin.SmallTypes.ownedTupleIsFree (.ref z)) ?_
  unfold Builtin.SmallTypes.ownedTupleIsFree
  refine wpAny_bind (wpAny_field hz rfl (x := .none) rfl (wpAny_pure ?_))
  simp only [if_true]
  refine wpAny_bind (wpAny_rule (wpAny_bind (wpAny_field hz rfl (x := .ref V) rfl (wpAny_bind (wpAny_setField_rec hz (by simp) fun g1 z1 b1 => wpAny_bind ?_)))))
  replace z1 : IsZip g1 z U V .ellipsis := z1
  simp only [List.zipIdx_cons, List.zipIdx_nil, List.forIn_cons, List.forIn_nil]
  have e1 := b1.extBut
  cases hx : x.cps[n]? with
  | none =>
    refine wpAny_bind (wpAny_bind (wpAny_onRaise (wpAny_bind (m := Builtin.SmallTypes.nextOf (.ref i)) (txtNext_end hh (W1.mv fun o e => e1 _ o D.iz e) hx fun g2 e b2 he => ?_))))
    obtain ⟨oe, ge, ce⟩ := he
    have z2 : IsZip g2 z U V .ellipsis := b2 _ _ D.iz.symm z1
    have ez : e ≠ z := fun q => by subst q; rw [z2] at ge; cases ge; simp at ce
    exact wpAny_setField_rec z2 (by simp) fun g3 _ b3 => hE g3 _ e (fun b o q1 _ q3 _ q => b3.extBut _ _ q1 (b2 _ _ q3 (e1 _ _ q1 q))) ⟨oe, b3.extBut _ _ ez ge, ce⟩
  | some cx =>
    have hy : y.cps[n]? = none := by
      rcases hend with q | q
      · rw [hx] at q; cases q
      · exact q
    refine wpAny_bind (wpAny_bind (wpAny_onRaise (wpAny_bind (m := Builtin.SmallTypes.nextOf (.ref i)) (txtNext_item (W1.mv fun o e => e1 _ o D.iz e) hx fun g2 w1 b2 => wpAny_pure ?_))))
    have e2 := b2.extBut
    have v2 : IsPair g2 V u v := e2 _ _ D.Vi (e1 _ _ D.Vz hV)
    refine wpAny_bind (wpAny_seqItems v2 rfl (wpAny_bind (wpAny_updateSeq_pair v2 fun g3 v3 b3 => wpAny_bind (wpAny_letGo (wpAny_pure ?_)))))
    have e3 := b3.extBut
    refine wpAny_bind (wpAny_bind (wpAny_onRaise (wpAny_bind (m := Builtin.SmallTypes.nextOf (.ref j)) (txtNext_end hh (W2.mv fun o e => e3 _ o D.Vj.symm (e2 _ o D.ij.symm (e1 _ o D.jz e))) hy fun g4 e b4 he => ?_))))
    obtain ⟨oe, ge, ce⟩ := he
    have z4 : IsZip g4 z U V .ellipsis := b4 _ _ D.jz.symm (e3 _ _ D.Vz.symm (e2 _ _ D.iz.symm z1))
    have ez : e ≠ z := fun q => by subst q; rw [z4] at ge; cases ge; simp at ce
    exact wpAny_setField_rec z4 (by simp) fun g5 _ b5 => hE g5 _ e (fun b o q1 q2 q3 q4 q => b5.extBut _ _ q1 (b4 _ _ q4 (e3 _ _ q2 (e2 _ _ q3 (e1 _ _ q1 q))))) ⟨oe, b5.extBut _ _ ez ge, ce⟩
end
def Itzs (xs ys : List V) : It :=
  ⟨fun i H => ∃ x y, xs[i]? = some x ∧ ys[i]? = some y,
   fun i H p H' => ∃ T x y, H T = none ∧ p = .ref T ∧ xs[i]? = some x ∧ ys[i]? = some y ∧ H' = upd H T (.tup [x, y]),
   fun i H => xs.length ≤ i ∨ ys.length ≤ i⟩
theorem turn_zipS {P : Program} {w : World} {K : PySem.W.Frag} {es : List Expr} {ct : Nat} {tp : Pos} {z U V i j : Addr} {la lb : List Nat} {t t' : Tok} (D : ZA z U V i j) :
    Turn P w K (.Tuple es ct tp) (Itzs (signs1 la) (signs1 lb)) [z, U, V, i, j] z (fun n h => IsZip h z U V .none ∧ IsPair h U (.ref i) (.ref j) ∧ (∃ u v, IsPair h V u v) ∧ SIt h i (S la) t n ∧ SIt h j (S lb) t' n) where
  mem := by simp
  obj := fun n h st b hb => by
    obtain ⟨hz, hU, ⟨u, v, hV⟩, ⟨o1, g1, c1, d1⟩, ⟨o2, g2, c2, d2⟩⟩ := st
    simp only [List.mem_cons, List.not_mem_nil, or_false] at hb
    rcases hb with rfl | rfl | rfl | rfl | rfl
    · exact ⟨_, hz, fun v q => by cases q⟩
    · exact ⟨_, hU, fun v q => by cases q⟩
    · exact ⟨_, hV, fun v q => by cases q⟩
    · exact ⟨_, g1, fun v q => by rw [d1] at q; cases q⟩
    · exact ⟨_, g2, fun v q => by rw [d2] at q; cases q⟩
  keep := fun n h h' st kk => by
    obtain ⟨hz, hU, ⟨u, v, hV⟩, w1, w2⟩ := st
    exact ⟨kk z (by simp) _ hz, kk U (by simp) _ hU, ⟨u, v, kk V (by simp) _ hV⟩, w1.mv fun o e => kk i (by simp) o e, w2.mv fun o e => kk j (by simp) o e⟩
  item := by
    intro X hP hw hK hc n pins s σ H E I hf st hg
    subst hP hw hK
    obtain ⟨x, y, hx, hy⟩ := hg
    obtain ⟨hz, hU, ⟨u, v, hV⟩, w1, w2⟩ := st
    obtain ⟨cx, hcx, rfl⟩ := signs1_get hx
    obtain ⟨cy, hcy, rfl⟩ := signs1_get hy
    have hT : s.TypeIs (.ref z) "zip" := ⟨_, hz, rfl⟩
    unfold pyNext
    refine wpAny_bind (wpAny_attempt (wpAny_callSpecial?_slot (name := Str.ofString "__next__") hT F.slot_zip_next (wpAny_call_entry F.slot_zip_next hT F.entry_zip_next
      (zt_item (cx := cx) (cy := cy) D hz hU hV w1 w2 (by simpa [S] using hcx) (by simpa [S] using hcy) fun h' a1 a2 a3 a4 a5 a6 a7 => wpAny_pure ?_) (F.args_zip_next_1 _))))
    refine ⟨_, rfl, wpAny_letOwnedTupleGo_zip a1 fun g gz gs => ?_⟩
    have lt : ∀ {b o}, s.heap.get? b = some o → s.heap.objs.size ≠ b := fun e => Nat.ne_of_gt (Heap.lt_size e)
    have kp : ∀ b o, b ∉ [z, V, i, j] → s.heap.get? b = some o → g.get? b = some o := fun b o hb e => by
      simp only [List.mem_cons, List.not_mem_nil, or_false, not_or] at hb
      exact gs.extBut _ _ hb.1 (a7 b o hb.1 hb.2.1 hb.2.2.1 hb.2.2.2 e)
    have I2 : Inv X pins σ (upd H s.heap.objs.size (.tup [.str (S [cx]), .str (S [cy])])) { s with heap := g, toks := s.toks + 1 + 1 } := I.yielded (ch := [z, V, i, j]) (fun b hb => hf b (by
      simp only [List.mem_cons, List.not_mem_nil, or_false] at hb ⊢
      rcases hb with q | q | q | q <;> simp [q])) (Nat.le_refl _) kp ⟨by show 2 ≤ sizeLine; decide, [.str ⟨#[cx]⟩ s.toks, .str ⟨#[cy]⟩ (s.toks + 1)], .cons ⟨_, rfl⟩ (.cons ⟨_, rfl⟩ .nil), _, gs.extBut _ _ (lt hz) a5, rfl, _, rfl⟩
    refine ⟨.ref s.heap.objs.size, _, I2, rfl, ⟨_, _, _, I.hok.fresh (Nat.le_refl _), rfl, hx, hy, rfl⟩,
      ⟨gz, gs.extBut _ _ D.Uz (a7 _ _ D.Uz D.UV D.Ui D.Uj hU), ⟨_, _, gs.extBut _ _ D.Vz a2⟩, a3.mv fun o e => gs.extBut _ o D.iz e, a4.mv fun o e => gs.extBut _ o D.jz e⟩, fun b hb => ?_⟩
    rw [upd_ne ?_]
    · exact (hf b hb).1
    · intro q
      subst q
      simp only [List.mem_cons, List.not_mem_nil, or_false] at hb
      obtain ⟨o1, g1, _⟩ := w1
      obtain ⟨o2, g2, _⟩ := w2
      rcases hb with q | q | q | q | q
      · exact lt hz q
      · exact lt hU q
      · exact lt hV q
      · exact lt g1 q
      · exact lt g2 q
  done := by
    intro X hP hw hK hc n pins s σ H E I hf st hg
    subst hP hw hK
    have hend : (signs1 la).length ≤ n ∨ (signs1 lb).length ≤ n := hg
    obtain ⟨hz, hU, ⟨u, v, hV⟩, w1, w2⟩ := st
    rw [signs1_len, signs1_len] at hend
    have hT : s.TypeIs (.ref z) "zip" := ⟨_, hz, rfl⟩
    unfold pyNext
    refine wpAny_bind (wpAny_attempt (wpAny_callSpecial?_slot (name := Str.ofString "__next__") hT F.slot_zip_next (wpAny_call_entry F.slot_zip_next hT F.entry_zip_next
      (zt_end (I.ok.hd hc) D hz hU hV w1 w2 ?_ fun h' tk e hk he => ?_) (F.args_zip_next_1 _))))
    · rcases hend with q | q
      · exact .inl (by simp [S]; omega)
      · exact .inr (by simp [S]; omega)
    · obtain ⟨o, ho, hcl⟩ := he
      refine wpAny_bind (wpAny_isInstance (T := "StopIteration") (b := true) ⟨o, ho, hcl⟩ isSubtype_stop (wpAny_pure ⟨rfl, ?_⟩))
      exact I.step (g' := s.gens) (d' := s.drawn) (t' := tk) (ch := [z, V, i, j]) (fun b hb => by
          have q := hf b (by
            simp only [List.mem_cons, List.not_mem_nil, or_false] at hb ⊢
            rcases hb with q | q | q | q <;> simp [q])
          exact ⟨q.2.2.2.1, q.2.1, q.2.2.2.2.1, q.2.2.2.2.2⟩) (fun b o _ _ hc e _ => by
          simp only [List.mem_cons, List.not_mem_nil, or_false, not_or] at hc
          exact hk b o hc.1 hc.2.1 hc.2.2.1 hc.2.2.2 e) (fun b o _ _ hc e _ => ⟨o.slots, by
          simp only [List.mem_cons, List.not_mem_nil, or_false, not_or] at hc
          exact hk b o hc.1 hc.2.1 hc.2.2.1 hc.2.2.2 e⟩) (fun _ _ _ _ q => q) (fun b o hc e => ⟨o, by
          simp only [List.mem_cons, List.not_mem_nil, or_false, not_or] at hc
          exact hk b o hc.1 hc.2.1 hc.2.2.1 hc.2.2.2 e⟩) (fun _ _ e => e) (fun _ _ _ e => e) (fun b ps e => ⟨#[], by rw [e]; simp⟩) (fun m hm => by
          obtain ⟨o, es, ep, ho, r⟩ := hm
          exact ⟨o, es, ep, hk _ o (hf z (by simp)).2.1.symm (hf V (by simp)).2.1.symm (hf i (by simp)).2.1.symm (hf j (by simp)).2.1.symm ho, r⟩) (fun b u e => by
          have nn : ∀ b u, H b = some u → b ≠ z ∧ b ≠ V ∧ b ≠ i ∧ b ≠ j := fun b u e => ⟨fun q => (by rw [q, (hf z (by simp)).1] at e; cases e), fun q => (by rw [q, (hf V (by simp)).1] at e; cases e), fun q => (by rw [q, (hf i (by simp)).1] at e; cases e), fun q => (by rw [q, (hf j (by simp)).1] at e; cases e)⟩
          refine (I.hok b u e).stay (fun c v hc q => ?_) (fun _ q => q) fun _ _ q => q
          have n4 : c ≠ z ∧ c ≠ V ∧ c ≠ i ∧ c ≠ j := by
            rcases hc with q | q
            · rw [q]; exact nn b u e
            · exact nn c _ q
          exact hk c v n4.1 n4.2.1 n4.2.2.1 n4.2.2.2 q) I.bare
  self := fun _ _ _ _ _ st h => wpAny_pyIter_zip st.1 h
section
variable {P : Program} {w : World} {A : Around} {E : Value → Shared → Prop} {s : Shared}
abbrev txtIt (x : Str) (t : Tok) : Obj := { cls := .type (strIterType x), data := .fields #[.str x t, .int 0 0] }
theorem pyIter_txt {x : Str} {t : Tok} {Q : Value → Shared → Prop} (hQ : Q (.ref s.heap.objs.size) { s with heap := s.heap.push (txtIt x t) }) : wpAny (model P w) A (pyIter (.str x t)) Q E s := by
  unfold txtIt strIterType at hQ
  cases ha : x.cps.all (· < 128)
  · simp only [ha, Bool.false_eq_true, if_false] at hQ
    exact wpAny_pyIter_wide ha hQ
  · simp only [ha, if_true] at hQ
    exact wpAny_pyIter_ascii ha hQ
abbrev yg1 (h : Heap) (x : Str) (t : Tok) : Heap := h.push (txtIt x t)
abbrev yg2 (h : Heap) (x y : Str) (t u : Tok) : Heap := (yg1 h x t).push (txtIt y u)
abbrev yg3 (h : Heap) (x y : Str) (t u : Tok) : Heap := (yg2 h x y t u).push { cls := .type "tuple", data := .seq #[.ref h.objs.size, .ref (yg1 h x t).objs.size] }
abbrev yg4 (h : Heap) (x y : Str) (t u : Tok) : Heap := (yg3 h x y t u).push { cls := .type "tuple", data := .seq #[.none, .none] }
abbrev yg5 (h : Heap) (x y : Str) (t u : Tok) : Heap := (yg4 h x y t u).push { cls := .type "zip", data := .fields #[.none, .bool false, .bool false, .ref (yg2 h x y t u).objs.size, .ref (yg3 h x y t u).objs.size] }
set_option maxHeartbeats 4000000 in
theorem zipMadeS (x y : Str) (t u : Tok) : Meets (Builtin.«zip.__new__» ⟨[.type "zip", .str x t, .str y u], []⟩) (fun _ R s =>
      R (.ok (.ret (.ref (yg4 s.heap x y t u).objs.size))) { s with heap := yg5 s.heap x y t u }) :=
  .of_wp fun prog w A R s h => by
    obtain ⟨hp, g, d, tk, os⟩ := s
    have hsub := sub_zip
    wp_walk using pyIter_txt (x := x) (t := t), pyIter_txt (x := y) (t := u)
    exact ⟨_, rfl, h⟩
theorem zipCallS {x y : Str} {t u : Tok} {Q : Value → Shared → Prop}
    (h : ∀ h', IsZip h' (s.heap.objs.size + 4) (s.heap.objs.size + 2) (s.heap.objs.size + 3) .none → IsPair h' (s.heap.objs.size + 2) (.ref s.heap.objs.size) (.ref (s.heap.objs.size + 1)) →
      IsPair h' (s.heap.objs.size + 3) .none .none → SIt h' s.heap.objs.size x t 0 → SIt h' (s.heap.objs.size + 1) y u 0 → (∀ b o, s.heap.get? b = some o → h'.get? b = some o) → Q (.ref (s.heap.objs.size + 4)) { s with heap := h' }) :
    wpAny (model P w) A (call (.type "zip") [.str x t, .str y u]) Q E s := by
  refine callType_new F.called_zip (by decide) (F.typeCall_zip_2 _ _) (F.newCall_zip_2 _ _) (fun obj => F.args_object_init_3 obj _ _) F.entry_zip_new (zipMadeS x y t u) ?_
  have z1 : (yg1 s.heap x t).objs.size = s.heap.objs.size + 1 := Heap.size_push ..
  have z2 : (yg2 s.heap x y t u).objs.size = s.heap.objs.size + 2 := by rw [Heap.size_push, z1]
  have z3 : (yg3 s.heap x y t u).objs.size = s.heap.objs.size + 3 := by rw [Heap.size_push, z2]
  have z4 : (yg4 s.heap x y t u).objs.size = s.heap.objs.size + 4 := by rw [Heap.size_push, z3]
  have m4 : ∀ b o, (yg4 s.heap x y t u).get? b = some o → (yg5 s.heap x y t u).get? b = some o := fun b o e => Heap.get?_push_of_some _ e
  have m3 : ∀ b o, (yg3 s.heap x y t u).get? b = some o → (yg5 s.heap x y t u).get? b = some o := fun b o e => m4 b o (Heap.get?_push_of_some _ e)
  have m2 : ∀ b o, (yg2 s.heap x y t u).get? b = some o → (yg5 s.heap x y t u).get? b = some o := fun b o e => m3 b o (Heap.get?_push_of_some _ e)
  have m1 : ∀ b o, (yg1 s.heap x t).get? b = some o → (yg5 s.heap x y t u).get? b = some o := fun b o e => m2 b o (Heap.get?_push_of_some _ e)
  have g5 : (yg5 s.heap x y t u).get? (yg4 s.heap x y t u).objs.size = some _ := Heap.get?_push_size _ rfl
  have g4 := m4 _ _ (Heap.get?_push_size (yg3 s.heap x y t u) (o := { cls := .type "tuple", data := .seq #[.none, .none] }) rfl)
  have g3 := m3 _ _ (Heap.get?_push_size (yg2 s.heap x y t u) (o := { cls := .type "tuple", data := .seq #[.ref s.heap.objs.size, .ref (yg1 s.heap x t).objs.size] }) rfl)
  have g2 := m2 _ _ (Heap.get?_push_size (yg1 s.heap x t) (o := txtIt y u) rfl)
  have g1 := m1 _ _ (Heap.get?_push_size s.heap (o := txtIt x t) rfl)
  show _ ∧ _
  rw [z2, z3, z4] at g5
  rw [z1, z2] at g3
  rw [z3] at g4
  rw [z1] at g2
  rw [z4]
  exact ⟨⟨_, g5, rfl⟩, h _ g5 g3 g4 ⟨_, g1, rfl, rfl⟩ ⟨_, g2, rfl, rfl⟩ fun b o e => m1 b o (Heap.get?_push_of_some _ e)⟩
end
section
variable {X : Cx} {es : List Expr} {ct : Nat} {tp : Pos}
def iZipU (K : PySem.W.Frag) (ta : TA) : TI := fun σ H R => ta σ H fun vs H1 => (∃ k l a c, vs = [.ref a, .ref c] ∧ (∃ xs ys, Sq k K H1 a xs ∧ Sq l K H1 c ys) ∧ R (Itz k l K a c) H1) ∨ ∃ la lb, vs = [.str (S la), .str (S lb)] ∧ R (Itzs (signs1 la) (signs1 lb)) H1
theorem pi_zipU (K : PySem.W.Frag) (e : X.K = K) {a b : Expr} {ta : TA} {p pos : Pos} (hg : Gl X "zip") (hm : X.mg "zip" = none) (ha : PA X [a, b] ta)
    (hs : starEach [a, b] X.env = [(false, eval a X.env), (false, eval b X.env)] := by rfl) (hs2 : starEach [b] X.env = [(false, eval b X.env)] := by rfl) :
    PI X (.Tuple es ct tp) (.Call (.Name "zip" p) [a, b] [] pos) (iZipU K ta) := by
  subst e
  intro pins s σ H R I h
  refine Call_ (ld_blt I hg hm boot_zip (PyProof.Rows.callWith_type1 (thn (ha pos pins s σ H _ I h) fun us s1 ⟨vs, H1, I1, r1, q1⟩ => ?_) (by rw [hs, hs2]) (by rw [hs2]; rfl)))
  have fin : ∀ b ∈ [s1.heap.objs.size + 4, s1.heap.objs.size + 2, s1.heap.objs.size + 3, s1.heap.objs.size, s1.heap.objs.size + 1], FpOk X pins H1 b := fun b hb => by
    have hle : s1.heap.objs.size ≤ b := by
      simp only [List.mem_cons, List.not_mem_nil, or_false] at hb
      rcases hb with e | e | e | e | e
      · rw [e]; exact Nat.le_add_right _ _
      · rw [e]; exact Nat.le_add_right _ _
      · rw [e]; exact Nat.le_add_right _ _
      · rw [e]; exact Nat.le_refl _
      · rw [e]; exact Nat.le_add_right _ _
    exact I1.fpOk hle (I1.hok.fresh hle)
  rcases q1 with ⟨k, l, a, c, e, ⟨xs, ys, q1, q2⟩, q⟩ | ⟨la, lb, e, q⟩
  · subst e
    cases r1 with
    | cons r rr =>
      cases rr with
      | cons r' rr =>
        cases rr
        cases r
        cases r'
        obtain ⟨its, rv, p, _⟩ := I1.row q1
        obtain ⟨jts, rv', p', _⟩ := I1.row q2
        refine zipCall p p' fun h' g1 g2 g3 g4 g5 kk => wpAny_pyIter_zip g1 ?_
        have I2 : Inv X pins σ H1 { s1 with heap := h', toks := s1.toks } := I1.kept kk
        exact ⟨s1.heap.objs.size + 4, [s1.heap.objs.size + 4, s1.heap.objs.size + 2, s1.heap.objs.size + 3, s1.heap.objs.size, s1.heap.objs.size + 1], _, _, H1, rfl, I2, turn_zip (i := s1.heap.objs.size) (j := s1.heap.objs.size + 1)
          (za_of _), ⟨g1, g2, ⟨_, _, g3⟩, g4, g5⟩, fin, q⟩
  · subst e
    cases r1 with
    | cons r rr =>
      cases rr with
      | cons r' rr =>
        cases rr
        obtain ⟨t, rfl⟩ := r
        obtain ⟨u, rfl⟩ := r'
        refine zipCallS fun h' g1 g2 g3 g4 g5 kk => wpAny_pyIter_zip g1 ?_
        have I2 : Inv X pins σ H1 { s1 with heap := h', toks := s1.toks } := I1.kept kk
        exact ⟨s1.heap.objs.size + 4, [s1.heap.objs.size + 4, s1.heap.objs.size + 2, s1.heap.objs.size + 3, s1.heap.objs.size, s1.heap.objs.size + 1], _, _, H1, rfl, I2, turn_zipS (i := s1.heap.objs.size) (j := s1.heap.objs.size + 1)
          (za_of _), ⟨g1, g2, ⟨_, _, g3⟩, g4, g5⟩, fin, q⟩
def piZipU (pa : PTA) : PTI := fun ρ Q => pa ρ fun as ρ1 => match as with
  | [.v (.str x), .v (.str y)] => Q (min x.length y.length) (fun k => .tup [.str [x.getD k 0], .str [y.getD k 0]]) ρ1
  | [.v a, .v b] => (match rowD a, rowD b with
    | some xs, some ys => Q (min xs.length ys.length) (fun k => .tup [itD xs k, itD ys k]) ρ1
    | _, _ => False)
  | _ => False
end
section
variable {K : PySem.W.Frag} {ta : TA} {pa : PTA}
theorem wlk_zs {O : Addr → Prop} {H : Hp} {x y : List Nat} : Wlk K O H (Itzs (signs1 x) (signs1 y)) (min x.length y.length) (fun k => .tup [.str [x.getD k 0], .str [y.getD k 0]]) := fun O' H' kk dom => by
  refine ⟨fun j hj => ?_, ?_⟩
  · have h1 : j < (signs1 x).length := by rw [signs1_len]; omega
    have h2 : j < (signs1 y).length := by rw [signs1_len]; omega
    refine ⟨⟨_, _, List.getElem?_eq_getElem h1, List.getElem?_eq_getElem h2⟩, fun v H'' ⟨T, u, w, hT, e, y1, y2, e2⟩ => ?_⟩
    subst e e2
    obtain ⟨c, hc, rfl⟩ := signs1_get y1
    obtain ⟨d, hd, rfl⟩ := signs1_get y2
    show Gr H' _ ∧ FV K O' _ _ (.tup [.str [x.getD j 0], .str [y.getD j 0]])
    rw [List.getD_eq_getElem?_getD, List.getD_eq_getElem?_getD, hc, hd]
    exact ⟨Gr.new hT, .tup (fun z => dom T z hT) upd_same (.cons (.str _ (by show 1 ≤ 1000000; decide)) (.cons (.str _ (by show 1 ≤ 1000000; decide)) .nil))⟩
  · show (signs1 x).length ≤ _ ∨ (signs1 y).length ≤ _
    rw [signs1_len, signs1_len]; omega
theorem li_zipU (h : LAs K ta pa) : LI K (iZipU K ta) (piZipU pa) := fun A ρ σ H Q Q' R q k => h A ρ σ H _ _ R q fun vs H1 as ρ1 q1 f1 R1 o1 => by
  split at q1
  · rename_i x y
    cases o1 with
    | cons o1 o2 =>
      cases o2 with
      | cons o2 o3 =>
        cases o3
        have f1' : FV K _ H1 _ (.str x) := o1
        have f2' : FV K _ H1 _ (.str y) := o2
        cases f1'
        cases f2'
        exact .inr ⟨x, y, rfl, k _ H1 _ _ ρ1 q1 f1 R1 wlk_zs⟩
  · rename_i da db hno
    have := li_zip (K := K) (ta := ta) (pa := pa) h
    cases o1 with
    | cons o1 o2 =>
      cases o2 with
      | cons o2 o3 =>
        cases o3
        split at q1
        · rename_i xs ys ex ey
          obtain ⟨b1, a1, us, rfl, l1, w1⟩ := FV.rowD (show FV K _ H1 _ da from o1) ex
          obtain ⟨b2, a2, ws, rfl, l2, w2⟩ := FV.rowD (show FV K _ H1 _ db from o2) ey
          have t1 := w1 _ H1 (fun b o n h => ⟨n, h⟩)
          have t2 := w2 _ H1 (fun b o n h => ⟨n, h⟩)
          refine .inl ⟨b1, b2, a1, a2, rfl, ⟨us, ws, t1.1, t2.1⟩, k _ H1 _ _ ρ1 q1 f1 R1 fun O' H' kk dom => ?_⟩
          obtain ⟨s1, g1⟩ := w1 O' H' kk
          obtain ⟨s2, g2⟩ := w2 O' H' kk
          refine ⟨fun j hj => ?_, ⟨us, ws, s1, s2, by omega⟩⟩
          have h1 : j < us.length := by omega
          have h2 : j < ws.length := by omega
          refine ⟨⟨us, ws, _, _, s1, s2, List.getElem?_eq_getElem h1, List.getElem?_eq_getElem h2⟩, fun x H'' ⟨T, u, w, hT, e, y1, y2, e2⟩ => ?_⟩
          subst e e2
          obtain ⟨d1, hd1, fd1⟩ := g1.get (y1 us s1)
          obtain ⟨d2, hd2, fd2⟩ := g2.get (y2 ws s2)
          have e1 : itD xs j = d1 := by unfold itD; rw [List.getD_eq_getElem?_getD, hd1]; rfl
          have e2 : itD ys j = d2 := by unfold itD; rw [List.getD_eq_getElem?_getD, hd2]; rfl
          rw [e1, e2]
          have kk2 : Keeps O' H' O' (upd H' T (.tup [u, w])) := fun b o n e => ⟨n, by rw [upd_ne (ne_of_none e hT)]; exact e⟩
          exact ⟨Gr.new hT, .tup (fun z => dom T z hT) upd_same (.cons (fd1.keeps kk2) (.cons (fd2.keeps kk2) .nil))⟩
        · exact q1.elim
  · exact q1.elim
end
end L2
namespace L2
open PySem PySem.Spec PyProof.Rows
section
variable {X : Cx} {K : PySem.W.Frag} {te : TE} {pe : PTE}
def rSortL (K : PySem.W.Frag) : List V → Hp → VK → Prop := fun xs H Q => ∃ (p : Addr) (ns : List Int), xs = [.ref p] ∧ SqL K H p (ns.map V.int) ∧ ns.length < 64 ∧ ∀ ns' : List Int, ns'.Perm ns → ns'.Pairwise (· ≤ ·) → ∀ q, H q = none → Q (.ref q) (upd H q (.lst (ns'.map V.int)))
theorem u_sortL (K : PySem.W.Frag) (e : X.K = K) : CallR X (.builtin "sorted") (rSortL K) := by
 subst e
 intro pins s σ H xs us Q I r h
 obtain ⟨p, ns, rfl, hS, hne, q⟩ := h
 obtain ⟨u, rfl, ru⟩ := vals1 r
 cases (show u = Value.ref p from ru)
 obtain ⟨its, rv, pl, hz⟩ := I.list hS
 have hi := intsAre_of rv
 have hlen : its.length = ns.length := by have := rv.length; rw [List.length_map] at this; exact this.symm
 refine sorted_ints pl.isList hi (by omega) fun out ns' ho hp hs => ?_
 obtain ⟨e, he⟩ := sortedAll_at s.heap its out
 have hle : s.heap.objs.size ≤ s.heap.objs.size + 1 := Nat.le_succ _
 refine ⟨.ref (s.heap.objs.size + 1), _, I.laid (a := s.heap.objs.size + 1) (o := .lst (ns'.map V.int)) (t' := s.toks) (fun b o z => sortedAll_old z) hle ?_, rfl, q ns' hp hs _ (I.hok.fresh hle)⟩
 refine ⟨?_, out.toList, e, vals_ints ho, he⟩
 rw [List.length_map, hp.length_eq]
 exact sz _ (by omega)
end
end L2
namespace L2
open PySem PySem.Spec PyProof.Rows
abbrev lc2 (elt t1 i1 : Expr) (f1 : List Expr) (t2 i2 : Expr) (f2 : List Expr) (scope : Scope) (pos : Pos) : Expr := .ListComp elt [⟨t1, i1, f1, 0⟩, ⟨t2, i2, f2, 0⟩] scope pos
def emit2 (e i2 : Expr) (acc : Value) (env : Env) : Sem Unit := do
 let x ← eval i2 env
 standAt i2.pos
 let x ← foldedSetIterable i2 env x
 let _ ← runOwn (.compStart e 1 (← holding [x] (pyIter x)) acc env) env
def emit1 (elt : Expr) (acc : Value) (env : Env) : Sem Unit := do let _ ← call (.builtin "list.append") [acc, ← eval elt env]
theorem compTurn20 (elt t1 i1 : Expr) (f1 : List Expr) (t2 i2 : Expr) (f2 : List Expr) (scope : Scope) (pos : Pos) (it acc : Value) (env : Env) :
  compTurn (lc2 elt t1 i1 f1 t2 i2 f2 scope pos) 0 it acc env = (do
   standAt i1.pos
   match ← pyNext it with
   | none => pure (.done .next)
   | some v =>
    letOwnedTupleGo t1 it v
    assign t1 env v
    let mut ok := true
    for c in f1 do
     if ok then ok ← isTrue c env (eval c env)
    if ok then
     let x ← eval i2 env
     standAt i2.pos
     let x ← foldedSetIterable i2 env x
     let _ ← runOwn (.compStart (lc2 elt t1 i1 f1 t2 i2 f2 scope pos) 1 (← holding [x] (pyIter x)) acc env) env
    again (.compLoop (lc2 elt t1 i1 f1 t2 i2 f2 scope pos) 0 it acc env)) := by rfl
theorem emit2_bind {α : Type} (e i2 : Expr) (acc : Value) (env : Env) (k : Sem α) : (eval i2 env >>= fun x => standAt i2.pos >>= fun _ => foldedSetIterable i2 env x >>= fun x => holding [x] (pyIter x) >>= fun it => runOwn (.compStart e 1 it acc env) env >>= fun _ => k) = (emit2 e i2 acc env >>= fun _ => k) := by
 unfold emit2
 simp only [bind_assoc, pure_bind]
theorem compTurn21 (elt t1 i1 : Expr) (f1 : List Expr) (t2 i2 : Expr) (f2 : List Expr) (scope : Scope) (pos : Pos) (it acc : Value) (env : Env) :
  compTurn (lc2 elt t1 i1 f1 t2 i2 f2 scope pos) 1 it acc env = (do
   standAt i2.pos
   match ← pyNext it with
   | none => pure (.done .next)
   | some v =>
    letOwnedTupleGo t2 it v
    assign t2 env v
    let mut ok := true
    for c in f2 do
     if ok then ok ← isTrue c env (eval c env)
    if ok then
     (emit1 elt acc env)
    again (.compLoop (lc2 elt t1 i1 f1 t2 i2 f2 scope pos) 1 it acc env)) := by rfl
section
variable {prog : Program} {w : World} {A : Around} {R : Result → Shared → Prop} {s : Shared}
theorem codeAny_comp20 {elt t1 i1 t2 i2 : Expr} {f1 f2 : List Expr} {scope : Scope} {pos : Pos} {it acc : Value} {env : Env} (I : Nat → Shared → Prop)
  (turn : ∀ n s, I n s → wpAny (model prog w) A (pyNext it) (fun r s₁ => match r with
   | none => R (.ok .next) s₁
   | some v => wpAny (model prog w) A (letOwnedTupleGo t1 it v) (fun _ s₂ => wpAny (model prog w) A (assign t1 env v) (fun _ s₃ =>
     wpAny (model prog w) A (forIn f1 true fun c r => if r = true then do let ok ← isTrue c env (eval c env); pure (ForInStep.yield ok) else pure (ForInStep.yield r)) (fun ok s₄ =>
      if ok = true then wpAny (model prog w) A (emit2 (lc2 elt t1 i1 f1 t2 i2 f2 scope pos) i2 acc env) (fun _ s₆ => ∃ m, m < n ∧ I m s₆) (fun _ _ => False) s₄
      else ∃ m, m < n ∧ I m s₄) (fun _ _ => False) s₃) (fun _ _ => False) s₂) (fun _ _ => False) s₁) (fun _ _ => False) s)
  (n : Nat) (h : I n s) :
  codeAny (model prog w) A (.compLoop (lc2 elt t1 i1 f1 t2 i2 f2 scope pos) 0 it acc env) R s := by
 refine codeAny_loop rfl I (fun n s hI => ?_) n h
 show wpAny _ A ((compTurn (lc2 elt t1 i1 f1 t2 i2 f2 scope pos) 0 it acc env).onRaise (fun x => do noteFrame x env; theTreesLotGoes x)) _ _ s
 refine wpAny_noted ?_
 rw [compTurn20]
 refine wpAny_bind (wpAny_standAt (wpAny_bind (wpAny_mono (turn n s hI) (fun r s₁ h₁ => ?_) fun _ _ h' => h'.elim)))
 cases r with
 | none => exact wpAny_pure h₁
 | some v =>
  refine wpAny_bind (wpAny_mono h₁ (fun _ s₂ h₂ => ?_) fun _ _ h' => h'.elim)
  refine wpAny_bind (wpAny_mono h₂ (fun _ s₃ h₃ => wpAny_bind (wpAny_mono h₃ (fun ok s₄ h₄ => ?_) fun _ _ h' => h'.elim)) fun _ _ h' => h'.elim)
  cases ok with
  | false => exact wpAny_pure ⟨rfl, h₄⟩
  | true =>
   have e := emit2_bind (lc2 elt t1 i1 f1 t2 i2 f2 scope pos) i2 acc env (again (.compLoop (lc2 elt t1 i1 f1 t2 i2 f2 scope pos) 0 it acc env))
   show wpAny _ _ (eval i2 env >>= fun x => standAt i2.pos >>= fun _ => foldedSetIterable i2 env x >>= fun x => holding [x] (pyIter x) >>= fun it' => runOwn (.compStart (lc2 elt t1 i1 f1 t2 i2 f2 scope pos) 1 it' acc env) env >>= fun _ => again (.compLoop (lc2 elt t1 i1 f1 t2 i2 f2 scope pos) 0 it acc env)) _ _ _
   rw [e]
   exact wpAny_bind (wpAny_mono h₄ (fun _ s₆ h₆ => wpAny_pure ⟨rfl, h₆⟩) fun _ _ h' => h'.elim)
theorem codeAny_comp21 {elt t1 i1 t2 i2 : Expr} {f1 f2 : List Expr} {scope : Scope} {pos : Pos} {it acc : Value} {env : Env} (I : Nat → Shared → Prop)
  (turn : ∀ n s, I n s → wpAny (model prog w) A (pyNext it) (fun r s₁ => match r with
   | none => R (.ok .next) s₁
   | some v => wpAny (model prog w) A (letOwnedTupleGo t2 it v) (fun _ s₂ => wpAny (model prog w) A (assign t2 env v) (fun _ s₃ =>
     wpAny (model prog w) A (forIn f2 true fun c r => if r = true then do let ok ← isTrue c env (eval c env); pure (ForInStep.yield ok) else pure (ForInStep.yield r)) (fun ok s₄ =>
      if ok = true then wpAny (model prog w) A (emit1 elt acc env) (fun _ s₆ => ∃ m, m < n ∧ I m s₆) (fun _ _ => False) s₄
      else ∃ m, m < n ∧ I m s₄) (fun _ _ => False) s₃) (fun _ _ => False) s₂) (fun _ _ => False) s₁) (fun _ _ => False) s)
  (n : Nat) (h : I n s) :
  codeAny (model prog w) A (.compLoop (lc2 elt t1 i1 f1 t2 i2 f2 scope pos) 1 it acc env) R s := by
 refine codeAny_loop rfl I (fun n s hI => ?_) n h
 show wpAny _ A ((compTurn (lc2 elt t1 i1 f1 t2 i2 f2 scope pos) 1 it acc env).onRaise (fun x => do noteFrame x env; theTreesLotGoes x)) _ _ s
 refine wpAny_noted ?_
 rw [compTurn21]
 refine wpAny_bind (wpAny_standAt (wpAny_bind (wpAny_mono (turn n s hI) (fun r s₁ h₁ => ?_) fun _ _ h' => h'.elim)))
 cases r with
 | none => exact wpAny_pure h₁
 | some v =>
  refine wpAny_bind (wpAny_mono h₁ (fun _ s₂ h₂ => ?_) fun _ _ h' => h'.elim)
  refine wpAny_bind (wpAny_mono h₂ (fun _ s₃ h₃ => wpAny_bind (wpAny_mono h₃ (fun ok s₄ h₄ => ?_) fun _ _ h' => h'.elim)) fun _ _ h' => h'.elim)
  cases ok with
  | false => exact wpAny_pure ⟨rfl, h₄⟩
  | true => exact wpAny_bind (wpAny_mono h₄ (fun _ s₆ h₆ => wpAny_pure ⟨rfl, h₆⟩) fun _ _ h' => h'.elim)
theorem codeAny_compStart2 {elt t1 i1 t2 i2 : Expr} {f1 f2 : List Expr} {scope : Scope} {pos : Pos} {it acc : Value} {env : Env}
  (h0 : codeAny (model prog w) A (.compLoop (lc2 elt t1 i1 f1 t2 i2 f2 scope pos) 1 it acc env) R s)
  (h : wpAny (model prog w) A (pyIter it) (fun it' s' => codeAny (model prog w) A (.compLoop (lc2 elt t1 i1 f1 t2 i2 f2 scope pos) 1 it' acc env) R s')
   (notedBy (model prog w) A env fun x s' => R (.error x) s') s) :
  codeAny (model prog w) A (.compStart (lc2 elt t1 i1 f1 t2 i2 f2 scope pos) 1 it acc env) R s := by
 refine codeAny_of_tree ?_
 show wpAny _ _ ((compStart (lc2 elt t1 i1 f1 t2 i2 f2 scope pos) 1 it acc env).onRaise (fun x => do noteFrame x env; standAt theWindowsPlace)) _ _ s
 refine wpAny_notedAt ?_
 unfold compStart
 show wpAny _ _ (ask >>= _) _ _ s
 refine wpAny_bind (wpAny_askSetting (wpAny_ite ?_))
 split
 ·first
   | exact wpAny_bind (wpAny_pure (wpAny_pure (And.intro rfl h0)))
   | exact wpAny_pure (And.intro rfl h0)
 ·first
   | exact wpAny_bind (wpAny_rule (wpAny_bind (wpAny_standAt (wpAny_bind (wpAny_mono h (fun it' s' h' => wpAny_pure (And.intro rfl h')) fun _ _ x => x)))))
end
abbrev TB := St → Hp → (St → Hp → Prop) → Prop
def PB (Y : Cx) (emit : Sem Unit) (tb : TB) : Prop := ∀ (pins : List (Addr × Obj)) (s : Shared) (τ : St) (H : Hp) (N : St → Hp → Prop), Inv Y pins τ H s → tb τ H N →
 wpAny (model Y.prog Y.w) Y.A emit (fun _ s' => ∃ τ' H', Inv Y pins τ' H' s' ∧ N τ' H') (fun _ _ => False) s
def tEmit (te : TE) (D : Addr) : TB := fun τ H N => te τ H fun v H6 => ∃ ys, H6 D = some (.lst ys) ∧ ys.length < sizeLine ∧ N τ (upd H6 D (.lst (ys ++ [v])))
def tLoop (wi : TI) (g : TG) (tts : TT) (tb : TB) : TB := fun τ H N => wi τ H fun J H6 => ∃ W : Nat → Nat → St → Hp → Prop, (∃ n, W 0 n τ H6) ∧ ∀ j n τ3 H7, W j n τ3 H7 →
 (J.stop j H7 ∧ N τ3 H7) ∨ (J.go j H7 ∧ ∀ y H8, J.yld j H7 y H8 → g y τ3 H8 fun τ4 H9 => tts τ4 H9 fun ok H10 => if ok = true then tb τ4 H10 (fun τ5 H11 => ∃ n', n' < n ∧ W (j + 1) n' τ5 H11) else ∃ n', n' < n ∧ W (j + 1) n' τ4 H10)
def tComp2 (ix : List (Option Nat)) (wi : TI) (g : TG) (tts : TT) (tb : Addr → TB) : TE := fun σ H Q => wi σ H fun J H1 => ∀ D, H1 D = none → ∃ W : Nat → Nat → St → Hp → Prop, (∃ m, W 0 m (sub0 ix σ) (upd H1 D (.lst []))) ∧ ∀ i m τ H2, W i m τ H2 →
 (J.stop i H2 ∧ Q (.ref D) H2) ∨ (J.go i H2 ∧ ∀ x H3, J.yld i H2 x H3 → g x τ H3 fun τ2 H4 => tts τ2 H4 fun ok H5 => if ok = true then tb D τ2 H5 (fun τ6 H6 => ∃ m', m' < m ∧ W (i + 1) m' τ6 H6)
  else ∃ m', m' < m ∧ W (i + 1) m' τ2 H5)
section
variable {Y : Cx} {elt t1 i1 t2 i2 : Expr} {f1 f2 : List Expr} {scope : Scope} {pos : Pos} {te : TE} {D : Addr} {wi : TI} {g : TG} {tts : TT} {tb : TB}
theorem pb_emit (hx : Y.xe = fun _ _ => False) (he : PE Y elt te) : PB Y (emit1 elt (.ref D) Y.env) (tEmit te D) := by
 intro pins s τ H N I h
 have h1 := he pins s τ H _ I h
 rw [hx] at h1
 unfold emit1
 refine wpAny_bind (thn h1 fun v s1 ⟨x, H1, I1, r1, ys, hD, hz, q⟩ => ?_)
 have h2 := mt_append (X := Y) pins s1 τ H1 (.ref D) [x] (.ref D) [v] (fun _ H' => N τ H') I1 rfl (.cons r1 .nil) ⟨D, ys, x, rfl, rfl, hD, hz, q⟩
 rw [hx] at h2
 exact wpAny_bind (thn h2 fun _ s2 ⟨_, H2, I2, _, q2⟩ => wpAny_pure ⟨τ, H2, I2, q2⟩)
theorem pb_loop (hx : Y.xe = fun _ _ => False) (hc : Y.calm = true) (hi : PI Y t2 i2 wi) (hg : PG Y t2 g) (ht : PIf Y f2 tts) (hb : PB Y (emit1 elt (.ref D) Y.env) tb) (hs : ∀ x, foldedSetIterable i2 Y.env x = pure x := by intro _; rfl) :
  PB Y (emit2 (lc2 elt t1 i1 f1 t2 i2 f2 scope pos) i2 (.ref D) Y.env) (tLoop wi g tts tb) := by
 intro pins s τ H N I h
 have h1 := hi pins s τ H _ I h
 rw [hx] at h1
 unfold emit2
 refine wpAny_bind (thn h1 fun v s1 h1 => wpAny_bind (wpAny_standAt (wpAny_bind (wpAny_of_eq (hs v) (wpAny_bind (wpAny_holding (thn h1 fun itv s2 h2 => wpAny_bind (wpAny_runOwn ?_))))))))
 obtain ⟨it, fp, tn, J, H2, e, I2, T, st2, f2', W, ⟨m0, w0⟩, turn⟩ := h2
 subst e
 have stat : ∀ {H' : Hp}, (∀ b ∈ fp, H' b = none) → ∀ b ∈ fp, FpOk Y pins H' b := fun hn b hb => ⟨hn b hb, (f2' b hb).2⟩
 have loop : ∀ s3 : Shared, Inv Y pins τ H2 s3 → tn 0 s3.heap → codeAny (model Y.prog Y.w) Y.A (.compLoop (lc2 elt t1 i1 f1 t2 i2 f2 scope pos) 1 (.ref it) (.ref D) Y.env)
   (fun r s' => match r with | .ok f => wpAny (model Y.prog Y.w) Y.A (pure ()) (fun _ s' => ∃ τ' H', Inv Y pins τ' H' s' ∧ N τ' H') (fun _ _ => False) s' | .error e => cameBackBy (model Y.prog Y.w) Y.A Y.env (fun _ _ => False) e s') s3 := by
  intro s3 I3 st3
  refine codeAny_comp21 (fun n s' => ∃ i τ' H', Inv Y pins τ' H' s' ∧ tn i s'.heap ∧ (∀ b ∈ fp, H' b = none) ∧ W i n τ' H') ?_ m0 ⟨0, τ, H2, I3, st3, fun b hb => (f2' b hb).1, w0⟩
  rintro n s5 ⟨i, τ5, H5, I5, st5, fr5, w5⟩
  rcases turn i n τ5 H5 w5 with ⟨stop, qn⟩ | ⟨go, step⟩
  ·refine thn (T.done Y rfl rfl rfl hc i pins s5 τ5 H5 (fun _ _ => False) I5 (stat fr5) st5 stop) fun r s6 ⟨hr, I6⟩ => ?_
   subst hr
   exact wpAny_pure ⟨τ5, H5, I6, qn⟩
  ·refine thn (T.item Y rfl rfl rfl hc i pins s5 τ5 H5 (fun _ _ => False) I5 (stat fr5) st5 go) fun r s6 ⟨u, hr, h6⟩ => ?_
   subst hr
   refine thn h6 fun _ s7 ⟨x, H7, I7, r7, y7, st7, fr7⟩ => ?_
   have I7' := I7.pinned (stat fr7) (T.obj _ _ st7)
   have again : ∀ {s8 : Shared} {τ8 : St} {H8 : Hp}, Inv Y (pins ++ pinsAt fp s7.heap) τ8 H8 s8 → (∃ m', m' < n ∧ W (i + 1) m' τ8 H8) →
     ∃ m, m < n ∧ ∃ i τ' H', Inv Y pins τ' H' s8 ∧ tn i s8.heap ∧ (∀ b ∈ fp, H' b = none) ∧ W i m τ' H' := fun {s8 τ8 H8} I8 ⟨m', hm, w8⟩ => by
    refine ⟨m', hm, i + 1, τ8, H8, I8.unpinned, T.keep _ _ _ st7 fun b hb o e => (I8.pin (b, o) (List.mem_append_right _ (List.mem_append_right _ (mem_pinsAt hb e)))).1, fun b hb => ?_, w8⟩
    obtain ⟨o, e, d⟩ := T.obj _ _ st7 b hb
    exact (I8.pin (b, o) (List.mem_append_right _ (List.mem_append_right _ (mem_pinsAt hb e)))).2.1
   have h8 := hg _ s7 τ5 H7 x u _ I7' r7 (step x H7 y7)
   rw [hx] at h8
   refine thn h8 fun _ s8 ⟨τ8, H8, I8, q8⟩ => ?_
   have h9 := ht _ s8 τ8 H8 _ I8 q8
   rw [hx] at h9
   refine thn h9 fun okb s9 ⟨H9, I9, q9⟩ => ?_
   cases okb with
   | false =>
    rw [if_neg Bool.false_ne_true] at q9
    rw [if_neg Bool.false_ne_true]
    exact again I9 q9
   | true =>
    rw [if_pos rfl] at q9
    rw [if_pos rfl]
    exact thn (hb _ s9 τ8 H9 _ I9 q9) fun _ s10 ⟨τ10, H10, I10, q10⟩ => again I10 q10
 exact codeAny_compStart2 (loop _ I2 st2) (T.self Y.A 0 _ _ _ st2 (loop _ I2 st2))
end
section
variable {X : Cx} {elt t1 i1 t2 i2 : Expr} {f1 f2 : List Expr} {scope : Scope} {N' : List Str} {ix : List (Option Nat)} {wi : TI} {g : TG} {tts : TT} {tb : Addr → TB}
theorem comp_core2 {use : Option (Value → Sem Unit)} {Qf : Value → Shared → Prop} {pos p' : Pos} {pins : List (Addr × Obj)} {σ : St} {H : Hp} {s : Shared} {Q : VK} (hc : X.calm = true) (ok : CompOk X.env X.N scope N' ix) (hi : PI X t1 i1 wi)
  (blk : ∀ s H fp pn D, PG (compCx X N' scope s H fp pn) t1 g ∧ PIf (compCx X N' scope s H fp pn) f1 tts ∧ PB (compCx X N' scope s H fp pn) (emit2 (lc2 elt t1 i1 f1 t2 i2 f2 scope pos) i2 (.ref D) (compEnv scope s.heap.objs.size X.env)) (tb D))
  (hs : ∀ x, foldedSetIterable i1 X.env x = pure x) (I : Inv X pins σ H s) (hw : tComp2 ix wi g tts tb σ H Q)
  (fin : ∀ D C H' s', Inv X pins σ H' s' → Q (.ref D) H' → (∃ m, s'.heap.Ns C m) → H' C = none → X.s₀.heap.objs.size ≤ C → C ≠ X.env.locals → (∀ x c, X.env.cells.lookup x = some c → c ≠ C) → C ∉ X.fs → (∀ p ∈ X.pn ++ pins, p.1 ≠ C) →
   compPost (model X.prog X.w) X.A X.xe use Qf (.ref D) C (.ok .next) s') :
  wpAny (model X.prog X.w) X.A (comprehension (lc2 elt t1 i1 f1 t2 i2 f2 scope pos) scope X.env p' (newList []) false (eval i1 X.env) use) Qf X.xe s := by
 have hclos : closureFor scope X.env = pure (closL X.env scope.names []) := closureFor_closL fun y hy e => I.ok.has y.1 (ok.free y hy e).1
 refine wpAny_comprehension_free (use := use) rfl hs hclos ok.kind ok.loc (thn (hi pins s σ H _ I hw) fun v s1 h1 => thn h1 fun itv s2 h2 => ?_)
 obtain ⟨it, fp, tn, J, H2, e, I2, T, st2, fq2, hW⟩ := h2
 subst e
 obtain ⟨W, ⟨m0, w0⟩, turn⟩ := hW s2.heap.objs.size (I2.hok.fresh (Nat.le_refl _))
 have hfl : ∀ b ∈ fp, b < s2.heap.objs.size := fun b hb => by
  obtain ⟨o, e, _⟩ := T.obj 0 _ st2 b hb
  exact Heap.lt_size e
 refine wpAny_newObj_type ?_
 have I3 : Inv X pins σ (upd H2 s2.heap.objs.size (.lst [])) { s2 with heap := s2.heap.push { cls := .type "list", dict := none, data := .seq ([] : List Value).toArray } } :=
  I2.laid (t' := s2.toks) (fun b o e => Heap.get?_push_of_some _ e) (Nat.le_refl _) (show ObjOk X.prog X.w _ _ _ (.lst []) from ⟨Nat.zero_le _, [], 0, .nil, Heap.get?_push_size _ rfl⟩)
 have st3 : tn 0 (s2.heap.push { cls := .type "list", dict := none, data := .seq ([] : List Value).toArray }) := T.keep 0 _ _ st2 fun b _ o e => Heap.get?_push_of_some _ e
 have f3 : ∀ b ∈ fp, FpOk X pins (upd H2 s2.heap.objs.size (.lst [])) b := fun b hb => ⟨by rw [upd_ne (Nat.ne_of_lt (hfl b hb))]; exact (fq2 b hb).1, (fq2 b hb).2⟩
 have hfl3 : ∀ b ∈ fp, b < (s2.heap.push { cls := .type "list", dict := none, data := .seq ([] : List Value).toArray }).objs.size := fun b hb => by rw [Heap.size_push]; exact Nat.lt_succ_of_lt (hfl b hb)
 generalize hs3 : ({ s2 with heap := s2.heap.push { cls := .type "list", dict := none, data := .seq ([] : List Value).toArray } } : Shared) = s3 at I3 ⊢
 have eh3 : s3.heap = s2.heap.push { cls := .type "list", dict := none, data := .seq ([] : List Value).toArray } := by rw [← hs3]
 rw [← eh3] at st3 hfl3
 generalize hH3 : upd H2 s2.heap.objs.size (.lst []) = H3 at I3 f3 w0
 generalize hD : s2.heap.objs.size = D at *
 refine newFunctionEnv_comp ?_
 have I4 := comp_inv ok I3 f3 hfl3
 obtain ⟨hg, ht, he⟩ := blk s3 H3 fp pins D
 have st4 : tn 0 (pushCells (s3.heap.push { cls := .type "dict", data := .dict #[] }) scope.names) := T.keep 0 _ _ st3 fun b _ o e => pushCells_keeps _ _ b o (Heap.get?_push_of_some _ e)
 have stat : ∀ {H' : Hp}, (∀ b ∈ fp, H' b = none) → ∀ b ∈ fp, FpOk (compCx X N' scope s3 H3 fp pins) [] H' b := fun hn b hb => by
  refine ⟨hn b hb, Nat.ne_of_lt (hfl3 b hb), I4.ok.exfs b hb, .inl hb, (I4.ok.exf b hb).2, fun p hp => ?_⟩
  have hp' : p ∈ X.pn ++ pins := by simpa [compCx] using hp
  exact (fq2 b hb).2.2.2.2.2 p hp'
 have loop : ∀ (s4 : Shared), Inv (compCx X N' scope s3 H3 fp pins) [] (sub0 ix σ) H3 s4 → tn 0 s4.heap →
   codeAny (model X.prog X.w) X.A (.compLoop (lc2 elt t1 i1 f1 t2 i2 f2 scope pos) 0 (.ref it) (.ref D) (compEnv scope s3.heap.objs.size X.env)) (compPost (model X.prog X.w) X.A X.xe use Qf (.ref D) s3.heap.objs.size) s4 := by
  intro s4 I4 st4
  refine codeAny_comp20 (fun n s' => ∃ i τ H', Inv (compCx X N' scope s3 H3 fp pins) [] τ H' s' ∧ tn i s'.heap ∧ (∀ b ∈ fp, H' b = none) ∧ W i n τ H') ?_ m0 ⟨0, _, H3, I4, st4, fun b hb => (f3 b hb).1, w0⟩
  rintro n s5 ⟨i, τ, H5, I5, st5, fr5, w5⟩
  rcases turn i n τ H5 w5 with ⟨stop, qn⟩ | ⟨go, step⟩
  ·refine thn (T.done (compCx X N' scope s3 H3 fp pins) rfl rfl rfl hc i [] s5 τ H5 (fun _ _ => False) I5 (stat fr5) st5 stop) fun r s6 ⟨hr, I6⟩ => ?_
   subst hr
   have I7 : Inv X pins σ H5 s6 := I3.call' (ch := fp) I6.os I6.base I6.hok I6.bare fun b hb => ⟨(fq2 b hb).2.2.2.1, (fq2 b hb).2.1, (fq2 b hb).2.2.2.2.1, (fq2 b hb).2.2.2.2.2⟩
   obtain ⟨m6, hn6, _⟩ := I6.loc
   refine fin D s3.heap.objs.size H5 s6 I7 qn ⟨m6, hn6⟩ I6.free ?_ ?_ ?_ ?_ ?_
   ·exact I3.sz
   ·exact Nat.ne_of_gt I3.lt
   ·intro x c e z
    obtain ⟨v, q⟩ := I3.cell x c e
    have := q.lt
    rw [z] at this
    exact Nat.lt_irrefl _ this
   ·exact I3.nofs (Nat.le_refl _)
   ·intro p hp z
    have := Heap.lt_size (I3.pin p hp).1
    rw [z] at this
    exact Nat.lt_irrefl _ this
  ·refine thn (T.item (compCx X N' scope s3 H3 fp pins) rfl rfl rfl hc i [] s5 τ H5 (fun _ _ => False) I5 (stat fr5) st5 go) fun r s6 ⟨u, hr, h6⟩ => ?_
   subst hr
   refine thn h6 fun _ s7 ⟨x, H7, I7, r7, y7, st7, fr7⟩ => ?_
   have I7' := I7.pinned (stat fr7) (T.obj _ _ st7)
   have again : ∀ {s8 : Shared} {τ8 : St} {H8 : Hp}, Inv (compCx X N' scope s3 H3 fp pins) ([] ++ pinsAt fp s7.heap) τ8 H8 s8 → (∃ m', m' < n ∧ W (i + 1) m' τ8 H8) →
     ∃ m, m < n ∧ ∃ i τ H', Inv (compCx X N' scope s3 H3 fp pins) [] τ H' s8 ∧ tn i s8.heap ∧ (∀ b ∈ fp, H' b = none) ∧ W i m τ H' := fun {s8 τ8 H8} I8 ⟨m', hm, w8⟩ => by
    refine ⟨m', hm, i + 1, τ8, H8, I8.unpinned, T.keep _ _ _ st7 fun b hb o e => (I8.pin (b, o) (List.mem_append_right _ (List.mem_append_right _ (mem_pinsAt hb e)))).1, fun b hb => ?_, w8⟩
    obtain ⟨o, e, d⟩ := T.obj _ _ st7 b hb
    exact (I8.pin (b, o) (List.mem_append_right _ (List.mem_append_right _ (mem_pinsAt hb e)))).2.1
   refine thn (hg _ s7 τ H7 x u _ I7' r7 (step x H7 y7)) fun _ s8 ⟨τ8, H8, I8, q8⟩ => ?_
   refine thn (ht _ s8 τ8 H8 _ I8 q8) fun okb s9 ⟨H9, I9, q9⟩ => ?_
   cases okb with
   | false =>
    rw [if_neg Bool.false_ne_true] at q9
    rw [if_neg Bool.false_ne_true]
    exact again I9 q9
   | true =>
    rw [if_pos rfl] at q9
    rw [if_pos rfl]
    refine thn (he _ s9 τ8 H9 _ I9 q9) fun _ s10 ⟨τ10, H10, I10, q10⟩ => ?_
    exact again I10 q10
 exact codeAny_compStart_list (loop _ I4 st4) (T.self X.A 0 _ _ _ st4 (loop _ I4 st4))
theorem pe_comp2 {pos : Pos} {wi2 : TI} {g2 : TG} {tts2 : TT} {te : TE} (N' : List Str) (ix : List (Option Nat)) (hc : X.calm = true) (hi : PI X t1 i1 wi)
  (blk : ∀ s H fp pn, PG (compCx X N' scope s H fp pn) t1 g ∧ PIf (compCx X N' scope s H fp pn) f1 tts ∧ PI (compCx X N' scope s H fp pn) t2 i2 wi2 ∧ PG (compCx X N' scope s H fp pn) t2 g2 ∧ PIf (compCx X N' scope s H fp pn) f2 tts2 ∧ PE (compCx X N' scope s H fp pn) elt te)
  (chk : compChk X.env.scope X.N scope N' ix = true) (hs : ∀ x, foldedSetIterable i1 X.env x = pure x := by intro _; rfl) (hs2 : ∀ (env : Env) x, foldedSetIterable i2 env x = pure x := by intro _ _; rfl) :
  PE X (.ListComp elt [⟨t1, i1, f1, 0⟩, ⟨t2, i2, f2, 0⟩] scope pos) (tComp2 ix wi g tts fun D => tLoop wi2 g2 tts2 (tEmit te D)) := by
 intro pins s σ H Q I hw
 rw [eval_ListComp]
 refine comp_core2 (use := none) hc (compOk_of chk) hi (fun s H fp pn D => ?_) hs I hw fun D C H' s' I' q hm hn h1 h2 h3 h4 h5 => ?_
 ·obtain ⟨b1, b2, b3, b4, b5, b6⟩ := blk s H fp pn
  exact ⟨b1, b2, pb_loop (Y := compCx X N' scope s H fp pn) rfl hc b3 b4 b5 (pb_emit rfl b6) (hs2 _)⟩
 ·obtain ⟨m, hm⟩ := hm
  refine ⟨m, hm, fun h' sb => ⟨.ref D, H', ?_, rfl, q⟩⟩
  exact I'.turned (t' := s'.toks) (fun b o hb e => (sb.2 b hb).trans e) hn h2 (.inr h1) h3 h5
end
end L2
namespace L2
open PySem PySem.Spec PyProof.Rows
theorem kpt {O O1 O2 : Addr → Prop} {H H1 H2 : Hp} (a : Keeps O H O1 H1) (b : Keeps O1 H1 O2 H2) : Keeps O H O2 H2 := fun c o n e => b c o (a c o n e).1 (a c o n e).2
structure CompG2 (ix : List (Option Nat)) (ρ1 : PSt) (n : Nat) (it : Nat → D) (g : PTG) (pt : PTT) (pi2 : PTI) (g2 : PTG) (pt2 : PTT) (pe : PTE) (Q : PKt) : Prop where
 ex : ∃ I : Nat → List D → PSt → Prop, I 0 [] (sub0P ix ρ1) ∧
  (∀ k ys τ d, k < n → d = it k → I k ys τ → g (.dat d) τ fun τ2 => pt τ2 fun ok τ3 => PIte ok (pi2 τ3 fun n2 it2 τ4 => ∃ I2 : Nat → List D → PSt → Prop, I2 0 ys τ4 ∧
   (∀ j zs τ d, j < n2 → d = it2 j → I2 j zs τ → g2 (.dat d) τ fun τ5 => pt2 τ5 fun ok τ6 => PIte ok (pe τ6 fun p τ7 => zs.length < 1000000 ∧ I2 (j + 1) (zs ++ [p.d]) τ7) (I2 (j + 1) zs τ6)) ∧ ∀ zs τ, I2 n2 zs τ → I (k + 1) zs τ) (I (k + 1) ys τ3)) ∧
  ∀ ys τ, I n ys τ → Q (.own ys) (back ix ρ1 τ)
def pComp2 (ix : List (Option Nat)) (pi : PTI) (g : PTG) (pt : PTT) (pi2 : PTI) (g2 : PTG) (pt2 : PTT) (pe : PTE) : PTE := fun ρ Q => pi ρ fun n it ρ1 => capOk ix ρ1 = true ∧ CompG2 ix ρ1 n it g pt pi2 g2 pt2 pe Q
theorem le_comp2 {K : PySem.W.Frag} {ix : List (Option Nat)} {wi wi2 : TI} {pi pi2 : PTI} {g g2 : TG} {pg pg2 : PTG} {tts tts2 : TT} {pt pt2 : PTT} {te : TE} {pe : PTE} (hix : ixOk ix = true) (hi : LI K wi pi) (hg : ∀ fs : List Nat, (∀ k ∈ fs, k ∈ capt ix) → LGd K fs g pg) (ht : LT K tts pt)
  (hi2 : LI K wi2 pi2) (hg2 : ∀ fs : List Nat, (∀ k ∈ fs, k ∈ capt ix) → LGd K fs g2 pg2) (ht2 : LT K tts2 pt2) (he : LE K te pe) :
  LE K (tComp2 ix wi g tts fun D => tLoop wi2 g2 tts2 (tEmit te D)) (pComp2 ix pi pg pt pi2 pg2 pt2 pe) := fun A ρ σ H Q Q' R q k => hi A ρ σ H _ _ R q fun J H1 n it ρ1 q1 f1 R1 W D hD => by
 obtain ⟨hcap, ⟨I, i0, turn, after⟩⟩ := q1
 let τρ0 := sub0P ix ρ1
 let τσ0 := sub0 ix σ
 let Ai : Addr → Prop := fun b => A b ∨ b = D ∨ (Wr ρ1 σ b ∧ ¬ Wr τρ0 τσ0 b)
 let H0' := upd H1 D (.lst [])
 have wsub : ∀ b, Wr τρ0 τσ0 b → Wr ρ1 σ b := fun b ⟨m, p, e, o, s⟩ => by
  obtain ⟨j, h1, h2⟩ := sub0P_get e
  obtain ⟨v, hv, _⟩ := R1.get j p h2
  have := sub0_get h1 hv
  rw [s] at this
  cases this
  exact ⟨j, p, h2, o, hv⟩
 have nD : ¬ Wr ρ1 σ D := fun z => R1.wr z hD
 have oosub : ∀ b, OO Ai τρ0 τσ0 b → OO A ρ1 σ b ∨ b = D := fun b z => by
  rcases z with (z | z | z) | z
  ·exact .inl (.inl z)
  ·exact .inr z
  ·exact .inl (.inr z.1)
  ·exact .inl (.inr (wsub b z))
 have kD : Keeps (OO A ρ1 σ) H1 (OO Ai τρ0 τσ0) H0' := fun b o nn e => by
  refine ⟨fun z => ?_, ?_⟩
  ·rcases oosub b z with z | z
   ·exact nn z
   ·rw [z, hD] at e; cases e
  ·rw [show H0' b = H1 b from upd_ne (ne_of_none e hD)]; exact e
 have Ri : Rel K Ai τρ0 τσ0 H0' := by
  refine ⟨by show (sub0P ix ρ1).length = (sub0 ix σ).length; unfold sub0P sub0; rw [List.length_map, List.length_map], fun m p e => ?_, fun m l p q v e1 e2 o1 o2 s1 s2 => ?_, fun b z => ?_, fun b z w => ?_⟩
  ·obtain ⟨j, h1, h2⟩ := sub0P_get e
   obtain ⟨v, hv, r⟩ := R1.get j p h2
   refine ⟨v, sub0_get h1 hv, r.keeps kD fun ow a ea => ?_⟩
   subst ea
   exact upd_ne (fun z => nD (by rw [← z]; exact ⟨j, p, h2, ow, hv⟩))
  ·obtain ⟨j, h1, h2⟩ := sub0P_get e1
   obtain ⟨j', h3, h4⟩ := sub0P_get e2
   obtain ⟨v1, hv1, _⟩ := R1.get j p h2
   obtain ⟨v2, hv2, _⟩ := R1.get j' q h4
   have t1 := sub0_get h1 hv1
   have t2 := sub0_get h3 hv2
   rw [s1] at t1
   rw [s2] at t2
   cases t1
   cases t2
   have := R1.dj j j' p q _ h2 h4 o1 o2 hv1 hv2
   subst this
   exact ixOk_inj hix h1 h3
  ·rcases z with z | z | z
   ·intro e
    by_cases zz : b = D
    ·exact R1.dom b z (by rw [zz]; exact hD)
    ·rw [show H0' b = H1 b from upd_ne zz] at e; exact R1.dom b z e
   ·rw [z]; show upd H1 D _ D ≠ none; rw [upd_same]; exact nofun
   ·intro e
    rw [show H0' b = H1 b from upd_ne (fun zz => nD (by rw [← zz]; exact z.1))] at e; exact R1.wr z.1 e
  ·rcases z with z | z | z
   ·exact R1.sep b z (wsub b w)
   ·rw [z] at w; exact nD (wsub D w)
   ·exact z.2 w
 let fxi : List (Nat × V) := (capt ix).filterMap fun m => match (τσ0[m]?) with | some (some v) => some (m, v) | _ => none
 have hfx : ∀ p ∈ fxi, τσ0[p.1]? = some (some p.2) := fun p hp => by
  obtain ⟨m, hm, e⟩ := List.mem_filterMap.mp hp
  split at e
  ·rename_i v ev; cases e; exact ev
  ·cases e
 have hfs : ∀ m ∈ fxi.map Prod.fst, m ∈ capt ix := fun m hm => by
  obtain ⟨p, hp, rfl⟩ := List.mem_map.mp hm
  obtain ⟨m', hm', e⟩ := List.mem_filterMap.mp hp
  split at e
  ·cases e; exact hm'
  ·cases e
 have hgi := hg (fxi.map Prod.fst) hfs
 have hgi2 := hg2 (fxi.map Prod.fst) hfs
 have fxget : ∀ (m j : Nat) (v : V), ix[m]? = some (some j) → σ[j]? = some (some v) → (m, v) ∈ fxi := fun m j v h1 h2 => by
  refine List.mem_filterMap.mpr ⟨m, ?_, ?_⟩
  ·unfold capt
   refine List.mem_filter.mpr ⟨List.mem_range.mpr (List.getElem?_eq_some_iff.mp h1).1, ?_⟩
   rw [List.getD_eq_getElem?_getD, h1]; rfl
  ·show (match (sub0 ix σ)[m]? with | some (some v) => some (m, v) | _ => none) = _
   rw [sub0_get h1 h2]
 let Rr : Addr → Prop := fun b => Wr τρ0 τσ0 b ∨ b = D
 have hRr : ∀ b, Rr b → OO Ai τρ0 τσ0 b := fun b z => z.elim (fun z => .inr z) (fun z => .inl (.inr (.inl z)))
 have F0 : RelF fxi Rr H0' τρ0 τσ0 H0' := ⟨fun _ _ _ h => h, fun _ h => h, fun b w => .inl (.inl w), hfx⟩
 refine ⟨fun i m τ H2 => i + m = n ∧ ∃ ys τρ xs, I i ys τρ ∧ Rel K Ai τρ τ H2 ∧ RelF fxi Rr H0' τρ τ H2 ∧ H2 D = some (.lst xs) ∧ FVs K (OO Ai τρ τ) H2 xs ys ∧ ∀ b, Wr τρ τ b → Wr τρ0 τσ0 b,
  ⟨n, Nat.zero_add n, [], τρ0, [], i0, Ri, F0, upd_same, .nil, fun _ h => h⟩, fun i m τ H2 ⟨him, ys, τρ, xs, iv, r2, F2, eD, fD, hw⟩ => ?_⟩
 have kk : Keeps (OO A ρ1 σ) H1 (OO Ai τρ τ) H2 := fun b o nn e => (F2.keepsR hRr) b o (kD b o nn e).1 (kD b o nn e).2
 obtain ⟨go, stop⟩ := W _ H2 kk r2.dom2
 by_cases hk : i < n
 ·obtain ⟨g1, g2⟩ := go i hk
  refine .inr ⟨g1, fun x H3 y => ?_⟩
  obtain ⟨gr, fv⟩ := g2 x H3 y
  have AiD : Ai D := .inr (.inl rfl)
  refine hgi fxi Ai Rr H0' τρ τ H3 _ x _ _ rfl (F2.fr gr.fr) (r2.gr gr) fv (turn i ys τρ _ hk rfl iv) fun τρ2 τ2 q2 r3 F3 w3 => ?_
  refine ht Ai τρ2 τ2 H3 _ _ r3 q2 fun ok H5 τρ3 q3 f5 r5 => ?_
  have F5 := F3.fr f5
  have fD5 : FVs K (OO Ai τρ3 τ2) H5 xs ys := ((fD.keeps (gr.fr (ρ := τρ) (σ := τ)).keeps).keeps (Keeps.less fun b z => z.imp id (w3 b))).keeps f5.keeps
  have eD5 : H5 D = some (.lst xs) := f5.kp D _ (r3.sep D AiD) (gr D _ eD)
  cases ok with
  | true =>
   refine hi2 Ai τρ3 τ2 H5 _ _ r5 q3 fun J2 H6 n2 it2 τρ4 q4 f6 r6 W2 => ?_
   obtain ⟨I2, j0, turn2, after2⟩ := q4
   have F6 := F5.fr f6
   have eD6 : H6 D = some (.lst xs) := f6.kp D _ (r5.sep D AiD) eD5
   have fD6 := fD5.keeps (f6.keeps (A := Ai))
   have hw6 : ∀ b, Wr τρ4 τ2 b → Wr τρ0 τσ0 b := fun b z => hw b (w3 b (f5.ow b (f6.ow b z)))
   refine ⟨fun j l τ' H' => j + l = n2 ∧ ∃ zs τρ' xs', I2 j zs τρ' ∧ Rel K Ai τρ' τ' H' ∧ RelF fxi Rr H0' τρ' τ' H' ∧ H' D = some (.lst xs') ∧ FVs K (OO Ai τρ' τ') H' xs' zs ∧ (∀ b, Wr τρ' τ' b → Wr τρ0 τσ0 b) ∧ Keeps (OO Ai τρ4 τ2) H6 (OO Ai τρ' τ') H',
    ⟨n2, Nat.zero_add n2, ys, τρ4, xs, j0, r6, F6, eD6, fD6, hw6, fun b o n e => ⟨n, e⟩⟩, fun j l τ' H7 ⟨hjl, zs, τρ', xs', jv, r7, F7, eD7, fD7, hw7, kk7⟩ => ?_⟩
   obtain ⟨go2, stop2⟩ := W2 _ H7 kk7 r7.dom2
   by_cases hj : j < n2
   ·obtain ⟨g1', g2'⟩ := go2 j hj
    refine .inr ⟨g1', fun y H8 yy => ?_⟩
    obtain ⟨gr8, fv8⟩ := g2' y H8 yy
    refine hgi2 fxi Ai Rr H0' τρ' τ' H8 _ y _ _ rfl (F7.fr gr8.fr) (r7.gr gr8) fv8 (turn2 j zs τρ' _ hj rfl jv) fun τρ9 τ9 q9 r9 F9 w9 => ?_
    refine ht2 Ai τρ9 τ9 H8 _ _ r9 q9 fun ok2 H10 τρ10 q10 f10 r10 => ?_
    have F10 := F9.fr f10
    have k1 := (gr8.fr (ρ := τρ') (σ := τ')).keeps (A := Ai)
    have k2 : Keeps (OO Ai τρ' τ') H8 (OO Ai τρ9 τ9) H8 := Keeps.less fun b z => z.imp id (w9 b)
    have k3 := f10.keeps (A := Ai)
    have fD10 : FVs K (OO Ai τρ10 τ9) H10 xs' zs := fD7.keeps (kpt k1 (kpt k2 k3))
    have eD10 : H10 D = some (.lst xs') := f10.kp D _ (r9.sep D AiD) (gr8 D _ eD7)
    cases ok2 with
    | true =>
     refine he Ai τρ10 τ9 H10 _ _ r10 q10 fun v H11 p τρ11 q11 f11 o11 => ?_
     obtain ⟨r11, fv11⟩ := o11.frz
     have F11 := F10.fr f11
     have eD11 : H11 D = some (.lst xs') := f11.kp D _ (r10.sep D AiD) eD10
     have kw : Keeps (OO Ai τρ11 τ9) H11 (OO Ai τρ11 τ9) (upd H11 D (.lst (xs' ++ [v]))) := fun b o nn e => ⟨nn, by rw [upd_ne (fun z => nn (by rw [z]; exact .inl AiD))]; exact e⟩
     refine ⟨xs', eD11, ?_, l - 1, by omega, by omega, zs ++ [p.d], τρ11, xs' ++ [v], q11.2, r11.amb AiD, ⟨fun b o nn e => ?_, fun b z => ?_, F11.ow, F11.fx⟩, upd_same, ((fD10.keeps f11.keeps).append (.cons fv11 .nil)).keeps kw, fun b z => hw7 b (w9 b (f10.ow b (f11.ow b z))), kpt kk7 (kpt k1 (kpt k2 (kpt k3 (kpt f11.keeps kw))))⟩
     ·have : xs'.length = zs.length := fD10.length
      have := q11.1
      exact Nat.lt_of_lt_of_le (by omega : xs'.length < 1000000) (sz _ (Nat.le_refl _))
     ·rw [upd_ne (fun z => nn (.inr z))]; exact F11.kp b o nn e
     ·by_cases zz : b = D
      ·rw [zz, upd_same]; exact nofun
      ·rw [upd_ne zz]; exact F11.dm b z
    | false => exact ⟨l - 1, by omega, by omega, zs, τρ10, xs', q10, r10, F10, eD10, fD10, fun b z => hw7 b (w9 b (f10.ow b z)), kpt kk7 (kpt k1 (kpt k2 k3))⟩
   ·have e : j = n2 := by omega
    subst e
    exact .inl ⟨stop2, m - 1, by omega, by omega, zs, τρ', xs', after2 zs τρ' jv, r7, F7, eD7, fD7, hw7⟩
  | false => exact ⟨m - 1, by omega, by omega, ys, τρ3, xs, q3, r5, F5, eD5, fD5, fun b z => hw b (w3 b (f5.ow b z))⟩
 ·have e : i = n := by omega
  subst e
  refine .inl ⟨stop, ?_⟩
  have q' := after ys τρ iv
  have cap : ∀ (m j : Nat), ix[m]? = some (some j) → ∃ p v, ρ1[j]? = some (some p) ∧ σ[j]? = some (some v) ∧ τ[m]? = some (some v) := fun m j e => by
   have h1 := List.all_eq_true.mp hcap _ (List.mem_of_getElem? e)
   have h1 : (match ρ1[j]? with | some (some _) => true | _ => false) = true := h1
   split at h1
   ·rename_i p ep
    obtain ⟨v, hv, _⟩ := R1.get j p ep
    exact ⟨p, v, ep, hv, F2.fx _ (fxget m j v e hv)⟩
   ·cases h1
  have get' : ∀ (j : Nat) (p : PV), (back ix ρ1 τρ)[j]? = some (some p) → (∃ m v, ix[m]? = some (some j) ∧ σ[j]? = some (some v) ∧ τ[m]? = some (some v) ∧ τρ[m]? = some (some p)) ∨ (some j ∉ ix ∧ ρ1[j]? = some (some p)) := fun j p e => by
   by_cases hj : some j ∈ ix
   ·obtain ⟨m, hm, em⟩ := List.getElem_of_mem hj
    have em' : ix[m]? = some (some j) := by rw [List.getElem?_eq_getElem hm, em]
    obtain ⟨p0, v, h1, h2, h3⟩ := cap m j em'
    rw [back_in ix ρ1 τρ j m hix em' (by rw [r2.len]; exact (List.getElem?_eq_some_iff.mp h3).1) (List.getElem?_eq_some_iff.mp h1).1] at e
    exact .inl ⟨m, v, em', h2, h3, e⟩
   ·rw [back_out ix ρ1 τρ j hj] at e
    exact .inr ⟨hj, e⟩
  have nocap : ∀ (j : Nat) (p : PV) (b : Addr), some j ∉ ix → ρ1[j]? = some (some p) → p.isOwn = true → σ[j]? = some (some (.ref b)) → ¬ Wr τρ0 τσ0 b := fun j p b hj e o s ⟨m, q, e1, o1, s1⟩ => by
   obtain ⟨j', h1, h2⟩ := sub0P_get e1
   obtain ⟨v, hv, _⟩ := R1.get j' q h2
   have := sub0_get h1 hv
   rw [s1] at this
   cases this
   have := R1.dj j j' p q _ e h2 o o1 s hv
   subst this
   exact hj (List.mem_of_getElem? h1)
  have w' : ∀ b, Wr (back ix ρ1 τρ) σ b → Wr τρ τ b ∨ (Wr ρ1 σ b ∧ ¬ Wr τρ0 τσ0 b) := fun b ⟨j, p, e, o, s⟩ => by
   rcases get' j p e with ⟨m, v, h1, h2, h3, h4⟩ | ⟨hj, h1⟩
   ·rw [s] at h2; cases h2; exact .inl ⟨m, p, h4, o, h3⟩
   ·exact .inr ⟨⟨j, p, h1, o, s⟩, nocap j p b hj h1 o s⟩
  have oo' : ∀ b, OO (plus A D) (back ix ρ1 τρ) σ b → OO Ai τρ τ b := fun b z => by
   rcases z with (z | z) | z
   ·exact .inl (.inl z)
   ·exact .inl (.inr (.inl z))
   ·rcases w' b z with z | z
    ·exact .inr z
    ·exact .inl (.inr (.inr z))
  have kp1 : ∀ b o, ¬ Wr τρ0 τσ0 b → b ≠ D → H1 b = some o → H2 b = some o := fun b o n1 n2 e => F2.kp b o (fun z => z.elim n1 n2) (by rw [show H0' b = H1 b from upd_ne n2]; exact e)
  have k1 : Keeps (OO A ρ1 σ) H1 (OO (plus A D) (back ix ρ1 τρ) σ) H2 := fun b o nn e => ⟨fun z => (kk b o nn e).1 (oo' b z), (kk b o nn e).2⟩
  have AiD : Ai D := .inr (.inl rfl)
  have R' : Rel K (plus A D) (back ix ρ1 τρ) σ H2 := by
   refine ⟨by rw [back_len]; exact R1.len, fun j p e => ?_, fun j l p q v e1 e2 o1 o2 s1 s2 => ?_, fun b z => ?_, fun b z w => ?_⟩
   ·rcases get' j p e with ⟨m, v, h1, h2, h3, h4⟩ | ⟨hj, h1⟩
    ·obtain ⟨v', hv', r⟩ := r2.get m p h4
     rw [h3] at hv'; cases hv'
     exact ⟨v, h2, r.keeps (Keeps.less oo') fun _ _ _ => rfl⟩
    ·obtain ⟨v, hv, r⟩ := R1.get j p h1
     refine ⟨v, hv, r.keeps k1 fun ow a ea => ?_⟩
     subst ea
     obtain ⟨a', u, e1, e2⟩ := r.ref ow
     cases e1
     rw [e2]
     exact kp1 a u (nocap j p a hj h1 ow hv) (fun z => by rw [z, hD] at e2; cases e2) e2
   ·rcases get' j p e1 with ⟨m, v1, h1, h2, h3, h4⟩ | ⟨hj, h1⟩
    ·rw [s1] at h2; cases h2
     rcases get' l q e2 with ⟨m', v2, g1, g2, g3, g4⟩ | ⟨hl, g1⟩
     ·rw [s2] at g2; cases g2
      have := r2.dj m m' p q _ h4 g4 o1 o2 h3 g3
      subst this
      rw [h1] at g1; cases g1; rfl
     ·exfalso
      obtain ⟨v', hv', r⟩ := r2.get m p h4
      rw [h3] at hv'; cases hv'
      obtain ⟨a, u, ea, _⟩ := r.ref o1
      subst ea
      exact nocap l q a hl g1 o2 s2 (hw a ⟨m, p, h4, o1, h3⟩)
    ·rcases get' l q e2 with ⟨m', v2, g1, g2, g3, g4⟩ | ⟨hl, g1⟩
     ·rw [s2] at g2; cases g2
      exfalso
      obtain ⟨v', hv', r⟩ := r2.get m' q g4
      rw [g3] at hv'; cases hv'
      obtain ⟨a, u, ea, _⟩ := r.ref o2
      subst ea
      exact nocap j p a hj h1 o1 s1 (hw a ⟨m', q, g4, o2, g3⟩)
     ·exact R1.dj j l p q v h1 g1 o1 o2 s1 s2
   ·rcases z with z | z
    ·exact r2.dom b (.inl z)
    ·rw [z, eD]; exact nofun
   ·rcases w' b w with w | w
    ·rcases z with z | z
     ·exact r2.sep b (.inl z) w
     ·rw [z] at w; exact r2.sep D AiD w
    ·rcases z with z | z
     ·exact R1.sep b z w.1
     ·rw [z] at w; exact nD w.1
  have f2 : Fr ρ1 σ H1 (back ix ρ1 τρ) H2 := by
   refine ⟨fun b o nn e => kp1 b o (fun z => nn (wsub b z)) (fun z => by rw [z, hD] at e; cases e) e, fun b z => F2.dm b ?_, fun b z => ?_⟩
   ·intro e
    by_cases zz : b = D
    ·exact z (by rw [zz]; exact hD)
    ·rw [show H0' b = H1 b from upd_ne zz] at e; exact z e
   ·rcases w' b z with z | z
    ·exact wsub b (hw b z)
    ·exact z.1
  have hD0 : H D = none := by
   cases e : H D with
   | none => rfl
   | some o => exact absurd hD (f1.dm D (by rw [e]; exact nofun))
  exact k _ H2 (.own ys) _ q' (f1.trans f2) ⟨D, xs, rfl, fun z => R1.dom D z hD, hD0, eD, R', fD.keeps (Keeps.less oo')⟩
end L2
namespace L2
open PySem PySem.Spec PyProof.Rows
section
variable {X : Cx} {K : PySem.W.Frag} {te : TE} {pe : PTE} {fs : List Nat}
end
end L2
namespace L2
open PySem PySem.Spec PyProof.Rows
section
variable {X : Cx} {K : PySem.W.Frag} {te tk : TE} {pe pk : PTE}
end
end L2
namespace L2
open PySem PySem.Spec PyProof.Rows
section
variable {prog : Program} {w : World} {A : Around} {E : Value → Shared → Prop} {s : Shared}
theorem collect_tuple {l : Addr} {vs : List Value} {Q : List Value → Shared → Prop} (hl : IsTup s.heap l vs.toArray)
  (h : Q vs { s with heap := (s.heap.push (seqObj "list" #[] 0)).update s.heap.objs.size (Obj.mapSeq (· ++ vs.toArray)) }) (hsz : vs.length ≤ sizeLine := by size_fits) :
  wpAny (model prog w) A (collect (.ref l)) Q E s := by
 obtain ⟨o, ho, hc, n, hd⟩ := id hl
 unfold collect
 refine wpAny_bind (wpAny_runValue (codeAny_builtin entry_proto_collect' ?_))
 show wpAny _ _ (do again (.builtin "list.__iadd__" ⟨[← newList [], .ref l], []⟩)) _ _ s
 refine wpAny_bind (wpAny_newList (wpAny_pure ⟨Code.quiet_builtin _ (by decide +kernel), codeAny_builtin entry_list_iadd' ?_⟩))
 show wpAny _ _ (Builtin.List.listExtendWith (.ref s.heap.objs.size) (.ref l) (.ref s.heap.objs.size)) _ _ { s with heap := s.heap.push (seqObj "list" #[] 0) }
 unfold Builtin.List.listExtendWith
 have ho' : (s.heap.push (seqObj "list" #[] 0)).get? l = some o := Heap.get?_push_of_some _ ho
 refine wpAny_bind (wpAny_typeOf (T := "tuple") ⟨o, ho', hc⟩ ?_)
 have ht : (Value.type "tuple" == Value.type "tuple") = true := by rfl
 rw [if_pos (by rw [ht]; simp)]
 refine wpAny_bind (listItems_at ho' hd ?_)
 refine wpAny_bind (listItems_at (xs := #[]) (n := 0) (Heap.get?_push_size _ rfl) rfl ?_)
 rw [if_neg (by simp)]
 refine wpAny_bind (listUpdate_at (xs := #[]) (n := 0) (Heap.get?_push_size _ rfl) rfl ?_ (Nat.zero_le _) (by show (#[] ++ vs.toArray).size ≤ sizeLine + 1; simp only [Array.size_append, List.size_toArray, List.length_nil]; omega))
 refine wpAny_pure ?_
 show wpAny (model prog w) A (do
   let o ← load s.heap.objs.size
   match o.data with
   | .seq xs _ => pure xs.toList
   | _ => unsupported "internal:collect") Q E { s with heap := (s.heap.push (seqObj "list" #[] 0)).update s.heap.objs.size (Obj.mapSeq (· ++ vs.toArray)) }
 refine wpAny_bind (wpAny_load (get?_update_seq (Heap.get?_push_size _ rfl) _) ?_)
 show wpAny _ _ (pure ((#[] : Array Value) ++ vs.toArray).toList) Q E _
 rw [show ((#[] : Array Value) ++ vs.toArray).toList = vs by simp]
 exact wpAny_pure h
theorem sorted_intsT {l : Addr} {vs : List Value} {ns : List Int} {Q : Value → Shared → Prop} (hl : IsTup s.heap l vs.toArray) (hI : IntsAre vs ns) (h64 : vs.length < 64)
  (h : ∀ (out : Array Value) (ns' : List Int), IntsAre out.toList ns' → ns'.Perm ns → ns'.Pairwise (· ≤ ·) → Q (.ref (s.heap.objs.size + 1)) { s with heap := sortedAll s.heap vs out }) :
  wpAny (model prog w) A (call (.builtin "sorted") [.ref l]) Q E s := by
 refine Calls.call_function_entry kind_sorted plain_sorted entry_sorted (args_sorted1 _) ?_
 unfold Builtin.«sorted»
 refine wpAny_bind (m := checkCount "sorted" 1 1 _) (wpAny_pure ?_)
 refine wpAny_bind (collect_tuple hl ?_)
 refine wpAny_bind (wpAny_newList ?_)
 have hsz : ((s.heap.push (seqObj "list" #[] 0)).update s.heap.objs.size (Obj.mapSeq (· ++ vs.toArray))).objs.size = s.heap.objs.size + 1 := by
  rw [Heap.size_update, size_push']
 have hoL : (((s.heap.push (seqObj "list" #[] 0)).update s.heap.objs.size (Obj.mapSeq (· ++ vs.toArray))).push (seqObj "list" vs.toArray 0)).get? (s.heap.objs.size + 1) = some (seqObj "list" vs.toArray 0) := by
  rw [← hsz]; exact Heap.get?_push_size _ rfl
 show wpAny _ _ _ _ _ { s with heap := ((s.heap.push (seqObj "list" #[] 0)).update s.heap.objs.size (Obj.mapSeq (· ++ vs.toArray))).push (seqObj "list" vs.toArray 0) }
 rw [hsz]
 refine wpAny_bind (wpAny_holding (wpAny_call_entry slot_list_sort ⟨_, hoL, rfl⟩ entry_list_sort (list_sort_tree hoL hI h64 fun out ns' a1 a2 a3 => ⟨_, rfl, ?_⟩) (args_list_sort _)))
 exact wpAny_pure ⟨_, rfl, h out ns' a1 a2 a3⟩
end
section
variable {X : Cx} {K : PySem.W.Frag}
def rSortU (K : PySem.W.Frag) : List V → Hp → VK → Prop := fun xs H Q => ∃ (b : Bool) (p : Addr) (ns : List Int), xs = [.ref p] ∧ Sq b K H p (ns.map V.int) ∧ ns.length < 64 ∧ ∀ ns' : List Int, ns'.Perm ns → ns'.Pairwise (· ≤ ·) → ∀ q, H q = none → Q (.ref q) (upd H q (.lst (ns'.map V.int)))
theorem u_sortU (K : PySem.W.Frag) (e : X.K = K) : CallR X (.builtin "sorted") (rSortU K) := by
 subst e
 intro pins s σ H xs us Q I r h
 obtain ⟨b, p, ns, rfl, hS, hne, q⟩ := h
 obtain ⟨u, rfl, ru⟩ := vals1 r
 cases (show u = Value.ref p from ru)
 cases b with
 | false => exact u_sortL X.K rfl pins s σ H _ _ Q I r ⟨p, ns, rfl, hS, hne, q⟩
 | true =>
  obtain ⟨its, rv, pl, hz⟩ := I.tuple hS
  have hi := intsAre_of rv
  have hlen : its.length = ns.length := by have := rv.length; rw [List.length_map] at this; exact this.symm
  refine sorted_intsT pl hi (by omega) fun out ns' ho hp hs => ?_
  obtain ⟨e, he⟩ := sortedAll_at s.heap its out
  have hle : s.heap.objs.size ≤ s.heap.objs.size + 1 := Nat.le_succ _
  refine ⟨.ref (s.heap.objs.size + 1), _, I.laid (a := s.heap.objs.size + 1) (o := .lst (ns'.map V.int)) (t' := s.toks) (fun b o z => sortedAll_old z) hle ?_, rfl, q ns' hp hs _ (I.hok.fresh hle)⟩
  refine ⟨?_, out.toList, e, vals_ints ho, he⟩
  rw [List.length_map, hp.length_eq]
  exact sz _ (by omega)
def fSortU : FN
 | [.lst ds], Q => ∃ ns : List Int, ds = ns.map .int ∧ ns.length < 64 ∧ ∀ ns' : List Int, ns'.Perm ns → ns'.Pairwise (· ≤ ·) → Q (.own (ns'.map .int))
 | [.tup ds], Q => ∃ ns : List Int, ds = ns.map .int ∧ ns.length < 64 ∧ ∀ ns' : List Int, ns'.Perm ns → ns'.Pairwise (· ≤ ·) → Q (.own (ns'.map .int))
 | _, _ => False
theorem lc_sortU : LC K (rSortU K) fSortU := by
 intro O H xs as Q Q' dom fs q k
 unfold fSortU at q
 split at q
 ·obtain ⟨ns, rfl, h0, q⟩ := q
  cases fs with
  | cons a b =>
   cases b
   obtain ⟨p, ys, rfl, e1, f1⟩ := a.lst
   rw [f1.ints] at e1
   exact ⟨false, p, ns, rfl, SqL.of e1, h0, fun ns' h1 h2 p' hp' => k _ _ _ (q ns' h1 h2) (Gr.new hp') (out_lst hp' (FVs.of_ints _))⟩
 ·obtain ⟨ns, rfl, h0, q⟩ := q
  cases fs with
  | cons a b =>
   cases b
   obtain ⟨p, ys, rfl, _, e1, f1⟩ := a.tup
   rw [f1.ints] at e1
   exact ⟨true, p, ns, rfl, SqT.of e1, h0, fun ns' h1 h2 p' hp' => k _ _ _ (q ns' h1 h2) (Gr.new hp') (out_lst hp' (FVs.of_ints _))⟩
 ·exact q.elim
end
end L2
namespace L2
open PySem PySem.Spec PyProof.Rows
def psSet2 (i : Nat) (pe pe' pk pk' : PTE) : PTS := fun E ρ => pe ρ fun p ρ1 => pe' ρ1 fun p' ρ2 => (match ρ2[i]? with
 | some (some (.own _)) => pk ρ2 fun kp ρ3 => (match ρ3[i]?, kp with
  | some (some (.own ds)), .dat (.int k) => ∃ j, ixN ds.length k = some j ∧ pk' (ρ3.set i (some (.own (ds.set j p.d)))) fun kp' ρ4 => (match ρ4[i]?, kp' with
   | some (some (.own es)), .dat (.int l) => ∃ m, ixN es.length l = some m ∧ E.nx (ρ4.set i (some (.own (es.set m p'.d))))
   | _, _ => False)
  | _, _ => False)
 | _ => False)
section
variable {K : PySem.W.Frag} {te te' tk tk' : TE} {pe pe' pk pk' : PTE} {fs : List Nat}
theorem ls_set2 {i : Nat} (h : LE K te pe) (h' : LE K te' pe') (hk : LE K tk pk) (hk' : LE K tk' pk') :
  LS K fs (tAsg (tTup (tCons te (tCons te' tNil))) (gTup K 2 (gCons (gSub (tVar i) tk rSetL) (gCons (gSub (tVar i) tk' rSetL) gNil)))) (psSet2 i pe pe' pk pk') :=
 fun fx A R H0 ρ σ H E E' hf r F q k1 k2 k3 k4 => h A ρ σ H _ _ r q fun v H1 p ρ1 q1 f1 o1 => by
 obtain ⟨R1, fv⟩ := o1.frz
 refine h' A ρ1 σ H1 _ _ R1 q1 fun v' H2 p' ρ2 q2 f2 o2 => ?_
 obtain ⟨R2, fv'⟩ := o2.frz
 have fv2 := fv.keeps (f2.keeps (A := A))
 split at q2
 ·rename_i ds0 e0
  refine ⟨sz _ (by show 2 ≤ 1000000; decide), fun T hT => ?_⟩
  have R2' : Rel K A ρ2 σ (upd H2 T (.tup [v, v'])) := R2.grow hT
  have fT : Fr ρ2 σ H2 ρ2 (upd H2 T (.tup [v, v'])) := Fr.new hT
  refine ⟨T, [v, v'], rfl, SqT.of upd_same, rfl, v, [v'], rfl, ?_⟩
  obtain ⟨a0, xs0, s0, g0, f0⟩ := R2'.ownAt e0
  refine ⟨_, s0, hk A ρ2 σ _ _ _ R2' q2 fun w H3 kp ρ3 q3 f3 o3 => ?_⟩
  split at q3
  ·rename_i ds j e3
   obtain ⟨n, hn, q3⟩ := q3
   obtain ⟨R3, fw⟩ := o3
   cases fw
   obtain ⟨a, xs, s, g, f⟩ := R3.ownAt e3
   rw [s0] at s; cases s
   have fv3 := (fv2.keeps (fT.keeps (A := A))).keeps (f3.keeps (A := A))
   have fv3' := (fv'.keeps (fT.keeps (A := A))).keeps (f3.keeps (A := A))
   obtain ⟨R4, f4⟩ := R3.lstw e3 s0 (FVs.set fv3 n f)
   refine ⟨a0, xs, j, n, rfl, rfl, g, by rw [f.length]; exact hn, v', [], rfl, ?_⟩
   refine ⟨_, s0, hk' A _ σ _ _ _ R4 q3 fun w' H5 kp' ρ5 q5 f5 o5 => ?_⟩
   split at q5
   ·rename_i es l e5
    obtain ⟨m, hm, q5⟩ := q5
    obtain ⟨R5, fw'⟩ := o5
    cases fw'
    obtain ⟨a', xs', s', g', f'⟩ := R5.ownAt e5
    rw [s0] at s'; cases s'
    have fv5 := (fv3'.keeps (f4.keeps (A := A))).keeps (f5.keeps (A := A))
    obtain ⟨R6, f6⟩ := R5.lstw e5 s0 (FVs.set fv5 m f')
    exact ⟨a0, xs', l, m, rfl, rfl, g', by rw [f'.length]; exact hm, rfl, k1 _ _ _ q5 R6 (((((((F.fr f1).fr f2).fr fT).fr f3).fr f4).fr f5).fr f6)⟩
   ·exact q5.elim
  ·exact q3.elim
 ·exact q2.elim
end
end L2
namespace L2
open PySem PySem.Spec PyProof.Rows
section
variable {prog : Program} {w : World} {A : Around} {E : Value → Shared → Prop} {s : Shared}
theorem draw_list {it t : Addr} {items : Array Value} (hne : t ≠ it) : ∀ (n i : Nat) (s : Shared) (Q : List Value → Shared → Prop), s.heap.IsListIter it t i → s.heap.IsList t items → i + n ≤ items.size →
  (∀ h', h'.IsListIter it t (i + n) → Heap.SameBut it s.heap h' → Q ((items.toList.drop i).take n) { s with heap := h' }) → wpAny (model prog w) A (draw (.ref it) n) Q E s
 | 0, i, s, Q, hit, _, _, hQ => by
  show wpAny _ _ (pure []) Q E s
  exact wpAny_pure (by simpa using hQ s.heap hit (Heap.SameBut.refl ..))
 | n + 1, i, s, Q, hit, ht, hle, hQ => by
  have hlt : i < items.size := by omega
  show wpAny _ _ (pyNext (.ref it) >>= _) Q E s
  refine wpAny_bind (wpAny_pyNext_list_item hit ht (x := items[i]) (by simp [hlt]) fun h₁ hit₁ hs₁ => ?_)
  refine wpAny_bind (wpAny_holding (draw_list hne n (i + 1) _ _ hit₁ (ht.extBut hs₁.extBut hne) (by omega) fun h₂ hit₂ hs₂ => wpAny_pure ?_))
  have hd : items.toList.drop i = items[i] :: items.toList.drop (i + 1) := by simp [List.drop_eq_getElem_cons, hlt]
  have := hQ h₂ (by rw [show i + (n + 1) = i + 1 + n by omega]; exact hit₂) (hs₁.trans hs₂)
  rw [hd, List.take_succ_cons] at this
  exact this
theorem unpackItems_list {t : Addr} {items : Array Value} {Q : List Value → Shared → Prop} (hh : A.handled = none) (ht : s.heap.IsList t items)
  (hQ : ∀ h', Heap.ExtBut s.heap.objs.size s.heap h' → Q items.toList { s with heap := h' }) : wpAny (model prog w) A (unpackItems (.ref t) items.size none) Q E s := by
 have hlt : t ≠ s.heap.objs.size := by obtain ⟨o, ho, _⟩ := ht; exact Nat.ne_of_lt (Heap.lt_size ho)
 unfold unpackItems
 refine wpAny_bind ?_
 ·unfold notIterableAtAll
  refine wpAny_bind (wpAny_specialOf ht.typeIs PySem.F.slot_list_iter.lookup ?_)
  refine wpAny_pure ?_
  simp only [Bool.false_eq_true, if_false]
  refine wpAny_bind (wpAny_holding (wpAny_pyIter_list ht ?_))
  refine wpAny_bind (wpAny_holding (draw_list hlt items.size 0 _ _ ⟨_, Heap.get?_push_size _ rfl, rfl, rfl⟩ (ht.push _) (by omega) fun h₁ hit₁ hs₁ => ?_))
  have hall : List.take items.size (List.drop 0 items.toList) = items.toList := by
   rw [List.drop_zero]; exact List.take_of_length_le (by simp)
  rw [hall]
  rw [if_neg (by simp)]
  have ht₁ : h₁.IsList t items := (ht.push _).extBut hs₁.extBut hlt
  refine wpAny_bind (wpAny_holding (wpAny_pyNext_list_end hh hit₁ ht₁ (by simp) fun h₂ he₂ => ?_))
  simp only [Option.isSome_none, Bool.false_eq_true, if_false]
  refine wpAny_pure (hQ h₂ fun b o hb e => he₂ b o hb (hs₁.extBut b o hb (Heap.get?_push_of_some _ e)))
theorem assign_Tuple_list {env : Env} {elts : List Expr} {x1} {pos : Pos} {t : Addr} {items : Array Value} {Q : Unit → Shared → Prop} (hh : A.handled = none) (ht : s.heap.IsList t items)
  (hn : (assignEach elts env).length = items.size) (hstar : (assignEach elts env).findIdx? (·.1) = none)
  (h : ∀ h', Heap.ExtBut s.heap.objs.size s.heap h' → wpAny (model prog w) A (assignInOrder ((assignEach elts env).map (·.2)) items.toList) Q E { s with heap := h' }) :
  wpAny (model prog w) A (assign (.Tuple elts x1 pos) env (.ref t)) Q E s := by
 rw [assign_Tuple]
 refine wpAny_bind (wpAny_standAt ?_)
 unfold unpack
 rw [hn, hstar]
 exact wpAny_bind (wpAny_holding (unpackItems_list hh ht h))
end
def gRow (K : PySem.W.Frag) (n : Nat) (t : TGs) : TG := fun v σ H Q => ∃ b a xs, v = .ref a ∧ Sq b K H a xs ∧ xs.length = n ∧ t xs σ H Q
section
variable {X : Cx}
theorem pg_row (K : PySem.W.Frag) (eK : X.K = K) {es : List Expr} {k : Nat} {t : TGs} {n : Nat} {pos : Pos} (hc : X.calm = true) (h : PGs X es t)
  (hn : (assignEach es X.env).length = n := by rfl) (hst : (assignEach es X.env).findIdx? (·.1) = none := by rfl) : PG X (.Tuple es k pos) (gRow K n t) := by
 subst eK
 intro pins s σ H v u Q I r hw
 obtain ⟨b, a, xs, e1, hq, hl, hw⟩ := hw
 cases b with
 | true => exact pg_tup hc h hn hst pins s σ H v u Q I r ⟨a, xs, e1, hq, hl, hw⟩
 | false =>
  subst e1
  cases r
  obtain ⟨its, rv, ht, hz⟩ := I.list hq
  refine assign_Tuple_list (I.ok.hd hc) ht.isList (by simp [hn, ← hl, rv.length]) hst fun h' hx => ?_
  have I1 : Inv X pins σ H { s with heap := h' } := I.kept (t' := s.toks) fun b o e => hx b o (Nat.ne_of_lt (Heap.lt_size e)) e
  exact h pins _ σ H xs _ Q I1 (by simpa using rv) hw
def pgRow (n : Nat) (gs : PTGs) : PTG := fun p ρ Q => match p with | .dat (.tup ds) => ds.length = n ∧ gs ds ρ Q | .dat (.lst ds) => ds.length = n ∧ gs ds ρ Q | .own ds => ds.length = n ∧ gs ds ρ Q | _ => False
end
section
variable {K : PySem.W.Frag} {fs : List Nat}
theorem lgd_row {n : Nat} {gs : TGs} {pgs : PTGs} (h : LGs K fs gs pgs) : LGd K fs (gRow K n gs) (pgRow n pgs) := fun fx A R H0 ρ σ H d v Q Q' hf F r fv q k => by
 unfold pgRow at q
 split at q
 ·rename_i e
  cases e
  cases fv with
  | tup nn e f => exact ⟨true, _, _, rfl, SqT.of e, by rw [f.length]; exact q.1, h fx A R H0 ρ σ H _ _ Q Q' hf F r f q.2 k⟩
 ·rename_i e
  cases e
  cases fv with
  | lst nn e f => exact ⟨false, _, _, rfl, SqL.of e, by rw [f.length]; exact q.1, h fx A R H0 ρ σ H _ _ Q Q' hf F r f q.2 k⟩
 ·rename_i e
  cases e
 ·exact q.elim
theorem lg_row {n : Nat} {gs : TGs} {pgs : PTGs} (h : LGs K fs gs pgs) : LG K fs (gRow K n gs) (pgRow n pgs) := fun fx A R H0 ρ σ H p v Q Q' hf F o q k => by
 unfold pgRow at q
 split at q
 ·obtain ⟨r, fv⟩ := o
  cases fv with
  | tup nn e f => exact ⟨true, _, _, rfl, SqT.of e, by rw [f.length]; exact q.1, h fx A R H0 ρ σ H _ _ Q Q' hf F r f q.2 fun ρ' σ' q' r' F' _ => k ρ' σ' H q' r' F'⟩
 ·obtain ⟨r, fv⟩ := o
  cases fv with
  | lst nn e f => exact ⟨false, _, _, rfl, SqL.of e, by rw [f.length]; exact q.1, h fx A R H0 ρ σ H _ _ Q Q' hf F r f q.2 fun ρ' σ' q' r' F' _ => k ρ' σ' H q' r' F'⟩
 ·obtain ⟨r, fv⟩ := o.frz
  cases fv with
  | lst nn e f => exact ⟨false, _, _, rfl, SqL.of e, by rw [f.length]; exact q.1, h fx A R H0 ρ σ H _ _ Q Q' hf F r f q.2 fun ρ' σ' q' r' F' _ => k ρ' σ' H q' r' F'⟩
 ·exact q.elim
end
end L2
namespace L2
open PySem PySem.Spec PyProof.Rows
def SqOf (d : D) (xs : List D) : Prop := d = .lst xs ∨ d = .tup xs
theorem sq_len {d : D} {xs : List D} {Q : PV → Prop} (h : SqOf d xs) (q : Q (.dat (.int xs.length))) : fLen [d] Q := by
 rcases h with rfl | rfl <;> exact q
theorem sq_ix {d : D} {xs : List D} {i : Int} {Q : PV → Prop} (h : SqOf d xs) (q : ∃ x, atI xs i = some x ∧ Q (.dat x)) : fIx d (.int i) Q := by
 rcases h with rfl | rfl <;> exact q
theorem sq_in {neg : Bool} {a d : D} {xs : List D} {Q : PV → Prop} (h : SqOf d xs) (q : (a.fl = true ∧ xs.all D.fl = true) ∧ Q (.dat (.bl (if neg then !inD a xs else inD a xs)))) : fIn neg a d Q := by
 rcases h with rfl | rfl <;> exact q
theorem sq_list {d : D} {xs : List D} {Q : PV → Prop} (h : SqOf d xs) (q : Q (.own xs)) : fList [d] Q := by
 rcases h with rfl | rfl <;> exact q
theorem sq_row {d : D} {xs : List D} {n : Nat} {gs : PTGs} {ρ : PSt} {Q : PSt → Prop} (h : SqOf d xs) (q : xs.length = n ∧ gs xs ρ Q) : pgRow n gs (.dat d) ρ Q := by
 rcases h with rfl | rfl <;> exact q
theorem sq_any {d : D} {xs : List D} {F : Nat → (Nat → D) → Prop} (h : SqOf d xs) (q : F xs.length (itD xs)) : (match srcD d with | some (n, it) => F n it | none => False) := by
 rcases h with rfl | rfl <;> exact q
theorem SqOf.lst (xs : List D) : SqOf (.lst xs) xs := .inl rfl
theorem SqOf.items {d : D} {xs : List D} (h : SqOf d xs) : itemsD d = xs := by rcases h with rfl | rfl <;> rfl
end L2
namespace L2
open PySem PySem.Spec PyProof.Rows
def nSt : Expr → Bool
 | .Starred _ _ => false
 | _ => true
theorem star_of {e : Expr} {es : List Expr} {env : Env} (h : nSt e = true) : starEach (e :: es) env = (false, eval e env) :: starEach es env := by
 cases e <;> first | rfl | cases h
theorem plain_of {env : Env} {pos : Pos} : ∀ {es : List Expr}, es.all nSt = true → (backTo pos (starEach es env)).any (·.1) = false
 | [], _ => rfl
 | e :: es, h => by
  rw [List.all_cons, Bool.and_eq_true] at h
  rw [star_of h.1]
  show (false || (backTo pos (starEach es env)).any (·.1)) = false
  rw [plain_of h.2]; rfl
section
variable {X : Cx} {k : Nat} {x : Str} {ps : List Str} {sp : Sp} {e : Expr} {es : List Expr} {te : TE} {t : TA} {p pos : Pos} {dvs : List V} {C : Addr} {id T : String} {r : List V → Hp → VK → Prop}
theorem paC (ha : PE X e te) (hr : PA X es t) (hn : nSt e = true := by rfl) : PA X (e :: es) (tCons te t) := pa_cons ha hr (star_of hn)
theorem pe_cal2 (C : Cal X.prog X.w X.K X.mg X.base k x ps sp) (hr : Room k X.A) (ha : PA X (e :: es) t) (hg : Gl X x := by rfl) (hdb : (x == ("__debug__" : Str)) = false := by decide) (hn : nSt e = true := by rfl) (hp : es.all nSt = true := by rfl) :
  PE X (.Call (.Name x p) (e :: es) [] pos) (tCall sp [] E0 t) := pe_cal C hr ha hg hdb (star_of hn) (plain_of hp)
theorem pe_callB2 (hc : CallR X (.builtin id) r) (hg : Gl X x) (hm : X.mg x = none) (hv : bootBuiltins x = some (.builtin id)) (ha : PA X (e :: es) t) (hnn : x ≠ "__name__" := by decide) (hdb : (x == ("__debug__" : Str)) = false := by decide) (hn : nSt e = true := by rfl) (hp : es.all nSt = true := by rfl) :
  PE X (.Call (.Name x p) (e :: es) [] pos) (tCB r t) := pe_callB hc hg hm hv ha hnn hdb (star_of hn) (plain_of hp)
theorem pe_callTy2 (hc : CallR X (.type T) r) (hg : Gl X x) (hm : X.mg x = none) (hv : bootBuiltins x = some (.type T)) (ha : PA X (e :: es) t) (hnn : x ≠ "__name__" := by decide) (hdb : (x == ("__debug__" : Str)) = false := by decide) (hn : nSt e = true := by rfl) (hp : es.all nSt = true := by rfl) :
  PE X (.Call (.Name x p) (e :: es) [] pos) (tCB r t) := pe_callTy hc hg hm hv ha hnn hdb (star_of hn) (plain_of hp)
end
end L2
namespace L2
open PySem PySem.Spec PyProof.Rows
def plT : Expr → Bool
 | .Call _ _ _ _ => true
 | .Name _ _ => true
 | .Subscript _ _ _ => true
 | .Attribute _ _ _ => true
 | _ => false
theorem true_of {e : Expr} {env : Env} (h : plT e = true) : ∀ whole, isTrue e env whole = (do let v ← whole; standAt e.pos; holding [v] (truthy v)) := by
 cases e <;> first | (intro _; rfl) | cases h
theorem pt_val2 {X : Cx} {e : Expr} {t : TE} (h : PE X e t) (hp : plT e = true := by rfl) : PT X e (tB t) := pt_val h (true_of hp)
end L2
namespace L2
open PySem PySem.Spec PyProof.Rows
def subB (a b : List Nat) : Bool := decide (0 ≤ fnd b a 0)
theorem sub_iff {a b : List Nat} : subB a b = true ↔ ∃ k, stA b a k = true := by
 unfold subB
 constructor
 ·intro h
  have h0 : fnd b a 0 ≠ -1 := fun z => by rw [z] at h; exact absurd (of_decide_eq_true h) (by decide)
  obtain ⟨k, _, _, h1, _⟩ := fnd_some h0
  exact ⟨k, h1⟩
 ·rintro ⟨k, hk⟩
  by_cases h0 : fnd b a 0 = -1
  ·rw [fnd_none h0 k (Nat.zero_le _)] at hk; cases hk
  ·obtain ⟨j, e, _⟩ := fnd_some h0
   rw [e]; exact decide_eq_true (by omega)
theorem sub_refl (a : List Nat) : subB a a = true := sub_iff.mpr ⟨0, decide_eq_true ⟨by omega, by rw [List.drop_zero, List.take_length]⟩⟩
theorem sub_trans {a b c : List Nat} (h1 : subB a b = true) (h2 : subB b c = true) : subB a c = true := by
 obtain ⟨k1, e1⟩ := sub_iff.mp h1
 obtain ⟨k2, e2⟩ := sub_iff.mp h2
 obtain ⟨l1, t1⟩ := of_decide_eq_true e1
 obtain ⟨l2, t2⟩ := of_decide_eq_true e2
 refine sub_iff.mpr ⟨k2 + k1, decide_eq_true ⟨by omega, ?_⟩⟩
 have hb : b.drop k1 = (c.drop (k2 + k1)).take (b.length - k1) := by
  rw [← t2, List.drop_take, List.drop_drop, t2]
 have ha : a = ((c.drop (k2 + k1)).take (b.length - k1)).take a.length := by rw [← hb, t1]
 rw [List.take_take, show min a.length (b.length - k1) = a.length by omega] at ha
 exact ha.symm
theorem inD_strs (w : List Nat) : ∀ ws : List (List Nat), inD (.str w) (ws.map .str) = decide (w ∈ ws)
 | [] => by simp [inD]
 | v :: r => by
  have ih := inD_strs w r
  unfold inD at ih ⊢
  rw [List.map_cons, List.any_cons, ih]
  show ((v == w) || decide (w ∈ r)) = _
  by_cases h : v = w
  ·subst h; simp
  ·rw [beq_eq_false_iff_ne.mpr h, Bool.false_or]
   by_cases h2 : w ∈ r
   ·rw [decide_eq_true h2, decide_eq_true (List.mem_cons_of_mem _ h2)]
   ·rw [decide_eq_false h2, decide_eq_false (fun z => (List.mem_cons.mp z).elim (fun e => h e.symm) h2)]
theorem fl_strs (ws : List (List Nat)) : (ws.map D.str).all D.fl = true := by rw [List.all_map]; exact List.all_eq_true.mpr fun _ _ => rfl
theorem map_pw (ws : List (List Nat)) : (List.range ws.length).map (pw ws) = ws := by
 apply List.ext_getElem?
 intro k
 rw [List.getElem?_map]
 by_cases hk : k < ws.length
 ·rw [List.getElem?_range hk, pw_get hk]; rfl
 ·rw [List.getElem?_eq_none (by rw [List.length_range]; omega), List.getElem?_eq_none (by omega)]; rfl
theorem range_pw {β : Type} (f : List Nat → Option β) (ws : List (List Nat)) : (List.range ws.length).filterMap (fun k => f (pw ws k)) = ws.filterMap f := by
 conv => rhs; rw [← map_pw ws]
 rw [List.filterMap_map]; rfl
theorem fm_filter {α β : Type} (p : α → Bool) (g : α → β) : ∀ l : List α, l.filterMap (fun a => if p a = true then some (g a) else none) = (l.filter p).map g
 | [] => rfl
 | a :: r => by
  rw [List.filterMap_cons, List.filter_cons]
  cases h : p a with
  | true => simp [fm_filter p g r]
  | false => simp [fm_filter p g r]
theorem rng_len (n : Nat) : (rngD 0 n).length = n := by unfold rngD; rw [List.length_map, List.length_range]
theorem itD_rng {n j : Nat} (h : j < (rngD 0 n).length) : itD (rngD 0 n) j = .int (j : Int) := itD_of (by
 rw [rng_len] at h
 unfold rngD
 rw [List.getElem?_map, List.getElem?_range h]
 show some (D.int (0 + (j : Int))) = _
 rw [Int.zero_add])
end L2
namespace L2
open PySem PySem.Spec PyProof.Rows
theorem deq_ints (a b : List Int) : deq (.lst (a.map .int)) (.lst (b.map .int)) = decide (a = b) := by
 unfold deq
 show PyData.eqv (.list (D.pys _)) (.list (D.pys _)) = _
 rw [pys_int, pys_int]
 simp only [PyData.eqv]
 exact eqvAll_ints a b
def rngI (n : Nat) : List Int := (List.range n).map fun k => ((k : Nat) : Int)
theorem rngD_ints (n : Nat) : rngD 0 n = (rngI n).map D.int := by
 unfold rngD rngI
 rw [List.map_map]
 exact List.map_congr_left fun k _ => by show D.int (0 + (k : Int)) = D.int (k : Int); rw [Int.zero_add]
theorem rngI_sorted (n : Nat) : (rngI n).Pairwise (· ≤ ·) := by
 unfold rngI
 rw [List.pairwise_map]
 exact List.pairwise_lt_range.imp fun h => by omega
theorem sort_eq {a b : List Int} {n : Nat} (hp : b.Perm a) (hs : b.Pairwise (· ≤ ·)) : decide (b = rngI n) = decide (a.Perm (rngI n)) := by
 by_cases h : b = rngI n
 ·rw [decide_eq_true h, decide_eq_true (by rw [← h]; exact hp.symm)]
 ·rw [decide_eq_false h, decide_eq_false fun z => h (List.Perm.eq_of_pairwise (fun x y _ _ h1 h2 => by omega) hs (rngI_sorted n) (hp.trans z))]
end L2
namespace K13
open PySem PySem.Spec PyProof.Rows L2
def top (i : Nat) : Stmt := PySem.Challenge.pw_shortglue_k13_left_paper.main.body.getD i (.Pass ⟨0, 0, 0, 0⟩)
abbrev s_is_row : Stmt := top 1
abbrev s_is_number : Stmt := top 2
abbrev s_are_numbers : Stmt := top 3
abbrev s_is_whole : Stmt := top 5
abbrev s_stands_at : Stmt := top 6
abbrev s_first_place : Stmt := top 7
abbrev s_stands_within : Stmt := top 9
abbrev s_are_rising_indexes : Stmt := top 10
abbrev s_are_apart : Stmt := top 11
abbrev s_is_left_paper : Stmt := top 12
abbrev s_law_stream : Stmt := top 14
abbrev s_law_take : Stmt := top 15
abbrev s_law_letters : Stmt := top 16
abbrev s_law_word : Stmt := top 17
abbrev s_law_cut : Stmt := top 18
abbrev s_law_pieces : Stmt := top 19
abbrev s_law_stands : Stmt := top 20
abbrev s_law_roots : Stmt := top 21
abbrev s_law_rising : Stmt := top 23
abbrev s_law_right : Stmt := top 24
abbrev s_law_changed : Stmt := top 25
abbrev s_law_changed_rows : Stmt := top 27
abbrev s_law_bent : Stmt := top 26
abbrev s_law_paper : Stmt := top 22
abbrev s_law_kinds : Stmt := top 28
abbrev s_law_is : Stmt := top 29
abbrev s_law_odd_ones : Stmt := top 30
abbrev s_law : Stmt := top 31
theorem sc_is_row : FnScope ["thing"] ["thing"] (defScope s_is_row) := ⟨rfl, rfl, rfl, by decide +kernel, rfl, by decide +kernel, by decide +kernel⟩
theorem sc_is_number : FnScope ["thing"] ["thing"] (defScope s_is_number) := ⟨rfl, rfl, rfl, by decide +kernel, rfl, by decide +kernel, by decide +kernel⟩
theorem sc_are_numbers : FnScope ["thing", "many"] ["thing", "many"] (defScope s_are_numbers) := ⟨rfl, rfl, rfl, by decide +kernel, rfl, by decide +kernel, by decide +kernel⟩
theorem sc_is_whole : FnScope ["thing", "least", "most"] ["thing", "least", "most"] (defScope s_is_whole) := ⟨rfl, rfl, rfl, by decide +kernel, rfl, by decide +kernel, by decide +kernel⟩
theorem sc_stands_at : FnScope ["text", "piece", "place"] ["text", "piece", "place"] (defScope s_stands_at) := ⟨rfl, rfl, rfl, by decide +kernel, rfl, by decide +kernel, by decide +kernel⟩
theorem sc_first_place : FnScope ["text", "piece"] ["text", "piece"] (defScope s_first_place) := ⟨rfl, rfl, rfl, by decide +kernel, rfl, by decide +kernel, by decide +kernel⟩
theorem sc_stands_within : FnScope ["piece", "other"] ["piece", "other"] (defScope s_stands_within) := ⟨rfl, rfl, rfl, by decide +kernel, rfl, by decide +kernel, by decide +kernel⟩
theorem sc_are_rising_indexes : FnScope ["thing", "many"] ["thing", "many"] (defScope s_are_rising_indexes) := ⟨rfl, rfl, rfl, by decide +kernel, rfl, by decide +kernel, by decide +kernel⟩
theorem sc_are_apart : FnScope ["words", "numbers"] ["words"] (defScope s_are_apart) := ⟨rfl, rfl, rfl, by decide +kernel, rfl, by decide +kernel, by decide +kernel⟩
theorem sc_is_left_paper : FnScope ["pieces", "kept", "left", "many", "out", "at", "holder", "place"] ["pieces", "kept", "left"] (defScope s_is_left_paper) := ⟨rfl, rfl, rfl, by decide +kernel, rfl, by decide +kernel, by decide +kernel⟩
theorem sc_law_stream : FnScope ["_law_script", "_law_k", "_law_cell"] ["_law_script", "_law_k"] (defScope s_law_stream) := ⟨rfl, rfl, rfl, by decide +kernel, rfl, by decide +kernel, by decide +kernel⟩
theorem sc_law_take : FnScope ["_law_stream_here", "_law_most", "_law_digit"] ["_law_stream_here", "_law_most"] (defScope s_law_take) := ⟨rfl, rfl, rfl, by decide +kernel, rfl, by decide +kernel, by decide +kernel⟩
theorem sc_law_letters : FnScope ["_law_stream_here", "_law_alphabet", "_law_way"] ["_law_stream_here"] (defScope s_law_letters) := ⟨rfl, rfl, rfl, by decide +kernel, rfl, by decide +kernel, by decide +kernel⟩
theorem sc_law_word : FnScope ["_law_stream_here", "_law_letters_here", "_law_most"] ["_law_stream_here", "_law_letters_here", "_law_most"] (defScope s_law_word) := ⟨rfl, rfl, rfl, by decide +kernel, rfl, by decide +kernel, by decide +kernel⟩
theorem sc_law_cut : FnScope ["_law_stream_here", "_law_text", "_law_most", "_law_at"] ["_law_stream_here", "_law_text", "_law_most"] (defScope s_law_cut) := ⟨rfl, rfl, rfl, by decide +kernel, rfl, by decide +kernel, by decide +kernel⟩
theorem sc_law_pieces : FnScope ["_law_stream_here", "_law_many", "_law_most", "_law_letters_here", "_law_base", "_law_found", "_law_k", "_law_way", "_law_piece"] ["_law_stream_here", "_law_many", "_law_most"] (defScope s_law_pieces) := ⟨rfl, rfl, rfl, by decide +kernel, rfl, by decide +kernel, by decide +kernel⟩
theorem sc_law_stands : FnScope ["_law_text", "_law_piece"] ["_law_text", "_law_piece"] (defScope s_law_stands) := ⟨rfl, rfl, rfl, by decide +kernel, rfl, by decide +kernel, by decide +kernel⟩
theorem sc_law_roots : FnScope ["_law_pieces_here", "_law_found", "_law_piece", "_law_longer"] ["_law_pieces_here"] (defScope s_law_roots) := ⟨rfl, rfl, rfl, by decide +kernel, rfl, by decide +kernel, by decide +kernel⟩
theorem sc_law_rising : FnScope ["_law_row", "_law_many", "_law_last", "_law_number"] ["_law_row", "_law_many"] (defScope s_law_rising) := ⟨rfl, rfl, rfl, by decide +kernel, rfl, by decide +kernel, by decide +kernel⟩
theorem sc_law_right : FnScope ["_law_pieces_here", "_law_kept", "_law_left", "_law_many", "_law_others", "_law_row", "_law_one", "_law_other"] ["_law_pieces_here", "_law_kept", "_law_left"] (defScope s_law_right) := ⟨rfl, rfl, rfl, by decide +kernel, rfl, by decide +kernel, by decide +kernel⟩
theorem sc_law_changed : FnScope ["_law_stream_here", "_law_row", "_law_at", "_law_way", "_law_number", "_law_other", "_law_found"] ["_law_stream_here", "_law_row"] (defScope s_law_changed) := ⟨rfl, rfl, rfl, by decide +kernel, rfl, by decide +kernel, by decide +kernel⟩
theorem sc_law_changed_rows : FnScope ["_law_stream_here", "_law_left", "_law_at", "_law_other", "_law_way", "_law_found"] ["_law_stream_here", "_law_left"] (defScope s_law_changed_rows) := ⟨rfl, rfl, rfl, by decide +kernel, rfl, by decide +kernel, by decide +kernel⟩
theorem sc_law_bent : FnScope ["_law_stream_here", "_law_kept", "_law_left", "_law_way", "_law_at", "_law_place", "_law_row"] ["_law_stream_here", "_law_kept", "_law_left"] (defScope s_law_bent) := ⟨rfl, rfl, rfl, by decide +kernel, rfl, by decide +kernel, by decide +kernel⟩
theorem sc_law_paper : FnScope ["_law_stream_here", "_law_pieces_here", "_law_kept", "_law_root", "_law_some", "_law_left", "_law_k", "_law_holder", "_law_spots"] ["_law_stream_here", "_law_pieces_here"] (defScope s_law_paper) := ⟨rfl, rfl, rfl, by decide +kernel, rfl, by decide +kernel, by decide +kernel⟩
theorem sc_law_kinds : FnScope ["_law_stream_here", "_law_kept", "_law_left", "_law_rows"] ["_law_stream_here", "_law_kept", "_law_left"] (defScope s_law_kinds) := ⟨rfl, rfl, rfl, by decide +kernel, rfl, by decide +kernel, by decide +kernel⟩
theorem sc_law_is : FnScope ["_law_pieces_here", "_law_kept", "_law_left", "_law_due", "_law_found"] ["_law_pieces_here", "_law_kept", "_law_left", "_law_due"] (defScope s_law_is) := ⟨rfl, rfl, rfl, by decide +kernel, rfl, by decide +kernel, by decide +kernel⟩
theorem sc_law_odd_ones : FnScope ["_law_stream_here", "_law_pieces_here", "_law_kept", "_law_left", "_law_k", "_law_at", "_law_row"] ["_law_stream_here", "_law_pieces_here", "_law_kept", "_law_left"] (defScope s_law_odd_ones) := ⟨rfl, rfl, rfl, by decide +kernel, rfl, by decide +kernel, by decide +kernel⟩
theorem sc_law : FnScope ["_law_script", "_law_stream_here", "_law_pieces_here", "_law_handed", "_law_kept", "_law_left", "_law_one", "_law_other", "_law_k", "_law_bent_here"] ["_law_script"] (defScope s_law) := ⟨rfl, rfl, rfl, by decide +kernel, rfl, by decide +kernel, by decide +kernel⟩
structure Txt (mg : Str → Option Value) : Prop where
 b_abs : mg "abs" = none
 b_all : mg "all" = none
 b_any : mg "any" = none
 b_bool : mg "bool" = none
 b_int : mg "int" = none
 b_isinstance : mg "isinstance" = none
 b_len : mg "len" = none
 b_list : mg "list" = none
 b_max : mg "max" = none
 b_min : mg "min" = none
 b_range : mg "range" = none
 b_sorted : mg "sorted" = none
 b_tuple : mg "tuple" = none
 b_zip : mg "zip" = none
local macro_rules | `(tactic| walk_at "s") => `(tactic| first | omega | rfl | assumption | exact Nat.le_of_ble_eq_true rfl | (simp only [List.length_cons, List.length_nil, List.length_append, List.length_map]; omega) | (refine ⟨?_, ?_⟩ <;> first | omega | rfl | assumption | exact Nat.le_of_ble_eq_true rfl | (refine ⟨?_, ?_⟩ <;> first | omega | rfl | assumption | exact Nat.le_of_ble_eq_true rfl | (refine ⟨?_, ?_⟩ <;> first | omega | rfl | assumption | exact Nat.le_of_ble_eq_true rfl | fail) | fail) | fail) | fail)
local macro_rules | `(tactic| walk_at "r") => `(tactic| ((conv => whnf); repeat (first | (refine And.intro (by walk_at "s") ?_; (conv => whnf)) | (refine ⟨_, rfl, ?_⟩; (conv => whnf)) | (refine pitT (by assumption) ?_; (conv => whnf)) | (refine pitF (by assumption) ?_; (conv => whnf)) | (refine pitNT (by assumption) ?_; (conv => whnf)) | (refine pitNF (by assumption) ?_; (conv => whnf)) | (refine piteT (by first | rfl | assumption | omega) ?_; (conv => whnf)) | (refine piteF (by first | assumption | omega) ?_; (conv => whnf)) | (refine piteNT (by first | assumption | omega) ?_; (conv => whnf)) | (refine piteNF (by first | rfl | assumption | omega) ?_; (conv => whnf)))))
def stv (s : Int × Int) : PV := .own [.int s.1, .int s.2]
def SOk : Int × Int → Prop
 | (a, b) => 0 ≤ a ∧ 0 ≤ b ∧ b < 2 ^ 60
def nn_is_row : Nat := 1
def pc_is_row : FN
 | [d], Q => d.sort = true ∧ Q (.dat (.bl (isRow d)))
 | _, _ => False
def nn_is_number : Nat := 1
def pc_is_number : FN
 | [d], Q => d.sort = true ∧ Q (.dat (.bl (isNum d)))
 | _, _ => False
def nn_are_numbers : Nat := 2
def pc_are_numbers : FN
 | [d, .int m], Q => Srt d ∧ (itemsD d).length ≤ 1000000 ∧ Q (.dat (.bl (areNums d m)))
 | _, _ => False
def nn_is_whole : Nat := 3
def isWh (d : D) (a b : Int) : Bool := isNum d && (decide (a ≤ toI d) && decide (toI d ≤ b))
def chainB (zs : List Int) : Bool := (List.range (zs.length - 1)).all fun k => decide (zs.getD k 0 < zs.getD (k + 1) 0)
def risB (d : D) (m : Int) : Bool := isRow d && ((itemsD d).all (fun x => isWh x 0 (m - 1)) && chainB ((itemsD d).map toI))
theorem wh_num {d : D} {a b : Int} (h : isWh d a b = true) : isNum d = true := by unfold isWh at h; rw [Bool.and_eq_true] at h; exact h.1
def pc_is_whole : FN
 | [d, .int a, .int b], Q => d.sort = true ∧ Q (.dat (.bl (isWh d a b)))
 | _, _ => False
def nn_stands_at : Nat := 3
def pc_stands_at : FN
 | [.str t, .str w, .int p], Q => (t.length ≤ 100000 ∧ w.length ≤ 100000 ∧ -(10 ^ 15) ≤ p ∧ p ≤ 10 ^ 15) ∧ Q (.dat (.bl (decide (0 ≤ p) && stA t w p.toNat)))
 | _, _ => False
def nn_first_place : Nat := 2
def pc_first_place : FN
 | [.str a, .str b], Q => Q (.dat (.int (fnd a b 0)))
 | _, _ => False
def nn_stands_within : Nat := 2
def pc_stands_within : FN
 | [.str a, .str b], Q => Q (.dat (.bl (subB a b)))
 | _, _ => False
def nn_are_rising_indexes : Nat := 2
def pc_are_rising_indexes : FN
 | [d, .int m], Q => Srt d ∧ (itemsD d).length ≤ 100000 ∧ Q (.dat (.bl (risB d m)))
 | _, _ => False
def nn_are_apart : Nat := 2
def pc_are_apart : FN
 | [.lst ds], Q => ∃ ws : List (List Nat), ds = ws.map .str ∧ (ws.length ≤ 300 ∧ ∀ w ∈ ws, w.length ≤ 10000) ∧ Q (.dat (.bl ((List.range ws.length).all fun i => (List.range ws.length).all fun j => decide (i = j) || !subB (pw ws i) (pw ws j))))
 | _, _ => False
def nn_is_left_paper : Nat := 8
def rowI (r : D) : List Int := (itemsD r).map toI
def holdsR (ws : List (List Nat)) (zs : List Int) (r : List Int) : Bool := decide (r.getD 1 0 ∈ zs) && (decide (0 ≤ r.getD 2 0) && stA (pw ws (r.getD 1 0).toNat) (pw ws (r.getD 0 0).toNat) (r.getD 2 0).toNat)
def apartB (vs : List (List Nat)) : Bool := (List.range vs.length).all fun i => (List.range vs.length).all fun j => decide (i = j) || !subB (pw vs i) (pw vs j)
def papB (ws : List (List Nat)) (zs : List Int) (L : List (List Int)) : Bool :=
 risB (.lst ((L.map (·.getD 0 0)).map .int)) (ws.length : Int) && (decide ((zs ++ L.map (·.getD 0 0)).Perm (rngI ws.length)) && (L.all (holdsR ws zs) && apartB (zs.map fun z => pw ws z.toNat)))
def paperB (ws : List (List Nat)) (kept left : D) : Bool := risB kept (ws.length : Int) && (isRow left && ((itemsD left).all (fun r => areNums r 3) && papB ws ((itemsD kept).map toI) ((itemsD left).map rowI)))
structure PIn (kept left : D) : Prop where
 sk : Srt kept
 lk : (itemsD kept).length ≤ 1000
 sl : Srt left
 ll : (itemsD left).length ≤ 1000
 rows : ∀ r ∈ itemsD left, Srt r ∧ (itemsD r).length ≤ 1000 ∧ ∀ x ∈ itemsD r, -(10 ^ 15) ≤ toI x ∧ toI x ≤ 10 ^ 15
theorem ris_ex {d : D} {m : Int} (h : risB d m = true) : ∃ zs : List Int, (d = .lst (zs.map .int) ∨ d = .tup (zs.map .int)) ∧ (∀ z ∈ zs, 0 ≤ z ∧ z < m) ∧ chainB zs = true := by
 unfold risB at h
 rw [Bool.and_eq_true, Bool.and_eq_true] at h
 obtain ⟨h1, h2, h3⟩ := h
 have hn := nums_of (List.all_eq_true.mpr fun x hx => wh_num (List.all_eq_true.mp h2 x hx))
 refine ⟨(itemsD d).map toI, ?_, fun z hz => ?_, h3⟩
 ·cases d with
  | lst ds => exact .inl (congrArg D.lst hn)
  | tup ds => exact .inr (congrArg D.tup hn)
  | _ => cases h1
 ·obtain ⟨x, hx, rfl⟩ := List.mem_map.mp hz
  have := List.all_eq_true.mp h2 x hx
  unfold isWh at this
  rw [Bool.and_eq_true, Bool.and_eq_true, decide_eq_true_eq, decide_eq_true_eq] at this
  omega
theorem row_ex {d : D} (h : isRow d = true) : ∃ rs, d = .lst rs ∨ d = .tup rs := by
 cases d with
 | lst ds => exact ⟨ds, .inl rfl⟩
 | tup ds => exact ⟨ds, .inr rfl⟩
 | _ => cases h
theorem row3 {r : D} (h : areNums r 3 = true) : ∃ a b c : Int, r = .lst [.int a, .int b, .int c] ∨ r = .tup [.int a, .int b, .int c] := by
 unfold areNums at h
 rw [Bool.and_eq_true, Bool.and_eq_true, decide_eq_true_eq] at h
 obtain ⟨h1, h2, h3⟩ := h
 have hn := nums_of h3
 obtain ⟨rs, e⟩ := row_ex h1
 have hi : itemsD r = rs := by rcases e with rfl | rfl <;> rfl
 rw [hi] at h2 hn
 match rs, h2, hn with
 | [x, y, z], _, hn =>
  refine ⟨toI x, toI y, toI z, ?_⟩
  rcases e with rfl | rfl
  ·exact .inl (congrArg D.lst hn)
  ·exact .inr (congrArg D.tup hn)
 | [], h2, _ => simp at h2
 | [_], h2, _ => simp at h2
 | [_, _], h2, _ => simp at h2
 | _ :: _ :: _ :: _ :: _, h2, _ => simp at h2; omega
theorem chain_len {zs : List Int} {n : Nat} (hz : ∀ z ∈ zs, 0 ≤ z ∧ z < (n : Int)) (hc : chainB zs = true) : zs.length ≤ n := by
 have h : ∀ k, k < zs.length → (k : Int) ≤ zs.getD k 0 := by
  intro k
  induction k with
  | zero => intro h0; exact (hz _ (List.mem_of_getElem? (by rw [List.getD_eq_getElem?_getD, List.getElem?_eq_getElem h0]; rfl))).1
  | succ k ih =>
   intro hk
   have h1 := ih (by omega)
   have h2 := of_decide_eq_true (List.all_eq_true.mp hc k (List.mem_range.mpr (by omega)))
   omega
 rcases Nat.eq_zero_or_pos zs.length with h0 | h0
 ·omega
 ·have h1 := h (zs.length - 1) (by omega)
  have h2 := (hz _ (List.mem_of_getElem? (show zs[zs.length - 1]? = some (zs.getD (zs.length - 1) 0) by rw [List.getD_eq_getElem?_getD, List.getElem?_eq_getElem (by omega)]; rfl))).2
  omega
theorem inD_int (k : Int) : ∀ ks : List Int, inD (.int k) (ks.map .int) = decide (k ∈ ks)
 | [] => by simp [inD]
 | v :: r => by
  have ih := inD_int k r
  unfold inD at ih ⊢
  rw [List.map_cons, List.any_cons, ih]
  show ((v == k) || decide (k ∈ r)) = _
  by_cases h : v = k
  ·subst h; simp
  ·rw [beq_eq_false_iff_ne.mpr h, Bool.false_or]
   by_cases h2 : k ∈ r
   ·rw [decide_eq_true h2, decide_eq_true (List.mem_cons_of_mem _ h2)]
   ·rw [decide_eq_false h2, decide_eq_false (fun z => (List.mem_cons.mp z).elim (fun e => h e.symm) h2)]
theorem fl_ints (ks : List Int) : (ks.map D.int).all D.fl = true := by rw [List.all_map]; exact List.all_eq_true.mpr fun _ _ => rfl
def pc_is_left_paper : FN
 | [e, kept, left], Q => ∃ ws : List (List Nat), SqOf e (ws.map .str) ∧ (ws.length ≤ 20 ∧ ∀ w ∈ ws, w.length ≤ 10000) ∧ PIn kept left ∧ Q (.dat (.bl (paperB ws kept left)))
 | _, _ => False
def nn_law_stream : Nat := 3
def cellN (ns : List Int) (k : Int) : Int := if k < (ns.length : Int) then (if ns.getD k.toNat 0 < 0 then -(ns.getD k.toNat 0) else ns.getD k.toNat 0) else k * k * 7919 + 5
def strN (ns : List Int) (k : Int) : Int × Int := (cellN ns k, cellN ns k % 2147483629 + k * 7919 + 1)
def pc_law_stream : FN
 | [.scr ns, .int k], Q => 0 ≤ k ∧ k ≤ 1000 ∧ (SOk (strN ns k) → Q (stv (strN ns k)))
 | _, _ => False
def nn_law_take : Nat := 3
def tkS (s : Int × Int) (m : Int) : Int × (Int × Int) :=
 if 0 < s.1 then (s.1 % m, (s.1 / m, s.2)) else ((s.2 * 48271 + 12345) % 2147483647 * ((s.2 * 48271 + 12345) % 2147483647) % 2147483629 % m, (s.1, (s.2 * 48271 + 12345) % 2147483647))
def pc_law_take : FR
 | .own [.int c0, .int c1], [.int m], Q => SOk (c0, c1) ∧ 0 < m ∧ m ≤ 1000000 ∧ ∀ (x : Int) (s : Int × Int), SOk s → 0 ≤ x → (x < m ∧ tkS (c0, c1) m = (x, s)) → Q (.dat (.int x)) (stv s)
 | _, _, _ => False
def nn_law_letters : Nat := 3
def pc_law_letters : FR
 | .own [.int c0, .int c1], [], Q => SOk (c0, c1) ∧ ∀ (ls : List Nat) (s : Int × Int), SOk s → 2 ≤ ls.length → ls.length ≤ 26 → Lts ls → Q (.dat (.str ls)) (stv s)
 | _, _, _ => False
def nn_law_word : Nat := 3
def pc_law_word : FR
 | .own [.int c0, .int c1], [.str ls, .int m], Q => SOk (c0, c1) ∧ (0 < ls.length ∧ ls.length ≤ 26 ∧ Lts ls) ∧ (0 < m ∧ m ≤ 10000) ∧ ∀ (w : List Nat) (s : Int × Int), SOk s → 0 < w.length → w.length ≤ m.toNat → Lts w → Q (.dat (.str w)) (stv s)
 | _, _, _ => False
def nn_law_cut : Nat := 4
def pc_law_cut : FR
 | .own [.int c0, .int c1], [.str t, .int m], Q => SOk (c0, c1) ∧ (0 < t.length ∧ t.length ≤ 100000 ∧ Lts t) ∧ (0 < m ∧ m ≤ 10000) ∧ ∀ (w : List Nat) (s : Int × Int), SOk s → 0 < w.length → w.length ≤ m.toNat → Lts w → Q (.dat (.str w)) (stv s)
 | _, _, _ => False
def nn_law_pieces : Nat := 9
def pc_law_pieces : FR
 | .own [.int c0, .int c1], [.int n, .int m], Q => SOk (c0, c1) ∧ (0 ≤ n ∧ n ≤ 40) ∧ (0 < m ∧ m ≤ 60) ∧ ∀ (ps : List (List Nat)) (s : Int × Int), SOk s → ps.length = n.toNat → Pcs m.toNat ps → Q (.dat (.lst (ps.map .str))) (stv s)
 | _, _, _ => False
def nn_law_stands : Nat := 2
def spots (t w : List Nat) : List Int := ((List.range (t.length + 1 - w.length)).filter fun k => stA t w k).map fun k => ((k : Nat) : Int)
theorem fm_intN (p : Nat → Bool) : ∀ js : List Nat, js.filterMap (fun j => if p j = true then some (D.int (j : Int)) else none) = ((js.filter p).map fun j => ((j : Nat) : Int)).map D.int
 | [] => rfl
 | j :: r => by
  rw [List.filterMap_cons, List.filter_cons]
  cases h : p j with
  | true => simp [fm_intN p r]
  | false => simp [fm_intN p r]
theorem mem_spots {t w : List Nat} {z : Int} : z ∈ spots t w ↔ (0 ≤ z ∧ stA t w z.toNat = true) := by
 unfold spots
 constructor
 ·intro h
  obtain ⟨k, hk, rfl⟩ := List.mem_map.mp h
  exact ⟨by omega, by rw [Int.toNat_natCast]; exact (List.mem_filter.mp hk).2⟩
 ·rintro ⟨h0, h1⟩
  have h2 := (of_decide_eq_true h1).1
  exact List.mem_map.mpr ⟨z.toNat, List.mem_filter.mpr ⟨List.mem_range.mpr (by omega), h1⟩, by omega⟩
theorem spots_nil {t w : List Nat} : spots t w = [] ↔ subB w t = false := by
 constructor
 ·intro h
  cases hs : subB w t with
  | false => rfl
  | true =>
   obtain ⟨k, hk⟩ := sub_iff.mp hs
   have : ((k : Nat) : Int) ∈ spots t w := mem_spots.mpr ⟨by omega, by rw [Int.toNat_natCast]; exact hk⟩
   rw [h] at this; cases this
 ·intro h
  cases hs : spots t w with
  | nil => rfl
  | cons z r =>
   have : z ∈ spots t w := by rw [hs]; exact List.mem_cons_self ..
   have := (mem_spots.mp this).2
   rw [sub_iff.mpr ⟨_, this⟩] at h; cases h
def pc_law_stands : FN
 | [.str t, .str w], Q => (t.length ≤ 10000 ∧ w.length ≤ 10000) ∧ Q (.own ((spots t w).map .int))
 | _, _ => False
def nn_law_roots : Nat := 4
def rootB (ws : List (List Nat)) (v : List Nat) : Bool := (ws.filter fun o => decide (v.length < o.length) && subB v o).isEmpty
def rootsN (ws : List (List Nat)) : Nat → List (List Nat)
 | 0 => []
 | k + 1 => if rootB ws (pw ws k) = true ∧ pw ws k ∉ rootsN ws k then rootsN ws k ++ [pw ws k] else rootsN ws k
theorem rootsN_ok (ws : List (List Nat)) : ∀ k, k ≤ ws.length → (rootsN ws k).length ≤ k ∧ (rootsN ws k).Nodup ∧ ∀ v, v ∈ rootsN ws k ↔ v ∈ ws.take k ∧ rootB ws v = true := by
 intro k
 induction k with
 | zero => intro _; exact ⟨Nat.le_refl _, List.nodup_nil, fun v => by simp [rootsN]⟩
 | succ k ih =>
  intro hk
  obtain ⟨h1, h2, h3⟩ := ih (by omega)
  have htk : ws.take (k + 1) = ws.take k ++ [pw ws k] := pw_take (by omega)
  unfold rootsN
  by_cases c : rootB ws (pw ws k) = true ∧ pw ws k ∉ rootsN ws k
  ·rw [if_pos c]
   refine ⟨by rw [List.length_append]; show _ + 1 ≤ _; omega, ?_, fun v => ?_⟩
   ·rw [List.nodup_append]
    exact ⟨h2, by simp, fun a ha b hb => by rw [List.mem_singleton.mp hb]; exact fun e => c.2 (by rw [← e]; exact ha)⟩
   ·rw [htk, List.mem_append, h3 v]
    constructor
    ·rintro (⟨h1, h2⟩ | h)
     ·exact ⟨List.mem_append_left _ h1, h2⟩
     ·rw [List.mem_singleton.mp h]; exact ⟨List.mem_append_right _ (List.mem_singleton.mpr rfl), c.1⟩
    ·rintro ⟨h1, h2⟩
     rcases List.mem_append.mp h1 with h | h
     ·exact .inl ⟨h, h2⟩
     ·exact .inr h
  ·rw [if_neg c]
   refine ⟨by omega, h2, fun v => ?_⟩
   rw [htk, h3 v]
   constructor
   ·rintro ⟨h1, h2⟩; exact ⟨List.mem_append_left _ h1, h2⟩
   ·rintro ⟨h1, h2⟩
    rcases List.mem_append.mp h1 with h | h
    ·exact ⟨h, h2⟩
    ·rw [List.mem_singleton.mp h] at h2 ⊢
     refine (h3 _).mp (Classical.byContradiction fun z => c ⟨h2, z⟩)
def pc_law_roots : FN
 | [.lst ds], Q => ∃ ws : List (List Nat), ds = ws.map .str ∧ (ws.length ≤ 20 ∧ ∀ w ∈ ws, w.length ≤ 60 ∧ Lts w) ∧ Q (.dat (.lst ((rootsN ws ws.length).map .str)))
 | _, _ => False
def nn_law_rising : Nat := 4
def pc_law_rising : FN
 | [.lst ds, .int m], Q => ∃ zs : List Int, ds = zs.map .int ∧ zs.length ≤ 1000 ∧ Q (.dat (.bl (risB (.lst (zs.map .int)) m)))
 | _, _ => False
def nn_law_right : Nat := 8
theorem chain_lt {zs : List Int} (hc : chainB zs = true) : ∀ (d i : Nat), i + d + 1 < zs.length → zs.getD i 0 < zs.getD (i + d + 1) 0 := by
 intro d
 induction d with
 | zero => intro i hi; exact of_decide_eq_true (List.all_eq_true.mp hc i (List.mem_range.mpr (by omega)))
 | succ d ih =>
  intro i hi
  have h1 := ih i (by omega)
  have h2 := of_decide_eq_true (List.all_eq_true.mp hc (i + d + 1) (List.mem_range.mpr (by omega)))
  rw [show i + (d + 1) + 1 = i + d + 1 + 1 by omega]
  omega
theorem chain_inj {zs : List Int} (hc : chainB zs = true) {i j : Nat} (hi : i < zs.length) (hj : j < zs.length) : zs.getD i 0 = zs.getD j 0 ↔ i = j := by
 constructor
 ·intro e
  rcases Nat.lt_trichotomy i j with h | h | h
  ·have := chain_lt hc (j - i - 1) i (by omega)
   rw [show i + (j - i - 1) + 1 = j by omega] at this; omega
  ·exact h
  ·have := chain_lt hc (i - j - 1) j (by omega)
   rw [show j + (i - j - 1) + 1 = i by omega] at this; omega
 ·intro e; rw [e]
theorem apart_iff {ws : List (List Nat)} {zs : List Int} (hc : chainB zs = true) : apartB (zs.map fun z => pw ws z.toNat) = true ↔ ∀ i, i < zs.length → ∀ j, j < zs.length → zs.getD i 0 ≠ zs.getD j 0 → subB (pw ws (zs.getD i 0).toNat) (pw ws (zs.getD j 0).toNat) = false := by
 have e : ∀ i, i < zs.length → pw (zs.map fun z => pw ws z.toNat) i = pw ws (zs.getD i 0).toNat := fun i hi => by
  unfold pw
  rw [List.getD_eq_getElem?_getD, List.getElem?_map, List.getD_eq_getElem?_getD (l := zs), List.getElem?_eq_getElem hi]; rfl
 unfold apartB
 rw [List.length_map, List.all_eq_true]
 constructor
 ·intro h i hi j hj hne
  have := List.all_eq_true.mp (h i (List.mem_range.mpr hi)) j (List.mem_range.mpr hj)
  rw [e i hi, e j hj, decide_eq_false (fun z => hne ((chain_inj hc hi hj).mpr z)), Bool.false_or] at this
  simpa using this
 ·intro h i hi
  refine List.all_eq_true.mpr fun j hj => ?_
  have hi := List.mem_range.mp hi
  have hj := List.mem_range.mp hj
  rw [e i hi, e j hj]
  by_cases hij : i = j
  ·rw [decide_eq_true hij]; rfl
  ·rw [h i hi j hj (fun z => hij ((chain_inj hc hi hj).mp z))]; simp
def pc_law_right : FN
 | [.lst ds, .lst ks, .lst ls], Q => ∃ ws : List (List Nat), ds = ws.map .str ∧ ∃ zs : List Int, ks = zs.map .int ∧ ∃ L : List (List Int), ls = L.map (fun r => .lst (r.map .int)) ∧ (ws.length ≤ 20 ∧ ∀ w ∈ ws, w.length ≤ 10000) ∧ (zs.length ≤ 30 ∧ L.length ≤ 30) ∧ (∀ r ∈ L, ∃ a b c : Int, r = [a, b, c]) ∧ Q (.dat (.bl (risB (.lst (zs.map .int)) (ws.length : Int) && papB ws zs L)))
 | _, _ => False
def nn_law_changed : Nat := 7
def pc_law_changed : FR
 | .own [.int c0, .int c1], [.lst ds], Q => ∃ zs : List Int, ds = zs.map .int ∧ SOk (c0, c1) ∧ (0 < zs.length ∧ zs.length ≤ 20 ∧ ∀ z ∈ zs, -100 ≤ z ∧ z ≤ 100) ∧ ∀ (p : PV) (ys : List Int) (s : Int × Int), SOk s → p.d = .lst (ys.map .int) → ys.length ≤ 21 → (∀ z ∈ ys, -101 ≤ z ∧ z ≤ 101) → Q p (stv s)
 | _, _, _ => False
def nn_law_changed_rows : Nat := 6
def pc_law_changed_rows : FR
 | .own [.int c0, .int c1], [.lst ds], Q => SOk (c0, c1) ∧ (0 < ds.length ∧ ds.length ≤ 20) ∧ ∀ (p : PV) (es : List D) (s : Int × Int), SOk s → p.d = .lst es → es.length ≤ 21 → (∀ x ∈ es, x ∈ ds) → Q p (stv s)
 | _, _, _ => False
def nn_law_bent : Nat := 7
theorem deq_nilD (ds : List D) : deq (.lst ds) (.lst []) = decide (ds = []) := by
 cases ds with
 | nil => rw [decide_eq_true rfl]; exact deq_self (Sh.lstI [])
 | cons d r => simp [deq, D.py, D.pys, PyData.eqv, PyData.eqvAll]
def rowsD (L : List (List Int)) : List D := L.map fun r => .lst (r.map .int)
def Tri (L : List (List Int)) : Prop := ∀ r ∈ L, ∃ a b c : Int, r = [a, b, c] ∧ ∀ z ∈ r, -101 ≤ z ∧ z ≤ 101
theorem rowsD_fl (L : List (List Int)) : Sh (.lst (rowsD L)) := (Fl.lst (n := 1) fun d hd => by
 obtain ⟨r, _, rfl⟩ := List.mem_map.mp hd
 exact Fl.lst (n := 0) (Fl.ints r)).sh (by decide)
theorem ixN_nat {n i : Nat} (h : i < n) : ixN n (i : Int) = some i := by
 unfold ixN
 rw [if_pos (by omega)]
 simp; omega
def pc_law_bent : FR
 | .own [.int c0, .int c1], [.lst ks, .lst ls], Q => ∃ zs : List Int, ks = zs.map .int ∧ ∃ L : List (List Int), ls = rowsD L ∧ SOk (c0, c1) ∧ (zs.length ≤ 20 ∧ L.length ≤ 20) ∧ (∀ z ∈ zs, -100 ≤ z ∧ z ≤ 100) ∧ (∀ r ∈ L, ∃ a b c : Int, r = [a, b, c] ∧ ∀ z ∈ r, -100 ≤ z ∧ z ≤ 100) ∧ ∀ (ys : List Int) (M : List (List Int)) (s : Int × Int), SOk s → (ys.length ≤ 21 ∧ M.length ≤ 21) → (∀ z ∈ ys, -101 ≤ z ∧ z ≤ 101) → Tri M → Q (.own [.lst (ys.map .int), .lst (rowsD M)]) (stv s)
 | _, _, _ => False
def nn_law_paper : Nat := 9
theorem fm_getD (f : Int → Bool) : ∀ zs : List Int, (List.range zs.length).filterMap (fun j => if f (zs.getD j 0) = true then some (D.int (zs.getD j 0)) else none) = (zs.filter f).map D.int
 | [] => rfl
 | z :: r => by
  rw [List.length_cons, List.range_succ_eq_map, List.filterMap_cons, List.filterMap_map]
  have ih := fm_getD f r
  have e : ((fun j => if f ((z :: r).getD j 0) = true then some (D.int ((z :: r).getD j 0)) else none) ∘ Nat.succ) = fun j => if f (r.getD j 0) = true then some (D.int (r.getD j 0)) else none := rfl
  rw [e, ih, List.filter_cons]
  rw [show (z :: r).getD 0 0 = z from rfl]
  cases h : f z <;> rfl
theorem atI_ints {zs : List Int} {i : Int} {k : Nat} (h : k < zs.length) (e : i = (k : Int)) : atI (zs.map D.int) i = some (.int (zs.getD k 0)) := atI_of (j := k) (by rw [List.getElem?_map, List.getD_eq_getElem?_getD, List.getElem?_eq_getElem h]; rfl) e
theorem rowsD_app (L : List (List Int)) (r : List Int) : rowsD (L ++ [r]) = rowsD L ++ [.lst (r.map .int)] := by unfold rowsD; rw [List.map_append]; rfl
theorem tk_lt (s : Int × Int) {m : Int} (hm : 0 < m) : 0 ≤ (tkS s m).1 ∧ (tkS s m).1 < m := by
 unfold tkS
 by_cases c : 0 < s.1
 ·rw [if_pos c]; exact ⟨Int.emod_nonneg _ (by omega), Int.emod_lt_of_pos _ hm⟩
 ·rw [if_neg c]; exact ⟨Int.emod_nonneg _ (by omega), Int.emod_lt_of_pos _ hm⟩
theorem getD_mem {l : List Int} {k : Nat} (h : k < l.length) : l.getD k 0 ∈ l := List.mem_of_getElem? (show l[k]? = some (l.getD k 0) by rw [List.getD_eq_getElem?_getD, List.getElem?_eq_getElem h]; rfl)
theorem tk_mem (s : Int × Int) {l : List Int} (h : l ≠ []) : l.getD (tkS s (l.length : Int)).1.toNat 0 ∈ l := by
 have h0 : 0 < l.length := List.length_pos_iff.mpr h
 have := tk_lt s (m := (l.length : Int)) (by omega)
 exact getD_mem (by omega)
def idxs (ws : List (List Nat)) (v : List Nat) : List Int := ((List.range ws.length).filter fun k => decide (pw ws k = v)).map fun k => ((k : Nat) : Int)
theorem mem_idxs {ws : List (List Nat)} {v : List Nat} {z : Int} : z ∈ idxs ws v ↔ (0 ≤ z ∧ z.toNat < ws.length ∧ pw ws z.toNat = v) := by
 unfold idxs
 constructor
 ·intro h
  obtain ⟨k, hk, rfl⟩ := List.mem_map.mp h
  obtain ⟨h1, h2⟩ := List.mem_filter.mp hk
  exact ⟨by omega, by rw [Int.toNat_natCast]; exact List.mem_range.mp h1, by rw [Int.toNat_natCast]; exact of_decide_eq_true h2⟩
 ·rintro ⟨h0, h1, h2⟩
  exact List.mem_map.mpr ⟨z.toNat, List.mem_filter.mpr ⟨List.mem_range.mpr h1, decide_eq_true h2⟩, by omega⟩
theorem idxs_ne {ws : List (List Nat)} {v : List Nat} (h : v ∈ ws) : idxs ws v ≠ [] := by
 intro e
 obtain ⟨k, hk⟩ := List.mem_iff_getElem?.mp h
 have hk2 : k < ws.length := (List.getElem?_eq_some_iff.mp hk).1
 have hv : pw ws k = v := by have := pw_get hk2; rw [hk] at this; exact (Option.some.inj this).symm
 have : ((k : Nat) : Int) ∈ idxs ws v := mem_idxs.mpr ⟨by omega, by rw [Int.toNat_natCast]; exact hk2, by rw [Int.toNat_natCast]; exact hv⟩
 rw [e] at this; cases this
def keepN (ws vs : List (List Nat)) (s : Int × Int) : Nat → List Int × (Int × Int)
 | 0 => ([], s)
 | k + 1 => ((keepN ws vs s k).1 ++ [(idxs ws (pw vs k)).getD (tkS (keepN ws vs s k).2 ((idxs ws (pw vs k)).length : Int)).1.toNat 0], (tkS (keepN ws vs s k).2 ((idxs ws (pw vs k)).length : Int)).2)
theorem keepN_ok {ws vs : List (List Nat)} {s : Int × Int} (hv : ∀ v ∈ vs, v ∈ ws) : ∀ k, k ≤ vs.length → (keepN ws vs s k).1.length = k ∧ (keepN ws vs s k).1.map (fun z => pw ws z.toNat) = vs.take k ∧ ∀ z ∈ (keepN ws vs s k).1, 0 ≤ z ∧ z.toNat < ws.length := by
 intro k
 induction k with
 | zero => intro _; exact ⟨rfl, rfl, nofun⟩
 | succ k ih =>
  intro hk
  obtain ⟨h0, h1, h2⟩ := ih (by omega)
  have hm := tk_mem (keepN ws vs s k).2 (idxs_ne (hv _ (pw_mem (show k < vs.length by omega))))
  have hm2 := mem_idxs.mp hm
  refine ⟨by show (_ ++ [_]).length = _; rw [List.length_append, h0]; rfl, ?_, ?_⟩
  ·show (_ ++ [_]).map _ = _
   rw [List.map_append, h1, pw_take (show k < vs.length by omega), List.map_singleton, hm2.2.2]
  ·intro z hz
   have hz : z ∈ (keepN ws vs s k).1 ++ [_] := hz
   rcases List.mem_append.mp hz with h | h
   ·exact h2 z h
   ·rw [List.mem_singleton.mp h]; exact ⟨hm2.1, hm2.2.1⟩
def srtI (l : List Int) : List Int := l.mergeSort fun a b => decide (a ≤ b)
theorem srtI_perm (l : List Int) : (srtI l).Perm l := List.mergeSort_perm ..
theorem srtI_sorted (l : List Int) : (srtI l).Pairwise (· ≤ ·) := (List.pairwise_mergeSort (le := fun a b => decide (a ≤ b)) (fun a b c h1 h2 => decide_eq_true (by have := of_decide_eq_true h1; have := of_decide_eq_true h2; omega)) (fun a b => by rw [Bool.or_eq_true, decide_eq_true_eq, decide_eq_true_eq]; omega) l).imp fun h => of_decide_eq_true h
theorem srtI_of {l ns : List Int} (hp : ns.Perm l) (hs : ns.Pairwise (· ≤ ·)) : ns = srtI l := List.Perm.eq_of_pairwise (fun x y _ _ h1 h2 => by omega) hs (srtI_sorted l) (hp.trans (srtI_perm l).symm)
def holdN (ws : List (List Nat)) (zs : List Int) (k : Nat) : List Int := zs.filter fun j => subB (pw ws k) (pw ws j.toNat)
def leftN (ws : List (List Nat)) (zs : List Int) (s : Int × Int) : Nat → List (List Int) × (Int × Int)
 | 0 => ([], s)
 | k + 1 =>
  if (k : Int) ∈ zs then leftN ws zs s k else
   ((leftN ws zs s k).1 ++ [[(k : Int), (holdN ws zs k).getD (tkS (leftN ws zs s k).2 ((holdN ws zs k).length : Int)).1.toNat 0, (spots (pw ws ((holdN ws zs k).getD (tkS (leftN ws zs s k).2 ((holdN ws zs k).length : Int)).1.toNat 0).toNat) (pw ws k)).getD (tkS (tkS (leftN ws zs s k).2 ((holdN ws zs k).length : Int)).2 ((spots (pw ws ((holdN ws zs k).getD (tkS (leftN ws zs s k).2 ((holdN ws zs k).length : Int)).1.toNat 0).toNat) (pw ws k)).length : Int)).1.toNat 0]],
    (tkS (tkS (leftN ws zs s k).2 ((holdN ws zs k).length : Int)).2 ((spots (pw ws ((holdN ws zs k).getD (tkS (leftN ws zs s k).2 ((holdN ws zs k).length : Int)).1.toNat 0).toNat) (pw ws k)).length : Int)).2)
def outsN (zs : List Int) (k : Nat) : List Int := ((List.range k).filter fun j => !decide (((j : Nat) : Int) ∈ zs)).map fun j => ((j : Nat) : Int)
theorem outsN_succ (zs : List Int) (k : Nat) : outsN zs (k + 1) = if (k : Int) ∈ zs then outsN zs k else outsN zs k ++ [(k : Int)] := by
 unfold outsN
 rw [List.range_succ, List.filter_append, List.map_append]
 by_cases c : (k : Int) ∈ zs
 ·rw [if_pos c, List.filter_cons_of_neg (by rw [decide_eq_true c]; decide)]; simp
 ·rw [if_neg c, List.filter_cons_of_pos (by rw [decide_eq_false c]; decide)]; rfl
theorem leftN_ok {ws : List (List Nat)} {zs : List Int} {s : Int × Int} (hw : ws.length ≤ 20 ∧ ∀ w ∈ ws, w.length ≤ 60) (hz : ∀ z ∈ zs, 0 ≤ z ∧ z.toNat < ws.length) (hh : ∀ k, k < ws.length → holdN ws zs k ≠ []) :
  ∀ k, k ≤ ws.length → (leftN ws zs s k).1.length ≤ k ∧ (leftN ws zs s k).1.map (·.getD 0 0) = outsN zs k ∧ (leftN ws zs s k).1.all (holdsR ws zs) = true ∧ ∀ r ∈ (leftN ws zs s k).1, ∃ a b c : Int, r = [a, b, c] ∧ ∀ z ∈ r, -100 ≤ z ∧ z ≤ 100 := by
 intro k
 induction k with
 | zero => intro _; exact ⟨Nat.le_refl _, rfl, rfl, nofun⟩
 | succ k ih =>
  intro hk
  obtain ⟨h0, h1, h2, h3⟩ := ih (by omega)
  unfold leftN
  rw [outsN_succ]
  by_cases c : (k : Int) ∈ zs
  ·rw [if_pos c, if_pos c]; exact ⟨by omega, h1, h2, h3⟩
  ·rw [if_neg c, if_neg c]
   have m1 := tk_mem (leftN ws zs s k).2 (hh k (by omega))
   generalize (holdN ws zs k).getD (tkS (leftN ws zs s k).2 ((holdN ws zs k).length : Int)).1.toNat 0 = y at m1 ⊢
   generalize (tkS (leftN ws zs s k).2 ((holdN ws zs k).length : Int)).2 = s2
   obtain ⟨m1a, m1b⟩ := List.mem_filter.mp m1
   have hyb := hz y m1a
   have hsp : spots (pw ws y.toNat) (pw ws k) ≠ [] := fun e => by rw [spots_nil] at e; rw [e] at m1b; cases m1b
   have m2 := tk_mem s2 hsp
   generalize (spots (pw ws y.toNat) (pw ws k)).getD (tkS s2 ((spots (pw ws y.toNat) (pw ws k)).length : Int)).1.toNat 0 = x at m2 ⊢
   obtain ⟨m2a, m2b⟩ := mem_spots.mp m2
   have hx := (of_decide_eq_true m2b).1
   have hyl := hw.2 _ (pw_mem hyb.2)
   refine ⟨by rw [List.length_append]; show _ + 1 ≤ _; omega, by rw [List.map_append, h1]; rfl, ?_, ?_⟩
   ·rw [List.all_append, h2, Bool.true_and, List.all_cons, List.all_nil, Bool.and_true]
    unfold holdsR
    show (decide (y ∈ zs) && (decide (0 ≤ x) && stA (pw ws y.toNat) (pw ws ((k : Int)).toNat) x.toNat)) = true
    rw [decide_eq_true m1a, decide_eq_true m2a, Int.toNat_natCast, m2b]; rfl
   ·intro r hr
    rcases List.mem_append.mp hr with h | h
    ·exact h3 r h
    ·rw [List.mem_singleton.mp h]
     refine ⟨_, _, _, rfl, fun z hz' => ?_⟩
     simp only [List.mem_cons, List.not_mem_nil, or_false] at hz'
     rcases hz' with e | e | e <;> rw [e] <;> omega
def keptP (ws : List (List Nat)) (s : Int × Int) : List Int := srtI (keepN ws (rootsN ws ws.length) s (rootsN ws ws.length).length).1
def leftP (ws : List (List Nat)) (s : Int × Int) : List (List Int) × (Int × Int) := leftN ws (keptP ws s) (keepN ws (rootsN ws ws.length) s (rootsN ws ws.length).length).2 ws.length
theorem root_iff {ws : List (List Nat)} {v : List Nat} : rootB ws v = true ↔ ∀ o ∈ ws, v.length < o.length → subB v o = false := by
 unfold rootB
 rw [List.isEmpty_iff, List.filter_eq_nil_iff]
 constructor
 ·intro h o ho hl
  have := h o ho
  rw [decide_eq_true hl, Bool.true_and] at this
  simpa using this
 ·intro h o ho hh
  rw [Bool.and_eq_true, decide_eq_true_eq] at hh
  rw [h o ho hh.1] at hh; cases hh.2
theorem ex_root {ws : List (List Nat)} (hw : ∀ w ∈ ws, w.length ≤ 60) : ∀ (m : Nat) (v : List Nat), v ∈ ws → 61 - v.length ≤ m → ∃ o, o ∈ ws ∧ rootB ws o = true ∧ subB v o = true := by
 intro m
 induction m with
 | zero => intro v hv h; have := hw v hv; omega
 | succ m ih =>
  intro v hv h
  by_cases c : rootB ws v = true
  ·exact ⟨v, hv, c, sub_refl v⟩
  ·obtain ⟨o, ho, hl, hs⟩ : ∃ o ∈ ws, v.length < o.length ∧ subB v o = true := by
    apply Classical.byContradiction
    intro z
    refine c (root_iff.mpr fun o ho hl => ?_)
    cases hs : subB v o with
    | false => rfl
    | true => exact absurd ⟨o, ho, hl, hs⟩ z
   have := hw o ho
   obtain ⟨x, h1, h2, h3⟩ := ih o ho (by omega)
   exact ⟨x, h1, h2, sub_trans hs h3⟩
theorem sub_len {a b : List Nat} (h : subB a b = true) : a.length ≤ b.length := by
 obtain ⟨k, hk⟩ := sub_iff.mp h
 have := (of_decide_eq_true hk).1; omega
theorem sub_eq {a b : List Nat} (h : subB a b = true) (hl : a.length = b.length) : a = b := by
 obtain ⟨k, hk⟩ := sub_iff.mp h
 obtain ⟨h1, h2⟩ := of_decide_eq_true hk
 have : k = 0 := by omega
 subst this
 rw [List.drop_zero, hl, List.take_length] at h2
 exact h2.symm
theorem ris_of {zs : List Int} {n : Nat} (hz : ∀ z ∈ zs, 0 ≤ z ∧ z < (n : Int)) (hs : zs.Pairwise (· < ·)) : risB (.lst (zs.map .int)) (n : Int) = true := by
 unfold risB
 rw [Bool.and_eq_true, Bool.and_eq_true]
 refine ⟨rfl, List.all_eq_true.mpr fun x hx => ?_, ?_⟩
 ·obtain ⟨z, h, rfl⟩ := List.mem_map.mp hx
  have := hz z h
  show isWh (.int z) 0 ((n : Int) - 1) = true
  unfold isWh
  show (true && (decide (0 ≤ z) && decide (z ≤ (n : Int) - 1))) = true
  rw [decide_eq_true (by omega), decide_eq_true (by omega)]; rfl
 ·have e : (itemsD (.lst (zs.map .int))).map toI = zs := by show (zs.map D.int).map toI = zs; rw [List.map_map]; exact List.map_id' _
  rw [e]
  unfold chainB
  refine List.all_eq_true.mpr fun k hk => decide_eq_true ?_
  have hk := List.mem_range.mp hk
  rw [List.getD_eq_getElem?_getD, List.getD_eq_getElem?_getD, List.getElem?_eq_getElem (by omega), List.getElem?_eq_getElem (by omega)]
  exact List.pairwise_iff_getElem.mp hs k (k + 1) (by omega) (by omega) (by omega)
structure PapOk (ws : List (List Nat)) (zs : List Int) (L : List (List Int)) : Prop where
 lz : zs.length ≤ 20
 bz : ∀ z ∈ zs, 0 ≤ z ∧ z < (ws.length : Int)
 ll : L.length ≤ 20
 tr : ∀ r ∈ L, ∃ a b c : Int, r = [a, b, c] ∧ ∀ z ∈ r, -100 ≤ z ∧ z ≤ 100
 rz : risB (.lst (zs.map .int)) (ws.length : Int) = true
 pa : papB ws zs L = true
theorem paper_ok {ws : List (List Nat)} (s : Int × Int) (hn : ws.length ≤ 20) (hw : ∀ w ∈ ws, w.length ≤ 60) : PapOk ws (keptP ws s) (leftP ws s).1 := by
 obtain ⟨r1, r2, r3⟩ := rootsN_ok ws ws.length (Nat.le_refl _)
 rw [List.take_length] at r3
 have hv : ∀ v ∈ rootsN ws ws.length, v ∈ ws := fun v h => ((r3 v).mp h).1
 obtain ⟨k1, k2, k3⟩ := keepN_ok (s := s) hv _ (Nat.le_refl _)
 rw [List.take_length] at k2
 have hp := srtI_perm (keepN ws (rootsN ws ws.length) s (rootsN ws ws.length).length).1
 have hs := srtI_sorted (keepN ws (rootsN ws ws.length) s (rootsN ws ws.length).length).1
 unfold leftP
 have ek : srtI (keepN ws (rootsN ws ws.length) s (rootsN ws ws.length).length).1 = keptP ws s := rfl
 rw [ek] at hp hs
 generalize (keepN ws (rootsN ws ws.length) s (rootsN ws ws.length).length).2 = s1
 generalize (keepN ws (rootsN ws ws.length) s (rootsN ws ws.length).length).1 = ks at hp k1 k2 k3
 generalize keptP ws s = zs at hp hs ⊢
 have hz : ∀ z ∈ zs, 0 ≤ z ∧ z.toNat < ws.length := fun z h => k3 z (hp.mem_iff.mp h)
 have hz' : ∀ z ∈ zs, 0 ≤ z ∧ z < (ws.length : Int) := fun z h => by have := hz z h; omega
 have hmap : (zs.map fun z => pw ws z.toNat).Perm (rootsN ws ws.length) := by rw [← k2]; exact hp.map _
 have hnd : (zs.map fun z => pw ws z.toNat).Nodup := hmap.nodup_iff.mpr r2
 have hndz : zs.Nodup := by
  unfold List.Nodup at hnd ⊢
  rw [List.pairwise_map] at hnd
  exact hnd.imp fun h e => h (by rw [e])
 have hlt : zs.Pairwise (· < ·) := (hs.and hndz).imp fun ⟨h1, h2⟩ => by omega
 have hhold : ∀ k, k < ws.length → holdN ws zs k ≠ [] := fun k hk e => by
  obtain ⟨o, h1, h2, h3⟩ := ex_root hw _ _ (pw_mem hk) (Nat.le_refl _)
  have : o ∈ zs.map fun z => pw ws z.toNat := hmap.mem_iff.mpr ((r3 o).mpr ⟨h1, h2⟩)
  obtain ⟨z, hz1, rfl⟩ := List.mem_map.mp this
  have : z ∈ holdN ws zs k := List.mem_filter.mpr ⟨hz1, h3⟩
  rw [e] at this; cases this
 obtain ⟨l1, l2, l3, l4⟩ := leftN_ok (s := s1) ⟨hn, hw⟩ hz hhold ws.length (Nat.le_refl _)
 generalize (leftN ws zs s1 ws.length).1 = L at l1 l2 l3 l4
 have lz : zs.length ≤ 20 := by rw [hp.length_eq, k1]; omega
 have rz := ris_of hz' hlt
 have houts : ∀ a : Int, a ∈ outsN zs ws.length ↔ (0 ≤ a ∧ a < (ws.length : Int)) ∧ a ∉ zs := fun a => by
  unfold outsN
  rw [List.mem_map]
  constructor
  ·rintro ⟨j, hj, rfl⟩
   obtain ⟨j1, j2⟩ := List.mem_filter.mp hj
   have := List.mem_range.mp j1
   exact ⟨by omega, fun h => by rw [decide_eq_true h] at j2; cases j2⟩
  ·rintro ⟨h1, h2⟩
   refine ⟨a.toNat, List.mem_filter.mpr ⟨List.mem_range.mpr (by omega), ?_⟩, by omega⟩
   rw [show ((a.toNat : Nat) : Int) = a by omega, decide_eq_false h2]; rfl
 have hol : (outsN zs ws.length).Pairwise (· < ·) := by
  unfold outsN
  rw [List.pairwise_map]
  exact (List.pairwise_lt_range.filter _).imp fun h => by omega
 refine ⟨lz, hz', by omega, l4, rz, ?_⟩
 unfold papB
 rw [l2, l3, ris_of (fun z h => ((houts z).mp h).1) hol, Bool.true_and, Bool.true_and, Bool.and_eq_true, decide_eq_true_eq]
 constructor
 ·refine (List.perm_ext_iff_of_nodup ?_ ?_).mpr fun a => ?_
  ·rw [List.nodup_append]
   exact ⟨hndz, hol.imp fun h e => by omega, fun a ha b hb e => ((houts b).mp hb).2 (by rw [← e]; exact ha)⟩
  ·unfold rngI List.Nodup
   rw [List.pairwise_map]
   exact List.pairwise_lt_range.imp fun h => by omega
  ·rw [List.mem_append, houts a]
   have hr : a ∈ rngI ws.length ↔ (0 ≤ a ∧ a < (ws.length : Int)) := by
    unfold rngI
    rw [List.mem_map]
    constructor
    ·rintro ⟨j, hj, rfl⟩; have := List.mem_range.mp hj; omega
    ·intro h; exact ⟨a.toNat, List.mem_range.mpr (by omega), by omega⟩
   rw [hr]
   constructor
   ·rintro (h | h)
    ·exact hz' a h
    ·exact h.1
   ·intro h
    by_cases c : a ∈ zs
    ·exact .inl c
    ·exact .inr ⟨h, c⟩
 ·obtain ⟨zs2, e2, _, hch⟩ := ris_ex rz
  have e2 : zs2 = zs := by
   rcases e2 with e2 | e2
   ·have := congrArg (List.map toI) (D.lst.inj e2)
    rw [List.map_map, List.map_map] at this
    exact (by simpa [Function.comp_def, toI] using this.symm)
   ·cases e2
  rw [e2] at hch
  refine (apart_iff hch).mpr fun i hi j hj hne => ?_
  cases hsb : subB (pw ws (zs.getD i 0).toNat) (pw ws (zs.getD j 0).toNat) with
  | false => rfl
  | true =>
   have mi : pw ws (zs.getD i 0).toNat ∈ rootsN ws ws.length := hmap.mem_iff.mp (List.mem_map_of_mem (f := fun z : Int => pw ws z.toNat) (getD_mem hi))
   have mj : pw ws (zs.getD j 0).toNat ∈ rootsN ws ws.length := hmap.mem_iff.mp (List.mem_map_of_mem (f := fun z : Int => pw ws z.toNat) (getD_mem hj))
   have hl := sub_len hsb
   have hl2 : ¬ (pw ws (zs.getD i 0).toNat).length < (pw ws (zs.getD j 0).toNat).length := fun z => by
    have := root_iff.mp ((r3 _).mp mi).2 _ (hv _ mj) z
    rw [hsb] at this; cases this
   have he := sub_eq hsb (by omega)
   exfalso
   apply hne
   apply (chain_inj hch hi hj).mpr
   unfold List.Nodup at hnd
   rw [List.pairwise_map] at hnd
   have hpw := List.pairwise_iff_getElem.mp hnd
   have gi : zs.getD i 0 = zs[i] := by rw [List.getD_eq_getElem?_getD, List.getElem?_eq_getElem hi]; rfl
   have gj : zs.getD j 0 = zs[j] := by rw [List.getD_eq_getElem?_getD, List.getElem?_eq_getElem hj]; rfl
   rw [gi, gj] at he
   rcases Nat.lt_trichotomy i j with h | h | h
   ·exact absurd he (hpw i j hi hj h)
   ·exact h
   ·exact absurd he.symm (hpw j i hj hi h)
def pc_law_paper : FR
 | .own [.int c0, .int c1], [.lst ds], Q => ∃ ws : List (List Nat), ds = ws.map .str ∧ SOk (c0, c1) ∧ (ws.length ≤ 20 ∧ ∀ w ∈ ws, w.length ≤ 60 ∧ Lts w) ∧ ∀ s : Int × Int, SOk s → Q (.own [.lst ((keptP ws (c0, c1)).map .int), .lst (rowsD (leftP ws (c0, c1)).1)]) (stv s)
 | _, _, _ => False
def nn_law_kinds : Nat := 4
theorem kinds_ok {ws : List (List Nat)} {zs : List Int} {L : List (List Int)} {d e : D} {rs : List D} (hd : SqOf d (zs.map .int)) (he : SqOf e rs) (hl : rs.length = (rowsD L).length)
  (hr : ∀ k, k < (rowsD L).length → itD rs k = itD (rowsD L) k ∨ itD rs k = .tup (itemsD (itD (rowsD L) k))) (hT : Tri L) (hz : zs.length ≤ 1000) (hL : L.length ≤ 1000) :
  PIn d e ∧ paperB ws d e = (risB (.lst (zs.map .int)) (ws.length : Int) && papB ws zs L) := by
 have hlm : (rowsD L).length = L.length := List.length_map _
 have hrow : ∀ k, k < L.length → SqOf (itD rs k) ((L.getD k []).map .int) := fun k hk => by
  have e1 : itD (rowsD L) k = .lst ((L.getD k []).map .int) := itD_of (by unfold rowsD; rw [List.getElem?_map, List.getD_eq_getElem?_getD, List.getElem?_eq_getElem hk]; rfl)
  rcases hr k (by omega) with h | h
  ·exact .inl (by rw [h, e1])
  ·exact .inr (by rw [h, e1]; rfl)
 have hLg : ∀ k, k < L.length → L.getD k [] ∈ L := fun k hk => List.mem_of_getElem? (show L[k]? = some (L.getD k []) by rw [List.getD_eq_getElem?_getD, List.getElem?_eq_getElem hk]; rfl)
 have hmem : ∀ r ∈ rs, ∃ x ∈ L, SqOf r (x.map .int) := fun r h => by
  obtain ⟨k, hk, e⟩ := List.getElem_of_mem h
  refine ⟨_, hLg k (by omega), ?_⟩
  rw [← itD_of (show rs[k]? = some r by rw [List.getElem?_eq_getElem hk, e])]
  exact hrow k (by omega)
 have hrI : rs.map rowI = L := by
  apply List.ext_getElem?
  intro k
  rw [List.getElem?_map]
  by_cases hk : k < L.length
  ·rw [show rs[k]? = some (itD rs k) from itD_get (by omega), List.getElem?_eq_getElem hk]
   show some (rowI (itD rs k)) = _
   unfold rowI
   rw [(hrow k hk).items, List.map_map, List.getD_eq_getElem?_getD, List.getElem?_eq_getElem hk]
   exact congrArg some (List.map_id' _)
  ·rw [List.getElem?_eq_none (by omega), List.getElem?_eq_none (by omega)]; rfl
 have hnum : rs.all (fun r => areNums r 3) = true := List.all_eq_true.mpr fun r h => by
  obtain ⟨x, hx, hs⟩ := hmem r h
  obtain ⟨a, b, c, rfl, _⟩ := hT x hx
  rcases hs with rfl | rfl <;> rfl
 have hrw : isRow e = true := by rcases he with rfl | rfl <;> rfl
 have hti : (zs.map D.int).map toI = zs := by rw [List.map_map]; exact List.map_id' _
 refine ⟨⟨?_, by rw [hd.items, List.length_map]; exact hz, ?_, by rw [he.items]; omega, ?_⟩, ?_⟩
 ·rcases hd with rfl | rfl
  ·exact ⟨rfl, fun x hx => by obtain ⟨z, _, rfl⟩ := List.mem_map.mp hx; rfl⟩
  ·exact ⟨rfl, fun x hx => by obtain ⟨z, _, rfl⟩ := List.mem_map.mp hx; rfl⟩
 ·have : ∀ x ∈ rs, x.sort = true := fun x hx => by obtain ⟨y, _, rfl | rfl⟩ := hmem x hx <;> rfl
  rcases he with rfl | rfl
  ·exact ⟨rfl, this⟩
  ·exact ⟨rfl, this⟩
 ·intro r hr'
  rw [he.items] at hr'
  obtain ⟨x, hx, hs⟩ := hmem r hr'
  obtain ⟨a, b, c, rfl, hb⟩ := hT x hx
  refine ⟨?_, by rw [hs.items]; show 3 ≤ 1000; decide, fun y hy => ?_⟩
  ·rcases hs with rfl | rfl
   ·exact ⟨rfl, fun x hx => by obtain ⟨z, _, rfl⟩ := List.mem_map.mp hx; rfl⟩
   ·exact ⟨rfl, fun x hx => by obtain ⟨z, _, rfl⟩ := List.mem_map.mp hx; rfl⟩
  ·rw [hs.items] at hy
   obtain ⟨z, hz, rfl⟩ := List.mem_map.mp hy
   have := hb z hz
   show -(10 ^ 15) ≤ z ∧ z ≤ 10 ^ 15
   omega
 ·unfold paperB
  rw [hrw, he.items, hnum, hd.items, hrI, hti, Bool.true_and, Bool.true_and]
  congr 1
  unfold risB
  rw [hd.items]
  rcases hd with rfl | rfl <;> rfl
def pc_law_kinds : FR
 | .own [.int c0, .int c1], [.lst ks, .lst ls], Q => SOk (c0, c1) ∧ (ks.length ≤ 1000 ∧ ls.length ≤ 1000) ∧ (∀ r ∈ ls, ∃ xs : List D, r = .lst xs ∧ xs.length ≤ 1000) ∧ ∀ (d e : D) (s : Int × Int), SOk s → (d = .lst ks ∨ d = .tup ks) → (∃ rs : List D, (e = .lst rs ∨ e = .tup rs) ∧ rs.length = ls.length ∧ ∀ k, k < ls.length → itD rs k = itD ls k ∨ itD rs k = .tup (itemsD (itD ls k))) → Q (.own [d, e]) (stv s)
 | _, _, _ => False
def nn_law_is : Nat := 5
def pc_law_is : FN
 | [e, kept, left, .bl b], Q => ∃ ws : List (List Nat), (e = .lst (ws.map .str) ∨ e = .tup (ws.map .str)) ∧ (ws.length ≤ 20 ∧ ∀ w ∈ ws, w.length ≤ 10000) ∧ PIn kept left ∧ paperB ws kept left = b ∧ Q (.dat (.bl true))
 | _, _ => False
def nn_law_odd_ones : Nat := 7
structure KIn (kept : D) : Prop where
 sk : Srt kept
 lk : (itemsD kept).length ≤ 1000
structure LIn (left : D) : Prop where
 sl : Srt left
 ll : (itemsD left).length ≤ 1000
 rows : ∀ r ∈ itemsD left, Srt r ∧ (itemsD r).length ≤ 1000 ∧ ∀ x ∈ itemsD r, -(10 ^ 15) ≤ toI x ∧ toI x ≤ 10 ^ 15
theorem PIn.of {kept left : D} (a : KIn kept) (b : LIn left) : PIn kept left := ⟨a.sk, a.lk, b.sl, b.ll, b.rows⟩
theorem KIn.ints {zs : List Int} (h : zs.length ≤ 1000) : KIn (.lst (zs.map .int)) := ⟨⟨rfl, fun x hx => by obtain ⟨z, _, rfl⟩ := List.mem_map.mp hx; rfl⟩, by show (zs.map D.int).length ≤ 1000; rw [List.length_map]; exact h⟩
def RIn (r : D) : Prop := Srt r ∧ (itemsD r).length ≤ 1000 ∧ ∀ x ∈ itemsD r, -(10 ^ 15) ≤ toI x ∧ toI x ≤ 10 ^ 15
theorem RIn.row {r : List Int} (h : r.length ≤ 1000) (hb : ∀ z ∈ r, -101 ≤ z ∧ z ≤ 101) : RIn (.lst (r.map .int)) := ⟨⟨rfl, fun x hx => by obtain ⟨z, _, rfl⟩ := List.mem_map.mp hx; rfl⟩, by show (r.map D.int).length ≤ 1000; rw [List.length_map]; exact h, fun x hx => by
 obtain ⟨z, hz, rfl⟩ := List.mem_map.mp hx
 have := hb z hz
 show -(10 ^ 15) ≤ z ∧ z ≤ 10 ^ 15
 omega⟩
theorem LIn.of {rs : List D} (hl : rs.length ≤ 1000) (h : ∀ r ∈ rs, r.sort = true ∧ RIn r) : LIn (.lst rs) := ⟨⟨rfl, fun r hr => (h r hr).1⟩, hl, fun r hr => (h r hr).2⟩
theorem no_kept {ws : List (List Nat)} {kept left : D} (h : risB kept (ws.length : Int) = false) : paperB ws kept left = false := by unfold paperB; rw [h]; rfl
theorem no_left {ws : List (List Nat)} {kept left : D} (h : isRow left = false) : paperB ws kept left = false := by unfold paperB; rw [h, Bool.false_and, Bool.and_false]
theorem no_row {ws : List (List Nat)} {kept left r : D} (hr : r ∈ itemsD left) (h : areNums r 3 = false) : paperB ws kept left = false := by
 unfold paperB
 rw [show (itemsD left).all (fun r => areNums r 3) = false from List.all_eq_false.mpr ⟨r, hr, by rw [h]; decide⟩, Bool.false_and, Bool.and_false, Bool.and_false]
theorem ris_bad {ds : List D} {d : D} {m : Int} (hd : d ∈ ds) (h : isNum d = false) : risB (.lst ds) m = false := by
 unfold risB
 rw [show (itemsD (.lst ds)).all (fun x => isWh x 0 (m - 1)) = false from List.all_eq_false.mpr ⟨d, hd, by unfold isWh; rw [h]; simp⟩, Bool.false_and, Bool.and_false]
theorem num_bad {ds : List D} {d : D} (hd : d ∈ ds) (h : isNum d = false) : areNums (.lst ds) 3 = false := by
 unfold areNums
 rw [show (itemsD (.lst ds)).all isNum = false from List.all_eq_false.mpr ⟨d, hd, by rw [h]; decide⟩, Bool.and_false, Bool.and_false]
def pc_law_odd_ones : FR
 | .own [.int c0, .int c1], [.lst ds, .lst ks, .lst ls], Q => ∃ ws : List (List Nat), ds = ws.map .str ∧ ∃ zs : List Int, ks = zs.map .int ∧ ∃ L : List (List Int), ls = rowsD L ∧ SOk (c0, c1) ∧ (ws.length ≤ 20 ∧ ∀ w ∈ ws, w.length ≤ 10000) ∧ (zs.length ≤ 20 ∧ L.length ≤ 20) ∧ Tri L ∧ ∀ s : Int × Int, SOk s → Q (.dat (.bl true)) (stv s)
 | _, _, _ => False
def nn_law : Nat := 10
abbrev pc_law : FN := cLaw
def pp_is_row : PTS := (psRet (pIsT .list .tuple (pSl 0)))
set_option maxHeartbeats 4000000 in
theorem rd_is_row_ (d : D) (Q : PV → Prop) (h : pc_is_row ([d]) Q) : RunP pp_is_row nn_is_row ([d]) Q := by
 obtain ⟨hd, q⟩ := h
 cases d <;> first | (cases hd; done) | (walk_at "r"; exact q)
theorem rd_is_row : ∀ ds Q, pc_is_row ds Q → RunP pp_is_row nn_is_row ds Q := fun ds Q h => by
 unfold pc_is_row at h
 split at h
 ·exact rd_is_row_ _ _ h
 ·exact h.elim
def pp_is_number : PTS := (psRet (pAndV (pIsI .int (pSl 0)) (pNotV (pIsI .bool (pSl 0)))))
set_option maxHeartbeats 4000000 in
theorem rd_is_number_ (d : D) (Q : PV → Prop) (h : pc_is_number ([d]) Q) : RunP pp_is_number nn_is_number ([d]) Q := by
 obtain ⟨hd, q⟩ := h
 cases d <;> first | (cases hd; done) | (walk_at "r"; exact q)
theorem rd_is_number : ∀ ds Q, pc_is_number ds Q → RunP pp_is_number nn_is_number ds Q := fun ds Q h => by
 unfold pc_is_number at h
 split at h
 ·exact rd_is_number_ _ _ h
 ·exact h.elim
def pp_are_numbers : PTS := (psRet (pAndV (pCallP pc_is_row (paCons (pFz (pVar 0)) paNil)) (pAndV (pOp fEq2 (pFz (pCB fLen (paCons (pSl 0) paNil))) (pSl 1)) (pCB fAll (paCons (pFz (pComp [none] (piAny (pVar 0)) (pgName 0) pYes (pCallP pc_is_number (paCons (pFz (pVar 0)) paNil)))) paNil)))))
set_option maxHeartbeats 4000000 in
theorem rd_are_numbers_ (d : D) (m : Int) (Q : PV → Prop) (h : pc_are_numbers ([d, .int m]) Q) : RunP pp_are_numbers nn_are_numbers ([d, .int m]) Q := by
 obtain ⟨⟨hd, hs⟩, hl, q⟩ := h
 have body : ∀ ds : List D, itemsD d = ds → isRow d = true → (ds.length : Int) = m → areNums d m = (ds.map isNum).all id := fun ds e1 e2 e3 => by
  unfold areNums
  rw [e1, e2, decide_eq_true e3, Bool.true_and, Bool.true_and, List.all_map]; rfl
 have no : ∀ ds : List D, itemsD d = ds → ¬ (ds.length : Int) = m → areNums d m = false := fun ds e1 e3 => by
  unfold areNums
  rw [e1, decide_eq_false e3, Bool.false_and, Bool.and_false]
 cases d with
 | lst ds =>
  have hl : ds.length ≤ 1000000 := hl
  walk_at "r"
  refine piteD (fun c => ?_) (fun c => ?_)
  ·walk_at "r"
   refine cmap (fun τ => ∃ v, τ = [v]) (fun k => .bl (isNum (itD ds k))) ?_ ?_ ?_
   ·exact ⟨_, rfl⟩
   ·rintro k τ _ hk rfl ⟨v, rfl⟩ K1 k1
    walk_at "r"
    exact ⟨hs _ (itD_mem hk), k1 _ ⟨_, rfl⟩⟩
   ·rintro τ ⟨v, rfl⟩
    walk_at "r"
    refine ⟨(List.range ds.length).map fun k => isNum (itD ds k), by rw [List.map_map]; rfl, ?_⟩
    rw [body ds rfl rfl c] at q
    rw [range_itD]
    exact q
  ·walk_at "r"
   rw [no ds rfl c] at q
   exact q
 | tup ds =>
  have hl : ds.length ≤ 1000000 := hl
  walk_at "r"
  refine piteD (fun c => ?_) (fun c => ?_)
  ·walk_at "r"
   refine cmap (fun τ => ∃ v, τ = [v]) (fun k => .bl (isNum (itD ds k))) ?_ ?_ ?_
   ·exact ⟨_, rfl⟩
   ·rintro k τ _ hk rfl ⟨v, rfl⟩ K1 k1
    walk_at "r"
    exact ⟨hs _ (itD_mem hk), k1 _ ⟨_, rfl⟩⟩
   ·rintro τ ⟨v, rfl⟩
    walk_at "r"
    refine ⟨(List.range ds.length).map fun k => isNum (itD ds k), by rw [List.map_map]; rfl, ?_⟩
    rw [body ds rfl rfl c] at q
    rw [range_itD]
    exact q
  ·walk_at "r"
   rw [no ds rfl c] at q
   exact q
 | str l => walk_at "r"; exact q
 | non => walk_at "r"; exact q
 | bl b => walk_at "r"; exact q
 | int i => walk_at "r"; exact q
 | ty n => cases hd
 | scr ns => cases hd
 | dic ks ds => walk_at "r"; exact q
 | obj c ns ds => cases hd
 | exc c ns ds => cases hd
theorem rd_are_numbers : ∀ ds Q, pc_are_numbers ds Q → RunP pp_are_numbers nn_are_numbers ds Q := fun ds Q h => by
 unfold pc_are_numbers at h
 split at h
 ·exact rd_are_numbers_ _ _ _ h
 ·exact h.elim
def pp_is_whole : PTS := (psRet (pAndV (pCallP pc_is_number (paCons (pFz (pVar 0)) paNil)) (pChain fLe fLe (pSl 1) (pSl 0) (pSl 2))))
set_option maxHeartbeats 4000000 in
theorem rd_is_whole_ (d : D) (a b : Int) (Q : PV → Prop) (h : pc_is_whole ([d, .int a, .int b]) Q) : RunP pp_is_whole nn_is_whole ([d, .int a, .int b]) Q := by
 obtain ⟨hd, q⟩ := h
 cases d with
 | int i =>
  walk_at "r"
  refine piteD (fun c => ?_) (fun c => ?_)
  ·walk_at "r"
   rw [show isWh (.int i) a b = decide (i ≤ b) by unfold isWh; rw [show isNum (.int i) = true from rfl, show toI (.int i) = i from rfl, decide_eq_true c]; rfl] at q
   exact q
  ·walk_at "r"
   rw [show isWh (.int i) a b = false by unfold isWh; rw [show toI (.int i) = i from rfl, decide_eq_false c, Bool.false_and, Bool.and_false]] at q
   exact q
 | str l => walk_at "r"; exact q
 | non => walk_at "r"; exact q
 | bl b => walk_at "r"; exact q
 | lst ds => walk_at "r"; exact q
 | tup ds => walk_at "r"; exact q
 | ty n => cases hd
 | scr ns => cases hd
 | dic ks ds => walk_at "r"; exact q
 | obj c ns ds => cases hd
 | exc c ns ds => cases hd
theorem rd_is_whole : ∀ ds Q, pc_is_whole ds Q → RunP pp_is_whole nn_is_whole ds Q := fun ds Q h => by
 unfold pc_is_whole at h
 split at h
 ·exact rd_is_whole_ _ _ _ _ h
 ·exact h.elim
def pp_stands_at : PTS := (psSeq (psIf (pNot (pB (pChain fLe fLe (pFz (pC (.int 0))) (pSl 2) (pFz (pOp fSub (pFz (pCB fLen (paCons (pSl 0) paNil))) (pFz (pCB fLen (paCons (pSl 1) paNil)))))))) (psRet (pC (.bl false))) psNext) (psRet (pOp fEq2 (pFz (pSlice (pSl 0) (poSome (pVar 2)) (poSome (pOp fAdd (pSl 2) (pFz (pCB fLen (paCons (pSl 1) paNil))))))) (pSl 1))))
set_option maxHeartbeats 4000000 in
theorem rd_stands_at_ (t w : List Nat) (p : Int) (Q : PV → Prop) (h : pc_stands_at ([.str t, .str w, .int p]) Q) : RunP pp_stands_at nn_stands_at ([.str t, .str w, .int p]) Q := by
 obtain ⟨⟨ht, hw, hp⟩, q⟩ := h
 walk_at "r"
 refine piteD (fun c => ?_) (fun c => ?_)
 ·obtain ⟨k, rfl⟩ : ∃ k : Nat, p = (k : Int) := ⟨p.toNat, by omega⟩
  rw [decide_eq_true c, Bool.true_and, Int.toNat_natCast] at q
  walk_at "r"
  refine piteN (fun c2 => ?_) (fun c2 => ?_)
  ·walk_at "r"
   rw [show stA t w k = false from decide_eq_false fun z => c2 (by have := z.1; omega)] at q
   exact q
  ·walk_at "r"
   have e : cutN t (some (k : Int)) (some ((k : Int) + (w.length : Int))) = (t.drop k).take w.length := by
    rw [show ((k : Int) + (w.length : Int)) = ((k + w.length : Nat) : Int) from rfl, cutN_both]
    congr 1; omega
   rw [e]
   rw [show stA t w k = decide ((t.drop k).take w.length = w) by
    unfold stA
    by_cases h : (t.drop k).take w.length = w
    ·rw [decide_eq_true h, decide_eq_true ⟨by omega, h⟩]
    ·rw [decide_eq_false h, decide_eq_false fun z => h z.2]] at q
   exact q
 ·walk_at "r"
  rw [decide_eq_false c, Bool.false_and] at q
  exact q
theorem rd_stands_at : ∀ ds Q, pc_stands_at ds Q → RunP pp_stands_at nn_stands_at ds Q := fun ds Q h => by
 unfold pc_stands_at at h
 split at h
 ·exact rd_stands_at_ _ _ _ _ h
 ·exact h.elim
def pp_first_place : PTS := (psRet (pSM fFind1 (pVar 0) (paCons (pSl 1) paNil)))
set_option maxHeartbeats 4000000 in
theorem rd_first_place_ (a b : List Nat) (Q : PV → Prop) (h : pc_first_place ([.str a, .str b]) Q) : RunP pp_first_place nn_first_place ([.str a, .str b]) Q := by
 walk_at "r"
 exact h
theorem rd_first_place : ∀ ds Q, pc_first_place ds Q → RunP pp_first_place nn_first_place ds Q := fun ds Q h => by
 unfold pc_first_place at h
 split at h
 ·exact rd_first_place_ _ _ _ h
 ·exact h.elim
def pp_stands_within : PTS := (psRet (pOp fGe (pFz (pCallP pc_first_place (paCons (pFz (pVar 1)) (paCons (pFz (pVar 0)) paNil)))) (pFz (pC (.int 0)))))
set_option maxHeartbeats 4000000 in
theorem rd_stands_within_ (a b : List Nat) (Q : PV → Prop) (h : pc_stands_within ([.str a, .str b]) Q) : RunP pp_stands_within nn_stands_within ([.str a, .str b]) Q := by
 walk_at "r"
 exact h
theorem rd_stands_within : ∀ ds Q, pc_stands_within ds Q → RunP pp_stands_within nn_stands_within ds Q := fun ds Q h => by
 unfold pc_stands_within at h
 split at h
 ·exact rd_stands_within_ _ _ _ h
 ·exact h.elim
def pp_are_rising_indexes : PTS := (psSeq (psIf (pOr (pNot (pB (pCallP pc_is_row (paCons (pFz (pVar 0)) paNil)))) (pNot (pB (pCB fAll (paCons (pFz (pComp [none, some 1] (piAny (pVar 0)) (pgName 0) pYes (pCallP pc_is_whole (paCons (pFz (pVar 0)) (paCons (pFz (pC (.int 0))) (paCons (pFz (pOp fSub (pSl 1) (pFz (pC (.int 1))))) paNil)))))) paNil))))) (psRet (pC (.bl false))) psNext) (psRet (pCB fAll (paCons (pFz (pComp [none, none] (piZipU (paCons (pFz (pVar 0)) (paCons (pFz (pSlice (pSl 0) (poSome (pC (.int 1))) poNone)) paNil))) (pgRow 2 (pgCons (pgName 0) (pgCons (pgName 1) pgNil))) pYes (pOp fLt (pSl 0) (pSl 1)))) paNil))))
set_option maxHeartbeats 4000000 in
theorem rd_are_rising_indexes_ (d : D) (m : Int) (Q : PV → Prop) (h : pc_are_rising_indexes ([d, .int m]) Q) : RunP pp_are_rising_indexes nn_are_rising_indexes ([d, .int m]) Q := by
 obtain ⟨⟨hd, hs⟩, hl, q⟩ := h
 cases d with
 | lst ds =>
  have hl : ds.length ≤ 100000 := hl
  walk_at "r"
  refine cmap (fun τ => ∃ v, τ = [v, some (.dat (.int m))]) (fun k => .bl (isWh (itD ds k) 0 (m - 1))) ?_ ?_ ?_
  ·exact ⟨_, rfl⟩
  ·rintro k τ _ hk rfl ⟨v, rfl⟩ K1 k1
   walk_at "r"
   exact ⟨hs _ (itD_mem hk), k1 _ ⟨_, rfl⟩⟩
  ·rintro τ ⟨v, rfl⟩
   walk_at "r"
   refine ⟨(List.range ds.length).map fun k => isWh (itD ds k) 0 (m - 1), by rw [List.map_map]; rfl, ?_⟩
   rw [range_itD (fun x => isWh x 0 (m - 1)) ds]
   have ea : (ds.map fun x => isWh x 0 (m - 1)).all id = ds.all fun x => isWh x 0 (m - 1) := by rw [List.all_map]; rfl
   walk_at "r"
   refine piteNot (pite (fun c => ?_) (fun c => ?_))
   ·have c : (ds.map fun x => isWh x 0 (m - 1)).all id = true := c
    rw [ea] at c
    obtain ⟨zs, rfl⟩ : ∃ zs : List Int, ds = zs.map .int := ⟨_, nums_of (List.all_eq_true.mpr fun x hx => wh_num (List.all_eq_true.mp c x hx))⟩
    have c1 : cutN (zs.map D.int) (some 1) none = (zs.drop 1).map D.int := by rw [show (1 : Int) = ((1 : Nat) : Int) from rfl, cutN_from, List.map_drop]
    have hzl : (zs.map D.int).length = zs.length := List.length_map _
    have hcl : (cutN (zs.map D.int) (some 1) none).length = zs.length - 1 := by rw [c1, List.length_map, List.length_drop]
    have hti : (zs.map D.int).map toI = zs := by rw [List.map_map]; exact List.map_id' _
    walk_at "r"
    refine cmap (fun τ => ∃ v w, τ = [v, w]) (fun k => .bl (decide (zs.getD k 0 < zs.getD (k + 1) 0))) ?_ ?_ ?_
    ·exact ⟨_, _, rfl⟩
    ·rintro k τ d hk ed ⟨v, w, rfl⟩ K1 k1
     have hk1 : k < (zs.map D.int).length := by omega
     have hk2 : k + 1 < zs.length := by omega
     have ed : d = .tup [itD (zs.map D.int) k, itD (cutN (zs.map D.int) (some 1) none) k] := ed
     have e2 : itD (cutN (zs.map D.int) (some 1) none) k = .int (zs.getD (k + 1) 0) := by
      rw [c1, itD_int (by rw [List.length_map, List.length_drop]; omega), List.getD_eq_getElem?_getD, List.getElem?_drop, List.getD_eq_getElem?_getD, Nat.add_comm 1 k]
     rw [itD_int hk1, e2] at ed
     subst ed
     walk_at "r"
     exact k1 _ ⟨_, _, rfl⟩
    ·rintro τ ⟨v, w, rfl⟩
     walk_at "r"
     refine ⟨(List.range (min (zs.map D.int).length (cutN (zs.map D.int) (some 1) none).length)).map fun k => decide (zs.getD k 0 < zs.getD (k + 1) 0), by rw [List.map_map]; rfl, ?_⟩
     rw [show min (zs.map D.int).length (cutN (zs.map D.int) (some 1) none).length = zs.length - 1 by omega]
     rw [show risB (.lst (zs.map .int)) m = (((List.range (zs.length - 1)).map fun k => decide (zs.getD k 0 < zs.getD (k + 1) 0)).all id) by
      unfold risB chainB
      show (true && ((zs.map D.int).all (fun x => isWh x 0 (m - 1)) && _)) = _
      rw [c, Bool.true_and, Bool.true_and, show itemsD (.lst (zs.map .int)) = zs.map D.int from rfl, hti, List.all_map]; rfl] at q
     exact q
   ·have c : (ds.map fun x => isWh x 0 (m - 1)).all id = false := c
    rw [ea] at c
    walk_at "r"
    rw [show risB (.lst ds) m = false by
     unfold risB
     show (true && (ds.all (fun x => isWh x 0 (m - 1)) && _)) = false
     rw [c]; rfl] at q
    exact q
 | tup ds =>
  have hl : ds.length ≤ 100000 := hl
  walk_at "r"
  refine cmap (fun τ => ∃ v, τ = [v, some (.dat (.int m))]) (fun k => .bl (isWh (itD ds k) 0 (m - 1))) ?_ ?_ ?_
  ·exact ⟨_, rfl⟩
  ·rintro k τ _ hk rfl ⟨v, rfl⟩ K1 k1
   walk_at "r"
   exact ⟨hs _ (itD_mem hk), k1 _ ⟨_, rfl⟩⟩
  ·rintro τ ⟨v, rfl⟩
   walk_at "r"
   refine ⟨(List.range ds.length).map fun k => isWh (itD ds k) 0 (m - 1), by rw [List.map_map]; rfl, ?_⟩
   rw [range_itD (fun x => isWh x 0 (m - 1)) ds]
   have ea : (ds.map fun x => isWh x 0 (m - 1)).all id = ds.all fun x => isWh x 0 (m - 1) := by rw [List.all_map]; rfl
   walk_at "r"
   refine piteNot (pite (fun c => ?_) (fun c => ?_))
   ·have c : (ds.map fun x => isWh x 0 (m - 1)).all id = true := c
    rw [ea] at c
    obtain ⟨zs, rfl⟩ : ∃ zs : List Int, ds = zs.map .int := ⟨_, nums_of (List.all_eq_true.mpr fun x hx => wh_num (List.all_eq_true.mp c x hx))⟩
    have c1 : cutN (zs.map D.int) (some 1) none = (zs.drop 1).map D.int := by rw [show (1 : Int) = ((1 : Nat) : Int) from rfl, cutN_from, List.map_drop]
    have hzl : (zs.map D.int).length = zs.length := List.length_map _
    have hcl : (cutN (zs.map D.int) (some 1) none).length = zs.length - 1 := by rw [c1, List.length_map, List.length_drop]
    have hti : (zs.map D.int).map toI = zs := by rw [List.map_map]; exact List.map_id' _
    walk_at "r"
    refine cmap (fun τ => ∃ v w, τ = [v, w]) (fun k => .bl (decide (zs.getD k 0 < zs.getD (k + 1) 0))) ?_ ?_ ?_
    ·exact ⟨_, _, rfl⟩
    ·rintro k τ d hk ed ⟨v, w, rfl⟩ K1 k1
     have hk1 : k < (zs.map D.int).length := by omega
     have hk2 : k + 1 < zs.length := by omega
     have ed : d = .tup [itD (zs.map D.int) k, itD (cutN (zs.map D.int) (some 1) none) k] := ed
     have e2 : itD (cutN (zs.map D.int) (some 1) none) k = .int (zs.getD (k + 1) 0) := by
      rw [c1, itD_int (by rw [List.length_map, List.length_drop]; omega), List.getD_eq_getElem?_getD, List.getElem?_drop, List.getD_eq_getElem?_getD, Nat.add_comm 1 k]
     rw [itD_int hk1, e2] at ed
     subst ed
     walk_at "r"
     exact k1 _ ⟨_, _, rfl⟩
    ·rintro τ ⟨v, w, rfl⟩
     walk_at "r"
     refine ⟨(List.range (min (zs.map D.int).length (cutN (zs.map D.int) (some 1) none).length)).map fun k => decide (zs.getD k 0 < zs.getD (k + 1) 0), by rw [List.map_map]; rfl, ?_⟩
     rw [show min (zs.map D.int).length (cutN (zs.map D.int) (some 1) none).length = zs.length - 1 by omega]
     rw [show risB (.tup (zs.map .int)) m = (((List.range (zs.length - 1)).map fun k => decide (zs.getD k 0 < zs.getD (k + 1) 0)).all id) by
      unfold risB chainB
      show (true && ((zs.map D.int).all (fun x => isWh x 0 (m - 1)) && _)) = _
      rw [c, Bool.true_and, Bool.true_and, show itemsD (.tup (zs.map .int)) = zs.map D.int from rfl, hti, List.all_map]; rfl] at q
     exact q
   ·have c : (ds.map fun x => isWh x 0 (m - 1)).all id = false := c
    rw [ea] at c
    walk_at "r"
    rw [show risB (.tup ds) m = false by
     unfold risB
     show (true && (ds.all (fun x => isWh x 0 (m - 1)) && _)) = false
     rw [c]; rfl] at q
    exact q
 | str l => walk_at "r"; exact q
 | non => walk_at "r"; exact q
 | bl b => walk_at "r"; exact q
 | int i => walk_at "r"; exact q
 | ty n => cases hd
 | scr ns => cases hd
 | dic ks ds => walk_at "r"; exact q
 | obj c ns ds => cases hd
 | exc c ns ds => cases hd
theorem rd_are_rising_indexes : ∀ ds Q, pc_are_rising_indexes ds Q → RunP pp_are_rising_indexes nn_are_rising_indexes ds Q := fun ds Q h => by
 unfold pc_are_rising_indexes at h
 split at h
 ·exact rd_are_rising_indexes_ _ _ _ h
 ·exact h.elim
def pp_are_apart : PTS := (psSeq (psAsg (pRngL false (paCons (pFz (pCB fLen (paCons (pSl 0) paNil))) paNil)) (pgName 1)) (psRet (pNotV (pCB fAny (paCons (pFz (pComp2 [none, none, some 0, some 1] (piAny (pVar 1)) (pgName 0) pYes (piAny (pVar 3)) (pgName 1) (pB (pOp fNe2 (pSl 0) (pSl 1))) (pCallP pc_stands_within (paCons (pFz (pOp fIx (pSl 2) (pSl 0))) (paCons (pFz (pOp fIx (pSl 2) (pSl 1))) paNil))))) paNil)))))
set_option maxHeartbeats 4000000 in
theorem rd_are_apart_ (ds : List D) (Q : PV → Prop) (h : pc_are_apart ([.lst ds]) Q) : RunP pp_are_apart nn_are_apart ([.lst ds]) Q := by
 obtain ⟨ws, rfl, ⟨hn, hw⟩, q⟩ := h
 have hlm : (ws.map D.str).length = ws.length := List.length_map _
 have hrl : (rngD 0 (((ws.map D.str).length : Nat) : Int).toNat).length = ws.length := by rw [rng_len]; omega
 have atn : ∀ i : Nat, i < ws.length → ∀ z : Int, z = (i : Int) → atI (ws.map D.str) z = some (.str (pw ws i)) := fun i hi z e => atI_str hi e
 walk_at "r"
 refine ⟨fun k ys τ => ∃ (v0 v1 : Option PV) (bs : List Bool), τ = [v0, v1, some (.dat (.lst (ws.map .str))), some (.dat (.lst (rngD 0 (((ws.map D.str).length : Nat) : Int).toNat)))] ∧ ys = bs.map .bl ∧ bs.length ≤ k * 300 ∧ bs.any id = (List.range k).any fun i => (List.range ws.length).any fun j => !decide (i = j) && subB (pw ws i) (pw ws j), ⟨none, none, [], rfl, rfl, Nat.zero_le _, rfl⟩, ?_, ?_⟩
 ·rintro k ys τ d hk ed ⟨v0, v1, bs, rfl, rfl, hbl, hba⟩
  have hk2 : k < ws.length := by omega
  rw [itD_rng hk] at ed
  subst ed
  walk_at "r"
  refine ⟨fun l zs τ => ∃ (v1 : Option PV) (cs : List Bool), τ = [some (.dat (.int (k : Int))), v1, some (.dat (.lst (ws.map .str))), some (.dat (.lst (rngD 0 (((ws.map D.str).length : Nat) : Int).toNat)))] ∧ zs = cs.map .bl ∧ cs.length ≤ k * 300 + l ∧ cs.any id = (bs.any id || (List.range l).any fun j => !decide (k = j) && subB (pw ws k) (pw ws j)), ⟨_, bs, rfl, rfl, hbl, by simp⟩, ?_, ?_⟩
  ·rintro l zs τ d hl ed ⟨v1, cs, rfl, rfl, hcl, hca⟩
   have hl2 : l < ws.length := by omega
   rw [itD_rng hl] at ed
   subst ed
   have hcm : (cs.map D.bl).length = cs.length := List.length_map _
   have hck : cs.length < 1000000 := by have : k * 300 ≤ 300 * 300 := Nat.mul_le_mul_right _ (by omega); omega
   walk_at "r"
   refine piteN (fun c => ?_) (fun c => ?_)
   ·have c : ¬ k = l := by omega
    walk_at "r"
    refine ⟨_, atn k hk2 _ rfl, ?_⟩
    walk_at "r"
    refine ⟨_, atn l hl2 _ rfl, ?_⟩
    walk_at "r"
    refine ⟨_, cs ++ [subB (pw ws k) (pw ws l)], rfl, by rw [List.map_append]; rfl, by rw [List.length_append]; show _ + 1 ≤ _; omega, ?_⟩
    rw [List.any_append, hca, List.range_succ, List.any_append, Bool.or_assoc]
    simp [c]
   ·have c : k = l := by omega
    refine ⟨_, cs, rfl, rfl, by omega, ?_⟩
    rw [hca, List.range_succ, List.any_append]
    simp [c]
  ·rintro zs τ ⟨v1, cs, rfl, rfl, hcl, hca⟩
   refine ⟨_, _, cs, rfl, rfl, by rw [Nat.add_mul, Nat.one_mul]; omega, ?_⟩
   rw [hca, hba, hrl, List.range_succ, List.any_append]
   simp
 ·rintro ys τ ⟨v0, v1, bs, rfl, rfl, hbl, hba⟩
  rw [hrl] at hba
  walk_at "r"
  rw [hba]
  rw [show (!(List.range ws.length).any fun i => (List.range ws.length).any fun j => !decide (i = j) && subB (pw ws i) (pw ws j)) = ((List.range ws.length).all fun i => (List.range ws.length).all fun j => decide (i = j) || !subB (pw ws i) (pw ws j)) by
   rw [List.not_any_eq_all_not]
   congr 1
   funext i
   rw [List.not_any_eq_all_not]
   congr 1
   funext j
   simp]
  exact q
theorem rd_are_apart : ∀ ds Q, pc_are_apart ds Q → RunP pp_are_apart nn_are_apart ds Q := fun ds Q h => by
 unfold pc_are_apart at h
 split at h
 ·exact rd_are_apart_ _ _ h
 ·exact h.elim
def pp_is_left_paper : PTS := (psSeq (psAsg (pCB fLen (paCons (pSl 0) paNil)) (pgName 3)) (psSeq (psIf (pNot (pB (pCallP pc_are_rising_indexes (paCons (pFz (pVar 1)) (paCons (pFz (pVar 3)) paNil))))) (psRet (pC (.bl false))) psNext) (psSeq (psIf (pOr (pNot (pB (pCallP pc_is_row (paCons (pFz (pVar 2)) paNil)))) (pNot (pB (pCB fAll (paCons (pFz (pComp [none] (piAny (pVar 2)) (pgName 0) pYes (pCallP pc_are_numbers (paCons (pFz (pVar 0)) (paCons (pFz (pC (.int 3))) paNil))))) paNil))))) (psRet (pC (.bl false))) psNext) (psSeq (psAsg (pComp [none] (piAny (pVar 2)) (pgName 0) pYes (pOp fIx (pSl 0) (pFz (pC (.int 0))))) (pgName 4)) (psSeq (psIf (pOr (pNot (pB (pCallP pc_are_rising_indexes (paCons (pFz (pVar 4)) (paCons (pFz (pVar 3)) paNil))))) (pB (pOp fNe2 (pFz (pCB fSortU (paCons (pFz (pOp fAdd (pFz (pCB fList (paCons (pSl 1) paNil))) (pSl 4))) paNil))) (pFz (pRngL false (paCons (pFz (pVar 3)) paNil)))))) (psRet (pC (.bl false))) psNext) (psSeq (psFor (piAny (pVar 2)) (pgRow 3 (pgCons (pgName 5) (pgCons (pgName 6) (pgCons (pgName 7) pgNil)))) (psIf (pOr (pB (pOp (fIn true) (pSl 6) (pSl 1))) (pNot (pB (pCallP pc_stands_at (paCons (pFz (pOp fIx (pSl 0) (pSl 6))) (paCons (pFz (pOp fIx (pSl 0) (pSl 5))) (paCons (pFz (pVar 7)) paNil))))))) (psRet (pC (.bl false))) psNext)) (psRet (pCallP pc_are_apart (paCons (pFz (pComp [none, some 0] (piAny (pVar 1)) (pgName 0) pYes (pOp fIx (pSl 1) (pSl 0)))) paNil)))))))))
set_option maxHeartbeats 4000000 in
theorem rd_is_left_paper_ (e kept left : D) (Q : PV → Prop) (h : pc_is_left_paper ([e, kept, left]) Q) : RunP pp_is_left_paper nn_is_left_paper ([e, kept, left]) Q := by
 obtain ⟨ws, he, ⟨hn, hw⟩, hin, q⟩ := h
 have hlm : (ws.map D.str).length = ws.length := List.length_map _
 have hsk := hin.sk
 have hlk : (itemsD kept).length ≤ 100000 := Nat.le_trans hin.lk (by decide)
 have hsl := hin.sl.1
 walk_at "r"
 refine sq_len he ?_
 walk_at "r"
 refine piteNot (pite (fun c => ?_) (fun c => ?_))
 ·have c : risB kept (((ws.map D.str).length : Nat) : Int) = true := c
  rw [hlm] at c
  obtain ⟨zs, hk, hz, hch⟩ := ris_ex c
  have hkk : SqOf kept (zs.map .int) := hk
  have hzn := chain_len hz hch
  walk_at "r"
  refine piteNot (pite (fun c2 => ?_) (fun c2 => ?_))
  ·have c2 : isRow left = true := c2
   obtain ⟨rs, hl⟩ := row_ex c2
   have hl : SqOf left rs := hl
   have hll : rs.length ≤ 1000 := by have := hin.ll; rw [hl.items] at this; exact this
   have hrows : ∀ r ∈ rs, Srt r ∧ (itemsD r).length ≤ 1000 ∧ ∀ x ∈ itemsD r, -(10 ^ 15) ≤ toI x ∧ toI x ≤ 10 ^ 15 := fun r hr => hin.rows r (by rw [hl.items]; exact hr)
   walk_at "r"
   refine sq_any hl ?_
   walk_at "r"
   refine cmap (fun τ => ∃ v, τ = [v]) (fun k => .bl (areNums (itD rs k) 3)) ?_ ?_ ?_
   ·exact ⟨_, rfl⟩
   ·rintro k τ _ hk rfl ⟨v, rfl⟩ K1 k1
    obtain ⟨r1, r2, _⟩ := hrows (itD rs k) (itD_mem hk)
    walk_at "r"
    exact ⟨Nat.le_trans r2 (by decide), k1 _ ⟨_, rfl⟩⟩
   ·rintro τ ⟨v, rfl⟩
    walk_at "r"
    refine ⟨(List.range rs.length).map fun k => areNums (itD rs k) 3, by rw [List.map_map]; rfl, ?_⟩
    rw [range_itD (fun r => areNums r 3) rs]
    have ea : (rs.map fun r => areNums r 3).all id = rs.all fun r => areNums r 3 := by rw [List.all_map]; rfl
    walk_at "r"
    refine piteNot (pite (fun c3 => ?_) (fun c3 => ?_))
    ·have c3 : (rs.map fun r => areNums r 3).all id = true := c3
     rw [ea] at c3
     have hro : ∀ k, k < rs.length → ∃ a b c : Int, itD rs k = .lst [.int a, .int b, .int c] ∨ itD rs k = .tup [.int a, .int b, .int c] := fun k hk => row3 (List.all_eq_true.mp c3 _ (itD_mem hk))
     have hOl : (rs.map fun r => (rowI r).getD 0 0).length = rs.length := List.length_map _
     have hOm : ((rs.map fun r => (rowI r).getD 0 0).map D.int).length = rs.length := by rw [List.length_map, List.length_map]
     have hOs : Srt (.lst ((rs.map fun r => (rowI r).getD 0 0).map .int)) := ⟨rfl, fun x hx => by obtain ⟨z, _, rfl⟩ := List.mem_map.mp hx; rfl⟩
     have hOn : (itemsD (.lst ((rs.map fun r => (rowI r).getD 0 0).map .int))).length ≤ 100000 := by show ((rs.map fun r => (rowI r).getD 0 0).map D.int).length ≤ 100000; omega
     have hOg : ∀ k, k < rs.length → (rowI (itD rs k)).getD 0 0 ∈ rs.map fun r => (rowI r).getD 0 0 := fun k hk => List.mem_map_of_mem (f := fun r => (rowI r).getD 0 0) (itD_mem hk)
     have eO : rs.map (fun r => D.int ((rowI r).getD 0 0)) = (rs.map fun r => (rowI r).getD 0 0).map D.int := by rw [List.map_map]; rfl
     have hti : (zs.map D.int).map toI = zs := by rw [List.map_map]; exact List.map_id' _
     have hzm : (zs.map D.int).length = zs.length := List.length_map _
     have hpap : paperB ws kept left = papB ws zs (rs.map rowI) := by
      unfold paperB
      rw [c, Bool.true_and]
      rw [hl.items, hkk.items, c3, hti, c2, Bool.true_and, Bool.true_and]
     have hmm : (rs.map rowI).map (fun x => x.getD 0 0) = rs.map fun r => (rowI r).getD 0 0 := by rw [List.map_map]; rfl
     rw [hpap] at q
     unfold papB at q
     rw [hmm] at q
     walk_at "r"
     refine sq_any hl ?_
     walk_at "r"
     refine cmap (fun τ => ∃ v, τ = [v]) (fun k => .int ((rowI (itD rs k)).getD 0 0)) ?_ ?_ ?_
     ·exact ⟨_, rfl⟩
     ·rintro k τ d hk ed ⟨v, rfl⟩ K1 k1
      obtain ⟨a, b, c, hr⟩ := hro k hk
      have hr : SqOf (itD rs k) [.int a, .int b, .int c] := hr
      have ed : d = itD rs k := ed
      subst ed
      have hri : (rowI (itD rs k)).getD 0 0 = a := by unfold rowI; rw [hr.items]; rfl
      rw [hri] at k1
      walk_at "r"
      refine sq_ix hr ⟨_, rfl, ?_⟩
      exact k1 _ ⟨_, rfl⟩
     ·rintro τ ⟨v, rfl⟩
      rw [range_itD (fun r => D.int ((rowI r).getD 0 0)) rs, eO]
      generalize hO : (rs.map fun r => (rowI r).getD 0 0) = O at *
      walk_at "r"
      refine piteNot (pite (fun c4 => ?_) (fun c4 => ?_))
      ·have c4 : risB (.lst (O.map .int)) (((ws.map D.str).length : Nat) : Int) = true := c4
       rw [hlm] at c4
       obtain ⟨zs2, e2, hz2, hch2⟩ := ris_ex c4
       have e2 : zs2 = O := by
        rcases e2 with e2 | e2
        ·have e3 := D.lst.inj e2
         have := congrArg (List.map toI) e3
         rw [List.map_map, List.map_map] at this
         exact (by simpa [Function.comp_def, toI] using this.symm)
        ·cases e2
       subst e2
       have hon := chain_len hz2 hch2
       walk_at "r"
       refine sq_list hkk ?_
       walk_at "r"
       refine ⟨zs ++ zs2, by rw [List.map_append], by rw [List.length_append]; omega, fun ns' hp hs => ?_⟩
       have hEq : EqOk (.lst (ns'.map .int)) (.lst (rngD 0 (((ws.map D.str).length : Nat) : Int).toNat)) := by rw [rngD_ints]; exact EqOk.of (Sh.lstI _) (Sh.lstI _)
       have hDq : deq (.lst (ns'.map .int)) (.lst (rngD 0 (((ws.map D.str).length : Nat) : Int).toNat)) = decide ((zs ++ zs2).Perm (rngI ws.length)) := by
        rw [rngD_ints, deq_ints, hlm, Int.toNat_natCast, sort_eq hp hs]
       rw [c4, Bool.true_and, ← hDq] at q
       walk_at "r"
       refine piteNot (pite (fun c5 => ?_) (fun c5 => ?_))
       ·have c5 : deq (.lst (ns'.map .int)) (.lst (rngD 0 (((ws.map D.str).length : Nat) : Int).toNat)) = true := c5
        rw [c5, Bool.true_and] at q
        have hfl := fl_ints zs
        walk_at "r"
        refine sq_any hl ?_
        walk_at "r"
        refine ⟨fun k ρ => (∃ v5 v6 v7 : Option PV, ρ = [some (.dat e), some (.dat kept), some (.dat left), some (.dat (.int (((ws.map D.str).length : Nat) : Int))), some (.dat (.lst (zs2.map .int))), v5, v6, v7]) ∧ ∀ j, j < k → holdsR ws zs (rowI (itD rs j)) = true, ⟨⟨_, _, _, rfl⟩, nofun⟩, ?_, ?_⟩
        ·rintro k ρ d hk ed ⟨⟨v5, v6, v7, rfl⟩, ih⟩
         have hk : k < rs.length := hk
         have ha := hz2 _ (hOg k hk)
         have hb : ∀ x ∈ itemsD (itD rs k), -(10 ^ 15) ≤ toI x ∧ toI x ≤ 10 ^ 15 := (hrows _ (itD_mem hk)).2.2
         have hno : holdsR ws zs (rowI (itD rs k)) = false → (rs.map rowI).all (holdsR ws zs) = false := fun h => List.all_eq_false.mpr ⟨_, List.mem_map_of_mem (itD_mem hk), by rw [h]; decide⟩
         have hnx : holdsR ws zs (rowI (itD rs k)) = true → ∀ j, j < k + 1 → holdsR ws zs (rowI (itD rs j)) = true := fun h j hj => (Nat.lt_succ_iff_lt_or_eq.mp hj).elim (ih j) (fun e => by rw [e]; exact h)
         have ed : d = itD rs k := ed
         obtain ⟨a, b, cc, hr⟩ := hro k hk
         have hrI : rowI (itD rs k) = [a, b, cc] := by rcases hr with hr | hr <;> rw [hr] <;> rfl
         have hcc : -(10 ^ 15) ≤ cc ∧ cc ≤ 10 ^ 15 := hb (.int cc) (by rcases hr with hr | hr <;> rw [hr] <;> exact List.mem_cons_of_mem _ (List.mem_cons_of_mem _ (List.mem_singleton.mpr rfl)))
         rw [hrI] at ha hno hnx
         have ha : 0 ≤ a ∧ a < (ws.length : Int) := ha
         have hin2 := inD_int b zs
         obtain ⟨an, rfl⟩ : ∃ n : Nat, a = (n : Int) := ⟨a.toNat, by omega⟩
         have hh : holdsR ws zs [(an : Int), b, cc] = (decide (b ∈ zs) && (decide (0 ≤ cc) && stA (pw ws b.toNat) (pw ws an) cc.toNat)) := by
          unfold holdsR
          show (decide (b ∈ zs) && (decide (0 ≤ cc) && stA (pw ws b.toNat) (pw ws ((an : Int)).toNat) cc.toNat)) = _
          rw [Int.toNat_natCast]
         rw [hh] at hno hnx
         have wa := hw _ (pw_mem (show an < ws.length by omega))
         have hr : SqOf (itD rs k) [.int (an : Int), .int b, .int cc] := hr
         subst ed
         walk_at "r"
         refine sq_row hr ?_
         walk_at "r"
         refine sq_in hkk ?_
         walk_at "r"
         refine piteNot (pite (fun c6 => ?_) (fun c6 => ?_))
         ·have c6 : inD (.int b) (zs.map D.int) = true := c6
          rw [hin2, decide_eq_true_eq] at c6
          have hb2 := hz b c6
          obtain ⟨bn, rfl⟩ : ∃ n : Nat, b = (n : Int) := ⟨b.toNat, by omega⟩
          have wb := hw _ (pw_mem (show bn < ws.length by omega))
          rw [decide_eq_true c6, Bool.true_and, Int.toNat_natCast] at hno hnx
          walk_at "r"
          refine sq_ix he ⟨_, atI_str (k := bn) (by omega) rfl, ?_⟩
          walk_at "r"
          refine sq_ix he ⟨_, atI_str (k := an) (by omega) rfl, ?_⟩
          walk_at "r"
          refine piteNot (pite (fun c7 => ?_) (fun c7 => ?_))
          ·exact ⟨⟨_, _, _, rfl⟩, hnx c7⟩
          ·walk_at "r"
           rw [hno c7] at q
           exact q
         ·have c6 : inD (.int b) (zs.map D.int) = false := c6
          rw [hin2, decide_eq_false_iff_not] at c6
          rw [decide_eq_false c6, Bool.false_and] at hno
          walk_at "r"
          rw [hno rfl] at q
          exact q
        ·rintro ρ ⟨⟨v5, v6, v7, rfl⟩, ih⟩
         have hall : (rs.map rowI).all (holdsR ws zs) = true := by
          rw [List.all_map]
          refine List.all_eq_true.mpr fun r hr => ?_
          obtain ⟨k, hk, e⟩ := List.getElem_of_mem hr
          have := ih k hk
          rwa [itD_of (show rs[k]? = some r by rw [List.getElem?_eq_getElem hk, e])] at this
         rw [hall, Bool.true_and] at q
         walk_at "r"
         refine sq_any hkk ?_
         walk_at "r"
         refine cmap (fun τ => ∃ v, τ = [v, some (.dat e)]) (fun k => .str (pw ws (zs.getD k 0).toNat)) ?_ ?_ ?_
         ·exact ⟨_, rfl⟩
         ·rintro k τ d hk ed ⟨v, rfl⟩ K1 k1
          have hk2 : k < zs.length := by omega
          have hzk := hz _ (List.mem_of_getElem? (show zs[k]? = some (zs.getD k 0) by rw [List.getD_eq_getElem?_getD, List.getElem?_eq_getElem hk2]; rfl))
          rw [itD_int hk] at ed
          subst ed
          walk_at "r"
          refine sq_ix he ⟨_, atI_str (k := (zs.getD k 0).toNat) (by omega) (by omega), ?_⟩
          walk_at "r"
          exact k1 _ ⟨_, rfl⟩
         ·rintro τ ⟨v, rfl⟩
          have eW : (List.range (zs.map D.int).length).map (fun k => D.str (pw ws (zs.getD k 0).toNat)) = (zs.map fun z => pw ws z.toNat).map D.str := by
           rw [hzm]
           apply List.ext_getElem?
           intro k
           rw [List.getElem?_map, List.getElem?_map, List.getElem?_map]
           by_cases hk : k < zs.length
           ·rw [List.getElem?_range hk, List.getElem?_eq_getElem hk]
            show some (D.str (pw ws (zs.getD k 0).toNat)) = _
            rw [List.getD_eq_getElem?_getD, List.getElem?_eq_getElem hk]; rfl
           ·rw [List.getElem?_eq_none (by rw [List.length_range]; omega), List.getElem?_eq_none (by omega)]; rfl
          rw [eW]
          have hwl : (zs.map fun z => pw ws z.toNat).length ≤ 300 ∧ ∀ w ∈ zs.map (fun z => pw ws z.toNat), w.length ≤ 10000 := ⟨by rw [List.length_map]; omega, fun w hw' => by
           obtain ⟨z, hz', rfl⟩ := List.mem_map.mp hw'
           exact hw _ (pw_mem (by have := hz z hz'; omega))⟩
          walk_at "r"
          exact q
       ·have c5 : deq (.lst (ns'.map .int)) (.lst (rngD 0 (((ws.map D.str).length : Nat) : Int).toNat)) = false := c5
        rw [c5] at q
        walk_at "r"
        exact q
      ·have c4 : risB (.lst (O.map .int)) (((ws.map D.str).length : Nat) : Int) = false := c4
       rw [hlm] at c4
       walk_at "r"
       rw [c4] at q
       exact q
    ·have c3 : (rs.map fun r => areNums r 3).all id = false := c3
     rw [ea] at c3
     walk_at "r"
     rw [show paperB ws kept left = false by
      unfold paperB
      rw [hl.items, c3, Bool.false_and, Bool.and_false, Bool.and_false]] at q
     exact q
  ·have c2 : isRow left = false := c2
   walk_at "r"
   rw [show paperB ws kept left = false by unfold paperB; rw [c2, Bool.false_and, Bool.and_false]] at q
   exact q
 ·have c : risB kept (((ws.map D.str).length : Nat) : Int) = false := c
  rw [hlm] at c
  walk_at "r"
  rw [show paperB ws kept left = false by unfold paperB; rw [c, Bool.false_and]] at q
  exact q
theorem rd_is_left_paper : ∀ ds Q, pc_is_left_paper ds Q → RunP pp_is_left_paper nn_is_left_paper ds Q := fun ds Q h => by
 unfold pc_is_left_paper at h
 split at h
 ·exact rd_is_left_paper_ _ _ _ _ h
 ·exact h.elim
def pp_law_stream : PTS := (psSeq (psAsg (pOp fAdd (pFz (pOp fMul (pFz (pOp fMul (pSl 1) (pSl 1))) (pFz (pC (.int 7919))))) (pFz (pC (.int 5)))) (pgName 2)) (psSeq (psJoin (psIf (pB (pOp fLt (pSl 1) (pFz (pCB fLen (paCons (pSl 0) paNil))))) (psAsg (pCB fAbs (paCons (pFz (pOp fIx (pSl 0) (pSl 1))) paNil)) (pgName 2)) psNext)) (psRet (pLst (paCons (pFz (pVar 2)) (paCons (pFz (pOp fAdd (pFz (pOp fAdd (pFz (pOp fMod (pSl 2) (pFz (pC (.int 2147483629))))) (pFz (pOp fMul (pSl 1) (pFz (pC (.int 7919))))))) (pFz (pC (.int 1))))) paNil))))))
set_option maxHeartbeats 4000000 in
theorem rd_law_stream_ (ns : List Int) (k : Int) (Q : PV → Prop) (h : pc_law_stream ([.scr ns, .int k]) Q) : RunP pp_law_stream nn_law_stream ([.scr ns, .int k]) Q := by
 obtain ⟨hk0, hk1, q⟩ := h
 have hkk : k * k ≤ 1000 * 1000 ∧ 0 ≤ k * k := ⟨Int.mul_le_mul hk1 hk1 hk0 (by decide), Int.mul_nonneg hk0 hk0⟩
 walk_at "r"
 refine ⟨fun ρ => ρ = [some (.dat (.scr ns)), some (.dat (.int k)), some (.dat (.int (cellN ns k)))] ∧ 0 ≤ cellN ns k, ?_, ?_⟩
 ·walk_at "r"
  refine piteD (fun c => ?_) (fun c => ?_)
  ·obtain ⟨n, rfl⟩ : ∃ n : Nat, k = (n : Int) := ⟨k.toNat, by omega⟩
   have hn : n < ns.length := by omega
   have hg : ns.getD n 0 = ns[n] := by rw [List.getD_eq_getElem?_getD, List.getElem?_eq_getElem hn]; rfl
   have hc : cellN ns (n : Int) = if ns[n] < 0 then -(ns[n]) else ns[n] := by unfold cellN; rw [if_pos c, Int.toNat_natCast, hg]
   walk_at "r"
   refine ⟨ns[n], atI_of (List.getElem?_eq_getElem hn) rfl, ?_⟩
   exact ⟨by rw [hc]; rfl, by rw [hc]; split <;> omega⟩
  ·have hc : cellN ns k = k * k * 7919 + 5 := if_neg c
   exact ⟨by rw [hc]; rfl, by rw [hc]; omega⟩
 ·rintro ρ ⟨rfl, hc⟩
  walk_at "r"
  exact q ⟨hc, by omega, by omega⟩
theorem rd_law_stream : ∀ ds Q, pc_law_stream ds Q → RunP pp_law_stream nn_law_stream ds Q := fun ds Q h => by
 unfold pc_law_stream at h
 split at h
 ·exact rd_law_stream_ _ _ _ h
 ·exact h.elim
def pp_law_take : PTS := (psSeq (psIf (pB (pOp fGt (pFz (pOp fIx (pSl 0) (pFz (pC (.int 0))))) (pFz (pC (.int 0))))) (psSeq (psAsg (pOp fMod (pFz (pOp fIx (pSl 0) (pFz (pC (.int 0))))) (pSl 1)) (pgName 2)) (psSeq (psSetI 0 (pOp fDiv (pFz (pOp fIx (pSl 0) (pFz (pC (.int 0))))) (pSl 1)) (pC (.int 0))) (psRet (pVar 2)))) psNext) (psSeq (psSetI 0 (pOp fMod (pFz (pOp fAdd (pFz (pOp fMul (pFz (pOp fIx (pSl 0) (pFz (pC (.int 1))))) (pFz (pC (.int 48271))))) (pFz (pC (.int 12345))))) (pFz (pC (.int 2147483647)))) (pC (.int 1))) (psRet (pOp fMod (pFz (pOp fMod (pFz (pOp fMul (pFz (pOp fIx (pSl 0) (pFz (pC (.int 1))))) (pFz (pOp fIx (pSl 0) (pFz (pC (.int 1))))))) (pFz (pC (.int 2147483629))))) (pSl 1)))))
set_option maxHeartbeats 4000000 in
theorem rd_law_take_ (c0 c1 m : Int) (Q : PV → PV → Prop) (h : pc_law_take (.own [.int c0, .int c1]) ([.int m]) Q) : RunR pp_law_take nn_law_take (.own [.int c0, .int c1]) ([.int m]) Q := by
 obtain ⟨⟨g0, g1, g2⟩, hm, hm2, q⟩ := h
 have mod : ∀ z : Int, 0 ≤ z % m ∧ z % m < m := fun z => ⟨Int.emod_nonneg z (by omega), Int.emod_lt_of_pos z hm⟩
 walk_at "r"
 refine piteD (fun c => ?_) (fun c => ?_)
 ·walk_at "r"
  exact q _ (_, _) ⟨Int.ediv_nonneg g0 (by omega), g1, g2⟩ (mod c0).1 ⟨(mod c0).2, if_pos c⟩
 ·have n0 : 0 ≤ (c1 * 48271 + 12345) % 2147483647 := Int.emod_nonneg _ (by decide)
  have n1 : (c1 * 48271 + 12345) % 2147483647 < 2147483647 := Int.emod_lt_of_pos _ (by decide)
  walk_at "r"
  exact q _ (_, _) ⟨g0, n0, by omega⟩ (mod _).1 ⟨(mod _).2, if_neg c⟩
theorem rd_law_take : ∀ p ds Q, p.isOwn = true → pc_law_take p ds Q → RunR pp_law_take nn_law_take p ds Q := fun p ds Q _ h => by
 unfold pc_law_take at h
 split at h
 ·exact rd_law_take_ _ _ _ _ h
 ·exact h.elim
def pp_law_letters : PTS := (psSeq (psAsg (pC (.str [97, 98, 99, 100, 101, 102, 103, 104, 105, 106, 107, 108, 109, 110, 111, 112, 113, 114, 115, 116, 117, 118, 119, 120, 121, 122])) (pgName 1)) (psSeq (psAsg (pCallR pc_law_take 0 (paCons (pFz (pC (.int 4))) paNil)) (pgName 2)) (psSeq (psIf (pB (pOp fEq2 (pSl 2) (pFz (pC (.int 3))))) (psRet (pVar 1)) psNext) (psRet (pSM fJoinS (pC (.str [])) (paCons (pFz (pComp [none, some 1, some 0] (piR1 (paCons (pFz (pOp fAdd (pFz (pC (.int 2))) (pFz (pOp fMod (pSl 2) (pFz (pC (.int 2))))))) paNil)) (pgName 0) pYes (pOp fIx (pSl 1) (pFz (pCallR pc_law_take 2 (paCons (pFz (pC (.int 26))) paNil)))))) paNil))))))
set_option maxHeartbeats 4000000 in
theorem rd_law_letters_ (c0 c1 : Int) (Q : PV → PV → Prop) (h : pc_law_letters (.own [.int c0, .int c1]) ([]) Q) : RunR pp_law_letters nn_law_letters (.own [.int c0, .int c1]) ([]) Q := by
 obtain ⟨g, q⟩ := h
 walk_at "r"
 intro x s hs hx0 hx1
 walk_at "r"
 refine piteD (fun c => ?_) (fun c => ?_)
 ·walk_at "r"
  exact q _ s hs (by decide) (by decide) (all_ltB.mp (by decide))
 ·walk_at "r"
  refine ⟨fun k ys τ => ∃ (v : Option PV) (s : Int × Int) (ls : List Nat), τ = [v, some (.dat (.str [97, 98, 99, 100, 101, 102, 103, 104, 105, 106, 107, 108, 109, 110, 111, 112, 113, 114, 115, 116, 117, 118, 119, 120, 121, 122])), some (stv s)] ∧ SOk s ∧ ys = ls.map (fun c => .str [c]) ∧ ls.length = k ∧ Lts ls, ⟨none, s, [], rfl, hs, rfl, rfl, Lts.nil⟩, ?_, ?_⟩
  ·rintro k ys τ _ hk rfl ⟨v, ⟨a, b⟩, ls, rfl, hs, rfl, hl, hL⟩
   walk_at "r"
   intro z s2 hs2 hz0 hz1
   obtain ⟨j, rfl⟩ : ∃ j : Nat, z = (j : Int) := ⟨z.toNat, by omega⟩
   have hj : j < 26 := by omega
   walk_at "r"
   obtain ⟨ch, hch⟩ : ∃ ch, ([97, 98, 99, 100, 101, 102, 103, 104, 105, 106, 107, 108, 109, 110, 111, 112, 113, 114, 115, 116, 117, 118, 119, 120, 121, 122] : List Nat)[j]? = some ch := ⟨_, List.getElem?_eq_getElem hj⟩
   refine ⟨ch, atI_of hch rfl, ?_⟩
   have hm := List.mem_of_getElem? hch
   exact ⟨_, s2, ls ++ [ch], rfl, hs2, by rw [List.map_append]; rfl, by rw [List.length_append, hl]; rfl, hL.app (Lts.one (by simp only [List.mem_cons, List.not_mem_nil, or_false] at hm; omega))⟩
  ·rintro ys τ ⟨v, s2, ls, rfl, hs2, rfl, hl, hL⟩
   walk_at "r"
   refine ⟨ls.map fun c => [c], ones_str ls, ?_, ?_⟩
   ·rw [ones_flatten]; omega
   ·rw [ones_flatten]; walk_at "r"; exact q ls s2 hs2 (by omega) (by omega) hL
theorem rd_law_letters : ∀ p ds Q, p.isOwn = true → pc_law_letters p ds Q → RunR pp_law_letters nn_law_letters p ds Q := fun p ds Q _ h => by
 unfold pc_law_letters at h
 split at h
 ·exact rd_law_letters_ _ _ _ h
 ·exact h.elim
def pp_law_word : PTS := (psRet (pSM fJoinS (pC (.str [])) (paCons (pFz (pComp [none, some 1, some 0] (piR1 (paCons (pFz (pOp fAdd (pFz (pC (.int 1))) (pFz (pCallR pc_law_take 0 (paCons (pFz (pVar 2)) paNil))))) paNil)) (pgName 0) pYes (pOp fIx (pSl 1) (pFz (pCallR pc_law_take 2 (paCons (pFz (pCB fLen (paCons (pSl 1) paNil))) paNil)))))) paNil)))
set_option maxHeartbeats 4000000 in
theorem rd_law_word_ (c0 c1 m : Int) (ls : List Nat) (Q : PV → PV → Prop) (h : pc_law_word (.own [.int c0, .int c1]) ([.str ls, .int m]) Q) : RunR pp_law_word nn_law_word (.own [.int c0, .int c1]) ([.str ls, .int m]) Q := by
 obtain ⟨g, ⟨h0, h26, hls⟩, ⟨hm, hm2⟩, q⟩ := h
 walk_at "r"
 intro x s hs hx0 hx1
 walk_at "r"
 refine ⟨fun k ys τ => ∃ (v : Option PV) (s : Int × Int) (ws : List Nat), τ = [v, some (.dat (.str ls)), some (stv s)] ∧ SOk s ∧ ys = ws.map (fun c => .str [c]) ∧ ws.length = k ∧ Lts ws, ⟨none, s, [], rfl, hs, rfl, rfl, Lts.nil⟩, ?_, ?_⟩
 ·rintro k ys τ _ hk rfl ⟨v, ⟨a, b⟩, ws, rfl, hs, rfl, hl, hL⟩
  walk_at "r"
  intro z s2 hs2 hz0 hz1
  obtain ⟨j, rfl⟩ : ∃ j : Nat, z = (j : Int) := ⟨z.toNat, by omega⟩
  have hj : j < ls.length := by omega
  walk_at "r"
  refine ⟨_, atI_of (List.getElem?_eq_getElem hj) rfl, ?_⟩
  exact ⟨_, s2, ws ++ [ls[j]], rfl, hs2, by rw [List.map_append]; rfl, by rw [List.length_append, hl]; rfl, hL.app (Lts.one (hls _ (List.getElem_mem hj)))⟩
 ·rintro ys τ ⟨v, s2, ws, rfl, hs2, rfl, hl, hL⟩
  walk_at "r"
  refine ⟨ws.map fun c => [c], ones_str ws, ?_, ?_⟩
  ·rw [ones_flatten]; omega
  ·rw [ones_flatten]; walk_at "r"; exact q ws s2 hs2 (by omega) (by omega) hL
theorem rd_law_word : ∀ p ds Q, p.isOwn = true → pc_law_word p ds Q → RunR pp_law_word nn_law_word p ds Q := fun p ds Q _ h => by
 unfold pc_law_word at h
 split at h
 ·exact rd_law_word_ _ _ _ _ _ h
 ·exact h.elim
def pp_law_cut : PTS := (psSeq (psAsg (pCallR pc_law_take 0 (paCons (pFz (pCB fLen (paCons (pSl 1) paNil))) paNil)) (pgName 3)) (psRet (pSlice (pSl 1) (poSome (pVar 3)) (poSome (pOp fAdd (pFz (pOp fAdd (pSl 3) (pFz (pC (.int 1))))) (pFz (pCallR pc_law_take 0 (paCons (pFz (pVar 2)) paNil))))))))
set_option maxHeartbeats 4000000 in
theorem rd_law_cut_ (c0 c1 m : Int) (t : List Nat) (Q : PV → PV → Prop) (h : pc_law_cut (.own [.int c0, .int c1]) ([.str t, .int m]) Q) : RunR pp_law_cut nn_law_cut (.own [.int c0, .int c1]) ([.str t, .int m]) Q := by
 obtain ⟨g, ⟨h0, h1, ht⟩, ⟨hm, hm2⟩, q⟩ := h
 walk_at "r"
 rintro x ⟨a, b⟩ hs hx0 hx1
 walk_at "r"
 intro y s2 hs2 hy0 hy1
 walk_at "r"
 obtain ⟨i, rfl⟩ : ∃ i : Nat, x = (i : Int) := ⟨x.toNat, by omega⟩
 obtain ⟨j, rfl⟩ : ∃ j : Nat, y = (j : Int) := ⟨y.toNat, by omega⟩
 show Q (.dat (.str (cutN t (some (i : Int)) (some ((i : Int) + 1 + (j : Int)))))) _
 rw [show (i : Int) + 1 + (j : Int) = ((i + 1 + j : Nat) : Int) by omega, cutN_both]
 exact q _ s2 hs2 (by rw [List.length_take, List.length_drop]; omega) (by rw [List.length_take, List.length_drop]; omega) ((ht.drop _).take _)
theorem rd_law_cut : ∀ p ds Q, p.isOwn = true → pc_law_cut p ds Q → RunR pp_law_cut nn_law_cut p ds Q := fun p ds Q _ h => by
 unfold pc_law_cut at h
 split at h
 ·exact rd_law_cut_ _ _ _ _ _ h
 ·exact h.elim
def pp_law_pieces : PTS := (psSeq (psAsg (pCallR pc_law_letters 0 paNil) (pgName 3)) (psSeq (psAsg (pCallR pc_law_word 0 (paCons (pFz (pVar 3)) (paCons (pFz (pOp fMul (pFz (pC (.int 3))) (pSl 2))) paNil))) (pgName 4)) (psSeq (psJoin (psIf (pB (pOp fEq2 (pFz (pCallR pc_law_take 0 (paCons (pFz (pC (.int 3))) paNil))) (pFz (pC (.int 0))))) (psAsg (pOp fMul (pFz (pSlice (pSl 4) poNone (poSome (pOp fAdd (pFz (pC (.int 1))) (pFz (pCallR pc_law_take 0 (paCons (pFz (pC (.int 4))) paNil))))))) (pSl 2)) (pgName 4)) psNext)) (psSeq (psAsg (pLst paNil) (pgName 5)) (psSeq (psFor (piR1 (paCons (pFz (pVar 1)) paNil)) (pgName 6) (psSeq (psAsg (pCallR pc_law_take 0 (paCons (pFz (pC (.int 5))) paNil)) (pgName 7)) (psSeq (psJoin (psIf (pAnd (pB (pOp fGt (pSl 7) (pFz (pC (.int 2))))) (pB (pOp fGt (pFz (pCB fLen (paCons (pSl 5) paNil))) (pFz (pC (.int 0)))))) (psSeq (psAsg (pOp fIx (pSl 5) (pFz (pCallR pc_law_take 0 (paCons (pFz (pCB fLen (paCons (pSl 5) paNil))) paNil)))) (pgName 8)) (psIf (pB (pOp fEq2 (pSl 7) (pFz (pC (.int 3))))) (psAsg (pCallR pc_law_cut 0 (paCons (pFz (pVar 8)) (paCons (pFz (pVar 2)) paNil))) (pgName 8)) psNext)) (psIf (pB (pOp fEq2 (pFz (pOp fMod (pSl 7) (pFz (pC (.int 2))))) (pFz (pC (.int 1))))) (psAsg (pCallR pc_law_cut 0 (paCons (pFz (pVar 4)) (paCons (pFz (pVar 2)) paNil))) (pgName 8)) (psAsg (pCallR pc_law_word 0 (paCons (pFz (pVar 3)) (paCons (pFz (pVar 2)) paNil))) (pgName 8))))) (psDrop (pApp 5 (pVar 8)))))) (psRet (pVar 5)))))))
set_option maxHeartbeats 4000000 in
theorem rd_law_pieces_ (c0 c1 n m : Int) (Q : PV → PV → Prop) (h : pc_law_pieces (.own [.int c0, .int c1]) ([.int n, .int m]) Q) : RunR pp_law_pieces nn_law_pieces (.own [.int c0, .int c1]) ([.int n, .int m]) Q := by
 obtain ⟨g, ⟨hn0, hn⟩, ⟨hm, hm60⟩, q⟩ := h
 walk_at "r"
 rintro ls ⟨a, b⟩ hs hl2 hl26 hL
 walk_at "r"
 rintro ba ⟨a, b⟩ hs ba0 bam baL
 walk_at "r"
 refine ⟨fun ρ => ∃ (bs : List Nat) (s : Int × Int), ρ = [some (stv s), some (.dat (.int n)), some (.dat (.int m)), some (.dat (.str ls)), some (.dat (.str bs)), none, none, none, none] ∧ SOk s ∧ 0 < bs.length ∧ bs.length ≤ 20000 ∧ Lts bs, ?_, ?_⟩
 ·walk_at "r"
  rintro z ⟨a, b⟩ hs hz0 hz1
  walk_at "r"
  refine piteD (fun c => ?_) (fun c => ⟨ba, (a, b), rfl, hs, ba0, by omega, baL⟩)
  walk_at "r"
  rintro y s2 hs2 hy0 hy1
  walk_at "r"
  have h1 := cutN_length_le ba none (some (1 + y))
  have h3 : m.toNat * (cutN ba none (some (1 + y))).length ≤ 60 * 180 := Nat.mul_le_mul (by omega) (by omega)
  have h4 : 0 < (cutN ba none (some (1 + y))).length := by
   rw [cutN_toI _ (by omega), List.length_take]; omega
  have h5 : 0 < m.toNat * (cutN ba none (some (1 + y))).length := Nat.mul_pos (by omega) h4
  refine ⟨⟨by omega, by omega, by omega⟩, ?_⟩
  exact ⟨repN (cutN ba none (some (1 + y))) m, s2, rfl, hs2, by rw [repN_length]; exact h5, by rw [repN_length]; omega, (baL.cut _ _).rep _⟩
 rintro ρ ⟨bs, s3, rfl, hs3, b0, bm, bL⟩
 walk_at "r"
 refine ⟨fun k ρ => ∃ (ps : List (List Nat)) (s : Int × Int) (v6 v7 v8 : Option PV), ρ = [some (stv s), some (.dat (.int n)), some (.dat (.int m)), some (.dat (.str ls)), some (.dat (.str bs)), some (.own (ps.map .str)), v6, v7, v8] ∧ SOk s ∧ ps.length = k ∧ Pcs m.toNat ps, ⟨[], s3, none, none, none, rfl, hs3, rfl, nofun⟩, ?_, ?_⟩
 ·rintro k ρ _ hk rfl ⟨ps, ⟨a, b⟩, v6, v7, v8, rfl, hs, hpl, hps⟩
  have hlm : (ps.map D.str).length = ps.length := List.length_map _
  walk_at "r"
  rintro way ⟨a, b⟩ hs hw0 hw1
  walk_at "r"
  refine ⟨fun ρ => ∃ (w : List Nat) (s : Int × Int) (v6 v7 : Option PV), ρ = [some (stv s), some (.dat (.int n)), some (.dat (.int m)), some (.dat (.str ls)), some (.dat (.str bs)), some (.own (ps.map .str)), v6, v7, some (.dat (.str w))] ∧ SOk s ∧ Pc m.toNat w, ?_, ?_⟩
  ·walk_at "r"
   refine piteD (fun c => ?_) (fun c => ?_)
   ·walk_at "r"
    refine piteD (fun c2 => ?_) (fun c2 => ?_)
    ·walk_at "r"
     rintro z ⟨a, b⟩ hs hz0 hz1
     obtain ⟨j, rfl⟩ : ∃ j : Nat, z = (j : Int) := ⟨z.toNat, by omega⟩
     have hj : j < ps.length := by omega
     have ho := hps _ (pw_mem hj)
     obtain ⟨ho1, ho2, ho3⟩ := id ho
     walk_at "r"
     refine ⟨_, atI_str hj rfl, ?_⟩
     walk_at "r"
     refine piteD (fun _ => ?_) (fun _ => ⟨pw ps j, (a, b), _, _, rfl, hs, ho⟩)
     walk_at "r"
     rintro w s hs w0 wm wL
     exact ⟨w, s, _, _, rfl, hs, w0, wm, wL⟩
    ·walk_at "r"
     refine piteD (fun _ => ?_) (fun _ => ?_)
     ·walk_at "r"
      rintro w s hs w0 wm wL
      exact ⟨w, s, _, _, rfl, hs, w0, wm, wL⟩
     ·walk_at "r"
      rintro w s hs w0 wm wL
      exact ⟨w, s, _, _, rfl, hs, w0, wm, wL⟩
   ·walk_at "r"
    refine piteD (fun _ => ?_) (fun _ => ?_)
    ·walk_at "r"
     rintro w s hs w0 wm wL
     exact ⟨w, s, _, _, rfl, hs, w0, wm, wL⟩
    ·walk_at "r"
     rintro w s hs w0 wm wL
     exact ⟨w, s, _, _, rfl, hs, w0, wm, wL⟩
  ·rintro ρ ⟨w, s, v6, v7, rfl, hs, hw⟩
   walk_at "r"
   exact ⟨ps ++ [w], s, _, _, _, by rw [List.map_append]; rfl, hs, by rw [List.length_append, hpl]; rfl, hps.app hw⟩
 ·rintro ρ ⟨ps, s, v6, v7, v8, rfl, hs, hpl, hps⟩
  walk_at "r"
  exact q ps s hs hpl hps
theorem rd_law_pieces : ∀ p ds Q, p.isOwn = true → pc_law_pieces p ds Q → RunR pp_law_pieces nn_law_pieces p ds Q := fun p ds Q _ h => by
 unfold pc_law_pieces at h
 split at h
 ·exact rd_law_pieces_ _ _ _ _ _ h
 ·exact h.elim
def pp_law_stands : PTS := (psRet (pComp [none, some 1, some 0] (piR1 (paCons (pFz (pOp fAdd (pFz (pOp fSub (pFz (pCB fLen (paCons (pSl 0) paNil))) (pFz (pCB fLen (paCons (pSl 1) paNil))))) (pFz (pC (.int 1))))) paNil)) (pgName 0) (pB (pOp fEq2 (pFz (pSlice (pSl 2) (poSome (pVar 0)) (poSome (pOp fAdd (pSl 0) (pFz (pCB fLen (paCons (pSl 1) paNil))))))) (pSl 1))) (pVar 0)))
set_option maxHeartbeats 4000000 in
theorem rd_law_stands_ (t w : List Nat) (Q : PV → Prop) (h : pc_law_stands ([.str t, .str w]) Q) : RunP pp_law_stands nn_law_stands ([.str t, .str w]) Q := by
 obtain ⟨⟨ht, hw⟩, q⟩ := h
 walk_at "r"
 refine cfm (fun τ => ∃ v, τ = [v, some (.dat (.str w)), some (.dat (.str t))]) (fun k => if stA t w k = true then some (.int (k : Int)) else none) ?_ ?_ ?_
 ·exact ⟨_, rfl⟩
 ·rintro k τ _ hk rfl ⟨v, rfl⟩ K1 K2 k1 k2
  have hk : k < ((t.length : Int) - (w.length : Int) + 1).toNat := hk
  have e : cutN t (some (k : Int)) (some ((k : Int) + (w.length : Int))) = (t.drop k).take w.length := by
   rw [show ((k : Int) + (w.length : Int)) = ((k + w.length : Nat) : Int) from rfl, cutN_both]
   congr 1; omega
  have hs : stA t w k = decide ((t.drop k).take w.length = w) := by
   unfold stA
   by_cases h : (t.drop k).take w.length = w
   ·rw [decide_eq_true h, decide_eq_true ⟨by omega, h⟩]
   ·rw [decide_eq_false h, decide_eq_false fun z => h z.2]
  rw [hs, ← e] at k1 k2
  walk_at "r"
  refine piteD (fun c => ?_) (fun c => ?_)
  ·walk_at "r"
   exact k1 _ _ (by rw [if_pos (decide_eq_true c)]; rfl) ⟨_, rfl⟩
  ·exact k2 _ (by rw [if_neg (by rw [decide_eq_false c]; decide)]) ⟨_, rfl⟩
 ·rintro τ ⟨v, rfl⟩
  rw [fm_intN (fun k => stA t w k), show ((t.length : Int) - (w.length : Int) + 1).toNat = t.length + 1 - w.length by omega]
  exact q
theorem rd_law_stands : ∀ ds Q, pc_law_stands ds Q → RunP pp_law_stands nn_law_stands ds Q := fun ds Q h => by
 unfold pc_law_stands at h
 split at h
 ·exact rd_law_stands_ _ _ _ h
 ·exact h.elim
def pp_law_roots : PTS := (psSeq (psAsg (pLst paNil) (pgName 1)) (psSeq (psFor (piAny (pVar 0)) (pgName 2) (psSeq (psAsg (pComp [none, some 2] (piAny (pVar 0)) (pgName 0) (pAnd (pB (pOp fGt (pFz (pCB fLen (paCons (pSl 0) paNil))) (pFz (pCB fLen (paCons (pSl 1) paNil))))) (pB (pOp fNe2 (pFz (pCallP pc_law_stands (paCons (pFz (pVar 0)) (paCons (pFz (pVar 1)) paNil)))) (pFz (pLst paNil))))) (pVar 0)) (pgName 3)) (psIf (pAnd (pB (pOp fEq2 (pSl 3) (pFz (pLst paNil)))) (pB (pOp (fIn true) (pSl 2) (pSl 1)))) (psDrop (pApp 1 (pVar 2))) psNext))) (psRet (pVar 1))))
set_option maxHeartbeats 4000000 in
theorem rd_law_roots_ (ds : List D) (Q : PV → Prop) (h : pc_law_roots ([.lst ds]) Q) : RunP pp_law_roots nn_law_roots ([.lst ds]) Q := by
 obtain ⟨ws, rfl, ⟨hn, hw⟩, q⟩ := h
 have hlm : (ws.map D.str).length = ws.length := List.length_map _
 walk_at "r"
 refine ⟨fun k ρ => ∃ (v2 v3 : Option PV), ρ = [some (.dat (.lst (ws.map .str))), some (.own ((rootsN ws k).map .str)), v2, v3], ⟨none, none, rfl⟩, ?_, ?_⟩
 ·rintro k ρ d hk ed ⟨v2, v3, rfl⟩
  have hk2 : k < ws.length := by omega
  have hvl := (rootsN_ok ws k (by omega)).1
  generalize hvs : rootsN ws k = vs at hvl ⊢
  have hnx : rootsN ws (k + 1) = if rootB ws (pw ws k) = true ∧ pw ws k ∉ vs then vs ++ [pw ws k] else vs := by rw [← hvs]; rfl
  rw [itD_str hk] at ed
  subst ed
  have wk := (hw _ (pw_mem hk2)).1
  have htk : ws.take (k + 1) = ws.take k ++ [pw ws k] := pw_take hk2
  walk_at "r"
  refine cfm (fun τ => ∃ v, τ = [v, some (.dat (.str (pw ws k)))]) (fun j => if (decide ((pw ws k).length < (pw ws j).length) && subB (pw ws k) (pw ws j)) = true then some (.str (pw ws j)) else none) ?_ ?_ ?_
  ·exact ⟨_, rfl⟩
  ·rintro j τ d hj ed ⟨v, rfl⟩ K1 K2 k1 k2
   rw [itD_str hj] at ed
   subst ed
   have wj := (hw _ (pw_mem (show j < ws.length by omega))).1
   have hE2 : EqOk (.lst ((spots (pw ws j) (pw ws k)).map .int)) (.lst []) := EqOk.of (Sh.lstI _) (Sh.lstI [])
   have hD2 : deq (.lst ((spots (pw ws j) (pw ws k)).map .int)) (.lst []) = !subB (pw ws k) (pw ws j) := by
    rw [show deq (.lst ((spots (pw ws j) (pw ws k)).map .int)) (.lst []) = decide (spots (pw ws j) (pw ws k) = []) from deq_ints _ []]
    rw [Bool.eq_iff_iff, decide_eq_true_eq, spots_nil]
    cases subB (pw ws k) (pw ws j) <;> simp
   walk_at "r"
   refine piteD (fun c => ?_) (fun c => ?_)
   ·have c : (pw ws k).length < (pw ws j).length := by omega
    walk_at "r"
    refine piteNot (pite (fun c2 => ?_) (fun c2 => ?_))
    ·have c2 : deq (.lst ((spots (pw ws j) (pw ws k)).map .int)) (.lst []) = true := c2
     rw [hD2] at c2
     exact k2 _ (by rw [if_neg (by rw [decide_eq_true c]; cases h : subB (pw ws k) (pw ws j) <;> simp_all)]) ⟨_, rfl⟩
    ·have c2 : deq (.lst ((spots (pw ws j) (pw ws k)).map .int)) (.lst []) = false := c2
     rw [hD2] at c2
     walk_at "r"
     exact k1 _ _ (by rw [if_pos (by rw [decide_eq_true c]; cases h : subB (pw ws k) (pw ws j) <;> simp_all)]; rfl) ⟨_, rfl⟩
   ·have c : ¬ (pw ws k).length < (pw ws j).length := by omega
    exact k2 _ (by rw [if_neg (by rw [decide_eq_false c]; simp)]) ⟨_, rfl⟩
  ·rintro τ ⟨v, rfl⟩
   have e1 : (List.range (ws.map D.str).length).filterMap (fun j => if (decide ((pw ws k).length < (pw ws j).length) && subB (pw ws k) (pw ws j)) = true then some (D.str (pw ws j)) else none) = (ws.filter fun o => decide ((pw ws k).length < o.length) && subB (pw ws k) o).map D.str := by
    rw [hlm, range_pw (fun w => if (decide ((pw ws k).length < w.length) && subB (pw ws k) w) = true then some (D.str w) else none) ws, fm_filter (fun o => decide ((pw ws k).length < o.length) && subB (pw ws k) o) D.str]
   rw [e1]
   have hSh : Sh (.lst ((ws.filter fun o => decide ((pw ws k).length < o.length) && subB (pw ws k) o).map .str)) := Sh.lstS fun w hw' => (hw w (List.mem_filter.mp hw').1).2
   have hE : EqOk (.lst ((ws.filter fun o => decide ((pw ws k).length < o.length) && subB (pw ws k) o).map .str)) (.lst []) := EqOk.of hSh (Sh.lstI [])
   have hD : deq (.lst ((ws.filter fun o => decide ((pw ws k).length < o.length) && subB (pw ws k) o).map .str)) (.lst []) = rootB ws (pw ws k) := by
    rw [deq_nilD]
    unfold rootB
    cases (ws.filter fun o => decide ((pw ws k).length < o.length) && subB (pw ws k) o) <;> simp
   have hfl := fl_strs vs
   have hin := inD_strs (pw ws k) vs
   have hvm : (vs.map D.str).length = vs.length := List.length_map _
   walk_at "r"
   refine pite (fun c => ?_) (fun c => ?_)
   ·have c : rootB ws (pw ws k) = true := hD.symm.trans c
    walk_at "r"
    refine piteNot (pite (fun c2 => ?_) (fun c2 => ?_))
    ·have c2 : inD (.str (pw ws k)) (vs.map D.str) = true := c2
     rw [hin, decide_eq_true_eq] at c2
     exact ⟨_, _, by rw [hnx, if_neg (fun z => z.2 c2)]; rfl⟩
    ·have c2 : inD (.str (pw ws k)) (vs.map D.str) = false := c2
     rw [hin, decide_eq_false_iff_not] at c2
     walk_at "r"
     exact ⟨_, _, by rw [hnx, if_pos ⟨c, c2⟩, List.map_append]; rfl⟩
   ·have c : rootB ws (pw ws k) = false := hD.symm.trans c
    exact ⟨_, _, by rw [hnx, if_neg (fun z => by rw [c] at z; cases z.1)]; rfl⟩
 ·rintro ρ ⟨v2, v3, rfl⟩
  rw [hlm]
  walk_at "r"
  exact q
theorem rd_law_roots : ∀ ds Q, pc_law_roots ds Q → RunP pp_law_roots nn_law_roots ds Q := fun ds Q h => by
 unfold pc_law_roots at h
 split at h
 ·exact rd_law_roots_ _ _ h
 ·exact h.elim
def pp_law_rising : PTS := (psSeq (psAsg (pUn fNeg (pFz (pC (.int 1)))) (pgName 2)) (psSeq (psFor (piAny (pVar 0)) (pgName 3) (psSeq (psIf (pOr (pB (pOp fLe (pSl 3) (pSl 2))) (pB (pOp fGe (pSl 3) (pSl 1)))) (psRet (pC (.bl false))) psNext) (psAsg (pVar 3) (pgName 2)))) (psRet (pC (.bl true)))))
set_option maxHeartbeats 4000000 in
theorem rd_law_rising_ (ds : List D) (m : Int) (Q : PV → Prop) (h : pc_law_rising ([.lst ds, .int m]) Q) : RunP pp_law_rising nn_law_rising ([.lst ds, .int m]) Q := by
 obtain ⟨zs, rfl, hl, q⟩ := h
 have hlm : (zs.map D.int).length = zs.length := List.length_map _
 have hti : (zs.map D.int).map toI = zs := by rw [List.map_map]; exact List.map_id' _
 have hget : ∀ k, k < zs.length → zs[k]? = some (zs.getD k 0) := fun k hk => by rw [List.getD_eq_getElem?_getD, List.getElem?_eq_getElem hk]; rfl
 have hno1 : ∀ k, k < zs.length → ¬ (0 ≤ zs.getD k 0 ∧ zs.getD k 0 < m) → risB (.lst (zs.map .int)) m = false := fun k hk hc => by
  cases hr : risB (.lst (zs.map .int)) m with
  | false => rfl
  | true =>
   obtain ⟨ys, e, hy, _⟩ := ris_ex hr
   rcases e with e | e
   ·have := congrArg (List.map toI) (D.lst.inj e)
    rw [hti, show (ys.map D.int).map toI = ys by rw [List.map_map]; exact List.map_id' _] at this
    subst this
    exact absurd (hy _ (List.mem_of_getElem? (hget k hk))) hc
   ·cases e
 have hno2 : ∀ k, k + 1 < zs.length → ¬ zs.getD k 0 < zs.getD (k + 1) 0 → risB (.lst (zs.map .int)) m = false := fun k hk hc => by
  unfold risB
  rw [show chainB ((itemsD (.lst (zs.map .int))).map toI) = false by
   show chainB ((zs.map D.int).map toI) = false
   rw [hti]
   exact List.all_eq_false.mpr ⟨k, List.mem_range.mpr (by omega), by rw [decide_eq_false hc]; decide⟩, Bool.and_false, Bool.and_false]
 walk_at "r"
 refine ⟨fun k ρ => (∃ (v3 : Option PV) (l : Int), ρ = [some (.dat (.lst (zs.map .int))), some (.dat (.int m)), some (.dat (.int l)), v3] ∧ ((k = 0 ∧ l = -1) ∨ (0 < k ∧ l = zs.getD (k - 1) 0))) ∧ (∀ j, j < k → 0 ≤ zs.getD j 0 ∧ zs.getD j 0 < m) ∧ ∀ j, j + 1 < k → zs.getD j 0 < zs.getD (j + 1) 0, ⟨⟨none, -1, rfl, .inl ⟨rfl, rfl⟩⟩, nofun, nofun⟩, ?_, ?_⟩
 ·rintro k ρ d hk ed ⟨⟨v3, l, rfl, hlast⟩, h1, h2⟩
  have hk2 : k < zs.length := by omega
  rw [itD_int hk] at ed
  subst ed
  have ok : l < zs.getD k 0 → zs.getD k 0 < m → (∀ j, j < k + 1 → 0 ≤ zs.getD j 0 ∧ zs.getD j 0 < m) ∧ ∀ j, j + 1 < k + 1 → zs.getD j 0 < zs.getD (j + 1) 0 := fun c1 c2 => by
   have c0 : 0 ≤ zs.getD k 0 := by
    rcases hlast with ⟨_, e⟩ | ⟨h0, e⟩
    ·omega
    ·have := (h1 (k - 1) (by omega)).1; omega
   refine ⟨fun j hj => (Nat.lt_succ_iff_lt_or_eq.mp hj).elim (h1 j) (fun e => by rw [e]; exact ⟨c0, c2⟩), fun j hj => ?_⟩
   by_cases e : j + 1 = k
   ·rcases hlast with ⟨h0, _⟩ | ⟨h0, e2⟩
    ·omega
    ·rw [show k - 1 = j by omega] at e2
     rw [e, ← e2]; exact c1
   ·exact h2 j (by omega)
  walk_at "r"
  refine piteD (fun c => ?_) (fun c => ?_)
  ·walk_at "r"
   rw [show risB (.lst (zs.map .int)) m = false by
    rcases hlast with ⟨_, e⟩ | ⟨h0, e⟩
    ·exact hno1 k hk2 (by omega)
    ·exact hno2 (k - 1) (by omega) (by rw [show k - 1 + 1 = k by omega]; omega)] at q
   exact q
  ·walk_at "r"
   refine piteD (fun c2 => ?_) (fun c2 => ?_)
   ·walk_at "r"
    rw [hno1 k hk2 (by omega)] at q
    exact q
   ·walk_at "r"
    exact ⟨⟨_, _, rfl, .inr ⟨by omega, rfl⟩⟩, ok (by omega) (by omega)⟩
 ·rintro ρ ⟨⟨v3, l, rfl, hlast⟩, h1, h2⟩
  rw [hlm] at h1 h2
  walk_at "r"
  rw [show risB (.lst (zs.map .int)) m = true by
   unfold risB chainB
   show (true && ((zs.map D.int).all (fun x => isWh x 0 (m - 1)) && (List.range (((zs.map D.int).map toI).length - 1)).all fun k => decide (((zs.map D.int).map toI).getD k 0 < ((zs.map D.int).map toI).getD (k + 1) 0))) = true
   rw [hti, Bool.true_and, Bool.and_eq_true]
   refine ⟨?_, List.all_eq_true.mpr fun k hk => decide_eq_true (h2 k (by have := List.mem_range.mp hk; omega))⟩
   rw [List.all_map]
   refine List.all_eq_true.mpr fun z hz => ?_
   obtain ⟨k, hk, e⟩ := List.getElem_of_mem hz
   have h3 := h1 k hk
   rw [List.getD_eq_getElem?_getD, List.getElem?_eq_getElem hk] at h3
   have h3 : 0 ≤ zs[k] ∧ zs[k] < m := h3
   rw [e] at h3
   show isWh (.int z) 0 (m - 1) = true
   unfold isWh
   show (true && (decide (0 ≤ z) && decide (z ≤ m - 1))) = true
   rw [decide_eq_true h3.1, decide_eq_true (show z ≤ m - 1 by omega)]; rfl] at q
  exact q
theorem rd_law_rising : ∀ ds Q, pc_law_rising ds Q → RunP pp_law_rising nn_law_rising ds Q := fun ds Q h => by
 unfold pc_law_rising at h
 split at h
 ·exact rd_law_rising_ _ _ _ h
 ·exact h.elim
def pp_law_right : PTS := (psSeq (psAsg (pCB fLen (paCons (pSl 0) paNil)) (pgName 3)) (psSeq (psAsg (pComp [none] (piAny (pVar 2)) (pgName 0) pYes (pOp fIx (pSl 0) (pFz (pC (.int 0))))) (pgName 4)) (psSeq (psIf (pOr (pNot (pB (pCallP pc_law_rising (paCons (pFz (pVar 1)) (paCons (pFz (pVar 3)) paNil))))) (pOr (pNot (pB (pCallP pc_law_rising (paCons (pFz (pVar 4)) (paCons (pFz (pVar 3)) paNil))))) (pB (pOp fNe2 (pFz (pCB fSortU (paCons (pFz (pOp fAdd (pSl 1) (pSl 4))) paNil))) (pFz (pRngL false (paCons (pFz (pVar 3)) paNil))))))) (psRet (pC (.bl false))) psNext) (psSeq (psFor (piAny (pVar 2)) (pgName 5) (psIf (pOr (pB (pOp (fIn true) (pFz (pOp fIx (pSl 5) (pFz (pC (.int 1))))) (pSl 1))) (pB (pOp (fIn true) (pFz (pOp fIx (pSl 5) (pFz (pC (.int 2))))) (pFz (pCallP pc_law_stands (paCons (pFz (pOp fIx (pSl 0) (pFz (pOp fIx (pSl 5) (pFz (pC (.int 1))))))) (paCons (pFz (pOp fIx (pSl 0) (pFz (pOp fIx (pSl 5) (pFz (pC (.int 0))))))) paNil))))))) (psRet (pC (.bl false))) psNext)) (psSeq (psFor (piAny (pVar 1)) (pgName 6) (psFor (piAny (pVar 1)) (pgName 7) (psIf (pAnd (pB (pOp fNe2 (pSl 6) (pSl 7))) (pB (pOp fNe2 (pFz (pCallP pc_law_stands (paCons (pFz (pOp fIx (pSl 0) (pSl 7))) (paCons (pFz (pOp fIx (pSl 0) (pSl 6))) paNil)))) (pFz (pLst paNil))))) (psRet (pC (.bl false))) psNext))) (psRet (pC (.bl true))))))))
set_option maxHeartbeats 4000000 in
theorem rd_law_right_ (ds ks ls : List D) (Q : PV → Prop) (h : pc_law_right ([.lst ds, .lst ks, .lst ls]) Q) : RunP pp_law_right nn_law_right ([.lst ds, .lst ks, .lst ls]) Q := by
 obtain ⟨ws, rfl, zs, rfl, L, rfl, ⟨hn, hw⟩, ⟨hzl, hLl⟩, hr3, q⟩ := h
 have hlm : (ws.map D.str).length = ws.length := List.length_map _
 have hzm : (zs.map D.int).length = zs.length := List.length_map _
 have hLm : (L.map (fun r => D.lst (r.map .int))).length = L.length := List.length_map _
 have hLi : ∀ k, k < L.length → itD (L.map (fun r => D.lst (r.map .int))) k = .lst ((L.getD k []).map .int) := fun k hk => itD_of (by rw [List.getElem?_map, List.getD_eq_getElem?_getD, List.getElem?_eq_getElem hk]; rfl)
 have hLg : ∀ k, k < L.length → L.getD k [] ∈ L := fun k hk => List.mem_of_getElem? (show L[k]? = some (L.getD k []) by rw [List.getD_eq_getElem?_getD, List.getElem?_eq_getElem hk]; rfl)
 have hOl : (L.map (·.getD 0 0)).length = L.length := List.length_map _
 have hOm : ((L.map (·.getD 0 0)).map D.int).length = L.length := by rw [List.length_map, List.length_map]
 have eO : (List.range (L.map (fun r => D.lst (r.map .int))).length).map (fun k => D.int ((L.getD k []).getD 0 0)) = (L.map (·.getD 0 0)).map D.int := by
  rw [hLm]
  apply List.ext_getElem?
  intro k
  rw [List.getElem?_map, List.getElem?_map, List.getElem?_map]
  by_cases hk : k < L.length
  ·rw [List.getElem?_range hk, List.getElem?_eq_getElem hk]
   show some (D.int ((L.getD k []).getD 0 0)) = _
   rw [List.getD_eq_getElem?_getD (l := L), List.getElem?_eq_getElem hk]; rfl
  ·rw [List.getElem?_eq_none (by rw [List.length_range]; omega), List.getElem?_eq_none (by omega)]; rfl
 unfold papB at q
 walk_at "r"
 refine cmap (fun τ => ∃ v, τ = [v]) (fun k => .int ((L.getD k []).getD 0 0)) ?_ ?_ ?_
 ·exact ⟨_, rfl⟩
 ·rintro k τ d hk ed ⟨v, rfl⟩ K1 k1
  have hk2 : k < L.length := by omega
  rw [hLi k hk2] at ed
  obtain ⟨a, b, c, hr⟩ := hr3 _ (hLg k hk2)
  rw [hr] at ed k1
  subst ed
  walk_at "r"
  exact k1 _ ⟨_, rfl⟩
 ·rintro τ ⟨v, rfl⟩
  rw [eO]
  generalize hO : L.map (·.getD 0 0) = O at *
  walk_at "r"
  refine piteNot (pite (fun c1 => ?_) (fun c1 => ?_))
  ·have c1 : risB (.lst (zs.map .int)) (((ws.map D.str).length : Nat) : Int) = true := c1
   rw [hlm] at c1
   rw [c1, Bool.true_and] at q
   walk_at "r"
   obtain ⟨zs', ez, hz, hch⟩ := ris_ex c1
   have ez : zs' = zs := by
    rcases ez with e | e
    ·have := congrArg (List.map toI) (D.lst.inj e)
     rw [List.map_map, List.map_map] at this
     exact (by simpa [Function.comp_def, toI] using this.symm)
    ·cases e
   subst ez
   have hzn := chain_len hz hch
   refine piteNot (pite (fun c2 => ?_) (fun c2 => ?_))
   ·have c2 : risB (.lst (O.map .int)) (((ws.map D.str).length : Nat) : Int) = true := c2
    rw [hlm] at c2
    rw [c2, Bool.true_and] at q
    obtain ⟨O', eo, hoz, hoc⟩ := ris_ex c2
    have eo : O' = O := by
     rcases eo with e | e
     ·have := congrArg (List.map toI) (D.lst.inj e)
      rw [List.map_map, List.map_map] at this
      exact (by simpa [Function.comp_def, toI] using this.symm)
     ·cases e
    subst eo
    walk_at "r"
    refine ⟨zs' ++ O', by rw [List.map_append], by rw [List.length_append]; omega, fun ns' hp hs => ?_⟩
    have hEq : EqOk (.lst (ns'.map .int)) (.lst (rngD 0 (((ws.map D.str).length : Nat) : Int).toNat)) := by rw [rngD_ints]; exact EqOk.of (Sh.lstI _) (Sh.lstI _)
    have hDq : deq (.lst (ns'.map .int)) (.lst (rngD 0 (((ws.map D.str).length : Nat) : Int).toNat)) = decide ((zs' ++ O').Perm (rngI ws.length)) := by
     rw [rngD_ints, deq_ints, hlm, Int.toNat_natCast, sort_eq hp hs]
    rw [← hDq] at q
    walk_at "r"
    refine piteNot (pite (fun c5 => ?_) (fun c5 => ?_))
    ·have c5 : deq (.lst (ns'.map .int)) (.lst (rngD 0 (((ws.map D.str).length : Nat) : Int).toNat)) = true := c5
     rw [c5, Bool.true_and] at q
     have hfl := fl_ints zs'
     clear hDq hEq c5 c2 c1 eO
     walk_at "r"
     refine ⟨fun k ρ => (∃ v5 v6 v7 : Option PV, ρ = [some (.dat (.lst (ws.map .str))), some (.dat (.lst (zs'.map .int))), some (.dat (.lst (L.map fun r => .lst (r.map .int)))), some (.dat (.int (((ws.map D.str).length : Nat) : Int))), some (.dat (.lst (O'.map .int))), v5, v6, v7]) ∧ ∀ j, j < k → holdsR ws zs' (L.getD j []) = true, ⟨⟨_, _, _, rfl⟩, nofun⟩, ?_, ?_⟩
     ·rintro k ρ d hk ed ⟨⟨v5, v6, v7, rfl⟩, ih⟩
      have hk : k < L.length := by omega
      have ed : d = itD (L.map (fun r => D.lst (r.map .int))) k := ed
      rw [hLi k hk] at ed
      have hno : holdsR ws zs' (L.getD k []) = false → L.all (holdsR ws zs') = false := fun h => List.all_eq_false.mpr ⟨_, hLg k hk, by rw [h]; decide⟩
      have hnx : holdsR ws zs' (L.getD k []) = true → ∀ j, j < k + 1 → holdsR ws zs' (L.getD j []) = true := fun h j hj => (Nat.lt_succ_iff_lt_or_eq.mp hj).elim (ih j) (fun e => by rw [e]; exact h)
      have hOk : (L.getD k []).getD 0 0 ∈ O' := by rw [← hO]; exact List.mem_map_of_mem (f := fun x : List Int => x.getD 0 0) (hLg k hk)
      obtain ⟨a, b, cc, hr⟩ := hr3 _ (hLg k hk)
      rw [hr] at ed hno hnx hOk
      have ha := hoz _ hOk
      have ha : 0 ≤ a ∧ a < (ws.length : Int) := ha
      subst ed
      obtain ⟨an, rfl⟩ : ∃ n : Nat, a = (n : Int) := ⟨a.toNat, by omega⟩
      have hh : holdsR ws zs' [(an : Int), b, cc] = (decide (b ∈ zs') && (decide (0 ≤ cc) && stA (pw ws b.toNat) (pw ws an) cc.toNat)) := by
       unfold holdsR
       show (decide (b ∈ zs') && (decide (0 ≤ cc) && stA (pw ws b.toNat) (pw ws ((an : Int)).toNat) cc.toNat)) = _
       rw [Int.toNat_natCast]
      rw [hh] at hno hnx
      have hin2 := inD_int b zs'
      have wa := hw _ (pw_mem (show an < ws.length by omega))
      walk_at "r"
      refine piteNot (pite (fun c6 => ?_) (fun c6 => ?_))
      ·have c6 : inD (.int b) (zs'.map D.int) = true := c6
       rw [hin2, decide_eq_true_eq] at c6
       have hb2 := hz b c6
       obtain ⟨bn, rfl⟩ : ∃ n : Nat, b = (n : Int) := ⟨b.toNat, by omega⟩
       have wb := hw _ (pw_mem (show bn < ws.length by omega))
       rw [decide_eq_true c6, Bool.true_and, Int.toNat_natCast] at hno hnx
       walk_at "r"
       refine ⟨_, atI_str (k := bn) (by omega) rfl, ?_⟩
       walk_at "r"
       refine ⟨_, atI_str (k := an) (by omega) rfl, ?_⟩
       have hfs := fl_ints (spots (pw ws bn) (pw ws an))
       have hsp : inD (.int cc) ((spots (pw ws bn) (pw ws an)).map D.int) = (decide (0 ≤ cc) && stA (pw ws bn) (pw ws an) cc.toNat) := by
        rw [inD_int]
        rw [Bool.eq_iff_iff, decide_eq_true_eq, mem_spots, Bool.and_eq_true, decide_eq_true_eq]
       rw [← hsp] at hno hnx
       walk_at "r"
       refine piteNot (pite (fun c7 => ?_) (fun c7 => ?_))
       ·exact ⟨⟨_, _, _, rfl⟩, hnx c7⟩
       ·walk_at "r"
        rw [hno c7] at q
        exact q
      ·have c6 : inD (.int b) (zs'.map D.int) = false := c6
       rw [hin2, decide_eq_false_iff_not] at c6
       rw [decide_eq_false c6, Bool.false_and] at hno
       walk_at "r"
       rw [hno rfl] at q
       exact q
     ·rintro ρ ⟨⟨v5, v6, v7, rfl⟩, ih⟩
      have hall : L.all (holdsR ws zs') = true := List.all_eq_true.mpr fun r hr => by
       obtain ⟨k, hk, e⟩ := List.getElem_of_mem hr
       have := ih k (by omega)
       rwa [List.getD_eq_getElem?_getD, List.getElem?_eq_getElem hk, e] at this
      rw [hall, Bool.true_and] at q
      have hbad : ∀ i, i < zs'.length → ∀ j, j < zs'.length → zs'.getD i 0 ≠ zs'.getD j 0 → subB (pw ws (zs'.getD i 0).toNat) (pw ws (zs'.getD j 0).toNat) = true → apartB (zs'.map fun z => pw ws z.toNat) = false := fun i hi j hj hne hs => by
       cases hap : apartB (zs'.map fun z => pw ws z.toNat) with
       | false => rfl
       | true => rw [(apart_iff hch).mp hap i hi j hj hne] at hs; cases hs
      have hgz : ∀ i, i < zs'.length → 0 ≤ zs'.getD i 0 ∧ zs'.getD i 0 < (ws.length : Int) := fun i hi => hz _ (List.mem_of_getElem? (show zs'[i]? = some (zs'.getD i 0) by rw [List.getD_eq_getElem?_getD, List.getElem?_eq_getElem hi]; rfl))
      clear hall hLi hLg hOm hOl ih
      walk_at "r"
      refine ⟨fun k ρ => (∃ v6 v7 : Option PV, ρ = [some (.dat (.lst (ws.map .str))), some (.dat (.lst (zs'.map .int))), some (.dat (.lst (L.map fun r => .lst (r.map .int)))), some (.dat (.int (((ws.map D.str).length : Nat) : Int))), some (.dat (.lst (O'.map .int))), v5, v6, v7]) ∧ ∀ i, i < k → ∀ j, j < zs'.length → zs'.getD i 0 ≠ zs'.getD j 0 → subB (pw ws (zs'.getD i 0).toNat) (pw ws (zs'.getD j 0).toNat) = false, ⟨⟨_, _, rfl⟩, nofun⟩, ?_, ?_⟩
      ·rintro k ρ d hk ed ⟨⟨v6, v7, rfl⟩, ih⟩
       have hk2 : k < zs'.length := by omega
       rw [itD_int hk] at ed
       subst ed
       have hgk := hgz k hk2
       walk_at "r"
       refine ⟨fun l ρ => (∃ v7 : Option PV, ρ = [some (.dat (.lst (ws.map .str))), some (.dat (.lst (zs'.map .int))), some (.dat (.lst (L.map fun r => .lst (r.map .int)))), some (.dat (.int (((ws.map D.str).length : Nat) : Int))), some (.dat (.lst (O'.map .int))), v5, some (.dat (.int (zs'.getD k 0))), v7]) ∧ ∀ j, j < l → zs'.getD k 0 ≠ zs'.getD j 0 → subB (pw ws (zs'.getD k 0).toNat) (pw ws (zs'.getD j 0).toNat) = false, ⟨⟨_, rfl⟩, nofun⟩, ?_, ?_⟩
       ·rintro l ρ d hl ed ⟨⟨v7, rfl⟩, ih2⟩
        have hl2 : l < zs'.length := by omega
        rw [itD_int hl] at ed
        subst ed
        have hgl := hgz l hl2
        have w1 := hw _ (pw_mem (show (zs'.getD k 0).toNat < ws.length by omega))
        have w2 := hw _ (pw_mem (show (zs'.getD l 0).toNat < ws.length by omega))
        walk_at "r"
        refine piteN (fun c8 => ?_) (fun c8 => ?_)
        ·walk_at "r"
         refine ⟨_, atI_str (k := (zs'.getD l 0).toNat) (by omega) (by omega), ?_⟩
         walk_at "r"
         refine ⟨_, atI_str (k := (zs'.getD k 0).toNat) (by omega) (by omega), ?_⟩
         have hE2 : EqOk (.lst ((spots (pw ws (zs'.getD l 0).toNat) (pw ws (zs'.getD k 0).toNat)).map .int)) (.lst []) := EqOk.of (Sh.lstI _) (Sh.lstI [])
         have hD2 : deq (.lst ((spots (pw ws (zs'.getD l 0).toNat) (pw ws (zs'.getD k 0).toNat)).map .int)) (.lst []) = decide (spots (pw ws (zs'.getD l 0).toNat) (pw ws (zs'.getD k 0).toNat) = []) := deq_ints _ []
         walk_at "r"
         refine piteNot (pite (fun c9 => ?_) (fun c9 => ?_))
         ·have c9 : deq (.lst ((spots (pw ws (zs'.getD l 0).toNat) (pw ws (zs'.getD k 0).toNat)).map .int)) (.lst []) = true := c9
          rw [hD2, decide_eq_true_eq, spots_nil] at c9
          exact ⟨⟨_, rfl⟩, fun j hj hne => (Nat.lt_succ_iff_lt_or_eq.mp hj).elim (fun h => ih2 j h hne) (fun e => by rw [e]; exact c9)⟩
         ·have c9 : deq (.lst ((spots (pw ws (zs'.getD l 0).toNat) (pw ws (zs'.getD k 0).toNat)).map .int)) (.lst []) = false := c9
          rw [hD2, decide_eq_false_iff_not, spots_nil, Bool.not_eq_false] at c9
          walk_at "r"
          rw [hbad k hk2 l hl2 c8 c9] at q
          exact q
        ·exact ⟨⟨_, rfl⟩, fun j hj hne => (Nat.lt_succ_iff_lt_or_eq.mp hj).elim (fun h => ih2 j h hne) (fun e => absurd c8 (by rw [← e]; exact hne))⟩
       ·rintro ρ ⟨⟨v7, rfl⟩, ih2⟩
        rw [hzm] at ih2
        exact ⟨⟨_, _, rfl⟩, fun i hi j hj hne => (Nat.lt_succ_iff_lt_or_eq.mp hi).elim (fun h => ih i h j hj hne) (fun e => by rw [e] at hne ⊢; exact ih2 j hj hne)⟩
      ·rintro ρ ⟨⟨v6, v7, rfl⟩, ih⟩
       rw [hzm] at ih
       walk_at "r"
       rw [(apart_iff hch).mpr ih] at q
       exact q
    ·have c5 : deq (.lst (ns'.map .int)) (.lst (rngD 0 (((ws.map D.str).length : Nat) : Int).toNat)) = false := c5
     rw [c5] at q
     walk_at "r"
     exact q
   ·have c2 : risB (.lst (O.map .int)) (((ws.map D.str).length : Nat) : Int) = false := c2
    rw [hlm] at c2
    rw [c2] at q
    walk_at "r"
    exact q
  ·have c1 : risB (.lst (zs.map .int)) (((ws.map D.str).length : Nat) : Int) = false := c1
   rw [hlm] at c1
   rw [c1] at q
   walk_at "r"
   exact q
theorem rd_law_right : ∀ ds Q, pc_law_right ds Q → RunP pp_law_right nn_law_right ds Q := fun ds Q h => by
 unfold pc_law_right at h
 split at h
 ·exact rd_law_right_ _ _ _ _ h
 ·exact h.elim
def pp_law_changed : PTS := (psSeq (psAsg (pCallR pc_law_take 0 (paCons (pFz (pCB fLen (paCons (pSl 1) paNil))) paNil)) (pgName 2)) (psSeq (psAsg (pCallR pc_law_take 0 (paCons (pFz (pC (.int 6))) paNil)) (pgName 3)) (psSeq (psAsg (pOp fIx (pFz (pLst (paCons (pFz (pOp fAdd (pFz (pOp fIx (pSl 1) (pSl 2))) (pFz (pC (.int 1))))) (paCons (pFz (pOp fSub (pFz (pOp fIx (pSl 1) (pSl 2))) (pFz (pC (.int 1))))) (paCons (pFz (pOp fSub (pFz (pCallR pc_law_take 0 (paCons (pFz (pC (.int 11))) paNil))) (pFz (pC (.int 1))))) paNil))))) (pFz (pOp fMod (pSl 3) (pFz (pC (.int 3)))))) (pgName 4)) (psSeq (psIf (pB (pOp fLt (pSl 3) (pFz (pC (.int 3))))) (psRet (pOp fAdd (pFz (pOp fAdd (pFz (pSlice (pSl 1) poNone (poSome (pVar 2)))) (pFz (pLst (paCons (pFz (pVar 4)) paNil))))) (pFz (pSlice (pSl 1) (poSome (pOp fAdd (pSl 2) (pFz (pC (.int 1))))) poNone)))) psNext) (psSeq (psIf (pB (pOp fEq2 (pSl 3) (pFz (pC (.int 3))))) (psRet (pOp fAdd (pFz (pSlice (pSl 1) poNone (poSome (pVar 2)))) (pFz (pSlice (pSl 1) (poSome (pOp fAdd (pSl 2) (pFz (pC (.int 1))))) poNone)))) psNext) (psSeq (psIf (pB (pOp fEq2 (pSl 3) (pFz (pC (.int 4))))) (psRet (pOp fAdd (pFz (pOp fAdd (pFz (pSlice (pSl 1) poNone (poSome (pVar 2)))) (pFz (pLst (paCons (pFz (pOp fIx (pSl 1) (pSl 2))) paNil))))) (pFz (pSlice (pSl 1) (poSome (pVar 2)) poNone)))) psNext) (psSeq (psAsg (pCallR pc_law_take 0 (paCons (pFz (pCB fLen (paCons (pSl 1) paNil))) paNil)) (pgName 5)) (psSeq (psAsg (pCB fList (paCons (pSl 1) paNil)) (pgName 6)) (psSeq (psSet2 6 (pOp fIx (pSl 6) (pSl 5)) (pOp fIx (pSl 6) (pSl 2)) (pVar 2) (pVar 5)) (psRet (pVar 6)))))))))))
set_option maxHeartbeats 4000000 in
theorem rd_law_changed_ (c0 c1 : Int) (ds : List D) (Q : PV → PV → Prop) (h : pc_law_changed (.own [.int c0, .int c1]) ([.lst ds]) Q) : RunR pp_law_changed nn_law_changed (.own [.int c0, .int c1]) ([.lst ds]) Q := by
 obtain ⟨zs, rfl, g, ⟨z0, z20, hzb⟩, q⟩ := h
 have hlm : (zs.map D.int).length = zs.length := List.length_map _
 have hget : ∀ k, k < zs.length → zs[k]? = some (zs.getD k 0) := fun k hk => by rw [List.getD_eq_getElem?_getD, List.getElem?_eq_getElem hk]; rfl
 walk_at "r"
 rintro at_ ⟨a, b⟩ hs ha0 ha1
 obtain ⟨k, rfl⟩ : ∃ k : Nat, at_ = (k : Int) := ⟨at_.toNat, by omega⟩
 have hk : k < zs.length := by omega
 have hzk := hzb _ (List.mem_of_getElem? (hget k hk))
 have hat : ∀ i : Int, i = (k : Int) → atI (zs.map D.int) i = some (.int (zs.getD k 0)) := fun i e => atI_of (j := k) (by rw [List.getElem?_map, hget k hk]; rfl) e
 have c1 : cutN (zs.map D.int) none (some (k : Int)) = (zs.take k).map D.int := by rw [cutN_to, List.map_take]
 have c2 : cutN (zs.map D.int) (some ((k : Int) + 1)) none = (zs.drop (k + 1)).map D.int := by rw [show ((k : Int) + 1) = ((k + 1 : Nat) : Int) from rfl, cutN_from, List.map_drop]
 have c3 : cutN (zs.map D.int) (some (k : Int)) none = (zs.drop k).map D.int := by rw [cutN_from, List.map_drop]
 have l1c : (cutN (zs.map D.int) none (some (k : Int))).length = k := by rw [c1, List.length_map, List.length_take]; omega
 have l2c : (cutN (zs.map D.int) (some ((k : Int) + 1)) none).length = zs.length - (k + 1) := by rw [c2, List.length_map, List.length_drop]
 have l3c : (cutN (zs.map D.int) (some (k : Int)) none).length = zs.length - k := by rw [c3, List.length_map, List.length_drop]
 have b1 : ∀ z ∈ zs.take k, -101 ≤ z ∧ z ≤ 101 := fun z h => by have := hzb z (List.mem_of_mem_take h); omega
 have b2 : ∀ j, ∀ z ∈ zs.drop j, -101 ≤ z ∧ z ≤ 101 := fun j z h => by have := hzb z (List.mem_of_mem_drop h); omega
 have mk : ∀ (n : Int) (j : Nat), -101 ≤ n ∧ n ≤ 101 → ∀ z ∈ zs.take k ++ [n] ++ zs.drop j, -101 ≤ z ∧ z ≤ 101 := fun n j hn z h => by
  rcases List.mem_append.mp h with h | h
  ·rcases List.mem_append.mp h with h | h
   ·exact b1 z h
   ·rw [List.mem_singleton.mp h]; exact hn
  ·exact b2 j z h
 walk_at "r"
 rintro way ⟨a, b⟩ hs hw0 hw1
 walk_at "r"
 refine ⟨_, hat _ rfl, ?_⟩
 walk_at "r"
 refine ⟨_, hat _ rfl, ?_⟩
 walk_at "r"
 rintro y ⟨a, b⟩ hs hy0 hy1
 obtain ⟨n, hn, hnat⟩ : ∃ n : Int, (-101 ≤ n ∧ n ≤ 101) ∧ atI [D.int (zs.getD k 0 + 1), .int (zs.getD k 0 - 1), .int (y - 1)] (way % 3) = some (.int n) := by
  have : way % 3 = 0 ∨ way % 3 = 1 ∨ way % 3 = 2 := by omega
  rcases this with e | e | e <;> rw [e]
  ·exact ⟨_, by omega, rfl⟩
  ·exact ⟨_, by omega, rfl⟩
  ·exact ⟨_, by omega, rfl⟩
 walk_at "r"
 refine ⟨_, hnat, ?_⟩
 walk_at "r"
 refine piteD (fun c => ?_) (fun c => ?_)
 ·walk_at "r"
  refine q _ (zs.take k ++ [n] ++ zs.drop (k + 1)) (a, b) hs ?_ (by rw [List.length_append, List.length_append, List.length_take, List.length_drop]; show _ + 1 + _ ≤ _; omega) (mk n (k + 1) hn)
  show D.lst (cutN (zs.map D.int) none (some (k : Int)) ++ [D.int n] ++ cutN (zs.map D.int) (some ((k : Int) + 1)) none) = _
  rw [c1, c2, List.map_append, List.map_append]; rfl
 walk_at "r"
 refine piteD (fun c => ?_) (fun c => ?_)
 ·walk_at "r"
  refine q _ (zs.take k ++ zs.drop (k + 1)) (a, b) hs ?_ (by rw [List.length_append, List.length_take, List.length_drop]; omega) (fun z h => (List.mem_append.mp h).elim (b1 z) (b2 _ z))
  show D.lst (cutN (zs.map D.int) none (some (k : Int)) ++ cutN (zs.map D.int) (some ((k : Int) + 1)) none) = _
  rw [c1, c2, List.map_append]
 walk_at "r"
 refine piteD (fun c => ?_) (fun c => ?_)
 ·walk_at "r"
  refine ⟨_, hat _ rfl, ?_⟩
  walk_at "r"
  refine q _ (zs.take k ++ [zs.getD k 0] ++ zs.drop k) (a, b) hs ?_ (by rw [List.length_append, List.length_append, List.length_take, List.length_drop]; show _ + 1 + _ ≤ _; omega) (mk _ k (by omega))
  show D.lst (cutN (zs.map D.int) none (some (k : Int)) ++ [D.int (zs.getD k 0)] ++ cutN (zs.map D.int) (some (k : Int)) none) = _
  rw [c1, c3, List.map_append, List.map_append]; rfl
 walk_at "r"
 rintro o ⟨a, b⟩ hs ho0 ho1
 obtain ⟨j, rfl⟩ : ∃ k : Nat, o = (k : Int) := ⟨o.toNat, by omega⟩
 have hj : j < zs.length := by omega
 have hatj : ∀ i : Int, i = (j : Int) → atI (zs.map D.int) i = some (.int (zs.getD j 0)) := fun i e => atI_of (j := j) (by rw [List.getElem?_map, hget j hj]; rfl) e
 walk_at "r"
 refine ⟨_, hatj _ rfl, ?_⟩
 walk_at "r"
 refine ⟨_, hat _ rfl, ?_⟩
 have hix : ∀ n i : Nat, i < n → ixN n (i : Int) = some i := fun n i h => by
  unfold ixN
  rw [if_pos (by omega)]
  simp; omega
 have hzj := hzb _ (List.mem_of_getElem? (hget j hj))
 walk_at "r"
 refine ⟨k, hix _ _ (by omega), ?_⟩
 walk_at "r"
 refine ⟨j, hix _ _ (by rw [List.length_set]; omega), ?_⟩
 walk_at "r"
 refine q _ ((zs.set k (zs.getD j 0)).set j (zs.getD k 0)) (a, b) hs ?_ (by rw [List.length_set, List.length_set]; omega) (fun z h => ?_)
 ·show D.lst (((zs.map D.int).set k (D.int (zs.getD j 0))).set j (D.int (zs.getD k 0))) = _
  rw [List.map_set, List.map_set]
 ·rcases List.mem_or_eq_of_mem_set h with h | h
  ·rcases List.mem_or_eq_of_mem_set h with h | h
   ·have := hzb z h; omega
   ·rw [h]; omega
  ·rw [h]; omega
theorem rd_law_changed : ∀ p ds Q, p.isOwn = true → pc_law_changed p ds Q → RunR pp_law_changed nn_law_changed p ds Q := fun p ds Q _ h => by
 unfold pc_law_changed at h
 split at h
 ·exact rd_law_changed_ _ _ _ _ h
 ·exact h.elim
def pp_law_changed_rows : PTS := (psSeq (psAsg (pCallR pc_law_take 0 (paCons (pFz (pCB fLen (paCons (pSl 1) paNil))) paNil)) (pgName 2)) (psSeq (psAsg (pCallR pc_law_take 0 (paCons (pFz (pCB fLen (paCons (pSl 1) paNil))) paNil)) (pgName 3)) (psSeq (psAsg (pCallR pc_law_take 0 (paCons (pFz (pC (.int 3))) paNil)) (pgName 4)) (psSeq (psIf (pB (pOp fEq2 (pSl 4) (pFz (pC (.int 0))))) (psRet (pOp fAdd (pFz (pSlice (pSl 1) poNone (poSome (pVar 2)))) (pFz (pSlice (pSl 1) (poSome (pOp fAdd (pSl 2) (pFz (pC (.int 1))))) poNone)))) psNext) (psSeq (psIf (pB (pOp fEq2 (pSl 4) (pFz (pC (.int 1))))) (psRet (pOp fAdd (pFz (pOp fAdd (pFz (pSlice (pSl 1) poNone (poSome (pVar 2)))) (pFz (pLst (paCons (pFz (pOp fIx (pSl 1) (pSl 2))) paNil))))) (pFz (pSlice (pSl 1) (poSome (pVar 2)) poNone)))) psNext) (psSeq (psAsg (pCB fList (paCons (pSl 1) paNil)) (pgName 5)) (psSeq (psSet2 5 (pOp fIx (pSl 5) (pSl 3)) (pOp fIx (pSl 5) (pSl 2)) (pVar 2) (pVar 3)) (psRet (pVar 5)))))))))
set_option maxHeartbeats 4000000 in
theorem rd_law_changed_rows_ (c0 c1 : Int) (ds : List D) (Q : PV → PV → Prop) (h : pc_law_changed_rows (.own [.int c0, .int c1]) ([.lst ds]) Q) : RunR pp_law_changed_rows nn_law_changed_rows (.own [.int c0, .int c1]) ([.lst ds]) Q := by
 obtain ⟨g, ⟨z0, z20⟩, q⟩ := h
 have hix : ∀ n i : Nat, i < n → ixN n (i : Int) = some i := fun n i h => by
  unfold ixN
  rw [if_pos (by omega)]
  simp; omega
 walk_at "r"
 rintro at_ ⟨a, b⟩ hs ha0 ha1
 obtain ⟨k, rfl⟩ : ∃ k : Nat, at_ = (k : Int) := ⟨at_.toNat, by omega⟩
 have hk : k < ds.length := by omega
 have hat : ∀ i : Int, i = (k : Int) → atI ds i = some (itD ds k) := fun i e => atI_of (j := k) (itD_get hk) e
 have c1 : cutN ds none (some (k : Int)) = ds.take k := cutN_to ..
 have c2 : cutN ds (some ((k : Int) + 1)) none = ds.drop (k + 1) := by rw [show ((k : Int) + 1) = ((k + 1 : Nat) : Int) from rfl, cutN_from]
 have c3 : cutN ds (some (k : Int)) none = ds.drop k := cutN_from ..
 have l1c : (cutN ds none (some (k : Int))).length = k := by rw [c1, List.length_take]; omega
 have l2c : (cutN ds (some ((k : Int) + 1)) none).length = ds.length - (k + 1) := by rw [c2, List.length_drop]
 have l3c : (cutN ds (some (k : Int)) none).length = ds.length - k := by rw [c3, List.length_drop]
 walk_at "r"
 rintro o ⟨a, b⟩ hs ho0 ho1
 obtain ⟨j, rfl⟩ : ∃ k : Nat, o = (k : Int) := ⟨o.toNat, by omega⟩
 have hj : j < ds.length := by omega
 have hatj : ∀ i : Int, i = (j : Int) → atI ds i = some (itD ds j) := fun i e => atI_of (j := j) (itD_get hj) e
 walk_at "r"
 rintro way ⟨a, b⟩ hs hw0 hw1
 walk_at "r"
 refine piteD (fun c => ?_) (fun c => ?_)
 ·walk_at "r"
  refine q _ (ds.take k ++ ds.drop (k + 1)) (a, b) hs ?_ (by rw [List.length_append, List.length_take, List.length_drop]; omega) (fun z h => (List.mem_append.mp h).elim List.mem_of_mem_take List.mem_of_mem_drop)
  show D.lst (cutN ds none (some (k : Int)) ++ cutN ds (some ((k : Int) + 1)) none) = _
  rw [c1, c2]
 walk_at "r"
 refine piteD (fun c => ?_) (fun c => ?_)
 ·walk_at "r"
  refine ⟨_, hat _ rfl, ?_⟩
  walk_at "r"
  refine q _ (ds.take k ++ [itD ds k] ++ ds.drop k) (a, b) hs ?_ (by rw [List.length_append, List.length_append, List.length_take, List.length_drop]; show _ + 1 + _ ≤ _; omega) (fun z h => ?_)
  ·show D.lst (cutN ds none (some (k : Int)) ++ [itD ds k] ++ cutN ds (some (k : Int)) none) = _
   rw [c1, c3]
  ·rcases List.mem_append.mp h with h | h
   ·rcases List.mem_append.mp h with h | h
    ·exact List.mem_of_mem_take h
    ·rw [List.mem_singleton.mp h]; exact itD_mem hk
   ·exact List.mem_of_mem_drop h
 walk_at "r"
 refine ⟨_, hatj _ rfl, ?_⟩
 walk_at "r"
 refine ⟨_, hat _ rfl, ?_⟩
 walk_at "r"
 refine ⟨k, hix _ _ (by omega), ?_⟩
 walk_at "r"
 refine ⟨j, hix _ _ (by rw [List.length_set]; omega), ?_⟩
 walk_at "r"
 refine q _ ((ds.set k (itD ds j)).set j (itD ds k)) (a, b) hs rfl (by rw [List.length_set, List.length_set]; omega) (fun z h => ?_)
 rcases List.mem_or_eq_of_mem_set h with h | h
 ·rcases List.mem_or_eq_of_mem_set h with h | h
  ·exact h
  ·rw [h]; exact itD_mem hj
 ·rw [h]; exact itD_mem hk
theorem rd_law_changed_rows : ∀ p ds Q, p.isOwn = true → pc_law_changed_rows p ds Q → RunR pp_law_changed_rows nn_law_changed_rows p ds Q := fun p ds Q _ h => by
 unfold pc_law_changed_rows at h
 split at h
 ·exact rd_law_changed_rows_ _ _ _ _ h
 ·exact h.elim
def pp_law_bent : PTS := (psSeq (psAsg (pCallR pc_law_take 0 (paCons (pFz (pC (.int 4))) paNil)) (pgName 3)) (psSeq (psIf (pAnd (pB (pOp fEq2 (pSl 3) (pFz (pC (.int 0))))) (pB (pOp fNe2 (pSl 2) (pFz (pLst paNil))))) (psSeq (psAsg (pCallR pc_law_take 0 (paCons (pFz (pCB fLen (paCons (pSl 2) paNil))) paNil)) (pgName 4)) (psSeq (psAsg (pCallR pc_law_take 0 (paCons (pFz (pC (.int 3))) paNil)) (pgName 5)) (psSeq (psAsg (pCB fList (paCons (pFz (pOp fIx (pSl 2) (pSl 4))) paNil)) (pgName 6)) (psSeq (psSetI 6 (pOp fIx (pFz (pLst (paCons (pFz (pOp fAdd (pFz (pOp fIx (pSl 6) (pSl 5))) (pFz (pC (.int 1))))) (paCons (pFz (pOp fSub (pFz (pOp fIx (pSl 6) (pSl 5))) (pFz (pC (.int 1))))) (paCons (pFz (pOp fSub (pFz (pCallR pc_law_take 0 (paCons (pFz (pC (.int 11))) paNil))) (pFz (pC (.int 1))))) paNil))))) (pFz (pCallR pc_law_take 0 (paCons (pFz (pC (.int 3))) paNil)))) (pVar 5)) (psRet (pLst (paCons (pFz (pVar 1)) (paCons (pFz (pOp fAdd (pFz (pOp fAdd (pFz (pSlice (pSl 2) poNone (poSome (pVar 4)))) (pFz (pLst (paCons (pFz (pVar 6)) paNil))))) (pFz (pSlice (pSl 2) (poSome (pOp fAdd (pSl 4) (pFz (pC (.int 1))))) poNone)))) paNil)))))))) psNext) (psSeq (psIf (pAnd (pB (pOp fEq2 (pSl 3) (pFz (pC (.int 1))))) (pB (pOp fNe2 (pSl 2) (pFz (pLst paNil))))) (psRet (pLst (paCons (pFz (pVar 1)) (paCons (pFz (pCallR pc_law_changed_rows 0 (paCons (pFz (pVar 2)) paNil))) paNil)))) psNext) (psSeq (psIf (pAnd (pB (pOp fEq2 (pSl 3) (pFz (pC (.int 2))))) (pB (pOp fNe2 (pSl 2) (pFz (pLst paNil))))) (psSeq (psAsg (pCallR pc_law_take 0 (paCons (pFz (pCB fLen (paCons (pSl 2) paNil))) paNil)) (pgName 4)) (psRet (pLst (paCons (pFz (pCB fSortU (paCons (pFz (pOp fAdd (pSl 1) (pFz (pLst (paCons (pFz (pOp fIx (pFz (pOp fIx (pSl 2) (pSl 4))) (pFz (pC (.int 0))))) paNil))))) paNil))) (paCons (pFz (pOp fAdd (pFz (pSlice (pSl 2) poNone (poSome (pVar 4)))) (pFz (pSlice (pSl 2) (poSome (pOp fAdd (pSl 4) (pFz (pC (.int 1))))) poNone)))) paNil))))) psNext) (psSeq (psIf (pB (pOp fEq2 (pSl 1) (pFz (pLst paNil)))) (psRet (pLst (paCons (pFz (pLst (paCons (pFz (pCallR pc_law_take 0 (paCons (pFz (pC (.int 3))) paNil))) paNil))) (paCons (pFz (pVar 2)) paNil)))) psNext) (psRet (pLst (paCons (pFz (pCallR pc_law_changed 0 (paCons (pFz (pVar 1)) paNil))) (paCons (pFz (pVar 2)) paNil)))))))))
set_option maxHeartbeats 4000000 in
theorem rd_law_bent_ (c0 c1 : Int) (ks ls : List D) (Q : PV → PV → Prop) (h : pc_law_bent (.own [.int c0, .int c1]) ([.lst ks, .lst ls]) Q) : RunR pp_law_bent nn_law_bent (.own [.int c0, .int c1]) ([.lst ks, .lst ls]) Q := by
 obtain ⟨zs, rfl, L, rfl, g, ⟨hz20, hL20⟩, hzb, hLb, q⟩ := h
 have hzm : (zs.map D.int).length = zs.length := List.length_map _
 have hLm : (rowsD L).length = L.length := List.length_map _
 have hz1 : ∀ z ∈ zs, -101 ≤ z ∧ z ≤ 101 := fun z h => by have := hzb z h; omega
 have hT : Tri L := fun r hr => by
  obtain ⟨a, b, c, e, h⟩ := hLb r hr
  exact ⟨a, b, c, e, fun z hz => by have := h z hz; omega⟩
 have hLi : ∀ k, k < L.length → itD (rowsD L) k = .lst ((L.getD k []).map .int) := fun k hk => itD_of (by unfold rowsD; rw [List.getElem?_map, List.getD_eq_getElem?_getD, List.getElem?_eq_getElem hk]; rfl)
 have hLg : ∀ k, k < L.length → L.getD k [] ∈ L := fun k hk => List.mem_of_getElem? (show L[k]? = some (L.getD k []) by rw [List.getD_eq_getElem?_getD, List.getElem?_eq_getElem hk]; rfl)
 have hat : ∀ (k : Nat), k < L.length → ∀ i : Int, i = (k : Int) → atI (rowsD L) i = some (.lst ((L.getD k []).map .int)) := fun k hk i e => atI_of (j := k) (by rw [← hLi k hk]; exact itD_get (by omega)) e
 have hE : EqOk (.lst (rowsD L)) (.lst []) := EqOk.of (rowsD_fl L) (Sh.lstI [])
 have hD : deq (.lst (rowsD L)) (.lst []) = decide (L = []) := by
  rw [deq_nilD]
  cases L with
  | nil => rfl
  | cons r t => rw [decide_eq_false (by simp [rowsD]), decide_eq_false (by simp)]
 have hE2 : EqOk (.lst (zs.map .int)) (.lst []) := EqOk.of (Sh.lstI _) (Sh.lstI [])
 have hD2 : deq (.lst (zs.map .int)) (.lst []) = decide (zs = []) := deq_ints zs []
 walk_at "r"
 rintro way ⟨a, b⟩ hs hw0 hw1
 have hways : way = 0 ∨ way = 1 ∨ way = 2 ∨ way = 3 := by omega
 by_cases hL : L = []
 ·have hDe : deq (.lst (rowsD L)) (.lst []) = true := by rw [hD, decide_eq_true hL]
  rcases hways with rfl | rfl | rfl | rfl
  ·walk_at "r"
   refine pite (fun c => ?_) (fun c => ?_)
   ·have c : deq (.lst (zs.map .int)) (.lst []) = true := c
    walk_at "r"
    rintro y ⟨a, b⟩ hs hy0 hy1
    walk_at "r"
    exact q [y] L (a, b) hs ⟨by show 1 ≤ 21; decide, by omega⟩ (fun z h => by rw [List.mem_singleton.mp h]; omega) hT
   ·have c : deq (.lst (zs.map .int)) (.lst []) = false := c
    rw [hD2, decide_eq_false_iff_not] at c
    have hz0 : 0 < zs.length := List.length_pos_iff.mpr c
    have hcc : 0 < zs.length ∧ zs.length ≤ 20 ∧ ∀ z ∈ zs, -100 ≤ z ∧ z ≤ 100 := ⟨hz0, hz20, hzb⟩
    walk_at "r"
    rintro p ys ⟨a, b⟩ hs hp hyl hyb
    walk_at "r"
    rw [hp]
    exact q ys L (a, b) hs ⟨hyl, by omega⟩ hyb hT
  ·walk_at "r"
   refine pite (fun c => ?_) (fun c => ?_)
   ·have c : deq (.lst (zs.map .int)) (.lst []) = true := c
    walk_at "r"
    rintro y ⟨a, b⟩ hs hy0 hy1
    walk_at "r"
    exact q [y] L (a, b) hs ⟨by show 1 ≤ 21; decide, by omega⟩ (fun z h => by rw [List.mem_singleton.mp h]; omega) hT
   ·have c : deq (.lst (zs.map .int)) (.lst []) = false := c
    rw [hD2, decide_eq_false_iff_not] at c
    have hz0 : 0 < zs.length := List.length_pos_iff.mpr c
    have hcc : 0 < zs.length ∧ zs.length ≤ 20 ∧ ∀ z ∈ zs, -100 ≤ z ∧ z ≤ 100 := ⟨hz0, hz20, hzb⟩
    walk_at "r"
    rintro p ys ⟨a, b⟩ hs hp hyl hyb
    walk_at "r"
    rw [hp]
    exact q ys L (a, b) hs ⟨hyl, by omega⟩ hyb hT
  ·walk_at "r"
   refine pite (fun c => ?_) (fun c => ?_)
   ·have c : deq (.lst (zs.map .int)) (.lst []) = true := c
    walk_at "r"
    rintro y ⟨a, b⟩ hs hy0 hy1
    walk_at "r"
    exact q [y] L (a, b) hs ⟨by show 1 ≤ 21; decide, by omega⟩ (fun z h => by rw [List.mem_singleton.mp h]; omega) hT
   ·have c : deq (.lst (zs.map .int)) (.lst []) = false := c
    rw [hD2, decide_eq_false_iff_not] at c
    have hz0 : 0 < zs.length := List.length_pos_iff.mpr c
    have hcc : 0 < zs.length ∧ zs.length ≤ 20 ∧ ∀ z ∈ zs, -100 ≤ z ∧ z ≤ 100 := ⟨hz0, hz20, hzb⟩
    walk_at "r"
    rintro p ys ⟨a, b⟩ hs hp hyl hyb
    walk_at "r"
    rw [hp]
    exact q ys L (a, b) hs ⟨hyl, by omega⟩ hyb hT
  ·walk_at "r"
   refine pite (fun c => ?_) (fun c => ?_)
   ·have c : deq (.lst (zs.map .int)) (.lst []) = true := c
    walk_at "r"
    rintro y ⟨a, b⟩ hs hy0 hy1
    walk_at "r"
    exact q [y] L (a, b) hs ⟨by show 1 ≤ 21; decide, by omega⟩ (fun z h => by rw [List.mem_singleton.mp h]; omega) hT
   ·have c : deq (.lst (zs.map .int)) (.lst []) = false := c
    rw [hD2, decide_eq_false_iff_not] at c
    have hz0 : 0 < zs.length := List.length_pos_iff.mpr c
    have hcc : 0 < zs.length ∧ zs.length ≤ 20 ∧ ∀ z ∈ zs, -100 ≤ z ∧ z ≤ 100 := ⟨hz0, hz20, hzb⟩
    walk_at "r"
    rintro p ys ⟨a, b⟩ hs hp hyl hyb
    walk_at "r"
    rw [hp]
    exact q ys L (a, b) hs ⟨hyl, by omega⟩ hyb hT
 ·have hDe : deq (.lst (rowsD L)) (.lst []) = false := by rw [hD, decide_eq_false hL]
  have hL0 : 0 < L.length := List.length_pos_iff.mpr hL
  rcases hways with rfl | rfl | rfl | rfl
  ·walk_at "r"
   rintro at_ ⟨a, b⟩ hs ha0 ha1
   obtain ⟨k, rfl⟩ : ∃ k : Nat, at_ = (k : Int) := ⟨at_.toNat, by omega⟩
   have hk : k < L.length := by omega
   obtain ⟨r0, r1, r2, hr, hrb⟩ := hLb _ (hLg k hk)
   have hatk := hat k hk
   rw [hr] at hatk
   have hr0 := hrb r0 (by rw [hr]; exact List.mem_cons_self ..)
   have hr1 := hrb r1 (by rw [hr]; exact List.mem_cons_of_mem _ (List.mem_cons_self ..))
   have hr2 := hrb r2 (by rw [hr]; exact List.mem_cons_of_mem _ (List.mem_cons_of_mem _ (List.mem_cons_self ..)))
   have c1 : cutN (rowsD L) none (some (k : Int)) = rowsD (L.take k) := by unfold rowsD; rw [cutN_to, List.map_take]
   have c2 : cutN (rowsD L) (some ((k : Int) + 1)) none = rowsD (L.drop (k + 1)) := by unfold rowsD; rw [show ((k : Int) + 1) = ((k + 1 : Nat) : Int) from rfl, cutN_from, List.map_drop]
   have l1c : (cutN (rowsD L) none (some (k : Int))).length = k := by rw [c1]; unfold rowsD; rw [List.length_map, List.length_take]; omega
   have l2c : (cutN (rowsD L) (some ((k : Int) + 1)) none).length = L.length - (k + 1) := by rw [c2]; unfold rowsD; rw [List.length_map, List.length_drop]
   have e3 : ∀ r : List Int, cutN (rowsD L) none (some (k : Int)) ++ [D.lst (r.map .int)] ++ cutN (rowsD L) (some ((k : Int) + 1)) none = rowsD (L.take k ++ [r] ++ L.drop (k + 1)) := fun r => by rw [c1, c2]; unfold rowsD; rw [List.map_append, List.map_append]; rfl
   have mkT : ∀ r : List Int, (∃ a b c : Int, r = [a, b, c] ∧ ∀ z ∈ r, -101 ≤ z ∧ z ≤ 101) → Tri (L.take k ++ [r] ++ L.drop (k + 1)) := fun r hr x hx => by
    rcases List.mem_append.mp hx with h | h
    ·rcases List.mem_append.mp h with h | h
     ·exact hT x (List.mem_of_mem_take h)
     ·rw [List.mem_singleton.mp h]; exact hr
    ·exact hT x (List.mem_of_mem_drop h)
   walk_at "r"
   rintro pl ⟨a, b⟩ hs hp0 hp1
   have hpl : pl = 0 ∨ pl = 1 ∨ pl = 2 := by omega
   rcases hpl with rfl | rfl | rfl
   ·walk_at "r"
    refine ⟨_, hatk _ rfl, ?_⟩
    walk_at "r"
    rintro y ⟨a, b⟩ hs hy0 hy1
    walk_at "r"
    rintro m ⟨a, b⟩ hs hm0 hm1
    obtain ⟨n, hn, hnat⟩ : ∃ n : Int, (-101 ≤ n ∧ n ≤ 101) ∧ atI [D.int (r0 + 1), .int (r0 - 1), .int (y - 1)] m = some (.int n) := by
     have : m = 0 ∨ m = 1 ∨ m = 2 := by omega
     rcases this with rfl | rfl | rfl
     ·exact ⟨_, by omega, rfl⟩
     ·exact ⟨_, by omega, rfl⟩
     ·exact ⟨_, by omega, rfl⟩
    walk_at "r"
    refine ⟨_, hnat, ?_⟩
    walk_at "r"
    have hfin := q zs (L.take k ++ [[n, r1, r2]] ++ L.drop (k + 1)) (a, b) hs ⟨by omega, by rw [List.length_append, List.length_append, List.length_take, List.length_drop]; show _ + 1 + _ ≤ _; omega⟩ hz1 (mkT [n, r1, r2] ⟨_, _, _, rfl, fun z hz => by
     simp only [List.mem_cons, List.not_mem_nil, or_false] at hz
     rcases hz with e | e | e <;> rw [e] <;> omega⟩)
    rw [← e3 [n, r1, r2]] at hfin
    exact hfin
   ·walk_at "r"
    refine ⟨_, hatk _ rfl, ?_⟩
    walk_at "r"
    rintro y ⟨a, b⟩ hs hy0 hy1
    walk_at "r"
    rintro m ⟨a, b⟩ hs hm0 hm1
    obtain ⟨n, hn, hnat⟩ : ∃ n : Int, (-101 ≤ n ∧ n ≤ 101) ∧ atI [D.int (r1 + 1), .int (r1 - 1), .int (y - 1)] m = some (.int n) := by
     have : m = 0 ∨ m = 1 ∨ m = 2 := by omega
     rcases this with rfl | rfl | rfl
     ·exact ⟨_, by omega, rfl⟩
     ·exact ⟨_, by omega, rfl⟩
     ·exact ⟨_, by omega, rfl⟩
    walk_at "r"
    refine ⟨_, hnat, ?_⟩
    walk_at "r"
    have hfin := q zs (L.take k ++ [[r0, n, r2]] ++ L.drop (k + 1)) (a, b) hs ⟨by omega, by rw [List.length_append, List.length_append, List.length_take, List.length_drop]; show _ + 1 + _ ≤ _; omega⟩ hz1 (mkT [r0, n, r2] ⟨_, _, _, rfl, fun z hz => by
     simp only [List.mem_cons, List.not_mem_nil, or_false] at hz
     rcases hz with e | e | e <;> rw [e] <;> omega⟩)
    rw [← e3 [r0, n, r2]] at hfin
    exact hfin
   ·walk_at "r"
    refine ⟨_, hatk _ rfl, ?_⟩
    walk_at "r"
    rintro y ⟨a, b⟩ hs hy0 hy1
    walk_at "r"
    rintro m ⟨a, b⟩ hs hm0 hm1
    obtain ⟨n, hn, hnat⟩ : ∃ n : Int, (-101 ≤ n ∧ n ≤ 101) ∧ atI [D.int (r2 + 1), .int (r2 - 1), .int (y - 1)] m = some (.int n) := by
     have : m = 0 ∨ m = 1 ∨ m = 2 := by omega
     rcases this with rfl | rfl | rfl
     ·exact ⟨_, by omega, rfl⟩
     ·exact ⟨_, by omega, rfl⟩
     ·exact ⟨_, by omega, rfl⟩
    walk_at "r"
    refine ⟨_, hnat, ?_⟩
    walk_at "r"
    have hfin := q zs (L.take k ++ [[r0, r1, n]] ++ L.drop (k + 1)) (a, b) hs ⟨by omega, by rw [List.length_append, List.length_append, List.length_take, List.length_drop]; show _ + 1 + _ ≤ _; omega⟩ hz1 (mkT [r0, r1, n] ⟨_, _, _, rfl, fun z hz => by
     simp only [List.mem_cons, List.not_mem_nil, or_false] at hz
     rcases hz with e | e | e <;> rw [e] <;> omega⟩)
    rw [← e3 [r0, r1, n]] at hfin
    exact hfin
  ·have hlc : 0 < (rowsD L).length ∧ (rowsD L).length ≤ 20 := ⟨by rw [hLm]; exact List.length_pos_iff.mpr hL, by omega⟩
   walk_at "r"
   rintro p es ⟨a, b⟩ hs hp hel hem
   walk_at "r"
   rw [hp]
   obtain ⟨M, hM, hMt⟩ : ∃ M : List (List Int), es = rowsD M ∧ Tri M := by
    clear hp hel
    induction es with
    | nil => exact ⟨[], rfl, nofun⟩
    | cons e t ih =>
     obtain ⟨M, hM, hMt⟩ := ih fun x hx => hem x (List.mem_cons_of_mem _ hx)
     obtain ⟨r, hr, e2⟩ := List.mem_map.mp (hem e (List.mem_cons_self ..))
     exact ⟨r :: M, by rw [hM, ← e2]; rfl, fun x hx => (List.mem_cons.mp hx).elim (fun e => by rw [e]; exact hT r hr) (hMt x)⟩
   subst hM
   exact q zs M (a, b) hs ⟨by omega, by rw [show (rowsD M).length = M.length from List.length_map _] at hel; exact hel⟩ hz1 hMt
  ·walk_at "r"
   rintro at_ ⟨a, b⟩ hs ha0 ha1
   obtain ⟨k, rfl⟩ : ∃ k : Nat, at_ = (k : Int) := ⟨at_.toNat, by omega⟩
   have hk : k < L.length := by omega
   obtain ⟨r0, r1, r2, hr, hrb⟩ := hLb _ (hLg k hk)
   have hatk := hat k hk
   rw [hr] at hatk
   have hr0 := hrb r0 (by rw [hr]; exact List.mem_cons_self ..)
   have c1 : cutN (rowsD L) none (some (k : Int)) = rowsD (L.take k) := by unfold rowsD; rw [cutN_to, List.map_take]
   have c2 : cutN (rowsD L) (some ((k : Int) + 1)) none = rowsD (L.drop (k + 1)) := by unfold rowsD; rw [show ((k : Int) + 1) = ((k + 1 : Nat) : Int) from rfl, cutN_from, List.map_drop]
   have l1c : (cutN (rowsD L) none (some (k : Int))).length = k := by rw [c1]; unfold rowsD; rw [List.length_map, List.length_take]; omega
   have l2c : (cutN (rowsD L) (some ((k : Int) + 1)) none).length = L.length - (k + 1) := by rw [c2]; unfold rowsD; rw [List.length_map, List.length_drop]
   walk_at "r"
   refine ⟨_, hatk _ rfl, ?_⟩
   walk_at "r"
   refine ⟨zs ++ [r0], by rw [List.map_append]; rfl, by rw [List.length_append]; show _ + 1 < _; omega, fun ns' hp hsr => ?_⟩
   walk_at "r"
   have e3 : cutN (rowsD L) none (some (k : Int)) ++ cutN (rowsD L) (some ((k : Int) + 1)) none = rowsD (L.take k ++ L.drop (k + 1)) := by rw [c1, c2]; unfold rowsD; rw [List.map_append]
   have hfin := q ns' (L.take k ++ L.drop (k + 1)) (a, b) hs ⟨by rw [hp.length_eq, List.length_append]; show _ + 1 ≤ _; omega, by rw [List.length_append, List.length_take, List.length_drop]; omega⟩ (fun z h => by
    have := hp.mem_iff.mp h
    rcases List.mem_append.mp this with h | h
    ·exact hz1 z h
    ·rw [List.mem_singleton.mp h]; omega) (fun r h => (List.mem_append.mp h).elim (fun h => hT r (List.mem_of_mem_take h)) (fun h => hT r (List.mem_of_mem_drop h)))
   rw [← e3] at hfin
   exact hfin
  ·walk_at "r"
   refine pite (fun c => ?_) (fun c => ?_)
   ·have c : deq (.lst (zs.map .int)) (.lst []) = true := c
    walk_at "r"
    rintro y ⟨a, b⟩ hs hy0 hy1
    walk_at "r"
    exact q [y] L (a, b) hs ⟨by show 1 ≤ 21; decide, by omega⟩ (fun z h => by rw [List.mem_singleton.mp h]; omega) hT
   ·have c : deq (.lst (zs.map .int)) (.lst []) = false := c
    rw [hD2, decide_eq_false_iff_not] at c
    have hz0 : 0 < zs.length := List.length_pos_iff.mpr c
    have hcc : 0 < zs.length ∧ zs.length ≤ 20 ∧ ∀ z ∈ zs, -100 ≤ z ∧ z ≤ 100 := ⟨hz0, hz20, hzb⟩
    walk_at "r"
    rintro p ys ⟨a, b⟩ hs hp hyl hyb
    walk_at "r"
    rw [hp]
    exact q ys L (a, b) hs ⟨hyl, by omega⟩ hyb hT
theorem rd_law_bent : ∀ p ds Q, p.isOwn = true → pc_law_bent p ds Q → RunR pp_law_bent nn_law_bent p ds Q := fun p ds Q _ h => by
 unfold pc_law_bent at h
 split at h
 ·exact rd_law_bent_ _ _ _ _ _ h
 ·exact h.elim
def pp_law_paper : PTS := (psSeq (psAsg (pLst paNil) (pgName 2)) (psSeq (psFor (piAny (pCallP pc_law_roots (paCons (pFz (pVar 1)) paNil))) (pgName 3) (psSeq (psAsg (pComp [none, some 3, some 1] (piR1 (paCons (pFz (pCB fLen (paCons (pSl 1) paNil))) paNil)) (pgName 0) (pB (pOp fEq2 (pFz (pOp fIx (pSl 2) (pSl 0))) (pSl 1))) (pVar 0)) (pgName 4)) (psDrop (pApp 2 (pOp fIx (pSl 4) (pFz (pCallR pc_law_take 0 (paCons (pFz (pCB fLen (paCons (pSl 4) paNil))) paNil)))))))) (psSeq (psAsg (pCB fSortU (paCons (pSl 2) paNil)) (pgName 2)) (psSeq (psAsg (pLst paNil) (pgName 5)) (psSeq (psFor (piR1 (paCons (pFz (pCB fLen (paCons (pSl 1) paNil))) paNil)) (pgName 6) (psIf (pB (pOp (fIn true) (pSl 6) (pSl 2))) (psSeq (psAsg (pComp [none, some 1, some 6] (piAny (pVar 2)) (pgName 0) (pB (pOp fNe2 (pFz (pCallP pc_law_stands (paCons (pFz (pOp fIx (pSl 1) (pSl 0))) (paCons (pFz (pOp fIx (pSl 1) (pSl 2))) paNil)))) (pFz (pLst paNil)))) (pVar 0)) (pgName 4)) (psSeq (psAsg (pOp fIx (pSl 4) (pFz (pCallR pc_law_take 0 (paCons (pFz (pCB fLen (paCons (pSl 4) paNil))) paNil)))) (pgName 7)) (psSeq (psAsg (pCallP pc_law_stands (paCons (pFz (pOp fIx (pSl 1) (pSl 7))) (paCons (pFz (pOp fIx (pSl 1) (pSl 6))) paNil))) (pgName 8)) (psDrop (pApp 5 (pLst (paCons (pFz (pVar 6)) (paCons (pFz (pVar 7)) (paCons (pFz (pOp fIx (pSl 8) (pFz (pCallR pc_law_take 0 (paCons (pFz (pCB fLen (paCons (pSl 8) paNil))) paNil))))) paNil))))))))) psNext)) (psRet (pLst (paCons (pFz (pVar 2)) (paCons (pFz (pVar 5)) paNil)))))))))
set_option maxHeartbeats 4000000 in
theorem rd_law_paper_ (c0 c1 : Int) (ds : List D) (Q : PV → PV → Prop) (h : pc_law_paper (.own [.int c0, .int c1]) ([.lst ds]) Q) : RunR pp_law_paper nn_law_paper (.own [.int c0, .int c1]) ([.lst ds]) Q := by
 obtain ⟨ws, rfl, g, ⟨hn, hw⟩, q⟩ := h
 have hlm : (ws.map D.str).length = ws.length := List.length_map _
 have hpk := paper_ok (c0, c1) hn (fun w h => (hw w h).1)
 unfold leftP at q hpk
 have ekp : keptP ws (c0, c1) = srtI (keepN ws (rootsN ws ws.length) (c0, c1) (rootsN ws ws.length).length).1 := rfl
 obtain ⟨r1, r2, r3⟩ := rootsN_ok ws ws.length (Nat.le_refl _)
 rw [List.take_length] at r3
 have hv : ∀ v ∈ rootsN ws ws.length, v ∈ ws := fun v h => ((r3 v).mp h).1
 have hko := keepN_ok (s := (c0, c1)) hv
 have hholds : ∀ k, k < ws.length → holdN ws (keptP ws (c0, c1)) k ≠ [] := fun k hk e => by
  obtain ⟨_, k2, _⟩ := hko _ (Nat.le_refl _)
  rw [List.take_length] at k2
  obtain ⟨o, h1, h2, h3⟩ := ex_root (fun w h => (hw w h).1) _ _ (pw_mem hk) (Nat.le_refl _)
  have h4 := (r3 o).mpr ⟨h1, h2⟩
  rw [← k2] at h4
  obtain ⟨z, hz1, rfl⟩ := List.mem_map.mp h4
  have : z ∈ holdN ws (keptP ws (c0, c1)) k := List.mem_filter.mpr ⟨(srtI_perm _).mem_iff.mpr hz1, h3⟩
  rw [e] at this; cases this
 walk_at "r"
 generalize hvs : rootsN ws ws.length = vs at *
 have hvm : (vs.map D.str).length = vs.length := List.length_map _
 refine ⟨fun k ρ => ∃ (v3 v4 : Option PV), ρ = [some (stv (keepN ws vs (c0, c1) k).2), some (.dat (.lst (ws.map .str))), some (.own ((keepN ws vs (c0, c1) k).1.map .int)), v3, v4, none, none, none, none] ∧ SOk (keepN ws vs (c0, c1) k).2, ⟨none, none, rfl, g⟩, ?_, ?_⟩
 ·rintro k ρ d hk ed ⟨v3, v4, rfl, hs⟩
  have hk2 : k < vs.length := by omega
  have hkl := (hko k (by omega)).1
  rw [itD_str hk] at ed
  subst ed
  have hnx : keepN ws vs (c0, c1) (k + 1) = ((keepN ws vs (c0, c1) k).1 ++ [(idxs ws (pw vs k)).getD (tkS (keepN ws vs (c0, c1) k).2 ((idxs ws (pw vs k)).length : Int)).1.toNat 0], (tkS (keepN ws vs (c0, c1) k).2 ((idxs ws (pw vs k)).length : Int)).2) := rfl
  have hne := idxs_ne (hv _ (pw_mem hk2))
  have hil : (idxs ws (pw vs k)).length ≤ ws.length := by
   unfold idxs
   rw [List.length_map]
   exact Nat.le_trans (List.length_filter_le ..) (by rw [List.length_range]; omega)
  have hi0 : 0 < (idxs ws (pw vs k)).length := List.length_pos_iff.mpr hne
  generalize keepN ws vs (c0, c1) k = p at *
  obtain ⟨ks, a, b⟩ := p
  have hkl : ks.length = k := hkl
  have hs : SOk (a, b) := hs
  have hkm : (ks.map D.int).length = ks.length := List.length_map _
  walk_at "r"
  refine cfm (fun τ => ∃ v, τ = [v, some (.dat (.str (pw vs k))), some (.dat (.lst (ws.map .str)))]) (fun j => if decide (pw ws j = pw vs k) = true then some (.int (j : Int)) else none) ?_ ?_ ?_
  ·exact ⟨_, rfl⟩
  ·rintro j τ _ hj rfl ⟨v, rfl⟩ K1 K2 k1 k2
   have hj : j < ws.length := by
    have : j < (((ws.map D.str).length : Nat) : Int).toNat := hj
    omega
   walk_at "r"
   refine ⟨_, atI_str hj rfl, ?_⟩
   walk_at "r"
   refine piteD (fun c => ?_) (fun c => ?_)
   ·walk_at "r"
    exact k1 _ _ (by rw [if_pos (decide_eq_true c)]; rfl) ⟨_, rfl⟩
   ·exact k2 _ (by rw [if_neg (by rw [decide_eq_false c]; decide)]) ⟨_, rfl⟩
  ·rintro τ ⟨v, rfl⟩
   have ei : (List.range (((ws.map D.str).length : Nat) : Int).toNat).filterMap (fun j => if decide (pw ws j = pw vs k) = true then some (D.int (j : Int)) else none) = (idxs ws (pw vs k)).map D.int := by
    rw [fm_intN (fun j => decide (pw ws j = pw vs k)), hlm, Int.toNat_natCast]; rfl
   have him : ((idxs ws (pw vs k)).map D.int).length = (idxs ws (pw vs k)).length := List.length_map _
   rw [ei]
   walk_at "r"
   rintro x ⟨a2, b2⟩ hs2 hx0 ⟨hx1, hx2⟩
   rw [him] at hx2
   have hx3 : x.toNat < (idxs ws (pw vs k)).length := by omega
   walk_at "r"
   refine ⟨_, atI_ints (k := x.toNat) hx3 (by omega), ?_⟩
   walk_at "r"
   rw [hx2] at hnx
   exact ⟨_, _, by rw [hnx, List.map_append]; rfl, by rw [hnx]; exact hs2⟩
 ·rintro ρ ⟨v3, v4, rfl, hs⟩
  rw [hvm] at hs ⊢
  obtain ⟨hkl, _, hkb⟩ := hko _ (Nat.le_refl _)
  generalize keepN ws vs (c0, c1) vs.length = p at *
  obtain ⟨ks, a, b⟩ := p
  have hkl : ks.length = vs.length := hkl
  have hs : SOk (a, b) := hs
  walk_at "r"
  intro ns' hp hsr
  have hp : ns'.Perm ks := hp
  have en : ns' = keptP ws (c0, c1) := (srtI_of hp hsr).trans ekp.symm
  subst en
  generalize hzs : keptP ws (c0, c1) = zs at *
  have hzl : zs.length ≤ 20 := hpk.lz
  have hzb := hpk.bz
  have hzm : (zs.map D.int).length = zs.length := List.length_map _
  have hfl := fl_ints zs
  have hlo := leftN_ok (s := (a, b)) ⟨hn, fun w h => (hw w h).1⟩ (fun z h => by have := hzb z h; omega) hholds
  walk_at "r"
  refine ⟨fun k ρ => ∃ (v2 : PV) (v3 v4 v6 v7 v8 : Option PV), ρ = [some (stv (leftN ws zs (a, b) k).2), some (.dat (.lst (ws.map .str))), some v2, v3, v4, some (.own (rowsD (leftN ws zs (a, b) k).1)), v6, v7, v8] ∧ SOk (leftN ws zs (a, b) k).2 ∧ (v2 = .own (zs.map .int) ∨ v2 = .dat (.lst (zs.map .int))), ⟨_, _, _, none, none, none, rfl, hs, .inl rfl⟩, ?_, ?_⟩
  ·rintro k ρ _ hk rfl ⟨v2, v3, v4, v6, v7, v8, rfl, hs, h2⟩
   have hk : k < ws.length := by
    have : k < (((ws.map D.str).length : Nat) : Int).toNat := hk
    omega
   have hll := (hlo k (by omega)).1
   have hnx : leftN ws zs (a, b) (k + 1) = if (k : Int) ∈ zs then leftN ws zs (a, b) k else
    ((leftN ws zs (a, b) k).1 ++ [[(k : Int), (holdN ws zs k).getD (tkS (leftN ws zs (a, b) k).2 ((holdN ws zs k).length : Int)).1.toNat 0, (spots (pw ws ((holdN ws zs k).getD (tkS (leftN ws zs (a, b) k).2 ((holdN ws zs k).length : Int)).1.toNat 0).toNat) (pw ws k)).getD (tkS (tkS (leftN ws zs (a, b) k).2 ((holdN ws zs k).length : Int)).2 ((spots (pw ws ((holdN ws zs k).getD (tkS (leftN ws zs (a, b) k).2 ((holdN ws zs k).length : Int)).1.toNat 0).toNat) (pw ws k)).length : Int)).1.toNat 0]],
     (tkS (tkS (leftN ws zs (a, b) k).2 ((holdN ws zs k).length : Int)).2 ((spots (pw ws ((holdN ws zs k).getD (tkS (leftN ws zs (a, b) k).2 ((holdN ws zs k).length : Int)).1.toNat 0).toNat) (pw ws k)).length : Int)).2) := rfl
   have hwk := (hw _ (pw_mem hk)).1
   have hh := hholds k hk
   have hh0 : 0 < (holdN ws zs k).length := List.length_pos_iff.mpr hh
   have hhl : (holdN ws zs k).length ≤ zs.length := List.length_filter_le ..
   have hhm : ((holdN ws zs k).map D.int).length = (holdN ws zs k).length := List.length_map _
   have hhb : ∀ j ∈ holdN ws zs k, (0 ≤ j ∧ j < (ws.length : Int)) ∧ subB (pw ws k) (pw ws j.toNat) = true := fun j hj => ⟨hzb j (List.mem_filter.mp hj).1, (List.mem_filter.mp hj).2⟩
   have hin := inD_int (k : Int) zs
   have eh : (List.range (zs.map D.int).length).filterMap (fun j => if subB (pw ws k) (pw ws (zs.getD j 0).toNat) = true then some (D.int (zs.getD j 0)) else none) = (holdN ws zs k).map D.int := by
    rw [hzm]
    unfold holdN
    exact fm_getD (fun z => subB (pw ws k) (pw ws z.toNat)) zs
   generalize leftN ws zs (a, b) k = p at *
   obtain ⟨L, a1, b1⟩ := p
   have hll : L.length ≤ k := hll
   have hs : SOk (a1, b1) := hs
   have hLm : (rowsD L).length = L.length := List.length_map _
   clear hlo hpk q hko
   rcases h2 with rfl | rfl <;>
   (walk_at "r"
    refine piteNot (pite (fun c => ?_) (fun c => ?_))
    ·have c : inD (.int (k : Int)) (zs.map D.int) = true := c
     rw [hin, decide_eq_true_eq] at c
     rw [if_pos c] at hnx
     exact ⟨_, _, _, _, _, _, by rw [hnx]; rfl, by rw [hnx]; exact hs, by first | exact .inl rfl | exact .inr rfl⟩
    ·have c : inD (.int (k : Int)) (zs.map D.int) = false := c
     rw [hin, decide_eq_false_iff_not] at c
     rw [if_neg c] at hnx
     walk_at "r"
     refine cfm (fun τ => ∃ v, τ = [v, some (.dat (.lst (ws.map .str))), some (.dat (.int (k : Int)))]) (fun j => if subB (pw ws k) (pw ws (zs.getD j 0).toNat) = true then some (D.int (zs.getD j 0)) else none) ?_ ?_ ?_
     ·exact ⟨_, rfl⟩
     ·rintro j τ d hj ed ⟨v, rfl⟩ K1 K2 k1 k2
      have hj2 : j < zs.length := by
       have : j < (zs.map D.int).length := hj
       omega
      have hzj := hzb _ (getD_mem hj2)
      rw [itD_int hj] at ed
      subst ed
      have hwj := (hw _ (pw_mem (show (zs.getD j 0).toNat < ws.length by omega))).1
      have hE2 : EqOk (.lst ((spots (pw ws (zs.getD j 0).toNat) (pw ws k)).map .int)) (.lst []) := EqOk.of (Sh.lstI _) (Sh.lstI [])
      have hD2 : deq (.lst ((spots (pw ws (zs.getD j 0).toNat) (pw ws k)).map .int)) (.lst []) = !subB (pw ws k) (pw ws (zs.getD j 0).toNat) := by
       rw [show deq (.lst ((spots (pw ws (zs.getD j 0).toNat) (pw ws k)).map .int)) (.lst []) = decide (spots (pw ws (zs.getD j 0).toNat) (pw ws k) = []) from deq_ints _ []]
       rw [Bool.eq_iff_iff, decide_eq_true_eq, spots_nil]
       cases subB (pw ws k) (pw ws (zs.getD j 0).toNat) <;> simp
      generalize zs.getD j 0 = z at *
      walk_at "r"
      refine ⟨_, atI_str (k := z.toNat) (by omega) (by omega), ?_⟩
      walk_at "r"
      refine ⟨_, atI_str (k := k) hk rfl, ?_⟩
      walk_at "r"
      refine piteNot (pite (fun c2 => ?_) (fun c2 => ?_))
      ·have c2 : deq (.lst ((spots (pw ws z.toNat) (pw ws k)).map .int)) (.lst []) = true := c2
       rw [hD2] at c2
       exact k2 _ (by rw [if_neg (by cases h : subB (pw ws k) (pw ws z.toNat) <;> simp_all)]) ⟨_, rfl⟩
      ·have c2 : deq (.lst ((spots (pw ws z.toNat) (pw ws k)).map .int)) (.lst []) = false := c2
       rw [hD2] at c2
       walk_at "r"
       exact k1 _ _ (by rw [if_pos (by cases h : subB (pw ws k) (pw ws z.toNat) <;> simp_all)]; rfl) ⟨_, rfl⟩
     ·rintro τ ⟨v, rfl⟩
      rw [eh]
      walk_at "r"
      rintro x ⟨a2, b2⟩ hs2 hx0 ⟨hx1, hx2⟩
      rw [hhm] at hx2
      rw [hx2] at hnx
      have hx3 : x.toNat < (holdN ws zs k).length := by omega
      have hy := hhb _ (getD_mem hx3)
      walk_at "r"
      refine ⟨_, atI_ints (k := x.toNat) hx3 (by omega), ?_⟩
      have hnx : leftN ws zs (a, b) (k + 1) = (L ++ [[(k : Int), (holdN ws zs k).getD x.toNat 0, (spots (pw ws ((holdN ws zs k).getD x.toNat 0).toNat) (pw ws k)).getD (tkS (a2, b2) ((spots (pw ws ((holdN ws zs k).getD x.toNat 0).toNat) (pw ws k)).length : Int)).1.toNat 0]], (tkS (a2, b2) ((spots (pw ws ((holdN ws zs k).getD x.toNat 0).toNat) (pw ws k)).length : Int)).2) := hnx
      generalize (holdN ws zs k).getD x.toNat 0 = y at *
      have hwy := (hw _ (pw_mem (show y.toNat < ws.length by omega))).1
      have hsn : spots (pw ws y.toNat) (pw ws k) ≠ [] := fun e => by rw [spots_nil] at e; rw [e] at hy; cases hy.2
      have hs0 : 0 < (spots (pw ws y.toNat) (pw ws k)).length := List.length_pos_iff.mpr hsn
      have hsl : (spots (pw ws y.toNat) (pw ws k)).length ≤ 61 := by
       unfold spots
       rw [List.length_map]
       exact Nat.le_trans (List.length_filter_le ..) (by rw [List.length_range]; omega)
      have hsm : ((spots (pw ws y.toNat) (pw ws k)).map D.int).length = (spots (pw ws y.toNat) (pw ws k)).length := List.length_map _
      walk_at "r"
      refine ⟨_, atI_str (k := y.toNat) (by omega) (by omega), ?_⟩
      walk_at "r"
      refine ⟨_, atI_str (k := k) hk rfl, ?_⟩
      walk_at "r"
      rintro x2 ⟨a3, b3⟩ hs3 hx20 ⟨hx21, hx22⟩
      rw [hsm] at hx22
      rw [hx22] at hnx
      have hx23 : x2.toNat < (spots (pw ws y.toNat) (pw ws k)).length := by omega
      walk_at "r"
      refine ⟨_, atI_ints (k := x2.toNat) hx23 (by omega), ?_⟩
      walk_at "r"
      exact ⟨_, _, _, _, _, _, by rw [hnx, rowsD_app]; rfl, by rw [hnx]; exact hs3, .inr rfl⟩ )
  ·rintro ρ ⟨v2, v3, v4, v6, v7, v8, rfl, hs, h2⟩
   have en : (((ws.map D.str).length : Nat) : Int).toNat = ws.length := by omega
   rw [en] at hs ⊢
   rcases h2 with rfl | rfl
   ·walk_at "r"
    exact q _ hs
   ·walk_at "r"
    exact q _ hs
theorem rd_law_paper : ∀ p ds Q, p.isOwn = true → pc_law_paper p ds Q → RunR pp_law_paper nn_law_paper p ds Q := fun p ds Q _ h => by
 unfold pc_law_paper at h
 split at h
 ·exact rd_law_paper_ _ _ _ _ h
 ·exact h.elim
def pp_law_kinds : PTS := (psSeq (psAsg (pComp [none, some 0] (piAny (pVar 2)) (pgName 0) pYes (pOp fIx (pFz (pLst (paCons (pFz (pCB fList (paCons (pSl 0) paNil))) (paCons (pFz (pCB fTuple (paCons (pSl 0) paNil))) paNil)))) (pFz (pCallR pc_law_take 1 (paCons (pFz (pC (.int 2))) paNil))))) (pgName 3)) (psRet (pLst (paCons (pFz (pOp fIx (pFz (pLst (paCons (pFz (pCB fList (paCons (pSl 1) paNil))) (paCons (pFz (pCB fTuple (paCons (pSl 1) paNil))) paNil)))) (pFz (pCallR pc_law_take 0 (paCons (pFz (pC (.int 2))) paNil))))) (paCons (pFz (pOp fIx (pFz (pLst (paCons (pFz (pVar 3)) (paCons (pFz (pCB fTuple (paCons (pSl 3) paNil))) paNil)))) (pFz (pCallR pc_law_take 0 (paCons (pFz (pC (.int 2))) paNil))))) paNil)))))
set_option maxHeartbeats 4000000 in
theorem rd_law_kinds_ (c0 c1 : Int) (ks ls : List D) (Q : PV → PV → Prop) (h : pc_law_kinds (.own [.int c0, .int c1]) ([.lst ks, .lst ls]) Q) : RunR pp_law_kinds nn_law_kinds (.own [.int c0, .int c1]) ([.lst ks, .lst ls]) Q := by
 obtain ⟨g, ⟨h1, h2⟩, hr, q⟩ := h
 walk_at "r"
 refine ⟨fun k ys τ => ∃ (v : Option PV) (s : Int × Int), τ = [v, some (stv s)] ∧ SOk s ∧ ys.length = k ∧ ∀ j, j < k → itD ys j = itD ls j ∨ itD ys j = .tup (itemsD (itD ls j)), ⟨none, (c0, c1), rfl, g, rfl, nofun⟩, ?_, ?_⟩
 ·rintro k ys τ d hk ed ⟨v, ⟨a, b⟩, rfl, hs, hyl, hy⟩
  obtain ⟨xs, e1, hxl⟩ := hr _ (itD_mem hk)
  have ed : d = itD ls k := ed
  rw [e1] at ed
  subst ed
  walk_at "r"
  rintro z ⟨a, b⟩ hs hz0 hz1
  have hstep : ∀ x : D, (x = itD ls k ∨ x = .tup (itemsD (itD ls k))) → ∀ j, j < k + 1 → itD (ys ++ [x]) j = itD ls j ∨ itD (ys ++ [x]) j = .tup (itemsD (itD ls j)) := fun x hx j hj => by
   by_cases e : j = k
   ·subst e
    rw [itD_of (d := x) (by rw [List.getElem?_append_right (by omega), hyl, Nat.sub_self]; rfl)]
    exact hx
   ·have hj2 : j < ys.length := by omega
    rw [itD_of (d := itD ys j) (by rw [List.getElem?_append_left hj2]; exact itD_get hj2)]
    exact hy j (by omega)
  have : z = 0 ∨ z = 1 := by omega
  rcases this with rfl | rfl
  ·walk_at "r"
   exact ⟨_, (a, b), rfl, hs, by rw [List.length_append, hyl]; rfl, hstep (.lst xs) (.inl e1.symm)⟩
  ·walk_at "r"
   exact ⟨_, (a, b), rfl, hs, by rw [List.length_append, hyl]; rfl, hstep (.tup xs) (.inr (by rw [e1]; rfl))⟩
 ·rintro ys τ ⟨v, ⟨a, b⟩, rfl, hs, hyl, hy⟩
  walk_at "r"
  rintro z ⟨a, b⟩ hs hz0 hz1
  have : z = 0 ∨ z = 1 := by omega
  rcases this with rfl | rfl
  ·walk_at "r"
   rintro y ⟨a, b⟩ hs hy0 hy1
   have : y = 0 ∨ y = 1 := by omega
   rcases this with rfl | rfl
   ·walk_at "r"
    exact q _ _ (a, b) hs (.inl rfl) ⟨ys, .inl rfl, hyl, hy⟩
   ·walk_at "r"
    exact q _ _ (a, b) hs (.inl rfl) ⟨ys, .inr rfl, hyl, hy⟩
  ·walk_at "r"
   rintro y ⟨a, b⟩ hs hy0 hy1
   have : y = 0 ∨ y = 1 := by omega
   rcases this with rfl | rfl
   ·walk_at "r"
    exact q _ _ (a, b) hs (.inr rfl) ⟨ys, .inl rfl, hyl, hy⟩
   ·walk_at "r"
    exact q _ _ (a, b) hs (.inr rfl) ⟨ys, .inr rfl, hyl, hy⟩
theorem rd_law_kinds : ∀ p ds Q, p.isOwn = true → pc_law_kinds p ds Q → RunR pp_law_kinds nn_law_kinds p ds Q := fun p ds Q _ h => by
 unfold pc_law_kinds at h
 split at h
 ·exact rd_law_kinds_ _ _ _ _ _ h
 ·exact h.elim
def pp_law_is : PTS := (psSeq (psAsg (pCallP pc_is_left_paper (paCons (pFz (pVar 0)) (paCons (pFz (pVar 1)) (paCons (pFz (pVar 2)) paNil)))) (pgName 4)) (psRet (pAndV (pIsI .bool (pSl 4)) (pOp fEq2 (pSl 4) (pSl 3)))))
set_option maxHeartbeats 4000000 in
theorem rd_law_is_ (e kept left : D) (b : Bool) (Q : PV → Prop) (h : pc_law_is ([e, kept, left, .bl b]) Q) : RunP pp_law_is nn_law_is ([e, kept, left, .bl b]) Q := by
 obtain ⟨ws, he, hw, hin, rfl, q⟩ := h
 have e1 : deq (.bl (paperB ws kept left)) (.bl (paperB ws kept left)) = true := deq_self ((Fl.bl (n := 0) _).sh (by decide))
 have e2 : EqOk (.bl (paperB ws kept left)) (.bl (paperB ws kept left)) := EqOk.of ((Fl.bl (n := 0) _).sh (by decide)) ((Fl.bl (n := 0) _).sh (by decide))
 walk_at "r"
 refine ⟨ws, he, hw, hin, ?_⟩
 walk_at "r"
 rw [← e1] at q
 exact q
theorem rd_law_is : ∀ ds Q, pc_law_is ds Q → RunP pp_law_is nn_law_is ds Q := fun ds Q h => by
 unfold pc_law_is at h
 split at h
 ·exact rd_law_is_ _ _ _ _ _ h
 ·exact h.elim
def pp_law_odd_ones : PTS := (psSeq (psIf (pOr (pNot (pB (pCallP pc_law_is (paCons (pFz (pVar 1)) (paCons (pFz (pLst (paCons (pFz (pLst (paCons (pFz (pC (.int 0))) paNil))) paNil))) (paCons (pFz (pVar 3)) (paCons (pFz (pC (.bl false))) paNil))))))) (pNot (pB (pCallP pc_law_is (paCons (pFz (pVar 1)) (paCons (pFz (pLst (paCons (pFz pDic0) paNil))) (paCons (pFz (pVar 3)) (paCons (pFz (pC (.bl false))) paNil)))))))) (psRet (pC (.bl false))) psNext) (psSeq (psFor (piR1 (paCons (pFz (pC (.int 3))) paNil)) (pgName 4) (psSeq (psIf (pNot (pB (pCallP pc_law_is (paCons (pFz (pVar 1)) (paCons (pFz (pOp fIx (pFz (pLst (paCons (pFz (pC .non)) (paCons (pFz (pC (.bl true))) (paCons (pFz (pC (.int 7))) (paCons (pFz (pC (.str [97, 98]))) (paCons (pFz pDic0) (paCons (pFz (pLst (paCons (pFz (pC (.bl true))) paNil))) (paCons (pFz (pLst (paCons (pFz (pC (.str [97]))) paNil))) (paCons (pFz (pLst (paCons (pFz (pC .non)) paNil))) paNil)))))))))) (pFz (pCallR pc_law_take 0 (paCons (pFz (pC (.int 8))) paNil))))) (paCons (pFz (pVar 3)) (paCons (pFz (pC (.bl false))) paNil))))))) (psRet (pC (.bl false))) psNext) (psSeq (psIf (pNot (pB (pCallP pc_law_is (paCons (pFz (pVar 1)) (paCons (pFz (pVar 2)) (paCons (pFz (pOp fIx (pFz (pLst (paCons (pFz (pC .non)) (paCons (pFz (pC (.bl true))) (paCons (pFz (pC (.int 7))) (paCons (pFz (pC (.str [97, 98]))) (paCons (pFz pDic0) (paCons (pFz (pLst (paCons (pFz (pC (.int 7))) paNil))) (paCons (pFz (pLst (paCons (pFz (pC .non)) paNil))) (paCons (pFz (pLst (paCons (pFz (pLst paNil)) paNil))) paNil)))))))))) (pFz (pCallR pc_law_take 0 (paCons (pFz (pC (.int 8))) paNil))))) (paCons (pFz (pC (.bl false))) paNil))))))) (psRet (pC (.bl false))) psNext) (psIf (pB (pOp fNe2 (pSl 3) (pFz (pLst paNil)))) (psSeq (psAsg (pCallR pc_law_take 0 (paCons (pFz (pCB fLen (paCons (pSl 3) paNil))) paNil)) (pgName 5)) (psSeq (psAsg (pCB fList (paCons (pFz (pOp fIx (pSl 3) (pSl 5))) paNil)) (pgName 6)) (psSeq (psSetI 6 (pOp fIx (pFz (pLst (paCons (pFz (pC .non)) (paCons (pFz (pC (.bl true))) (paCons (pFz (pC (.bl false))) (paCons (pFz (pC (.str [48]))) (paCons (pFz (pLst paNil)) (paCons (pFz (pC (.str [97, 98]))) paNil)))))))) (pFz (pCallR pc_law_take 0 (paCons (pFz (pC (.int 6))) paNil)))) (pCallR pc_law_take 0 (paCons (pFz (pC (.int 3))) paNil))) (psSeq (psIf (pNot (pB (pCallP pc_law_is (paCons (pFz (pVar 1)) (paCons (pFz (pVar 2)) (paCons (pFz (pOp fAdd (pFz (pOp fAdd (pFz (pSlice (pSl 3) poNone (poSome (pVar 5)))) (pFz (pLst (paCons (pFz (pVar 6)) paNil))))) (pFz (pSlice (pSl 3) (poSome (pOp fAdd (pSl 5) (pFz (pC (.int 1))))) poNone)))) (paCons (pFz (pC (.bl false))) paNil))))))) (psRet (pC (.bl false))) psNext) (psSeq (psAsg (pOp fIx (pFz (pLst (paCons (pFz (pSlice (pFz (pOp fIx (pSl 3) (pSl 5))) poNone (poSome (pC (.int 2))))) (paCons (pFz (pOp fAdd (pFz (pOp fIx (pSl 3) (pSl 5))) (pFz (pLst (paCons (pFz (pC (.int 0))) paNil))))) (paCons (pFz (pSlice (pFz (pCB fTuple (paCons (pFz (pOp fIx (pSl 3) (pSl 5))) paNil))) poNone (poSome (pC (.int 1))))) paNil))))) (pFz (pCallR pc_law_take 0 (paCons (pFz (pC (.int 3))) paNil)))) (pgName 6)) (psIf (pNot (pB (pCallP pc_law_is (paCons (pFz (pVar 1)) (paCons (pFz (pVar 2)) (paCons (pFz (pOp fAdd (pFz (pOp fAdd (pFz (pSlice (pSl 3) poNone (poSome (pVar 5)))) (pFz (pLst (paCons (pFz (pVar 6)) paNil))))) (pFz (pSlice (pSl 3) (poSome (pOp fAdd (pSl 5) (pFz (pC (.int 1))))) poNone)))) (paCons (pFz (pC (.bl false))) paNil))))))) (psRet (pC (.bl false))) psNext)))))) psNext)))) (psRet (pC (.bl true)))))
set_option maxHeartbeats 4000000 in
theorem rd_law_odd_ones_ (c0 c1 : Int) (ds ks ls : List D) (Q : PV → PV → Prop) (h : pc_law_odd_ones (.own [.int c0, .int c1]) ([.lst ds, .lst ks, .lst ls]) Q) : RunR pp_law_odd_ones nn_law_odd_ones (.own [.int c0, .int c1]) ([.lst ds, .lst ks, .lst ls]) Q := by
 obtain ⟨ws, rfl, zs, rfl, L, rfl, g, hww, ⟨hz20, hL20⟩, hT, q⟩ := h
 have hLm : (rowsD L).length = L.length := List.length_map _
 have hKI : KIn (.lst (zs.map .int)) := KIn.ints (by omega)
 have hrow : ∀ r ∈ L, D.sort (.lst (r.map .int)) = true ∧ RIn (.lst (r.map .int)) := fun r hr => by
  obtain ⟨a, b, c, e, h⟩ := hT r hr
  exact ⟨rfl, RIn.row (by rw [e]; show 3 ≤ 1000; decide) h⟩
 have hLI : LIn (.lst (rowsD L)) := LIn.of (by omega) fun r hr => by
  obtain ⟨x, hx, rfl⟩ := List.mem_map.mp hr
  exact hrow x hx
 walk_at "r"
 refine ⟨ws, .inl rfl, hww, PIn.of ⟨⟨rfl, fun x hx => by rw [List.mem_singleton.mp hx]; rfl⟩, by decide⟩ hLI, no_kept (ris_bad (d := .lst [.int 0]) (List.mem_singleton.mpr rfl) rfl), ?_⟩
 walk_at "r"
 refine ⟨ws, .inl rfl, hww, PIn.of ⟨⟨rfl, fun x hx => by rw [List.mem_singleton.mp hx]; rfl⟩, by decide⟩ hLI, no_kept (ris_bad (d := .dic [] []) (List.mem_singleton.mpr rfl) rfl), ?_⟩
 have hix : ∀ n i : Nat, i < n → ixN n (i : Int) = some i := fun n i h => ixN_nat h
 have hE : EqOk (.lst (rowsD L)) (.lst []) := EqOk.of (rowsD_fl L) (Sh.lstI [])
 have hLi : ∀ k, k < L.length → itD (rowsD L) k = .lst ((L.getD k []).map .int) := fun k hk => itD_of (by unfold rowsD; rw [List.getElem?_map, List.getD_eq_getElem?_getD, List.getElem?_eq_getElem hk]; rfl)
 have hLg : ∀ k, k < L.length → L.getD k [] ∈ L := fun k hk => List.mem_of_getElem? (show L[k]? = some (L.getD k []) by rw [List.getD_eq_getElem?_getD, List.getElem?_eq_getElem hk]; rfl)
 have hat : ∀ (k : Nat), k < L.length → ∀ i : Int, i = (k : Int) → atI (rowsD L) i = some (.lst ((L.getD k []).map .int)) := fun k hk i e => atI_of (j := k) (by rw [← hLi k hk]; exact itD_get (by omega)) e
 have hD : deq (.lst (rowsD L)) (.lst []) = decide (L = []) := by
  rw [deq_nilD]
  cases L with
  | nil => rfl
  | cons r t => rw [decide_eq_false (by simp [rowsD]), decide_eq_false (by simp)]
 walk_at "r"
 refine ⟨fun k ρ => ∃ (s : Int × Int) (v4 v5 v6 : Option PV), ρ = [some (stv s), some (.dat (.lst (ws.map .str))), some (.dat (.lst (zs.map .int))), some (.dat (.lst (rowsD L))), v4, v5, v6] ∧ SOk s, ⟨(c0, c1), none, none, none, rfl, g⟩, ?_, ?_⟩
 ·rintro k ρ _ hk rfl ⟨⟨a, b⟩, v4, v5, v6, rfl, hs⟩
  walk_at "r"
  rintro x ⟨a, b⟩ hs hx0 hx1
  obtain ⟨od, hod, hodat⟩ : ∃ od : D, (KIn od ∧ risB od (ws.length : Int) = false) ∧ atI [D.non, .bl true, .int 7, .str [97, 98], .dic [] [], .lst [.bl true], .lst [.str [97]], .lst [.non]] x = some od := by
   have : x = 0 ∨ x = 1 ∨ x = 2 ∨ x = 3 ∨ x = 4 ∨ x = 5 ∨ x = 6 ∨ x = 7 := by omega
   rcases this with rfl | rfl | rfl | rfl | rfl | rfl | rfl | rfl
   ·exact ⟨.non, ⟨⟨⟨rfl, nofun⟩, by decide⟩, rfl⟩, rfl⟩
   ·exact ⟨.bl true, ⟨⟨⟨rfl, nofun⟩, by decide⟩, rfl⟩, rfl⟩
   ·exact ⟨.int 7, ⟨⟨⟨rfl, nofun⟩, by decide⟩, rfl⟩, rfl⟩
   ·exact ⟨.str [97, 98], ⟨⟨⟨rfl, nofun⟩, by decide⟩, rfl⟩, rfl⟩
   ·exact ⟨.dic [] [], ⟨⟨⟨rfl, nofun⟩, by decide⟩, rfl⟩, rfl⟩
   ·exact ⟨.lst [.bl true], ⟨⟨⟨rfl, fun x hx => by rw [List.mem_singleton.mp hx]; rfl⟩, by decide⟩, ris_bad (d := .bl true) (List.mem_singleton.mpr rfl) rfl⟩, rfl⟩
   ·exact ⟨.lst [.str [97]], ⟨⟨⟨rfl, fun x hx => by rw [List.mem_singleton.mp hx]; rfl⟩, by decide⟩, ris_bad (d := .str [97]) (List.mem_singleton.mpr rfl) rfl⟩, rfl⟩
   ·exact ⟨.lst [.non], ⟨⟨⟨rfl, fun x hx => by rw [List.mem_singleton.mp hx]; rfl⟩, by decide⟩, ris_bad (d := .non) (List.mem_singleton.mpr rfl) rfl⟩, rfl⟩
  walk_at "r"
  refine ⟨_, hodat, ?_⟩
  walk_at "r"
  refine ⟨ws, .inl rfl, hww, PIn.of hod.1 hLI, no_kept hod.2, ?_⟩
  walk_at "r"
  rintro y ⟨a, b⟩ hs hy0 hy1
  obtain ⟨oe, hoe, hoeat⟩ : ∃ oe : D, (LIn oe ∧ ∀ kept, paperB ws kept oe = false) ∧ atI [D.non, .bl true, .int 7, .str [97, 98], .dic [] [], .lst [.int 7], .lst [.non], .lst [.lst []]] y = some oe := by
   have : y = 0 ∨ y = 1 ∨ y = 2 ∨ y = 3 ∨ y = 4 ∨ y = 5 ∨ y = 6 ∨ y = 7 := by omega
   rcases this with rfl | rfl | rfl | rfl | rfl | rfl | rfl | rfl
   ·exact ⟨.non, ⟨⟨⟨rfl, nofun⟩, by decide, nofun⟩, fun kept => no_left rfl⟩, rfl⟩
   ·exact ⟨.bl true, ⟨⟨⟨rfl, nofun⟩, by decide, nofun⟩, fun kept => no_left rfl⟩, rfl⟩
   ·exact ⟨.int 7, ⟨⟨⟨rfl, nofun⟩, by decide, nofun⟩, fun kept => no_left rfl⟩, rfl⟩
   ·exact ⟨.str [97, 98], ⟨⟨⟨rfl, nofun⟩, by decide, nofun⟩, fun kept => no_left rfl⟩, rfl⟩
   ·exact ⟨.dic [] [], ⟨⟨⟨rfl, nofun⟩, by decide, nofun⟩, fun kept => no_left rfl⟩, rfl⟩
   ·exact ⟨.lst [.int 7], ⟨LIn.of (by decide) (fun r hr => by rw [List.mem_singleton.mp hr]; exact ⟨rfl, ⟨rfl, nofun⟩, by decide, nofun⟩), fun kept => no_row (r := .int 7) (List.mem_singleton.mpr rfl) rfl⟩, rfl⟩
   ·exact ⟨.lst [.non], ⟨LIn.of (by decide) (fun r hr => by rw [List.mem_singleton.mp hr]; exact ⟨rfl, ⟨rfl, nofun⟩, by decide, nofun⟩), fun kept => no_row (r := .non) (List.mem_singleton.mpr rfl) rfl⟩, rfl⟩
   ·exact ⟨.lst [.lst []], ⟨LIn.of (by decide) (fun r hr => by rw [List.mem_singleton.mp hr]; exact ⟨rfl, ⟨rfl, nofun⟩, by decide, nofun⟩), fun kept => no_row (r := .lst []) (List.mem_singleton.mpr rfl) rfl⟩, rfl⟩
  walk_at "r"
  refine ⟨_, hoeat, ?_⟩
  walk_at "r"
  refine ⟨ws, .inl rfl, hww, PIn.of hKI hoe.1, hoe.2 _, ?_⟩
  walk_at "r"
  refine piteNot (pite (fun c => ?_) (fun c => ?_))
  ·exact ⟨(a, b), _, _, _, rfl, hs⟩
  ·have c : deq (.lst (rowsD L)) (.lst []) = false := c
   rw [hD, decide_eq_false_iff_not] at c
   have hL0 : 0 < L.length := List.length_pos_iff.mpr c
   walk_at "r"
   rintro at_ ⟨a, b⟩ hs ha0 ha1
   obtain ⟨j, rfl⟩ : ∃ k : Nat, at_ = (k : Int) := ⟨at_.toNat, by omega⟩
   have hj : j < L.length := by omega
   obtain ⟨r0, r1, r2, hr, hrb⟩ := hT _ (hLg j hj)
   have hatj := hat j hj
   rw [hr] at hatj
   have hr0 := hrb r0 (by rw [hr]; exact List.mem_cons_self ..)
   have hr1 := hrb r1 (by rw [hr]; exact List.mem_cons_of_mem _ (List.mem_cons_self ..))
   have hr2 := hrb r2 (by rw [hr]; exact List.mem_cons_of_mem _ (List.mem_cons_of_mem _ (List.mem_cons_self ..)))
   have c1 : cutN (rowsD L) none (some (j : Int)) = rowsD (L.take j) := by unfold rowsD; rw [cutN_to, List.map_take]
   have c2 : cutN (rowsD L) (some ((j : Int) + 1)) none = rowsD (L.drop (j + 1)) := by unfold rowsD; rw [show ((j : Int) + 1) = ((j + 1 : Nat) : Int) from rfl, cutN_from, List.map_drop]
   have l1c : (cutN (rowsD L) none (some (j : Int))).length = j := by rw [c1]; unfold rowsD; rw [List.length_map, List.length_take]; omega
   have l2c : (cutN (rowsD L) (some ((j : Int) + 1)) none).length = L.length - (j + 1) := by rw [c2]; unfold rowsD; rw [List.length_map, List.length_drop]
   have mem : ∀ r : D, r ∈ cutN (rowsD L) none (some (j : Int)) ++ [r] ++ cutN (rowsD L) (some ((j : Int) + 1)) none := fun r => List.mem_append_left _ (List.mem_append_right _ (List.mem_singleton.mpr rfl))
   have mkL : ∀ r : D, r.sort = true ∧ RIn r → LIn (.lst (cutN (rowsD L) none (some (j : Int)) ++ [r] ++ cutN (rowsD L) (some ((j : Int) + 1)) none)) := fun r hr => LIn.of (by rw [List.length_append, List.length_append, l1c, l2c]; show _ + 1 + _ ≤ _; omega) fun x hx => by
    rcases List.mem_append.mp hx with h | h
    ·rcases List.mem_append.mp h with h | h
     ·rw [c1] at h
      obtain ⟨y, hy, rfl⟩ := List.mem_map.mp h
      exact hrow y (List.mem_of_mem_take hy)
     ·rw [List.mem_singleton.mp h]; exact hr
    ·rw [c2] at h
     obtain ⟨y, hy, rfl⟩ := List.mem_map.mp h
     exact hrow y (List.mem_of_mem_drop hy)
   walk_at "r"
   refine ⟨_, hatj _ rfl, ?_⟩
   walk_at "r"
   rintro u ⟨a, b⟩ hs hu0 hu1
   obtain ⟨od2, ho2, ho2at⟩ : ∃ d : D, (isNum d = false ∧ d.sort = true ∧ toI d = 0) ∧ atI [D.non, .bl true, .bl false, .str [48], .lst [], .str [97, 98]] u = some d := by
    have : u = 0 ∨ u = 1 ∨ u = 2 ∨ u = 3 ∨ u = 4 ∨ u = 5 := by omega
    rcases this with rfl | rfl | rfl | rfl | rfl | rfl
    ·exact ⟨.non, ⟨rfl, rfl, rfl⟩, rfl⟩
    ·exact ⟨.bl true, ⟨rfl, rfl, rfl⟩, rfl⟩
    ·exact ⟨.bl false, ⟨rfl, rfl, rfl⟩, rfl⟩
    ·exact ⟨.str [48], ⟨rfl, rfl, rfl⟩, rfl⟩
    ·exact ⟨.lst [], ⟨rfl, rfl, rfl⟩, rfl⟩
    ·exact ⟨.str [97, 98], ⟨rfl, rfl, rfl⟩, rfl⟩
   walk_at "r"
   refine ⟨_, ho2at, ?_⟩
   walk_at "r"
   rintro w ⟨a, b⟩ hs hw0 hw1
   have hw3 : w = 0 ∨ w = 1 ∨ w = 2 := by omega
   rcases hw3 with rfl | rfl | rfl
   ·walk_at "r"
    refine ⟨ws, .inl rfl, hww, PIn.of hKI (mkL (.lst [od2, .int r1, .int r2]) ⟨rfl, ⟨rfl, fun x hx => ?_⟩, by show 3 ≤ 1000; decide, fun x hx => ?_⟩), no_row (r := .lst [od2, .int r1, .int r2]) (mem (.lst [od2, .int r1, .int r2])) (num_bad (d := od2) (List.mem_cons_self ..) ho2.1), ?_⟩
    ·have hx : x ∈ ([od2, .int r1, .int r2] : List D) := hx
     simp only [List.mem_cons, List.not_mem_nil, or_false] at hx
     rcases hx with e | e | e <;> rw [e] <;> first | rfl | exact ho2.2.1
    ·have hx : x ∈ ([od2, .int r1, .int r2] : List D) := hx
     simp only [List.mem_cons, List.not_mem_nil, or_false] at hx
     rcases hx with e | e | e <;> rw [e] <;> first | (rw [ho2.2.2]; decide) | (show -(10 ^ 15) ≤ r0 ∧ r0 ≤ 10 ^ 15; omega) | (show -(10 ^ 15) ≤ r1 ∧ r1 ≤ 10 ^ 15; omega) | (show -(10 ^ 15) ≤ r2 ∧ r2 ≤ 10 ^ 15; omega)
    walk_at "r"
    refine ⟨_, hatj _ rfl, ?_⟩
    walk_at "r"
    refine ⟨_, hatj _ rfl, ?_⟩
    walk_at "r"
    refine ⟨_, hatj _ rfl, ?_⟩
    walk_at "r"
    rintro t ⟨a, b⟩ hs ht0 ht1
    obtain ⟨rw3, hrw, hrwat⟩ : ∃ d : D, (d.sort = true ∧ RIn d ∧ areNums d 3 = false) ∧ atI [.lst [.int r0, .int r1], .lst [.int r0, .int r1, .int r2, .int 0], .tup [.int r0]] t = some d := by
     have bd : ∀ x ∈ ([.int r0, .int r1, .int r2, .int 0] : List D), x.sort = true ∧ -(10 ^ 15) ≤ toI x ∧ toI x ≤ 10 ^ 15 := fun x hx => by
      simp only [List.mem_cons, List.not_mem_nil, or_false] at hx
      rcases hx with e | e | e | e
      ·rw [e]; exact ⟨rfl, by show -(10 ^ 15) ≤ r0; omega, by show r0 ≤ 10 ^ 15; omega⟩
      ·rw [e]; exact ⟨rfl, by show -(10 ^ 15) ≤ r1; omega, by show r1 ≤ 10 ^ 15; omega⟩
      ·rw [e]; exact ⟨rfl, by show -(10 ^ 15) ≤ r2; omega, by show r2 ≤ 10 ^ 15; omega⟩
      ·rw [e]; exact ⟨rfl, by decide, by decide⟩
     have : t = 0 ∨ t = 1 ∨ t = 2 := by omega
     rcases this with rfl | rfl | rfl
     ·exact ⟨_, ⟨rfl, ⟨⟨rfl, fun x hx => (bd x (by simp only [itemsD, List.mem_cons, List.not_mem_nil, or_false] at hx ⊢; rcases hx with h | h <;> simp [h])).1⟩, by show 2 ≤ 1000; decide, fun x hx => (bd x (by simp only [itemsD, List.mem_cons, List.not_mem_nil, or_false] at hx ⊢; rcases hx with h | h <;> simp [h])).2⟩, rfl⟩, rfl⟩
     ·exact ⟨.lst [.int r0, .int r1, .int r2, .int 0], ⟨rfl, ⟨⟨rfl, fun x hx => (bd x hx).1⟩, by show 4 ≤ 1000; decide, fun x hx => (bd x hx).2⟩, rfl⟩, rfl⟩
     ·exact ⟨_, ⟨rfl, ⟨⟨rfl, fun x hx => (bd x (by simp only [itemsD, List.mem_cons, List.not_mem_nil, or_false] at hx ⊢; exact .inl hx)).1⟩, by show 1 ≤ 1000; decide, fun x hx => (bd x (by simp only [itemsD, List.mem_cons, List.not_mem_nil, or_false] at hx ⊢; exact .inl hx)).2⟩, rfl⟩, rfl⟩
    walk_at "r"
    refine ⟨_, hrwat, ?_⟩
    walk_at "r"
    refine ⟨ws, .inl rfl, hww, PIn.of hKI (mkL rw3 ⟨hrw.1, hrw.2.1⟩), no_row (mem rw3) hrw.2.2, ?_⟩
    walk_at "r"
    exact ⟨(a, b), _, _, _, rfl, hs⟩
   ·walk_at "r"
    refine ⟨ws, .inl rfl, hww, PIn.of hKI (mkL (.lst [.int r0, od2, .int r2]) ⟨rfl, ⟨rfl, fun x hx => ?_⟩, by show 3 ≤ 1000; decide, fun x hx => ?_⟩), no_row (r := .lst [.int r0, od2, .int r2]) (mem (.lst [.int r0, od2, .int r2])) (num_bad (d := od2) (List.mem_cons_of_mem _ (List.mem_cons_self ..)) ho2.1), ?_⟩
    ·have hx : x ∈ ([.int r0, od2, .int r2] : List D) := hx
     simp only [List.mem_cons, List.not_mem_nil, or_false] at hx
     rcases hx with e | e | e <;> rw [e] <;> first | rfl | exact ho2.2.1
    ·have hx : x ∈ ([.int r0, od2, .int r2] : List D) := hx
     simp only [List.mem_cons, List.not_mem_nil, or_false] at hx
     rcases hx with e | e | e <;> rw [e] <;> first | (rw [ho2.2.2]; decide) | (show -(10 ^ 15) ≤ r0 ∧ r0 ≤ 10 ^ 15; omega) | (show -(10 ^ 15) ≤ r1 ∧ r1 ≤ 10 ^ 15; omega) | (show -(10 ^ 15) ≤ r2 ∧ r2 ≤ 10 ^ 15; omega)
    walk_at "r"
    refine ⟨_, hatj _ rfl, ?_⟩
    walk_at "r"
    refine ⟨_, hatj _ rfl, ?_⟩
    walk_at "r"
    refine ⟨_, hatj _ rfl, ?_⟩
    walk_at "r"
    rintro t ⟨a, b⟩ hs ht0 ht1
    obtain ⟨rw3, hrw, hrwat⟩ : ∃ d : D, (d.sort = true ∧ RIn d ∧ areNums d 3 = false) ∧ atI [.lst [.int r0, .int r1], .lst [.int r0, .int r1, .int r2, .int 0], .tup [.int r0]] t = some d := by
     have bd : ∀ x ∈ ([.int r0, .int r1, .int r2, .int 0] : List D), x.sort = true ∧ -(10 ^ 15) ≤ toI x ∧ toI x ≤ 10 ^ 15 := fun x hx => by
      simp only [List.mem_cons, List.not_mem_nil, or_false] at hx
      rcases hx with e | e | e | e
      ·rw [e]; exact ⟨rfl, by show -(10 ^ 15) ≤ r0; omega, by show r0 ≤ 10 ^ 15; omega⟩
      ·rw [e]; exact ⟨rfl, by show -(10 ^ 15) ≤ r1; omega, by show r1 ≤ 10 ^ 15; omega⟩
      ·rw [e]; exact ⟨rfl, by show -(10 ^ 15) ≤ r2; omega, by show r2 ≤ 10 ^ 15; omega⟩
      ·rw [e]; exact ⟨rfl, by decide, by decide⟩
     have : t = 0 ∨ t = 1 ∨ t = 2 := by omega
     rcases this with rfl | rfl | rfl
     ·exact ⟨_, ⟨rfl, ⟨⟨rfl, fun x hx => (bd x (by simp only [itemsD, List.mem_cons, List.not_mem_nil, or_false] at hx ⊢; rcases hx with h | h <;> simp [h])).1⟩, by show 2 ≤ 1000; decide, fun x hx => (bd x (by simp only [itemsD, List.mem_cons, List.not_mem_nil, or_false] at hx ⊢; rcases hx with h | h <;> simp [h])).2⟩, rfl⟩, rfl⟩
     ·exact ⟨.lst [.int r0, .int r1, .int r2, .int 0], ⟨rfl, ⟨⟨rfl, fun x hx => (bd x hx).1⟩, by show 4 ≤ 1000; decide, fun x hx => (bd x hx).2⟩, rfl⟩, rfl⟩
     ·exact ⟨_, ⟨rfl, ⟨⟨rfl, fun x hx => (bd x (by simp only [itemsD, List.mem_cons, List.not_mem_nil, or_false] at hx ⊢; exact .inl hx)).1⟩, by show 1 ≤ 1000; decide, fun x hx => (bd x (by simp only [itemsD, List.mem_cons, List.not_mem_nil, or_false] at hx ⊢; exact .inl hx)).2⟩, rfl⟩, rfl⟩
    walk_at "r"
    refine ⟨_, hrwat, ?_⟩
    walk_at "r"
    refine ⟨ws, .inl rfl, hww, PIn.of hKI (mkL rw3 ⟨hrw.1, hrw.2.1⟩), no_row (mem rw3) hrw.2.2, ?_⟩
    walk_at "r"
    exact ⟨(a, b), _, _, _, rfl, hs⟩
   ·walk_at "r"
    refine ⟨ws, .inl rfl, hww, PIn.of hKI (mkL (.lst [.int r0, .int r1, od2]) ⟨rfl, ⟨rfl, fun x hx => ?_⟩, by show 3 ≤ 1000; decide, fun x hx => ?_⟩), no_row (r := .lst [.int r0, .int r1, od2]) (mem (.lst [.int r0, .int r1, od2])) (num_bad (d := od2) (List.mem_cons_of_mem _ (List.mem_cons_of_mem _ (List.mem_cons_self ..))) ho2.1), ?_⟩
    ·have hx : x ∈ ([.int r0, .int r1, od2] : List D) := hx
     simp only [List.mem_cons, List.not_mem_nil, or_false] at hx
     rcases hx with e | e | e <;> rw [e] <;> first | rfl | exact ho2.2.1
    ·have hx : x ∈ ([.int r0, .int r1, od2] : List D) := hx
     simp only [List.mem_cons, List.not_mem_nil, or_false] at hx
     rcases hx with e | e | e <;> rw [e] <;> first | (rw [ho2.2.2]; decide) | (show -(10 ^ 15) ≤ r0 ∧ r0 ≤ 10 ^ 15; omega) | (show -(10 ^ 15) ≤ r1 ∧ r1 ≤ 10 ^ 15; omega) | (show -(10 ^ 15) ≤ r2 ∧ r2 ≤ 10 ^ 15; omega)
    walk_at "r"
    refine ⟨_, hatj _ rfl, ?_⟩
    walk_at "r"
    refine ⟨_, hatj _ rfl, ?_⟩
    walk_at "r"
    refine ⟨_, hatj _ rfl, ?_⟩
    walk_at "r"
    rintro t ⟨a, b⟩ hs ht0 ht1
    obtain ⟨rw3, hrw, hrwat⟩ : ∃ d : D, (d.sort = true ∧ RIn d ∧ areNums d 3 = false) ∧ atI [.lst [.int r0, .int r1], .lst [.int r0, .int r1, .int r2, .int 0], .tup [.int r0]] t = some d := by
     have bd : ∀ x ∈ ([.int r0, .int r1, .int r2, .int 0] : List D), x.sort = true ∧ -(10 ^ 15) ≤ toI x ∧ toI x ≤ 10 ^ 15 := fun x hx => by
      simp only [List.mem_cons, List.not_mem_nil, or_false] at hx
      rcases hx with e | e | e | e
      ·rw [e]; exact ⟨rfl, by show -(10 ^ 15) ≤ r0; omega, by show r0 ≤ 10 ^ 15; omega⟩
      ·rw [e]; exact ⟨rfl, by show -(10 ^ 15) ≤ r1; omega, by show r1 ≤ 10 ^ 15; omega⟩
      ·rw [e]; exact ⟨rfl, by show -(10 ^ 15) ≤ r2; omega, by show r2 ≤ 10 ^ 15; omega⟩
      ·rw [e]; exact ⟨rfl, by decide, by decide⟩
     have : t = 0 ∨ t = 1 ∨ t = 2 := by omega
     rcases this with rfl | rfl | rfl
     ·exact ⟨_, ⟨rfl, ⟨⟨rfl, fun x hx => (bd x (by simp only [itemsD, List.mem_cons, List.not_mem_nil, or_false] at hx ⊢; rcases hx with h | h <;> simp [h])).1⟩, by show 2 ≤ 1000; decide, fun x hx => (bd x (by simp only [itemsD, List.mem_cons, List.not_mem_nil, or_false] at hx ⊢; rcases hx with h | h <;> simp [h])).2⟩, rfl⟩, rfl⟩
     ·exact ⟨.lst [.int r0, .int r1, .int r2, .int 0], ⟨rfl, ⟨⟨rfl, fun x hx => (bd x hx).1⟩, by show 4 ≤ 1000; decide, fun x hx => (bd x hx).2⟩, rfl⟩, rfl⟩
     ·exact ⟨_, ⟨rfl, ⟨⟨rfl, fun x hx => (bd x (by simp only [itemsD, List.mem_cons, List.not_mem_nil, or_false] at hx ⊢; exact .inl hx)).1⟩, by show 1 ≤ 1000; decide, fun x hx => (bd x (by simp only [itemsD, List.mem_cons, List.not_mem_nil, or_false] at hx ⊢; exact .inl hx)).2⟩, rfl⟩, rfl⟩
    walk_at "r"
    refine ⟨_, hrwat, ?_⟩
    walk_at "r"
    refine ⟨ws, .inl rfl, hww, PIn.of hKI (mkL rw3 ⟨hrw.1, hrw.2.1⟩), no_row (mem rw3) hrw.2.2, ?_⟩
    walk_at "r"
    exact ⟨(a, b), _, _, _, rfl, hs⟩
 ·rintro ρ ⟨s, v4, v5, v6, rfl, hs⟩
  walk_at "r"
  exact q s hs
theorem rd_law_odd_ones : ∀ p ds Q, p.isOwn = true → pc_law_odd_ones p ds Q → RunR pp_law_odd_ones nn_law_odd_ones p ds Q := fun p ds Q _ h => by
 unfold pc_law_odd_ones at h
 split at h
 ·exact rd_law_odd_ones_ _ _ _ _ _ _ h
 ·exact h.elim
def pp_law : PTS := (psSeq (psAsg (pCallP pc_law_stream (paCons (pFz (pVar 0)) (paCons (pFz (pC (.int 0))) paNil))) (pgName 1)) (psSeq (psAsg (pCallR pc_law_pieces 1 (paCons (pFz (pCallR pc_law_take 1 (paCons (pFz (pC (.int 10))) paNil))) (paCons (pFz (pC (.int 8))) paNil))) (pgName 2)) (psSeq (psAsg (pCB fList (paCons (pSl 2) paNil)) (pgName 3)) (psSeq (psAsg (pCallP pc_law_stream (paCons (pFz (pVar 0)) (paCons (pFz (pC (.int 1))) paNil))) (pgName 1)) (psSeq (psAsg (pCallR pc_law_paper 1 (paCons (pFz (pVar 2)) paNil)) (pgRow 2 (pgCons (pgName 4) (pgCons (pgName 5) pgNil)))) (psSeq (psAsg (pCallR pc_law_kinds 1 (paCons (pFz (pVar 4)) (paCons (pFz (pVar 5)) paNil))) (pgRow 2 (pgCons (pgName 6) (pgCons (pgName 7) pgNil)))) (psSeq (psIf (pNot (pB (pCallP pc_law_is (paCons (pFz (pVar 3)) (paCons (pFz (pVar 6)) (paCons (pFz (pVar 7)) (paCons (pFz (pC (.bl true))) paNil))))))) (psRet (pC (.bl false))) psNext) (psSeq (psFor (piR1 (paCons (pFz (pCB fMax2 (paCons (pFz (pC (.int 4))) (paCons (pFz (pCB fMin2 (paCons (pFz (pC (.int 14))) (paCons (pFz (pOp fSub (pFz (pCB fLen (paCons (pSl 0) paNil))) (pFz (pC (.int 2))))) paNil)))) paNil)))) paNil)) (pgName 8) (psSeq (psAsg (pCallP pc_law_stream (paCons (pFz (pVar 0)) (paCons (pFz (pOp fAdd (pFz (pC (.int 2))) (pSl 8))) paNil))) (pgName 1)) (psSeq (psAsg (pCallR pc_law_bent 1 (paCons (pFz (pVar 4)) (paCons (pFz (pVar 5)) paNil))) (pgName 9)) (psSeq (psAsg (pCallR pc_law_kinds 1 (paCons (pFz (pOp fIx (pSl 9) (pFz (pC (.int 0))))) (paCons (pFz (pOp fIx (pSl 9) (pFz (pC (.int 1))))) paNil))) (pgRow 2 (pgCons (pgName 6) (pgCons (pgName 7) pgNil)))) (psIf (pNot (pB (pCallP pc_law_is (paCons (pFz (pVar 3)) (paCons (pFz (pVar 6)) (paCons (pFz (pVar 7)) (paCons (pFz (pCallP pc_law_right (paCons (pFz (pVar 2)) (paCons (pFz (pOp fIx (pSl 9) (pFz (pC (.int 0))))) (paCons (pFz (pOp fIx (pSl 9) (pFz (pC (.int 1))))) paNil))))) paNil))))))) (psRet (pC (.bl false))) psNext))))) (psSeq (psIf (pNot (pB (pCallRF pc_law_odd_ones (pCallP pc_law_stream (paCons (pFz (pVar 0)) (paCons (pFz (pC (.int 1))) paNil))) (paCons (pFz (pVar 3)) (paCons (pFz (pVar 4)) (paCons (pFz (pVar 5)) paNil)))))) (psRet (pC (.bl false))) psNext) (psSeq (psAsg (pCallRF pc_law_paper (pCallP pc_law_stream (paCons (pFz (pVar 0)) (paCons (pFz (pC (.int 1))) paNil))) (paCons (pFz (pVar 2)) paNil)) (pgRow 2 (pgCons (pgName 6) (pgCons (pgName 7) pgNil)))) (psRet (pAndV (pOp fEq2 (pSl 3) (pSl 2)) (pAndV (pOp fEq2 (pSl 6) (pSl 4)) (pAndV (pOp fEq2 (pSl 7) (pSl 5)) (pCallP pc_law_is (paCons (pFz (pCB fTuple (paCons (pSl 2) paNil))) (paCons (pFz (pVar 4)) (paCons (pFz (pVar 5)) (paCons (pFz (pC (.bl true))) paNil)))))))))))))))))))
set_option maxHeartbeats 4000000 in
theorem rd_law_ (ns : List Int) (h63 : ns.length ≤ 63) (Q : PV → Prop) (q : Q (.dat (.bl true))) : RunP pp_law nn_law [.scr ns] Q := by
 obtain ⟨⟨a0, b0⟩, e0⟩ : ∃ p, strN ns 0 = p := ⟨_, rfl⟩
 obtain ⟨⟨a1, b1⟩, e1⟩ : ∃ p, strN ns 1 = p := ⟨_, rfl⟩
 walk_at "r"
 rw [e0]
 intro hs
 walk_at "r"
 rintro x ⟨a, b⟩ hs hx0 hx1
 walk_at "r"
 rintro ws ⟨a, b⟩ hs hpl hps
 have hn : ws.length ≤ 20 := by omega
 have hww : ws.length ≤ 20 ∧ ∀ w ∈ ws, w.length ≤ 60 ∧ Lts w := ⟨hn, fun w h => ⟨Nat.le_trans (hps w h).2.1 (by decide), (hps w h).2.2⟩⟩
 have hw2 : ws.length ≤ 20 ∧ ∀ w ∈ ws, w.length ≤ 10000 := ⟨hn, fun w h => Nat.le_trans (hww.2 w h).1 (by decide)⟩
 have hlm : (ws.map D.str).length = ws.length := List.length_map _
 have hp := paper_ok (a1, b1) hn (fun w h => (hww.2 w h).1)
 walk_at "r"
 rw [e1]
 intro hs1
 walk_at "r"
 rintro ⟨a, b⟩ hs
 generalize hzs : keptP ws (a1, b1) = zs at *
 generalize hL : (leftP ws (a1, b1)).1 = L at *
 have hzm : (zs.map D.int).length = zs.length := List.length_map _
 have hLm : (rowsD L).length = L.length := List.length_map _
 have hz20 := hp.lz
 have hL20 := hp.ll
 have hb1 : zs.length ≤ 20 ∧ L.length ≤ 20 := ⟨hz20, hL20⟩
 have hb2 : ∀ z ∈ zs, -100 ≤ z ∧ z ≤ 100 := fun z h => by have := hp.bz z h; omega
 have hb3 := hp.tr
 have hT : Tri L := fun r hr => by
  obtain ⟨a, b, c, e, h⟩ := hb3 r hr
  exact ⟨a, b, c, e, fun z hz => by have := h z hz; omega⟩
 have hrows : ∀ M : List (List Int), Tri M → ∀ r ∈ rowsD M, ∃ xs : List D, r = .lst xs ∧ xs.length ≤ 1000 := fun M hM r hr => by
  obtain ⟨x, hx, rfl⟩ := List.mem_map.mp hr
  obtain ⟨a, b, c, rfl, _⟩ := hM x hx
  exact ⟨_, rfl, by show 3 ≤ 1000; decide⟩
 have hKr := hrows L hT
 walk_at "r"
 rintro d e ⟨a, b⟩ hs hd ⟨rs, he, hrl, hrr⟩
 obtain ⟨hPI, hPB⟩ := kinds_ok (ws := ws) hd he hrl hrr hT (by omega) (by omega)
 rw [hp.rz, hp.pa] at hPB
 walk_at "r"
 refine ⟨ws, .inl rfl, hw2, hPI, hPB, ?_⟩
 walk_at "r"
 have hmax : (if (if (ns.length : Int) - 2 < 14 then (ns.length : Int) - 2 else 14) > 4 then if (ns.length : Int) - 2 < 14 then (ns.length : Int) - 2 else 14 else 4).toNat ≤ 14 := by
  split
  ·split <;> omega
  ·omega
 refine ⟨fun k ρ => ∃ v1 v6 v7 v8 v9 : Option PV, ρ = [some (.dat (.scr ns)), v1, some (.dat (.lst (ws.map .str))), some (.dat (.lst (ws.map .str))), some (.dat (.lst (zs.map .int))), some (.dat (.lst (rowsD L))), v6, v7, v8, v9], ⟨_, _, _, none, none, rfl⟩, ?_, ?_⟩
 ·rintro k ρ _ hk rfl ⟨v1, v6, v7, v8, v9, rfl⟩
  have hk4 : k < 14 := Nat.lt_of_lt_of_le hk hmax
  clear hk hmax hPI hPB hrr hrl he hd hs
  walk_at "r"
  intro hs
  generalize strN ns (2 + (k : Int)) = p at hs ⊢
  obtain ⟨a, b⟩ := p
  walk_at "r"
  rintro ys M ⟨a, b⟩ hs ⟨hyl, hMl⟩ hyb hMT
  have hym : (ys.map D.int).length = ys.length := List.length_map _
  have hMm : (rowsD M).length = M.length := List.length_map _
  have hKm := hrows M hMT
  walk_at "r"
  rintro d e ⟨a, b⟩ hs hd ⟨rs, he, hrl, hrr⟩
  obtain ⟨hPI, hPB⟩ := kinds_ok (ws := ws) hd he hrl hrr hMT (by omega) (by omega)
  have hl30 : ys.length ≤ 30 ∧ M.length ≤ 30 := ⟨by omega, by omega⟩
  have hM3 : ∀ r ∈ M, ∃ a b c : Int, r = [a, b, c] := fun r h => by
   obtain ⟨a, b, c, e, _⟩ := hMT r h
   exact ⟨a, b, c, e⟩
  walk_at "r"
  refine ⟨ws, .inl rfl, hw2, hPI, hPB, ?_⟩
  walk_at "r"
  exact ⟨_, _, _, _, _, rfl⟩
 ·rintro ρ ⟨v1, v6, v7, v8, v9, rfl⟩
  clear hPI hPB hrr hrl he hd hs hmax
  have hsh := Sh.lstS hps.lts
  have q1 := EqOk.of hsh hsh
  have d1 := deq_self hsh
  have q2 := EqOk.of (Sh.lstI zs) (Sh.lstI zs)
  have d2 := deq_self (Sh.lstI zs)
  have q3 := EqOk.of (rowsD_fl L) (rowsD_fl L)
  have d3 := deq_self (rowsD_fl L)
  have hPB : paperB ws (.lst (zs.map .int)) (.lst (rowsD L)) = true := by
   rw [(kinds_ok (ws := ws) (SqOf.lst _) (SqOf.lst (rowsD L)) rfl (fun k _ => .inl rfl) hT (by omega) (by omega)).2, hp.rz, hp.pa]; rfl
  have hPI := (kinds_ok (ws := ws) (SqOf.lst (zs.map .int)) (SqOf.lst (rowsD L)) rfl (fun k _ => .inl rfl) hT (by omega) (by omega)).1
  walk_at "r"
  rw [e1]
  intro hs1
  walk_at "r"
  rintro ⟨a, b⟩ hs
  walk_at "r"
  rw [e1]
  intro hs1
  walk_at "r"
  rintro ⟨a, b⟩ hs
  rw [hzs, hL]
  walk_at "r"
  refine ⟨ws, .inr rfl, hw2, hPI, hPB, ?_⟩
  walk_at "r"
  exact q
theorem rd_law : ∀ ds Q, pc_law ds Q → RunP pp_law nn_law ds Q := fun ds Q h => by
 obtain ⟨ns, rfl, h63, q⟩ := h
 exact rd_law_ ns h63 Q q
section
variable {P : Program} {w : World} {K : PySem.W.Frag} {mg : Str → Option Value} {base : Heap}
theorem ln_is_row : ∀ ds Q, pc_is_row ds Q → ds.length = 1 := fun ds Q h => by unfold pc_is_row at h; split at h; (first | rfl | exact h.elim); (first | rfl | exact h.elim)
set_option maxHeartbeats 4000000 in
theorem ok_is_row (D : DefAt K mg "is_row" s_is_row) (T : Txt mg) : Cal P w K mg base 1 "is_row" ["thing"] (spP K pc_is_row) := by
 refine D.ok sc_is_row (fun _ _ _ _ _ _ us hl => match us, hl with | [_], _ => rfl) (fun vs H Q E h => ?_) (fun f cdv A outer s H vs Q E hr h => ?_)
 ·exact lenP ln_is_row h
 ·have hu := hr.units
  exact ⟨_, (pss_one (ps_ret (pe_callB2 (u_isT K rfl) rfl T.b_isinstance boot_isinstance (paC (pv 0) (paC (pe_tup (paC (pe_bltn (v := .ty "list") rfl T.b_list boot_list rfl) (paC (pe_bltn (v := .ty "tuple") rfl T.b_tuple boot_tuple rfl) pa_nil))) pa_nil))))), fnP (K := K) (c := pc_is_row) (ps := pp_is_row) (N := ["thing"]) (ls_ret (le_isT .list .tuple isT_list_tuple (la_sl (i := 0)))) (fun ds Q h => Nat.le_trans (Nat.le_of_eq (ln_is_row ds Q h)) (by decide)) rd_is_row h⟩
theorem ln_is_number : ∀ ds Q, pc_is_number ds Q → ds.length = 1 := fun ds Q h => by unfold pc_is_number at h; split at h; (first | rfl | exact h.elim); (first | rfl | exact h.elim)
set_option maxHeartbeats 4000000 in
theorem ok_is_number (D : DefAt K mg "is_number" s_is_number) (T : Txt mg) : Cal P w K mg base 1 "is_number" ["thing"] (spP K pc_is_number) := by
 refine D.ok sc_is_number (fun _ _ _ _ _ _ us hl => match us, hl with | [_], _ => rfl) (fun vs H Q E h => ?_) (fun f cdv A outer s H vs Q E hr h => ?_)
 ·exact lenP ln_is_number h
 ·have hu := hr.units
  exact ⟨_, (pss_one (ps_ret (pe_and (pe_callB2 (u_isI K rfl) rfl T.b_isinstance boot_isinstance (paC (pv 0) (paC (pe_bltn (v := .ty "int") rfl T.b_int boot_int rfl) pa_nil))) (pe_one (pe_not (pe_callB2 (u_isI K rfl) rfl T.b_isinstance boot_isinstance (paC (pv 0) (paC (pe_bltn (v := .ty "bool") rfl T.b_bool boot_bool rfl) pa_nil)))))))), fnP (K := K) (c := pc_is_number) (ps := pp_is_number) (N := ["thing"]) (ls_ret (le_and (le_isI .int (la_sl (i := 0))) (le_not (le_isI .bool (la_sl (i := 0)))))) (fun ds Q h => Nat.le_trans (Nat.le_of_eq (ln_is_number ds Q h)) (by decide)) rd_is_number h⟩
theorem ln_are_numbers : ∀ ds Q, pc_are_numbers ds Q → ds.length = 2 := fun ds Q h => by unfold pc_are_numbers at h; split at h; (first | rfl | exact h.elim); (first | rfl | exact h.elim)
set_option maxHeartbeats 4000000 in
theorem ok_are_numbers (D : DefAt K mg "are_numbers" s_are_numbers) (T : Txt mg) (C_is_number : Cal P w K mg base 1 "is_number" ["thing"] (spP K pc_is_number)) (C_is_row : Cal P w K mg base 1 "is_row" ["thing"] (spP K pc_is_row)) : Cal P w K mg base 2 "are_numbers" ["thing", "many"] (spP K pc_are_numbers) := by
 refine D.ok sc_are_numbers (fun _ _ _ _ _ _ us hl => match us, hl with | [_, _], _ => rfl) (fun vs H Q E h => ?_) (fun f cdv A outer s H vs Q E hr h => ?_)
 ·exact lenP ln_are_numbers h
 ·have hu := hr.units
  exact ⟨_, (pss_one (ps_ret (pe_and (pe_cal2 C_is_row (hr.mono (by decide)) (paC (pv 0) pa_nil)) (pe_and (pe_cmpR (u_eq2 K rfl hu) (pe_callB2 (u_len K rfl) rfl T.b_len PySem.boot_len (paC (pv 0) pa_nil)) (pv 1) (nomark _)) (pe_one (pe_callB2 (u_all K rfl rfl) rfl T.b_all boot_all (paC (pe_comp (wi := (iAny K (tVar 0))) (g := (gName 0)) (tts := tYes) (te := (tCall (spP K pc_is_number) [] E0 (tCons (tVar 0) tNil))) ["item"] [none] rfl (pi_any K rfl (pv 0)) (fun _ _ _ _ => ⟨(pg_name (i := 0) (by show List.Nodup (["item"] : List Str); decide +kernel) rfl (by first | exact Or.inl rfl | exact Or.inr rfl)), pif_nil, (pe_cal2 C_is_number (hr.mono (by decide)) (paC (pv 0) pa_nil))⟩) (by kernel_rfl)) pa_nil))))))), fnP (K := K) (c := pc_are_numbers) (ps := pp_are_numbers) (N := ["thing", "many"]) (ls_ret (le_and (le_callP (c := pc_is_row) (las_cons (la_fz (le_var (i := 0))) las_nil)) (le_and (le_op lo_eq2 (la_fz (le_cb lc_len (las_cons (la_sl (i := 0)) las_nil))) (la_sl (i := 1))) (le_cb lc_all (las_cons (la_fz (le_comp (ix := [none]) rfl (li_any (le_var (i := 0))) (fun fs hc => (lgd_name (i := 0) (ncap hc (by decide)))) lt_yes (le_callP (c := pc_is_number) (las_cons (la_fz (le_var (i := 0))) las_nil)))) las_nil))))) (fun ds Q h => Nat.le_trans (Nat.le_of_eq (ln_are_numbers ds Q h)) (by decide)) rd_are_numbers h⟩
theorem ln_is_whole : ∀ ds Q, pc_is_whole ds Q → ds.length = 3 := fun ds Q h => by unfold pc_is_whole at h; split at h; (first | rfl | exact h.elim); (first | rfl | exact h.elim)
set_option maxHeartbeats 4000000 in
theorem ok_is_whole (D : DefAt K mg "is_whole" s_is_whole) (T : Txt mg) (C_is_number : Cal P w K mg base 1 "is_number" ["thing"] (spP K pc_is_number)) : Cal P w K mg base 2 "is_whole" ["thing", "least", "most"] (spP K pc_is_whole) := by
 refine D.ok sc_is_whole (fun _ _ _ _ _ _ us hl => match us, hl with | [_, _, _], _ => rfl) (fun vs H Q E h => ?_) (fun f cdv A outer s H vs Q E hr h => ?_)
 ·exact lenP ln_is_whole h
 ·have hu := hr.units
  exact ⟨_, (pss_one (ps_ret (pe_and (pe_cal2 C_is_number (hr.mono (by decide)) (paC (pv 0) pa_nil)) (pe_one (pe_chain u_le u_le (pv 1) (pv 0) (pv 2)))))), fnP (K := K) (c := pc_is_whole) (ps := pp_is_whole) (N := ["thing", "least", "most"]) (ls_ret (le_and (le_callP (c := pc_is_number) (las_cons (la_fz (le_var (i := 0))) las_nil)) (le_chain lo_le lo_le (la_sl (i := 1)) (la_sl (i := 0)) (la_sl (i := 2))))) (fun ds Q h => Nat.le_trans (Nat.le_of_eq (ln_is_whole ds Q h)) (by decide)) rd_is_whole h⟩
theorem ln_stands_at : ∀ ds Q, pc_stands_at ds Q → ds.length = 3 := fun ds Q h => by unfold pc_stands_at at h; split at h; (first | rfl | exact h.elim); (first | rfl | exact h.elim)
set_option maxHeartbeats 4000000 in
theorem ok_stands_at (D : DefAt K mg "stands_at" s_stands_at) (T : Txt mg) : Cal P w K mg base 1 "stands_at" ["text", "piece", "place"] (spP K pc_stands_at) := by
 refine D.ok sc_stands_at (fun _ _ _ _ _ _ us hl => match us, hl with | [_, _, _], _ => rfl) (fun vs H Q E h => ?_) (fun f cdv A outer s H vs Q E hr h => ?_)
 ·exact lenP ln_stands_at h
 ·have hu := hr.units
  exact ⟨_, (pss_cons (ps_if (pt_not (pt_chain u_le u_le pe_int (pv 2) (pe_op u_sub (pe_callB2 (u_len K rfl) rfl T.b_len PySem.boot_len (paC (pv 0) pa_nil)) (pe_callB2 (u_len K rfl) rfl T.b_len PySem.boot_len (paC (pv 1) pa_nil))))) (pss_one (ps_ret pe_bl)) pss_nil) (pss_one (ps_ret (pe_cmpR (u_eq2 K rfl hu) (pe_slice (u_sl K rfl) (pv 0) (po_some (pv 2)) (po_some (pe_op (u_add K rfl) (pv 2) (pe_callB2 (u_len K rfl) rfl T.b_len PySem.boot_len (paC (pv 1) pa_nil))))) (pv 1) (nomark _))))), fnP (K := K) (c := pc_stands_at) (ps := pp_stands_at) (N := ["text", "piece", "place"]) (ls_seq (ls_if (lt_not (lt_T (le_chain lo_le lo_le (la_fz le_int) (la_sl (i := 2)) (la_fz (le_op lo_sub (la_fz (le_cb lc_len (las_cons (la_sl (i := 0)) las_nil))) (la_fz (le_cb lc_len (las_cons (la_sl (i := 1)) las_nil)))))))) (ls_ret le_bl) ls_next) (ls_ret (le_op lo_eq2 (la_fz (le_slice (la_sl (i := 0)) (lpo_some (le_var (i := 2))) (lpo_some (le_op lo_add (la_sl (i := 2)) (la_fz (le_cb lc_len (las_cons (la_sl (i := 1)) las_nil))))))) (la_sl (i := 1))))) (fun ds Q h => Nat.le_trans (Nat.le_of_eq (ln_stands_at ds Q h)) (by decide)) rd_stands_at h⟩
theorem ln_first_place : ∀ ds Q, pc_first_place ds Q → ds.length = 2 := fun ds Q h => by unfold pc_first_place at h; split at h; (first | rfl | exact h.elim); (first | rfl | exact h.elim)
set_option maxHeartbeats 4000000 in
theorem ok_first_place (D : DefAt K mg "first_place" s_first_place) (T : Txt mg) : Cal P w K mg base 1 "first_place" ["text", "piece"] (spP K pc_first_place) := by
 refine D.ok sc_first_place (fun _ _ _ _ _ _ us hl => match us, hl with | [_, _], _ => rfl) (fun vs H Q E h => ?_) (fun f cdv A outer s H vs Q E hr h => ?_)
 ·exact lenP ln_first_place h
 ·have hu := hr.units
  exact ⟨_, (pss_one (ps_ret (pe_bmK K rfl PySem.F.plainAttrs_str PySem.F.slot_str_find PySem.F.type_str_find um_find1 (pv 0) (paC (pv 1) pa_nil)))), fnP (K := K) (c := pc_first_place) (ps := pp_first_place) (N := ["text", "piece"]) (ls_ret (le_sm lm_find1 (le_var (i := 0)) (las_cons (la_sl (i := 1)) las_nil))) (fun ds Q h => Nat.le_trans (Nat.le_of_eq (ln_first_place ds Q h)) (by decide)) rd_first_place h⟩
theorem ln_stands_within : ∀ ds Q, pc_stands_within ds Q → ds.length = 2 := fun ds Q h => by unfold pc_stands_within at h; split at h; (first | rfl | exact h.elim); (first | rfl | exact h.elim)
set_option maxHeartbeats 4000000 in
theorem ok_stands_within (D : DefAt K mg "stands_within" s_stands_within) (T : Txt mg) (C_first_place : Cal P w K mg base 1 "first_place" ["text", "piece"] (spP K pc_first_place)) : Cal P w K mg base 2 "stands_within" ["piece", "other"] (spP K pc_stands_within) := by
 refine D.ok sc_stands_within (fun _ _ _ _ _ _ us hl => match us, hl with | [_, _], _ => rfl) (fun vs H Q E h => ?_) (fun f cdv A outer s H vs Q E hr h => ?_)
 ·exact lenP ln_stands_within h
 ·have hu := hr.units
  exact ⟨_, (pss_one (ps_ret (pe_cmpR u_ge (pe_cal2 C_first_place (hr.mono (by decide)) (paC (pv 1) (paC (pv 0) pa_nil))) pe_int (nomark _)))), fnP (K := K) (c := pc_stands_within) (ps := pp_stands_within) (N := ["piece", "other"]) (ls_ret (le_op lo_ge (la_fz (le_callP (c := pc_first_place) (las_cons (la_fz (le_var (i := 1))) (las_cons (la_fz (le_var (i := 0))) las_nil)))) (la_fz le_int))) (fun ds Q h => Nat.le_trans (Nat.le_of_eq (ln_stands_within ds Q h)) (by decide)) rd_stands_within h⟩
theorem ln_are_rising_indexes : ∀ ds Q, pc_are_rising_indexes ds Q → ds.length = 2 := fun ds Q h => by unfold pc_are_rising_indexes at h; split at h; (first | rfl | exact h.elim); (first | rfl | exact h.elim)
set_option maxHeartbeats 4000000 in
theorem ok_are_rising_indexes (D : DefAt K mg "are_rising_indexes" s_are_rising_indexes) (T : Txt mg) (C_is_row : Cal P w K mg base 1 "is_row" ["thing"] (spP K pc_is_row)) (C_is_whole : Cal P w K mg base 2 "is_whole" ["thing", "least", "most"] (spP K pc_is_whole)) : Cal P w K mg base 3 "are_rising_indexes" ["thing", "many"] (spP K pc_are_rising_indexes) := by
 refine D.ok sc_are_rising_indexes (fun _ _ _ _ _ _ us hl => match us, hl with | [_, _], _ => rfl) (fun vs H Q E h => ?_) (fun f cdv A outer s H vs Q E hr h => ?_)
 ·exact lenP ln_are_rising_indexes h
 ·have hu := hr.units
  exact ⟨_, (pss_cons (ps_if (PW.pt (pw_or (pt_not (pt_val2 (pe_cal2 C_is_row (hr.mono (by decide)) (paC (pv 0) pa_nil)))) (pw_or1 (pt_not (pt_val2 (pe_callB2 (u_all K rfl rfl) rfl T.b_all boot_all (paC (pe_comp (wi := (iAny K (tVar 0))) (g := (gName 0)) (tts := tYes) (te := (tCall (spP K pc_is_whole) [] E0 (tCons (tVar 0) (tCons (tC (V.int 0)) (tCons (tOp rSubU (tVar 1) (tC (V.int 1))) tNil))))) ["item", "many"] [none, some 1] rfl (pi_any K rfl (pv 0)) (fun _ _ _ _ => ⟨(pg_name (i := 0) (by show List.Nodup (["item", "many"] : List Str); decide +kernel) rfl (by first | exact Or.inl rfl | exact Or.inr rfl)), pif_nil, (pe_cal2 C_is_whole (hr.mono (by decide)) (paC (pv 0) (paC pe_int (paC (pe_op u_sub (pv 1) pe_int) pa_nil))))⟩) (by kernel_rfl)) pa_nil))))))) (pss_one (ps_ret pe_bl)) pss_nil) (pss_one (ps_ret (pe_callB2 (u_all K rfl rfl) rfl T.b_all boot_all (paC (pe_comp (wi := (iZipU K (tCons (tVar 0) (tCons (tSl (rSlU K) (tVar 0) (tPart (tC (V.int 1))) tNoPart) tNil)))) (g := (gRow K 2 (gCons (gName 0) (gCons (gName 1) gNil)))) (tts := tYes) (te := (tOp rLtU (tVar 0) (tVar 1))) ["one", "other"] [none, none] rfl (pi_zipU K rfl rfl T.b_zip (paC (pv 0) (paC (pe_slice (u_sl K rfl) (pv 0) (po_some pe_int) po_none) pa_nil))) (fun _ _ _ _ => ⟨(pg_row K rfl (n := 2) rfl (pgs_cons (pg_name (i := 0) (by show List.Nodup (["one", "other"] : List Str); decide +kernel) rfl (by first | exact Or.inl rfl | exact Or.inr rfl)) (pgs_cons (pg_name (i := 1) (by show List.Nodup (["one", "other"] : List Str); decide +kernel) rfl (by first | exact Or.inl rfl | exact Or.inr rfl)) pgs_nil))), pif_nil, (pe_cmpR u_lt (pv 0) (pv 1) (nomark _))⟩) (by kernel_rfl)) pa_nil))))), fnP (K := K) (c := pc_are_rising_indexes) (ps := pp_are_rising_indexes) (N := ["thing", "many"]) (ls_seq (ls_if (lt_or (lt_not (lt_B (le_callP (c := pc_is_row) (las_cons (la_fz (le_var (i := 0))) las_nil)))) (lt_not (lt_B (le_cb lc_all (las_cons (la_fz (le_comp (ix := [none, some 1]) rfl (li_any (le_var (i := 0))) (fun fs hc => (lgd_name (i := 0) (ncap hc (by decide)))) lt_yes (le_callP (c := pc_is_whole) (las_cons (la_fz (le_var (i := 0))) (las_cons (la_fz le_int) (las_cons (la_fz (le_op lo_sub (la_sl (i := 1)) (la_fz le_int))) las_nil)))))) las_nil))))) (ls_ret le_bl) ls_next) (ls_ret (le_cb lc_all (las_cons (la_fz (le_comp (ix := [none, none]) rfl (li_zipU (las_cons (la_fz (le_var (i := 0))) (las_cons (la_fz (le_slice (la_sl (i := 0)) (lpo_some le_int) lpo_none)) las_nil))) (fun fs hc => (lgd_row (lgs_cons (lgd_name (i := 0) (ncap hc (by decide))) (lgs_cons (lgd_name (i := 1) (ncap hc (by decide))) lgs_nil)))) lt_yes (le_op lo_lt (la_sl (i := 0)) (la_sl (i := 1))))) las_nil)))) (fun ds Q h => Nat.le_trans (Nat.le_of_eq (ln_are_rising_indexes ds Q h)) (by decide)) rd_are_rising_indexes h⟩
theorem ln_are_apart : ∀ ds Q, pc_are_apart ds Q → ds.length = 1 := fun ds Q h => by unfold pc_are_apart at h; split at h; (first | rfl | exact h.elim); (first | rfl | exact h.elim)
set_option maxHeartbeats 4000000 in
theorem ok_are_apart (D : DefAt K mg "are_apart" s_are_apart) (T : Txt mg) (C_stands_within : Cal P w K mg base 2 "stands_within" ["piece", "other"] (spP K pc_stands_within)) : Cal P w K mg base 3 "are_apart" ["words"] (spP K pc_are_apart) := by
 refine D.ok sc_are_apart (fun _ _ _ _ _ _ us hl => match us, hl with | [_], _ => rfl) (fun vs H Q E h => ?_) (fun f cdv A outer s H vs Q E hr h => ?_)
 ·exact lenP ln_are_apart h
 ·have hu := hr.units
  exact ⟨_, (pss_cons (ps_set (i := 1) sc_are_apart.nd rfl (by first | exact Or.inl rfl | exact Or.inr rfl) (pe_callTy2 (u_rngL K rfl rfl) rfl T.b_list boot_list (paC (pe_range1 rfl T.b_range (paC (pe_callB2 (u_len K rfl) rfl T.b_len PySem.boot_len (paC (pv 0) pa_nil)) pa_nil)) pa_nil))) (pss_one (ps_ret (pe_not (pe_callB2 (u_any K rfl rfl) rfl T.b_any boot_any (paC (pe_comp2 (wi := (iAny K (tVar 1))) (g := (gName 0)) (tts := tYes) (wi2 := (iAny K (tVar 3))) (g2 := (gName 1)) (tts2 := (tTest (tOp (rEqU2 K true) (tVar 0) (tVar 1)))) (te := (tCall (spP K pc_stands_within) [] E0 (tCons (tOp (rIxU K) (tVar 2) (tVar 0)) (tCons (tOp (rIxU K) (tVar 2) (tVar 1)) tNil)))) ["i", "j", "words", "numbers"] [none, none, some 0, some 1] rfl (pi_any K rfl (pv 1)) (fun _ _ _ _ => ⟨(pg_name (i := 0) (by show List.Nodup (["i", "j", "words", "numbers"] : List Str); decide +kernel) rfl (by first | exact Or.inl rfl | exact Or.inr rfl)), pif_nil, (pi_any K rfl (pv 3)), (pg_name (i := 1) (by show List.Nodup (["i", "j", "words", "numbers"] : List Str); decide +kernel) rfl (by first | exact Or.inl rfl | exact Or.inr rfl)), (pif_one (pt_cmpR (u_ne2 K rfl hu) (pv 0) (pv 1) (nomark _))), (pe_cal2 C_stands_within (hr.mono (by decide)) (paC (pe_ix (u_ix K rfl) (pv 2) (pv 0) (fun _ _ => rfl)) (paC (pe_ix (u_ix K rfl) (pv 2) (pv 1) (fun _ _ => rfl)) pa_nil)))⟩) (by kernel_rfl)) pa_nil)))))), fnP (K := K) (c := pc_are_apart) (ps := pp_are_apart) (N := ["words", "numbers"]) (ls_seq (ls_asg (le_rngL1 false (las_cons (la_fz (le_cb lc_len (las_cons (la_sl (i := 0)) las_nil))) las_nil)) (lg_name (i := 1) rfl)) (ls_ret (le_not (le_cb lc_any (las_cons (la_fz (le_comp2 (ix := [none, none, some 0, some 1]) rfl (li_any (le_var (i := 1))) (fun fs hc => (lgd_name (i := 0) (ncap hc (by decide)))) lt_yes (li_any (le_var (i := 3))) (fun fs hc => (lgd_name (i := 1) (ncap hc (by decide)))) (lt_T (le_op lo_ne2 (la_sl (i := 0)) (la_sl (i := 1)))) (le_callP (c := pc_stands_within) (las_cons (la_fz (le_op lo_ix (la_sl (i := 2)) (la_sl (i := 0)))) (las_cons (la_fz (le_op lo_ix (la_sl (i := 2)) (la_sl (i := 1)))) las_nil))))) las_nil))))) (fun ds Q h => Nat.le_trans (Nat.le_of_eq (ln_are_apart ds Q h)) (by decide)) rd_are_apart h⟩
theorem ln_is_left_paper : ∀ ds Q, pc_is_left_paper ds Q → ds.length = 3 := fun ds Q h => by unfold pc_is_left_paper at h; split at h; (first | rfl | exact h.elim); (first | rfl | exact h.elim)
set_option maxHeartbeats 4000000 in
theorem ok_is_left_paper (D : DefAt K mg "is_left_paper" s_is_left_paper) (T : Txt mg) (C_are_apart : Cal P w K mg base 3 "are_apart" ["words"] (spP K pc_are_apart)) (C_are_numbers : Cal P w K mg base 2 "are_numbers" ["thing", "many"] (spP K pc_are_numbers)) (C_are_rising_indexes : Cal P w K mg base 3 "are_rising_indexes" ["thing", "many"] (spP K pc_are_rising_indexes)) (C_is_row : Cal P w K mg base 1 "is_row" ["thing"] (spP K pc_is_row)) (C_stands_at : Cal P w K mg base 1 "stands_at" ["text", "piece", "place"] (spP K pc_stands_at)) : Cal P w K mg base 4 "is_left_paper" ["pieces", "kept", "left"] (spP K pc_is_left_paper) := by
 refine D.ok sc_is_left_paper (fun _ _ _ _ _ _ us hl => match us, hl with | [_, _, _], _ => rfl) (fun vs H Q E h => ?_) (fun f cdv A outer s H vs Q E hr h => ?_)
 ·exact lenP ln_is_left_paper h
 ·have hu := hr.units
  exact ⟨_, (pss_cons (ps_set (i := 3) sc_is_left_paper.nd rfl (by first | exact Or.inl rfl | exact Or.inr rfl) (pe_callB2 (u_len K rfl) rfl T.b_len PySem.boot_len (paC (pv 0) pa_nil))) (pss_cons (ps_if (pt_not (pt_val2 (pe_cal2 C_are_rising_indexes (hr.mono (by decide)) (paC (pv 1) (paC (pv 3) pa_nil))))) (pss_one (ps_ret pe_bl)) pss_nil) (pss_cons (ps_if (PW.pt (pw_or (pt_not (pt_val2 (pe_cal2 C_is_row (hr.mono (by decide)) (paC (pv 2) pa_nil)))) (pw_or1 (pt_not (pt_val2 (pe_callB2 (u_all K rfl rfl) rfl T.b_all boot_all (paC (pe_comp (wi := (iAny K (tVar 2))) (g := (gName 0)) (tts := tYes) (te := (tCall (spP K pc_are_numbers) [] E0 (tCons (tVar 0) (tCons (tC (V.int 3)) tNil)))) ["row"] [none] rfl (pi_any K rfl (pv 2)) (fun _ _ _ _ => ⟨(pg_name (i := 0) (by show List.Nodup (["row"] : List Str); decide +kernel) rfl (by first | exact Or.inl rfl | exact Or.inr rfl)), pif_nil, (pe_cal2 C_are_numbers (hr.mono (by decide)) (paC (pv 0) (paC pe_int pa_nil)))⟩) (by kernel_rfl)) pa_nil))))))) (pss_one (ps_ret pe_bl)) pss_nil) (pss_cons (ps_setC (wi := (iAny K (tVar 2))) (g := (gName 0)) (tts := tYes) (te := (tOp (rIxU K) (tVar 0) (tC (V.int 0)))) (i := 4) ["row"] [none] sc_is_left_paper.nd rfl (Or.inl rfl) rfl (pi_any K rfl (pv 2)) (fun _ _ _ _ => ⟨(pg_name (i := 0) (by show List.Nodup (["row"] : List Str); decide +kernel) rfl (by first | exact Or.inl rfl | exact Or.inr rfl)), pif_nil, (pe_ix (u_ix K rfl) (pv 0) pe_int (fun _ _ => rfl))⟩) (by kernel_rfl)) (pss_cons (ps_if (PW.pt (pw_or (pt_not (pt_val2 (pe_cal2 C_are_rising_indexes (hr.mono (by decide)) (paC (pv 4) (paC (pv 3) pa_nil))))) (pw_or1 (pt_cmpR (u_ne2 K rfl hu) (pe_callB2 (u_sortU K rfl) rfl T.b_sorted boot_sorted (paC (pe_op (u_add K rfl) (pe_callTy2 (u_list K rfl) rfl T.b_list boot_list (paC (pv 1) pa_nil)) (pv 4)) pa_nil)) (pe_callTy2 (u_rngL K rfl rfl) rfl T.b_list boot_list (paC (pe_range1 rfl T.b_range (paC (pv 3) pa_nil)) pa_nil)) (nomark _))))) (pss_one (ps_ret pe_bl)) pss_nil) (pss_cons (ps_for PassesOwn.never rfl (pi_any K rfl (pv 2)) (pg_row K rfl (n := 3) rfl (pgs_cons (pg_name (i := 5) sc_is_left_paper.nd rfl (by first | exact Or.inl rfl | exact Or.inr rfl)) (pgs_cons (pg_name (i := 6) sc_is_left_paper.nd rfl (by first | exact Or.inl rfl | exact Or.inr rfl)) (pgs_cons (pg_name (i := 7) sc_is_left_paper.nd rfl (by first | exact Or.inl rfl | exact Or.inr rfl)) pgs_nil)))) (pss_one (ps_if (PW.pt (pw_or (pt_cmpR (u_notin K rfl) (pv 6) (pv 1) (by with_unfolding_all rfl)) (pw_or1 (pt_not (pt_val2 (pe_cal2 C_stands_at (hr.mono (by decide)) (paC (pe_ix (u_ix K rfl) (pv 0) (pv 6) (fun _ _ => rfl)) (paC (pe_ix (u_ix K rfl) (pv 0) (pv 5) (fun _ _ => rfl)) (paC (pv 7) pa_nil))))))))) (pss_one (ps_ret pe_bl)) pss_nil))) (pss_one (ps_ret (pe_cal2 C_are_apart (hr.mono (by decide)) (paC (pe_comp (wi := (iAny K (tVar 1))) (g := (gName 0)) (tts := tYes) (te := (tOp (rIxU K) (tVar 1) (tVar 0))) ["at", "pieces"] [none, some 0] rfl (pi_any K rfl (pv 1)) (fun _ _ _ _ => ⟨(pg_name (i := 0) (by show List.Nodup (["at", "pieces"] : List Str); decide +kernel) rfl (by first | exact Or.inl rfl | exact Or.inr rfl)), pif_nil, (pe_ix (u_ix K rfl) (pv 1) (pv 0) (fun _ _ => rfl))⟩) (by kernel_rfl)) pa_nil)))))))))), fnP (K := K) (c := pc_is_left_paper) (ps := pp_is_left_paper) (N := ["pieces", "kept", "left", "many", "out", "at", "holder", "place"]) (ls_seq (ls_asg (le_cb lc_len (las_cons (la_sl (i := 0)) las_nil)) (lg_name (i := 3) rfl)) (ls_seq (ls_if (lt_not (lt_B (le_callP (c := pc_are_rising_indexes) (las_cons (la_fz (le_var (i := 1))) (las_cons (la_fz (le_var (i := 3))) las_nil))))) (ls_ret le_bl) ls_next) (ls_seq (ls_if (lt_or (lt_not (lt_B (le_callP (c := pc_is_row) (las_cons (la_fz (le_var (i := 2))) las_nil)))) (lt_not (lt_B (le_cb lc_all (las_cons (la_fz (le_comp (ix := [none]) rfl (li_any (le_var (i := 2))) (fun fs hc => (lgd_name (i := 0) (ncap hc (by decide)))) lt_yes (le_callP (c := pc_are_numbers) (las_cons (la_fz (le_var (i := 0))) (las_cons (la_fz le_int) las_nil))))) las_nil))))) (ls_ret le_bl) ls_next) (ls_seq (ls_asg (le_comp (ix := [none]) rfl (li_any (le_var (i := 2))) (fun fs hc => (lgd_name (i := 0) (ncap hc (by decide)))) lt_yes (le_op lo_ix (la_sl (i := 0)) (la_fz le_int))) (lg_name (i := 4) rfl)) (ls_seq (ls_if (lt_or (lt_not (lt_B (le_callP (c := pc_are_rising_indexes) (las_cons (la_fz (le_var (i := 4))) (las_cons (la_fz (le_var (i := 3))) las_nil))))) (lt_T (le_op lo_ne2 (la_fz (le_cb lc_sortU (las_cons (la_fz (le_op lo_add (la_fz (le_cb lc_list (las_cons (la_sl (i := 1)) las_nil))) (la_sl (i := 4)))) las_nil))) (la_fz (le_rngL1 false (las_cons (la_fz (le_var (i := 3))) las_nil)))))) (ls_ret le_bl) ls_next) (ls_seq (ls_for (li_any (le_var (i := 2))) (lgd_row (lgs_cons (lgd_name (i := 5) rfl) (lgs_cons (lgd_name (i := 6) rfl) (lgs_cons (lgd_name (i := 7) rfl) lgs_nil)))) (ls_if (lt_or (lt_T (le_op lo_in (la_sl (i := 6)) (la_sl (i := 1)))) (lt_not (lt_B (le_callP (c := pc_stands_at) (las_cons (la_fz (le_op lo_ix (la_sl (i := 0)) (la_sl (i := 6)))) (las_cons (la_fz (le_op lo_ix (la_sl (i := 0)) (la_sl (i := 5)))) (las_cons (la_fz (le_var (i := 7))) las_nil))))))) (ls_ret le_bl) ls_next)) (ls_ret (le_callP (c := pc_are_apart) (las_cons (la_fz (le_comp (ix := [none, some 0]) rfl (li_any (le_var (i := 1))) (fun fs hc => (lgd_name (i := 0) (ncap hc (by decide)))) lt_yes (le_op lo_ix (la_sl (i := 1)) (la_sl (i := 0))))) las_nil))))))))) (fun ds Q h => Nat.le_trans (Nat.le_of_eq (ln_is_left_paper ds Q h)) (by decide)) rd_is_left_paper h⟩
theorem ln_law_stream : ∀ ds Q, pc_law_stream ds Q → ds.length = 2 := fun ds Q h => by unfold pc_law_stream at h; split at h; (first | rfl | exact h.elim); (first | rfl | exact h.elim)
set_option maxHeartbeats 4000000 in
theorem ok_law_stream (D : DefAt K mg "_law_stream" s_law_stream) (T : Txt mg) : Cal P w K mg base 1 "_law_stream" ["_law_script", "_law_k"] (spP K pc_law_stream) := by
 refine D.ok sc_law_stream (fun _ _ _ _ _ _ us hl => match us, hl with | [_, _], _ => rfl) (fun vs H Q E h => ?_) (fun f cdv A outer s H vs Q E hr h => ?_)
 ·exact lenP ln_law_stream h
 ·have hu := hr.units
  exact ⟨_, (pss_cons (ps_set (i := 2) sc_law_stream.nd rfl (by first | exact Or.inl rfl | exact Or.inr rfl) (pe_op (u_add K rfl) (pe_op u_mul (pe_op u_mul (pv 1) (pv 1)) pe_int) pe_int)) (pss_cons (ps_join (ps_if (pt_cmpR u_lt (pv 1) (pe_callB2 (u_len K rfl) rfl T.b_len PySem.boot_len (paC (pv 0) pa_nil)) (nomark _)) (pss_one (ps_set (i := 2) sc_law_stream.nd rfl (by first | exact Or.inl rfl | exact Or.inr rfl) (pe_callB2 u_abs rfl T.b_abs boot_abs (paC (pe_ix (u_ix K rfl) (pv 0) (pv 1) (fun _ _ => rfl)) pa_nil)))) pss_nil)) (pss_one (ps_ret (pe_lst (paC (pv 2) (paC (pe_op (u_add K rfl) (pe_op (u_add K rfl) (pe_op u_mod (pv 2) pe_int) (pe_op u_mul (pv 1) pe_int)) pe_int) pa_nil))))))), fnP (K := K) (c := pc_law_stream) (ps := pp_law_stream) (N := ["_law_script", "_law_k", "_law_cell"]) (ls_seq (ls_asg (le_op lo_add (la_fz (le_op lo_mul (la_fz (le_op lo_mul (la_sl (i := 1)) (la_sl (i := 1)))) (la_fz le_int))) (la_fz le_int)) (lg_name (i := 2) rfl)) (ls_seq (ls_join (ls_if (lt_T (le_op lo_lt (la_sl (i := 1)) (la_fz (le_cb lc_len (las_cons (la_sl (i := 0)) las_nil))))) (ls_asg (le_cb lc_abs (las_cons (la_fz (le_op lo_ix (la_sl (i := 0)) (la_sl (i := 1)))) las_nil)) (lg_name (i := 2) rfl)) ls_next)) (ls_ret (le_lst (las_cons (la_fz (le_var (i := 2))) (las_cons (la_fz (le_op lo_add (la_fz (le_op lo_add (la_fz (le_op lo_mod (la_sl (i := 2)) (la_fz le_int))) (la_fz (le_op lo_mul (la_sl (i := 1)) (la_fz le_int))))) (la_fz le_int))) las_nil)))))) (fun ds Q h => Nat.le_trans (Nat.le_of_eq (ln_law_stream ds Q h)) (by decide)) rd_law_stream h⟩
theorem ln_law_take : ∀ p ds Q, pc_law_take p ds Q → ds.length + 1 = 2 := fun p ds Q h => by unfold pc_law_take at h; split at h; (first | rfl | exact h.elim); (first | rfl | exact h.elim)
set_option maxHeartbeats 4000000 in
theorem ok_law_take (D : DefAt K mg "_law_take" s_law_take) (T : Txt mg) : Cal P w K mg base 1 "_law_take" ["_law_stream_here", "_law_most"] (spR K pc_law_take) := by
 refine D.ok sc_law_take (fun _ _ _ _ _ _ us hl => match us, hl with | [_, _], _ => rfl) (fun vs H Q E h => ?_) (fun f cdv A outer s H vs Q E hr h => ?_)
 ·exact lenR ln_law_take h
 ·have hu := hr.units
  exact ⟨_, (pss_cons (ps_if (pt_cmpR u_gt (pe_ix (u_ix K rfl) (pv 0) pe_int (fun _ _ => rfl)) pe_int (nomark _)) (pss_cons (ps_set (i := 2) sc_law_take.nd rfl (by first | exact Or.inl rfl | exact Or.inr rfl) (pe_op u_mod (pe_ix (u_ix K rfl) (pv 0) pe_int (fun _ _ => rfl)) (pv 1))) (pss_cons (ps_asg (pe_op u_fdiv (pe_ix (u_ix K rfl) (pv 0) pe_int (fun _ _ => rfl)) (pv 1)) (pg_sub (pv 0) pe_int set_list)) (pss_one (ps_ret (pv 2))))) pss_nil) (pss_cons (ps_asg (pe_op u_mod (pe_op (u_add K rfl) (pe_op u_mul (pe_ix (u_ix K rfl) (pv 0) pe_int (fun _ _ => rfl)) pe_int) pe_int) pe_int) (pg_sub (pv 0) pe_int set_list)) (pss_one (ps_ret (pe_op u_mod (pe_op u_mod (pe_op u_mul (pe_ix (u_ix K rfl) (pv 0) pe_int (fun _ _ => rfl)) (pe_ix (u_ix K rfl) (pv 0) pe_int (fun _ _ => rfl))) pe_int) (pv 1)))))), fnR (K := K) (c := pc_law_take) (ps := pp_law_take) (N := ["_law_stream_here", "_law_most", "_law_digit"]) (ls_seq (ls_if (lt_T (le_op lo_gt (la_fz (le_op lo_ix (la_sl (i := 0)) (la_fz le_int))) (la_fz le_int))) (ls_seq (ls_asg (le_op lo_mod (la_fz (le_op lo_ix (la_sl (i := 0)) (la_fz le_int))) (la_sl (i := 1))) (lg_name (i := 2) rfl)) (ls_seq (ls_setI (i := 0) (le_op lo_fdiv (la_fz (le_op lo_ix (la_sl (i := 0)) (la_fz le_int))) (la_sl (i := 1))) le_int) (ls_ret (le_var (i := 2))))) ls_next) (ls_seq (ls_setI (i := 0) (le_op lo_mod (la_fz (le_op lo_add (la_fz (le_op lo_mul (la_fz (le_op lo_ix (la_sl (i := 0)) (la_fz le_int))) (la_fz le_int))) (la_fz le_int))) (la_fz le_int)) le_int) (ls_ret (le_op lo_mod (la_fz (le_op lo_mod (la_fz (le_op lo_mul (la_fz (le_op lo_ix (la_sl (i := 0)) (la_fz le_int))) (la_fz (le_op lo_ix (la_sl (i := 0)) (la_fz le_int))))) (la_fz le_int))) (la_sl (i := 1)))))) (fun p ds Q h => Nat.le_trans (Nat.le_of_eq (ln_law_take p ds Q h)) (by decide)) rd_law_take h⟩
theorem ln_law_letters : ∀ p ds Q, pc_law_letters p ds Q → ds.length + 1 = 1 := fun p ds Q h => by unfold pc_law_letters at h; split at h; (first | rfl | exact h.elim); (first | rfl | exact h.elim)
set_option maxHeartbeats 4000000 in
theorem ok_law_letters (D : DefAt K mg "_law_letters" s_law_letters) (T : Txt mg) (C_law_take : Cal P w K mg base 1 "_law_take" ["_law_stream_here", "_law_most"] (spR K pc_law_take)) : Cal P w K mg base 2 "_law_letters" ["_law_stream_here"] (spR K pc_law_letters) := by
 refine D.ok sc_law_letters (fun _ _ _ _ _ _ us hl => match us, hl with | [_], _ => rfl) (fun vs H Q E h => ?_) (fun f cdv A outer s H vs Q E hr h => ?_)
 ·exact lenR ln_law_letters h
 ·have hu := hr.units
  exact ⟨_, (pss_cons (ps_set (i := 1) sc_law_letters.nd rfl (by first | exact Or.inl rfl | exact Or.inr rfl) (pe_strS (l := [97, 98, 99, 100, 101, 102, 103, 104, 105, 106, 107, 108, 109, 110, 111, 112, 113, 114, 115, 116, 117, 118, 119, 120, 121, 122]) (by decide +kernel))) (pss_cons (ps_set (i := 2) sc_law_letters.nd rfl (by first | exact Or.inl rfl | exact Or.inr rfl) (pe_cal2 C_law_take (hr.mono (by decide)) (paC (pv 0) (paC pe_int pa_nil)))) (pss_cons (ps_if (pt_cmpR (u_eq2 K rfl hu) (pv 2) pe_int (nomark _)) (pss_one (ps_ret (pv 1))) pss_nil) (pss_one (ps_ret (pe_bmK K rfl PySem.F.plainAttrs_str PySem.F.slot_str_join PySem.F.type_str_join (um_joinS K rfl) (pe_strS (l := []) (by decide +kernel)) (paC (pe_comp (wi := (iRng1 (tCons (tOp (rAddU K) (tC (V.int 2)) (tOp rModU (tVar 2) (tC (V.int 2)))) tNil))) (g := (gName 0)) (tts := tYes) (te := (tOp (rIxU K) (tVar 1) (tCall (spR K pc_law_take) [] E0 (tCons (tVar 2) (tCons (tC (V.int 26)) tNil))))) ["_law_k", "_law_alphabet", "_law_stream_here"] [none, some 1, some 0] rfl (pi_range1 rfl T.b_range (paC (pe_op (u_add K rfl) pe_int (pe_op u_mod (pv 2) pe_int)) pa_nil)) (fun _ _ _ _ => ⟨(pg_name (i := 0) (by show List.Nodup (["_law_k", "_law_alphabet", "_law_stream_here"] : List Str); decide +kernel) rfl (by first | exact Or.inl rfl | exact Or.inr rfl)), pif_nil, (pe_ix (u_ix K rfl) (pv 1) (pe_cal2 C_law_take (hr.mono (by decide)) (paC (pv 2) (paC pe_int pa_nil))) (fun _ _ => rfl))⟩) (by kernel_rfl)) pa_nil))))))), fnR (K := K) (c := pc_law_letters) (ps := pp_law_letters) (N := ["_law_stream_here", "_law_alphabet", "_law_way"]) (ls_seq (ls_asg (le_str (l := [97, 98, 99, 100, 101, 102, 103, 104, 105, 106, 107, 108, 109, 110, 111, 112, 113, 114, 115, 116, 117, 118, 119, 120, 121, 122])) (lg_name (i := 1) rfl)) (ls_seq (ls_asg (le_callR (i := 0) (las_cons (la_fz le_int) las_nil)) (lg_name (i := 2) rfl)) (ls_seq (ls_if (lt_T (le_op lo_eq2 (la_sl (i := 2)) (la_fz le_int))) (ls_ret (le_var (i := 1))) ls_next) (ls_ret (le_sm lm_joinS (le_str (l := [])) (las_cons (la_fz (le_comp (ix := [none, some 1, some 0]) rfl (li_r1 (las_cons (la_fz (le_op lo_add (la_fz le_int) (la_fz (le_op lo_mod (la_sl (i := 2)) (la_fz le_int))))) las_nil)) (fun fs hc => (lgd_name (i := 0) (ncap hc (by decide)))) lt_yes (le_op lo_ix (la_sl (i := 1)) (la_fz (le_callR (i := 2) (las_cons (la_fz le_int) las_nil)))))) las_nil)))))) (fun p ds Q h => Nat.le_trans (Nat.le_of_eq (ln_law_letters p ds Q h)) (by decide)) rd_law_letters h⟩
theorem ln_law_word : ∀ p ds Q, pc_law_word p ds Q → ds.length + 1 = 3 := fun p ds Q h => by unfold pc_law_word at h; split at h; (first | rfl | exact h.elim); (first | rfl | exact h.elim)
set_option maxHeartbeats 4000000 in
theorem ok_law_word (D : DefAt K mg "_law_word" s_law_word) (T : Txt mg) (C_law_take : Cal P w K mg base 1 "_law_take" ["_law_stream_here", "_law_most"] (spR K pc_law_take)) : Cal P w K mg base 2 "_law_word" ["_law_stream_here", "_law_letters_here", "_law_most"] (spR K pc_law_word) := by
 refine D.ok sc_law_word (fun _ _ _ _ _ _ us hl => match us, hl with | [_, _, _], _ => rfl) (fun vs H Q E h => ?_) (fun f cdv A outer s H vs Q E hr h => ?_)
 ·exact lenR ln_law_word h
 ·have hu := hr.units
  exact ⟨_, (pss_one (ps_ret (pe_bmK K rfl PySem.F.plainAttrs_str PySem.F.slot_str_join PySem.F.type_str_join (um_joinS K rfl) (pe_strS (l := []) (by decide +kernel)) (paC (pe_comp (wi := (iRng1 (tCons (tOp (rAddU K) (tC (V.int 1)) (tCall (spR K pc_law_take) [] E0 (tCons (tVar 0) (tCons (tVar 2) tNil)))) tNil))) (g := (gName 0)) (tts := tYes) (te := (tOp (rIxU K) (tVar 1) (tCall (spR K pc_law_take) [] E0 (tCons (tVar 2) (tCons (tCB (rLenU K) (tCons (tVar 1) tNil)) tNil))))) ["_law_k", "_law_letters_here", "_law_stream_here"] [none, some 1, some 0] rfl (pi_range1 rfl T.b_range (paC (pe_op (u_add K rfl) pe_int (pe_cal2 C_law_take (hr.mono (by decide)) (paC (pv 0) (paC (pv 2) pa_nil)))) pa_nil)) (fun _ _ _ _ => ⟨(pg_name (i := 0) (by show List.Nodup (["_law_k", "_law_letters_here", "_law_stream_here"] : List Str); decide +kernel) rfl (by first | exact Or.inl rfl | exact Or.inr rfl)), pif_nil, (pe_ix (u_ix K rfl) (pv 1) (pe_cal2 C_law_take (hr.mono (by decide)) (paC (pv 2) (paC (pe_callB2 (u_len K rfl) rfl T.b_len PySem.boot_len (paC (pv 1) pa_nil)) pa_nil))) (fun _ _ => rfl))⟩) (by kernel_rfl)) pa_nil)))), fnR (K := K) (c := pc_law_word) (ps := pp_law_word) (N := ["_law_stream_here", "_law_letters_here", "_law_most"]) (ls_ret (le_sm lm_joinS (le_str (l := [])) (las_cons (la_fz (le_comp (ix := [none, some 1, some 0]) rfl (li_r1 (las_cons (la_fz (le_op lo_add (la_fz le_int) (la_fz (le_callR (i := 0) (las_cons (la_fz (le_var (i := 2))) las_nil))))) las_nil)) (fun fs hc => (lgd_name (i := 0) (ncap hc (by decide)))) lt_yes (le_op lo_ix (la_sl (i := 1)) (la_fz (le_callR (i := 2) (las_cons (la_fz (le_cb lc_len (las_cons (la_sl (i := 1)) las_nil))) las_nil)))))) las_nil))) (fun p ds Q h => Nat.le_trans (Nat.le_of_eq (ln_law_word p ds Q h)) (by decide)) rd_law_word h⟩
theorem ln_law_cut : ∀ p ds Q, pc_law_cut p ds Q → ds.length + 1 = 3 := fun p ds Q h => by unfold pc_law_cut at h; split at h; (first | rfl | exact h.elim); (first | rfl | exact h.elim)
set_option maxHeartbeats 4000000 in
theorem ok_law_cut (D : DefAt K mg "_law_cut" s_law_cut) (T : Txt mg) (C_law_take : Cal P w K mg base 1 "_law_take" ["_law_stream_here", "_law_most"] (spR K pc_law_take)) : Cal P w K mg base 2 "_law_cut" ["_law_stream_here", "_law_text", "_law_most"] (spR K pc_law_cut) := by
 refine D.ok sc_law_cut (fun _ _ _ _ _ _ us hl => match us, hl with | [_, _, _], _ => rfl) (fun vs H Q E h => ?_) (fun f cdv A outer s H vs Q E hr h => ?_)
 ·exact lenR ln_law_cut h
 ·have hu := hr.units
  exact ⟨_, (pss_cons (ps_set (i := 3) sc_law_cut.nd rfl (by first | exact Or.inl rfl | exact Or.inr rfl) (pe_cal2 C_law_take (hr.mono (by decide)) (paC (pv 0) (paC (pe_callB2 (u_len K rfl) rfl T.b_len PySem.boot_len (paC (pv 1) pa_nil)) pa_nil)))) (pss_one (ps_ret (pe_slice (u_sl K rfl) (pv 1) (po_some (pv 3)) (po_some (pe_op (u_add K rfl) (pe_op (u_add K rfl) (pv 3) pe_int) (pe_cal2 C_law_take (hr.mono (by decide)) (paC (pv 0) (paC (pv 2) pa_nil))))))))), fnR (K := K) (c := pc_law_cut) (ps := pp_law_cut) (N := ["_law_stream_here", "_law_text", "_law_most", "_law_at"]) (ls_seq (ls_asg (le_callR (i := 0) (las_cons (la_fz (le_cb lc_len (las_cons (la_sl (i := 1)) las_nil))) las_nil)) (lg_name (i := 3) rfl)) (ls_ret (le_slice (la_sl (i := 1)) (lpo_some (le_var (i := 3))) (lpo_some (le_op lo_add (la_fz (le_op lo_add (la_sl (i := 3)) (la_fz le_int))) (la_fz (le_callR (i := 0) (las_cons (la_fz (le_var (i := 2))) las_nil)))))))) (fun p ds Q h => Nat.le_trans (Nat.le_of_eq (ln_law_cut p ds Q h)) (by decide)) rd_law_cut h⟩
theorem ln_law_pieces : ∀ p ds Q, pc_law_pieces p ds Q → ds.length + 1 = 3 := fun p ds Q h => by unfold pc_law_pieces at h; split at h; (first | rfl | exact h.elim); (first | rfl | exact h.elim)
set_option maxHeartbeats 4000000 in
theorem ok_law_pieces (D : DefAt K mg "_law_pieces" s_law_pieces) (T : Txt mg) (C_law_cut : Cal P w K mg base 2 "_law_cut" ["_law_stream_here", "_law_text", "_law_most"] (spR K pc_law_cut)) (C_law_letters : Cal P w K mg base 2 "_law_letters" ["_law_stream_here"] (spR K pc_law_letters)) (C_law_take : Cal P w K mg base 1 "_law_take" ["_law_stream_here", "_law_most"] (spR K pc_law_take)) (C_law_word : Cal P w K mg base 2 "_law_word" ["_law_stream_here", "_law_letters_here", "_law_most"] (spR K pc_law_word)) : Cal P w K mg base 3 "_law_pieces" ["_law_stream_here", "_law_many", "_law_most"] (spR K pc_law_pieces) := by
 refine D.ok sc_law_pieces (fun _ _ _ _ _ _ us hl => match us, hl with | [_, _, _], _ => rfl) (fun vs H Q E h => ?_) (fun f cdv A outer s H vs Q E hr h => ?_)
 ·exact lenR ln_law_pieces h
 ·have hu := hr.units
  exact ⟨_, (pss_cons (ps_set (i := 3) sc_law_pieces.nd rfl (by first | exact Or.inl rfl | exact Or.inr rfl) (pe_cal2 C_law_letters (hr.mono (by decide)) (paC (pv 0) pa_nil))) (pss_cons (ps_set (i := 4) sc_law_pieces.nd rfl (by first | exact Or.inl rfl | exact Or.inr rfl) (pe_cal2 C_law_word (hr.mono (by decide)) (paC (pv 0) (paC (pv 3) (paC (pe_op u_mul pe_int (pv 2)) pa_nil))))) (pss_cons (ps_join (ps_if (pt_cmpR (u_eq2 K rfl hu) (pe_cal2 C_law_take (hr.mono (by decide)) (paC (pv 0) (paC pe_int pa_nil))) pe_int (nomark _)) (pss_one (ps_set (i := 4) sc_law_pieces.nd rfl (by first | exact Or.inl rfl | exact Or.inr rfl) (pe_op u_mul (pe_slice (u_sl K rfl) (pv 4) po_none (po_some (pe_op (u_add K rfl) pe_int (pe_cal2 C_law_take (hr.mono (by decide)) (paC (pv 0) (paC pe_int pa_nil)))))) (pv 2)))) pss_nil)) (pss_cons (ps_set (i := 5) sc_law_pieces.nd rfl (by first | exact Or.inl rfl | exact Or.inr rfl) (pe_lst pa_nil)) (pss_cons (ps_for PassesOwn.never rfl (pi_range1 rfl T.b_range (paC (pv 1) pa_nil)) (pg_name (i := 6) sc_law_pieces.nd rfl (by first | exact Or.inl rfl | exact Or.inr rfl)) (pss_cons (ps_set (i := 7) sc_law_pieces.nd rfl (by first | exact Or.inl rfl | exact Or.inr rfl) (pe_cal2 C_law_take (hr.mono (by decide)) (paC (pv 0) (paC pe_int pa_nil)))) (pss_cons (ps_join (ps_if (PW.pt (pw_and (pt_cmpR u_gt (pv 7) pe_int (nomark _)) (pw_and1 (pt_cmpR u_gt (pe_callB2 (u_len K rfl) rfl T.b_len PySem.boot_len (paC (pv 5) pa_nil)) pe_int (nomark _))))) (pss_cons (ps_set (i := 8) sc_law_pieces.nd rfl (by first | exact Or.inl rfl | exact Or.inr rfl) (pe_ix (u_ix K rfl) (pv 5) (pe_cal2 C_law_take (hr.mono (by decide)) (paC (pv 0) (paC (pe_callB2 (u_len K rfl) rfl T.b_len PySem.boot_len (paC (pv 5) pa_nil)) pa_nil))) (fun _ _ => rfl))) (pss_one (ps_if (pt_cmpR (u_eq2 K rfl hu) (pv 7) pe_int (nomark _)) (pss_one (ps_set (i := 8) sc_law_pieces.nd rfl (by first | exact Or.inl rfl | exact Or.inr rfl) (pe_cal2 C_law_cut (hr.mono (by decide)) (paC (pv 0) (paC (pv 8) (paC (pv 2) pa_nil)))))) pss_nil))) (pss_one (ps_if (pt_cmpR (u_eq2 K rfl hu) (pe_op u_mod (pv 7) pe_int) pe_int (nomark _)) (pss_one (ps_set (i := 8) sc_law_pieces.nd rfl (by first | exact Or.inl rfl | exact Or.inr rfl) (pe_cal2 C_law_cut (hr.mono (by decide)) (paC (pv 0) (paC (pv 4) (paC (pv 2) pa_nil)))))) (pss_one (ps_set (i := 8) sc_law_pieces.nd rfl (by first | exact Or.inl rfl | exact Or.inr rfl) (pe_cal2 C_law_word (hr.mono (by decide)) (paC (pv 0) (paC (pv 3) (paC (pv 2) pa_nil)))))))))) (pss_one (ps_expr (pe_bmK K rfl PySem.F.plainAttrs_list PySem.F.slot_list_append PySem.F.type_list_append mt_append (pv 5) (paC (pv 8) pa_nil))))))) (pss_one (ps_ret (pv 5)))))))), fnR (K := K) (c := pc_law_pieces) (ps := pp_law_pieces) (N := ["_law_stream_here", "_law_many", "_law_most", "_law_letters_here", "_law_base", "_law_found", "_law_k", "_law_way", "_law_piece"]) (ls_seq (ls_asg (le_callR (i := 0) las_nil) (lg_name (i := 3) rfl)) (ls_seq (ls_asg (le_callR (i := 0) (las_cons (la_fz (le_var (i := 3))) (las_cons (la_fz (le_op lo_mul (la_fz le_int) (la_sl (i := 2)))) las_nil))) (lg_name (i := 4) rfl)) (ls_seq (ls_join (ls_if (lt_T (le_op lo_eq2 (la_fz (le_callR (i := 0) (las_cons (la_fz le_int) las_nil))) (la_fz le_int))) (ls_asg (le_op lo_mul (la_fz (le_slice (la_sl (i := 4)) lpo_none (lpo_some (le_op lo_add (la_fz le_int) (la_fz (le_callR (i := 0) (las_cons (la_fz le_int) las_nil))))))) (la_sl (i := 2))) (lg_name (i := 4) rfl)) ls_next)) (ls_seq (ls_asg (le_lst las_nil) (lg_name (i := 5) rfl)) (ls_seq (ls_for (li_r1 (las_cons (la_fz (le_var (i := 1))) las_nil)) (lgd_name (i := 6) rfl) (ls_seq (ls_asg (le_callR (i := 0) (las_cons (la_fz le_int) las_nil)) (lg_name (i := 7) rfl)) (ls_seq (ls_join (ls_if (lt_and (lt_T (le_op lo_gt (la_sl (i := 7)) (la_fz le_int))) (lt_T (le_op lo_gt (la_fz (le_cb lc_len (las_cons (la_sl (i := 5)) las_nil))) (la_fz le_int)))) (ls_seq (ls_asg (le_op lo_ix (la_sl (i := 5)) (la_fz (le_callR (i := 0) (las_cons (la_fz (le_cb lc_len (las_cons (la_sl (i := 5)) las_nil))) las_nil)))) (lg_name (i := 8) rfl)) (ls_if (lt_T (le_op lo_eq2 (la_sl (i := 7)) (la_fz le_int))) (ls_asg (le_callR (i := 0) (las_cons (la_fz (le_var (i := 8))) (las_cons (la_fz (le_var (i := 2))) las_nil))) (lg_name (i := 8) rfl)) ls_next)) (ls_if (lt_T (le_op lo_eq2 (la_fz (le_op lo_mod (la_sl (i := 7)) (la_fz le_int))) (la_fz le_int))) (ls_asg (le_callR (i := 0) (las_cons (la_fz (le_var (i := 4))) (las_cons (la_fz (le_var (i := 2))) las_nil))) (lg_name (i := 8) rfl)) (ls_asg (le_callR (i := 0) (las_cons (la_fz (le_var (i := 3))) (las_cons (la_fz (le_var (i := 2))) las_nil))) (lg_name (i := 8) rfl))))) (ls_drop (le_app (i := 5) (le_var (i := 8))))))) (ls_ret (le_var (i := 5)))))))) (fun p ds Q h => Nat.le_trans (Nat.le_of_eq (ln_law_pieces p ds Q h)) (by decide)) rd_law_pieces h⟩
theorem ln_law_stands : ∀ ds Q, pc_law_stands ds Q → ds.length = 2 := fun ds Q h => by unfold pc_law_stands at h; split at h; (first | rfl | exact h.elim); (first | rfl | exact h.elim)
set_option maxHeartbeats 4000000 in
theorem ok_law_stands (D : DefAt K mg "_law_stands" s_law_stands) (T : Txt mg) : Cal P w K mg base 1 "_law_stands" ["_law_text", "_law_piece"] (spP K pc_law_stands) := by
 refine D.ok sc_law_stands (fun _ _ _ _ _ _ us hl => match us, hl with | [_, _], _ => rfl) (fun vs H Q E h => ?_) (fun f cdv A outer s H vs Q E hr h => ?_)
 ·exact lenP ln_law_stands h
 ·have hu := hr.units
  exact ⟨_, (pss_one (ps_ret (pe_comp (wi := (iRng1 (tCons (tOp (rAddU K) (tOp rSubU (tCB (rLenU K) (tCons (tVar 0) tNil)) (tCB (rLenU K) (tCons (tVar 1) tNil))) (tC (V.int 1))) tNil))) (g := (gName 0)) (tts := (tTest (tOp (rEqU2 K false) (tSl (rSlU K) (tVar 2) (tPart (tVar 0)) (tPart (tOp (rAddU K) (tVar 0) (tCB (rLenU K) (tCons (tVar 1) tNil))))) (tVar 1)))) (te := (tVar 0)) ["_law_at", "_law_piece", "_law_text"] [none, some 1, some 0] rfl (pi_range1 rfl T.b_range (paC (pe_op (u_add K rfl) (pe_op u_sub (pe_callB2 (u_len K rfl) rfl T.b_len PySem.boot_len (paC (pv 0) pa_nil)) (pe_callB2 (u_len K rfl) rfl T.b_len PySem.boot_len (paC (pv 1) pa_nil))) pe_int) pa_nil)) (fun _ _ _ _ => ⟨(pg_name (i := 0) (by show List.Nodup (["_law_at", "_law_piece", "_law_text"] : List Str); decide +kernel) rfl (by first | exact Or.inl rfl | exact Or.inr rfl)), (pif_one (pt_cmpR (u_eq2 K rfl hu) (pe_slice (u_sl K rfl) (pv 2) (po_some (pv 0)) (po_some (pe_op (u_add K rfl) (pv 0) (pe_callB2 (u_len K rfl) rfl T.b_len PySem.boot_len (paC (pv 1) pa_nil))))) (pv 1) (nomark _))), (pv 0)⟩) (by kernel_rfl)))), fnP (K := K) (c := pc_law_stands) (ps := pp_law_stands) (N := ["_law_text", "_law_piece"]) (ls_ret (le_comp (ix := [none, some 1, some 0]) rfl (li_r1 (las_cons (la_fz (le_op lo_add (la_fz (le_op lo_sub (la_fz (le_cb lc_len (las_cons (la_sl (i := 0)) las_nil))) (la_fz (le_cb lc_len (las_cons (la_sl (i := 1)) las_nil))))) (la_fz le_int))) las_nil)) (fun fs hc => (lgd_name (i := 0) (ncap hc (by decide)))) (lt_T (le_op lo_eq2 (la_fz (le_slice (la_sl (i := 2)) (lpo_some (le_var (i := 0))) (lpo_some (le_op lo_add (la_sl (i := 0)) (la_fz (le_cb lc_len (las_cons (la_sl (i := 1)) las_nil))))))) (la_sl (i := 1)))) (le_var (i := 0)))) (fun ds Q h => Nat.le_trans (Nat.le_of_eq (ln_law_stands ds Q h)) (by decide)) rd_law_stands h⟩
theorem ln_law_roots : ∀ ds Q, pc_law_roots ds Q → ds.length = 1 := fun ds Q h => by unfold pc_law_roots at h; split at h; (first | rfl | exact h.elim); (first | rfl | exact h.elim)
set_option maxHeartbeats 4000000 in
theorem ok_law_roots (D : DefAt K mg "_law_roots" s_law_roots) (T : Txt mg) (C_law_stands : Cal P w K mg base 1 "_law_stands" ["_law_text", "_law_piece"] (spP K pc_law_stands)) : Cal P w K mg base 2 "_law_roots" ["_law_pieces_here"] (spP K pc_law_roots) := by
 refine D.ok sc_law_roots (fun _ _ _ _ _ _ us hl => match us, hl with | [_], _ => rfl) (fun vs H Q E h => ?_) (fun f cdv A outer s H vs Q E hr h => ?_)
 ·exact lenP ln_law_roots h
 ·have hu := hr.units
  exact ⟨_, (pss_cons (ps_set (i := 1) sc_law_roots.nd rfl (by first | exact Or.inl rfl | exact Or.inr rfl) (pe_lst pa_nil)) (pss_cons (ps_for PassesOwn.never rfl (pi_any K rfl (pv 0)) (pg_name (i := 2) sc_law_roots.nd rfl (by first | exact Or.inl rfl | exact Or.inr rfl)) (pss_cons (ps_setC (wi := (iAny K (tVar 0))) (g := (gName 0)) (tts := (tAnd (tTest (tOp rGtU (tCB (rLenU K) (tCons (tVar 0) tNil)) (tCB (rLenU K) (tCons (tVar 1) tNil)))) (tTest (tOp (rEqU2 K true) (tCall (spP K pc_law_stands) [] E0 (tCons (tVar 0) (tCons (tVar 1) tNil))) (tLst tNil))))) (te := (tVar 0)) (i := 3) ["_law_other", "_law_piece"] [none, some 2] sc_law_roots.nd rfl (Or.inl rfl) rfl (pi_any K rfl (pv 0)) (fun _ _ _ _ => ⟨(pg_name (i := 0) (by show List.Nodup (["_law_other", "_law_piece"] : List Str); decide +kernel) rfl (by first | exact Or.inl rfl | exact Or.inr rfl)), (pif_one (PW.pt (pw_and (pt_cmpR u_gt (pe_callB2 (u_len K rfl) rfl T.b_len PySem.boot_len (paC (pv 0) pa_nil)) (pe_callB2 (u_len K rfl) rfl T.b_len PySem.boot_len (paC (pv 1) pa_nil)) (nomark _)) (pw_and1 (pt_cmpR (u_ne2 K rfl hu) (pe_cal2 C_law_stands (hr.mono (by decide)) (paC (pv 0) (paC (pv 1) pa_nil))) (pe_lst pa_nil) (nomark _)))))), (pv 0)⟩) (by kernel_rfl)) (pss_one (ps_if (PW.pt (pw_and (pt_cmpR (u_eq2 K rfl hu) (pv 3) (pe_lst pa_nil) (nomark _)) (pw_and1 (pt_cmpR (u_notin K rfl) (pv 2) (pv 1) (by with_unfolding_all rfl))))) (pss_one (ps_expr (pe_bmK K rfl PySem.F.plainAttrs_list PySem.F.slot_list_append PySem.F.type_list_append mt_append (pv 1) (paC (pv 2) pa_nil)))) pss_nil)))) (pss_one (ps_ret (pv 1))))), fnP (K := K) (c := pc_law_roots) (ps := pp_law_roots) (N := ["_law_pieces_here", "_law_found", "_law_piece", "_law_longer"]) (ls_seq (ls_asg (le_lst las_nil) (lg_name (i := 1) rfl)) (ls_seq (ls_for (li_any (le_var (i := 0))) (lgd_name (i := 2) rfl) (ls_seq (ls_asg (le_comp (ix := [none, some 2]) rfl (li_any (le_var (i := 0))) (fun fs hc => (lgd_name (i := 0) (ncap hc (by decide)))) (lt_and (lt_T (le_op lo_gt (la_fz (le_cb lc_len (las_cons (la_sl (i := 0)) las_nil))) (la_fz (le_cb lc_len (las_cons (la_sl (i := 1)) las_nil))))) (lt_T (le_op lo_ne2 (la_fz (le_callP (c := pc_law_stands) (las_cons (la_fz (le_var (i := 0))) (las_cons (la_fz (le_var (i := 1))) las_nil)))) (la_fz (le_lst las_nil))))) (le_var (i := 0))) (lg_name (i := 3) rfl)) (ls_if (lt_and (lt_T (le_op lo_eq2 (la_sl (i := 3)) (la_fz (le_lst las_nil)))) (lt_T (le_op lo_in (la_sl (i := 2)) (la_sl (i := 1))))) (ls_drop (le_app (i := 1) (le_var (i := 2)))) ls_next))) (ls_ret (le_var (i := 1))))) (fun ds Q h => Nat.le_trans (Nat.le_of_eq (ln_law_roots ds Q h)) (by decide)) rd_law_roots h⟩
theorem ln_law_rising : ∀ ds Q, pc_law_rising ds Q → ds.length = 2 := fun ds Q h => by unfold pc_law_rising at h; split at h; (first | rfl | exact h.elim); (first | rfl | exact h.elim)
set_option maxHeartbeats 4000000 in
theorem ok_law_rising (D : DefAt K mg "_law_rising" s_law_rising) (T : Txt mg) : Cal P w K mg base 1 "_law_rising" ["_law_row", "_law_many"] (spP K pc_law_rising) := by
 refine D.ok sc_law_rising (fun _ _ _ _ _ _ us hl => match us, hl with | [_, _], _ => rfl) (fun vs H Q E h => ?_) (fun f cdv A outer s H vs Q E hr h => ?_)
 ·exact lenP ln_law_rising h
 ·have hu := hr.units
  exact ⟨_, (pss_cons (ps_set (i := 2) sc_law_rising.nd rfl (by first | exact Or.inl rfl | exact Or.inr rfl) (pe_un un_neg pe_int)) (pss_cons (ps_for PassesOwn.never rfl (pi_any K rfl (pv 0)) (pg_name (i := 3) sc_law_rising.nd rfl (by first | exact Or.inl rfl | exact Or.inr rfl)) (pss_cons (ps_if (PW.pt (pw_or (pt_cmpR u_le (pv 3) (pv 2) (nomark _)) (pw_or1 (pt_cmpR u_ge (pv 3) (pv 1) (nomark _))))) (pss_one (ps_ret pe_bl)) pss_nil) (pss_one (ps_set (i := 2) sc_law_rising.nd rfl (by first | exact Or.inl rfl | exact Or.inr rfl) (pv 3))))) (pss_one (ps_ret pe_bl)))), fnP (K := K) (c := pc_law_rising) (ps := pp_law_rising) (N := ["_law_row", "_law_many", "_law_last", "_law_number"]) (ls_seq (ls_asg (le_un lu_neg (la_fz le_int)) (lg_name (i := 2) rfl)) (ls_seq (ls_for (li_any (le_var (i := 0))) (lgd_name (i := 3) rfl) (ls_seq (ls_if (lt_or (lt_T (le_op lo_le (la_sl (i := 3)) (la_sl (i := 2)))) (lt_T (le_op lo_ge (la_sl (i := 3)) (la_sl (i := 1))))) (ls_ret le_bl) ls_next) (ls_asg (le_var (i := 3)) (lg_name (i := 2) rfl)))) (ls_ret le_bl))) (fun ds Q h => Nat.le_trans (Nat.le_of_eq (ln_law_rising ds Q h)) (by decide)) rd_law_rising h⟩
theorem ln_law_right : ∀ ds Q, pc_law_right ds Q → ds.length = 3 := fun ds Q h => by unfold pc_law_right at h; split at h; (first | rfl | exact h.elim); (first | rfl | exact h.elim)
set_option maxHeartbeats 4000000 in
theorem ok_law_right (D : DefAt K mg "_law_right" s_law_right) (T : Txt mg) (C_law_rising : Cal P w K mg base 1 "_law_rising" ["_law_row", "_law_many"] (spP K pc_law_rising)) (C_law_stands : Cal P w K mg base 1 "_law_stands" ["_law_text", "_law_piece"] (spP K pc_law_stands)) : Cal P w K mg base 2 "_law_right" ["_law_pieces_here", "_law_kept", "_law_left"] (spP K pc_law_right) := by
 refine D.ok sc_law_right (fun _ _ _ _ _ _ us hl => match us, hl with | [_, _, _], _ => rfl) (fun vs H Q E h => ?_) (fun f cdv A outer s H vs Q E hr h => ?_)
 ·exact lenP ln_law_right h
 ·have hu := hr.units
  exact ⟨_, (pss_cons (ps_set (i := 3) sc_law_right.nd rfl (by first | exact Or.inl rfl | exact Or.inr rfl) (pe_callB2 (u_len K rfl) rfl T.b_len PySem.boot_len (paC (pv 0) pa_nil))) (pss_cons (ps_setC (wi := (iAny K (tVar 2))) (g := (gName 0)) (tts := tYes) (te := (tOp (rIxU K) (tVar 0) (tC (V.int 0)))) (i := 4) ["_law_row"] [none] sc_law_right.nd rfl (Or.inl rfl) rfl (pi_any K rfl (pv 2)) (fun _ _ _ _ => ⟨(pg_name (i := 0) (by show List.Nodup (["_law_row"] : List Str); decide +kernel) rfl (by first | exact Or.inl rfl | exact Or.inr rfl)), pif_nil, (pe_ix (u_ix K rfl) (pv 0) pe_int (fun _ _ => rfl))⟩) (by kernel_rfl)) (pss_cons (ps_if (PW.pt (pw_or (pt_not (pt_val2 (pe_cal2 C_law_rising (hr.mono (by decide)) (paC (pv 1) (paC (pv 3) pa_nil))))) (pw_or (pt_not (pt_val2 (pe_cal2 C_law_rising (hr.mono (by decide)) (paC (pv 4) (paC (pv 3) pa_nil))))) (pw_or1 (pt_cmpR (u_ne2 K rfl hu) (pe_callB2 (u_sortU K rfl) rfl T.b_sorted boot_sorted (paC (pe_op (u_add K rfl) (pv 1) (pv 4)) pa_nil)) (pe_callTy2 (u_rngL K rfl rfl) rfl T.b_list boot_list (paC (pe_range1 rfl T.b_range (paC (pv 3) pa_nil)) pa_nil)) (nomark _)))))) (pss_one (ps_ret pe_bl)) pss_nil) (pss_cons (ps_for PassesOwn.never rfl (pi_any K rfl (pv 2)) (pg_name (i := 5) sc_law_right.nd rfl (by first | exact Or.inl rfl | exact Or.inr rfl)) (pss_one (ps_if (PW.pt (pw_or (pt_cmpR (u_notin K rfl) (pe_ix (u_ix K rfl) (pv 5) pe_int (fun _ _ => rfl)) (pv 1) (by with_unfolding_all rfl)) (pw_or1 (pt_cmpR (u_notin K rfl) (pe_ix (u_ix K rfl) (pv 5) pe_int (fun _ _ => rfl)) (pe_cal2 C_law_stands (hr.mono (by decide)) (paC (pe_ix (u_ix K rfl) (pv 0) (pe_ix (u_ix K rfl) (pv 5) pe_int (fun _ _ => rfl)) (fun _ _ => rfl)) (paC (pe_ix (u_ix K rfl) (pv 0) (pe_ix (u_ix K rfl) (pv 5) pe_int (fun _ _ => rfl)) (fun _ _ => rfl)) pa_nil))) (by with_unfolding_all rfl))))) (pss_one (ps_ret pe_bl)) pss_nil))) (pss_cons (ps_for PassesOwn.never rfl (pi_any K rfl (pv 1)) (pg_name (i := 6) sc_law_right.nd rfl (by first | exact Or.inl rfl | exact Or.inr rfl)) (pss_one (ps_for PassesOwn.never rfl (pi_any K rfl (pv 1)) (pg_name (i := 7) sc_law_right.nd rfl (by first | exact Or.inl rfl | exact Or.inr rfl)) (pss_one (ps_if (PW.pt (pw_and (pt_cmpR (u_ne2 K rfl hu) (pv 6) (pv 7) (nomark _)) (pw_and1 (pt_cmpR (u_ne2 K rfl hu) (pe_cal2 C_law_stands (hr.mono (by decide)) (paC (pe_ix (u_ix K rfl) (pv 0) (pv 7) (fun _ _ => rfl)) (paC (pe_ix (u_ix K rfl) (pv 0) (pv 6) (fun _ _ => rfl)) pa_nil))) (pe_lst pa_nil) (nomark _))))) (pss_one (ps_ret pe_bl)) pss_nil))))) (pss_one (ps_ret pe_bl))))))), fnP (K := K) (c := pc_law_right) (ps := pp_law_right) (N := ["_law_pieces_here", "_law_kept", "_law_left", "_law_many", "_law_others", "_law_row", "_law_one", "_law_other"]) (ls_seq (ls_asg (le_cb lc_len (las_cons (la_sl (i := 0)) las_nil)) (lg_name (i := 3) rfl)) (ls_seq (ls_asg (le_comp (ix := [none]) rfl (li_any (le_var (i := 2))) (fun fs hc => (lgd_name (i := 0) (ncap hc (by decide)))) lt_yes (le_op lo_ix (la_sl (i := 0)) (la_fz le_int))) (lg_name (i := 4) rfl)) (ls_seq (ls_if (lt_or (lt_not (lt_B (le_callP (c := pc_law_rising) (las_cons (la_fz (le_var (i := 1))) (las_cons (la_fz (le_var (i := 3))) las_nil))))) (lt_or (lt_not (lt_B (le_callP (c := pc_law_rising) (las_cons (la_fz (le_var (i := 4))) (las_cons (la_fz (le_var (i := 3))) las_nil))))) (lt_T (le_op lo_ne2 (la_fz (le_cb lc_sortU (las_cons (la_fz (le_op lo_add (la_sl (i := 1)) (la_sl (i := 4)))) las_nil))) (la_fz (le_rngL1 false (las_cons (la_fz (le_var (i := 3))) las_nil))))))) (ls_ret le_bl) ls_next) (ls_seq (ls_for (li_any (le_var (i := 2))) (lgd_name (i := 5) rfl) (ls_if (lt_or (lt_T (le_op lo_in (la_fz (le_op lo_ix (la_sl (i := 5)) (la_fz le_int))) (la_sl (i := 1)))) (lt_T (le_op lo_in (la_fz (le_op lo_ix (la_sl (i := 5)) (la_fz le_int))) (la_fz (le_callP (c := pc_law_stands) (las_cons (la_fz (le_op lo_ix (la_sl (i := 0)) (la_fz (le_op lo_ix (la_sl (i := 5)) (la_fz le_int))))) (las_cons (la_fz (le_op lo_ix (la_sl (i := 0)) (la_fz (le_op lo_ix (la_sl (i := 5)) (la_fz le_int))))) las_nil))))))) (ls_ret le_bl) ls_next)) (ls_seq (ls_for (li_any (le_var (i := 1))) (lgd_name (i := 6) rfl) (ls_for (li_any (le_var (i := 1))) (lgd_name (i := 7) rfl) (ls_if (lt_and (lt_T (le_op lo_ne2 (la_sl (i := 6)) (la_sl (i := 7)))) (lt_T (le_op lo_ne2 (la_fz (le_callP (c := pc_law_stands) (las_cons (la_fz (le_op lo_ix (la_sl (i := 0)) (la_sl (i := 7)))) (las_cons (la_fz (le_op lo_ix (la_sl (i := 0)) (la_sl (i := 6)))) las_nil)))) (la_fz (le_lst las_nil))))) (ls_ret le_bl) ls_next))) (ls_ret le_bl)))))) (fun ds Q h => Nat.le_trans (Nat.le_of_eq (ln_law_right ds Q h)) (by decide)) rd_law_right h⟩
theorem ln_law_changed : ∀ p ds Q, pc_law_changed p ds Q → ds.length + 1 = 2 := fun p ds Q h => by unfold pc_law_changed at h; split at h; (first | rfl | exact h.elim); (first | rfl | exact h.elim)
set_option maxHeartbeats 4000000 in
theorem ok_law_changed (D : DefAt K mg "_law_changed" s_law_changed) (T : Txt mg) (C_law_take : Cal P w K mg base 1 "_law_take" ["_law_stream_here", "_law_most"] (spR K pc_law_take)) : Cal P w K mg base 2 "_law_changed" ["_law_stream_here", "_law_row"] (spR K pc_law_changed) := by
 refine D.ok sc_law_changed (fun _ _ _ _ _ _ us hl => match us, hl with | [_, _], _ => rfl) (fun vs H Q E h => ?_) (fun f cdv A outer s H vs Q E hr h => ?_)
 ·exact lenR ln_law_changed h
 ·have hu := hr.units
  exact ⟨_, (pss_cons (ps_set (i := 2) sc_law_changed.nd rfl (by first | exact Or.inl rfl | exact Or.inr rfl) (pe_cal2 C_law_take (hr.mono (by decide)) (paC (pv 0) (paC (pe_callB2 (u_len K rfl) rfl T.b_len PySem.boot_len (paC (pv 1) pa_nil)) pa_nil)))) (pss_cons (ps_set (i := 3) sc_law_changed.nd rfl (by first | exact Or.inl rfl | exact Or.inr rfl) (pe_cal2 C_law_take (hr.mono (by decide)) (paC (pv 0) (paC pe_int pa_nil)))) (pss_cons (ps_set (i := 4) sc_law_changed.nd rfl (by first | exact Or.inl rfl | exact Or.inr rfl) (pe_ix (u_ix K rfl) (pe_lst (paC (pe_op (u_add K rfl) (pe_ix (u_ix K rfl) (pv 1) (pv 2) (fun _ _ => rfl)) pe_int) (paC (pe_op u_sub (pe_ix (u_ix K rfl) (pv 1) (pv 2) (fun _ _ => rfl)) pe_int) (paC (pe_op u_sub (pe_cal2 C_law_take (hr.mono (by decide)) (paC (pv 0) (paC pe_int pa_nil))) pe_int) pa_nil)))) (pe_op u_mod (pv 3) pe_int) (fun _ _ => rfl))) (pss_cons (ps_if (pt_cmpR u_lt (pv 3) pe_int (nomark _)) (pss_one (ps_ret (pe_op (u_add K rfl) (pe_op (u_add K rfl) (pe_slice (u_sl K rfl) (pv 1) po_none (po_some (pv 2))) (pe_lst (paC (pv 4) pa_nil))) (pe_slice (u_sl K rfl) (pv 1) (po_some (pe_op (u_add K rfl) (pv 2) pe_int)) po_none)))) pss_nil) (pss_cons (ps_if (pt_cmpR (u_eq2 K rfl hu) (pv 3) pe_int (nomark _)) (pss_one (ps_ret (pe_op (u_add K rfl) (pe_slice (u_sl K rfl) (pv 1) po_none (po_some (pv 2))) (pe_slice (u_sl K rfl) (pv 1) (po_some (pe_op (u_add K rfl) (pv 2) pe_int)) po_none)))) pss_nil) (pss_cons (ps_if (pt_cmpR (u_eq2 K rfl hu) (pv 3) pe_int (nomark _)) (pss_one (ps_ret (pe_op (u_add K rfl) (pe_op (u_add K rfl) (pe_slice (u_sl K rfl) (pv 1) po_none (po_some (pv 2))) (pe_lst (paC (pe_ix (u_ix K rfl) (pv 1) (pv 2) (fun _ _ => rfl)) pa_nil))) (pe_slice (u_sl K rfl) (pv 1) (po_some (pv 2)) po_none)))) pss_nil) (pss_cons (ps_set (i := 5) sc_law_changed.nd rfl (by first | exact Or.inl rfl | exact Or.inr rfl) (pe_cal2 C_law_take (hr.mono (by decide)) (paC (pv 0) (paC (pe_callB2 (u_len K rfl) rfl T.b_len PySem.boot_len (paC (pv 1) pa_nil)) pa_nil)))) (pss_cons (ps_set (i := 6) sc_law_changed.nd rfl (by first | exact Or.inl rfl | exact Or.inr rfl) (pe_callTy2 (u_list K rfl) rfl T.b_list boot_list (paC (pv 1) pa_nil))) (pss_cons (ps_asg (pe_tup (paC (pe_ix (u_ix K rfl) (pv 6) (pv 5) (fun _ _ => rfl)) (paC (pe_ix (u_ix K rfl) (pv 6) (pv 2) (fun _ _ => rfl)) pa_nil))) (pg_tupK K rfl (n := 2) rfl (pgs_cons (pg_sub (pv 6) (pv 2) set_list) (pgs_cons (pg_sub (pv 6) (pv 5) set_list) pgs_nil)))) (pss_one (ps_ret (pv 6)))))))))))), fnR (K := K) (c := pc_law_changed) (ps := pp_law_changed) (N := ["_law_stream_here", "_law_row", "_law_at", "_law_way", "_law_number", "_law_other", "_law_found"]) (ls_seq (ls_asg (le_callR (i := 0) (las_cons (la_fz (le_cb lc_len (las_cons (la_sl (i := 1)) las_nil))) las_nil)) (lg_name (i := 2) rfl)) (ls_seq (ls_asg (le_callR (i := 0) (las_cons (la_fz le_int) las_nil)) (lg_name (i := 3) rfl)) (ls_seq (ls_asg (le_op lo_ix (la_fz (le_lst (las_cons (la_fz (le_op lo_add (la_fz (le_op lo_ix (la_sl (i := 1)) (la_sl (i := 2)))) (la_fz le_int))) (las_cons (la_fz (le_op lo_sub (la_fz (le_op lo_ix (la_sl (i := 1)) (la_sl (i := 2)))) (la_fz le_int))) (las_cons (la_fz (le_op lo_sub (la_fz (le_callR (i := 0) (las_cons (la_fz le_int) las_nil))) (la_fz le_int))) las_nil))))) (la_fz (le_op lo_mod (la_sl (i := 3)) (la_fz le_int)))) (lg_name (i := 4) rfl)) (ls_seq (ls_if (lt_T (le_op lo_lt (la_sl (i := 3)) (la_fz le_int))) (ls_ret (le_op lo_add (la_fz (le_op lo_add (la_fz (le_slice (la_sl (i := 1)) lpo_none (lpo_some (le_var (i := 2))))) (la_fz (le_lst (las_cons (la_fz (le_var (i := 4))) las_nil))))) (la_fz (le_slice (la_sl (i := 1)) (lpo_some (le_op lo_add (la_sl (i := 2)) (la_fz le_int))) lpo_none)))) ls_next) (ls_seq (ls_if (lt_T (le_op lo_eq2 (la_sl (i := 3)) (la_fz le_int))) (ls_ret (le_op lo_add (la_fz (le_slice (la_sl (i := 1)) lpo_none (lpo_some (le_var (i := 2))))) (la_fz (le_slice (la_sl (i := 1)) (lpo_some (le_op lo_add (la_sl (i := 2)) (la_fz le_int))) lpo_none)))) ls_next) (ls_seq (ls_if (lt_T (le_op lo_eq2 (la_sl (i := 3)) (la_fz le_int))) (ls_ret (le_op lo_add (la_fz (le_op lo_add (la_fz (le_slice (la_sl (i := 1)) lpo_none (lpo_some (le_var (i := 2))))) (la_fz (le_lst (las_cons (la_fz (le_op lo_ix (la_sl (i := 1)) (la_sl (i := 2)))) las_nil))))) (la_fz (le_slice (la_sl (i := 1)) (lpo_some (le_var (i := 2))) lpo_none)))) ls_next) (ls_seq (ls_asg (le_callR (i := 0) (las_cons (la_fz (le_cb lc_len (las_cons (la_sl (i := 1)) las_nil))) las_nil)) (lg_name (i := 5) rfl)) (ls_seq (ls_asg (le_cb lc_list (las_cons (la_sl (i := 1)) las_nil)) (lg_name (i := 6) rfl)) (ls_seq (ls_set2 (i := 6) (le_op lo_ix (la_sl (i := 6)) (la_sl (i := 5))) (le_op lo_ix (la_sl (i := 6)) (la_sl (i := 2))) (le_var (i := 2)) (le_var (i := 5))) (ls_ret (le_var (i := 6)))))))))))) (fun p ds Q h => Nat.le_trans (Nat.le_of_eq (ln_law_changed p ds Q h)) (by decide)) rd_law_changed h⟩
theorem ln_law_changed_rows : ∀ p ds Q, pc_law_changed_rows p ds Q → ds.length + 1 = 2 := fun p ds Q h => by unfold pc_law_changed_rows at h; split at h; (first | rfl | exact h.elim); (first | rfl | exact h.elim)
set_option maxHeartbeats 4000000 in
theorem ok_law_changed_rows (D : DefAt K mg "_law_changed_rows" s_law_changed_rows) (T : Txt mg) (C_law_take : Cal P w K mg base 1 "_law_take" ["_law_stream_here", "_law_most"] (spR K pc_law_take)) : Cal P w K mg base 2 "_law_changed_rows" ["_law_stream_here", "_law_left"] (spR K pc_law_changed_rows) := by
 refine D.ok sc_law_changed_rows (fun _ _ _ _ _ _ us hl => match us, hl with | [_, _], _ => rfl) (fun vs H Q E h => ?_) (fun f cdv A outer s H vs Q E hr h => ?_)
 ·exact lenR ln_law_changed_rows h
 ·have hu := hr.units
  exact ⟨_, (pss_cons (ps_set (i := 2) sc_law_changed_rows.nd rfl (by first | exact Or.inl rfl | exact Or.inr rfl) (pe_cal2 C_law_take (hr.mono (by decide)) (paC (pv 0) (paC (pe_callB2 (u_len K rfl) rfl T.b_len PySem.boot_len (paC (pv 1) pa_nil)) pa_nil)))) (pss_cons (ps_set (i := 3) sc_law_changed_rows.nd rfl (by first | exact Or.inl rfl | exact Or.inr rfl) (pe_cal2 C_law_take (hr.mono (by decide)) (paC (pv 0) (paC (pe_callB2 (u_len K rfl) rfl T.b_len PySem.boot_len (paC (pv 1) pa_nil)) pa_nil)))) (pss_cons (ps_set (i := 4) sc_law_changed_rows.nd rfl (by first | exact Or.inl rfl | exact Or.inr rfl) (pe_cal2 C_law_take (hr.mono (by decide)) (paC (pv 0) (paC pe_int pa_nil)))) (pss_cons (ps_if (pt_cmpR (u_eq2 K rfl hu) (pv 4) pe_int (nomark _)) (pss_one (ps_ret (pe_op (u_add K rfl) (pe_slice (u_sl K rfl) (pv 1) po_none (po_some (pv 2))) (pe_slice (u_sl K rfl) (pv 1) (po_some (pe_op (u_add K rfl) (pv 2) pe_int)) po_none)))) pss_nil) (pss_cons (ps_if (pt_cmpR (u_eq2 K rfl hu) (pv 4) pe_int (nomark _)) (pss_one (ps_ret (pe_op (u_add K rfl) (pe_op (u_add K rfl) (pe_slice (u_sl K rfl) (pv 1) po_none (po_some (pv 2))) (pe_lst (paC (pe_ix (u_ix K rfl) (pv 1) (pv 2) (fun _ _ => rfl)) pa_nil))) (pe_slice (u_sl K rfl) (pv 1) (po_some (pv 2)) po_none)))) pss_nil) (pss_cons (ps_set (i := 5) sc_law_changed_rows.nd rfl (by first | exact Or.inl rfl | exact Or.inr rfl) (pe_callTy2 (u_list K rfl) rfl T.b_list boot_list (paC (pv 1) pa_nil))) (pss_cons (ps_asg (pe_tup (paC (pe_ix (u_ix K rfl) (pv 5) (pv 3) (fun _ _ => rfl)) (paC (pe_ix (u_ix K rfl) (pv 5) (pv 2) (fun _ _ => rfl)) pa_nil))) (pg_tupK K rfl (n := 2) rfl (pgs_cons (pg_sub (pv 5) (pv 2) set_list) (pgs_cons (pg_sub (pv 5) (pv 3) set_list) pgs_nil)))) (pss_one (ps_ret (pv 5)))))))))), fnR (K := K) (c := pc_law_changed_rows) (ps := pp_law_changed_rows) (N := ["_law_stream_here", "_law_left", "_law_at", "_law_other", "_law_way", "_law_found"]) (ls_seq (ls_asg (le_callR (i := 0) (las_cons (la_fz (le_cb lc_len (las_cons (la_sl (i := 1)) las_nil))) las_nil)) (lg_name (i := 2) rfl)) (ls_seq (ls_asg (le_callR (i := 0) (las_cons (la_fz (le_cb lc_len (las_cons (la_sl (i := 1)) las_nil))) las_nil)) (lg_name (i := 3) rfl)) (ls_seq (ls_asg (le_callR (i := 0) (las_cons (la_fz le_int) las_nil)) (lg_name (i := 4) rfl)) (ls_seq (ls_if (lt_T (le_op lo_eq2 (la_sl (i := 4)) (la_fz le_int))) (ls_ret (le_op lo_add (la_fz (le_slice (la_sl (i := 1)) lpo_none (lpo_some (le_var (i := 2))))) (la_fz (le_slice (la_sl (i := 1)) (lpo_some (le_op lo_add (la_sl (i := 2)) (la_fz le_int))) lpo_none)))) ls_next) (ls_seq (ls_if (lt_T (le_op lo_eq2 (la_sl (i := 4)) (la_fz le_int))) (ls_ret (le_op lo_add (la_fz (le_op lo_add (la_fz (le_slice (la_sl (i := 1)) lpo_none (lpo_some (le_var (i := 2))))) (la_fz (le_lst (las_cons (la_fz (le_op lo_ix (la_sl (i := 1)) (la_sl (i := 2)))) las_nil))))) (la_fz (le_slice (la_sl (i := 1)) (lpo_some (le_var (i := 2))) lpo_none)))) ls_next) (ls_seq (ls_asg (le_cb lc_list (las_cons (la_sl (i := 1)) las_nil)) (lg_name (i := 5) rfl)) (ls_seq (ls_set2 (i := 5) (le_op lo_ix (la_sl (i := 5)) (la_sl (i := 3))) (le_op lo_ix (la_sl (i := 5)) (la_sl (i := 2))) (le_var (i := 2)) (le_var (i := 3))) (ls_ret (le_var (i := 5)))))))))) (fun p ds Q h => Nat.le_trans (Nat.le_of_eq (ln_law_changed_rows p ds Q h)) (by decide)) rd_law_changed_rows h⟩
theorem ln_law_bent : ∀ p ds Q, pc_law_bent p ds Q → ds.length + 1 = 3 := fun p ds Q h => by unfold pc_law_bent at h; split at h; (first | rfl | exact h.elim); (first | rfl | exact h.elim)
set_option maxHeartbeats 4000000 in
theorem ok_law_bent (D : DefAt K mg "_law_bent" s_law_bent) (T : Txt mg) (C_law_changed : Cal P w K mg base 2 "_law_changed" ["_law_stream_here", "_law_row"] (spR K pc_law_changed)) (C_law_changed_rows : Cal P w K mg base 2 "_law_changed_rows" ["_law_stream_here", "_law_left"] (spR K pc_law_changed_rows)) (C_law_take : Cal P w K mg base 1 "_law_take" ["_law_stream_here", "_law_most"] (spR K pc_law_take)) : Cal P w K mg base 3 "_law_bent" ["_law_stream_here", "_law_kept", "_law_left"] (spR K pc_law_bent) := by
 refine D.ok sc_law_bent (fun _ _ _ _ _ _ us hl => match us, hl with | [_, _, _], _ => rfl) (fun vs H Q E h => ?_) (fun f cdv A outer s H vs Q E hr h => ?_)
 ·exact lenR ln_law_bent h
 ·have hu := hr.units
  exact ⟨_, (pss_cons (ps_set (i := 3) sc_law_bent.nd rfl (by first | exact Or.inl rfl | exact Or.inr rfl) (pe_cal2 C_law_take (hr.mono (by decide)) (paC (pv 0) (paC pe_int pa_nil)))) (pss_cons (ps_if (PW.pt (pw_and (pt_cmpR (u_eq2 K rfl hu) (pv 3) pe_int (nomark _)) (pw_and1 (pt_cmpR (u_ne2 K rfl hu) (pv 2) (pe_lst pa_nil) (nomark _))))) (pss_cons (ps_set (i := 4) sc_law_bent.nd rfl (by first | exact Or.inl rfl | exact Or.inr rfl) (pe_cal2 C_law_take (hr.mono (by decide)) (paC (pv 0) (paC (pe_callB2 (u_len K rfl) rfl T.b_len PySem.boot_len (paC (pv 2) pa_nil)) pa_nil)))) (pss_cons (ps_set (i := 5) sc_law_bent.nd rfl (by first | exact Or.inl rfl | exact Or.inr rfl) (pe_cal2 C_law_take (hr.mono (by decide)) (paC (pv 0) (paC pe_int pa_nil)))) (pss_cons (ps_set (i := 6) sc_law_bent.nd rfl (by first | exact Or.inl rfl | exact Or.inr rfl) (pe_callTy2 (u_list K rfl) rfl T.b_list boot_list (paC (pe_ix (u_ix K rfl) (pv 2) (pv 4) (fun _ _ => rfl)) pa_nil))) (pss_cons (ps_asg (pe_ix (u_ix K rfl) (pe_lst (paC (pe_op (u_add K rfl) (pe_ix (u_ix K rfl) (pv 6) (pv 5) (fun _ _ => rfl)) pe_int) (paC (pe_op u_sub (pe_ix (u_ix K rfl) (pv 6) (pv 5) (fun _ _ => rfl)) pe_int) (paC (pe_op u_sub (pe_cal2 C_law_take (hr.mono (by decide)) (paC (pv 0) (paC pe_int pa_nil))) pe_int) pa_nil)))) (pe_cal2 C_law_take (hr.mono (by decide)) (paC (pv 0) (paC pe_int pa_nil))) (fun _ _ => rfl)) (pg_sub (pv 6) (pv 5) set_list)) (pss_one (ps_ret (pe_lst (paC (pv 1) (paC (pe_op (u_add K rfl) (pe_op (u_add K rfl) (pe_slice (u_sl K rfl) (pv 2) po_none (po_some (pv 4))) (pe_lst (paC (pv 6) pa_nil))) (pe_slice (u_sl K rfl) (pv 2) (po_some (pe_op (u_add K rfl) (pv 4) pe_int)) po_none)) pa_nil))))))))) pss_nil) (pss_cons (ps_if (PW.pt (pw_and (pt_cmpR (u_eq2 K rfl hu) (pv 3) pe_int (nomark _)) (pw_and1 (pt_cmpR (u_ne2 K rfl hu) (pv 2) (pe_lst pa_nil) (nomark _))))) (pss_one (ps_ret (pe_lst (paC (pv 1) (paC (pe_cal2 C_law_changed_rows (hr.mono (by decide)) (paC (pv 0) (paC (pv 2) pa_nil))) pa_nil))))) pss_nil) (pss_cons (ps_if (PW.pt (pw_and (pt_cmpR (u_eq2 K rfl hu) (pv 3) pe_int (nomark _)) (pw_and1 (pt_cmpR (u_ne2 K rfl hu) (pv 2) (pe_lst pa_nil) (nomark _))))) (pss_cons (ps_set (i := 4) sc_law_bent.nd rfl (by first | exact Or.inl rfl | exact Or.inr rfl) (pe_cal2 C_law_take (hr.mono (by decide)) (paC (pv 0) (paC (pe_callB2 (u_len K rfl) rfl T.b_len PySem.boot_len (paC (pv 2) pa_nil)) pa_nil)))) (pss_one (ps_ret (pe_lst (paC (pe_callB2 (u_sortU K rfl) rfl T.b_sorted boot_sorted (paC (pe_op (u_add K rfl) (pv 1) (pe_lst (paC (pe_ix (u_ix K rfl) (pe_ix (u_ix K rfl) (pv 2) (pv 4) (fun _ _ => rfl)) pe_int (fun _ _ => rfl)) pa_nil))) pa_nil)) (paC (pe_op (u_add K rfl) (pe_slice (u_sl K rfl) (pv 2) po_none (po_some (pv 4))) (pe_slice (u_sl K rfl) (pv 2) (po_some (pe_op (u_add K rfl) (pv 4) pe_int)) po_none)) pa_nil)))))) pss_nil) (pss_cons (ps_if (pt_cmpR (u_eq2 K rfl hu) (pv 1) (pe_lst pa_nil) (nomark _)) (pss_one (ps_ret (pe_lst (paC (pe_lst (paC (pe_cal2 C_law_take (hr.mono (by decide)) (paC (pv 0) (paC pe_int pa_nil))) pa_nil)) (paC (pv 2) pa_nil))))) pss_nil) (pss_one (ps_ret (pe_lst (paC (pe_cal2 C_law_changed (hr.mono (by decide)) (paC (pv 0) (paC (pv 1) pa_nil))) (paC (pv 2) pa_nil)))))))))), fnR (K := K) (c := pc_law_bent) (ps := pp_law_bent) (N := ["_law_stream_here", "_law_kept", "_law_left", "_law_way", "_law_at", "_law_place", "_law_row"]) (ls_seq (ls_asg (le_callR (i := 0) (las_cons (la_fz le_int) las_nil)) (lg_name (i := 3) rfl)) (ls_seq (ls_if (lt_and (lt_T (le_op lo_eq2 (la_sl (i := 3)) (la_fz le_int))) (lt_T (le_op lo_ne2 (la_sl (i := 2)) (la_fz (le_lst las_nil))))) (ls_seq (ls_asg (le_callR (i := 0) (las_cons (la_fz (le_cb lc_len (las_cons (la_sl (i := 2)) las_nil))) las_nil)) (lg_name (i := 4) rfl)) (ls_seq (ls_asg (le_callR (i := 0) (las_cons (la_fz le_int) las_nil)) (lg_name (i := 5) rfl)) (ls_seq (ls_asg (le_cb lc_list (las_cons (la_fz (le_op lo_ix (la_sl (i := 2)) (la_sl (i := 4)))) las_nil)) (lg_name (i := 6) rfl)) (ls_seq (ls_setI (i := 6) (le_op lo_ix (la_fz (le_lst (las_cons (la_fz (le_op lo_add (la_fz (le_op lo_ix (la_sl (i := 6)) (la_sl (i := 5)))) (la_fz le_int))) (las_cons (la_fz (le_op lo_sub (la_fz (le_op lo_ix (la_sl (i := 6)) (la_sl (i := 5)))) (la_fz le_int))) (las_cons (la_fz (le_op lo_sub (la_fz (le_callR (i := 0) (las_cons (la_fz le_int) las_nil))) (la_fz le_int))) las_nil))))) (la_fz (le_callR (i := 0) (las_cons (la_fz le_int) las_nil)))) (le_var (i := 5))) (ls_ret (le_lst (las_cons (la_fz (le_var (i := 1))) (las_cons (la_fz (le_op lo_add (la_fz (le_op lo_add (la_fz (le_slice (la_sl (i := 2)) lpo_none (lpo_some (le_var (i := 4))))) (la_fz (le_lst (las_cons (la_fz (le_var (i := 6))) las_nil))))) (la_fz (le_slice (la_sl (i := 2)) (lpo_some (le_op lo_add (la_sl (i := 4)) (la_fz le_int))) lpo_none)))) las_nil)))))))) ls_next) (ls_seq (ls_if (lt_and (lt_T (le_op lo_eq2 (la_sl (i := 3)) (la_fz le_int))) (lt_T (le_op lo_ne2 (la_sl (i := 2)) (la_fz (le_lst las_nil))))) (ls_ret (le_lst (las_cons (la_fz (le_var (i := 1))) (las_cons (la_fz (le_callR (i := 0) (las_cons (la_fz (le_var (i := 2))) las_nil))) las_nil)))) ls_next) (ls_seq (ls_if (lt_and (lt_T (le_op lo_eq2 (la_sl (i := 3)) (la_fz le_int))) (lt_T (le_op lo_ne2 (la_sl (i := 2)) (la_fz (le_lst las_nil))))) (ls_seq (ls_asg (le_callR (i := 0) (las_cons (la_fz (le_cb lc_len (las_cons (la_sl (i := 2)) las_nil))) las_nil)) (lg_name (i := 4) rfl)) (ls_ret (le_lst (las_cons (la_fz (le_cb lc_sortU (las_cons (la_fz (le_op lo_add (la_sl (i := 1)) (la_fz (le_lst (las_cons (la_fz (le_op lo_ix (la_fz (le_op lo_ix (la_sl (i := 2)) (la_sl (i := 4)))) (la_fz le_int))) las_nil))))) las_nil))) (las_cons (la_fz (le_op lo_add (la_fz (le_slice (la_sl (i := 2)) lpo_none (lpo_some (le_var (i := 4))))) (la_fz (le_slice (la_sl (i := 2)) (lpo_some (le_op lo_add (la_sl (i := 4)) (la_fz le_int))) lpo_none)))) las_nil))))) ls_next) (ls_seq (ls_if (lt_T (le_op lo_eq2 (la_sl (i := 1)) (la_fz (le_lst las_nil)))) (ls_ret (le_lst (las_cons (la_fz (le_lst (las_cons (la_fz (le_callR (i := 0) (las_cons (la_fz le_int) las_nil))) las_nil))) (las_cons (la_fz (le_var (i := 2))) las_nil)))) ls_next) (ls_ret (le_lst (las_cons (la_fz (le_callR (i := 0) (las_cons (la_fz (le_var (i := 1))) las_nil))) (las_cons (la_fz (le_var (i := 2))) las_nil))))))))) (fun p ds Q h => Nat.le_trans (Nat.le_of_eq (ln_law_bent p ds Q h)) (by decide)) rd_law_bent h⟩
theorem ln_law_paper : ∀ p ds Q, pc_law_paper p ds Q → ds.length + 1 = 2 := fun p ds Q h => by unfold pc_law_paper at h; split at h; (first | rfl | exact h.elim); (first | rfl | exact h.elim)
set_option maxHeartbeats 4000000 in
theorem ok_law_paper (D : DefAt K mg "_law_paper" s_law_paper) (T : Txt mg) (C_law_roots : Cal P w K mg base 2 "_law_roots" ["_law_pieces_here"] (spP K pc_law_roots)) (C_law_stands : Cal P w K mg base 1 "_law_stands" ["_law_text", "_law_piece"] (spP K pc_law_stands)) (C_law_take : Cal P w K mg base 1 "_law_take" ["_law_stream_here", "_law_most"] (spR K pc_law_take)) : Cal P w K mg base 3 "_law_paper" ["_law_stream_here", "_law_pieces_here"] (spR K pc_law_paper) := by
 refine D.ok sc_law_paper (fun _ _ _ _ _ _ us hl => match us, hl with | [_, _], _ => rfl) (fun vs H Q E h => ?_) (fun f cdv A outer s H vs Q E hr h => ?_)
 ·exact lenR ln_law_paper h
 ·have hu := hr.units
  exact ⟨_, (pss_cons (ps_set (i := 2) sc_law_paper.nd rfl (by first | exact Or.inl rfl | exact Or.inr rfl) (pe_lst pa_nil)) (pss_cons (ps_for PassesOwn.never rfl (pi_any K rfl (pe_cal2 C_law_roots (hr.mono (by decide)) (paC (pv 1) pa_nil))) (pg_name (i := 3) sc_law_paper.nd rfl (by first | exact Or.inl rfl | exact Or.inr rfl)) (pss_cons (ps_setC (wi := (iRng1 (tCons (tCB (rLenU K) (tCons (tVar 1) tNil)) tNil))) (g := (gName 0)) (tts := (tTest (tOp (rEqU2 K false) (tOp (rIxU K) (tVar 2) (tVar 0)) (tVar 1)))) (te := (tVar 0)) (i := 4) ["_law_k", "_law_root", "_law_pieces_here"] [none, some 3, some 1] sc_law_paper.nd rfl (Or.inl rfl) rfl (pi_range1 rfl T.b_range (paC (pe_callB2 (u_len K rfl) rfl T.b_len PySem.boot_len (paC (pv 1) pa_nil)) pa_nil)) (fun _ _ _ _ => ⟨(pg_name (i := 0) (by show List.Nodup (["_law_k", "_law_root", "_law_pieces_here"] : List Str); decide +kernel) rfl (by first | exact Or.inl rfl | exact Or.inr rfl)), (pif_one (pt_cmpR (u_eq2 K rfl hu) (pe_ix (u_ix K rfl) (pv 2) (pv 0) (fun _ _ => rfl)) (pv 1) (nomark _))), (pv 0)⟩) (by kernel_rfl)) (pss_one (ps_expr (pe_bmK K rfl PySem.F.plainAttrs_list PySem.F.slot_list_append PySem.F.type_list_append mt_append (pv 2) (paC (pe_ix (u_ix K rfl) (pv 4) (pe_cal2 C_law_take (hr.mono (by decide)) (paC (pv 0) (paC (pe_callB2 (u_len K rfl) rfl T.b_len PySem.boot_len (paC (pv 4) pa_nil)) pa_nil))) (fun _ _ => rfl)) pa_nil)))))) (pss_cons (ps_set (i := 2) sc_law_paper.nd rfl (by first | exact Or.inl rfl | exact Or.inr rfl) (pe_callB2 (u_sortU K rfl) rfl T.b_sorted boot_sorted (paC (pv 2) pa_nil))) (pss_cons (ps_set (i := 5) sc_law_paper.nd rfl (by first | exact Or.inl rfl | exact Or.inr rfl) (pe_lst pa_nil)) (pss_cons (ps_for PassesOwn.never rfl (pi_range1 rfl T.b_range (paC (pe_callB2 (u_len K rfl) rfl T.b_len PySem.boot_len (paC (pv 1) pa_nil)) pa_nil)) (pg_name (i := 6) sc_law_paper.nd rfl (by first | exact Or.inl rfl | exact Or.inr rfl)) (pss_one (ps_if (pt_cmpR (u_notin K rfl) (pv 6) (pv 2) (by with_unfolding_all rfl)) (pss_cons (ps_setC (wi := (iAny K (tVar 2))) (g := (gName 0)) (tts := (tTest (tOp (rEqU2 K true) (tCall (spP K pc_law_stands) [] E0 (tCons (tOp (rIxU K) (tVar 1) (tVar 0)) (tCons (tOp (rIxU K) (tVar 1) (tVar 2)) tNil))) (tLst tNil)))) (te := (tVar 0)) (i := 4) ["_law_other", "_law_pieces_here", "_law_k"] [none, some 1, some 6] sc_law_paper.nd rfl (Or.inl rfl) rfl (pi_any K rfl (pv 2)) (fun _ _ _ _ => ⟨(pg_name (i := 0) (by show List.Nodup (["_law_other", "_law_pieces_here", "_law_k"] : List Str); decide +kernel) rfl (by first | exact Or.inl rfl | exact Or.inr rfl)), (pif_one (pt_cmpR (u_ne2 K rfl hu) (pe_cal2 C_law_stands (hr.mono (by decide)) (paC (pe_ix (u_ix K rfl) (pv 1) (pv 0) (fun _ _ => rfl)) (paC (pe_ix (u_ix K rfl) (pv 1) (pv 2) (fun _ _ => rfl)) pa_nil))) (pe_lst pa_nil) (nomark _))), (pv 0)⟩) (by kernel_rfl)) (pss_cons (ps_set (i := 7) sc_law_paper.nd rfl (by first | exact Or.inl rfl | exact Or.inr rfl) (pe_ix (u_ix K rfl) (pv 4) (pe_cal2 C_law_take (hr.mono (by decide)) (paC (pv 0) (paC (pe_callB2 (u_len K rfl) rfl T.b_len PySem.boot_len (paC (pv 4) pa_nil)) pa_nil))) (fun _ _ => rfl))) (pss_cons (ps_set (i := 8) sc_law_paper.nd rfl (by first | exact Or.inl rfl | exact Or.inr rfl) (pe_cal2 C_law_stands (hr.mono (by decide)) (paC (pe_ix (u_ix K rfl) (pv 1) (pv 7) (fun _ _ => rfl)) (paC (pe_ix (u_ix K rfl) (pv 1) (pv 6) (fun _ _ => rfl)) pa_nil)))) (pss_one (ps_expr (pe_bmK K rfl PySem.F.plainAttrs_list PySem.F.slot_list_append PySem.F.type_list_append mt_append (pv 5) (paC (pe_lst (paC (pv 6) (paC (pv 7) (paC (pe_ix (u_ix K rfl) (pv 8) (pe_cal2 C_law_take (hr.mono (by decide)) (paC (pv 0) (paC (pe_callB2 (u_len K rfl) rfl T.b_len PySem.boot_len (paC (pv 8) pa_nil)) pa_nil))) (fun _ _ => rfl)) pa_nil)))) pa_nil))))))) pss_nil))) (pss_one (ps_ret (pe_lst (paC (pv 2) (paC (pv 5) pa_nil)))))))))), fnR (K := K) (c := pc_law_paper) (ps := pp_law_paper) (N := ["_law_stream_here", "_law_pieces_here", "_law_kept", "_law_root", "_law_some", "_law_left", "_law_k", "_law_holder", "_law_spots"]) (ls_seq (ls_asg (le_lst las_nil) (lg_name (i := 2) rfl)) (ls_seq (ls_for (li_any (le_callP (c := pc_law_roots) (las_cons (la_fz (le_var (i := 1))) las_nil))) (lgd_name (i := 3) rfl) (ls_seq (ls_asg (le_comp (ix := [none, some 3, some 1]) rfl (li_r1 (las_cons (la_fz (le_cb lc_len (las_cons (la_sl (i := 1)) las_nil))) las_nil)) (fun fs hc => (lgd_name (i := 0) (ncap hc (by decide)))) (lt_T (le_op lo_eq2 (la_fz (le_op lo_ix (la_sl (i := 2)) (la_sl (i := 0)))) (la_sl (i := 1)))) (le_var (i := 0))) (lg_name (i := 4) rfl)) (ls_drop (le_app (i := 2) (le_op lo_ix (la_sl (i := 4)) (la_fz (le_callR (i := 0) (las_cons (la_fz (le_cb lc_len (las_cons (la_sl (i := 4)) las_nil))) las_nil)))))))) (ls_seq (ls_asg (le_cb lc_sortU (las_cons (la_sl (i := 2)) las_nil)) (lg_name (i := 2) rfl)) (ls_seq (ls_asg (le_lst las_nil) (lg_name (i := 5) rfl)) (ls_seq (ls_for (li_r1 (las_cons (la_fz (le_cb lc_len (las_cons (la_sl (i := 1)) las_nil))) las_nil)) (lgd_name (i := 6) rfl) (ls_if (lt_T (le_op lo_in (la_sl (i := 6)) (la_sl (i := 2)))) (ls_seq (ls_asg (le_comp (ix := [none, some 1, some 6]) rfl (li_any (le_var (i := 2))) (fun fs hc => (lgd_name (i := 0) (ncap hc (by decide)))) (lt_T (le_op lo_ne2 (la_fz (le_callP (c := pc_law_stands) (las_cons (la_fz (le_op lo_ix (la_sl (i := 1)) (la_sl (i := 0)))) (las_cons (la_fz (le_op lo_ix (la_sl (i := 1)) (la_sl (i := 2)))) las_nil)))) (la_fz (le_lst las_nil)))) (le_var (i := 0))) (lg_name (i := 4) rfl)) (ls_seq (ls_asg (le_op lo_ix (la_sl (i := 4)) (la_fz (le_callR (i := 0) (las_cons (la_fz (le_cb lc_len (las_cons (la_sl (i := 4)) las_nil))) las_nil)))) (lg_name (i := 7) rfl)) (ls_seq (ls_asg (le_callP (c := pc_law_stands) (las_cons (la_fz (le_op lo_ix (la_sl (i := 1)) (la_sl (i := 7)))) (las_cons (la_fz (le_op lo_ix (la_sl (i := 1)) (la_sl (i := 6)))) las_nil))) (lg_name (i := 8) rfl)) (ls_drop (le_app (i := 5) (le_lst (las_cons (la_fz (le_var (i := 6))) (las_cons (la_fz (le_var (i := 7))) (las_cons (la_fz (le_op lo_ix (la_sl (i := 8)) (la_fz (le_callR (i := 0) (las_cons (la_fz (le_cb lc_len (las_cons (la_sl (i := 8)) las_nil))) las_nil))))) las_nil))))))))) ls_next)) (ls_ret (le_lst (las_cons (la_fz (le_var (i := 2))) (las_cons (la_fz (le_var (i := 5))) las_nil))))))))) (fun p ds Q h => Nat.le_trans (Nat.le_of_eq (ln_law_paper p ds Q h)) (by decide)) rd_law_paper h⟩
theorem ln_law_kinds : ∀ p ds Q, pc_law_kinds p ds Q → ds.length + 1 = 3 := fun p ds Q h => by unfold pc_law_kinds at h; split at h; (first | rfl | exact h.elim); (first | rfl | exact h.elim)
set_option maxHeartbeats 4000000 in
theorem ok_law_kinds (D : DefAt K mg "_law_kinds" s_law_kinds) (T : Txt mg) (C_law_take : Cal P w K mg base 1 "_law_take" ["_law_stream_here", "_law_most"] (spR K pc_law_take)) : Cal P w K mg base 2 "_law_kinds" ["_law_stream_here", "_law_kept", "_law_left"] (spR K pc_law_kinds) := by
 refine D.ok sc_law_kinds (fun _ _ _ _ _ _ us hl => match us, hl with | [_, _, _], _ => rfl) (fun vs H Q E h => ?_) (fun f cdv A outer s H vs Q E hr h => ?_)
 ·exact lenR ln_law_kinds h
 ·have hu := hr.units
  exact ⟨_, (pss_cons (ps_setC (wi := (iAny K (tVar 2))) (g := (gName 0)) (tts := tYes) (te := (tOp (rIxU K) (tLst (tCons (tCB (rListOf K) (tCons (tVar 0) tNil)) (tCons (tCB (rTupU K) (tCons (tVar 0) tNil)) tNil))) (tCall (spR K pc_law_take) [] E0 (tCons (tVar 1) (tCons (tC (V.int 2)) tNil))))) (i := 3) ["_law_row", "_law_stream_here"] [none, some 0] sc_law_kinds.nd rfl (Or.inl rfl) rfl (pi_any K rfl (pv 2)) (fun _ _ _ _ => ⟨(pg_name (i := 0) (by show List.Nodup (["_law_row", "_law_stream_here"] : List Str); decide +kernel) rfl (by first | exact Or.inl rfl | exact Or.inr rfl)), pif_nil, (pe_ix (u_ix K rfl) (pe_lst (paC (pe_callTy2 (u_list K rfl) rfl T.b_list boot_list (paC (pv 0) pa_nil)) (paC (pe_callTy2 (u_tuple K rfl) rfl T.b_tuple boot_tuple (paC (pv 0) pa_nil)) pa_nil))) (pe_cal2 C_law_take (hr.mono (by decide)) (paC (pv 1) (paC pe_int pa_nil))) (fun _ _ => rfl))⟩) (by kernel_rfl)) (pss_one (ps_ret (pe_lst (paC (pe_ix (u_ix K rfl) (pe_lst (paC (pe_callTy2 (u_list K rfl) rfl T.b_list boot_list (paC (pv 1) pa_nil)) (paC (pe_callTy2 (u_tuple K rfl) rfl T.b_tuple boot_tuple (paC (pv 1) pa_nil)) pa_nil))) (pe_cal2 C_law_take (hr.mono (by decide)) (paC (pv 0) (paC pe_int pa_nil))) (fun _ _ => rfl)) (paC (pe_ix (u_ix K rfl) (pe_lst (paC (pv 3) (paC (pe_callTy2 (u_tuple K rfl) rfl T.b_tuple boot_tuple (paC (pv 3) pa_nil)) pa_nil))) (pe_cal2 C_law_take (hr.mono (by decide)) (paC (pv 0) (paC pe_int pa_nil))) (fun _ _ => rfl)) pa_nil)))))), fnR (K := K) (c := pc_law_kinds) (ps := pp_law_kinds) (N := ["_law_stream_here", "_law_kept", "_law_left", "_law_rows"]) (ls_seq (ls_asg (le_comp (ix := [none, some 0]) rfl (li_any (le_var (i := 2))) (fun fs hc => (lgd_name (i := 0) (ncap hc (by decide)))) lt_yes (le_op lo_ix (la_fz (le_lst (las_cons (la_fz (le_cb lc_list (las_cons (la_sl (i := 0)) las_nil))) (las_cons (la_fz (le_cb lc_tuple (las_cons (la_sl (i := 0)) las_nil))) las_nil)))) (la_fz (le_callR (i := 1) (las_cons (la_fz le_int) las_nil))))) (lg_name (i := 3) rfl)) (ls_ret (le_lst (las_cons (la_fz (le_op lo_ix (la_fz (le_lst (las_cons (la_fz (le_cb lc_list (las_cons (la_sl (i := 1)) las_nil))) (las_cons (la_fz (le_cb lc_tuple (las_cons (la_sl (i := 1)) las_nil))) las_nil)))) (la_fz (le_callR (i := 0) (las_cons (la_fz le_int) las_nil))))) (las_cons (la_fz (le_op lo_ix (la_fz (le_lst (las_cons (la_fz (le_var (i := 3))) (las_cons (la_fz (le_cb lc_tuple (las_cons (la_sl (i := 3)) las_nil))) las_nil)))) (la_fz (le_callR (i := 0) (las_cons (la_fz le_int) las_nil))))) las_nil))))) (fun p ds Q h => Nat.le_trans (Nat.le_of_eq (ln_law_kinds p ds Q h)) (by decide)) rd_law_kinds h⟩
theorem ln_law_is : ∀ ds Q, pc_law_is ds Q → ds.length = 4 := fun ds Q h => by unfold pc_law_is at h; split at h; (first | rfl | exact h.elim); (first | rfl | exact h.elim)
set_option maxHeartbeats 4000000 in
theorem ok_law_is (D : DefAt K mg "_law_is" s_law_is) (T : Txt mg) (C_is_left_paper : Cal P w K mg base 4 "is_left_paper" ["pieces", "kept", "left"] (spP K pc_is_left_paper)) : Cal P w K mg base 5 "_law_is" ["_law_pieces_here", "_law_kept", "_law_left", "_law_due"] (spP K pc_law_is) := by
 refine D.ok sc_law_is (fun _ _ _ _ _ _ us hl => match us, hl with | [_, _, _, _], _ => rfl) (fun vs H Q E h => ?_) (fun f cdv A outer s H vs Q E hr h => ?_)
 ·exact lenP ln_law_is h
 ·have hu := hr.units
  exact ⟨_, (pss_cons (ps_set (i := 4) sc_law_is.nd rfl (by first | exact Or.inl rfl | exact Or.inr rfl) (pe_cal2 C_is_left_paper (hr.mono (by decide)) (paC (pv 0) (paC (pv 1) (paC (pv 2) pa_nil))))) (pss_one (ps_ret (pe_and (pe_callB2 (u_isI K rfl) rfl T.b_isinstance boot_isinstance (paC (pv 4) (paC (pe_bltn (v := .ty "bool") rfl T.b_bool boot_bool rfl) pa_nil))) (pe_one (pe_cmpR (u_eq2 K rfl hu) (pv 4) (pv 3) (nomark _))))))), fnP (K := K) (c := pc_law_is) (ps := pp_law_is) (N := ["_law_pieces_here", "_law_kept", "_law_left", "_law_due", "_law_found"]) (ls_seq (ls_asg (le_callP (c := pc_is_left_paper) (las_cons (la_fz (le_var (i := 0))) (las_cons (la_fz (le_var (i := 1))) (las_cons (la_fz (le_var (i := 2))) las_nil)))) (lg_name (i := 4) rfl)) (ls_ret (le_and (le_isI .bool (la_sl (i := 4))) (le_op lo_eq2 (la_sl (i := 4)) (la_sl (i := 3)))))) (fun ds Q h => Nat.le_trans (Nat.le_of_eq (ln_law_is ds Q h)) (by decide)) rd_law_is h⟩
theorem ln_law_odd_ones : ∀ p ds Q, pc_law_odd_ones p ds Q → ds.length + 1 = 4 := fun p ds Q h => by unfold pc_law_odd_ones at h; split at h; (first | rfl | exact h.elim); (first | rfl | exact h.elim)
set_option maxHeartbeats 4000000 in
theorem ok_law_odd_ones (D : DefAt K mg "_law_odd_ones" s_law_odd_ones) (T : Txt mg) (C_law_is : Cal P w K mg base 5 "_law_is" ["_law_pieces_here", "_law_kept", "_law_left", "_law_due"] (spP K pc_law_is)) (C_law_take : Cal P w K mg base 1 "_law_take" ["_law_stream_here", "_law_most"] (spR K pc_law_take)) : Cal P w K mg base 6 "_law_odd_ones" ["_law_stream_here", "_law_pieces_here", "_law_kept", "_law_left"] (spR K pc_law_odd_ones) := by
 refine D.ok sc_law_odd_ones (fun _ _ _ _ _ _ us hl => match us, hl with | [_, _, _, _], _ => rfl) (fun vs H Q E h => ?_) (fun f cdv A outer s H vs Q E hr h => ?_)
 ·exact lenR ln_law_odd_ones h
 ·have hu := hr.units
  exact ⟨_, (pss_cons (ps_if (PW.pt (pw_or (pt_not (@pt_val2 _ _ _ (@pe_cal2 _ _ _ _ _ _ _ _ _ _ C_law_is (hr.mono (by decide)) (@paC _ _ _ _ _ (pv 1) (@paC _ _ _ _ _ (@pe_lst _ _ _ _ (@paC _ _ _ _ _ (@pe_lst _ _ _ _ (@paC _ _ _ _ _ pe_int pa_nil rfl)) pa_nil rfl)) (@paC _ _ _ _ _ (pv 3) (@paC _ _ _ _ _ pe_bl pa_nil rfl) rfl) rfl) rfl) rfl (by decide) rfl rfl) rfl)) (pw_or1 (pt_not (@pt_val2 _ _ _ (@pe_cal2 _ _ _ _ _ _ _ _ _ _ C_law_is (hr.mono (by decide)) (@paC _ _ _ _ _ (pv 1) (@paC _ _ _ _ _ (@pe_lst _ _ _ _ (@paC _ _ _ _ _ pe_dnewK pa_nil rfl)) (@paC _ _ _ _ _ (pv 3) (@paC _ _ _ _ _ pe_bl pa_nil rfl) rfl) rfl) rfl) rfl (by decide) rfl rfl) rfl))))) (pss_one (ps_ret pe_bl)) pss_nil) (pss_cons (ps_for PassesOwn.never rfl (pi_range1 rfl T.b_range (@paC _ _ _ _ _ pe_int pa_nil rfl)) (pg_name (i := 4) sc_law_odd_ones.nd rfl (by first | exact Or.inl rfl | exact Or.inr rfl)) (pss_cons (ps_if (pt_not (@pt_val2 _ _ _ (@pe_cal2 _ _ _ _ _ _ _ _ _ _ C_law_is (hr.mono (by decide)) (@paC _ _ _ _ _ (pv 1) (@paC _ _ _ _ _ (@pe_ix _ _ _ _ _ _ _ (u_ix K rfl) (@pe_lst _ _ _ _ (@paC _ _ _ _ _ pe_non (@paC _ _ _ _ _ pe_bl (@paC _ _ _ _ _ pe_int (@paC _ _ _ _ _ (pe_strS (l := [97, 98]) (by decide +kernel)) (@paC _ _ _ _ _ pe_dnewK (@paC _ _ _ _ _ (@pe_lst _ _ _ _ (@paC _ _ _ _ _ pe_bl pa_nil rfl)) (@paC _ _ _ _ _ (@pe_lst _ _ _ _ (@paC _ _ _ _ _ (pe_strS (l := [97]) (by decide +kernel)) pa_nil rfl)) (@paC _ _ _ _ _ (@pe_lst _ _ _ _ (@paC _ _ _ _ _ pe_non pa_nil rfl)) pa_nil rfl) rfl) rfl) rfl) rfl) rfl) rfl) rfl)) (@pe_cal2 _ _ _ _ _ _ _ _ _ _ C_law_take (hr.mono (by decide)) (@paC _ _ _ _ _ (pv 0) (@paC _ _ _ _ _ pe_int pa_nil rfl) rfl) rfl (by decide) rfl rfl) (fun _ _ => rfl)) (@paC _ _ _ _ _ (pv 3) (@paC _ _ _ _ _ pe_bl pa_nil rfl) rfl) rfl) rfl) rfl (by decide) rfl rfl) rfl)) (pss_one (ps_ret pe_bl)) pss_nil) (pss_cons (ps_if (pt_not (@pt_val2 _ _ _ (@pe_cal2 _ _ _ _ _ _ _ _ _ _ C_law_is (hr.mono (by decide)) (@paC _ _ _ _ _ (pv 1) (@paC _ _ _ _ _ (pv 2) (@paC _ _ _ _ _ (@pe_ix _ _ _ _ _ _ _ (u_ix K rfl) (@pe_lst _ _ _ _ (@paC _ _ _ _ _ pe_non (@paC _ _ _ _ _ pe_bl (@paC _ _ _ _ _ pe_int (@paC _ _ _ _ _ (pe_strS (l := [97, 98]) (by decide +kernel)) (@paC _ _ _ _ _ pe_dnewK (@paC _ _ _ _ _ (@pe_lst _ _ _ _ (@paC _ _ _ _ _ pe_int pa_nil rfl)) (@paC _ _ _ _ _ (@pe_lst _ _ _ _ (@paC _ _ _ _ _ pe_non pa_nil rfl)) (@paC _ _ _ _ _ (@pe_lst _ _ _ _ (@paC _ _ _ _ _ (@pe_lst _ _ _ _ pa_nil) pa_nil rfl)) pa_nil rfl) rfl) rfl) rfl) rfl) rfl) rfl) rfl)) (@pe_cal2 _ _ _ _ _ _ _ _ _ _ C_law_take (hr.mono (by decide)) (@paC _ _ _ _ _ (pv 0) (@paC _ _ _ _ _ pe_int pa_nil rfl) rfl) rfl (by decide) rfl rfl) (fun _ _ => rfl)) (@paC _ _ _ _ _ pe_bl pa_nil rfl) rfl) rfl) rfl) rfl (by decide) rfl rfl) rfl)) (pss_one (ps_ret pe_bl)) pss_nil) (pss_one (ps_if (pt_cmpR (u_ne2 K rfl hu) (pv 3) (@pe_lst _ _ _ _ pa_nil) (nomark _)) (pss_cons (ps_set (i := 5) sc_law_odd_ones.nd rfl (by first | exact Or.inl rfl | exact Or.inr rfl) (@pe_cal2 _ _ _ _ _ _ _ _ _ _ C_law_take (hr.mono (by decide)) (@paC _ _ _ _ _ (pv 0) (@paC _ _ _ _ _ (pe_callB2 (u_len K rfl) rfl T.b_len PySem.boot_len (@paC _ _ _ _ _ (pv 3) pa_nil rfl)) pa_nil rfl) rfl) rfl (by decide) rfl rfl)) (pss_cons (ps_set (i := 6) sc_law_odd_ones.nd rfl (by first | exact Or.inl rfl | exact Or.inr rfl) (pe_callTy2 (u_list K rfl) rfl T.b_list boot_list (@paC _ _ _ _ _ (@pe_ix _ _ _ _ _ _ _ (u_ix K rfl) (pv 3) (pv 5) (fun _ _ => rfl)) pa_nil rfl))) (pss_cons (ps_asg (@pe_ix _ _ _ _ _ _ _ (u_ix K rfl) (@pe_lst _ _ _ _ (@paC _ _ _ _ _ pe_non (@paC _ _ _ _ _ pe_bl (@paC _ _ _ _ _ pe_bl (@paC _ _ _ _ _ (pe_strS (l := [48]) (by decide +kernel)) (@paC _ _ _ _ _ (@pe_lst _ _ _ _ pa_nil) (@paC _ _ _ _ _ (pe_strS (l := [97, 98]) (by decide +kernel)) pa_nil rfl) rfl) rfl) rfl) rfl) rfl)) (@pe_cal2 _ _ _ _ _ _ _ _ _ _ C_law_take (hr.mono (by decide)) (@paC _ _ _ _ _ (pv 0) (@paC _ _ _ _ _ pe_int pa_nil rfl) rfl) rfl (by decide) rfl rfl) (fun _ _ => rfl)) (pg_sub (pv 6) (@pe_cal2 _ _ _ _ _ _ _ _ _ _ C_law_take (hr.mono (by decide)) (@paC _ _ _ _ _ (pv 0) (@paC _ _ _ _ _ pe_int pa_nil rfl) rfl) rfl (by decide) rfl rfl) set_list)) (pss_cons (ps_if (pt_not (@pt_val2 _ _ _ (@pe_cal2 _ _ _ _ _ _ _ _ _ _ C_law_is (hr.mono (by decide)) (@paC _ _ _ _ _ (pv 1) (@paC _ _ _ _ _ (pv 2) (@paC _ _ _ _ _ (@pe_op _ _ _ _ _ _ _ _ (u_add K rfl) (@pe_op _ _ _ _ _ _ _ _ (u_add K rfl) (pe_slice (u_sl K rfl) (pv 3) po_none (po_some (pv 5))) (@pe_lst _ _ _ _ (@paC _ _ _ _ _ (pv 6) pa_nil rfl))) (pe_slice (u_sl K rfl) (pv 3) (po_some (@pe_op _ _ _ _ _ _ _ _ (u_add K rfl) (pv 5) pe_int)) po_none)) (@paC _ _ _ _ _ pe_bl pa_nil rfl) rfl) rfl) rfl) rfl (by decide) rfl rfl) rfl)) (pss_one (ps_ret pe_bl)) pss_nil) (pss_cons (ps_set (i := 6) sc_law_odd_ones.nd rfl (by first | exact Or.inl rfl | exact Or.inr rfl) (@pe_ix _ _ _ _ _ _ _ (u_ix K rfl) (@pe_lst _ _ _ _ (@paC _ _ _ _ _ (pe_slice (u_sl K rfl) (@pe_ix _ _ _ _ _ _ _ (u_ix K rfl) (pv 3) (pv 5) (fun _ _ => rfl)) po_none (po_some pe_int)) (@paC _ _ _ _ _ (@pe_op _ _ _ _ _ _ _ _ (u_add K rfl) (@pe_ix _ _ _ _ _ _ _ (u_ix K rfl) (pv 3) (pv 5) (fun _ _ => rfl)) (@pe_lst _ _ _ _ (@paC _ _ _ _ _ pe_int pa_nil rfl))) (@paC _ _ _ _ _ (pe_slice (u_sl K rfl) (pe_callTy2 (u_tuple K rfl) rfl T.b_tuple boot_tuple (@paC _ _ _ _ _ (@pe_ix _ _ _ _ _ _ _ (u_ix K rfl) (pv 3) (pv 5) (fun _ _ => rfl)) pa_nil rfl)) po_none (po_some pe_int)) pa_nil rfl) rfl) rfl)) (@pe_cal2 _ _ _ _ _ _ _ _ _ _ C_law_take (hr.mono (by decide)) (@paC _ _ _ _ _ (pv 0) (@paC _ _ _ _ _ pe_int pa_nil rfl) rfl) rfl (by decide) rfl rfl) (fun _ _ => rfl))) (pss_one (ps_if (pt_not (@pt_val2 _ _ _ (@pe_cal2 _ _ _ _ _ _ _ _ _ _ C_law_is (hr.mono (by decide)) (@paC _ _ _ _ _ (pv 1) (@paC _ _ _ _ _ (pv 2) (@paC _ _ _ _ _ (@pe_op _ _ _ _ _ _ _ _ (u_add K rfl) (@pe_op _ _ _ _ _ _ _ _ (u_add K rfl) (pe_slice (u_sl K rfl) (pv 3) po_none (po_some (pv 5))) (@pe_lst _ _ _ _ (@paC _ _ _ _ _ (pv 6) pa_nil rfl))) (pe_slice (u_sl K rfl) (pv 3) (po_some (@pe_op _ _ _ _ _ _ _ _ (u_add K rfl) (pv 5) pe_int)) po_none)) (@paC _ _ _ _ _ pe_bl pa_nil rfl) rfl) rfl) rfl) rfl (by decide) rfl rfl) rfl)) (pss_one (ps_ret pe_bl)) pss_nil))))))) pss_nil))))) (pss_one (ps_ret pe_bl)))), fnR (K := K) (c := pc_law_odd_ones) (ps := pp_law_odd_ones) (N := ["_law_stream_here", "_law_pieces_here", "_law_kept", "_law_left", "_law_k", "_law_at", "_law_row"]) (ls_seq (ls_if (lt_or (lt_not (lt_B (le_callP (c := pc_law_is) (las_cons (la_fz (le_var (i := 1))) (las_cons (la_fz (le_lst (las_cons (la_fz (le_lst (las_cons (la_fz le_int) las_nil))) las_nil))) (las_cons (la_fz (le_var (i := 3))) (las_cons (la_fz le_bl) las_nil))))))) (lt_not (lt_B (le_callP (c := pc_law_is) (las_cons (la_fz (le_var (i := 1))) (las_cons (la_fz (le_lst (las_cons (la_fz le_dic0) las_nil))) (las_cons (la_fz (le_var (i := 3))) (las_cons (la_fz le_bl) las_nil)))))))) (ls_ret le_bl) ls_next) (ls_seq (ls_for (li_r1 (las_cons (la_fz le_int) las_nil)) (lgd_name (i := 4) rfl) (ls_seq (ls_if (lt_not (lt_B (le_callP (c := pc_law_is) (las_cons (la_fz (le_var (i := 1))) (las_cons (la_fz (le_op lo_ix (la_fz (le_lst (las_cons (la_fz le_non) (las_cons (la_fz le_bl) (las_cons (la_fz le_int) (las_cons (la_fz (le_str (l := [97, 98]))) (las_cons (la_fz le_dic0) (las_cons (la_fz (le_lst (las_cons (la_fz le_bl) las_nil))) (las_cons (la_fz (le_lst (las_cons (la_fz (le_str (l := [97]))) las_nil))) (las_cons (la_fz (le_lst (las_cons (la_fz le_non) las_nil))) las_nil)))))))))) (la_fz (le_callR (i := 0) (las_cons (la_fz le_int) las_nil))))) (las_cons (la_fz (le_var (i := 3))) (las_cons (la_fz le_bl) las_nil))))))) (ls_ret le_bl) ls_next) (ls_seq (ls_if (lt_not (lt_B (le_callP (c := pc_law_is) (las_cons (la_fz (le_var (i := 1))) (las_cons (la_fz (le_var (i := 2))) (las_cons (la_fz (le_op lo_ix (la_fz (le_lst (las_cons (la_fz le_non) (las_cons (la_fz le_bl) (las_cons (la_fz le_int) (las_cons (la_fz (le_str (l := [97, 98]))) (las_cons (la_fz le_dic0) (las_cons (la_fz (le_lst (las_cons (la_fz le_int) las_nil))) (las_cons (la_fz (le_lst (las_cons (la_fz le_non) las_nil))) (las_cons (la_fz (le_lst (las_cons (la_fz (le_lst las_nil)) las_nil))) las_nil)))))))))) (la_fz (le_callR (i := 0) (las_cons (la_fz le_int) las_nil))))) (las_cons (la_fz le_bl) las_nil))))))) (ls_ret le_bl) ls_next) (ls_if (lt_T (le_op lo_ne2 (la_sl (i := 3)) (la_fz (le_lst las_nil)))) (ls_seq (ls_asg (le_callR (i := 0) (las_cons (la_fz (le_cb lc_len (las_cons (la_sl (i := 3)) las_nil))) las_nil)) (lg_name (i := 5) rfl)) (ls_seq (ls_asg (le_cb lc_list (las_cons (la_fz (le_op lo_ix (la_sl (i := 3)) (la_sl (i := 5)))) las_nil)) (lg_name (i := 6) rfl)) (ls_seq (ls_setI (i := 6) (le_op lo_ix (la_fz (le_lst (las_cons (la_fz le_non) (las_cons (la_fz le_bl) (las_cons (la_fz le_bl) (las_cons (la_fz (le_str (l := [48]))) (las_cons (la_fz (le_lst las_nil)) (las_cons (la_fz (le_str (l := [97, 98]))) las_nil)))))))) (la_fz (le_callR (i := 0) (las_cons (la_fz le_int) las_nil)))) (le_callR (i := 0) (las_cons (la_fz le_int) las_nil))) (ls_seq (ls_if (lt_not (lt_B (le_callP (c := pc_law_is) (las_cons (la_fz (le_var (i := 1))) (las_cons (la_fz (le_var (i := 2))) (las_cons (la_fz (le_op lo_add (la_fz (le_op lo_add (la_fz (le_slice (la_sl (i := 3)) lpo_none (lpo_some (le_var (i := 5))))) (la_fz (le_lst (las_cons (la_fz (le_var (i := 6))) las_nil))))) (la_fz (le_slice (la_sl (i := 3)) (lpo_some (le_op lo_add (la_sl (i := 5)) (la_fz le_int))) lpo_none)))) (las_cons (la_fz le_bl) las_nil))))))) (ls_ret le_bl) ls_next) (ls_seq (ls_asg (le_op lo_ix (la_fz (le_lst (las_cons (la_fz (le_slice (la_fz (le_op lo_ix (la_sl (i := 3)) (la_sl (i := 5)))) lpo_none (lpo_some le_int))) (las_cons (la_fz (le_op lo_add (la_fz (le_op lo_ix (la_sl (i := 3)) (la_sl (i := 5)))) (la_fz (le_lst (las_cons (la_fz le_int) las_nil))))) (las_cons (la_fz (le_slice (la_fz (le_cb lc_tuple (las_cons (la_fz (le_op lo_ix (la_sl (i := 3)) (la_sl (i := 5)))) las_nil))) lpo_none (lpo_some le_int))) las_nil))))) (la_fz (le_callR (i := 0) (las_cons (la_fz le_int) las_nil)))) (lg_name (i := 6) rfl)) (ls_if (lt_not (lt_B (le_callP (c := pc_law_is) (las_cons (la_fz (le_var (i := 1))) (las_cons (la_fz (le_var (i := 2))) (las_cons (la_fz (le_op lo_add (la_fz (le_op lo_add (la_fz (le_slice (la_sl (i := 3)) lpo_none (lpo_some (le_var (i := 5))))) (la_fz (le_lst (las_cons (la_fz (le_var (i := 6))) las_nil))))) (la_fz (le_slice (la_sl (i := 3)) (lpo_some (le_op lo_add (la_sl (i := 5)) (la_fz le_int))) lpo_none)))) (las_cons (la_fz le_bl) las_nil))))))) (ls_ret le_bl) ls_next)))))) ls_next)))) (ls_ret le_bl))) (fun p ds Q h => Nat.le_trans (Nat.le_of_eq (ln_law_odd_ones p ds Q h)) (by decide)) rd_law_odd_ones h⟩
theorem ln_law : ∀ ds Q, pc_law ds Q → ds.length = 1 := fun ds Q h => by obtain ⟨_, rfl, _⟩ := h; rfl
set_option maxHeartbeats 4000000 in
theorem ok_law (D : DefAt K mg "law" s_law) (T : Txt mg) (C_law_bent : Cal P w K mg base 3 "_law_bent" ["_law_stream_here", "_law_kept", "_law_left"] (spR K pc_law_bent)) (C_law_is : Cal P w K mg base 5 "_law_is" ["_law_pieces_here", "_law_kept", "_law_left", "_law_due"] (spP K pc_law_is)) (C_law_kinds : Cal P w K mg base 2 "_law_kinds" ["_law_stream_here", "_law_kept", "_law_left"] (spR K pc_law_kinds)) (C_law_odd_ones : Cal P w K mg base 6 "_law_odd_ones" ["_law_stream_here", "_law_pieces_here", "_law_kept", "_law_left"] (spR K pc_law_odd_ones)) (C_law_paper : Cal P w K mg base 3 "_law_paper" ["_law_stream_here", "_law_pieces_here"] (spR K pc_law_paper)) (C_law_pieces : Cal P w K mg base 3 "_law_pieces" ["_law_stream_here", "_law_many", "_law_most"] (spR K pc_law_pieces)) (C_law_right : Cal P w K mg base 2 "_law_right" ["_law_pieces_here", "_law_kept", "_law_left"] (spP K pc_law_right)) (C_law_stream : Cal P w K mg base 1 "_law_stream" ["_law_script", "_law_k"] (spP K pc_law_stream)) (C_law_take : Cal P w K mg base 1 "_law_take" ["_law_stream_here", "_law_most"] (spR K pc_law_take)) : Cal P w K mg base 7 "law" ["_law_script"] (spP K pc_law) := by
 refine D.ok sc_law (fun _ _ _ _ _ _ us hl => match us, hl with | [_], _ => rfl) (fun vs H Q E h => ?_) (fun f cdv A outer s H vs Q E hr h => ?_)
 ·exact lenP ln_law h
 ·have hu := hr.units
  exact ⟨_, (pss_cons (ps_set (i := 1) sc_law.nd rfl (by first | exact Or.inl rfl | exact Or.inr rfl) (pe_cal2 C_law_stream (hr.mono (by decide)) (paC (pv 0) (paC pe_int pa_nil)))) (pss_cons (ps_set (i := 2) sc_law.nd rfl (by first | exact Or.inl rfl | exact Or.inr rfl) (pe_cal2 C_law_pieces (hr.mono (by decide)) (paC (pv 1) (paC (pe_cal2 C_law_take (hr.mono (by decide)) (paC (pv 1) (paC pe_int pa_nil))) (paC pe_int pa_nil))))) (pss_cons (ps_set (i := 3) sc_law.nd rfl (by first | exact Or.inl rfl | exact Or.inr rfl) (pe_callTy2 (u_list K rfl) rfl T.b_list boot_list (paC (pv 2) pa_nil))) (pss_cons (ps_set (i := 1) sc_law.nd rfl (by first | exact Or.inl rfl | exact Or.inr rfl) (pe_cal2 C_law_stream (hr.mono (by decide)) (paC (pv 0) (paC pe_int pa_nil)))) (pss_cons (ps_asg (pe_cal2 C_law_paper (hr.mono (by decide)) (paC (pv 1) (paC (pv 2) pa_nil))) (pg_row K rfl (n := 2) rfl (pgs_cons (pg_name (i := 4) sc_law.nd rfl (by first | exact Or.inl rfl | exact Or.inr rfl)) (pgs_cons (pg_name (i := 5) sc_law.nd rfl (by first | exact Or.inl rfl | exact Or.inr rfl)) pgs_nil)))) (pss_cons (ps_asg (pe_cal2 C_law_kinds (hr.mono (by decide)) (paC (pv 1) (paC (pv 4) (paC (pv 5) pa_nil)))) (pg_row K rfl (n := 2) rfl (pgs_cons (pg_name (i := 6) sc_law.nd rfl (by first | exact Or.inl rfl | exact Or.inr rfl)) (pgs_cons (pg_name (i := 7) sc_law.nd rfl (by first | exact Or.inl rfl | exact Or.inr rfl)) pgs_nil)))) (pss_cons (ps_if (pt_not (pt_val2 (pe_cal2 C_law_is (hr.mono (by decide)) (paC (pv 3) (paC (pv 6) (paC (pv 7) (paC pe_bl pa_nil))))))) (pss_one (ps_ret pe_bl)) pss_nil) (pss_cons (ps_for PassesOwn.never rfl (pi_range1 rfl T.b_range (paC (pe_callB2 (u_max2 rfl) rfl T.b_max boot_max (paC pe_int (paC (pe_callB2 (u_min2 rfl) rfl T.b_min boot_min (paC pe_int (paC (pe_op u_sub (pe_callB2 (u_len K rfl) rfl T.b_len PySem.boot_len (paC (pv 0) pa_nil)) pe_int) pa_nil))) pa_nil))) pa_nil)) (pg_name (i := 8) sc_law.nd rfl (by first | exact Or.inl rfl | exact Or.inr rfl)) (pss_cons (ps_set (i := 1) sc_law.nd rfl (by first | exact Or.inl rfl | exact Or.inr rfl) (pe_cal2 C_law_stream (hr.mono (by decide)) (paC (pv 0) (paC (pe_op (u_add K rfl) pe_int (pv 8)) pa_nil)))) (pss_cons (ps_set (i := 9) sc_law.nd rfl (by first | exact Or.inl rfl | exact Or.inr rfl) (pe_cal2 C_law_bent (hr.mono (by decide)) (paC (pv 1) (paC (pv 4) (paC (pv 5) pa_nil))))) (pss_cons (ps_asg (pe_cal2 C_law_kinds (hr.mono (by decide)) (paC (pv 1) (paC (pe_ix (u_ix K rfl) (pv 9) pe_int (fun _ _ => rfl)) (paC (pe_ix (u_ix K rfl) (pv 9) pe_int (fun _ _ => rfl)) pa_nil)))) (pg_row K rfl (n := 2) rfl (pgs_cons (pg_name (i := 6) sc_law.nd rfl (by first | exact Or.inl rfl | exact Or.inr rfl)) (pgs_cons (pg_name (i := 7) sc_law.nd rfl (by first | exact Or.inl rfl | exact Or.inr rfl)) pgs_nil)))) (pss_one (ps_if (pt_not (pt_val2 (pe_cal2 C_law_is (hr.mono (by decide)) (paC (pv 3) (paC (pv 6) (paC (pv 7) (paC (pe_cal2 C_law_right (hr.mono (by decide)) (paC (pv 2) (paC (pe_ix (u_ix K rfl) (pv 9) pe_int (fun _ _ => rfl)) (paC (pe_ix (u_ix K rfl) (pv 9) pe_int (fun _ _ => rfl)) pa_nil)))) pa_nil))))))) (pss_one (ps_ret pe_bl)) pss_nil)))))) (pss_cons (ps_if (pt_not (pt_val2 (pe_cal2 C_law_odd_ones (hr.mono (by decide)) (paC (pe_cal2 C_law_stream (hr.mono (by decide)) (paC (pv 0) (paC pe_int pa_nil))) (paC (pv 3) (paC (pv 4) (paC (pv 5) pa_nil))))))) (pss_one (ps_ret pe_bl)) pss_nil) (pss_cons (ps_asg (pe_cal2 C_law_paper (hr.mono (by decide)) (paC (pe_cal2 C_law_stream (hr.mono (by decide)) (paC (pv 0) (paC pe_int pa_nil))) (paC (pv 2) pa_nil))) (pg_row K rfl (n := 2) rfl (pgs_cons (pg_name (i := 6) sc_law.nd rfl (by first | exact Or.inl rfl | exact Or.inr rfl)) (pgs_cons (pg_name (i := 7) sc_law.nd rfl (by first | exact Or.inl rfl | exact Or.inr rfl)) pgs_nil)))) (pss_one (ps_ret (pe_and (pe_cmpR (u_eq2 K rfl hu) (pv 3) (pv 2) (nomark _)) (pe_and (pe_cmpR (u_eq2 K rfl hu) (pv 6) (pv 4) (nomark _)) (pe_and (pe_cmpR (u_eq2 K rfl hu) (pv 7) (pv 5) (nomark _)) (pe_one (pe_cal2 C_law_is (hr.mono (by decide)) (paC (pe_callTy2 (u_tuple K rfl) rfl T.b_tuple boot_tuple (paC (pv 2) pa_nil)) (paC (pv 4) (paC (pv 5) (paC pe_bl pa_nil))))))))))))))))))))), fnP (K := K) (c := pc_law) (ps := pp_law) (N := ["_law_script", "_law_stream_here", "_law_pieces_here", "_law_handed", "_law_kept", "_law_left", "_law_one", "_law_other", "_law_k", "_law_bent_here"]) (ls_seq (ls_asg (le_callP (c := pc_law_stream) (las_cons (la_fz (le_var (i := 0))) (las_cons (la_fz le_int) las_nil))) (lg_name (i := 1) rfl)) (ls_seq (ls_asg (le_callR (i := 1) (las_cons (la_fz (le_callR (i := 1) (las_cons (la_fz le_int) las_nil))) (las_cons (la_fz le_int) las_nil))) (lg_name (i := 2) rfl)) (ls_seq (ls_asg (le_cb lc_list (las_cons (la_sl (i := 2)) las_nil)) (lg_name (i := 3) rfl)) (ls_seq (ls_asg (le_callP (c := pc_law_stream) (las_cons (la_fz (le_var (i := 0))) (las_cons (la_fz le_int) las_nil))) (lg_name (i := 1) rfl)) (ls_seq (ls_asg (le_callR (i := 1) (las_cons (la_fz (le_var (i := 2))) las_nil)) (lg_row (lgs_cons (lgd_name (i := 4) rfl) (lgs_cons (lgd_name (i := 5) rfl) lgs_nil)))) (ls_seq (ls_asg (le_callR (i := 1) (las_cons (la_fz (le_var (i := 4))) (las_cons (la_fz (le_var (i := 5))) las_nil))) (lg_row (lgs_cons (lgd_name (i := 6) rfl) (lgs_cons (lgd_name (i := 7) rfl) lgs_nil)))) (ls_seq (ls_if (lt_not (lt_B (le_callP (c := pc_law_is) (las_cons (la_fz (le_var (i := 3))) (las_cons (la_fz (le_var (i := 6))) (las_cons (la_fz (le_var (i := 7))) (las_cons (la_fz le_bl) las_nil))))))) (ls_ret le_bl) ls_next) (ls_seq (ls_for (li_r1 (las_cons (la_fz (le_cb lc_max2 (las_cons (la_fz le_int) (las_cons (la_fz (le_cb lc_min2 (las_cons (la_fz le_int) (las_cons (la_fz (le_op lo_sub (la_fz (le_cb lc_len (las_cons (la_sl (i := 0)) las_nil))) (la_fz le_int))) las_nil)))) las_nil)))) las_nil)) (lgd_name (i := 8) rfl) (ls_seq (ls_asg (le_callP (c := pc_law_stream) (las_cons (la_fz (le_var (i := 0))) (las_cons (la_fz (le_op lo_add (la_fz le_int) (la_sl (i := 8)))) las_nil))) (lg_name (i := 1) rfl)) (ls_seq (ls_asg (le_callR (i := 1) (las_cons (la_fz (le_var (i := 4))) (las_cons (la_fz (le_var (i := 5))) las_nil))) (lg_name (i := 9) rfl)) (ls_seq (ls_asg (le_callR (i := 1) (las_cons (la_fz (le_op lo_ix (la_sl (i := 9)) (la_fz le_int))) (las_cons (la_fz (le_op lo_ix (la_sl (i := 9)) (la_fz le_int))) las_nil))) (lg_row (lgs_cons (lgd_name (i := 6) rfl) (lgs_cons (lgd_name (i := 7) rfl) lgs_nil)))) (ls_if (lt_not (lt_B (le_callP (c := pc_law_is) (las_cons (la_fz (le_var (i := 3))) (las_cons (la_fz (le_var (i := 6))) (las_cons (la_fz (le_var (i := 7))) (las_cons (la_fz (le_callP (c := pc_law_right) (las_cons (la_fz (le_var (i := 2))) (las_cons (la_fz (le_op lo_ix (la_sl (i := 9)) (la_fz le_int))) (las_cons (la_fz (le_op lo_ix (la_sl (i := 9)) (la_fz le_int))) las_nil))))) las_nil))))))) (ls_ret le_bl) ls_next))))) (ls_seq (ls_if (lt_not (lt_B (le_callRF (le_callP (c := pc_law_stream) (las_cons (la_fz (le_var (i := 0))) (las_cons (la_fz le_int) las_nil))) (las_cons (la_fz (le_var (i := 3))) (las_cons (la_fz (le_var (i := 4))) (las_cons (la_fz (le_var (i := 5))) las_nil)))))) (ls_ret le_bl) ls_next) (ls_seq (ls_asg (le_callRF (le_callP (c := pc_law_stream) (las_cons (la_fz (le_var (i := 0))) (las_cons (la_fz le_int) las_nil))) (las_cons (la_fz (le_var (i := 2))) las_nil)) (lg_row (lgs_cons (lgd_name (i := 6) rfl) (lgs_cons (lgd_name (i := 7) rfl) lgs_nil)))) (ls_ret (le_and (le_op lo_eq2 (la_sl (i := 3)) (la_sl (i := 2))) (le_and (le_op lo_eq2 (la_sl (i := 6)) (la_sl (i := 4))) (le_and (le_op lo_eq2 (la_sl (i := 7)) (la_sl (i := 5))) (le_callP (c := pc_law_is) (las_cons (la_fz (le_cb lc_tuple (las_cons (la_sl (i := 2)) las_nil))) (las_cons (la_fz (le_var (i := 4))) (las_cons (la_fz (le_var (i := 5))) (las_cons (la_fz le_bl) las_nil))))))))))))))))))) (fun ds Q h => Nat.le_trans (Nat.le_of_eq (ln_law ds Q h)) (by decide)) rd_law h⟩
end
theorem all_mk {l : PySem.W.OpenLaw} {w : World} {K : PySem.W.Frag} {h : Heap} {mg : Str → Option Value} {fa : Addr} (X : K.In h) (G : h.Ns mainGlobals mg) (hfa : mg "law" = some (.ref fa))
  {f1 : Addr} {oc1 kV1 dc1 pm1 cd1 ct1 : Value} {od1 an1 : Option Addr} {sl1 : Array (Option Value)} (a1 : PySem.W.nsIn K mainGlobals "is_row" = some (some (.ref f1))) (l1 : K.lookup f1 = some ⟨oc1, od1, .func (PySem.W.fnOf "is_row" "is_row" (defArgs s_is_row) (defBody s_is_row) (defScope s_is_row) .none kV1 dc1 pm1 an1 cd1 ct1), sl1⟩) (c1 : PySem.W.codeIn K cd1 "is_row" = true) (k1 : PySem.W.keepIn K (.ref f1) = true)
  {f2 : Addr} {oc2 kV2 dc2 pm2 cd2 ct2 : Value} {od2 an2 : Option Addr} {sl2 : Array (Option Value)} (a2 : PySem.W.nsIn K mainGlobals "is_number" = some (some (.ref f2))) (l2 : K.lookup f2 = some ⟨oc2, od2, .func (PySem.W.fnOf "is_number" "is_number" (defArgs s_is_number) (defBody s_is_number) (defScope s_is_number) .none kV2 dc2 pm2 an2 cd2 ct2), sl2⟩) (c2 : PySem.W.codeIn K cd2 "is_number" = true) (k2 : PySem.W.keepIn K (.ref f2) = true)
  {f3 : Addr} {oc3 kV3 dc3 pm3 cd3 ct3 : Value} {od3 an3 : Option Addr} {sl3 : Array (Option Value)} (a3 : PySem.W.nsIn K mainGlobals "are_numbers" = some (some (.ref f3))) (l3 : K.lookup f3 = some ⟨oc3, od3, .func (PySem.W.fnOf "are_numbers" "are_numbers" (defArgs s_are_numbers) (defBody s_are_numbers) (defScope s_are_numbers) .none kV3 dc3 pm3 an3 cd3 ct3), sl3⟩) (c3 : PySem.W.codeIn K cd3 "are_numbers" = true) (k3 : PySem.W.keepIn K (.ref f3) = true)
  {f4 : Addr} {oc4 kV4 dc4 pm4 cd4 ct4 : Value} {od4 an4 : Option Addr} {sl4 : Array (Option Value)} (a4 : PySem.W.nsIn K mainGlobals "is_whole" = some (some (.ref f4))) (l4 : K.lookup f4 = some ⟨oc4, od4, .func (PySem.W.fnOf "is_whole" "is_whole" (defArgs s_is_whole) (defBody s_is_whole) (defScope s_is_whole) .none kV4 dc4 pm4 an4 cd4 ct4), sl4⟩) (c4 : PySem.W.codeIn K cd4 "is_whole" = true) (k4 : PySem.W.keepIn K (.ref f4) = true)
  {f5 : Addr} {oc5 kV5 dc5 pm5 cd5 ct5 : Value} {od5 an5 : Option Addr} {sl5 : Array (Option Value)} (a5 : PySem.W.nsIn K mainGlobals "stands_at" = some (some (.ref f5))) (l5 : K.lookup f5 = some ⟨oc5, od5, .func (PySem.W.fnOf "stands_at" "stands_at" (defArgs s_stands_at) (defBody s_stands_at) (defScope s_stands_at) .none kV5 dc5 pm5 an5 cd5 ct5), sl5⟩) (c5 : PySem.W.codeIn K cd5 "stands_at" = true) (k5 : PySem.W.keepIn K (.ref f5) = true)
  {f6 : Addr} {oc6 kV6 dc6 pm6 cd6 ct6 : Value} {od6 an6 : Option Addr} {sl6 : Array (Option Value)} (a6 : PySem.W.nsIn K mainGlobals "first_place" = some (some (.ref f6))) (l6 : K.lookup f6 = some ⟨oc6, od6, .func (PySem.W.fnOf "first_place" "first_place" (defArgs s_first_place) (defBody s_first_place) (defScope s_first_place) .none kV6 dc6 pm6 an6 cd6 ct6), sl6⟩) (c6 : PySem.W.codeIn K cd6 "first_place" = true) (k6 : PySem.W.keepIn K (.ref f6) = true)
  {f7 : Addr} {oc7 kV7 dc7 pm7 cd7 ct7 : Value} {od7 an7 : Option Addr} {sl7 : Array (Option Value)} (a7 : PySem.W.nsIn K mainGlobals "stands_within" = some (some (.ref f7))) (l7 : K.lookup f7 = some ⟨oc7, od7, .func (PySem.W.fnOf "stands_within" "stands_within" (defArgs s_stands_within) (defBody s_stands_within) (defScope s_stands_within) .none kV7 dc7 pm7 an7 cd7 ct7), sl7⟩) (c7 : PySem.W.codeIn K cd7 "stands_within" = true) (k7 : PySem.W.keepIn K (.ref f7) = true)
  {f8 : Addr} {oc8 kV8 dc8 pm8 cd8 ct8 : Value} {od8 an8 : Option Addr} {sl8 : Array (Option Value)} (a8 : PySem.W.nsIn K mainGlobals "are_rising_indexes" = some (some (.ref f8))) (l8 : K.lookup f8 = some ⟨oc8, od8, .func (PySem.W.fnOf "are_rising_indexes" "are_rising_indexes" (defArgs s_are_rising_indexes) (defBody s_are_rising_indexes) (defScope s_are_rising_indexes) .none kV8 dc8 pm8 an8 cd8 ct8), sl8⟩) (c8 : PySem.W.codeIn K cd8 "are_rising_indexes" = true) (k8 : PySem.W.keepIn K (.ref f8) = true)
  {f9 : Addr} {oc9 kV9 dc9 pm9 cd9 ct9 : Value} {od9 an9 : Option Addr} {sl9 : Array (Option Value)} (a9 : PySem.W.nsIn K mainGlobals "are_apart" = some (some (.ref f9))) (l9 : K.lookup f9 = some ⟨oc9, od9, .func (PySem.W.fnOf "are_apart" "are_apart" (defArgs s_are_apart) (defBody s_are_apart) (defScope s_are_apart) .none kV9 dc9 pm9 an9 cd9 ct9), sl9⟩) (c9 : PySem.W.codeIn K cd9 "are_apart" = true) (k9 : PySem.W.keepIn K (.ref f9) = true)
  {f10 : Addr} {oc10 kV10 dc10 pm10 cd10 ct10 : Value} {od10 an10 : Option Addr} {sl10 : Array (Option Value)} (a10 : PySem.W.nsIn K mainGlobals "is_left_paper" = some (some (.ref f10))) (l10 : K.lookup f10 = some ⟨oc10, od10, .func (PySem.W.fnOf "is_left_paper" "is_left_paper" (defArgs s_is_left_paper) (defBody s_is_left_paper) (defScope s_is_left_paper) .none kV10 dc10 pm10 an10 cd10 ct10), sl10⟩) (c10 : PySem.W.codeIn K cd10 "is_left_paper" = true) (k10 : PySem.W.keepIn K (.ref f10) = true)
  {f11 : Addr} {oc11 kV11 dc11 pm11 cd11 ct11 : Value} {od11 an11 : Option Addr} {sl11 : Array (Option Value)} (a11 : PySem.W.nsIn K mainGlobals "_law_stream" = some (some (.ref f11))) (l11 : K.lookup f11 = some ⟨oc11, od11, .func (PySem.W.fnOf "_law_stream" "_law_stream" (defArgs s_law_stream) (defBody s_law_stream) (defScope s_law_stream) .none kV11 dc11 pm11 an11 cd11 ct11), sl11⟩) (c11 : PySem.W.codeIn K cd11 "_law_stream" = true) (k11 : PySem.W.keepIn K (.ref f11) = true)
  {f12 : Addr} {oc12 kV12 dc12 pm12 cd12 ct12 : Value} {od12 an12 : Option Addr} {sl12 : Array (Option Value)} (a12 : PySem.W.nsIn K mainGlobals "_law_take" = some (some (.ref f12))) (l12 : K.lookup f12 = some ⟨oc12, od12, .func (PySem.W.fnOf "_law_take" "_law_take" (defArgs s_law_take) (defBody s_law_take) (defScope s_law_take) .none kV12 dc12 pm12 an12 cd12 ct12), sl12⟩) (c12 : PySem.W.codeIn K cd12 "_law_take" = true) (k12 : PySem.W.keepIn K (.ref f12) = true)
  {f13 : Addr} {oc13 kV13 dc13 pm13 cd13 ct13 : Value} {od13 an13 : Option Addr} {sl13 : Array (Option Value)} (a13 : PySem.W.nsIn K mainGlobals "_law_letters" = some (some (.ref f13))) (l13 : K.lookup f13 = some ⟨oc13, od13, .func (PySem.W.fnOf "_law_letters" "_law_letters" (defArgs s_law_letters) (defBody s_law_letters) (defScope s_law_letters) .none kV13 dc13 pm13 an13 cd13 ct13), sl13⟩) (c13 : PySem.W.codeIn K cd13 "_law_letters" = true) (k13 : PySem.W.keepIn K (.ref f13) = true)
  {f14 : Addr} {oc14 kV14 dc14 pm14 cd14 ct14 : Value} {od14 an14 : Option Addr} {sl14 : Array (Option Value)} (a14 : PySem.W.nsIn K mainGlobals "_law_word" = some (some (.ref f14))) (l14 : K.lookup f14 = some ⟨oc14, od14, .func (PySem.W.fnOf "_law_word" "_law_word" (defArgs s_law_word) (defBody s_law_word) (defScope s_law_word) .none kV14 dc14 pm14 an14 cd14 ct14), sl14⟩) (c14 : PySem.W.codeIn K cd14 "_law_word" = true) (k14 : PySem.W.keepIn K (.ref f14) = true)
  {f15 : Addr} {oc15 kV15 dc15 pm15 cd15 ct15 : Value} {od15 an15 : Option Addr} {sl15 : Array (Option Value)} (a15 : PySem.W.nsIn K mainGlobals "_law_cut" = some (some (.ref f15))) (l15 : K.lookup f15 = some ⟨oc15, od15, .func (PySem.W.fnOf "_law_cut" "_law_cut" (defArgs s_law_cut) (defBody s_law_cut) (defScope s_law_cut) .none kV15 dc15 pm15 an15 cd15 ct15), sl15⟩) (c15 : PySem.W.codeIn K cd15 "_law_cut" = true) (k15 : PySem.W.keepIn K (.ref f15) = true)
  {f16 : Addr} {oc16 kV16 dc16 pm16 cd16 ct16 : Value} {od16 an16 : Option Addr} {sl16 : Array (Option Value)} (a16 : PySem.W.nsIn K mainGlobals "_law_pieces" = some (some (.ref f16))) (l16 : K.lookup f16 = some ⟨oc16, od16, .func (PySem.W.fnOf "_law_pieces" "_law_pieces" (defArgs s_law_pieces) (defBody s_law_pieces) (defScope s_law_pieces) .none kV16 dc16 pm16 an16 cd16 ct16), sl16⟩) (c16 : PySem.W.codeIn K cd16 "_law_pieces" = true) (k16 : PySem.W.keepIn K (.ref f16) = true)
  {f17 : Addr} {oc17 kV17 dc17 pm17 cd17 ct17 : Value} {od17 an17 : Option Addr} {sl17 : Array (Option Value)} (a17 : PySem.W.nsIn K mainGlobals "_law_stands" = some (some (.ref f17))) (l17 : K.lookup f17 = some ⟨oc17, od17, .func (PySem.W.fnOf "_law_stands" "_law_stands" (defArgs s_law_stands) (defBody s_law_stands) (defScope s_law_stands) .none kV17 dc17 pm17 an17 cd17 ct17), sl17⟩) (c17 : PySem.W.codeIn K cd17 "_law_stands" = true) (k17 : PySem.W.keepIn K (.ref f17) = true)
  {f18 : Addr} {oc18 kV18 dc18 pm18 cd18 ct18 : Value} {od18 an18 : Option Addr} {sl18 : Array (Option Value)} (a18 : PySem.W.nsIn K mainGlobals "_law_roots" = some (some (.ref f18))) (l18 : K.lookup f18 = some ⟨oc18, od18, .func (PySem.W.fnOf "_law_roots" "_law_roots" (defArgs s_law_roots) (defBody s_law_roots) (defScope s_law_roots) .none kV18 dc18 pm18 an18 cd18 ct18), sl18⟩) (c18 : PySem.W.codeIn K cd18 "_law_roots" = true) (k18 : PySem.W.keepIn K (.ref f18) = true)
  {f19 : Addr} {oc19 kV19 dc19 pm19 cd19 ct19 : Value} {od19 an19 : Option Addr} {sl19 : Array (Option Value)} (a19 : PySem.W.nsIn K mainGlobals "_law_rising" = some (some (.ref f19))) (l19 : K.lookup f19 = some ⟨oc19, od19, .func (PySem.W.fnOf "_law_rising" "_law_rising" (defArgs s_law_rising) (defBody s_law_rising) (defScope s_law_rising) .none kV19 dc19 pm19 an19 cd19 ct19), sl19⟩) (c19 : PySem.W.codeIn K cd19 "_law_rising" = true) (k19 : PySem.W.keepIn K (.ref f19) = true)
  {f20 : Addr} {oc20 kV20 dc20 pm20 cd20 ct20 : Value} {od20 an20 : Option Addr} {sl20 : Array (Option Value)} (a20 : PySem.W.nsIn K mainGlobals "_law_right" = some (some (.ref f20))) (l20 : K.lookup f20 = some ⟨oc20, od20, .func (PySem.W.fnOf "_law_right" "_law_right" (defArgs s_law_right) (defBody s_law_right) (defScope s_law_right) .none kV20 dc20 pm20 an20 cd20 ct20), sl20⟩) (c20 : PySem.W.codeIn K cd20 "_law_right" = true) (k20 : PySem.W.keepIn K (.ref f20) = true)
  {f21 : Addr} {oc21 kV21 dc21 pm21 cd21 ct21 : Value} {od21 an21 : Option Addr} {sl21 : Array (Option Value)} (a21 : PySem.W.nsIn K mainGlobals "_law_changed" = some (some (.ref f21))) (l21 : K.lookup f21 = some ⟨oc21, od21, .func (PySem.W.fnOf "_law_changed" "_law_changed" (defArgs s_law_changed) (defBody s_law_changed) (defScope s_law_changed) .none kV21 dc21 pm21 an21 cd21 ct21), sl21⟩) (c21 : PySem.W.codeIn K cd21 "_law_changed" = true) (k21 : PySem.W.keepIn K (.ref f21) = true)
  {f22 : Addr} {oc22 kV22 dc22 pm22 cd22 ct22 : Value} {od22 an22 : Option Addr} {sl22 : Array (Option Value)} (a22 : PySem.W.nsIn K mainGlobals "_law_changed_rows" = some (some (.ref f22))) (l22 : K.lookup f22 = some ⟨oc22, od22, .func (PySem.W.fnOf "_law_changed_rows" "_law_changed_rows" (defArgs s_law_changed_rows) (defBody s_law_changed_rows) (defScope s_law_changed_rows) .none kV22 dc22 pm22 an22 cd22 ct22), sl22⟩) (c22 : PySem.W.codeIn K cd22 "_law_changed_rows" = true) (k22 : PySem.W.keepIn K (.ref f22) = true)
  {f23 : Addr} {oc23 kV23 dc23 pm23 cd23 ct23 : Value} {od23 an23 : Option Addr} {sl23 : Array (Option Value)} (a23 : PySem.W.nsIn K mainGlobals "_law_bent" = some (some (.ref f23))) (l23 : K.lookup f23 = some ⟨oc23, od23, .func (PySem.W.fnOf "_law_bent" "_law_bent" (defArgs s_law_bent) (defBody s_law_bent) (defScope s_law_bent) .none kV23 dc23 pm23 an23 cd23 ct23), sl23⟩) (c23 : PySem.W.codeIn K cd23 "_law_bent" = true) (k23 : PySem.W.keepIn K (.ref f23) = true)
  {f24 : Addr} {oc24 kV24 dc24 pm24 cd24 ct24 : Value} {od24 an24 : Option Addr} {sl24 : Array (Option Value)} (a24 : PySem.W.nsIn K mainGlobals "_law_paper" = some (some (.ref f24))) (l24 : K.lookup f24 = some ⟨oc24, od24, .func (PySem.W.fnOf "_law_paper" "_law_paper" (defArgs s_law_paper) (defBody s_law_paper) (defScope s_law_paper) .none kV24 dc24 pm24 an24 cd24 ct24), sl24⟩) (c24 : PySem.W.codeIn K cd24 "_law_paper" = true) (k24 : PySem.W.keepIn K (.ref f24) = true)
  {f25 : Addr} {oc25 kV25 dc25 pm25 cd25 ct25 : Value} {od25 an25 : Option Addr} {sl25 : Array (Option Value)} (a25 : PySem.W.nsIn K mainGlobals "_law_kinds" = some (some (.ref f25))) (l25 : K.lookup f25 = some ⟨oc25, od25, .func (PySem.W.fnOf "_law_kinds" "_law_kinds" (defArgs s_law_kinds) (defBody s_law_kinds) (defScope s_law_kinds) .none kV25 dc25 pm25 an25 cd25 ct25), sl25⟩) (c25 : PySem.W.codeIn K cd25 "_law_kinds" = true) (k25 : PySem.W.keepIn K (.ref f25) = true)
  {f26 : Addr} {oc26 kV26 dc26 pm26 cd26 ct26 : Value} {od26 an26 : Option Addr} {sl26 : Array (Option Value)} (a26 : PySem.W.nsIn K mainGlobals "_law_is" = some (some (.ref f26))) (l26 : K.lookup f26 = some ⟨oc26, od26, .func (PySem.W.fnOf "_law_is" "_law_is" (defArgs s_law_is) (defBody s_law_is) (defScope s_law_is) .none kV26 dc26 pm26 an26 cd26 ct26), sl26⟩) (c26 : PySem.W.codeIn K cd26 "_law_is" = true) (k26 : PySem.W.keepIn K (.ref f26) = true)
  {f27 : Addr} {oc27 kV27 dc27 pm27 cd27 ct27 : Value} {od27 an27 : Option Addr} {sl27 : Array (Option Value)} (a27 : PySem.W.nsIn K mainGlobals "_law_odd_ones" = some (some (.ref f27))) (l27 : K.lookup f27 = some ⟨oc27, od27, .func (PySem.W.fnOf "_law_odd_ones" "_law_odd_ones" (defArgs s_law_odd_ones) (defBody s_law_odd_ones) (defScope s_law_odd_ones) .none kV27 dc27 pm27 an27 cd27 ct27), sl27⟩) (c27 : PySem.W.codeIn K cd27 "_law_odd_ones" = true) (k27 : PySem.W.keepIn K (.ref f27) = true)
  {f28 : Addr} {oc28 kV28 dc28 pm28 cd28 ct28 : Value} {od28 an28 : Option Addr} {sl28 : Array (Option Value)} (a28 : PySem.W.nsIn K mainGlobals "law" = some (some (.ref f28))) (l28 : K.lookup f28 = some ⟨oc28, od28, .func (PySem.W.fnOf "law" "law" (defArgs s_law) (defBody s_law) (defScope s_law) .none kV28 dc28 pm28 an28 cd28 ct28), sl28⟩) (c28 : PySem.W.codeIn K cd28 "law" = true) (k28 : PySem.W.keepIn K (.ref f28) = true)
  (z1 : PySem.W.nsIn K mainGlobals "abs" = some none)
  (z2 : PySem.W.nsIn K mainGlobals "all" = some none)
  (z3 : PySem.W.nsIn K mainGlobals "any" = some none)
  (z4 : PySem.W.nsIn K mainGlobals "bool" = some none)
  (z5 : PySem.W.nsIn K mainGlobals "int" = some none)
  (z6 : PySem.W.nsIn K mainGlobals "isinstance" = some none)
  (z7 : PySem.W.nsIn K mainGlobals "len" = some none)
  (z8 : PySem.W.nsIn K mainGlobals "list" = some none)
  (z9 : PySem.W.nsIn K mainGlobals "max" = some none)
  (z10 : PySem.W.nsIn K mainGlobals "min" = some none)
  (z11 : PySem.W.nsIn K mainGlobals "range" = some none)
  (z12 : PySem.W.nsIn K mainGlobals "sorted" = some none)
  (z13 : PySem.W.nsIn K mainGlobals "tuple" = some none)
  (z14 : PySem.W.nsIn K mainGlobals "zip" = some none) :
  ∃ fd : FuncData, (∀ (s : Shared) (v : Value), BindsTo s fd ⟨[v], []⟩ [("_law_script", v)]) ∧ ∀ base : Heap, K.In base → base.Ns mainGlobals mg → FnOk l.prog w K mg base CX0 7 fa fd ["_law_script"] (spLaw K) := by
 have D_is_row : DefAt K mg "is_row" s_is_row := .mk' X G a1 l1 c1 k1
 have D_is_number : DefAt K mg "is_number" s_is_number := .mk' X G a2 l2 c2 k2
 have D_are_numbers : DefAt K mg "are_numbers" s_are_numbers := .mk' X G a3 l3 c3 k3
 have D_is_whole : DefAt K mg "is_whole" s_is_whole := .mk' X G a4 l4 c4 k4
 have D_stands_at : DefAt K mg "stands_at" s_stands_at := .mk' X G a5 l5 c5 k5
 have D_first_place : DefAt K mg "first_place" s_first_place := .mk' X G a6 l6 c6 k6
 have D_stands_within : DefAt K mg "stands_within" s_stands_within := .mk' X G a7 l7 c7 k7
 have D_are_rising_indexes : DefAt K mg "are_rising_indexes" s_are_rising_indexes := .mk' X G a8 l8 c8 k8
 have D_are_apart : DefAt K mg "are_apart" s_are_apart := .mk' X G a9 l9 c9 k9
 have D_is_left_paper : DefAt K mg "is_left_paper" s_is_left_paper := .mk' X G a10 l10 c10 k10
 have D_law_stream : DefAt K mg "_law_stream" s_law_stream := .mk' X G a11 l11 c11 k11
 have D_law_take : DefAt K mg "_law_take" s_law_take := .mk' X G a12 l12 c12 k12
 have D_law_letters : DefAt K mg "_law_letters" s_law_letters := .mk' X G a13 l13 c13 k13
 have D_law_word : DefAt K mg "_law_word" s_law_word := .mk' X G a14 l14 c14 k14
 have D_law_cut : DefAt K mg "_law_cut" s_law_cut := .mk' X G a15 l15 c15 k15
 have D_law_pieces : DefAt K mg "_law_pieces" s_law_pieces := .mk' X G a16 l16 c16 k16
 have D_law_stands : DefAt K mg "_law_stands" s_law_stands := .mk' X G a17 l17 c17 k17
 have D_law_roots : DefAt K mg "_law_roots" s_law_roots := .mk' X G a18 l18 c18 k18
 have D_law_rising : DefAt K mg "_law_rising" s_law_rising := .mk' X G a19 l19 c19 k19
 have D_law_right : DefAt K mg "_law_right" s_law_right := .mk' X G a20 l20 c20 k20
 have D_law_changed : DefAt K mg "_law_changed" s_law_changed := .mk' X G a21 l21 c21 k21
 have D_law_changed_rows : DefAt K mg "_law_changed_rows" s_law_changed_rows := .mk' X G a22 l22 c22 k22
 have D_law_bent : DefAt K mg "_law_bent" s_law_bent := .mk' X G a23 l23 c23 k23
 have D_law_paper : DefAt K mg "_law_paper" s_law_paper := .mk' X G a24 l24 c24 k24
 have D_law_kinds : DefAt K mg "_law_kinds" s_law_kinds := .mk' X G a25 l25 c25 k25
 have D_law_is : DefAt K mg "_law_is" s_law_is := .mk' X G a26 l26 c26 k26
 have D_law_odd_ones : DefAt K mg "_law_odd_ones" s_law_odd_ones := .mk' X G a27 l27 c27 k27
 have D_law : DefAt K mg "law" s_law := .mk' X G a28 l28 c28 k28
 have T : Txt mg := ⟨PySem.W.mg_none_of X G z1, PySem.W.mg_none_of X G z2, PySem.W.mg_none_of X G z3, PySem.W.mg_none_of X G z4, PySem.W.mg_none_of X G z5, PySem.W.mg_none_of X G z6, PySem.W.mg_none_of X G z7, PySem.W.mg_none_of X G z8, PySem.W.mg_none_of X G z9, PySem.W.mg_none_of X G z10, PySem.W.mg_none_of X G z11, PySem.W.mg_none_of X G z12, PySem.W.mg_none_of X G z13, PySem.W.mg_none_of X G z14⟩
 refine law_at (st := s_law) hfa D_law (fun _ _ _ _ _ _ s v => .of_eq rfl) fun base => ?_
 have C_is_row := ok_is_row (P := l.prog) (w := w) (base := base) D_is_row T
 have C_is_number := ok_is_number (P := l.prog) (w := w) (base := base) D_is_number T
 have C_are_numbers := ok_are_numbers (P := l.prog) (w := w) (base := base) D_are_numbers T C_is_number C_is_row
 have C_is_whole := ok_is_whole (P := l.prog) (w := w) (base := base) D_is_whole T C_is_number
 have C_stands_at := ok_stands_at (P := l.prog) (w := w) (base := base) D_stands_at T
 have C_first_place := ok_first_place (P := l.prog) (w := w) (base := base) D_first_place T
 have C_stands_within := ok_stands_within (P := l.prog) (w := w) (base := base) D_stands_within T C_first_place
 have C_are_rising_indexes := ok_are_rising_indexes (P := l.prog) (w := w) (base := base) D_are_rising_indexes T C_is_row C_is_whole
 have C_are_apart := ok_are_apart (P := l.prog) (w := w) (base := base) D_are_apart T C_stands_within
 have C_is_left_paper := ok_is_left_paper (P := l.prog) (w := w) (base := base) D_is_left_paper T C_are_apart C_are_numbers C_are_rising_indexes C_is_row C_stands_at
 have C_law_stream := ok_law_stream (P := l.prog) (w := w) (base := base) D_law_stream T
 have C_law_take := ok_law_take (P := l.prog) (w := w) (base := base) D_law_take T
 have C_law_letters := ok_law_letters (P := l.prog) (w := w) (base := base) D_law_letters T C_law_take
 have C_law_word := ok_law_word (P := l.prog) (w := w) (base := base) D_law_word T C_law_take
 have C_law_cut := ok_law_cut (P := l.prog) (w := w) (base := base) D_law_cut T C_law_take
 have C_law_pieces := ok_law_pieces (P := l.prog) (w := w) (base := base) D_law_pieces T C_law_cut C_law_letters C_law_take C_law_word
 have C_law_stands := ok_law_stands (P := l.prog) (w := w) (base := base) D_law_stands T
 have C_law_roots := ok_law_roots (P := l.prog) (w := w) (base := base) D_law_roots T C_law_stands
 have C_law_rising := ok_law_rising (P := l.prog) (w := w) (base := base) D_law_rising T
 have C_law_right := ok_law_right (P := l.prog) (w := w) (base := base) D_law_right T C_law_rising C_law_stands
 have C_law_changed := ok_law_changed (P := l.prog) (w := w) (base := base) D_law_changed T C_law_take
 have C_law_changed_rows := ok_law_changed_rows (P := l.prog) (w := w) (base := base) D_law_changed_rows T C_law_take
 have C_law_bent := ok_law_bent (P := l.prog) (w := w) (base := base) D_law_bent T C_law_changed C_law_changed_rows C_law_take
 have C_law_paper := ok_law_paper (P := l.prog) (w := w) (base := base) D_law_paper T C_law_roots C_law_stands C_law_take
 have C_law_kinds := ok_law_kinds (P := l.prog) (w := w) (base := base) D_law_kinds T C_law_take
 have C_law_is := ok_law_is (P := l.prog) (w := w) (base := base) D_law_is T C_is_left_paper
 have C_law_odd_ones := ok_law_odd_ones (P := l.prog) (w := w) (base := base) D_law_odd_ones T C_law_is C_law_take
 exact (ok_law (P := l.prog) (w := w) (base := base) D_law T C_law_bent C_law_is C_law_kinds C_law_odd_ones C_law_paper C_law_pieces C_law_right C_law_stream C_law_take).imp fun _ _ _ _ h => spLaw_P h
end K13

open PySem PySem.W PyProof.Rows
set_option maxRecDepth 100000 in
set_option maxHeartbeats 0 in
theorem PySem.Challenge.cw_shortglue_k13_left_paper_holds : PySem.Challenge.rw_shortglue_k13_left_paper.Holds := by
  w_on; o_law; k_head; (case hw => w_witness2)
  k_fill
  refine L2.walk63 (l := PySem.Challenge.rw_shortglue_k13_left_paper) (k := 7) (x := "_law_script") rfl rfl ⟨rfl, by decide, by decide⟩ (fun w h Y => PySem.W.kIn_of Y) ?F
  case F =>
    intro w mg fa h KX G hmg
    refine' K13.all_mk KX G hmg ?a1 ?l1 ?c1 ?k1 ?a2 ?l2 ?c2 ?k2 ?a3 ?l3 ?c3 ?k3 ?a4 ?l4 ?c4 ?k4 ?a5 ?l5 ?c5 ?k5 ?a6 ?l6 ?c6 ?k6 ?a7 ?l7 ?c7 ?k7 ?a8 ?l8 ?c8 ?k8 ?a9 ?l9 ?c9 ?k9 ?a10 ?l10 ?c10 ?k10 ?a11 ?l11 ?c11 ?k11 ?a12 ?l12 ?c12 ?k12 ?a13 ?l13 ?c13 ?k13 ?a14 ?l14 ?c14 ?k14 ?a15 ?l15 ?c15 ?k15 ?a16 ?l16 ?c16 ?k16 ?a17 ?l17 ?c17 ?k17 ?a18 ?l18 ?c18 ?k18 ?a19 ?l19 ?c19 ?k19 ?a20 ?l20 ?c20 ?k20 ?a21 ?l21 ?c21 ?k21 ?a22 ?l22 ?c22 ?k22 ?a23 ?l23 ?c23 ?k23 ?a24 ?l24 ?c24 ?k24 ?a25 ?l25 ?c25 ?k25 ?a26 ?l26 ?c26 ?k26 ?a27 ?l27 ?c27 ?k27 ?a28 ?l28 ?c28 ?k28 ?z1 ?z2 ?z3 ?z4 ?z5 ?z6 ?z7 ?z8 ?z9 ?z10 ?z11 ?z12 ?z13 ?z14
    (case a1 => k_is)
    (case l1 => k_is)
    (case c1 => k_is)
    (case k1 => k_is)
    (case a2 => k_is)
    (case l2 => k_is)
    (case c2 => k_is)
    (case k2 => k_is)
    (case a3 => k_is)
    (case l3 => k_is)
    (case c3 => k_is)
    (case k3 => k_is)
    (case a4 => k_is)
    (case l4 => k_is)
    (case c4 => k_is)
    (case k4 => k_is)
    (case a5 => k_is)
    (case l5 => k_is)
    (case c5 => k_is)
    (case k5 => k_is)
    (case a6 => k_is)
    (case l6 => k_is)
    (case c6 => k_is)
    (case k6 => k_is)
    (case a7 => k_is)
    (case l7 => k_is)
    (case c7 => k_is)
    (case k7 => k_is)
    (case a8 => k_is)
    (case l8 => k_is)
    (case c8 => k_is)
    (case k8 => k_is)
    (case a9 => k_is)
    (case l9 => k_is)
    (case c9 => k_is)
    (case k9 => k_is)
    (case a10 => k_is)
    (case l10 => k_is)
    (case c10 => k_is)
    (case k10 => k_is)
    (case a11 => k_is)
    (case l11 => k_is)
    (case c11 => k_is)
    (case k11 => k_is)
    (case a12 => k_is)
    (case l12 => k_is)
    (case c12 => k_is)
    (case k12 => k_is)
    (case a13 => k_is)
    (case l13 => k_is)
    (case c13 => k_is)
    (case k13 => k_is)
    (case a14 => k_is)
    (case l14 => k_is)
    (case c14 => k_is)
    (case k14 => k_is)
    (case a15 => k_is)
    (case l15 => k_is)
    (case c15 => k_is)
    (case k15 => k_is)
    (case a16 => k_is)
    (case l16 => k_is)
    (case c16 => k_is)
    (case k16 => k_is)
    (case a17 => k_is)
    (case l17 => k_is)
    (case c17 => k_is)
    (case k17 => k_is)
    (case a18 => k_is)
    (case l18 => k_is)
    (case c18 => k_is)
    (case k18 => k_is)
    (case a19 => k_is)
    (case l19 => k_is)
    (case c19 => k_is)
    (case k19 => k_is)
    (case a20 => k_is)
    (case l20 => k_is)
    (case c20 => k_is)
    (case k20 => k_is)
    (case a21 => k_is)
    (case l21 => k_is)
    (case c21 => k_is)
    (case k21 => k_is)
    (case a22 => k_is)
    (case l22 => k_is)
    (case c22 => k_is)
    (case k22 => k_is)
    (case a23 => k_is)
    (case l23 => k_is)
    (case c23 => k_is)
    (case k23 => k_is)
    (case a24 => k_is)
    (case l24 => k_is)
    (case c24 => k_is)
    (case k24 => k_is)
    (case a25 => k_is)
    (case l25 => k_is)
    (case c25 => k_is)
    (case k25 => k_is)
    (case a26 => k_is)
    (case l26 => k_is)
    (case c26 => k_is)
    (case k26 => k_is)
    (case a27 => k_is)
    (case l27 => k_is)
    (case c27 => k_is)
    (case k27 => k_is)
    (case a28 => k_is)
    (case l28 => k_is)
    (case c28 => k_is)
    (case k28 => k_is)
    (case z1 => k_is)
    (case z2 => k_is)
    (case z3 => k_is)
    (case z4 => k_is)
    (case z5 => k_is)
    (case z6 => k_is)
    (case z7 => k_is)
    (case z8 => k_is)
    (case z9 => k_is)
    (case z10 => k_is)
    (case z11 => k_is)
    (case z12 => k_is)
    (case z13 => k_is)
    (case z14 => k_is)
