import PyProof.Rows.All
import Wide.All
import OpenK.AllK
import Wide.FinOn
import KE.KStateDown
import HandS.Base
import HandS.Call
import HandS.List
import HandS.Comp
import HandS.Ends
import HandS.Dict
import HandS.Iter
import HandS.Text
import HandS.More
import HandS.Words
import HandS.WordsList
import HandS.WordsDict
import HandS.WordsExc
import HandS.Defaults
import HandS.Wide
import HandS.IsInst
import HandS.Exc
import HandS.TryOnly
import HandS.TryMany
import HandS.Flow
import HandS.StrMore
import HandS.Codes
import HandS.Walk
import PyProof.ReprReads
import PyProof.ReprRoads
import HandS.HeadEnd
import PyProof.ListStr
import PyProof.ReprLen
import HandS.Star
import KE.GoesEnum
import PyProof.Rows.ReprShort
import PyProof.Rows.StrCut
import PyProof.Rows.StrClose5
import PyProof.Rows.StrJoinRep
import KE.GoesZip
import KE.KDictZip
import HandS.Style
import PyProof.Rows.StrRev
import HandS.Set
import HandS.SetFor
import HandS.Strs
import PyProof.SetKind
import PyProof.StrWalks
import PyProof.Rows.SetFrom
import HandS.ExcOwn
import HandS.ExcInit
import HandS.ExcField
import HandS.ExcIs
import HandS.HeadHook1
import HandS.HeadHook2
import KE.KExcIs
import PyProof.TupleIter
import PyProof.WalksMore
import HandS.FStr
import HandS.Replace
import HandS.NoneIn
import PyProof.P3Eq
import KE.KFmtOwn
import HandS.Zip0
import HandS.SortRule
import HandS.Head0
import HandS.Head1
import HandS.Head2
import PySem.Challenge.RW_cellscript_k17_whole_turned_trimmed_laid
set_option Elab.async false
set_option linter.all false
set_option maxRecDepth 100000
set_option maxHeartbeats 4000000
set_option maxRecDepth 100000
set_option maxHeartbeats 2000000
namespace Z
open PySem PySem.Spec PyProof.Rows L2
/-! ### operators that look at their values -/
section
variable {X : Cx}
/-- xs[i] of a list, as an augmented store reads it -/
def gIxL (K : PySem.W.Frag) : V → V → Hp → VK → Prop := fun x y H Q => ∃ (p : Addr) (xs : List V) (i : Nat) (v : V), x = .ref p ∧ y = .int (i : Int) ∧ SqL K H p xs ∧ xs[i]? = some v ∧ Q v H
theorem pget_list : PGet X (gIxL X.K) := by
  intro pins s σ H o i ov iv Q I ro ri h
  obtain ⟨p, xs, i, z, rfl, rfl, hq, he, q⟩ := h
  cases ro
  obtain ⟨t, rfl⟩ := ri
  obtain ⟨its, r, pl, hz⟩ := I.list hq
  obtain ⟨w, ew, rw'⟩ := r.get he
  have hl := r.length
  have hn := line63
  have hj : i < its.length := by
    have := (List.getElem?_eq_some_iff.mp ew).1
    exact this
  exact wpAny_getItem_list pl.isList (by omega) (by omega) (by simpa using ew) ⟨z, H, I, rw', q⟩
end

/-! a + b: ints, texts, lists -/
def rAddZ : R2 := fun x y H Q => match x, y with
  | .int i, .int j => Q (.int (i + j)) H
  | .str i, .str j => i.length + j.length ≤ sizeLine ∧ Q (.str (i ++ j)) H
  | .ref l, .ref b => ∃ xs zs, H l = some (.lst xs) ∧ H b = some (.lst zs) ∧ xs.length + zs.length ≤ sizeLine ∧ ∀ p, H p = none → Q (.ref p) (upd H p (.lst (xs ++ zs)))
  | _, _ => False
section
variable {X : Cx}
theorem op_addZ : OpR X (binaryOp .Add) rAddZ := by
  intro pins s σ H x y v u Q I rx ry h
  cases x <;> cases y <;> first
    | exact h.elim
    | exact op_add pins s σ H _ _ v u Q I rx ry ⟨_, _, rfl, rfl, h⟩
    | exact op_add_str pins s σ H _ _ v u Q I rx ry ⟨_, _, rfl, rfl, h.1, h.2⟩
    | (obtain ⟨xs, zs, h1, h2, h3, h4⟩ := h; exact op_cat pins s σ H _ _ v u Q I rx ry ⟨_, _, xs, zs, rfl, rfl, h1, h2, h3, h4⟩)
/-! a * b -/
def rMulZ : R2 := fun x y H Q => match x, y with
  | .int i, .int j => (CMul i j ∨ CMulW i j) ∧ Q (.int (i * j)) H
  | .str a, .int k => MulOk a k ∧ Q (.str (Txt.mul a k)) H
  | .ref l, .int k => ∃ xs, H l = some (.lst xs) ∧ -(2 ^ 63) ≤ k ∧ k < 2 ^ 63 ∧ xs.length * k.toNat ≤ sizeLine ∧ ∀ p, H p = none → Q (.ref p) (upd H p (.lst (List.replicate k.toNat xs).flatten))
  | _, _ => False
theorem op_mulZ : OpR X (binaryOp .Mult) rMulZ := by
  intro pins s σ H x y v u Q I rx ry h
  cases x <;> cases y <;> first
    | exact h.elim
    | (obtain ⟨h1 | h1, h2⟩ := h
       · exact op_mul pins s σ H _ _ v u Q I rx ry ⟨_, _, rfl, rfl, h1, h2⟩
       · exact op_mulW pins s σ H _ _ v u Q I rx ry ⟨_, _, rfl, rfl, h1, h2⟩)
    | (obtain ⟨h1, h2⟩ := h; obtain ⟨t, rfl⟩ := rx; obtain ⟨t', rfl⟩ := ry; exact SB.mul h1 fun t2 tk => ⟨.str _, H, I.tok _, ⟨_, rfl⟩, h2⟩)
    | (obtain ⟨xs, h1, h2, h3, h4, h5⟩ := h; exact op_rep pins s σ H _ _ v u Q I rx ry ⟨_, _, xs, rfl, rfl, h1, h2, h3, h4, h5⟩)
/-! comparisons -/
def rCmpZ (g : Int → Int → Bool) (f : Str → Str → Bool) : R2 := fun x y H Q => match x, y with
  | .int i, .int j => Q (.bl (g i j)) H
  | .str i, .str j => Q (.bl (f i j)) H
  | _, _ => False
theorem cmpZ {o : Value → Value → Sem Value} {g : Int → Int → Bool} {f : Str → Str → Bool} (h1 : OpR X o (rI0 fun i j => .bl (g i j))) (h2 : OpR X o (fun x y H Q => ∃ i j, x = .str i ∧ y = .str j ∧ Q (.bl (f i j)) H)) : OpR X o (rCmpZ g f) := by
  intro pins s σ H x y v u Q I rx ry h
  cases x <;> cases y <;> first
    | exact h.elim
    | exact h1 pins s σ H _ _ v u Q I rx ry ⟨_, _, rfl, rfl, h⟩
    | exact h2 pins s σ H _ _ v u Q I rx ry ⟨_, _, rfl, rfl, h⟩
abbrev ltS (i j : Str) : Bool := decide (i.cps.toList < j.cps.toList)
abbrev rLtZ : R2 := rCmpZ (fun i j => decide (i < j)) ltS
abbrev rLeZ : R2 := rCmpZ (fun i j => decide (i ≤ j)) (fun i j => !ltS j i)
abbrev rGtZ : R2 := rCmpZ (fun i j => decide (j < i)) (fun i j => ltS j i)
abbrev rGeZ : R2 := rCmpZ (fun i j => decide (j ≤ i)) (fun i j => !ltS i j)
theorem op_ltZ : OpR X (compareOp .Lt) rLtZ := cmpZ op_lt op_lt_str
theorem op_leZ : OpR X (compareOp .LtE) rLeZ := cmpZ op_le op_le_str
theorem op_gtZ : OpR X (compareOp .Gt) rGtZ := cmpZ op_gt op_gt_str
theorem op_geZ : OpR X (compareOp .GtE) rGeZ := cmpZ op_ge op_ge_str
/-! == and !=: flat things by their values, else data of any depth -/
def isRef : V → Bool
  | .ref _ => true
  | _ => false
def rEqZ (K : PySem.W.Frag) (f : Bool → Bool) : R2 := fun x y H Q => if (isRef x || isRef y) = true then ∃ d e, Dp K H x d ∧ Dp K H y e ∧ SeqAt.shaped d = true ∧ SeqAt.shaped e = true ∧ Q (.bl (f (PyData.eqv d e))) H else scal x y = true ∧ Q (.bl (f (decide (x = y)))) H
theorem op_eqZ (hu : X.A.units + 64 < cLine) : OpR X (compareOp .Eq) (rEqZ X.K id) := by
  intro pins s σ H x y v u Q I rx ry h
  unfold rEqZ at h
  split at h
  · exact op_eqD hu pins s σ H x y v u Q I rx ry h
  · exact op_eq pins s σ H x y v u Q I rx ry h
theorem op_neZ (hu : X.A.units + 64 < cLine) : OpR X (compareOp .NotEq) (rEqZ X.K not) := by
  intro pins s σ H x y v u Q I rx ry h
  unfold rEqZ at h
  split at h
  · exact op_neD hu pins s σ H x y v u Q I rx ry h
  · exact op_ne pins s σ H x y v u Q I rx ry h
/-! in -/
def rInZ (K : PySem.W.Frag) (f : Bool → Bool) : R2 := fun x y H Q => match y with
  | .str z => ∃ c : Nat, x = .str ⟨#[c]⟩ ∧ Q (.bl (f (decide (c ∈ z.cps.toList)))) H
  | .ref p => ∃ xs, (SqL K H p xs ∨ SqT K H p xs) ∧ flatV x = true ∧ xs.all flatV = true ∧ Q (.bl (f (inV x xs))) H
  | _ => False
theorem op_inZ : OpR X (compareOp .In) (rInZ X.K id) := by
  intro pins s σ H x y v u Q I rx ry h
  cases y <;> first
    | exact h.elim
    | (obtain ⟨c, rfl, h⟩ := h; exact op_in_sign pins s σ H _ _ v u Q I rx ry ⟨_, _, rfl, rfl, h⟩)
    | (obtain ⟨xs, h1, h2, h3, h4⟩ := h; exact op_in_seq pins s σ H _ _ v u Q I rx ry ⟨_, xs, rfl, h1, h2, h3, h4⟩)
theorem op_notInZ : OpR X (compareOp .NotIn) (rInZ X.K not) := by
  intro pins s σ H x y v u Q I rx ry h
  cases y <;> first
    | exact h.elim
    | (obtain ⟨c, rfl, h⟩ := h; exact op_notIn_sign pins s σ H _ _ v u Q I rx ry ⟨_, _, rfl, rfl, h⟩)
    | (obtain ⟨xs, h1, h2, h3, h4⟩ := h; exact op_notIn_seq pins s σ H _ _ v u Q I rx ry ⟨_, xs, rfl, h1, h2, h3, h4⟩)
/-! items and slices -/
def rIxZ (K : PySem.W.Frag) : R2 := fun x y H Q => match x with
  | .str z => ∃ i c, y = .int i ∧ z.length ≤ sizeLine ∧ atI z.cps.toList i = some c ∧ Q (.str ⟨#[c]⟩) H
  | .ref p => ∃ xs i v, y = .int i ∧ (SqL K H p xs ∨ SqT K H p xs) ∧ atI xs i = some v ∧ Q v H
  | _ => False
theorem ix_Z : IxR X (rIxZ X.K) := by
  intro value slice pins s σ H x y v u Q I rx ry h hs
  cases x <;> first
    | exact h.elim
    | (obtain ⟨i, c, rfl, h1, h2, h3⟩ := h; exact ix_str value slice pins s σ H _ _ v u Q I rx ry ⟨_, i, c, rfl, rfl, h1, h2, h3⟩ hs)
    | (obtain ⟨xs, i, z, rfl, h1 | h1, h2, h3⟩ := h
       · exact ix_list value slice pins s σ H _ _ v u Q I rx ry ⟨_, xs, i, z, rfl, rfl, h1, h2, h3⟩ hs
       · exact ix_tup value slice pins s σ H _ _ v u Q I rx ry ⟨_, xs, i, z, rfl, rfl, h1, h2, h3⟩ hs)
def rSlZ (K : PySem.W.Frag) : V → Option Int → Option Int → Hp → VK → Prop := fun x lo hi H Q => match x with
  | .str z => z.length ≤ sizeLine ∧ Q (.str (Txt.slice z lo hi)) H
  | .ref a => ∃ xs, SqL K H a xs ∧ ∀ p, H p = none → Q (.ref p) (upd H p (.lst (cutV xs lo hi)))
  | _ => False
theorem sl_Z : SlR X (rSlZ X.K) := by
  intro pins s σ H x v vl vu lo hi sl Q I rx hs pl pu h
  cases x <;> first
    | exact h.elim
    | exact C8.sl_txt pins s σ H _ v vl vu lo hi sl Q I rx hs pl pu ⟨_, rfl, h.1, h.2⟩
    | (obtain ⟨xs, h1, h2⟩ := h; exact sl_list pins s σ H _ v vl vu lo hi sl Q I rx hs pl pu ⟨_, xs, rfl, h1, h2⟩)
/-! len, list, tuple -/
def rLenZ (K : PySem.W.Frag) : List V → Hp → VK → Prop := fun vs H Q => match vs with
  | [.str z] => z.length ≤ sizeLine ∧ Q (.int z.length) H
  | [.ref p] => ∃ xs, (SqL K H p xs ∨ SqT K H p xs) ∧ Q (.int xs.length) H
  | _ => False
theorem call_lenZ : CallR X (.builtin "len") (rLenZ X.K) := by
  intro pins s σ H xs us Q I r h
  unfold rLenZ at h
  split at h
  · exact call_len pins s σ H _ us Q I r ⟨_, _, rfl, ⟨h.1, rfl⟩, h.2⟩
  · obtain ⟨xs, h1, h2⟩ := h
    exact call_len_seq pins s σ H _ us Q I r ⟨_, xs, rfl, h1, h2⟩
  · exact h.elim
end
/-! ### defs that are called by their names -/
structure Cl (P : Program) (w : World) (K : PySem.W.Frag) (mg : Str → Option Value) (base : Heap) (CX : CXT) (k : Nat) (x : Str) (sp : Sp) : Prop where
  ex : ∃ (f : Addr) (fd : FuncData) (ps : List Str), FnOk P w K mg base CX k f fd ps sp ∧ mg x = some (.ref f) ∧ PySem.W.keepIn K (.ref f) = true ∧ Binds K fd ps []
section
variable {X : Cx} {k j : Nat} {x : Str} {sp : Sp} {CX : CXT} {E : XK} {p pos : Pos} {e : Expr} {es : List Expr} {t : TA}
theorem pe_cl (c : Cl X.prog X.w X.K X.mg X.base CX k x sp) (hr : Room j X.A) (hk : k ≤ j) (hg : Gl X x) (hx : Passes CX X E) (ha : PA X (e :: es) t)
    (hdb : (x == ("__debug__" : Str)) = false := by decide) (he : starEach (e :: es) X.env = (false, eval e X.env) :: starEach es X.env := by rfl) (hpl : (backTo pos (starEach es X.env)).any (·.1) = false := by rfl) :
    PE X (.Call (.Name x p) (e :: es) [] pos) (tCall sp [] E t) := by
  obtain ⟨f, fd, ps, F, hm, kp, b⟩ := c.ex
  exact pe_call F (hr.mono hk) hg hm kp b .nil hx ha hdb he hpl
end
end Z

set_option maxRecDepth 100000
set_option maxHeartbeats 2000000
namespace Z
open PySem PySem.Spec PyProof.Rows L2
/-! ### heaps: what a bag's draws leave -/
/-- the heap without some addresses -/
def hd (B : Addr → Bool) (H : Hp) : Hp := fun a => if B a = true then none else H a
/-- only what stands at b may be otherwise; new things may stand -/
def Go (b : Addr) (H H' : Hp) : Prop := ∀ a o, a ≠ b → H a = some o → H' a = some o
theorem hd_some {B : Addr → Bool} {H : Hp} {a : Addr} {o : HO} (h : hd B H a = some o) : B a = false ∧ H a = some o := by
  unfold hd at h
  split at h
  · cases h
  · rename_i h1
    exact ⟨by simpa using h1, h⟩
theorem hd_of {B : Addr → Bool} {H : Hp} {a : Addr} {o : HO} (h1 : B a = false) (h : H a = some o) : hd B H a = some o := by
  unfold hd
  rw [h1, if_neg Bool.false_ne_true]
  exact h
theorem hd_same (B : Addr → Bool) (H : Hp) : Same (hd B H) H := fun _ _ h => (hd_some h).2
theorem Go.refl (b : Addr) (H : Hp) : Go b H H := fun _ _ _ h => h
theorem Go.trans {b : Addr} {H H1 H2 : Hp} (x : Go b H H1) (y : Go b H1 H2) : Go b H H2 := fun a o n h => y a o n (x a o n h)
theorem Go.of {b : Addr} {H H' : Hp} (x : Same H H') : Go b H H' := fun a o _ h => x a o h
theorem Go.hd {b : Addr} {B : Addr → Bool} {H H' : Hp} (x : Go b H H') (hb : B b = true) : Same (hd B H) (hd B H') := fun a o h => by
  obtain ⟨h1, h2⟩ := hd_some h
  exact hd_of h1 (x a o (fun e => by rw [e, hb] at h1; cases h1) h2)
theorem Same.hd {B : Addr → Bool} {H H' : Hp} (x : Same H H') : Same (hd B H) (hd B H') := fun a o h => by
  obtain ⟨h1, h2⟩ := hd_some h
  exact hd_of h1 (x a o h2)
theorem same_new {H : Hp} {p : Addr} {o : HO} (h : H p = none) : Same H (upd H p o) := fun b x e => by
  rw [upd_ne (ne_of_none e h)]
  exact e
theorem same_mut {H H' : Hp} {p : Addr} {o : HO} (x : Same H H') (h : H p = none) : Same H (upd H' p o) := fun b u e => by
  rw [upd_ne (ne_of_none e h)]
  exact x b u e
theorem go_mut {b : Addr} {H H' : Hp} {o : HO} (x : Go b H H') : Go b H (upd H' b o) := fun a u n e => by
  rw [upd_ne n]
  exact x a u n e
theorem go_new {b : Addr} {H H' : Hp} {p : Addr} {o : HO} (x : Go b H H') (h : H p = none) : Go b H (upd H' p o) := fun a u n e => by
  rw [upd_ne (ne_of_none e h)]
  exact x a u n e
theorem Same.tup {K : PySem.W.Frag} {H H' : Hp} {a : Addr} {xs : List V} (e : Same H H') (h : SqT K H a xs) : SqT K H' a xs := by
  rcases h with (h | ⟨o, h⟩) | h
  · exact .inl (.inl (e _ _ h))
  · exact .inl (.inr ⟨o, e _ _ h⟩)
  · exact .inr h
theorem sq_of {K : PySem.W.Frag} {H : Hp} {a : Addr} {xs : List V} (h : H a = some (.lst xs)) : SqL K H a xs := .inl (.inl h)
theorem st_of {K : PySem.W.Frag} {H : Hp} {a : Addr} {xs : List V} (h : H a = some (.tup xs)) : SqT K H a xs := .inl (.inl h)
/-! ### the bag -/
def bagL (x0 x1 x2 : Int) (c : Addr) : HO := .lst [.int x0, .int x1, .int x2, .ref c]
structure BagC (K : PySem.W.Frag) (H : Hp) (b c : Addr) (cs : List Int) (x0 x1 x2 : Int) : Prop where
  at_ : H b = some (bagL x0 x1 x2 c)
  cells : SqL K H c (cs.map V.int)
  ne : c ≠ b
  h0 : 0 ≤ x0
  h1 : 0 ≤ x1 ∧ x1 < 2147483647
  h2 : 0 ≤ x2
  hc : ∀ z ∈ cs, 0 ≤ z
/-- a bag: where it stands, where its cells stand, its cells -/
structure Bg where
  b : Addr
  c : Addr
  cs : List Int
def Bag (K : PySem.W.Frag) (H : Hp) (ω : Bg) : Prop := ∃ x0 x1 x2, BagC K H ω.b ω.c ω.cs x0 x1 x2
theorem seq_ne {K : PySem.W.Frag} {H : Hp} {b c : Addr} {o : HO} {xs : List V} (h : SqL K H c xs) (n : c ≠ b) : SqL K (upd H b o) c xs := by
  rcases h with (h | ⟨u, h⟩) | h
  · exact .inl (.inl (by rw [upd_ne n]; exact h))
  · exact .inl (.inr ⟨u, by rw [upd_ne n]; exact h⟩)
  · exact .inr h
theorem BagC.set {K : PySem.W.Frag} {H : Hp} {b c : Addr} {cs : List Int} {x0 x1 x2 : Int} (g : BagC K H b c cs x0 x1 x2) {y0 y1 y2 : Int} (h0 : 0 ≤ y0) (h1 : 0 ≤ y1 ∧ y1 < 2147483647) (h2 : 0 ≤ y2) : BagC K (upd H b (bagL y0 y1 y2 c)) b c cs y0 y1 y2 :=
  ⟨upd_same, seq_ne g.cells g.ne, g.ne, h0, h1, h2, g.hc⟩
theorem Bag.same {K : PySem.W.Frag} {H H' : Hp} {ω : Bg} (g : Bag K H ω) (e : Same H H') : Bag K H' ω := by
  obtain ⟨x0, x1, x2, g⟩ := g
  exact ⟨x0, x1, x2, e _ _ g.at_, e.seq g.cells, g.ne, g.h0, g.h1, g.h2, g.hc⟩
theorem Bag.some {K : PySem.W.Frag} {H : Hp} {ω : Bg} (g : Bag K H ω) : ∃ o, H ω.b = some o := by
  obtain ⟨x0, x1, x2, g⟩ := g
  exact ⟨_, g.at_⟩
/-- a draw: any number from 0 below m -/
def spTake (K : PySem.W.Frag) : Sp := fun vs H Q _ => ∃ (ω : Bg) (m : Int), vs = [.ref ω.b, .int m] ∧ Bag K H ω ∧ 0 < m ∧ m < 2 ^ 62 ∧
  ∀ (v : Int) (H' : Hp), 0 ≤ v → v < m → Bag K H' ω → Go ω.b H H' → Q (.int v) H'
end Z

set_option maxRecDepth 100000
set_option maxHeartbeats 2000000
namespace Z
open PySem PySem.Spec PyProof.Rows L2
/-! ### readings that reckon by themselves -/
@[reducible] def onB (x : V) (Q : Bool → Prop) : Prop := match x with
  | .bl k => Q k
  | _ => False
@[reducible] def onI (x : V) (Q : Int → Prop) : Prop := match x with
  | .int k => Q k
  | _ => False
@[reducible] def onS (x : V) (Q : Str → Prop) : Prop := match x with
  | .str k => Q k
  | _ => False
@[reducible] def onR (x : V) (Q : Addr → Prop) : Prop := match x with
  | .ref k => Q k
  | _ => False
@[reducible] def onV (o : Option (Option V)) (Q : V → Prop) : Prop := match o with
  | some (some v) => Q v
  | _ => False
theorem onB_ex {x : V} {Q : Bool → Prop} (h : onB x Q) : ∃ k, x = .bl k ∧ Q k := by
  cases x <;> first | exact ⟨_, rfl, h⟩ | exact h.elim
theorem onI_ex {x : V} {Q : Int → Prop} (h : onI x Q) : ∃ k, x = .int k ∧ Q k := by
  cases x <;> first | exact ⟨_, rfl, h⟩ | exact h.elim
theorem onS_ex {x : V} {Q : Str → Prop} (h : onS x Q) : ∃ k, x = .str k ∧ Q k := by
  cases x <;> first | exact ⟨_, rfl, h⟩ | exact h.elim
theorem onR_ex {x : V} {Q : Addr → Prop} (h : onR x Q) : ∃ k, x = .ref k ∧ Q k := by
  cases x <;> first | exact ⟨_, rfl, h⟩ | exact h.elim
theorem onV_ex {o : Option (Option V)} {Q : V → Prop} (h : onV o Q) : ∃ v, o = some (some v) ∧ Q v := by
  rcases o with _ | _ | v <;> first | exact ⟨_, rfl, h⟩ | exact h.elim
theorem onB_eq {x : V} {Q : Bool → Prop} : onB x Q = ∃ k, x = .bl k ∧ Q k := propext ⟨onB_ex, fun ⟨k, e, h⟩ => by subst e; exact h⟩
theorem onV_eq {o : Option (Option V)} {Q : V → Prop} : onV o Q = ∃ v, o = some (some v) ∧ Q v := propext ⟨onV_ex, fun ⟨k, e, h⟩ => by subst e; exact h⟩
def zVar (i : Nat) : TE := fun σ H Q => onV σ[i]? fun v => Q v H
theorem zVar_eq (i : Nat) : zVar i = tVar i := by
  funext σ H Q
  exact onV_eq
section
variable {X : Cx}
theorem zv (i : Nat) {x : Str} {pos : Pos} (hN : X.N[i]? = some x := by rfl) (hv : Vis X.env.scope x := by first | exact Or.inl rfl | exact Or.inr (Or.inl rfl) | exact Or.inr (Or.inr rfl)) (hd : (x == ("__debug__" : Str)) = false := by decide)
    (hcd : (x == ("__classdict__" : Str)) = false := by decide) : PE X (.Name x pos) (zVar i) := by
  rw [zVar_eq]
  exact pe_var hN hv hd hcd
def zTest (t : TE) : TT := fun σ H Q => t σ H fun x H' => onB x fun k => Q k H'
theorem zTest_eq (t : TE) : zTest t = tTest t := by
  funext σ H Q
  unfold zTest tTest
  congr
  funext x H'
  exact onB_eq
theorem pz_cmp {a b : Expr} {ta tb : TE} {pos : Pos} {op : CmpOp} {r : R2} (ho : OpR X (compareOp op) r) (ha : PE X a ta) (hb : PE X b tb) (hm : behindInMarks op b = false) : PT X (.Compare a [op] [b] pos) (zTest (tOp r ta tb)) := by
  rw [zTest_eq]
  exact pt_cmpR ho ha hb hm
theorem pz_val {e : Expr} {t : TE} (h : PE X e t) (he : ∀ whole, isTrue e X.env whole = (do let v ← whole; standAt e.pos; holding [v] (truthy v)) := by intro _; rfl) : PT X e (zTest t) := by
  have e1 : zTest t = tB t := by
    rw [zTest_eq]
    rfl
  rw [e1]
  exact pt_val h he
def zChain (r r' : R2) (ta tb tc : TE) : TE := fun σ H Q => ta σ H fun x H1 => tb σ H1 fun y H2 => r x y H2 fun z H3 => onB z fun k => if k = true then tc σ H3 fun w' H4 => r' y w' H4 Q else Q (.bl false) H3
theorem zChain_eq (r r' : R2) (ta tb tc : TE) : zChain r r' ta tb tc = tChain r r' ta tb tc := by
  funext σ H Q
  unfold zChain tChain
  congr
  funext x H1
  congr
  funext y H2
  congr
  funext z H3
  exact onB_eq
theorem pz_chain {a b c : Expr} {ta tb tc : TE} {pos : Pos} {op op' : CmpOp} {r r' : R2} (ho : OpR X (compareOp op) r) (ho' : OpR X (compareOp op') r') (ha : PE X a ta) (hb : PE X b tb) (hc : PE X c tc)
    (hm : lastMarks [op, op'] [b, c] = false := by with_unfolding_all rfl) : PE X (.Compare a [op, op'] [b, c] pos) (zChain r r' ta tb tc) := by
  rw [zChain_eq]
  exact pe_chain ho ho' ha hb hc hm
theorem pz_chainT {a b c : Expr} {ta tb tc : TE} {pos : Pos} {op op' : CmpOp} {r r' : R2} (ho : OpR X (compareOp op) r) (ho' : OpR X (compareOp op') r') (ha : PE X a ta) (hb : PE X b tb) (hc : PE X c tc)
    (hm : lastMarks [op, op'] [b, c] = false := by with_unfolding_all rfl) : PT X (.Compare a [op, op'] [b, c] pos) (zTest (zChain r r' ta tb tc)) := by
  rw [zTest_eq, zChain_eq]
  exact pt_chain ho ho' ha hb hc hm
def zAndV (ta tb : TE) : TE := fun σ H Q => ta σ H fun x H1 => onB x fun c => if c = true then tb σ H1 Q else Q (.bl false) H1
def zOrV (ta tb : TE) : TE := fun σ H Q => ta σ H fun x H1 => onB x fun c => if c = true then Q (.bl true) H1 else tb σ H1 Q
def zNotV (ta : TE) : TE := fun σ H Q => ta σ H fun x H1 => onB x fun c => Q (.bl (!c)) H1
theorem zAndV_eq (ta tb : TE) : zAndV ta tb = tAndV ta tb := by
  funext σ H Q
  unfold zAndV tAndV
  congr
  funext x H1
  exact onB_eq
theorem zOrV_eq (ta tb : TE) : zOrV ta tb = L2.tOrV ta tb := by
  funext σ H Q
  unfold zOrV L2.tOrV
  congr
  funext x H1
  exact onB_eq
theorem zNotV_eq (ta : TE) : zNotV ta = tNotV ta := by
  funext σ H Q
  unfold zNotV tNotV
  congr
  funext x H1
  exact onB_eq
theorem pz_and {a b : Expr} {rest : List Expr} {ta tb : TE} {pos : Pos} (ha : PE X a ta) (hb : PE X (.BoolOp .And (b :: rest) pos) tb) : PE X (.BoolOp .And (a :: b :: rest) pos) (zAndV ta tb) := by
  rw [zAndV_eq]
  exact pe_and ha hb
theorem pz_or {a b : Expr} {rest : List Expr} {ta tb : TE} {pos : Pos} (ha : PE X a ta) (hb : PE X (.BoolOp .Or (b :: rest) pos) tb) : PE X (.BoolOp .Or (a :: b :: rest) pos) (zOrV ta tb) := by
  rw [zOrV_eq]
  exact pe_or ha hb
theorem pz_not {a : Expr} {ta : TE} {pos : Pos} (ha : PE X a ta) : PE X (.UnaryOp .Not a pos) (zNotV ta) := by
  rw [zNotV_eq]
  exact pe_not ha
/-! operators -/
theorem opImp {f : Value → Value → Sem Value} {r r' : R2} (h : OpR X f r) (i : ∀ x y H Q, r' x y H Q → r x y H Q) : OpR X f r' := fun pins s σ H x y v u Q I rx ry q => h pins s σ H x y v u Q I rx ry (i x y H Q q)
theorem unImp {f : Value → Sem Value} {r r' : V → Hp → VK → Prop} (h : UnR X f r) (i : ∀ x H Q, r' x H Q → r x H Q) : UnR X f r' := fun pins s σ H x v Q I rx q => h pins s σ H x v Q I rx (i x H Q q)
theorem callImp {f : Value} {r r' : List V → Hp → VK → Prop} (h : CallR X f r) (i : ∀ xs H Q, r' xs H Q → r xs H Q) : CallR X f r' := fun pins s σ H xs us Q I rx q => h pins s σ H xs us Q I rx (i xs H Q q)
theorem mtImp {id : String} {r r' : V → List V → Hp → VK → Prop} (h : MtR X id r) (i : ∀ x xs H Q, r' x xs H Q → r x xs H Q) : MtR X id r' := fun pins s σ H x xs v us Q I rx rs q => h pins s σ H x xs v us Q I rx rs (i x xs H Q q)
def rSubZ : R2 := fun x y H Q => onI x fun i => onI y fun j => Q (.int (i - j)) H
theorem op_subZ : OpR X (binaryOp .Sub) rSubZ := opImp op_sub fun x y H Q h => by
  obtain ⟨i, rfl, h⟩ := onI_ex h
  obtain ⟨j, rfl, h⟩ := onI_ex h
  exact ⟨i, j, rfl, rfl, h⟩
def rModZ : R2 := fun x y H Q => onI x fun i => onI y fun j => 0 < j ∧ Q (.int (i % j)) H
theorem op_modZ : OpR X (binaryOp .Mod) rModZ := opImp op_mod fun x y H Q h => by
  obtain ⟨i, rfl, h⟩ := onI_ex h
  obtain ⟨j, rfl, h⟩ := onI_ex h
  exact ⟨i, j, rfl, rfl, h⟩
def rDivZ : R2 := fun x y H Q => onI x fun i => onI y fun j => (0 < j ∧ j.natAbs.log2 < 9000) ∧ Q (.int (i / j)) H
theorem op_divZ : OpR X (binaryOp .FloorDiv) rDivZ := opImp op_fdivW fun x y H Q h => by
  obtain ⟨i, rfl, h⟩ := onI_ex h
  obtain ⟨j, rfl, h⟩ := onI_ex h
  exact ⟨i, j, rfl, rfl, h⟩
def rPowZ : R2 := fun x y H Q => onI x fun i => onI y fun j => (0 ≤ j ∧ j ≤ 1000000 ∧ i.natAbs < 2 ^ 64) ∧ Q (.int (i ^ j.toNat)) H
theorem op_powZ : OpR X (binaryOp .Pow) rPowZ := opImp op_pow fun x y H Q h => by
  obtain ⟨i, rfl, h⟩ := onI_ex h
  obtain ⟨j, rfl, h⟩ := onI_ex h
  exact ⟨i, j, rfl, rfl, h⟩
def rNegZ : V → Hp → VK → Prop := fun x H Q => onI x fun i => Q (.int (-i)) H
theorem un_negZ : UnR X (unaryOp .USub) rNegZ := unImp un_neg fun x H Q h => by
  obtain ⟨i, rfl, h⟩ := onI_ex h
  exact ⟨i, rfl, h⟩
def rAbsZ : List V → Hp → VK → Prop := fun vs H Q => match vs with
  | [.int i] => Q (.int (if i < 0 then -i else i)) H
  | _ => False
theorem call_absZ : CallR X (.builtin "abs") rAbsZ := callImp call_abs fun xs H Q h => by
  unfold rAbsZ at h
  split at h
  · exact ⟨_, rfl, h⟩
  · exact h.elim
def rIntZ : List V → Hp → VK → Prop := fun vs H Q => match vs with
  | [.int i] => Q (.int i) H
  | [.bl k] => Q (.int (if k then 1 else 0)) H
  | _ => False
theorem call_intZ : CallR X (.type "int") rIntZ := callImp call_int1 fun xs H Q h => by
  unfold rIntZ at h
  split at h
  · exact .inl ⟨_, rfl, h⟩
  · exact .inr ⟨_, rfl, h⟩
  · exact h.elim
/-- all(list of truths), any(..) -/
def rAllZ (K : PySem.W.Frag) (f : List Bool → Bool) : List V → Hp → VK → Prop := fun vs H Q => match vs with
  | [.ref a] => ∃ bs : List Bool, SqL K H a (bs.map V.bl) ∧ Q (.bl (f bs)) H
  | _ => False
theorem call_allZ (hc : X.calm = true) : CallR X (.builtin "all") (rAllZ X.K fun bs => bs.all id) := callImp (cr_all hc) fun xs H Q h => by
  unfold rAllZ at h
  split at h
  · obtain ⟨bs, h1, h2⟩ := h
    exact ⟨_, bs, rfl, h1, h2⟩
  · exact h.elim
theorem call_anyZ (hc : X.calm = true) : CallR X (.builtin "any") (rAllZ X.K fun bs => bs.any id) := callImp (cr_any hc) fun xs H Q h => by
  unfold rAllZ at h
  split at h
  · obtain ⟨bs, h1, h2⟩ := h
    exact ⟨_, bs, rfl, h1, h2⟩
  · exact h.elim
/-- an item that an augmented store reads -/
def gIxZ (K : PySem.W.Frag) : V → V → Hp → VK → Prop := fun x y H Q => onR x fun p => onI y fun i => ∃ (xs : List V) (v : V), 0 ≤ i ∧ SqL K H p xs ∧ xs[i.toNat]? = some v ∧ Q v H
theorem pget_Z : PGet X (gIxZ X.K) := by
  intro pins s σ H o i ov iv Q I ro ri h
  obtain ⟨p, rfl, h⟩ := onR_ex h
  obtain ⟨j, rfl, h⟩ := onI_ex h
  obtain ⟨xs, v, h0, h1, h2, h3⟩ := h
  refine pget_list pins s σ H _ _ ov iv Q I ro ri ⟨p, xs, j.toNat, v, rfl, ?_, h1, h2, h3⟩
  rw [Int.toNat_of_nonneg h0]
def rSetZ : TSet := fun o i v H Q => onR o fun p => onI i fun k => ∃ xs, H p = some (.lst xs) ∧ (0 ≤ k ∧ k < xs.length) ∧ Q (upd H p (.lst (xs.set k.toNat v)))
theorem set_Z : PSet X rSetZ := by
  intro pins s σ H o i v ov iv u Q I ro ri rv h
  obtain ⟨p, rfl, h⟩ := onR_ex h
  obtain ⟨k, rfl, h⟩ := onI_ex h
  obtain ⟨xs, h1, h2, h3⟩ := h
  refine set_list pins s σ H _ _ v ov iv u Q I ro ri rv ⟨p, xs, k, k.toNat, rfl, rfl, h1, ?_, h3⟩
  unfold ixN
  rw [if_pos h2.1, if_pos h2.2]
def ipZ : TIp := fun x y H Q => onI x fun i => onI y fun j => Q (.int (i + j)) H
theorem ip_Z : PIp X .Add ipZ := by
  intro pins s σ H x y v u Q I r1 r2 h
  obtain ⟨i, rfl, h⟩ := onI_ex h
  obtain ⟨j, rfl, h⟩ := onI_ex h
  exact ip_add pins s σ H _ _ v u Q I r1 r2 ⟨i, j, rfl, rfl, h⟩
end
end Z
namespace Z
open PySem PySem.Spec PyProof.Rows L2
section
variable {K : PySem.W.Frag} {H : Hp} {p : Addr} {xs : List V} {i : Int} {v : V} {Q : VK}
theorem ixL (h : SqL K H p xs) (e : atI xs i = some v) (q : Q v H) : rIxZ K (.ref p) (.int i) H Q := ⟨xs, i, v, rfl, .inl h, e, q⟩
theorem ixT (h : SqT K H p xs) (e : atI xs i = some v) (q : Q v H) : rIxZ K (.ref p) (.int i) H Q := ⟨xs, i, v, rfl, .inr h, e, q⟩
theorem ixN (h : SqL K H p xs) {j : Nat} (e : xs[j]? = some v) (q : Q v H) : rIxZ K (.ref p) (.int (j : Int)) H Q := ⟨xs, j, v, rfl, .inl h, atI_nat e, q⟩
theorem lenL {n : Int} (h : SqL K H p xs) (e : (xs.length : Int) = n) (q : Q (.int n) H) : rLenZ K [.ref p] H Q := ⟨xs, .inl h, by rw [e]; exact q⟩
end
theorem eqI {K : PySem.W.Frag} {f : Bool → Bool} {i j : Int} {H : Hp} {Q : VK} (q : Q (.bl (f (decide (i = j)))) H) : rEqZ K f (.int i) (.int j) H Q := by
  refine ⟨rfl, ?_⟩
  have e : decide (V.int i = V.int j) = decide (i = j) := by
    rw [Bool.eq_iff_iff]
    simp
  rw [e]
  exact q
theorem eqS {K : PySem.W.Frag} {f : Bool → Bool} {i j : Str} {H : Hp} {Q : VK} (q : Q (.bl (f (decide (i = j)))) H) : rEqZ K f (.str i) (.str j) H Q := by
  refine ⟨rfl, ?_⟩
  have e : decide (V.str i = V.str j) = decide (i = j) := by
    rw [Bool.eq_iff_iff]
    simp
  rw [e]
  exact q
theorem iteD {c A B : Prop} [Decidable c] (h1 : c → A) (h2 : ¬ c → B) : if decide c = true then A else B := by
  by_cases h : c
  · rw [if_pos (decide_eq_true h)]
    exact h1 h
  · rw [if_neg (by rw [decide_eq_true_iff]; exact h)]
    exact h2 h
theorem iteB {c : Bool} {A B : Prop} (h1 : c = true → A) (h2 : c = false → B) : if c = true then A else B := by
  cases c with
  | true => rw [if_pos rfl]; exact h1 rfl
  | false => rw [if_neg Bool.false_ne_true]; exact h2 rfl
end Z

set_option maxRecDepth 100000
set_option maxHeartbeats 2000000
namespace Z
open PySem PySem.Spec PyProof.Rows L2
/-! ### things: data of any depth, dicts by texts within -/
mutual
inductive Th (K : PySem.W.Frag) (H : Hp) : V → PyData → Prop
  | non : Th K H .non .none
  | bl (b : Bool) : Th K H (.bl b) (.bool b)
  | int (i : Int) : Th K H (.int i) (.int i)
  | str (x : Str) : Th K H (.str x) (.str x)
  | lst {a : Addr} {xs : List V} {ds : List PyData} : SqL K H a xs → ThA K H xs ds → Th K H (.ref a) (.list ds)
  | tup {a : Addr} {xs : List V} {ds : List PyData} : SqT K H a xs → ThA K H xs ds → Th K H (.ref a) (.tuple ds)
  | dic {a : Addr} {kvs : List (Key × V)} {ps : List (PyData × PyData)} : H a = some (.dK kvs) → ThD K H kvs ps → Th K H (.ref a) (.dict ps)
inductive ThA (K : PySem.W.Frag) (H : Hp) : List V → List PyData → Prop
  | nil : ThA K H [] []
  | cons {v : V} {vs : List V} {d : PyData} {ds : List PyData} : Th K H v d → ThA K H vs ds → ThA K H (v :: vs) (d :: ds)
inductive ThD (K : PySem.W.Frag) (H : Hp) : List (Key × V) → List (PyData × PyData) → Prop
  | nil : ThD K H [] []
  | cons {k : Str} {v : V} {vs : List (Key × V)} {d : PyData} {ds : List (PyData × PyData)} : Th K H v d → ThD K H vs ds → ThD K H ((Sum.inr k, v) :: vs) ((.str k, d) :: ds)
end
section
variable {K : PySem.W.Frag} {H H' : Hp}
mutual
theorem Th.mono (e : Same H H') : ∀ (d : PyData) (v : V), Th K H v d → Th K H' v d
  | .none, _, .non => .non
  | .bool _, _, .bl b => .bl b
  | .int _, _, .int i => .int i
  | .str _, _, .str x => .str x
  | .list ds, _, .lst h a => .lst (e.seq h) (ThA.mono e ds _ a)
  | .tuple ds, _, .tup h a => .tup (Same.tup e h) (ThA.mono e ds _ a)
  | .dict ps, _, .dic h a => .dic (e _ _ h) (ThD.mono e ps _ a)
theorem ThA.mono (e : Same H H') : ∀ (ds : List PyData) (vs : List V), ThA K H vs ds → ThA K H' vs ds
  | [], _, .nil => .nil
  | d :: ds, _, .cons h a => .cons (Th.mono e d _ h) (ThA.mono e ds _ a)
theorem ThD.mono (e : Same H H') : ∀ (ds : List (PyData × PyData)) (vs : List (Key × V)), ThD K H vs ds → ThD K H' vs ds
  | [], _, .nil => .nil
  | (_, d) :: ds, _, .cons h a => .cons (Th.mono e d _ h) (ThD.mono e ds _ a)
end
mutual
theorem Th.dp : ∀ (d : PyData) (v : V), Th K H v d → d.hasDict = false → Dp K H v d
  | .none, _, .non, _ => .non
  | .bool _, _, .bl b, _ => .bl b
  | .int _, _, .int i, _ => .int i
  | .str _, _, .str x, _ => .str x
  | .list ds, _, .lst h a, n => .lst h (ThA.dp ds _ a (by simpa only [PyData.hasDict] using n))
  | .tuple ds, _, .tup h a, n => .tup h (ThA.dp ds _ a (by simpa only [PyData.hasDict] using n))
  | .dict _, _, .dic _ _, n => by simp [PyData.hasDict] at n
theorem ThA.dp : ∀ (ds : List PyData) (vs : List V), ThA K H vs ds → PyData.hasDictAll ds = false → DpAll K H vs ds
  | [], _, .nil, _ => .nil
  | d :: ds, _, .cons h a, n => by
    have n2 : d.hasDict = false ∧ PyData.hasDictAll ds = false := by simpa only [PyData.hasDictAll, Bool.or_eq_false_iff] using n
    exact .cons (Th.dp d _ h n2.1) (ThA.dp ds _ a n2.2)
end
theorem ThA.len : ∀ {ds : List PyData} {vs : List V}, ThA K H vs ds → vs.length = ds.length
  | _, _, .nil => rfl
  | _, _, .cons _ a => by rw [List.length_cons, List.length_cons, ThA.len a]
theorem ThA.get : ∀ {ds : List PyData} {vs : List V}, ThA K H vs ds → ∀ {i : Nat} {v : V}, vs[i]? = some v → ∃ d, ds[i]? = some d ∧ Th K H v d
  | _, _, .nil, i, v, e => by simp at e
  | _, _, .cons h a, 0, v, e => by
    cases (Option.some.inj e)
    exact ⟨_, rfl, h⟩
  | _, _, .cons h a, i + 1, v, e => ThA.get a (i := i) e
theorem ThA.at_ : ∀ {ds : List PyData} {vs : List V}, ThA K H vs ds → ∀ {i : Nat} {d : PyData}, ds[i]? = some d → ∃ v, vs[i]? = some v ∧ Th K H v d
  | _, _, .nil, i, v, e => by simp at e
  | _, _, .cons h a, 0, v, e => by
    cases (Option.some.inj e)
    exact ⟨_, rfl, h⟩
  | _, _, .cons h a, i + 1, v, e => ThA.at_ a (i := i) e
theorem ThA.app : ∀ {ds es : List PyData} {vs us : List V}, ThA K H vs ds → ThA K H us es → ThA K H (vs ++ us) (ds ++ es)
  | _, _, _, _, .nil, b => b
  | _, _, _, _, .cons h a, b => .cons h (ThA.app a b)
theorem ThA.take : ∀ {ds : List PyData} {vs : List V} (n : Nat), ThA K H vs ds → ThA K H (vs.take n) (ds.take n)
  | _, _, 0, _ => .nil
  | _, _, n + 1, .nil => .nil
  | _, _, n + 1, .cons h a => .cons h (ThA.take n a)
theorem ThA.drop : ∀ {ds : List PyData} {vs : List V} (n : Nat), ThA K H vs ds → ThA K H (vs.drop n) (ds.drop n)
  | _, _, 0, a => a
  | _, _, n + 1, .nil => .nil
  | _, _, n + 1, .cons h a => ThA.drop n a
theorem ThA.set : ∀ {ds : List PyData} {vs : List V} (n : Nat) {v : V} {d : PyData}, ThA K H vs ds → Th K H v d → ThA K H (vs.set n v) (ds.set n d)
  | _, _, _, _, _, .nil, _ => .nil
  | _, _, 0, _, _, .cons h a, t => .cons t a
  | _, _, n + 1, _, _, .cons h a, t => .cons h (ThA.set n a t)
theorem ThA.strs : ∀ (l : List Str), ThA K H (l.map V.str) (l.map PyData.str)
  | [] => .nil
  | x :: l => .cons (.str x) (ThA.strs l)
/-- the name of a thing's class -/
def tyOf : PyData → String
  | .none => "NoneType"
  | .bool _ => "bool"
  | .int _ => "int"
  | .str _ => "str"
  | .list _ => "list"
  | .tuple _ => "tuple"
  | .dict _ => "dict"
theorem ty_list {a : Addr} {xs : List V} (h : SqL K H a xs) : TyX K H (.ref a) (.type "list") := by
  rcases h with (h | ⟨o, h⟩) | ⟨o, its, n, h1, h2, _⟩
  · exact .base (.lst h)
  · exact .base (.frz h)
  · exact .kList h1 h2
theorem ty_tup {a : Addr} {xs : List V} (h : SqT K H a xs) : TyX K H (.ref a) (.type "tuple") := by
  rcases h with (h | ⟨o, h⟩) | ⟨o, its, n, h1, h2, _⟩
  · exact .base (.tup h)
  · exact .fTuple h
  · exact .kTuple h1 h2
theorem Th.ty {v : V} {d : PyData} (h : Th K H v d) : TyX K H v (.type (tyOf d)) := by
  cases h with
  | non => exact .base .non
  | bl b => exact .base (.bl b)
  | int i => exact .base (.int i)
  | str x => exact .base (.str x)
  | lst h _ => exact ty_list h
  | tup h _ => exact ty_tup h
  | dic h _ => exact .base (.dK h)
end
/-- isinstance of a thing and a built-in class -/
def rIsiZ (K : PySem.W.Frag) : List V → Hp → VK → Prop := fun vs H Q => match vs with
  | [x, .ty n] => ∃ d b, Th K H x d ∧ kitB (tyOf d) n = some b ∧ Q (.bl b) H
  | _ => False
section
variable {X : Cx} {pins : List (Addr × Obj)} {σ : L2.St} {H : Hp} {s : Shared}
theorem call_isiZ : CallR X (.builtin "isinstance") (rIsiZ X.K) := callImp call_isi fun xs H Q h => by
  unfold rIsiZ at h
  split at h
  · obtain ⟨d, b, h1, h2, h3⟩ := h
    exact ⟨_, _, _, _, b, rfl, .ty _, h1.ty, kit_ty h2, h3⟩
  · exact h.elim
/-! what stands there reads as the thing -/
theorem kv_len : ∀ {kvs : List (Key × V)} {vs : List (Key × Value)}, KV kvs vs → kvs.map (·.1) = vs.map (·.1)
  | _, _, .nil => rfl
  | _, _, .cons r t => by rw [List.map_cons, List.map_cons, kv_len t, r.1]
mutual
theorem Th.reads (I : Inv X pins σ H s) : ∀ (d : PyData) (v : V) (u : Value), Th X.K H v d → RelV v u → ∃ as, Reads s.heap u d as
  | .none, _, _, .non, r => by
    cases r
    exact ⟨_, Reads.none⟩
  | .bool b, _, _, .bl _, r => by
    cases r
    exact ⟨_, Reads.bool b⟩
  | .int i, _, _, .int _, ⟨t, r⟩ => by
    subst r
    exact ⟨_, Reads.int i t⟩
  | .str x, _, _, .str _, ⟨t, r⟩ => by
    subst r
    exact ⟨_, Reads.str x t⟩
  | .list ds, _, _, .lst hs ha, r => by
    cases r
    obtain ⟨its, rv, ⟨o, n, ho, hc, _, hdt⟩, _⟩ := I.list hs
    obtain ⟨as, q⟩ := ThA.reads I ds _ its ha rv
    exact ⟨_, .list ho hc hdt q⟩
  | .tuple ds, _, _, .tup hs ha, r => by
    cases r
    obtain ⟨its, rv, ⟨o, ho, hc, n, hdt⟩, _⟩ := I.tuple hs
    obtain ⟨as, q⟩ := ThA.reads I ds _ its ha rv
    exact ⟨_, .tuple ho hc hdt q⟩
  | .dict ps, _, _, .dic ha hb, r => by
    cases r
    obtain ⟨_, _, vs, rv, o, es, ep, ho, hx, hdt, _, hp, _⟩ := I.hok _ _ ha
    obtain ⟨as, bs, q1, q2⟩ := ThD.reads I ps _ vs es.toList hb rv hp
    exact ⟨_, .dict ho hx.1 hdt q1 q2⟩
theorem ThA.reads (I : Inv X pins σ H s) : ∀ (ds : List PyData) (vs : List V) (us : List Value), ThA X.K H vs ds → Vals vs us → ∃ as, ReadsAll s.heap us ds as
  | [], _, _, .nil, .nil => ⟨_, .nil⟩
  | d :: ds, _, _, .cons h a, .cons r t => by
    obtain ⟨as, q⟩ := Th.reads I d _ _ h r
    obtain ⟨bs, q'⟩ := ThA.reads I ds _ _ a t
    exact ⟨_, .cons q q'⟩
theorem ThD.reads (I : Inv X pins σ H s) : ∀ (ps : List (PyData × PyData)) (kvs : List (Key × V)) (vs : List (Key × Value)) (es : List DictEntry), ThD X.K H kvs ps → KV kvs vs → Pairs (mixKind X.prog X.w) es vs →
    ∃ as bs, ReadsAll s.heap (es.map (·.key)) (ps.map (·.1)) as ∧ ReadsAll s.heap (es.map (·.val)) (ps.map (·.2)) bs
  | [], _, _, _, .nil, .nil, .nil => ⟨_, _, .nil, .nil⟩
  | (_, d) :: ps, _, _, _, .cons (k := k) h a, .cons r t, .cons (e := e) p1 p2 p => by
    obtain ⟨as, bs, q1, q2⟩ := ThD.reads I ps _ _ _ a t p
    obtain ⟨cs, q⟩ := Th.reads I d _ _ h r.2
    have k1 : keyIs (Sum.inr k) e.key = true := by
      have z := p1
      rw [← r.1] at z
      exact z
    obtain ⟨x, t1, e1, e2⟩ : ∃ x t, k = x ∧ e.key = Value.str x t := by
      rcases keyIs_shape k1 with ⟨i, t, e1, _⟩ | ⟨x, t, e1, e2⟩
      · cases e1
      · exact ⟨x, t, Sum.inr.inj e1, e2⟩
    subst e1
    refine ⟨[] ++ as, cs ++ bs, ?_, ?_⟩
    · rw [List.map_cons, List.map_cons, e2]
      exact .cons (.str _ _) q1
    · rw [List.map_cons, List.map_cons, p2]
      exact .cons q q2
end
/-! repr of a thing -/
theorem ThD.rpK {h : Heap} : ∀ (ps : List (PyData × PyData)) (kvs : List (Key × V)) (vs : List (Key × Value)) (es : List DictEntry), ThD X.K H kvs ps → KV kvs vs → Pairs (mixKind X.prog X.w) es vs →
    PyData.showableAll (ps.map (·.1)) = true → (∀ t ∈ PyData.shownAll (ps.map (·.1)), t.length ≤ sizeLine) →
    ∃ bs, ReadAtMost h (PyData.depthAll (ps.map (·.1))) bs ∧ ReprAllK X.prog X.w bs h (PyData.depthAll (ps.map (·.1))) (es.map (·.key)) (PyData.shownAll (ps.map (·.1)))
  | [], _, _, _, .nil, .nil, .nil, _, _ => by
    refine ⟨[], (fun _ z => nomatch z), ?_⟩
    simp only [List.map_nil, PyData.shownAll]
    exact .nil
  | (_, d) :: ps, _, _, _, .cons (k := k) _ a, .cons r t, .cons (e := e) p1 _ p, w1, w2 => by
    have w1' : PyData.showableAll (ps.map (·.1)) = true := by simpa only [List.map_cons, PyData.showableAll, PyData.showable, Bool.true_and] using w1
    obtain ⟨b2, hb2, k2⟩ := ThD.rpK ps _ _ _ a t p w1' fun x m => w2 x (by simp only [List.map_cons, PyData.shownAll]; exact List.mem_cons_of_mem _ m)
    have w3 := w2 (reprText k) (by simp only [List.map_cons, PyData.shownAll, PyData.shown]; exact List.mem_cons_self)
    have k1 : keyIs (Sum.inr k) e.key = true := by
      have z := p1
      rw [← r.1] at z
      exact z
    obtain ⟨x, t1, e1, e2⟩ : ∃ x t, k = x ∧ e.key = Value.str x t := by
      rcases keyIs_shape k1 with ⟨i, t, e1, _⟩ | ⟨x, t, e1, e2⟩
      · cases e1
      · exact ⟨x, t, Sum.inr.inj e1, e2⟩
    subst e1
    refine ⟨b2, ?_, ?_⟩
    · simp only [List.map_cons, PyData.depthAll]
      exact .mono hb2 (Nat.le_max_right _ _)
    · simp only [List.map_cons, PyData.depthAll, PyData.shownAll, PyData.shown]
      rw [e2]
      exact .cons (ReprK.of_is (ReprIs.str _ _ w3) _ _ _) (k2.more_le (fun b m => m) (Nat.le_max_right _ _))
mutual
theorem Th.rp (I : Inv X pins σ H s) : ∀ (d : PyData) (v : V) (u : Value), Th X.K H v d → RelV v u → d.showable = true → d.shown.length ≤ sizeLine →
    ∃ bs, ReadAtMost s.heap d.depth bs ∧ ReprK X.prog X.w bs s.heap d.depth u d.shown
  | .none, _, _, .non, r, _, _ => by
    cases r
    refine ⟨[], (fun _ z => nomatch z), ?_⟩
    simp only [PyData.shown]
    exact ReprK.of_is ReprIs.none _ _ _
  | .bool b, _, _, .bl _, r, _, _ => by
    cases r
    refine ⟨[], (fun _ z => nomatch z), ?_⟩
    simp only [PyData.shown]
    exact ReprK.of_is (ReprIs.bool b) _ _ _
  | .int i, _, _, .int _, ⟨t, r⟩, w1, _ => by
    subst r
    refine ⟨[], (fun _ z => nomatch z), ?_⟩
    simp only [PyData.shown]
    exact ReprK.of_is (ReprIs.int t (by simpa [PyData.showable] using w1)) _ _ _
  | .str x, _, _, .str _, ⟨t, r⟩, _, w2 => by
    subst r
    refine ⟨[], (fun _ z => nomatch z), ?_⟩
    simp only [PyData.shown] at w2 ⊢
    exact ReprK.of_is (ReprIs.str x t w2) _ _ _
  | .list ds, _, _, .lst hs ha, r, w1, w2 => by
    have self := Th.reads I _ _ _ (.lst hs ha) r
    cases r
    obtain ⟨rs, self⟩ := self
    obtain ⟨its, rv, ⟨o, n, ho, hc, _, hdt⟩, _⟩ := I.list hs
    simp only [PyData.shown] at w2
    obtain ⟨bs, hb, hk⟩ := ThA.rp I ds _ its ha rv (by simpa only [PyData.showable] using w1) fun t ht => Nat.le_trans (listText_mem_le ht) w2
    have out := not_mem_of_deeper self (by simp only [PyData.depth]; omega) hb
    refine ⟨_ :: bs, .cons self (by simp only [PyData.depth]; omega) hb, ?_⟩
    simp only [PyData.depth, PyData.shown]
    cases its with
    | nil =>
      cases rv
      cases ha
      simp only [PyData.shownAll, listText_nil]
      exact .listEmpty ho hc hdt
    | cons y l => exact .list ho hc hdt out (by simpa using hk.length_eq) fun i y e => hk.item i y (by simpa using e)
  | .tuple ds, _, _, .tup hs ha, r, w1, w2 => by
    have self := Th.reads I _ _ _ (.tup hs ha) r
    cases r
    obtain ⟨rs, self⟩ := self
    obtain ⟨its, rv, ⟨o, ho, hc, n, hdt⟩, _⟩ := I.tuple hs
    simp only [PyData.shown] at w2
    obtain ⟨bs, hb, hk⟩ := ThA.rp I ds _ its ha rv (by simpa only [PyData.showable] using w1) fun t ht => Nat.le_trans (tupleText_mem_le ht) w2
    have out := not_mem_of_deeper self (by simp only [PyData.depth]; omega) hb
    refine ⟨_ :: bs, .cons self (by simp only [PyData.depth]; omega) hb, ?_⟩
    simp only [PyData.depth, PyData.shown]
    exact .tuple ho hc hdt out hk
  | .dict ps, _, _, .dic ha hb, r, w1, w2 => by
    have self := Th.reads I _ _ _ (.dic ha hb) r
    cases r
    obtain ⟨rs, self⟩ := self
    obtain ⟨_, sy, vs, rv, o, es, ep, ho, hx, hdt, _, hp, _⟩ := I.hok _ _ ha
    simp only [PyData.shown] at w2
    obtain ⟨z1, z2⟩ := PyData.showableKv_split ps (by simpa only [PyData.showable] using w1)
    obtain ⟨b1, hb1, k1⟩ := ThD.rpK ps _ vs es.toList hb rv hp z1 fun t ht => let ⟨p, m, l⟩ := PyData.shownKv_key_le ps t ht; Nat.le_trans l (Nat.le_trans (dictText_mem_le m) w2)
    obtain ⟨b2, hb2, k2⟩ := ThD.rp I ps _ vs es.toList hb rv hp z2 fun t ht => let ⟨p, m, l⟩ := PyData.shownKv_val_le ps t ht; Nat.le_trans l (Nat.le_trans (dictText_mem_le m) w2)
    have both : ReadAtMost s.heap (PyData.depthKv ps) (b1 ++ b2) := .append (.mono hb1 (PyData.depthAll_keys_le ps)) (.mono hb2 (PyData.depthAll_vals_le ps))
    have out := not_mem_of_deeper self (by simp only [PyData.depth]; omega) both
    refine ⟨_ :: (b1 ++ b2), .cons self (by simp only [PyData.depth]; omega) both, ?_⟩
    simp only [PyData.depth, PyData.shown, PyData.shownKv_eq]
    exact .dict ho hx.1 hdt sy out (.of_two es.toList _ _ (k1.more_le (fun b m => List.mem_append_left _ m) (PyData.depthAll_keys_le ps)) (k2.more_le (fun b m => List.mem_append_right _ m) (PyData.depthAll_vals_le ps)))
theorem ThA.rp (I : Inv X pins σ H s) : ∀ (ds : List PyData) (vs : List V) (us : List Value), ThA X.K H vs ds → Vals vs us → PyData.showableAll ds = true → (∀ t ∈ PyData.shownAll ds, t.length ≤ sizeLine) →
    ∃ bs, ReadAtMost s.heap (PyData.depthAll ds) bs ∧ ReprAllK X.prog X.w bs s.heap (PyData.depthAll ds) us (PyData.shownAll ds)
  | [], _, _, .nil, .nil, _, _ => by
    refine ⟨[], (fun _ z => nomatch z), ?_⟩
    simp only [PyData.shownAll]
    exact .nil
  | d :: ds, _, _, .cons h a, .cons r t, w1, w2 => by
    have w1' : d.showable = true ∧ PyData.showableAll ds = true := by simpa only [PyData.showableAll, Bool.and_eq_true] using w1
    obtain ⟨b1, hb1, k1⟩ := Th.rp I d _ _ h r w1'.1 (w2 _ (by simp only [PyData.shownAll]; exact List.mem_cons_self))
    obtain ⟨b2, hb2, k2⟩ := ThA.rp I ds _ _ a t w1'.2 fun x m => w2 x (by simp only [PyData.shownAll]; exact List.mem_cons_of_mem _ m)
    refine ⟨b1 ++ b2, ?_, ?_⟩
    · simp only [PyData.depthAll]
      exact .append (.mono hb1 (Nat.le_max_left _ _)) (.mono hb2 (Nat.le_max_right _ _))
    · simp only [PyData.depthAll, PyData.shownAll]
      exact .cons ((k1.more fun b m => List.mem_append_left _ m).level_le (Nat.le_max_left _ _)) (k2.more_le (fun b m => List.mem_append_right _ m) (Nat.le_max_right _ _))
theorem ThD.rp (I : Inv X pins σ H s) : ∀ (ps : List (PyData × PyData)) (kvs : List (Key × V)) (vs : List (Key × Value)) (es : List DictEntry), ThD X.K H kvs ps → KV kvs vs → Pairs (mixKind X.prog X.w) es vs →
    PyData.showableAll (ps.map (·.2)) = true → (∀ t ∈ PyData.shownAll (ps.map (·.2)), t.length ≤ sizeLine) →
    ∃ bs, ReadAtMost s.heap (PyData.depthAll (ps.map (·.2))) bs ∧ ReprAllK X.prog X.w bs s.heap (PyData.depthAll (ps.map (·.2))) (es.map (·.val)) (PyData.shownAll (ps.map (·.2)))
  | [], _, _, _, .nil, .nil, .nil, _, _ => by
    refine ⟨[], (fun _ z => nomatch z), ?_⟩
    simp only [List.map_nil, PyData.shownAll]
    exact .nil
  | (_, d) :: ps, _, _, _, .cons (k := k) h a, .cons r t, .cons (e := e) p1 p2 p, w1, w2 => by
    have w1' : d.showable = true ∧ PyData.showableAll (ps.map (·.2)) = true := by simpa only [List.map_cons, PyData.showableAll, Bool.and_eq_true] using w1
    obtain ⟨b1, hb1, k1⟩ := Th.rp I d _ _ h r.2 w1'.1 (w2 _ (by simp only [List.map_cons, PyData.shownAll]; exact List.mem_cons_self))
    obtain ⟨b2, hb2, k2⟩ := ThD.rp I ps _ _ _ a t p w1'.2 fun x m => w2 x (by simp only [List.map_cons, PyData.shownAll]; exact List.mem_cons_of_mem _ m)
    refine ⟨b1 ++ b2, ?_, ?_⟩
    · simp only [List.map_cons, PyData.depthAll]
      exact .append (.mono hb1 (Nat.le_max_left _ _)) (.mono hb2 (Nat.le_max_right _ _))
    · simp only [List.map_cons, PyData.depthAll, PyData.shownAll]
      rw [p2]
      exact .cons ((k1.more fun b m => List.mem_append_left _ m).level_le (Nat.le_max_left _ _)) (k2.more_le (fun b m => List.mem_append_right _ m) (Nat.le_max_right _ _))
end
theorem repr_top (I : Inv X pins σ H s) {d : PyData} {v : V} {u : Value} {Q : Value → Shared → Prop} {E : Value → Shared → Prop} (h : Th X.K H v d) (r : RelV v u) (w1 : d.showable = true) (w2 : d.shown.length ≤ sizeLine)
    (hg : X.A.guards = some []) (hu : X.A.units + (d.depth + 1) < cLine)
    (q : ∀ h' t tk, (∀ b o, s.heap.get? b = some o → h'.get? b = some o) → Q (.str d.shown t) { s with heap := h', toks := tk }) : wpAny (model X.prog X.w) X.A (call (.builtin "repr") [u]) Q E s := by
  cases h with
  | non =>
    cases r
    exact PySem.P.repr_of_none (by have z := q s.heap s.toks (s.toks + 1) (fun _ _ e => e); simpa only [PyData.shown] using z)
  | bl b =>
    cases r
    exact PySem.P.repr_of_bool (by have z := q s.heap s.toks (s.toks + 1) (fun _ _ e => e); simpa only [PyData.shown] using z)
  | int i =>
    obtain ⟨t, rfl⟩ := r
    exact PySem.P.repr_of_int (by simpa [PyData.showable] using w1) (by have z := q s.heap s.toks (s.toks + 1) (fun _ _ e => e); simpa only [PyData.shown] using z)
  | str x =>
    obtain ⟨t, rfl⟩ := r
    exact PySem.P.repr_of_str (by have z := q s.heap s.toks (s.toks + 1) (fun _ _ e => e); simpa only [PyData.shown] using z) (by simpa only [PyData.shown] using w2)
  | @lst a xs ds hs ha =>
    obtain ⟨rs, self⟩ := Th.reads I _ _ _ (.lst hs ha) r
    cases r
    obtain ⟨its, rv, ⟨o, n, ho, hc, _, hdt⟩, _⟩ := I.list hs
    simp only [PyData.shown] at w2 q
    obtain ⟨bs, hb, hk⟩ := ThA.rp I ds _ its ha rv (by simpa only [PyData.showable] using w1) fun t ht => Nat.le_trans (listText_mem_le ht) w2
    have out := not_mem_of_deeper self (by simp only [PyData.depth]; omega) hb
    simp only [PyData.depth] at hu
    have go : wpAny (model X.prog X.w) X.A.in1 (call (.builtin "list.__repr__") [.ref a]) (fun z s' => ∃ y t, z = .str y t ∧ Q z s') E s := by
      cases its with
      | nil =>
        cases rv
        cases ha
        simp only [PyData.shownAll, listText_nil] at q
        exact call_list_repr_empty ⟨o, ho, hc⟩ ho hdt ⟨_, _, rfl, q s.heap _ _ fun _ _ e => e⟩
      | cons y l =>
        exact call_list_reprK ho hc hdt out (by simpa using hk.length_eq) (fun i y e => hk.item i y (by simpa using e)) hg (fun b _ => Clear.nil b) (by show X.A.units + 1 + (PyData.depthAll ds + 1) < cLine; omega) (fun _ _ e => e)
          (fun h' t tk k => ⟨_, _, rfl, q h' t tk k⟩) w2
    exact call_repr_slot (by omega) ⟨o, ho, hc⟩ F.slot_list_repr.toG go
  | @tup a xs ds hs ha =>
    obtain ⟨rs, self⟩ := Th.reads I _ _ _ (.tup hs ha) r
    cases r
    obtain ⟨its, rv, ⟨o, ho, hc, n, hdt⟩, _⟩ := I.tuple hs
    simp only [PyData.shown] at w2 q
    obtain ⟨bs, hb, hk⟩ := ThA.rp I ds _ its ha rv (by simpa only [PyData.showable] using w1) fun t ht => Nat.le_trans (tupleText_mem_le ht) w2
    have out := not_mem_of_deeper self (by simp only [PyData.depth]; omega) hb
    simp only [PyData.depth] at hu
    exact call_repr_slot (by omega) ⟨o, ho, hc⟩ F.slot_tuple_repr
      (call_tuple_reprK ho hc hdt out hk hg (fun b _ => Clear.nil b) (by show X.A.units + 1 + (PyData.depthAll ds + 1) < cLine; omega) (fun _ _ e => e) (fun h' t tk k => ⟨_, _, rfl, q h' t tk k⟩) w2)
  | @dic a kvs ps ha hb =>
    obtain ⟨rs, self⟩ := Th.reads I _ _ _ (.dic ha hb) r
    cases r
    obtain ⟨_, sy, vs, rv, o, es, ep, ho, hx, hdt, _, hp, _⟩ := I.hok _ _ ha
    simp only [PyData.shown] at w2 q
    obtain ⟨z1, z2⟩ := PyData.showableKv_split ps (by simpa only [PyData.showable] using w1)
    obtain ⟨b1, hb1, k1⟩ := ThD.rpK (h := s.heap) ps _ vs es.toList hb rv hp z1 fun t ht => let ⟨p, m, l⟩ := PyData.shownKv_key_le ps t ht; Nat.le_trans l (Nat.le_trans (dictText_mem_le m) w2)
    obtain ⟨b2, hb2, k2⟩ := ThD.rp I ps _ vs es.toList hb rv hp z2 fun t ht => let ⟨p, m, l⟩ := PyData.shownKv_val_le ps t ht; Nat.le_trans l (Nat.le_trans (dictText_mem_le m) w2)
    have both : ReadAtMost s.heap (PyData.depthKv ps) (b1 ++ b2) := .append (.mono hb1 (PyData.depthAll_keys_le ps)) (.mono hb2 (PyData.depthAll_vals_le ps))
    have out := not_mem_of_deeper self (by simp only [PyData.depth]; omega) both
    simp only [PyData.depth] at hu
    simp only [PyData.shownKv_eq] at q
    exact call_repr_slot (by omega) ⟨o, ho, hx.1⟩ F.slot_dict_repr
      (call_dict_reprK ho hx.1 hdt sy out (.of_two es.toList _ _ (k1.more_le (fun b m => List.mem_append_left _ m) (PyData.depthAll_keys_le ps)) (k2.more_le (fun b m => List.mem_append_right _ m) (PyData.depthAll_vals_le ps)))
        hg (fun b _ => Clear.nil b) (by show X.A.units + 1 + (PyData.depthKv ps + 1) < cLine; omega) (fun _ _ e => e) (fun h' t tk k => ⟨_, _, rfl, q h' t tk k⟩) (by rw [← PyData.shownKv_eq]; exact w2))
/-- repr(a thing) -/
def rReprZ (K : PySem.W.Frag) : List V → Hp → VK → Prop := fun vs H Q => match vs with
  | [x] => ∃ d, Th K H x d ∧ d.showable = true ∧ d.shown.length ≤ sizeLine ∧ d.depth ≤ 60 ∧ Q (.str d.shown) H
  | _ => False
theorem call_reprZ (hu : X.A.units + 64 < cLine) (hg : X.A.guards = some []) : CallR X (.builtin "repr") (rReprZ X.K) := by
  intro pins s σ H xs us Q I r h
  unfold rReprZ at h
  split at h
  · obtain ⟨d, h1, h2, h3, h4, h5⟩ := h
    obtain ⟨u, rfl, rx⟩ := vals1 r
    refine repr_top I h1 rx h2 h3 hg (by omega) fun h' t tk k => ?_
    exact ⟨.str d.shown, H, I.kept k, ⟨t, rfl⟩, h5⟩
  · exact h.elim
end
end Z

set_option maxRecDepth 100000
set_option maxHeartbeats 2000000
namespace Z
open PySem PySem.Spec PyProof.Rows L2
/-! ### defs that are called while no repr is under way -/
structure FnG (P : Program) (w : World) (K : PySem.W.Frag) (mg : Str → Option Value) (base : Heap) (CX : CXT) (k : Nat) (f : Addr) (fd : FuncData) (ps : List Str) (sp : Sp) : Prop where
  len : ∀ vs H Q E, sp vs H Q E → vs.length = ps.length
  run : ∀ (A : Around) (out : List Env) (s : Shared) (H : Hp) (args : Args) (us : List Value) (vs : List V) (Q : VK) (E : XK), Room k A → A.guards = some [] → Env0 P w K mg base A out s H →
    BindsTo s fd args (ps.zip us) → Vals vs us → sp vs H Q E → codeAny (model P w) A (.call (.ref f) args) (CR CX out P w H s Q E) s
/-- such a def by its body -/
theorem FnG.of {CX : CXT} {P : Program} {w : World} {K : PySem.W.Frag} {mg : Str → Option Value} {base : Heap} {k : Nat} {f : Addr} {fd : FuncData} {name qual : Str} {params : Arguments} {body : List Stmt} {scope : Scope} {dvs : List V} {kws : List (Str × V)}
    {N ps : List Str} {sp : Sp} (F : FunD K name qual params body scope dvs kws f fd) (S : FnScope N ps scope) (len : ∀ vs H Q E, sp vs H Q E → vs.length = ps.length)
    (hb : ∀ (cdv : Value) (A : Around) (out : List Env) (s : Shared) (H : Hp) (vs : List V) (Q : VK) (E : XK), Room k (A.deeper (envOfC qual scope s.heap.objs.size f cdv)) → A.guards = some [] → sp vs H Q E →
      ∃ t, PSs (cxOf CX P w K mg base N qual scope f cdv A out s H E) body t ∧ t { nx := fun _ H' => Q .non H', rt := Q } (start N vs) H) : FnG P w K mg base CX (k + 1) f fd ps sp := by
  obtain ⟨oc, od, dV, kV, doc, pm, an, cdv, ct, osl, rfl, lk, hcd, _, _⟩ := F.ex
  constructor
  · exact len
  · intro A out s H args us vs Q E room gd e0 bi rv w1
    have hlen := len vs H Q E w1
    have kin : K.In s.heap := e0.mod.kin.keeps fun b o e => (e0.bs b o e).1
    have free : s.heap.NoLimit := e0.mod.nolimit.keeps fun b o e => (e0.bs b o e).1
    refine codeAny_call_function room.depth (kin _ _ lk) rfl S.co S.gen rfl (PySem.W.codeRec_of kin hcd) (bi _ _ _ _ ?_)
    refine wpAny_newFunctionEnv_cells S.kind ?_ ?_
    · rintro ⟨n, v⟩ hy
      have hn : n ∈ ps := (List.of_mem_zip hy).1
      rcases S.par n hn with z | z
      · exact Or.inl z
      · exact Or.inr ⟨z, PySem.W.cellsFrom_some _ _ _ (Or.inl z)⟩
    · intro env he s1 x
      subst he
      refine ⟨free.keeps x.toInCall.keep, codeAny_func ?_⟩
      obtain ⟨t, d, w2⟩ := hb cdv A out s H vs Q E (room.deeper _) gd w1
      refine wpAny_mono (d.run [] s1 (start N vs) H _ (inv_start S room.hd e0 hlen rv x) w2) ?_ (fun _ _ z => z)
      intro fl s' z
      cases fl with
      | ret u =>
        obtain ⟨v, σ', H', J, r, q⟩ := z
        exact ⟨v, H', J.os, J.bare, J.base, J.hok, r, q⟩
      | next =>
        obtain ⟨σ', H', J, q⟩ := z
        exact ⟨V.non, H', J.os, J.bare, J.base, J.hok, (show RelV V.non Value.none from rfl), q⟩
      | brk =>
        obtain ⟨_, _, _, q⟩ := z
        exact q.elim
      | cont =>
        obtain ⟨_, _, _, q⟩ := z
        exact q.elim
/-- by its name -/
structure Cg (P : Program) (w : World) (K : PySem.W.Frag) (mg : Str → Option Value) (base : Heap) (CX : CXT) (k : Nat) (x : Str) (sp : Sp) : Prop where
  ex : ∃ (f : Addr) (fd : FuncData) (ps : List Str), FnG P w K mg base CX k f fd ps sp ∧ mg x = some (.ref f) ∧ PySem.W.keepIn K (.ref f) = true ∧ Binds K fd ps []
section
variable {X : Cx} {k j : Nat} {x : Str} {sp : Sp} {CX : CXT} {E : XK} {p pos : Pos} {e : Expr} {es : List Expr} {t : TA}
theorem pe_cg (c : Cg X.prog X.w X.K X.mg X.base CX k x sp) (hr : Room j X.A) (gd : X.A.guards = some []) (hk : k ≤ j) (hg : Gl X x) (hx : Passes CX X E) (ha : PA X (e :: es) t)
    (hdb : (x == ("__debug__" : Str)) = false := by decide) (he : starEach (e :: es) X.env = (false, eval e X.env) :: starEach es X.env := by rfl) (hpl : (backTo pos (starEach es X.env)).any (·.1) = false := by rfl) :
    PE X (.Call (.Name x p) (e :: es) [] pos) (tCall sp [] E t) := by
  obtain ⟨f, fd, ps, F, hm, kp, b⟩ := c.ex
  constructor
  intro pins s σ H Q I w1
  refine wpAny_Call_Name_kw (ld_glob I hg hm ?_ hdb)
  refine PySem.W.callWith_K (h₀ := X.base) I.ok.mod.kin kp (thn (ha.run pos pins s σ H _ I w1) ?_) he hpl
  rintro us s1 ⟨vs, H1, I1, r, w2⟩
  refine ⟨I1.kIn, ?_⟩
  rw [List.append_nil] at w2
  have hl : (us ++ []).length = ps.length := by
    rw [List.append_nil, ← r.length]
    exact F.len _ _ _ _ w2
  have bi := b s1 us I1.kIn hl
  rw [List.append_nil] at bi
  refine wpAny_call (codeAny_mono (F.run X.A X.stack s1 H1 ⟨us, []⟩ us vs Q E (hr.mono hk) gd I1.env0 bi r w2) ?_)
  intro r s' q
  cases r with
  | error z => exact hx pins σ H1 s1 z s' I1 q
  | ok fl =>
    cases fl with
    | ret u => exact I1.after q
    | next => exact q.elim
    | brk => exact q.elim
    | cont => exact q.elim
end
/-! ### the end of a law -/
section
variable {P : Program} {w : World} {K : PySem.W.Frag} {mg mb : Str → Option Value} {CX : CXT} {k : Nat} {fa a : Addr} {fd : FuncData} {x : Str} {sp : Sp} {s : Shared} {vs : List Value} {ns : List Int}
/-- what the law's call wants behind it -/
abbrev Ended (s : Shared) (r : Result) (s' : Shared) : Prop := r = .ok (.ret (.bool true)) ∧ OldK s.heap s'.heap ∧ s'.os = s.os ∧ AllBare s'.gens
theorem law_from (H : Hp) (hO : Only H) (hok : HOk P w H s.heap) (own : ∀ b, H b ≠ none → b = a) (kin : K.In (hidT s.heap H)) (hM : Mod K mg (hidT s.heap H)) (hg : s.gens = #[]) (hr : Room k callerA)
    (F : FnG P w K mg (hidT s.heap H) CX k fa fd [x] sp) (bi : BindsTo s fd ⟨[Value.ref a], []⟩ [(x, Value.ref a)]) (w1 : sp [.ref a] H (fun v _ => v = .bl true) fun _ _ _ => False)
    (hCX : ∀ e s', CX [] H s (fun _ _ _ => False) e s' → False) : codeAny (model P w) callerA (.call (.ref fa) ⟨[.ref a], []⟩) (Ended s) s := by
  have e0 : Env0 P w K mg (hidT s.heap H) callerA [] s H :=
    { frames := rfl, mod := hM, bs := fun b o e => of_hidT e, bsz := Nat.le_of_eq (hidT_size _ _), funs := trivial, frf := fun b z => (nomatch (show b ∈ ([] : List Addr) from z)), hok := hok, bare := .of_eq hg }
  refine codeAny_mono (F.run callerA [] s H _ [.ref a] [.ref a] _ _ hr rfl e0 bi (.cons rfl .nil) w1) ?_
  intro r s' q
  cases r with
  | error e => exact (hCX e s' q).elim
  | ok fl =>
    cases fl with
    | next => exact q.elim
    | brk => exact q.elim
    | cont => exact q.elim
    | ret u =>
      obtain ⟨v, H', h1, h2, h3, h4, h5, h6⟩ := q
      have h6' : v = .bl true := h6
      subst h6'
      cases (show u = Value.bool true from h5)
      refine ⟨rfl, OldK.of_keep ?_, h1, h2⟩
      intro b o e
      cases z : H b with
      | none => exact h3.keep b o e z (fun m => nomatch (show b ∈ ([] : List Addr) from m)) (fun m => nomatch m)
      | some u =>
        rcases hO b with y | ⟨ob, xs, y⟩
        · rw [z] at y
          cases y
        · have l1 := (hok b _ y).1
          have l2 := (h4 b _ (h3.frzs b ob _ y)).1
          rw [e] at l1
          cases l1
          exact l2
theorem law_end (KX : K.In s.heap) (hns : s.heap.Ns mainGlobals mg) (hb : s.heap.Ns builtinsNs mb) (hbb : ∀ x : Str, x ≠ "__name__" → mb x = bootBuiltins x) (hlim : s.heap.NoLimit) (hg : s.gens = #[])
    (ha : s.heap.get? a = some { cls := .type "list", data := .seq vs.toArray }) (hi : IntsAre vs ns) (hl : ns.length ≤ sizeLine) (hr : Room k callerA)
    (F : ∀ base : Heap, K.In base → base.Ns mainGlobals mg → FnG P w K mg base CX k fa fd [x] sp) (bi : ∀ (s : Shared) (u : Value), BindsTo s fd ⟨[u], []⟩ [(x, u)])
    (w1 : ∀ H : Hp, Only H → SqL K H a (ns.map V.int) → sp [.ref a] H (fun v _ => v = .bl true) fun _ _ _ => False)
    (hCX : ∀ H e s', CX [] H s (fun _ _ _ => False) e s' → False) : codeAny (model P w) callerA (.call (.ref fa) ⟨[.ref a], []⟩) (Ended s) s := by
  have rv := vals_ints hi
  have lv := hi.length
  have core : ∀ H : Hp, Only H → SqL K H a (ns.map V.int) → HOk P w H s.heap → (∀ b, H b ≠ none → b = a) → (H a ≠ none → K.lookup a = none) → codeAny (model P w) callerA (.call (.ref fa) ⟨[.ref a], []⟩) (Ended s) s := by
    intro H hO hS hok own away
    have up : ∀ {b : Addr} {o : Obj}, s.heap.get? b = some o → H b = none → (hidT s.heap H).get? b = some o := fun e n => hidT_get e n
    have notA : ∀ {b : Addr}, H b ≠ none → ∀ {o : Obj}, s.heap.get? b = some o → o.data = .seq vs.toArray := by
      intro b n o e
      have z := own b n
      subst z
      rw [ha] at e
      cases e
      rfl
    have nsUp : ∀ {b : Addr} {m : Str → Option Value}, s.heap.Ns b m → (hidT s.heap H).Ns b m := by
      rintro b m ⟨o, es, ep, e, d, r⟩
      refine ⟨o, es, ep, up e ?_, d, r⟩
      cases q : H b with
      | none => rfl
      | some u =>
        have z := notA (b := b) (by rw [q]; exact Option.some_ne_none u) e
        rw [d] at z
        cases z
    have kUp : K.In (hidT s.heap H) := by
      intro b o e
      refine up (KX b o e) ?_
      cases q : H b with
      | none => rfl
      | some u =>
        have z := own b (by rw [q]; exact Option.some_ne_none u)
        subst z
        rw [away (by rw [q]; exact Option.some_ne_none u)] at e
        cases e
    obtain ⟨mc, l1, l2⟩ := hlim
    exact law_from H hO hok own kUp ⟨kUp, nsUp hns, ⟨mb, nsUp hb, hbb⟩, mc, nsUp l1, l2⟩ hg hr (F _ kUp (nsUp hns)) (bi s (.ref a)) (w1 H hO hS) (hCX H)
  cases hk : K.lookup a with
  | some o =>
    have e := KX a o hk
    rw [ha] at e
    cases e
    refine core (fun _ => none) (fun _ => Or.inl rfl) ?_ ?_ (fun b z => absurd rfl z) (fun z => absurd rfl z)
    · exact Or.inr ⟨_, vs.toArray, _, hk, rfl, rfl, rfl, (by rw [List.size_toArray, lv]; exact hl), (by simpa using rv)⟩
    · intro b u z
      cases (show (none : Option HO) = some u from z)
  | none =>
    let o : Obj := { cls := .type "list", data := .seq vs.toArray }
    let H : Hp := fun b => if b = a then some (.frz o (.lst (ns.map V.int))) else none
    have at_a : H a = some (.frz o (.lst (ns.map V.int))) := if_pos rfl
    have off : ∀ b, b ≠ a → H b = none := fun b n => if_neg n
    refine core H ?_ (Or.inl (Or.inr ⟨o, at_a⟩)) ?_ ?_ (fun _ => hk)
    · intro b
      by_cases z : b = a
      · exact Or.inr ⟨o, ns.map V.int, by rw [z]; exact at_a⟩
      · exact Or.inl (off b z)
    · intro b u z
      by_cases y : b = a
      · rw [y, at_a] at z
        cases z
        rw [y]
        exact ⟨ha, by rw [List.length_map]; exact hl, vs, _, rv, ha⟩
      · rw [off b y] at z
        cases z
    · intro b z
      by_cases y : b = a
      · exact y
      · exact absurd (off b y) z
end
/-- the walk of a law's row, from its def's promise -/
theorem law_walk {l : PySem.W.OpenLaw} {n k : Nat} {q : Program} {loose : List Str} {XP : (Str → Option Value) → Heap → Prop} {YP : World → Heap → Prop} {d : DefRec} {CX : CXT} {x : Str}
    (hn : l.most = some n) (hn2 : n ≤ sizeLine) (hdf : d.params.defaults = []) (hr : Room k callerA)
    (F : ∀ (w : World) (mg : Str → Option Value) (fa : Addr) (h : Heap), YP w h → h.Ns mainGlobals mg → mg d.name = some (.ref fa) →
      ∃ (K : PySem.W.Frag) (fd : FuncData) (sp : Sp), K.In h ∧ (∀ (s : Shared) (u : Value), BindsTo s fd ⟨[u], []⟩ [(x, u)]) ∧
        (∀ (H : Hp) (a : Addr) (ns : List Int), ns.length ≤ n → SqL K H a (ns.map V.int) → sp [.ref a] H (fun v _ => v = .bl true) fun _ _ _ => False) ∧
        ∀ base : Heap, K.In base → base.Ns mainGlobals mg → FnG l.prog w K mg base CX k fa fd [x] sp)
    (hCX : ∀ (H : Hp) (s : Shared) (e : Value) (s' : Shared), CX [] H s (fun _ _ _ => False) e s' → False) : PySem.W.WalkO q loose XP YP l.row.toRowW d [] (fun f vs => PySem.call f vs) := by
  refine Att.attach_call hn hdf ?_
  intro w s0 s mg mb fa o pm cd doc a vs ns G Y ho hd hcd hmg hobj hints hlen hg
  obtain ⟨K, fd, sp, KX, bi, w1, hF⟩ := F w mg fa _ Y G.T.g hmg
  exact law_end KX G.T.g G.T.b G.T.builtins G.T.nolimit hg hobj hints (Nat.le_trans hlen hn2) hr hF bi (fun H _ hS => w1 H a ns hlen hS) fun H e s' => hCX H s e s'
end Z

set_option maxRecDepth 100000
set_option maxHeartbeats 2000000
namespace Z
open PySem PySem.Spec PyProof.Rows L2
/-! ### what is walked, as a list of its items -/
def signsV (z : Str) : List V := z.cps.toList.map fun c => V.str ⟨#[c]⟩
def rangeV (lo : Int) (n : Nat) : List V := (List.range n).map fun i : Nat => V.int (lo + (i : Int))
theorem rangeV_len (lo : Int) (n : Nat) : (rangeV lo n).length = n := by simp [rangeV]
theorem signsV_len (z : Str) : (signsV z).length = z.length := by simp [signsV, Str.length]
theorem rangeV_get {lo : Int} {n i : Nat} {x : V} (h : (rangeV lo n)[i]? = some x) : i < n ∧ x = .int (lo + (i : Int)) := by
  obtain ⟨h1, h2⟩ := List.getElem?_eq_some_iff.mp h
  rw [rangeV_len] at h1
  refine ⟨h1, ?_⟩
  rw [← h2]
  simp [rangeV]
theorem walk_strV {z : Str} : Walk (Its z) (signsV z).length (fun _ => True) (YAt (signsV z)) := by
  rw [signsV_len]
  refine (walk_str (z := z)).mono (fun _ h => h) ?_
  rintro i H x H' _ _ ⟨e, c, hc, rfl⟩
  refine ⟨e, ?_⟩
  unfold signsV
  rw [List.getElem?_map, Array.getElem?_toList, hc]
  rfl
theorem walk_rangeV {lo : Int} {n : Nat} : Walk (Itr lo n) (rangeV lo n).length (fun _ => True) (YAt (rangeV lo n)) := by
  rw [rangeV_len]
  refine (walk_range (lo := lo) (n := n)).mono (fun _ h => h) ?_
  rintro i H x H' hi _ ⟨e, rfl⟩
  refine ⟨e, ?_⟩
  unfold rangeV
  rw [List.getElem?_map, List.getElem?_range hi]
  rfl
theorem wipe1 (σ : L2.St) (j : Nat) : wipe σ [j] = σ.set j none := rfl
theorem wipe_set (σ : L2.St) (j : Nat) (x : Option V) : wipe ((wipe σ [j]).set j x) [j] = wipe σ [j] := by
  rw [wipe1, wipe1, List.set_set, List.set_set]
/-- a comprehension's end: what tLc asks behind the walked thing -/
abbrev LcAsk (J : It) (g : TG) (tt : TT) (te : TE) (vs : List Nat) (σ : L2.St) (H1 : Hp) (Q : VK) : Prop :=
  ∀ D, H1 D = none → ∃ W : Nat → Nat → Hp → Prop, (∃ m, W 0 m (upd H1 D (.lst []))) ∧ ∀ i m H, W i m H →
    (J.stop i H ∧ Q (.ref D) H) ∨ (J.go i H ∧ ∃ Nx : Hp → Prop, (∀ H', Nx H' → ∃ m', m' < m ∧ W (i + 1) m' H') ∧ ∀ x H', J.yld i H x H' →
      g x (wipe σ vs) H' fun σ2 H2 => wipe σ2 vs = wipe σ vs ∧ tt σ2 H2 fun b H3 => if b = true then te σ2 H3 fun y H4 => ∃ acc, H4 D = some (.lst acc) ∧ acc.length < sizeLine ∧ Nx (upd H4 D (.lst (acc ++ [y]))) else Nx H3)
section
variable {J : It} {xs : List V} {G : Hp → Prop} {j : Nat} {σ : L2.St} {tt : TT} {te : TE} {H : Hp} {Q : VK}
theorem small5 {n : Nat} (h : n ≤ 100000) : n < sizeLine := Nat.lt_of_le_of_lt h (by decide)
/-- a comprehension whose tests and elements only read -/
theorem lcP {vs : List Nat} (w : Walk J xs.length G (YAt xs)) (f : V → Bool) (g : V → V) (hG : ∀ H', Same H H' → G H') (hz : xs.length ≤ 100000)
    (ht : ∀ x, x ∈ xs → ∀ H', Same H H' → ∀ Q' : Bool → Hp → Prop, (∀ H'', Same H' H'' → Q' (f x) H'') → tt ((σ.set j none).set j (some x)) H' Q')
    (he : ∀ x, x ∈ xs → f x = true → ∀ H', Same H H' → ∀ Q' : VK, (∀ H'', Same H' H'' → Q' (g x) H'') → te ((σ.set j none).set j (some x)) H' Q')
    (k : ∀ D H', H D = none → Same H H' → H' D = some (.lst ((xs.filter f).map g)) → Q (.ref D) H') (hv : vs = [j] := by rfl) : LcAsk J (gName j) tt te vs σ H Q := by
  subst hv
  intro D hD
  refine lc_it w (fun i H' => Same H H' ∧ H' D = some (.lst (((xs.take i).filter f).map g))) ⟨same_new hD, upd_same⟩ (fun i H' _ p => hG H' p.1) ?_ ?_
  · rintro i x H1 H2 hi ⟨s1, d1⟩ ⟨rfl, hx⟩
    have hm : x ∈ xs := List.mem_of_getElem? hx
    have tk : xs.take (i + 1) = xs.take i ++ [x] := by rw [List.take_add_one, hx]; rfl
    refine ⟨wipe_set σ j _, ?_⟩
    refine ht x hm H2 s1 _ fun H3 s3 => ?_
    cases hf : f x with
    | false =>
      rw [if_neg Bool.false_ne_true]
      refine ⟨s1.trans s3, ?_⟩
      rw [s3 _ _ d1, tk, List.filter_append, List.filter_cons_of_neg (by rw [hf]; exact Bool.false_ne_true), List.filter_nil, List.append_nil]
    | true =>
      rw [if_pos rfl]
      refine he x hm hf H3 (s1.trans s3) _ fun H4 s4 => ?_
      refine ⟨_, s4 _ _ (s3 _ _ d1), ?_, same_mut ((s1.trans s3).trans s4) hD, ?_⟩
      · rw [List.length_map]
        refine small5 (Nat.le_trans (List.length_filter_le _ _) ?_)
        rw [List.length_take]
        omega
      · rw [upd_same, tk, List.filter_append, List.filter_cons_of_pos hf, List.filter_nil, List.map_append]
        rfl
  · rintro H' ⟨s1, d1⟩
    rw [List.take_length] at d1
    exact k D H' hD s1 d1
/-- .. without a test -/
theorem lcM {vs : List Nat} (w : Walk J xs.length G (YAt xs)) (g : V → V) (hG : ∀ H', Same H H' → G H') (hz : xs.length ≤ 100000)
    (he : ∀ x, x ∈ xs → ∀ H', Same H H' → ∀ Q' : VK, (∀ H'', Same H' H'' → Q' (g x) H'') → te ((σ.set j none).set j (some x)) H' Q')
    (k : ∀ D H', H D = none → Same H H' → H' D = some (.lst (xs.map g)) → Q (.ref D) H') (hv : vs = [j] := by rfl) : LcAsk J (gName j) tYes te vs σ H Q :=
  lcP (hv := hv) w (fun _ => true) g hG hz (fun x _ H' _ Q' q => q H' (Same.refl H')) (fun x m _ => he x m) fun D H' h1 h2 h3 => k D H' h1 h2 (by rw [h3, List.filter_eq_self.mpr (fun _ _ => rfl)])
end
/-! ### where a bag is drawn from -/
/-- b is a bag and hidden; what is hidden stands there -/
structure Wd (K : PySem.W.Frag) (B : Addr → Bool) (ω : Bg) (H : Hp) : Prop where
  bag : Bag K H ω
  hb : B ω.b = true
  hB : ∀ a, B a = true → H a ≠ none
section
variable {K : PySem.W.Frag} {B : Addr → Bool} {ω : Bg} {H H' : Hp}
theorem Wd.off (h : Wd K B ω H) {p : Addr} (n : H p = none) : B p = false := by
  cases e : B p with
  | false => rfl
  | true => exact absurd n (h.hB p e)
theorem some_go (g : Bag K H' ω) (x : Go ω.b H H') {a : Addr} (n : H a ≠ none) : H' a ≠ none := by
  by_cases e : a = ω.b
  · obtain ⟨o, z⟩ := g.some
    rw [e, z]
    exact Option.some_ne_none o
  · cases q : H a with
    | none => exact absurd q n
    | some o =>
      rw [x a o e q]
      exact Option.some_ne_none o
theorem free_go (g : Bag K H' ω) (x : Go ω.b H H') {a : Addr} (n : H' a = none) : H a = none := by
  cases q : H a with
  | none => rfl
  | some o => exact absurd n (some_go g x (by rw [q]; exact Option.some_ne_none o))
theorem Wd.go (h : Wd K B ω H) (g : Bag K H' ω) (x : Go ω.b H H') : Wd K B ω H' := ⟨g, h.hb, fun a z => some_go g x (h.hB a z)⟩
theorem Wd.same (h : Wd K B ω H) (x : Same H H') : Wd K B ω H' := h.go (h.bag.same x) (Go.of x)
/-- one address more is hidden -/
def hide (p : Addr) (B : Addr → Bool) : Addr → Bool := fun a => decide (a = p) || B a
theorem Wd.more (h : Wd K B ω H) {p : Addr} {o : HO} (e : H p = some o) : Wd K (hide p B) ω H := by
  refine ⟨h.bag, ?_, fun a z => ?_⟩
  · unfold hide
    rw [h.hb, Bool.or_true]
  · unfold hide at z
    rcases Bool.or_eq_true_iff.mp z with z | z
    · rw [of_decide_eq_true z, e]
      exact Option.some_ne_none o
    · exact h.hB a z
theorem hide_sub (p : Addr) (B : Addr → Bool) (H : Hp) : Same (hd (hide p B) H) (hd B H) := fun a o h => by
  obtain ⟨h1, h2⟩ := hd_some h
  exact hd_of ((Bool.or_eq_false_iff.mp h1).2) h2
theorem hide_same (p : Addr) (B : Addr → Bool) (H : Hp) {o : HO} : Same (hd (hide p B) H) (hd (hide p B) (upd H p o)) := fun a u h => by
  obtain ⟨h1, h2⟩ := hd_some h
  have n : a ≠ p := of_decide_eq_false ((Bool.or_eq_false_iff.mp h1).1)
  exact hd_of h1 (by rw [upd_ne n]; exact h2)
theorem hide_new {p : Addr} {B : Addr → Bool} {H : Hp} {o : HO} (n : H p = none) : Same (hd B H) (hd (hide p B) (upd H p o)) := fun a u h => by
  obtain ⟨h1, h2⟩ := hd_some h
  have e : a ≠ p := ne_of_none h2 n
  refine hd_of ?_ (by rw [upd_ne e]; exact h2)
  unfold hide
  rw [h1, decide_eq_false e]
  rfl
end
section
variable {K : PySem.W.Frag} {ω : Bg} {J : It} {xs : List V} {G : Hp → Prop} {j : Nat} {σ : L2.St} {tt : TT} {te : TE} {H : Hp} {Q : VK}
/-- a comprehension within which is drawn: Iv by the turn, what is made so far, and the heap but for what is hidden -/
theorem lcD {vs : List Nat} (w : Walk J xs.length G (YAt xs)) (B : Addr → Bool) (wd : Wd K B ω H) (Iv : Nat → List V → Hp → Prop) (mono : ∀ i acc G1 G2, Same G1 G2 → Iv i acc G1 → Iv i acc G2)
    (hG : ∀ H', Same (hd B H) (hd B H') → G H') (hz : xs.length ≤ 100000) (h0 : Iv 0 [] (hd B H))
    (hs : ∀ i x acc B' H', xs[i]? = some x → (∀ a, B a = true → B' a = true) → Same (hd B H) (hd B' H') → Wd K B' ω H' → Iv i acc (hd B' H') →
      tt ((σ.set j none).set j (some x)) H' fun c H3 => if c = true then te ((σ.set j none).set j (some x)) H3 fun y H4 => Bag K H4 ω ∧ Go ω.b H' H4 ∧ Iv (i + 1) (acc ++ [y]) (hd B' H4) else Bag K H3 ω ∧ Go ω.b H' H3 ∧ Iv (i + 1) acc (hd B' H3))
    (mt : ∀ σ H (Q1 Q2 : Bool → Hp → Prop), (∀ c H', Q1 c H' → Q2 c H') → tt σ H Q1 → tt σ H Q2) (me : ∀ σ H (Q1 Q2 : VK), (∀ v H', Q1 v H' → Q2 v H') → te σ H Q1 → te σ H Q2)
    (k : ∀ D acc H', H D = none → acc.length ≤ xs.length → Wd K B ω H' → Go ω.b H H' → Iv xs.length acc (hd (hide D B) H') → H' D = some (.lst acc) → Q (.ref D) H') (hv : vs = [j] := by rfl) : LcAsk J (gName j) tt te vs σ H Q := by
  subst hv
  intro D hD
  have nb : D ≠ ω.b := fun e => by
    obtain ⟨o, z⟩ := wd.bag.some
    rw [e, z] at hD
    cases hD
  have bD : B D = false := wd.off hD
  refine lc_it w (fun i H' => ∃ acc, acc.length ≤ i ∧ Wd K B ω H' ∧ Go ω.b H H' ∧ H' D = some (.lst acc) ∧ Iv i acc (hd (hide D B) H')) ⟨[], Nat.le_refl _, wd.same (same_new hD), Go.of (same_new hD), upd_same, mono _ _ _ _ (hide_new hD) h0⟩ ?_ ?_ ?_
  · rintro i H' _ ⟨acc, _, wd', g', _, _⟩
    exact hG H' (g'.hd wd.hb)
  · rintro i x H1 H2 hi ⟨acc, hl, wd', g', hd', iv⟩ ⟨rfl, hx⟩
    refine ⟨wipe_set σ j _, ?_⟩
    have sm : Same (hd B H) (hd (hide D B) H2) := fun a o z => by
      obtain ⟨h1, h2⟩ := hd_some z
      have n : a ≠ D := ne_of_none h2 hD
      refine hd_of ?_ (g' a o (fun e => by rw [e, wd.hb] at h1; cases h1) h2)
      unfold hide
      rw [h1, decide_eq_false n]
      rfl
    refine mt _ _ _ _ (fun c H3 z => ?_) (hs i x acc (hide D B) H2 hx (fun a z => by unfold hide; rw [z, Bool.or_true]) sm (wd'.more hd') iv)
    cases c with
    | false =>
      rw [if_neg Bool.false_ne_true] at z ⊢
      obtain ⟨z1, z2, z3⟩ := z
      exact ⟨acc, by omega, wd'.go z1 z2, g'.trans z2, z2 _ _ nb hd', z3⟩
    | true =>
      rw [if_pos rfl] at z ⊢
      refine me _ _ _ _ (fun y H4 z => ?_) z
      obtain ⟨z1, z2, z3⟩ := z
      have d4 : H4 D = some (.lst acc) := z2 _ _ nb hd'
      refine ⟨acc, d4, small5 (by omega), acc ++ [y], by rw [List.length_append]; exact Nat.add_le_add_right hl 1, ?_, ?_, upd_same, mono _ _ _ _ (hide_same D B H4) z3⟩
      · have w4 : Wd K B ω H4 := wd'.go z1 z2
        refine ⟨?_, w4.hb, fun a z => ?_⟩
        · obtain ⟨x0, x1, x2, g⟩ := z1
          obtain ⟨y0, y1, y2, g0⟩ := wd.bag
          refine ⟨x0, x1, x2, by rw [upd_ne (Ne.symm nb)]; exact g.at_, ?_, g.ne, g.h0, g.h1, g.h2, g.hc⟩
          rcases g0.cells with (q | ⟨u, q⟩) | q
          · exact seq_ne g.cells (ne_of_none q hD)
          · exact seq_ne g.cells (ne_of_none q hD)
          · exact Or.inr q
        · by_cases e : a = D
          · rw [e, upd_same]
            exact Option.some_ne_none _
          · rw [upd_ne e]
            exact w4.hB a z
      · exact go_new (g'.trans z2) hD
  · rintro H' ⟨acc, hl, wd', g', hd', iv⟩
    exact k D acc H' hD hl wd' g' iv hd'
end
/-! ### the same from the comprehension as a whole -/
section
variable {wi : TI} {J : It} {xs : List V} {G : Hp → Prop} {j : Nat} {vs : List Nat} {σ : L2.St} {tt : TT} {te : TE} {H : Hp} {Q : VK}
theorem tlcP (J : It) (xs : List V) (G : Hp → Prop) (f : V → Bool) (g : V → V) (hw : ∀ R : It → Hp → Prop, (∀ H1, Same H H1 → G H1 → R J H1) → wi σ H R) (w : Walk J xs.length G (YAt xs)) (hG : ∀ H1 H2, Same H1 H2 → G H1 → G H2) (hz : xs.length ≤ 100000)
    (ht : ∀ x, x ∈ xs → ∀ H', Same H H' → ∀ Q' : Bool → Hp → Prop, (∀ H'', Same H' H'' → Q' (f x) H'') → tt ((σ.set j none).set j (some x)) H' Q')
    (he : ∀ x, x ∈ xs → f x = true → ∀ H', Same H H' → ∀ Q' : VK, (∀ H'', Same H' H'' → Q' (g x) H'') → te ((σ.set j none).set j (some x)) H' Q')
    (k : ∀ D H', H D = none → Same H H' → H' D = some (.lst ((xs.filter f).map g)) → Q (.ref D) H') (hv : vs = [j] := by rfl) : tLc wi (gName j) tt te vs σ H Q := by
  refine hw _ fun H1 s1 g1 => ?_
  exact lcP (H := H1) (hv := hv) w f g (fun H' s' => hG H1 H' s' g1) hz (fun x m H' s' => ht x m H' (s1.trans s')) (fun x m e H' s' => he x m e H' (s1.trans s')) fun D H' h1 h2 h3 => k D H' (s1.free h1) (s1.trans h2) h3
theorem tlcM (J : It) (xs : List V) (G : Hp → Prop) (g : V → V) (hw : ∀ R : It → Hp → Prop, (∀ H1, Same H H1 → G H1 → R J H1) → wi σ H R) (w : Walk J xs.length G (YAt xs)) (hG : ∀ H1 H2, Same H1 H2 → G H1 → G H2) (hz : xs.length ≤ 100000)
    (he : ∀ x, x ∈ xs → ∀ H', Same H H' → ∀ Q' : VK, (∀ H'', Same H' H'' → Q' (g x) H'') → te ((σ.set j none).set j (some x)) H' Q')
    (k : ∀ D H', H D = none → Same H H' → H' D = some (.lst (xs.map g)) → Q (.ref D) H') (hv : vs = [j] := by rfl) : tLc wi (gName j) tYes te vs σ H Q := by
  refine hw _ fun H1 s1 g1 => ?_
  exact lcM (H := H1) (hv := hv) w g (fun H' s' => hG H1 H' s' g1) hz (fun x m H' s' => he x m H' (s1.trans s')) fun D H' h1 h2 h3 => k D H' (s1.free h1) (s1.trans h2) h3
/-- over a text -/
theorem comp_str {te0 : TE} {x : Str} (g : V → V) (h0 : ∀ R : VK, (∀ H1, Same H H1 → R (.str x) H1) → te0 σ H R) (hz : x.length ≤ 100000)
    (he : ∀ y, y ∈ signsV x → ∀ H', Same H H' → ∀ Q' : VK, (∀ H'', Same H' H'' → Q' (g y) H'') → te ((σ.set j none).set j (some y)) H' Q')
    (k : ∀ D H', H D = none → Same H H' → H' D = some (.lst ((signsV x).map g)) → Q (.ref D) H') (hv : vs = [j] := by rfl) : tLc (iStr te0) (gName j) tYes te vs σ H Q :=
  tlcM (hv := hv) (Its x) (signsV x) (fun _ => True) g (fun R r => h0 _ fun H1 s1 => ⟨x, rfl, r H1 s1 trivial⟩) walk_strV (fun _ _ _ _ => trivial) (by rw [signsV_len]; exact hz) he k
theorem comp_strP {te0 : TE} {x : Str} (f : V → Bool) (g : V → V) (h0 : ∀ R : VK, (∀ H1, Same H H1 → R (.str x) H1) → te0 σ H R) (hz : x.length ≤ 100000)
    (ht : ∀ y, y ∈ signsV x → ∀ H', Same H H' → ∀ Q' : Bool → Hp → Prop, (∀ H'', Same H' H'' → Q' (f y) H'') → tt ((σ.set j none).set j (some y)) H' Q')
    (he : ∀ y, y ∈ signsV x → f y = true → ∀ H', Same H H' → ∀ Q' : VK, (∀ H'', Same H' H'' → Q' (g y) H'') → te ((σ.set j none).set j (some y)) H' Q')
    (k : ∀ D H', H D = none → Same H H' → H' D = some (.lst (((signsV x).filter f).map g)) → Q (.ref D) H') (hv : vs = [j] := by rfl) : tLc (iStr te0) (gName j) tt te vs σ H Q :=
  tlcP (hv := hv) (Its x) (signsV x) (fun _ => True) f g (fun R r => h0 _ fun H1 s1 => ⟨x, rfl, r H1 s1 trivial⟩) walk_strV (fun _ _ _ _ => trivial) (by rw [signsV_len]; exact hz) ht he k
/-- over a list -/
theorem comp_list {K : PySem.W.Frag} {tl : TE} {a : Addr} {xs : List V} (g : V → V) (h0 : ∀ R : VK, (∀ H1, Same H H1 → SqL K H1 a xs → R (.ref a) H1) → tl σ H R) (hz : xs.length ≤ 100000)
    (he : ∀ y, y ∈ xs → ∀ H', Same H H' → ∀ Q' : VK, (∀ H'', Same H' H'' → Q' (g y) H'') → te ((σ.set j none).set j (some y)) H' Q')
    (k : ∀ D H', H D = none → Same H H' → H' D = some (.lst (xs.map g)) → Q (.ref D) H') (hv : vs = [j] := by rfl) : tLc (iList K tl) (gName j) tYes te vs σ H Q :=
  tlcM (hv := hv) (Itl K a) xs (fun H => SqL K H a xs) g (fun R r => h0 _ fun H1 s1 q => ⟨a, rfl, ⟨xs, q⟩, r H1 s1 q⟩) walk_list (fun _ _ s q => s.seq q) hz he k
theorem comp_listP {K : PySem.W.Frag} {tl : TE} {a : Addr} {xs : List V} (f : V → Bool) (g : V → V) (h0 : ∀ R : VK, (∀ H1, Same H H1 → SqL K H1 a xs → R (.ref a) H1) → tl σ H R) (hz : xs.length ≤ 100000)
    (ht : ∀ y, y ∈ xs → ∀ H', Same H H' → ∀ Q' : Bool → Hp → Prop, (∀ H'', Same H' H'' → Q' (f y) H'') → tt ((σ.set j none).set j (some y)) H' Q')
    (he : ∀ y, y ∈ xs → f y = true → ∀ H', Same H H' → ∀ Q' : VK, (∀ H'', Same H' H'' → Q' (g y) H'') → te ((σ.set j none).set j (some y)) H' Q')
    (k : ∀ D H', H D = none → Same H H' → H' D = some (.lst ((xs.filter f).map g)) → Q (.ref D) H') (hv : vs = [j] := by rfl) : tLc (iList K tl) (gName j) tt te vs σ H Q :=
  tlcP (hv := hv) (Itl K a) xs (fun H => SqL K H a xs) f g (fun R r => h0 _ fun H1 s1 q => ⟨a, rfl, ⟨xs, q⟩, r H1 s1 q⟩) walk_list (fun _ _ s q => s.seq q) hz ht he k
/-- over range(n), drawn from within or not -/
theorem tlcD {K : PySem.W.Frag} {ω : Bg} {ι : Type} (J : ι → It) (xs : ι → List V) (G : ι → Hp → Prop) (B : Addr → Bool) (wd : Wd K B ω H) (Iv : ι → Nat → List V → Hp → Prop) (Pi : ι → Prop)
    (hw : ∀ R : It → Hp → Prop, (∀ i H1, Pi i → Bag K H1 ω → Go ω.b H H1 → R (J i) H1) → wi σ H R) (w : ∀ i, Walk (J i) (xs i).length (G i) (YAt (xs i))) (mono : ∀ c i acc G1 G2, Same G1 G2 → Iv c i acc G1 → Iv c i acc G2)
    (hG : ∀ c H1 H', Pi c → Same (hd B H) (hd B H1) → Same (hd B H1) (hd B H') → G c H') (hz : ∀ c, Pi c → (xs c).length ≤ 100000) (h0 : ∀ c H1, Pi c → Same (hd B H) (hd B H1) → Iv c 0 [] (hd B H1))
    (hs : ∀ c i x acc B' H', Pi c → (xs c)[i]? = some x → (∀ a, B a = true → B' a = true) → Same (hd B H) (hd B' H') → Wd K B' ω H' → Iv c i acc (hd B' H') →
      tt ((σ.set j none).set j (some x)) H' fun b H3 => if b = true then te ((σ.set j none).set j (some x)) H3 fun y H4 => Bag K H4 ω ∧ Go ω.b H' H4 ∧ Iv c (i + 1) (acc ++ [y]) (hd B' H4) else Bag K H3 ω ∧ Go ω.b H' H3 ∧ Iv c (i + 1) acc (hd B' H3))
    (mt : ∀ σ H (Q1 Q2 : Bool → Hp → Prop), (∀ c H', Q1 c H' → Q2 c H') → tt σ H Q1 → tt σ H Q2) (me : ∀ σ H (Q1 Q2 : VK), (∀ v H', Q1 v H' → Q2 v H') → te σ H Q1 → te σ H Q2)
    (k : ∀ c D acc H', Pi c → H D = none → acc.length ≤ (xs c).length → Wd K B ω H' → Go ω.b H H' → Iv c (xs c).length acc (hd (hide D B) H') → H' D = some (.lst acc) → Q (.ref D) H') (hv : vs = [j] := by rfl) : tLc wi (gName j) tt te vs σ H Q := by
  refine hw _ fun c H1 pc g1 go1 => ?_
  have wd1 := wd.go g1 go1
  have sm := go1.hd wd.hb
  refine lcD (H := H1) (hv := hv) (w c) B wd1 (Iv c) (mono c) (fun H' s' => hG c H1 H' pc sm s') (hz c pc) (h0 c H1 pc sm) (fun i x acc B' H' hx hB s' w' iv => hs c i x acc B' H' pc hx hB (sm.trans s') w' iv) mt me ?_
  intro D acc H' h1 h2 h3 h4 h5 h6
  exact k c D acc H' pc (free_go g1 go1 h1) h2 h3 (go1.trans h4) h5 h6
end
/-! ### a comprehension whose answers are told as a list -/
section
variable {wi : TI} {J : It} {xs ys : List V} {G : Hp → Prop} {j : Nat} {vs : List Nat} {σ : L2.St} {te : TE} {H : Hp} {Q : VK}
theorem tlcL (J : It) (xs ys : List V) (G : Hp → Prop) (hl : ys.length = xs.length) (hw : ∀ R : It → Hp → Prop, (∀ H1, Same H H1 → G H1 → R J H1) → wi σ H R) (w : Walk J xs.length G (YAt xs)) (hG : ∀ H1 H2, Same H1 H2 → G H1 → G H2) (hz : xs.length ≤ 100000)
    (he : ∀ (i : Nat) (x y : V), xs[i]? = some x → ys[i]? = some y → ∀ H', Same H H' → ∀ Q' : VK, (∀ H'', Same H' H'' → Q' y H'') → te ((σ.set j none).set j (some x)) H' Q')
    (k : ∀ D H', H D = none → Same H H' → H' D = some (.lst ys) → Q (.ref D) H') (hv : vs = [j] := by rfl) : tLc wi (gName j) tYes te vs σ H Q := by
  subst hv
  refine hw _ fun H1 s1 g1 => ?_
  intro D hD
  refine lc_it w (fun i H' => Same H1 H' ∧ H' D = some (.lst (ys.take i))) ⟨same_new hD, upd_same⟩ (fun i H' _ p => hG H1 H' p.1 g1) ?_ ?_
  · rintro i x H2 H3 hi ⟨s2, d2⟩ ⟨rfl, hx⟩
    have hy : i < ys.length := by omega
    refine ⟨wipe_set σ j _, ?_⟩
    dsimp only [tYes]
    rw [if_pos rfl]
    refine he i x ys[i] hx (List.getElem?_eq_getElem hy) H3 (s1.trans s2) _ fun H4 s4 => ?_
    refine ⟨_, s4 _ _ d2, ?_, same_mut (s2.trans s4) hD, ?_⟩
    · rw [List.length_take]
      exact small5 (by omega)
    · rw [upd_same, List.take_add_one, List.getElem?_eq_getElem hy]
      rfl
  · rintro H' ⟨s2, d2⟩
    rw [← hl, List.take_length] at d2
    exact k D H' (s1.free hD) (s1.trans s2) d2
theorem comp_listL {K : PySem.W.Frag} {tl : TE} {a : Addr} (ys : List V) (h0 : ∀ R : VK, (∀ H1, Same H H1 → SqL K H1 a xs → R (.ref a) H1) → tl σ H R) (hl : ys.length = xs.length) (hz : xs.length ≤ 100000)
    (he : ∀ (i : Nat) (x y : V), xs[i]? = some x → ys[i]? = some y → ∀ H', Same H H' → ∀ Q' : VK, (∀ H'', Same H' H'' → Q' y H'') → te ((σ.set j none).set j (some x)) H' Q')
    (k : ∀ D H', H D = none → Same H H' → H' D = some (.lst ys) → Q (.ref D) H') (hv : vs = [j] := by rfl) : tLc (iList K tl) (gName j) tYes te vs σ H Q :=
  tlcL (hv := hv) (Itl K a) xs ys (fun H => SqL K H a xs) hl (fun R r => h0 _ fun H1 s1 q => ⟨a, rfl, ⟨xs, q⟩, r H1 s1 q⟩) walk_list (fun _ _ s q => s.seq q) hz he k
end
end Z

set_option maxRecDepth 100000
set_option maxHeartbeats 2000000
namespace Z
open PySem PySem.Spec PyProof.Rows L2
theorem paired_get {α β : Type} {F : α → β → Prop} : ∀ {l : List α} {m : List β}, l.length = m.length → (∀ (i : Nat) (a : α) (b : β), l[i]? = some a → m[i]? = some b → F a b) → Paired F l m
  | [], [], _, _ => .nil
  | [], _ :: _, e, _ => by simp at e
  | _ :: _, [], e, _ => by simp at e
  | a :: l, b :: m, e, h => .cons (h 0 a b rfl rfl) (paired_get (by simpa using e) fun i x y hx hy => h (i + 1) x y hx hy)
section
variable {X : Cx}
/-- list(a text), list(a list or a tuple) -/
def rListZ (K : PySem.W.Frag) : List V → Hp → VK → Prop := fun vs H Q => match vs with
  | [.str x] => x.length ≤ sizeLine ∧ ∀ l, H l = none → Q (.ref l) (upd H l (.lst (signsV x)))
  | [.ref p] => ∃ ys, (SqL K H p ys ∨ SqT K H p ys) ∧ ∀ l, H l = none → Q (.ref l) (upd H l (.lst ys))
  | _ => False
theorem call_listZ (hc : X.calm = true) : CallR X (.type "list") (rListZ X.K) := by
  intro pins s σ H xs us Q I r h
  unfold rListZ at h
  split at h
  · rename_i x
    obtain ⟨u, rfl, rx⟩ := vals1 r
    obtain ⟨t, rfl⟩ := rx
    obtain ⟨h1, h2⟩ := h
    refine call_list_str (I.ok.hd hc) x t (fun h' tk acc c keep obj its => ?_) h1
    have rv : Vals (signsV x) acc.toList := by
      have len : acc.toList.length = (signsV x).length := by
        rw [signsV_len, Array.length_toList, its.1]
        rfl
      refine paired_get len.symm ?_
      intro i a b ha hb
      obtain ⟨cc, tt, e1, e2⟩ := its.2 i b (by simpa using hb)
      have e3 : (signsV x)[i]? = some (.str ⟨#[cc]⟩) := by
        unfold signsV
        rw [List.getElem?_map, Array.getElem?_toList, e1]
        rfl
      rw [e3] at ha
      cases ha
      exact ⟨tt, e2⟩
    refine ⟨.ref s.heap.objs.size, _, I.laid keep (Nat.le_refl _) ?_, rfl, h2 _ (I.hok.fresh (Nat.le_refl _))⟩
    exact ⟨by rw [signsV_len]; exact h1, acc.toList, c, rv, by simpa using obj⟩
  · obtain ⟨ys, h1, h2⟩ := h
    exact call_list_of pins s σ H _ us Q I r ⟨_, ys, rfl, h1, h2⟩
  · exact h.elim
end
/-! ### things that are small enough to be shown -/
structure Nice (R n : Nat) (d : PyData) : Prop where
  sh : d.showable = true
  lv : d.leavesShort 600 = true
  wt : d.weight ≤ R
  dp : d.depth ≤ n
  ly : d.hasDict = false → d.canLay0 = true
theorem Nice.mono {R R' n n' : Nat} {d : PyData} (h : Nice R n d) (a : R ≤ R') (b : n ≤ n') : Nice R' n' d := ⟨h.sh, h.lv, Nat.le_trans h.wt a, Nat.le_trans h.dp b, h.ly⟩
theorem Nice.fits {R n : Nat} {d : PyData} (h : Nice R n d) (a : R ≤ 20000) : d.shown.length ≤ sizeLine := by
  have h1 := PyData.shown_le 600 (by decide) d h.lv
  have h2 := h.wt
  have h3 : sizeLine = 16777216 := sizeLine_eq
  have h4 : (600 + 2) * d.weight ≤ 602 * 20000 := Nat.mul_le_mul_left _ (Nat.le_trans h2 a)
  omega
theorem nice_all {R n : Nat} : ∀ {ds : List PyData}, (∀ d ∈ ds, Nice R n d) → PyData.showableAll ds = true ∧ PyData.leavesShortAll 600 ds = true ∧ PyData.weightAll ds ≤ ds.length * (R + 1) ∧ PyData.depthAll ds ≤ n ∧ (PyData.hasDictAll ds = false → PyData.canLayAll0 ds = true)
  | [], _ => ⟨by simp only [PyData.showableAll], by simp only [PyData.leavesShortAll], by simp only [PyData.weightAll]; omega, by simp only [PyData.depthAll]; omega, fun _ => by simp only [PyData.canLayAll0]⟩
  | d :: ds, h => by
    obtain ⟨h1, h2, h3, h4, h5⟩ := nice_all (ds := ds) fun e m => h e (List.mem_cons_of_mem _ m)
    obtain ⟨g1, g2, g3, g4, g5⟩ := h d List.mem_cons_self
    refine ⟨?_, ?_, ?_, ?_, fun z => ?_⟩
    · simp only [PyData.showableAll, g1, h1, Bool.and_self]
    · simp only [PyData.leavesShortAll, g2, h2, Bool.and_self]
    · simp only [PyData.weightAll, List.length_cons, Nat.add_mul]
      omega
    · simp only [PyData.depthAll]
      exact Nat.max_le.mpr ⟨g4, h4⟩
    · have z2 : d.hasDict = false ∧ PyData.hasDictAll ds = false := by simpa only [PyData.hasDictAll, Bool.or_eq_false_iff] using z
      simp only [PyData.canLayAll0, g5 z2.1, h5 z2.2, Bool.and_self]
theorem Nice.list {R R' n : Nat} {ds : List PyData} (h : ∀ d ∈ ds, Nice R n d) (e : ds.length * (R + 1) ≤ R') : Nice R' (n + 1) (.list ds) := by
  obtain ⟨h1, h2, h3, h4, h5⟩ := nice_all h
  exact ⟨by simpa only [PyData.showable] using h1, by simpa only [PyData.leavesShort] using h2, by simp only [PyData.weight]; omega, by simp only [PyData.depth]; omega, fun z => by simp only [PyData.canLay0]; exact h5 (by simpa only [PyData.hasDict] using z)⟩
theorem Nice.tuple {R R' n : Nat} {ds : List PyData} (h : ∀ d ∈ ds, Nice R n d) (e : ds.length * (R + 1) ≤ R') : Nice R' (n + 1) (.tuple ds) := by
  obtain ⟨h1, h2, h3, h4, h5⟩ := nice_all h
  exact ⟨by simpa only [PyData.showable] using h1, by simpa only [PyData.leavesShort] using h2, by simp only [PyData.weight]; omega, by simp only [PyData.depth]; omega, fun z => by simp only [PyData.canLay0]; exact h5 (by simpa only [PyData.hasDict] using z)⟩
/-- a text of signs that stand in some table below 16 ^ 8 -/
def okS (x : Str) : Bool := x.cps.toList.all fun c => decide (c < 0x110000)
theorem nice_str {x : Str} {R : Nat} (h : okS x = true) (e : x.length ≤ R) (n : Nat) : Nice R n (.str x) := by
  refine ⟨by simp only [PyData.showable], ?_, e, by simp only [PyData.depth]; omega, fun _ => ?_⟩
  rotate_left
  · simp only [PyData.canLay0]
    unfold PyData.strOk
    rw [← Array.all_toList]
    exact h
  simp only [PyData.leavesShort]
  refine List.all_eq_true.mpr fun c m => ?_
  have z := of_decide_eq_true (List.all_eq_true.mp h c m)
  exact decide_eq_true (Nat.lt_of_lt_of_le z (by decide))
theorem nice_none (R n : Nat) : Nice R n .none := ⟨by simp only [PyData.showable], by simp only [PyData.leavesShort], by simp only [PyData.weight]; omega, by simp only [PyData.depth]; omega, fun _ => by simp only [PyData.canLay0]⟩
theorem nice_bool (R n : Nat) (b : Bool) : Nice R n (.bool b) := ⟨by simp only [PyData.showable], by simp only [PyData.leavesShort], by simp only [PyData.weight]; omega, by simp only [PyData.depth]; omega, fun _ => by simp only [PyData.canLay0]⟩
/-! isinstance's answers -/
def isStr : PyData → Bool
  | .str _ => true
  | _ => false
def isList : PyData → Bool
  | .list _ => true
  | _ => false
def isBool : PyData → Bool
  | .bool _ => true
  | _ => false
def isInt : PyData → Bool
  | .int _ => true
  | .bool _ => true
  | _ => false
section
variable {K : PySem.W.Frag} {H : Hp} {Q : VK} {v : V} {d : PyData}
theorem isi_str (h : Th K H v d) (q : Q (.bl (isStr d)) H) : rIsiZ K [v, .ty "str"] H Q := ⟨d, _, h, by cases d <;> (dsimp only [tyOf, isStr, isList, isBool, isInt]; decide +kernel), q⟩
theorem isi_list (h : Th K H v d) (q : Q (.bl (isList d)) H) : rIsiZ K [v, .ty "list"] H Q := ⟨d, _, h, by cases d <;> (dsimp only [tyOf, isStr, isList, isBool, isInt]; decide +kernel), q⟩
theorem isi_bool (h : Th K H v d) (q : Q (.bl (isBool d)) H) : rIsiZ K [v, .ty "bool"] H Q := ⟨d, _, h, by cases d <;> (dsimp only [tyOf, isStr, isList, isBool, isInt]; decide +kernel), q⟩
theorem isi_int (h : Th K H v d) (q : Q (.bl (isInt d)) H) : rIsiZ K [v, .ty "int"] H Q := ⟨d, _, h, by cases d <;> (dsimp only [tyOf, isStr, isList, isBool, isInt]; decide +kernel), q⟩
theorem repr_nice {R n : Nat} (h : Th K H v d) (w : Nice R n d) (a : R ≤ 20000) (b : n ≤ 60) (q : Q (.str d.shown) H) : rReprZ K [v] H Q := ⟨d, h, w.sh, w.fits a, Nat.le_trans w.dp b, q⟩
theorem th_str (h : Th K H v d) (e : isStr d = true) : ∃ x, d = .str x ∧ v = .str x := by
  cases h with
  | str x => exact ⟨x, rfl, rfl⟩
  | _ => cases e
theorem th_list (h : Th K H v d) (e : isList d = true) : ∃ a xs ds, d = .list ds ∧ v = .ref a ∧ SqL K H a xs ∧ ThA K H xs ds := by
  cases h with
  | lst h a => exact ⟨_, _, _, rfl, rfl, h, a⟩
  | _ => cases e
end
/-! ### the rules with the written part told (a comprehension's block has it too) -/
section
variable {X : Cx}
theorem op_inK (K : PySem.W.Frag) (hK : X.K = K := by rfl) : OpR X (compareOp .In) (rInZ K id) := by subst hK; exact op_inZ
theorem op_notInK (K : PySem.W.Frag) (hK : X.K = K := by rfl) : OpR X (compareOp .NotIn) (rInZ K not) := by subst hK; exact op_notInZ
theorem op_eqK (K : PySem.W.Frag) (hu : X.A.units + 64 < cLine) (hK : X.K = K := by rfl) : OpR X (compareOp .Eq) (rEqZ K id) := by subst hK; exact op_eqZ hu
theorem op_neK (K : PySem.W.Frag) (hu : X.A.units + 64 < cLine) (hK : X.K = K := by rfl) : OpR X (compareOp .NotEq) (rEqZ K not) := by subst hK; exact op_neZ hu
theorem ix_K (K : PySem.W.Frag) (hK : X.K = K := by rfl) : IxR X (rIxZ K) := by subst hK; exact ix_Z
theorem sl_K (K : PySem.W.Frag) (hK : X.K = K := by rfl) : SlR X (rSlZ K) := by subst hK; exact sl_Z
theorem call_lenK (K : PySem.W.Frag) (hK : X.K = K := by rfl) : CallR X (.builtin "len") (rLenZ K) := by subst hK; exact call_lenZ
theorem call_allK (K : PySem.W.Frag) (hK : X.K = K := by rfl) (hc : X.calm = true := by rfl) : CallR X (.builtin "all") (rAllZ K fun bs => bs.all id) := by subst hK; exact call_allZ hc
theorem call_anyK (K : PySem.W.Frag) (hK : X.K = K := by rfl) (hc : X.calm = true := by rfl) : CallR X (.builtin "any") (rAllZ K fun bs => bs.any id) := by subst hK; exact call_anyZ hc
theorem call_isiK (K : PySem.W.Frag) (hK : X.K = K := by rfl) : CallR X (.builtin "isinstance") (rIsiZ K) := by subst hK; exact call_isiZ
theorem call_reprK (K : PySem.W.Frag) (hu : X.A.units + 64 < cLine) (hg : X.A.guards = some []) (hK : X.K = K := by rfl) : CallR X (.builtin "repr") (rReprZ K) := by subst hK; exact call_reprZ hu hg
theorem call_listK (K : PySem.W.Frag) (hK : X.K = K := by rfl) (hc : X.calm = true := by rfl) : CallR X (.type "list") (rListZ K) := by subst hK; exact call_listZ hc
theorem pget_K (K : PySem.W.Frag) (hK : X.K = K := by rfl) : PGet X (gIxZ K) := by subst hK; exact pget_Z
theorem pi_listK (K : PySem.W.Frag) {tg l : Expr} {tl : TE} (h : PE X l tl) (hK : X.K = K := by rfl) : PI X tg l (iList K tl) := by subst hK; exact pi_list h
theorem pi_tupK (K : PySem.W.Frag) {tg l : Expr} {tl : TE} (h : PE X l tl) (hK : X.K = K := by rfl) : PI X tg l (iTup K tl) := by subst hK; exact pi_tup h
/-- sep.join(texts) -/
def zJoin (K : PySem.W.Frag) (to te : TE) : TE := fun σ H Q => to σ H fun x H1 => te σ H1 fun y H2 => onS x fun a => onR y fun p => ∃ ys : List Str, (SqL K H2 p (ys.map V.str) ∨ SqT K H2 p (ys.map V.str)) ∧ (ys.map (·.length)).sum + ys.length * a.length ≤ 16777216 ∧ Q (.str (Txt.join a ys)) H2
/-- a tuple of a list, of a tuple -/
def rTupleZ (K : PySem.W.Frag) : List V → Hp → VK → Prop := fun vs H Q => match vs with
  | [.ref p] => ∃ ys, (SqL K H p ys ∧ ∀ l, H l = none → Q (.ref l) (upd H l (.tup ys))) ∨ (SqT K H p ys ∧ Q (.ref p) H)
  | _ => False
theorem call_tupleK (K : PySem.W.Frag) (hK : X.K = K := by rfl) : CallR X (.type "tuple") (rTupleZ K) := by
  subst hK
  refine callImp call_tuple_of fun xs H Q h => ?_
  unfold rTupleZ at h
  split at h
  · obtain ⟨ys, h⟩ := h
    exact ⟨_, ys, rfl, h⟩
  · exact h.elim
end
section
variable {K : PySem.W.Frag} {H : Hp} {Q : VK} {p : Addr} {bs : List Bool} {b : Bool}
theorem allL (h : SqL K H p (bs.map V.bl)) (e : bs.all id = b) (q : Q (.bl b) H) : rAllZ K (fun bs => bs.all id) [.ref p] H Q := ⟨bs, h, by
  show Q (.bl (bs.all id)) H
  rw [e]
  exact q⟩
theorem anyL (h : SqL K H p (bs.map V.bl)) (e : bs.any id = b) (q : Q (.bl b) H) : rAllZ K (fun bs => bs.any id) [.ref p] H Q := ⟨bs, h, by
  show Q (.bl (bs.any id)) H
  rw [e]
  exact q⟩
theorem bl_is {b b' : Bool} (e : b' = b) (q : Q (.bl b) H) : Q (.bl b') H := by
  rw [e]
  exact q
theorem inS {f : Bool → Bool} {c : Nat} {z : Str} (q : Q (.bl (f (decide (c ∈ z.cps.toList)))) H) : rInZ K f (.str ⟨#[c]⟩) (.str z) H Q := ⟨c, rfl, q⟩
end
theorem signIn1 (g : Nat → Bool) (c : Nat) : ([c] : List Nat).all g = g c := by
  rw [List.all_cons, List.all_nil, Bool.and_true]
/-- a reading of each sign of a text -/
def onSigns (g : Nat → Bool) : V → Bool
  | .str z => z.cps.toList.all g
  | _ => false
theorem onSigns1 (g : Nat → Bool) (c : Nat) : onSigns g (.str ⟨#[c]⟩) = g c := signIn1 g c
theorem signs_map (g : Nat → Bool) (x : Str) : (signsV x).map (fun v => V.bl (onSigns g v)) = (x.cps.toList.map g).map V.bl := by
  unfold signsV
  rw [List.map_map, List.map_map]
  refine List.map_congr_left fun c _ => ?_
  exact congrArg V.bl (onSigns1 g c)
theorem mem_signs {x : Str} {y : V} (h : y ∈ signsV x) : ∃ c, c ∈ x.cps.toList ∧ y = .str ⟨#[c]⟩ := by
  obtain ⟨c, hc, rfl⟩ := List.mem_map.mp h
  exact ⟨c, hc, rfl⟩
theorem iteN {c : Bool} {A B : Prop} (h1 : c = false → A) (h2 : c = true → B) : if (!c) = true then A else B := by
  cases c with
  | true => exact iteF (h2 rfl)
  | false => exact iteT (h1 rfl)
theorem map_get {α β : Type} {f : α → β} {l : List α} {i : Nat} {a : α} {b : β} (h : l[i]? = some a) (e : (l.map f)[i]? = some b) : b = f a := by
  rw [List.getElem?_map, h] at e
  exact (Option.some.inj e).symm
theorem mapb_get {α : Type} {f : α → Bool} {l : List α} {i : Nat} {a : α} {b : V} (h : l[i]? = some a) (e : ((l.map f).map V.bl)[i]? = some b) : b = .bl (f a) := by
  rw [List.getElem?_map, List.getElem?_map, h] at e
  exact (Option.some.inj e).symm
section
variable {K : PySem.W.Frag} {H : Hp} {Q : VK} {i j : Int} {x y : Str}
theorem ltI (q : Q (.bl (decide (i < j))) H) : rLtZ (.int i) (.int j) H Q := q
theorem leI (q : Q (.bl (decide (i ≤ j))) H) : rLeZ (.int i) (.int j) H Q := q
theorem gtI (q : Q (.bl (decide (j < i))) H) : rGtZ (.int i) (.int j) H Q := q
theorem geI (q : Q (.bl (decide (j ≤ i))) H) : rGeZ (.int i) (.int j) H Q := q
theorem geS (q : Q (.bl (!ltS x y)) H) : rGeZ (.str x) (.str y) H Q := q
theorem addI (q : Q (.int (i + j)) H) : rAddZ (.int i) (.int j) H Q := q
theorem addS (h : x.length + y.length ≤ sizeLine) (q : Q (.str (x ++ y)) H) : rAddZ (.str x) (.str y) H Q := ⟨h, q⟩
theorem mulI (h : CMul i j ∨ CMulW i j) (q : Q (.int (i * j)) H) : rMulZ (.int i) (.int j) H Q := ⟨h, q⟩
theorem lenS (h : x.length ≤ sizeLine) (q : Q (.int x.length) H) : rLenZ K [.str x] H Q := ⟨h, q⟩
end
theorem line5 {n : Nat} (h : n ≤ 100000) : n ≤ sizeLine := Nat.le_of_lt (small5 h)
/-! ### lists of texts compared -/
theorem dpA_strs (K : PySem.W.Frag) (H : Hp) : ∀ l : List Str, DpAll K H (l.map V.str) (l.map PyData.str)
  | [] => .nil
  | x :: l => .cons (.str x) (dpA_strs K H l)
theorem lay_strs : ∀ {l : List Str}, (∀ x ∈ l, okS x = true) → PyData.canLayAll0 (l.map PyData.str) = true
  | [], _ => by simp only [List.map_nil, PyData.canLayAll0]
  | x :: l, h => by
    have h1 : PyData.strOk x = true := by
      unfold PyData.strOk
      rw [← Array.all_toList]
      exact h x List.mem_cons_self
    simp only [List.map_cons, PyData.canLayAll0, PyData.canLay0, h1, lay_strs fun y m => h y (List.mem_cons_of_mem _ m), Bool.and_self]
theorem depth_strs : ∀ l : List Str, PyData.depthAll (l.map PyData.str) = 0
  | [] => by simp only [List.map_nil, PyData.depthAll]
  | x :: l => by simp only [List.map_cons, PyData.depthAll, PyData.depth, depth_strs l]; decide
theorem shaped_strs {l : List Str} (h : ∀ x ∈ l, okS x = true) : SeqAt.shaped (.list (l.map .str)) = true := by
  show (PyData.canLay0 (.list (l.map .str)) && decide (PyData.depth (.list (l.map .str)) ≤ 64)) = true
  rw [Bool.and_eq_true]
  refine ⟨by simp only [PyData.canLay0]; exact lay_strs h, decide_eq_true ?_⟩
  simp only [PyData.depth, depth_strs]
  omega
theorem eqv_strs : ∀ l m : List Str, PyData.eqvAll (l.map .str) (m.map .str) = decide (l = m)
  | [], [] => by simp [PyData.eqvAll]
  | [], _ :: _ => by simp [PyData.eqvAll]
  | _ :: _, [] => by simp [PyData.eqvAll]
  | x :: l, y :: m => by
    simp only [List.map_cons, PyData.eqvAll, PyData.eqv, eqv_strs l m]
    by_cases h : x = y
    · subst h
      simp
    · simp [h]
theorem eqStrs {K : PySem.W.Frag} {f : Bool → Bool} {H : Hp} {Q : VK} {p q : Addr} {l m : List Str} (h1 : SqL K H p (l.map V.str)) (h2 : SqL K H q (m.map V.str)) (o1 : ∀ x ∈ l, okS x = true) (o2 : ∀ x ∈ m, okS x = true)
    (k : Q (.bl (f (decide (l = m)))) H) : rEqZ K f (.ref p) (.ref q) H Q := by
  refine ⟨.list (l.map .str), .list (m.map .str), .lst h1 (dpA_strs K H l), .lst h2 (dpA_strs K H m), shaped_strs o1, shaped_strs o2, ?_⟩
  have e : PyData.eqv (.list (l.map .str)) (.list (m.map .str)) = decide (l = m) := by
    simp only [PyData.eqv]
    exact eqv_strs l m
  rw [e]
  exact k
/-- one sign as a text -/
def one (c : Nat) : Str := ⟨#[c]⟩
theorem signs_filter (g : Nat → Bool) (x : Str) : ((signsV x).filter fun v => onSigns g v).map (fun v => v) = ((x.cps.toList.filter g).map one).map V.str := by
  rw [List.map_id']
  unfold signsV
  rw [List.filter_map, List.map_map]
  have e : ((fun v => onSigns g v) ∘ fun c => V.str ⟨#[c]⟩) = g := by
    funext c
    exact onSigns1 g c
  rw [e]
  rfl
theorem filter_nil (g : Nat → Bool) (l : List Nat) : decide ((l.filter (fun c => !g c)).map one = ([] : List Str)) = l.all g := by
  rw [Bool.eq_iff_iff, decide_eq_true_iff, List.map_eq_nil_iff, List.filter_eq_nil_iff, List.all_eq_true]
  refine ⟨fun h c m => ?_, fun h c m => ?_⟩
  · have z := h c m
    cases e : g c with
    | true => rfl
    | false => rw [e] at z; exact absurd rfl z
  · rw [h c m]
    exact Bool.false_ne_true
theorem ok_one {x : Str} (h : okS x = true) {c : Nat} (m : c ∈ x.cps.toList) : okS (one c) = true := by
  show ([c] : List Nat).all _ = true
  rw [signIn1]
  exact List.all_eq_true.mp h c m
theorem ok_ones {x : Str} (h : okS x = true) (g : Nat → Bool) : ∀ y ∈ (x.cps.toList.filter g).map one, okS y = true := by
  intro y hy
  obtain ⟨c, hc, rfl⟩ := List.mem_map.mp hy
  exact ok_one h (List.mem_filter.mp hc).1
theorem nice_okS {R n : Nat} {x : Str} (h : Nice R n (.str x)) : okS x = true := by
  have z := h.ly (by simp only [PyData.hasDict])
  simp only [PyData.canLay0] at z
  unfold PyData.strOk at z
  rw [← Array.all_toList] at z
  exact z
theorem nice_mem {R n : Nat} {ds : List PyData} (h : Nice R n (.list ds)) (hd : PyData.hasDictAll ds = false) {x : Str} (m : PyData.str x ∈ ds) : okS x = true := by
  have z := h.ly (by simpa only [PyData.hasDict] using hd)
  simp only [PyData.canLay0] at z
  clear h hd
  induction ds with
  | nil => cases m
  | cons e ds ih =>
    simp only [PyData.canLayAll0, Bool.and_eq_true] at z
    rcases List.mem_cons.mp m with rfl | m
    · have y := z.1
      simp only [PyData.canLay0] at y
      unfold PyData.strOk at y
      rw [← Array.all_toList] at y
      exact y
    · exact ih m z.2
end Z

set_option maxRecDepth 100000
set_option maxHeartbeats 2000000
namespace Z
open PySem PySem.Spec PyProof.Rows L2
/-! ### cuts of lists -/
theorem cut_to (xs : List V) (j : Nat) : cutV xs none (some (j : Int)) = xs.take j := by
  unfold cutV
  rw [HT.sIx_nat, HT.sIx_none, List.drop_zero, Nat.sub_zero]
  by_cases h : j ≤ xs.length
  · rw [Nat.min_eq_left h]
  · rw [Nat.min_eq_right (by omega), List.take_of_length_le (Nat.le_refl _), List.take_of_length_le (by omega)]
theorem cut_from (xs : List V) (j : Nat) : cutV xs (some (j : Int)) none = xs.drop j := by
  unfold cutV
  rw [HT.sIx_nat, HT.sIx_none]
  by_cases h : j ≤ xs.length
  · rw [Nat.min_eq_left h, List.take_of_length_le (by rw [List.length_drop]; omega)]
  · rw [Nat.min_eq_right (by omega), List.drop_eq_nil_of_le (Nat.le_refl _), List.drop_eq_nil_of_le (by omega), List.take_nil]
theorem cut_mid (xs : List V) (i j : Nat) (h : i ≤ xs.length) : cutV xs (some (i : Int)) (some (j : Int)) = (xs.drop i).take (j - i) := by
  unfold cutV
  rw [HT.sIx_nat, HT.sIx_nat, Nat.min_eq_left h]
  by_cases z : j ≤ xs.length
  · rw [Nat.min_eq_left z]
  · rw [Nat.min_eq_right (by omega), List.take_of_length_le (by rw [List.length_drop]; omega), List.take_of_length_le (by rw [List.length_drop]; omega)]
section
variable {K : PySem.W.Frag} {H : Hp} {Q : VK} {a : Addr} {xs : List V} {lo hi : Option Int}
theorem slL (h : SqL K H a xs) (q : ∀ p, H p = none → Q (.ref p) (upd H p (.lst (cutV xs lo hi)))) : rSlZ K (.ref a) lo hi H Q := ⟨xs, h, q⟩
end
/-! ### comprehensions over a list that is just made -/
section
variable {K : PySem.W.Frag} {tl : TE} {xs : List V} {j : Nat} {vs : List Nat} {σ : L2.St} {tt : TT} {te : TE} {H : Hp} {Q : VK}
theorem comp_listF (g : V → V) (h0 : ∀ R : VK, (∀ p H1, Same H H1 → SqL K H1 p xs → R (.ref p) H1) → tl σ H R) (hz : xs.length ≤ 100000)
    (he : ∀ y, y ∈ xs → ∀ H', Same H H' → ∀ Q' : VK, (∀ H'', Same H' H'' → Q' (g y) H'') → te ((σ.set j none).set j (some y)) H' Q')
    (k : ∀ D H', H D = none → Same H H' → H' D = some (.lst (xs.map g)) → Q (.ref D) H') (hv : vs = [j] := by rfl) : tLc (iList K tl) (gName j) tYes te vs σ H Q := by
  refine h0 _ fun p H1 s1 q => ⟨p, rfl, ⟨xs, q⟩, ?_⟩
  exact lcM (J := Itl K p) (G := fun H => SqL K H p xs) (H := H1) (hv := hv) walk_list g (fun H' s' => s'.seq q) hz (fun x m H' s' => he x m H' (s1.trans s')) fun D H' h1 h2 h3 => k D H' (s1.free h1) (s1.trans h2) h3
end
/-! ### one of a list, drawn -/
section
variable {K : PySem.W.Frag} {ω : Bg} {H : Hp} {Q : VK} {E : XK} {p : Addr} {xs : List V} {m : Int}
theorem take_n (g : Bag K H ω) (h0 : 0 < m) (h1 : m ≤ 1000000) (q : ∀ (j : Nat) H', (j : Int) < m → Bag K H' ω → Go ω.b H H' → Q (.int j) H') : spTake K [.ref ω.b, .int m] H Q E :=
  ⟨ω, m, rfl, g, h0, by omega, fun v H' a b g' go => by
    obtain ⟨j, rfl⟩ := Int.eq_ofNat_of_zero_le a
    exact q j H' b g' go⟩
theorem take_at (g : Bag K H ω) (hp : H p = some (.lst xs)) (np : p ≠ ω.b) (hm : m = (xs.length : Int)) (h0 : 0 < m) (h1 : m ≤ 1000000) (q : ∀ x, x ∈ xs → ∀ H', Bag K H' ω → Go ω.b H H' → Q x H') :
    spTake K [.ref ω.b, .int m] H (fun y H2 => rIxZ K (.ref p) y H2 Q) E :=
  take_n g h0 h1 fun j H' hj g' go => by
    have h : j < xs.length := by omega
    exact ixN (sq_of (go _ _ np hp)) (List.getElem?_eq_getElem h) (q _ (List.getElem_mem h) H' g' go)
theorem bag_ne (g : Bag K H ω) (hp : H p = none) : p ≠ ω.b := fun e => by
  obtain ⟨o, z⟩ := g.some
  rw [e, z] at hp
  cases hp
end
theorem bag_mut {K : PySem.W.Frag} {ω : Bg} {H H' : Hp} {D : Addr} {o : HO} (g0 : Bag K H ω) (hD : H D = none) (g : Bag K H' ω) : Bag K (upd H' D o) ω := by
  have nb : D ≠ ω.b := bag_ne g0 hD
  obtain ⟨x0, x1, x2, g⟩ := g
  obtain ⟨y0, y1, y2, g0⟩ := g0
  refine ⟨x0, x1, x2, by rw [upd_ne (Ne.symm nb)]; exact g.at_, ?_, g.ne, g.h0, g.h1, g.h2, g.hc⟩
  rcases g0.cells with (q | ⟨u, q⟩) | q
  · exact seq_ne g.cells (ne_of_none q hD)
  · exact seq_ne g.cells (ne_of_none q hD)
  · exact Or.inr q
/-! ### comprehensions with draws, what is made told by one property -/
section
variable {K : PySem.W.Frag} {ω : Bg} {J : It} {xs : List V} {G : Hp → Prop} {j : Nat} {σ : L2.St} {te : TE} {H : Hp} {Q : VK}
theorem lcE {vs : List Nat} (w : Walk J xs.length G (YAt xs)) (B : Addr → Bool) (wd : Wd K B ω H) (P : Nat → V → Hp → Prop) (mono : ∀ i y G1 G2, Same G1 G2 → P i y G1 → P i y G2)
    (hG : ∀ H', Same (hd B H) (hd B H') → G H') (hz : xs.length ≤ 100000)
    (hs : ∀ i x B' H', xs[i]? = some x → (∀ a, B a = true → B' a = true) → Same (hd B H) (hd B' H') → Wd K B' ω H' → ∀ Q' : VK, (∀ y H4, Bag K H4 ω → Go ω.b H' H4 → P i y (hd B' H4) → Q' y H4) → te ((σ.set j none).set j (some x)) H' Q')
    (k : ∀ D acc H', H D = none → acc.length = xs.length → (∀ (i : Nat) y, acc[i]? = some y → P i y (hd (hide D B) H')) → Wd K B ω H' → Go ω.b H H' → H' D = some (.lst acc) → Q (.ref D) H') (hv : vs = [j] := by rfl) : LcAsk J (gName j) tYes te vs σ H Q := by
  subst hv
  intro D hD
  have nb : D ≠ ω.b := bag_ne wd.bag hD
  have bD : B D = false := wd.off hD
  refine lc_it w (fun i H' => ∃ acc, acc.length = i ∧ Wd K B ω H' ∧ Go ω.b H H' ∧ H' D = some (.lst acc) ∧ ∀ (n : Nat) y, acc[n]? = some y → P n y (hd (hide D B) H')) ⟨[], rfl, wd.same (same_new hD), Go.of (same_new hD), upd_same, fun n y z => by simp at z⟩ ?_ ?_ ?_
  · rintro i H' _ ⟨acc, _, wd', g', _, _⟩
    exact hG H' (g'.hd wd.hb)
  · rintro i x H1 H2 hi ⟨acc, hl, wd', g', hd', iv⟩ ⟨rfl, hx⟩
    refine ⟨wipe_set σ j _, ?_⟩
    have sm : Same (hd B H) (hd (hide D B) H2) := fun a o z => by
      obtain ⟨h1, h2⟩ := hd_some z
      have n : a ≠ D := ne_of_none h2 hD
      refine hd_of ?_ (g' a o (fun e => by rw [e, wd.hb] at h1; cases h1) h2)
      unfold hide
      rw [h1, decide_eq_false n]
      rfl
    dsimp only [tYes]
    rw [if_pos rfl]
    refine hs i x (hide D B) H2 hx (fun a z => by unfold hide; rw [z, Bool.or_true]) sm (wd'.more hd') _ fun y H4 z1 z2 z3 => ?_
    have d4 : H4 D = some (.lst acc) := z2 _ _ nb hd'
    refine ⟨acc, d4, small5 (by omega), acc ++ [y], by rw [List.length_append, hl]; rfl, ?_, ?_, upd_same, ?_⟩
    · have w4 : Wd K B ω H4 := wd'.go z1 z2
      refine ⟨?_, w4.hb, fun a z => ?_⟩
      · obtain ⟨x0, x1, x2, g⟩ := z1
        obtain ⟨y0, y1, y2, g0⟩ := wd.bag
        refine ⟨x0, x1, x2, by rw [upd_ne (Ne.symm nb)]; exact g.at_, ?_, g.ne, g.h0, g.h1, g.h2, g.hc⟩
        rcases g0.cells with (q | ⟨u, q⟩) | q
        · exact seq_ne g.cells (ne_of_none q hD)
        · exact seq_ne g.cells (ne_of_none q hD)
        · exact Or.inr q
      · by_cases e : a = D
        · rw [e, upd_same]
          exact Option.some_ne_none _
        · rw [upd_ne e]
          exact w4.hB a z
    · exact go_new (g'.trans z2) hD
    · intro n y' z
      refine mono _ _ _ _ (hide_same D B H4) ?_
      rw [List.getElem?_append] at z
      split at z
      · refine mono _ _ _ _ ?_ (iv n y' z)
        exact z2.hd (wd'.more hd').hb
      · rename_i h
        have e : n = acc.length := by
          have := (List.getElem?_eq_some_iff.mp z).1
          simp at this
          omega
        subst e
        rw [Nat.sub_self] at z
        cases z
        rw [hl]
        exact z3
  · rintro H' ⟨acc, hl, wd', g', hd', iv⟩
    exact k D acc H' hD hl iv wd' g' hd'
/-- over range(n), n told behind draws, too -/
theorem comp_rngD {ta : TA} {vs : List Nat} (B : Addr → Bool) (wd : Wd K B ω H) (P : Nat → V → Hp → Prop) (mono : ∀ i y G1 G2, Same G1 G2 → P i y G1 → P i y G2) (n : Nat) (hz : n ≤ 100000) (h0 : ∀ R : List V → Hp → Prop, R [.int (n : Int)] H → ta σ H R)
    (hs : ∀ (i : Nat) B' H', i < n → (∀ a, B a = true → B' a = true) → Same (hd B H) (hd B' H') → Wd K B' ω H' → ∀ Q' : VK, (∀ y H4, Bag K H4 ω → Go ω.b H' H4 → P i y (hd B' H4) → Q' y H4) → te ((σ.set j none).set j (some (.int (i : Int)))) H' Q')
    (k : ∀ D acc H', H D = none → acc.length = n → (∀ (i : Nat) y, acc[i]? = some y → P i y (hd (hide D B) H')) → Wd K B ω H' → Go ω.b H H' → H' D = some (.lst acc) → Q (.ref D) H') (hv : vs = [j] := by rfl) : tLc (iRng1 ta) (gName j) tYes te vs σ H Q := by
  unfold tLc iRng1
  refine h0 _ ⟨n, rfl, by omega, by omega, ?_⟩
  rw [Int.toNat_natCast]
  refine lcE (G := fun _ => True) (hv := hv) walk_rangeV B wd P mono (fun _ _ => trivial) (by rw [rangeV_len]; exact hz) ?_ ?_
  · intro i x B' H' hx hB s' w' Q' q
    obtain ⟨h1, rfl⟩ := rangeV_get hx
    rw [Int.zero_add]
    exact hs i B' H' h1 hB s' w' Q' q
  · intro D acc H' a b c d e f
    rw [rangeV_len] at b
    exact k D acc H' a b c d e f
end
/-! ### sep.join(texts) -/
section
variable {X : Cx} {o e : Expr} {to te : TE}
def rJoinZ (K : PySem.W.Frag) : V → List V → Hp → VK → Prop := fun x xs H Q => match x, xs with
  | .str a, [.ref p] => ∃ ys : List Str, (SqL K H p (ys.map V.str) ∨ SqT K H p (ys.map V.str)) ∧ (ys.map (·.length)).sum + ys.length * a.length ≤ 16777216 ∧ Q (.str (Txt.join a ys)) H
  | _, _ => False
theorem pe_joinK (K : PySem.W.Frag) {apos pos : Pos} (ho : PE X o to) (he : PE X e te) (hK : X.K = K := by rfl) (hs : starEach [e] X.env = [(false, eval e X.env)] := by rfl) (hbase : attributeBase o "join" X.env (eval o X.env) = eval o X.env := by rfl) (hline : (apos.endLine == pos.line) = true := by rfl) :
    PE X (.Call (.Attribute o "join" apos) [e] [] pos) (tM1 (rJoinZ K) to te) := by
  subst hK
  refine pe_m1 F.slot_str_join F.type_str_join (mtImp mt_join fun x xs H Q h => ?_) ho he hs hbase hline
  unfold rJoinZ at h
  split at h
  · obtain ⟨ys, h⟩ := h
    exact ⟨_, _, ys, rfl, rfl, h⟩
  · exact h.elim
theorem joinI {K : PySem.W.Frag} {H : Hp} {Q : VK} {a : Str} {p : Addr} {ys : List Str} (h : SqL K H p (ys.map V.str)) (z : (ys.map (·.length)).sum + ys.length * a.length ≤ 16777216) (q : Q (.str (Txt.join a ys)) H) : rJoinZ K (.str a) [.ref p] H Q := ⟨ys, .inl h, z, q⟩
end
theorem joinL_nil : ∀ ys : List (List Nat), TL.joinL [] ys = ys.flatten
  | [] => rfl
  | [p] => by simp [TL.joinL]
  | p :: q :: r => by
    show p ++ ([] ++ TL.joinL [] (q :: r)) = p ++ (q :: r).flatten
    rw [joinL_nil (q :: r), List.nil_append]
theorem join_0 (ys : List (List Nat)) : Txt.join "" (ys.map SX.S) = SX.S ys.flatten := by
  have e : ("" : Str) = SX.S [] := by decide
  rw [e, SX.join_S, joinL_nil]
theorem join_1s (cs : List Nat) : Txt.join "" (cs.map one) = SX.S cs := by
  have e : cs.map one = (cs.map fun c => [c]).map SX.S := by
    rw [List.map_map]
    rfl
  rw [e, join_0]
  have z : (cs.map fun c => [c]).flatten = cs := by
    clear e
    induction cs with
    | nil => rfl
    | cons c cs ih => simpa using ih
  rw [z]
theorem sum_ones (cs : List Nat) : ((cs.map one).map (·.length)).sum = cs.length := by
  induction cs with
  | nil => rfl
  | cons c cs ih =>
    simp only [List.map_cons, List.sum_cons, ih, List.length_cons]
    show 1 + cs.length = _
    omega
/-- items of one kind, as their list -/
theorem items_of {α : Type} {mk : α → V} {P : α → Prop} : ∀ {acc : List V}, (∀ y ∈ acc, ∃ c, y = mk c ∧ P c) → ∃ cs : List α, acc = cs.map mk ∧ ∀ c ∈ cs, P c
  | [], _ => ⟨[], rfl, fun _ m => nomatch m⟩
  | y :: acc, h => by
    obtain ⟨c, rfl, hc⟩ := h y List.mem_cons_self
    obtain ⟨cs, rfl, hcs⟩ := items_of fun z m => h z (List.mem_cons_of_mem _ m)
    refine ⟨c :: cs, rfl, fun d m => ?_⟩
    rcases List.mem_cons.mp m with rfl | m
    · exact hc
    · exact hcs d m
theorem ixS {K : PySem.W.Frag} {H : Hp} {Q : VK} {z : Str} {j : Nat} (hz : z.length ≤ sizeLine) (h : j < z.length) (q : ∀ c, c ∈ z.cps.toList → Q (.str (one c)) H) : rIxZ K (.str z) (.int (j : Int)) H Q := by
  have h2 : j < z.cps.toList.length := by simpa [Str.length] using h
  exact ⟨j, _, rfl, hz, atI_nat (List.getElem?_eq_getElem h2), q _ (List.getElem_mem h2)⟩
theorem mem_of_get {acc : List V} {P : V → Prop} (h : ∀ (i : Nat) y, acc[i]? = some y → P y) : ∀ y ∈ acc, P y := fun y m => by
  obtain ⟨i, hi⟩ := List.getElem?_of_mem m
  exact h i y hi
/-! ### ifs that only look -/
section
variable {c c1 c2 : TT} {a b : TS} {D : Ends} {σ : L2.St} {H : Hp} {b1 b2 : Bool}
theorem ifS_at (b1 : Bool) (h1 : ∀ R : Bool → Hp → Prop, R b1 H → c σ H R) (ha : b1 = true → a D σ H) (hb : b1 = false → b D σ H) : tIfS c a b D σ H := by
  refine h1 _ ?_
  cases b1 with
  | true => rw [if_pos rfl]; exact ha rfl
  | false => rw [if_neg Bool.false_ne_true]; exact hb rfl
theorem ifS_and (b1 b2 : Bool) (h1 : ∀ R : Bool → Hp → Prop, R b1 H → c1 σ H R) (h2 : b1 = true → ∀ R : Bool → Hp → Prop, R b2 H → c2 σ H R) (ha : b1 = true → b2 = true → a D σ H) (hb : b D σ H) : tIfS (tAnd c1 c2) a b D σ H := by
  refine h1 _ ?_
  cases b1 with
  | true =>
    rw [if_pos rfl]
    refine h2 rfl _ ?_
    cases b2 with
    | true => rw [if_pos rfl]; exact ha rfl rfl
    | false => rw [if_neg Bool.false_ne_true]; exact hb
  | false =>
    rw [if_neg Bool.false_ne_true]
    show if false = true then _ else _
    rw [if_neg Bool.false_ne_true]
    exact hb
end
section
variable {K : PySem.W.Frag} {H : Hp} {Q : VK} {p q : Addr} {xs ys : List V}
theorem catL (h1 : H p = some (.lst xs)) (h2 : H q = some (.lst ys)) (z : xs.length + ys.length ≤ 100000) (k : ∀ r, H r = none → Q (.ref r) (upd H r (.lst (xs ++ ys)))) : rAddZ (.ref p) (.ref q) H Q := ⟨xs, ys, h1, h2, line5 z, k⟩
end
/-! ### texts of few codes -/
/-- a text of a law's own signs: few codes -/
def okT (x : Str) : Bool := x.cps.toList.all fun c => decide (c < 128)
theorem okT_S {l : List Nat} (h : ∀ c ∈ l, c < 128) : okT (SX.S l) = true := List.all_eq_true.mpr fun c m => decide_eq_true (h c (by simpa using m))
theorem okT_mem {x : Str} (h : okT x = true) {c : Nat} (m : c ∈ x.cps.toList) : c < 128 := of_decide_eq_true (List.all_eq_true.mp h c m)
theorem okT_okS {x : Str} (h : okT x = true) : okS x = true := List.all_eq_true.mpr fun c m => decide_eq_true (Nat.lt_trans (okT_mem h m) (by decide))
theorem str_len (x : Str) : x.cps.toList.length = x.length := by simp [Str.length]
theorem okT_cat {x y : Str} (hx : okT x = true) (hy : okT y = true) : okT (x ++ y) = true := by
  have e : x ++ y = SX.S (x.cps.toList ++ y.cps.toList) := by
    rw [← SX.S_cat, SX.S_tl, SX.S_tl]
  rw [e]
  refine okT_S fun c m => ?_
  rcases List.mem_append.mp m with m | m
  · exact okT_mem hx m
  · exact okT_mem hy m
theorem lenCat (x y : Str) : (x ++ y).length = x.length + y.length := by
  have e : x ++ y = SX.S (x.cps.toList ++ y.cps.toList) := by
    rw [← SX.S_cat, SX.S_tl, SX.S_tl]
  rw [e, SX.S_len, List.length_append, str_len, str_len]
theorem to_S (x : Str) {i : Int} (h : 0 ≤ i) : Txt.slice x none (some i) = SX.S (x.cps.toList.take i.toNat) := by
  have z := SX.slice_to (a := x.cps.toList) h
  rwa [SX.S_tl] at z
theorem from_S (x : Str) {i : Int} (h : 0 ≤ i) : Txt.slice x (some i) none = SX.S (x.cps.toList.drop i.toNat) := by
  have z := SX.slice_from (a := x.cps.toList) h
  rwa [SX.S_tl] at z
theorem okT_to {x : Str} (hx : okT x = true) {i : Int} (h : 0 ≤ i) : okT (Txt.slice x none (some i)) = true := by
  rw [to_S x h]
  exact okT_S fun c m => okT_mem hx (List.mem_of_mem_take m)
theorem okT_from {x : Str} (hx : okT x = true) {i : Int} (h : 0 ≤ i) : okT (Txt.slice x (some i) none) = true := by
  rw [from_S x h]
  exact okT_S fun c m => okT_mem hx (List.mem_of_mem_drop m)
theorem len_to (x : Str) {i : Int} (h : 0 ≤ i) : (Txt.slice x none (some i)).length = min i.toNat x.length := by
  rw [to_S x h, SX.S_len, List.length_take, str_len]
theorem len_from (x : Str) {i : Int} (h : 0 ≤ i) : (Txt.slice x (some i) none).length = x.length - i.toNat := by
  rw [from_S x h, SX.S_len, List.length_drop, str_len]
theorem Wd.one {K : PySem.W.Frag} {ω : Bg} {H : Hp} (g : Bag K H ω) : Wd K (fun q => decide (q = ω.b)) ω H := ⟨g, decide_eq_true rfl, fun a z e => by
  obtain ⟨o, h⟩ := g.some
  rw [of_decide_eq_true z, h] at e
  cases e⟩
theorem off_one {ω : Bg} {p : Addr} (h : p ≠ ω.b) : (fun q => decide (q = ω.b)) p = false := decide_eq_false h
/-! ### dicts and lists that are shown -/
theorem nice_dic0 (R n : Nat) : Nice R (n + 1) (.dict []) := ⟨by simp only [PyData.showable, PyData.showableKv], by simp only [PyData.leavesShort, PyData.leavesShortKv], by simp only [PyData.weight, PyData.weightKv]; omega, by simp only [PyData.depth, PyData.depthKv]; omega, fun z => by simp [PyData.hasDict] at z⟩
theorem nice_dic1 {R R' n : Nat} {k : Str} {d : PyData} (hk : Nice R n (.str k)) (h : Nice R n d) (e : 2 * R + 2 ≤ R') : Nice R' (n + 1) (.dict [(.str k, d)]) := by
  obtain ⟨a1, a2, a3, a4, _⟩ := hk
  obtain ⟨b1, b2, b3, b4, _⟩ := h
  refine ⟨by simp only [PyData.showable, PyData.showableKv, a1, b1, Bool.and_self] at *, ?_, ?_, ?_, fun z => by simp [PyData.hasDict] at z⟩
  · simp only [PyData.leavesShort, PyData.leavesShortKv, b2, Bool.and_true]
    simpa only [PyData.leavesShort] using a2
  · simp only [PyData.weight, PyData.weightKv] at *
    omega
  · simp only [PyData.depth, PyData.depthKv] at *
    omega
/-- what a for asks, folded -/
def ForAsk (J : It) (g : TG) (tb : TS) (D : Ends) (σ : L2.St) (H : Hp) : Prop := ∃ W : Nat → Nat → L2.St → Hp → Prop, (∃ m, W 0 m σ H) ∧ ∀ i m σ H, W i m σ H →
  (J.stop i H ∧ D.nx σ H) ∨ (J.go i H ∧ ∃ N : L2.St → Hp → Prop, (∀ σ' H', N σ' H' → ∃ m', m' < m ∧ W (i + 1) m' σ' H') ∧ ∀ x H', J.yld i H x H' → g x σ H' fun σ2 H2 => tb { D with nx := N, ct := N, bk := D.nx } σ2 H2)
theorem for_rng {ta : TA} {g : TG} {tb : TS} {D : Ends} {σ : L2.St} {H : Hp} (h : ta σ H fun vs H1 => ∃ j : Int, vs = [.int j] ∧ -(2 ^ 62) ≤ j ∧ j < 2 ^ 62 ∧ ForAsk (Itr 0 j.toNat) g tb D σ H1) : tFor (iRng1 ta) g tb D σ H := h
theorem for_lst {K : PySem.W.Frag} {tl : TE} {g : TG} {tb : TS} {D : Ends} {σ : L2.St} {H : Hp} (h : tl σ H fun x H1 => ∃ p, x = .ref p ∧ (∃ xs, SqL K H1 p xs) ∧ ForAsk (Itl K p) g tb D σ H1) : tFor (iList K tl) g tb D σ H := h
end Z

set_option maxRecDepth 100000
set_option maxHeartbeats 4000000
namespace Z
open PySem PySem.Spec PySem.Builtin PySem.Builtin.Str PyProof.Rows L2
/-! ### enumerate(a tuple), enumerate(a text) -/
/-- n items, each with its place in a new pair -/
def JG (n : Nat) (Y : Nat → V → Prop) (G : Hp → Prop) : It :=
  ⟨fun i H => G H ∧ i < n, fun i H v H' => ∃ T x, v = .ref T ∧ H T = none ∧ H' = upd H T (.tup [.int (i : Nat), x]) ∧ Y i x, fun i H => G H ∧ n ≤ i⟩
theorem turn_enumG {P : Program} {w : World} {K : PySem.W.Frag} {elts : List Expr} {kk : Nat} {tpos : Pos} {titer : Nat → Heap → Prop} {n : Nat} {Y : Nat → V → Prop} {G : Hp → Prop} {e it : Addr}
    (hk : ∀ i h h', titer i h → (∀ o, h.get? it = some o → h'.get? it = some o) → titer i h')
    (ho : ∀ i h, titer i h → ∃ o, h.get? it = some o ∧ ∀ v, o.data ≠ .cell v)
    (hD : ∀ (X : Cx) (pins : List (Addr × Obj)) (σ : L2.St) (H : Hp) (s : Shared), X.prog = P → X.w = w → X.K = K → X.calm = true → Inv X pins σ H s → G H → ∃ (fp2 : List Addr) (Pv : Nat → Value → Prop) (St : Nat → Heap → Prop),
      Draws P w X.A.in1 it fp2 n Pv St ∧ (∀ i, titer i s.heap → St i s.heap) ∧ (∀ i h, St i h → titer i h) ∧ e ∉ fp2 ∧ ∀ i u, Pv i u → ∃ x, RelV x u ∧ Y i x) :
    Turn P w K (.Tuple elts kk tpos) (JG n Y G) [e, it] e (fun i h => (∃ old, IsEnum h e it ((i : Nat) : Int) old) ∧ titer i h ∧ e ≠ it ∧ i ≤ n) where
  mem := by simp
  obj := fun i h st b hb => by
    obtain ⟨⟨old, he⟩, ti, _, _⟩ := st
    have e' : b = e ∨ b = it := by simpa using hb
    rcases e' with z | z
    · rw [z]; exact ⟨_, he, fun v q => nomatch q⟩
    · rw [z]; exact ho i h ti
  keep := fun i h h' st k => let ⟨⟨old, he⟩, hi, hne, hle⟩ := st; ⟨⟨old, k e (by simp) _ he⟩, hk i h h' hi fun o q => k it (by simp) o q, hne, hle⟩
  item := by
    intro X hP hw hK hc i pins s σ H E I hf st hg
    obtain ⟨⟨old, he⟩, hit, hne, _⟩ := st
    obtain ⟨hG, hlt⟩ := hg
    obtain ⟨fp2, Pv, St, D, d1, d2, d3, d4⟩ := hD X pins σ H s hP hw hK hc I hG
    subst hP hw hK
    have hel : e < s.heap.objs.size := Heap.lt_size he
    have hil : it < s.heap.objs.size := by obtain ⟨o, q, _⟩ := ho i _ hit; exact Heap.lt_size q
    refine wpAny_pyNext_enum_itemD D he (d1 i hit) hlt hne d3 fun u h' tk hPu ho' hst' hT hsz hk' => ?_
    obtain ⟨x, ru, hY⟩ := d4 i u hPu
    refine ⟨_, rfl, wpAny_letOwnedTupleGo_enum (s := { s with heap := h', toks := tk + 1 }) ho' fun h'' he' sb => ?_⟩
    have hT2 : h''.get? s.heap.objs.size = some { cls := .type "tuple", data := .seq #[.int i tk, u] } := (sb.2 _ (Nat.ne_of_gt hel)).trans hT
    have new : ObjOk X.prog X.w (upd H s.heap.objs.size (.tup [.int (i : Nat), x])) h'' s.heap.objs.size (.tup [.int (i : Nat), x]) :=
      ⟨by show 2 ≤ sizeLine; decide, [.int i tk, u], .cons ⟨_, rfl⟩ (.cons ru .nil), ⟨_, hT2, rfl, _, rfl⟩⟩
    have I1 : Inv X pins σ (upd H s.heap.objs.size (.tup [.int (i : Nat), x])) { s with heap := h'', toks := tk + 1 } :=
      I.turnedNew (ch := [e, it]) (fun b ob hb q => (sb.2 b (fun z => hb (by simp [z]))).trans (hk' b ob (fun z => hb (by simp [z])) (fun z => hb (by simp [z])) q)) hf (Nat.le_refl _) new
    refine ⟨.ref s.heap.objs.size, _, I1, rfl, ⟨_, x, rfl, I.hok.fresh (Nat.le_refl _), rfl, hY⟩, ⟨⟨u, ?_⟩, hk (i + 1) h' h'' (d2 _ _ hst') (fun o q => (sb.2 it (Ne.symm hne)).trans q), hne, hlt⟩, fun b hb => ?_⟩
    · have e1 : ((i + 1 : Nat) : Int) = (i : Int) + 1 := by omega
      rw [e1]; exact he'
    · have hb' : b < s.heap.objs.size := by
        have e' : b = e ∨ b = it := by simpa using hb
        rcases e' with z | z
        · rw [z]; exact hel
        · rw [z]; exact hil
      rw [upd_ne (Nat.ne_of_lt hb')]
      exact (hf b hb).1
  done := by
    intro X hP hw hK hc i pins s σ H E I hf st hg
    obtain ⟨⟨old, he⟩, hit, hne, hle⟩ := st
    obtain ⟨hG, hge⟩ := hg
    obtain ⟨fp2, Pv, St, D, d1, d2, d3, d4⟩ := hD X pins σ H s hP hw hK hc I hG
    have e1 : i = n := Nat.le_antisymm hle hge
    subst e1
    subst hP hw hK
    obtain ⟨f0, f1, f2, f3, f4, f5⟩ := hf it (by simp)
    exact wpAny_pyNext_enum_endD D he (d1 i hit) fun h' eb => ⟨rfl, I.turned (t' := s.toks) (fun b o hb q => eb b o hb q) f0 f1 f3 f4 f5⟩
  self := fun A i s Q E st h => let ⟨⟨_, he⟩, _⟩ := st; wpAny_pyIter_enum he h
/-- over a text -/
def iEnumS (ta : TA) : TI := fun σ H R => ta σ H fun vs H1 => ∃ z : Str, vs = [.str z] ∧ R (JG z.length (fun i x => (signsV z)[i]? = some x) fun _ => True) H1
theorem fp_two {X : Cx} {pins : List (Addr × Obj)} {σ : L2.St} {H : Hp} {s : Shared} (I : Inv X pins σ H s) : ∀ b ∈ [s.heap.objs.size + 1, s.heap.objs.size], FpOk X pins H b := fun b hb => by
  have e' : b = s.heap.objs.size + 1 ∨ b = s.heap.objs.size := by simpa using hb
  have hle : s.heap.objs.size ≤ b := by
    rcases e' with z | z
    · rw [z]; exact Nat.le_add_right _ _
    · rw [z]; exact Nat.le_refl _
  exact I.fpOk hle (I.hok.fresh hle)
theorem pi_enumS {X : Cx} {e : Expr} {ta : TA} {p pos tpos : Pos} {elts : List Expr} {kk : Nat} (hg : Gl X "enumerate") (hm : X.mg "enumerate" = none) (ha : PA X [e] ta) (hs : starEach [e] X.env = [(false, eval e X.env)] := by rfl) :
    PI X (.Tuple elts kk tpos) (.Call (.Name "enumerate" p) [e] [] pos) (iEnumS ta) := by
  refine ⟨fun pins s σ H R I h => ?_⟩
  refine Call_ (ld_blt I hg hm boot_enumerate (PyProof.Rows.callWith_type1 (thn (ha.run pos pins s σ H _ I h) fun us s1 ⟨vs, H1, I1, r1, q1⟩ => ?_) hs rfl))
  obtain ⟨z, ex, q⟩ := q1
  subst ex
  cases r1 with
  | cons r rr =>
    cases rr
    obtain ⟨t, rfl⟩ := r
    refine call_enumerate_str fun h' he hit hsz hk => wpAny_pyIter_enum he ?_
    have I2 : Inv X pins σ H1 { s1 with heap := h' } := I1.kept (t' := s1.toks) hk
    refine ⟨s1.heap.objs.size + 1, [s1.heap.objs.size + 1, s1.heap.objs.size], _, _, H1, rfl, I2, turn_enumG (titer := fun i h => h.IsStrIter s1.heap.objs.size (strIterType z) z t i) ?_ ?_ ?_, ⟨⟨.none, he⟩, hit, Nat.succ_ne_self _, Nat.zero_le _⟩, fp_two I1, q⟩
    · exact fun i h h' ⟨o, a, b⟩ k => ⟨o, k o a, b⟩
    · exact fun i h ⟨o, a, b, d⟩ => ⟨o, a, fun v q => by rw [d] at q; cases q⟩
    · intro X' pins' σ' H' s' _ _ _ hc I' _
      refine ⟨[s1.heap.objs.size], _, _, Draws.text (A := X'.A.in1) (I'.ok.hd hc) s1.heap.objs.size z t, fun i h => h, fun i h x => x, by simp, ?_⟩
      rintro i u ⟨c, v, hcc, rfl⟩
      refine ⟨.str ⟨#[c]⟩, ⟨_, rfl⟩, ?_⟩
      unfold signsV
      rw [List.getElem?_map, Array.getElem?_toList, hcc]
      rfl
/-- over a tuple -/
def iEnumT (K : PySem.W.Frag) (ta : TA) : TI := fun σ H R => ta σ H fun vs H1 => ∃ a xs, vs = [.ref a] ∧ SqT K H1 a xs ∧ R (JG xs.length (fun i x => xs[i]? = some x) fun H => SqT K H a xs) H1
theorem meets_enum1 {v : Value} {o : Obj} {H : Heap → Prop} (B : Begins v o H) :
    Meets (Builtin.«enumerate.__new__» ⟨[.type "enumerate", v], []⟩) (fun _ R s => H s.heap ∧
      R (.ok (.ret (.ref (s.heap.push o).objs.size))) { s with heap := (s.heap.push o).push { cls := .type "enumerate", data := .fields #[.none, .bool false, .ref s.heap.objs.size, rawInt 0, .none, .none] } }) :=
  .of_wp fun prog w A R s h => by
    obtain ⟨hp, g, d, tk, os⟩ := s; obtain ⟨h1, h⟩ := h
    have hsub := sub_enumerate
    have q1 : ∀ {A' : Around} {E : Value → Shared → Prop} {Q : Value → Shared → Prop}, Q (.ref hp.objs.size) ⟨hp.push o, g, d, tk, os⟩ → wpAny (model prog w) A' (pyIter v) Q E ⟨hp, g, d, tk, os⟩ :=
      fun q => B.iter prog w _ _ ⟨hp, g, d, tk, os⟩ _ h1 q
    wp_walk using q1
    refine wpAny_stack_any fun st => wpAny_pure ?_
    split
    · rename_i c _ _ _ _ _
      cases (c == Value.type "enumerate")
      · wp_walk using q1
        exact ⟨_, rfl, h⟩
      · wp_walk using q1
        exact ⟨_, rfl, h⟩
    · wp_walk using q1
      exact ⟨_, rfl, h⟩
theorem call_enum1 {prog : Program} {w : World} {A : Around} {E : Value → Shared → Prop} {s : Shared} {v : Value} {o : Obj} {H : Heap → Prop} {Q : Value → Shared → Prop} (B : Begins v o H) (h1 : H s.heap)
    (h : ∀ h', IsEnum h' (s.heap.objs.size + 1) s.heap.objs.size 0 .none → h'.get? s.heap.objs.size = some o → h'.objs.size = s.heap.objs.size + 2 →
      (∀ b o, s.heap.get? b = some o → h'.get? b = some o) → Q (.ref (s.heap.objs.size + 1)) { s with heap := h' }) :
    wpAny (model prog w) A (call (.type "enumerate") [v]) Q E s := by
  refine callType_new F.called_enumerate (by decide) (F.typeCall_enumerate_1 _) (F.newCall_enumerate_1 _) (fun obj => F.args_object_init_2 obj _) F.entry_enumerate_new
    (meets_enum1 B) ⟨h1, ?_⟩
  have hz : (s.heap.push o).objs.size = s.heap.objs.size + 1 := Heap.size_push ..
  show _ ∧ _
  rw [hz]
  have he : IsEnum ((s.heap.push o).push { cls := .type "enumerate", data := .fields #[.none, .bool false, .ref s.heap.objs.size, rawInt 0, .none, .none] }) (s.heap.objs.size + 1) s.heap.objs.size 0 .none := by
    have := Heap.get?_push_size (s.heap.push o) (o := { cls := .type "enumerate", data := .fields #[.none, .bool false, .ref s.heap.objs.size, rawInt 0, .none, .none] }) rfl
    rw [hz] at this; exact this
  refine ⟨⟨_, he, rfl⟩, h _ he (Heap.get?_push_of_some _ (Heap.get?_push_size _ B.free)) (by rw [Heap.size_push, hz]) fun b o x => Heap.get?_push_of_some _ (Heap.get?_push_of_some _ x)⟩
theorem pi_enumT {X : Cx} {e : Expr} {ta : TA} {p pos tpos : Pos} {elts : List Expr} {kk : Nat} (hg : Gl X "enumerate") (hm : X.mg "enumerate" = none) (ha : PA X [e] ta) (hs : starEach [e] X.env = [(false, eval e X.env)] := by rfl) :
    PI X (.Tuple elts kk tpos) (.Call (.Name "enumerate" p) [e] [] pos) (iEnumT X.K ta) := by
  refine ⟨fun pins s σ H R I h => ?_⟩
  refine Call_ (ld_blt I hg hm boot_enumerate (PyProof.Rows.callWith_type1 (thn (ha.run pos pins s σ H _ I h) fun us s1 ⟨vs, H1, I1, r1, q1⟩ => ?_) hs rfl))
  obtain ⟨a, xs, ex, hq, q⟩ := q1
  subst ex
  cases r1 with
  | cons r rr =>
    cases rr
    cases r
    obtain ⟨its, rv, p', hz⟩ := I1.tuple hq
    have hal : a < s1.heap.objs.size := by obtain ⟨_, e, _⟩ := p'; exact Heap.lt_size e
    refine call_enum1 (begins_tuple a its.toArray) p' fun h' he hit hsz hk => wpAny_pyIter_enum he ?_
    have I2 : Inv X pins σ H1 { s1 with heap := h' } := I1.kept (t' := s1.toks) hk
    refine ⟨s1.heap.objs.size + 1, [s1.heap.objs.size + 1, s1.heap.objs.size], _, _, H1, rfl, I2, turn_enumG (titer := fun i h => h.IsTupleIter s1.heap.objs.size a i) ?_ ?_ ?_, ⟨⟨.none, he⟩, ⟨_, hit, rfl, rfl⟩, Nat.succ_ne_self _, Nat.zero_le _⟩, fp_two I1, q⟩
    · exact fun i h h' t k => t.at k
    · exact fun i h ⟨o, a, b, d⟩ => ⟨o, a, fun v q => by rw [d] at q; cases q⟩
    · intro X' pins' σ' H' s' _ _ hK hc I' hG
      rw [← hK] at hG
      obtain ⟨its', rv', p2, _⟩ := I'.tuple hG
      have hl := rv'.length
      have D := Draws.tuple (prog := X.prog) (w := X.w) (A := X'.A.in1) (I'.ok.hd hc) s1.heap.objs.size a (Nat.ne_of_lt hal) its'.toArray
      have e1 : its'.toArray.size = xs.length := by rw [List.size_toArray, hl]
      rw [e1] at D
      refine ⟨_, _, _, D, fun i h => ⟨h, p2⟩, fun i h x => x.1, ?_, ?_⟩
      · intro hm
        have e' : s1.heap.objs.size + 1 = s1.heap.objs.size ∨ s1.heap.objs.size + 1 = a := by simpa using hm
        rcases e' with e' | e'
        · exact Nat.succ_ne_self _ e'
        · rw [← e'] at hal
          exact Nat.lt_irrefl _ (Nat.lt_trans (Nat.lt_succ_self _) hal)
      · intro i u hu
        have hu' : its'[i]? = some u := by simpa using hu
        have hi : i < its'.length := (List.getElem?_eq_some_iff.mp hu').1
        have hx : xs[i]? = some xs[i] := List.getElem?_eq_getElem (by omega)
        obtain ⟨u2, h2, r2⟩ := rv'.get hx
        rw [hu'] at h2
        cases h2
        exact ⟨_, r2, hx⟩
/-! ### what is never reached -/
theorem ps_noway {X : Cx} {st : Stmt} : PS X st (fun _ _ _ => False) := ⟨fun _ _ _ _ _ _ h => h.elim⟩
theorem pe_noway {X : Cx} {e : Expr} : PE X e (fun _ _ _ => False) := ⟨fun _ _ _ _ _ _ h => h.elim⟩
/-! ### items with their places, walked -/
theorem walk_G {n : Nat} {Y : Nat → V → Prop} {G : Hp → Prop} : Walk (JG n Y G) n G (fun i H v H' => ∃ T x, v = .ref T ∧ H T = none ∧ H' = upd H T (.tup [.int (i : Nat), x]) ∧ Y i x) :=
  ⟨fun _ _ hi q => ⟨q, hi⟩, fun _ q => ⟨q, Nat.le_refl _⟩, fun _ _ _ _ _ _ y => y⟩
theorem for_G {n : Nat} {Y : Nat → V → Prop} {G : Hp → Prop} {g : TG} {tb : TS} {D : Ends} {σ : L2.St} {H : Hp} (Pv : Nat → L2.St → Hp → Prop) (h0 : Pv 0 σ H) (hG : ∀ i σ H, i ≤ n → Pv i σ H → G H)
    (hs : ∀ i σ H T x, i < n → Pv i σ H → H T = none → Y i x → g (.ref T) σ (upd H T (.tup [.int (i : Nat), x])) fun σ2 H2 => tb { D with nx := Pv (i + 1), ct := Pv (i + 1), bk := D.nx } σ2 H2) (hd : ∀ σ H, Pv n σ H → D.nx σ H) :
    ForAsk (JG n Y G) g tb D σ H := by
  refine ⟨fun i m σ H => m = n - i ∧ i ≤ n ∧ Pv i σ H, ⟨n, by simp, Nat.zero_le _, h0⟩, ?_⟩
  rintro i m σ H ⟨rfl, hi, p⟩
  have q := hG i σ H hi p
  by_cases hlt : i < n
  · refine .inr ⟨⟨q, hlt⟩, Pv (i + 1), fun σ' H' p' => ⟨n - (i + 1), by omega, rfl, hlt, p'⟩, fun v H' y => ?_⟩
    obtain ⟨T, x, rfl, hT, rfl, hy⟩ := y
    exact hs i σ H T x hlt p hT hy
  · have e : i = n := by omega
    subst e
    exact .inl ⟨⟨q, Nat.le_refl _⟩, hd σ H p⟩
/-! ### defs with a star -/
structure Cr (P : Program) (w : World) (K : PySem.W.Frag) (mg : Str → Option Value) (base : Heap) (CX : CXT) (k : Nat) (x : Str) (sp : Sp) : Prop where
  ex : ∃ (f : Addr), FnR P w K mg base CX k f sp ∧ mg x = some (.ref f) ∧ PySem.W.keepIn K (.ref f) = true
def tCallR (sp : Sp) (E : XK) (t : TA) : TE := fun σ H Q => t σ H fun vs H1 => sp vs H1 Q E
theorem pe_cr {X : Cx} {k j : Nat} {x : Str} {sp : Sp} {CX : CXT} {E : XK} {p pos : Pos} {e : Expr} {es : List Expr} {t : TA} (c : Cr X.prog X.w X.K X.mg X.base CX k x sp) (hr : Room j X.A) (hk : k ≤ j) (hg : Gl X x) (hx : Passes CX X E) (ha : PA X (e :: es) t)
    (hdb : (x == ("__debug__" : Str)) = false := by decide) (he : starEach (e :: es) X.env = (false, eval e X.env) :: starEach es X.env := by rfl) (hpl : (backTo pos (starEach es X.env)).any (·.1) = false := by rfl) :
    PE X (.Call (.Name x p) (e :: es) [] pos) (tCallR sp E t) := by
  obtain ⟨f, F, hm, kp⟩ := c.ex
  refine ⟨fun pins s σ H Q I h => ?_⟩
  refine wpAny_Call_Name_kw (ld_glob I hg hm ?_ hdb)
  exact PySem.W.callWith_K (h₀ := X.base) I.ok.mod.kin kp (thn (ha.run pos pins s σ H _ I h) fun us s1 ⟨vs, H1, I1, r, q⟩ => ⟨I1.kIn, wpAny_call (run_fnR (F.mono hk) hr hx I1 r q)⟩) he hpl
/-- def f( *v): what is handed in is a new tuple -/
theorem star0 {CX : CXT} {P : Program} {w : World} {K : PySem.W.Frag} {mg : Str → Option Value} {base : Heap} {k : Nat} {f : Addr} {fd : FuncData} {name qual : Str} {params : Arguments} {body : List Stmt} {scope : Scope} {N : List Str} {pv : Str} {sp : Sp}
    (F : FunD K name qual params body scope [] [] f fd) (S : FnScope N [pv] scope) (hCX : StX.CXUp CX)
    (hB : ∀ (kV doc pm : Value) (an : Option Addr) (cdv ct : Value) (rest : List Value), bindArgs (PySem.W.fnOf name qual params body scope .none kV doc pm an cdv ct) ⟨rest, []⟩ = (newTuple rest >>= fun t => pure [(pv, t)]))
    (hb : ∀ (cdv : Value) (A : Around) (outer : List Env) (s : Shared) (H : Hp) (vs : List V) (Q : VK) (E : XK), Room k (A.deeper (envOfC qual scope s.heap.objs.size f cdv)) → sp vs H Q E →
      ∃ t, PSs (cxOf CX P w K mg base N qual scope f cdv A outer s H E) body t ∧ t { nx := fun _ H' => Q .non H', rt := Q } (start N vs) H) :
    FnR P w K mg base CX (k + 1) f (fun vs H Q E => vs.length ≤ sizeLine ∧ ∀ p, H p = Option.none → sp [V.ref p] (upd H p (.tup vs)) Q E) := by
  obtain ⟨oc, od, dV, kV, doc, pm, an, cdv, ct, osl, rfl, lk, hcd, hD, _⟩ := F.ex
  have hdV : dV = .none := by
    rcases hD with ⟨_, e⟩ | ⟨e, _⟩
    · exact e
    · exact absurd rfl e
  subst hdV
  refine FnR.imp (StX.fn_star (ps := []) (pv := pv) lk hcd S hCX ?_ (hb cdv)) ?_
  · intro us rest hl
    cases us with
    | nil => exact hB kV doc pm an cdv ct rest
    | cons a us => cases hl
  · rintro vs H Q E ⟨h1, h2⟩
    exact ⟨[], vs, rfl, rfl, h1, h2⟩
theorem for_enT {K : PySem.W.Frag} {ta : TA} {g : TG} {tb : TS} {D : Ends} {σ : L2.St} {H : Hp} (h : ta σ H fun vs H1 => ∃ a xs, vs = [.ref a] ∧ SqT K H1 a xs ∧ ForAsk (JG xs.length (fun i x => xs[i]? = some x) fun H => SqT K H a xs) g tb D σ H1) : tFor (iEnumT K ta) g tb D σ H := h
theorem gpair {K : PySem.W.Frag} {n : Nat} {i j : Nat} {T : Addr} {x y : V} {σ : L2.St} {H : Hp} {Q : L2.St → Hp → Prop} (hn : n = 2) (h : H T = some (.tup [x, y])) (q : Q ((σ.set i (some x)).set j (some y)) H) : gTup K n (gCons (gName i) (gCons (gName j) gNil)) (.ref T) σ H Q :=
  ⟨T, [x, y], rfl, st_of h, hn.symm, x, [y], rfl, y, [], rfl, rfl, q⟩
theorem pg_tupK {X : Cx} {es : List Expr} {kk : Nat} {pos : Pos} {t : TGs} (K : PySem.W.Frag) (n : Nat) (h : PGs X es t) (hK : X.K = K := by rfl) (hc : X.calm = true := by rfl)
    (hn : (assignEach es X.env).length = n := by rfl) (hst : (assignEach es X.env).findIdx? (·.1) = none := by rfl) : PG X (.Tuple es kk pos) (gTup K n t) := by
  subst hK
  exact pg_tup hc h hn hst
theorem pi_enumK {X : Cx} {e : Expr} {ta : TA} {p pos tpos : Pos} {elts : List Expr} {kk : Nat} (K : PySem.W.Frag) (hg : Gl X "enumerate") (hm : X.mg "enumerate" = none) (ha : PA X [e] ta) (hK : X.K = K := by rfl) (hs : starEach [e] X.env = [(false, eval e X.env)] := by rfl) :
    PI X (.Tuple elts kk tpos) (.Call (.Name "enumerate" p) [e] [] pos) (iEnum K ta) := by
  subst hK
  exact pi_enum hg hm ha hs
/-! ### min, max of a list of ints -/
section
variable {X : Cx}
theorem call_minK (K : PySem.W.Frag) (hc : X.calm = true := by rfl) (hK : X.K = K := by rfl) : CallR X (.builtin "min") (rMin K) := by subst hK; exact cr_min hc
theorem call_maxK (K : PySem.W.Frag) (hc : X.calm = true := by rfl) (hK : X.K = K := by rfl) : CallR X (.builtin "max") (rMax K) := by subst hK; exact cr_max hc
end
section
variable {K : PySem.W.Frag} {H : Hp} {Q : VK} {a : Addr} {ns : List Int} {n : Int}
theorem minI (h : SqL K H a (ns.map V.int)) (hm : n ∈ ns) (hl : ∀ y ∈ ns, n ≤ y) (q : Q (.int n) H) : rMin K [.ref a] H Q := ⟨a, ns, rfl, h, List.length_pos_of_mem hm, fun m m1 m2 => by
  have e : m = n := Int.le_antisymm (m2 n hm) (hl m m1)
  rw [e]
  exact q⟩
theorem maxI (h : SqL K H a (ns.map V.int)) (hm : n ∈ ns) (hl : ∀ y ∈ ns, y ≤ n) (q : Q (.int n) H) : rMax K [.ref a] H Q := ⟨a, ns, rfl, h, List.length_pos_of_mem hm, fun m m1 m2 => by
  have e : m = n := Int.le_antisymm (hl m m1) (m2 n hm)
  rw [e]
  exact q⟩
end
/-! ### cuts of texts at both ends, texts without their outer signs -/
theorem mid_S (x : Str) {i j : Nat} (h : i ≤ j) (h2 : j ≤ x.length) : Txt.slice x (some (i : Int)) (some (j : Int)) = SX.S ((x.cps.toList.drop i).take (j - i)) := by
  have z := beq_iff_eq.mp (PyProof.Rows.slice_closesL (x := x) (i := (i : Int)) (j := (j : Int)) (by omega) (by omega) (by omega))
  rw [z]
  have e1 : ((j : Int) - (i : Int)).toNat = j - i := by omega
  rw [Int.toNat_natCast, e1]
/-- the sign at k is no ground -/
def ng (z : Str) (k : Nat) : Prop := ∃ c, z.cps.toList[k]? = some c ∧ c ≠ 46
def goesG : Nat → Bool := (".": Str).cps.contains
theorem goesG_is (c : Nat) : goesG c = decide (c = 46) := by
  show (#[46] : Array Nat).contains c = _
  simp [eq_comm]
def loG (z : Str) : Nat := stripLo goesG true z
def hiG (z : Str) : Nat := stripHi goesG true z 0
theorem getD_ng {z : Str} {k : Nat} (h : k < z.length) : goesG (z.cps.getD k 0) = false ↔ ng z k := by
  have h2 : k < z.cps.toList.length := by rw [str_len]; exact h
  rw [← PyProof.Rows.getD_list, List.getD_eq_getElem?_getD, List.getElem?_eq_getElem h2, Option.getD_some, goesG_is]
  refine ⟨fun e => ⟨_, List.getElem?_eq_getElem h2, of_decide_eq_false e⟩, fun ⟨c, e1, e2⟩ => ?_⟩
  rw [List.getElem?_eq_getElem h2] at e1
  cases e1
  exact decide_eq_false e2
theorem ng_lt {z : Str} {k : Nat} (h : ng z k) : k < z.length := by
  obtain ⟨c, e, _⟩ := h
  have := (List.getElem?_eq_some_iff.mp e).1
  rwa [str_len] at this
theorem lo_spec (z : Str) : (∀ k, ng z k → loG z ≤ k) ∧ loG z ≤ z.length ∧ (loG z < z.length → ng z (loG z)) := by
  obtain ⟨h1, h2, h3⟩ := PyProof.Rows.lo_facts goesG z
  refine ⟨fun k hk => ?_, h1, fun h => ?_⟩
  · by_cases e : loG z ≤ k
    · exact e
    · have := h2 k (by unfold loG at e; omega)
      rw [(getD_ng (ng_lt hk)).mpr hk] at this
      cases this
  · rcases h3 with h3 | h3
    · unfold loG at h
      omega
    · exact (getD_ng h).mp h3
theorem hi_spec (z : Str) : (∀ k, ng z k → k < hiG z) ∧ hiG z ≤ z.length ∧ (0 < hiG z → ng z (hiG z - 1)) := by
  obtain ⟨_, h1, h2, h3⟩ := PyProof.Rows.hi_facts goesG z 0 (Nat.zero_le _)
  refine ⟨fun k hk => ?_, h1, fun h => ?_⟩
  · by_cases e : k < hiG z
    · exact e
    · have := h2 k (by unfold hiG at e; omega) (ng_lt hk)
      rw [(getD_ng (ng_lt hk)).mpr hk] at this
      cases this
  · rcases h3 with h3 | h3
    · unfold hiG at h
      omega
    · exact (getD_ng (by unfold hiG at h ⊢; omega)).mp h3
theorem sub_len (z : Str) (i j : Nat) (h : j ≤ z.length) : (strSub z i j).length = j - i := by
  have e := PyProof.Rows.strSub_mk z i j
  rw [e]
  show (SX.S _).length = _
  rw [SX.S_len, List.length_take, List.length_drop, str_len]
  omega
theorem lstrip_len (z : Str) : (Txt.lstripChars z ".").length = z.length - loG z := by
  show (Txt.stripBy goesG true false z).length = _
  rw [PyProof.Rows.stripBy_eq]
  exact sub_len z _ _ (Nat.le_refl _)
theorem rstrip_len (z : Str) : (Txt.rstripChars z ".").length = hiG z := by
  show (Txt.stripBy goesG false true z).length = _
  rw [PyProof.Rows.stripBy_eq]
  have := sub_len z 0 (hiG z) (hi_spec z).2.1
  rw [Nat.sub_zero] at this
  exact this
theorem strip_nil (z : Str) : Txt.stripChars z "." = "" ↔ ∀ k, ¬ ng z k := by
  have hl : (Txt.stripChars z ".").length = stripHi goesG true z (loG z) - loG z := by
    show (Txt.stripBy goesG true true z).length = _
    rw [PyProof.Rows.stripBy_eq]
    exact sub_len z _ _ (PyProof.Rows.hi_facts goesG z _ (PyProof.Rows.lo_facts goesG z).1).2.1
  obtain ⟨g1, g2, g3, g4⟩ := PyProof.Rows.hi_facts goesG z (loG z) (PyProof.Rows.lo_facts goesG z).1
  have el : ∀ x : Str, x = "" ↔ x.length = 0 := fun x => by
    refine ⟨fun e => by rw [e]; rfl, fun e => ?_⟩
    have : x.cps.toList = [] := List.eq_nil_of_length_eq_zero (by rw [str_len]; exact e)
    rw [← SX.S_tl x, this]
    rfl
  rw [el, hl]
  refine ⟨fun e k hk => ?_, fun e => ?_⟩
  · have h1 := (lo_spec z).1 k hk
    have h2 := g3 k (by omega) (ng_lt hk)
    rw [(getD_ng (ng_lt hk)).mpr hk] at h2
    cases h2
  · obtain ⟨_, l2, l3⟩ := lo_spec z
    by_cases h : loG z < z.length
    · exact absurd (l3 h) (e _)
    · omega
end Z

set_option maxRecDepth 100000
set_option maxHeartbeats 4000000
namespace Z
open PySem PySem.Spec PySem.Builtin PySem.Builtin.Str PyProof.Rows L2
/-! ### zip( *texts) -/
/-- the zip at z over the texts xs, each begun at i -/
structure Zn (h : Heap) (z TI TO : Addr) (its : List Addr) (xs : List (Str × Nat)) (i : Nat) : Prop where
  zip : ∃ f0 fl, h.get? z = some { cls := .type "zip", dict := none, data := .fields #[f0, .bool fl, .bool false, .ref TI, .ref TO], slots := #[] } ∧ (f0 = .none ∨ ∃ a : Addr, f0 = rawInt a)
  ti : h.get? TI = some { cls := .type "tuple", data := .seq (its.map Value.ref).toArray }
  to : ∃ os : List Value, os.length = its.length ∧ h.get? TO = some { cls := .type "tuple", data := .seq os.toArray }
  it : Paired (fun a (x : Str × Nat) => h.IsStrIter a (strIterType x.1) x.1 x.2 i) its xs
/-- they stand apart -/
structure Zs (z TI TO : Addr) (its : List Addr) : Prop where
  zTI : z ≠ TI
  zTO : z ≠ TO
  TIO : TI ≠ TO
  zi : z ∉ its
  Ti : TI ∉ its
  Oi : TO ∉ its
  nd : its.Nodup
section
variable {prog : Program} {w : World} {A : Around} {E : Value → Shared → Prop} {s : Shared} {z TI TO : Addr} {its : List Addr} {xs : List (Str × Nat)} {i : Nat}
theorem free_or (hz : ∃ f0 fl, s.heap.get? z = some { cls := .type "zip", dict := none, data := .fields #[f0, .bool fl, .bool false, .ref TI, .ref TO], slots := #[] } ∧ (f0 = .none ∨ ∃ a : Addr, f0 = rawInt a)) {Q : Bool → Shared → Prop}
    (h : ∀ b h', (∃ f0 fl, h'.get? z = some { cls := .type "zip", dict := none, data := .fields #[f0, .bool fl, .bool false, .ref TI, .ref TO], slots := #[] } ∧ (f0 = .none ∨ ∃ a : Addr, f0 = rawInt a)) → Heap.SameBut z s.heap h' → Q b { s with heap := h' }) :
    wpAny (model prog w) A (Builtin.SmallTypes.ownedTupleIsFree (.ref z)) Q E s := by
  obtain ⟨f0, fl, hz, e⟩ := hz
  unfold Builtin.SmallTypes.ownedTupleIsFree
  rcases e with rfl | ⟨a, rfl⟩
  · refine wpAny_bind (wpAny_field hz rfl (x := .none) rfl (wpAny_pure ?_))
    exact h true s.heap ⟨_, _, hz, .inl rfl⟩ (Heap.SameBut.refl _ _)
  · refine wpAny_bind (wpAny_field hz rfl (x := rawInt a) rfl ?_)
    show wpAny _ _ (loadIfAlive ((a : Int).toNat) >>= _) _ _ _
    rw [Int.toNat_natCast]
    have hal : ∀ {Q : Option Obj → Shared → Prop}, Q (s.heap.get? a) s → wpAny (model prog w) A (loadIfAlive a) Q E s := fun q _ _ _ => q
    refine wpAny_bind (hal ?_)
    cases s.heap.get? a with
    | none =>
      simp only [Option.isNone_none, if_true]
      exact wpAny_pure (h true s.heap ⟨_, _, hz, .inr ⟨a, rfl⟩⟩ (Heap.SameBut.refl _ _))
    | some o =>
      simp only [Option.isNone_some, Bool.false_eq_true, if_false]
      refine wpAny_bind (wpAny_field hz rfl (x := .bool fl) rfl ?_)
      cases fl with
      | true =>
        rw [if_neg (show ¬ ((Value.bool true != Value.bool true) = true) from Bool.false_ne_true)]
        exact wpAny_pure (h false s.heap ⟨_, _, hz, .inr ⟨a, rfl⟩⟩ (Heap.SameBut.refl _ _))
      | false =>
        rw [if_pos (show (Value.bool false != Value.bool true) = true from rfl)]
        exact wpAny_bind (wpAny_setField_rec hz (by simp) fun h₁ hz₁ hs₁ => wpAny_pure (h false h₁ ⟨_, _, hz₁, .inr ⟨a, rfl⟩⟩ hs₁))
/-- what is drawn at i -/
abbrev Drawn (i : Nat) (vs : List Value) (xs : List (Str × Nat)) : Prop := Paired (fun v (x : Str × Nat) => ∃ c u, x.1.cps[i]? = some c ∧ v = Value.str ⟨#[c]⟩ u) vs xs
abbrev Its (h : Heap) (i : Nat) (its : List Addr) (xs : List (Str × Nat)) : Prop := Paired (fun a (x : Str × Nat) => h.IsStrIter a (strIterType x.1) x.1 x.2 i) its xs
theorem Its.keep {h h' : Heap} {i : Nat} : ∀ {its : List Addr} {xs : List (Str × Nat)}, Its h i its xs → (∀ a ∈ its, ∀ o, h.get? a = some o → h'.get? a = some o) → Its h' i its xs
  | _, _, .nil, _ => .nil
  | _, _, .cons a r, k => by
    obtain ⟨o, e, f⟩ := a
    exact .cons ⟨o, k _ List.mem_cons_self o e, f⟩ (Its.keep r fun b m => k b (List.mem_cons_of_mem _ m))
theorem paired_snoc {α β : Type} {F : α → β → Prop} {l : List α} {m : List β} {a : α} {b : β} (h : Paired F l m) (g : F a b) : Paired F (l ++ [a]) (m ++ [b]) := by
  induction h with
  | nil => exact .cons g .nil
  | cons x _ ih => exact .cons x ih
/-- how far the draws of one turn are -/
structure Lp (s : Shared) (h : Heap) (z TI TO : Addr) (its : List Addr) (xs : List (Str × Nat)) (i : Nat) (its1 its2 : List Addr) (xs1 xs2 : List (Str × Nat)) (vs : List Value) (oz : Obj) : Prop where
  ei : its = its1 ++ its2
  ex : xs = xs1 ++ xs2
  dr : Drawn i vs xs1
  i1 : Its h (i + 1) its1 xs1
  i2 : Its h i its2 xs2
  sz : h.objs.size = s.heap.objs.size
  zip : h.get? z = some oz
  kp : ∀ c o, c ≠ z → c ≠ TO → c ∉ its1 → s.heap.get? c = some o → h.get? c = some o
  to : ∃ os : List Value, os.length = its.length ∧ os.take its1.length = os.take its1.length ∧ h.get? TO = some { cls := .type "tuple", data := .seq os.toArray }
/-- one draw more -/
theorem Lp.draw {h : Heap} {tk : Nat} {its1 its2 : List Addr} {xs1 xs2 : List (Str × Nat)} {vs : List Value} {oz : Obj} {a : Addr} {Q : Value → Shared → Prop} (hh : A.handled = none) (S : Zs z TI TO its) (L : Lp s h z TI TO its xs i its1 (a :: its2) xs1 xs2 vs oz) (hlt : ∀ x ∈ xs, i < x.1.cps.size)
    (hQ : ∀ v x xs2' h' tk', xs2 = x :: xs2' → Lp s h' z TI TO its xs i (its1 ++ [a]) its2 (xs1 ++ [x]) xs2' (vs ++ [v]) oz → Heap.SameBut a h h' → Q v { s with heap := h', toks := tk' }) :
    wpAny (model prog w) A (Builtin.SmallTypes.nextOf (.ref a)) Q E { s with heap := h, toks := tk } := by
  obtain ⟨ei, ex, dr, i1, i2, sz, hz, kp, os, ho1, ho2, ho3⟩ := L
  cases i2 with
  | cons st i2 =>
    rename_i x xs2
    have ma : a ∈ its := by rw [ei]; exact List.mem_append_right _ List.mem_cons_self
    have za : z ≠ a := fun e => S.zi (e ▸ ma)
    have Oa : TO ≠ a := fun e => S.Oi (e ▸ ma)
    have nd := S.nd
    rw [ei] at nd
    obtain ⟨nd1, nd2, nd3⟩ := List.nodup_append.mp nd
    have hx : x ∈ xs := by rw [ex]; exact List.mem_append_right _ List.mem_cons_self
    refine (Draws.text (prog := prog) (w := w) (A := A) hh a x.1 x.2).item i _ _ _ (hlt x hx) st fun v h' tk' hv st' sb => ?_
    replace sb : Heap.SameBut a h h' := sb
    have kb : ∀ c o, c ≠ a → h.get? c = some o → h'.get? c = some o := fun c o n e => sb.extBut c o n e
    refine hQ v x xs2 h' tk' rfl ⟨by rw [ei, List.append_assoc]; rfl, by rw [ex, List.append_assoc]; rfl, paired_snoc dr hv, paired_snoc (Its.keep i1 fun c m o e => kb c o (fun q => nd3 c m a List.mem_cons_self q) e) st', Its.keep i2 fun c m o e => kb c o (fun q => ?_) e, sb.1.trans sz, kb _ _ za hz, fun c o n1 n2 n3 e => kb c o (fun q => n3 (by rw [q]; simp)) (kp c o n1 n2 (fun q => n3 (List.mem_append_left _ q)) e), os, ho1, rfl, kb _ _ Oa ho3⟩ sb
    rw [q] at m
    exact (List.nodup_cons.mp nd2).1 m
/-- the held tuple is put otherwise -/
theorem Lp.put {h h' : Heap} {its1 its2 : List Addr} {xs1 xs2 : List (Str × Nat)} {vs : List Value} {oz : Obj} {os : List Value} (S : Zs z TI TO its) (L : Lp s h z TI TO its xs i its1 its2 xs1 xs2 vs oz) (sb : Heap.SameBut TO h h') (ho : os.length = its.length)
    (hT : h'.get? TO = some { cls := .type "tuple", data := .seq os.toArray }) : Lp s h' z TI TO its xs i its1 its2 xs1 xs2 vs oz := by
  obtain ⟨ei, ex, dr, i1, i2, sz, hz, kp, _⟩ := L
  have kb : ∀ c o, c ≠ TO → h.get? c = some o → h'.get? c = some o := fun c o n e => sb.extBut c o n e
  have m1 : ∀ a ∈ its1, a ≠ TO := fun a m q => S.Oi (by rw [ei, ← q]; exact List.mem_append_left _ m)
  have m2 : ∀ a ∈ its2, a ≠ TO := fun a m q => S.Oi (by rw [ei, ← q]; exact List.mem_append_right _ m)
  exact ⟨ei, ex, dr, Its.keep i1 fun a m o e => kb a o (m1 a m) e, Its.keep i2 fun a m o e => kb a o (m2 a m) e, sb.1.trans sz, kb _ _ S.zTO hz, fun c o n1 n2 n3 e => kb c o n2 (kp c o n1 n2 n3 e), os, ho, rfl, hT⟩
theorem zipN_item {Q : Value → Shared → Prop} (hh : A.handled = none) (S : Zs z TI TO its) (N : Zn s.heap z TI TO its xs i) (hlt : ∀ x ∈ xs, i < x.1.cps.size) (hne : its ≠ []) (hmany : its.length ≤ 100000)
    (hQ : ∀ vs h' tk, Drawn i vs xs → Zn h' z TI TO its xs (i + 1) → h'.get? s.heap.objs.size = some { cls := .type "tuple", data := .seq vs.toArray } → h'.objs.size = s.heap.objs.size + 1 →
      (∀ c o, c ≠ z → c ≠ TO → c ∉ its → s.heap.get? c = some o → h'.get? c = some o) → Q (.ref s.heap.objs.size) { s with heap := h', toks := tk }) :
    wpAny (model prog w) A (Builtin.«zip.__next__» ⟨[.ref z], []⟩) (fun fin s' => ∃ v, fin = .done (.ret v) ∧ Q v s') E s := by
  obtain ⟨f0, fl, hz, hf⟩ := N.zip
  show wpAny _ _ (field (.ref z) 2 >>= _) _ _ _
  refine wpAny_bind (wpAny_field hz rfl (x := .bool false) rfl ?_)
  show wpAny _ _ (field (.ref z) 3 >>= _) _ _ _
  refine wpAny_bind (wpAny_field hz rfl (x := .ref TI) rfl ?_)
  refine wpAny_bind (wpAny_seqItems N.ti rfl ?_)
  have he : ((its.map Value.ref).toArray.isEmpty) = false := by
    cases its with
    | nil => exact absurd rfl hne
    | cons a r => rfl
  simp only [he, Bool.false_eq_true, if_false]
  refine wpAny_bind (free_or N.zip fun b h1 hz1 hs1 => ?_)
  replace hs1 : Heap.SameBut z s.heap h1 := hs1
  obtain ⟨g0, gl, hg, hg2⟩ := hz1
  have hTO1 : ∃ os : List Value, os.length = its.length ∧ os.take 0 = os.take 0 ∧ h1.get? TO = some { cls := .type "tuple", data := .seq os.toArray } := by
    obtain ⟨os, o1, o2⟩ := N.to
    exact ⟨os, o1, rfl, hs1.extBut _ _ (Ne.symm S.zTO) o2⟩
  have L0 : Lp s h1 z TI TO its xs i [] its [] xs [] _ := ⟨rfl, rfl, .nil, .nil, Its.keep N.it fun a m o e => hs1.extBut _ _ (fun q => S.zi (q ▸ m)) e, hs1.1, hg, fun c o n1 _ _ e => hs1.extBut _ _ n1 e, hTO1⟩
  cases b with
  | true =>
    simp only [if_true]
    refine wpAny_bind (wpAny_rule ?_)
    refine wpAny_bind (wpAny_field hg rfl (x := .ref TO) rfl ?_)
    refine wpAny_bind (wpAny_setField_rec hg (by simp) fun h2 hz2 hs2 => ?_)
    replace hz2 : h2.get? z = some { cls := .type "zip", dict := none, data := .fields #[.ellipsis, .bool gl, .bool false, .ref TI, .ref TO], slots := #[] } := hz2
    replace hs2 : Heap.SameBut z h1 h2 := hs2
    obtain ⟨os0, oo1, _, oo2⟩ := hTO1
    have hTO2 : h2.get? TO = some { cls := .type "tuple", data := .seq os0.toArray } := hs2.extBut _ _ (Ne.symm S.zTO) oo2
    have L1 : Lp s h2 z TI TO its xs i [] its [] xs [] _ := ⟨rfl, rfl, .nil, .nil, Its.keep L0.i2 fun a m o e => hs2.extBut _ _ (fun q => S.zi (q ▸ m)) e, hs2.1.trans hs1.1, hz2, fun c o n1 n2 n3 e => hs2.extBut _ _ n1 (L0.kp c o n1 n2 n3 e), os0, oo1, rfl, hTO2⟩
    refine wpAny_bind ?_
    refine wpAny_forIn_list (s := { s with heap := h2 }) _ (fun rest b s' => ∃ its1 its2 xs1 xs2 vs hB tk os, rest = (its2.map Value.ref).zipIdx its1.length ∧ b = (none, ()) ∧ Lp s hB z TI TO its xs i its1 its2 xs1 xs2 vs { cls := .type "zip", dict := none, data := .fields #[.ellipsis, .bool gl, .bool false, .ref TI, .ref TO], slots := #[] } ∧ s' = { s with heap := hB, toks := tk } ∧
      os.length = its.length ∧ os.take its1.length = vs ∧ hB.get? TO = some { cls := .type "tuple", data := .seq os.toArray }) _ ?_ ?_ _ _ ⟨[], its, [], xs, [], h2, s.toks, os0, rfl, rfl, L1, rfl, oo1, rfl, hTO2⟩
    · rintro v rest b s' ⟨its1, its2, xs1, xs2, vs, hB, tk, os, e1, rfl, L, rfl, lo, tko, hT⟩
      cases its2 with
      | nil => cases e1
      | cons a its2 =>
        rw [List.map_cons, List.zipIdx_cons] at e1
        cases e1
        refine wpAny_bind (wpAny_onRaise ?_)
        show wpAny _ _ (Builtin.SmallTypes.nextOf (.ref a) >>= _) _ _ _
        refine wpAny_bind (L.draw hh S hlt fun u x xs2' h' tk' ex L' sb => wpAny_pure ?_)
        have ma : a ∈ its := by rw [L.ei]; simp
        have hT' : h'.get? TO = some { cls := .type "tuple", data := .seq os.toArray } := sb.extBut _ _ (fun q => S.Oi (by rw [q]; exact ma)) hT
        have hlz : os.toArray.size ≤ sizeLine := line5 (by rw [List.size_toArray]; omega)
        refine wpAny_bind (wpAny_seqItems (s := { s with heap := h', toks := tk' }) hT' rfl ?_)
        refine wpAny_bind (wpAny_updateSeq (s := { s with heap := h', toks := tk' }) hT' rfl ?_ hlz (by rw [Array.size_setIfInBounds]; omega))
        refine wpAny_bind (wpAny_letGo (wpAny_pure ?_))
        have li := L.ei
        have l1 : its1.length < os.length := by rw [lo, li, List.length_append, List.length_cons]; omega
        have hU : (h'.update TO (Obj.mapSeq fun x_2 => x_2.setIfInBounds its1.length u)).get? TO = some { cls := .type "tuple", data := .seq (os.set its1.length u).toArray } := by
          rw [Heap.get?_update_self _ hT' rfl]
          simp [Obj.mapSeq]
        refine ⟨its1 ++ [a], its2, xs1 ++ [x], xs2', vs ++ [u], _, tk', os.set its1.length u, ?_, rfl, L'.put S (Heap.SameBut.update ..) (by rw [List.length_set]; exact lo) hU, rfl, by rw [List.length_set]; exact lo, ?_, hU⟩
        · rw [List.length_append]
          rfl
        · rw [List.length_append, List.length_singleton, List.take_add_one, List.getElem?_set_self (by omega), List.take_set_of_le (Nat.le_refl _), tko]
          rfl
    · rintro b s' ⟨its1, its2, xs1, xs2, vs, hB, tk, os, e1, rfl, L, rfl, lo, tko, hT⟩
      have e2 : its2 = [] := by
        cases its2 with
        | nil => rfl
        | cons a r => cases e1
      subst e2
      have e3 : xs2 = [] := by
        cases L.i2
        rfl
      subst e3
      obtain ⟨ei, ex, dr, i1, i2, sz, hz', kp, _⟩ := L
      rw [List.append_nil] at ei ex
      subst ei ex
      rw [← lo, List.take_length] at tko
      subst tko
      have hvl : os.toArray.toList.length ≤ sizeLine := line5 (by simp; omega)
      show wpAny _ _ (seqItems? (.ref TO) >>= _) _ _ _
      refine wpAny_bind (wpAny_seqItems (s := { s with heap := hB, toks := tk }) hT rfl ?_)
      refine wpAny_bind (wpAny_newTuple ?_ hvl)
      have hp : (hB.push { cls := .type "tuple", data := .seq os.toArray.toList.toArray }).get? hB.objs.size = some { cls := .type "tuple", data := .seq os.toArray.toList.toArray } := Heap.get?_push_size _ rfl
      have hz4 : (hB.push { cls := .type "tuple", data := .seq os.toArray.toList.toArray }).objs.size = hB.objs.size + 1 := Heap.size_push ..
      have up : ∀ c o, hB.get? c = some o → (hB.push { cls := .type "tuple", data := .seq os.toArray.toList.toArray }).get? c = some o := fun c o e => Heap.get?_push_of_some _ e
      show wpAny _ _ (Builtin.SmallTypes.ownedTupleHandOut (.ref z) (.ref hB.objs.size) >>= _) _ _ { s with heap := hB.push { cls := .type "tuple", data := .seq os.toArray.toList.toArray }, toks := tk }
      revert hp hz4 up
      generalize hB.push { cls := .type "tuple", data := .seq os.toArray.toList.toArray } = hC
      intro hp hz4 up
      have hzlt : z < hB.objs.size := Heap.lt_size hz'
      refine wpAny_bind ?_
      unfold Builtin.SmallTypes.ownedTupleHandOut
      refine wpAny_bind (wpAny_setField_rec (s := { s with heap := hC, toks := tk }) (up _ _ hz') (by simp) fun h₇ hz₇ hs₇ => ?_)
      replace hz₇ : h₇.get? z = some { cls := .type "zip", dict := none, data := .fields #[rawInt hB.objs.size, .bool gl, .bool false, .ref TI, .ref TO], slots := #[] } := hz₇
      replace hs₇ : Heap.SameBut z hC h₇ := hs₇
      refine wpAny_setField_rec (s := { s with heap := h₇, toks := tk }) hz₇ (by simp) fun h₈ hz₈ hs₈ => ?_
      replace hz₈ : h₈.get? z = some { cls := .type "zip", dict := none, data := .fields #[rawInt hB.objs.size, .bool false, .bool false, .ref TI, .ref TO], slots := #[] } := hz₈
      replace hs₈ : Heap.SameBut z h₇ h₈ := hs₈
      have up8 : ∀ c o, c ≠ z → hB.get? c = some o → h₈.get? c = some o := fun c o n e => hs₈.extBut _ _ n (hs₇.extBut _ _ n (up c o e))
      have hT8 : h₈.get? hB.objs.size = some { cls := .type "tuple", data := .seq os.toArray.toList.toArray } := hs₈.extBut _ _ (Nat.ne_of_gt hzlt) (hs₇.extBut _ _ (Nat.ne_of_gt hzlt) hp)
      have hz8 : h₈.objs.size = hB.objs.size + 1 := by rw [hs₈.1, hs₇.1, hz4]
      rw [sz] at hT8 hz8
      refine wpAny_pure ⟨_, rfl, ?_⟩
      show Q (.ref hB.objs.size) _
      rw [sz]
      refine hQ os h₈ tk dr ⟨⟨_, _, hz₈, .inr ⟨_, rfl⟩⟩, up8 _ _ (Ne.symm S.zTI) (kp _ _ (Ne.symm S.zTI) S.TIO S.Ti N.ti), ⟨os, lo, up8 _ _ (Ne.symm S.zTO) hT⟩, Its.keep i1 fun a m o e => up8 _ _ (fun q => S.zi (q ▸ m)) e⟩ (by simpa using hT8) hz8 fun c o n1 n2 n3 e => up8 _ _ n1 (kp c o n1 n2 n3 e)
  | false =>
    simp only [Bool.false_eq_true, if_false]
    refine wpAny_bind ?_
    rw [← Array.forIn_toList]
    refine wpAny_forIn_list (s := { s with heap := h1 }) _ (fun rest b s' => ∃ its1 its2 xs1 xs2 vs hB tk, rest = its2.map Value.ref ∧ b = (none, vs.toArray) ∧ Lp s hB z TI TO its xs i its1 its2 xs1 xs2 vs { cls := .type "zip", dict := none, data := .fields #[g0, .bool gl, .bool false, .ref TI, .ref TO], slots := #[] } ∧ s' = { s with heap := hB, toks := tk }) _ ?_ ?_ _ _ ⟨[], its, [], xs, [], h1, s.toks, rfl, rfl, L0, rfl⟩
    · rintro v rest b s' ⟨its1, its2, xs1, xs2, vs, hB, tk, e1, rfl, L, rfl⟩
      cases its2 with
      | nil => cases e1
      | cons a its2 =>
        cases e1
        refine wpAny_bind (wpAny_holding ?_)
        show wpAny _ _ (Builtin.SmallTypes.nextOf (.ref a) >>= _) _ _ _
        refine wpAny_bind (L.draw hh S hlt fun u x xs2' h' tk' ex L' sb => wpAny_pure ?_)
        refine wpAny_pure ?_
        exact ⟨its1 ++ [a], its2, xs1 ++ [x], xs2', vs ++ [u], h', tk', rfl, by simp, L', rfl⟩
    · rintro b s' ⟨its1, its2, xs1, xs2, vs, hB, tk, e1, rfl, L, rfl⟩
      have e2 : its2 = [] := by
        cases its2 with
        | nil => rfl
        | cons a r => cases e1
      subst e2
      have e3 : xs2 = [] := by
        cases L.i2
        rfl
      subst e3
      obtain ⟨ei, ex, dr, i1, i2, sz, hz', kp, os, ho1, ho2, ho3⟩ := L
      rw [List.append_nil] at ei ex
      subst ei ex
      have hvl : vs.length ≤ sizeLine := by
        have h1 := dr.length
        have h2 := i1.length
        exact line5 (by omega)
      show wpAny _ _ (newTuple vs.toArray.toList >>= _) _ _ _
      refine wpAny_bind (wpAny_newTuple ?_ (by simpa using hvl))
      refine wpAny_pure ⟨_, rfl, ?_⟩
      have hp : (hB.push { cls := .type "tuple", data := .seq vs.toArray.toList.toArray }).get? hB.objs.size = some { cls := .type "tuple", data := .seq vs.toArray.toList.toArray } := Heap.get?_push_size _ rfl
      have hz4 : (hB.push { cls := .type "tuple", data := .seq vs.toArray.toList.toArray }).objs.size = hB.objs.size + 1 := Heap.size_push ..
      have up : ∀ c o, hB.get? c = some o → (hB.push { cls := .type "tuple", data := .seq vs.toArray.toList.toArray }).get? c = some o := fun c o e => Heap.get?_push_of_some _ e
      revert hp hz4 up
      generalize hB.push { cls := .type "tuple", data := .seq vs.toArray.toList.toArray } = hC
      intro hp hz4 up
      rw [sz] at hp hz4
      show Q (.ref hB.objs.size) _
      rw [sz]
      refine hQ vs hC tk dr ⟨⟨g0, gl, up _ _ hz', hg2⟩, up _ _ (kp _ _ (Ne.symm S.zTI) S.TIO S.Ti N.ti), ⟨os, ho1, up _ _ ho3⟩, Its.keep i1 fun a m o e => up _ _ e⟩ (by simpa using hp) hz4 fun c o n1 n2 n3 e => up _ _ (kp c o n1 n2 n3 e)
/-- texts, each with its token, as values -/
abbrev txts (xs : List (Str × Nat)) : List Value := xs.map fun x => Value.str x.1 x.2
theorem zip_tc (args : List Value) : checkTypeCall "zip" ⟨args, []⟩ = pure () := by kernel_rfl
theorem zip_nc (a : Value) (args : List Value) : checkBuiltinCall "zip.__new__" ⟨.type "zip" :: a :: args, []⟩ = pure () := by kernel_rfl
theorem zip_ao (obj : Value) (args : List Value) : argsOk "object.__init__" ⟨obj :: args, []⟩ := by unfold argsOk; kernel_rfl
/-- the iterators of texts, begun one behind another -/
def itO (x : Str × Nat) : Obj := { cls := .type (strIterType x.1), data := .fields #[.str x.1 x.2, .int 0 0] }
def pushAll : Heap → List (Str × Nat) → Heap
  | h, [] => h
  | h, x :: xs => pushAll (h.push (itO x)) xs
theorem pushAll_size : ∀ (xs : List (Str × Nat)) (h : Heap), (pushAll h xs).objs.size = h.objs.size + xs.length
  | [], h => rfl
  | x :: xs, h => by
    rw [pushAll, pushAll_size xs, Heap.size_push, List.length_cons]
    omega
theorem pushAll_keep : ∀ (xs : List (Str × Nat)) (h : Heap) (c : Addr) (o : Obj), h.get? c = some o → (pushAll h xs).get? c = some o
  | [], _, _, _, e => e
  | x :: xs, h, c, o, e => pushAll_keep xs _ c o (Heap.get?_push_of_some _ e)
theorem pushAll_its : ∀ (xs : List (Str × Nat)) (h : Heap), Its (pushAll h xs) 0 (List.range' h.objs.size xs.length) xs
  | [], _ => .nil
  | x :: xs, h => by
    refine .cons ⟨itO x, pushAll_keep xs _ _ _ (Heap.get?_push_size _ rfl), rfl, rfl⟩ ?_
    have z := pushAll_its xs (h.push (itO x))
    rw [Heap.size_push] at z
    exact z
theorem pushAll_snoc : ∀ (xs : List (Str × Nat)) (h : Heap) (x : Str × Nat), pushAll h (xs ++ [x]) = (pushAll h xs).push (itO x)
  | [], _, _ => rfl
  | y :: xs, h, x => by
    show pushAll (h.push (itO y)) (xs ++ [x]) = _
    rw [pushAll_snoc xs]
    rfl
theorem iterAll_txts (xs : List (Str × Nat)) {Q : List Value → Shared → Prop} {s : Shared} (hQ : Q ((List.range' s.heap.objs.size xs.length).map Value.ref) { s with heap := pushAll s.heap xs }) :
    wpAny (model prog w) A (Builtin.SmallTypes.iterAll (txts xs)) Q E s := by
  unfold Builtin.SmallTypes.iterAll
  simp only [pure_bind, bind_assoc]
  refine wpAny_bind ?_
  refine wpAny_forIn_list _ (fun rest b s' => ∃ xs1 xs2, xs = xs1 ++ xs2 ∧ rest = txts xs2 ∧ b = ((List.range' s.heap.objs.size xs1.length).map Value.ref).toArray ∧ s' = { s with heap := pushAll s.heap xs1 }) _ ?_ ?_ _ _ ⟨[], xs, rfl, rfl, rfl, rfl⟩
  · rintro v rest b s' ⟨xs1, xs2, e, e1, rfl, rfl⟩
    cases xs2 with
    | nil => cases e1
    | cons x xs2 =>
      cases e1
      refine wpAny_bind (wpAny_holding ?_)
      refine (begins_text x.1 x.2).iter prog w A _ _ _ trivial (wpAny_pure ?_)
      refine ⟨xs1 ++ [x], xs2, by rw [e, List.append_assoc]; rfl, rfl, ?_, ?_⟩
      · show (((List.range' s.heap.objs.size xs1.length).map Value.ref).toArray.push (.ref (pushAll s.heap xs1).objs.size)) = _
        rw [pushAll_size, List.length_append, List.length_singleton, List.range'_concat, List.map_append]
        simp
      · rw [pushAll_snoc]
        rfl
  · rintro b s' ⟨xs1, xs2, e, e1, rfl, rfl⟩
    have e2 : xs2 = [] := by
      cases xs2 with
      | nil => rfl
      | cons a r => cases e1
    subst e2
    rw [List.append_nil] at e
    subst e
    refine wpAny_pure ?_
    simpa using hQ
def zT1 (h : Heap) (xs : List (Str × Nat)) : Heap := (pushAll h xs).push { cls := .type "tuple", data := .seq ((List.range' h.objs.size xs.length).map Value.ref).toArray }
def zT2 (h : Heap) (xs : List (Str × Nat)) : Heap := (zT1 h xs).push { cls := .type "tuple", data := .seq (((List.range' h.objs.size xs.length).map Value.ref).map fun _ => Value.none).toArray }
def zT3 (h : Heap) (xs : List (Str × Nat)) : Heap := (zT2 h xs).push { cls := .type "zip", data := .fields #[.none, .bool false, .bool false, .ref (pushAll h xs).objs.size, .ref (zT1 h xs).objs.size] }
theorem meets_zipN (x : Str × Nat) (xs : List (Str × Nat)) :
    Meets (Builtin.«zip.__new__» ⟨.type "zip" :: txts (x :: xs), []⟩) (fun _ R s => (x :: xs).length ≤ 100000 ∧ R (.ok (.ret (.ref (zT2 s.heap (x :: xs)).objs.size))) { s with heap := zT3 s.heap (x :: xs) }) :=
  .of_wp fun prog w A R s h => by
    obtain ⟨hp, g, d, tk, os⟩ := s
    obtain ⟨hl, h⟩ := h
    have hsub := sub_zip
    have q1 : ∀ {A' : Around} {E : Value → Shared → Prop} {Q : List Value → Shared → Prop}, Q ((List.range' hp.objs.size (x :: xs).length).map Value.ref) ⟨pushAll hp (x :: xs), g, d, tk, os⟩ → wpAny (model prog w) A' (Builtin.SmallTypes.iterAll (txts (x :: xs))) Q E ⟨hp, g, d, tk, os⟩ :=
      fun q => iterAll_txts (x :: xs) (s := ⟨hp, g, d, tk, os⟩) q
    generalize txts (x :: xs) = vs at q1 ⊢
    have hsz : ((List.range' hp.objs.size (x :: xs).length).map Value.ref).length ≤ sizeLine := by
      rw [List.length_map, List.length_range']
      exact line5 hl
    generalize his : (List.range' hp.objs.size (x :: xs).length).map Value.ref = is at q1 hsz
    wp_walk using q1
    subst his
    exact ⟨_, rfl, h⟩
/-- zip( *texts): its new cells -/
theorem call_zipN {Q : Value → Shared → Prop} (x : Str × Nat) (xs : List (Str × Nat)) (hl : (x :: xs).length ≤ 100000)
    (h : ∀ its z TI TO h', Zs z TI TO its → its ≠ [] → its.length = (x :: xs).length → Zn h' z TI TO its (x :: xs) 0 → (∀ a, a ∈ z :: TI :: TO :: its → s.heap.objs.size ≤ a) → (∀ c o, s.heap.get? c = some o → h'.get? c = some o) → Q (.ref z) { s with heap := h' }) :
    wpAny (model prog w) A (call (.type "zip") (txts (x :: xs))) Q E s := by
  refine callType_new F.called_zip (by decide) (zip_tc _) (zip_nc _ _) (fun obj => zip_ao obj _) F.entry_zip_new (meets_zipN x xs) ⟨hl, ?_⟩
  have hne : x :: xs ≠ [] := fun e => nomatch e
  generalize x :: xs = ys at h hne ⊢
  have e0 := pushAll_size ys s.heap
  have e1 : (zT1 s.heap ys).objs.size = s.heap.objs.size + ys.length + 1 := by unfold zT1; rw [Heap.size_push, e0]
  have e2 : (zT2 s.heap ys).objs.size = s.heap.objs.size + ys.length + 2 := by unfold zT2; rw [Heap.size_push, e1]
  have up1 : ∀ c o, (pushAll s.heap ys).get? c = some o → (zT1 s.heap ys).get? c = some o := fun c o e => Heap.get?_push_of_some _ e
  have up2 : ∀ c o, (zT1 s.heap ys).get? c = some o → (zT2 s.heap ys).get? c = some o := fun c o e => Heap.get?_push_of_some _ e
  have up3 : ∀ c o, (zT2 s.heap ys).get? c = some o → (zT3 s.heap ys).get? c = some o := fun c o e => Heap.get?_push_of_some _ e
  have gZ : (zT3 s.heap ys).get? (zT2 s.heap ys).objs.size = some { cls := .type "zip", data := .fields #[.none, .bool false, .bool false, .ref (pushAll s.heap ys).objs.size, .ref (zT1 s.heap ys).objs.size] } := Heap.get?_push_size _ rfl
  have gO : (zT3 s.heap ys).get? (zT1 s.heap ys).objs.size = some { cls := .type "tuple", data := .seq (((List.range' s.heap.objs.size ys.length).map Value.ref).map fun _ => Value.none).toArray } := up3 _ _ (Heap.get?_push_size _ rfl)
  have gT : (zT3 s.heap ys).get? (pushAll s.heap ys).objs.size = some { cls := .type "tuple", data := .seq ((List.range' s.heap.objs.size ys.length).map Value.ref).toArray } := up3 _ _ (up2 _ _ (Heap.get?_push_size _ rfl))
  have hr : ∀ a ∈ List.range' s.heap.objs.size ys.length, s.heap.objs.size ≤ a ∧ a < s.heap.objs.size + ys.length := fun a m => by
    rw [List.mem_range'_1] at m
    exact m
  have dz : (zT2 s.heap ys).objs.size ≠ (pushAll s.heap ys).objs.size := by rw [e2, e0]; omega
  have dO : (zT2 s.heap ys).objs.size ≠ (zT1 s.heap ys).objs.size := by rw [e2, e1]; omega
  have dT : (pushAll s.heap ys).objs.size ≠ (zT1 s.heap ys).objs.size := by rw [e0, e1]; omega
  have hS : Zs (zT2 s.heap ys).objs.size (pushAll s.heap ys).objs.size (zT1 s.heap ys).objs.size (List.range' s.heap.objs.size ys.length) :=
    ⟨dz, dO, dT, fun m => by have := (hr _ m).2; omega, fun m => by have := (hr _ m).2; omega, fun m => by have := (hr _ m).2; omega, List.nodup_range'⟩
  have hN : Zn (zT3 s.heap ys) (zT2 s.heap ys).objs.size (pushAll s.heap ys).objs.size (zT1 s.heap ys).objs.size (List.range' s.heap.objs.size ys.length) ys 0 :=
    ⟨⟨_, _, gZ, .inl rfl⟩, gT, ⟨_, by rw [List.length_map, List.length_map], gO⟩, Its.keep (pushAll_its ys s.heap) fun a _ o e => up3 _ _ (up2 _ _ (up1 _ _ e))⟩
  refine ⟨⟨_, gZ, rfl⟩, h _ _ _ _ _ hS (fun e => hne ?_) (List.length_range' ..) hN (fun a m => ?_) fun c o e => up3 _ _ (up2 _ _ (up1 _ _ (pushAll_keep ys _ c o e)))⟩
  · have l : (List.range' s.heap.objs.size ys.length).length = 0 := by rw [e]; rfl
    rw [List.length_range'] at l
    exact List.eq_nil_of_length_eq_zero l
  · rcases List.mem_cons.mp m with e | m
    · rw [e, e2]
      omega
    rcases List.mem_cons.mp m with e | m
    · rw [e, e0]
      omega
    rcases List.mem_cons.mp m with e | m
    · rw [e, e1]
      omega
    exact (hr a m).1
/-- the end: every text is through -/
theorem zipN_end {Q : Fin → Shared → Prop} (hh : A.handled = none) (S : Zs z TI TO its) (N : Zn s.heap z TI TO its xs i) (hend : ∀ x ∈ xs, x.1.cps.size = i) (hne : its ≠ [])
    (hE : ∀ h' e, (∀ c o, c ≠ z → c ∉ its → s.heap.get? c = some o → h'.get? c = some o) → (∃ o, h'.get? e = some o ∧ o.cls = .type "StopIteration") → E (.ref e) { s with heap := h' }) :
    wpAny (model prog w) A (Builtin.«zip.__next__» ⟨[.ref z], []⟩) Q E s := by
  obtain ⟨f0, fl, hz, hf⟩ := N.zip
  show wpAny _ _ (field (.ref z) 2 >>= _) _ _ _
  refine wpAny_bind (wpAny_field hz rfl (x := .bool false) rfl ?_)
  show wpAny _ _ (field (.ref z) 3 >>= _) _ _ _
  refine wpAny_bind (wpAny_field hz rfl (x := .ref TI) rfl ?_)
  refine wpAny_bind (wpAny_seqItems N.ti rfl ?_)
  have it := N.it
  cases it with
  | nil => exact absurd rfl hne
  | cons st r =>
    rename_i a x its xs
    have he : (((a :: its).map Value.ref).toArray.isEmpty) = false := rfl
    simp only [he, Bool.false_eq_true, if_false]
    have za : z ≠ a := fun e => S.zi (by rw [e]; exact List.mem_cons_self)
    have hx := hend x List.mem_cons_self
    refine wpAny_bind (free_or N.zip fun b h1 hz1 hs1 => ?_)
    replace hs1 : Heap.SameBut z s.heap h1 := hs1
    obtain ⟨g0, gl, hg, hg2⟩ := hz1
    have st1 : h1.IsStrIter a (strIterType x.1) x.1 x.2 i := by
      obtain ⟨o, e, f⟩ := st
      exact ⟨o, hs1.extBut _ _ (Ne.symm za) e, f⟩
    cases b with
    | true =>
      simp only [if_true]
      refine wpAny_bind (wpAny_rule ?_)
      refine wpAny_bind (wpAny_field hg rfl (x := .ref TO) rfl ?_)
      refine wpAny_bind (wpAny_setField_rec hg (by simp) fun h2 hz2 hs2 => ?_)
      replace hz2 : h2.get? z = some { cls := .type "zip", dict := none, data := .fields #[.ellipsis, .bool gl, .bool false, .ref TI, .ref TO], slots := #[] } := hz2
      replace hs2 : Heap.SameBut z h1 h2 := hs2
      have st2 : h2.IsStrIter a (strIterType x.1) x.1 x.2 i := by
        obtain ⟨o, e, f⟩ := st1
        exact ⟨o, hs2.extBut _ _ (Ne.symm za) e, f⟩
      simp only [List.map_cons, List.zipIdx_cons, List.forIn_cons]
      refine wpAny_bind (wpAny_bind (wpAny_bind (wpAny_onRaise ?_)))
      show wpAny _ _ (Builtin.SmallTypes.nextOf (.ref a) >>= _) _ _ _
      refine wpAny_bind ((Draws.text (prog := prog) (w := w) (A := A) hh a x.1 x.2).done _ _ _ (by rw [hx]; exact st2) fun h' e eb he' => ?_)
      replace eb : Heap.ExtBut a h2 h' := eb
      refine wpAny_setField_rec (s := { s with heap := h' }) (eb _ _ za hz2) (by simp) fun h3 hz3 hs3 => ?_
      replace hs3 : Heap.SameBut z h' h3 := hs3
      obtain ⟨o, ho, hc⟩ := he'
      have nez : e ≠ z := fun q => by
        rw [q, eb _ _ za hz2] at ho
        cases ho
        have q2 : ("zip" : String) = "StopIteration" := by
          injection hc
        exact absurd q2 (by decide)
      exact hE h3 e (fun c o n1 n2 e => hs3.extBut _ _ n1 (eb _ _ (fun q => n2 (by rw [q]; exact List.mem_cons_self)) (hs2.extBut _ _ n1 (hs1.extBut _ _ n1 e)))) ⟨o, hs3.extBut _ _ nez ho, hc⟩
    | false =>
      simp only [Bool.false_eq_true, if_false]
      refine wpAny_bind ?_
      rw [← Array.forIn_toList]
      simp only [List.map_cons, List.forIn_cons]
      refine wpAny_bind (wpAny_bind (wpAny_holding ?_))
      show wpAny _ _ (Builtin.SmallTypes.nextOf (.ref a) >>= _) _ _ _
      refine wpAny_bind ((Draws.text (prog := prog) (w := w) (A := A) hh a x.1 x.2).done _ _ _ (by rw [hx]; exact st1) fun h' e eb he' => ?_)
      replace eb : Heap.ExtBut a h1 h' := eb
      exact hE h' e (fun c o n1 n2 e => eb _ _ (fun q => n2 (by rw [q]; exact List.mem_cons_self)) (hs1.extBut _ _ n1 e)) he'
theorem pyNext_zipN {Q : Option Value → Shared → Prop} (hh : A.in1.handled = none) (S : Zs z TI TO its) (N : Zn s.heap z TI TO its xs i) (hlt : ∀ x ∈ xs, i < x.1.cps.size) (hne : its ≠ []) (hmany : its.length ≤ 100000)
    (hQ : ∀ vs h' tk, Drawn i vs xs → Zn h' z TI TO its xs (i + 1) → h'.get? s.heap.objs.size = some { cls := Value.type "tuple", data := .seq vs.toArray } → h'.objs.size = s.heap.objs.size + 1 →
      (∀ c o, c ≠ z → c ≠ TO → c ∉ its → s.heap.get? c = some o → h'.get? c = some o) → Q (some (.ref s.heap.objs.size)) { s with heap := h', toks := tk }) :
    wpAny (model prog w) A (pyNext (.ref z)) Q E s := by
  have hT : s.TypeIs (.ref z) "zip" := by
    obtain ⟨f0, fl, hz, _⟩ := N.zip
    exact ⟨_, hz, rfl⟩
  unfold pyNext
  exact wpAny_bind (wpAny_attempt (wpAny_callSpecial?_slot (name := Str.ofString "__next__") hT F.slot_zip_next
    (wpAny_call_entry F.slot_zip_next hT F.entry_zip_next
      (zipN_item hh S N hlt hne hmany fun vs h' tk a b c d e => wpAny_pure (hQ vs h' tk a b c d e)) (F.args_zip_next_1 _))))
theorem pyNext_zipN_end {Q : Option Value → Shared → Prop} (hh : A.in1.handled = none) (S : Zs z TI TO its) (N : Zn s.heap z TI TO its xs i) (hend : ∀ x ∈ xs, x.1.cps.size = i) (hne : its ≠ [])
    (hQ : ∀ h', (∀ c o, c ≠ z → c ∉ its → s.heap.get? c = some o → h'.get? c = some o) → Q none { s with heap := h' }) : wpAny (model prog w) A (pyNext (.ref z)) Q E s := by
  have hT : s.TypeIs (.ref z) "zip" := by
    obtain ⟨f0, fl, hz, _⟩ := N.zip
    exact ⟨_, hz, rfl⟩
  unfold pyNext
  refine wpAny_bind (wpAny_attempt (wpAny_callSpecial?_slot (name := Str.ofString "__next__") hT F.slot_zip_next
    (wpAny_call_entry F.slot_zip_next hT F.entry_zip_next (zipN_end hh S N hend hne fun h' e hk he => ?_) (F.args_zip_next_1 _))))
  obtain ⟨o, ho, hc⟩ := he
  refine wpAny_bind (wpAny_isInstance (T := "StopIteration") (b := true) ⟨o, ho, hc⟩ isSubtype_stop ?_)
  exact wpAny_pure (hQ _ hk)
end
end Z

set_option maxRecDepth 100000
set_option maxHeartbeats 4000000
namespace Z
open PySem PySem.Spec PySem.Builtin PySem.Builtin.Str PyProof.Rows L2
/-! ### for x in zip( *texts) -/
def JZ (n : Nat) (col : Nat → List V) : It :=
  ⟨fun i _ => i < n, fun i H v H' => ∃ T, v = .ref T ∧ H T = none ∧ H' = upd H T (.tup (col i)), fun i _ => n ≤ i⟩
def colV (rows : List Str) (i : Nat) : List V := rows.map fun z => V.str (one (z.cps.toList.getD i 0))
theorem pyIter_z {prog : Program} {w : World} {A : Around} {E : Value → Shared → Prop} {s : Shared} {z : Addr} {Q : Value → Shared → Prop} (hT : s.TypeIs (.ref z) "zip") (h : Q (.ref z) s) : wpAny (model prog w) A (pyIter (.ref z)) Q E s := by
  refine wpAny_pyIter_slot hT F.slot_zip_iter (wpAny_call_entry F.slot_zip_iter hT F.entry_zip_iter ?_ (F.args_zip_iter_1 _))
  show wpAny _ _ (ret (.ref z)) _ _ s
  exact wpAny_pure ⟨_, rfl, "zip", _, hT, F.slot_zip_next.lookup, h⟩
theorem drawn_vals {i : Nat} : ∀ {vs : List Value} {xs : List (Str × Nat)}, Drawn i vs xs → Vals (colV (xs.map (·.1)) i) vs
  | _, _, .nil => .nil
  | _, _, .cons ⟨c, u, e, ev⟩ r => by
    refine .cons ?_ (drawn_vals r)
    subst ev
    refine ⟨u, ?_⟩
    rename_i x _ _
    have : x.1.cps.toList.getD i 0 = c := by
      rw [List.getD_eq_getElem?_getD, Array.getElem?_toList, e]
      rfl
    rw [this]
    rfl
theorem turn_zipN {P : Program} {w : World} {K : PySem.W.Frag} {tg : Str} {tpos : Pos} {z TI TO : Addr} {its : List Addr} {xs : List (Str × Nat)} {n : Nat} (S : Zs z TI TO its) (hne : its ≠ []) (hmany : its.length ≤ 100000) (hlen : its.length = xs.length) (hn : ∀ x ∈ xs, x.1.cps.size = n) :
    Turn P w K (.Name tg tpos) (JZ n (colV (xs.map (·.1)))) (z :: TI :: TO :: its) z (fun i h => Zn h z TI TO its xs i ∧ i ≤ n) where
  mem := List.mem_cons_self
  obj := fun i h st b hb => by
    obtain ⟨N, _⟩ := st
    rcases List.mem_cons.mp hb with q | hb
    · obtain ⟨_, _, e, _⟩ := N.zip
      rw [q]
      exact ⟨_, e, fun v q => nomatch q⟩
    rcases List.mem_cons.mp hb with q | hb
    · rw [q]
      exact ⟨_, N.ti, fun v q => nomatch q⟩
    rcases List.mem_cons.mp hb with q | hb
    · obtain ⟨_, _, e⟩ := N.to
      rw [q]
      exact ⟨_, e, fun v q => nomatch q⟩
    have it := N.it
    clear N hne hmany hlen
    have key : ∀ {its : List Addr} {xs : List (Str × Nat)}, Its h i its xs → b ∈ its → ∃ o, h.get? b = some o ∧ ∀ v, o.data ≠ .cell v := by
      intro its xs r
      induction r with
      | nil => intro m; cases m
      | cons a _ ih =>
        intro m
        rcases List.mem_cons.mp m with q | m
        · obtain ⟨o, e, _, d⟩ := a
          rw [q]
          exact ⟨o, e, fun v q => by rw [d] at q; cases q⟩
        · exact ih m
    exact key it hb
  keep := fun i h h' st k => by
    obtain ⟨⟨⟨f0, fl, hz, hf⟩, ti, ⟨os, ho, hto⟩, it⟩, hle⟩ := st
    exact ⟨⟨⟨f0, fl, k _ (by simp) _ hz, hf⟩, k _ (by simp) _ ti, ⟨os, ho, k _ (by simp) _ hto⟩, Its.keep it fun a m o e => k a (by simp [m]) o e⟩, hle⟩
  item := by
    intro X hP hw hK hc i pins s σ H E I hf st hg
    subst hP hw hK
    obtain ⟨N, _⟩ := st
    have hg' : i < n := hg
    have lt : ∀ b ∈ z :: TI :: TO :: its, b < s.heap.objs.size := fun b hb => by
      rcases List.mem_cons.mp hb with q | hb
      · obtain ⟨_, _, e, _⟩ := N.zip
        rw [q]; exact Heap.lt_size e
      rcases List.mem_cons.mp hb with q | hb
      · rw [q]; exact Heap.lt_size N.ti
      rcases List.mem_cons.mp hb with q | hb
      · obtain ⟨_, _, e⟩ := N.to
        rw [q]; exact Heap.lt_size e
      have key : ∀ {its : List Addr} {xs : List (Str × Nat)}, Its s.heap i its xs → b ∈ its → b < s.heap.objs.size := by
        intro its xs r
        induction r with
        | nil => intro m; cases m
        | cons a _ ih =>
          intro m
          rcases List.mem_cons.mp m with q | m
          · obtain ⟨o, e, _⟩ := a
            rw [q]; exact Heap.lt_size e
          · exact ih m
      exact key N.it hb
    refine pyNext_zipN (I.ok.hd hc) S N (fun x m => by rw [hn x m]; exact hg') hne hmany fun vs h' tk dr N' hT hsz hk => ?_
    refine ⟨_, rfl, ?_⟩
    unfold letOwnedTupleGo
    refine wpAny_pure ?_
    have rv := drawn_vals dr
    have hl : (colV (xs.map (·.1)) i).length ≤ sizeLine := by
      unfold colV
      rw [List.length_map, List.length_map]
      exact line5 (by omega)
    have new : ObjOk X.prog X.w (upd H s.heap.objs.size (.tup (colV (xs.map (·.1)) i))) h' s.heap.objs.size (.tup (colV (xs.map (·.1)) i)) := ⟨hl, vs, rv, ⟨_, hT, rfl, _, rfl⟩⟩
    have I1 : Inv X pins σ (upd H s.heap.objs.size (.tup (colV (xs.map (·.1)) i))) { s with heap := h', toks := tk } :=
      I.turnedNew (ch := z :: TI :: TO :: its) (fun c o hb q => hk c o (fun q' => hb (by simp [q'])) (fun q' => hb (by simp [q'])) (fun q' => hb (by simp [q'])) q) hf (Nat.le_refl _) new
    refine ⟨.ref s.heap.objs.size, _, I1, rfl, ⟨_, rfl, I.hok.fresh (Nat.le_refl _), rfl⟩, ⟨N', hg'⟩, fun b hb => ?_⟩
    rw [upd_ne (Nat.ne_of_lt (lt b hb))]
    exact (hf b hb).1
  done := by
    intro X hP hw hK hc i pins s σ H E I hf st hg
    subst hP hw hK
    obtain ⟨N, hle⟩ := st
    have e1 : i = n := Nat.le_antisymm hle hg
    exact pyNext_zipN_end (I.ok.hd hc) S N (fun x m => by rw [hn x m, e1]) hne fun h' hk => ⟨rfl, I.turnedL (t' := s.toks) (ch := z :: TI :: TO :: its) (fun c o hb q => hk c o (fun q' => hb (by simp [q'])) (fun q' => hb (by simp [q'])) q) hf⟩
  self := fun A i s Q E st h => by
    obtain ⟨N, _⟩ := st
    obtain ⟨_, _, e, _⟩ := N.zip
    exact pyIter_z ⟨_, e, rfl⟩ h
def iZipS (K : PySem.W.Frag) (te : TE) : TI := fun σ H R => te σ H fun v H1 => ∃ a rows n, v = .ref a ∧ SqL K H1 a (rows.map V.str) ∧ rows ≠ [] ∧ rows.length ≤ 100000 ∧ (∀ z ∈ rows, z.length = n) ∧ R (JZ n (colV rows)) H1
theorem vals_txts : ∀ {rows : List Str} {us : List Value}, Vals (rows.map V.str) us → ∃ xs : List (Str × Nat), us = txts xs ∧ xs.map (·.1) = rows
  | [], us, r => by
    cases r
    exact ⟨[], rfl, rfl⟩
  | z :: rows, us, r => by
    cases r with
    | cons a r =>
      obtain ⟨t, rfl⟩ := a
      obtain ⟨xs, rfl, e⟩ := vals_txts r
      exact ⟨(z, t) :: xs, rfl, by rw [List.map_cons, e]⟩
theorem pi_zipS {X : Cx} {e : Expr} {te : TE} {tg : Str} {p pos tpos sp_ : Pos} (K : PySem.W.Frag) (hg : Gl X "zip") (hm : X.mg "zip" = none) (he : PE X e te) (hK : X.K = K := by rfl) (hst : starEach [.Starred e sp_] X.env = [(true, eval e X.env)] := by rfl) :
    PI X (.Name tg tpos) (.Call (.Name "zip" p) [.Starred e sp_] [] pos) (iZipS K te) := by
  subst hK
  refine ⟨fun pins s σ H R I h => ?_⟩
  refine Call_ (ld_blt I hg hm PyProof.Rows.boot_zip ?_)
  rw [hst]
  refine PySem.W.ks_call (P := fun _ => True) rfl (fun h _ => ⟨.machine, .inr (.inl rfl), fun A Q E s _ q => wpAny_pure q⟩) (PySem.W.ks_lone ?_)
  refine thn (he.run pins s σ H _ I h) fun v s1 ⟨y, H1, I1, ry, q⟩ => ?_
  obtain ⟨a, rows, n, rfl, hS, hne, hl, hn, q⟩ := q
  obtain rfl : v = Value.ref a := ry
  refine StX.star_lst I1 hS fun us s2 I2 rv => ⟨trivial, ?_⟩
  obtain ⟨xs, rfl, ex⟩ := vals_txts rv
  cases xs with
  | nil => exact absurd ex.symm hne
  | cons x xs =>
    have hlx : (x :: xs).length ≤ 100000 := by rw [← ex, List.length_map] at hl; exact hl
    refine call_zipN x xs hlx fun its z TI TO h' S hni hil N hbig hk => ?_
    have hz : ({ s2 with heap := h' } : Shared).TypeIs (.ref z) "zip" := by
      obtain ⟨_, _, e, _⟩ := N.zip
      exact ⟨_, e, rfl⟩
    refine pyIter_z hz ?_
    have I3 : Inv X pins σ H1 { s2 with heap := h' } := I2.kept (t' := s2.toks) hk
    refine ⟨z, z :: TI :: TO :: its, _, _, H1, rfl, I3, turn_zipN (n := n) S hni (by omega) hil fun y m => ?_, ⟨N, Nat.zero_le _⟩, fun b hb => I2.fpOk (hbig b hb) (I2.hok.fresh (hbig b hb)), by rw [ex]; exact q⟩
    have : y.1 ∈ rows := by rw [← ex]; exact List.mem_map.mpr ⟨y, m, rfl⟩
    exact hn _ this
/-! ### text[::-1], list[::-1] -/
def revS (z : Str) : Str := SX.S z.cps.toList.reverse
theorem revS_is (z : Str) (u : Tok) : Txt.sliceBy z none none (-1, u) = revS z := by
  have e := PyProof.Rows.step_rev_list z u
  have e2 : ((List.range z.length).map fun k => z.cps.getD (z.length - 1 - k) 0) = z.cps.toList.reverse := by
    refine List.ext_getElem ?_ fun k h1 h2 => ?_
    · rw [List.length_map, List.length_range, List.length_reverse, str_len]
    · rw [List.length_map, List.length_range] at h1
      rw [List.getElem_map, List.getElem_range, List.getElem_reverse, ← PyProof.Rows.getD_list, List.getD_eq_getElem?_getD]
      have h3 : z.length - 1 - k < z.cps.toList.length := by rw [str_len]; omega
      rw [List.getElem?_eq_getElem h3, Option.getD_some]
      congr 1
  rw [e2] at e
  rw [← SX.S_tl (Txt.sliceBy z none none (-1, u)), e]
  rfl
def tRevS (te : TE) : TE := fun σ H Q => te σ H fun x H1 => ∃ z : Str, x = .str z ∧ z.length ≤ sizeLine ∧ Q (.str (revS z)) H1
theorem pe_revS {X : Cx} {e : Expr} {te : TE} {k : Nat} {p1 p2 p3 pos : Pos} (he : PE X e te) : PE X (.Subscript e (.Slice none none (some (.UnaryOp .USub (.Constant (.int 1) k p1) p2)) p3) pos) (tRevS te) := by
  refine ⟨fun pins s σ H Q I h => ?_⟩
  refine Subscript_ (thn (he.run pins s σ H _ I h) fun v s1 ⟨x, H1, I1, r1, q1⟩ => ?_)
  obtain ⟨z, ex, hz, q⟩ := q1
  subst ex
  obtain ⟨t, rfl⟩ := r1
  have hst : PO X (some (.UnaryOp .USub (.Constant (.int 1) k p1) p2)) (tPart (tUn (rU fun i => .int (-i)) (tC (.int 1)))) := po_some (pe_un un_neg pe_int)
  refine wpAny_Slice (thn (po_none.run pins s1 σ H1 (fun o H2 => o = none ∧ H2 = H1) I1 ⟨rfl, rfl⟩) fun vl s2 ⟨l, H2, I2, pl, el, e2⟩ => ?_)
  subst el e2
  refine thn (po_none.run pins s2 σ H2 (fun o H3 => o = none ∧ H3 = H2) I2 ⟨rfl, rfl⟩) fun vu s3 ⟨u, H3, I3, pu, eu, e3⟩ => ?_
  subst eu e3
  refine thn (hst.run pins s3 σ H3 (fun o H4 => o = some (-1) ∧ H4 = H3) I3 ⟨1, rfl, -1, rfl, rfl, rfl⟩) fun vs s4 ⟨o, H4, I4, ps, eo, e4⟩ => ?_
  subst eo e4
  have I5 : Inv X pins σ H4 { s4 with heap := s4.heap.push { cls := .type "slice", data := .fields #[vl, vu, vs] } } := I4.kept (t' := s4.toks) fun b ob q => Heap.get?_push_of_some _ q
  obtain ⟨l, rfl, hl⟩ := IsPart.raw pl
  obtain ⟨u, rfl, hu⟩ := IsPart.raw pu
  obtain ⟨o3, rfl, ho⟩ := IsPart.raw ps
  cases l with
  | some l => cases hl
  | none =>
  cases u with
  | some u => cases hu
  | none =>
  cases o3 with
  | none => cases ho
  | some o3 =>
  obtain ⟨n, u⟩ := o3
  have en : n = -1 := Option.some.inj ho
  subst en
  show wpAny (model X.prog X.w) X.A (subscriptTail e (.Slice none none (some (.UnaryOp .USub (.Constant (.int 1) k p1) p2)) p3) (.str z t) (.ref s4.heap.objs.size)) (EP X pins σ Q) X.xe _
  refine tail_any (ops := [.ref s4.heap.objs.size, .str z t]) (typeIs_str _ _ _) F.slot_str_getitem.lookup ?_ (by with_unfolding_all rfl)
  refine wpAny_getItem_str_slice (l := none) (u := none) (st := some (-1, u)) ⟨_, Heap.get?_push_size _ rfl, rfl, rfl⟩ rfl ?_
  have e := revS_is z u
  unfold Txt.sliceBy at e
  have c : ¬ ((((some ((-1 : Int), u)).map (·.1)).getD 1 == 1 && (slicePicked z none none (some (-1, u))).length == z.length) = true) := by
    intro g
    rw [Bool.and_eq_true] at g
    have g1 : ((-1 : Int) == 1) = true := g.1
    exact absurd g1 (by decide)
  rw [if_neg c] at e
  show Made.post (if _ then _ else _) _ _
  rw [if_neg c, e]
  refine ⟨?_, .str _, H4, I5.tok _, ⟨_, rfl⟩, q⟩
  unfold revS
  rw [SX.S_len, List.length_reverse, str_len]
  exact hz
theorem pe_revL2 {X : Cx} {e : Expr} {te : TE} {k : Nat} {p1 p2 p3 pos : Pos} (K : PySem.W.Frag) (he : PE X e te) (hK : X.K = K := by rfl) : PE X (.Subscript e (.Slice none none (some (.UnaryOp .USub (.Constant (.int 1) k p1) p2)) p3) pos) (tRevL K te) := by
  subst hK
  exact pe_revL he
end Z

set_option maxRecDepth 100000
set_option maxHeartbeats 4000000
namespace Z
open PySem PySem.Spec PyProof.Rows L2
/-! ### sets of keys of one kind that can be walked -/
section
variable {P : Program} {w : World} {κ : Type} [DecidableEq κ] [BEq κ] [LawfulBEq κ]
/-- no key is that of both -/
def Apart (kd : KeyKind P w κ) (x y : Int × Value) : Prop := ∀ k, kd.is k x.2 = true → kd.is k y.2 = true → False
theorem Apart.symm {kd : KeyKind P w κ} {x y : Int × Value} (h : Apart kd x y) : Apart kd y x := fun k a b => h k b a
/-- the set at a: its members M, how many n; its places rise, it can be walked -/
def SetG (kd : KeyKind P w κ) (h : Heap) (a : Addr) (M : κ → Bool) (n : Nat) : Prop :=
  ∃ ob es ep tb, (h.get? a = some ob ∧ ob.ExactSet ∧ ob.data = .set es ep tb) ∧ ElemsOf kd es.toList ∧ (∀ k, M k = true ↔ ∃ x ∈ es.toList, kd.is k x.2 = true) ∧
    es.toList.Pairwise (Apart kd) ∧ (es.size < scanBound ∧ tb.fits es.size = true ∧ es.size = n) ∧ Ris tb.place.toList ∧ (w.params.followText "set-order" = true ∨ tb.led = true)
theorem SetG.later {kd : KeyKind P w κ} {h h' : Heap} {a : Addr} {M : κ → Bool} {n : Nat} (z : SetG kd h a M n) (e : ∀ o, h.get? a = some o → h'.get? a = some o) : SetG kd h' a M n := by
  obtain ⟨ob, es, ep, tb, ⟨h1, h2⟩, h3⟩ := z
  exact ⟨ob, es, ep, tb, ⟨e _ h1, h2⟩, h3⟩
theorem SetG.members {kd : KeyKind P w κ} {h : Heap} {a : Addr} {M M' : κ → Bool} {n n' : Nat} (z : SetG kd h a M n) (e : ∀ k, M' k = M k) (en : n' = n) : SetG kd h a M' n' := by
  have q : M' = M := funext e
  rw [q, en]
  exact z
theorem SetG.plain {kd : KeyKind P w κ} {h : Heap} {a : Addr} {M : κ → Bool} {n : Nat} (z : SetG kd h a M n) : h.SetOf kd a M n := by
  obtain ⟨ob, es, ep, tb, ⟨h1, h2, h3⟩, h4, h5, _, ⟨h6, h7, h8⟩, _⟩ := z
  exact ⟨ob, es, ep, tb, h1, h2, h3, h4, h5, h6, h7, h8⟩
abbrev setObj0 (w : World) : Obj := { cls := .type "set", dict := none, data := .set #[] 0 (.fresh 0 0 (!w.params.followText "set-order")) }
theorem SetG.fresh {kd : KeyKind P w κ} {h : Heap} {a : Addr} (e : h.get? a = some (setObj0 w)) : SetG kd h a (fun _ => false) 0 := by
  refine ⟨_, #[], 0, _, ⟨e, ⟨rfl, rfl, rfl⟩, rfl⟩, fun x hx => by simp at hx, fun k => by simp, by simp, ⟨by decide, by rfl, rfl⟩, List.Pairwise.nil, ?_⟩
  cases q : w.params.followText "set-order" with
  | true => exact .inl rfl
  | false => exact .inr rfl
end
section
variable {P : Program} {w : World} {κ : Type} [DecidableEq κ] [BEq κ] [LawfulBEq κ] {A : Around} {E : Value → Shared → Prop} {s : Shared} {a : Addr} {M : κ → Bool} {n : Nat}
theorem setG_tail {kd : KeyKind P w κ} {g : Bool → Sem Unit} (hg : ∀ (b : Bool) (s1 : Shared) (Q' : Unit → Shared → Prop), Q' () s1 → wpAny (model P w) A (g b) Q' E s1)
    {ob : Obj} {es : Array (Int × Value)} {ep : Nat} {tb : SetTable} (h1 : s.heap.get? a = some ob) (h2 : ob.ExactSet) (h3 : ob.data = .set es ep tb)
    {fs : Array (Int × Value)} {tc : SetTable} {M' : κ → Bool} (h4 : ElemsOf kd fs.toList) (h5 : ∀ k, M' k = true ↔ ∃ x ∈ fs.toList, kd.is k x.2 = true) (h6 : fs.toList.Pairwise (Apart kd))
    (h7 : fs.size < scanBound) (h8 : tc.fits fs.size = true) (h9 : Ris tc.place.toList) (h10 : w.params.followText "set-order" = true ∨ tc.led = true) {wd : Bool} {R : Option Bool → Shared → Prop}
    (hR : ∀ h', Heap.SameBut a s.heap h' → SetG kd h' a M' fs.size → R (some true) { s with heap := h' }) :
    wpAny (model P w) A (storeSet a fs tc >>= fun _ => if (!wd && tc.tooFull) = true then (g (relayAll tc fs (SetTable.grown fs.size)).2.2 >>= fun _ => storeSet a (relayAll tc fs (SetTable.grown fs.size)).1 (relayAll tc fs (SetTable.grown fs.size)).2.1 >>= fun _ => pure (some true)) else pure (some true)) R E s := by
  refine wpAny_bind (wpAny_storeSet_of h1 h3 ?_ (fits_of_scanBound h7))
  have k1 := store_at (es' := fs) (t' := tc) h1 h3
  have k2 := Heap.SameBut.update s.heap a (Obj.putSet fs tc)
  by_cases full : (!wd && tc.tooFull) = true
  · rw [if_pos full]
    have e1 := relayAll_perm tc fs (SetTable.grown fs.size)
    have e2 := relayAll_fits tc fs (SetTable.grown fs.size)
    have e3 := relayAll_ris tc fs (SetTable.grown fs.size)
    have e4 := relayAll_led tc fs (SetTable.grown fs.size)
    revert e1 e2 e3 e4
    generalize relayAll tc fs (SetTable.grown fs.size) = L
    obtain ⟨gs, td, gv⟩ := L
    intro e1 e2 e3 e4
    simp only at e1 e2 e3 e4 ⊢
    have ez : gs.size = fs.size := by
      have q := e1.length_eq
      rwa [Array.length_toList, Array.length_toList] at q
    refine wpAny_bind (hg _ _ _ (wpAny_bind (wpAny_storeSet_of k1 rfl ?_ (fits_of_scanBound (by rw [ez]; exact h7)))))
    have k3 := store_at (es' := gs) (t' := td) k1 rfl
    refine wpAny_pure (hR _ (k2.trans (Heap.SameBut.update _ a _)) ⟨_, gs, _, td, ⟨k3, h2, rfl⟩, h4.perm e1, fun k => (h5 k).trans ⟨fun ⟨x, hx, q⟩ => ⟨x, e1.mem_iff.mpr hx, q⟩, fun ⟨x, hx, q⟩ => ⟨x, e1.mem_iff.mp hx, q⟩⟩, ?_, ⟨by rw [ez]; exact h7, e2, ez⟩, e3, h10.imp id fun z => by rw [e4]; exact z⟩)
    exact (e1.pairwise_iff (fun {x y} q => Apart.symm q)).mpr h6
  · rw [if_neg full]
    exact wpAny_pure (hR _ k2 ⟨_, fs, _, tc, ⟨k1, h2, rfl⟩, h4, h5, h6, ⟨h7, h8, rfl⟩, h9, h10⟩)
theorem setG_add {kd : KeyKind P w κ} {k : κ} {x : Value} {Q : Bool → Shared → Prop} (hk : kd.is k x = true) (hx : x.scannable = true) (z : SetG kd s.heap a M n) (room : n + 1 < scanBound)
    (hQ : ∀ h', Heap.SameBut a s.heap h' → SetG kd h' a (fun j => M j || decide (j = k)) (if M k = true then n else n + 1) → Q (!M k) { s with heap := h' }) :
    wpAny (model P w) A (setAddHashed a x (kd.hash k)) Q E s := by
  obtain ⟨ob, es, ep, tb, ⟨h1, h2, h3⟩, h4, h5, h6, ⟨h7, h8, h9⟩, h10, h11⟩ := z
  unfold setAddHashed setAddHashedIn
  refine wpAny_holding (wpAny_bind (wpAny_setState_of h1 h3 h8 ?_))
  dsimp only
  rw [byScan_of hx h7 h4]
  simp only [↓reduceIte]
  unfold setAddByScan
  refine wpAny_bind (wpAny_bind (wpAny_rule (wpAny_bind (wpAny_setScan_of hk h1 h3 h8 h4 ?_))))
  cases hf : List.findIdx? (fun y => kd.is k y.2) es.toList with
  | some j =>
    dsimp only
    obtain ⟨j1, j2, _⟩ := List.findIdx?_eq_some_iff_getElem.mp hf
    have hM : M k = true := (h5 k).mpr ⟨_, List.getElem_mem j1, j2⟩
    refine wpAny_pure (wpAny_pure ?_)
    have q := hQ s.heap (Heap.SameBut.refl a s.heap) ⟨ob, es, ep, tb, ⟨h1, h2, h3⟩, h4, fun i => ?_, h6, ⟨h7, h8, by rw [if_pos hM]; exact h9⟩, h10, h11⟩
    · rw [hM] at q
      exact q
    · rw [Bool.or_eq_true, decide_eq_true_eq, ← h5 i]
      exact ⟨fun y => y.elim id fun e => by rw [e]; exact hM, .inl⟩
  | none =>
    dsimp only
    have no : ∀ y ∈ es.toList, kd.is k y.2 = false := fun y hy => by simpa using List.findIdx?_eq_none_iff.mp hf y hy
    have hM : M k = false := by
      cases q : M k with
      | false => rfl
      | true =>
        obtain ⟨y, hy, q2⟩ := (h5 k).mp q
        rw [no y hy] at q2
        cases q2
    have p1 := layNew_perm tb es (kd.hash k) x
    have p2 := layNew_fits tb es (kd.hash k) x
    have p3 := layNew_ris tb es (kd.hash k) x h10
    have p4 := layNew_led tb es (kd.hash k) x
    revert p1 p2 p3 p4
    generalize layNew tb es (kd.hash k) x = L
    obtain ⟨fs, tc, wd, gv⟩ := L
    intro p1 p2 p3 p4
    simp only at p1 p2 p3 p4 ⊢
    rw [Array.toList_push] at p1
    have el : ElemsOf kd fs.toList := ElemsOf.perm (fun y hy => by
      rcases List.mem_append.mp hy with hy | hy
      · exact h4 y hy
      · rw [List.mem_singleton.mp hy]
        exact ⟨⟨k, hk, rfl⟩, hx⟩) p1
    have mm := mem_push_iff hk h5 p1
    have sz : fs.size = n + 1 := by
      have q := p1.length_eq
      rw [Array.length_toList, List.length_append, Array.length_toList, h9] at q
      exact q
    have pw : fs.toList.Pairwise (Apart kd) := (p1.pairwise_iff (fun {x y} q => Apart.symm q)).mpr (List.pairwise_append.mpr ⟨h6, List.pairwise_singleton _ _, fun y hy u hu => by
      rw [List.mem_singleton.mp hu]
      intro k' a1 a2
      have e := kd.inj _ _ _ a2 hk
      rw [e, no y hy] at a1
      cases a1⟩)
    have bd : fs.size < scanBound := by rw [sz]; exact room
    have ld : w.params.followText "set-order" = true ∨ tc.led = true := h11.imp id fun q => by rw [p4]; exact q
    have done : ∀ h', Heap.SameBut a s.heap h' → SetG kd h' a (fun j => M j || decide (j = k)) fs.size → Q true { s with heap := h' } := fun h' sb r => by
      have q := hQ h' sb
      rw [hM] at q
      exact q (by rw [sz] at r; exact r)
    have gw : ∀ (b : Bool) {s1 : Shared} {Q' : Unit → Shared → Prop}, Q' () s1 → wpAny (model P w) A (match b with | true => rule "set.scan.the-table-gave-way" | false => pure ()) Q' E s1 := fun b s1 Q' q => by
      cases b
      · exact wpAny_pure q
      · exact wpAny_rule q
    refine wpAny_bind (gw _ ?_)
    split
    · refine wpAny_bind ?_
      rw [hashByValue_scannable 8 hx]
      refine wpAny_pure ?_
      refine setG_tail (kd := kd) (M' := fun j => M j || decide (j = k)) (fun b s1 Q' q => by cases b <;> first | exact wpAny_pure q | exact wpAny_rule q) h1 h2 h3 el mm pw bd ?_ ?_ ?_ ?_
      · first | (split <;> first | exact p2 | exact SetTable.fits_plain_off p2) | exact p2
      · first | (split <;> exact p3) | exact p3
      · first | (split <;> exact ld) | exact ld
      · intro h' sb r
        dsimp only
        exact wpAny_pure (done h' sb r)
    · refine wpAny_bind (wpAny_pure ?_)
      simp only [↓reduceIte]
      refine setG_tail (kd := kd) (M' := fun j => M j || decide (j = k)) (fun b s1 Q' q => by cases b <;> first | exact wpAny_pure q | exact wpAny_rule q) h1 h2 h3 el mm pw bd p2 p3 ld ?_
      intro h' sb r
      dsimp only
      exact wpAny_pure (done h' sb r)
/-! ### a set filled by a walk -/
theorem setG_walk {kd : KeyKind P w κ} {I : Addr} {fp wr : List Addr} {G : Array GenState → Array GenState → Prop} {m : Nat} {Pv : Nat → Value → Prop} {St : Nat → Shared → Prop} {R : Result → Shared → Prop}
    (W : WalksS P w A.in1 I fp wr G m Pv St) (D : Addr) (hD : D ∉ fp) (ks : List κ) (hm : m = ks.length) (room : ∀ (h : Heap) (i c : Nat), i < ks.length → c ≤ i → SetG kd h D (fun j => decide (j ∈ ks.take i)) c → c + 1 < scanBound) (val : ∀ i v, Pv i v → ∃ k, ks[i]? = some k ∧ kd.is k v = true ∧ v.scannable = true) :
    ∀ (left i : Nat) (s : Shared), m - i = left → i ≤ m → St i s → (∃ c, c ≤ i ∧ SetG kd s.heap D (fun j => decide (j ∈ ks.take i)) c) →
      (∀ s' c, Moved (D :: wr) G s s' → c ≤ m → SetG kd s'.heap D (fun j => decide (j ∈ ks)) c → R (.ok (.ret .none)) s') →
      codeAny (model P w) A (.builtin "set.update.loop" ⟨[.ref D, .ref I], []⟩) R s := by
  have out : D ∉ wr := fun q => hD (W.sub _ q)
  have more : ∀ b ∈ wr, b ∈ D :: wr := fun b q => List.mem_cons_of_mem _ q
  intro left
  induction left with
  | zero =>
    intro i s e1 e2 st ⟨c, hc, z⟩ hR
    obtain rfl : i = m := by omega
    refine codeAny_builtin PyProof.Rows.F.entry_set_update_loop ?_
    rw [Around.under_plainId PyProof.Rows.F.plain_set_update_loop _]
    change wpAny _ A.in1 (pyNext (.ref I) >>= _) _ _ s
    refine wpAny_bind (W.done s _ _ st fun s' mv => ?_)
    change wpAny _ A.in1 (ret Value.none) _ _ s'
    rw [List.take_of_length_le (by omega)] at z
    exact wpAny_pure (hR s' c (mv.mono more) hc (z.later fun o q => mv.heap D o out q))
  | succ left ih =>
    intro i s e1 e2 st ⟨c, hc, z⟩ hR
    have lt : i < m := by omega
    refine codeAny_builtin PyProof.Rows.F.entry_set_update_loop ?_
    rw [Around.under_plainId PyProof.Rows.F.plain_set_update_loop _]
    change wpAny _ A.in1 (pyNext (.ref I) >>= _) _ _ s
    refine wpAny_bind (W.item i s _ _ lt st fun v s' pv st' mv => ?_)
    obtain ⟨k, hk, isk, sc⟩ := val i v pv
    have z' := z.later (h' := s'.heap) fun o q => mv.heap D o out q
    change wpAny _ A.in1 (holding [v] (setAdd D v) >>= _) _ _ s'
    refine wpAny_bind (wpAny_holding ?_)
    unfold setAdd
    refine wpAny_holding (wpAny_bind (kd.pyHash isk ?_))
    refine setG_add (s := { s' with toks := s'.toks + 1 }) isk sc z' (room _ i c (by omega) hc z') fun h' sb z2 => ?_
    have z3 : SetG kd h' D (fun j => decide (j ∈ ks.take (i + 1))) (if decide (k ∈ ks.take i) = true then c else c + 1) := z2.members (fun j => by
      rw [List.take_add_one, hk]
      simp [List.mem_append]) rfl
    have hc3 : (if decide (k ∈ ks.take i) = true then c else c + 1) ≤ i + 1 := by split <;> omega
    refine wpAny_pure ⟨plainId_quiet PyProof.Rows.F.plain_set_update_loop _, ih (i + 1) _ (by omega) lt (W.frame _ s' _ _ st' (Nat.le_succ _) fun b hb o q => ?_) ⟨_, hc3, z3⟩ fun s2 c2 mv2 hc2 zz => ?_⟩
    · rw [sb.2 b fun q2 => hD (by rw [← q2]; exact hb)]
      exact q
    · refine hR s2 c2 (Moved.trans W.gtrans ((mv.mono more).then_heap (Nat.le_succ _) fun b o hb q => ?_) mv2) hc2 zz
      rw [sb.2 b fun q2 => hb (by rw [q2]; exact List.mem_cons_self)]
      exact q
end
end Z

set_option maxRecDepth 100000
set_option maxHeartbeats 4000000
namespace Z
open PySem PySem.Spec PyProof.Rows L2
section
variable {P : Program} {w : World} {κ : Type} [DecidableEq κ] [BEq κ] [LawfulBEq κ] {A : Around} {E : Value → Shared → Prop} {s : Shared}
/-- v begins a walk of m items, whatever is new; a new object is its iterator -/
def Begun (P : Program) (w : World) (h0 : Heap) (v : Value) (m : Nat) (Pv : Nat → Value → Prop) : Prop :=
  ∀ (A' : Around) (E' : Value → Shared → Prop) (s1 : Shared) (Q : Value → Shared → Prop), (∀ b o, h0.get? b = some o → s1.heap.get? b = some o) → h0.objs.size ≤ s1.heap.objs.size →
    (∀ (o : Obj) (fp : List Addr) (St : Nat → Heap → Prop), (∀ A2 : Around, A2.handled = none → Walks P w A2 s1.heap.objs.size fp [s1.heap.objs.size] m Pv St) → (∀ b ∈ fp, b = s1.heap.objs.size ∨ b < h0.objs.size) → St 0 (s1.heap.push o) →
      Q (.ref s1.heap.objs.size) { s1 with heap := s1.heap.push o }) → wpAny (model P w) A' (pyIter v) Q E' s1
theorem begun_list {l : Addr} {items : Array Value} (hl : s.heap.IsList l items) : Begun P w s.heap (.ref l) items.size (fun i v => items[i]? = some v) := by
  intro A' E' s1 Q k z hQ
  have lt : l < s.heap.objs.size := by obtain ⟨_, e, _⟩ := hl; exact Heap.lt_size e
  have hl1 : s1.heap.IsList l items := hl.at fun o e => k l o e
  refine wpAny_pyIter_list hl1 (hQ _ [s1.heap.objs.size, l] _ (fun A2 h2 => Walks.list h2 _ l (Nat.ne_of_lt (Nat.lt_of_lt_of_le lt z)) items) (fun b hb => ?_) ⟨⟨_, Heap.get?_push_size _ rfl, rfl, rfl⟩, hl1.push _⟩)
  have e' : b = s1.heap.objs.size ∨ b = l := by simpa using hb
  rcases e' with q | q
  · exact .inl q
  · exact .inr (by rw [q]; exact lt)
theorem begun_text (x : Str) (t : Tok) : Begun P w s.heap (.str x t) x.cps.size (SignAt x) := by
  intro A' E' s1 Q k z hQ
  refine wpAny_pyIter_str fun o St W st => hQ o _ St W (fun b hb => .inl (by simpa using hb)) st
/-- set(v), v walked -/
theorem call_setW {kd : KeyKind P w κ} {v : Value} {T : String} {m : Nat} {Pv : Nat → Value → Prop} (ks : List κ) {Q : Value → Shared → Prop} (hh : A.handled = none)
    (ty : ∀ s1 : Shared, (∀ b o, s.heap.get? b = some o → s1.heap.get? b = some o) → s1.TypeIs v T) (n1 : isSubtype (.type T) (.type "set") = pure false) (n2 : isSubtype (.type T) (.type "frozenset") = pure false) (n3 : (Value.type T == Value.type "dict") = false)
    (B : Begun P w s.heap v m Pv) (hm : m = ks.length) (room : ∀ (h : Heap) (i c : Nat), i < ks.length → c ≤ i → SetG kd h s.heap.objs.size (fun j => decide (j ∈ ks.take i)) c → c + 1 < scanBound) (val : ∀ i u, Pv i u → ∃ k, ks[i]? = some k ∧ kd.is k u = true ∧ u.scannable = true)
    (hQ : ∀ (h' : Heap) (tk c : Nat), SetG kd h' s.heap.objs.size (fun j => decide (j ∈ ks)) c → c ≤ ks.length → (∀ b o, s.heap.get? b = some o → h'.get? b = some o) → Q (.ref s.heap.objs.size) { s with heap := h', toks := tk }) :
    wpAny (model P w) A (call (.type "set") [v]) Q E s := by
  obtain ⟨c0, tl0, q1⟩ := PySem.F.called_set.mro
  have q2 := PySem.F.called_set.made
  have q3 := PySem.F.called_set.sub
  refine wpAny_call (codeAny_of_tree ?_)
  change wpAny _ _ (callAny (.type "set") _) _ _ _
  refine wpAny_pure ⟨Code.quiet_builtin _ (by decide +kernel), codeAny_builtin PySem.F.entry_type_call ?_⟩
  rw [Around.under_plain (weight_type_call_type "set" [v] []) rfl]
  have q4 := PySem.F.called_set.notType
  have q5 := PySem.F.called_set.canCreate
  have q6 := PySem.F.typeCall_set_1 v
  repeat (any_goals (first | assumption | wp_step))
  refine codeAny_mono (code_set_led1 v (E := E) (Q₁ := fun ob s1 => ob = .ref s.heap.objs.size ∧ s1 = { s with heap := s.heap.push (setObj0 w) }) ⟨rfl, rfl⟩) fun r s1 hr => ?_
  cases r with
  | error e => exact hr
  | ok fl =>
    cases fl with
    | ret ob =>
      obtain ⟨rfl, rfl⟩ := hr
      have at0 : (s.heap.push (setObj0 w)).get? s.heap.objs.size = some (setObj0 w) := Heap.get?_push_size _ rfl
      have ty0 : Shared.TypeIs { s with heap := s.heap.push (setObj0 w) } (.ref s.heap.objs.size) "set" := ⟨_, at0, rfl⟩
      have q7 := PySem.F.called_set.init.lookup
      have q8 := PySem.F.called_set.init.bind (.ref s.heap.objs.size)
      repeat (any_goals (first | assumption | wp_step))
      refine codeAny_mono (codeAny_call_builtin (R := wants (fun r s2 => r = .none ∧ ∃ h' tk c, s2 = { s with heap := h', toks := tk } ∧ SetG kd h' s.heap.objs.size (fun j => decide (j ∈ ks)) c ∧ c ≤ ks.length ∧
          (∀ b o, s.heap.get? b = some o → h'.get? b = some o)) E) PySem.F.called_set.init.plain PySem.F.entry_set_init (check_set_init_1 ty0 ?_)) fun r2 s2 hr2 => ?_
      · have up : ∀ b o, s.heap.get? b = some o → (s.heap.push (setObj0 w)).get? b = some o := fun b o e => Heap.get?_push_of_some _ e
        have tyv := ty { s with heap := s.heap.push (setObj0 w) } up
        have hz : (s.heap.push (setObj0 w)).objs.size = s.heap.objs.size + 1 := Heap.size_push ..
        unfold Builtin.«set.__init__» noKeywords Builtin.Frozenset.updateFrom
        generalize hPI : pyIter = PI
        wp_walk
        subst hPI
        have hh3 : A.in1.in1.in1.handled = none := by simp [hh]
        refine B _ _ _ _ up (by rw [show ({ s with heap := s.heap.push (setObj0 w) } : Shared).heap.objs.size = s.heap.objs.size + 1 from hz]; exact Nat.le_succ _) fun o fp St W hfp st => ?_
        refine wpAny_bind (wpAny_runValue ?_)
        have nI : (s.heap.push (setObj0 w)).objs.size ≠ s.heap.objs.size := by rw [hz]; exact Nat.succ_ne_self _
        refine setG_walk (W _ hh3).toS s.heap.objs.size (fun q => ?_) ks hm room val (m - 0) 0 _ rfl (Nat.zero_le _) st ⟨0, Nat.le_refl _, SetG.members (SetG.fresh (Heap.get?_push_of_some _ at0)) (fun k => by simp) rfl⟩ ?_
        · rcases hfp _ q with q | q
          · exact nI q.symm
          · exact Nat.lt_irrefl _ q
        · intro s3 c3 mv hc z
          obtain ⟨h', g3, d3, tk3, os3⟩ := s3
          have e1 : g3 = s.gens := mv.gens
          have e2 : d3 = s.drawn := mv.drawn
          have e3 : os3 = s.os := mv.os
          subst e1 e2 e3
          change wpAny _ _ _ _ _ _
          refine wpAny_pure ?_
          change wpAny _ _ (ret Value.none) _ _ _
          refine wpAny_pure ⟨rfl, h', tk3, c3, rfl, z, by omega, fun b o e => ?_⟩
          have lt := Heap.lt_size e
          refine mv.heap b o ?_ (Heap.get?_push_of_some _ (Heap.get?_push_of_some _ e))
          intro q
          have e' : b = s.heap.objs.size ∨ b = (s.heap.push (setObj0 w)).objs.size := by simpa using q
          rcases e' with q | q
          · rw [q] at lt
            exact Nat.lt_irrefl _ lt
          · rw [q, hz] at lt
            exact Nat.lt_irrefl _ (Nat.lt_of_succ_lt lt)
      · cases r2 with
        | error e => exact hr2
        | ok fl2 =>
          cases fl2 with
          | ret r =>
            obtain ⟨rfl, h', tk, c', rfl, z1, z2, z3⟩ := hr2
            repeat (any_goals (first | assumption | wp_step))
            exact hQ _ _ _ z1 z2 z3
          | _ => exact hr2.elim
    | _ => exact hr.elim
/-! ### sets of texts -/
theorem SetG.keys {h : Heap} {a : Addr} {M : Str → Bool} {n : Nat} (z : SetG (PySem.strKind P w) h a M n) : ∃ l : List Str, l.Nodup ∧ l.length = n ∧ ∀ k, M k = true ↔ k ∈ l := by
  obtain ⟨ob, es, ep, tb, _, h4, h5, h6, ⟨_, _, h8⟩, _⟩ := z
  have key : ∀ x ∈ es.toList, ∃ k t, x.2 = Value.str k t := fun x hx => by
    obtain ⟨⟨k, hk, _⟩, _⟩ := h4 x hx
    obtain ⟨t, e⟩ := Value.isStrOf_shape hk
    exact ⟨k, t, e⟩
  have gen : ∀ l : List (Int × Value), (∀ x ∈ l, ∃ k t, x.2 = Value.str k t) → l.Pairwise (Apart (PySem.strKind P w)) → ∃ ks : List Str, ks.Nodup ∧ ks.length = l.length ∧ ∀ k, k ∈ ks ↔ ∃ x ∈ l, (PySem.strKind P w).is k x.2 = true := by
    intro l
    induction l with
    | nil => intro _ _; exact ⟨[], List.nodup_nil, rfl, fun k => by simp⟩
    | cons x l ih =>
      intro hx hp
      obtain ⟨p1, p2⟩ := List.pairwise_cons.mp hp
      obtain ⟨ks, a1, a2, a3⟩ := ih (fun y hy => hx y (List.mem_cons_of_mem _ hy)) p2
      obtain ⟨k, t, e⟩ := hx x List.mem_cons_self
      have is1 : ∀ k', (PySem.strKind P w).is k' x.2 = true ↔ k' = k := fun k' => by
        rw [e]
        refine ⟨fun q => (PySem.strKind P w).inj _ _ _ q (PySem.strKind_is P w k t), fun q => by rw [q]; exact PySem.strKind_is P w k t⟩
      refine ⟨k :: ks, List.nodup_cons.mpr ⟨fun m => ?_, a1⟩, by rw [List.length_cons, List.length_cons, a2], fun k' => ?_⟩
      · obtain ⟨y, hy, q⟩ := (a3 k).mp m
        exact p1 y hy k ((is1 k).mpr rfl) q
      · rw [List.mem_cons, a3 k']
        refine ⟨fun q => ?_, fun ⟨y, hy, q⟩ => ?_⟩
        · rcases q with q | ⟨y, hy, q⟩
          · exact ⟨x, List.mem_cons_self, (is1 k').mpr q⟩
          · exact ⟨y, List.mem_cons_of_mem _ hy, q⟩
        · rcases List.mem_cons.mp hy with hy | hy
          · rw [hy] at q
            exact .inl ((is1 k').mp q)
          · exact .inr ⟨y, hy, q⟩
  obtain ⟨ks, a1, a2, a3⟩ := gen es.toList key h6
  exact ⟨ks, a1, by rw [a2, Array.length_toList, h8], fun k => (h5 k).trans (a3 k).symm⟩
end
theorem perm_of_sub {α : Type} [BEq α] [LawfulBEq α] : ∀ (l m : List α), l.Nodup → (∀ x ∈ l, x ∈ m) → m.length ≤ l.length → l.Perm m
  | [], m, _, _, h => by
    rw [List.eq_nil_of_length_eq_zero (Nat.le_zero.mp h)]
  | x :: l, m, nd, sub, h => by
    obtain ⟨n1, n2⟩ := List.nodup_cons.mp nd
    have hx := sub x List.mem_cons_self
    have lz := List.length_erase_of_mem hx
    have q := perm_of_sub l (m.erase x) n2 (fun y hy => (List.mem_erase_of_ne (fun e => n1 (by rw [← e]; exact hy))).mpr (sub y (List.mem_cons_of_mem _ hy))) (by rw [List.length_cons] at h; omega)
    exact (q.cons x).trans (List.perm_cons_erase hx).symm
theorem same_len {α : Type} [BEq α] [LawfulBEq α] {l m : List α} (h1 : l.Nodup) (h2 : m.Nodup) (e : ∀ x, x ∈ l ↔ x ∈ m) : l.length = m.length := by
  by_cases h : m.length ≤ l.length
  · exact (perm_of_sub l m h1 (fun x q => (e x).mp q) h).length_eq
  · exact ((perm_of_sub m l h2 (fun x q => (e x).mpr q) (by omega)).length_eq).symm
/-- the set of texts at a -/
def SetT (P : Program) (w : World) (a : Addr) (M : Str → Bool) (n : Nat) : HO := .ext fun h => SetG (PySem.strKind P w) h a M n
section
variable {X : Cx}
theorem setT_new {w : World} {P : Program} {H : Hp} {h : Heap} {a : Addr} {M : Str → Bool} {n : Nat} (z : SetG (PySem.strKind P w) h a M n) : ObjOk P w H h a (SetT P w a M n) := by
  have ⟨ob, _, _, _, ⟨e, _⟩, _⟩ := z
  exact ⟨z, ⟨ob, e⟩, fun _ _ p k => SetG.later p k⟩
theorem setT_get {pins : List (Addr × Obj)} {σ : L2.St} {H : Hp} {s : Shared} {a : Addr} {M : Str → Bool} {n : Nat} (I : Inv X pins σ H s) (e : H a = some (SetT X.prog X.w a M n)) : SetG (PySem.strKind X.prog X.w) s.heap a M n := (I.hok a _ e).1
/-- set(texts), set(text) -/
def rSetTx (P : Program) (w : World) (K : PySem.W.Frag) : List V → Hp → VK → Prop := fun vs H Q => ∃ ks : List Str, ((∃ l, vs = [.ref l] ∧ SqL K H l (ks.map V.str)) ∨ (∃ x : Str, vs = [.str x] ∧ ks = x.cps.toList.map one)) ∧ (ks.length + 1 < scanBound ∨ ∃ U : List Str, (∀ k ∈ ks, k ∈ U) ∧ U.length + 1 < scanBound) ∧
  ∀ (p : Addr) (n : Nat), H p = none → Q (.ref p) (upd H p (SetT P w p (fun k => decide (k ∈ ks)) n))
theorem call_setTx (P : Program) (w : World) (K : PySem.W.Frag) (hP : X.prog = P := by rfl) (hw : X.w = w := by rfl) (hK : X.K = K := by rfl) (hc : X.calm = true := by rfl) : CallR X (.type "set") (rSetTx P w K) := by
  subst hP hw hK
  intro pins s σ H vs us Q I r h
  obtain ⟨ks, h1, room, q⟩ := h
  have room : ∀ (h : Heap) (i c : Nat), i < ks.length → c ≤ i → SetG (PySem.strKind X.prog X.w) h s.heap.objs.size (fun j => decide (j ∈ ks.take i)) c → c + 1 < scanBound := fun h i c hi hc z => by
    rcases room with r | ⟨U, hU, r⟩
    · omega
    · obtain ⟨l, l1, l2, l3⟩ := z.keys
      have sub : ∀ y ∈ l, y ∈ U := fun y hy => hU y (List.mem_of_mem_take (of_decide_eq_true ((l3 y).mpr hy)))
      by_cases g : U.length ≤ l.length
      · have := (perm_of_sub l U l1 sub g).length_eq
        omega
      · omega
  have fin : ∀ (h' : Heap) (tk c : Nat), SetG (PySem.strKind X.prog X.w) h' s.heap.objs.size (fun j => decide (j ∈ ks)) c → c ≤ ks.length → (∀ b o, s.heap.get? b = some o → h'.get? b = some o) → EP X pins σ Q (.ref s.heap.objs.size) { s with heap := h', toks := tk } :=
    fun h' tk c z _ up => ⟨.ref _, _, I.laid (t' := tk) up (Nat.le_refl _) (setT_new z), rfl, q _ c (I.hok.fresh (Nat.le_refl _))⟩
  rcases h1 with ⟨l, rfl, hq⟩ | ⟨x, rfl, rfl⟩
  · obtain rfl := Vals.ref1 r
    obtain ⟨its, rv, pl, _⟩ := I.list hq
    have ln := rv.length
    rw [List.length_map] at ln
    refine call_setW ks (I.ok.hd hc) (fun s1 up => (show s1.TypeIs (.ref l) "list" from by obtain ⟨o, e, c⟩ := pl.isList.typeIs; exact ⟨o, up _ _ e, c⟩)) PySem.F.sub_list_set PySem.F.sub_list_frozenset (by decide) (begun_list pl.isList) (by rw [List.size_toArray, ln]) room (fun i u hu => ?_) fin
    have hu' : its[i]? = some u := by simpa using hu
    have hi : i < ks.length := by
      have := (List.getElem?_eq_some_iff.mp hu').1
      omega
    obtain ⟨u2, e2, t, r2⟩ := rv.get (i := i) (x := .str ks[i]) (by rw [List.getElem?_map, List.getElem?_eq_getElem hi]; rfl)
    rw [hu'] at e2
    cases e2
    subst r2
    exact ⟨_, List.getElem?_eq_getElem hi, PySem.strKind_is _ _ _ _, rfl⟩
  · obtain ⟨u, rfl, t, rfl⟩ := vals1 r
    refine call_setW (x.cps.toList.map one) (I.ok.hd hc) (fun s1 up => rfl) ?_ ?_ (by decide) (begun_text x t) (by rw [List.length_map, Array.length_toList]) room (fun i u hu => ?_) fin
    · rw [isSubtype_type]; kernel_rfl
    · rw [isSubtype_type]; kernel_rfl
    · obtain ⟨c, t2, e, rfl⟩ := hu
      refine ⟨one c, ?_, PySem.strKind_is _ _ _ _, rfl⟩
      rw [List.getElem?_map, Array.getElem?_toList, e]
      rfl

/-- len of such a set -/
def rLenT (P : Program) (w : World) : List V → Hp → VK → Prop := fun vs H Q => ∃ (p : Addr) (M : Str → Bool) (n : Nat), vs = [.ref p] ∧ H p = some (SetT P w p M n) ∧
  ∀ l : List Str, l.Nodup → l.length = n → (∀ k, M k = true ↔ k ∈ l) → Q (.int (n : Int)) H
theorem call_lenT (P : Program) (w : World) (hP : X.prog = P := by rfl) (hw : X.w = w := by rfl) : CallR X (.builtin "len") (rLenT P w) := by
  subst hP hw
  intro pins s σ H vs us Q I r h
  obtain ⟨p, M, n, rfl, hp, q⟩ := h
  obtain rfl := Vals.ref1 r
  have z := setT_get I hp
  obtain ⟨l, l1, l2, l3⟩ := z.keys
  obtain ⟨ob, es, ep, tb, ⟨h1, h2, h3⟩, _, _, _, ⟨h7, h8, h9⟩, _⟩ := z
  refine call_len_set h1 h2 h3 h8 (by unfold scanBound at h7; omega) ⟨.int (n : Int), H, I.kept (t' := s.toks + 1 + 1) fun _ _ e => e, ⟨_, by rw [h9]⟩, q l l1 l2 l3⟩
/-- sorted of such a set of fewer than 64 -/
def rSortT (P : Program) (w : World) : List V → Hp → VK → Prop := fun vs H Q => ∃ (p : Addr) (M : Str → Bool) (n : Nat), vs = [.ref p] ∧ H p = some (SetT P w p M n) ∧
  (∀ l : List Str, l.Nodup → l.length = n → (∀ k, M k = true ↔ k ∈ l) → l.length < 64) ∧
  ∀ (l : List Str) (D : Addr), l.Nodup → (∀ k, M k = true ↔ k ∈ l) → sortedS l = true → H D = none → Q (.ref D) (upd H D (.lst (l.map V.str)))
theorem call_sortT (P : Program) (w : World) (hP : X.prog = P := by rfl) (hw : X.w = w := by rfl) (hc : X.calm = true := by rfl) : CallR X (.builtin "sorted") (rSortT P w) := by
  subst hP hw
  intro pins s σ H vs us Q I r h
  obtain ⟨p, M, n, rfl, hp, few, q⟩ := h
  obtain rfl := Vals.ref1 r
  have z := setT_get I hp
  obtain ⟨l, l1, l2, l3⟩ := z.keys
  have h64 := few l l1 l2 l3
  obtain ⟨ob, es, ep, tb, ⟨h1, h2, h3⟩, h4, h5, h6, ⟨h7, h8, h9⟩, h10, h11⟩ := z
  refine Calls.call_function_entry kind_sorted plain_sorted entry_sorted (args_sorted1 _) ?_
  unfold Builtin.«sorted»
  refine wpAny_bind (m := checkCount "sorted" 1 1 _) (wpAny_pure ?_)
  refine wpAny_bind (collect_set (A := X.A.in1) (I.ok.hd hc) ⟨ob, h1, h2.1, h3⟩ h8 h7 h10 h11 fun s1 vs k1 hz g1 o1 pm => ?_)
  have vl : vs.length = n := by rw [pm.length_eq, List.length_map, Array.length_toList]; exact h9
  have hS : StrsAre vs (vs.map strOf) := by
    have gen : ∀ us : List Value, (∀ u ∈ us, ∃ k t, u = Value.str k t) → StrsAre us (us.map strOf) := by
      intro us
      induction us with
      | nil => intro _; exact .nil
      | cons u us ih =>
        intro hu
        obtain ⟨k, t, rfl⟩ := hu u List.mem_cons_self
        exact .cons k t (ih fun v hv => hu v (List.mem_cons_of_mem _ hv))
    refine gen vs fun v hv => ?_
    obtain ⟨x, hx, e⟩ := List.mem_map.mp (pm.mem_iff.mp hv)
    obtain ⟨⟨k, hk, _⟩, _⟩ := h4 x hx
    obtain ⟨t, e2⟩ := Value.isStrOf_shape hk
    exact ⟨k, t, by rw [← e, e2]⟩
  have mem : ∀ k, M k = true ↔ k ∈ vs.map strOf := fun k => by
    rw [h5 k, List.mem_map]
    refine ⟨fun ⟨x, hx, q⟩ => ?_, fun ⟨v, hv, e⟩ => ?_⟩
    · obtain ⟨t, e2⟩ := Value.isStrOf_shape q
      exact ⟨x.2, pm.mem_iff.mpr (List.mem_map.mpr ⟨x, hx, rfl⟩), by rw [e2]; rfl⟩
    · obtain ⟨x, hx, e2⟩ := List.mem_map.mp (pm.mem_iff.mp hv)
      obtain ⟨⟨k2, hk, _⟩, _⟩ := h4 x hx
      obtain ⟨t, e3⟩ := Value.isStrOf_shape hk
      refine ⟨x, hx, ?_⟩
      have e4 : k2 = k := by rw [← e, ← e2, e3]; rfl
      rw [← e4]
      exact hk
  have nd : (vs.map strOf).Nodup := by
    have a : (vs.map strOf).length = l.length := by rw [List.length_map, vl, l2]
    have sub : ∀ k ∈ l, k ∈ vs.map strOf := fun k hk => (mem k).mp ((l3 k).mpr hk)
    exact (perm_of_sub l _ l1 sub (by omega)).nodup_iff.mp l1
  refine wpAny_bind (wpAny_newList ?_ (by rw [vl, sizeLine_eq]; omega))
  have hL : (s1.heap.push (seqObj "list" vs.toArray 0)).get? s1.heap.objs.size = some (seqObj "list" vs.toArray 0) := Heap.get?_push_size _ rfl
  refine wpAny_bind (wpAny_holding (wpAny_call_entry slot_list_sort ⟨_, hL, rfl⟩ entry_list_sort (list_sort_treeK strKind_oneLt hL hS.keysOf (fun v1 v2 rest e => keyKind_strs (by rw [← e]; exact hS)) (by rw [vl, ← l2]; exact h64) fun st' hp hs => ⟨_, rfl, ?_⟩) (args_list_sort _)))
  obtain ⟨ys, a1, a2, a3⟩ := sorted_out_str hS hp hs
  obtain ⟨c, hc2⟩ := sortedHeap_at (vs := vs) (out := (arrOf st').map (·.2)) hL
  refine wpAny_pure ⟨_, rfl, ?_⟩
  have ln : (ys.map V.str).length ≤ sizeLine := by rw [List.length_map, a2.length_eq, List.length_map, vl, sizeLine_eq]; omega
  have hn : H s1.heap.objs.size = none := I.hok.fresh hz
  have kept : ∀ b u, s.heap.get? b = some u → (sortedHeap (s1.heap.push (seqObj "list" vs.toArray 0)) s1.heap.objs.size vs ((arrOf st').map (·.2))).get? b = some u := fun b u e => by
    have q2 := k1 b u e
    have lt := Heap.lt_size q2
    rw [sortedHeap_old (Nat.ne_of_lt lt) (by rw [size_push']; exact Nat.lt_succ_of_lt lt)]
    exact Heap.get?_push_of_some _ q2
  have J : Inv X pins σ (upd H s1.heap.objs.size (.lst (ys.map V.str))) { s with heap := sortedHeap (s1.heap.push (seqObj "list" vs.toArray 0)) s1.heap.objs.size vs ((arrOf st').map (·.2)), gens := s1.gens, drawn := s1.drawn, toks := s1.toks } :=
    I.call (ch := []) (Un.laid kept hz hn) (I.hok.laid kept hz ⟨ln, _, c, vals_of_strs a1, hc2⟩) (by rw [g1]; exact I.bare) (fun _ z => nomatch z)
  refine ⟨.ref s1.heap.objs.size, _, ?_, rfl, q ys _ (a2.nodup_iff.mpr nd) (fun k => by rw [mem k, a2.mem_iff]) a3 hn⟩
  rcases s1 with ⟨h', g', d', t', o'⟩
  cases o1
  exact J
end
end Z

set_option maxRecDepth 100000
set_option maxHeartbeats 4000000
namespace Z
open PySem PySem.Spec PyProof.Rows L2
/-! ### more comprehensions: over range without draws, over a tuple with draws -/
theorem comp_rngP {ta : TA} {te : TE} {vs : List Nat} {j : Nat} {σ : L2.St} {H : Hp} {Q : VK} (n : Nat) (g : Nat → V) (hz : n ≤ 100000) (h0 : ∀ R : List V → Hp → Prop, R [.int (n : Int)] H → ta σ H R)
    (he : ∀ i, i < n → ∀ H', Same H H' → ∀ Q' : VK, (∀ H'', Same H' H'' → Q' (g i) H'') → te ((σ.set j none).set j (some (.int (i : Int)))) H' Q')
    (k : ∀ D H', H D = none → Same H H' → H' D = some (.lst ((List.range n).map g)) → Q (.ref D) H') (hv : vs = [j] := by rfl) : tLc (iRng1 ta) (gName j) tYes te vs σ H Q := by
  unfold tLc iRng1
  refine h0 _ ⟨n, rfl, by omega, by omega, ?_⟩
  rw [Int.toNat_natCast]
  refine lcM (G := fun _ => True) (hv := hv) walk_rangeV (fun v => match v with | .int i => g i.toNat | v => v) (fun _ _ => trivial) (by rw [rangeV_len]; exact hz) ?_ ?_
  · intro x hx H' s' Q' q
    obtain ⟨i, hi⟩ := List.getElem?_of_mem hx
    obtain ⟨h1, rfl⟩ := rangeV_get hi
    rw [Int.zero_add] at q ⊢
    exact he i h1 H' s' Q' q
  · intro D H' h1 h2 h3
    refine k D H' h1 h2 ?_
    rw [h3]
    unfold rangeV
    rw [List.map_map]
    congr 2
    refine List.map_congr_left fun i _ => ?_
    show g ((0 : Int) + (i : Int)).toNat = g i
    rw [Int.zero_add, Int.toNat_natCast]
theorem comp_tupD {K : PySem.W.Frag} {ω : Bg} {ta te : TE} {vs : List Nat} {j : Nat} {σ : L2.St} {H : Hp} {Q : VK} (xs : List V) (B : Addr → Bool) (wd : Wd K B ω H) (P : Nat → V → Hp → Prop) (mono : ∀ i y G1 G2, Same G1 G2 → P i y G1 → P i y G2) (hz : xs.length ≤ 100000)
    (h0 : ∀ R : VK, (∀ t, H t = none → R (.ref t) (upd H t (.tup xs))) → ta σ H R)
    (hs : ∀ i x B' H', xs[i]? = some x → (∀ a, B a = true → B' a = true) → Same (hd B H) (hd B' H') → Wd K B' ω H' → ∀ Q' : VK, (∀ y H4, Bag K H4 ω → Go ω.b H' H4 → P i y (hd B' H4) → Q' y H4) → te ((σ.set j none).set j (some x)) H' Q')
    (k : ∀ D acc H', H D = none → acc.length = xs.length → (∀ (i : Nat) y, acc[i]? = some y → P i y (hd (hide D B) H')) → Wd K B ω H' → Go ω.b H H' → H' D = some (.lst acc) → Q (.ref D) H') (hv : vs = [j] := by rfl) : tLc (iTup K ta) (gName j) tYes te vs σ H Q := by
  unfold tLc iTup
  refine h0 _ fun t ht => ⟨t, rfl, ⟨_, st_of upd_same⟩, ?_⟩
  have s := same_new (o := .tup xs) ht
  exact lcE (G := fun H' => SqT K H' t xs) (hv := hv) walk_tup B (wd.same s) P mono (fun H' s' => st_of (hd_same _ _ _ _ (s' _ _ (hd_of (wd.off ht) upd_same)))) hz (fun i x B' H' hx hB s' w' => hs i x B' H' hx hB ((Same.hd s).trans s') w')
    fun D acc H' hD a b c d e => k D acc H' (s.free hD) a b c ((Go.of s).trans d) e
/-- a comprehension over range(n), n drawn first -/
theorem comp_rngT {K : PySem.W.Frag} {ω : Bg} {ta : TA} {te : TE} {vs : List Nat} {j : Nat} {σ : L2.St} {H : Hp} {Q : VK} (hb : Bag K H ω) (Pn : Nat → Prop) (P : Nat → V → Hp → Prop) (mono : ∀ i y G1 G2, Same G1 G2 → P i y G1 → P i y G2) (hz : ∀ n, Pn n → n ≤ 100000)
    (h0 : ∀ R : List V → Hp → Prop, (∀ (n : Nat) H1, Pn n → Bag K H1 ω → Go ω.b H H1 → R [.int (n : Int)] H1) → ta σ H R)
    (hs : ∀ n (i : Nat) B' H', Pn n → i < n → Same (hd (fun q => decide (q = ω.b)) H) (hd B' H') → Wd K B' ω H' → ∀ Q' : VK, (∀ y H4, Bag K H4 ω → Go ω.b H' H4 → P i y (hd B' H4) → Q' y H4) → te ((σ.set j none).set j (some (.int (i : Int)))) H' Q')
    (k : ∀ n D acc H', Pn n → H D = none → acc.length = n → (∀ (i : Nat) y, acc[i]? = some y → P i y (hd (hide D fun q => decide (q = ω.b)) H')) → Bag K H' ω → Go ω.b H H' → H' D = some (.lst acc) → Q (.ref D) H') (hv : vs = [j] := by rfl) : tLc (iRng1 ta) (gName j) tYes te vs σ H Q := by
  unfold tLc iRng1
  refine h0 _ fun n H1 pn g1 go1 => ⟨n, rfl, ?_, ?_, ?_⟩
  · have := hz n pn
    omega
  · have := hz n pn
    omega
  rw [Int.toNat_natCast]
  refine lcE (G := fun _ => True) (hv := hv) walk_rangeV (fun q => decide (q = ω.b)) (Wd.one g1) P mono (fun _ _ => trivial) (by rw [rangeV_len]; exact hz n pn) ?_ ?_
  · intro i x B' H' hx hB s' w' Q' q
    obtain ⟨h1, rfl⟩ := rangeV_get hx
    rw [Int.zero_add]
    exact hs n i B' H' pn h1 ((go1.hd (decide_eq_true rfl)).trans s') w' Q' q
  · intro D acc H' a b c d e f
    rw [rangeV_len] at b
    exact k n D acc H' pn (free_go g1 go1 a) b c d.bag (go1.trans e) f
end Z

set_option maxRecDepth 100000
set_option maxHeartbeats 4000000
namespace Z
open PySem PySem.Spec PyProof.Rows L2
/-! ### the top, told by any looks at the written part -/
abbrev Fz : Type := PySem.W.Frag → Bool
def obsZ (fz : List Fz) (fn : List He.DefD) (K : PySem.W.Frag) : He.AlD := ((fz.all fun f => f K) && fn.all fun d => d.ok K, fn.map fun d => He.fnW K d.at_)
def SaysZ (fz : List Fz) (fn : List He.DefD) (K : PySem.W.Frag) : Prop := obsZ fz fn K = He.valD fn
def obsZG (n : Nat) (fz : List Fz) (fn : List He.DefD) (g : Addr → Option Obj) : He.AlD := obsZ fz fn (He.frG g (He.asD g n))
def hookZ (n : Nat) (fz : List Fz) (fn : List He.DefD) : PySem.W.Hook where
  α := He.AlD
  obs := fun s => obsZG n fz fn s.heap.get?
  val := fun _ => He.valD fn
  says := fun _ h => ∃ K : PySem.W.Frag, K.In h ∧ SaysZ fz fn K
  of := fun _ _ e => ⟨_, He.frG_in, e⟩
  keeps := fun _ _ _ ⟨K, hK, c⟩ k => ⟨K, PySem.W.Frag.In.keeps hK k, c⟩
theorem obsZG_eq {n : Nat} {fz : List Fz} {fn : List He.DefD} {g : Addr → Option Obj} {s : Shared} (h : ∀ a, g a = s.heap.get? a) : obsZG n fz fn g = (hookZ n fz fn).obs s := by
  have e : g = s.heap.get? := funext h
  subst e
  rfl
section
variable {fz : List Fz} {fn : List He.DefD} {K : PySem.W.Frag}
theorem SaysZ.fact (c : SaysZ fz fn K) (i : Nat) {f : Fz} (h : fz[i]? = some f := by rfl) : f K = true := by
  have e : ((fz.all fun f => f K) && fn.all fun d => d.ok K) = true := congrArg Prod.fst c
  exact List.all_eq_true.mp (Bool.and_eq_true_iff.mp e).1 f (List.mem_of_getElem? h)
theorem SaysZ.def_ (c : SaysZ fz fn K) (i : Nat) {d : He.DefD} (h : fn[i]? = some d := by rfl) : ∃ fd, FunD K d.name d.qual d.params d.body d.scope (d.dvs K) (d.kws K) (He.fAd K d.at_) fd := by
  have e : ((fz.all fun f => f K) && fn.all fun d => d.ok K) = true := congrArg Prod.fst c
  have e2 : fn.map (fun d => He.fnW K d.at_) = fn.map He.DefD.val := congrArg Prod.snd c
  have e3 : (fn.map fun d => He.fnW K d.at_)[i]? = (fn.map He.DefD.val)[i]? := by rw [e2]
  rw [List.getElem?_map, List.getElem?_map, h] at e3
  exact He.DefD.funD (Option.some.inj e3) (List.all_eq_true.mp (Bool.and_eq_true_iff.mp e).2 d (List.mem_of_getElem? h))
end
/-! ### own exception classes -/
/-- an own exception class at C -/
structure ExF (K : PySem.W.Frag) (C : Addr) : Prop where
  xf : XfC K C
  cls : (PySem.W.clsIn K C).isSome = true
  kp : PySem.W.keepIn K (.ref C) = true
  ty : PySem.W.typeIn K (.ref C) = some (.type "type")
  ca : PySem.W.findIn K (.ref C) "__class__" = some (some (.builtin "object.__class__"))
  gt : PySem.W.specialIn K (.builtin "object.__class__") "__get__" = some (some (.builtin "getset_descriptor.__get__"))
  tk : PySem.W.takesIn K (.builtin "object.__class__") = some true
  ob : PySem.W.mroIn K C (.type "object") = some true
def exfB (K : PySem.W.Frag) (C : Addr) : Bool := xfB K C && ((PySem.W.clsIn K C).isSome && (PySem.W.keepIn K (.ref C) && (decide (PySem.W.typeIn K (.ref C) = some (.type "type")) && (decide (PySem.W.findIn K (.ref C) "__class__" = some (some (.builtin "object.__class__"))) &&
  (decide (PySem.W.specialIn K (.builtin "object.__class__") "__get__" = some (some (.builtin "getset_descriptor.__get__"))) && (decide (PySem.W.takesIn K (.builtin "object.__class__") = some true) && decide (PySem.W.mroIn K C (.type "object") = some true)))))))
theorem exfB_ok {K : PySem.W.Frag} {C : Addr} (h : exfB K C = true) : ExF K C := by
  obtain ⟨h1, h⟩ := Bool.and_eq_true_iff.mp h
  obtain ⟨h2, h⟩ := Bool.and_eq_true_iff.mp h
  obtain ⟨h3, h⟩ := Bool.and_eq_true_iff.mp h
  obtain ⟨h4, h⟩ := Bool.and_eq_true_iff.mp h
  obtain ⟨h5, h⟩ := Bool.and_eq_true_iff.mp h
  obtain ⟨h6, h⟩ := Bool.and_eq_true_iff.mp h
  obtain ⟨h7, h8⟩ := Bool.and_eq_true_iff.mp h
  exact ⟨xfB_ok h1, h2, h3, of_decide_eq_true h4, of_decide_eq_true h5, of_decide_eq_true h6, of_decide_eq_true h7, of_decide_eq_true h8⟩
theorem ExF.raises {X : Cx} {C : Addr} (T : ExF X.K C) : Raises X (.ref C) := raises_own T.xf.exC T.ty
/-- with an __init__ of its own -/
def oexB (K : PySem.W.Frag) (C : Addr) : Bool := (match K.lookup C with
  | some ⟨.type "type", _, .cls cd, sl⟩ => (match cd.mro, sl.toList with
    | .ref D :: bm, [_, _, _, _, some (.builtin n), _] => decide (D = C) && (decide (n = "ValueError.__new__") && (!cd.hasDel && (cd.hasDict && PySem.HandSPX.refsVE bm)))
    | _, _ => false)
  | _ => false) && (decide (PySem.W.findIn K (.ref C) "__setattr__" = some (some (.builtin "object.__setattr__"))) && (decide (PySem.W.subIn K (.ref C) (.type "BaseException") = some true) &&
    (decide (PySem.W.typeIn K (.ref C) = some (.type "type")) && PySem.W.keepIn K (.ref C))))
theorem oexB_ok {K : PySem.W.Frag} {C : Addr} (h : oexB K C = true) : OexC K C := by
  obtain ⟨h1, h⟩ := Bool.and_eq_true_iff.mp h
  obtain ⟨h2, h⟩ := Bool.and_eq_true_iff.mp h
  obtain ⟨h3, h⟩ := Bool.and_eq_true_iff.mp h
  obtain ⟨h4, h5⟩ := Bool.and_eq_true_iff.mp h
  refine ⟨?_, of_decide_eq_true h2, of_decide_eq_true h3, of_decide_eq_true h4, h5⟩
  split at h1
  · rename_i dd cd sl ho
    split at h1
    · rename_i D bm k0 k1 k2 k3 n k5 hm hs
      simp only [Bool.and_eq_true, decide_eq_true_eq, Bool.not_eq_true'] at h1
      obtain ⟨rfl, rfl, e1, e2, e3⟩ := h1
      obtain ⟨nm, bs, mro, ns, qn, hd, sn, sub, ab, col, del⟩ := cd
      dsimp only at hm e1 e2
      subst hm e1 e2
      have hsl : sl = #[k0, k1, k2, k3, some (.builtin "ValueError.__new__"), k5] := by
        obtain ⟨l⟩ := sl
        simp only at hs
        rw [hs]
      subst hsl
      exact ⟨nm, qn, ns, bs, bm, sn, sub, ab, col, dd, k0, k1, k2, k3, k5, ho, e3⟩
    · cases h1
  · cases h1
section
variable {X : Cx} {C : Addr} {B newId initId : String} {bmB : List Value}
/-- C() of a class without an __init__ of its own -/
theorem pmk_0 {x : Str} {p pos : Pos} (T : ExF X.K C) (q : PySem.W.excIn X.K C He.veBase "ValueError.__new__" = true) (gC : X.mg x = some (.ref C)) (hg : Gl X x) (hdb : (x == ("__debug__" : Str)) = false := by decide) :
    PMk X (.Call (.Name x p) [] [] pos) (fun _ H Q => Q (.ref C) none H) := by
  intro pins s σ H Q I h
  refine wpAny_Call_Name_kw (ld_glob I hg gC ?_ hdb)
  refine PySem.W.callWith_K0 I.kIn T.kp ?_
  show wpAny _ _ (call (.ref C) []) _ _ _
  obtain ⟨bm, N, nm, qn, bs, hdct, sn, sub, ab, col, dd, k0, k1, k2, k3, k5, mN, hC, hN, hni, T2⟩ := exc_obj I.kIn q
  obtain ⟨hp, g, d, t, os⟩ := s
  refine wpAny_call_exc_subT PySem.F.excBase_ValueError T2 hC hN hni (fun h' e hm => ?_) (Nat.zero_le _)
  exact mk_of I hm T.raises h (I.hok.gone hm.new)
end
/-! ### isinstance of a caught exception -/
theorem instAt {P : Program} {w : World} {H : Hp} {h : Heap} {a C : Addr} {oe : Obj} {d : Option Addr} (hok : HOk P w H h) (hget : h.get? a = some oe) (hz : Zc (.ref C) d oe) (hf : ∃ vs, oe.data = .fields vs) (hd : d = none ∨ ∃ dd fs, d = some dd ∧ H dd = some (.xd fs)) :
    ∃ od, PySem.W.InstAt h a oe C od := by
  obtain ⟨vs, hv⟩ := hf
  rcases hd with hd | ⟨dd, fs, hd, hx⟩
  · refine ⟨none, hget, hz.1, by unfold PySem.W.notCls; rw [hv] <;> rfl, ?_⟩
    rw [hz.2, hd]
    trivial
  · have q : ObjOk P w H h dd (.xd fs) := hok dd _ hx
    obtain ⟨mA, hns, _⟩ := q
    obtain ⟨od, ho, _⟩ := lookIn_ns hns
    refine ⟨some od, hget, hz.1, by unfold PySem.W.notCls; rw [hv] <;> rfl, ?_⟩
    rw [hz.2, hd]
    exact ho
/-- isinstance(e, c), isinstance(e, (c, ..)): e at a -/
def rIsX (K : PySem.W.Frag) (cls : Value) (d : Option Addr) (a : Addr) : List V → Hp → VK → Prop := fun vs H Q => ∃ (C : Addr), cls = .ref C ∧ ExF K C ∧ (d = none ∨ ∃ dd fs, d = some dd ∧ H dd = some (.xd fs)) ∧
  ((∃ (c : V) (cv : Value) (b : Bool), vs = [.ref a, c] ∧ (∀ u, RelV c u → u = cv) ∧ PySem.W.kitOne K (.ref C) cv = some b ∧ Q (.bl b) H) ∨
    ∃ (p : Addr) (cs : List V) (b : Bool), vs = [.ref a, .ref p] ∧ H p = some (.tup cs) ∧ (∀ us, Vals cs us → PySem.W.kitAny K (.ref C) us = some b) ∧ Q (.bl b) H)
theorem call_isX {X : Cx} {a : Addr} {cls : Value} {d : Option Addr} {oe : Obj} {pn : List (Addr × Obj)} (K : PySem.W.Frag) (hz : Zc cls d oe) (hf : ∃ vs, oe.data = .fields vs) (hK : X.K = K := by rfl) : CallR (X.suite a ((a, oe) :: pn)) (.builtin "isinstance") (rIsX K cls d a) := by
  subst hK
  intro pins s σ H xs us Q I r h
  obtain ⟨C, rfl, T, hd, h⟩ := h
  obtain ⟨hget, _⟩ := I.pin (a, oe) (List.mem_append.mpr (.inl List.mem_cons_self))
  obtain ⟨od, J⟩ := instAt I.hok hget hz hf hd
  have Z := PySem.W.kitx_exc (x := a) (od := od) (ox := oe) T.cls T.xf.ga T.xf.gg T.xf.exC T.ca T.gt T.tk T.ob
  rcases h with ⟨c, cv, b, rfl, hcv, e, q⟩ | ⟨p, cs, b, rfl, hp, e, q⟩
  · cases r with
    | cons rx rr =>
      cases rr with
      | cons rt rr =>
        cases rr
        cases rx
        have ec := hcv _ rt
        subst ec
        exact PySem.W.kia_one Z I.kIn J e (fun z => nomatch z) fun tk => ⟨.bl b, H, I.kept (t' := tk) fun _ _ z => z, rfl, q⟩
  · cases r with
    | cons rx rr =>
      cases rr with
      | cons rt rr =>
        cases rr
        cases rx
        cases rt
        obtain ⟨_, us, rv, ⟨oc, odd, odt, osl⟩, ho, hc, n, hdt⟩ := I.hok p _ hp
        dsimp only at hc hdt
        subst hc hdt
        exact PySem.W.kia_tup Z I.kIn J ho (by simpa using e _ rv) (fun z => nomatch z) fun tk => ⟨.bl b, H, I.kept (t' := tk) fun _ _ z => z, rfl, q⟩
/-! ### defs that may raise, called by their names -/
section
variable {X : Cx} {k j : Nat} {x : Str} {sp : Sp} {CX : CXT} {E : L2.St → XK} {p pos : Pos} {e : Expr} {es : List Expr} {t : TA}
theorem pe_cgS (c : Cg X.prog X.w X.K X.mg X.base CX k x sp) (hr : Room j X.A) (gd : X.A.guards = some []) (hk : k ≤ j) (hg : Gl X x) (hx : ∀ σ, PassesAt CX X σ (E σ)) (ha : PA X (e :: es) t)
    (hdb : (x == ("__debug__" : Str)) = false := by decide) (he : starEach (e :: es) X.env = (false, eval e X.env) :: starEach es X.env := by rfl) (hpl : (backTo pos (starEach es X.env)).any (·.1) = false := by rfl) :
    PE X (.Call (.Name x p) (e :: es) [] pos) (tCallS sp E t) := by
  obtain ⟨f, fd, ps, F, hm, kp, b⟩ := c.ex
  refine ⟨fun pins s σ H Q I w1 => ?_⟩
  refine wpAny_Call_Name_kw (ld_glob I hg hm ?_ hdb)
  refine PySem.W.callWith_K (h₀ := X.base) I.ok.mod.kin kp (thn (ha.run pos pins s σ H _ I w1) ?_) he hpl
  rintro us s1 ⟨vs, H1, I1, r, w2⟩
  refine ⟨I1.kIn, ?_⟩
  have hl : us.length = ps.length := by
    rw [← r.length]
    exact F.len _ _ _ _ w2
  have bi := b s1 us I1.kIn (by rw [List.append_nil]; exact hl)
  rw [List.append_nil] at bi
  refine wpAny_call (codeAny_mono (F.run X.A X.stack s1 H1 ⟨us, []⟩ us vs Q (E σ) (hr.mono hk) gd I1.env0 bi r w2) ?_)
  intro r s' q
  cases r with
  | error z => exact hx σ pins H1 s1 z s' I1 q
  | ok fl =>
    cases fl with
    | ret u => exact I1.after q
    | next => exact q.elim
    | brk => exact q.elim
    | cont => exact q.elim
/-- what a def's body wishes of a callee's exception: its own wish -/
theorem pass_up {E : XK} {E₁ : Value → Shared → Prop} (hs : X.stack = X.env :: X.outer) (hf : X.env.frame = some X.env.locals) (hex : X.ex = [])
    (hx : X.xe = fun e s' => wpAny (model X.prog X.w) X.A (leaving X.env e) (fun _ s'' => L2.CX X.prog X.w X.outer X.H_0 X.s_0 E e s'') E₁ s') : Passes (L2.CX X.prog X.w) X E :=
  passes_call (takes_of hs hf hex hx) fun _ _ _ _ h => h
end
/-! ### classes whose __init__ keeps what is handed in -/
structure IniC (K : PySem.W.Frag) (C fI : Addr) (fs : List Str) : Prop where
  oex : OexC K C
  ini : PySem.W.findIn K (.ref C) "__init__" = some (some (.ref fI))
  tyf : PySem.W.typeIn K (.ref fI) = some (.type "function")
  no : ∀ f ∈ fs, PySem.W.findIn K (.ref C) f = some none
def iniB (K : PySem.W.Frag) (x : Str) (fs : List Str) : Bool := oexB K (He.ga K x) && (decide (PySem.W.findIn K (.ref (He.ga K x)) "__init__" = some (some (.ref (He.ma K (He.ga K x) "__init__")))) &&
  (decide (PySem.W.typeIn K (.ref (He.ma K (He.ga K x) "__init__")) = some (.type "function")) && fs.all fun f => decide (PySem.W.findIn K (.ref (He.ga K x)) f = some none)))
theorem iniB_ok {K : PySem.W.Frag} {x : Str} {fs : List Str} (h : iniB K x fs = true) : IniC K (He.ga K x) (He.ma K (He.ga K x) "__init__") fs := by
  obtain ⟨h1, h⟩ := Bool.and_eq_true_iff.mp h
  obtain ⟨h2, h⟩ := Bool.and_eq_true_iff.mp h
  obtain ⟨h3, h4⟩ := Bool.and_eq_true_iff.mp h
  exact ⟨oexB_ok h1, of_decide_eq_true h2, of_decide_eq_true h3, fun f m => of_decide_eq_true (List.all_eq_true.mp h4 f m)⟩
/-- __init__(self, f) -/
def spIni1 (C : Addr) (f : Str) : Sp := fun vs H Q _ => ∃ a v, vs = [.ref a, v] ∧ H a = some (exo a C none) ∧ ∀ dx, H dx = none → dx ≠ a → Q .non (upd (upd H dx (exd dx [(f, v)])) a (exo a C (some dx)))
/-- __init__(self, f, g) -/
def spIni2 (C : Addr) (f g : Str) : Sp := fun vs H Q _ => ∃ a v u, vs = [.ref a, v, u] ∧ H a = some (exo a C none) ∧
  ∀ dx, H dx = none → dx ≠ a → Q .non (upd (upd (upd H dx (exd dx [(f, v)])) a (exo a C (some dx))) dx (exd dx [(g, u), (f, v)]))
/-- X, whose __init__ keeps one thing -/
structure Mk1 (P : Program) (w : World) (K : PySem.W.Frag) (mg : Str → Option Value) (base : Heap) (x f : Str) : Prop where
  g : mg x = some (.ref (He.ga K x))
  i : IniC K (He.ga K x) (He.ma K (He.ga K x) "__init__") [f]
  fn : ∃ fd ps, FnOk P w K mg base CX0 1 (He.ma K (He.ga K x) "__init__") fd ps (spIni1 (He.ga K x) f) ∧ Binds K fd ps []
structure Mk2 (P : Program) (w : World) (K : PySem.W.Frag) (mg : Str → Option Value) (base : Heap) (x f g : Str) : Prop where
  gl : mg x = some (.ref (He.ga K x))
  i : IniC K (He.ga K x) (He.ma K (He.ga K x) "__init__") [f, g]
  fn : ∃ fd ps, FnOk P w K mg base CX0 1 (He.ma K (He.ga K x) "__init__") fd ps (spIni2 (He.ga K x) f g) ∧ Binds K fd ps []
def mk1 (C : Addr) (f : Str) (Q : XK) : List V → Hp → Prop := fun vs H => ∃ v, vs = [v] ∧ ∀ d, H d = none → Q (.ref C) (some d) (upd H d (.xd [(f, v)]))
def mk2 (C : Addr) (f g : Str) (Q : XK) : List V → Hp → Prop := fun vs H => ∃ v u, vs = [v, u] ∧ ∀ d, H d = none → Q (.ref C) (some d) (upd H d (.xd [(g, u), (f, v)]))
/-- what is wished may be weakened -/
def tImp (ta : TA) : TA := fun σ H R => ∃ S, ta σ H S ∧ ∀ vs H1, S vs H1 → R vs H1
section
variable {X : Cx} {x f g : Str} {e : Expr} {es : List Expr} {ta : TA} {k : Nat} {p pos : Pos}
theorem pa_imp (ha : PA X es ta) : PA X es (tImp ta) := ⟨fun pos pins s σ H R I ⟨S, h1, h2⟩ => thn (ha.run pos pins s σ H S I h1) fun us s1 ⟨vs, H1, I1, r, q⟩ => ⟨vs, H1, I1, r, h2 vs H1 q⟩⟩
theorem back_heap {H1 : Hp} {a d : Addr} {o u v z : HO} (ha : H1 a = none) (hd : H1 d = none) (n : d ≠ a) : upd (del (upd (upd (upd H1 a o) d u) a v) a) d z = upd H1 d z := by
  funext b
  by_cases h1 : b = d
  · rw [h1, upd_same, upd_same]
  · rw [upd_ne h1, upd_ne h1]
    by_cases h2 : b = a
    · rw [h2, del_same, ha]
    · rw [del_ne h2, upd_ne h2, upd_ne h1, upd_ne h2]
theorem back_heap2 {H1 : Hp} {a d : Addr} {o u v y z : HO} (ha : H1 a = none) (hd : H1 d = none) (n : d ≠ a) : upd (del (upd (upd (upd (upd H1 a o) d u) a v) d y) a) d z = upd H1 d z := by
  funext b
  by_cases h1 : b = d
  · rw [h1, upd_same, upd_same]
  · rw [upd_ne h1, upd_ne h1]
    by_cases h2 : b = a
    · rw [h2, del_same, ha]
    · rw [del_ne h2, upd_ne h1, upd_ne h2, upd_ne h1, upd_ne h2]
/-- X(e) -/
theorem pmk_1 (M : Mk1 X.prog X.w X.K X.mg X.base x f) (hr : Room k X.A) (hk : 2 ≤ k) (hg : Gl X x) (ha : PA X (e :: es) ta)
    (hdb : (x == ("__debug__" : Str)) = false := by decide) (he : starEach (e :: es) X.env = (false, eval e X.env) :: starEach es X.env := by rfl) (hpl : (backTo pos (starEach es X.env)).any (·.1) = false := by rfl) :
    PMk X (.Call (.Name x p) (e :: es) [] pos) (fun σ H Q => ta σ H (mk1 (He.ga X.K x) f Q)) := by
  obtain ⟨fd, ps, F, b⟩ := M.fn
  have base := pmk_oex (pos := pos) (p := p) M.i.oex M.i.ini M.i.tyf F (hr.mono hk) b .nil pass0 hg M.g (pa_imp ha) hdb he hpl
  intro pins s σ H Q I h
  refine base pins s σ H Q I ⟨_, h, ?_⟩
  rintro vs H1 ⟨v, rfl, q⟩
  refine ⟨(show 1 ≤ 1000 by decide), fun a na => ⟨a, v, rfl, upd_same, fun dx hd n => ⟨rfl, dx, [(f, v)], upd_same, ?_, ?_, ?_⟩⟩⟩
  · rw [upd_ne n, upd_same]
  · rw [upd_ne n] at hd
    exact hd
  · rw [upd_ne n] at hd
    rw [back_heap na hd n]
    exact q dx hd
/-- X(e, e') -/
theorem pmk_2 (M : Mk2 X.prog X.w X.K X.mg X.base x f g) (hr : Room k X.A) (hk : 2 ≤ k) (hg : Gl X x) (ha : PA X (e :: es) ta)
    (hdb : (x == ("__debug__" : Str)) = false := by decide) (he : starEach (e :: es) X.env = (false, eval e X.env) :: starEach es X.env := by rfl) (hpl : (backTo pos (starEach es X.env)).any (·.1) = false := by rfl) :
    PMk X (.Call (.Name x p) (e :: es) [] pos) (fun σ H Q => ta σ H (mk2 (He.ga X.K x) f g Q)) := by
  obtain ⟨fd, ps, F, b⟩ := M.fn
  have base := pmk_oex (pos := pos) (p := p) M.i.oex M.i.ini M.i.tyf F (hr.mono hk) b .nil pass0 hg M.gl (pa_imp ha) hdb he hpl
  intro pins s σ H Q I h
  refine base pins s σ H Q I ⟨_, h, ?_⟩
  rintro vs H1 ⟨v, u, rfl, q⟩
  refine ⟨(show 2 ≤ 1000 by decide), fun a na => ⟨a, v, u, rfl, upd_same, fun dx hd n => ⟨rfl, dx, [(g, u), (f, v)], ?_, upd_same, ?_, ?_⟩⟩⟩
  · rw [upd_ne (Ne.symm n), upd_same]
  · rw [upd_ne n] at hd
    exact hd
  · rw [upd_ne n] at hd
    rw [back_heap2 na hd n]
    exact q dx hd
end
/-! ### all of a law's exception classes -/
structure Excs (K : PySem.W.Frag) (mg : Str → Option Value) (ns plain : List Str) : Prop where
  g : ∀ x ∈ ns, mg x = some (.ref (He.ga K x))
  f : ∀ x ∈ ns, ExF K (He.ga K x)
  q : ∀ x ∈ plain, PySem.W.excIn K (He.ga K x) He.veBase "ValueError.__new__" = true
  k : ∀ x ∈ ns, ∀ y ∈ ns, PySem.W.kitOne K (.ref (He.ga K x)) (.ref (He.ga K y)) = some (decide (x = y) || decide (y = "CellError"))
  m : ∀ x ∈ ns, ∀ y ∈ ns, PySem.W.exmOne K (.ref (He.ga K x)) (.ref (He.ga K y)) = some (decide (x = y) || decide (y = "CellError"))
  v : ∀ x ∈ ns, PySem.W.kitOne K (.ref (He.ga K x)) (.type "ValueError") = some true
def excsB (ns plain : List Str) : Fz := fun K => (ns.all fun x => He.eqO (PySem.W.nsIn K mainGlobals x) (some (some (.ref (He.ga K x))))) && ((ns.all fun x => exfB K (He.ga K x)) && ((plain.all fun x => PySem.W.excIn K (He.ga K x) He.veBase "ValueError.__new__") &&
  ((ns.all fun x => ns.all fun y => decide (PySem.W.kitOne K (.ref (He.ga K x)) (.ref (He.ga K y)) = some (decide (x = y) || decide (y = "CellError")))) &&
    ((ns.all fun x => ns.all fun y => decide (PySem.W.exmOne K (.ref (He.ga K x)) (.ref (He.ga K y)) = some (decide (x = y) || decide (y = "CellError")))) && ns.all fun x => decide (PySem.W.kitOne K (.ref (He.ga K x)) (.type "ValueError") = some true)))))
theorem excs_ok {K : PySem.W.Frag} {h : Heap} {mg : Str → Option Value} {ns plain : List Str} (X : K.In h) (G : h.Ns mainGlobals mg) (c : excsB ns plain K = true) : Excs K mg ns plain := by
  obtain ⟨h1, c⟩ := Bool.and_eq_true_iff.mp c
  obtain ⟨h2, c⟩ := Bool.and_eq_true_iff.mp c
  obtain ⟨h3, c⟩ := Bool.and_eq_true_iff.mp c
  obtain ⟨h4, c⟩ := Bool.and_eq_true_iff.mp c
  obtain ⟨h5, h6⟩ := Bool.and_eq_true_iff.mp c
  exact ⟨fun x m => PySem.W.mg_of X G (He.eqO_ok (List.all_eq_true.mp h1 x m)), fun x m => exfB_ok (List.all_eq_true.mp h2 x m), fun x m => List.all_eq_true.mp h3 x m,
    fun x m y n => of_decide_eq_true (List.all_eq_true.mp (List.all_eq_true.mp h4 x m) y n), fun x m y n => of_decide_eq_true (List.all_eq_true.mp (List.all_eq_true.mp h5 x m) y n), fun x m => of_decide_eq_true (List.all_eq_true.mp h6 x m)⟩
theorem kit_any {K : PySem.W.Frag} {mg : Str → Option Value} {ns pl : List Str} (x : Excs K mg ns pl) {D : Str} (hD : D ∈ ns) : ∀ (cs : List Str), (∀ y ∈ cs, y ∈ ns) → ∀ us, Vals (cs.map fun y => V.ref (He.ga K y)) us → PySem.W.kitAny K (.ref (He.ga K D)) us = some (cs.any fun y => decide (D = y) || decide (y = "CellError"))
  | [], _, _, .nil => rfl
  | y :: cs, h, _, .cons r t => by
    cases r
    have e := x.k D hD y (h y List.mem_cons_self)
    have ih := kit_any x hD cs (fun z m => h z (List.mem_cons_of_mem _ m)) _ t
    rw [PySem.W.kitAny, e, List.any_cons]
    cases (decide (D = y) || decide (y = "CellError")) with
    | true => rfl
    | false => exact ih
section
variable {K : PySem.W.Frag} {mg : Str → Option Value} {ns pl : List Str} {H : Hp} {Q : VK} {a : Addr} {d : Option Addr} {D y : Str}
theorem isX1 (x : Excs K mg ns pl) (hD : D ∈ ns) (hy : y ∈ ns) (hd : d = none ∨ ∃ dd fs, d = some dd ∧ H dd = some (.xd fs)) (b : Bool) (hb : (decide (D = y) || decide (y = "CellError")) = b) (q : Q (.bl b) H) : rIsX K (.ref (He.ga K D)) d a [.ref a, .ref (He.ga K y)] H Q :=
  ⟨_, rfl, x.f D hD, hd, .inl ⟨_, _, b, rfl, fun _ h => h, by rw [x.k D hD y hy, hb], q⟩⟩
theorem isXV (x : Excs K mg ns pl) (hD : D ∈ ns) (hd : d = none ∨ ∃ dd fs, d = some dd ∧ H dd = some (.xd fs)) (q : Q (.bl true) H) : rIsX K (.ref (He.ga K D)) d a [.ref a, .ty "ValueError"] H Q :=
  ⟨_, rfl, x.f D hD, hd, .inl ⟨_, _, _, rfl, fun _ h => h, x.v D hD, q⟩⟩
theorem isXT (x : Excs K mg ns pl) (hD : D ∈ ns) (cs : List Str) (hy : ∀ y ∈ cs, y ∈ ns) {p : Addr} (hp : H p = some (.tup (cs.map fun y => V.ref (He.ga K y)))) (hd : d = none ∨ ∃ dd fs, d = some dd ∧ H dd = some (.xd fs)) (b : Bool) (hb : (cs.any fun y => decide (D = y) || decide (y = "CellError")) = b) (q : Q (.bl b) H) :
    rIsX K (.ref (He.ga K D)) d a [.ref a, .ref p] H Q :=
  ⟨_, rfl, x.f D hD, hd, .inr ⟨p, _, b, rfl, hp, fun us r => by rw [kit_any x hD cs hy us r, hb], q⟩⟩
end
/-- a constant tuple of the top, a constant list -/
theorem tup_fact {K : PySem.W.Frag} {x : Str} {vs : List He.Dv} (h : He.tupB K x vs = true) : ∀ H : Hp, SqT K H (He.ga K x) (vs.map (He.Dv.v K)) := fun H => He.tupB_ok h H
end Z

set_option maxRecDepth 100000
set_option maxHeartbeats 4000000
namespace Z
open PySem PySem.Spec PyProof.Rows L2
/-! ### texts cut at one sign -/
/-- cut at every s; acc: what stands ahead -/
def cutL (s : Nat) : List Nat → List Nat → List (List Nat)
  | acc, [] => [acc]
  | acc, c :: r => if c = s then acc :: cutL s [] r else cutL s (acc ++ [c]) r
theorem spl_cut (s : Nat) : ∀ (l acc : List Nat), TL.spl [s] 0 acc l = cutL s acc l
  | [], acc => TL.spl_nil _ _ _
  | c :: r, acc => by
    have ih := spl_cut s r
    by_cases e : c = s
    · have p : TL.pre [s] (c :: r) = true := by rw [e]; simp [TL.pre]
      rw [TL.spl_hit p, cutL, if_pos e]
      exact congrArg _ (ih [])
    · have p : TL.pre [s] (c :: r) = false := by simpa [TL.pre] using e
      rw [cutL, if_neg e, ← ih (acc ++ [c])]
      show (if TL.pre [s] (c :: r) = true then _ else _) = _
      rw [p, if_neg Bool.false_ne_true]
theorem cut_ne (s : Nat) : ∀ (l acc : List Nat), cutL s acc l ≠ []
  | [], acc => by simp [cutL]
  | c :: r, acc => by
    rw [cutL]
    split
    · simp
    · exact cut_ne s r _
theorem cut_len (s : Nat) : ∀ (l acc : List Nat), (cutL s acc l).length ≤ l.length + 1
  | [], acc => by simp [cutL]
  | c :: r, acc => by
    rw [cutL]
    split
    · rw [List.length_cons, List.length_cons]
      have := cut_len s r []
      omega
    · have := cut_len s r (acc ++ [c])
      rw [List.length_cons]
      omega
/-- the parts and what parts them, together -/
theorem cut_sum (s : Nat) : ∀ (l acc : List Nat), ((cutL s acc l).map List.length).sum + (cutL s acc l).length = acc.length + l.length + 1
  | [], acc => by simp [cutL]
  | c :: r, acc => by
    rw [cutL]
    split
    · have := cut_sum s r []
      simp only [List.map_cons, List.sum_cons, List.length_cons, List.length_nil] at *
      omega
    · have := cut_sum s r (acc ++ [c])
      simp only [List.length_append, List.length_cons, List.length_nil] at *
      omega
theorem cut_mem (s : Nat) : ∀ (l acc : List Nat) {r : List Nat} {c : Nat}, r ∈ cutL s acc l → c ∈ r → c ∈ acc ∨ (c ∈ l ∧ c ≠ s)
  | [], acc, r, c, h, m => by
    rw [cutL, List.mem_singleton] at h
    rw [h] at m
    exact .inl m
  | d :: l, acc, r, c, h, m => by
    rw [cutL] at h
    split at h
    · rename_i e
      rcases List.mem_cons.mp h with h | h
      · rw [h] at m
        exact .inl m
      · rcases cut_mem s l [] h m with q | q
        · cases q
        · exact .inr ⟨List.mem_cons_of_mem _ q.1, q.2⟩
    · rename_i e
      rcases cut_mem s l _ h m with q | q
      · rcases List.mem_append.mp q with q | q
        · exact .inl q
        · rw [List.mem_singleton.mp q]
          exact .inr ⟨List.mem_cons_self, e⟩
      · exact .inr ⟨List.mem_cons_of_mem _ q.1, q.2⟩
theorem mem_cut (s : Nat) : ∀ (l acc : List Nat) {c : Nat}, (c ∈ acc ∨ (c ∈ l ∧ c ≠ s)) → ∃ r ∈ cutL s acc l, c ∈ r
  | [], acc, c, h => by
    rcases h with h | h
    · exact ⟨acc, by simp [cutL], h⟩
    · cases h.1
  | d :: l, acc, c, h => by
    rw [cutL]
    split
    · rename_i e
      rcases h with h | ⟨h, n⟩
      · exact ⟨acc, List.mem_cons_self, h⟩
      · rcases List.mem_cons.mp h with h | h
        · exact absurd (h.trans e) n
        · obtain ⟨r, hr, m⟩ := mem_cut s l [] (.inr ⟨h, n⟩)
          exact ⟨r, List.mem_cons_of_mem _ hr, m⟩
    · refine mem_cut s l _ ?_
      rcases h with h | ⟨h, n⟩
      · exact .inl (List.mem_append_left _ h)
      · rcases List.mem_cons.mp h with h | h
        · rw [h]
          exact .inl (List.mem_append_right _ (List.mem_singleton.mpr rfl))
        · exact .inr ⟨h, n⟩
theorem cut_plain (s : Nat) : ∀ (l acc : List Nat), s ∉ l → cutL s acc l = [acc ++ l]
  | [], acc, _ => by rw [cutL, List.append_nil]
  | c :: l, acc, h => by
    rw [cutL, if_neg (fun e => h (by rw [e]; exact List.mem_cons_self)), cut_plain s l _ (fun m => h (List.mem_cons_of_mem _ m)), List.append_assoc]
    rfl
theorem cut_app (s : Nat) : ∀ (l acc m : List Nat), s ∉ l → cutL s acc (l ++ s :: m) = (acc ++ l) :: cutL s [] m
  | [], acc, m, _ => by rw [List.nil_append, cutL, if_pos rfl, List.append_nil]
  | c :: l, acc, m, h => by
    rw [List.cons_append, cutL, if_neg (fun e => h (by rw [e]; exact List.mem_cons_self)), cut_app s l _ m (fun q => h (List.mem_cons_of_mem _ q)), List.append_assoc]
    rfl
/-- the parts, joined again -/
theorem cut_join (s : Nat) : ∀ rows : List (List Nat), rows ≠ [] → (∀ r ∈ rows, s ∉ r) → cutL s [] (TL.joinL [s] rows) = rows
  | [], h, _ => absurd rfl h
  | [r], _, h => by
    show cutL s [] r = _
    rw [cut_plain s r [] (h r List.mem_cons_self), List.nil_append]
  | r :: q :: rs, _, h => by
    show cutL s [] (r ++ ([s] ++ TL.joinL [s] (q :: rs))) = _
    rw [List.singleton_append, cut_app s r [] _ (h r List.mem_cons_self), cut_join s (q :: rs) (by simp) (fun z m => h z (List.mem_cons_of_mem _ m)), List.nil_append]
/-- a text's parts -/
def cutAt (s : Nat) (z : Str) : List Str := (cutL s [] z.cps.toList).map SX.S
theorem split_cut {z : Str} {y : Str} {s : Nat} (hy : y.cps.toList = [s]) (hs : s < 256) : Txt.split z y = cutAt s z := by
  have h1 := TL.split_spl z y (by show y.cps.toList ≠ []; rw [hy]; exact List.cons_ne_nil _ _) (TL.kind_ok (by rw [← Array.all_toList, hy]; simp [hs]))
  have h2 : (Txt.split z y).map TL.tl = cutL s [] z.cps.toList := by
    rw [h1]
    show TL.spl y.cps.toList 0 [] z.cps.toList = _
    rw [hy, spl_cut]
  unfold cutAt
  rw [← h2, List.map_map]
  have e : (SX.S ∘ TL.tl) = id := by
    funext x
    exact SX.S_tl x
  rw [e, List.map_id]
/-! ### how long it goes without the sign -/
def Run (s : Nat) (l : List Nat) (M : Nat) : Prop := ∀ i n, i + n ≤ l.length → (∀ j, j < n → l[i + j]? ≠ some s) → n ≤ M
theorem Run.mono {s : Nat} {l : List Nat} {M N : Nat} (h : Run s l M) (e : M ≤ N) : Run s l N := fun i n a b => Nat.le_trans (h i n a b) e
theorem Run.of_len {s : Nat} {l : List Nat} {M : Nat} (h : l.length ≤ M) : Run s l M := fun i n a _ => by omega
theorem Run.app {s : Nat} {x y : List Nat} {A B : Nat} (hx : Run s x A) (hy : Run s y B) : Run s (x ++ y) (A + B) := by
  intro i n a b
  rw [List.length_append] at a
  by_cases h1 : i + n ≤ x.length
  · have := hx i n h1 fun j hj => by
      have := b j hj
      rwa [List.getElem?_append_left (by omega)] at this
    omega
  · by_cases h2 : x.length ≤ i
    · have := hy (i - x.length) n (by omega) fun j hj => by
        have := b j hj
        rw [List.getElem?_append_right (by omega)] at this
        have e : i + j - x.length = i - x.length + j := by omega
        rwa [e] at this
      omega
    · have p := hx i (x.length - i) (by omega) fun j hj => by
        have := b j (by omega)
        rwa [List.getElem?_append_left (by omega)] at this
      have q := hy 0 (n - (x.length - i)) (by omega) fun j hj => by
        have := b (x.length - i + j) (by omega)
        rw [List.getElem?_append_right (by omega)] at this
        have e : i + (x.length - i + j) - x.length = 0 + j := by omega
        rwa [e] at this
      omega
theorem Run.slash {s : Nat} {x y : List Nat} {M : Nat} (hx : Run s x M) (hy : Run s y M) : Run s (x ++ s :: y) M := by
  intro i n a b
  rw [List.length_append, List.length_cons] at a
  by_cases h1 : i + n ≤ x.length
  · exact hx i n h1 fun j hj => by
      have := b j hj
      rwa [List.getElem?_append_left (by omega)] at this
  · by_cases h2 : x.length < i
    · exact hy (i - x.length - 1) n (by omega) fun j hj => by
        have := b j hj
        rw [List.getElem?_append_right (by omega)] at this
        have e : i + j - x.length = (i - x.length - 1 + j) + 1 := by omega
        rwa [e, List.getElem?_cons_succ] at this
    · exfalso
      refine b (x.length - i) (by omega) ?_
      rw [List.getElem?_append_right (by omega)]
      have e : i + (x.length - i) - x.length = 0 := by omega
      rw [e]
      rfl
theorem Run.take {s : Nat} {x : List Nat} {A : Nat} (h : Run s x A) (k : Nat) : Run s (x.take k) A := by
  intro i n a b
  rw [List.length_take] at a
  exact h i n (by omega) fun j hj => by
    have := b j hj
    rwa [List.getElem?_take, if_pos (by omega)] at this
theorem Run.drop {s : Nat} {x : List Nat} {A : Nat} (h : Run s x A) (k : Nat) : Run s (x.drop k) A := by
  intro i n a b
  rw [List.length_drop] at a
  by_cases z : n = 0
  · omega
  exact h (k + i) n (by omega) fun j hj => by
    have := b j hj
    rw [List.getElem?_drop] at this
    have e : k + (i + j) = k + i + j := by omega
    rwa [e] at this
theorem Run.first {s : Nat} : ∀ {l acc : List Nat} {M : Nat}, Run s (acc ++ l) M → s ∉ acc → ((cutL s acc l).headD []).length ≤ M
  | [], acc, M, h, n => by
    show acc.length ≤ M
    rw [List.append_nil] at h
    exact h 0 acc.length (by omega) fun j hj e => n (List.mem_of_getElem? e)
  | c :: l, acc, M, h, n => by
    rw [cutL]
    split
    · rename_i e
      show acc.length ≤ M
      refine h 0 acc.length (by rw [List.length_append]; omega) fun j hj e2 => n ?_
      rw [Nat.zero_add, List.getElem?_append_left hj] at e2
      exact List.mem_of_getElem? e2
    · rename_i e
      refine Run.first (by rw [List.append_assoc]; exact h) ?_
      rw [List.mem_append, List.mem_singleton]
      rintro (q | q)
      · exact n q
      · exact e q.symm
theorem Run.join {s : Nat} {r : List Nat} {M : Nat} (h : Run s r M) : ∀ k : Nat, Run s (TL.joinL [s] (List.replicate (k + 1) r)) M
  | 0 => h
  | k + 1 => by
    show Run s (r ++ ([s] ++ TL.joinL [s] (List.replicate (k + 1) r))) M
    exact h.slash (Run.join h k)
theorem join_rep_len {s : Nat} {r : List Nat} : ∀ k : Nat, (TL.joinL [s] (List.replicate (k + 1) r)).length = k * (r.length + 1) + r.length
  | 0 => by show r.length = _; omega
  | k + 1 => by
    show (r ++ ([s] ++ TL.joinL [s] (List.replicate (k + 1) r))).length = _
    rw [List.length_append, List.length_append, join_rep_len k, List.length_singleton, Nat.add_mul]
    omega
/-! ### what is walked over a text, a store at the end of a list -/
theorem for_txt {te : TE} {g : TG} {tb : TS} {D : Ends} {σ : L2.St} {H : Hp} (h : te σ H fun x H1 => ∃ z, x = .str z ∧ ForAsk (L2.Its z) g tb D σ H1) : tFor (iStr te) g tb D σ H := h
def rSetL : TSet := fun o i v H Q => onR o fun p => onI i fun k => ∃ xs j, H p = some (.lst xs) ∧ L2.ixN xs.length k = some j ∧ Q (upd H p (.lst (xs.set j v)))
section
variable {X : Cx}
theorem set_L : PSet X rSetL := by
  intro pins s σ H o i v ov iv u Q I ro ri rv h
  obtain ⟨p, rfl, h⟩ := onR_ex h
  obtain ⟨k, rfl, h⟩ := onI_ex h
  obtain ⟨xs, j, h1, h2, h3⟩ := h
  exact set_list pins s σ H _ _ v ov iv u Q I ro ri rv ⟨p, xs, k, j, rfl, rfl, h1, h2, h3⟩
end
theorem ixN_last (n : Nat) : L2.ixN (n + 1) (-1) = some n := by
  unfold L2.ixN
  rw [if_neg (by decide), if_pos (by omega)]
  congr 1
  omega
end Z

set_option maxRecDepth 100000
set_option maxHeartbeats 4000000
namespace Z
open PySem PySem.Spec PyProof.Rows L2
/-! ### several except clauses, each with a name or without -/
/-- the ends of a suite whose name goes -/
def unnamed (i : Nat) (D : Ends) : Ends := { nx := fun σ H => D.nx (σ.set i none) H, rt := D.rt, bk := fun σ H => D.bk (σ.set i none) H, ct := fun σ H => D.ct (σ.set i none) H }
/-- a clause: its class, its name's slot, its suite -/
structure Clause where
  c : Value
  i : Option Nat
  ts : Addr → Value → Option Addr → TS
/-- the suite of a clause that was met -/
def Clause.met (k : Clause) (D : Ends) (cls : Value) (d : Option Addr) (σ : L2.St) (H : Hp) : Prop := ∀ a, H a = none → match k.i with
  | none => k.ts a cls d D σ H
  | some i => k.ts a cls d (unnamed i D) (σ.set i (some (.ref a))) H
/-- one behind the other -/
def wClauses (K : PySem.W.Frag) (Wout : WX) (D : Ends) : List Clause → WX
  | [] => Wout
  | k :: r => fun cls d σ H => ∃ b, PySem.W.exmOne K cls k.c = some b ∧ (b = true → k.met D cls d σ H) ∧ (b = false → wClauses K Wout D r cls d σ H)
abbrev SuiteOk (X : Cx) (body : List Stmt) (ts : Addr → Value → Option Addr → TS) : Prop :=
  ∀ (a : Addr) (oe : Obj) (cls : Value) (d : Option Addr) (pn : List (Addr × Obj)), Zc cls d oe → (∃ vs, oe.data = .fields vs) → PSs (X.suite a ((a, oe) :: pn)) body (ts a cls d)
inductive Clauses (X : Cx) : List ExceptHandler → List Clause → Prop
  | nil : Clauses X [] []
  | plain {x : Str} {c : Value} {ts : Addr → Value → Option Addr → TS} {b₀ : Stmt} {bs : List Stmt} {np p : Pos} {hds : List ExceptHandler} {l : List Clause} (hc : Names X x c) (hs : SuiteOk X (b₀ :: bs) ts) (r : Clauses X hds l) :
      Clauses X (.ExceptHandler (some (.Name x np)) none (b₀ :: bs) p :: hds) (⟨c, none, ts⟩ :: l)
  | named {x n : Str} {i : Nat} {c : Value} {ts : Addr → Value → Option Addr → TS} {b₀ : Stmt} {bs : List Stmt} {np p : Pos} {hds : List ExceptHandler} {l : List Clause} (hi : X.N[i]? = some n) (hl : X.env.kindOf n = some .local) (hc : Names X x c)
      (hs : SuiteOk X (b₀ :: bs) ts) (r : Clauses X hds l) : Clauses X (.ExceptHandler (some (.Name x np)) (some n) (b₀ :: bs) p :: hds) (⟨c, some i, ts⟩ :: l)
section
variable {X : Cx} {pins : List (Addr × Obj)} {σ : L2.St} {H : Hp} {D : Ends} {Wout : WX} {B : Heap} {a : Addr} {cls : Value} {d : Option Addr} {sI s : Shared}
/-- a suite's end, handed on -/
theorem suite_end {oe : Obj} {l : List (Addr × Obj)} (ok : X.Ok) {f : Flow} {s6 : Shared} (h : SP (X.suite a ((a, oe) :: (X.pn ++ pins))) [] D f s6) : SP X pins D f s6 := by
  cases f with
  | next => obtain ⟨σ6, H6, S6, q⟩ := h; exact ⟨_, _, S6.unsuite ok, q⟩
  | brk => obtain ⟨σ6, H6, S6, q⟩ := h; exact ⟨_, _, S6.unsuite ok, q⟩
  | cont => obtain ⟨σ6, H6, S6, q⟩ := h; exact ⟨_, _, S6.unsuite ok, q⟩
  | ret u => obtain ⟨v, σ6, H6, S6, r, q⟩ := h; exact ⟨_, _, _, S6.unsuite ok, r, q⟩
/-- a named suite's end: the name goes -/
theorem named_end {i : Nat} {n : Str} {p : Pos} {oe : Obj} {l : List (Addr × Obj)} (ok : X.Ok) (hN : X.N.Nodup) (hi : X.N[i]? = some n) (hl : X.env.kindOf n = some .local) {f : Flow} {s6 : Shared} (h : SP (X.suite a ((a, oe) :: (X.pn ++ pins))) [] (unnamed i D) f s6) :
    wpAny (model X.prog X.w) X.A (do bindName X.env n .none; unbindBehindTheSuite X.env n p) (fun _ s7 => SP X pins D f s7) X.xe s6 := by
  cases f with
  | next => obtain ⟨σ6, H6, S6, q⟩ := h; exact gone_ok (S6.unsuite ok) hN hi hl fun s7 J7 => ⟨_, _, J7, q⟩
  | brk => obtain ⟨σ6, H6, S6, q⟩ := h; exact gone_ok (S6.unsuite ok) hN hi hl fun s7 J7 => ⟨_, _, J7, q⟩
  | cont => obtain ⟨σ6, H6, S6, q⟩ := h; exact gone_ok (S6.unsuite ok) hN hi hl fun s7 J7 => ⟨_, _, J7, q⟩
  | ret u => obtain ⟨v, σ6, H6, S6, r, q⟩ := h; exact gone_ok (S6.unsuite ok) hN hi hl fun s7 J7 => ⟨_, _, _, J7, r, q⟩
/-- an exception on the ground, before the clauses -/
theorem clauses_run (hs : X.stack = X.env :: X.outer) (hf : X.env.frame = some X.env.locals) (hN : X.N.Nodup) (tk : Takes X Wout) (J : Inv X pins σ H sI) {s' : Shared} (nb : ∀ b o, sI.heap.get? b = some o → b ∉ frs X.stack → B.get? b = some o) (up : sI.heap.UpToSlots s'.heap)
    (na : H a = none) (os : s'.os = sI.os) (ag : AllBare s'.gens) {h3 : Heap} (fl : HandSPX.FlyingZ B (X.env :: X.outer) a (Zc cls d) h3) (up3 : s'.heap.UpToSlots h3) :
    ∀ {hds : List ExceptHandler} {l : List Clause}, Clauses X hds l → wClauses X.K Wout D l cls d σ H → wpAny (model X.prog X.w) X.A (handleBy (.ref a) X.env hds) (SP X pins D) X.xe { s' with heap := h3 } := by
  have ok := J.ok
  have J3 : Inv X pins σ H { s' with heap := h3 } := J.landed nb fl.1 (up.trans up3) os ag
  obtain ⟨oe, vs, he, hz, hd⟩ := fl.there
  have off : a ∉ frs (X.env :: X.outer) := fun hm => by
    obtain ⟨_, o, e, q⟩ := fl.2.2.1.mem hm
    rw [he] at e
    cases e
    exact q _ hd
  have nL : a ≠ X.env.locals := fun z => off (List.mem_filterMap.mpr ⟨X.env, List.mem_cons_self, by rw [hf, z]⟩)
  have nF : a ∉ X.fs := fun hm => by
    obtain ⟨e, h1, q⟩ := List.mem_filterMap.mp hm
    exact off (List.mem_filterMap.mpr ⟨e, List.mem_cons_of_mem _ h1, q⟩)
  have S3 := J3.suite he hd na nL nF
  have asked : ∀ {x : Str} {c : Value} {np : Pos} {b : Bool}, Names X x c → PySem.W.exmOne X.K cls c = some b → ∀ {Q : Value → Shared → Prop} {E : Value → Shared → Prop}, Q c { s' with heap := h3 } →
      wpAny (model X.prog X.w) (X.A.mark (some (.ref a))) (eval (.Name x np) X.env) Q E { s' with heap := h3 } := fun {x c np b} hc _ {Q E} q => by
    obtain ⟨hg, hdb, hm | ⟨hm, hv, hnn⟩⟩ := hc
    · exact ld_glob (X := X.suite a ((a, oe) :: (X.pn ++ pins))) S3 hg hm q hdb
    · exact ld_blt (X := X.suite a ((a, oe) :: (X.pn ++ pins))) S3 hg hm hv q hnn hdb
  have LT : PySem.W.Looks (model X.prog X.w) h3 (typeOf (.ref a)) cls := fun A Q E s k q => wpAny_typeOf_ref (k _ _ he) (by rw [hz.1]; exact q)
  intro hds l hk
  induction hk with
  | nil =>
    intro w
    refine wpAny_handleBy_nil ?_
    obtain ⟨_, _, _, oe', vs', T', _, _, he', _, hd', h1', _⟩ := id fl
    unfold PySem.passOn
    refine wpAny_bind (wpAny_field he' hd' h1' ?_)
    rw [if_neg (show ¬ ((Value.ref T' == Value.none) = true) from by simp)]
    have fin : wpAny (model X.prog X.w) X.A (setFlight (.ref a) X.env.frame) (fun _ s4 => wpAny (model X.prog X.w) X.A (throw (.ref a) : Sem Flow) (SP X pins D) X.xe s4) X.xe { s' with heap := h3 } := by
      rw [hf]
      refine HandSPX.setFlight_upZ fl fun h4 hh4 up4 => wpAny_throw (tk _ _ ?_)
      exact ⟨a, B, sI, pins, σ, H, cls, d, rfl, J, nb, (up.trans up3).trans up4, .inr (.inr (by rw [hs]; exact hh4)), na, os, ag, w⟩
    first
      | exact wpAny_bind (wpAny_pure (wpAny_bind fin))
      | exact wpAny_bind fin
  | @plain x c ts b₀ bs np p hds2 l2 hc hsu r ih =>
    rintro ⟨b, hb, yes, no⟩
    refine wpAny_handleBy_cons (codeAny_handlers_test ?_) (by intro q; cases q)
    refine asked hc hb ((PySem.W.exm_one (M := model X.prog X.w) J3.kIn LT hb).here ?_)
    cases b with
    | false => exact ih (no rfl)
    | true =>
      refine codeAny_handlers_suite (HandSPX.lands_againZ fl fun h4 fl4 up4 => ?_)
      obtain ⟨oe4, vs4, he4, hz4, hd4⟩ := fl4.there
      have S4 := (J.landed nb fl4.1 ((up.trans up3).trans up4) os ag : Inv X pins σ H { s' with heap := h4 }).suite he4 hd4 na nL nF
      exact wpAny_mono ((hsu a oe4 cls d (X.pn ++ pins) hz4 ⟨_, hd4⟩).run [] _ _ H _ S4 (yes rfl a na)) (fun f s6 h => suite_end (l := X.pn ++ pins) ok h) (fun _ _ z => False.elim z)
  | @named x n i c ts b₀ bs np p hds2 l2 hi hl hc hsu r ih =>
    rintro ⟨b, hb, yes, no⟩
    refine wpAny_handleBy_cons (codeAny_handlers_test ?_) (by intro q; cases q)
    refine asked hc hb ((PySem.W.exm_one (M := model X.prog X.w) J3.kIn LT hb).here ?_)
    cases b with
    | false => exact ih (no rfl)
    | true =>
      refine codeAny_handlers_suite_as (HandSPX.lands_againZ fl fun h4 fl4 up4 => ?_)
      obtain ⟨oe4, vs4, he4, hz4, hd4⟩ := fl4.there
      have S4 := (J.landed nb fl4.1 ((up.trans up3).trans up4) os ag : Inv X pins σ H { s' with heap := h4 }).suite he4 hd4 na nL nF
      refine store_ok (X := X.suite a ((a, oe4) :: (X.pn ++ pins))) (v := .ref a) S4 hN hi (.inl hl) rfl (fun s5 S5 => ?_) (.inr hl)
      exact wpAny_mono ((hsu a oe4 cls d (X.pn ++ pins) hz4 ⟨_, hd4⟩).run [] s5 _ H _ S5 (yes rfl a na)) (fun f s6 h => named_end (l := X.pn ++ pins) ok hN hi hl h) (fun _ _ z => False.elim z)
/-- try: .., its clauses -/
theorem ps_try_clauses {body : List Stmt} {h₀ : ExceptHandler} {hds : List ExceptHandler} {l : List Clause} {pos : Pos} {tb : WX → TS} (hs : X.stack = X.env :: X.outer) (hf : X.env.frame = some X.env.locals) (hN : X.N.Nodup) (tk : Takes X Wout)
    (hb : ∀ (W : WX) (pn : List (Addr × Obj)) (xe : Value → Shared → Prop), Takes (X.tr pn xe) W → PassesOwn (model X.prog X.w) X.A X.env xe → PSs (X.tr pn xe) body (tb W))
    (hh : Clauses X (h₀ :: hds) l) : PS X (.Try body (h₀ :: hds) [] [] pos) (fun D σ H => tb (wClauses X.K Wout D l) D σ H) := by
  refine ⟨fun pins s σ H D I h => ?_⟩
  have ok := I.ok
  have hfr : X.A.frames = some (X.env :: X.outer) := by rw [ok.frames, hs]
  refine wpAny_Try_except (wpAny_mono ((hb (wClauses X.K Wout D l) (X.pn ++ pins) _ (fun u s' xx => ?_) PassesOwn.looking).run [] s σ H D (I.toTry _) h) (fun f s1 hsp => ?_) (fun e s1 he => he))
  · obtain ⟨a, B, sI, pins', σ', H', cls, d, rfl, J, nb, up, sky, na, os, ag, w⟩ := xx
    have J := J.ofTry ok
    show wpAny (model X.prog X.w) X.A (noteFrame (.ref a) X.env) _ _ _
    refine Sky.land Zc.steady hfr hf (by rw [← hs]; exact sky) fun h3 fl up3 => ?_
    exact clauses_run hs hf hN tk J nb up na os ag fl up3 hh w
  · cases f with
    | next => obtain ⟨σ', H', J, q⟩ := hsp; exact wpAny_execs_nil ⟨σ', H', J.ofTry ok, q⟩
    | brk => obtain ⟨σ', H', J, q⟩ := hsp; exact ⟨σ', H', J.ofTry ok, q⟩
    | cont => obtain ⟨σ', H', J, q⟩ := hsp; exact ⟨σ', H', J.ofTry ok, q⟩
    | ret u => obtain ⟨v, σ', H', J, r, q⟩ := hsp; exact ⟨v, σ', H', J.ofTry ok, r, q⟩
end
end Z

set_option maxRecDepth 100000
set_option maxHeartbeats 4000000
namespace Z
open PySem PySem.Spec PyProof.Rows L2
/-! ### a def's promises: weaker, of two sorts, where nothing is raised and where something is -/
section
variable {P : Program} {w : World} {K : PySem.W.Frag} {mg : Str → Option Value} {base : Heap} {CX : CXT} {k : Nat} {f : Addr} {fd : FuncData} {ps : List Str} {sp sp1 sp2 : Sp} {x : Str}
theorem FnG.imp (F : FnG P w K mg base CX k f fd ps sp) (h : ∀ vs H Q E, sp1 vs H Q E → sp vs H Q E) : FnG P w K mg base CX k f fd ps sp1 :=
  ⟨fun vs H Q E q => F.len vs H Q E (h _ _ _ _ q), fun A out s H args us vs Q E room gd e0 bi rv q => F.run A out s H args us vs Q E room gd e0 bi rv (h _ _ _ _ q)⟩
theorem FnG.lift (F : FnG P w K mg base CX0 k f fd ps sp) : FnG P w K mg base CX k f fd ps sp :=
  ⟨F.len, fun A out s H args us vs Q E room gd e0 bi rv q => codeAny_mono (F.run A out s H args us vs Q E room gd e0 bi rv q) fun r s' z => by
    cases r with
    | error e => exact False.elim z
    | ok fl => cases fl <;> exact z⟩
theorem FnG.either (F1 : FnG P w K mg base CX k f fd ps sp1) (F2 : FnG P w K mg base CX k f fd ps sp2) : FnG P w K mg base CX k f fd ps (fun vs H Q E => sp1 vs H Q E ∨ sp2 vs H Q E) :=
  ⟨fun vs H Q E q => q.elim (F1.len vs H Q E) (F2.len vs H Q E), fun A out s H args us vs Q E room gd e0 bi rv q => q.elim (F1.run A out s H args us vs Q E room gd e0 bi rv) (F2.run A out s H args us vs Q E room gd e0 bi rv)⟩
theorem Cg.imp (c : Cg P w K mg base CX k x sp) (h : ∀ vs H Q E, sp1 vs H Q E → sp vs H Q E) : Cg P w K mg base CX k x sp1 := by
  obtain ⟨f, fd, ps, F, q⟩ := c.ex
  exact ⟨f, fd, ps, F.imp h, q⟩
theorem FnR.lift (F : FnR P w K mg base CX0 k f sp) : FnR P w K mg base CX k f sp := fun A out s H us vs Q E room e0 rv q => codeAny_mono (F A out s H us vs Q E room e0 rv q) fun r s' z => by
  cases r with
  | error e => exact False.elim z
  | ok fl => cases fl <;> exact z
theorem FnR.either (F1 : FnR P w K mg base CX k f sp1) (F2 : FnR P w K mg base CX k f sp2) : FnR P w K mg base CX k f (fun vs H Q E => sp1 vs H Q E ∨ sp2 vs H Q E) :=
  fun A out s H us vs Q E room e0 rv q => q.elim (F1 A out s H us vs Q E room e0 rv) (F2 A out s H us vs Q E room e0 rv)
end
end Z

set_option maxRecDepth 100000
set_option maxHeartbeats 4000000
namespace Z
open PySem PySem.Spec PyProof.Rows L2
/-! ### set(tuple) of texts -/
section
variable {P : Program} {w : World} {s : Shared}
theorem begun_tup {l : Addr} {items : Array Value} (hl : s.heap.IsTuple l items) : Begun P w s.heap (.ref l) items.size (fun i v => items[i]? = some v) := by
  intro A' E' s1 Q k z hQ
  have lt : l < s.heap.objs.size := by obtain ⟨_, e, _⟩ := hl; exact Heap.lt_size e
  have hl1 : s1.heap.IsTuple l items := hl.at fun o e => k l o e
  refine wpAny_pyIter_tuple hl1 (hQ _ [s1.heap.objs.size, l] _ (fun A2 h2 => Walks.tuple h2 _ l (Nat.ne_of_lt (Nat.lt_of_lt_of_le lt z)) items) (fun b hb => ?_) ⟨⟨_, Heap.get?_push_size _ rfl, rfl, rfl⟩, hl1.push _⟩)
  have e' : b = s1.heap.objs.size ∨ b = l := by simpa using hb
  rcases e' with q | q
  · exact .inl q
  · exact .inr (by rw [q]; exact lt)
end
section
variable {X : Cx}
def rSetTp (P : Program) (w : World) (K : PySem.W.Frag) : List V → Hp → VK → Prop := fun vs H Q => ∃ (ks : List Str) (l : Addr), vs = [.ref l] ∧ SqT K H l (ks.map V.str) ∧ (ks.length + 1 < scanBound ∨ ∃ U : List Str, (∀ k ∈ ks, k ∈ U) ∧ U.length + 1 < scanBound) ∧
  ∀ (p : Addr) (n : Nat), H p = none → Q (.ref p) (upd H p (SetT P w p (fun k => decide (k ∈ ks)) n))
theorem call_setTp (P : Program) (w : World) (K : PySem.W.Frag) (hP : X.prog = P := by rfl) (hw : X.w = w := by rfl) (hK : X.K = K := by rfl) (hc : X.calm = true := by rfl) : CallR X (.type "set") (rSetTp P w K) := by
  subst hP hw hK
  intro pins s σ H vs us Q I r h
  obtain ⟨ks, l, rfl, hq, room, q⟩ := h
  obtain rfl := Vals.ref1 r
  obtain ⟨its, rv, pl, _⟩ := I.tuple hq
  have ln := rv.length
  rw [List.length_map] at ln
  have room : ∀ (h : Heap) (i c : Nat), i < ks.length → c ≤ i → SetG (PySem.strKind X.prog X.w) h s.heap.objs.size (fun j => decide (j ∈ ks.take i)) c → c + 1 < scanBound := fun h i c hi hc z => by
    rcases room with r | ⟨U, hU, r⟩
    · omega
    · obtain ⟨l, l1, l2, l3⟩ := z.keys
      have sub : ∀ y ∈ l, y ∈ U := fun y hy => hU y (List.mem_of_mem_take (of_decide_eq_true ((l3 y).mpr hy)))
      by_cases g : U.length ≤ l.length
      · have := (perm_of_sub l U l1 sub g).length_eq
        omega
      · omega
  obtain ⟨o, eo, co, no, eo2⟩ := id pl
  refine call_setW ks (I.ok.hd hc) (fun s1 up => (show s1.TypeIs (.ref l) "tuple" from ⟨o, up _ _ eo, co⟩)) PySem.F.sub_tuple_set PySem.F.sub_tuple_frozenset (by decide) (begun_tup ?_) (by rw [List.size_toArray, ln]) room (fun i u hu => ?_)
    (fun h' tk c z _ up => ⟨.ref _, _, I.laid (t' := tk) up (Nat.le_refl _) (setT_new z), rfl, q _ c (I.hok.fresh (Nat.le_refl _))⟩)
  · exact ⟨o, eo, co, no, eo2⟩
  · have hu' : its[i]? = some u := by simpa using hu
    have hi : i < ks.length := by
      have := (List.getElem?_eq_some_iff.mp hu').1
      omega
    obtain ⟨u2, e2, t, r2⟩ := rv.get (i := i) (x := .str ks[i]) (by rw [List.getElem?_map, List.getElem?_eq_getElem hi]; rfl)
    rw [hu'] at e2
    cases e2
    subst r2
    exact ⟨_, List.getElem?_eq_getElem hi, PySem.strKind_is _ _ _ _, rfl⟩
end
end Z

set_option maxRecDepth 100000
set_option maxHeartbeats 4000000
namespace Z
open PySem PySem.Spec PyProof.Rows L2
/-! ### methods and the making of instances, where no repr is under way -/
section
variable {X : Cx} {CX : CXT} {k : Nat} {f C : Addr} {fd : FuncData} {ps : List Str} {sp : Sp} {E : XK} {x m : Str} {p pos apos : Pos} {e o : Expr} {es : List Expr} {ta : TE} {t : TA}
theorem run_fnG {pins : List (Addr × Obj)} {σ : L2.St} {H : Hp} {s : Shared} {Q : VK} {us : List Value} {vs : List V} (F : FnG X.prog X.w X.K X.mg X.base CX k f fd ps sp) (hr : Room k X.A) (gd : X.A.guards = some []) (hb : Binds X.K fd ps []) (hx : Passes CX X E)
    (I : Inv X pins σ H s) (r : Vals vs us) (h : sp vs H Q E) : wpAny (model X.prog X.w) X.A (call (.ref f) us) (EP X pins σ Q) X.xe s := by
  have hl : us.length = ps.length := by rw [← r.length]; exact F.len _ _ _ _ h
  have bi := hb s us I.kIn (by rw [List.append_nil]; exact hl)
  rw [List.append_nil] at bi
  refine wpAny_call (codeAny_mono (F.run X.A X.stack s H ⟨us, []⟩ us vs Q E hr gd I.env0 bi r h) fun r s' hq => ?_)
  cases r with
  | error e => exact hx pins σ H s e s' I hq
  | ok fl => cases fl <;> first | exact I.after hq | exact False.elim hq
/-- a method of the class at C -/
structure Cm (P : Program) (w : World) (K : PySem.W.Frag) (mg : Str → Option Value) (base : Heap) (CX : CXT) (k : Nat) (C : Addr) (m : Str) (sp : Sp) : Prop where
  ex : ∃ (f : Addr) (fd : FuncData) (ps : List Str), FnG P w K mg base CX k f fd ps sp ∧ Meth K C m f ∧ Binds K fd ps []
/-- o.m(e, ..) -/
theorem pe_cm {j : Nat} {pl : Sem Bool} (he : PE X o ta) (cl : Cls X.K C) (c : Cm X.prog X.w X.K X.mg X.base CX k C m sp) (hr : Room j X.A) (gd : X.A.guards = some []) (hk : k ≤ j) (hx : Passes CX X E) (ha : PA X (e :: es) t)
    (hst : starEach (e :: es) X.env = (false, eval e X.env) :: starEach es X.env := by rfl) (hpl : (backTo pos (starEach es X.env)).any (·.1) = false := by rfl)
    (ht : eval (.Call (.Attribute o m apos) (e :: es) [] pos) X.env = (do
      let ov ← eval o X.env
      standAt apos.atName
      let (f, first) ← holding [ov] (getMethod ov m pl)
      callWith pos f first (backTo pos (starEach (e :: es) X.env)) (backToKw pos (keywordEach [] X.env))) := by rfl) :
    PE X (.Call (.Attribute o m apos) (e :: es) [] pos) (tMeth C m sp [] E ta t) := by
  obtain ⟨f, fd, ps, F, hm, hb⟩ := c.ex
  refine ⟨fun pins s σ H Q I h => ?_⟩
  refine PySem.W.methodCall_KW (pl := pl) (thn (he.run pins s σ H _ I h) fun u s1 ⟨x, H1, I1, rx, a, dx, fs, ex, ea, l, q⟩ => ?_) ht
  subst ex
  obtain rfl : u = Value.ref a := rx
  refine getmeth_ok I1 ea cl hm l ?_
  refine PySem.W.callWith_K (first := [.ref a]) (h₀ := X.base) I.ok.mod.kin hm.kp (thn (ha.run pos pins s1 σ H1 _ I1 q) fun us s2 ⟨vs, H2, I2, r, q2⟩ => ⟨I2.kIn, ?_⟩) hst hpl
  have q2 : sp (V.ref a :: (vs ++ [])) H2 Q E := q2
  rw [List.append_nil] at q2
  exact run_fnG (us := .ref a :: us) (vs := .ref a :: vs) F (hr.mono hk) gd hb hx I2 (.cons rfl r) q2
/-- o.m() -/
theorem pe_cm0 {j : Nat} {pl : Sem Bool} (he : PE X o ta) (cl : Cls X.K C) (c : Cm X.prog X.w X.K X.mg X.base CX k C m sp) (hr : Room j X.A) (gd : X.A.guards = some []) (hk : k ≤ j) (hx : Passes CX X E)
    (ht : eval (.Call (.Attribute o m apos) [] [] pos) X.env = (do
      let ov ← eval o X.env
      standAt apos.atName
      let (f, first) ← holding [ov] (getMethod ov m pl)
      callWith pos f first (backTo pos (starEach [] X.env)) (backToKw pos (keywordEach [] X.env))) := by rfl) :
    PE X (.Call (.Attribute o m apos) [] [] pos) (tMeth C m sp [] E ta tNil) := by
  obtain ⟨f, fd, ps, F, hm, hb⟩ := c.ex
  refine ⟨fun pins s σ H Q I h => ?_⟩
  refine PySem.W.methodCall_KW (pl := pl) (thn (he.run pins s σ H _ I h) fun u s1 ⟨x, H1, I1, rx, a, dx, fs, ex, ea, l, q⟩ => ?_) ht
  subst ex
  obtain rfl : u = Value.ref a := rx
  refine getmeth_ok I1 ea cl hm l ?_
  exact PySem.W.callWith_K0 (first := [.ref a]) I1.kIn hm.kp (run_fnG (us := [.ref a]) (vs := [.ref a]) F (hr.mono hk) gd hb hx I1 (.cons rfl .nil) q)
/-- the making of instances of x -/
structure Cmk (P : Program) (w : World) (K : PySem.W.Frag) (mg : Str → Option Value) (base : Heap) (CX : CXT) (k : Nat) (C : Addr) (x : Str) (sp : Sp) : Prop where
  ex : ∃ (f : Addr) (fd : FuncData) (ps : List Str), FnG P w K mg base CX k f fd ps sp ∧ Mk K C f ∧ mg x = some (.ref C) ∧ Binds K fd ps []
/-- x(e, ..) -/
theorem pe_cmk {j : Nat} (c : Cmk X.prog X.w X.K X.mg X.base CX k C x sp) (hr : Room j X.A) (gd : X.A.guards = some []) (hk : k + 1 ≤ j) (hg : Gl X x) (hx : Passes CX X E) (ha : PA X (e :: es) t)
    (hdb : (x == ("__debug__" : Str)) = false := by decide) (he : starEach (e :: es) X.env = (false, eval e X.env) :: starEach es X.env := by rfl) (hpl : (backTo pos (starEach es X.env)).any (·.1) = false := by rfl) :
    PE X (.Call (.Name x p) (e :: es) [] pos) (tMake C sp [] E t) := by
  obtain ⟨f, fd, ps, F, M, hm, hb⟩ := c.ex
  refine ⟨fun pins s σ H Q I h => ?_⟩
  refine wpAny_Call_Name_kw (ld_glob I hg hm ?_ hdb)
  refine PySem.W.callWith_K (h₀ := X.base) I.ok.mod.kin M.kp (thn (ha.run pos pins s σ H _ I h) fun us s1 ⟨vs, H1, I1, r, q⟩ => ⟨I1.kIn, ?_⟩) he hpl
  have hq := q (s1.heap.objs.size + 1) s1.heap.objs.size (I1.hok.fresh (Nat.le_succ _)) (I1.hok.fresh (Nat.le_refl _)) (Nat.ne_of_lt (Nat.lt_succ_self _))
  rw [List.append_nil] at hq
  have I2 := Inv.made (C := C) I1
  have r2 : Vals (V.ref (s1.heap.objs.size + 1) :: vs) (Value.ref (s1.heap.objs.size + 1) :: us) := .cons rfl r
  have hl : (Value.ref (s1.heap.objs.size + 1) :: us).length = ps.length := by
    have e := r2.length
    rw [F.len _ _ _ _ hq] at e
    exact e.symm
  have bi := hb _ (Value.ref (s1.heap.objs.size + 1) :: us) I2.kIn (by rw [List.append_nil]; exact hl)
  rw [List.append_nil] at bi
  refine wpAny_call (make_map (f := f) I1.kIn M.makes M.init (beq_iff_eq.mp M.fn) (codeAny_mono (F.run _ X.stack _ _ ⟨Value.ref (s1.heap.objs.size + 1) :: us, []⟩ (Value.ref (s1.heap.objs.size + 1) :: us) _ _ E ((hr.mono hk).make C us []) ?_
    (I2.env0.make C us []) bi r2 hq) fun r s' hq' => ?_))
  · exact gd
  cases r with
  | error e => exact hx pins σ _ _ e s' I2 hq'
  | ok fl =>
    cases fl with
    | ret u =>
      obtain ⟨v, H', I3, rv, ev, q3⟩ := I2.after hq'
      subst ev
      exact ⟨rv, ⟨V.ref (s1.heap.objs.size + 1), H', I3, rfl, q3⟩⟩
    | next => exact False.elim hq'
    | brk => exact False.elim hq'
    | cont => exact False.elim hq'
end
end Z
namespace Z
open PySem PySem.Spec PyProof.Rows L2
/-! ### fields of instances, the class named -/
section
variable {X : Cx} {o e value : Expr} {f : Str} {pos pos' : Pos} {ta tv : TE}
theorem pe_fldK (K : PySem.W.Frag) (he : PE X e ta) (hK : X.K = K := by rfl) (hb : attributeBase e f X.env (eval e X.env) = eval e X.env := by rfl) : PE X (.Attribute e f pos) (tFld K ta f) := by
  subst hK
  exact pe_fld he hb
theorem ps_fldK (K : PySem.W.Frag) (ha : PE X o ta) (hv : PE X value tv) (hK : X.K = K := by rfl) (hs : swapsWith value (some (.Attribute o f pos')) pos.line X.env = pure false := by rfl) : PS X (.Assign [.Attribute o f pos'] value pos) (sFld K ta tv f) := by
  subst hK
  exact ps_fld ha hv hs
end
/-- a class of the program's own: its fields' names, how it is made -/
structure OwnC (K : PySem.W.Frag) (mg : Str → Option Value) (x : Str) (fs : List Str) : Prop where
  g : mg x = some (.ref (He.ga K x))
  cls : Cls K (He.ga K x)
  no : ∀ f ∈ fs, NoAttr K (He.ga K x) f
  made : Mk K (He.ga K x) (He.ma K (He.ga K x) "__init__")
/-- e.f, a field of an instance of x -/
theorem fldO {K : PySem.W.Frag} {mg : Str → Option Value} {x : Str} {ns : List Str} (O : OwnC K mg x ns) {a dx : Addr} {fs : List (Str × V)} {f : Str} {v : V} {H : Hp} {Q : VK} (e : H a = some (.ins (He.ga K x) dx fs)) (hf : f ∈ ns) (l : fs.lookup f = some v) (q : Q v H) :
    ∃ a' C dx' fs' v', V.ref a = .ref a' ∧ H a' = some (.ins C dx' fs') ∧ Cls K C ∧ NoAttr K C f ∧ fs'.lookup f = some v' ∧ Q v' H := ⟨a, _, dx, fs, v, rfl, e, O.cls, O.no f hf, l, q⟩
end Z

set_option maxRecDepth 100000
set_option maxHeartbeats 4000000
namespace Z
open PySem PySem.Spec PyProof.Rows L2
/-! ### len, repr, == and != by own methods -/
section
variable {X : Cx} {CX : CXT} {k j : Nat} {C : Addr} {sp : Sp} {E : XK}
theorem run_atG {A : Around} {pins : List (Addr × Obj)} {σ : L2.St} {H : Hp} {s : Shared} {Q : VK} {us : List Value} {vs : List V} {f : Addr} {fd : FuncData} {ps : List Str} (F : FnG X.prog X.w X.K X.mg X.base CX k f fd ps sp) (hr : Room k A) (hf : A.frames = X.A.frames) (gd : A.guards = some [])
    (hb : Binds X.K fd ps []) (hx : Passes CX X E) (I : Inv X pins σ H s) (r : Vals vs us) (h : sp vs H Q E) : wpAny (model X.prog X.w) A (call (.ref f) us) (EP X pins σ Q) X.xe s := by
  have hl : us.length = ps.length := by rw [← r.length]; exact F.len _ _ _ _ h
  have bi := hb s us I.kIn (by rw [List.append_nil]; exact hl)
  rw [List.append_nil] at bi
  have e := I.env0
  have e0 : Env0 X.prog X.w X.K X.mg X.base A X.stack s H := ⟨by rw [hf]; exact e.frames, e.mod, e.bs, e.bsz, e.funs, e.frf, e.hok, e.bare⟩
  refine wpAny_call (codeAny_mono (F.run A X.stack s H ⟨us, []⟩ us vs Q E hr gd e0 bi r h) fun r s' hq => ?_)
  cases r with
  | error e => exact hx pins σ H s e s' I hq
  | ok fl => cases fl <;> first | exact I.after hq | exact False.elim hq
/-- len(o) -/
def rLenO (C : Addr) (sp : Sp) (E : XK) : List V → Hp → VK → Prop := fun vs H Q => ∃ a dx fs, vs = [.ref a] ∧ H a = some (.ins C dx fs) ∧ sp [.ref a] H (fun v H' => ∃ n : Int, v = .int n ∧ (0 ≤ n ∧ n < 2 ^ 63) ∧ Q (.int n) H') E
theorem call_lenO (c : Cm X.prog X.w X.K X.mg X.base CX k C "__len__" sp) (hr : Room j X.A) (gd : X.A.guards = some []) (hk : k + 1 ≤ j) (hx : Passes CX X E) : CallR X (.builtin "len") (rLenO C sp E) := by
  intro pins s σ H xs us Q I r h
  obtain ⟨a, dx, fs, rfl, e, q⟩ := h
  obtain ⟨u, rfl, rx⟩ := vals1 r
  cases rx
  obtain ⟨f, fd, ps, F, hm, hb⟩ := c.ex
  obtain ⟨mA, J, _⟩ := ins_get I.hok e
  obtain ⟨od, J, _⟩ := J.look
  obtain ⟨m, hF⟩ := I.fr
  refine PySem.W.len_K hF I.ok.mod.kin J hm.at_ hm.fn ?_
  refine wpAny_mono (run_atG (vs := [V.ref a]) (us := [Value.ref a]) F (hr.mono hk).in1 rfl gd hb hx I (.cons rfl .nil) q) (fun v s' z => ?_) fun _ _ z => z
  obtain ⟨y, H', I', ry, n, rfl, hn, q⟩ := z
  obtain ⟨t, rfl⟩ := ry
  exact ⟨hn, .int n, H', I'.tok _, ⟨_, rfl⟩, q⟩
/-- repr(o) -/
def rReprO (C : Addr) (sp : Sp) (E : XK) : List V → Hp → VK → Prop := fun vs H Q => ∃ a dx fs, vs = [.ref a] ∧ H a = some (.ins C dx fs) ∧ sp [.ref a] H (fun v H' => ∃ y : Str, v = .str y ∧ Q (.str y) H') E
theorem call_reprO (c : Cm X.prog X.w X.K X.mg X.base CX k C "__repr__" sp) (hr : Room j X.A) (gd : X.A.guards = some []) (hk : k + 1 ≤ j) (hx : Passes CX X E) : CallR X (.builtin "repr") (rReprO C sp E) := by
  intro pins s σ H xs us Q I r h
  obtain ⟨a, dx, fs, rfl, e, q⟩ := h
  obtain ⟨u, rfl, rx⟩ := vals1 r
  cases rx
  obtain ⟨f, fd, ps, F, hm, hb⟩ := c.ex
  obtain ⟨mA, J, _⟩ := ins_get I.hok e
  obtain ⟨od, J, _⟩ := J.look
  obtain ⟨m, hF⟩ := I.fr
  refine PySem.W.repr_K (hr.mono hk).in1.units0 hF I.ok.mod.kin J hm.at_ hm.fn ?_
  refine wpAny_mono (run_atG (vs := [V.ref a]) (us := [Value.ref a]) F (hr.mono hk).in1 rfl gd hb hx I (.cons rfl .nil) q) (fun v s' z => ?_) fun _ _ z => z
  obtain ⟨y, H', I', ry, n, rfl, q⟩ := z
  obtain ⟨t, rfl⟩ := ry
  exact ⟨.str n, H', I', ⟨_, rfl⟩, q⟩
/-- what == and !=, isinstance ask of a class with its own __eq__ -/
structure OwnE (K : PySem.W.Frag) (C : Addr) : Prop where
  ne : PySem.W.findIn K (.ref C) "__ne__" = some (some (.builtin "object.__ne__"))
  ob : PySem.W.mroIn K C (.type "object") = some true
  is : PySem.W.kitOne K (.ref C) (.ref C) = some true
  ha : PySem.W.findIn K (.ref C) "__class__" = some (some (.builtin "object.__class__"))
  hn : PySem.W.specialIn K (.builtin "object.__class__") "__get__" = some (some (.builtin "getset_descriptor.__get__"))
  htk : PySem.W.takesIn K (.builtin "object.__class__") = some true
def ownEB (K : PySem.W.Frag) (C : Addr) : Bool := decide (PySem.W.findIn K (.ref C) "__ne__" = some (some (.builtin "object.__ne__"))) && (decide (PySem.W.mroIn K C (.type "object") = some true) && (decide (PySem.W.kitOne K (.ref C) (.ref C) = some true) &&
  (decide (PySem.W.findIn K (.ref C) "__class__" = some (some (.builtin "object.__class__"))) && (decide (PySem.W.specialIn K (.builtin "object.__class__") "__get__" = some (some (.builtin "getset_descriptor.__get__"))) && decide (PySem.W.takesIn K (.builtin "object.__class__") = some true)))))
theorem ownEB_ok {K : PySem.W.Frag} {C : Addr} (h : ownEB K C = true) : OwnE K C := by
  obtain ⟨h1, h⟩ := Bool.and_eq_true_iff.mp h
  obtain ⟨h2, h⟩ := Bool.and_eq_true_iff.mp h
  obtain ⟨h3, h⟩ := Bool.and_eq_true_iff.mp h
  obtain ⟨h4, h⟩ := Bool.and_eq_true_iff.mp h
  obtain ⟨h5, h6⟩ := Bool.and_eq_true_iff.mp h
  exact ⟨of_decide_eq_true h1, of_decide_eq_true h2, of_decide_eq_true h3, of_decide_eq_true h4, of_decide_eq_true h5, of_decide_eq_true h6⟩
theorem OwnE.ins {K : PySem.W.Frag} {C : Addr} (O : OwnE K C) (c : Cls K C) : C8.InsC K C := ⟨c, O.ha, O.hn, O.htk, O.ob, O.is⟩
section
variable {prog : Program} {w : World} {A : Around} {M : Model} {Ek : Value → Shared → Prop} {s : Shared} {K : PySem.W.Frag} {x y f : Addr} {ox oy : Obj} {od od' : Option Obj} {name : Str} {id : String}
theorem ifBoundB {args : List Value} {Q : Option Value → Shared → Prop} (Xk : K.In s.heap) (I : PySem.W.InstAt s.heap x ox C od) (hs : PySem.W.findIn K (.ref C) name = some (some (.builtin id))) (hb : ∀ self, bindSpecial (.builtin id) self = pure (.builtin id, [self]))
    (h : wpAny M A (call (.builtin id) (.ref x :: args)) (fun v => Q (some v)) Ek s) : wpAny M A (callSpecialIfBound? (.ref x) name args) Q Ek s := by
  simp only [callSpecialIfBound?, bindSpecialIfBound?]
  refine wpAny_holding (wpAny_bind (wpAny_bind (wpAny_bind (I.type.here ((PySem.W.looks_findIn Xk hs).here ?_)))))
  refine wpAny_bind (wpAny_askSetting (wpAny_ite ?_))
  have fin : wpAny M A (call (.builtin id) ([.ref x] ++ args) >>= fun v => pure (some v)) Q Ek s := wpAny_bind (wpAny_mono h (fun v s' h' => wpAny_pure h') fun _ _ h' => h')
  split
  · exact wpAny_bind ((PySem.W.Looks.of_pure (hb _)).here (wpAny_pure (by exact fin)))
  · exact wpAny_tryCatch (wpAny_bind ((PySem.W.Looks.of_pure (hb _)).here (wpAny_pure (by exact fin))))
open Builtin in
theorem objNe {Q : Value → Shared → Prop} {b : Value} (hu : A.in1.units < cLine) (Xk : K.In s.heap) (I : PySem.W.InstAt s.heap x ox C od) (O : OwnE K C) (hr : PySem.W.findIn K (.ref C) "__eq__" = some (some (.ref f))) (hf : PySem.W.isFn K (.ref f) = true)
    (h : wpAny (model prog w) A.in1 (call (.ref f) [.ref x, b]) (fun v s' => ∃ r, v = .bool r ∧ Q (.bool (!r)) s') Ek s) : wpAny (model prog w) A (call (.builtin "object.__ne__") [.ref x, b]) Q Ek s := by
  refine wpAny_call (codeAny_call_builtin PySem.F.slot_object_ne.plain PySem.F.entry_object_ne (PySem.W.check_slot (i := "object.__ne__") (owner := "object") (n := "__ne__") (by decide +kernel) (by decide +kernel) (I.type.andThen (PySem.W.looks_mroIn Xk O.ob)) (PySem.F.args_object_ne_2 _ _) ?_))
  unfold Builtin.«object.__ne__»
  refine wpAny_bind (m := slotArgs "__ne__" 1 _) (wpAny_pure ?_)
  refine wpAny_bind (m := cRoomFor _ _) (wpAny_cRoomFor hu ?_)
  refine wpAny_bind (m := callSpecialIfBound? (.ref x) (Str.ofString "__eq__") _) (PySem.W.ifBound_K Xk I hr hf (wpAny_mono h (fun r s' hq => ?_) fun _ _ y => y))
  obtain ⟨b, rfl, q⟩ := hq
  exact wpAny_bind (m := truthy (.bool _)) (wpAny_truthy_bool (wpAny_pure q))
theorem ne_own {Q : Value → Shared → Prop} (hu : A.in1.units < cLine) (Xk : K.In s.heap) (I : PySem.W.InstAt s.heap x ox C od) (J : PySem.W.InstAt s.heap y oy C od') (O : OwnE K C) (hr : PySem.W.findIn K (.ref C) "__eq__" = some (some (.ref f))) (hf : PySem.W.isFn K (.ref f) = true)
    (h : wpAny (model prog w) A.in1 (call (.ref f) [.ref x, .ref y]) (fun v s' => ∃ r, v = .bool r ∧ Q (.bool (!r)) s') Ek s) : wpAny (model prog w) A (compareOp .NotEq (.ref x) (.ref y)) Q Ek s := by
  have one : wpAny (model prog w) A (tryCompare (.ref x) (cmpInfo .NotEq).2.1 (.ref y)) (fun r s' => ∃ v, r = some v ∧ Q v s') Ek s := by
    unfold tryCompare
    refine wpAny_bind (ifBoundB Xk I O.ne PySem.F.slot_object_ne.bind (objNe hu Xk I O hr hf (wpAny_mono h (fun v s' hv => ?_) fun _ _ e => e)))
    obtain ⟨r, rfl, q⟩ := hv
    exact ⟨r, rfl, wpAny_pure ⟨_, rfl, q⟩⟩
  show wpAny _ _ (richCompare .NotEq (.ref x) (.ref y)) _ _ _
  have hu0 : A.units < cLine := Nat.lt_of_succ_lt hu
  unfold richCompare
  simp only [oneThing_ref]
  refine wpAny_holding (wpAny_bind (wpAny_cRoomFor hu0 ?_))
  refine wpAny_bind (I.type.here (wpAny_bind (J.type.here ?_)))
  rw [show (Value.ref C != Value.ref C) = false from by simp]
  simp only [Bool.false_eq_true, if_false]
  refine wpAny_bind (wpAny_pure ?_)
  simp only [Bool.false_eq_true, if_false]
  refine wpAny_bind (wpAny_mono one (fun r s' z => ?_) fun _ _ e => e)
  obtain ⟨v, rfl, hq⟩ := z
  exact wpAny_pure hq
end
/-- o != p, o == p: two instances of the class -/
def rCmpO (C : Addr) (g : Bool → Bool) (sp : Sp) (E : XK) : R2 := fun x y H Q => ∃ a b dx dy fs gs, x = .ref a ∧ y = .ref b ∧ H a = some (.ins C dx fs) ∧ H b = some (.ins C dy gs) ∧ sp [.ref a, .ref b] H (fun v H' => ∃ r, v = .bl r ∧ Q (.bl (g r)) H') E
theorem op_neO (c : Cm X.prog X.w X.K X.mg X.base CX k C "__eq__" sp) (O : OwnE X.K C) (hr : Room j X.A) (gd : X.A.guards = some []) (hk : k + 2 ≤ j) (hx : Passes CX X E) : OpR X (compareOp .NotEq) (rCmpO C not sp E) := by
  intro pins s σ H x y v u Q I rx ry h
  obtain ⟨a, b, dx, dy, fs, gs, rfl, rfl, ea, eb, q⟩ := h
  cases rx
  cases ry
  obtain ⟨f, fd, ps, F, hm, hb⟩ := c.ex
  obtain ⟨mA, J, _⟩ := ins_get I.hok ea
  obtain ⟨mB, J2, _⟩ := ins_get I.hok eb
  obtain ⟨od, J, _⟩ := J.look
  obtain ⟨od2, J2, _⟩ := J2.look
  have r2 := (hr.mono hk).in1
  refine ne_own (hr.mono hk).in1.units0 I.kIn J J2 O hm.at_ hm.fn ?_
  refine wpAny_mono (run_atG (vs := [V.ref a, V.ref b]) (us := [Value.ref a, Value.ref b]) F (r2.mono (Nat.le_succ _)) rfl gd hb hx I (.cons rfl (.cons rfl .nil)) q) (fun v s' z => ?_) fun _ _ z => z
  obtain ⟨y, H', I', ry, r, rfl, q⟩ := z
  cases ry
  exact ⟨r, rfl, .bl (!r), H', I', rfl, q⟩
end
/-! ### str(int), tuple.index, a list unpacked, data that are equal -/
section
variable {X : Cx}
theorem call_strZ : CallR X (.type "str") (fun xs H Q => ∃ i, xs = [.int i] ∧ i.natAbs.log2 < 1920 ∧ Q (.str (toString i)) H) := call_str_int
theorem mt_tupIx (K : PySem.W.Frag) (hK : X.K = K := by rfl) : MtR X "tuple.index" (fun x xs H Q => ∃ p, ∃ ys : List Str, ∃ z j, x = .ref p ∧ xs = [.str z] ∧ SqT K H p (ys.map V.str) ∧ ys[j]? = some z ∧ (∀ m, m < j → ys[m]? ≠ some z) ∧ Q (.int (j : Nat)) H) := by
  subst hK
  exact mt_tup_index
theorem pg_unlK {es : List Expr} {kk : Nat} {pos : Pos} {t : TGs} (K : PySem.W.Frag) (n : Nat) (h : PGs X es t) (hK : X.K = K := by rfl) (hc : X.calm = true := by rfl)
    (hn : (assignEach es X.env).length = n := by rfl) (hst : (assignEach es X.env).findIdx? (·.1) = none := by rfl) : PG X (.Tuple es kk pos) (gUnl K n t) := by
  subst hK
  exact pg_unl hc h hn hst
end
theorem nice_shaped {R n : Nat} {d : PyData} (h : Nice R n d) (hn : n ≤ 64) (hd : d.hasDict = false) : SeqAt.shaped d = true := by
  show (PyData.canLay0 d && decide (PyData.depth d ≤ 64)) = true
  rw [h.ly hd, decide_eq_true (Nat.le_trans h.dp hn)]
  rfl
theorem eqTh {K : PySem.W.Frag} {f : Bool → Bool} {H : Hp} {Q : VK} {p q : Addr} {d : PyData} {R n : Nat} (h1 : Th K H (.ref p) d) (h2 : Th K H (.ref q) d) (h : Nice R n d) (hn : n ≤ 64) (hd : d.hasDict = false) (k : Q (.bl (f true)) H) : rEqZ K f (.ref p) (.ref q) H Q := by
  refine ⟨d, d, h1.dp d _ hd, h2.dp d _ hd, nice_shaped h hn hd, nice_shaped h hn hd, ?_⟩
  rw [PySem.SeqAt.eqv_refl d (h.ly hd)]
  exact k
/-- a constant tuple without a dict: its methods may be called -/
def plainTupB (K : PySem.W.Frag) (x : Str) : Bool := match K.lookup (He.ga K x) with
  | some ⟨.type c, none, _, _⟩ => decide (c = "tuple")
  | _ => false
theorem plainTup_ok {K : PySem.W.Frag} {x : Str} (h : plainTupB K x = true) (H : Hp) : tyV K "tuple" (.ref (He.ga K x)) H := by
  unfold plainTupB at h
  cases q : K.lookup (He.ga K x) with
  | none => rw [q] at h; cases h
  | some o =>
    rw [q] at h
    obtain ⟨oc, od, dt, osl⟩ := o
    cases oc <;> cases od <;> first | cases h | skip
    have e := of_decide_eq_true h
    exact .inr (.inl ⟨rfl, _, q, by rw [e], rfl⟩)
end Z

set_option maxRecDepth 100000
set_option maxHeartbeats 4000000
namespace Z
open PySem PySem.Spec PyProof.Rows L2
/-! ### what is hidden stands there, no bag -/
def Hid (B : Addr → Bool) (H : Hp) : Prop := ∀ a, B a = true → H a ≠ none
section
variable {B : Addr → Bool} {H H' : Hp} {p : Addr} {o : HO}
theorem Hid.off (h : Hid B H) (n : H p = none) : B p = false := by
  cases e : B p with
  | false => rfl
  | true => exact absurd n (h p e)
theorem Hid.same (h : Hid B H) (s : Same H H') : Hid B H' := fun a z => by
  cases q : H a with
  | none => exact absurd q (h a z)
  | some o => rw [s a o q]; exact Option.some_ne_none o
theorem Hid.more (h : Hid B H) (e : H p = some o) : Hid (hide p B) H := fun a z => by
  unfold hide at z
  rcases Bool.or_eq_true_iff.mp z with z | z
  · rw [of_decide_eq_true z, e]
    exact Option.some_ne_none o
  · exact h a z
theorem Hid.nope (H : Hp) : Hid (fun _ => false) H := fun _ z => by cases z
theorem Wd.hid {K : PySem.W.Frag} {ω : Bg} (w : Wd K B ω H) : Hid B H := w.hB
theorem hd_nope (H : Hp) : hd (fun _ => false) H = H := by
  funext a
  unfold hd
  rfl
theorem hd_le (B : Addr → Bool) (H : Hp) : Same (hd B H) H := fun a o z => (hd_some z).2
/-- a new object is seen -/
theorem hd_new (h : Hid B H) (n : H p = none) : hd B (upd H p o) p = some o := hd_of (h.off n) upd_same
theorem hd_more (B : Addr → Bool) (p : Addr) (H : Hp) : Same (hd (hide p B) H) (hd B H) := fun a o z => by
  obtain ⟨h1, h2⟩ := hd_some z
  unfold hide at h1
  exact hd_of (by
    cases q : B a with
    | false => rfl
    | true => rw [q, Bool.or_true] at h1; cases h1) h2
end
/-! ### a comprehension whose answers are told by a property -/
section
variable {K : PySem.W.Frag} {wi : TI} {xs : List V} {G : Hp → Prop} {j : Nat} {vs : List Nat} {σ : L2.St} {te : TE} {H : Hp} {Q : VK}
theorem tlcR (J : It) (xs : List V) (G : Hp → Prop) (B : Addr → Bool) (hB : Hid B H) (P : Nat → V → Hp → Prop) (mono : ∀ i y G1 G2, Same G1 G2 → P i y G1 → P i y G2)
    (hw : ∀ R : It → Hp → Prop, (∀ H1, Same H H1 → G H1 → R J H1) → wi σ H R) (w : Walk J xs.length G (YAt xs)) (hG : ∀ H1 H2, Same H1 H2 → G H1 → G H2) (hz : xs.length ≤ 100000)
    (he : ∀ i x B' H', xs[i]? = some x → (∀ a, B a = true → B' a = true) → Same H H' → Same (hd B H) (hd B' H') → Hid B' H' → ∀ Q' : VK, (∀ y H4, Same H' H4 → P i y (hd B' H4) → Q' y H4) → te ((σ.set j none).set j (some x)) H' Q')
    (k : ∀ D acc H', H D = none → acc.length = xs.length → (∀ (i : Nat) y, acc[i]? = some y → P i y (hd (hide D B) H')) → Same H H' → Hid B H' → H' D = some (.lst acc) → Q (.ref D) H') (hv : vs = [j] := by rfl) : tLc wi (gName j) tYes te vs σ H Q := by
  subst hv
  refine hw _ fun H1 s1 g1 => ?_
  intro D hD
  have hD0 : H D = none := s1.free hD
  have bD : B D = false := hB.off hD0
  refine lc_it w (fun i H' => ∃ acc, acc.length = i ∧ Same H1 H' ∧ H' D = some (.lst acc) ∧ ∀ (n : Nat) y, acc[n]? = some y → P n y (hd (hide D B) H')) ⟨[], rfl, same_new hD, upd_same, fun n y z => by simp at z⟩ ?_ ?_ ?_
  · rintro i H' _ ⟨acc, _, s', _, _⟩
    exact hG H1 H' s' g1
  · rintro i x H2 H3 hi ⟨acc, hl, s', hd', iv⟩ ⟨rfl, hx⟩
    refine ⟨wipe_set σ j _, ?_⟩
    have s02 := s1.trans s'
    have sm : Same (hd B H) (hd (hide D B) H3) := fun a o z => by
      obtain ⟨h1, h2⟩ := hd_some z
      have n : a ≠ D := ne_of_none h2 hD0
      refine hd_of ?_ (s02 a o h2)
      unfold hide
      rw [h1, decide_eq_false n]
      rfl
    dsimp only [tYes]
    rw [if_pos rfl]
    refine he i x (hide D B) H3 hx (fun a z => by unfold hide; rw [z, Bool.or_true]) s02 sm ((hB.same s02).more hd') _ fun y H4 z2 z3 => ?_
    have d4 : H4 D = some (.lst acc) := z2 _ _ hd'
    refine ⟨acc, d4, small5 (by omega), acc ++ [y], by rw [List.length_append, hl]; rfl, same_mut (s'.trans z2) hD, upd_same, ?_⟩
    intro n y' z
    refine mono _ _ _ _ (hide_same D B H4) ?_
    rw [List.getElem?_append] at z
    split at z
    · exact mono _ _ _ _ (Same.hd (show Same H3 H4 from z2)) (iv n y' z)
    · rename_i h
      have e : n = acc.length := by
        have := (List.getElem?_eq_some_iff.mp z).1
        simp at this
        omega
      subst e
      rw [Nat.sub_self] at z
      cases z
      rw [hl]
      exact z3
  · rintro H' ⟨acc, hl, s', hd', iv⟩
    exact k D acc H' hD0 hl iv (s1.trans s') (hB.same (s1.trans s')) hd'
theorem comp_listR {tl : TE} {a : Addr} {xs : List V} (B : Addr → Bool) (hB : Hid B H) (P : Nat → V → Hp → Prop) (mono : ∀ i y G1 G2, Same G1 G2 → P i y G1 → P i y G2) (h0 : ∀ R : VK, (∀ H1, Same H H1 → SqL K H1 a xs → R (.ref a) H1) → tl σ H R) (hz : xs.length ≤ 100000)
    (he : ∀ i x B' H', xs[i]? = some x → (∀ a, B a = true → B' a = true) → Same H H' → Same (hd B H) (hd B' H') → Hid B' H' → ∀ Q' : VK, (∀ y H4, Same H' H4 → P i y (hd B' H4) → Q' y H4) → te ((σ.set j none).set j (some x)) H' Q')
    (k : ∀ D acc H', H D = none → acc.length = xs.length → (∀ (i : Nat) y, acc[i]? = some y → P i y (hd (hide D B) H')) → Same H H' → Hid B H' → H' D = some (.lst acc) → Q (.ref D) H') (hv : vs = [j] := by rfl) : tLc (iList K tl) (gName j) tYes te vs σ H Q :=
  tlcR (hv := hv) (Itl K a) xs (fun H => SqL K H a xs) B hB P mono (fun R r => h0 _ fun H1 s1 q => ⟨a, rfl, ⟨xs, q⟩, r H1 s1 q⟩) walk_list (fun _ _ s q => s.seq q) hz he k
theorem comp_tupR {tl : TE} {a : Addr} {xs : List V} (B : Addr → Bool) (hB : Hid B H) (P : Nat → V → Hp → Prop) (mono : ∀ i y G1 G2, Same G1 G2 → P i y G1 → P i y G2) (ht : SqT K H a xs) (h0 : ∀ R : VK, R (.ref a) H → tl σ H R) (hz : xs.length ≤ 100000)
    (he : ∀ i x B' H', xs[i]? = some x → (∀ a, B a = true → B' a = true) → Same H H' → Same (hd B H) (hd B' H') → Hid B' H' → ∀ Q' : VK, (∀ y H4, Same H' H4 → P i y (hd B' H4) → Q' y H4) → te ((σ.set j none).set j (some x)) H' Q')
    (k : ∀ D acc H', H D = none → acc.length = xs.length → (∀ (i : Nat) y, acc[i]? = some y → P i y (hd (hide D B) H')) → Same H H' → Hid B H' → H' D = some (.lst acc) → Q (.ref D) H') (hv : vs = [j] := by rfl) : tLc (iTup K tl) (gName j) tYes te vs σ H Q :=
  tlcR (hv := hv) (Itt K a) xs (fun H => SqT K H a xs) B hB P mono (fun R r => h0 _ ⟨a, rfl, ⟨xs, ht⟩, r H (Same.refl _) ht⟩) walk_tup (fun _ _ s q => Same.tup s q) hz he k
theorem tha_of : ∀ {acc : List V} {ds : List PyData} {H : Hp}, acc.length = ds.length → (∀ (i : Nat) y, acc[i]? = some y → ∃ d, ds[i]? = some d ∧ Th K H y d) → ThA K H acc ds
  | [], [], _, _, _ => .nil
  | [], _ :: _, _, e, _ => by simp at e
  | _ :: _, [], _, e, _ => by simp at e
  | y :: acc, d :: ds, H, e, h => by
    obtain ⟨d', h1, h2⟩ := h 0 y rfl
    cases h1
    exact .cons h2 (tha_of (by simpa using e) fun i z hz => h (i + 1) z hz)
end
section
variable {X : Cx} {o e : Expr} {es : List Expr} {to : TE} {t : TA} {name : Str} {apos cpos : Pos} {T id : String} {r : V → List V → Hp → VK → Prop}
theorem pe_bmK (K : PySem.W.Frag) (pa : PlainAttrs T) (slot : Slot T name id) (hty : typeOf (.builtin id) = pure (.type "method_descriptor")) (hm : MtR X id r) (ho : PE X o to) (ha : PA X (e :: es) t) (hK : X.K = K := by rfl)
    (hbase : attributeBase o name X.env (eval o X.env) = eval o X.env := by rfl)
    (hfew : ((backTo cpos (starEach (e :: es) X.env)).all (fun x => !x.1) && (backToKw cpos (keywordEach [] X.env)).all (fun x => x.1.isSome)
      && decide ((e :: es).length + ([] : List Keyword).length + (if ([] : List Keyword).isEmpty then 0 else 1) < 30)) = true := by rfl)
    (hline : (apos.endLine == cpos.line) = true := by rfl) (hs : starEach (e :: es) X.env = (false, eval e X.env) :: starEach es X.env := by rfl) (hplain : (backTo cpos (starEach es X.env)).any (·.1) = false := by rfl) :
    PE X (.Call (.Attribute o name apos) (e :: es) [] cpos) (tBM K T r to t) := by
  subst hK
  exact pe_bm pa slot hty hm ho ha hbase hfew hline hs hplain
end
end Z

set_option maxRecDepth 100000
set_option maxHeartbeats 4000000
namespace Z
open PySem PySem.Spec PyProof.Rows L2
/-! ### tuples whose methods may be called: they have no dict -/
def PT (H : Hp) (a : Addr) (xs : List V) : Prop := ∃ o, H a = some (.frz o (.tup xs)) ∧ o.cls = .type "tuple" ∧ o.dict = none
theorem PT.sqT {K : PySem.W.Frag} {H : Hp} {a : Addr} {xs : List V} (h : PT H a xs) : SqT K H a xs := by
  obtain ⟨o, e, _⟩ := h
  exact .inl (.inr ⟨o, e⟩)
theorem PT.same {H H' : Hp} {a : Addr} {xs : List V} (h : PT H a xs) (s : Same H H') : PT H' a xs := by
  obtain ⟨o, e, q⟩ := h
  exact ⟨o, s _ _ e, q⟩
theorem PT.hd {B : Addr → Bool} {H : Hp} {a : Addr} {xs : List V} (h : PT H a xs) (b : B a = false) : PT (Z.hd B H) a xs := by
  obtain ⟨o, e, q⟩ := h
  exact ⟨o, hd_of b e, q⟩
theorem PT.some {H : Hp} {a : Addr} {xs : List V} (h : PT H a xs) : H a ≠ none := by
  obtain ⟨o, e, q⟩ := h
  rw [e]
  exact Option.some_ne_none _
/-- a new tuple at l -/
def newT (H : Hp) (vs : List V) (Q : VK) : Prop := ∀ l u, H l = none → PT (upd H l u) l vs → Q (.ref l) (upd H l u)
section
variable {X : Cx}
/-- tuple(a list) -/
def rTupleP (K : PySem.W.Frag) : List V → Hp → VK → Prop := fun vs H Q => ∃ p ys, vs = [.ref p] ∧ SqL K H p ys ∧ newT H ys Q
theorem call_tupleP (K : PySem.W.Frag) (hK : X.K = K := by rfl) : CallR X (.type "tuple") (rTupleP K) := by
  subst hK
  intro pins s σ H xs us Q I r h
  obtain ⟨p, ys, rfl, hq, q⟩ := h
  obtain ⟨u, rfl, rx⟩ := vals1 r
  cases rx
  obtain ⟨its, r', pl, hz⟩ := I.list hq
  have hlen := r'.length
  refine call_tuple_list pl.isList (fun h' kp => ?_) (by simp only [List.size_toArray] <;> omega)
  have I1 : Inv X pins σ H { s with heap := h' } := I.kept (t' := s.toks) kp
  have I2 : Inv X pins σ (upd H h'.objs.size (.frz { cls := .type "tuple", data := .seq its.toArray } (.tup ys))) { s with heap := h'.push { cls := .type "tuple", data := .seq its.toArray } } :=
    I1.laid (t' := s.toks) (fun b o e => Heap.get?_push_of_some _ e) (Nat.le_refl _) (show ObjOk X.prog X.w _ _ _ (.frz _ (.tup ys)) from ⟨Heap.get?_push_size _ rfl, hz, its, r', IsTup.new _ _⟩)
  exact ⟨.ref h'.objs.size, _, I2, rfl, q _ _ (I1.hok.fresh (Nat.le_refl _)) ⟨_, upd_same, rfl, rfl⟩⟩
end
section
variable {X : Cx} {es : List Expr} {t : TA} {pos : Pos}
def tTupP (t : TA) : TE := fun σ H Q => t σ H fun vs H1 => vs.length ≤ sizeLine ∧ newT H1 vs Q
theorem pe_tupP {x1} (h : PA X es t) : PE X (.Tuple es x1 pos) (tTupP t) := by
  refine ⟨fun pins s σ H Q I hq => ?_⟩
  refine wpAny_Tuple_spliced (thn (h.run pos pins s σ H _ I hq) fun us s1 ⟨xs, H1, I1, r, z, q⟩ => ⟨by rw [← r.length]; exact z, ?_⟩)
  have hf : H1 s1.heap.objs.size = none := I1.hok.fresh (Nat.le_refl _)
  refine ⟨.ref s1.heap.objs.size, upd H1 s1.heap.objs.size (.frz { cls := .type "tuple", data := .seq us.toArray } (.tup xs)), I1.laid (t' := s1.toks) (fun b u e => Heap.get?_push_of_some _ e) (Nat.le_refl _) ?_, rfl, q _ _ hf ⟨_, upd_same, rfl, rfl⟩⟩
  exact ⟨Heap.get?_push_size _ rfl, z, us, r, ⟨_, Heap.get?_push_size _ rfl, rfl, _, rfl⟩⟩
end
section
variable {X : Cx} {o e : Expr} {es : List Expr} {to : TE} {t : TA} {name : Str} {apos cpos : Pos} {id : String} {r : V → List V → Hp → VK → Prop}
def tBMP (r : V → List V → Hp → VK → Prop) (to : TE) (t : TA) : TE := fun σ H Q => to σ H fun x H1 => ∃ p xs, x = .ref p ∧ PT H1 p xs ∧ t σ H1 fun ys H2 => r x ys H2 Q
theorem pe_bmP (pa : PlainAttrs "tuple") (slot : Slot "tuple" name id) (hty : typeOf (.builtin id) = pure (.type "method_descriptor")) (hm : MtR X id r) (ho : PE X o to) (ha : PA X (e :: es) t)
    (hbase : attributeBase o name X.env (eval o X.env) = eval o X.env := by rfl)
    (hfew : ((backTo cpos (starEach (e :: es) X.env)).all (fun x => !x.1) && (backToKw cpos (keywordEach [] X.env)).all (fun x => x.1.isSome)
      && decide ((e :: es).length + ([] : List Keyword).length + (if ([] : List Keyword).isEmpty then 0 else 1) < 30)) = true := by rfl)
    (hline : (apos.endLine == cpos.line) = true := by rfl) (hs : starEach (e :: es) X.env = (false, eval e X.env) :: starEach es X.env := by rfl) (hplain : (backTo cpos (starEach es X.env)).any (·.1) = false := by rfl) :
    PE X (.Call (.Attribute o name apos) (e :: es) [] cpos) (tBMP r to t) := by
  refine ⟨fun pins s σ H Q I h => ?_⟩
  refine wpAny_Call_method_late hbase hfew hline rfl (thn (ho.run pins s σ H _ I h) fun v s1 ⟨x, H1, I1, r1, p, xs, ep, ⟨ob, eo, ec, ed⟩, q1⟩ => ?_)
  subst ep
  cases r1
  have hok := I1.hok p _ eo
  have h1 : s1.TypeIs (.ref p) "tuple" := ⟨ob, hok.1, ec⟩
  have h2 : ∀ a, Value.ref p = .ref a → ∃ ob, s1.heap.get? a = some ob ∧ ob.dict = none := fun a e2 => by cases e2; exact ⟨ob, hok.1, ed⟩
  refine ⟨"tuple", id, pa, slot, hty, h1, h2, ?_⟩
  have hA := ha.run cpos pins s1 σ H1 _ I1 q1
  rw [hs] at hA ⊢
  refine Calls.callWith_builtin (by show (false || (backTo cpos (starEach es X.env)).any (·.1)) = false; rw [hplain] <;> rfl) (Calls.evalArgs_plain ?_)
  exact thn hA fun us s2 ⟨vs, H2, I2, r2, q2⟩ => hm pins s2 σ H2 (.ref p) vs (.ref p) us Q I2 rfl r2 q2
end
end Z

set_option maxRecDepth 100000
set_option maxHeartbeats 4000000
namespace Z
open PySem PySem.Spec PyProof.Rows L2
/-! ### a comprehension with any target, its answers told by a property -/
section
variable {K : PySem.W.Frag} {wi : TI} {xs : List V} {G : Hp → Prop} {vs : List Nat} {σ : L2.St} {te : TE} {H : Hp} {Q : VK}
theorem tlcRG {g : TG} (J : It) (xs : List V) (G : Hp → Prop) (B : Addr → Bool) (hB : Hid B H) (P : Nat → V → Hp → Prop) (mono : ∀ i y G1 G2, Same G1 G2 → P i y G1 → P i y G2)
    (hw : ∀ R : It → Hp → Prop, (∀ H1, Same H H1 → G H1 → R J H1) → wi σ H R) (w : Walk J xs.length G (YAt xs)) (hG : ∀ H1 H2, Same H1 H2 → G H1 → G H2) (hz : xs.length ≤ 100000)
    (he : ∀ i x B' H', xs[i]? = some x → (∀ a, B a = true → B' a = true) → Same H H' → Same (hd B H) (hd B' H') → Hid B' H' → ∀ (Q' : VK) (R : Hp → Prop), (∀ y H4, Same H' H4 → P i y (hd B' H4) → Q' y H4) → g x (wipe σ vs) H' fun σ2 H2 => wipe σ2 vs = wipe σ vs ∧ tYes σ2 H2 fun b H3 => if b = true then te σ2 H3 Q' else R H3)
    (k : ∀ D acc H', H D = none → acc.length = xs.length → (∀ (i : Nat) y, acc[i]? = some y → P i y (hd (hide D B) H')) → Same H H' → Hid B H' → H' D = some (.lst acc) → Q (.ref D) H') : tLc wi g tYes te vs σ H Q := by
  refine hw _ fun H1 s1 g1 => ?_
  intro D hD
  have hD0 : H D = none := s1.free hD
  have bD : B D = false := hB.off hD0
  refine lc_it w (fun i H' => ∃ acc, acc.length = i ∧ Same H1 H' ∧ H' D = some (.lst acc) ∧ ∀ (n : Nat) y, acc[n]? = some y → P n y (hd (hide D B) H')) ⟨[], rfl, same_new hD, upd_same, fun n y z => by simp at z⟩ ?_ ?_ ?_
  · rintro i H' _ ⟨acc, _, s', _, _⟩
    exact hG H1 H' s' g1
  · rintro i x H2 H3 hi ⟨acc, hl, s', hd', iv⟩ ⟨rfl, hx⟩
    have s02 := s1.trans s'
    have sm : Same (hd B H) (hd (hide D B) H3) := fun a o z => by
      obtain ⟨h1, h2⟩ := hd_some z
      have n : a ≠ D := ne_of_none h2 hD0
      refine hd_of ?_ (s02 a o h2)
      unfold hide
      rw [h1, decide_eq_false n]
      rfl
    refine he i x (hide D B) H3 hx (fun a z => by unfold hide; rw [z, Bool.or_true]) s02 sm ((hB.same s02).more hd') _ _ fun y H4 z2 z3 => ?_
    have d4 : H4 D = some (.lst acc) := z2 _ _ hd'
    refine ⟨acc, d4, small5 (by omega), acc ++ [y], by rw [List.length_append, hl]; rfl, same_mut (s'.trans z2) hD, upd_same, ?_⟩
    intro n y' z
    refine mono _ _ _ _ (hide_same D B H4) ?_
    rw [List.getElem?_append] at z
    split at z
    · exact mono _ _ _ _ (Same.hd (show Same H3 H4 from z2)) (iv n y' z)
    · rename_i h
      have e : n = acc.length := by
        have := (List.getElem?_eq_some_iff.mp z).1
        simp at this
        omega
      subst e
      rw [Nat.sub_self] at z
      cases z
      rw [hl]
      exact z3
  · rintro H' ⟨acc, hl, s', hd', iv⟩
    exact k D acc H' hD0 hl iv (s1.trans s') (hB.same (s1.trans s')) hd'
theorem comp_listRG {g : TG} {tl : TE} {a : Addr} {xs : List V} (B : Addr → Bool) (hB : Hid B H) (P : Nat → V → Hp → Prop) (mono : ∀ i y G1 G2, Same G1 G2 → P i y G1 → P i y G2) (h0 : ∀ R : VK, (∀ H1, Same H H1 → SqL K H1 a xs → R (.ref a) H1) → tl σ H R) (hz : xs.length ≤ 100000)
    (he : ∀ i x B' H', xs[i]? = some x → (∀ a, B a = true → B' a = true) → Same H H' → Same (hd B H) (hd B' H') → Hid B' H' → ∀ (Q' : VK) (R : Hp → Prop), (∀ y H4, Same H' H4 → P i y (hd B' H4) → Q' y H4) → g x (wipe σ vs) H' fun σ2 H2 => wipe σ2 vs = wipe σ vs ∧ tYes σ2 H2 fun b H3 => if b = true then te σ2 H3 Q' else R H3)
    (k : ∀ D acc H', H D = none → acc.length = xs.length → (∀ (i : Nat) y, acc[i]? = some y → P i y (hd (hide D B) H')) → Same H H' → Hid B H' → H' D = some (.lst acc) → Q (.ref D) H') : tLc (iList K tl) g tYes te vs σ H Q :=
  tlcRG (Itl K a) xs (fun H => SqL K H a xs) B hB P mono (fun R r => h0 _ fun H1 s1 q => ⟨a, rfl, ⟨xs, q⟩, r H1 s1 q⟩) walk_list (fun _ _ s q => s.seq q) hz he k
end
theorem comp_tupE {K : PySem.W.Frag} {ω : Bg} {ta te : TE} {vs : List Nat} {j : Nat} {σ : L2.St} {H : Hp} {Q : VK} {a : Addr} (xs : List V) (B : Addr → Bool) (wd : Wd K B ω H) (P : Nat → V → Hp → Prop) (mono : ∀ i y G1 G2, Same G1 G2 → P i y G1 → P i y G2) (hz : xs.length ≤ 100000)
    (ht : SqT K (hd B H) a xs) (h0 : ∀ R : VK, R (.ref a) H → ta σ H R)
    (hs : ∀ i x B' H', xs[i]? = some x → (∀ a, B a = true → B' a = true) → Same (hd B H) (hd B' H') → Wd K B' ω H' → ∀ Q' : VK, (∀ y H4, Bag K H4 ω → Go ω.b H' H4 → P i y (hd B' H4) → Q' y H4) → te ((σ.set j none).set j (some x)) H' Q')
    (k : ∀ D acc H', H D = none → acc.length = xs.length → (∀ (i : Nat) y, acc[i]? = some y → P i y (hd (hide D B) H')) → Wd K B ω H' → Go ω.b H H' → H' D = some (.lst acc) → Q (.ref D) H') (hv : vs = [j] := by rfl) : tLc (iTup K ta) (gName j) tYes te vs σ H Q := by
  unfold tLc iTup
  refine h0 _ ⟨a, rfl, ⟨_, Same.tup (hd_same _ _) ht⟩, ?_⟩
  exact lcE (G := fun H' => SqT K H' a xs) (hv := hv) walk_tup B wd P mono (fun H' s' => Same.tup (hd_same _ _) (Same.tup s' ht)) hz hs k
end Z

set_option maxRecDepth 100000
set_option maxHeartbeats 4000000
namespace Z
open PySem PySem.Spec PySem.Builtin PySem.Builtin.Str PyProof.Rows L2
/-! ### zip(a text, a tuple) -/
/-- n new pairs -/
def JP (n : Nat) (Y : Nat → V → V → Prop) (G : Hp → Prop) : It :=
  ⟨fun i H => G H ∧ i < n, fun i H v H' => ∃ T x y, v = .ref T ∧ H T = none ∧ H' = upd H T (.tup [x, y]) ∧ Y i x y, fun i H => G H ∧ n ≤ i⟩
theorem walk_P {n : Nat} {Y : Nat → V → V → Prop} {G : Hp → Prop} : Walk (JP n Y G) n G (fun i H v H' => ∃ T x y, v = .ref T ∧ H T = none ∧ H' = upd H T (.tup [x, y]) ∧ Y i x y) :=
  ⟨fun _ _ hi g => ⟨g, hi⟩, fun _ g => ⟨g, Nat.le_refl _⟩, fun _ _ _ _ _ _ y => y⟩
theorem turn_zipG {P : Program} {w : World} {K : PySem.W.Frag} {elts : List Expr} {kk : Nat} {tpos : Pos} {t1 t2 : Nat → Heap → Prop} {n : Nat} {Y : Nat → V → V → Prop} {G : Hp → Prop} {z TI TO i1 i2 : Addr}
    (hk1 : ∀ i h h', t1 i h → (∀ o, h.get? i1 = some o → h'.get? i1 = some o) → t1 i h') (hk2 : ∀ i h h', t2 i h → (∀ o, h.get? i2 = some o → h'.get? i2 = some o) → t2 i h')
    (ho1 : ∀ i h, t1 i h → ∃ o, h.get? i1 = some o ∧ ∀ v, o.data ≠ .cell v) (ho2 : ∀ i h, t2 i h → ∃ o, h.get? i2 = some o ∧ ∀ v, o.data ≠ .cell v)
    (hD : ∀ (X : Cx) (pins : List (Addr × Obj)) (σ : L2.St) (H : Hp) (s : Shared), X.prog = P → X.w = w → X.K = K → X.calm = true → Inv X pins σ H s → G H → ∃ (fp1 fp2 : List Addr) (P1 P2 : Nat → Value → Prop) (St1 St2 : Nat → Heap → Prop),
      ZipSep2 z TI TO i1 i2 fp1 fp2 ∧ Draws P w X.A.in1 i1 fp1 n P1 St1 ∧ Draws P w X.A.in1 i2 fp2 n P2 St2 ∧ (∀ i, t1 i s.heap → St1 i s.heap) ∧ (∀ i, t2 i s.heap → St2 i s.heap) ∧ (∀ i h, St1 i h → t1 i h) ∧ (∀ i h, St2 i h → t2 i h) ∧ ∀ i u v, P1 i u → P2 i v → ∃ x y, RelV x u ∧ RelV y v ∧ Y i x y) :
    Turn P w K (.Tuple elts kk tpos) (JP n Y G) [z, TI, TO, i1, i2] z (fun i h => IsZip h z TI TO .none ∧ IsTupOf2 h TI (.ref i1) (.ref i2) ∧ (∃ x y, IsTupOf2 h TO x y) ∧ t1 i h ∧ t2 i h ∧ i ≤ n) where
  mem := by simp
  obj := fun i h st c hc => by
    obtain ⟨hz, hTI, ⟨x, y, hTO⟩, h1, h2, _⟩ := st
    have e' : c = z ∨ c = TI ∨ c = TO ∨ c = i1 ∨ c = i2 := by simpa using hc
    rcases e' with q | q | q | q | q
    · rw [q]; exact ⟨_, hz, fun v q => nomatch q⟩
    · rw [q]; exact ⟨_, hTI, fun v q => nomatch q⟩
    · rw [q]; exact ⟨_, hTO, fun v q => nomatch q⟩
    · rw [q]; exact ho1 i h h1
    · rw [q]; exact ho2 i h h2
  keep := fun i h h' st k => by
    obtain ⟨hz, hTI, ⟨x, y, hTO⟩, h1, h2, hle⟩ := st
    exact ⟨k z (by simp) _ hz, k TI (by simp) _ hTI, ⟨x, y, k TO (by simp) _ hTO⟩, hk1 i h h' h1 fun o q => k i1 (by simp) o q, hk2 i h h' h2 fun o q => k i2 (by simp) o q, hle⟩
  item := by
    intro X hP hw hK hc i pins s σ H E I hf st hg
    obtain ⟨hz, hTI, ⟨x0, y0, hTO⟩, h1, h2, _⟩ := st
    obtain ⟨hG, hlt⟩ := hg
    obtain ⟨fp1, fp2, P1, P2, St1, St2, S, D1, D2, d1, d2, d3, d4, d5⟩ := hD X pins σ H s hP hw hK hc I hG
    subst hP hw hK
    have hzl : z < s.heap.objs.size := Heap.lt_size hz
    have hl1 : i1 < s.heap.objs.size := by obtain ⟨o, q, _⟩ := ho1 i _ h1; exact Heap.lt_size q
    have hl2 : i2 < s.heap.objs.size := by obtain ⟨o, q, _⟩ := ho2 i _ h2; exact Heap.lt_size q
    refine wpAny_pyNext_zipD2_item S D1 D2 hz hTI hTO (d1 i h1) (d2 i h2) hlt hlt fun u u2 h' tk p1 p2 z' TO' st1' st2' hT hsz hk => ?_
    obtain ⟨x, y, ru, ru2, hY⟩ := d5 i u u2 p1 p2
    refine ⟨_, rfl, wpAny_letOwnedTupleGo_zip (s := { s with heap := h', toks := tk }) z' fun h'' z'' sb => ?_⟩
    have hT2 : h''.get? s.heap.objs.size = some { cls := .type "tuple", data := .seq #[u, u2] } := (sb.2 _ (Nat.ne_of_gt hzl)).trans hT
    have new : ObjOk X.prog X.w (upd H s.heap.objs.size (.tup [x, y])) h'' s.heap.objs.size (.tup [x, y]) :=
      ⟨by show 2 ≤ sizeLine; decide, [u, u2], .cons ru (.cons ru2 .nil), ⟨_, hT2, rfl, _, rfl⟩⟩
    have I1 : Inv X pins σ (upd H s.heap.objs.size (.tup [x, y])) { s with heap := h'', toks := tk } :=
      I.turnedNew (t' := tk) (ch := [z, TI, TO, i1, i2]) (fun c o hb q => (sb.2 c (fun q' => hb (by simp [q']))).trans (hk c o (fun q' => hb (by simp [q'])) (fun q' => hb (by simp [q'])) (fun q' => hb (by simp [q'])) (fun q' => hb (by simp [q'])) q)) hf (Nat.le_refl _) new
    refine ⟨.ref s.heap.objs.size, _, I1, rfl, ⟨_, x, y, rfl, I.hok.fresh (Nat.le_refl _), rfl, hY⟩, ⟨z'', ?_, ⟨u, u2, ?_⟩, ?_, ?_, hlt⟩, fun c hcm => ?_⟩
    · exact (sb.2 _ S.TIz).trans (hk _ _ S.TIz S.TITO S.TIi1 S.TIi2 hTI)
    · exact (sb.2 _ S.TOz).trans TO'
    · exact hk1 _ _ _ (d3 _ _ st1') fun o q => (sb.2 _ (Ne.symm S.zi1)).trans q
    · exact hk2 _ _ _ (d4 _ _ st2') fun o q => (sb.2 _ (Ne.symm S.zi2)).trans q
    · have hlt : c < s.heap.objs.size := by
        have e' : c = z ∨ c = TI ∨ c = TO ∨ c = i1 ∨ c = i2 := by simpa using hcm
        rcases e' with q | q | q | q | q
        · rw [q]; exact hzl
        · rw [q]; exact Heap.lt_size hTI
        · rw [q]; exact Heap.lt_size hTO
        · rw [q]; exact hl1
        · rw [q]; exact hl2
      rw [upd_ne (Nat.ne_of_lt hlt)]
      exact (hf c hcm).1
  done := by
    intro X hP hw hK hc i pins s σ H E I hf st hg
    obtain ⟨hz, hTI, ⟨x0, y0, hTO⟩, h1, h2, hle⟩ := st
    obtain ⟨hG, hge⟩ := hg
    obtain ⟨fp1, fp2, P1, P2, St1, St2, S, D1, D2, d1, d2, d3, d4, d5⟩ := hD X pins σ H s hP hw hK hc I hG
    subst hP hw hK
    have e1 : i = n := Nat.le_antisymm hle hge
    exact wpAny_pyNext_zipD2_end S D1 D2 hz hTI hTO (d1 i h1) (d2 i h2) hle hle (.inl e1) fun h' tk hk => ⟨rfl, I.turnedL (t' := tk) (ch := [z, TI, TO, i1, i2]) (fun c o hb q =>
      hk c o (fun q' => hb (by simp [q'])) (fun q' => hb (by simp [q'])) (fun q' => hb (by simp [q'])) (fun q' => hb (by simp [q'])) q) hf⟩
  self := fun A i s Q E st h => wpAny_pyIter_zip st.1 h
/-! its making -/
abbrev zpS1 (h : Heap) (x : Str) (t : Tok) : Heap := h.push { cls := .type (strIterType x), data := .fields #[.str x t, .int 0 0] }
abbrev zpS2 (h : Heap) (x : Str) (t : Tok) (l : Addr) : Heap := (zpS1 h x t).push { cls := .type "tuple_iterator", data := .fields #[.ref l, .int 0 0] }
abbrev zpS3 (h : Heap) (x : Str) (t : Tok) (l : Addr) : Heap := (zpS2 h x t l).push { cls := .type "tuple", data := .seq #[.ref h.objs.size, .ref (zpS1 h x t).objs.size] }
abbrev zpS4 (h : Heap) (x : Str) (t : Tok) (l : Addr) : Heap := (zpS3 h x t l).push { cls := .type "tuple", data := .seq #[.none, .none] }
abbrev zpS5 (h : Heap) (x : Str) (t : Tok) (l : Addr) : Heap := (zpS4 h x t l).push { cls := .type "zip", data := .fields #[.none, .bool false, .bool false, .ref (zpS2 h x t l).objs.size, .ref (zpS3 h x t l).objs.size] }
theorem meets_zipST (x : Str) (t : Tok) (l : Addr) (ys : Array Value) :
    Meets (Builtin.«zip.__new__» ⟨[.type "zip", .str x t, .ref l], []⟩) (fun _ R s => s.heap.IsTuple l ys ∧ R (.ok (.ret (.ref (zpS4 s.heap x t l).objs.size))) { s with heap := zpS5 s.heap x t l }) :=
  .of_wp fun prog w A R s h => by
    obtain ⟨hp, g, d, tk, os⟩ := s; obtain ⟨hl, h⟩ := h
    have hsub := sub_zip
    have q1 : ∀ {A' : Around} {E : Value → Shared → Prop} {Q : Value → Shared → Prop}, Q (.ref hp.objs.size) ⟨zpS1 hp x t, g, d, tk, os⟩ → wpAny (model prog w) A' (pyIter (.str x t)) Q E ⟨hp, g, d, tk, os⟩ := fun q => (begins_text x t).iter prog w _ _ ⟨hp, g, d, tk, os⟩ _ trivial q
    have hL2 : Heap.IsTuple (Shared.heap ⟨zpS1 hp x t, g, d, tk, os⟩) l ys := Heap.IsTuple.push hl _
    wp_walk using q1, wpAny_pyIter_tuple hL2
    exact ⟨_, rfl, h⟩
section
variable {prog : Program} {w : World} {A : Around} {E : Value → Shared → Prop} {s : Shared}
theorem call_zipST {x : Str} {t : Tok} {l : Addr} {ys : Array Value} {Q : Value → Shared → Prop} (hl : s.heap.IsTuple l ys)
    (h : ∀ h', IsZip h' (s.heap.objs.size + 4) (s.heap.objs.size + 2) (s.heap.objs.size + 3) .none → IsTupOf2 h' (s.heap.objs.size + 2) (.ref s.heap.objs.size) (.ref (s.heap.objs.size + 1)) →
      IsTupOf2 h' (s.heap.objs.size + 3) .none .none → h'.IsStrIter s.heap.objs.size (strIterType x) x t 0 → h'.IsTupleIter (s.heap.objs.size + 1) l 0 →
      (∀ c o, s.heap.get? c = some o → h'.get? c = some o) → Q (.ref (s.heap.objs.size + 4)) { s with heap := h' }) :
    wpAny (model prog w) A (call (.type "zip") [.str x t, .ref l]) Q E s := by
  refine callType_new F.called_zip (by decide) (F.typeCall_zip_2 _ _) (F.newCall_zip_2 _ _) (fun obj => F.args_object_init_3 obj _ _) F.entry_zip_new
    (meets_zipST x t l ys) ⟨hl, ?_⟩
  have z1 : (zpS1 s.heap x t).objs.size = s.heap.objs.size + 1 := Heap.size_push ..
  have z2 : (zpS2 s.heap x t l).objs.size = s.heap.objs.size + 2 := by rw [Heap.size_push, z1]
  have z3 : (zpS3 s.heap x t l).objs.size = s.heap.objs.size + 3 := by rw [Heap.size_push, z2]
  have z4 : (zpS4 s.heap x t l).objs.size = s.heap.objs.size + 4 := by rw [Heap.size_push, z3]
  have g5 : (zpS5 s.heap x t l).get? (zpS4 s.heap x t l).objs.size = some _ := Heap.get?_push_size _ rfl
  have g4 : (zpS5 s.heap x t l).get? (zpS3 s.heap x t l).objs.size = some _ := Heap.get?_push_of_some _ (Heap.get?_push_size _ rfl)
  have g3 : (zpS5 s.heap x t l).get? (zpS2 s.heap x t l).objs.size = some _ := Heap.get?_push_of_some _ (Heap.get?_push_of_some _ (Heap.get?_push_size _ rfl))
  have g2 : (zpS5 s.heap x t l).get? (zpS1 s.heap x t).objs.size = some _ := Heap.get?_push_of_some _ (Heap.get?_push_of_some _ (Heap.get?_push_of_some _ (Heap.get?_push_size _ rfl)))
  have g1 : (zpS5 s.heap x t l).get? s.heap.objs.size = some _ := Heap.get?_push_of_some _ (Heap.get?_push_of_some _ (Heap.get?_push_of_some _ (Heap.get?_push_of_some _ (Heap.get?_push_size _ rfl))))
  show _ ∧ _
  rw [z2, z3, z4] at g5
  rw [z1, z2] at g3
  rw [z3] at g4
  rw [z1] at g2
  rw [z4]
  exact ⟨⟨_, g5, rfl⟩, h _ g5 g3 g4 ⟨_, g1, rfl, rfl⟩ ⟨_, g2, rfl, rfl⟩ fun c o x =>
    Heap.get?_push_of_some _ (Heap.get?_push_of_some _ (Heap.get?_push_of_some _ (Heap.get?_push_of_some _ (Heap.get?_push_of_some _ x))))⟩
end
theorem adne {a b : Nat} (h : a ≠ b) : @Ne Addr a b := h
theorem zsep (n b : Nat) (hb : b < n) : ZipSep2 (n + 4) (n + 2) (n + 3) n (n + 1) [n] [n + 1, b] := by
  have m1 : ∀ {a c : Nat}, a ≠ c → ¬ (a : Addr) ∈ ([c] : List Addr) := fun h hm => h (List.mem_singleton.mp hm)
  have m2 : ∀ {a c d : Nat}, a ≠ c → a ≠ d → ¬ (a : Addr) ∈ ([c, d] : List Addr) := fun h h' hm => (List.mem_cons.mp hm).elim h fun q => h' (List.mem_singleton.mp q)
  exact ⟨adne (by omega), adne (by omega), adne (by omega), adne (by omega), List.mem_singleton.mpr rfl, m1 (by omega), m1 (by omega), adne (by omega), List.mem_cons_self, m2 (by omega) (by omega), m2 (by omega) (by omega), m2 (by omega) (by omega), m1 (by omega)⟩
/-- the pairs of a text's signs and a tuple's items -/
def iZipST (K : PySem.W.Frag) (ta : TA) : TI := fun σ H R => ta σ H fun vs H1 => ∃ (z : Str) (b : Addr) (ys : List V), vs = [.str z, .ref b] ∧ SqT K H1 b ys ∧ z.length = ys.length ∧ R (JP ys.length (fun i x y => (signsV z)[i]? = some x ∧ ys[i]? = some y) fun H => SqT K H b ys) H1
theorem pi_zipST {X : Cx} {e e2 : Expr} {ta : TA} {p pos tpos : Pos} {elts : List Expr} {kk : Nat} (hg : Gl X "zip") (hm : X.mg "zip" = none) (ha : PA X [e, e2] ta)
    (hs : starEach [e, e2] X.env = (false, eval e X.env) :: starEach [e2] X.env := by rfl) (hpl : (backTo pos (starEach [e2] X.env)).any (·.1) = false := by rfl) :
    PI X (.Tuple elts kk tpos) (.Call (.Name "zip" p) [e, e2] [] pos) (iZipST X.K ta) := by
  refine ⟨fun pins s σ H R I h => ?_⟩
  refine Call_ (ld_blt I hg hm PyProof.Rows.boot_zip (PyProof.Rows.callWith_type1 (thn (ha.run pos pins s σ H _ I h) fun us s1 ⟨vs, H1, I1, r1, q1⟩ => ?_) hs hpl))
  obtain ⟨z, b, ys, ex, hq, hl, q⟩ := q1
  subst ex
  cases r1 with
  | cons r rr =>
    cases rr with
    | cons r' rr =>
      cases rr
      obtain ⟨t, rfl⟩ := r
      cases r'
      have fresh5 : ∀ c, c ∈ [s1.heap.objs.size + 4, s1.heap.objs.size + 2, s1.heap.objs.size + 3, s1.heap.objs.size, s1.heap.objs.size + 1] → FpOk X pins H1 c := fun c hcm => by
        have e' : c = s1.heap.objs.size + 4 ∨ c = s1.heap.objs.size + 2 ∨ c = s1.heap.objs.size + 3 ∨ c = s1.heap.objs.size ∨ c = s1.heap.objs.size + 1 := by simpa using hcm
        have hle : s1.heap.objs.size ≤ c := by
          rcases e' with z | z | z | z | z
          · rw [z]; exact Nat.le_add_right _ _
          · rw [z]; exact Nat.le_add_right _ _
          · rw [z]; exact Nat.le_add_right _ _
          · rw [z]; exact Nat.le_refl _
          · rw [z]; exact Nat.le_add_right _ _
        exact I1.fpOk hle (I1.hok.fresh hle)
      obtain ⟨its, rv, p1, _⟩ := I1.tuple hq
      have hbl : b < s1.heap.objs.size := by obtain ⟨_, e, _⟩ := p1; exact Heap.lt_size e
      refine call_zipST (show s1.heap.IsTuple b its.toArray from p1) fun h' hz hTI hTO h1 h2 hk => wpAny_pyIter_zip hz ?_
      have I2 : Inv X pins σ H1 { s1 with heap := h' } := I1.kept (t' := s1.toks) hk
      refine ⟨s1.heap.objs.size + 4, [s1.heap.objs.size + 4, s1.heap.objs.size + 2, s1.heap.objs.size + 3, s1.heap.objs.size, s1.heap.objs.size + 1], _, _, H1, rfl, I2, turn_zipG (t1 := fun i h => h.IsStrIter s1.heap.objs.size (strIterType z) z t i) (t2 := fun i h => h.IsTupleIter (s1.heap.objs.size + 1) b i) ?_ ?_ ?_ ?_ ?_, ⟨hz, hTI, ⟨_, _, hTO⟩, h1, h2, Nat.zero_le _⟩, fresh5, q⟩
      · exact fun i h h' ⟨o, a, b⟩ k => ⟨o, k o a, b⟩
      · exact fun i h h' t k => t.at k
      · exact fun i h ⟨o, a, b, d⟩ => ⟨o, a, fun v q => by rw [d] at q; cases q⟩
      · exact fun i h ⟨o, a, b, d⟩ => ⟨o, a, fun v q => by rw [d] at q; cases q⟩
      · intro X' pins' σ' H' s' _ _ hK hc I' hG
        rw [← hK] at hG
        obtain ⟨its', rv', p2, _⟩ := I'.tuple hG
        have hl' := rv'.length
        have D1 := Draws.text (prog := X.prog) (w := X.w) (A := X'.A.in1) (I'.ok.hd hc) s1.heap.objs.size z t
        have e0 : z.cps.size = ys.length := hl
        rw [e0] at D1
        have D2 := Draws.tuple (prog := X.prog) (w := X.w) (A := X'.A.in1) (I'.ok.hd hc) (s1.heap.objs.size + 1) b (Nat.ne_of_lt (Nat.lt_succ_of_lt hbl)) its'.toArray
        have e1 : its'.toArray.size = ys.length := by rw [List.size_toArray, hl']
        rw [e1] at D2
        refine ⟨_, _, _, _, _, _, ?_, D1, D2, fun i h => h, fun i h => ⟨h, p2⟩, fun i h x => x, fun i h x => x.1, ?_⟩
        · exact zsep s1.heap.objs.size b hbl
        · rintro i u v ⟨c, tk, hcc, rfl⟩ hv
          have hv' : its'[i]? = some v := by simpa using hv
          have hi : i < its'.length := (List.getElem?_eq_some_iff.mp hv').1
          have hx : ys[i]? = some ys[i] := List.getElem?_eq_getElem (by omega)
          obtain ⟨u2, h2, r2⟩ := rv'.get hx
          rw [hv'] at h2
          cases h2
          refine ⟨.str ⟨#[c]⟩, _, ⟨_, rfl⟩, r2, ?_, hx⟩
          unfold signsV
          rw [List.getElem?_map, Array.getElem?_toList, hcc]
          rfl
theorem pi_zipSTK {X : Cx} {e e2 : Expr} {ta : TA} {p pos tpos : Pos} {elts : List Expr} {kk : Nat} (K : PySem.W.Frag) (hg : Gl X "zip") (hm : X.mg "zip" = none) (ha : PA X [e, e2] ta) (hK : X.K = K := by rfl)
    (hs : starEach [e, e2] X.env = (false, eval e X.env) :: starEach [e2] X.env := by rfl) (hpl : (backTo pos (starEach [e2] X.env)).any (·.1) = false := by rfl) :
    PI X (.Tuple elts kk tpos) (.Call (.Name "zip" p) [e, e2] [] pos) (iZipST K ta) := by
  subst hK
  exact pi_zipST hg hm ha hs hpl
/-- a comprehension over such pairs, its answers told as a list -/
theorem comp_zip {K : PySem.W.Frag} {ta : TA} {te : TE} {g : TG} {vs : List Nat} {σ : L2.St} {H : Hp} {Q : VK} {z : Str} {b : Addr} {ys : List V} (bs : List V) (hq : SqT K H b ys) (hl : z.length = ys.length) (hz : ys.length ≤ 100000) (h0 : ∀ R : List V → Hp → Prop, R [.str z, .ref b] H → ta σ H R) (hbl : bs.length = ys.length)
    (he : ∀ (i c : Nat) (y w : V) (T : Addr) (H' : Hp), z.cps.toList[i]? = some c → ys[i]? = some y → bs[i]? = some w → Same H H' → H' T = some (.tup [.str (one c), y]) → ∀ (Q' : VK) (R : Hp → Prop), (∀ H'', Same H' H'' → Q' w H'') → g (.ref T) (wipe σ vs) H' fun σ2 H2 => wipe σ2 vs = wipe σ vs ∧ tYes σ2 H2 fun b H3 => if b = true then te σ2 H3 Q' else R H3)
    (k : ∀ D H', H D = none → Same H H' → H' D = some (.lst bs) → Q (.ref D) H') : tLc (iZipST K ta) g tYes te vs σ H Q := by
  refine h0 _ ⟨z, b, ys, rfl, hq, hl, ?_⟩
  intro D hD
  refine lc_it walk_P (fun i H' => Same H H' ∧ H' D = some (.lst (bs.take i))) ⟨same_new hD, upd_same⟩ (fun i H' _ p => Same.tup p.1 hq) ?_ ?_
  · rintro i x H2 H3 hi ⟨s2, d2⟩ ⟨T, x', y, rfl, hT, rfl, hx, hy⟩
    have hb : i < bs.length := by omega
    have sT := same_new (o := .tup [x', y]) hT
    obtain ⟨c, hc, rfl⟩ : ∃ c, z.cps.toList[i]? = some c ∧ x' = V.str (one c) := by
      unfold signsV at hx
      rw [List.getElem?_map] at hx
      cases e : z.cps.toList[i]? with
      | none => rw [e] at hx; cases hx
      | some c => rw [e] at hx; cases hx; exact ⟨c, rfl, rfl⟩
    refine he i c y bs[i] T _ hc hy (List.getElem?_eq_getElem hb) (Same.trans s2 sT) upd_same _ _ fun H4 s4 => ?_
    refine ⟨_, s4 _ _ (sT _ _ d2), ?_, same_mut ((Same.trans s2 sT).trans s4) hD, ?_⟩
    · rw [List.length_take]
      exact small5 (by omega)
    · rw [upd_same, List.take_add_one, List.getElem?_eq_getElem hb]
      rfl
  · rintro H' ⟨s2, d2⟩
    rw [← hbl, List.take_length] at d2
    exact k D H' hD s2 d2
end Z

set_option maxRecDepth 100000
set_option maxHeartbeats 4000000
namespace Z
open PySem PySem.Spec PyProof.Rows L2
/-! ### a method that may raise, asked within a try's body -/
section
variable {X : Cx} {CX : CXT} {k : Nat} {f C : Addr} {fd : FuncData} {ps : List Str} {sp : Sp} {E : L2.St → XK} {x m : Str} {p pos apos : Pos} {e o : Expr} {es : List Expr} {ta : TE} {t : TA}
theorem run_fnGS {pins : List (Addr × Obj)} {σ : L2.St} {H : Hp} {s : Shared} {Q : VK} {us : List Value} {vs : List V} (F : FnG X.prog X.w X.K X.mg X.base CX k f fd ps sp) (hr : Room k X.A) (gd : X.A.guards = some []) (hb : Binds X.K fd ps []) (hx : ∀ σ, PassesAt CX X σ (E σ))
    (I : Inv X pins σ H s) (r : Vals vs us) (h : sp vs H Q (E σ)) : wpAny (model X.prog X.w) X.A (call (.ref f) us) (EP X pins σ Q) X.xe s := by
  have hl : us.length = ps.length := by rw [← r.length]; exact F.len _ _ _ _ h
  have bi := hb s us I.kIn (by rw [List.append_nil]; exact hl)
  rw [List.append_nil] at bi
  refine wpAny_call (codeAny_mono (F.run X.A X.stack s H ⟨us, []⟩ us vs Q (E σ) hr gd I.env0 bi r h) fun r s' hq => ?_)
  cases r with
  | error e => exact hx σ pins H s e s' I hq
  | ok fl => cases fl <;> first | exact I.after hq | exact False.elim hq
def tMethS (C : Addr) (m : Str) (sp : Sp) (E : L2.St → XK) (ta : TE) (t : TA) : TE := fun σ H Q => ta σ H fun x H1 => ∃ a dx fs, x = .ref a ∧ H1 a = some (.ins C dx fs) ∧ fs.lookup m = none ∧ t σ H1 fun vs H2 => sp (x :: vs) H2 Q (E σ)
/-- o.m(e, ..) -/
theorem pe_cmS {j : Nat} {pl : Sem Bool} (he : PE X o ta) (cl : Cls X.K C) (c : Cm X.prog X.w X.K X.mg X.base CX k C m sp) (hr : Room j X.A) (gd : X.A.guards = some []) (hk : k ≤ j) (hx : ∀ σ, PassesAt CX X σ (E σ)) (ha : PA X (e :: es) t)
    (hst : starEach (e :: es) X.env = (false, eval e X.env) :: starEach es X.env := by rfl) (hpl : (backTo pos (starEach es X.env)).any (·.1) = false := by rfl)
    (ht : eval (.Call (.Attribute o m apos) (e :: es) [] pos) X.env = (do
      let ov ← eval o X.env
      standAt apos.atName
      let (f, first) ← holding [ov] (getMethod ov m pl)
      callWith pos f first (backTo pos (starEach (e :: es) X.env)) (backToKw pos (keywordEach [] X.env))) := by rfl) :
    PE X (.Call (.Attribute o m apos) (e :: es) [] pos) (tMethS C m sp E ta t) := by
  obtain ⟨f, fd, ps, F, hm, hb⟩ := c.ex
  refine ⟨fun pins s σ H Q I h => ?_⟩
  refine PySem.W.methodCall_KW (pl := pl) (thn (he.run pins s σ H _ I h) fun u s1 ⟨x, H1, I1, rx, a, dx, fs, ex, ea, l, q⟩ => ?_) ht
  subst ex
  obtain rfl : u = Value.ref a := rx
  refine getmeth_ok I1 ea cl hm l ?_
  refine PySem.W.callWith_K (first := [.ref a]) (h₀ := X.base) I.ok.mod.kin hm.kp (thn (ha.run pos pins s1 σ H1 _ I1 q) fun us s2 ⟨vs, H2, I2, r, q2⟩ => ⟨I2.kIn, ?_⟩) hst hpl
  exact run_fnGS (us := .ref a :: us) (vs := .ref a :: vs) F (hr.mono hk) gd hb hx I2 (.cons rfl r) q2
end
/-! ### ==, of instances with their own -/
section
variable {prog : Program} {w : World} {A : Around} {M : Model} {Ek : Value → Shared → Prop} {s : Shared} {K : PySem.W.Frag} {x y f C : Addr} {ox oy : Obj} {od od' : Option Obj}
theorem eq_own {Q : Value → Shared → Prop} (hu : A.in1.units < cLine) (Xk : K.In s.heap) (I : PySem.W.InstAt s.heap x ox C od) (J : PySem.W.InstAt s.heap y oy C od') (hr : PySem.W.findIn K (.ref C) "__eq__" = some (some (.ref f))) (hf : PySem.W.isFn K (.ref f) = true)
    (h : wpAny (model prog w) A (call (.ref f) [.ref x, .ref y]) (fun v s' => ∃ r, v = .bool r ∧ Q (.bool r) s') Ek s) : wpAny (model prog w) A (compareOp .Eq (.ref x) (.ref y)) Q Ek s := by
  have one : wpAny (model prog w) A (tryCompare (.ref x) (cmpInfo .Eq).2.1 (.ref y)) (fun r s' => ∃ v, r = some v ∧ Q v s') Ek s := by
    unfold tryCompare
    refine wpAny_bind (PySem.W.ifBound_K Xk I hr hf (wpAny_mono h (fun v s' hv => ?_) fun _ _ e => e))
    obtain ⟨r, rfl, q⟩ := hv
    exact wpAny_pure ⟨_, rfl, q⟩
  show wpAny _ _ (richCompare .Eq (.ref x) (.ref y)) _ _ _
  have hu0 : A.units < cLine := Nat.lt_of_succ_lt hu
  unfold richCompare
  simp only [oneThing_ref]
  refine wpAny_holding (wpAny_bind (wpAny_cRoomFor hu0 ?_))
  refine wpAny_bind (I.type.here (wpAny_bind (J.type.here ?_)))
  rw [show (Value.ref C != Value.ref C) = false from by simp]
  simp only [Bool.false_eq_true, if_false]
  refine wpAny_bind (wpAny_pure ?_)
  simp only [Bool.false_eq_true, if_false]
  refine wpAny_bind (wpAny_mono one (fun r s' z => ?_) fun _ _ e => e)
  obtain ⟨v, rfl, hq⟩ := z
  exact wpAny_pure hq
end
section
variable {X : Cx} {CX : CXT} {k j : Nat} {C : Addr} {sp : Sp} {E : XK}
theorem op_eqO (c : Cm X.prog X.w X.K X.mg X.base CX k C "__eq__" sp) (hr : Room j X.A) (gd : X.A.guards = some []) (hk : k + 2 ≤ j) (hx : Passes CX X E) : OpR X (compareOp .Eq) (rCmpO C id sp E) := by
  intro pins s σ H x y v u Q I rx ry h
  obtain ⟨a, b, dx, dy, fs, gs, rfl, rfl, ea, eb, q⟩ := h
  cases rx
  cases ry
  obtain ⟨f, fd, ps, F, hm, hb⟩ := c.ex
  obtain ⟨mA, J, _⟩ := ins_get I.hok ea
  obtain ⟨mB, J2, _⟩ := ins_get I.hok eb
  obtain ⟨od, J, _⟩ := J.look
  obtain ⟨od2, J2, _⟩ := J2.look
  refine eq_own (hr.mono hk).in1.units0 I.kIn J J2 hm.at_ hm.fn ?_
  refine wpAny_mono (run_fnG (vs := [V.ref a, V.ref b]) (us := [Value.ref a, Value.ref b]) F (hr.mono (Nat.le_trans (by omega) hk)) gd hb hx I (.cons rfl (.cons rfl .nil)) q) (fun v s' z => ?_) fun _ _ z => z
  obtain ⟨y, H', I', ry, r, rfl, q⟩ := z
  cases ry
  exact ⟨r, rfl, .bl r, H', I', rfl, q⟩
end
/-- a def's promise, with more room -/
theorem FnG.up {P : Program} {w : World} {K : PySem.W.Frag} {mg : Str → Option Value} {base : Heap} {CX : CXT} {k j : Nat} {f : Addr} {fd : FuncData} {ps : List Str} {sp : Sp} (F : FnG P w K mg base CX k f fd ps sp) (h : k ≤ j) : FnG P w K mg base CX j f fd ps sp :=
  ⟨F.len, fun A out s H args us vs Q E room gd e0 bi rv q => F.run A out s H args us vs Q E (room.mono h) gd e0 bi rv q⟩
end Z

set_option maxRecDepth 100000
set_option maxHeartbeats 4000000
/-! ### sorted of triples: two ints and a text that they tell -/
namespace SrtO
open PySem PyProof.Rows Srt
def IsTri (h : Heap) (v : Value) (x y : Int) (z : PySem.Str) : Prop := ∃ a o t u c n, v = .ref a ∧ h.get? a = some o ∧ o.cls = .type "tuple" ∧ o.data = .seq #[.int x t, .int y u, .str z c] n
theorem IsTri.keeps {h h' : Heap} {v : Value} {x y : Int} {z : PySem.Str} (p : IsTri h v x y z) (k : ∀ b o, h.get? b = some o → o.cls = .type "tuple" → h'.get? b = some o) : IsTri h' v x y z := by
  obtain ⟨a, o, t, u, c, n, e, ho, hc, hd⟩ := p
  exact ⟨a, o, t, u, c, n, e, k _ _ ho hc, hc, hd⟩
section
variable {prog : Program} {w : World} {A : Around} {E : Value → Shared → Prop} {s : Shared}
theorem tri_cmp {vs : List Value} {k : Value → Int × Int} {zf : Int × Int → PySem.Str} (hp : ∀ v ∈ vs, IsTri s.heap v (k v).1 (k v).2 (zf (k v))) : Cmp prog w A s (tuples' true) (fun p => p.1 ∈ vs) (lt2 fun v u => lexB (k v) (k u)) := by
  intro p q hm hm'
  have h1 := hp _ hm
  have h2 := hp _ hm'
  show wpAny (model prog w) A (keyLt' (tuples' true) p.1 q.1) (fun r s' => s' = s ∧ r = lexB (k p.1) (k q.1)) (fun _ _ => False) s
  have hz : (k p.1).1 = (k q.1).1 → (k p.1).2 = (k q.1).2 → zf (k p.1) = zf (k q.1) := fun e1 e2 => congrArg zf (Prod.ext e1 e2)
  unfold lexB
  generalize zf (k p.1) = z at h1 hz
  generalize zf (k q.1) = z' at h2 hz
  generalize (k p.1).1 = x at h1 hz ⊢
  generalize (k p.1).2 = y at h1 hz ⊢
  generalize (k q.1).1 = x' at h2 hz ⊢
  generalize (k q.1).2 = y' at h2 hz ⊢
  obtain ⟨a, o, t, u, c, n, e, ho, hc, hd⟩ := h1
  obtain ⟨a', o', t', u', c', n', e', ho', hc', hd'⟩ := h2
  rw [e, e']
  refine PySem.W.kat_lt ho hd ho' hd' ?_
  show PySem.W.KatLex prog w A true (decide (3 < 3)) _ [(.int x t, .int x' t'), (.int y u, .int y' u'), (.str z c, .str z' c')] 0 s
  refine PySem.W.kat_cons (SeqAt.EqAt.int_int x t x' t' prog w _ _ ?_)
  refine PySem.W.kat_go (fun e1 => ?_) (fun e1 => ?_)
  · have ex : x = x' := by simpa using e1
    refine PySem.W.kat_yes (PySem.W.kat_cons (SeqAt.EqAt.int_int y u y' u' prog w _ _ ?_))
    refine PySem.W.kat_go (fun e2 => ?_) (fun e2 => ?_)
    · have ey : y = y' := by simpa using e2
      have ez : z = z' := hz ex ey
      have e3 : (if x = x' then decide (y < y') else decide (x < x')) = false := by
        rw [if_pos ex, ey]
        exact decide_eq_false (Int.lt_irrefl _)
      refine PySem.W.kat_yes (PySem.W.kat_cons (SeqAt.EqAt.str_str z c z' c' prog w _ _ ?_))
      refine PySem.W.kat_go (fun _ => ?_) (fun e4 => ?_)
      · exact PySem.W.kat_yes (PySem.W.kat_nil ⟨rfl, e3.symm⟩)
      · rw [ez] at e4
        simp at e4
    · have e3 : (if x = x' then decide (y < y') else decide (x < x')) = decide (y < y') := if_pos ex
      refine PySem.W.kat_no (PySem.W.kat_one _ _ (PyProof.Rows.lt_int ?_))
      exact (show s = s ∧ decide (y < y') = (if x = x' then decide (y < y') else decide (x < x')) from ⟨rfl, e3.symm⟩)
  · have ex : ¬ x = x' := by simpa using e1
    have e3 : (if x = x' then decide (y < y') else decide (x < x')) = decide (x < x') := if_neg ex
    exact PySem.W.kat_no (oneLt_int ⟨rfl, e3.symm⟩)
theorem tri_firsts {h : Heap} : ∀ {vs : List Value}, (∀ v ∈ vs, ∃ x y z, IsTri h v x y z) → ∃ fs : List Value, PySem.W.KatTups h vs fs ∧ fs.length = vs.length ∧ ∀ f ∈ fs, ∃ x t, f = Value.int x t
  | [], _ => ⟨[], PySem.W.KatTups.nil, rfl, fun _ hm => by simp at hm⟩
  | v :: vs, hp => by
    obtain ⟨fs, h1, h2, h3⟩ := tri_firsts (vs := vs) fun v' hm => hp v' (List.mem_cons_of_mem _ hm)
    obtain ⟨x, y, z, a, o, t, u, c, n, e, ho, hc, hd⟩ := hp v (List.mem_cons_self ..)
    subst e
    refine ⟨.int x t :: fs, PySem.W.KatTups.cons ho hc hd rfl h1, by rw [List.length_cons, List.length_cons, h2], fun f hm => ?_⟩
    rcases List.mem_cons.mp hm with rfl | hm
    · exact ⟨x, t, rfl⟩
    · exact h3 f hm
theorem tri_sortableO {a : Addr} {vs : List Value} {k : Value → Int × Int} {zf : Int × Int → PySem.Str} (h0 : 0 < vs.length) (hp : ∀ v ∈ vs, IsTri s.heap v (k v).1 (k v).2 (zf (k v))) (ha : ∀ o, s.heap.get? a = some o → o.cls ≠ .type "tuple") : SortableO prog w A s a vs fun v u => lexB (k v) (k u) := by
  intro h' keep
  have hp' : ∀ v ∈ vs, IsTri h' v (k v).1 (k v).2 (zf (k v)) := fun v hm => (hp v hm).keeps fun b o e c => keep b o (fun z => by subst z; exact ha o e c) e
  obtain ⟨fs, h1, h2, h3⟩ := tri_firsts fun v hm => ⟨_, _, _, hp' v hm⟩
  refine ⟨tuples' true, fun Q E hq => ?_, tri_cmp hp'⟩
  refine PySem.W.kat_kind (T := .type "int") h1 (by omega) (fun f hm => ?_) (by rfl) ?_
  · obtain ⟨x, t, rfl⟩ := h3 f hm
    exact PySem.W.Looks.now
  · have e : (Value.type "int" != Value.type "tuple") = true := by first | decide +kernel | rfl | decide
    rw [e]
    exact hq
theorem sorted_triO {l : Addr} {vs : List Value} {k : Value → Int × Int} {zf : Int × Int → PySem.Str} {Q : Value → Shared → Prop} (hl : s.heap.IsList l vs.toArray) (hz : vs.length ≤ sizeLine) (hp : ∀ v ∈ vs, IsTri s.heap v (k v).1 (k v).2 (zf (k v)))
    (h : ∀ (h' : Heap) (d : Addr) (out : List Value), Srtd (fun v u => lexB (k v) (k u)) out → Stb (fun v u => lexB (k v) (k u)) out vs → (∀ b o, s.heap.get? b = some o → h'.get? b = some o) → s.heap.objs.size ≤ d → (∃ n, h'.get? d = some (seqObj "list" out.toArray n)) → Q (.ref d) { s with heap := h' }) :
    wpAny (model prog w) A (call (.builtin "sorted") [.ref l]) Q E s := by
  refine sorted_ord (swo_lex k) hl hz (fun h2 h₁ a ha kk => ?_) fun out hs hb => ?_
  · refine tri_sortableO (s := { s with heap := h₁ }) (by omega) (fun v hm => (hp v hm).keeps fun b o e _ => (kk b o e).2) fun o e => ?_
    have e' : some o = some (seqObj "list" vs.toArray 0) := e.symm.trans ha
    cases e'
    intro c
    exact absurd (Value.type.inj c) (by decide)
  · exact h _ _ out hs hb (fun b o e => sortedAll_old e) (Nat.le_succ _) (sortedAll_at s.heap vs out.toArray)
end
end SrtO
namespace Z
open PySem PySem.Spec PyProof.Rows L2
/-- sorted(xs), xs a list of triples (int, int, text), the text told by the two ints: by those -/
def rSortedTri (K : PySem.W.Frag) : List V → Hp → VK → Prop := fun vs H Q => ∃ (a : Addr) (xs : List V) (k : V → Int × Int) (zf : Int × Int → Str), vs = [V.ref a] ∧ SqL K H a xs ∧ (∀ x ∈ xs, ∃ t, x = V.ref t ∧ SqT K H t [.int (k x).1, .int (k x).2, .str (zf (k x))]) ∧
  ∀ ys p, SrtO.Srtd (ltP k) ys → ys.Perm xs → H p = none → Q (.ref p) (upd H p (.lst ys))
theorem vals_3 {x y z : V} {us : List Value} (r : Vals [x, y, z] us) : ∃ a b c, us = [a, b, c] ∧ RelV x a ∧ RelV y b ∧ RelV z c := by
  cases r with | cons r1 r => cases r with | cons r2 r => cases r with | cons r3 r => cases r; exact ⟨_, _, _, rfl, r1, r2, r3⟩
section
variable {X : Cx}
theorem call_sortedTri (K : PySem.W.Frag) (hK : X.K = K := by rfl) : CallR X (.builtin "sorted") (rSortedTri K) := by
  subst hK
  intro pins s σ H vs us Q I r h
  obtain ⟨a, xs, k, zf, rfl, hs, hx, q⟩ := h
  obtain ⟨its, rv, hl, hz⟩ := I.list hs
  obtain ⟨u, rfl, ru⟩ := vals1 r
  obtain rfl : u = Value.ref a := ru
  obtain ⟨e1, e2⟩ := refs_back rv fun x m => by
    obtain ⟨t, e, _⟩ := hx x m
    exact ⟨t, e⟩
  refine SrtO.sorted_triO (k := fun u => k (backV u)) (zf := zf) hl.isList (by rw [← rv.length]; exact hz) (fun v hv => ?_) fun h' d out h1 h2 kp hd hn => ?_
  · obtain ⟨t, rfl⟩ := e2 v hv
    have hm : V.ref t ∈ xs := by rw [e1]; exact List.mem_map.mpr ⟨_, hv, rfl⟩
    obtain ⟨t', e, ht⟩ := hx _ hm
    cases e
    obtain ⟨its2, r2, ⟨o, ho, hc, n, hd⟩, _⟩ := I.tuple ht
    obtain ⟨u1, u2, u3, rfl, ri, rj, rz⟩ := vals_3 r2
    obtain ⟨t1, rfl⟩ := ri
    obtain ⟨t2, rfl⟩ := rj
    obtain ⟨t3, rfl⟩ := rz
    exact ⟨t, o, t1, t2, t3, n, rfl, ho, hc, hd⟩
  · have h3 : ∀ u ∈ out, ∃ a, u = Value.ref a := fun u hu => e2 u (h2.perm.mem_iff.mp hu)
    obtain ⟨n, hn⟩ := hn
    have hb : SrtO.Stb (ltP k) (out.map backV) xs := by
      rw [e1]
      exact SrtO.Stb.map (ltP_swo k) backV h2
    refine ⟨.ref d, upd H d (.lst (out.map backV)), I.laid (t' := s.toks) kp hd ⟨?_, out, n, vals_back h3, hn⟩, rfl, q _ d (SrtO.srtd_map h1) hb.perm (I.hok.fresh hd)⟩
    rw [hb.len]
    exact hz
/-- the two ints of a spot's data -/
def keyD : PyData → Int × Int
  | .tuple (.int x :: .int y :: _) => (x, y)
  | _ => (0, 0)
def SrtD (l : List PyData) : Prop := l.Pairwise fun a b => SrtO.lexB (keyD b) (keyD a) = false
/-- sorted(xs), xs a list whose data are such triples -/
def rSortedSp (K : PySem.W.Frag) : List V → Hp → VK → Prop := fun vs H Q => ∃ (a : Addr) (xs : List V) (ds : List PyData) (zf : Int × Int → Str), vs = [V.ref a] ∧ SqL K H a xs ∧ ThA K H xs ds ∧ (∀ d ∈ ds, ∃ x y : Int, d = .tuple [.int x, .int y, .str (zf (x, y))]) ∧
  ∀ ys ds' p, ThA K H ys ds' → ds'.Perm ds → SrtD ds' → H p = none → Q (.ref p) (upd H p (.lst ys))
theorem th_tri {K : PySem.W.Frag} {H : Hp} {v : V} {x y : Int} {z : Str} (h : Th K H v (.tuple [.int x, .int y, .str z])) : ∃ b, v = .ref b ∧ SqT K H b [.int x, .int y, .str z] := by
  cases h with
  | tup hS a =>
    cases a with | cons t0 a => cases a with | cons t1 a => cases a with | cons t2 a =>
      cases a
      cases t0
      cases t1
      cases t2
      exact ⟨_, rfl, hS⟩
theorem tha_map {K : PySem.W.Frag} {H : Hp} {D : V → PyData} : ∀ {ys : List V}, (∀ y ∈ ys, Th K H y (D y)) → ThA K H ys (ys.map D)
  | [], _ => .nil
  | y :: ys, h => .cons (h y List.mem_cons_self) (tha_map fun x m => h x (List.mem_cons_of_mem _ m))
theorem call_sortedSp (K : PySem.W.Frag) (hK : X.K = K := by rfl) : CallR X (.builtin "sorted") (rSortedSp K) := by
  subst hK
  intro pins s σ H vs us Q I r h
  obtain ⟨a, xs, ds, zf, rfl, hs, hA, hd, q⟩ := h
  have hi : ∀ (i : Nat) x, xs[i]? = some x → ds[i]? = some (ds.getD (xs.idxOf x) .none) := by
    intro i x hx
    have mx : x ∈ xs := List.mem_of_getElem? hx
    have hj : xs[xs.idxOf x]? = some x := by rw [List.getElem?_eq_getElem (List.idxOf_lt_length_of_mem mx), List.getElem_idxOf]
    obtain ⟨d, e1, t1⟩ := hA.get hx
    obtain ⟨d2, e2, t2⟩ := hA.get hj
    obtain ⟨x1, y1, rfl⟩ := hd d (List.mem_of_getElem? e1)
    obtain ⟨x2, y2, rfl⟩ := hd d2 (List.mem_of_getElem? e2)
    obtain ⟨b1, rfl, s1⟩ := th_tri t1
    obtain ⟨b2, e, s2⟩ := th_tri t2
    cases e
    have e := I.tuple_inj s1 s2
    injection e with e3 e
    injection e with e4 _
    injection e3 with e3
    injection e4 with e4
    subst e3
    subst e4
    rw [e1, List.getD_eq_getElem?_getD, e2]
    rfl
  have hth : ∀ x ∈ xs, Th X.K H x (ds.getD (xs.idxOf x) .none) := by
    intro x mx
    obtain ⟨i, hx⟩ := List.getElem?_of_mem mx
    obtain ⟨d, e1, t1⟩ := hA.get hx
    rw [hi i x hx] at e1
    cases e1
    exact t1
  have hmem : ∀ x ∈ xs, ds.getD (xs.idxOf x) .none ∈ ds := by
    intro x mx
    obtain ⟨i, hx⟩ := List.getElem?_of_mem mx
    exact List.mem_of_getElem? (hi i x hx)
  have hmap : xs.map (fun x => ds.getD (xs.idxOf x) .none) = ds := by
    refine List.ext_getElem? fun i => ?_
    rw [List.getElem?_map]
    cases e : xs[i]? with
    | none =>
      have : ds.length ≤ i := by rw [← hA.len]; exact List.getElem?_eq_none_iff.mp e
      rw [List.getElem?_eq_none_iff.mpr this]
      rfl
    | some x => exact (hi i x e).symm
  refine call_sortedTri X.K rfl pins s σ H [V.ref a] us Q I r ⟨a, xs, fun x => keyD (ds.getD (xs.idxOf x) .none), zf, rfl, hs, fun x mx => ?_, fun ys p hsr hp hn => ?_⟩
  · have t := hth x mx
    obtain ⟨x1, y1, e⟩ := hd _ (hmem x mx)
    rw [e] at t
    dsimp only
    rw [e]
    exact th_tri t
  · refine q ys (ys.map fun x => ds.getD (xs.idxOf x) .none) p (tha_map fun y my => hth y (hp.mem_iff.mp my)) ?_ ?_ hn
    · have h1 := hp.map fun x => ds.getD (xs.idxOf x) .none
      rw [hmap] at h1
      exact h1
    · exact List.pairwise_map.mpr hsr
end
end Z

namespace Lw
open PySem PySem.Spec PyProof.Rows L2 Z
local macro_rules | `(tactic| walk_at "zd") => `(tactic| try dsimp only [tSeq, tIfS, L2.tOr, L2.tAnd, tNot, zTest, tOp, tUn, zVar, tC, tAsg, tRet, tNext, tCB, tCall, tCallR, tBM, tBM0, tPar, tCons, tNil, gName, gSub, tAugS, tDrop, tLst, tTup, tTupP, tBMP, tM1, L2.tSl, tPart, tNoPart, zChain, zAndV, zOrV, zNotV, tIf, List.getElem?_cons_zero, List.getElem?_cons_succ, List.set_cons_zero, List.set_cons_succ, onV, onB, onI, onR, onS, gIxZ, ipZ, rSetZ, rSubZ, rModZ, rDivZ, rNegZ, rPowZ, rAbsZ, rIntZ, id, List.nil_append, List.cons_append, List.append_nil])
def top (i : Nat) : Stmt := PySem.Challenge.pw_cellscript_k17_whole_turned_trimmed_laid.main.body.getD i (.Pass ⟨0, 0, 0, 0⟩)
abbrev s_Wrong_init : Stmt := inClass (top 2) 0
abbrev s_is_whole : Stmt := top 8
abbrev s_is_from_to : Stmt := top 9
abbrev s_is_made_of : Stmt := top 10
abbrev s_is_spot : Stmt := top 11
abbrev s_is_way : Stmt := top 12
abbrev s_refuse_wrong : Stmt := top 13
abbrev s_is_picture : Stmt := top 18
abbrev s_is_piece : Stmt := top 19
abbrev s_is_rows : Stmt := top 20
abbrev s_turned : Stmt := top 21
abbrev s_rows_turned : Stmt := top 22
abbrev s_turned_right : Stmt := top 23
abbrev s_back_of : Stmt := top 24
abbrev s_spots_of : Stmt := top 25
abbrev s_trimmed : Stmt := top 26
abbrev s_without_ground : Stmt := top 27
abbrev s_show_piece : Stmt := top 28
abbrev s_read_piece : Stmt := top 29
abbrev s_law_bag : Stmt := top 31
abbrev s_law_take : Stmt := top 32
abbrev s_law_rows : Stmt := top 33
abbrev s_law_menu : Stmt := top 34
abbrev s_law_brought : Stmt := top 35
abbrev s_law_spots_right : Stmt := top 36
abbrev s_law_margins : Stmt := top 37
abbrev s_law_trimmed_right : Stmt := top 38
abbrev s_law : Stmt := top 39
theorem sc_Wrong_init : FnScope ["self", "at"] ["self", "at"] (defScope s_Wrong_init) := ⟨rfl, rfl, rfl, by decide +kernel, rfl, by decide +kernel, by decide +kernel⟩
theorem sc_is_whole : FnScope ["thing"] ["thing"] (defScope s_is_whole) := ⟨rfl, rfl, rfl, by decide +kernel, rfl, by decide +kernel, by decide +kernel⟩
theorem sc_is_from_to : FnScope ["thing", "low", "high"] ["thing", "low", "high"] (defScope s_is_from_to) := ⟨rfl, rfl, rfl, by decide +kernel, rfl, by decide +kernel, by decide +kernel⟩
theorem sc_is_made_of : FnScope ["thing", "signs", "sign"] ["thing", "signs"] (defScope s_is_made_of) := ⟨rfl, rfl, rfl, by decide +kernel, rfl, by decide +kernel, by decide +kernel⟩
theorem sc_is_spot : FnScope ["thing"] ["thing"] (defScope s_is_spot) := ⟨rfl, rfl, rfl, by decide +kernel, rfl, by decide +kernel, by decide +kernel⟩
theorem sc_is_way : FnScope ["thing"] ["thing"] (defScope s_is_way) := ⟨rfl, rfl, rfl, by decide +kernel, rfl, by decide +kernel, by decide +kernel⟩
theorem sc_refuse_wrong : FnScope ["right", "at", "is_right"] ["right"] (defScope s_refuse_wrong) := ⟨rfl, rfl, rfl, by decide +kernel, rfl, by decide +kernel, by decide +kernel⟩
theorem sc_is_picture : FnScope ["thing"] ["thing"] (defScope s_is_picture) := ⟨rfl, rfl, rfl, by decide +kernel, rfl, by decide +kernel, by decide +kernel⟩
theorem sc_is_piece : FnScope ["thing"] ["thing"] (defScope s_is_piece) := ⟨rfl, rfl, rfl, by decide +kernel, rfl, by decide +kernel, by decide +kernel⟩
theorem sc_is_rows : FnScope ["thing", "signs", "most", "row"] ["thing", "signs", "most"] (defScope s_is_rows) := ⟨rfl, rfl, rfl, by decide +kernel, rfl, by decide +kernel, by decide +kernel⟩
theorem sc_turned : FnScope ["piece", "way"] ["piece", "way"] (defScope s_turned) := ⟨rfl, rfl, rfl, by decide +kernel, rfl, by decide +kernel, by decide +kernel⟩
theorem sc_rows_turned : FnScope ["rows", "way", "_", "row"] ["rows", "way"] (defScope s_rows_turned) := ⟨rfl, rfl, rfl, by decide +kernel, rfl, by decide +kernel, by decide +kernel⟩
theorem sc_turned_right : FnScope ["rows", "upward", "column"] ["rows"] (defScope s_turned_right) := ⟨rfl, rfl, rfl, by decide +kernel, rfl, by decide +kernel, by decide +kernel⟩
theorem sc_back_of : FnScope ["way"] ["way"] (defScope s_back_of) := ⟨rfl, rfl, rfl, by decide +kernel, rfl, by decide +kernel, by decide +kernel⟩
theorem sc_spots_of : FnScope ["piece", "x", "y", "down", "row", "right", "sign"] ["piece", "x", "y"] (defScope s_spots_of) := ⟨rfl, rfl, rfl, by decide +kernel, rfl, by decide +kernel, by decide +kernel⟩
theorem sc_trimmed : FnScope ["picture"] ["picture"] (defScope s_trimmed) := ⟨rfl, rfl, rfl, by decide +kernel, rfl, by decide +kernel, by decide +kernel⟩
theorem sc_without_ground : FnScope ["rows", "held", "kept", "left", "right", "down", "row"] ["rows"] (defScope s_without_ground) := ⟨rfl, rfl, rfl, by decide +kernel, rfl, by decide +kernel, by decide +kernel⟩
theorem sc_show_piece : FnScope ["piece"] ["piece"] (defScope s_show_piece) := ⟨rfl, rfl, rfl, by decide +kernel, rfl, by decide +kernel, by decide +kernel⟩
theorem sc_read_piece : FnScope ["text", "rows"] ["text"] (defScope s_read_piece) := ⟨rfl, rfl, rfl, by decide +kernel, rfl, by decide +kernel, by decide +kernel⟩
theorem sc_law_bag : FnScope ["_law_script", "_law_cell"] ["_law_script"] (defScope s_law_bag) := ⟨rfl, rfl, rfl, by decide +kernel, rfl, by decide +kernel, by decide +kernel⟩
theorem sc_law_take : FnScope ["_law_bag_here", "_law_many", "_law_cell", "_law_value", "_law_first", "_law_second"] ["_law_bag_here", "_law_many"] (defScope s_law_take) := ⟨rfl, rfl, rfl, by decide +kernel, rfl, by decide +kernel, by decide +kernel⟩
theorem sc_law_rows : FnScope ["_law_bag_here", "_law_signs", "_law_most", "_law_sides", "_law_k", "_law_j"] ["_law_bag_here", "_law_signs", "_law_most"] (defScope s_law_rows) := ⟨rfl, rfl, rfl, by decide +kernel, rfl, by decide +kernel, by decide +kernel⟩
theorem sc_law_menu : FnScope ["_law_bag_here", "_law_few"] ["_law_bag_here"] (defScope s_law_menu) := ⟨rfl, rfl, rfl, by decide +kernel, rfl, by decide +kernel, by decide +kernel⟩
theorem sc_law_brought : FnScope ["_law_spot", "_law_way", "_law_wide", "_law_high", "_law_x", "_law_y", "_law_sign", "_law_k"] ["_law_spot", "_law_way", "_law_wide", "_law_high"] (defScope s_law_brought) := ⟨rfl, rfl, rfl, by decide +kernel, rfl, by decide +kernel, by decide +kernel⟩
theorem sc_law_spots_right : FnScope ["_law_rows_here", "_law_way", "_law_wide", "_law_high", "_law_due", "_law_found", "_law_moved_on", "_law_spot", "_law_x", "_law_y", "_law_sign"] ["_law_rows_here", "_law_way"] (defScope s_law_spots_right) := ⟨rfl, rfl, rfl, by decide +kernel, rfl, by decide +kernel, by decide +kernel⟩
theorem sc_law_margins : FnScope ["_law_rows_here", "_law_left", "_law_above", "_law_kept"] ["_law_rows_here"] (defScope s_law_margins) := ⟨rfl, rfl, rfl, by decide +kernel, rfl, by decide +kernel, by decide +kernel⟩
theorem sc_law_trimmed_right : FnScope ["_law_rows_here", "_law_way", "_law_left", "_law_above", "_law_right", "_law_below", "_law_k"] ["_law_rows_here", "_law_way"] (defScope s_law_trimmed_right) := ⟨rfl, rfl, rfl, by decide +kernel, rfl, by decide +kernel, by decide +kernel⟩
theorem sc_law : FnScope ["_law_script", "_law_bag_here", "_law_k", "_law_rows_here", "_law_ground", "_law_kept", "_law_way"] ["_law_script"] (defScope s_law) := ⟨rfl, rfl, rfl, by decide +kernel, rfl, by decide +kernel, by decide +kernel⟩
structure Tx (K : PySem.W.Frag) (mg : Str → Option Value) : Prop where
  ValueError : mg "ValueError" = none
  abs : mg "abs" = none
  all : mg "all" = none
  bool : mg "bool" = none
  enumerate : mg "enumerate" = none
  int : mg "int" = none
  isinstance : mg "isinstance" = none
  len : mg "len" = none
  list : mg "list" = none
  max : mg "max" = none
  min : mg "min" = none
  range : mg "range" = none
  sorted : mg "sorted" = none
  str : mg "str" = none
  zip : mg "zip" = none
  c_SIGNS : ∃ u, mg "SIGNS" = some u ∧ RelV (.str ".abcdefghijklmnopqrstuvwxyz") u
  c_GROUND : ∃ u, mg "GROUND" = some u ∧ RelV (.str ".") u
  c_FARTHEST : ∃ u, mg "FARTHEST" = some u ∧ RelV (.int 1000000) u
  c_MOST : ∃ u, mg "MOST" = some u ∧ RelV (.int 32) u
  c_LEFT_ALONE : ∃ u, mg "LEFT_ALONE" = some u ∧ RelV (.str "_") u
  c_MIRRORED : ∃ u, mg "MIRRORED" = some u ∧ RelV (.int 4) u
  x : Excs K mg ["CellError", "Wrong", "NoText"] ["CellError", "NoText"]
  i_Wrong : IniC K (He.ga K "Wrong") (He.ma K (He.ga K "Wrong") "__init__") ["at"]
section
variable {P : Program} {w : World} {K : PySem.W.Frag} {mg : Str → Option Value} {base : Heap} {f : Addr} {fd : FuncData}
theorem ok_take (T : Tx K mg) (F : FunD K "_law_take" "_law_take" (defArgs s_law_take) (defBody s_law_take) (defScope s_law_take) [] [] f fd) : FnG P w K mg base CX0 1 f fd ["_law_bag_here", "_law_many"] (spTake K) := by
  refine FnG.of F sc_law_take (fun vs H Q E h => ?_) (fun cdv A outer s H vs Q E hr gd h => ?_)
  · obtain ⟨ω, m, rfl, _⟩ := h
    rfl
  · obtain ⟨⟨b, c, cs⟩, m, rfl, ⟨x0, x1, x2, g⟩, hm, hm2, k⟩ := h
    dsimp only at g k
    have hu : (A.deeper (envOfC "_law_take" (defScope s_law_take) s.heap.objs.size f cdv)).units + 64 < cLine := by have := hr.un; omega
    refine ⟨_, PSs.nox (C8.pss_cut
    (ps_if (pz_cmp (op_eqK K hu) (pe_ix (ix_K K) (zv 0) pe_int (fun _ _ => rfl)) pe_int (nomark _))
      (pss_cons
        (ps_set (i := 2) sc_law_take.nd rfl (Or.inl rfl) pe_int)
        (C8.pss_cut
        (ps_if (pz_cmp op_ltZ (pe_ix (ix_K K) (zv 0) pe_int (fun _ _ => rfl)) (pe_callB (call_lenK K) (by rfl) T.len (by decide +kernel) (pa_cons (pe_ix (ix_K K) (zv 0) pe_int (fun _ _ => rfl)) pa_nil)) (nomark _))
          (pss_one
            (ps_set (i := 2) sc_law_take.nd rfl (Or.inl rfl) (pe_ix (ix_K K) (pe_ix (ix_K K) (zv 0) pe_int (fun _ _ => rfl)) (pe_ix (ix_K K) (zv 0) pe_int (fun _ _ => rfl)) (fun _ _ => rfl))))
          pss_nil)
        (pss_cons
        (ps_augS (zv 0) pe_int (pget_K K) pe_int ip_Z set_Z)
        (C8.pss_cut
        (ps_if (pz_cmp op_geZ (zv 2) pe_int (nomark _))
          (pss_one
            (ps_asg (zv 2) (pg_sub (zv 0) pe_int set_Z)))
          pss_nil)
        (pss_one
        (ps_asg (pe_op op_modZ (pe_op op_addZ (pe_op op_addZ (pe_op op_mulZ (pe_ix (ix_K K) (zv 0) pe_int (fun _ _ => rfl)) pe_int) (pe_op op_modZ (zv 2) pe_int)) (pe_op op_mulZ pe_int (pe_ix (ix_K K) (zv 0) pe_int (fun _ _ => rfl)))) pe_int) (pg_sub (zv 0) pe_int set_Z)))))))
      pss_nil)
    (pss_cons
    (ps_if (pz_cmp op_gtZ (pe_ix (ix_K K) (zv 0) pe_int (fun _ _ => rfl)) pe_int (nomark _))
      (pss_cons
        (ps_set (i := 3) sc_law_take.nd rfl (Or.inl rfl) (pe_op op_modZ (pe_ix (ix_K K) (zv 0) pe_int (fun _ _ => rfl)) (zv 1)))
        (pss_cons
        (ps_asg (pe_op op_divZ (pe_ix (ix_K K) (zv 0) pe_int (fun _ _ => rfl)) (zv 1)) (pg_sub (zv 0) pe_int set_Z))
        (pss_one
        (ps_ret (zv 3)))))
      pss_nil)
    (pss_cons
    (ps_set (i := 4) sc_law_take.nd rfl (Or.inl rfl) (pe_op op_modZ (pe_op op_mulZ (pe_op op_addZ (pe_ix (ix_K K) (zv 0) pe_int (fun _ _ => rfl)) pe_int) pe_int) pe_int))
    (pss_cons
    (ps_set (i := 5) sc_law_take.nd rfl (Or.inl rfl) (pe_op op_modZ (pe_op op_mulZ (pe_op op_modZ (pe_op op_mulZ (zv 4) (zv 4)) pe_int) pe_int) pe_int))
    (pss_cons
    (ps_if (pz_cmp op_gtZ (zv 1) pe_int (nomark _))
      (pss_one
        (ps_ret (pe_op op_modZ (pe_op op_addZ (pe_op op_mulZ (zv 5) pe_int) (zv 4)) (zv 1))))
      pss_nil)
    (pss_one
    (ps_ret (pe_op op_modZ (pe_op op_divZ (zv 5) pe_int) (zv 1))))))))), ?_⟩
    try dsimp only [cxOf, Cx.nox]
    refine ⟨fun σ' H' => ∃ v y0 y1 y2, σ' = [some (V.ref b), some (V.int m), v, none, none, none] ∧ Go b H H' ∧ BagC K H' b c cs y0 y1 y2, ?_, ?_⟩
    · show (tIfS _ _ _) _ [some (V.ref b), some (V.int m), none, none, none, none] _
      dsimp only [tSeq, tIfS, zTest, tOp, zVar, tC, tAsg, tRet, tNext, tCB, tCons, tNil, gName, gSub, tAugS, List.getElem?_cons_zero, List.getElem?_cons_succ, List.set_cons_zero, List.set_cons_succ, onV, onB, onI, onR, gIxZ, ipZ, rSetZ, rSubZ, rModZ, rDivZ, rMulZ, rAddZ, rCmpZ, id]
      refine ixL (sq_of g.at_) rfl (eqI (iteD (fun z0 => ?_) fun _ => ⟨none, x0, x1, x2, rfl, Go.refl _ _, g⟩))
      -- the cell
      refine ⟨fun σ' H' => ∃ y, σ' = [some (V.ref b), some (V.int m), some (V.int y), none, none, none] ∧ H' = H ∧ 0 ≤ y, ?_, ?_⟩
      · dsimp only [tSeq, tIfS, zTest, tOp, zVar, tC, tAsg, tRet, tNext, tCB, tCons, tNil, gName, gSub, tAugS, List.getElem?_cons_zero, List.getElem?_cons_succ, List.set_cons_zero, List.set_cons_succ, onV, onB, onI, onR, gIxZ, ipZ, rSetZ, rSubZ, rModZ, rDivZ, rMulZ, rAddZ, rCmpZ, id]
        refine ixL (sq_of g.at_) rfl (ixL (sq_of g.at_) rfl (lenL g.cells rfl (iteD (fun z2 => ?_) fun _ => ⟨0, rfl, rfl, Int.le_refl _⟩)))
        rw [List.length_map] at z2
        obtain ⟨j, rfl⟩ := Int.eq_ofNat_of_zero_le g.h2
        have hj : j < cs.length := by omega
        refine ixL (sq_of g.at_) rfl (ixL (sq_of g.at_) rfl (ixN g.cells (v := .int cs[j]) (by rw [List.getElem?_map, List.getElem?_eq_getElem hj]; rfl) ?_))
        exact ⟨cs[j], rfl, rfl, g.hc _ (List.getElem_mem hj)⟩
      · rintro σ' H' ⟨y, rfl, rfl, hy⟩
        dsimp only [tSeq, tIfS, zTest, tOp, zVar, tC, tAsg, tRet, tNext, tCB, tCons, tNil, gName, gSub, tAugS, List.getElem?_cons_zero, List.getElem?_cons_succ, List.set_cons_zero, List.set_cons_succ, onV, onB, onI, onR, gIxZ, ipZ, rSetZ, rSubZ, rModZ, rDivZ, rMulZ, rAddZ, rCmpZ, id]
        refine ⟨_, _, by decide, sq_of g.at_, rfl, _, g.at_, ⟨by decide, by show (2 : Int) < 4; decide⟩, ?_⟩
        have g1 : BagC K (upd H' b (bagL x0 x1 (x2 + 1) c)) b c cs x0 x1 (x2 + 1) := g.set g.h0 g.h1 (by have := g.h2; omega)
        refine ⟨fun σ' H2 => ∃ y0, σ' = [some (V.ref b), some (V.int m), some (V.int y), none, none, none] ∧ Go b H' H2 ∧ BagC K H2 b c cs y0 x1 (x2 + 1), ?_, ?_⟩
        · dsimp only [tSeq, tIfS, zTest, tOp, zVar, tC, tAsg, tRet, tNext, tCB, tCons, tNil, gName, gSub, tAugS, List.getElem?_cons_zero, List.getElem?_cons_succ, List.set_cons_zero, List.set_cons_succ, onV, onB, onI, onR, gIxZ, ipZ, rSetZ, rSubZ, rModZ, rDivZ, rMulZ, rAddZ, rCmpZ, id]
          refine iteD (fun z3 => ?_) fun _ => ⟨x0, rfl, go_mut (Go.refl _ _), g1⟩
          refine ⟨_, g1.at_, ⟨by decide, by show (0 : Int) < 4; decide⟩, ?_⟩
          exact ⟨y, rfl, go_mut (go_mut (Go.refl _ _)), g1.set hy g1.h1 g1.h2⟩
        · rintro σ' H2 ⟨y0, rfl, gg, g2⟩
          dsimp only [tSeq, tIfS, zTest, tOp, zVar, tC, tAsg, tRet, tNext, tCB, tCons, tNil, gName, gSub, tAugS, List.getElem?_cons_zero, List.getElem?_cons_succ, List.set_cons_zero, List.set_cons_succ, onV, onB, onI, onR, gIxZ, ipZ, rSetZ, rSubZ, rModZ, rDivZ, rMulZ, rAddZ, rCmpZ, id]
          refine ixL (sq_of g2.at_) rfl ⟨.inl (.inr (by decide)), by decide, ?_⟩
          refine ixL (sq_of g2.at_) rfl ⟨.inl (.inl (by decide)), by decide, ?_⟩
          refine ⟨_, g2.at_, ⟨by decide, by show (1 : Int) < 4; decide⟩, ?_⟩
          refine ⟨_, y0, (x1 * 48271 + y % 2147483647 + 7919 * (x2 + 1)) % 2147483647, x2 + 1, rfl, go_mut gg, g2.set g2.h0 ⟨by omega, by omega⟩ g2.h2⟩
    · rintro σ' H' ⟨v, y0, y1, y2, rfl, gg, g1⟩
      dsimp only [tSeq, tIfS, zTest, tOp, zVar, tC, tAsg, tRet, tNext, tCB, tCons, tNil, gName, gSub, tAugS, List.getElem?_cons_zero, List.getElem?_cons_succ, List.set_cons_zero, List.set_cons_succ, onV, onB, onI, onR, gIxZ, ipZ, rSetZ, rSubZ, rModZ, rDivZ, rMulZ, rAddZ, rCmpZ, id]
      refine ixL (sq_of g1.at_) rfl (iteD (fun z0 => ?_) fun z0 => ?_)
      · refine ixL (sq_of g1.at_) rfl ⟨hm, ?_⟩
        have hl : m.natAbs.log2 < 9000 := by
          have : m.natAbs.log2 < 62 := (Nat.log2_lt (by omega)).mpr (by omega)
          omega
        refine ixL (sq_of g1.at_) rfl ⟨⟨hm, hl⟩, ?_⟩
        refine ⟨_, g1.at_, ⟨by decide, by show (0 : Int) < 4; decide⟩, ?_⟩
        exact k _ _ (Int.emod_nonneg _ (by omega)) (Int.emod_lt_of_pos _ hm) ⟨_, _, _, g1.set (Int.ediv_nonneg g1.h0 (by omega)) g1.h1 g1.h2⟩ (go_mut gg)
      · refine ixL (sq_of g1.at_) rfl ⟨.inl (.inr (by decide)), by decide, ?_⟩
        generalize hf : (y1 + 1) * 39373 % 1000000007 = x
        have hx : 0 ≤ x ∧ x < 1000000007 := by omega
        refine ⟨.inl (.inl (by omega)), by decide, .inl (.inl (by omega)), by decide, ?_⟩
        generalize hs : x * x % 998244353 * 30011 % 998244353 = y
        have hy : 0 ≤ y ∧ y < 998244353 := by omega
        have kk : ∀ z, Q (.int (z % m)) H' := fun z => k _ _ (Int.emod_nonneg _ (by omega)) (Int.emod_lt_of_pos _ hm) ⟨_, _, _, g1⟩ gg
        refine iteD (fun z1 => ?_) fun z1 => ?_
        · exact ⟨.inl (.inl (by omega)), hm, kk _⟩
        · exact ⟨⟨by decide, by decide⟩, hm, kk _⟩

/-! ### is_made_of, is_rows, is_picture, is_piece -/
def inSg (sg : Str) (c : Nat) : Bool := decide (c ∈ sg.cps.toList)
def madeOf (sg : Str) : PyData → Bool
  | .str x => x.cps.toList.all (inSg sg)
  | _ => false
def slen : PyData → Nat
  | .str x => x.length
  | _ => 0
def isRows (sg : Str) (m : Int) : PyData → Bool
  | .list ds => (decide (1 ≤ (ds.length : Int)) && decide ((ds.length : Int) ≤ m)) && (ds.all (madeOf sg) && (decide (1 ≤ (slen (ds.headD .none) : Int)) && decide ((slen (ds.headD .none) : Int) ≤ m) && ds.all fun r => decide ((slen r : Int) = (slen (ds.headD .none) : Int))))
  | _ => false
def spMade (K : PySem.W.Frag) : Sp := fun vs H Q _ => ∃ v d sg, vs = [v, .str sg] ∧ Th K H v d ∧ d.weight ≤ 20000 ∧ ∀ H', Same H H' → Q (.bl (madeOf sg d)) H'
def spRows (K : PySem.W.Frag) : Sp := fun vs H Q _ => ∃ v d sg m, vs = [v, .str sg, .int m] ∧ Th K H v d ∧ d.weight ≤ 20000 ∧ ∀ H', Same H H' → Q (.bl (isRows sg m d)) H'
def spPic (K : PySem.W.Frag) (sg : Str) : Sp := fun vs H Q _ => ∃ v d, vs = [v] ∧ Th K H v d ∧ d.weight ≤ 20000 ∧ ∀ H', Same H H' → Q (.bl (isRows sg 32 d)) H'
theorem mem_weight : ∀ {ds : List PyData} {d : PyData}, d ∈ ds → d.weight ≤ PyData.weightAll ds
  | e :: ds, d, h => by
    simp only [PyData.weightAll]
    rcases List.mem_cons.mp h with rfl | h
    · omega
    · have := mem_weight h
      omega
theorem len_weight : ∀ (ds : List PyData), ds.length ≤ PyData.weightAll ds
  | [] => Nat.zero_le _
  | e :: ds => by
    simp only [PyData.weightAll, List.length_cons]
    have := len_weight ds
    omega
theorem ok_made (T : Tx K mg) (F : FunD K "is_made_of" "is_made_of" (defArgs s_is_made_of) (defBody s_is_made_of) (defScope s_is_made_of) [] [] f fd) : FnG P w K mg base CX0 1 f fd ["thing", "signs"] (spMade K) := by
  refine FnG.of F sc_is_made_of (fun vs H Q E h => ?_) (fun cdv A outer s H vs Q E hr gd h => ?_)
  · obtain ⟨v, d, sg, rfl, _⟩ := h
    rfl
  · obtain ⟨v, d, sg, rfl, hv, hz, k⟩ := h
    have hu : (A.deeper (envOfC "is_made_of" (defScope s_is_made_of) s.heap.objs.size f cdv)).units + 64 < cLine := by have := hr.un; omega
    refine ⟨_, PSs.nox (pss_one
    (ps_ret (pz_and (pe_callB (call_isiK K) (by rfl) T.isinstance (by decide +kernel) (pa_cons (zv 0) (pa_cons (pe_bltn (v := .ty "str") (by rfl) T.str (by decide +kernel) rfl) pa_nil))) (pe_one (pe_callB (call_allK K) (by rfl) T.all (by decide +kernel) (pa_cons (pe_lc (own := [("sign", 2)]) rfl sc_is_made_of.nd (pi_str (zv 0)) (blkOk_by (by kernel_rfl)) (fun _ _ _ _ _ => (pg_name (i := 2) sc_is_made_of.nd rfl (Or.inl rfl))) (fun _ _ _ _ _ => pts_nil) (fun _ _ _ _ _ => (pe_cmpR (op_inK K) (zv 2) (zv 1) (by with_unfolding_all rfl)))) pa_nil)))))), ?_⟩
    try dsimp only [cxOf, Cx.nox]
    show (tRet _) _ [some v, some (.str sg), none] _
    dsimp only [tRet, zAndV, tCB, tCons, tNil, zVar, tC, List.getElem?_cons_zero, List.getElem?_cons_succ, onV, onB]
    refine isi_str hv (iteB (fun e => ?_) fun e => ?_)
    · obtain ⟨x, rfl, rfl⟩ := th_str hv e
      refine comp_str (x := x) (fun v => .bl (onSigns (inSg sg) v)) (fun R r => r H (Same.refl H)) (by simp only [PyData.weight] at hz; exact Nat.le_trans hz (by decide)) ?_ fun D H' hD s1 h1 => ?_
      · intro y hy H' s1 Q' q
        obtain ⟨c, hc, rfl⟩ := mem_signs hy
        exact inS (K := K) (bl_is (onSigns1 (inSg sg) c).symm (q H' (Same.refl _)))
      · exact allL (sq_of (by rw [h1, signs_map])) (by rw [List.all_map]; rfl) (k H' s1)
    · exact bl_is (by cases d <;> first | rfl | cases e) (k H (Same.refl _))
theorem thA_mem {H : Hp} {ds : List PyData} {vs : List V} (a : ThA K H vs ds) {v : V} (h : v ∈ vs) : ∃ d, d ∈ ds ∧ Th K H v d := by
  obtain ⟨i, hi⟩ := List.getElem?_of_mem h
  obtain ⟨d, h1, h2⟩ := a.get hi
  exact ⟨d, List.mem_of_getElem? h1, h2⟩
theorem ok_rows (T : Tx K mg) (c_is_made_of : Cg P w K mg base CX0 1 "is_made_of" (spMade K)) (F : FunD K "is_rows" "is_rows" (defArgs s_is_rows) (defBody s_is_rows) (defScope s_is_rows) [] [] f fd) : FnG P w K mg base CX0 2 f fd ["thing", "signs", "most"] (spRows K) := by
  refine FnG.of F sc_is_rows (fun vs H Q E h => ?_) (fun cdv A outer s H vs Q E hr gd h => ?_)
  · obtain ⟨v, d, sg, m, rfl, _⟩ := h
    rfl
  · obtain ⟨v, d, sg, m, rfl, hv, hz, k⟩ := h
    have hu : (A.deeper (envOfC "is_rows" (defScope s_is_rows) s.heap.objs.size f cdv)).units + 64 < cLine := by have := hr.un; omega
    refine ⟨_, PSs.nox (pss_cons
    (ps_if (PW.pt (pw_or (pt_not (pz_val (pe_callB (call_isiK K) (by rfl) T.isinstance (by decide +kernel) (pa_cons (zv 0) (pa_cons (pe_bltn (v := .ty "list") (by rfl) T.list (by decide +kernel) rfl) pa_nil))))) (pw_or1 (pt_not (pz_chainT op_leZ op_leZ pe_int (pe_callB (call_lenK K) (by rfl) T.len (by decide +kernel) (pa_cons (zv 0) pa_nil)) (zv 2))))))
      (pss_one
        (ps_ret pe_bl))
      pss_nil)
    (pss_cons
    (ps_if (pt_not (pz_val (pe_callB (call_allK K) (by rfl) T.all (by decide +kernel) (pa_cons (pe_lc (own := [("row", 3)]) rfl sc_is_rows.nd (pi_listK K (zv 0)) (blkOk_by (by kernel_rfl)) (fun _ _ _ _ _ => (pg_name (i := 3) sc_is_rows.nd rfl (Or.inl rfl))) (fun _ _ _ _ _ => pts_nil) (fun _ _ _ _ _ => (pe_cg c_is_made_of hr gd (by decide) (by rfl) pass0 (pa_cons (zv 3) (pa_cons (zv 1) pa_nil))))) pa_nil))))
      (pss_one
        (ps_ret pe_bl))
      pss_nil)
    (pss_one
    (ps_ret (pz_and (pz_chain op_leZ op_leZ pe_int (pe_callB (call_lenK K) (by rfl) T.len (by decide +kernel) (pa_cons (pe_ix (ix_K K) (zv 0) pe_int (fun _ _ => rfl)) pa_nil)) (zv 2)) (pe_one (pe_callB (call_allK K) (by rfl) T.all (by decide +kernel) (pa_cons (pe_lc (own := [("row", 3)]) rfl sc_is_rows.nd (pi_listK K (zv 0)) (blkOk_by (by kernel_rfl)) (fun _ _ _ _ _ => (pg_name (i := 3) sc_is_rows.nd rfl (Or.inl rfl))) (fun _ _ _ _ _ => pts_nil) (fun _ _ _ _ _ => (pe_cmpR (op_eqK K hu) (pe_callB (call_lenK K) (by rfl) T.len (by decide +kernel) (pa_cons (zv 3) pa_nil)) (pe_callB (call_lenK K) (by rfl) T.len (by decide +kernel) (pa_cons (pe_ix (ix_K K) (zv 0) pe_int (fun _ _ => rfl)) pa_nil)) (nomark _)))) pa_nil)))))))), ?_⟩
    try dsimp only [cxOf, Cx.nox]
    show (tSeq _ _) _ [some v, some (.str sg), some (.int m), none] _
    walk_at "zd"
    refine isi_list hv (iteB (fun e0 => ?_) fun e0 => ?_)
    · exact bl_is (by cases d <;> simp_all [isList, isRows]) (k H (Same.refl _))
    obtain ⟨a, xs, ds, rfl, rfl, hS, hA⟩ := th_list hv (by simpa using e0)
    have hw : PyData.weightAll ds ≤ 20000 := by simpa only [PyData.weight] using hz
    have hn : xs.length = ds.length := hA.len
    have hn2 := len_weight ds
    refine ⟨xs, .inl hS, leI ?_⟩
    walk_at "zd"
    refine iteD (fun h1 => leI ?_) fun h1 => ?_
    rotate_left
    · walk_at "zd"
      refine iteT (bl_is ?_ (k H (Same.refl _)))
      have : decide (1 ≤ (ds.length : Int)) = false := decide_eq_false (by omega)
      simp only [isRows, this, Bool.false_and]
    walk_at "zd"
    refine iteN (fun h2 => ?_) fun h2 => ?_
    · refine bl_is ?_ (k H (Same.refl _))
      have h2' := of_decide_eq_false h2
      have : decide ((ds.length : Int) ≤ m) = false := decide_eq_false (by omega)
      simp only [isRows, this, Bool.false_and, Bool.and_false]
    have h2' := of_decide_eq_true h2
    refine comp_listL ((ds.map (madeOf sg)).map V.bl) (fun R r => r H (Same.refl H) hS) (by rw [List.length_map, List.length_map]; exact hn.symm) (by omega) ?_ fun D H1 hD s1 h3 => ?_
    · intro i x y hx hy H' s1 Q' q
      obtain ⟨e, he, hx'⟩ := hA.get hx
      rw [mapb_get he hy] at q
      refine ⟨x, e, sg, rfl, Th.mono s1 _ _ hx', ?_, q⟩
      exact Nat.le_trans (mem_weight (List.mem_of_getElem? he)) hw
    refine allL (b := ds.all (madeOf sg)) (sq_of h3) (by rw [List.all_map]; rfl) ?_
    walk_at "zd"
    refine iteN (fun h4 => bl_is ?_ (k H1 s1)) fun h4 => ?_
    · simp only [isRows, h4, Bool.false_and, Bool.and_false]
    cases ds with
    | nil =>
      rw [hn] at h1
      exact absurd h1 (by decide)
    | cons e ds =>
    obtain ⟨v0, e0', hv0⟩ := hA.at_ (i := 0) (d := e) rfl
    have m0 : madeOf sg e = true := by
      rw [List.all_cons] at h4
      exact (Bool.and_eq_true_iff.mp h4).1
    have allS : ∀ r ∈ (e :: ds), ∃ x, r = .str x ∧ x.length ≤ 20000 := fun r hr => by
      have h5 := List.all_eq_true.mp h4 r hr
      have h6 := mem_weight hr
      cases r with
      | str x => exact ⟨x, rfl, by simp only [PyData.weight] at h6; exact Nat.le_trans h6 hw⟩
      | _ => cases h5
    obtain ⟨x0, rfl, hx0⟩ := allS e List.mem_cons_self
    cases hv0
    refine ixN (j := 0) (s1.seq hS) e0' (lenS (line5 (by omega)) (leI (iteD (fun h5 => leI ?_) fun h5 => ?_)))
    rotate_left
    · refine iteF (bl_is ?_ (k H1 s1))
      have : decide (1 ≤ (slen ((PyData.str x0 :: ds).headD .none) : Int)) = false := decide_eq_false h5
      simp only [isRows, this, Bool.false_and, Bool.and_false]
    refine iteD (fun h6 => ?_) fun h6 => ?_
    rotate_left
    · refine bl_is ?_ (k H1 s1)
      have : decide ((slen ((PyData.str x0 :: ds).headD .none) : Int) ≤ m) = false := decide_eq_false h6
      simp only [isRows, this, Bool.false_and, Bool.and_false]
    refine comp_listL (((PyData.str x0 :: ds).map fun r => decide ((slen r : Int) = (x0.length : Int))).map V.bl) (fun R r => r H1 (Same.refl H1) (s1.seq hS)) (by rw [List.length_map, List.length_map]; exact hn.symm) (by omega) ?_ fun D2 H2 hD2 s2 h7 => ?_
    · intro i x y hx hy H' s' Q' q
      obtain ⟨r, he, hx'⟩ := hA.get hx
      rw [mapb_get he hy] at q
      obtain ⟨z, rfl, hz'⟩ := allS r (List.mem_of_getElem? he)
      cases hx'
      walk_at "zd"
      refine lenS (line5 (by omega)) (ixN (j := 0) (s'.seq (s1.seq hS)) e0' (lenS (line5 (by omega)) (eqI (q H' (Same.refl _)))))
    refine allL (sq_of h7) ?_ (k H2 (s1.trans s2))
    have a1 : decide (1 ≤ ((PyData.str x0 :: ds).length : Int)) = true := decide_eq_true (by omega)
    have a2 : decide (((PyData.str x0 :: ds).length : Int) ≤ m) = true := decide_eq_true (by omega)
    have a3 : decide (1 ≤ (slen ((PyData.str x0 :: ds).headD .none) : Int)) = true := decide_eq_true h5
    have a4 : decide ((slen ((PyData.str x0 :: ds).headD .none) : Int) ≤ m) = true := decide_eq_true h6
    simp only [isRows, a1, a2, a3, a4, h4, Bool.true_and, Bool.and_true]
    rw [List.all_map]
    rfl
theorem ok_piece (T : Tx K mg) (c_is_rows : Cg P w K mg base CX0 2 "is_rows" (spRows K)) (F : FunD K "is_piece" "is_piece" (defArgs s_is_piece) (defBody s_is_piece) (defScope s_is_piece) [] [] f fd) : FnG P w K mg base CX0 3 f fd ["thing"] (spPic K ((".abcdefghijklmnopqrstuvwxyz" : Str) ++ ("_" : Str))) := by
  refine FnG.of F sc_is_piece (fun vs H Q E h => ?_) (fun cdv A outer s H vs Q E hr gd h => ?_)
  · obtain ⟨v, d, rfl, _⟩ := h
    rfl
  · obtain ⟨v, d, rfl, hv, hz, k⟩ := h
    have hu : (A.deeper (envOfC "is_piece" (defScope s_is_piece) s.heap.objs.size f cdv)).units + 64 < cLine := by have := hr.un; omega
    refine ⟨_, PSs.nox (pss_one
    (ps_ret (pe_cg c_is_rows hr gd (by decide) (by rfl) pass0 (pa_cons (zv 0) (pa_cons (pe_op op_addZ (C8.pe_gc (by rfl) T.c_SIGNS) (C8.pe_gc (by rfl) T.c_LEFT_ALONE)) (pa_cons (C8.pe_gc (by rfl) T.c_MOST) pa_nil)))))), ?_⟩
    try dsimp only [cxOf, Cx.nox]
    show (tRet _) _ [some v] _
    walk_at "zd"
    exact addS (by decide +kernel) ⟨v, d, _, _, rfl, hv, hz, k⟩
theorem isRows_of {sg : Str} {rows : List Str} {w : Nat} (l1 : 1 ≤ rows.length) (l2 : rows.length ≤ 32) (w1 : 1 ≤ w) (w2 : w ≤ 32) (row : ∀ z ∈ rows, z.length = w ∧ z.cps.toList.all (inSg sg) = true) : isRows sg 32 (.list (rows.map .str)) = true := by
  cases rows with
  | nil => exact absurd l1 (by decide)
  | cons z0 rows =>
  have h0 := (row z0 List.mem_cons_self).1
  have e1 : (((z0 :: rows).map PyData.str).length : Int) = ((z0 :: rows).length : Int) := by rw [List.length_map]
  have a1 : decide (1 ≤ (((z0 :: rows).map PyData.str).length : Int)) = true := decide_eq_true (by omega)
  have a2 : decide ((((z0 :: rows).map PyData.str).length : Int) ≤ 32) = true := decide_eq_true (by omega)
  have a3 : decide (1 ≤ (slen (((z0 :: rows).map PyData.str).headD .none) : Int)) = true := decide_eq_true (by show 1 ≤ (z0.length : Int); omega)
  have a4 : decide ((slen (((z0 :: rows).map PyData.str).headD .none) : Int) ≤ 32) = true := decide_eq_true (by show (z0.length : Int) ≤ 32; omega)
  have a5 : ((z0 :: rows).map PyData.str).all (madeOf sg) = true := List.all_eq_true.mpr fun r hr => by
    obtain ⟨x, hx, rfl⟩ := List.mem_map.mp hr
    exact (row x hx).2
  have a6 : (((z0 :: rows).map PyData.str).all fun r => decide ((slen r : Int) = (slen (((z0 :: rows).map PyData.str).headD .none) : Int))) = true := List.all_eq_true.mpr fun r hr => by
    obtain ⟨x, hx, rfl⟩ := List.mem_map.mp hr
    refine decide_eq_true ?_
    show (x.length : Int) = (z0.length : Int)
    rw [(row x hx).1, h0]
  simp only [isRows, a1, a2, a3, a4, a5, a6, Bool.true_and]

theorem ok_pic (T : Tx K mg) (c_is_rows : Cg P w K mg base CX0 2 "is_rows" (spRows K)) (F : FunD K "is_picture" "is_picture" (defArgs s_is_picture) (defBody s_is_picture) (defScope s_is_picture) [] [] f fd) : FnG P w K mg base CX0 3 f fd ["thing"] (spPic K ".abcdefghijklmnopqrstuvwxyz") := by
  refine FnG.of F sc_is_picture (fun vs H Q E h => ?_) (fun cdv A outer s H vs Q E hr gd h => ?_)
  · obtain ⟨v, d, rfl, _⟩ := h
    rfl
  · obtain ⟨v, d, rfl, hv, hz, k⟩ := h
    have hu : (A.deeper (envOfC "is_picture" (defScope s_is_picture) s.heap.objs.size f cdv)).units + 64 < cLine := by have := hr.un; omega
    refine ⟨_, PSs.nox (pss_one
    (ps_ret (pe_cg c_is_rows hr gd (by decide) (by rfl) pass0 (pa_cons (zv 0) (pa_cons (C8.pe_gc (by rfl) T.c_SIGNS) (pa_cons (C8.pe_gc (by rfl) T.c_MOST) pa_nil)))))), ?_⟩
    try dsimp only [cxOf, Cx.nox]
    show (tRet _) _ [some v] _
    walk_at "zd"
    exact ⟨v, d, _, _, rfl, hv, hz, k⟩

/-! ### kinds: a spot -/
def isSpotI (i : Int) : Bool := decide (-1000000 ≤ i) && decide (i ≤ 1000000)
def spWhole (K : PySem.W.Frag) : Sp := fun vs H Q _ => ∃ i : Int, vs = [.int i] ∧ Q (.bl true) H
theorem ok_whole (T : Tx K mg) (F : FunD K "is_whole" "is_whole" (defArgs s_is_whole) (defBody s_is_whole) (defScope s_is_whole) [] [] f fd) : FnG P w K mg base CX0 1 f fd ["thing"] (spWhole K) := by
  refine FnG.of F sc_is_whole (fun vs H Q E h => ?_) (fun cdv A outer s H vs Q E hr gd h => ?_)
  · obtain ⟨i, rfl, _⟩ := h
    rfl
  · obtain ⟨i, rfl, k⟩ := h
    have hu : (A.deeper (envOfC "is_whole" (defScope s_is_whole) s.heap.objs.size f cdv)).units + 64 < cLine := by have := hr.un; omega
    refine ⟨_, PSs.nox (pss_one
    (ps_ret (pz_and (pe_callB (call_isiK K) (by rfl) T.isinstance (by decide +kernel) (pa_cons (zv 0) (pa_cons (pe_bltn (v := .ty "int") (by rfl) T.int (by decide +kernel) rfl) pa_nil))) (pe_one (pz_not (pe_callB (call_isiK K) (by rfl) T.isinstance (by decide +kernel) (pa_cons (zv 0) (pa_cons (pe_bltn (v := .ty "bool") (by rfl) T.bool (by decide +kernel) rfl) pa_nil)))))))), ?_⟩
    try dsimp only [cxOf, Cx.nox]
    show (tRet _) _ [some (.int i)] _
    walk_at "zd"
    refine isi_int (.int i) ?_
    refine iteT (isi_bool (.int i) ?_)
    exact k
def spFrom (K : PySem.W.Frag) : Sp := fun vs H Q _ => ∃ i lo hi : Int, vs = [.int i, .int lo, .int hi] ∧ Q (.bl (decide (lo ≤ i) && decide (i ≤ hi))) H
theorem ok_from (T : Tx K mg) (c_is_whole : Cg P w K mg base CX0 1 "is_whole" (spWhole K)) (F : FunD K "is_from_to" "is_from_to" (defArgs s_is_from_to) (defBody s_is_from_to) (defScope s_is_from_to) [] [] f fd) : FnG P w K mg base CX0 2 f fd ["thing", "low", "high"] (spFrom K) := by
  refine FnG.of F sc_is_from_to (fun vs H Q E h => ?_) (fun cdv A outer s H vs Q E hr gd h => ?_)
  · obtain ⟨i, lo, hi, rfl, _⟩ := h
    rfl
  · obtain ⟨i, lo, hi, rfl, k⟩ := h
    have hu : (A.deeper (envOfC "is_from_to" (defScope s_is_from_to) s.heap.objs.size f cdv)).units + 64 < cLine := by have := hr.un; omega
    refine ⟨_, PSs.nox (pss_one
    (ps_ret (pz_and (pe_cg c_is_whole hr gd (by decide) (by rfl) pass0 (pa_cons (zv 0) pa_nil)) (pe_one (pz_chain op_leZ op_leZ (zv 1) (zv 0) (zv 2)))))), ?_⟩
    try dsimp only [cxOf, Cx.nox]
    show (tRet _) _ [some (.int i), some (.int lo), some (.int hi)] _
    walk_at "zd"
    refine ⟨i, rfl, iteT (leI ?_)⟩
    refine iteD (fun h1 => leI ?_) fun h1 => ?_
    · rw [decide_eq_true h1, Bool.true_and] at k
      exact k
    · rw [decide_eq_false h1, Bool.false_and] at k
      exact k

def spSpot (K : PySem.W.Frag) : Sp := fun vs H Q _ => ∃ i : Int, vs = [.int i] ∧ -1000000 ≤ i ∧ i ≤ 1000000 ∧ Q (.bl true) H
theorem ok_spot (T : Tx K mg) (c_is_from_to : Cg P w K mg base CX0 2 "is_from_to" (spFrom K)) (F : FunD K "is_spot" "is_spot" (defArgs s_is_spot) (defBody s_is_spot) (defScope s_is_spot) [] [] f fd) : FnG P w K mg base CX0 3 f fd ["thing"] (spSpot K) := by
  refine FnG.of F sc_is_spot (fun vs H Q E h => ?_) (fun cdv A outer s H vs Q E hr gd h => ?_)
  · obtain ⟨i, rfl, _⟩ := h
    rfl
  · obtain ⟨i, rfl, h1, h2, k⟩ := h
    have hu : (A.deeper (envOfC "is_spot" (defScope s_is_spot) s.heap.objs.size f cdv)).units + 64 < cLine := by have := hr.un; omega
    refine ⟨_, PSs.nox (pss_one
    (ps_ret (pe_cg c_is_from_to hr gd (by decide) (by rfl) pass0 (pa_cons (zv 0) (pa_cons (pe_un un_negZ (C8.pe_gc (by rfl) T.c_FARTHEST)) (pa_cons (C8.pe_gc (by rfl) T.c_FARTHEST) pa_nil)))))), ?_⟩
    try dsimp only [cxOf, Cx.nox]
    show (tRet _) _ [some (.int i)] _
    walk_at "zd"
    refine ⟨i, -1000000, 1000000, rfl, ?_⟩
    rw [decide_eq_true h1, decide_eq_true h2]
    exact k

/-! ### refuse_wrong, where nothing is wrong -/
def spRef : Sp := fun vs H Q _ => (∀ v ∈ vs, v = V.bl true) ∧ vs.length ≤ 100000 ∧ ∀ H', Same H H' → Q .non H'
theorem ok_refuse (T : Tx K mg) (F : FunD K "refuse_wrong" "refuse_wrong" (defArgs s_refuse_wrong) (defBody s_refuse_wrong) (defScope s_refuse_wrong) [] [] f fd) : FnR P w K mg base CX0 1 f spRef := by
  refine FnR.imp (star0 (pv := "right") (sp := fun vs H Q _ => ∃ p xs, vs = [V.ref p] ∧ H p = some (.tup xs) ∧ (∀ v ∈ xs, v = V.bl true) ∧ ∀ H', Same H H' → Q .non H') F sc_refuse_wrong StX.cxUp_none ?_ ?_) ?_
  · intro kV doc pm an cdv ct rest
    cases rest <;> rfl
  · rintro cdv A outer s H vs Q E hr ⟨p, xs, rfl, hp, hx, k⟩
    refine ⟨_, PSs.nox (pss_one
    (ps_for PassesOwn.never rfl (pi_enumT (by rfl) T.enumerate (pa_cons (zv 0) pa_nil)) (pg_tupK K 2 (pgs_cons (pg_name (i := 1) sc_refuse_wrong.nd rfl (Or.inl rfl)) (pgs_cons (pg_name (i := 2) sc_refuse_wrong.nd rfl (Or.inl rfl)) pgs_nil)))
      (pss_one
        (ps_if (pt_not (pz_val (zv 2)))
          (pss_one
            ps_noway)
          pss_nil)))), ?_⟩
    try dsimp only [cxOf, Cx.nox]
    show (tFor _ _ _) _ [some (.ref p), none, none] _
    refine for_enT ?_
    walk_at "zd"
    refine ⟨p, xs, rfl, st_of hp, for_G (fun i σ H' => Same H H' ∧ ∃ y z, σ = [some (.ref p), y, z]) ⟨Same.refl _, _, _, rfl⟩ (fun i σ H' _ h => Same.tup h.1 (st_of hp)) ?_ ?_⟩
    · rintro i σ H' T x hi ⟨s1, y, z, rfl⟩ hT hY
      have e : x = V.bl true := hx x (List.mem_of_getElem? hY)
      subst e
      refine gpair rfl upd_same ?_
      walk_at "zd"
      refine iteN (fun z => by cases z) fun _ => ?_
      exact ⟨s1.trans (same_new hT), _, _, rfl⟩
    · rintro σ H' ⟨s1, y, z, rfl⟩
      exact k H' s1
  · rintro vs H Q E ⟨h1, h2, k⟩
    refine ⟨line5 h2, fun p hp => ⟨p, vs, rfl, upd_same, h1, fun H' s => k H' ((same_new hp).trans s)⟩⟩

/-! ### spots_of -/
/-- what each item with its place gives, one behind another -/
def enumD {α β : Type} (f : α → Nat → List β) (l : List α) : List β := (l.zipIdx.map fun p => f p.1 p.2).flatten
theorem enumD_step {α β : Type} {f : α → Nat → List β} {l : List α} {i : Nat} {a : α} (h : l[i]? = some a) : enumD f (l.take (i + 1)) = enumD f (l.take i) ++ f a i := by
  have hi : i < l.length := (List.getElem?_eq_some_iff.mp h).1
  unfold enumD
  rw [List.take_add_one, h]
  simp only [Option.toList_some, List.zipIdx_append, List.map_append, List.flatten_append, List.zipIdx_cons, List.zipIdx_nil, List.map_cons, List.map_nil, List.flatten_cons, List.flatten_nil, List.append_nil, List.length_take]
  rw [Nat.min_eq_left (Nat.le_of_lt hi), Nat.zero_add]
theorem enumD_in {α β : Type} {f : α → Nat → List β} {l : List α} {k : Nat} {a : α} {d : β} (h : l[k]? = some a) (g : d ∈ f a k) : d ∈ enumD f l :=
  List.mem_flatten.mpr ⟨_, List.mem_map.mpr ⟨(a, k), List.mem_zipIdx_iff_getElem?.mpr h, rfl⟩, g⟩
theorem enumD_zero {α β : Type} {f : α → Nat → List β} {l : List α} : enumD f (l.take 0) = [] := by
  simp [enumD]
theorem enumD_len {α β : Type} {f : α → Nat → List β} {m : Nat} {l : List α} : (∀ a, a ∈ l → ∀ k, (f a k).length ≤ m) → (enumD f l).length ≤ m * l.length := by
  intro h
  have key : ∀ i, i ≤ l.length → (enumD f (l.take i)).length ≤ m * i := by
    intro i
    induction i with
    | zero => intro _; rw [enumD_zero]; simp
    | succ i ih =>
      intro hi
      have e : l[i]? = some l[i] := List.getElem?_eq_getElem (by omega)
      rw [enumD_step e, List.length_append, Nat.mul_succ]
      have := ih (by omega)
      have := h l[i] (List.getElem_mem _) i
      omega
  have z := key l.length (Nat.le_refl _)
  rwa [List.take_length] at z
/-- a sign at its place -/
def sp1 (x y : Int) (c k : Nat) : List PyData := if c = 95 then [] else [.tuple [.int (x + (k : Int)), .int y, .str (one c)]]
theorem sp1_len (x y : Int) (c k : Nat) : (sp1 x y c k).length ≤ 1 := by
  unfold sp1
  split <;> simp
def rowD (x y : Int) (z : Str) : List PyData := enumD (sp1 x y) z.cps.toList
def allD (x y : Int) (rows : List Str) : List PyData := enumD (fun z j => rowD x (y + (j : Int)) z) rows
theorem allD_len {x y : Int} {rows : List Str} {m : Nat} (h : ∀ z ∈ rows, z.length ≤ m) : (allD x y rows).length ≤ m * rows.length := by
  refine enumD_len fun z hz k => ?_
  have := enumD_len (f := sp1 x (y + (k : Int))) (m := 1) (l := z.cps.toList) fun c _ k => sp1_len _ _ _ _
  rw [str_len] at this
  have := h z hz
  unfold rowD
  omega
/-- rows that are a piece -/
structure Piece (rows : List Str) : Prop where
  len : rows.length ≤ 32
  row : ∀ z ∈ rows, z.length ≤ 32
  is : isRows (".abcdefghijklmnopqrstuvwxyz" ++ "_") 32 (.list (rows.map .str)) = true
theorem rows_wt {rows : List Str} {m : Nat} (h : ∀ z ∈ rows, z.length ≤ m) : PyData.weightAll (rows.map .str) ≤ rows.length * (m + 1) := by
  induction rows with
  | nil => simp [PyData.weightAll]
  | cons z rows ih =>
    have h1 := ih fun y q => h y (List.mem_cons_of_mem _ q)
    have h2 : z.cps.size ≤ m := h z List.mem_cons_self
    simp only [List.map_cons, PyData.weightAll, PyData.weight, List.length_cons, Nat.add_mul]
    omega
theorem allD_zero {x y : Int} {rows : List Str} : allD x y (rows.take 0) = [] := enumD_zero
theorem only_same {D : Addr} {H : Hp} {o : HO} : Same (hd (fun a => decide (a = D)) H) (hd (fun a => decide (a = D)) (upd H D o)) := fun a u h => by
  obtain ⟨h1, h2⟩ := hd_some h
  have n : a ≠ D := of_decide_eq_false h1
  exact hd_of h1 (by rw [upd_ne n]; exact h2)
theorem one_us {c : Nat} : one c = ("_" : Str) ↔ c = 95 := by
  refine ⟨fun h => ?_, fun h => by subst h; rfl⟩
  have e : ("_" : Str) = SX.S [95] := by decide
  rw [e] at h
  have := SX.S_inj (a := [c]) (b := [95]) h
  simpa using this
def spSpots (K : PySem.W.Frag) : Sp := fun vs H Q _ => ∃ (p : Addr) (rows : List Str) (x y : Int), vs = [.ref p, .int x, .int y] ∧ SqL K H p (rows.map V.str) ∧ Piece rows ∧ -1000000 ≤ x ∧ x ≤ 1000000 ∧ -1000000 ≤ y ∧ y ≤ 1000000 ∧
  ∀ (D : Addr) (ts : List V) (H' : Hp), H D = none → Same H H' → H' D = some (.lst ts) → ThA K (hd (fun a => decide (a = D)) H') ts (allD x y rows) → Q (.ref D) H'
theorem ok_spots (T : Tx K mg) (c_is_piece : Cg P w K mg base CX0 3 "is_piece" (spPic K (".abcdefghijklmnopqrstuvwxyz" ++ "_"))) (c_is_spot : Cg P w K mg base CX0 3 "is_spot" (spSpot K)) (c_refuse_wrong : Cr P w K mg base CX0 1 "refuse_wrong" spRef)
    (F : FunD K "spots_of" "spots_of" (defArgs s_spots_of) (defBody s_spots_of) (defScope s_spots_of) [] [] f fd) : FnG P w K mg base CX0 4 f fd ["piece", "x", "y"] (spSpots K) := by
  refine FnG.of F sc_spots_of (fun vs H Q E h => ?_) (fun cdv A outer s H vs Q E hr gd h => ?_)
  · obtain ⟨p, rows, x, y, rfl, _⟩ := h
    rfl
  · obtain ⟨p, rows, x, y, rfl, hS, hP, hx1, hx2, hy1, hy2, k⟩ := h
    have hu : (A.deeper (envOfC "spots_of" (defScope s_spots_of) s.heap.objs.size f cdv)).units + 64 < cLine := by have := hr.un; omega
    refine ⟨_, PSs.nox (pss_cons
    (ps_expr (pe_cr c_refuse_wrong hr (by decide) (by rfl) pass0 (pa_cons (pe_cg c_is_piece hr gd (by decide) (by rfl) pass0 (pa_cons (zv 0) pa_nil)) (pa_cons (pe_cg c_is_spot hr gd (by decide) (by rfl) pass0 (pa_cons (zv 1) pa_nil)) (pa_cons (pe_cg c_is_spot hr gd (by decide) (by rfl) pass0 (pa_cons (zv 2) pa_nil)) pa_nil)))))
    (pss_one
    (ps_ret (pe_lc2 (own := [("down", 3), ("row", 4), ("right", 5), ("sign", 6)]) (vs1 := [5, 6]) rfl sc_spots_of.nd (pi_enumK K (by rfl) T.enumerate (pa_cons (zv 0) pa_nil)) (blkOk_by (by kernel_rfl)) (by decide) (fun _ _ _ _ _ => (pg_tupK K 2 (pgs_cons (pg_name (i := 3) sc_spots_of.nd rfl (Or.inl rfl)) (pgs_cons (pg_name (i := 4) sc_spots_of.nd rfl (Or.inl rfl)) pgs_nil)))) (fun _ _ _ _ _ => pts_nil) (fun _ _ _ _ _ => (pi_enumS (by rfl) T.enumerate (pa_cons (zv 4) pa_nil))) (fun _ _ _ _ _ => (pg_tupK K 2 (pgs_cons (pg_name (i := 5) sc_spots_of.nd rfl (Or.inl rfl)) (pgs_cons (pg_name (i := 6) sc_spots_of.nd rfl (Or.inl rfl)) pgs_nil)))) (fun _ _ _ _ _ => pts_one (pz_cmp (op_neK K hu) (zv 6) (C8.pe_gc (by rfl) T.c_LEFT_ALONE) (nomark _))) (fun _ _ _ _ _ => (pe_tup (pa_cons (pe_op op_addZ (zv 1) (zv 5)) (pa_cons (pe_op op_addZ (zv 2) (zv 3)) (pa_cons (zv 6) pa_nil))))))))), ?_⟩
    try dsimp only [cxOf, Cx.nox]
    show (tSeq _ _) _ [some (.ref p), some (.int x), some (.int y), none, none, none, none] _
    walk_at "zd"
    have hw : PyData.weight (.list (rows.map .str)) ≤ 20000 := by
      have h1 := rows_wt hP.row
      have h2 : rows.length * (32 + 1) ≤ 32 * 33 := Nat.mul_le_mul_right _ hP.len
      simp only [PyData.weight]
      omega
    refine ⟨.ref p, _, rfl, .lst hS (ThA.strs rows), hw, fun H1 s1 => ?_⟩
    refine ⟨x, rfl, hx1, hx2, ⟨y, rfl, hy1, hy2, ⟨?_, by show 3 ≤ _; decide, fun H2 s2 => ?_⟩⟩⟩
    · intro v hv
      rw [hP.is] at hv
      simp only [List.mem_cons, List.not_mem_nil, or_false] at hv
      rcases hv with rfl | rfl | rfl <;> rfl
    have s12 := s1.trans s2
    have hS2 := s12.seq hS
    refine ⟨p, rows.map V.str, rfl, hS2, fun D hD => ?_⟩
    refine ⟨fun i m H' => m = rows.length - i ∧ i ≤ rows.length ∧ Same H2 H' ∧ ∃ ts, H' D = some (.lst ts) ∧ ThA K (hd (fun a => decide (a = D)) H') ts (allD x y (rows.take i)),
      ⟨rows.length, by simp, Nat.zero_le _, same_new hD, [], upd_same, by rw [allD_zero]; exact .nil⟩, ?_⟩
    rintro i m H3 ⟨rfl, hi, s3, ts, d3, t3⟩
    by_cases hlt : i < rows.length
    · have hri : (rows.map V.str)[i]? = some (.str rows[i]) := by rw [List.getElem?_map, List.getElem?_eq_getElem hlt]; rfl
      refine .inr ⟨⟨rows.map .str, .str rows[i], s3.seq hS2, hri⟩, fun H' => Same H2 H' ∧ ∃ ts, H' D = some (.lst ts) ∧ ThA K (hd (fun a => decide (a = D)) H') ts (allD x y (rows.take (i + 1))), fun H' q => ⟨rows.length - (i + 1), by omega, rfl, hlt, q⟩, fun v H4 yl => ?_⟩
      obtain ⟨T, xv, rfl, hT, rfl, hx⟩ := yl
      have hxv := hx _ (s3.seq hS2)
      rw [hri] at hxv
      cases hxv
      refine gpair rfl upd_same ⟨rfl, ?_⟩
      dsimp only [tYes]
      rw [if_pos rfl]
      have hz := hP.row rows[i] (List.getElem_mem hlt)
      have hstep : allD x y (rows.take (i + 1)) = allD x y (rows.take i) ++ rowD x (y + (i : Int)) rows[i] := enumD_step (List.getElem?_eq_getElem hlt)
      rw [hstep]
      have hlen : (allD x y (rows.take i)).length ≤ 32 * i := by
        have := allD_len (x := x) (y := y) (rows := rows.take i) (m := 32) fun z q => hP.row z (List.mem_of_mem_take q)
        rwa [List.length_take, Nat.min_eq_left hi] at this
      have hr32 := hP.len
      have nT : D ≠ T := fun e => by
        rw [← e, d3] at hT
        cases hT
      generalize rows[i] = z at hz ⊢
      refine ⟨z, rfl, ⟨fun j n H' => n = z.length - j ∧ j ≤ z.length ∧ Same H2 H' ∧ ∃ ts, H' D = some (.lst ts) ∧ ThA K (hd (fun a => decide (a = D)) H') ts (allD x y (rows.take i) ++ enumD (sp1 x (y + (i : Int))) (z.cps.toList.take j)), ⟨z.length, by simp, Nat.zero_le _, s3.trans (same_new hT), ts, (same_new hT) _ _ d3, ?_⟩, ?_⟩⟩
      · rw [enumD_zero, List.append_nil]
        exact ThA.mono (Same.hd (same_new hT)) _ _ t3
      rintro j n H5 ⟨rfl, hj, s5, ts5, d5, t5⟩
      by_cases hlt2 : j < z.length
      · refine .inr ⟨⟨trivial, hlt2⟩, fun H' => Same H2 H' ∧ ∃ ts, H' D = some (.lst ts) ∧ ThA K (hd (fun a => decide (a = D)) H') ts (allD x y (rows.take i) ++ enumD (sp1 x (y + (i : Int))) (z.cps.toList.take (j + 1))), fun H' q => ⟨z.length - (j + 1), by omega, rfl, hlt2, q⟩, fun v H6 yl => ?_⟩
        obtain ⟨T2, xv, rfl, hT2, rfl, hx⟩ := yl
        have hl : j < z.cps.toList.length := by rw [str_len]; exact hlt2
        have hc : z.cps.toList[j]? = some z.cps.toList[j] := List.getElem?_eq_getElem hl
        have hxe : xv = .str (one z.cps.toList[j]) := by
          unfold signsV at hx
          rw [List.getElem?_map, hc] at hx
          exact (Option.some.inj hx).symm
        subst hxe
        rw [enumD_step hc]
        generalize z.cps.toList[j] = c
        refine gpair rfl upd_same ⟨rfl, ?_⟩
        walk_at "zd"
        have nT2 : D ≠ T2 := fun e => by
          rw [← e, d5] at hT2
          cases hT2
        have s6 := same_new (o := .tup [.int (j : Nat), .str (one c)]) hT2
        have hlen2 : (enumD (sp1 x (y + (i : Int))) (z.cps.toList.take j)).length ≤ 1 * j := by
          have := enumD_len (f := sp1 x (y + (i : Int))) (m := 1) (l := z.cps.toList.take j) fun c _ k => sp1_len _ _ _ _
          rwa [List.length_take, str_len, Nat.min_eq_left hj] at this
        have htl := t5.len
        rw [List.length_append] at htl
        refine eqS (iteN (fun e => ?_) fun e => ?_)
        · have hc95 : c ≠ 95 := fun q => of_decide_eq_false e (one_us.mpr q)
          refine addI (addI ⟨line5 (show 3 ≤ 100000 by decide), fun p3 hp3 => ?_⟩)
          have s7 := s6.trans (same_new (o := .tup [.int (x + (j : Int)), .int (y + (i : Int)), .str (one c)]) hp3)
          refine ⟨ts5, s7 _ _ d5, small5 (by omega), same_mut (s5.trans s7) hD, ts5 ++ [.ref p3], upd_same, ?_⟩
          rw [← List.append_assoc]
          have e2 : sp1 x (y + (i : Int)) c j = [.tuple [.int (x + (j : Int)), .int (y + (i : Int)), .str (one c)]] := if_neg hc95
          rw [e2]
          refine ThA.mono only_same _ _ (ThA.app (ThA.mono (Same.hd s7) _ _ t5) (.cons (.tup (st_of ?_) (.cons (.int _) (.cons (.int _) (.cons (.str _) .nil)))) .nil))
          refine hd_of (decide_eq_false fun e => ?_) upd_same
          rw [e] at hp3
          rw [s6 _ _ d5] at hp3
          cases hp3
        · have hc95 : c = 95 := one_us.mp (of_decide_eq_true e)
          have e2 : sp1 x (y + (i : Int)) c j = [] := if_pos hc95
          rw [e2, List.append_nil]
          exact ⟨s5.trans s6, ts5, s6 _ _ d5, ThA.mono (Same.hd s6) _ _ t5⟩
      · have e : j = z.length := by omega
        subst e
        refine .inl ⟨⟨trivial, Nat.le_refl _⟩, s5, ts5, d5, ?_⟩
        rw [← str_len, List.take_length] at t5
        exact t5
    · have e : i = rows.length := by omega
      subst e
      rw [List.take_length] at t3
      exact .inl ⟨⟨rows.map .str, s3.seq hS2, by rw [List.length_map]; exact Nat.le_refl _⟩, k D ts H3 (s12.free hD) (s12.trans s3) d3 t3⟩

/-! ### the bag -/
def spBag (K : PySem.W.Frag) : Sp := fun vs H Q _ => ∃ (a : Addr) (ns : List Int), vs = [.ref a] ∧ SqL K H a (ns.map V.int) ∧ ns.length ≤ 63 ∧ ∀ (ω : Bg) (H' : Hp), Same H H' → Bag K H' ω → H ω.b = none → Q (.ref ω.b) H'
theorem ok_bag (T : Tx K mg) (F : FunD K "_law_bag" "_law_bag" (defArgs s_law_bag) (defBody s_law_bag) (defScope s_law_bag) [] [] f fd) : FnG P w K mg base CX0 1 f fd ["_law_script"] (spBag K) := by
  refine FnG.of F sc_law_bag (fun vs H Q E h => ?_) (fun cdv A outer s H vs Q E hr gd h => ?_)
  · obtain ⟨a, ns, rfl, _⟩ := h
    rfl
  · obtain ⟨a, ns, rfl, hS, hn, k⟩ := h
    have hu : (A.deeper (envOfC "_law_bag" (defScope s_law_bag) s.heap.objs.size f cdv)).units + 64 < cLine := by have := hr.un; omega
    refine ⟨_, PSs.nox (pss_one
    (ps_ret (pe_lst (pa_cons pe_int (pa_cons pe_int (pa_cons pe_int (pa_cons (pe_lc (own := [("_law_cell", 1)]) rfl sc_law_bag.nd (pi_listK K (pe_slice (sl_K K) (zv 0) po_none (po_some pe_int))) (blkOk_by (by kernel_rfl)) (fun _ _ _ _ _ => (pg_name (i := 1) sc_law_bag.nd rfl (Or.inl rfl))) (fun _ _ _ _ _ => pts_nil) (fun _ _ _ _ _ => (pe_callB call_absZ (by rfl) T.abs (by decide +kernel) (pa_cons (zv 1) pa_nil)))) pa_nil))))))), ?_⟩
    try dsimp only [cxOf, Cx.nox]
    show (tRet _) _ [some (.ref a), none] _
    walk_at "zd"
    refine comp_listF (K := K) (xs := ns.map V.int) (fun x => match x with
      | .int i => .int (if i < 0 then -i else i)
      | x => x) (fun R r => ?_) (by rw [List.length_map]; omega) ?_ fun D H2 hD s2 h2 => ?_
    · refine ⟨63, rfl, slL hS fun p hp => ?_⟩
      have e : cutV (ns.map V.int) none (some 63) = ns.map V.int := (cut_to _ 63).trans (List.take_of_length_le (by rw [List.length_map]; omega))
      rw [e]
      exact r p _ (same_new hp) (sq_of upd_same)
    · intro y hy H' s' Q' q
      obtain ⟨i, hi, rfl⟩ := List.mem_map.mp hy
      walk_at "zd"
      exact q H' (Same.refl _)
    refine ⟨line5 (show 4 ≤ 100000 by decide), fun p hp => ?_⟩
    have np : D ≠ p := fun e => by
      rw [e, hp] at h2
      cases h2
    refine k ⟨p, D, ns.map fun i => if i < 0 then -i else i⟩ _ (s2.trans (same_new hp)) ⟨0, 1234567891, 0, upd_same, ?_, np, by decide, by decide, by decide, fun z hz => ?_⟩ (s2.free hp)
    · refine sq_of ?_
      rw [upd_ne np, h2, List.map_map, List.map_map]
      rfl
    · obtain ⟨i, _, rfl⟩ := List.mem_map.mp hz
      split <;> omega

/-! ### what is drawn -/
def sgP : Str := ".abcdefghijklmnopqrstuvwxyz_"
def spMenu (K : PySem.W.Frag) : Sp := fun vs H Q _ => ∃ (ω : Bg), vs = [.ref ω.b] ∧ Bag K H ω ∧ ∀ (x : Str) (H' : Hp), 1 ≤ x.length → x.length ≤ 28 → x.cps.toList.all (inSg sgP) = true → Bag K H' ω → Go ω.b H H' → Q (.str x) H'
theorem ok_menu (T : Tx K mg) (c_law_take : Cg P w K mg base CX0 1 "_law_take" (spTake K)) (F : FunD K "_law_menu" "_law_menu" (defArgs s_law_menu) (defBody s_law_menu) (defScope s_law_menu) [] [] f fd) : FnG P w K mg base CX0 2 f fd ["_law_bag_here"] (spMenu K) := by
  refine FnG.of F sc_law_menu (fun vs H Q E h => ?_) (fun cdv A outer s H vs Q E hr gd h => ?_)
  · obtain ⟨ω, rfl, _⟩ := h
    rfl
  · obtain ⟨ω, rfl, wd, k⟩ := h
    have hu : (A.deeper (envOfC "_law_menu" (defScope s_law_menu) s.heap.objs.size f cdv)).units + 64 < cLine := by have := hr.un; omega
    refine ⟨_, PSs.nox (pss_cons
    (ps_set (i := 1) sc_law_menu.nd rfl (Or.inl rfl) (pe_lst (pa_cons pe_str (pa_cons pe_str (pa_cons pe_str (pa_cons pe_str (pa_cons pe_str (pa_cons pe_str (pa_cons pe_str (pa_cons pe_str pa_nil))))))))))
    (pss_one
    (ps_ret (pe_ix (ix_K K) (zv 1) (pe_cg c_law_take hr gd (by decide) (by rfl) pass0 (pa_cons (zv 0) (pa_cons pe_int pa_nil))) (fun _ _ => rfl))))), ?_⟩
    try dsimp only [cxOf, Cx.nox]
    show (tSeq _ _) _ [some (.ref ω.b), none] _
    walk_at "zd"
    refine ⟨line5 (show 8 ≤ 100000 by decide), fun p hp => ?_⟩
    refine take_at (wd.same (same_new hp)) upd_same (bag_ne wd hp) rfl (by decide) (by decide) fun x hx H' g go => ?_
    have kk : ∀ z : Str, 1 ≤ z.length → z.length ≤ 28 → z.cps.toList.all (inSg sgP) = true → Q (.str z) H' := fun z a b c => k z H' a b c g ((Go.of (same_new hp)).trans go)
    simp only [List.mem_cons, List.not_mem_nil, or_false] at hx
    rcases hx with rfl | rfl | rfl | rfl | rfl | rfl | rfl | rfl <;> exact kk _ (by decide) (by decide) (by decide)
theorem sgP_128 {c : Nat} (h : inSg sgP c = true) : c < 128 := by
  have z : ∀ d ∈ sgP.cps.toList, d < 128 := by decide
  exact z c (of_decide_eq_true h)
theorem sgP_ok {x : Str} (h : x.cps.toList.all (inSg sgP) = true) : okT x = true := List.all_eq_true.mpr fun c m => decide_eq_true (sgP_128 (List.all_eq_true.mp h c m))

/-! ### rows, drawn -/
structure RowOk (Pc : Nat → Bool) (y : V) (n : Nat) : Prop where
  is : ∃ x : Str, y = .str x ∧ x.length = n ∧ x.cps.toList.all Pc = true
def spLRows (K : PySem.W.Frag) : Sp := fun vs H Q _ => ∃ B ω sg, ∃ (M : Nat) (Pc : Nat → Bool), vs = [.ref ω.b, .str sg, .int M] ∧ 5 ≤ M ∧ M ≤ 33 ∧ Wd K B ω H ∧ 1 ≤ sg.length ∧ sg.length ≤ 28 ∧ sg.cps.toList.all Pc = true ∧
  ∀ (p : Addr) (acc : List V) (n : Nat) (H' : Hp), H p = none → 1 ≤ n → n ≤ M → 1 ≤ acc.length → acc.length ≤ M → (∀ y, y ∈ acc → RowOk Pc y n) → H' p = some (.lst acc) → Bag K H' ω → Go ω.b H H' → Q (.ref p) H'
theorem ok_lrows (T : Tx K mg) (c_law_take : Cg P w K mg base CX0 1 "_law_take" (spTake K)) (F : FunD K "_law_rows" "_law_rows" (defArgs s_law_rows) (defBody s_law_rows) (defScope s_law_rows) [] [] f fd) : FnG P w K mg base CX0 2 f fd ["_law_bag_here", "_law_signs", "_law_most"] (spLRows K) := by
  refine FnG.of F sc_law_rows (fun vs H Q E h => ?_) (fun cdv A outer s H vs Q E hr gd h => ?_)
  · obtain ⟨B, ω, sg, M, Pc, rfl, _⟩ := h
    rfl
  · obtain ⟨B, ω, sg, M, Pc, rfl, hM1, hM2, wd, hs1, hs2, hs3, k⟩ := h
    have hu : (A.deeper (envOfC "_law_rows" (defScope s_law_rows) s.heap.objs.size f cdv)).units + 64 < cLine := by have := hr.un; omega
    refine ⟨_, PSs.nox (pss_cons
    (ps_set (i := 3) sc_law_rows.nd rfl (Or.inr rfl) (pe_lc (own := [("_law_k", 4)]) rfl sc_law_rows.nd (pi_range1 (by rfl) T.range (pa_cons pe_int pa_nil)) (blkOk_by (by kernel_rfl)) (fun _ _ _ _ _ => (pg_name (i := 4) sc_law_rows.nd rfl (Or.inl rfl))) (fun _ _ _ _ _ => pts_nil) (fun _ _ _ _ _ => (pe_ix (ix_K K) (pe_lst (pa_cons (pe_op op_addZ pe_int (pe_cg c_law_take hr gd (by decide) (by rfl) pass0 (pa_cons (zv 0) (pa_cons pe_int pa_nil)))) (pa_cons (pe_op op_addZ pe_int (pe_cg c_law_take hr gd (by decide) (by rfl) pass0 (pa_cons (zv 0) (pa_cons (zv 2) pa_nil)))) (pa_cons pe_int (pa_cons (zv 2) pa_nil))))) (pe_cg c_law_take hr gd (by decide) (by rfl) pass0 (pa_cons (zv 0) (pa_cons pe_int pa_nil))) (fun _ _ => rfl)))))
    (C8.pss_cut
    (ps_if (PW.pt (pw_and (pz_cmp op_gtZ (pe_op op_mulZ (pe_ix (ix_K K) (zv 3) pe_int (fun _ _ => rfl)) (pe_ix (ix_K K) (zv 3) pe_int (fun _ _ => rfl))) pe_int (nomark _)) (pw_and1 (pz_cmp op_gtZ (pe_cg c_law_take hr gd (by decide) (by rfl) pass0 (pa_cons (zv 0) (pa_cons pe_int pa_nil))) pe_int (nomark _)))))
      (pss_one
        (ps_asg (pe_op op_addZ pe_int (pe_cg c_law_take hr gd (by decide) (by rfl) pass0 (pa_cons (zv 0) (pa_cons pe_int pa_nil)))) (pg_sub (zv 3) pe_int set_Z)))
      pss_nil)
    (pss_one
    (ps_ret (pe_lc (own := [("_law_j", 5)]) rfl sc_law_rows.nd (pi_range1 (by rfl) T.range (pa_cons (pe_ix (ix_K K) (zv 3) pe_int (fun _ _ => rfl)) pa_nil)) (blkOk_by (by kernel_rfl)) (fun _ _ _ _ _ => (pg_name (i := 5) sc_law_rows.nd rfl (Or.inl rfl))) (fun _ _ _ _ _ => pts_nil) (fun _ _ _ _ _ => (pe_joinK K pe_str (pe_lc (own := [("_law_k", 4)]) rfl sc_law_rows.nd (pi_range1 (by rfl) T.range (pa_cons (pe_ix (ix_K K) (zv 3) pe_int (fun _ _ => rfl)) pa_nil)) (blkOk_by (by kernel_rfl)) (fun _ _ _ _ _ => (pg_name (i := 4) sc_law_rows.nd rfl (Or.inl rfl))) (fun _ _ _ _ _ => pts_nil) (fun _ _ _ _ _ => (pe_ix (ix_K K) (zv 1) (pe_cg c_law_take hr gd (by decide) (by rfl) pass0 (pa_cons (zv 0) (pa_cons (pe_callB (call_lenK K) (by rfl) T.len (by decide +kernel) (pa_cons (zv 1) pa_nil)) pa_nil))) (fun _ _ => rfl))))))))))), ?_⟩
    try dsimp only [cxOf, Cx.nox]
    show (tSeq _ _) _ [some (.ref ω.b), some (.str sg), some (.int (M : Int)), none, none, none] _
    walk_at "zd"
    refine comp_rngD B wd (fun _ y _ => ∃ v : Int, y = .int v ∧ 1 ≤ v ∧ v ≤ (M : Int)) (fun _ _ _ _ _ h => h) 2 (by decide) (fun R r => r) ?_ ?_
    · intro i B1 H1 hi hB s1 w1 Q' q
      walk_at "zd"
      refine take_n w1.bag (by decide) (by decide) fun j1 H2 h2 g2 go2 => addI ?_
      refine take_n g2 (by omega) (by omega) fun j2 H3 h3 g3 go3 => addI ?_
      refine ⟨line5 (show 4 ≤ 100000 by decide), fun p hp => ?_⟩
      refine take_at (g3.same (same_new hp)) upd_same (bag_ne g3 hp) rfl (by decide) (by decide) fun x hx H4 g4 go4 => ?_
      refine q x H4 g4 (((go2.trans go3).trans (Go.of (same_new hp))).trans go4) ?_
      simp only [List.mem_cons, List.not_mem_nil, or_false] at hx
      rcases hx with rfl | rfl | rfl | rfl
      · exact ⟨_, rfl, by omega, by omega⟩
      · exact ⟨_, rfl, by omega, by omega⟩
      · exact ⟨_, rfl, by omega, by omega⟩
      · exact ⟨_, rfl, by omega, by omega⟩
    intro D acc H1 hD hl hP w1 go1 h1
    obtain ⟨y0, y1, rfl⟩ : ∃ y0 y1, acc = [y0, y1] := by
      match acc, hl with
      | [a, b], _ => exact ⟨a, b, rfl⟩
    obtain ⟨a, rfl, ha1, ha2⟩ := hP 0 y0 rfl
    obtain ⟨b, rfl, hb1, hb2⟩ := hP 1 y1 rfl
    clear hP
    obtain ⟨a, rfl⟩ := Int.eq_ofNat_of_zero_le (a := a) (by omega)
    walk_at "zd"
    refine ⟨fun σ' H' => ∃ b' : Nat, σ' = [some (.ref ω.b), some (.str sg), some (.int (M : Int)), some (.ref D), none, none] ∧ Bag K H' ω ∧ Go ω.b H H' ∧ H' D = some (.lst [.int a, .int b']) ∧ 1 ≤ b' ∧ b' ≤ M, ?_, ?_⟩
    · have nx : ∀ H', Bag K H' ω → Go ω.b H H' → H' D = some (.lst [.int a, .int b]) → ∃ b' : Nat, [some (V.ref ω.b), some (.str sg), some (.int (M : Int)), some (.ref D), none, none] = [some (V.ref ω.b), some (.str sg), some (.int (M : Int)), some (.ref D), none, none] ∧ Bag K H' ω ∧ Go ω.b H H' ∧ H' D = some (.lst [.int a, .int b']) ∧ 1 ≤ b' ∧ b' ≤ M := fun H' g go h => by
        obtain ⟨b, rfl⟩ := Int.eq_ofNat_of_zero_le (a := b) (by omega)
        exact ⟨b, rfl, g, go, h, by omega, by omega⟩
      have nD : D ≠ ω.b := bag_ne wd.bag hD
      walk_at "zd"
      refine ixL (sq_of h1) rfl (ixL (sq_of h1) rfl (mulI (.inl (.inr ⟨by omega, by omega⟩)) (gtI (iteD (fun _ => ?_) fun _ => nx _ w1.bag go1 h1))))
      refine take_n w1.bag (by decide) (by decide) fun j2 H2 h2 g2 go2 => gtI (iteD (fun _ => ?_) fun _ => nx _ g2 (go1.trans go2) (go2 _ _ nD h1))
      walk_at "zd"
      refine take_n g2 (by decide) (by decide) fun j3 H3 h3 g3 go3 => addI ?_
      have d3 : H3 D = some (.lst [.int a, .int b]) := go3 _ _ nD (go2 _ _ nD h1)
      refine ⟨_, d3, ⟨by decide, show (1 : Int) < 2 by decide⟩, ?_⟩
      refine ⟨1 + j3, rfl, bag_mut wd.bag hD g3, go_new ((go1.trans go2).trans go3) hD, ?_, by omega, by omega⟩
      rw [upd_same]
      rfl
    rintro σ' H2 ⟨b, rfl, g2, go2, d2, hb3, hb4⟩
    have w2 := wd.go g2 go2
    walk_at "zd"
    refine comp_rngD B w2 (fun _ y _ => RowOk Pc y a) (fun _ _ _ _ _ h => h) b (by omega) (fun R r => ixL (sq_of d2) rfl r) ?_ ?_
    · intro i B1 H3 hi hB s3 w3 Q' q
      walk_at "zd"
      have d3 : H3 D = some (.lst [.int a, .int b]) := hd_same _ _ _ _ (s3 _ _ (hd_of (wd.off hD) d2))
      refine ⟨⟨_, rfl⟩, comp_rngD B1 w3 (fun _ y _ => ∃ c, y = .str (one c) ∧ Pc c = true) (fun _ _ _ _ _ h => h) a (by omega) (fun R r => ixL (sq_of d3) rfl r) ?_ ?_⟩
      · intro i' B2 H4 hi' hB' s4 w4 Q2 q2
        walk_at "zd"
        refine lenS (line5 (by omega)) ?_
        refine take_n w4.bag (by omega) (by omega) fun j H5 h5 g5 go5 => ?_
        refine ixS (line5 (by omega)) (by omega) fun c hc => ?_
        exact q2 _ _ g5 go5 ⟨c, rfl, List.all_eq_true.mp hs3 c hc⟩
      · intro D2 acc H4 hD2 hl2 hP2 w4 go4 h4
        obtain ⟨cs, rfl, hcs⟩ := items_of (mk := fun c => V.str (one c)) (P := fun c => Pc c = true) (mem_of_get hP2)
        rw [List.length_map] at hl2
        have e : cs.map (fun c => V.str (one c)) = (cs.map one).map V.str := by rw [List.map_map]; rfl
        rw [e] at h4
        refine joinI (sq_of h4) (by rw [sum_ones]; show cs.length + (cs.map one).length * 0 ≤ _; omega) ?_
        rw [join_1s]
        refine q _ _ w4.bag go4 ⟨_, rfl, by rw [SX.S_len]; exact hl2, List.all_eq_true.mpr fun c m => ?_⟩
        exact hcs c (by simpa using m)
    · intro D2 acc H3 hD2 hl2 hP2 w3 go3 h3
      exact k D2 acc a H3 (free_go g2 go2 hD2) (by omega) (by omega) (by omega) (by omega) (mem_of_get hP2) h3 w3.bag (go2.trans go3)

/-! ### the box of what is no ground -/
/-- what stands outermost of what is no ground -/
structure Box (rows : List Str) (L R A B : Nat) : Prop where
  all : ∀ (j : Nat) z k, rows[j]? = some z → ng z k → A ≤ j ∧ j ≤ B ∧ L ≤ k ∧ k ≤ R
  l : ∃ (j : Nat) (z : Str), rows[j]? = some z ∧ ng z L
  r : ∃ (j : Nat) (z : Str), rows[j]? = some z ∧ ng z R
  a : ∃ z k, rows[A]? = some z ∧ ng z k
  b : ∃ z k, rows[B]? = some z ∧ ng z k
theorem Box.same {rows : List Str} {L R A B L' R' A' B' : Nat} (h : Box rows L R A B) (g : Box rows L' R' A' B') : L = L' ∧ R = R' ∧ A = A' ∧ B = B' := by
  obtain ⟨j1, z1, e1, n1⟩ := h.l
  obtain ⟨j2, z2, e2, n2⟩ := h.r
  obtain ⟨z3, k3, e3, n3⟩ := h.a
  obtain ⟨z4, k4, e4, n4⟩ := h.b
  obtain ⟨i1, y1, f1, m1⟩ := g.l
  obtain ⟨i2, y2, f2, m2⟩ := g.r
  obtain ⟨y3, l3, f3, m3⟩ := g.a
  obtain ⟨y4, l4, f4, m4⟩ := g.b
  have := g.all _ _ _ e1 n1
  have := g.all _ _ _ e2 n2
  have := g.all _ _ _ e3 n3
  have := g.all _ _ _ e4 n4
  have := h.all _ _ _ f1 m1
  have := h.all _ _ _ f2 m2
  have := h.all _ _ _ f3 m3
  have := h.all _ _ _ f4 m4
  omega
/-- the rows within -/
def boxR (rows : List Str) (L R A B : Nat) : List Str := ((rows.drop A).take (B + 1 - A)).map fun z => SX.S ((z.cps.toList.drop L).take (R + 1 - L))
/-- rows of one length -/
structure Even (rows : List Str) (w : Nat) : Prop where
  len : rows.length ≤ 100
  wid : w ≤ 100
  row : ∀ z ∈ rows, z.length = w
def spBox (K : PySem.W.Frag) : Sp := fun vs H Q _ => ∃ (p : Addr) (rows : List Str) (w : Nat), vs = [.ref p] ∧ SqL K H p (rows.map V.str) ∧ Even rows w ∧
  (∀ H', (∀ (j : Nat) z k, rows[j]? = some z → ¬ ng z k) → Same H H' → Q .non H') ∧
  ∀ (T D : Addr) (L R A B : Nat) (H' : Hp), Box rows L R A B → H T = none → H D = none → T ≠ D → Same H H' → H' T = some (.tup [.int L, .int A, .ref D]) → H' D = some (.lst ((boxR rows L R A B).map V.str)) → Q (.ref T) H'
/-! ### rows that are not all ground -/
def heldB (z : Str) : Bool := decide (Txt.stripChars z "." ≠ "")
theorem heldB_is {z : Str} : heldB z = true ↔ ∃ k, ng z k := by
  unfold heldB
  rw [decide_eq_true_iff, Ne, Z.strip_nil]
  exact ⟨fun h => Classical.byContradiction fun g => h fun k hk => g ⟨k, hk⟩, fun ⟨k, hk⟩ h => h k hk⟩
def held (rows : List Str) (i : Nat) : List Nat := (List.range i).filter fun j => match rows[j]? with
  | some z => heldB z
  | none => false
theorem held_step {rows : List Str} {i : Nat} {z : Str} (h : rows[i]? = some z) : held rows (i + 1) = held rows i ++ if heldB z = true then [i] else [] := by
  unfold held
  rw [List.range_succ, List.filter_append, List.filter_cons, List.filter_nil]
  simp only [h]
theorem held_mem {rows : List Str} {i j : Nat} : j ∈ held rows i ↔ j < i ∧ ∃ z, rows[j]? = some z ∧ heldB z = true := by
  unfold held
  rw [List.mem_filter, List.mem_range]
  refine and_congr_right fun _ => ?_
  cases rows[j]? with
  | none => simp
  | some z => simp
theorem held_rise (rows : List Str) (i : Nat) : (held rows i).Pairwise (· < ·) := List.Pairwise.filter _ List.pairwise_lt_range
theorem held_len (rows : List Str) (i : Nat) : (held rows i).length ≤ i := by
  unfold held
  refine Nat.le_trans (List.length_filter_le _ _) ?_
  rw [List.length_range]
  exact Nat.le_refl _
theorem eq_nilI {K : PySem.W.Frag} {f : Bool → Bool} {H : Hp} {Q : VK} {p q : Addr} {ns : List Int} (h1 : SqL K H p (ns.map V.int)) (h2 : SqL K H q []) (k : Q (.bl (f (decide (ns = [])))) H) : rEqZ K f (.ref p) (.ref q) H Q := by
  have dp : ∀ ns : List Int, DpAll K H (ns.map V.int) (ns.map PyData.int) := fun ns => by
    induction ns with
    | nil => exact .nil
    | cons n ns ih => exact .cons (.int n) ih
  have ly : ∀ ns : List Int, PyData.canLayAll0 (ns.map PyData.int) = true ∧ PyData.depthAll (ns.map PyData.int) = 0 := fun ns => by
    induction ns with
    | nil => exact ⟨by simp only [List.map_nil, PyData.canLayAll0], by simp only [List.map_nil, PyData.depthAll]⟩
    | cons n ns ih => exact ⟨by simp only [List.map_cons, PyData.canLayAll0, PyData.canLay0, ih.1, Bool.and_self], by simp only [List.map_cons, PyData.depthAll, PyData.depth, ih.2]; decide⟩
  refine ⟨.list (ns.map .int), .list [], .lst h1 (dp ns), .lst h2 .nil, ?_, by decide, ?_⟩
  · show (PyData.canLay0 (.list (ns.map .int)) && decide (PyData.depth (.list (ns.map .int)) ≤ 64)) = true
    rw [Bool.and_eq_true]
    refine ⟨by simp only [PyData.canLay0]; exact (ly ns).1, decide_eq_true ?_⟩
    simp only [PyData.depth, (ly ns).2]
    omega
  · have e : PyData.eqv (.list (ns.map .int)) (.list []) = decide (ns = []) := by cases ns <;> simp [PyData.eqv, PyData.eqvAll]
    rw [e]
    exact k
theorem ok_ground (T : Tx K mg) (F : FunD K "without_ground" "without_ground" (defArgs s_without_ground) (defBody s_without_ground) (defScope s_without_ground) [] [] f fd) : FnG P w K mg base CX0 1 f fd ["rows"] (spBox K) := by
  refine FnG.of F sc_without_ground (fun vs H Q E h => ?_) (fun cdv A outer s H vs Q E hr gd h => ?_)
  · obtain ⟨p, rows, w, rfl, _⟩ := h
    rfl
  · obtain ⟨p, rows, w, rfl, hS, hE, k0, k1⟩ := h
    have hu : (A.deeper (envOfC "without_ground" (defScope s_without_ground) s.heap.objs.size f cdv)).units + 64 < cLine := by have := hr.un; omega
    refine ⟨_, PSs.nox (pss_cons
    (ps_setLc (i := 1) (own := [("down", 5), ("row", 6)]) rfl sc_without_ground.nd rfl rfl (sw_true rfl rfl rfl (by decide +kernel)) (pi_enumK K (by rfl) T.enumerate (pa_cons (zv 0) pa_nil)) (blkOk_by (by kernel_rfl)) (fun _ _ _ _ _ => (pg_tupK K 2 (pgs_cons (pg_name (i := 5) sc_without_ground.nd rfl (Or.inl rfl)) (pgs_cons (pg_name (i := 6) sc_without_ground.nd rfl (Or.inl rfl)) pgs_nil)))) (fun _ _ _ _ _ => pts_one (pz_cmp (op_neK K hu) (pe_m1 PySem.F.slot_str_strip PySem.F.type_str_strip mt_stripChars (zv 6) (C8.pe_gc (by rfl) T.c_GROUND)) pe_str (nomark _))) (fun _ _ _ _ _ => (zv 5)))
    (pss_cons
    (ps_if (pz_cmp (op_eqK K hu) (zv 1) (pe_lst pa_nil) (nomark _))
      (pss_one
        (ps_ret pe_non))
      pss_nil)
    (pss_cons
    (ps_set (i := 2) sc_without_ground.nd rfl (Or.inl rfl) (pe_slice (sl_K K) (zv 0) (po_some (pe_ix (ix_K K) (zv 1) pe_int (fun _ _ => rfl))) (po_some (pe_op op_addZ (pe_ix (ix_K K) (zv 1) (pe_un un_negZ pe_int) (fun _ _ => rfl)) pe_int))))
    (pss_cons
    (ps_set (i := 3) sc_without_ground.nd rfl (Or.inr rfl) (pe_callB (call_minK K) (by rfl) T.min (by decide +kernel) (pa_cons (pe_lc (own := [("row", 6)]) rfl sc_without_ground.nd (pi_listK K (zv 2)) (blkOk_by (by kernel_rfl)) (fun _ _ _ _ _ => (pg_name (i := 6) sc_without_ground.nd rfl (Or.inl rfl))) (fun _ _ _ _ _ => pts_nil) (fun _ _ _ _ _ => (pe_op op_subZ (pe_callB (call_lenK K) (by rfl) T.len (by decide +kernel) (pa_cons (zv 6) pa_nil)) (pe_callB (call_lenK K) (by rfl) T.len (by decide +kernel) (pa_cons (pe_m1 PySem.F.slot_str_lstrip PySem.F.type_str_lstrip mt_lstripChars (zv 6) (C8.pe_gc (by rfl) T.c_GROUND)) pa_nil))))) pa_nil)))
    (pss_cons
    (ps_set (i := 4) sc_without_ground.nd rfl (Or.inr rfl) (pe_callB (call_maxK K) (by rfl) T.max (by decide +kernel) (pa_cons (pe_lc (own := [("row", 6)]) rfl sc_without_ground.nd (pi_listK K (zv 2)) (blkOk_by (by kernel_rfl)) (fun _ _ _ _ _ => (pg_name (i := 6) sc_without_ground.nd rfl (Or.inl rfl))) (fun _ _ _ _ _ => pts_nil) (fun _ _ _ _ _ => (pe_callB (call_lenK K) (by rfl) T.len (by decide +kernel) (pa_cons (pe_m1 PySem.F.slot_str_rstrip PySem.F.type_str_rstrip mt_rstripChars (zv 6) (C8.pe_gc (by rfl) T.c_GROUND)) pa_nil)))) pa_nil)))
    (pss_one
    (ps_ret (pe_tup (pa_cons (zv 3) (pa_cons (pe_ix (ix_K K) (zv 1) pe_int (fun _ _ => rfl)) (pa_cons (pe_lc (own := [("row", 6)]) rfl sc_without_ground.nd (pi_listK K (zv 2)) (blkOk_by (by kernel_rfl)) (fun _ _ _ _ _ => (pg_name (i := 6) sc_without_ground.nd rfl (Or.inl rfl))) (fun _ _ _ _ _ => pts_nil) (fun _ _ _ _ _ => (pe_slice (sl_K K) (zv 6) (po_some (zv 3)) (po_some (zv 4))))) pa_nil))))))))))), ?_⟩
    try dsimp only [cxOf, Cx.nox]
    show (tSeq _ _) _ [some (.ref p), none, none, none, none, none, none] _
    walk_at "zd"
    have hrl := hE.len
    refine ⟨p, rows.map V.str, rfl, hS, fun D hD => ⟨fun i m H' => m = rows.length - i ∧ i ≤ rows.length ∧ Same H H' ∧ H' D = some (.lst ((held rows i).map fun j : Nat => V.int (j : Int))), ⟨rows.length, by simp, Nat.zero_le _, same_new hD, upd_same⟩, ?_⟩⟩
    rintro i m H1 ⟨rfl, hi, s1, d1⟩
    by_cases hlt : i < rows.length
    · have hri : (rows.map V.str)[i]? = some (.str rows[i]) := by rw [List.getElem?_map, List.getElem?_eq_getElem hlt]; rfl
      refine .inr ⟨⟨rows.map .str, .str rows[i], s1.seq hS, hri⟩, fun H' => Same H H' ∧ H' D = some (.lst ((held rows (i + 1)).map fun j : Nat => V.int (j : Int))), fun H' q => ⟨rows.length - (i + 1), by omega, rfl, hlt, q⟩, fun v H2 yl => ?_⟩
      obtain ⟨T2, xv, rfl, hT, rfl, hx⟩ := yl
      have hxv := hx _ (s1.seq hS)
      rw [hri] at hxv
      cases hxv
      have hw := hE.row rows[i] (List.getElem_mem hlt)
      have hww := hE.wid
      rw [held_step (List.getElem?_eq_getElem hlt)]
      generalize rows[i] = z at hw ⊢
      have hl := held_len rows i
      have s2 := same_new (o := .tup [.int (i : Nat), .str z]) hT
      refine gpair rfl upd_same ⟨rfl, ?_⟩
      walk_at "zd"
      refine ⟨⟨_, rfl⟩, ⟨z, ".", rfl, rfl, line5 (by omega), eqS (iteN (fun e => ?_) fun e => ?_)⟩⟩
      · have hb : heldB z = true := decide_eq_true (of_decide_eq_false e)
        rw [if_pos hb]
        refine ⟨_, s2 _ _ d1, small5 (by rw [List.length_map]; omega), same_mut (s1.trans s2) hD, ?_⟩
        rw [upd_same, List.map_append]
        rfl
      · have hb : heldB z = false := decide_eq_false (fun g => g (of_decide_eq_true e))
        rw [if_neg (by rw [hb]; exact Bool.false_ne_true), List.append_nil]
        exact ⟨s1.trans s2, s2 _ _ d1⟩
    have ei : i = rows.length := by omega
    subst ei
    refine .inl ⟨⟨rows.map .str, s1.seq hS, by rw [List.length_map]; exact Nat.le_refl _⟩, ?_⟩
    clear hlt
    have hm := @held_mem rows rows.length
    have hrise := held_rise rows rows.length
    generalize held rows rows.length = hs at d1 hm hrise
    have d1' : H1 D = some (.lst ((hs.map fun j : Nat => (j : Int)).map V.int)) := by rw [d1, List.map_map]; rfl
    refine ⟨line5 (show 0 ≤ 100000 by decide), fun N hN => ?_⟩
    have sN := same_new (o := .lst []) hN
    refine eq_nilI (sq_of (sN _ _ d1')) (sq_of upd_same) (iteD (fun e => ?_) fun e => ?_)
    · refine k0 _ (fun j z k hj hk => ?_) (s1.trans sN)
      have : j ∈ hs := hm.mpr ⟨(List.getElem?_eq_some_iff.mp hj).1, z, hj, heldB_is.mpr ⟨k, hk⟩⟩
      rw [List.map_eq_nil_iff.mp e] at this
      cases this
    have hne : hs ≠ [] := fun g => e (by rw [g]; rfl)
    obtain ⟨A, t, eh⟩ : ∃ A t, hs = A :: t := by
      cases hs with
      | nil => exact absurd rfl hne
      | cons a t => exact ⟨a, t, rfl⟩
    obtain ⟨l0, B, eh2⟩ : ∃ l0 B, hs = l0 ++ [B] := ⟨hs.dropLast, hs.getLast hne, (List.dropLast_concat_getLast hne).symm⟩
    have hA : ∀ j ∈ hs, A ≤ j := fun j q => by
      rw [eh] at q hrise
      rcases List.mem_cons.mp q with rfl | q
      · exact Nat.le_refl _
      · exact Nat.le_of_lt ((List.pairwise_cons.mp hrise).1 j q)
    have hB : ∀ j ∈ hs, j ≤ B := fun j q => by
      rw [eh2] at q hrise
      rcases List.mem_append.mp q with q | q
      · exact Nat.le_of_lt ((List.pairwise_append.mp hrise).2.2 j q B (List.mem_singleton.mpr rfl))
      · rw [List.mem_singleton.mp q]
        exact Nat.le_refl _
    have mA : A ∈ hs := by rw [eh]; exact List.mem_cons_self
    have mB : B ∈ hs := by rw [eh2]; exact List.mem_append_right _ (List.mem_singleton.mpr rfl)
    have hAB := hA B mB
    obtain ⟨lA, zA, eA, hbA⟩ := hm.mp mA
    obtain ⟨lB, zB, eB, hbB⟩ := hm.mp mB
    obtain ⟨kA, nA⟩ := heldB_is.mp hbA
    obtain ⟨kB, nB⟩ := heldB_is.mp hbB
    have s3 := s1.trans sN
    have d3 := sN _ _ d1
    revert s3 d3
    generalize upd H1 N (.lst []) = H3
    intro s3 d3
    refine ixN (j := 0) (sq_of d3) (v := .int A) (by rw [eh]; rfl) ⟨_, rfl, ?_⟩
    refine ixL (sq_of d3) (v := .int B) (by rw [eh2, List.map_append]; exact atI_last _ _) (addI ⟨_, rfl, slL (s3.seq hS) fun q hq => ?_⟩)
    have hcut : cutV (rows.map V.str) (some (A : Int)) (some ((B : Int) + 1)) = (((rows.drop A).take (B + 1 - A)).map V.str) := by
      have z := cut_mid (rows.map V.str) A (B + 1) (by rw [List.length_map]; omega)
      rw [List.map_take, List.map_drop]
      exact z
    rw [hcut]
    generalize ek : (rows.drop A).take (B + 1 - A) = kept
    have kin : ∀ z ∈ kept, z ∈ rows := fun z m => by
      rw [← ek] at m
      exact List.mem_of_mem_drop (List.mem_of_mem_take m)
    have kof : ∀ (j : Nat) z, rows[j]? = some z → A ≤ j → j ≤ B → z ∈ kept := fun j z hj h1 h2 => by
      rw [← ek]
      have : ((rows.drop A).take (B + 1 - A))[j - A]? = some z := by
        rw [List.getElem?_take_of_lt (by omega), List.getElem?_drop]
        rw [← hj]
        congr 1
        omega
      exact List.mem_of_getElem? this
    have klen : kept.length ≤ 100 := by
      rw [← ek, List.length_take, List.length_drop]
      omega
    have hww := hE.wid
    have s4 := s3.trans (same_new (o := .lst (kept.map V.str)) hq)
    have d4 := same_new (o := .lst (kept.map V.str)) hq _ _ d3
    have q4 : upd H3 q (.lst (kept.map V.str)) q = some (.lst (kept.map V.str)) := upd_same
    revert s4 d4 q4
    generalize upd H3 q (.lst (kept.map V.str)) = H4
    intro s4 d4 q4
    -- the least of what is left out to the left
    refine comp_list (a := q) (xs := kept.map V.str) (fun v => match v with
      | .str z => .int (loG z : Int)
      | v => v) (fun R r => r H4 (Same.refl _) (sq_of q4)) (by rw [List.length_map]; omega) ?_ fun D1 H5 hD1 s5 e5 => ?_
    · intro y hy H' s' Q' qq
      obtain ⟨z, hz, rfl⟩ := List.mem_map.mp hy
      have hzl := hE.row z (kin z hz)
      walk_at "zd"
      have h1 := lstrip_len z
      have h2 := (lo_spec z).2.1
      refine lenS (line5 (by omega)) ⟨⟨_, rfl⟩, ⟨z, ".", rfl, rfl, line5 (by omega), lenS (line5 (by omega)) ?_⟩⟩
      have e : (z.length : Int) - ((Txt.lstripChars z ".").length : Int) = (loG z : Int) := by omega
      dsimp only
      rw [e]
      exact qq H' (Same.refl _)
    have e5' : H5 D1 = some (.lst ((kept.map fun z => (loG z : Int)).map V.int)) := by rw [e5, List.map_map, List.map_map]; rfl
    have zAk : zA ∈ kept := kof A zA eA (Nat.le_refl _) hAB
    refine ⟨D1, _, rfl, sq_of e5', by rw [List.length_map]; exact List.length_pos_of_mem zAk, fun m hm1 hm2 => ?_⟩
    obtain ⟨z1, hz1, rfl⟩ := List.mem_map.mp hm1
    have hL : ∀ z ∈ kept, loG z1 ≤ loG z := fun z m => by
      have := hm2 _ (List.mem_map.mpr ⟨z, m, rfl⟩)
      omega
    walk_at "zd"
    have q5 := s5 _ _ q4
    refine comp_list (a := q) (xs := kept.map V.str) (fun v => match v with
      | .str z => .int (hiG z : Int)
      | v => v) (fun R r => r H5 (Same.refl _) (sq_of q5)) (by rw [List.length_map]; omega) ?_ fun D2 H6 hD2 s6 e6 => ?_
    · intro y hy H' s' Q' qq
      obtain ⟨z, hz, rfl⟩ := List.mem_map.mp hy
      have hzl := hE.row z (kin z hz)
      walk_at "zd"
      have h1 := rstrip_len z
      have h2 := (hi_spec z).2.1
      refine ⟨⟨_, rfl⟩, ⟨z, ".", rfl, rfl, line5 (by omega), lenS (line5 (by omega)) ?_⟩⟩
      rw [h1]
      exact qq H' (Same.refl _)
    have e6' : H6 D2 = some (.lst ((kept.map fun z => (hiG z : Int)).map V.int)) := by rw [e6, List.map_map, List.map_map]; rfl
    refine ⟨D2, _, rfl, sq_of e6', by rw [List.length_map]; exact List.length_pos_of_mem zAk, fun m hm3 hm4 => ?_⟩
    obtain ⟨z2, hz2, rfl⟩ := List.mem_map.mp hm3
    have hR : ∀ z ∈ kept, hiG z ≤ hiG z2 := fun z m => by
      have := hm4 _ (List.mem_map.mpr ⟨z, m, rfl⟩)
      omega
    walk_at "zd"
    have s46 := s5.trans s6
    have q6 := s46 _ _ q4
    refine ixN (j := 0) (sq_of (s46 _ _ d4)) (v := .int A) (by rw [eh]; rfl) ?_
    have hlA := (lo_spec zA).1 kA nA
    have hrA := (hi_spec zA).1 kA nA
    have hwA := hE.row zA (kin zA zAk)
    have hkA := ng_lt nA
    have hLA := hL zA zAk
    have hRA := hR zA zAk
    have hw1 := hE.row z1 (kin z1 hz1)
    have hw2 := hE.row z2 (kin z2 hz2)
    have hi2 := (hi_spec z2).2.1
    refine comp_list (a := q) (xs := kept.map V.str) (fun v => match v with
      | .str z => .str (SX.S ((z.cps.toList.drop (loG z1)).take (hiG z2 - loG z1)))
      | v => v) (fun R r => r H6 (Same.refl _) (sq_of q6)) (by rw [List.length_map]; omega) ?_ fun D3 H7 hD3 s7 e7 => ?_
    · intro y hy H' s' Q' qq
      obtain ⟨z, hz, rfl⟩ := List.mem_map.mp hy
      have hzl := hE.row z (kin z hz)
      walk_at "zd"
      refine ⟨_, rfl, _, rfl, ⟨line5 (by omega), ?_⟩⟩
      have e := mid_S z (i := loG z1) (j := hiG z2) (by omega) (by omega)
      rw [e]
      exact qq H' (Same.refl _)
    refine ⟨line5 (show 3 ≤ 100000 by decide), fun T2 hT2 => ?_⟩
    have s8 := same_new (o := .tup [.int (loG z1), .int A, .ref D3]) hT2
    have nT : T2 ≠ D3 := fun g => by
      rw [g, e7] at hT2
      cases hT2
    refine k1 T2 D3 (loG z1) (hiG z2 - 1) A B _ ⟨fun j z k hj hk => ?_, ?_, ?_, ⟨zA, kA, eA, nA⟩, ⟨zB, kB, eB, nB⟩⟩ ((s4.trans (s46.trans s7)).free hT2) ((s4.trans s46).free hD3) nT ((s4.trans (s46.trans s7)).trans s8) upd_same ?_
    · have mj : j ∈ hs := hm.mpr ⟨(List.getElem?_eq_some_iff.mp hj).1, z, hj, heldB_is.mpr ⟨k, hk⟩⟩
      have zk := kof j z hj (hA j mj) (hB j mj)
      have h1 := hL z zk
      have h2 := hR z zk
      have h3 := (lo_spec z).1 k hk
      have h4 := (hi_spec z).1 k hk
      exact ⟨hA j mj, hB j mj, by omega, by omega⟩
    · obtain ⟨j, hj⟩ := List.getElem?_of_mem (kin z1 hz1)
      exact ⟨j, z1, hj, (lo_spec z1).2.2 (by omega)⟩
    · obtain ⟨j, hj⟩ := List.getElem?_of_mem (kin z2 hz2)
      exact ⟨j, z2, hj, (hi_spec z2).2.2 (by omega)⟩
    · rw [s8 _ _ e7]
      unfold boxR
      rw [ek, List.map_map, List.map_map]
      have e : hiG z2 - 1 + 1 - loG z1 = hiG z2 - loG z1 := by omega
      rw [e]
      rfl

/-! ### trimmed, and the law's own trimming -/
def sgS : Str := ".abcdefghijklmnopqrstuvwxyz"
/-- what a trimming leaves: none, or the box -/
structure Trm (H : Hp) (Q : VK) (rows : List Str) : Prop where
  none : ∀ H', (∀ (j : Nat) z k, rows[j]? = some z → ¬ ng z k) → Same H H' → Q .non H'
  some : ∀ (T D : Addr) (L R A B : Nat) (H' : Hp), Box rows L R A B → H T = .none → H D = .none → T ≠ D → Same H H' → H' T = .some (.tup [.int L, .int A, .ref D]) → H' D = .some (.lst ((boxR rows L R A B).map V.str)) → Q (.ref T) H'
theorem Trm.same {H H1 : Hp} {Q : VK} {rows : List Str} (t : Trm H Q rows) (s : Same H H1) : Trm H1 Q rows := ⟨fun H' a b => t.none H' a (s.trans b), fun T D L R A B H' a b c d e f g => t.some T D L R A B H' a (s.free b) (s.free c) d (s.trans e) f g⟩
def spTrim (K : PySem.W.Frag) : Sp := fun vs H Q _ => ∃ (p : Addr) (rows : List Str) (w : Nat), vs = [.ref p] ∧ SqL K H p (rows.map V.str) ∧ Even rows w ∧ isRows sgS 32 (.list (rows.map .str)) = true ∧ Trm H Q rows
theorem even_wt {rows : List Str} {w : Nat} (h : Even rows w) : PyData.weight (.list (rows.map .str)) ≤ 20000 := by
  have h1 := rows_wt (rows := rows) (m := 100) fun z q => by rw [h.row z q]; exact h.wid
  have h2 : rows.length * (100 + 1) ≤ 100 * 101 := Nat.mul_le_mul_right _ h.len
  simp only [PyData.weight]
  omega
theorem seq_inj {xs ys : List Str} (h : xs.map V.str = ys.map V.str) : xs = ys := by
  induction xs generalizing ys with
  | nil => cases ys with
    | nil => rfl
    | cons y ys => cases h
  | cons x xs ih => cases ys with
    | nil => cases h
    | cons y ys =>
      simp only [List.map_cons, List.cons.injEq, V.str.injEq] at h
      rw [h.1, ih h.2]
theorem ok_trimmed (T : Tx K mg) (c_is_picture : Cg P w K mg base CX0 3 "is_picture" (spPic K ".abcdefghijklmnopqrstuvwxyz")) (c_refuse_wrong : Cr P w K mg base CX0 1 "refuse_wrong" spRef) (c_without_ground : Cg P w K mg base CX0 1 "without_ground" (spBox K))
    (F : FunD K "trimmed" "trimmed" (defArgs s_trimmed) (defBody s_trimmed) (defScope s_trimmed) [] [] f fd) : FnG P w K mg base CX0 4 f fd ["picture"] (spTrim K) := by
  refine FnG.of F sc_trimmed (fun vs H Q E h => ?_) (fun cdv A outer s H vs Q E hr gd h => ?_)
  · obtain ⟨p, rows, w, rfl, _⟩ := h
    rfl
  · obtain ⟨p, rows, w, rfl, hS, hE, hP, t⟩ := h
    have hu : (A.deeper (envOfC "trimmed" (defScope s_trimmed) s.heap.objs.size f cdv)).units + 64 < cLine := by have := hr.un; omega
    refine ⟨_, PSs.nox (pss_cons
    (ps_expr (pe_cr c_refuse_wrong hr (by decide) (by rfl) pass0 (pa_cons (pe_cg c_is_picture hr gd (by decide) (by rfl) pass0 (pa_cons (zv 0) pa_nil)) pa_nil)))
    (pss_one
    (ps_ret (pe_cg c_without_ground hr gd (by decide) (by rfl) pass0 (pa_cons (zv 0) pa_nil))))), ?_⟩
    try dsimp only [cxOf, Cx.nox]
    show (tSeq _ _) _ [some (.ref p)] _
    walk_at "zd"
    refine ⟨.ref p, _, rfl, .lst hS (ThA.strs rows), even_wt hE, fun H1 s1 => ⟨?_, by show 1 ≤ _; decide, fun H2 s2 => ?_⟩⟩
    · intro v hv
      rw [List.mem_singleton.mp hv]
      exact congrArg V.bl hP
    have t2 := t.same (s1.trans s2)
    exact ⟨p, rows, w, rfl, (s1.trans s2).seq hS, hE, t2.none, t2.some⟩

/-! ### turned -/
def atS (z : Str) (x : Nat) : Nat := z.cps.toList.getD x 0
def cell (rows : List Str) (x y : Nat) : Nat := atS (rows.getD y "") x
structure Mx (rows : List Str) (h w : Nat) : Prop where
  len : rows.length = h
  row : ∀ z ∈ rows, z.length = w
/-- a quarter to the right -/
def rightR (rows : List Str) (w : Nat) : List Str := (List.range w).map fun i => SX.S (rows.reverse.map fun z => atS z i)
theorem walk_Z {n : Nat} {col : Nat → List V} : Walk (JZ n col) n (fun _ => True) (fun i H v H' => ∃ T, v = .ref T ∧ H T = none ∧ H' = upd H T (.tup (col i))) :=
  ⟨fun _ _ hi _ => hi, fun _ _ => Nat.le_refl _, fun _ _ _ _ _ _ y => y⟩
def rightUp (rows : List Str) (i : Nat) : List Str := (List.range i).map fun i => SX.S (rows.reverse.map fun z => atS z i)
theorem rightUp_step (rows : List Str) (i : Nat) : rightUp rows (i + 1) = rightUp rows i ++ [SX.S (rows.reverse.map fun z => atS z i)] := by
  unfold rightUp
  rw [List.range_succ, List.map_append]
  rfl
def spRight (K : PySem.W.Frag) : Sp := fun vs H Q _ => ∃ (p : Addr) (rows : List Str) (h w : Nat), vs = [.ref p] ∧ SqL K H p (rows.map V.str) ∧ Mx rows h w ∧ 1 ≤ h ∧ h ≤ 100 ∧ w ≤ 100 ∧
  ∀ (D : Addr) (H' : Hp), H D = none → Same H H' → H' D = some (.lst ((rightR rows w).map V.str)) → Q (.ref D) H'
theorem ok_right (T : Tx K mg) (F : FunD K "_turned_right" "_turned_right" (defArgs s_turned_right) (defBody s_turned_right) (defScope s_turned_right) [] [] f fd) : FnG P w K mg base CX0 1 f fd ["rows"] (spRight K) := by
  refine FnG.of F sc_turned_right (fun vs H Q E h => ?_) (fun cdv A outer s H vs Q E hr gd h => ?_)
  · obtain ⟨p, rows, h, w, rfl, _⟩ := h
    rfl
  · obtain ⟨p, rows, h, w, rfl, hS, hM, hh1, hh2, hw, k⟩ := h
    have hu : (A.deeper (envOfC "_turned_right" (defScope s_turned_right) s.heap.objs.size f cdv)).units + 64 < cLine := by have := hr.un; omega
    refine ⟨_, PSs.nox (pss_cons
    (ps_set (i := 1) sc_turned_right.nd rfl (Or.inl rfl) (pe_revL2 K (zv 0)))
    (pss_one
    (ps_ret (pe_lc (own := [("column", 2)]) rfl sc_turned_right.nd (pi_zipS K (by rfl) T.zip (zv 1)) (blkOk_by (by kernel_rfl)) (fun _ _ _ _ _ => (pg_name (i := 2) sc_turned_right.nd rfl (Or.inl rfl))) (fun _ _ _ _ _ => pts_nil) (fun _ _ _ _ _ => (pe_joinK K pe_str (zv 2))))))), ?_⟩
    try dsimp only [cxOf, Cx.nox]
    show (tSeq _ _) _ [some (.ref p), none, none] _
    walk_at "zd"
    refine ⟨p, rows.map V.str, rfl, hS, fun q hq => ?_⟩
    have er : (rows.map V.str).reverse = rows.reverse.map V.str := List.map_reverse.symm
    rw [er]
    have s1 := same_new (o := .lst (rows.reverse.map V.str)) hq
    have e1 : upd H q (.lst (rows.reverse.map V.str)) q = some (.lst (rows.reverse.map V.str)) := upd_same
    revert s1 e1
    generalize upd H q (.lst (rows.reverse.map V.str)) = H1
    intro s1 e1
    have hl := hM.len
    refine ⟨q, rows.reverse, w, rfl, sq_of e1, fun e => ?_, by rw [List.length_reverse]; omega, fun z m => hM.row z (List.mem_reverse.mp m), fun D hD => ?_⟩
    · rw [List.reverse_eq_nil_iff.mp e] at hl
      simp at hl
      omega
    refine lc_it walk_Z (fun i H' => Same H1 H' ∧ H' D = some (.lst ((rightUp rows i).map V.str))) ⟨same_new hD, upd_same⟩ (fun _ _ _ _ => trivial) ?_ ?_
    · rintro i x H2 H3 hi ⟨s2, d2⟩ ⟨T2, rfl, hT, rfl⟩
      refine ⟨rfl, ?_⟩
      dsimp only [tYes]
      rw [if_pos rfl]
      have ec : colV rows.reverse i = ((rows.reverse.map fun z => atS z i).map one).map V.str := by
        unfold colV
        rw [List.map_map, List.map_map]
        rfl
      have lcs : (rows.reverse.map fun z => atS z i).length = h := by rw [List.length_map, List.length_reverse, hl]
      have s3 := same_new (o := .tup (colV rows.reverse i)) hT
      refine ⟨⟨_, rfl⟩, ⟨(rows.reverse.map fun z => atS z i).map one, .inr (st_of (by rw [upd_same, ec])), by rw [sum_ones, lcs]; show h + _ * 0 ≤ _; omega, ?_⟩⟩
      rw [join_1s]
      refine ⟨_, s3 _ _ d2, ?_, same_mut (s2.trans s3) hD, ?_⟩
      · rw [List.length_map]
        unfold rightUp
        rw [List.length_map, List.length_range]
        exact small5 (by omega)
      · rw [upd_same, rightUp_step, List.map_append]
        rfl
    · rintro H' ⟨s2, d2⟩
      exact k D H' (s1.free hD) (s1.trans s2) d2
/-! ### rows turned by a way -/
def turns : Nat → List Str → Nat → Nat → List Str
  | 0, rows, _, _ => rows
  | n + 1, rows, h, w => turns n (rightR rows w) w h
def mirror (rows : List Str) (way : Nat) : List Str := if 4 ≤ way then rows.map revS else rows
def byWay (rows : List Str) (way h w : Nat) : List Str := turns (way % 4) (mirror rows way) h w
theorem rev_len (z : Str) : (revS z).length = z.length := by
  unfold revS
  rw [SX.S_len, List.length_reverse, str_len]
theorem Mx.mirror {rows : List Str} {h w : Nat} (m : Mx rows h w) (way : Nat) : Mx (mirror rows way) h w := by
  unfold Lw.mirror
  split
  · refine ⟨by rw [List.length_map]; exact m.len, fun z q => ?_⟩
    obtain ⟨y, hy, rfl⟩ := List.mem_map.mp q
    rw [rev_len]
    exact m.row y hy
  · exact m
theorem Mx.right {rows : List Str} {h w : Nat} (m : Mx rows h w) : Mx (rightR rows w) w h := by
  refine ⟨by unfold rightR; rw [List.length_map, List.length_range], fun z q => ?_⟩
  unfold rightR at q
  obtain ⟨i, _, rfl⟩ := List.mem_map.mp q
  rw [SX.S_len, List.length_map, List.length_reverse, m.len]
def spTurn (K : PySem.W.Frag) : Sp := fun vs H Q _ => ∃ (p : Addr) (rows : List Str) (h w way : Nat), vs = [.ref p, .int way] ∧ SqL K H p (rows.map V.str) ∧ Mx rows h w ∧ 1 ≤ h ∧ h ≤ 100 ∧ 1 ≤ w ∧ w ≤ 100 ∧ way < 8 ∧
  ∀ (D : Addr) (H' : Hp), H D = none → Same H H' → H' D = some (.lst ((byWay rows way h w).map V.str)) → Q (.ref D) H'
theorem ok_rturned (T : Tx K mg) (c_turned_right : Cg P w K mg base CX0 1 "_turned_right" (spRight K)) (F : FunD K "rows_turned" "rows_turned" (defArgs s_rows_turned) (defBody s_rows_turned) (defScope s_rows_turned) [] [] f fd) : FnG P w K mg base CX0 2 f fd ["rows", "way"] (spTurn K) := by
  refine FnG.of F sc_rows_turned (fun vs H Q E h => ?_) (fun cdv A outer s H vs Q E hr gd h => ?_)
  · obtain ⟨p, rows, h, w, way, rfl, _⟩ := h
    rfl
  · obtain ⟨p, rows, h, w, way, rfl, hS, hM, hh1, hh2, hw1, hw2, hway, k⟩ := h
    have hu : (A.deeper (envOfC "rows_turned" (defScope s_rows_turned) s.heap.objs.size f cdv)).units + 64 < cLine := by have := hr.un; omega
    refine ⟨_, PSs.nox (pss_cons
    (ps_set (i := 0) sc_rows_turned.nd rfl (Or.inl rfl) (pe_callTy (call_listK K) (by rfl) T.list (by decide +kernel) (pa_cons (zv 0) pa_nil)))
    (C8.pss_cut
    (ps_if (pz_cmp op_geZ (zv 1) (C8.pe_gc (by rfl) T.c_MIRRORED) (nomark _))
      (pss_one
        (ps_setLc (i := 0) (own := [("row", 3)]) rfl sc_rows_turned.nd rfl rfl (sw_true rfl rfl rfl (by decide +kernel)) (pi_listK K (zv 0)) (blkOk_by (by kernel_rfl)) (fun _ _ _ _ _ => (pg_name (i := 3) sc_rows_turned.nd rfl (Or.inl rfl))) (fun _ _ _ _ _ => pts_nil) (fun _ _ _ _ _ => (pe_revS (zv 3)))))
      pss_nil)
    (pss_cons
    (ps_for PassesOwn.never rfl (pi_range1 (by rfl) T.range (pa_cons (pe_op op_modZ (zv 1) (C8.pe_gc (by rfl) T.c_MIRRORED)) pa_nil)) (pg_name (i := 2) sc_rows_turned.nd rfl (Or.inl rfl))
      (pss_one
        (ps_set (i := 0) sc_rows_turned.nd rfl (Or.inl rfl) (pe_cg c_turned_right hr gd (by decide) (by rfl) pass0 (pa_cons (zv 0) pa_nil)))))
    (pss_one
    (ps_ret (zv 0)))))), ?_⟩
    try dsimp only [cxOf, Cx.nox]
    show (tSeq _ _) _ [some (.ref p), some (.int way), none, none] _
    walk_at "zd"
    have hl := hM.len
    refine ⟨_, .inl (hS), fun q hq => ?_⟩
    refine ⟨fun σ' H' => ∃ q s2 s3, σ' = [some (.ref q), some (.int way), s2, s3] ∧ Same H H' ∧ H q = none ∧ H' q = some (.lst ((mirror rows way).map V.str)), ?_, ?_⟩
    · have s1 := same_new (o := .lst (rows.map V.str)) hq
      have e1 : upd H q (.lst (rows.map V.str)) q = some (.lst (rows.map V.str)) := upd_same
      revert s1 e1
      generalize upd H q (.lst (rows.map V.str)) = H1
      intro s1 e1
      refine ifS_at (decide (4 ≤ (way : Int))) (fun R r => by walk_at "zd"; exact geI r) (fun e => ?_) fun e => ?_
      · walk_at "zd"
        have e4 : 4 ≤ way := by
          have := of_decide_eq_true e
          omega
        refine comp_list (a := q) (xs := rows.map V.str) (fun v => match v with
          | .str z => .str (revS z)
          | v => v) (fun R r => r H1 (Same.refl _) (sq_of e1)) (by rw [List.length_map]; omega) ?_ fun D H2 hD s2 e2 => ?_
        · intro y hy H' s' Q' qq
          obtain ⟨z, hz, rfl⟩ := List.mem_map.mp hy
          have hzl := hM.row z hz
          refine ⟨z, rfl, line5 (by omega), qq H' (Same.refl _)⟩
        refine ⟨D, _, _, rfl, s1.trans s2, s1.free hD, ?_⟩
        rw [e2]
        unfold mirror
        rw [if_pos e4, List.map_map, List.map_map]
        rfl
      · walk_at "zd"
        have e4 : ¬ 4 ≤ way := by
          have := of_decide_eq_false e
          omega
        refine ⟨q, _, _, rfl, s1, hq, ?_⟩
        unfold mirror
        rw [if_neg e4]
        exact e1
    rintro σ' H2 ⟨q, s2, s3, rfl, s2', hq2, e2⟩
    walk_at "zd"
    refine for_rng ?_
    walk_at "zd"
    have em : (way : Int) % 4 = ((way % 4 : Nat) : Int) := by omega
    refine ⟨by decide, ?_⟩
    rw [em]
    refine ⟨_, rfl, by omega, by omega, ?_⟩
    rw [Int.toNat_natCast]
    refine for_range (fun i σ H' => ∃ q rows' h' w' s2 s3, σ = [some (.ref q), some (.int way), s2, s3] ∧ Same H H' ∧ H q = none ∧ H' q = some (.lst (rows'.map V.str)) ∧ Mx rows' h' w' ∧ (1 ≤ h' ∧ h' ≤ 100 ∧ 1 ≤ w' ∧ w' ≤ 100) ∧ i ≤ way % 4 ∧ turns (way % 4 - i) rows' h' w' = byWay rows way h w)
      ⟨q, _, h, w, _, _, rfl, s2', hq2, e2, hM.mirror way, ⟨hh1, hh2, hw1, hw2⟩, Nat.zero_le _, rfl⟩ ?_ ?_
    · rintro i σ H3 hi ⟨q, rows', h', w', s2, s3, rfl, s3', hq3, e3, hM', ⟨b1, b2, b3, b4⟩, hi', et⟩
      walk_at "zd"
      refine ⟨q, rows', h', w', rfl, sq_of e3, hM', b1, b2, b4, fun D H4 hD s4 e4 => ?_⟩
      refine ⟨D, _, w', h', _, _, rfl, s3'.trans s4, s3'.free hD, e4, hM'.right, ⟨b3, b4, b1, b2⟩, hi, ?_⟩
      rw [← et]
      have e : way % 4 - i = (way % 4 - (i + 1)) + 1 := by omega
      rw [e]
      rfl
    · rintro σ H3 ⟨q, rows', h', w', s2, s3, rfl, s3', hq3, e3, hM', _, _, et⟩
      walk_at "zd"
      rw [Nat.sub_self] at et
      have et' : rows' = byWay rows way h w := et
      rw [et'] at e3
      exact k q H3 hq3 s3' e3

/-! ### turned, where nothing is wrong -/
theorem rows_wt2 {rows : List Str} {m : Nat} (h : ∀ z ∈ rows, z.length ≤ m) : PyData.weightAll (rows.map .str) ≤ rows.length * (m + 1) := by
  induction rows with
  | nil => simp [PyData.weightAll]
  | cons z rows ih =>
    have h1 := ih fun y q => h y (List.mem_cons_of_mem _ q)
    have h2 : z.cps.size ≤ m := h z List.mem_cons_self
    simp only [List.map_cons, PyData.weightAll, PyData.weight, List.length_cons, Nat.add_mul]
    omega
def spWay (K : PySem.W.Frag) : Sp := fun vs H Q _ => ∃ way : Nat, vs = [.int way] ∧ way < 8 ∧ Q (.bl true) H
theorem ok_way (T : Tx K mg) (c_is_from_to : Cg P w K mg base CX0 2 "is_from_to" (spFrom K)) (F : FunD K "is_way" "is_way" (defArgs s_is_way) (defBody s_is_way) (defScope s_is_way) [] [] f fd) : FnG P w K mg base CX0 3 f fd ["thing"] (spWay K) := by
  refine FnG.of F sc_is_way (fun vs H Q E h => ?_) (fun cdv A outer s H vs Q E hr gd h => ?_)
  · obtain ⟨i, rfl, _⟩ := h
    rfl
  · obtain ⟨i, rfl, hi, k⟩ := h
    have hu : (A.deeper (envOfC "is_way" (defScope s_is_way) s.heap.objs.size f cdv)).units + 64 < cLine := by have := hr.un; omega
    refine ⟨_, PSs.nox (pss_one
    (ps_ret (pe_cg c_is_from_to hr gd (by decide) (by rfl) pass0 (pa_cons (zv 0) (pa_cons pe_int (pa_cons pe_int pa_nil)))))), ?_⟩
    try dsimp only [cxOf, Cx.nox]
    show (tRet _) _ [some (.int i)] _
    walk_at "zd"
    refine ⟨i, 0, 7, rfl, ?_⟩
    have h1 : (0 : Int) ≤ i := by omega
    have h2 : (i : Int) ≤ 7 := by omega
    rw [decide_eq_true h1, decide_eq_true h2]
    exact k
def spTurned (K : PySem.W.Frag) : Sp := fun vs H Q _ => ∃ (p : Addr) (rows : List Str) (h w way : Nat), vs = [.ref p, .int way] ∧ SqL K H p (rows.map V.str) ∧ Mx rows h w ∧ 1 ≤ h ∧ h ≤ 32 ∧ 1 ≤ w ∧ w ≤ 32 ∧
  (∀ z ∈ rows, z.cps.toList.all (inSg (".abcdefghijklmnopqrstuvwxyz" ++ "_")) = true) ∧ way < 8 ∧
  ∀ (D : Addr) (H' : Hp), H D = none → Same H H' → H' D = some (.lst ((byWay rows way h w).map V.str)) → Q (.ref D) H'
theorem ok_turned (T : Tx K mg) (c_is_piece : Cg P w K mg base CX0 3 "is_piece" (spPic K (".abcdefghijklmnopqrstuvwxyz" ++ "_"))) (c_is_way : Cg P w K mg base CX0 3 "is_way" (spWay K)) (c_refuse_wrong : Cr P w K mg base CX0 1 "refuse_wrong" spRef)
    (c_rows_turned : Cg P w K mg base CX0 2 "rows_turned" (spTurn K)) (F : FunD K "turned" "turned" (defArgs s_turned) (defBody s_turned) (defScope s_turned) [] [] f fd) : FnG P w K mg base CX0 4 f fd ["piece", "way"] (spTurned K) := by
  refine FnG.of F sc_turned (fun vs H Q E h => ?_) (fun cdv A outer s H vs Q E hr gd h => ?_)
  · obtain ⟨p, rows, h, w, way, rfl, _⟩ := h
    rfl
  · obtain ⟨p, rows, h, w, way, rfl, hS, hM, hh1, hh2, hw1, hw2, hsg, hway, k⟩ := h
    have hu : (A.deeper (envOfC "turned" (defScope s_turned) s.heap.objs.size f cdv)).units + 64 < cLine := by have := hr.un; omega
    refine ⟨_, PSs.nox (pss_cons
    (ps_expr (pe_cr c_refuse_wrong hr (by decide) (by rfl) pass0 (pa_cons (pe_cg c_is_piece hr gd (by decide) (by rfl) pass0 (pa_cons (zv 0) pa_nil)) (pa_cons (pe_cg c_is_way hr gd (by decide) (by rfl) pass0 (pa_cons (zv 1) pa_nil)) pa_nil))))
    (pss_one
    (ps_ret (pe_cg c_rows_turned hr gd (by decide) (by rfl) pass0 (pa_cons (zv 0) (pa_cons (zv 1) pa_nil)))))), ?_⟩
    try dsimp only [cxOf, Cx.nox]
    show (tSeq _ _) _ [some (.ref p), some (.int way)] _
    walk_at "zd"
    have hl := hM.len
    have hP : isRows (".abcdefghijklmnopqrstuvwxyz" ++ "_") 32 (.list (rows.map .str)) = true := isRows_of (by omega) (by omega) hw1 hw2 fun z m => ⟨hM.row z m, hsg z m⟩
    have hw : PyData.weight (.list (rows.map .str)) ≤ 20000 := by
      have h1 := rows_wt2 (rows := rows) (m := 32) fun z m => by rw [hM.row z m]; omega
      have h2 : rows.length * (32 + 1) ≤ 32 * 33 := Nat.mul_le_mul_right _ (by omega)
      simp only [PyData.weight]
      omega
    refine ⟨.ref p, _, rfl, .lst hS (ThA.strs rows), hw, fun H1 s1 => ?_⟩
    refine ⟨way, rfl, hway, ⟨?_, by show 2 ≤ _; decide, fun H2 s2 => ?_⟩⟩
    · intro v hv
      rw [hP] at hv
      simp only [List.mem_cons, List.not_mem_nil, or_false] at hv
      rcases hv with rfl | rfl <;> rfl
    have s12 := s1.trans s2
    refine ⟨p, rows, h, w, way, rfl, s12.seq hS, hM, hh1, by omega, hw1, by omega, hway, fun D H3 hD s3 e3 => ?_⟩
    exact k D H3 (s12.free hD) (s12.trans s3) e3

/-! ### the law goes back, quarter by quarter -/
def dw (n h w : Nat) : Nat := if n % 2 = 0 then w else h
theorem dw_swap (n h w : Nat) : dw n w h = dw (n + 1) h w := by
  unfold dw
  by_cases e : n % 2 = 0
  · rw [if_pos e, if_neg (by omega)]
  · rw [if_neg e, if_pos (by omega)]
theorem turns_succ (n : Nat) : ∀ (rows : List Str) (h w : Nat), turns (n + 1) rows h w = rightR (turns n rows h w) (dw n h w) := by
  induction n with
  | zero => intro rows h w; rfl
  | succ n ih =>
    intro rows h w
    show turns (n + 1) (rightR rows w) w h = _
    rw [ih (rightR rows w) w h, dw_swap]
    rfl
theorem turns_mx (n : Nat) : ∀ {rows : List Str} {h w : Nat}, Mx rows h w → Mx (turns n rows h w) (dw (n + 1) h w) (dw n h w) := by
  induction n with
  | zero => intro rows h w m; exact m
  | succ n ih =>
    intro rows h w m
    have := ih m.right
    rw [dw_swap n, dw_swap (n + 1)] at this
    exact this
theorem atS_S {l : List Nat} {x : Nat} : atS (SX.S l) x = l.getD x 0 := rfl
theorem cell_right {rows : List Str} {h w x y : Nat} (m : Mx rows h w) (hy : y < w) (hx : x < h) : cell (rightR rows w) x y = cell rows y (h - 1 - x) := by
  have hl := m.len
  unfold cell rightR
  have e1 : ((List.range w).map fun i => SX.S (rows.reverse.map fun z => atS z i)).getD y "" = SX.S (rows.reverse.map fun z => atS z y) := by
    rw [List.getD_eq_getElem?_getD, List.getElem?_map, List.getElem?_range hy]
    rfl
  rw [e1, atS_S, List.getD_eq_getElem?_getD, List.getElem?_map, List.getElem?_reverse (by omega), List.getD_eq_getElem?_getD, hl]
  have : h - 1 - x < rows.length := by omega
  rw [List.getElem?_eq_getElem this]
  rfl
theorem cell_mirror {rows : List Str} {h w x y way : Nat} (m : Mx rows h w) (hy : y < h) (hx : x < w) (hw : 4 ≤ way) : cell (mirror rows way) x y = cell rows (w - 1 - x) y := by
  have hl := m.len
  unfold cell mirror
  have hy' : y < rows.length := by omega
  have hr := m.row _ (List.getElem_mem hy')
  rw [if_pos hw, List.getD_eq_getElem?_getD, List.getElem?_map, List.getD_eq_getElem?_getD, List.getElem?_eq_getElem hy']
  show atS (revS rows[y]) x = atS rows[y] _
  have e : (rows[y]).cps.toList.length = w := by rw [← hr, str_len]
  unfold atS revS
  show (List.reverse _).getD x 0 = _
  rw [List.getD_eq_getElem?_getD, List.getElem?_reverse (by omega), List.getD_eq_getElem?_getD, e]
theorem by_cells {rows : List Str} {h w : Nat} (m : Mx rows h w) : (List.range h).map (fun y => SX.S ((List.range w).map fun x => cell rows x y)) = rows := by
  have hl := m.len
  refine List.ext_getElem (by rw [List.length_map, List.length_range, hl]) fun i h1 h2 => ?_
  rw [List.getElem_map, List.getElem_range]
  have hr := m.row _ (List.getElem_mem h2)
  have er : rows.getD i "" = rows[i] := by rw [List.getD_eq_getElem?_getD, List.getElem?_eq_getElem h2]; rfl
  have e : (List.range w).map (fun x => cell rows x i) = rows[i].cps.toList := by
    refine List.ext_getElem (by rw [List.length_map, List.length_range, ← hr, str_len]) fun j h3 h4 => ?_
    rw [List.getElem_map, List.getElem_range]
    unfold cell atS
    rw [er, List.getD_eq_getElem?_getD, List.getElem?_eq_getElem h4]
    rfl
  rw [e]

/-! ### good rows -/
def Sg (rows : List Str) : Prop := ∀ z ∈ rows, z.cps.toList.all (inSg sgP) = true
theorem Sg.right {rows : List Str} {h w : Nat} (m : Mx rows h w) (s : Sg rows) : Sg (rightR rows w) := by
  intro z q
  unfold rightR at q
  obtain ⟨i, hi, rfl⟩ := List.mem_map.mp q
  have hi := List.mem_range.mp hi
  refine List.all_eq_true.mpr fun c hc => ?_
  have hc' : c ∈ rows.reverse.map fun z => atS z i := by simpa using hc
  obtain ⟨y, hy, rfl⟩ := List.mem_map.mp hc'
  have hy := List.mem_reverse.mp hy
  have hl : i < y.cps.toList.length := by rw [str_len, m.row y hy]; exact hi
  have e : atS y i = y.cps.toList[i] := by
    unfold atS
    rw [List.getD_eq_getElem?_getD, List.getElem?_eq_getElem hl]
    rfl
  rw [e]
  exact List.all_eq_true.mp (s y hy) _ (List.getElem_mem hl)
theorem Sg.mirror {rows : List Str} (s : Sg rows) (way : Nat) : Sg (mirror rows way) := by
  unfold Lw.mirror
  split
  · intro z q
    obtain ⟨y, hy, rfl⟩ := List.mem_map.mp q
    refine List.all_eq_true.mpr fun c hc => ?_
    have hc' : c ∈ y.cps.toList.reverse := by
      unfold revS at hc
      simpa using hc
    exact List.all_eq_true.mp (s y hy) c (List.mem_reverse.mp hc')
  · exact s
theorem Sg.turns (n : Nat) : ∀ {rows : List Str} {h w : Nat}, Mx rows h w → Sg rows → Sg (turns n rows h w) := by
  induction n with
  | zero => intro rows h w _ s; exact s
  | succ n ih => intro rows h w m s; exact ih m.right (s.right m)
structure Good (rows : List Str) (h w : Nat) : Prop where
  mx : Mx rows h w
  h1 : 1 ≤ h
  h2 : h ≤ 32
  w1 : 1 ≤ w
  w2 : w ≤ 32
  sg : Sg rows
theorem Good.ok {rows : List Str} {h w : Nat} (g : Good rows h w) : ∀ x ∈ rows, okS x = true := fun x q => okT_okS (sgP_ok (g.sg x q))
theorem Good.okW {rows : List Str} {h w : Nat} (g : Good rows h w) (way : Nat) : ∀ x ∈ byWay rows way h w, okS x = true := fun x q => okT_okS (sgP_ok (Sg.turns (way % 4) (g.mx.mirror way) (g.sg.mirror way) x q))

/-! ### ways put together -/
def thenW (a b : Nat) : Nat := (if (4 ≤ a ↔ 4 ≤ b) then 0 else 4) + (if 4 ≤ b then b + 4 - a % 4 else a + b) % 4
def backW (a : Nat) : Nat := if 4 ≤ a then a else (4 - a) % 4
theorem mx_ext {a b : List Str} {h w : Nat} (m1 : Mx a h w) (m2 : Mx b h w) (e : ∀ x y, x < w → y < h → cell a x y = cell b x y) : a = b := by
  rw [← by_cells m1, ← by_cells m2]
  refine List.map_congr_left fun y hy => ?_
  congr 1
  exact List.map_congr_left fun x hx => e x y (List.mem_range.mp hx) (List.mem_range.mp hy)
theorem right2 {rows : List Str} {h w x y : Nat} (m : Mx rows h w) (hx : x < w) (hy : y < h) : cell (rightR (rightR rows w) h) x y = cell rows (w - 1 - x) (h - 1 - y) := by
  rw [cell_right m.right hy hx, cell_right m (by omega) hy]
theorem right4 {rows : List Str} {h w : Nat} (m : Mx rows h w) : rightR (rightR (rightR (rightR rows w) h) w) h = rows := by
  have m2 : Mx (rightR (rightR rows w) h) h w := m.right.right
  refine mx_ext m2.right.right m fun x y hx hy => ?_
  rw [right2 m2 hx hy, right2 m (by omega) (by omega)]
  congr 1 <;> omega
def mir (rows : List Str) : List Str := rows.map revS
theorem Mx.mir {rows : List Str} {h w : Nat} (m : Mx rows h w) : Mx (mir rows) h w := m.mirror 4
theorem cell_mir {rows : List Str} {h w x y : Nat} (m : Mx rows h w) (hx : x < w) (hy : y < h) : cell (mir rows) x y = cell rows (w - 1 - x) y := cell_mirror (way := 4) m hy hx (Nat.le_refl _)
theorem mir_mir {rows : List Str} {h w : Nat} (m : Mx rows h w) : mir (mir rows) = rows := by
  refine mx_ext m.mir.mir m fun x y hx hy => ?_
  rw [cell_mir m.mir hx hy, cell_mir m (by omega) hy]
  congr 1
  omega
theorem mir_right {rows : List Str} {h w : Nat} (m : Mx rows h w) : mir (rightR rows w) = rightR (rightR (rightR (mir rows) w) h) w := by
  have m1 := m.mir
  have m2 : Mx (rightR (rightR (mir rows) w) h) h w := m1.right.right
  refine mx_ext m.right.mir m2.right fun x y hx hy => ?_
  rw [cell_mir m.right hx hy, cell_right m hy (by omega), cell_right m2 hy hx, right2 m1 hy (by omega), cell_mir m (by omega) (by omega)]
  congr 1 <;> omega
theorem turns_add (n : Nat) : ∀ (k : Nat) (rows : List Str) (h w : Nat), turns (k + n) rows h w = turns n (turns k rows h w) (dw (k + 1) h w) (dw k h w) := by
  intro k
  induction k with
  | zero => intro rows h w; rw [Nat.zero_add]; rfl
  | succ k ih =>
    intro rows h w
    have e : k + 1 + n = (k + n) + 1 := by omega
    rw [e]
    show turns (k + n) (rightR rows w) w h = turns n (turns k (rightR rows w) w h) _ _
    rw [ih (rightR rows w) w h, dw_swap k h w, dw_swap (k + 1) h w]
theorem turns_4 {rows : List Str} {h w : Nat} (m : Mx rows h w) (n : Nat) : turns (4 + n) rows h w = turns n rows h w := by
  rw [turns_add n 4 rows h w]
  show turns n (rightR (rightR (rightR (rightR rows w) h) w) h) h w = _
  rw [right4 m]
theorem turns_mod {rows : List Str} {h w : Nat} (m : Mx rows h w) (n : Nat) : turns n rows h w = turns (n % 4) rows h w := by
  induction n using Nat.strongRecOn with
  | _ n ih =>
    by_cases c : n < 4
    · rw [Nat.mod_eq_of_lt c]
    · have e : n = 4 + (n - 4) := by omega
      have e2 : n % 4 = (n - 4) % 4 := by omega
      rw [e2, ← ih (n - 4) (by omega)]
      conv => lhs; rw [e]
      exact turns_4 m _
theorem mir_turns (n : Nat) : ∀ {rows : List Str} {h w : Nat}, Mx rows h w → mir (turns n rows h w) = turns (3 * n) (mir rows) h w := by
  induction n with
  | zero => intro rows h w m; rfl
  | succ n ih =>
    intro rows h w m
    show mir (turns n (rightR rows w) w h) = _
    rw [ih m.right, mir_right m]
    have e : 3 * (n + 1) = 3 + 3 * n := by omega
    rw [e, turns_add (3 * n) 3 (mir rows) h w]
    rfl
theorem mirror_is (rows : List Str) (way : Nat) : mirror rows way = if 4 ≤ way then mir rows else rows := rfl
theorem dw_mod (n h w : Nat) : dw (n % 4) h w = dw n h w := by
  unfold dw
  have e : n % 4 % 2 = n % 2 := by omega
  rw [e]
theorem dw_mod1 (n h w : Nat) : dw (n % 4 + 1) h w = dw (n + 1) h w := by
  unfold dw
  have e : (n % 4 + 1) % 2 = (n + 1) % 2 := by omega
  rw [e]
theorem then_flag (a b : Nat) : 4 ≤ thenW a b ↔ ¬ (4 ≤ a ↔ 4 ≤ b) := by
  unfold thenW
  by_cases e : (4 ≤ a ↔ 4 ≤ b)
  · rw [if_pos e]
    refine ⟨fun q => ?_, fun q => absurd e q⟩
    split at q <;> omega
  · rw [if_neg e]
    exact ⟨fun _ => e, fun _ => by omega⟩
theorem then_way {rows : List Str} {h w a b : Nat} (m : Mx rows h w) (ha : a < 8) (hb : b < 8) : byWay (byWay rows a h w) b (dw (a + 1) h w) (dw a h w) = byWay rows (thenW a b) h w := by
  have ma := m.mirror a
  have mt := m.mirror (thenW a b)
  unfold byWay
  rw [mirror_is (turns _ _ _ _) b]
  have ed : ∀ n (X : List Str), turns n (turns (a % 4) X h w) (dw (a + 1) h w) (dw a h w) = turns (a % 4 + n) X h w := fun n X => by
    rw [turns_add n (a % 4) X h w, dw_mod, dw_mod1]
  by_cases c : 4 ≤ b
  · rw [if_pos c, mir_turns _ ma]
    have e1 : mir (mirror rows a) = mirror rows (thenW a b) := by
      rw [mirror_is, mirror_is]
      by_cases d : 4 ≤ a
      · rw [if_pos d, if_neg (fun q => (then_flag a b).mp q ⟨fun _ => c, fun _ => d⟩)]
        exact mir_mir m
      · rw [if_neg d, if_pos ((then_flag a b).mpr fun q => d (q.mpr c))]
    rw [e1]
    have e2 : turns (3 * (a % 4)) (mirror rows (thenW a b)) h w = turns ((3 * (a % 4)) % 4) (mirror rows (thenW a b)) h w := turns_mod mt _
    have e3 : ∀ n, turns n (turns (3 * (a % 4)) (mirror rows (thenW a b)) h w) (dw (a + 1) h w) (dw a h w) = turns (3 * (a % 4) + n) (mirror rows (thenW a b)) h w := fun n => by
      rw [turns_add n (3 * (a % 4))]
      have p1 : dw (3 * (a % 4)) h w = dw a h w := by
        unfold dw
        have e : 3 * (a % 4) % 2 = a % 2 := by omega
        rw [e]
      have p2 : dw (3 * (a % 4) + 1) h w = dw (a + 1) h w := by
        unfold dw
        have e : (3 * (a % 4) + 1) % 2 = (a + 1) % 2 := by omega
        rw [e]
      rw [p1, p2]
    rw [e3, turns_mod mt]
    congr 1
    unfold thenW
    rw [if_pos c]
    split <;> omega
  · rw [if_neg c, ed, turns_mod ma]
    have e1 : mirror rows a = mirror rows (thenW a b) := by
      rw [mirror_is, mirror_is]
      by_cases d : 4 ≤ a
      · rw [if_pos d, if_pos ((then_flag a b).mpr fun q => c (q.mp d))]
      · rw [if_neg d, if_neg (fun q => (then_flag a b).mp q ⟨fun q => absurd q d, fun q => absurd q c⟩)]
    rw [e1]
    congr 1
    unfold thenW
    rw [if_neg c]
    split <;> omega
theorem then_lt (a b : Nat) : thenW a b < 8 := by
  unfold thenW
  split <;> split <;> omega
theorem back_lt {a : Nat} (h : a < 8) : backW a < 8 := by
  unfold backW
  split <;> omega
theorem way0 (rows : List Str) (h w : Nat) : byWay rows 0 h w = rows := rfl
theorem then_alg : ∀ a b c : _root_.Fin 8, thenW (thenW a b) c = thenW a (thenW b c) := by decide +kernel
theorem back_alg : ∀ a b : _root_.Fin 8, backW (backW a) = a ∧ thenW a (backW a) = 0 ∧ thenW (backW a) a = 0 ∧ thenW 0 a = a ∧ thenW a 0 = a ∧ backW (thenW a b) = thenW (backW b) (backW a) := by decide +kernel

def spBack (K : PySem.W.Frag) : Sp := fun vs H Q _ => ∃ a : Nat, vs = [.int a] ∧ a < 8 ∧ ∀ H', Same H H' → Q (.int (backW a : Nat)) H'
theorem ok_back (T : Tx K mg) (c_is_way : Cg P w K mg base CX0 3 "is_way" (spWay K)) (c_refuse_wrong : Cr P w K mg base CX0 1 "refuse_wrong" spRef) (F : FunD K "back_of" "back_of" (defArgs s_back_of) (defBody s_back_of) (defScope s_back_of) [] [] f fd) : FnG P w K mg base CX0 4 f fd ["way"] (spBack K) := by
  refine FnG.of F sc_back_of (fun vs H Q E h => ?_) (fun cdv A outer s H vs Q E hr gd h => ?_)
  · obtain ⟨a, rfl, _⟩ := h
    rfl
  · obtain ⟨a, rfl, ha, k⟩ := h
    have hu : (A.deeper (envOfC "back_of" (defScope s_back_of) s.heap.objs.size f cdv)).units + 64 < cLine := by have := hr.un; omega
    refine ⟨_, PSs.nox (pss_cons
    (ps_expr (pe_cr c_refuse_wrong hr (by decide) (by rfl) pass0 (pa_cons (pe_cg c_is_way hr gd (by decide) (by rfl) pass0 (pa_cons (zv 0) pa_nil)) pa_nil)))
    (pss_one
    (ps_ret (pe_ifExp (pz_cmp op_geZ (zv 0) (C8.pe_gc (by rfl) T.c_MIRRORED) (nomark _)) (zv 0) (pe_op op_modZ (pe_un un_negZ (zv 0)) (C8.pe_gc (by rfl) T.c_MIRRORED)))))), ?_⟩
    try dsimp only [cxOf, Cx.nox]
    show (tSeq _ _) _ [some (.int a)] _
    walk_at "zd"
    refine ⟨a, rfl, ha, ⟨fun v hv => ?_, by show 1 ≤ _; decide, fun H2 s2 => ?_⟩⟩
    · simp only [List.mem_cons, List.not_mem_nil, or_false] at hv
      rw [hv]
    have kk := k H2 s2
    refine geI (iteD (fun c => ?_) fun c => ?_)
    · have e : backW a = a := by unfold backW; rw [if_pos (by omega)]
      rw [e] at kk
      exact kk
    · refine ⟨by decide, ?_⟩
      have e : (-(a : Int)) % 4 = (backW a : Nat) := by unfold backW; rw [if_neg (by omega)]; omega
      rw [e]
      exact kk

/-! ### pieces written -/
abbrev sgA : Str := (".abcdefghijklmnopqrstuvwxyz" : Str) ++ ("_" : Str)
theorem sgA_is : sgA = sgP := by decide
structure Pce (rows : List Str) (m : Nat) : Prop where
  l1 : 1 ≤ rows.length
  l2 : rows.length ≤ 32
  m1 : 1 ≤ m
  m2 : m ≤ 32
  row : ∀ z ∈ rows, z.length = m ∧ z.cps.toList.all (inSg sgP) = true
theorem Pce.is {rows : List Str} {m : Nat} (g : Pce rows m) : isRows sgA 32 (.list (rows.map .str)) = true := by
  rw [sgA_is]
  exact isRows_of g.l1 g.l2 g.m1 g.m2 g.row
theorem strs_weight {rows : List Str} {m : Nat} (h : ∀ z ∈ rows, z.length ≤ m) : PyData.weightAll (rows.map .str) ≤ rows.length * (m + 1) := by
  induction rows with
  | nil => simp [PyData.weightAll]
  | cons z rows ih =>
    have h1 := ih fun y q => h y (List.mem_cons_of_mem _ q)
    have h2 : z.cps.size ≤ m := h z List.mem_cons_self
    simp only [List.map_cons, PyData.weightAll, PyData.weight, List.length_cons, Nat.add_mul]
    omega
theorem Pce.weight {rows : List Str} {m : Nat} (g : Pce rows m) : PyData.weight (.list (rows.map .str)) ≤ 20000 := by
  have h1 := strs_weight (rows := rows) (m := 32) fun z q => by
    rw [(g.row z q).1]
    exact g.m2
  have h2 : rows.length * (32 + 1) ≤ 32 * 33 := Nat.mul_le_mul_right _ g.l2
  simp only [PyData.weight]
  omega
theorem Pce.ok {rows : List Str} {m : Nat} (g : Pce rows m) : ∀ x ∈ rows, okS x = true := fun x q => okT_okS (sgP_ok (g.row x q).2)
def spShow (K : PySem.W.Frag) : Sp := fun vs H Q _ => ∃ (p : Addr) (rows : List Str) (m : Nat), vs = [.ref p] ∧ SqL K H p (rows.map V.str) ∧ Pce rows m ∧ ∀ H', Same H H' → Q (.str (Txt.join "/" rows)) H'
theorem len_sum {n : Nat} : ∀ {l : List Str}, (∀ z ∈ l, z.length = n) → (l.map (·.length)).sum = l.length * n
  | [], _ => by simp
  | z :: l, h => by
    rw [List.map_cons, List.sum_cons, h z List.mem_cons_self, len_sum (fun y q => h y (List.mem_cons_of_mem _ q)), List.length_cons, Nat.add_mul]
    omega
theorem ok_show (T : Tx K mg) (c_is_piece : Cg P w K mg base CX0 3 "is_piece" (spPic K sgA)) (c_refuse_wrong : Cr P w K mg base CX0 1 "refuse_wrong" spRef) (F : FunD K "show_piece" "show_piece" (defArgs s_show_piece) (defBody s_show_piece) (defScope s_show_piece) [] [] f fd) : FnG P w K mg base CX0 4 f fd ["piece"] (spShow K) := by
  refine FnG.of F sc_show_piece (fun vs H Q E h => ?_) (fun cdv A outer s H vs Q E hr gd h => ?_)
  · obtain ⟨p, rows, m, rfl, _⟩ := h
    rfl
  · obtain ⟨p, rows, m, rfl, hS, g, k⟩ := h
    have hu : (A.deeper (envOfC "show_piece" (defScope s_show_piece) s.heap.objs.size f cdv)).units + 64 < cLine := by have := hr.un; omega
    refine ⟨_, PSs.nox (pss_cons
    (ps_expr (pe_cr c_refuse_wrong hr (by decide) (by rfl) pass0 (pa_cons (pe_cg c_is_piece hr gd (by decide) (by rfl) pass0 (pa_cons (zv 0) pa_nil)) pa_nil)))
    (pss_one
    (ps_ret (pe_joinK K pe_str (zv 0))))), ?_⟩
    try dsimp only [cxOf, Cx.nox]
    show (tSeq _ _) _ [some (.ref p)] _
    walk_at "zd"
    refine ⟨.ref p, _, rfl, .lst hS (ThA.strs rows), g.weight, fun H1 s1 => ⟨fun v hv => ?_, by show 1 ≤ _; decide, fun H2 s2 => ?_⟩⟩
    · rw [g.is] at hv
      rw [List.mem_singleton] at hv
      exact hv
    have s12 := s1.trans s2
    refine ⟨⟨_, rfl⟩, joinI (s12.seq hS) ?_ (k H2 s12)⟩
    rw [len_sum fun z q => (g.row z q).1]
    have h1 : rows.length * m ≤ 32 * 32 := Nat.mul_le_mul g.l2 g.m2
    have h2 : rows.length * ("/" : Str).length ≤ 32 * 1 := Nat.mul_le_mul g.l2 (Nat.le_refl 1)
    omega
/-! ### pieces read -/
/-- a text's parts between the strokes -/
abbrev parts (z : Str) : List Str := cutAt 47 z
def reads (z : Str) : Bool := isRows sgA 32 (.list ((parts z).map .str))
theorem parts_weight (z : Str) : PyData.weight (.list ((parts z).map .str)) ≤ 2 * z.length + 2 := by
  have e := cut_sum 47 z.cps.toList []
  have w : ∀ l : List (List Nat), PyData.weightAll ((l.map SX.S).map .str) = (l.map List.length).sum + l.length := by
    intro l
    induction l with
    | nil => rfl
    | cons r l ih =>
      simp only [List.map_cons, PyData.weightAll, PyData.weight, List.sum_cons, List.length_cons, ih]
      have : (SX.S r).cps.size = r.length := by
        have := SX.S_len r
        exact this
      rw [this]
      omega
  simp only [PyData.weight]
  unfold parts cutAt
  rw [w, e, str_len]
  simp only [List.length_nil]
  omega
theorem parts_len (z : Str) : (parts z).length ≤ z.length + 1 := by
  unfold parts cutAt
  rw [List.length_map]
  have := cut_len 47 z.cps.toList []
  rwa [str_len] at this
/-- what is no text, or no piece's text, is refused -/
def spRead (K : PySem.W.Frag) : Sp := fun vs H Q E => ∃ (v : V) (d : PyData), vs = [v] ∧ Th K H v d ∧ (∀ z, d = .str z → z.length ≤ 9990) ∧
  (∀ z, d = .str z → reads z = true → ∀ (p : Addr) (H' : Hp), H p = none → Same H H' → H' p = some (.lst ((parts z).map V.str)) → Q (.ref p) H') ∧
  ((∀ z, d = .str z → reads z = false) → ∀ H', Same H H' → E (.ref (He.ga K "NoText")) none H')
theorem ok_read (T : Tx K mg) (c_is_piece : Cg P w K mg base CX0 3 "is_piece" (spPic K sgA)) (F : FunD K "read_piece" "read_piece" (defArgs s_read_piece) (defBody s_read_piece) (defScope s_read_piece) [] [] f fd) : FnG P w K mg base (L2.CX P w) 4 f fd ["text"] (spRead K) := by
  refine FnG.of F sc_read_piece (fun vs H Q E h => ?_) (fun cdv A outer s H vs Q E hr gd h => ?_)
  · obtain ⟨v, d, rfl, _⟩ := h
    rfl
  · obtain ⟨v, d, rfl, hv, hz, k1, k2⟩ := h
    have hu : (A.deeper (envOfC "read_piece" (defScope s_read_piece) s.heap.objs.size f cdv)).units + 64 < cLine := by have := hr.un; omega
    refine ⟨_, (pss_cons
    (ps_set (i := 1) sc_read_piece.nd rfl (Or.inl rfl) (pe_ifExp (pz_val (pe_callB (call_isiK K) (by rfl) T.isinstance (by decide +kernel) (pa_cons (zv 0) (pa_cons (pe_bltn (v := .ty "str") (by rfl) T.str (by decide +kernel) rfl) pa_nil)))) (pe_split (zv 0) pe_str) (pe_lst pa_nil)))
    (pss_cons
    (ps_if (pt_not (pz_val (pe_cg c_is_piece hr gd (by decide) (by rfl) pass0 (pa_cons (zv 1) pa_nil))))
      (pss_one
        (ps_raise rfl (takes_of rfl rfl rfl rfl) (pmk_0 (T.x.f "NoText" (by decide)) (T.x.q "NoText" (by decide)) (T.x.g "NoText" (by decide)) (by rfl))))
      pss_nil)
    (pss_one
    (ps_ret (zv 1))))), ?_⟩
    try dsimp only [cxOf]
    show (tSeq _ _) _ [some v, none] _
    walk_at "zd"
    refine isi_str hv (iteB (fun e => ?_) fun e => ?_)
    · obtain ⟨z, rfl, rfl⟩ := th_str hv e
      have hl := hz z rfl
      refine ⟨⟨_, rfl⟩, z, "/", rfl, rfl, by decide, by rw [sizeLine_eq]; omega, fun p hp => ?_⟩
      rw [split_cut (s := 47) (by decide) (by decide)]
      have s1 := same_new (o := .lst ((parts z).map V.str)) hp
      have e1 : upd H p (.lst ((parts z).map V.str)) p = some (.lst ((parts z).map V.str)) := upd_same
      revert s1 e1
      generalize upd H p (.lst ((parts z).map V.str)) = H1
      intro s1 e1
      walk_at "zd"
      refine ⟨.ref p, _, rfl, .lst (sq_of e1) (ThA.strs (parts z)), Nat.le_trans (parts_weight z) (by omega), fun H2 s2 => ?_⟩
      refine iteN (fun q => ?_) fun q => ?_
      · exact k2 (fun y hy => by cases hy; exact q) H2 (s1.trans s2)
      · exact k1 z rfl q p H2 hp (s1.trans s2) (s2 _ _ e1)
    · refine ⟨line5 (Nat.zero_le _), fun p hp => ?_⟩
      walk_at "zd"
      refine ⟨.ref p, .list [], rfl, .lst (sq_of upd_same) .nil, by simp [PyData.weight, PyData.weightAll], fun H2 s2 => ?_⟩
      refine iteN (fun _ => k2 (fun z hd => by rw [hd] at e; cases e) H2 ((same_new hp).trans s2)) fun q => ?_
      have : isRows sgA 32 (.list []) = false := by decide
      rw [this] at q
      cases q

/-! ### the spots of a piece, turned -/
def spD (x y : Int) (c : Nat) : PyData := .tuple [.int x, .int y, .str (one c)]
theorem mem_enumD {α β : Type} {f : α → Nat → List β} {l : List α} {d : β} : d ∈ enumD f l ↔ ∃ k a, l[k]? = some a ∧ d ∈ f a k := by
  refine ⟨fun h => ?_, fun ⟨k, a, e, h⟩ => enumD_in e h⟩
  obtain ⟨L, hL, hd⟩ := List.mem_flatten.mp h
  obtain ⟨⟨a, k⟩, hp, rfl⟩ := List.mem_map.mp hL
  exact ⟨k, a, List.mem_zipIdx_iff_getElem?.mp hp, hd⟩
theorem nodup_enumD {α β : Type} {f : α → Nat → List β} {l : List α} (h1 : ∀ a k, (f a k).Nodup) (h2 : ∀ a k b m d, k ≠ m → d ∈ f a k → d ∈ f b m → False) : (enumD f l).Nodup := by
  unfold enumD
  refine List.pairwise_flatten.mpr ⟨fun L hL => ?_, ?_⟩
  · obtain ⟨p, _, rfl⟩ := List.mem_map.mp hL
    exact h1 _ _
  · refine List.pairwise_map.mpr (List.pairwise_iff_getElem.mpr fun i j hi hj lt x hx y hy e => ?_)
    rw [List.getElem_zipIdx] at hx hy
    subst e
    exact h2 _ _ _ _ x (by simp; omega) hx hy
theorem mem_sp1 {x y : Int} {c k : Nat} {d : PyData} : d ∈ sp1 x y c k ↔ c ≠ 95 ∧ d = spD (x + (k : Int)) y c := by
  unfold sp1 spD
  split
  · rename_i h
    exact ⟨fun m => (nomatch m), fun m => absurd h m.1⟩
  · rename_i h
    exact ⟨fun m => ⟨h, List.mem_singleton.mp m⟩, fun m => List.mem_singleton.mpr m.2⟩
theorem spD_inj {x y x' y' : Int} {c c' : Nat} (h : spD x y c = spD x' y' c') : x = x' ∧ y = y' := by
  unfold spD at h
  injection h with h
  injection h with h1 h2
  injection h2 with h2 _
  injection h1 with h1
  injection h2 with h2
  exact ⟨h1, h2⟩
theorem nodup_rowD (x y : Int) (z : Str) : (rowD x y z).Nodup := by
  refine nodup_enumD (fun a k => ?_) fun a k b m d n h1 h2 => ?_
  · unfold sp1
    split
    · exact List.nodup_nil
    · exact List.pairwise_singleton _ _
  · obtain ⟨_, e1⟩ := mem_sp1.mp h1
    obtain ⟨_, e2⟩ := mem_sp1.mp h2
    have := (spD_inj (e1.symm.trans e2)).1
    omega
theorem mem_rowD {x y : Int} {z : Str} {d : PyData} : d ∈ rowD x y z ↔ ∃ (k c : Nat), z.cps.toList[k]? = some c ∧ c ≠ 95 ∧ d = spD (x + (k : Int)) y c := by
  unfold rowD
  rw [mem_enumD]
  exact ⟨fun ⟨k, c, e, h⟩ => ⟨k, c, e, mem_sp1.mp h⟩, fun ⟨k, c, e, h⟩ => ⟨k, c, e, mem_sp1.mpr h⟩⟩
theorem nodup_allD (x y : Int) (rows : List Str) : (allD x y rows).Nodup := by
  refine nodup_enumD (fun a k => nodup_rowD _ _ _) fun a k b m d n h1 h2 => ?_
  obtain ⟨_, _, _, _, e1⟩ := mem_rowD.mp h1
  obtain ⟨_, _, _, _, e2⟩ := mem_rowD.mp h2
  have := (spD_inj (e1.symm.trans e2)).2
  omega
theorem cell_get {rows : List Str} {h w x y : Nat} (m : Mx rows h w) (hx : x < w) (hy : y < h) : ∃ z, rows[y]? = some z ∧ z.cps.toList[x]? = some (cell rows x y) := by
  have hl := m.len
  have hy' : y < rows.length := by omega
  have hr := m.row _ (List.getElem_mem hy')
  have hx' : x < (rows[y]).cps.toList.length := by rw [str_len]; omega
  refine ⟨rows[y], List.getElem?_eq_getElem hy', ?_⟩
  unfold cell atS
  have e : rows.getD y "" = rows[y] := by rw [List.getD_eq_getElem?_getD, List.getElem?_eq_getElem hy']; rfl
  rw [e, List.getD_eq_getElem?_getD, List.getElem?_eq_getElem hx']
  rfl
theorem mem_allD {rows : List Str} {h w : Nat} (m : Mx rows h w) {x0 y0 : Int} {d : PyData} : d ∈ allD x0 y0 rows ↔ ∃ x y : Nat, x < w ∧ y < h ∧ cell rows x y ≠ 95 ∧ d = spD (x0 + (x : Int)) (y0 + (y : Int)) (cell rows x y) := by
  unfold allD
  rw [mem_enumD]
  constructor
  · rintro ⟨y, z, ey, hd⟩
    obtain ⟨x, c, ex, hc, e⟩ := mem_rowD.mp hd
    have hy : y < h := by have := (List.getElem?_eq_some_iff.mp ey).1; have := m.len; omega
    have hz := m.row z (List.mem_of_getElem? ey)
    have hx : x < w := by have := (List.getElem?_eq_some_iff.mp ex).1; rw [str_len] at this; omega
    obtain ⟨z', e1, e2⟩ := cell_get m hx hy
    rw [ey] at e1
    cases e1
    rw [ex] at e2
    cases e2
    exact ⟨x, y, hx, hy, hc, e⟩
  · rintro ⟨x, y, hx, hy, hc, e⟩
    obtain ⟨z, e1, e2⟩ := cell_get m hx hy
    exact ⟨y, z, e1, mem_rowD.mpr ⟨x, _, e2, hc, e⟩⟩
/-- a spot, a quarter on, mirrored, moved -/
def stR (h : Nat) : PyData → PyData
  | .tuple [.int x, .int y, s] => .tuple [.int ((h : Int) - 1 - y), .int x, s]
  | d => d
def stM (w : Nat) : PyData → PyData
  | .tuple [.int x, .int y, s] => .tuple [.int ((w : Int) - 1 - x), .int y, s]
  | d => d
def mvD (i j : Int) : PyData → PyData
  | .tuple [.int x, .int y, s] => .tuple [.int (x + i), .int (y + j), s]
  | d => d
def turnsD : Nat → PyData → Nat → Nat → PyData
  | 0, d, _, _ => d
  | n + 1, d, h, w => turnsD n (stR h d) w h
def brD (way h w : Nat) (d : PyData) : PyData := turnsD (way % 4) (if 4 ≤ way then stM w d else d) h w
theorem nodup_map_on {f : PyData → PyData} {l : List PyData} (h : l.Nodup) (i : ∀ a ∈ l, ∀ b ∈ l, f a = f b → a = b) : (l.map f).Nodup :=
  List.pairwise_map.mpr (List.Pairwise.imp_of_mem (fun {a b} ha hb n e => n (i a ha b hb e)) h)
theorem perm_by {l m : List PyData} {f : PyData → PyData} (hl : l.Nodup) (hm : m.Nodup) (i : ∀ a ∈ m, ∀ b ∈ m, f a = f b → a = b) (h1 : ∀ d ∈ l, ∃ e ∈ m, d = f e) (h2 : ∀ e ∈ m, f e ∈ l) : l.Perm (m.map f) := by
  refine (List.perm_ext_iff_of_nodup hl (nodup_map_on hm i)).mpr fun d => ⟨fun hd => ?_, fun hd => ?_⟩
  · obtain ⟨e, me, rfl⟩ := h1 d hd
    exact List.mem_map.mpr ⟨e, me, rfl⟩
  · obtain ⟨e, me, rfl⟩ := List.mem_map.mp hd
    exact h2 e me
theorem spD_full {x y x' y' : Int} {c c' : Nat} (h : spD x y c = spD x' y' c') : x = x' ∧ y = y' ∧ one c = one c' := by
  unfold spD at h
  injection h with h
  injection h with h1 h2
  injection h2 with h2 h3
  injection h3 with h3 _
  injection h1 with h1
  injection h2 with h2
  injection h3 with h3
  exact ⟨h1, h2, h3⟩
theorem spD_of {x y x' y' : Int} {c c' : Nat} (h1 : x = x') (h2 : y = y') (h3 : one c = one c') : spD x y c = spD x' y' c' := by
  unfold spD
  rw [h1, h2, h3]
theorem perm_right {rows : List Str} {h w : Nat} (m : Mx rows h w) : (allD 0 0 (rightR rows w)).Perm ((allD 0 0 rows).map (stR h)) := by
  refine perm_by (nodup_allD _ _ _) (nodup_allD _ _ _) (fun a ha b hb e => ?_) (fun d hd => ?_) fun d hd => ?_
  · obtain ⟨x, y, _, _, _, rfl⟩ := (mem_allD m).mp ha
    obtain ⟨x', y', _, _, _, rfl⟩ := (mem_allD m).mp hb
    obtain ⟨e1, e2, e3⟩ := spD_full (show spD ((h : Int) - 1 - (0 + (y : Int))) (0 + (x : Int)) _ = spD ((h : Int) - 1 - (0 + (y' : Int))) (0 + (x' : Int)) _ from e)
    exact spD_of (by omega) (by omega) e3
  · obtain ⟨x, y, hx, hy, hc, rfl⟩ := (mem_allD m.right).mp hd
    rw [cell_right m hy hx] at hc ⊢
    refine ⟨_, (mem_allD m).mpr ⟨y, h - 1 - x, hy, by omega, hc, rfl⟩, ?_⟩
    show _ = spD ((h : Int) - 1 - (0 + ((h - 1 - x : Nat) : Int))) (0 + (y : Int)) _
    exact spD_of (by omega) (by omega) rfl
  · obtain ⟨x, y, hx, hy, hc, rfl⟩ := (mem_allD m).mp hd
    refine (mem_allD m.right).mpr ⟨h - 1 - y, x, by omega, hx, ?_, ?_⟩
    · rw [cell_right m hx (by omega)]
      have e : h - 1 - (h - 1 - y) = y := by omega
      rw [e]
      exact hc
    · rw [cell_right m hx (by omega)]
      have e : h - 1 - (h - 1 - y) = y := by omega
      rw [e]
      show spD ((h : Int) - 1 - (0 + (y : Int))) (0 + (x : Int)) _ = _
      exact spD_of (by omega) (by omega) rfl
theorem perm_mir {rows : List Str} {h w : Nat} (m : Mx rows h w) : (allD 0 0 (mir rows)).Perm ((allD 0 0 rows).map (stM w)) := by
  refine perm_by (nodup_allD _ _ _) (nodup_allD _ _ _) (fun a ha b hb e => ?_) (fun d hd => ?_) fun d hd => ?_
  · obtain ⟨x, y, _, _, _, rfl⟩ := (mem_allD m).mp ha
    obtain ⟨x', y', _, _, _, rfl⟩ := (mem_allD m).mp hb
    obtain ⟨e1, e2, e3⟩ := spD_full (show spD ((w : Int) - 1 - (0 + (x : Int))) (0 + (y : Int)) _ = spD ((w : Int) - 1 - (0 + (x' : Int))) (0 + (y' : Int)) _ from e)
    exact spD_of (by omega) (by omega) e3
  · obtain ⟨x, y, hx, hy, hc, rfl⟩ := (mem_allD m.mir).mp hd
    rw [cell_mir m hx hy] at hc ⊢
    refine ⟨_, (mem_allD m).mpr ⟨w - 1 - x, y, by omega, hy, hc, rfl⟩, ?_⟩
    show _ = spD ((w : Int) - 1 - (0 + ((w - 1 - x : Nat) : Int))) (0 + (y : Int)) _
    exact spD_of (by omega) (by omega) rfl
  · obtain ⟨x, y, hx, hy, hc, rfl⟩ := (mem_allD m).mp hd
    have e : w - 1 - (w - 1 - x) = x := by omega
    refine (mem_allD m.mir).mpr ⟨w - 1 - x, y, by omega, hy, ?_, ?_⟩
    · rw [cell_mir m (by omega) hy, e]
      exact hc
    · rw [cell_mir m (by omega) hy, e]
      show spD ((w : Int) - 1 - (0 + (x : Int))) (0 + (y : Int)) _ = _
      exact spD_of (by omega) (by omega) rfl
theorem perm_move {rows : List Str} {h w : Nat} (m : Mx rows h w) (i j : Int) : (allD i j rows).Perm ((allD 0 0 rows).map (mvD i j)) := by
  refine perm_by (nodup_allD _ _ _) (nodup_allD _ _ _) (fun a ha b hb e => ?_) (fun d hd => ?_) fun d hd => ?_
  · obtain ⟨x, y, _, _, _, rfl⟩ := (mem_allD m).mp ha
    obtain ⟨x', y', _, _, _, rfl⟩ := (mem_allD m).mp hb
    obtain ⟨e1, e2, e3⟩ := spD_full (show spD ((0 + (x : Int)) + i) ((0 + (y : Int)) + j) _ = spD ((0 + (x' : Int)) + i) ((0 + (y' : Int)) + j) _ from e)
    exact spD_of (by omega) (by omega) e3
  · obtain ⟨x, y, hx, hy, hc, rfl⟩ := (mem_allD m).mp hd
    refine ⟨_, (mem_allD m).mpr ⟨x, y, hx, hy, hc, rfl⟩, ?_⟩
    show _ = spD ((0 + (x : Int)) + i) ((0 + (y : Int)) + j) _
    exact spD_of (by omega) (by omega) rfl
  · obtain ⟨x, y, hx, hy, hc, rfl⟩ := (mem_allD m).mp hd
    refine (mem_allD m).mpr ⟨x, y, hx, hy, hc, ?_⟩
    show spD ((0 + (x : Int)) + i) ((0 + (y : Int)) + j) _ = _
    exact spD_of (by omega) (by omega) rfl
theorem perm_turns (n : Nat) : ∀ {rows : List Str} {h w : Nat}, Mx rows h w → (allD 0 0 (turns n rows h w)).Perm ((allD 0 0 rows).map fun d => turnsD n d h w) := by
  induction n with
  | zero => intro rows h w m; show (allD 0 0 rows).Perm ((allD 0 0 rows).map fun d => d); rw [List.map_id']
  | succ n ih =>
    intro rows h w m
    have h1 := (ih m.right).trans ((perm_right m).map fun d => turnsD n d w h)
    rw [List.map_map] at h1
    exact h1
theorem perm_way {rows : List Str} {h w : Nat} (m : Mx rows h w) (way : Nat) : (allD 0 0 (byWay rows way h w)).Perm ((allD 0 0 rows).map (brD way h w)) := by
  have h1 := perm_turns (way % 4) (m.mirror way)
  unfold byWay
  by_cases c : 4 ≤ way
  · have e : brD way h w = fun d => turnsD (way % 4) (stM w d) h w := by
      funext d
      unfold brD
      rw [if_pos c]
    rw [e]
    have h2 := perm_mir m
    rw [mirror_is, if_pos c] at h1 ⊢
    have h3 := h1.trans (h2.map fun d => turnsD (way % 4) d h w)
    rw [List.map_map] at h3
    exact h3
  · have e : brD way h w = fun d => turnsD (way % 4) d h w := by
      funext d
      unfold brD
      rw [if_neg c]
    rw [e]
    rw [mirror_is, if_neg c] at h1 ⊢
    exact h1
/-- sorted ones are one -/
theorem lex_eq {p q : Int × Int} (h1 : SrtO.lexB p q = false) (h2 : SrtO.lexB q p = false) : p = q := by
  have a := SrtO.lexB_no.mp h1
  have b := SrtO.lexB_no.mp h2
  exact Prod.ext (by omega) (by omega)
theorem lex_refl (p : Int × Int) : SrtO.lexB p p = false := SrtO.lexB_no.mpr (by omega)
theorem srt_one : ∀ {l m : List PyData}, SrtD l → SrtD m → l.Perm m → (∀ a ∈ l, ∀ b ∈ l, keyD a = keyD b → a = b) → l = m
  | [], m, _, _, p, _ => (List.Perm.eq_nil p.symm).symm
  | x :: l, [], _, _, p, _ => absurd p.length_eq (by simp)
  | x :: l, y :: m, hl, hm, p, u => by
    have hl' := List.pairwise_cons.mp hl
    have hm' := List.pairwise_cons.mp hm
    have h1 : SrtO.lexB (keyD x) (keyD y) = false := by
      rcases List.mem_cons.mp (p.mem_iff.mp (List.mem_cons_self (a := x) (l := l))) with e | hx
      · rw [e]; exact lex_refl _
      · exact hm'.1 x hx
    have hy : y ∈ x :: l := p.mem_iff.mpr (List.mem_cons_self (a := y) (l := m))
    have h2 : SrtO.lexB (keyD y) (keyD x) = false := by
      rcases List.mem_cons.mp hy with e | hy
      · rw [e]; exact lex_refl _
      · exact hl'.1 y hy
    have e : x = y := u x List.mem_cons_self y hy (lex_eq h1 h2)
    subst e
    rw [srt_one hl'.2 hm'.2 p.cons_inv fun a ha b hb => u a (List.mem_cons_of_mem _ ha) b (List.mem_cons_of_mem _ hb)]
theorem key_one {rows : List Str} {h w : Nat} (m : Mx rows h w) {x0 y0 : Int} : ∀ a ∈ allD x0 y0 rows, ∀ b ∈ allD x0 y0 rows, keyD a = keyD b → a = b := by
  intro a ha b hb e
  obtain ⟨x, y, _, _, _, rfl⟩ := (mem_allD m).mp ha
  obtain ⟨x', y', _, _, _, rfl⟩ := (mem_allD m).mp hb
  have e : ((x0 + (x : Int), y0 + (y : Int)) : Int × Int) = (x0 + (x' : Int), y0 + (y' : Int)) := e
  injection e with e1 e2
  have e1 : x = x' := by omega
  have e2 : y = y' := by omega
  subst e1
  subst e2
  rfl

/-! ### the box of what is no ground, turned -/
def ngC (rows : List Str) (h w x y : Nat) : Prop := x < w ∧ y < h ∧ cell rows x y ≠ 46
theorem ng_cell {rows : List Str} {h w x y : Nat} (m : Mx rows h w) : (∃ z, rows[y]? = some z ∧ ng z x) ↔ ngC rows h w x y := by
  constructor
  · rintro ⟨z, ey, c, ec, hc⟩
    have hy : y < h := by have := (List.getElem?_eq_some_iff.mp ey).1; have := m.len; omega
    have hz := m.row z (List.mem_of_getElem? ey)
    have hx : x < w := by have := (List.getElem?_eq_some_iff.mp ec).1; rw [str_len] at this; omega
    obtain ⟨z', e1, e2⟩ := cell_get m hx hy
    rw [ey] at e1
    cases e1
    rw [ec] at e2
    cases e2
    exact ⟨hx, hy, hc⟩
  · rintro ⟨hx, hy, hc⟩
    obtain ⟨z, e1, e2⟩ := cell_get m hx hy
    exact ⟨z, e1, _, e2, hc⟩
structure Bq where
  L : Nat
  R : Nat
  A : Nat
  B : Nat
structure BoxC (rows : List Str) (h w : Nat) (q : Bq) : Prop where
  all : ∀ x y, ngC rows h w x y → q.A ≤ y ∧ y ≤ q.B ∧ q.L ≤ x ∧ x ≤ q.R
  l : ∃ y, ngC rows h w q.L y
  r : ∃ y, ngC rows h w q.R y
  a : ∃ x, ngC rows h w x q.A
  b : ∃ x, ngC rows h w x q.B
theorem box_c {rows : List Str} {h w : Nat} (m : Mx rows h w) {q : Bq} : Box rows q.L q.R q.A q.B ↔ BoxC rows h w q := by
  constructor
  · intro b
    refine ⟨fun x y n => ?_, ?_, ?_, ?_, ?_⟩
    · obtain ⟨z, e, n⟩ := (ng_cell m).mpr n
      exact b.all y z x e n
    · obtain ⟨j, z, e, n⟩ := b.l
      exact ⟨j, (ng_cell m).mp ⟨z, e, n⟩⟩
    · obtain ⟨j, z, e, n⟩ := b.r
      exact ⟨j, (ng_cell m).mp ⟨z, e, n⟩⟩
    · obtain ⟨z, k, e, n⟩ := b.a
      exact ⟨k, (ng_cell m).mp ⟨z, e, n⟩⟩
    · obtain ⟨z, k, e, n⟩ := b.b
      exact ⟨k, (ng_cell m).mp ⟨z, e, n⟩⟩
  · intro b
    refine ⟨fun j z k e n => b.all k j ((ng_cell m).mp ⟨z, e, n⟩), ?_, ?_, ?_, ?_⟩
    · obtain ⟨y, n⟩ := b.l
      obtain ⟨z, e, n⟩ := (ng_cell m).mpr n
      exact ⟨y, z, e, n⟩
    · obtain ⟨y, n⟩ := b.r
      obtain ⟨z, e, n⟩ := (ng_cell m).mpr n
      exact ⟨y, z, e, n⟩
    · obtain ⟨x, n⟩ := b.a
      obtain ⟨z, e, n⟩ := (ng_cell m).mpr n
      exact ⟨z, x, e, n⟩
    · obtain ⟨x, n⟩ := b.b
      obtain ⟨z, e, n⟩ := (ng_cell m).mpr n
      exact ⟨z, x, e, n⟩
structure Bin (q : Bq) (h w : Nat) : Prop where
  lr : q.L ≤ q.R
  rw : q.R < w
  ab : q.A ≤ q.B
  bh : q.B < h
theorem BoxC.bin {rows : List Str} {h w : Nat} {q : Bq} (b : BoxC rows h w q) : Bin q h w := by
  obtain ⟨y, n1⟩ := b.l
  obtain ⟨y2, n2⟩ := b.r
  obtain ⟨x, n3⟩ := b.a
  obtain ⟨x2, n4⟩ := b.b
  have a1 := b.all _ _ n1
  have a2 := b.all _ _ n2
  have a3 := b.all _ _ n3
  have a4 := b.all _ _ n4
  exact ⟨by omega, n2.1, by omega, n4.2.1⟩
def bqR (h : Nat) (q : Bq) : Bq := ⟨h - 1 - q.B, h - 1 - q.A, q.L, q.R⟩
def bqM (w : Nat) (q : Bq) : Bq := ⟨w - 1 - q.R, w - 1 - q.L, q.A, q.B⟩
theorem ng_right {rows : List Str} {h w x y : Nat} (m : Mx rows h w) : ngC (rightR rows w) w h x y ↔ x < h ∧ ngC rows h w y (h - 1 - x) := by
  constructor
  · rintro ⟨hx, hy, hc⟩
    rw [cell_right m hy hx] at hc
    exact ⟨hx, hy, by omega, hc⟩
  · rintro ⟨hx, hy, _, hc⟩
    exact ⟨hx, hy, by rw [cell_right m hy hx]; exact hc⟩
theorem ng_mir {rows : List Str} {h w x y : Nat} (m : Mx rows h w) : ngC (mir rows) h w x y ↔ x < w ∧ ngC rows h w (w - 1 - x) y := by
  constructor
  · rintro ⟨hx, hy, hc⟩
    rw [cell_mir m hx hy] at hc
    exact ⟨hx, by omega, hy, hc⟩
  · rintro ⟨hx, _, hy, hc⟩
    exact ⟨hx, hy, by rw [cell_mir m hx hy]; exact hc⟩
theorem ng_flip {rows : List Str} {h w x y z : Nat} (n : ngC rows h w x y) (e : z = y) : ngC rows h w x z := by rw [e]; exact n
theorem ng_flipx {rows : List Str} {h w x y z : Nat} (n : ngC rows h w x y) (e : z = x) : ngC rows h w z y := by rw [e]; exact n
theorem box_right {rows : List Str} {h w : Nat} {q : Bq} (m : Mx rows h w) (b : BoxC rows h w q) : BoxC (rightR rows w) w h (bqR h q) := by
  have i := b.bin
  have i1 := i.lr
  have i2 := i.rw
  have i3 := i.ab
  have i4 := i.bh
  refine ⟨fun x y n => ?_, ?_, ?_, ?_, ?_⟩
  · obtain ⟨hx, n⟩ := (ng_right m).mp n
    have := b.all _ _ n
    show q.L ≤ y ∧ y ≤ q.R ∧ h - 1 - q.B ≤ x ∧ x ≤ h - 1 - q.A
    omega
  · obtain ⟨x, n⟩ := b.b
    exact ⟨x, (ng_right m).mpr ⟨by show h - 1 - q.B < h; omega, ng_flip n (by show h - 1 - (h - 1 - q.B) = q.B; omega)⟩⟩
  · obtain ⟨x, n⟩ := b.a
    exact ⟨x, (ng_right m).mpr ⟨by show h - 1 - q.A < h; omega, ng_flip n (by show h - 1 - (h - 1 - q.A) = q.A; omega)⟩⟩
  · obtain ⟨y, n⟩ := b.l
    have := n.2.1
    exact ⟨h - 1 - y, (ng_right m).mpr ⟨by omega, ng_flip n (by omega)⟩⟩
  · obtain ⟨y, n⟩ := b.r
    have := n.2.1
    exact ⟨h - 1 - y, (ng_right m).mpr ⟨by omega, ng_flip n (by omega)⟩⟩
theorem box_mir {rows : List Str} {h w : Nat} {q : Bq} (m : Mx rows h w) (b : BoxC rows h w q) : BoxC (mir rows) h w (bqM w q) := by
  have i := b.bin
  have i1 := i.lr
  have i2 := i.rw
  refine ⟨fun x y n => ?_, ?_, ?_, ?_, ?_⟩
  · obtain ⟨hx, n⟩ := (ng_mir m).mp n
    have := b.all _ _ n
    show q.A ≤ y ∧ y ≤ q.B ∧ w - 1 - q.R ≤ x ∧ x ≤ w - 1 - q.L
    omega
  · obtain ⟨y, n⟩ := b.r
    exact ⟨y, (ng_mir m).mpr ⟨by show w - 1 - q.R < w; omega, ng_flipx n (by show w - 1 - (w - 1 - q.R) = q.R; omega)⟩⟩
  · obtain ⟨y, n⟩ := b.l
    exact ⟨y, (ng_mir m).mpr ⟨by show w - 1 - q.L < w; omega, ng_flipx n (by show w - 1 - (w - 1 - q.L) = q.L; omega)⟩⟩
  · obtain ⟨x, n⟩ := b.a
    have := n.1
    exact ⟨w - 1 - x, (ng_mir m).mpr ⟨by omega, ng_flipx n (by omega)⟩⟩
  · obtain ⟨x, n⟩ := b.b
    have := n.1
    exact ⟨w - 1 - x, (ng_mir m).mpr ⟨by omega, ng_flipx n (by omega)⟩⟩
/-- what is within -/
def inB (rows : List Str) (q : Bq) : List Str := boxR rows q.L q.R q.A q.B
theorem inB_mx {rows : List Str} {h w : Nat} {q : Bq} (m : Mx rows h w) (i : Bin q h w) : Mx (inB rows q) (q.B + 1 - q.A) (q.R + 1 - q.L) := by
  have i1 := i.lr
  have i2 := i.rw
  have i3 := i.ab
  have i4 := i.bh
  have hl := m.len
  unfold inB boxR
  refine ⟨by rw [List.length_map, List.length_take, List.length_drop]; omega, fun z hz => ?_⟩
  obtain ⟨y, hy, rfl⟩ := List.mem_map.mp hz
  have hy := m.row y (List.mem_of_mem_drop (List.mem_of_mem_take hy))
  rw [SX.S_len, List.length_take, List.length_drop, str_len]
  omega
theorem inB_cell {rows : List Str} {h w x y : Nat} {q : Bq} (m : Mx rows h w) (i : Bin q h w) (hx : x < q.R + 1 - q.L) (hy : y < q.B + 1 - q.A) : cell (inB rows q) x y = cell rows (q.L + x) (q.A + y) := by
  have i1 := i.lr
  have i2 := i.rw
  have i3 := i.ab
  have i4 := i.bh
  have hl := m.len
  obtain ⟨z, e1, e2⟩ := cell_get (inB_mx m i) hx hy
  obtain ⟨z', f1, f2⟩ := cell_get m (x := q.L + x) (y := q.A + y) (by omega) (by omega)
  unfold inB boxR at e1
  rw [List.getElem?_map, List.getElem?_take_of_lt hy, List.getElem?_drop, f1] at e1
  have e1 : SX.S ((z'.cps.toList.drop q.L).take (q.R + 1 - q.L)) = z := Option.some.inj e1
  rw [← e1] at e2
  have e2 : ((z'.cps.toList.drop q.L).take (q.R + 1 - q.L))[x]? = some (cell (inB rows q) x y) := by simpa using e2
  rw [List.getElem?_take_of_lt hx, List.getElem?_drop, f2] at e2
  exact (Option.some.inj e2).symm
theorem Bin.right {q : Bq} {h w : Nat} (i : Bin q h w) : Bin (bqR h q) w h := by
  have i1 := i.lr
  have i2 := i.rw
  have i3 := i.ab
  have i4 := i.bh
  exact ⟨by show h - 1 - q.B ≤ h - 1 - q.A; omega, by show h - 1 - q.A < h; omega, i1, i2⟩
theorem Bin.mir {q : Bq} {h w : Nat} (i : Bin q h w) : Bin (bqM w q) h w := by
  have i1 := i.lr
  have i2 := i.rw
  exact ⟨by show w - 1 - q.R ≤ w - 1 - q.L; omega, by show w - 1 - q.L < w; omega, i.ab, i.bh⟩
theorem inB_right {rows : List Str} {h w : Nat} {q : Bq} (m : Mx rows h w) (i : Bin q h w) : inB (rightR rows w) (bqR h q) = rightR (inB rows q) (q.R + 1 - q.L) := by
  have i1 := i.lr
  have i2 := i.rw
  have i3 := i.ab
  have i4 := i.bh
  have e : (h - 1 - q.A) + 1 - (h - 1 - q.B) = q.B + 1 - q.A := by omega
  have m1 := inB_mx m.right i.right
  have m1 : Mx (inB (rightR rows w) (bqR h q)) (q.R + 1 - q.L) (q.B + 1 - q.A) := by
    have m1 : Mx (inB (rightR rows w) (bqR h q)) (q.R + 1 - q.L) ((h - 1 - q.A) + 1 - (h - 1 - q.B)) := m1
    rw [e] at m1
    exact m1
  refine mx_ext m1 (inB_mx m i).right fun x y hx hy => ?_
  rw [inB_cell m.right i.right (by show x < (h - 1 - q.A) + 1 - (h - 1 - q.B); omega) hy, cell_right (inB_mx m i) hy hx, inB_cell m i hy (by omega)]
  show cell (rightR rows w) (h - 1 - q.B + x) (q.L + y) = _
  rw [cell_right m (by omega) (by omega)]
  congr 1
  omega
theorem inB_mir {rows : List Str} {h w : Nat} {q : Bq} (m : Mx rows h w) (i : Bin q h w) : inB (mir rows) (bqM w q) = mir (inB rows q) := by
  have i1 := i.lr
  have i2 := i.rw
  have i3 := i.ab
  have i4 := i.bh
  have e : (w - 1 - q.L) + 1 - (w - 1 - q.R) = q.R + 1 - q.L := by omega
  have m1 : Mx (inB (mir rows) (bqM w q)) (q.B + 1 - q.A) (q.R + 1 - q.L) := by
    have m1 : Mx (inB (mir rows) (bqM w q)) (q.B + 1 - q.A) ((w - 1 - q.L) + 1 - (w - 1 - q.R)) := inB_mx m.mir i.mir
    rw [e] at m1
    exact m1
  refine mx_ext m1 (inB_mx m i).mir fun x y hx hy => ?_
  rw [inB_cell m.mir i.mir (by show x < (w - 1 - q.L) + 1 - (w - 1 - q.R); omega) hy, cell_mir (inB_mx m i) hx hy, inB_cell m i (by omega) hy]
  show cell (mir rows) (w - 1 - q.R + x) (q.A + y) = _
  rw [cell_mir m (by omega) (by omega)]
  congr 1
  omega
def bqT : Nat → Bq → Nat → Nat → Bq
  | 0, q, _, _ => q
  | n + 1, q, h, w => bqT n (bqR h q) w h
def bqW (way h w : Nat) (q : Bq) : Bq := bqT (way % 4) (if 4 ≤ way then bqM w q else q) h w
theorem box_turns (n : Nat) : ∀ {rows : List Str} {h w : Nat} {q : Bq}, Mx rows h w → BoxC rows h w q → BoxC (turns n rows h w) (dw (n + 1) h w) (dw n h w) (bqT n q h w) ∧ inB (turns n rows h w) (bqT n q h w) = turns n (inB rows q) (q.B + 1 - q.A) (q.R + 1 - q.L) := by
  induction n with
  | zero => intro rows h w q m b; exact ⟨b, rfl⟩
  | succ n ih =>
    intro rows h w q m b
    have i := b.bin
    have i1 := i.lr
    have i2 := i.rw
    have i3 := i.ab
    have i4 := i.bh
    obtain ⟨h1, h2⟩ := ih m.right (box_right m b)
    rw [dw_swap n h w, dw_swap (n + 1) h w] at h1
    refine ⟨h1, ?_⟩
    show inB (turns n (rightR rows w) w h) (bqT n (bqR h q) w h) = turns n (rightR (inB rows q) (q.R + 1 - q.L)) (q.R + 1 - q.L) (q.B + 1 - q.A)
    rw [h2, inB_right m i]
    have e : (h - 1 - q.A) + 1 - (h - 1 - q.B) = q.B + 1 - q.A := by omega
    show turns n _ (q.R + 1 - q.L) ((h - 1 - q.A) + 1 - (h - 1 - q.B)) = _
    rw [e]
theorem box_way {rows : List Str} {h w : Nat} {q : Bq} (m : Mx rows h w) (b : BoxC rows h w q) (way : Nat) : BoxC (byWay rows way h w) (dw (way + 1) h w) (dw way h w) (bqW way h w q) ∧ inB (byWay rows way h w) (bqW way h w q) = byWay (inB rows q) way (q.B + 1 - q.A) (q.R + 1 - q.L) := by
  unfold byWay bqW
  have i := b.bin
  by_cases c : 4 ≤ way
  · rw [mirror_is, if_pos c, mirror_is, if_pos c]
    obtain ⟨h1, h2⟩ := box_turns (way % 4) m.mir (box_mir m b)
    rw [dw_mod, dw_mod1] at h1
    refine ⟨h1, ?_⟩
    rw [h2, inB_mir m i]
    have i1 := i.lr
    have i2 := i.rw
    have e : (w - 1 - q.L) + 1 - (w - 1 - q.R) = q.R + 1 - q.L := by omega
    show turns _ _ (q.B + 1 - q.A) ((w - 1 - q.L) + 1 - (w - 1 - q.R)) = _
    rw [e, if_pos c]
  · rw [mirror_is, if_neg c, mirror_is, if_neg c]
    obtain ⟨h1, h2⟩ := box_turns (way % 4) m b
    rw [dw_mod, dw_mod1] at h1
    exact ⟨h1, by rw [if_neg c]; exact h2⟩
/-- what goes on each side -/
structure Mg where
  l : Nat
  a : Nat
  r : Nat
  b : Nat
def mgOf (q : Bq) (h w : Nat) : Mg := ⟨q.L, q.A, w - 1 - q.R, h - 1 - q.B⟩
def mgR (g : Mg) : Mg := ⟨g.b, g.l, g.a, g.r⟩
def mgM (g : Mg) : Mg := ⟨g.r, g.a, g.l, g.b⟩
def mgT : Nat → Mg → Mg
  | 0, g => g
  | n + 1, g => mgT n (mgR g)
def mgW (way : Nat) (g : Mg) : Mg := mgT (way % 4) (if 4 ≤ way then mgM g else g)
theorem mg_right {q : Bq} {h w : Nat} (i : Bin q h w) : mgOf (bqR h q) w h = mgR (mgOf q h w) := by
  have i3 := i.ab
  have i4 := i.bh
  have e1 : h - 1 - (h - 1 - q.A) = q.A := by omega
  show (⟨h - 1 - q.B, q.L, h - 1 - (h - 1 - q.A), w - 1 - q.R⟩ : Mg) = ⟨h - 1 - q.B, q.L, q.A, w - 1 - q.R⟩
  rw [e1]
theorem mg_mir {q : Bq} {h w : Nat} (i : Bin q h w) : mgOf (bqM w q) h w = mgM (mgOf q h w) := by
  have i1 := i.lr
  have i2 := i.rw
  have e1 : w - 1 - (w - 1 - q.L) = q.L := by omega
  show (⟨w - 1 - q.R, q.A, w - 1 - (w - 1 - q.L), h - 1 - q.B⟩ : Mg) = ⟨w - 1 - q.R, q.A, q.L, h - 1 - q.B⟩
  rw [e1]
theorem mg_turns (n : Nat) : ∀ {q : Bq} {h w : Nat}, Bin q h w → mgOf (bqT n q h w) (dw (n + 1) h w) (dw n h w) = mgT n (mgOf q h w) := by
  induction n with
  | zero => intro q h w i; rfl
  | succ n ih =>
    intro q h w i
    have z := ih i.right
    rw [dw_swap n h w, dw_swap (n + 1) h w, mg_right i] at z
    exact z
theorem mg_way {q : Bq} {h w : Nat} (i : Bin q h w) (way : Nat) : mgOf (bqW way h w q) (dw (way + 1) h w) (dw way h w) = mgW way (mgOf q h w) := by
  unfold bqW mgW
  by_cases c : 4 ≤ way
  · rw [if_pos c, if_pos c, ← mg_mir i]
    have z := mg_turns (way % 4) i.mir
    rw [dw_mod, dw_mod1] at z
    exact z
  · rw [if_neg c, if_neg c]
    have z := mg_turns (way % 4) i
    rw [dw_mod, dw_mod1] at z
    exact z
/-- all ground stays all ground -/
theorem no_right {rows : List Str} {h w : Nat} (m : Mx rows h w) (n : ∀ x y, ¬ ngC rows h w x y) : ∀ x y, ¬ ngC (rightR rows w) w h x y := fun x y z => n _ _ ((ng_right m).mp z).2
theorem no_turns (n : Nat) : ∀ {rows : List Str} {h w : Nat}, Mx rows h w → (∀ x y, ¬ ngC rows h w x y) → ∀ x y, ¬ ngC (turns n rows h w) (dw (n + 1) h w) (dw n h w) x y := by
  induction n with
  | zero => intro rows h w _ z; exact z
  | succ n ih =>
    intro rows h w m z
    have k := ih m.right (no_right m z)
    rw [dw_swap n h w, dw_swap (n + 1) h w] at k
    exact k
theorem no_way {rows : List Str} {h w : Nat} (m : Mx rows h w) (way : Nat) (n : ∀ x y, ¬ ngC rows h w x y) : ∀ x y, ¬ ngC (byWay rows way h w) (dw (way + 1) h w) (dw way h w) x y := by
  unfold byWay
  rw [mirror_is]
  by_cases c : 4 ≤ way
  · rw [if_pos c]
    have z := no_turns (way % 4) m.mir fun x y q => n _ _ ((ng_mir m).mp q).2
    rw [dw_mod, dw_mod1] at z
    exact z
  · rw [if_neg c]
    have z := no_turns (way % 4) m n
    rw [dw_mod, dw_mod1] at z
    exact z

/-! ### the law's own: a spot brought -/
theorem brD_sp (way h w : Nat) (x y : Int) (c : Nat) : ∃ x' y', brD way h w (spD x y c) = spD x' y' c := by
  have key : ∀ n (x y : Int) h w, ∃ x' y', turnsD n (spD x y c) h w = spD x' y' c := by
    intro n
    induction n with
    | zero => intro x y h w; exact ⟨x, y, rfl⟩
    | succ n ih => intro x y h w; exact ih _ _ _ _
  unfold brD
  split
  · exact key _ _ _ _ _
  · exact key _ _ _ _ _
theorem th_sp {K : PySem.W.Frag} {H : Hp} {v : V} {x y : Int} {c : Nat} (h : Th K H v (spD x y c)) : ∃ b, v = .ref b ∧ SqT K H b [.int x, .int y, .str (one c)] := by
  unfold spD at h
  cases h with
  | tup hS a =>
    cases a with | cons t0 a => cases a with | cons t1 a => cases a with | cons t2 a =>
      cases a
      cases t0
      cases t1
      cases t2
      exact ⟨_, rfl, hS⟩
def spBr (K : PySem.W.Frag) : Sp := fun vs H Q _ => ∃ (v : V) (x y : Int) (c way h w : Nat), vs = [v, .int way, .int w, .int h] ∧ Th K H v (spD x y c) ∧ way < 8 ∧ ∀ (T : Addr) (x' y' : Int) (H' : Hp), brD way h w (spD x y c) = spD x' y' c → H T = none → Same H H' → H' T = some (.tup [.int x', .int y', .str (one c)]) → Q (.ref T) H'
theorem ok_br (T : Tx K mg) (F : FunD K "_law_brought" "_law_brought" (defArgs s_law_brought) (defBody s_law_brought) (defScope s_law_brought) [] [] f fd) : FnG P w K mg base CX0 1 f fd ["_law_spot", "_law_way", "_law_wide", "_law_high"] (spBr K) := by
  refine FnG.of F sc_law_brought (fun vs H Q E h => ?_) (fun cdv A outer s H vs Q E hr gd h => ?_)
  · obtain ⟨v, x, y, c, way, h, w, rfl, _⟩ := h
    rfl
  · obtain ⟨v, x, y, c, way, h, w', rfl, hv, hw, k⟩ := h
    have hu : (A.deeper (envOfC "_law_brought" (defScope s_law_brought) s.heap.objs.size f cdv)).units + 64 < cLine := by have := hr.un; omega
    refine ⟨_, PSs.nox (pss_cons
    (ps_asg (zv 0) (pg_tupK K 3 (pgs_cons (pg_name (i := 4) sc_law_brought.nd rfl (Or.inl rfl)) (pgs_cons (pg_name (i := 5) sc_law_brought.nd rfl (Or.inl rfl)) (pgs_cons (pg_name (i := 6) sc_law_brought.nd rfl (Or.inl rfl)) pgs_nil)))))
    (C8.pss_cut
    (ps_if (pz_cmp op_gtZ (zv 1) pe_int (nomark _))
      (pss_one
        (ps_set (i := 4) sc_law_brought.nd rfl (Or.inl rfl) (pe_op op_subZ (pe_op op_subZ (zv 2) pe_int) (zv 4))))
      pss_nil)
    (pss_cons
    (ps_for PassesOwn.never rfl (pi_range1 (by rfl) T.range (pa_cons (pe_op op_modZ (zv 1) pe_int) pa_nil)) (pg_name (i := 7) sc_law_brought.nd rfl (Or.inl rfl))
      (pss_cons
        (ps_par (i := 4) (j := 5) rfl sc_law_brought.nd rfl rfl (by decide) rfl rfl (pa_cons (pe_op op_subZ (pe_op op_subZ (zv 3) pe_int) (zv 5)) (pa_cons (zv 4) pa_nil)) (by rfl))
        (pss_one
        (ps_par (i := 2) (j := 3) rfl sc_law_brought.nd rfl rfl (by decide) rfl rfl (pa_cons (zv 3) (pa_cons (zv 2) pa_nil)) (by rfl)))))
    (pss_one
    (ps_ret (pe_tup (pa_cons (zv 4) (pa_cons (zv 5) (pa_cons (zv 6) pa_nil))))))))), ?_⟩
    try dsimp only [cxOf, Cx.nox]
    show (tSeq _ _) _ [some v, some (.int way), some (.int w'), some (.int h), none, none, none, none] _
    obtain ⟨b, rfl, hS⟩ := th_sp hv
    walk_at "zd"
    refine ⟨b, _, rfl, hS, rfl, .int x, _, rfl, .int y, _, rfl, .str (one c), [], rfl, rfl, ?_⟩
    walk_at "zd"
    refine ⟨fun σ H' => ∃ x1, σ = [some (.ref b), some (.int way), some (.int w'), some (.int h), some (.int x1), some (.int y), some (.str (one c)), none] ∧ H' = H ∧ (if 4 ≤ way then stM w' (spD x y c) else spD x y c) = spD x1 y c, ?_, ?_⟩
    · walk_at "zd"
      refine gtI (iteD (fun q => ?_) fun q => ?_)
      · walk_at "zd"
        exact ⟨_, rfl, rfl, if_pos (by omega)⟩
      · exact ⟨x, rfl, rfl, if_neg (by omega)⟩
    rintro σ H' ⟨x1, rfl, rfl, e1⟩
    walk_at "zd"
    refine for_rng ?_
    walk_at "zd"
    have em : ((way : Int) % 4).toNat = way % 4 := by omega
    refine ⟨by decide, _, rfl, by omega, by omega, ?_⟩
    rw [em]
    refine for_range (lo := 0) (n := way % 4) (fun i σ H2 => ∃ (x2 y2 : Int) (h2 w2 : Nat) (k : Option V), σ = [some (.ref b), some (.int way), some (.int w2), some (.int h2), some (.int x2), some (.int y2), some (.str (one c)), k] ∧ H2 = H' ∧ turnsD (way % 4) (spD x1 y c) h w' = turnsD (way % 4 - i) (spD x2 y2 c) h2 w2) ⟨x1, y, h, w', none, rfl, rfl, rfl⟩ ?_ ?_
    · rintro i σ H2 hi ⟨x2, y2, h2, w2, k2, rfl, rfl, e2⟩
      walk_at "zd"
      have hi : i < way % 4 := by omega
      have e3 : way % 4 - i = (way % 4 - (i + 1)) + 1 := by omega
      rw [e3] at e2
      exact ⟨_, _, rfl, _, _, rfl, _, _, w2, h2, _, rfl, rfl, e2⟩
    · rintro σ H2 ⟨x2, y2, h2, w2, k2, rfl, rfl, e2⟩
      walk_at "zd"
      rw [Nat.sub_self] at e2
      refine ⟨line5 (show 3 ≤ 100000 by decide), fun p hp0 => k p x2 y2 _ ?_ hp0 (same_new hp0) upd_same⟩
      unfold brD
      rw [e1]
      exact e2

/-! ### the law -/
theorem join_app (s : Nat) : ∀ (l : List (List Nat)) (r : List Nat), l ≠ [] → TL.joinL [s] (l ++ [r]) = TL.joinL [s] l ++ ([s] ++ r)
  | [], _, h => absurd rfl h
  | [a], r, _ => rfl
  | a :: b :: l, r, _ => by
    show a ++ ([s] ++ TL.joinL [s] ((b :: l) ++ [r])) = (a ++ ([s] ++ TL.joinL [s] (b :: l))) ++ ([s] ++ r)
    rw [join_app s (b :: l) r (by simp), List.append_assoc, List.append_assoc]
theorem S_map (rows : List Str) : (rows.map fun z => z.cps.toList).map SX.S = rows := by
  rw [List.map_map]
  have e : (SX.S ∘ fun z : Str => z.cps.toList) = id := by
    funext z
    exact SX.S_tl z
  rw [e, List.map_id]
def joined (rows : List Str) : List Nat := TL.joinL [47] (rows.map fun z => z.cps.toList)
theorem join_is (rows : List Str) : Txt.join "/" rows = SX.S (joined rows) := by
  have ej : ("/" : Str) = SX.S [47] := by decide
  conv => lhs; rw [← S_map rows, ej, SX.join_S]
  rfl
theorem joined_more {rows : List Str} {z : Str} (h : rows ≠ []) : joined (rows ++ [z]) = joined rows ++ ([47] ++ z.cps.toList) := by
  unfold joined
  rw [List.map_append]
  exact join_app 47 _ _ (by simpa using h)
theorem joined_len {m : Nat} : ∀ {rows : List Str}, (∀ z ∈ rows, z.length ≤ m) → (joined rows).length ≤ rows.length * (m + 1)
  | [], _ => Nat.zero_le _
  | [z], h => by
    have := h z List.mem_cons_self
    have e := str_len z
    show z.cps.toList.length ≤ 1 * (m + 1)
    omega
  | z :: y :: rows, h => by
    have := h z List.mem_cons_self
    have e := str_len z
    have ih := joined_len (rows := y :: rows) fun u q => h u (List.mem_cons_of_mem _ q)
    show (z.cps.toList ++ ([47] ++ joined (y :: rows))).length ≤ (rows.length + 1 + 1) * (m + 1)
    rw [List.length_append, List.length_append, List.length_singleton]
    rw [List.length_cons] at ih
    rw [Nat.add_mul (rows.length + 1) 1]
    omega

/-! ### the spots are right -/
theorem lc_open {K : PySem.W.Frag} {tl : TE} {g : TG} {tt : TT} {te : TE} {vs : List Nat} {σ : L2.St} {H : Hp} {Q : VK} (h : tl σ H fun x H1 => ∃ p, x = .ref p ∧ (∃ xs, SqL K H1 p xs) ∧ LcAsk (Itl K p) g tt te vs σ H1 Q) : tLc (iList K tl) g tt te vs σ H Q := h
theorem lcRG {K : PySem.W.Frag} {a : Addr} {xs : List V} {g : TG} {te : TE} {vs : List Nat} {σ : L2.St} {H : Hp} {Q : VK} (B : Addr → Bool) (hB : Hid B H) (P : Nat → V → Hp → Prop) (mono : ∀ i y G1 G2, Same G1 G2 → P i y G1 → P i y G2) (h0 : SqL K H a xs) (hz : xs.length ≤ 100000)
    (he : ∀ i x B' H', xs[i]? = some x → (∀ a, B a = true → B' a = true) → Same H H' → Same (hd B H) (hd B' H') → Hid B' H' → ∀ (Q' : VK) (R : Hp → Prop), (∀ y H4, Same H' H4 → P i y (hd B' H4) → Q' y H4) → g x (wipe σ vs) H' fun σ2 H2 => wipe σ2 vs = wipe σ vs ∧ tYes σ2 H2 fun b H3 => if b = true then te σ2 H3 Q' else R H3)
    (k : ∀ D acc H', H D = none → acc.length = xs.length → (∀ (i : Nat) y, acc[i]? = some y → P i y (hd (hide D B) H')) → Same H H' → Hid B H' → H' D = some (.lst acc) → Q (.ref D) H') : LcAsk (Itl K a) g tYes te vs σ H Q :=
  tlcRG (wi := fun _ H R => R (Itl K a) H) (Itl K a) xs (fun H => SqL K H a xs) B hB P mono (fun R r => r H (Same.refl _) h0) walk_list (fun _ _ s q => s.seq q) hz he k
theorem Good.way {rows : List Str} {h w : Nat} (g : Good rows h w) (way : Nat) : Good (byWay rows way h w) (dw (way + 1) h w) (dw way h w) := by
  have mx : Mx (byWay rows way h w) (dw (way + 1) h w) (dw way h w) := by
    have z := turns_mx (way % 4) (g.mx.mirror way)
    rw [dw_mod, dw_mod1] at z
    exact z
  have h1 := g.h1
  have h2 := g.h2
  have w1 := g.w1
  have w2 := g.w2
  have d1 : ∀ n, 1 ≤ dw n h w ∧ dw n h w ≤ 32 := fun n => by
    unfold dw
    split <;> omega
  exact ⟨mx, (d1 _).1, (d1 _).2, (d1 _).1, (d1 _).2, Sg.turns (way % 4) (g.mx.mirror way) (g.sg.mirror way)⟩
theorem Good.pce {rows : List Str} {h w : Nat} (g : Good rows h w) : Pce rows w := ⟨by rw [g.mx.len]; exact g.h1, by rw [g.mx.len]; exact g.h2, g.w1, g.w2, fun z q => ⟨g.mx.row z q, g.sg z q⟩⟩
theorem Good.piece {rows : List Str} {h w : Nat} (g : Good rows h w) : Piece rows := ⟨by rw [g.mx.len]; exact g.h2, fun z q => by rw [g.mx.row z q]; exact g.w2, g.pce.is⟩
theorem sp_th {K : PySem.W.Frag} {H : Hp} {T : Addr} {x y : Int} {c : Nat} (h : H T = some (.tup [.int x, .int y, .str (one c)])) : Th K H (.ref T) (spD x y c) := .tup (st_of h) (.cons (.int _) (.cons (.int _) (.cons (.str _) .nil)))
/-- the sign at a place, moved -/
def zfOf (rows : List Str) (i j : Int) : Int × Int → Str := fun p => one (cell rows (p.1 - i).toNat (p.2 - j).toNat)
theorem zf_ok {rows : List Str} {h w : Nat} (m : Mx rows h w) {i j : Int} : ∀ d ∈ allD i j rows, ∃ x y : Int, d = .tuple [.int x, .int y, .str (zfOf rows i j (x, y))] := by
  intro d hd
  obtain ⟨x, y, _, _, _, rfl⟩ := (mem_allD m).mp hd
  refine ⟨i + x, j + y, ?_⟩
  have e1 : (i + (x : Int) - i).toNat = x := by omega
  have e2 : (j + (y : Int) - j).toNat = y := by omega
  unfold zfOf spD
  dsimp only
  rw [e1, e2]
theorem int_wt {i : Int} (h1 : -1048575 ≤ i) (h2 : i ≤ 1048575) : PyData.weight (.int i) ≤ 20 := by
  simp only [PyData.weight]
  split
  · omega
  · have : i.natAbs.log2 < 20 := (Nat.log2_lt (by rename_i h; simp at h; omega)).mpr (by omega)
    omega
theorem nice_int {i : Int} {R n : Nat} (h1 : -1048575 ≤ i) (h2 : i ≤ 1048575) (h : 20 ≤ R) : Nice R n (.int i) := by
  refine ⟨?_, ?_, Nat.le_trans (int_wt h1 h2) h, by simp only [PyData.depth]; omega, fun _ => by simp only [PyData.canLay0]⟩
  · simp only [PyData.showable]
    refine decide_eq_true ?_
    by_cases g : i.natAbs = 0
    · rw [g]; decide
    · have : i.natAbs.log2 < 20 := (Nat.log2_lt g).mpr (by omega)
      omega
  · have := PyData.shown_int_le2 (i := i) (by omega) (by omega)
    simp only [PyData.leavesShort]
    exact decide_eq_true (by omega)
theorem spots_nod : ∀ {ds : List PyData}, (∀ d ∈ ds, ∃ x y c, d = spD x y c) → PyData.hasDictAll ds = false
  | [], _ => by simp only [PyData.hasDictAll]
  | d :: ds, h => by
    obtain ⟨x, y, c, rfl⟩ := h d List.mem_cons_self
    simp only [PyData.hasDictAll, spots_nod fun e me => h e (List.mem_cons_of_mem _ me), Bool.or_false]
    unfold spD
    simp only [PyData.hasDict, PyData.hasDictAll, Bool.or_false]
theorem nice_spots {rows : List Str} {h w : Nat} (g : Good rows h w) {i j : Int} (hi : -1000 ≤ i ∧ i ≤ 1000) (hj : -1000 ≤ j ∧ j ≤ 1000) {ds : List PyData} (p : ds.Perm (allD i j rows)) : Nice 65536 3 (.list ds) ∧ PyData.hasDict (.list ds) = false := by
  have g1 := g.h2
  have g2 := g.w2
  constructor
  · refine Nice.list (R := 63) (fun d md => ?_) ?_
    · obtain ⟨x, y, hx, hy, _, rfl⟩ := (mem_allD g.mx).mp (p.mem_iff.mp md)
      obtain ⟨z, ez, ec⟩ := cell_get g.mx hx hy
      have oz := g.ok z (List.mem_of_getElem? ez)
      have oc : okS (one (cell rows x y)) = true := ok_one oz (List.mem_of_getElem? ec)
      unfold spD
      refine Nice.tuple (R := 20) (n := 1) (fun e me => ?_) (by show 3 * 21 ≤ 63; decide)
      simp only [List.mem_cons, List.not_mem_nil, or_false] at me
      rcases me with rfl | rfl | rfl
      · exact nice_int (by omega) (by omega) (by decide)
      · exact nice_int (by omega) (by omega) (by decide)
      · exact nice_str oc (by show 1 ≤ 20; decide) _
    · have h1 : ds.length ≤ 32 * 32 := by
        rw [p.length_eq]
        exact Nat.le_trans (allD_len (m := 32) g.piece.row) (Nat.mul_le_mul_left _ g.piece.len)
      have h2 : ds.length * (63 + 1) ≤ 32 * 32 * 64 := Nat.mul_le_mul_right _ h1
      exact h2
  · simp only [PyData.hasDict]
    refine spots_nod fun d md => ?_
    obtain ⟨x, y, _, _, _, rfl⟩ := (mem_allD g.mx).mp (p.mem_iff.mp md)
    exact ⟨_, _, _, rfl⟩
theorem no47 : ∀ c ∈ sgP.cps.toList, c ≠ 47 := by decide
theorem parts_join {rows : List Str} {m : Nat} (g : Pce rows m) : parts (Txt.join "/" rows) = rows := by
  rw [join_is]
  show (cutL 47 [] (SX.S (joined rows)).cps.toList).map SX.S = rows
  have e : (SX.S (joined rows)).cps.toList = joined rows := by simp
  rw [e]
  unfold joined
  rw [cut_join 47 _ (fun q => by have := g.l1; rw [List.map_eq_nil_iff] at q; rw [q] at this; cases this) fun r hr mr => ?_]
  · exact S_map rows
  · obtain ⟨z, hz, rfl⟩ := List.mem_map.mp hr
    exact no47 47 (of_decide_eq_true (List.all_eq_true.mp (g.row z hz).2 47 mr)) rfl
theorem join_short {rows : List Str} {m : Nat} (g : Pce rows m) : (Txt.join "/" rows).length ≤ 9990 := by
  rw [join_is, SX.S_len]
  have h1 := joined_len (m := 32) (rows := rows) fun z q => by rw [(g.row z q).1]; exact g.m2
  have h2 : rows.length * (32 + 1) ≤ 32 * 33 := Nat.mul_le_mul_right _ g.l2
  omega
def spSR (K : PySem.W.Frag) : Sp := fun vs H Q _ => ∃ (p : Addr) (rows : List Str) (h w way : Nat), vs = [.ref p, .int way] ∧ SqL K H p (rows.map V.str) ∧ Good rows h w ∧ way < 8 ∧ ∀ H', Same H H' → Q (.bl true) H'
theorem ok_sr (T : Tx K mg) (c_law_brought : Cg P w K mg base CX0 1 "_law_brought" (spBr K)) (c_spots_of : Cg P w K mg base CX0 4 "spots_of" (spSpots K)) (c_turned : Cg P w K mg base CX0 4 "turned" (spTurned K)) (c_read_piece : Cg P w K mg base (L2.CX P w) 4 "read_piece" (spRead K)) (c_show_piece : Cg P w K mg base CX0 4 "show_piece" (spShow K)) (F : FunD K "_law_spots_right" "_law_spots_right" (defArgs s_law_spots_right) (defBody s_law_spots_right) (defScope s_law_spots_right) [] [] f fd) : FnG P w K mg base CX0 5 f fd ["_law_rows_here", "_law_way"] (spSR K) := by
  refine FnG.of F sc_law_spots_right (fun vs H Q E h => ?_) (fun cdv A outer s H vs Q E hr gd h => ?_)
  · obtain ⟨p, rows, h, w, way, rfl, _⟩ := h
    rfl
  · obtain ⟨p, rows, h, w', way, rfl, hS, hg, hw, k⟩ := h
    have hu : (A.deeper (envOfC "_law_spots_right" (defScope s_law_spots_right) s.heap.objs.size f cdv)).units + 64 < cLine := by have := hr.un; omega
    refine ⟨_, PSs.nox (pss_cons
    (ps_asg (pe_tup (pa_cons (pe_callB (call_lenK K) (by rfl) T.len (by decide +kernel) (pa_cons (pe_ix (ix_K K) (zv 0) pe_int (fun _ _ => rfl)) pa_nil)) (pa_cons (pe_callB (call_lenK K) (by rfl) T.len (by decide +kernel) (pa_cons (zv 0) pa_nil)) pa_nil))) (pg_tupK K 2 (pgs_cons (pg_name (i := 2) sc_law_spots_right.nd rfl (Or.inr rfl)) (pgs_cons (pg_name (i := 3) sc_law_spots_right.nd rfl (Or.inr rfl)) pgs_nil))))
    (pss_cons
    (ps_set (i := 4) sc_law_spots_right.nd rfl (Or.inl rfl) (pe_callB (call_sortedSp K) (by rfl) T.sorted (by decide +kernel) (pa_cons (pe_lc (own := [("_law_spot", 7)]) rfl sc_law_spots_right.nd (pi_listK K (pe_cg c_spots_of hr gd (by decide) (by rfl) pass0 (pa_cons (zv 0) (pa_cons pe_int (pa_cons pe_int pa_nil))))) (blkOk_by (by kernel_rfl)) (fun _ _ _ _ _ => (pg_name (i := 7) sc_law_spots_right.nd rfl (Or.inl rfl))) (fun _ _ _ _ _ => pts_nil) (fun _ _ _ _ _ => (pe_cg c_law_brought hr gd (by decide) (by rfl) pass0 (pa_cons (zv 7) (pa_cons (zv 1) (pa_cons (zv 2) (pa_cons (zv 3) pa_nil))))))) pa_nil)))
    (pss_cons
    (ps_set (i := 5) sc_law_spots_right.nd rfl (Or.inl rfl) (pe_callB (call_sortedSp K) (by rfl) T.sorted (by decide +kernel) (pa_cons (pe_cg c_spots_of hr gd (by decide) (by rfl) pass0 (pa_cons (pe_cg c_turned hr gd (by decide) (by rfl) pass0 (pa_cons (zv 0) (pa_cons (zv 1) pa_nil))) (pa_cons pe_int (pa_cons pe_int pa_nil)))) pa_nil)))
    (pss_cons
    (ps_set (i := 6) sc_law_spots_right.nd rfl (Or.inl rfl) (pe_callB (call_sortedSp K) (by rfl) T.sorted (by decide +kernel) (pa_cons (pe_lc (own := [("_law_x", 8), ("_law_y", 9), ("_law_sign", 10)]) rfl sc_law_spots_right.nd (pi_listK K (zv 5)) (blkOk_by (by kernel_rfl)) (fun _ _ _ _ _ => (pg_tupK K 3 (pgs_cons (pg_name (i := 8) sc_law_spots_right.nd rfl (Or.inl rfl)) (pgs_cons (pg_name (i := 9) sc_law_spots_right.nd rfl (Or.inl rfl)) (pgs_cons (pg_name (i := 10) sc_law_spots_right.nd rfl (Or.inl rfl)) pgs_nil))))) (fun _ _ _ _ _ => pts_nil) (fun _ _ _ _ _ => (pe_tup (pa_cons (pe_op op_subZ (zv 8) pe_int) (pa_cons (pe_op op_addZ (zv 9) pe_int) (pa_cons (zv 10) pa_nil)))))) pa_nil)))
    (pss_cons
    (ps_if (pz_cmp (op_neK K hu) (zv 6) (pe_callB (call_sortedSp K) (by rfl) T.sorted (by decide +kernel) (pa_cons (pe_cg c_spots_of hr gd (by decide) (by rfl) pass0 (pa_cons (pe_cg c_turned hr gd (by decide) (by rfl) pass0 (pa_cons (zv 0) (pa_cons (zv 1) pa_nil))) (pa_cons (pe_un un_negZ pe_int) (pa_cons pe_int pa_nil)))) pa_nil)) (nomark _))
      (pss_one
        (ps_ret pe_bl))
      pss_nil)
    (pss_one
    (ps_ret (pz_and (pe_cmpR (op_eqK K hu) (zv 5) (zv 4) (nomark _)) (pe_one (pe_cmpR (op_eqK K hu) (pe_cg c_read_piece hr gd (by decide) (by rfl) passL (pa_cons (pe_cg c_show_piece hr gd (by decide) (by rfl) pass0 (pa_cons (pe_cg c_turned hr gd (by decide) (by rfl) pass0 (pa_cons (zv 0) (pa_cons (zv 1) pa_nil))) pa_nil)) pa_nil)) (pe_cg c_turned hr gd (by decide) (by rfl) pass0 (pa_cons (zv 0) (pa_cons (zv 1) pa_nil))) (nomark _))))))))))), ?_⟩
    try dsimp only [cxOf, Cx.nox]
    show (tSeq _ _) _ ([some (.ref p), some (.int way)] ++ _) _
    walk_at "zd"
    have hl := hg.mx.len
    have h1 := hg.h1
    have h2 := hg.h2
    have w1 := hg.w1
    have w2 := hg.w2
    have hl0 : 0 < rows.length := by omega
    have hr0 := hg.mx.row _ (List.getElem_mem hl0)
    refine ixN hS (j := 0) (v := .str rows[0]) (by rw [List.getElem?_map, List.getElem?_eq_getElem hl0]; rfl) (lenS (line5 (by omega)) (lenL hS (by rw [List.length_map]) ?_))
    rw [hr0, hl]
    refine ⟨line5 (show 2 ≤ 100000 by decide), fun p1 hp1 => ?_⟩
    have s1 := same_new (o := .tup [V.int (w' : Nat), V.int (h : Nat)]) hp1
    refine ⟨p1, _, rfl, st_of upd_same, rfl, _, _, rfl, _, [], rfl, rfl, ?_⟩
    revert s1
    generalize upd H p1 (.tup [V.int (w' : Nat), V.int (h : Nat)]) = H1
    intro s1
    clear hp1
    show (tSeq _ _) _ [some (.ref p), some (.int way), some (.int (w' : Nat)), some (.int (h : Nat)), none, none, none, none, none, none, none] H1
    walk_at "zd"
    have hS1 := s1.seq hS
    -- due
    have hpc := hg.piece
    have hm := hg.mx
    have gw := hg.way way
    have mw := gw.mx
    refine lc_open ?_
    walk_at "zd"
    refine ⟨p, rows, 0, 0, rfl, hS1, hpc, by decide, by decide, by decide, by decide, fun D0 ts H2 hD0 s2 e2 hA2 => ?_⟩
    have hA2 := ThA.mono (hd_le _ H2) _ _ hA2
    refine ⟨D0, rfl, ⟨_, sq_of e2⟩, ?_⟩
    have hal : (allD 0 0 rows).length ≤ 32 * 32 := Nat.le_trans (allD_len (m := 32) hpc.row) (Nat.mul_le_mul_left _ hpc.len)
    refine lcRG (K := K) (a := D0) (xs := ts) (fun _ => false) (fun _ z => by cases z) (fun i y G => ∃ d, ((allD 0 0 rows).map (brD way h w'))[i]? = some d ∧ Th K G y d) (fun _ _ _ _ s h => by obtain ⟨d, a, b⟩ := h; exact ⟨d, a, b.mono s⟩) (sq_of e2) (by rw [hA2.len]; omega) ?_ ?_
    · intro i v B' H' hv hBB sH sB hB' Q' R' q
      obtain ⟨d, hd1, ty⟩ := hA2.get hv
      obtain ⟨x, y, _, _, _, rfl⟩ := (mem_allD hm).mp (List.mem_of_getElem? hd1)
      refine ⟨rfl, ?_⟩
      dsimp only [tYes]
      rw [if_pos rfl]
      walk_at "zd"
      refine ⟨v, _, _, _, way, h, w', rfl, ty.mono sH, hw, fun T' x' y' H4 eb hT s4 e4 => q _ H4 s4 ⟨_, by rw [List.getElem?_map, hd1]; rfl, ?_⟩⟩
      rw [eb]
      exact sp_th (hd_of (hB'.off hT) e4)
    intro D1 acc1 H3 hD1 hl1 hP1 s3 _ e3
    have hA3 : ThA K H3 acc1 ((allD 0 0 rows).map (brD way h w')) := tha_of (by rw [hl1, hA2.len, List.length_map]) fun i y hy => by
      obtain ⟨d, a, b⟩ := hP1 i y hy
      exact ⟨d, a, b.mono (hd_le _ H3)⟩
    have pw := perm_way hm way
    have s03 := s2.trans s3
    clear hP1 hA2 e2 hD0 s2 s3 hD1
    refine ⟨D1, acc1, _, zfOf (byWay rows way h w') 0 0, rfl, sq_of e3, hA3, fun d md => zf_ok mw d (pw.mem_iff.mpr md), fun ys1 dd1 L1 hA1 hp1 hs1 hL1 => ?_⟩
    have s4 := same_new (o := .lst ys1) hL1
    have eL1 : upd H3 L1 (.lst ys1) L1 = some (.lst ys1) := upd_same
    have hB1 := ThA.mono s4 _ _ hA1
    have s04 := s03.trans s4
    revert eL1 hB1 s04
    generalize upd H3 L1 (.lst ys1) = H4
    intro eL1 hB1 s04
    clear s4 hL1 hA1 hA3 e3 s03 hl1
    have hD1 : dd1.Perm (allD 0 0 (byWay rows way h w')) := hp1.trans pw.symm
    -- found
    have hwl := (show (byWay rows way h w').length ≤ 32 by rw [mw.len]; exact gw.h2)
    have hS4 := s04.seq hS1
    refine ⟨p, rows, h, w', way, rfl, hS4, hm, h1, h2, w1, w2, hg.sg, hw, fun D2 H5 hD2 s5 e5 => ?_⟩
    refine ⟨D2, _, 0, 0, rfl, sq_of e5, gw.piece, by decide, by decide, by decide, by decide, fun D3 ts3 H6 hD3 s6 e6 hA6 => ?_⟩
    have hA6 := ThA.mono (hd_le _ H6) _ _ hA6
    refine ⟨D3, ts3, _, zfOf (byWay rows way h w') 0 0, rfl, sq_of e6, hA6, zf_ok mw, fun ys2 dd2 L2 hA7 hp2 hs2 hL2 => ?_⟩
    have e12 : dd2 = dd1 := srt_one hs2 hs1 (hp2.trans hD1.symm) fun a ha b hb e => key_one mw a (hp2.mem_iff.mp ha) b (hp2.mem_iff.mp hb) e
    subst e12
    have s7 := same_new (o := .lst ys2) hL2
    have eL2 : upd H6 L2 (.lst ys2) L2 = some (.lst ys2) := upd_same
    have hB2 := ThA.mono s7 _ _ hA7
    have s47 := (s5.trans s6).trans s7
    revert eL2 hB2 s47
    generalize upd H6 L2 (.lst ys2) = H7
    intro eL2 hB2 s47
    clear s7 hL2 hA7 hA6 e6 hD3 s6 e5 hD2 s5
    have eL1 := s47 _ _ eL1
    have hB1 := ThA.mono s47 _ _ hB1
    have s07 := s04.trans s47
    have hd2l : dd2.length ≤ 1024 := by
      rw [hp2.length_eq]
      exact Nat.le_trans (allD_len (m := 32) gw.piece.row) (Nat.le_trans (Nat.mul_le_mul_left _ hwl) (by decide))
    -- moved on
    refine comp_listRG (K := K) (a := L2) (xs := ys2) (fun _ => false) (fun _ z => by cases z) (fun i y G => ∃ d, (dd2.map (mvD (-7) 5))[i]? = some d ∧ Th K G y d) (fun _ _ _ _ s h => by obtain ⟨d, a, b⟩ := h; exact ⟨d, a, b.mono s⟩) (fun R r => r H7 (Same.refl _) (sq_of eL2)) (by rw [hB2.len]; omega) ?_ ?_
    · intro i v B' H' hv hBB sH sB hB' Q' R' q
      obtain ⟨d, hd1, ty⟩ := hB2.get hv
      obtain ⟨x, y, _, _, _, rfl⟩ := (mem_allD mw).mp (hp2.mem_iff.mp (List.mem_of_getElem? hd1))
      obtain ⟨b, rfl, hSb⟩ := th_sp (ty.mono sH)
      refine ⟨b, _, rfl, hSb, rfl, _, _, rfl, _, _, rfl, _, [], rfl, rfl, ?_⟩
      refine ⟨rfl, ?_⟩
      dsimp only [tYes]
      rw [if_pos rfl]
      walk_at "zd"
      refine ⟨line5 (show 3 ≤ 100000 by decide), fun u hu => q _ _ (same_new hu) ⟨_, by rw [List.getElem?_map, hd1]; rfl, ?_⟩⟩
      exact sp_th (hd_of (hB'.off hu) upd_same)
    intro D4 acc4 H8 hD4 hl4 hP4 s8 _ e8
    have hA8 : ThA K H8 acc4 (dd2.map (mvD (-7) 5)) := tha_of (by rw [hl4, hB2.len, List.length_map]) fun i y hy => by
      obtain ⟨d, a, b⟩ := hP4 i y hy
      exact ⟨d, a, b.mono (hd_le _ H8)⟩
    have pm : (dd2.map (mvD (-7) 5)).Perm (allD (-7) 5 (byWay rows way h w')) := (hp2.map _).trans (perm_move mw (-7) 5).symm
    have s08 := s07.trans s8
    have eL1 := s8 _ _ eL1
    have hB1 := ThA.mono s8 _ _ hB1
    have eL2 := s8 _ _ eL2
    have hB2 := ThA.mono s8 _ _ hB2
    clear hP4 s8 hD4 s07 s47 s04
    refine ⟨D4, acc4, _, zfOf (byWay rows way h w') (-7) 5, rfl, sq_of e8, hA8, fun d md => zf_ok mw d (pm.mem_iff.mp md), fun ys3 dd3 L3 hA9 hp3 hs3 hL3 => ?_⟩
    have s9 := same_new (o := .lst ys3) hL3
    have eL3 : upd H8 L3 (.lst ys3) L3 = some (.lst ys3) := upd_same
    have hB3 := ThA.mono s9 _ _ hA9
    have s09 := s08.trans s9
    have eL1 := s9 _ _ eL1
    have hB1 := ThA.mono s9 _ _ hB1
    have eL2 := s9 _ _ eL2
    have hB2 := ThA.mono s9 _ _ hB2
    revert eL3 hB3 s09 eL1 hB1 eL2 hB2
    generalize upd H8 L3 (.lst ys3) = H9
    intro eL3 hB3 s09 eL1 hB1 eL2 hB2
    clear s9 hL3 hA9 hA8 e8 s08
    have hp3 := hp3.trans pm
    refine ⟨p, rows, h, w', way, rfl, s09.seq hS1, hm, h1, h2, w1, w2, hg.sg, hw, fun D5 HA hD5 sA eA => ?_⟩
    refine ⟨D5, _, -7, 5, rfl, sq_of eA, gw.piece, by decide, by decide, by decide, by decide, fun D6 ts6 HB hD6 sB eB hA6 => ?_⟩
    have hA6 := ThA.mono (hd_le _ HB) _ _ hA6
    refine ⟨D6, ts6, _, zfOf (byWay rows way h w') (-7) 5, rfl, sq_of eB, hA6, zf_ok mw, fun ys4 dd4 L4 hA7 hp4 hs4 hL4 => ?_⟩
    have e34 : dd4 = dd3 := srt_one hs4 hs3 (hp4.trans hp3.symm) fun a ha b hb e => key_one mw a (hp4.mem_iff.mp ha) b (hp4.mem_iff.mp hb) e
    subst e34
    have sC := (sA.trans sB).trans (same_new (o := .lst ys4) hL4)
    obtain ⟨n1, n2⟩ := nice_spots gw (by omega) (by omega) hp4
    have sL4 := same_new (o := .lst ys4) hL4
    refine eqTh (.lst (sq_of (sC _ _ eL3)) (ThA.mono sC _ _ hB3)) (.lst (sq_of upd_same) (ThA.mono sL4 _ _ hA7)) n1 (by decide) n2 ?_
    refine iteF ?_
    obtain ⟨n1, n2⟩ := nice_spots gw (i := 0) (j := 0) (by omega) (by omega) hp2
    refine eqTh (.lst (sq_of (sC _ _ eL2)) (ThA.mono sC _ _ hB2)) (.lst (sq_of (sC _ _ eL1)) (ThA.mono sC _ _ hB1)) n1 (by decide) n2 ?_
    refine iteT ?_
    have s0C := s09.trans sC
    refine ⟨p, rows, h, w', way, rfl, s0C.seq hS1, hm, h1, h2, w1, w2, hg.sg, hw, fun D7 HD hD7 sD eD => ?_⟩
    refine ⟨D7, _, _, rfl, sq_of eD, gw.pce, fun HE sE => ?_⟩
    refine ⟨.str _, .str _, rfl, .str _, fun z e => by cases e; exact join_short gw.pce, fun z e hr D8 HF hD8 sF eF => ?_, fun h => ?_⟩
    · cases e
      rw [parts_join gw.pce] at eF
      have s0F := ((s0C.trans sD).trans sE).trans sF
      refine ⟨p, rows, h, w', way, rfl, s0F.seq hS1, hm, h1, h2, w1, w2, hg.sg, hw, fun D9 HG hD9 sG eG => ?_⟩
      refine eqStrs (sq_of (sG _ _ eF)) (sq_of eG) (hg.okW way) (hg.okW way) ?_
      have ed : id (decide (byWay rows way h w' = byWay rows way h w')) = true := decide_eq_true rfl
      rw [ed]
      exact k HG ((s1.trans s0F).trans sG)
    · have := h _ rfl
      unfold reads at this
      rw [parts_join gw.pce, gw.pce.is] at this
      cases this

/-! ### the margins -/
def AllC (P : Nat → Prop) (rows : List Str) (h w : Nat) : Prop := ∀ x y, x < w → y < h → P (cell rows x y)
theorem allC_turns {P : Nat → Prop} (n : Nat) : ∀ {rows : List Str} {h w : Nat}, Mx rows h w → AllC P rows h w → AllC P (turns n rows h w) (dw (n + 1) h w) (dw n h w) := by
  induction n with
  | zero => intro rows h w _ a; exact a
  | succ n ih =>
    intro rows h w m a
    have z := ih m.right fun x y hx hy => by
      rw [cell_right m hy hx]
      exact a _ _ hy (by omega)
    rw [dw_swap n h w, dw_swap (n + 1) h w] at z
    exact z
theorem allC_way {P : Nat → Prop} {rows : List Str} {h w : Nat} (m : Mx rows h w) (a : AllC P rows h w) (way : Nat) : AllC P (byWay rows way h w) (dw (way + 1) h w) (dw way h w) := by
  unfold byWay
  rw [mirror_is]
  by_cases c : 4 ≤ way
  · rw [if_pos c]
    have z := allC_turns (way % 4) m.mir fun x y hx hy => by
      rw [cell_mir m hx hy]
      exact a _ _ (by omega) hy
    rw [dw_mod, dw_mod1] at z
    exact z
  · rw [if_neg c]
    have z := allC_turns (way % 4) m a
    rw [dw_mod, dw_mod1] at z
    exact z
theorem allC_rows {P : Nat → Prop} {rows : List Str} {h w : Nat} (m : Mx rows h w) : AllC P rows h w ↔ ∀ z ∈ rows, ∀ c ∈ z.cps.toList, P c := by
  constructor
  · intro a z hz c hc
    obtain ⟨y, ey⟩ := List.getElem?_of_mem hz
    obtain ⟨x, ex⟩ := List.getElem?_of_mem hc
    have hy : y < h := by have := (List.getElem?_eq_some_iff.mp ey).1; have := m.len; omega
    have hx : x < w := by have := (List.getElem?_eq_some_iff.mp ex).1; rw [str_len, m.row z hz] at this; exact this
    obtain ⟨z', e1, e2⟩ := cell_get m hx hy
    rw [ey] at e1
    cases e1
    rw [ex] at e2
    cases e2
    exact a x y hx hy
  · intro a x y hx hy
    obtain ⟨z, e1, e2⟩ := cell_get m hx hy
    exact a z (List.mem_of_getElem? e1) _ (List.mem_of_getElem? e2)
/-- a picture -/
structure Pcr (rows : List Str) (h w : Nat) : Prop where
  g : Good rows h w
  sg : ∀ z ∈ rows, ∀ c ∈ z.cps.toList, c ∈ sgS.cps.toList
theorem Pcr.way {rows : List Str} {h w : Nat} (p : Pcr rows h w) (way : Nat) : Pcr (byWay rows way h w) (dw (way + 1) h w) (dw way h w) :=
  ⟨p.g.way way, (allC_rows (p.g.way way).mx).mp (allC_way p.g.mx ((allC_rows p.g.mx).mpr p.sg) way)⟩
theorem Pcr.even {rows : List Str} {h w : Nat} (p : Pcr rows h w) : Even rows w := ⟨by rw [p.g.mx.len]; have := p.g.h2; omega, by have := p.g.w2; omega, p.g.mx.row⟩
theorem Pcr.is {rows : List Str} {h w : Nat} (p : Pcr rows h w) : isRows sgS 32 (.list (rows.map .str)) = true := isRows_of (by rw [p.g.mx.len]; exact p.g.h1) (by rw [p.g.mx.len]; exact p.g.h2) p.g.w1 p.g.w2 fun z q => ⟨p.g.mx.row z q, List.all_eq_true.mpr fun c mc => decide_eq_true (p.sg z q c mc)⟩
/-- the one box -/
theorem box_one {rows : List Str} {h w : Nat} {q : Bq} (m : Mx rows h w) (b : BoxC rows h w q) {L R A B : Nat} (c : Box rows L R A B) : L = q.L ∧ R = q.R ∧ A = q.A ∧ B = q.B := c.same ((box_c m).mpr b)
def mgL (g : Mg) : List V := [.int g.l, .int g.a, .int g.r, .int g.b]
def spMg (K : PySem.W.Frag) : Sp := fun vs H Q _ => ∃ (p : Addr) (rows : List Str) (h w : Nat) (q : Bq), vs = [.ref p] ∧ SqL K H p (rows.map V.str) ∧ Pcr rows h w ∧ BoxC rows h w q ∧ ∀ D H', Same H H' → H' D = some (.lst (mgL (mgOf q h w))) → Q (.ref D) H'
theorem ok_mg (T : Tx K mg) (c_trimmed : Cg P w K mg base CX0 4 "trimmed" (spTrim K)) (F : FunD K "_law_margins" "_law_margins" (defArgs s_law_margins) (defBody s_law_margins) (defScope s_law_margins) [] [] f fd) : FnG P w K mg base CX0 5 f fd ["_law_rows_here"] (spMg K) := by
  refine FnG.of F sc_law_margins (fun vs H Q E h => ?_) (fun cdv A outer s H vs Q E hr gd h => ?_)
  · obtain ⟨p, rows, h, w, q, rfl, _⟩ := h
    rfl
  · obtain ⟨p, rows, h, w', q, rfl, hS, hp, hb, k⟩ := h
    have hu : (A.deeper (envOfC "_law_margins" (defScope s_law_margins) s.heap.objs.size f cdv)).units + 64 < cLine := by have := hr.un; omega
    refine ⟨_, PSs.nox (pss_cons
    (ps_asg (pe_cg c_trimmed hr gd (by decide) (by rfl) pass0 (pa_cons (zv 0) pa_nil)) (pg_tupK K 3 (pgs_cons (pg_name (i := 1) sc_law_margins.nd rfl (Or.inl rfl)) (pgs_cons (pg_name (i := 2) sc_law_margins.nd rfl (Or.inl rfl)) (pgs_cons (pg_name (i := 3) sc_law_margins.nd rfl (Or.inl rfl)) pgs_nil)))))
    (pss_one
    (ps_ret (pe_lst (pa_cons (zv 1) (pa_cons (zv 2) (pa_cons (pe_op op_subZ (pe_op op_subZ (pe_callB (call_lenK K) (by rfl) T.len (by decide +kernel) (pa_cons (pe_ix (ix_K K) (zv 0) pe_int (fun _ _ => rfl)) pa_nil)) (zv 1)) (pe_callB (call_lenK K) (by rfl) T.len (by decide +kernel) (pa_cons (pe_ix (ix_K K) (zv 3) pe_int (fun _ _ => rfl)) pa_nil))) (pa_cons (pe_op op_subZ (pe_op op_subZ (pe_callB (call_lenK K) (by rfl) T.len (by decide +kernel) (pa_cons (zv 0) pa_nil)) (zv 2)) (pe_callB (call_lenK K) (by rfl) T.len (by decide +kernel) (pa_cons (zv 3) pa_nil))) pa_nil)))))))), ?_⟩
    try dsimp only [cxOf, Cx.nox]
    show (tSeq _ _) _ [some (.ref p), none, none, none] _
    have hm := hp.g.mx
    have hl := hm.len
    have h1 := hp.g.h1
    have h2 := hp.g.h2
    have w2 := hp.g.w2
    have i := hb.bin
    have i1 := i.lr
    have i2 := i.rw
    have i3 := i.ab
    have i4 := i.bh
    walk_at "zd"
    refine ⟨p, rows, w', rfl, hS, hp.even, hp.is, ⟨fun H1 no _ => ?_, fun T' D L R A' B H1 hB hT hD _ s1 eT eD => ?_⟩⟩
    · obtain ⟨y, n⟩ := hb.l
      obtain ⟨z, e, n⟩ := (ng_cell hm).mpr n
      exact absurd n (no _ _ _ e)
    obtain ⟨rfl, rfl, rfl, rfl⟩ := box_one hm hb hB
    refine ⟨T', _, rfl, st_of eT, rfl, _, _, rfl, _, _, rfl, _, [], rfl, rfl, ?_⟩
    walk_at "zd"
    have mk := inB_mx hm i
    have eD : H1 D = some (.lst ((inB rows q).map V.str)) := eD
    have hl0 : 0 < rows.length := by omega
    have hr0 := hm.row _ (List.getElem_mem hl0)
    have kl := mk.len
    have kl0 : 0 < (inB rows q).length := by omega
    have kr0 := mk.row _ (List.getElem_mem kl0)
    refine ixN (s1.seq hS) (j := 0) (v := .str rows[0]) (by rw [List.getElem?_map, List.getElem?_eq_getElem hl0]; rfl) (lenS (line5 (by omega)) ?_)
    refine ixN (sq_of eD) (j := 0) (v := .str (inB rows q)[0]) (by rw [List.getElem?_map, List.getElem?_eq_getElem kl0]; rfl) (lenS (line5 (by omega)) ?_)
    refine lenL (s1.seq hS) (by rw [List.length_map]) ?_
    refine lenL (sq_of eD) (by rw [List.length_map]) ?_
    rw [hr0, hl, kl, kr0]
    refine ⟨line5 (show 4 ≤ 100000 by decide), fun u hu => k u _ (s1.trans (same_new hu)) ?_⟩
    have e1 : ((w' : Nat) : Int) - (q.L : Int) - ((q.R + 1 - q.L : Nat) : Int) = ((w' - 1 - q.R : Nat) : Int) := by omega
    have e2 : ((h : Nat) : Int) - (q.A : Int) - ((q.B + 1 - q.A : Nat) : Int) = ((h - 1 - q.B : Nat) : Int) := by omega
    rw [upd_same, e1, e2]
    rfl

/-! ### trimming is right -/
theorem Good.inB {rows : List Str} {h w : Nat} {q : Bq} (g : Good rows h w) (i : Bin q h w) : Good (inB rows q) (q.B + 1 - q.A) (q.R + 1 - q.L) := by
  have i1 := i.lr
  have i2 := i.rw
  have i3 := i.ab
  have i4 := i.bh
  have h2 := g.h2
  have w2 := g.w2
  have mk := inB_mx g.mx i
  refine ⟨mk, by omega, by omega, by omega, by omega, fun z hz => List.all_eq_true.mpr fun c hc => ?_⟩
  refine (allC_rows (P := fun c => inSg sgP c = true) mk).mp (fun x y hx hy => ?_) z hz c hc
  rw [inB_cell g.mx i hx hy]
  exact (allC_rows (P := fun c => inSg sgP c = true) g.mx).mpr (fun z hz c hc => List.all_eq_true.mp (g.sg z hz) c hc) _ _ (by omega) (by omega)
def trD (l a : Nat) (rows : List Str) : PyData := .tuple [.int (l : Nat), .int (a : Nat), .list (rows.map .str)]
theorem nod_strs : ∀ l : List Str, PyData.hasDictAll (l.map .str) = false
  | [] => by simp only [List.map_nil, PyData.hasDictAll]
  | x :: l => by simp only [List.map_cons, PyData.hasDictAll, PyData.hasDict, nod_strs l, Bool.or_self]
theorem nice_tr {l a : Nat} {rows : List Str} {h w : Nat} (g : Good rows h w) (hl : l ≤ 1000) (ha : a ≤ 1000) : Nice 20000 5 (trD l a rows) ∧ PyData.hasDict (trD l a rows) = false := by
  have hs : ∀ e ∈ rows.map PyData.str, Nice 32 1 e := fun e me => by
    obtain ⟨z, hz, rfl⟩ := List.mem_map.mp me
    exact nice_str (g.ok z hz) (by rw [g.mx.row z hz]; exact g.w2) _
  have nl : Nice 1100 2 (.list (rows.map .str)) := Nice.list (R := 32) (n := 1) hs (by
    rw [List.length_map, g.mx.len]
    have : h * 33 ≤ 32 * 33 := Nat.mul_le_mul_right _ g.h2
    omega)
  constructor
  · refine (Nice.tuple (R := 1100) (n := 2) (R' := 3 * 1101) (fun e me => ?_) (Nat.le_refl _)).mono (by decide) (by decide)
    simp only [List.mem_cons, List.not_mem_nil, or_false] at me
    rcases me with rfl | rfl | rfl
    · exact nice_int (by omega) (by omega) (by decide)
    · exact nice_int (by omega) (by omega) (by decide)
    · exact nl
  · unfold trD
    simp only [PyData.hasDict, PyData.hasDictAll, nod_strs rows, Bool.or_self]
def spTR (K : PySem.W.Frag) : Sp := fun vs H Q _ => ∃ (p : Addr) (rows : List Str) (h w way : Nat), vs = [.ref p, .int way] ∧ SqL K H p (rows.map V.str) ∧ Pcr rows h w ∧ way < 8 ∧ ∀ H', Same H H' → Q (.bl true) H'
theorem ok_tr (T : Tx K mg) (c_trimmed : Cg P w K mg base CX0 4 "trimmed" (spTrim K)) (c_turned : Cg P w K mg base CX0 4 "turned" (spTurned K)) (c_law_margins : Cg P w K mg base CX0 5 "_law_margins" (spMg K)) (F : FunD K "_law_trimmed_right" "_law_trimmed_right" (defArgs s_law_trimmed_right) (defBody s_law_trimmed_right) (defScope s_law_trimmed_right) [] [] f fd) : FnG P w K mg base CX0 6 f fd ["_law_rows_here", "_law_way"] (spTR K) := by
  refine FnG.of F sc_law_trimmed_right (fun vs H Q E h => ?_) (fun cdv A outer s H vs Q E hr gd h => ?_)
  · obtain ⟨p, rows, h, w, way, rfl, _⟩ := h
    rfl
  · obtain ⟨p, rows, h, w', way, rfl, hS, hp, hw, k⟩ := h
    have hu : (A.deeper (envOfC "_law_trimmed_right" (defScope s_law_trimmed_right) s.heap.objs.size f cdv)).units + 64 < cLine := by have := hr.un; omega
    refine ⟨_, PSs.nox (pss_cons
    (ps_if (pz_cmp op_isN (pe_cg c_trimmed hr gd (by decide) (by rfl) pass0 (pa_cons (zv 0) pa_nil)) pe_non (nomark _))
      (pss_one
        (ps_ret (pe_cmpR op_isN (pe_cg c_trimmed hr gd (by decide) (by rfl) pass0 (pa_cons (pe_cg c_turned hr gd (by decide) (by rfl) pass0 (pa_cons (zv 0) (pa_cons (zv 1) pa_nil))) pa_nil)) pe_non (nomark _))))
      pss_nil)
    (pss_cons
    (ps_asg (pe_cg c_law_margins hr gd (by decide) (by rfl) pass0 (pa_cons (zv 0) pa_nil)) (pg_unlK K 4 (pgs_cons (pg_name (i := 2) sc_law_trimmed_right.nd rfl (Or.inl rfl)) (pgs_cons (pg_name (i := 3) sc_law_trimmed_right.nd rfl (Or.inl rfl)) (pgs_cons (pg_name (i := 4) sc_law_trimmed_right.nd rfl (Or.inl rfl)) (pgs_cons (pg_name (i := 5) sc_law_trimmed_right.nd rfl (Or.inl rfl)) pgs_nil))))))
    (C8.pss_cut
    (ps_if (pz_cmp op_gtZ (zv 1) pe_int (nomark _))
      (pss_one
        (ps_par (i := 2) (j := 4) rfl sc_law_trimmed_right.nd rfl rfl (by decide) rfl rfl (pa_cons (zv 4) (pa_cons (zv 2) pa_nil)) (by rfl)))
      pss_nil)
    (pss_cons
    (ps_for PassesOwn.never rfl (pi_range1 (by rfl) T.range (pa_cons (pe_op op_modZ (zv 1) pe_int) pa_nil)) (pg_name (i := 6) sc_law_trimmed_right.nd rfl (Or.inl rfl))
      (pss_one
        (ps_asg (pe_tup (pa_cons (zv 5) (pa_cons (zv 2) (pa_cons (zv 3) (pa_cons (zv 4) pa_nil))))) (pg_tupK K 4 (pgs_cons (pg_name (i := 2) sc_law_trimmed_right.nd rfl (Or.inl rfl)) (pgs_cons (pg_name (i := 3) sc_law_trimmed_right.nd rfl (Or.inl rfl)) (pgs_cons (pg_name (i := 4) sc_law_trimmed_right.nd rfl (Or.inl rfl)) (pgs_cons (pg_name (i := 5) sc_law_trimmed_right.nd rfl (Or.inl rfl)) pgs_nil))))))))
    (pss_cons
    (ps_if (pz_cmp (op_neK K hu) (pe_cg c_trimmed hr gd (by decide) (by rfl) pass0 (pa_cons (pe_cg c_turned hr gd (by decide) (by rfl) pass0 (pa_cons (zv 0) (pa_cons (zv 1) pa_nil))) pa_nil)) (pe_tup (pa_cons (zv 2) (pa_cons (zv 3) (pa_cons (pe_cg c_turned hr gd (by decide) (by rfl) pass0 (pa_cons (pe_ix (ix_K K) (pe_cg c_trimmed hr gd (by decide) (by rfl) pass0 (pa_cons (zv 0) pa_nil)) pe_int (fun _ _ => rfl)) (pa_cons (zv 1) pa_nil))) pa_nil)))) (nomark _))
      (pss_one
        (ps_ret pe_bl))
      pss_nil)
    (pss_one
    (ps_ret (pe_cmpR (op_eqK K hu) (pe_cg c_law_margins hr gd (by decide) (by rfl) pass0 (pa_cons (pe_cg c_turned hr gd (by decide) (by rfl) pass0 (pa_cons (zv 0) (pa_cons (zv 1) pa_nil))) pa_nil)) (pe_lst (pa_cons (zv 2) (pa_cons (zv 3) (pa_cons (zv 4) (pa_cons (zv 5) pa_nil))))) (nomark _))))))))), ?_⟩
    try dsimp only [cxOf, Cx.nox]
    show (tSeq _ _) _ [some (.ref p), some (.int way), none, none, none, none, none] _
    have hm := hp.g.mx
    have h1 := hp.g.h1
    have h2 := hp.g.h2
    have w1 := hp.g.w1
    have w2 := hp.g.w2
    have gw := hp.way way
    have mw := gw.g.mx
    walk_at "zd"
    refine ⟨p, rows, w', rfl, hS, hp.even, hp.is, ⟨fun H1 no s1 => ?_, fun T' D L R A' B H1 hB hT hD _ s1 eT eD => ?_⟩⟩
    · have noC : ∀ x y, ¬ ngC rows h w' x y := fun x y n => by
        obtain ⟨z, e, n⟩ := (ng_cell hm).mpr n
        exact no _ _ _ e n
      have noW := no_way hm way noC
      refine ⟨rfl, ?_⟩
      rw [decide_eq_true rfl]
      refine iteT ?_
      refine ⟨p, rows, h, w', way, rfl, s1.seq hS, hm, h1, h2, w1, w2, hp.g.sg, hw, fun D HA hD sA eA => ?_⟩
      refine ⟨D, _, _, rfl, sq_of eA, gw.even, gw.is, ⟨fun H2 _ s2 => ⟨rfl, ?_⟩, fun T' D L R A' B H2 hB _ _ _ _ _ _ => ?_⟩⟩
      · rw [decide_eq_true rfl]
        exact k H2 ((s1.trans sA).trans s2)
      · obtain ⟨j, z, e, n⟩ := hB.l
        exact absurd ((ng_cell mw).mp ⟨z, e, n⟩) (noW _ _)
    refine ⟨rfl, ?_⟩
    rw [decide_eq_false (by intro e; cases e)]
    refine iteF ?_
    have hb : BoxC rows h w' ⟨L, R, A', B⟩ := (box_c hm).mp hB
    generalize hq : (⟨L, R, A', B⟩ : Bq) = q at hb
    clear eT eD hB
    refine ⟨p, rows, h, w', q, rfl, s1.seq hS, hp, hb, fun D2 H2 s2 e2 => ?_⟩
    refine ⟨D2, _, rfl, sq_of e2, rfl, ?_⟩
    refine ⟨_, _, rfl, _, _, rfl, _, _, rfl, _, [], rfl, rfl, ?_⟩
    walk_at "zd"
    have s12 := s1.trans s2
    clear s1 s2 e2
    refine ⟨fun σ H' => ∃ g1 : Mg, σ = [some (.ref p), some (.int way), some (.int g1.l), some (.int g1.a), some (.int g1.r), some (.int g1.b), none] ∧ H' = H2 ∧ mgW way (mgOf q h w') = mgT (way % 4) g1, ?_, ?_⟩
    · walk_at "zd"
      refine gtI (iteD (fun c => ?_) fun c => ?_)
      · walk_at "zd"
        refine ⟨_, _, rfl, mgM (mgOf q h w'), rfl, rfl, ?_⟩
        unfold mgW
        rw [if_pos (by omega)]
      · refine ⟨mgOf q h w', rfl, rfl, ?_⟩
        unfold mgW
        rw [if_neg (by omega)]
    rintro σ H3 ⟨g1, rfl, rfl, eg⟩
    walk_at "zd"
    refine for_rng ?_
    walk_at "zd"
    have em : ((way : Int) % 4).toNat = way % 4 := by omega
    refine ⟨by decide, _, rfl, by omega, by omega, ?_⟩
    rw [em]
    refine for_range (lo := 0) (n := way % 4) (fun i σ H2 => ∃ (g2 : Mg) (k : Option V), σ = [some (.ref p), some (.int way), some (.int g2.l), some (.int g2.a), some (.int g2.r), some (.int g2.b), k] ∧ Same H3 H2 ∧ mgW way (mgOf q h w') = mgT (way % 4 - i) g2) ⟨g1, none, rfl, Same.refl _, eg⟩ ?_ ?_
    · rintro i σ H4 hi ⟨g2, k2, rfl, s4, e4⟩
      walk_at "zd"
      have e3 : way % 4 - i = (way % 4 - (i + 1)) + 1 := by omega
      rw [e3] at e4
      refine ⟨line5 (show 4 ≤ 100000 by decide), fun u hu => ⟨u, _, rfl, st_of upd_same, rfl, _, _, rfl, _, _, rfl, _, _, rfl, _, [], rfl, rfl, ?_⟩⟩
      exact ⟨mgR g2, _, rfl, s4.trans (same_new hu), e4⟩
    rintro σ H4 ⟨g3, k3, rfl, s4, e4⟩
    rw [Nat.sub_self] at e4
    have e4 : mgW way (mgOf q h w') = g3 := e4
    subst e4
    have s04 := s12.trans s4
    walk_at "zd"
    have hS4 := s04.seq hS
    have i := hb.bin
    obtain ⟨bw, iw⟩ := box_way hm hb way
    have mg := mg_way i way
    have gk := hp.g.inB i
    refine ⟨p, rows, h, w', way, rfl, hS4, hm, h1, h2, w1, w2, hp.g.sg, hw, fun D5 H5 hD5 s5 e5 => ?_⟩
    refine ⟨D5, _, _, rfl, sq_of e5, gw.even, gw.is, ⟨fun H6 no s6 => ?_, fun T1 D6 L1 R1 A1 B1 H6 hB1 hT1 hD6 _ s6 eT1 eD6 => ?_⟩⟩
    · obtain ⟨y, n⟩ := bw.l
      obtain ⟨z, e, n⟩ := (ng_cell mw).mpr n
      exact absurd n (no _ _ _ e)
    obtain ⟨rfl, rfl, rfl, rfl⟩ := box_one mw bw hB1
    have s46 := s5.trans s6
    have hS6 := s46.seq hS4
    refine ⟨p, rows, w', rfl, hS6, hp.even, hp.is, ⟨fun H7 no s7 => ?_, fun T2 D7 L2 R2 A2 B2 H7 hB2 hT2 hD7 _ s7 eT2 eD7 => ?_⟩⟩
    · obtain ⟨y, n⟩ := hb.l
      obtain ⟨z, e, n⟩ := (ng_cell hm).mpr n
      exact absurd n (no _ _ _ e)
    obtain ⟨rfl, rfl, rfl, rfl⟩ := box_one hm hb hB2
    refine ixT (i := 2) (st_of eT2) (atI_nat (j := 2) rfl) ?_
    have eD7 : H7 D7 = some (.lst ((inB rows q).map V.str)) := eD7
    refine ⟨D7, inB rows q, _, _, way, rfl, sq_of eD7, gk.mx, gk.h1, gk.h2, gk.w1, gk.w2, gk.sg, hw, fun D8 H8 hD8 s8 e8 => ?_⟩
    refine ⟨line5 (show 3 ≤ 100000 by decide), fun u hu => ?_⟩
    have s9 := same_new (o := .tup [V.int ((mgW way (mgOf q h w')).l : Nat), V.int ((mgW way (mgOf q h w')).a : Nat), V.ref D8]) hu
    have s69 := (s7.trans s8).trans s9
    have eD6 : H6 D6 = some (.lst ((inB (byWay rows way h w') (bqW way h w' q)).map V.str)) := eD6
    rw [iw] at eD6
    have ib := bw.bin
    have b1 := ib.lr
    have b2 := ib.rw
    have b3 := ib.ab
    have b4 := ib.bh
    have g2 := gw.g.h2
    have g3 := gw.g.w2
    rw [← mg] at s9 s69 ⊢
    obtain ⟨n1, n2⟩ := nice_tr (l := (bqW way h w' q).L) (a := (bqW way h w' q).A) (gk.way way) (by omega) (by omega)
    have tA : Th K (upd H8 u (.tup [V.int ((mgOf (bqW way h w' q) (dw (way + 1) h w') (dw way h w')).l : Nat), V.int ((mgOf (bqW way h w' q) (dw (way + 1) h w') (dw way h w')).a : Nat), V.ref D8])) (.ref T1) (trD (bqW way h w' q).L (bqW way h w' q).A (byWay (inB rows q) way (q.B + 1 - q.A) (q.R + 1 - q.L))) :=
      .tup (st_of (s69 _ _ eT1)) (.cons (.int _) (.cons (.int _) (.cons (.lst (sq_of (s69 _ _ eD6)) (ThA.strs _)) .nil)))
    have tB : Th K (upd H8 u (.tup [V.int ((mgOf (bqW way h w' q) (dw (way + 1) h w') (dw way h w')).l : Nat), V.int ((mgOf (bqW way h w' q) (dw (way + 1) h w') (dw way h w')).a : Nat), V.ref D8])) (.ref u) (trD (bqW way h w' q).L (bqW way h w' q).A (byWay (inB rows q) way (q.B + 1 - q.A) (q.R + 1 - q.L))) :=
      .tup (st_of upd_same) (.cons (.int _) (.cons (.int _) (.cons (.lst (sq_of (s9 _ _ e8)) (ThA.strs _)) .nil)))
    refine eqTh tA tB n1 (by decide) n2 ?_
    refine iteF ?_
    have sL := s46.trans s69
    clear tA tB eT1 eT2 eD6 eD7 e8
    refine ⟨p, rows, h, w', way, rfl, sL.seq hS4, hm, h1, h2, w1, w2, hp.g.sg, hw, fun D9 H9 hD9 sM eM => ?_⟩
    refine ⟨D9, _, _, _, bqW way h w' q, rfl, sq_of eM, gw, bw, fun DX HX sX eX => ?_⟩
    refine ⟨line5 (show 4 ≤ 100000 by decide), fun y hy => ?_⟩
    have sY := same_new (o := .lst (mgL (mgOf (bqW way h w' q) (dw (way + 1) h w') (dw way h w')))) hy
    have nm : Nice 100 1 (.list [.int ((bqW way h w' q).L : Nat), .int ((bqW way h w' q).A : Nat), .int ((dw way h w' - 1 - (bqW way h w' q).R : Nat) : Int), .int ((dw (way + 1) h w' - 1 - (bqW way h w' q).B : Nat) : Int)]) := by
      refine Nice.list (R := 20) (n := 0) (fun e me => ?_) (by show 4 * 21 ≤ 100; decide)
      simp only [List.mem_cons, List.not_mem_nil, or_false] at me
      rcases me with rfl | rfl | rfl | rfl <;> exact nice_int (by omega) (by omega) (by decide)
    refine eqTh (.lst (sq_of (sY _ _ eX)) (.cons (.int _) (.cons (.int _) (.cons (.int _) (.cons (.int _) .nil))))) (.lst (sq_of upd_same) (.cons (.int _) (.cons (.int _) (.cons (.int _) (.cons (.int _) .nil))))) nm (by decide) (by simp only [PyData.hasDict, PyData.hasDictAll, Bool.or_self]) ?_
    exact k _ ((((s04.trans sL).trans sM).trans sX).trans sY)

/-! ### the law -/
theorem sgS_P : ∀ c ∈ sgS.cps.toList, c ∈ sgP.cps.toList := by decide
theorem gr_facts : ∀ z ∈ [(".....a" : Str), ".", "..bc", ".........z"], 1 ≤ z.length ∧ z.length ≤ 28 ∧ z.cps.toList.all (inSg sgS) = true := by decide
theorem nice_rows {rows : List Str} {h w : Nat} (g : Good rows h w) : Nice 1100 2 (.list (rows.map .str)) := Nice.list (R := 32) (n := 1) (fun e me => by
    obtain ⟨z, hz, rfl⟩ := List.mem_map.mp me
    exact nice_str (g.ok z hz) (by rw [g.mx.row z hz]; exact g.w2) _) (by
    rw [List.length_map, g.mx.len]
    have : h * 33 ≤ 32 * 33 := Nat.mul_le_mul_right _ g.h2
    omega)
theorem back_then : ∀ a : Fin 8, thenW a.val (backW a.val) = 0 ∧ backW a.val < 8 := by decide
theorem back_rows {rows : List Str} {h w way : Nat} (m : Mx rows h w) (hw : way < 8) : byWay (byWay rows way h w) (backW way) (dw (way + 1) h w) (dw way h w) = rows := by
  obtain ⟨e1, e2⟩ := back_then ⟨way, hw⟩
  have e1 : thenW way (backW way) = 0 := e1
  rw [then_way m hw e2, e1]
  rfl
def spLaw (K : PySem.W.Frag) : Sp := fun vs H Q _ => ∃ (a : Addr) (ns : List Int), vs = [.ref a] ∧ SqL K H a (ns.map V.int) ∧ ns.length ≤ 63 ∧ ∀ H', Q (.bl true) H'
theorem ok_law (T : Tx K mg) (c_law_bag : Cg P w K mg base CX0 1 "_law_bag" (spBag K)) (c_law_take : Cg P w K mg base CX0 1 "_law_take" (spTake K)) (c_law_rows : Cg P w K mg base CX0 2 "_law_rows" (spLRows K)) (c_law_menu : Cg P w K mg base CX0 2 "_law_menu" (spMenu K))
    (c_turned : Cg P w K mg base CX0 4 "turned" (spTurned K)) (c_back_of : Cg P w K mg base CX0 4 "back_of" (spBack K)) (c_law_spots_right : Cg P w K mg base CX0 5 "_law_spots_right" (spSR K)) (c_law_trimmed_right : Cg P w K mg base CX0 6 "_law_trimmed_right" (spTR K))
    (F : FunD K "law" "law" (defArgs s_law) (defBody s_law) (defScope s_law) [] [] f fd) : FnG P w K mg base CX0 7 f fd ["_law_script"] (spLaw K) := by
  refine FnG.of F sc_law (fun vs H Q E h => ?_) (fun cdv A outer s H vs Q E hr gd h => ?_)
  · obtain ⟨a, ns, rfl, _⟩ := h
    rfl
  · obtain ⟨a, ns, rfl, hS, hn, k⟩ := h
    have hu : (A.deeper (envOfC "law" (defScope s_law) s.heap.objs.size f cdv)).units + 64 < cLine := by have := hr.un; omega
    refine ⟨_, PSs.nox (pss_cons
    (ps_set (i := 1) sc_law.nd rfl (Or.inl rfl) (pe_cg c_law_bag hr gd (by decide) (by rfl) pass0 (pa_cons (zv 0) pa_nil)))
    (pss_cons
    (ps_for PassesOwn.never rfl (pi_range1 (by rfl) T.range (pa_cons pe_int pa_nil)) (pg_name (i := 2) sc_law.nd rfl (Or.inl rfl))
      (pss_cons
        (ps_set (i := 3) sc_law.nd rfl (Or.inl rfl) (pe_cg c_law_rows hr gd (by decide) (by rfl) pass0 (pa_cons (zv 1) (pa_cons (pe_cg c_law_menu hr gd (by decide) (by rfl) pass0 (pa_cons (zv 1) pa_nil)) (pa_cons pe_int pa_nil)))))
        (pss_cons
        (ps_set (i := 4) sc_law.nd rfl (Or.inl rfl) (pe_cg c_law_rows hr gd (by decide) (by rfl) pass0 (pa_cons (zv 1) (pa_cons (pe_ix (ix_K K) (pe_lst (pa_cons pe_str (pa_cons pe_str (pa_cons pe_str (pa_cons pe_str pa_nil))))) (pe_cg c_law_take hr gd (by decide) (by rfl) pass0 (pa_cons (zv 1) (pa_cons pe_int pa_nil))) (fun _ _ => rfl)) (pa_cons pe_int pa_nil)))))
        (pss_cons
        (ps_set (i := 5) sc_law.nd rfl (Or.inl rfl) (pe_lst (pa_cons (pe_callTy (call_listK K) (by rfl) T.list (by decide +kernel) (pa_cons (zv 3) pa_nil)) (pa_cons (pe_callTy (call_listK K) (by rfl) T.list (by decide +kernel) (pa_cons (zv 4) pa_nil)) pa_nil))))
        (pss_one
        (ps_for PassesOwn.never rfl (pi_range1 (by rfl) T.range (pa_cons pe_int pa_nil)) (pg_name (i := 6) sc_law.nd rfl (Or.inl rfl))
          (pss_cons
            (ps_if (PW.pt (pw_or (pt_not (pz_val (pe_cg c_law_spots_right hr gd (by decide) (by rfl) pass0 (pa_cons (zv 3) (pa_cons (zv 6) pa_nil))))) (pw_or1 (pt_not (pz_val (pe_cg c_law_trimmed_right hr gd (by decide) (by rfl) pass0 (pa_cons (zv 4) (pa_cons (zv 6) pa_nil))))))))
              (pss_one
                (ps_ret pe_bl))
              pss_nil)
            (pss_one
            (ps_if (PW.pt (pw_or (pz_cmp (op_neK K hu) (pe_cg c_turned hr gd (by decide) (by rfl) pass0 (pa_cons (pe_cg c_turned hr gd (by decide) (by rfl) pass0 (pa_cons (zv 4) (pa_cons (zv 6) pa_nil))) (pa_cons (pe_cg c_back_of hr gd (by decide) (by rfl) pass0 (pa_cons (zv 6) pa_nil)) pa_nil))) (zv 4) (nomark _)) (pw_or1 (pz_cmp (op_neK K hu) (pe_lst (pa_cons (zv 3) (pa_cons (zv 4) pa_nil))) (zv 5) (nomark _)))))
              (pss_one
                (ps_ret pe_bl))
              pss_nil)))))))))
    (pss_one
    (ps_ret pe_bl)))), ?_⟩
    try dsimp only [cxOf, Cx.nox]
    show (tSeq _ _) _ [some (.ref a), none, none, none, none, none, none] _
    walk_at "zd"
    refine ⟨a, ns, rfl, hS, hn, fun ω H1 s1 g1 b1 => ?_⟩
    clear hS hn s1 b1
    refine for_rng ?_
    walk_at "zd"
    refine ⟨2, rfl, by decide, by decide, for_range (fun _ σ H' => Bag K H' ω ∧ ∃ x2 x3 x4 x5 x6, σ = [some (.ref a), some (.ref ω.b), x2, x3, x4, x5, x6]) ⟨g1, _, _, _, _, _, rfl⟩ ?_ ?_⟩
    rotate_left
    · rintro σ H6 ⟨g6, x2, x3, x4, x5, x6, rfl⟩
      walk_at "zd"
      exact k H6
    rintro i σ H5 hi ⟨g5, x2, x3, x4, x5, x6, rfl⟩
    clear g1
    walk_at "zd"
    refine ⟨ω, rfl, g5, fun sg H6 l1 l2 l3 g6 go6 => ?_⟩
    refine ⟨_, ω, sg, 12, inSg sgP, rfl, by decide, by decide, Wd.one g6, l1, l2, l3, fun p acc m H7 hp m1 m2 a1 a2 hrow h7 g7 go7 => ?_⟩
    obtain ⟨ys, rfl, hys⟩ := items_of (mk := V.str) (P := fun x => x.length = m ∧ x.cps.toList.all (inSg sgP) = true) fun y q => by
      obtain ⟨x, e, e1, e2⟩ := (hrow y q).is
      exact ⟨x, e, e1, e2⟩
    rw [List.length_map] at a1 a2
    have gy : Good ys ys.length m := ⟨⟨rfl, fun z q => (hys z q).1⟩, a1, by omega, m1, by omega, fun z q => (hys z q).2⟩
    have np := bag_ne g6 hp
    clear hrow l1 l2 l3 g6 go6 go7 g5
    walk_at "zd"
    refine ⟨line5 (show 4 ≤ 100000 by decide), fun p2 hp2 => ?_⟩
    refine take_at (g7.same (same_new hp2)) upd_same (bag_ne g7 hp2) rfl (by decide) (by decide) fun sb hsb H8 g8 go8 => ?_
    obtain ⟨sg2, rfl, hg2⟩ : ∃ z : Str, sb = .str z ∧ z ∈ [(".....a" : Str), ".", "..bc", ".........z"] := by
      simp only [List.mem_cons, List.not_mem_nil, or_false] at hsb
      rcases hsb with rfl | rfl | rfl | rfl <;> exact ⟨_, rfl, by simp⟩
    obtain ⟨l1, l2, l3⟩ := gr_facts sg2 hg2
    have h8 := go8 _ _ np (same_new (o := .lst [V.str ".....a", V.str ".", V.str "..bc", V.str ".........z"]) hp2 _ _ h7)
    refine ⟨_, ω, sg2, 12, inSg sgS, rfl, by decide, by decide, Wd.one g8, l1, l2, l3, fun p3 acc3 m3 H9 hp3 n1 n2 b1 b2 hrow h9 g9 go9 => ?_⟩
    obtain ⟨zs, rfl, hzs⟩ := items_of (mk := V.str) (P := fun x => x.length = m3 ∧ x.cps.toList.all (inSg sgS) = true) fun y q => by
      obtain ⟨x, e, e1, e2⟩ := (hrow y q).is
      exact ⟨x, e, e1, e2⟩
    rw [List.length_map] at b1 b2
    have cz : ∀ z ∈ zs, ∀ c ∈ z.cps.toList, c ∈ sgS.cps.toList := fun z q c mc => of_decide_eq_true (List.all_eq_true.mp (hzs z q).2 c mc)
    have gz : Pcr zs zs.length m3 := ⟨⟨⟨rfl, fun z q => (hzs z q).1⟩, b1, by omega, n1, by omega, fun z q => List.all_eq_true.mpr fun c mc => decide_eq_true (sgS_P c (cz z q c mc))⟩, cz⟩
    have h79 := go9 _ _ np h8
    clear hrow l1 l2 l3 go8 hsb hp2 g7 h7 go9 h8 hzs hys
    walk_at "zd"
    refine ⟨_, .inl (sq_of h79), fun L1 hL1 => ?_⟩
    have sA := same_new (o := .lst (ys.map V.str)) hL1
    refine ⟨_, .inl (sq_of (sA _ _ h9)), fun L2 hL2 => ⟨line5 (show 2 ≤ 100000 by decide), fun L3 hL3 => ?_⟩⟩
    have sB := same_new (o := .lst (zs.map V.str)) hL2
    have sC := same_new (o := .lst [V.ref L1, V.ref L2]) hL3
    have sAC := (sA.trans sB).trans sC
    have gB := g9.same sAC
    have e1 := (sB.trans sC) _ _ (show upd H9 L1 (.lst (ys.map V.str)) L1 = some (.lst (ys.map V.str)) from upd_same)
    have e2 := sC _ _ (show upd (upd H9 L1 (.lst (ys.map V.str))) L2 (.lst (zs.map V.str)) L2 = some (.lst (zs.map V.str)) from upd_same)
    have e3 : upd (upd (upd H9 L1 (.lst (ys.map V.str))) L2 (.lst (zs.map V.str))) L3 (.lst [V.ref L1, V.ref L2]) L3 = some (.lst [V.ref L1, V.ref L2]) := upd_same
    have f1 := sAC _ _ h79
    have f2 := sAC _ _ h9
    revert gB e1 e2 e3 f1 f2
    generalize upd (upd (upd H9 L1 (.lst (ys.map V.str))) L2 (.lst (zs.map V.str))) L3 (.lst [V.ref L1, V.ref L2]) = H0
    intro gB e1 e2 e3 f1 f2
    clear sA sB sC sAC h79 h9 hL1 hL2 hL3 g9
    refine for_rng ?_
    walk_at "zd"
    refine ⟨8, rfl, by decide, by decide, for_range (fun _ σ H' => Same H0 H' ∧ ∃ x6, σ = [some (.ref a), some (.ref ω.b), some (.int (0 + (i : Int))), some (.ref p), some (.ref p3), some (.ref L3), x6]) ⟨Same.refl _, _, rfl⟩ ?_ ?_⟩
    rotate_left
    · rintro σ H6 ⟨s6, x6, rfl⟩
      exact ⟨gB.same s6, _, _, _, _, _, rfl⟩
    rintro way σ HA hway ⟨sA, x6, rfl⟩
    have hw8 : way < 8 := hway
    walk_at "zd"
    have ew : (0 : Int) + (way : Int) = ((way : Nat) : Int) := by omega
    rw [ew]
    refine ⟨p, ys, ys.length, m, way, rfl, sq_of (sA _ _ f1), gy, hw8, fun HB sB => ?_⟩
    show if (!true) = true then _ else _
    refine iteF ?_
    have s2 := sA.trans sB
    refine ⟨p3, zs, zs.length, m3, way, rfl, sq_of (s2 _ _ f2), gz, hw8, fun HC sC => ?_⟩
    show if (!true) = true then _ else _
    refine iteF ?_
    have s3 := s2.trans sC
    have gt := gz.way way
    obtain ⟨bt1, bt2⟩ := back_then ⟨way, hw8⟩
    refine ⟨p3, zs, zs.length, m3, way, rfl, sq_of (s3 _ _ f2), gz.g.mx, gz.g.h1, gz.g.h2, gz.g.w1, gz.g.w2, gz.g.sg, hw8, fun D1 HD hD1 sD eD => ?_⟩
    refine ⟨way, rfl, hw8, fun HE sE => ?_⟩
    refine ⟨D1, _, _, _, backW way, rfl, sq_of (sE _ _ eD), gt.g.mx, gt.g.h1, gt.g.h2, gt.g.w1, gt.g.w2, gt.g.sg, bt2, fun D2 HF hD2 sF eF => ?_⟩
    rw [back_rows gz.g.mx hw8] at eF
    have s4 := ((s3.trans sD).trans sE).trans sF
    refine eqStrs (sq_of eF) (sq_of (s4 _ _ f2)) gz.g.ok gz.g.ok ?_
    have ed : not (decide (zs = zs)) = false := by rw [decide_eq_true rfl]; rfl
    rw [ed]
    refine iteF ?_
    refine ⟨line5 (show 2 ≤ 100000 by decide), fun u hu => ?_⟩
    have s5 := same_new (o := .lst [V.ref p, V.ref p3]) hu
    have s45 := s4.trans s5
    have nk : Nice 3000 3 (.list [.list (ys.map .str), .list (zs.map .str)]) := by
      refine Nice.list (R := 1100) (n := 2) (fun e me => ?_) (by show 2 * 1101 ≤ 3000; decide)
      simp only [List.mem_cons, List.not_mem_nil, or_false] at me
      rcases me with rfl | rfl
      · exact nice_rows gy
      · exact nice_rows gz.g
    refine eqTh (.lst (sq_of upd_same) (.cons (.lst (sq_of (s45 _ _ f1)) (ThA.strs ys)) (.cons (.lst (sq_of (s45 _ _ f2)) (ThA.strs zs)) .nil))) (.lst (sq_of (s45 _ _ e3)) (.cons (.lst (sq_of (s45 _ _ e1)) (ThA.strs ys)) (.cons (.lst (sq_of (s45 _ _ e2)) (ThA.strs zs)) .nil))) nk (by decide) (by simp only [PyData.hasDict, PyData.hasDictAll, nod_strs ys, nod_strs zs, Bool.or_self]) ?_
    refine iteF ?_
    exact ⟨s45, _, rfl⟩

end
theorem relI {mg : Str → Option Value} {x : Str} {i : Int} (h : ∃ t, mg x = some (.int i t)) : ∃ u, mg x = some u ∧ RelV (.int i) u := by
  obtain ⟨t, e⟩ := h
  exact ⟨_, e, t, rfl⟩
theorem relS {mg : Str → Option Value} {x z : Str} (h : ∃ t, mg x = some (.str z t)) : ∃ u, mg x = some u ∧ RelV (.str z) u := by
  obtain ⟨t, e⟩ := h
  exact ⟨_, e, t, rfl⟩
abbrev d_is_whole : He.DefD := ⟨("is_whole", none), "is_whole", "is_whole", defArgs s_is_whole, defBody s_is_whole, defScope s_is_whole, [], []⟩
abbrev d_is_from_to : He.DefD := ⟨("is_from_to", none), "is_from_to", "is_from_to", defArgs s_is_from_to, defBody s_is_from_to, defScope s_is_from_to, [], []⟩
abbrev d_is_made_of : He.DefD := ⟨("is_made_of", none), "is_made_of", "is_made_of", defArgs s_is_made_of, defBody s_is_made_of, defScope s_is_made_of, [], []⟩
abbrev d_is_spot : He.DefD := ⟨("is_spot", none), "is_spot", "is_spot", defArgs s_is_spot, defBody s_is_spot, defScope s_is_spot, [], []⟩
abbrev d_is_way : He.DefD := ⟨("is_way", none), "is_way", "is_way", defArgs s_is_way, defBody s_is_way, defScope s_is_way, [], []⟩
abbrev d_refuse_wrong : He.DefD := ⟨("refuse_wrong", none), "refuse_wrong", "refuse_wrong", defArgs s_refuse_wrong, defBody s_refuse_wrong, defScope s_refuse_wrong, [], []⟩
abbrev d_is_picture : He.DefD := ⟨("is_picture", none), "is_picture", "is_picture", defArgs s_is_picture, defBody s_is_picture, defScope s_is_picture, [], []⟩
abbrev d_is_piece : He.DefD := ⟨("is_piece", none), "is_piece", "is_piece", defArgs s_is_piece, defBody s_is_piece, defScope s_is_piece, [], []⟩
abbrev d_is_rows : He.DefD := ⟨("is_rows", none), "is_rows", "is_rows", defArgs s_is_rows, defBody s_is_rows, defScope s_is_rows, [], []⟩
abbrev d_turned : He.DefD := ⟨("turned", none), "turned", "turned", defArgs s_turned, defBody s_turned, defScope s_turned, [], []⟩
abbrev d_rows_turned : He.DefD := ⟨("rows_turned", none), "rows_turned", "rows_turned", defArgs s_rows_turned, defBody s_rows_turned, defScope s_rows_turned, [], []⟩
abbrev d_turned_right : He.DefD := ⟨("_turned_right", none), "_turned_right", "_turned_right", defArgs s_turned_right, defBody s_turned_right, defScope s_turned_right, [], []⟩
abbrev d_back_of : He.DefD := ⟨("back_of", none), "back_of", "back_of", defArgs s_back_of, defBody s_back_of, defScope s_back_of, [], []⟩
abbrev d_spots_of : He.DefD := ⟨("spots_of", none), "spots_of", "spots_of", defArgs s_spots_of, defBody s_spots_of, defScope s_spots_of, [], []⟩
abbrev d_trimmed : He.DefD := ⟨("trimmed", none), "trimmed", "trimmed", defArgs s_trimmed, defBody s_trimmed, defScope s_trimmed, [], []⟩
abbrev d_without_ground : He.DefD := ⟨("without_ground", none), "without_ground", "without_ground", defArgs s_without_ground, defBody s_without_ground, defScope s_without_ground, [], []⟩
abbrev d_show_piece : He.DefD := ⟨("show_piece", none), "show_piece", "show_piece", defArgs s_show_piece, defBody s_show_piece, defScope s_show_piece, [], []⟩
abbrev d_read_piece : He.DefD := ⟨("read_piece", none), "read_piece", "read_piece", defArgs s_read_piece, defBody s_read_piece, defScope s_read_piece, [], []⟩
abbrev d_law_bag : He.DefD := ⟨("_law_bag", none), "_law_bag", "_law_bag", defArgs s_law_bag, defBody s_law_bag, defScope s_law_bag, [], []⟩
abbrev d_law_take : He.DefD := ⟨("_law_take", none), "_law_take", "_law_take", defArgs s_law_take, defBody s_law_take, defScope s_law_take, [], []⟩
abbrev d_law_rows : He.DefD := ⟨("_law_rows", none), "_law_rows", "_law_rows", defArgs s_law_rows, defBody s_law_rows, defScope s_law_rows, [], []⟩
abbrev d_law_menu : He.DefD := ⟨("_law_menu", none), "_law_menu", "_law_menu", defArgs s_law_menu, defBody s_law_menu, defScope s_law_menu, [], []⟩
abbrev d_law_brought : He.DefD := ⟨("_law_brought", none), "_law_brought", "_law_brought", defArgs s_law_brought, defBody s_law_brought, defScope s_law_brought, [], []⟩
abbrev d_law_spots_right : He.DefD := ⟨("_law_spots_right", none), "_law_spots_right", "_law_spots_right", defArgs s_law_spots_right, defBody s_law_spots_right, defScope s_law_spots_right, [], []⟩
abbrev d_law_margins : He.DefD := ⟨("_law_margins", none), "_law_margins", "_law_margins", defArgs s_law_margins, defBody s_law_margins, defScope s_law_margins, [], []⟩
abbrev d_law_trimmed_right : He.DefD := ⟨("_law_trimmed_right", none), "_law_trimmed_right", "_law_trimmed_right", defArgs s_law_trimmed_right, defBody s_law_trimmed_right, defScope s_law_trimmed_right, [], []⟩
abbrev d_law : He.DefD := ⟨("law", none), "law", "law", defArgs s_law, defBody s_law, defScope s_law, [], []⟩
def fn : List He.DefD := ([d_is_whole, d_is_from_to, d_is_made_of, d_is_spot, d_is_way, d_refuse_wrong, d_is_picture, d_is_piece, d_is_rows, d_turned, d_rows_turned, d_turned_right, d_back_of, d_spots_of, d_trimmed, d_without_ground, d_show_piece, d_read_piece, d_law_bag, d_law_take, d_law_rows, d_law_menu, d_law_brought, d_law_spots_right, d_law_margins, d_law_trimmed_right, d_law] : List He.DefD)
def fa : List Fz := ([(fun K => He.Fa.ok K (.glo "is_whole")), (fun K => He.Fa.ok K (.glo "is_from_to")), (fun K => He.Fa.ok K (.glo "is_made_of")), (fun K => He.Fa.ok K (.glo "is_spot")), (fun K => He.Fa.ok K (.glo "is_way")), (fun K => He.Fa.ok K (.glo "refuse_wrong")), (fun K => He.Fa.ok K (.glo "is_picture")), (fun K => He.Fa.ok K (.glo "is_piece")), (fun K => He.Fa.ok K (.glo "is_rows")), (fun K => He.Fa.ok K (.glo "turned")), (fun K => He.Fa.ok K (.glo "rows_turned")), (fun K => He.Fa.ok K (.glo "_turned_right")), (fun K => He.Fa.ok K (.glo "back_of")), (fun K => He.Fa.ok K (.glo "spots_of")), (fun K => He.Fa.ok K (.glo "trimmed")), (fun K => He.Fa.ok K (.glo "without_ground")), (fun K => He.Fa.ok K (.glo "show_piece")), (fun K => He.Fa.ok K (.glo "read_piece")), (fun K => He.Fa.ok K (.glo "_law_bag")), (fun K => He.Fa.ok K (.glo "_law_take")), (fun K => He.Fa.ok K (.glo "_law_rows")), (fun K => He.Fa.ok K (.glo "_law_menu")), (fun K => He.Fa.ok K (.glo "_law_brought")), (fun K => He.Fa.ok K (.glo "_law_spots_right")), (fun K => He.Fa.ok K (.glo "_law_margins")), (fun K => He.Fa.ok K (.glo "_law_trimmed_right")), (fun K => He.Fa.ok K (.glo "law")), (fun K => He.Fa.ok K (.free "ValueError")), (fun K => He.Fa.ok K (.free "abs")), (fun K => He.Fa.ok K (.free "all"))] : List Fz) ++ ([(fun K => He.Fa.ok K (.free "bool")), (fun K => He.Fa.ok K (.free "enumerate")), (fun K => He.Fa.ok K (.free "int")), (fun K => He.Fa.ok K (.free "isinstance")), (fun K => He.Fa.ok K (.free "len")), (fun K => He.Fa.ok K (.free "list")), (fun K => He.Fa.ok K (.free "max")), (fun K => He.Fa.ok K (.free "min")), (fun K => He.Fa.ok K (.free "range")), (fun K => He.Fa.ok K (.free "sorted")), (fun K => He.Fa.ok K (.free "str")), (fun K => He.Fa.ok K (.free "zip")), (fun K => He.Fa.ok K (.str "SIGNS" ".abcdefghijklmnopqrstuvwxyz")), (fun K => He.Fa.ok K (.str "GROUND" ".")), (fun K => He.Fa.ok K (.int "FARTHEST" 1000000)), (fun K => He.Fa.ok K (.int "MOST" 32)), (fun K => He.Fa.ok K (.str "LEFT_ALONE" "_")), (fun K => He.Fa.ok K (.int "MIRRORED" 4)), excsB ["CellError", "Wrong", "NoText"] ["CellError", "NoText"], (fun K => iniB K "Wrong" ["at"])] : List Fz)
abbrev R : PySem.W.OpenRow := PySem.W.OpenLaw.row PySem.Challenge.rw_cellscript_k17_whole_turned_trimmed_laid
abbrev hk : PySem.W.Hook := hookZ 4 fa fn
def ob (s : PySem.W.SharedT) : He.AlD := obsZG 4 fa fn (HandSHeadRun.getT s)
theorem ob_eq (s : PySem.W.SharedT) : ob s = hk.obs s.abs := obsZG_eq (HandSHeadRun.getT_eq s)
theorem run (w : World) : HandSHeadRun.RunEq R (PySem.W.view R.prog [39]) hk ob 20000 ((["CellError", "Wrong", "NoText", "SIGNS", "GROUND", "FARTHEST", "is_whole", "is_from_to", "is_made_of", "is_spot", "is_way", "refuse_wrong", "MOST", "LEFT_ALONE", "MIRRORED", "is_picture", "is_piece", "is_rows", "turned", "rows_turned", "_turned_right", "back_of", "spots_of", "trimmed", "without_ground", "show_piece", "read_piece", "_law_bag", "_law_take", "_law_rows"] : List Str) ++ (["_law_menu", "_law_brought", "_law_spots_right", "_law_margins", "_law_trimmed_right"] : List Str)) w := by
  intro os
  kernel_rfl
theorem facts {P : Program} {w : World} {K : PySem.W.Frag} {h : Heap} {mg : Str → Option Value} {f : Addr} (X : K.In h) (G : h.Ns mainGlobals mg) (hfa : mg ("law" : Str) = some (.ref f)) (c : SaysZ fa fn K) :
    ∃ fd : FuncData, (∀ (s : Shared) (v : Value), BindsTo s fd ⟨[v], []⟩ [("_law_script", v)]) ∧ ∀ base : Heap, K.In base → base.Ns mainGlobals mg → FnG P w K mg base CX0 7 f fd ["_law_script"] (spLaw K) := by
  have T : Tx K mg := ⟨He.free_ok X G (SaysZ.fact c 27 (f := (fun K => He.Fa.ok K (.free "ValueError"))) rfl),
    He.free_ok X G (SaysZ.fact c 28 (f := (fun K => He.Fa.ok K (.free "abs"))) rfl),
    He.free_ok X G (SaysZ.fact c 29 (f := (fun K => He.Fa.ok K (.free "all"))) rfl),
    He.free_ok X G (SaysZ.fact c 30 (f := (fun K => He.Fa.ok K (.free "bool"))) rfl),
    He.free_ok X G (SaysZ.fact c 31 (f := (fun K => He.Fa.ok K (.free "enumerate"))) rfl),
    He.free_ok X G (SaysZ.fact c 32 (f := (fun K => He.Fa.ok K (.free "int"))) rfl),
    He.free_ok X G (SaysZ.fact c 33 (f := (fun K => He.Fa.ok K (.free "isinstance"))) rfl),
    He.free_ok X G (SaysZ.fact c 34 (f := (fun K => He.Fa.ok K (.free "len"))) rfl),
    He.free_ok X G (SaysZ.fact c 35 (f := (fun K => He.Fa.ok K (.free "list"))) rfl),
    He.free_ok X G (SaysZ.fact c 36 (f := (fun K => He.Fa.ok K (.free "max"))) rfl),
    He.free_ok X G (SaysZ.fact c 37 (f := (fun K => He.Fa.ok K (.free "min"))) rfl),
    He.free_ok X G (SaysZ.fact c 38 (f := (fun K => He.Fa.ok K (.free "range"))) rfl),
    He.free_ok X G (SaysZ.fact c 39 (f := (fun K => He.Fa.ok K (.free "sorted"))) rfl),
    He.free_ok X G (SaysZ.fact c 40 (f := (fun K => He.Fa.ok K (.free "str"))) rfl),
    He.free_ok X G (SaysZ.fact c 41 (f := (fun K => He.Fa.ok K (.free "zip"))) rfl),
    relS (He.str_ok X G (SaysZ.fact c 42 (f := (fun K => He.Fa.ok K (.str "SIGNS" ".abcdefghijklmnopqrstuvwxyz"))) rfl)),
    relS (He.str_ok X G (SaysZ.fact c 43 (f := (fun K => He.Fa.ok K (.str "GROUND" "."))) rfl)),
    relI (He.int_ok X G (SaysZ.fact c 44 (f := (fun K => He.Fa.ok K (.int "FARTHEST" 1000000))) rfl)),
    relI (He.int_ok X G (SaysZ.fact c 45 (f := (fun K => He.Fa.ok K (.int "MOST" 32))) rfl)),
    relS (He.str_ok X G (SaysZ.fact c 46 (f := (fun K => He.Fa.ok K (.str "LEFT_ALONE" "_"))) rfl)),
    relI (He.int_ok X G (SaysZ.fact c 47 (f := (fun K => He.Fa.ok K (.int "MIRRORED" 4))) rfl)),
    excs_ok X G (SaysZ.fact c 48 (f := excsB ["CellError", "Wrong", "NoText"] ["CellError", "NoText"]) rfl),
    iniB_ok (SaysZ.fact c 49 (f := (fun K => iniB K "Wrong" ["at"])) rfl)⟩
  obtain ⟨fd_law_take, F_law_take⟩ := c.def_ 19 (d := d_law_take) rfl
  obtain ⟨fd_is_made_of, F_is_made_of⟩ := c.def_ 2 (d := d_is_made_of) rfl
  obtain ⟨fd_is_rows, F_is_rows⟩ := c.def_ 8 (d := d_is_rows) rfl
  obtain ⟨fd_is_picture, F_is_picture⟩ := c.def_ 6 (d := d_is_picture) rfl
  obtain ⟨fd_is_piece, F_is_piece⟩ := c.def_ 7 (d := d_is_piece) rfl
  obtain ⟨fd_is_whole, F_is_whole⟩ := c.def_ 0 (d := d_is_whole) rfl
  obtain ⟨fd_is_from_to, F_is_from_to⟩ := c.def_ 1 (d := d_is_from_to) rfl
  obtain ⟨fd_is_spot, F_is_spot⟩ := c.def_ 3 (d := d_is_spot) rfl
  obtain ⟨fd_is_way, F_is_way⟩ := c.def_ 4 (d := d_is_way) rfl
  obtain ⟨fd_refuse_wrong, F_refuse_wrong⟩ := c.def_ 5 (d := d_refuse_wrong) rfl
  obtain ⟨fd_spots_of, F_spots_of⟩ := c.def_ 13 (d := d_spots_of) rfl
  obtain ⟨fd_law_bag, F_law_bag⟩ := c.def_ 18 (d := d_law_bag) rfl
  obtain ⟨fd_law_menu, F_law_menu⟩ := c.def_ 21 (d := d_law_menu) rfl
  obtain ⟨fd_law_rows, F_law_rows⟩ := c.def_ 20 (d := d_law_rows) rfl
  obtain ⟨fd_turned_right, F_turned_right⟩ := c.def_ 11 (d := d_turned_right) rfl
  obtain ⟨fd_rows_turned, F_rows_turned⟩ := c.def_ 10 (d := d_rows_turned) rfl
  obtain ⟨fd_turned, F_turned⟩ := c.def_ 9 (d := d_turned) rfl
  obtain ⟨fd_back_of, F_back_of⟩ := c.def_ 12 (d := d_back_of) rfl
  obtain ⟨fd_without_ground, F_without_ground⟩ := c.def_ 15 (d := d_without_ground) rfl
  obtain ⟨fd_trimmed, F_trimmed⟩ := c.def_ 14 (d := d_trimmed) rfl
  obtain ⟨fd_show_piece, F_show_piece⟩ := c.def_ 16 (d := d_show_piece) rfl
  obtain ⟨fd_read_piece, F_read_piece⟩ := c.def_ 17 (d := d_read_piece) rfl
  obtain ⟨fd_law_brought, F_law_brought⟩ := c.def_ 22 (d := d_law_brought) rfl
  obtain ⟨fd_law_spots_right, F_law_spots_right⟩ := c.def_ 23 (d := d_law_spots_right) rfl
  obtain ⟨fd_law_margins, F_law_margins⟩ := c.def_ 24 (d := d_law_margins) rfl
  obtain ⟨fd_law_trimmed_right, F_law_trimmed_right⟩ := c.def_ 25 (d := d_law_trimmed_right) rfl
  obtain ⟨fd_law, F_law⟩ := c.def_ 26 (d := d_law) rfl
  have e := hfa.symm.trans (He.glo_ok X G (SaysZ.fact c 26 (f := (fun K => He.Fa.ok K (.glo "law"))) rfl))
  cases e
  refine ⟨_, fun s v => (FunD.bindsA (ps := ["_law_script"]) F_law fun _ _ _ _ _ _ us hl => match us, hl with | [_], _ => rfl) s [v] rfl, fun base _ _ => ?_⟩
  have C_law_take : Cg P w K mg base CX0 1 "_law_take" (spTake K) := ⟨_, _, _, ok_take T  F_law_take, He.glo_ok X G (SaysZ.fact c 19 (f := (fun K => He.Fa.ok K (.glo "_law_take"))) rfl), F_law_take.kp, F_law_take.bindsN fun _ _ _ _ _ _ us hl => match us, hl with | [_, _], _ => rfl⟩
  have C_is_made_of : Cg P w K mg base CX0 1 "is_made_of" (spMade K) := ⟨_, _, _, ok_made T  F_is_made_of, He.glo_ok X G (SaysZ.fact c 2 (f := (fun K => He.Fa.ok K (.glo "is_made_of"))) rfl), F_is_made_of.kp, F_is_made_of.bindsN fun _ _ _ _ _ _ us hl => match us, hl with | [_, _], _ => rfl⟩
  have C_is_rows : Cg P w K mg base CX0 2 "is_rows" (spRows K) := ⟨_, _, _, ok_rows T C_is_made_of F_is_rows, He.glo_ok X G (SaysZ.fact c 8 (f := (fun K => He.Fa.ok K (.glo "is_rows"))) rfl), F_is_rows.kp, F_is_rows.bindsN fun _ _ _ _ _ _ us hl => match us, hl with | [_, _, _], _ => rfl⟩
  have C_is_picture : Cg P w K mg base CX0 3 "is_picture" (spPic K ".abcdefghijklmnopqrstuvwxyz") := ⟨_, _, _, ok_pic T C_is_rows F_is_picture, He.glo_ok X G (SaysZ.fact c 6 (f := (fun K => He.Fa.ok K (.glo "is_picture"))) rfl), F_is_picture.kp, F_is_picture.bindsN fun _ _ _ _ _ _ us hl => match us, hl with | [_], _ => rfl⟩
  have C_is_piece : Cg P w K mg base CX0 3 "is_piece" (spPic K ((".abcdefghijklmnopqrstuvwxyz" : Str) ++ ("_" : Str))) := ⟨_, _, _, ok_piece T C_is_rows F_is_piece, He.glo_ok X G (SaysZ.fact c 7 (f := (fun K => He.Fa.ok K (.glo "is_piece"))) rfl), F_is_piece.kp, F_is_piece.bindsN fun _ _ _ _ _ _ us hl => match us, hl with | [_], _ => rfl⟩
  have C_is_whole : Cg P w K mg base CX0 1 "is_whole" (spWhole K) := ⟨_, _, _, ok_whole T  F_is_whole, He.glo_ok X G (SaysZ.fact c 0 (f := (fun K => He.Fa.ok K (.glo "is_whole"))) rfl), F_is_whole.kp, F_is_whole.bindsN fun _ _ _ _ _ _ us hl => match us, hl with | [_], _ => rfl⟩
  have C_is_from_to : Cg P w K mg base CX0 2 "is_from_to" (spFrom K) := ⟨_, _, _, ok_from T C_is_whole F_is_from_to, He.glo_ok X G (SaysZ.fact c 1 (f := (fun K => He.Fa.ok K (.glo "is_from_to"))) rfl), F_is_from_to.kp, F_is_from_to.bindsN fun _ _ _ _ _ _ us hl => match us, hl with | [_, _, _], _ => rfl⟩
  have C_is_spot : Cg P w K mg base CX0 3 "is_spot" (spSpot K) := ⟨_, _, _, ok_spot T C_is_from_to F_is_spot, He.glo_ok X G (SaysZ.fact c 3 (f := (fun K => He.Fa.ok K (.glo "is_spot"))) rfl), F_is_spot.kp, F_is_spot.bindsN fun _ _ _ _ _ _ us hl => match us, hl with | [_], _ => rfl⟩
  have C_is_way : Cg P w K mg base CX0 3 "is_way" (spWay K) := ⟨_, _, _, ok_way T C_is_from_to F_is_way, He.glo_ok X G (SaysZ.fact c 4 (f := (fun K => He.Fa.ok K (.glo "is_way"))) rfl), F_is_way.kp, F_is_way.bindsN fun _ _ _ _ _ _ us hl => match us, hl with | [_], _ => rfl⟩
  have C_refuse_wrong : Cr P w K mg base CX0 1 "refuse_wrong" (spRef) := ⟨_, ok_refuse T  F_refuse_wrong, He.glo_ok X G (SaysZ.fact c 5 (f := (fun K => He.Fa.ok K (.glo "refuse_wrong"))) rfl), F_refuse_wrong.kp⟩
  have C_spots_of : Cg P w K mg base CX0 4 "spots_of" (spSpots K) := ⟨_, _, _, ok_spots T C_is_piece C_is_spot C_refuse_wrong F_spots_of, He.glo_ok X G (SaysZ.fact c 13 (f := (fun K => He.Fa.ok K (.glo "spots_of"))) rfl), F_spots_of.kp, F_spots_of.bindsN fun _ _ _ _ _ _ us hl => match us, hl with | [_, _, _], _ => rfl⟩
  have C_law_bag : Cg P w K mg base CX0 1 "_law_bag" (spBag K) := ⟨_, _, _, ok_bag T  F_law_bag, He.glo_ok X G (SaysZ.fact c 18 (f := (fun K => He.Fa.ok K (.glo "_law_bag"))) rfl), F_law_bag.kp, F_law_bag.bindsN fun _ _ _ _ _ _ us hl => match us, hl with | [_], _ => rfl⟩
  have C_law_menu : Cg P w K mg base CX0 2 "_law_menu" (spMenu K) := ⟨_, _, _, ok_menu T C_law_take F_law_menu, He.glo_ok X G (SaysZ.fact c 21 (f := (fun K => He.Fa.ok K (.glo "_law_menu"))) rfl), F_law_menu.kp, F_law_menu.bindsN fun _ _ _ _ _ _ us hl => match us, hl with | [_], _ => rfl⟩
  have C_law_rows : Cg P w K mg base CX0 2 "_law_rows" (spLRows K) := ⟨_, _, _, ok_lrows T C_law_take F_law_rows, He.glo_ok X G (SaysZ.fact c 20 (f := (fun K => He.Fa.ok K (.glo "_law_rows"))) rfl), F_law_rows.kp, F_law_rows.bindsN fun _ _ _ _ _ _ us hl => match us, hl with | [_, _, _], _ => rfl⟩
  have C_turned_right : Cg P w K mg base CX0 1 "_turned_right" (spRight K) := ⟨_, _, _, ok_right T  F_turned_right, He.glo_ok X G (SaysZ.fact c 11 (f := (fun K => He.Fa.ok K (.glo "_turned_right"))) rfl), F_turned_right.kp, F_turned_right.bindsN fun _ _ _ _ _ _ us hl => match us, hl with | [_], _ => rfl⟩
  have C_rows_turned : Cg P w K mg base CX0 2 "rows_turned" (spTurn K) := ⟨_, _, _, ok_rturned T C_turned_right F_rows_turned, He.glo_ok X G (SaysZ.fact c 10 (f := (fun K => He.Fa.ok K (.glo "rows_turned"))) rfl), F_rows_turned.kp, F_rows_turned.bindsN fun _ _ _ _ _ _ us hl => match us, hl with | [_, _], _ => rfl⟩
  have C_turned : Cg P w K mg base CX0 4 "turned" (spTurned K) := ⟨_, _, _, ok_turned T C_is_piece C_is_way C_refuse_wrong C_rows_turned F_turned, He.glo_ok X G (SaysZ.fact c 9 (f := (fun K => He.Fa.ok K (.glo "turned"))) rfl), F_turned.kp, F_turned.bindsN fun _ _ _ _ _ _ us hl => match us, hl with | [_, _], _ => rfl⟩
  have C_back_of : Cg P w K mg base CX0 4 "back_of" (spBack K) := ⟨_, _, _, ok_back T C_is_way C_refuse_wrong F_back_of, He.glo_ok X G (SaysZ.fact c 12 (f := (fun K => He.Fa.ok K (.glo "back_of"))) rfl), F_back_of.kp, F_back_of.bindsN fun _ _ _ _ _ _ us hl => match us, hl with | [_], _ => rfl⟩
  have C_without_ground : Cg P w K mg base CX0 1 "without_ground" (spBox K) := ⟨_, _, _, ok_ground T  F_without_ground, He.glo_ok X G (SaysZ.fact c 15 (f := (fun K => He.Fa.ok K (.glo "without_ground"))) rfl), F_without_ground.kp, F_without_ground.bindsN fun _ _ _ _ _ _ us hl => match us, hl with | [_], _ => rfl⟩
  have C_trimmed : Cg P w K mg base CX0 4 "trimmed" (spTrim K) := ⟨_, _, _, ok_trimmed T C_is_picture C_refuse_wrong C_without_ground F_trimmed, He.glo_ok X G (SaysZ.fact c 14 (f := (fun K => He.Fa.ok K (.glo "trimmed"))) rfl), F_trimmed.kp, F_trimmed.bindsN fun _ _ _ _ _ _ us hl => match us, hl with | [_], _ => rfl⟩
  have C_show_piece : Cg P w K mg base CX0 4 "show_piece" (spShow K) := ⟨_, _, _, ok_show T C_is_piece C_refuse_wrong F_show_piece, He.glo_ok X G (SaysZ.fact c 16 (f := (fun K => He.Fa.ok K (.glo "show_piece"))) rfl), F_show_piece.kp, F_show_piece.bindsN fun _ _ _ _ _ _ us hl => match us, hl with | [_], _ => rfl⟩
  have C_read_piece : Cg P w K mg base (L2.CX P w) 4 "read_piece" (spRead K) := ⟨_, _, _, ok_read T C_is_piece F_read_piece, He.glo_ok X G (SaysZ.fact c 17 (f := (fun K => He.Fa.ok K (.glo "read_piece"))) rfl), F_read_piece.kp, F_read_piece.bindsN fun _ _ _ _ _ _ us hl => match us, hl with | [_], _ => rfl⟩
  have C_law_brought : Cg P w K mg base CX0 1 "_law_brought" (spBr K) := ⟨_, _, _, ok_br T  F_law_brought, He.glo_ok X G (SaysZ.fact c 22 (f := (fun K => He.Fa.ok K (.glo "_law_brought"))) rfl), F_law_brought.kp, F_law_brought.bindsN fun _ _ _ _ _ _ us hl => match us, hl with | [_, _, _, _], _ => rfl⟩
  have C_law_spots_right : Cg P w K mg base CX0 5 "_law_spots_right" (spSR K) := ⟨_, _, _, ok_sr T C_law_brought C_spots_of C_turned C_read_piece C_show_piece F_law_spots_right, He.glo_ok X G (SaysZ.fact c 23 (f := (fun K => He.Fa.ok K (.glo "_law_spots_right"))) rfl), F_law_spots_right.kp, F_law_spots_right.bindsN fun _ _ _ _ _ _ us hl => match us, hl with | [_, _], _ => rfl⟩
  have C_law_margins : Cg P w K mg base CX0 5 "_law_margins" (spMg K) := ⟨_, _, _, ok_mg T C_trimmed F_law_margins, He.glo_ok X G (SaysZ.fact c 24 (f := (fun K => He.Fa.ok K (.glo "_law_margins"))) rfl), F_law_margins.kp, F_law_margins.bindsN fun _ _ _ _ _ _ us hl => match us, hl with | [_], _ => rfl⟩
  have C_law_trimmed_right : Cg P w K mg base CX0 6 "_law_trimmed_right" (spTR K) := ⟨_, _, _, ok_tr T C_trimmed C_turned C_law_margins F_law_trimmed_right, He.glo_ok X G (SaysZ.fact c 25 (f := (fun K => He.Fa.ok K (.glo "_law_trimmed_right"))) rfl), F_law_trimmed_right.kp, F_law_trimmed_right.bindsN fun _ _ _ _ _ _ us hl => match us, hl with | [_, _], _ => rfl⟩
  exact ok_law T C_law_bag C_law_take C_law_rows C_law_menu C_turned C_back_of C_law_spots_right C_law_trimmed_right F_law
end Lw
open PySem PySem.W PySem.Calls PyProof.Rows
theorem PySem.Challenge.cw_cellscript_k17_whole_turned_trimmed_laid_holds : PySem.Challenge.rw_cellscript_k17_whole_turned_trimmed_laid.Holds := by
  w_on; o_law
  refine HandSHeadRun.head_any (r := OpenLaw.row PySem.Challenge.rw_cellscript_k17_whole_turned_trimmed_laid) (q := view (OpenLaw.row PySem.Challenge.rw_cellscript_k17_whole_turned_trimmed_laid).prog [39]) (H := Lw.hk) (ob := Lw.ob) (M := 20000) (loose := ((["CellError", "Wrong", "NoText", "SIGNS", "GROUND", "FARTHEST", "is_whole", "is_from_to", "is_made_of", "is_spot", "is_way", "refuse_wrong", "MOST", "LEFT_ALONE", "MIRRORED", "is_picture", "is_piece", "is_rows", "turned", "rows_turned", "_turned_right", "back_of", "spots_of", "trimmed", "without_ground", "show_piece", "read_piece", "_law_bag", "_law_take", "_law_rows"] : List Str) ++ (["_law_menu", "_law_brought", "_law_spots_right", "_law_margins", "_law_trimmed_right"] : List Str))) (d := HandSHeadRun.topDef (OpenLaw.row PySem.Challenge.rw_cellscript_k17_whole_turned_trimmed_laid).prog 39) (kwd := []) Lw.ob_eq
    (by kernel_rfl) (fun s => by kernel_rfl) Lw.run (by kernel_rfl) (by kernel_rfl) (by kernel_rfl) (by rfl) (by first | assumption | decide +kernel) (by decide +kernel) ⟨rfl, rfl, rfl, rfl, rfl, by decide +kernel⟩ ?hw ?hc
  case hw => w_witness2
  case hc =>
    refine Z.law_walk (l := PySem.Challenge.rw_cellscript_k17_whole_turned_trimmed_laid) (n := 63) (k := 7) (x := "_law_script") (CX := L2.CX0) rfl (by decide) (by kernel_rfl) ⟨rfl, by decide, by decide⟩ ?F (fun _ _ _ _ z => z)
    intro w mg fa h Y G hmg0
    obtain ⟨K, KX, c⟩ := Y
    have hmg : mg ("law" : PySem.Str) = some (.ref fa) := by
      have e : (HandSHeadRun.topDef (OpenLaw.row PySem.Challenge.rw_cellscript_k17_whole_turned_trimmed_laid).prog 39).name = ("law" : PySem.Str) := by kernel_rfl
      rw [← e]
      exact hmg0
    obtain ⟨fd, hb, hF⟩ := Lw.facts (P := (PySem.Challenge.rw_cellscript_k17_whole_turned_trimmed_laid).prog) (w := w) KX G hmg c
    exact ⟨K, fd, Lw.spLaw K, KX, hb, fun H a ns hl hS => ⟨a, ns, rfl, hS, hl, fun _ => rfl⟩, hF⟩
